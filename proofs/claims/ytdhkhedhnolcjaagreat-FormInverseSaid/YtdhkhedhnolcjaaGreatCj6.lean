/- Uh, Ui, Uj, Ue, Uf, Uk, Ov, Ng, Nf, Ow, Ox, Om, Oj. -/
import Derived.Test.YtdhkhedhnolcjaaGreatCj5
set_option linter.unusedSimpArgs false
set_option linter.unusedVariables false
namespace Go.Proofs.YtdhkhedhnolcjaaGreat
open Go Go.RowKit

def AllBut (R : Nat → Oper → Prop) : List Oper → Nat → Prop
 | [], _ => True
 | [_], _ => True
 | o :: o' :: os, k => R k o ∧ AllBut R (o' :: os) (k + 1)
theorem AllBut.at {R : Nat → Oper → Prop} : ∀ {os : List Oper} {k : Nat}, AllBut R os k → ∀ (i : Nat) (o : Oper), i + 1 < os.length → os[i]? = some o → R (k + i) o
 | [], _, _, i, o, h, _ => by simp at h
 | [_], _, _, i, o, h, _ => by simp at h
 | o' :: o'' :: os, k, hh, 0, o, _, h => by simp at h; subst h; exact hh.1
 | o' :: o'' :: os, k, hh, i + 1, o, hl, h => by
  have := AllBut.at (os := o'' :: os) hh.2 i o (by simpa using hl) (by simpa using h)
  rwa [show k + 1 + i = k + (i + 1) by omega] at this
theorem zOm {bs : List (Nat × Nat × Fq)} {ks : List (Option (Nat × Fq))} {d : Nat} (hk : ks.all (·.isNone) = true) : ∀ o ∈ zAz bs ks d, o.F1 = o.F0 := by
 induction bs generalizing ks d with
 | nil => intro o ho; simp [zAz] at ho
 | cons y r ih =>
  obtain ⟨b, m, F⟩ := y
  cases ks with
  | nil => intro o ho; simp [zAz] at ho
  | cons k ks =>
   cases k with
   | some kk => simp at hk
   | none =>
    simp only [List.all_cons, Bool.and_eq_true] at hk
    intro o ho
    simp only [zAz, List.mem_cons] at ho
    rcases ho with rfl | ho
    ·rfl
    ·exact ih hk.2 o ho
section
variable {os : List Oper} {Q : Exit → Act → World → Prop} {a : Act} {p : Pq} {B B0 : Nat} {w0 : World}
def LastQ (os : List Oper) (Q : Exit → Act → World → Prop) (a : Act) (p : Pq) (B B0 : Nat) (w0 : World) (bs bs' : List (Nat × Nat × Fq)) (i : Nat) (o : Oper) : Prop :=
 os.toArray[i]? = some o → ∀ L vs w, Fr w0 bs w → p.G B B0 w0 L vs w → (∀ e ∈ o.after, Region.binds .any e = true → L e.on = true) →
  wpOp Tryz.prog os.toArray Q i (fun a' w' => ∃ v, a' = (lay os.toArray L vs os.toArray.size a).put o.dst v ∧ Fr w0 bs' w') (lay os.toArray L vs os.toArray.size a) w
theorem zF5 {id : Nat} {dr : Bool} {C : List Fq} {bs bs' : List (Nat × Nat × Fq)} {ks : List (Option (Nat × Fq))} {W : World} {o : Oper} (k : Nat) (hk : os.length = k + 1) (ho : os[k]? = some o) (E : Fr w0 bs W) (hok : okB os.length bs.length ks [] = true) (hn : ks.all (·.isNone) = true) (hm : Tryz.prog.follows .mixedOrders = true) (ha : zBd (os.map (·.dst)) = true) (hb : zDz os 0 = true)
  (hdep : (List.range k).all (zBk os 9 k) = true)
  (hs : (plq C bs ks [] os.length).Ok w0.heap.size W.heap.size → AllBut (zAr os Q a (plq C bs ks [] os.length) w0.heap.size W.heap.size w0) os 0)
  (hl : (plq C bs ks [] os.length).Ok w0.heap.size W.heap.size → LastQ os Q a (plq C bs ks [] os.length) w0.heap.size W.heap.size w0 bs bs' k o)
  (hf : ∀ L vs W', (∀ j, j < os.length → L j = true) → Fr w0 bs' W' → Q .normal (lay os.toArray L vs os.length a) W') : (Code.region id os.toArray dr).wp Tryz.prog Q a W := by
 simp only [okB, Bool.and_eq_true, beq_iff_eq] at hok
 obtain ⟨⟨⟨⟨⟨k1, k2⟩, k3⟩, k4⟩, k5⟩, k6⟩ := hok
 have n2 := zG8 k2
 have hp : (plq C bs ks [] os.length).Ok w0.heap.size W.heap.size := by
  refine ⟨fun o ho => ?_, zK1 E.apart, zK0 n2, fun n hn => by simp [plq] at hn, fun n hn => by simp [plq] at hn, E.below.size⟩
  have h := E.boxes _ (zFw ho)
  exact ⟨h.1, h.2.lt⟩
 have h0 : ∀ W', Below W.heap.size W W' → W'.heap.size = W.heap.size → (plq C bs ks [] os.length).G w0.heap.size W.heap.size w0 (fun _ => false) (fun _ => undef) W' := fun W' hW hsz =>
  ⟨E.below.trans (hW.mono E.below.size), by omega, fun _ h => (by cases h), fun o ho => by simpa using (E.boxes _ (zFw ho)).2.mono hW, fun _ _ h => (by cases h), fun _ _ _ _ _ h => (by cases h)⟩
 have hs' := hs hp
 have hl' := hl hp
 let I : (Nat → Bool) → (Nat → Value) → World → Prop := fun L vs w => (L k = true → Fr w0 bs' w) ∧ (L k = false → (plq C bs ks [] os.length).G w0.heap.size W.heap.size w0 L vs w)
 have hstep : ∀ i o', os.toArray[i]? = some o' → ∀ L vs w, I L vs w → L i = false → (∀ e ∈ o'.after, Region.binds .any e = true → L e.on = true) → zCz os.toArray L →
   wpOp Tryz.prog os.toArray Q i (fun a' w' => ∃ v, a' = (lay os.toArray L vs os.toArray.size a).put o'.dst v ∧ I (up L i true) (up vs i v) w') (lay os.toArray L vs os.toArray.size a) w := by
  intro i o' ho' L vs w hI hL hd hc
  have hio : os[i]? = some o' := by simpa using ho'
  have hlt : i < os.length := (List.getElem?_eq_some_iff.1 hio).1
  by_cases hik : i = k
  ·subst hik
   obtain rfl : o = o' := by rw [ho] at hio; exact Option.some.inj hio
   have hG := hI.2 hL
   refine wpOp_mono ?_ (hl' ho' L vs w (fr_of_G E hG k1 (zOm hn)) hG hd)
   rintro a' w' ⟨v, e, h2⟩
   exact ⟨v, e, fun _ => h2, fun h3 => absurd h3 (by rw [zBt]; simp)⟩
  ·have hLk : L k = false := zEr hc (List.all_eq_true.1 hdep i (List.mem_range.2 (by omega))) hL
   have hst := hs'.at i o' (by omega) hio
   rw [Nat.zero_add] at hst
   refine wpOp_mono ?_ (hst ho' L vs w (hI.2 hLk) hL hd hc)
   rintro a' w' ⟨v, e, h2⟩
   exact ⟨v, e, fun h3 => absurd h3 (by rw [zAo _ _ (by omega), hLk]; simp), fun _ => h2⟩
 have hend : ∀ L vs w, (∀ j, j < os.toArray.size → L j = true) → I L vs w → Q .normal (lay os.toArray L vs os.toArray.size a) w := by
  intro L vs w hL hI
  have hL' : ∀ j, j < os.length → L j = true := by simpa using hL
  have := hf L vs w hL' (hI.1 (hL' k (by omega)))
  simpa using this
 cases dr with
 | true => exact zJi hm (zEl ha) (zFl hb) I ⟨fun h => by simp at h, fun _ => h0 W.drew (Below.refl _ _).drew rfl⟩ hstep hend
 | false => exact zL4 (zEl ha) (zFl hb) I ⟨fun h => by simp at h, fun _ => h0 W (Below.refl _ _) rfl⟩ hstep hend
variable {i s : Nat} {d : Option Tmp} {ty : TypeId} {ps : String} {af : Array Edge} {gd : Option (Nat × Bool)}
theorem zLg {f : FuncId} {xs : Array Operand} {ts : Array TypeId} {bs bs' : List (Nat × Nat × Fq)} (hen : ∀ args w, (callFunc f args).run Tryz.prog w = .ok (.enter f args) w) (hg : GdQ os a p B B0 w0 af gd)
  (hr : ∀ L vs w, Fr w0 bs w → p.G B B0 w0 L vs w → (∀ e ∈ af, Region.binds .any e = true → L e.on = true) → ∃ args, xs.map (lay os.toArray L vs os.toArray.size a).eval = args ∧ Calls Tryz.prog f args w fun e w' => ∃ v', e = .returned v' ∧ Fr w0 bs' w') :
  LastQ os Q a p B B0 w0 bs bs' i { dst := d, op := .call { callee := .value (.func f), args := xs, argTypes := ts }, type := ty, pos := ps, after := af, guard := gd } := by
 intro hio L vs w hE hG hd
 refine wpOp_step hio fun K' hK => ?_
 obtain ⟨args, hx, hC⟩ := hr L vs w hE hG hd
 rw [if_pos (zJh (o := { dst := d, op := .call { callee := .value (.func f), args := xs, argTypes := ts }, type := ty, pos := ps, after := af, guard := gd }) hg hG hd)]
 have e : (execOp (lay os.toArray L vs os.toArray.size a).eval ({ dst := d, op := .call { callee := .value (.func f), args := xs, argTypes := ts }, type := ty, pos := ps, after := af, guard := gd } : Oper)).run Tryz.prog w = (.ok (.enter f args) w) := by
  have hf : (lay os.toArray L vs os.toArray.size a).eval (.func f) = .func (.func f) #[] #[] := rfl
  generalize (lay os.toArray L vs os.toArray.size a).eval = ρ at hx hf
  simp [execOp, go_sem, hx, hf, hen]
 unfold Oper.wp
 rw [e]
 refine hC.mono ?_
 rintro e' w' ⟨v', rfl, h⟩
 exact hK _ _ ⟨_, rfl, h⟩
theorem zI1 {x : Operand} {f : FuncId} {ts : Array TypeId} {bs bs' : List (Nat × Nat × Fq)} {b : Nat} (hen : ∀ args w, (callFunc f args).run Tryz.prog w = .ok (.enter f args) w)
  (hx : SrcQ os a p B B0 w0 af x fun v _ => v = .pointer (some ⟨b, 0, none⟩)) (hg : GdQ os a p B B0 w0 af gd) (hC : ∀ w, Fr w0 bs w → Calls Tryz.prog f #[.pointer (some ⟨b, 0, none⟩)] w fun e w' => ∃ v', e = .returned v' ∧ Fr w0 bs' w') :
  LastQ os Q a p B B0 w0 bs bs' i { dst := d, op := .call { callee := .value (.func f), args := #[x], argTypes := ts }, type := ty, pos := ps, after := af, guard := gd } :=
 zLg hen hg fun L vs w hE hG hd => ⟨#[_], by
  have e : (lay os.toArray L vs os.toArray.size a).eval x = .pointer (some ⟨b, 0, none⟩) := hx L vs w hG hd
  simp only [List.map_toArray, List.map_cons, List.map_nil, e], hC w hE⟩
theorem zLh {x y : Operand} {G : Value → World → Prop} {f : FuncId} {ts : Array TypeId} {bs bs' : List (Nat × Nat × Fq)} {b : Nat} (hen : ∀ args w, (callFunc f args).run Tryz.prog w = .ok (.enter f args) w)
  (hx : SrcQ os a p B B0 w0 af x fun v _ => v = .pointer (some ⟨b, 0, none⟩)) (hy : SrcQ os a p B B0 w0 af y G) (hg : GdQ os a p B B0 w0 af gd) (hC : ∀ v w, Fr w0 bs w → G v w → Calls Tryz.prog f #[.pointer (some ⟨b, 0, none⟩), v] w fun e w' => ∃ v', e = .returned v' ∧ Fr w0 bs' w') :
  LastQ os Q a p B B0 w0 bs bs' i { dst := d, op := .call { callee := .value (.func f), args := #[x, y], argTypes := ts }, type := ty, pos := ps, after := af, guard := gd } :=
 zLg hen hg fun L vs w hE hG hd => ⟨#[_, _], by
  have e : (lay os.toArray L vs os.toArray.size a).eval x = .pointer (some ⟨b, 0, none⟩) := hx L vs w hG hd
  simp only [List.map_toArray, List.map_cons, List.map_nil, e], hC _ w hE (hy L vs w hG hd)⟩
end
theorem zJd : zCx 83 8 = true := by kernel_rfl
theorem zFq (w : World) : Fits w [.n 0, .n 0, .n 0, .n 0] [.bool false, .slice none 0 0, .bool false, .slice none 0 0, .bool false, .slice none 0 0, .bool false, .slice none 0 0] := ⟨_, _, _, rfl, Num.zero w, _, _, _, rfl, Num.zero w, _, _, _, rfl, Num.zero w, _, _, _, rfl, Num.zero w, rfl⟩
theorem zOc (w : World) : (Fq.st [.n 0, .n 0, .n 0, .n 0]).P (.agg ([.bool false, .slice none 0 0, .bool false, .slice none 0 0, .bool false, .slice none 0 0, .bool false, .slice none 0 0] : List Value).toArray) w := ⟨_, rfl, zFq w⟩
theorem zLk {d : Option Tmp} {ty : TypeId} {ps : String} {af : Array Edge} (ρ : Operand → Value) (w : World) : (execOp ρ { dst := d, op := .alloc 83, type := ty, pos := ps, after := af, guard := none }).run Tryz.prog w = .ok (.value (.pointer (some ⟨w.heap.size, 0, none⟩))) (w.alloc (.cells [.bool false, .slice none 0 0, .bool false, .slice none 0 0, .bool false, .slice none 0 0, .bool false, .slice none 0 0].toArray 83)) := by
 simp [execOp, go_sem]
theorem zPt : zeroB 83 [.bool false, .slice none 0 0, .bool false, .slice none 0 0, .bool false, .slice none 0 0, .bool false, .slice none 0 0] := by show (Tryz.prog.info? 83).map (·.zero) = some (some (.agg _)); kernel_rfl
section
variable {os : List Oper} {Q : Exit → Act → World → Prop} {a : Act} {p : Pq} {B B0 : Nat} {w0 : World}
variable {i s : Nat} {d : Option Tmp} {ty : TypeId} {ps : String} {af : Array Edge} {gd : Option (Nat × Bool)}
theorem zOt {x0 : Operand} {z0_0 : Int} {z0_1 : Int} {x1 : Operand} {z1_0 : Int} {z1_1 : Int} (hp : p.Ok B B0) (hF : p.Free i) (hg : GdQ os a p B B0 w0 af gd) (h0 : SrcQ os a p B B0 w0 af x0 (Fq.st [.n z0_0, .n z0_1]).P) (h1 : SrcQ os a p B B0 w0 af x1 (Fq.st [.n z1_0, .n z1_1]).P) (hC : ∀ v w, (Fq.st [.n z0_0, .n z0_1, .n z1_0, .n z1_1]).P v w → (p.c i).P v w) :
  zAr os Q a p B B0 w0 i { dst := d, op := .build 83 #[(0, x0), (1, x1)], type := ty, pos := ps, after := af, guard := gd } := by
 refine zBs hp hF hg fun L vs w hG hL hc hd => ?_
 have g0 := h0 L vs w hG hd
 obtain ⟨_, e0, _, _, _, rfl, a0_n0, _, _, _, rfl, a0_n1, rfl⟩ := g0
 obtain ⟨n0_0, ao0_0, k0_0, c0_0, e0_0⟩ := a0_n0.parts
 have m0_0 := a0_n0
 rw [e0_0] at m0_0
 obtain ⟨n0_1, ao0_1, k0_1, c0_1, e0_1⟩ := a0_n1.parts
 have m0_1 := a0_n1
 rw [e0_1] at m0_1
 injection e0_0 with f0_0
 have f0_0 := congrArg Array.toList f0_0
 simp at f0_0
 obtain ⟨rfl, rfl⟩ := f0_0
 injection e0_1 with f0_1
 have f0_1 := congrArg Array.toList f0_1
 simp at f0_1
 obtain ⟨rfl, rfl⟩ := f0_1
 have g1 := h1 L vs w hG hd
 obtain ⟨_, e1, _, _, _, rfl, a1_n0, _, _, _, rfl, a1_n1, rfl⟩ := g1
 obtain ⟨n1_0, ao1_0, k1_0, c1_0, e1_0⟩ := a1_n0.parts
 have m1_0 := a1_n0
 rw [e1_0] at m1_0
 obtain ⟨n1_1, ao1_1, k1_1, c1_1, e1_1⟩ := a1_n1.parts
 have m1_1 := a1_n1
 rw [e1_1] at m1_1
 injection e1_0 with f1_0
 have f1_0 := congrArg Array.toList f1_0
 simp at f1_0
 obtain ⟨rfl, rfl⟩ := f1_0
 injection e1_1 with f1_1
 have f1_1 := congrArg Array.toList f1_1
 simp at f1_1
 obtain ⟨rfl, rfl⟩ := f1_1
 refine ⟨.agg #[.bool n0_0, .slice ao0_0 k0_0 c0_0, .bool n0_1, .slice ao0_1 k0_1 c0_1, .bool n1_0, .slice ao1_0 k1_0 c1_0, .bool n1_1, .slice ao1_1 k1_1 c1_1], ?_, hC _ _ ⟨_, rfl, _, _, _, rfl, m0_0, _, _, _, rfl, m0_1, _, _, _, rfl, m1_0, _, _, _, rfl, m1_1, rfl⟩⟩
 generalize (lay os.toArray L vs os.toArray.size a).eval = ρ at e0 e1
 simp [execOp, go_sem, e0, e1]
theorem zLf {x0 : Operand} {z0 : Int} {x1 : Operand} {z1 : Int} (hp : p.Ok B B0) (hF : p.Free i) (hg : GdQ os a p B B0 w0 af gd) (h0 : SrcQ os a p B B0 w0 af x0 fun v w => Num w v z0) (h1 : SrcQ os a p B B0 w0 af x1 fun v w => Num w v z1) (hC : ∀ v w, (Fq.st [.n z0, .n z1]).P v w → (p.c i).P v w) :
  zAr os Q a p B B0 w0 i { dst := d, op := .build 82 #[(0, x0), (1, x1)], type := ty, pos := ps, after := af, guard := gd } := by
 refine zBs hp hF hg fun L vs w hG hL hc hd => ?_
 have g0 := h0 L vs w hG hd
 obtain ⟨n0, ao0, k0, c0, e0⟩ := g0.parts
 have m0 : Num w (.agg #[.bool n0, .slice ao0 k0 c0]) z0 := by rw [← e0]; exact g0
 have g1 := h1 L vs w hG hd
 obtain ⟨n1, ao1, k1, c1, e1⟩ := g1.parts
 have m1 : Num w (.agg #[.bool n1, .slice ao1 k1 c1]) z1 := by rw [← e1]; exact g1
 refine ⟨.agg #[.bool n0, .slice ao0 k0 c0, .bool n1, .slice ao1 k1 c1], ?_, hC _ _ ⟨_, rfl, _, _, _, rfl, m0, _, _, _, rfl, m1, rfl⟩⟩
 generalize (lay os.toArray L vs os.toArray.size a).eval = ρ at e0 e1
 simp [execOp, go_sem, e0, e1]
end
set_option maxRecDepth 100000 in
set_option maxHeartbeats 4000000 in
theorem exPRows {w : World} {v : Value} {x1 x2 x3 x4 : Int} (h : (Fq.st [.n x1, .n x2, .n x3, .n x4]).P v w) (hx1 : ab x1 < pw 60) (hx2 : ab x2 < pw 60) (hx3 : ab x3 < pw 60) (hx4 : ab x4 < pw 60) :
  Calls Tryz.prog 71 #[v] w fun e w' => ∃ v', e = .returned v' ∧ Below w.heap.size w w' ∧ (Fq.st [.n x1, .n x2, .n x3, .n x4]).P v' w' := by
 replace hx1 := hidd hx1
 replace hx2 := hidd hx2
 replace hx3 := hidd hx3
 replace hx4 := hidd hx4
 obtain ⟨_, rfl, hf0⟩ := h
 have hF0 := hf0
 obtain ⟨y0_p0, y0_q0, _, rfl, _y0_n0, y0_p1, y0_q1, _, rfl, _y0_n1, y0_p2, y0_q2, _, rfl, _y0_n2, y0_p3, y0_q3, _, rfl, _y0_n3, rfl⟩ := hf0
 obtain ⟨w1, b1, hw1, hb1, hs1, E⟩ := gS w 36 hF0
 obtain ⟨w2, b2, hw2, hb2, hs2, E⟩ := fO E hs1 83 zFq
 go_enter Tryz.func71, Tryz.ntmps71
 go_upto_region 1 with (fail)
 rw [← hw1]
 rw [← hw2]
 rw [← hb2]
 rw [← hb1]
 clear hw1 hw2 hb1 hb2 hs2 hs1
 refine rg [ip b1 0, Fq.num x1, ip b1 2, Fq.num x2, Fq.st [.n x1, .n x2], ip b1 4, Fq.num x3, ip b1 6, Fq.num x4, Fq.st [.n x3, .n x4], Fq.st [.n x1, .n x2, .n x3, .n x4], Fq.any] [some (11, Fq.st [.n x1, .n x2, .n x3, .n x4]), none] [] E (fun hp => ⟨?_, ?_, ?_, ?_, ?_, ?_, ?_, ?_, ?_, ?_, ?_, ?_, tv⟩) ?_
 ·exact qa b1 0 0 hp (sqo 1)
 ·exact lN 0 2 hp (mq 1 rfl) zAc (sqi 0)
 ·exact qa b1 0 2 hp (sqo 1)
 ·exact lN 2 2 hp (mq 1 rfl) zAc (sqi 2)
 ·exact zLf (z0 := x1) (z1 := x2) hp fo tv (sqi 1) (sqi 3) (fun v w h => h)
 ·exact qa b1 0 4 hp (sqo 1)
 ·exact lN 4 2 hp (mq 1 rfl) zAc (sqi 5)
 ·exact qa b1 0 6 hp (sqo 1)
 ·exact lN 6 2 hp (mq 1 rfl) zAc (sqi 7)
 ·exact zLf (z0 := x3) (z1 := x4) hp fo tv (sqi 6) (sqi 8) (fun v w h => h)
 ·exact zOt (z0_0 := x1) (z0_1 := x2) (z1_0 := x3) (z1_1 := x4) hp fo tv (sqi 4) (sqi 9) (fun v w h => h)
 ·exact sO 0 10 hp (mq 0 rfl) zJd (sqo 2)
 intro L vs w3 nb hL hC hn E3
 have e0 := wXi hC 0
 have e2 := wXi hC 2
 have e5 := wXi hC 5
 have e7 := wXi hC 7
 have E := E3; try simp only [LM, zAd] at E
 rw [zAe hL]
 simp only [SP, Nat.zero_add, Nat.reduceAdd]
 rw [e0, e2, e5, e7]
 generalize vs 1 = u3_1
 generalize vs 3 = u3_3
 generalize vs 4 = u3_4
 generalize vs 6 = u3_6
 generalize vs 8 = u3_8
 generalize vs 9 = u3_9
 generalize vs 10 = u3_10
 clear e0 e2 e5 e7 hC hn E3 hL vs L nb
 obtain ⟨_, _, hc0, hf0⟩ := zBm (E.box 0 rfl)
 have hP0 := hf0
 obtain ⟨r0_p0, r0_q0, _, rfl, _r0_n0, r0_p1, r0_q1, _, rfl, _r0_n1, r0_p2, r0_q2, _, rfl, _r0_n2, r0_p3, r0_q3, _, rfl, _r0_n3, rfl⟩ := hf0
 have c0_0 := hc0 0 (by simp)
 have c0_1 := hc0 1 (by simp)
 have c0_2 := hc0 2 (by simp)
 have c0_3 := hc0 3 (by simp)
 have c0_4 := hc0 4 (by simp)
 have c0_5 := hc0 5 (by simp)
 have c0_6 := hc0 6 (by simp)
 have c0_7 := hc0 7 (by simp)
 simp only [List.getD_cons_zero, List.getD_cons_succ] at c0_0 c0_1 c0_2 c0_3 c0_4 c0_5 c0_6 c0_7
 clear hc0
 clear hx1 hx2 hx3 hx4
 go_wp2
 refine bodyPost_ret (v := .agg #[r0_p0, r0_q0, r0_p1, r0_q1, r0_p2, r0_q2, r0_p3, r0_q3]) ?_ rfl ⟨_, rfl, E.below, ⟨_, rfl, hP0⟩⟩
 simp [results, Tryz.results71, go_sem, c0_0, c0_1, c0_2, c0_3, c0_4, c0_5, c0_6, c0_7]

set_option maxRecDepth 100000 in
set_option maxHeartbeats 4000000 in
theorem zIc {w : World} {v v' : Value} {x1 x2 x3 x4 y1 y2 y3 y4 : Int} (h : (Fq.st [.n x1, .n x2, .n x3, .n x4]).P v w) (h' : (Fq.st [.n y1, .n y2, .n y3, .n y4]).P v' w) (hx1 : ab x1 < pw 60) (hx2 : ab x2 < pw 60) (hx3 : ab x3 < pw 60) (hx4 : ab x4 < pw 60) (hy1 : ab y1 < pw 60) (hy2 : ab y2 < pw 60) (hy3 : ab y3 < pw 60) (hy4 : ab y4 < pw 60) :
  Calls Tryz.prog 31 #[v, v'] w fun e w' => ∃ v', e = .returned v' ∧ Below w.heap.size w w' ∧ (Fq.st [.n ((x1 * y1) + (x2 * y3)), .n ((x1 * y2) + (x2 * y4)), .n ((x3 * y1) + (x4 * y3)), .n ((x3 * y2) + (x4 * y4))]).P v' w' := by
 replace hx1 := hidd hx1
 replace hx2 := hidd hx2
 replace hx3 := hidd hx3
 replace hx4 := hidd hx4
 replace hy1 := hidd hy1
 replace hy2 := hidd hy2
 replace hy3 := hidd hy3
 replace hy4 := hidd hy4
 obtain ⟨_, rfl, hf0⟩ := h
 have hF0 := hf0
 obtain ⟨y0_p0, y0_q0, _, rfl, _y0_n0, y0_p1, y0_q1, _, rfl, _y0_n1, y0_p2, y0_q2, _, rfl, _y0_n2, y0_p3, y0_q3, _, rfl, _y0_n3, rfl⟩ := hf0
 obtain ⟨_, rfl, hf1⟩ := h'
 have hF1 := hf1
 obtain ⟨y1_p0, y1_q0, _, rfl, _y1_n0, y1_p1, y1_q1, _, rfl, _y1_n1, y1_p2, y1_q2, _, rfl, _y1_n2, y1_p3, y1_q3, _, rfl, _y1_n3, rfl⟩ := hf1
 obtain ⟨w1, b1, hw1, hb1, hs1, E⟩ := gS w 36 hF0
 obtain ⟨w2, b2, hw2, hb2, hs2, E⟩ := fS E hs1 36 hF1
 obtain ⟨w3, b3, hw3, hb3, hs3, E⟩ := fO E hs2 36 zB5
 go_enter Tryz.func31, Tryz.ntmps31
 go_upto_region 1 with (fail)
 rw [← hw1]
 rw [← hw2]
 rw [← hw3]
 rw [← hb3]
 rw [← hb2]
 rw [← hb1]
 clear hw1 hw2 hw3 hb1 hb2 hb3 hs3 hs1 hs2
 refine rg [Fq.st [.n x1, .n x2, .n x3, .n x4], Fq.st [.n x1, .n x2, .n x3, .n x4], Fq.st [.n y1, .n y2, .n y3, .n y4], Fq.st [.n y1, .n y2, .n y3, .n y4], Fq.any, Fq.any, Fq.any, Fq.any] N3 [⟨4, 6, 8, Fq.st [.n 0, .n 0, .n 0, .n 0], Fq.st [.n x1, .n x2, .n x3, .n x4], none⟩, ⟨5, 7, 8, Fq.st [.n 0, .n 0, .n 0, .n 0], Fq.st [.n y1, .n y2, .n y3, .n y4], none⟩] E (fun hp => ⟨?_, ?_, ?_, ?_, ?_, ?_, ?_, ?_, tv⟩) ?_
 ·exact lS 0 8 hp (mq 2 rfl) zCw (sqo 2)
 ·exact wXa (Fq.st [.n x1, .n x2, .n x3, .n x4]) hp zJ3 (sqi 0) fun v w h => exPRows h (Int.lt_of_lt_of_le hx1.out (zAb (by omega))) (Int.lt_of_lt_of_le hx2.out (zAb (by omega))) (Int.lt_of_lt_of_le hx3.out (zAb (by omega))) (Int.lt_of_lt_of_le hx4.out (zAb (by omega)))
 ·exact lS 0 8 hp (mq 1 rfl) zCw (sqo 3)
 ·exact wXa (Fq.st [.n y1, .n y2, .n y3, .n y4]) hp zJ3 (sqi 2) fun v w h => exPRows h (Int.lt_of_lt_of_le hy1.out (zAb (by omega))) (Int.lt_of_lt_of_le hy2.out (zAb (by omega))) (Int.lt_of_lt_of_le hy3.out (zAb (by omega))) (Int.lt_of_lt_of_le hy4.out (zAb (by omega)))
 ·exact aS hp (mq 0 rfl) zFq zLk
 ·exact aS hp (mq 1 rfl) zFq zLk
 ·exact sS 1 hp (mq 0 rfl) zJd
 ·exact sS 3 hp (mq 1 rfl) zJd
 intro L vs w4 nb hL hC hn E4
 have e4 : vs 4 = .pointer (some ⟨nb 4, 0, none⟩) := hn _ (mq 0 rfl)
 have e5 : vs 5 = .pointer (some ⟨nb 5, 0, none⟩) := hn _ (mq 1 rfl)
 have E := E4; try simp only [LM, zAd] at E
 rw [zAe hL]
 simp only [SP, Nat.zero_add, Nat.reduceAdd]
 rw [e4, e5]
 generalize nb 4 = b4_4 at E ⊢
 generalize nb 5 = b4_5 at E ⊢
 generalize vs 0 = u4_0
 generalize vs 1 = u4_1
 generalize vs 2 = u4_2
 generalize vs 3 = u4_3
 clear e4 e5 hC hn E4 hL vs L nb
 go_upto_region 2 with (fail)
 refine zO7 zPt ?_
 obtain ⟨w5, b5, hw5, hb5, hs5, E5⟩ := zDf E rfl (F := Fq.st [.n 0, .n 0, .n 0, .n 0]) (us := [.bool false, .slice none 0 0, .bool false, .slice none 0 0, .bool false, .slice none 0 0, .bool false, .slice none 0 0]) 83 rfl (by simp) (Fits.tame (zFq w)) (zOc _)
 rw [← hw5, ← hb5]
 clear hw5 hb5 hs5 E
 have E := E5; try simp only [LM, zAd] at E
 clear E5
 simp only [Act.put, List.setIfInBounds_toArray, List.set_cons_succ, List.set_cons_zero]
 have B6 : Hid (ab ((x1 * y1)) < pw 120) := zAt hx1.out hy1.out (by omega)
 have B7 : Hid (ab ((x2 * y3)) < pw 120) := zAt hx2.out hy3.out (by omega)
 have B8 : Hid (ab (((x1 * y1) + (x2 * y3))) < pw 121) := zA5 B6.out B7.out (by omega) (by omega)
 have B9 : Hid (ab ((x1 * y2)) < pw 120) := zAt hx1.out hy2.out (by omega)
 have B10 : Hid (ab ((x2 * y4)) < pw 120) := zAt hx2.out hy4.out (by omega)
 have B11 : Hid (ab (((x1 * y2) + (x2 * y4))) < pw 121) := zA5 B9.out B10.out (by omega) (by omega)
 have B12 : Hid (ab ((x3 * y1)) < pw 120) := zAt hx3.out hy1.out (by omega)
 have B13 : Hid (ab ((x4 * y3)) < pw 120) := zAt hx4.out hy3.out (by omega)
 have B14 : Hid (ab (((x3 * y1) + (x4 * y3))) < pw 121) := zA5 B12.out B13.out (by omega) (by omega)
 have B15 : Hid (ab ((x3 * y2)) < pw 120) := zAt hx3.out hy2.out (by omega)
 have B16 : Hid (ab ((x4 * y4)) < pw 120) := zAt hx4.out hy4.out (by omega)
 have B17 : Hid (ab (((x3 * y2) + (x4 * y4))) < pw 121) := zA5 B15.out B16.out (by omega) (by omega)
 have HE := hidd E
 clear E
 obtain ⟨W0, rfl⟩ : ∃ W0, W0 = w5 := ⟨_, rfl⟩
 go_wp2_with (fail)
 go_loopw [14] (fun vi W => (vi = .int .i64 0 ∧ Fr w [(b5, 8, Fq.st [.n 0, .n 0, .n 0, .n 0]), (b4_4, 8, Fq.st [.n x1, .n x2, .n x3, .n x4]), (b4_5, 8, Fq.st [.n y1, .n y2, .n y3, .n y4]), (b3, 8, Fq.st [.n 0, .n 0, .n 0, .n 0]), (b2, 8, Fq.st [.n y1, .n y2, .n y3, .n y4]), (b1, 8, Fq.st [.n x1, .n x2, .n x3, .n x4])] W) ∨ (vi = .int .i64 1 ∧ Fr w [(b5, 8, Fq.st [.n ((x1 * y1) + (x2 * y3)), .n ((x1 * y2) + (x2 * y4)), .n 0, .n 0]), (b4_4, 8, Fq.st [.n x1, .n x2, .n x3, .n x4]), (b4_5, 8, Fq.st [.n y1, .n y2, .n y3, .n y4]), (b3, 8, Fq.st [.n 0, .n 0, .n 0, .n 0]), (b2, 8, Fq.st [.n y1, .n y2, .n y3, .n y4]), (b1, 8, Fq.st [.n x1, .n x2, .n x3, .n x4])] W) ∨ (vi = .int .i64 2 ∧ Fr w [(b5, 8, Fq.st [.n ((x1 * y1) + (x2 * y3)), .n ((x1 * y2) + (x2 * y4)), .n ((x3 * y1) + (x4 * y3)), .n ((x3 * y2) + (x4 * y4))]), (b4_4, 8, Fq.st [.n x1, .n x2, .n x3, .n x4]), (b4_5, 8, Fq.st [.n y1, .n y2, .n y3, .n y4]), (b3, 8, Fq.st [.n 0, .n 0, .n 0, .n 0]), (b2, 8, Fq.st [.n y1, .n y2, .n y3, .n y4]), (b1, 8, Fq.st [.n x1, .n x2, .n x3, .n x4])] W)) (fun vi _ => (2 - intOf vi).toNat)
 case atStart => exact .inl ⟨rfl, HE.out⟩
 case round =>
  clear HE
  obtain ⟨V2, rfl⟩ : ∃ V2, V2 = wr := ⟨_, rfl⟩
  rcases hrel with ⟨rfl, E⟩ | ⟨rfl, E⟩ | ⟨rfl, E⟩
  ·go_upto_region 4 with (fail)
   refine rg [yT] N6 [] E (fun hp => ⟨?_, tv⟩) ?_
   ·exact zAf (F := fun v _ => v = .int .i64 0) hp fo tv (sqo 14) (fun ρ w hc h => ⟨.bool true, by simp [execOp, go_sem, h, hc], rfl⟩)
   intro L vs w18 nb hL hC hn E18
   have e0 := wXi hC 0
   have E := E18; try simp only [LM, zAd] at E
   rw [zAe hL]
   simp only [SP, Nat.zero_add, Nat.reduceAdd]
   rw [e0]
   clear e0 hC hn E18 hL vs L nb
   go_upto_region 5 with (fail)
   refine rg [Fq.is (.int .i64 0), Fq.is (.int .i64 0)] N6 [] E (fun hp => ⟨?_, ?_, tv⟩) ?_
   ·exact zAa hp fo tv (sqo 14)
   ·exact zAh hp fo tv (sqi 0)
   intro L vs w19 nb hL hC hn E19
   have e0 := wXi hC 0
   have e1 := wXi hC 1
   have E := E19; try simp only [LM, zAd] at E
   rw [zAe hL]
   simp only [SP, Nat.zero_add, Nat.reduceAdd]
   rw [e0, e1]
   clear e0 e1 hC hn E19 hL vs L nb
   have HE := hidd E
   clear E
   obtain ⟨W1, rfl⟩ : ∃ W1, W1 = w19 := ⟨_, rfl⟩
   go_wp2_with (fail)
   go_loopw [17] (fun vj W => (vj = .int .i64 0 ∧ Fr w [(b5, 8, Fq.st [.n 0, .n 0, .n 0, .n 0]), (b4_4, 8, Fq.st [.n x1, .n x2, .n x3, .n x4]), (b4_5, 8, Fq.st [.n y1, .n y2, .n y3, .n y4]), (b3, 8, Fq.st [.n 0, .n 0, .n 0, .n 0]), (b2, 8, Fq.st [.n y1, .n y2, .n y3, .n y4]), (b1, 8, Fq.st [.n x1, .n x2, .n x3, .n x4])] W) ∨ (vj = .int .i64 1 ∧ Fr w [(b5, 8, Fq.st [.n ((x1 * y1) + (x2 * y3)), .n 0, .n 0, .n 0]), (b4_4, 8, Fq.st [.n x1, .n x2, .n x3, .n x4]), (b4_5, 8, Fq.st [.n y1, .n y2, .n y3, .n y4]), (b3, 8, Fq.st [.n 0, .n 0, .n 0, .n 0]), (b2, 8, Fq.st [.n y1, .n y2, .n y3, .n y4]), (b1, 8, Fq.st [.n x1, .n x2, .n x3, .n x4])] W) ∨ (vj = .int .i64 2 ∧ Fr w [(b5, 8, Fq.st [.n ((x1 * y1) + (x2 * y3)), .n ((x1 * y2) + (x2 * y4)), .n 0, .n 0]), (b4_4, 8, Fq.st [.n x1, .n x2, .n x3, .n x4]), (b4_5, 8, Fq.st [.n y1, .n y2, .n y3, .n y4]), (b3, 8, Fq.st [.n 0, .n 0, .n 0, .n 0]), (b2, 8, Fq.st [.n y1, .n y2, .n y3, .n y4]), (b1, 8, Fq.st [.n x1, .n x2, .n x3, .n x4])] W)) (fun vj _ => (2 - intOf vj).toNat)
   case atStart => exact .inl ⟨rfl, HE.out⟩
   case round =>
    clear HE
    obtain ⟨V3, rfl⟩ : ∃ V3, V3 = wr := ⟨_, rfl⟩
    rcases hrel with ⟨rfl, E⟩ | ⟨rfl, E⟩ | ⟨rfl, E⟩
    ·go_upto_region 7 with (fail)
     refine rg [yT] N6 [] E (fun hp => ⟨?_, tv⟩) ?_
     ·exact zAf (F := fun v _ => v = .int .i64 0) hp fo tv (sqo 17) (fun ρ w hc h => ⟨.bool true, by simp [execOp, go_sem, h, hc], rfl⟩)
     intro L vs w20 nb hL hC hn E20
     have e0 := wXi hC 0
     have E := E20; try simp only [LM, zAd] at E
     rw [zAe hL]
     simp only [SP, Nat.zero_add, Nat.reduceAdd]
     rw [e0]
     clear e0 hC hn E20 hL vs L nb
     go_upto_region 8 with (fail)
     refine rg [Fq.is (.int .i64 0), Fq.is (.int .i64 0)] N6 [] E (fun hp => ⟨?_, ?_, tv⟩) ?_
     ·exact zAa hp fo tv (sqo 17)
     ·exact zAh hp fo tv (sqi 0)
     intro L vs w21 nb hL hC hn E21
     have e0 := wXi hC 0
     have e1 := wXi hC 1
     have E := E21; try simp only [LM, zAd] at E
     rw [zAe hL]
     simp only [SP, Nat.zero_add, Nat.reduceAdd]
     rw [e0, e1]
     clear e0 e1 hC hn E21 hL vs L nb
     go_upto_region 9 with (fail)
     refine rg [Fq.is (.int .i64 0), Fq.is (.int .i64 0), Fq.is (.int .i64 0), ip b4_4 0, ip b4_4 0, Fq.num x1, Fq.is (.int .i64 0), ip b4_5 0, ip b4_5 0, Fq.num y1, Fq.num (x1 * y1), Fq.is (.int .i64 0), ip b4_4 0, ip b4_4 2, Fq.num x2, Fq.is (.int .i64 0), ip b4_5 4, ip b4_5 4, Fq.num y3, Fq.num (x2 * y3), Fq.num ((x1 * y1) + (x2 * y3)), ip b5 0, ip b5 0, Fq.any] [some (23, Fq.st [.n ((x1 * y1) + (x2 * y3)), .n 0, .n 0, .n 0]), none, none, none, none, none] [] E (fun hp => ⟨?_, ?_, ?_, ?_, ?_, ?_, ?_, ?_, ?_, ?_, ?_, ?_, ?_, ?_, ?_, ?_, ?_, ?_, ?_, ?_, ?_, ?_, ?_, ?_, tv⟩) ?_
     ·exact zAa hp fo tv (sqo 8)
     ·exact zAa hp fo tv (sqo 9)
     ·exact zAa hp fo tv (sqo 8)
     ·exact zAg (F := fun v _ => v = .pointer (some ⟨b4_4, 0, none⟩)) (G := fun v _ => v = .int .i64 0) hp fo tv (sqo 5) (sqi 2) (fun ρ w hc h h' => ⟨.pointer (some ⟨b4_4, 0, none⟩), by simp [execOp, go_sem, h, h'], rfl⟩)
     ·exact zAf (F := fun v _ => v = .pointer (some ⟨b4_4, 0, none⟩)) hp fo tv (sqi 3) (fun ρ w hc h => ⟨.pointer (some ⟨b4_4, 0, none⟩), by simp [execOp, go_sem, h, hc], rfl⟩)
     ·exact lN 0 2 hp (mq 1 rfl) zAc (sqi 4)
     ·exact zAa hp fo tv (sqo 9)
     ·exact zAf (F := fun v _ => v = .pointer (some ⟨b4_5, 0, none⟩)) hp fo tv (sqo 6) (fun ρ w hc h => ⟨.pointer (some ⟨b4_5, 0, none⟩), by simp [execOp, go_sem, h, hc], rfl⟩)
     ·exact zAg (F := fun v _ => v = .pointer (some ⟨b4_5, 0, none⟩)) (G := fun v _ => v = .int .i64 0) hp fo tv (sqi 7) (sqi 6) (fun ρ w hc h h' => ⟨.pointer (some ⟨b4_5, 0, none⟩), by simp [execOp, go_sem, h, h'], rfl⟩)
     ·exact lN 0 2 hp (mq 2 rfl) zAc (sqi 8)
     ·exact wXb (Fq.num x1) (Fq.num y1) hp zBj (sqi 5) (sqi 9) fun v v' w h h' => exK (MulV h h') B6.out (by omega)
     ·exact zAa hp fo tv (sqo 8)
     ·exact zAg (F := fun v _ => v = .pointer (some ⟨b4_4, 0, none⟩)) (G := fun v _ => v = .int .i64 0) hp fo tv (sqo 5) (sqi 11) (fun ρ w hc h h' => ⟨.pointer (some ⟨b4_4, 0, none⟩), by simp [execOp, go_sem, h, h'], rfl⟩)
     ·exact zAf (F := fun v _ => v = .pointer (some ⟨b4_4, 0, none⟩)) hp fo tv (sqi 12) (fun ρ w hc h => ⟨.pointer (some ⟨b4_4, 2, none⟩), by simp [execOp, go_sem, h, hc], rfl⟩)
     ·exact lN 2 2 hp (mq 1 rfl) zAc (sqi 13)
     ·exact zAa hp fo tv (sqo 9)
     ·exact zAf (F := fun v _ => v = .pointer (some ⟨b4_5, 0, none⟩)) hp fo tv (sqo 6) (fun ρ w hc h => ⟨.pointer (some ⟨b4_5, 4, none⟩), by simp [execOp, go_sem, h, hc], rfl⟩)
     ·exact zAg (F := fun v _ => v = .pointer (some ⟨b4_5, 4, none⟩)) (G := fun v _ => v = .int .i64 0) hp fo tv (sqi 16) (sqi 15) (fun ρ w hc h h' => ⟨.pointer (some ⟨b4_5, 4, none⟩), by simp [execOp, go_sem, h, h'], rfl⟩)
     ·exact lN 4 2 hp (mq 2 rfl) zAc (sqi 17)
     ·exact wXb (Fq.num x2) (Fq.num y3) hp zBj (sqi 14) (sqi 18) fun v v' w h h' => exK (MulV h h') B7.out (by omega)
     ·exact wXb (Fq.num (x1 * y1)) (Fq.num (x2 * y3)) hp zDq (sqi 10) (sqi 19) fun v v' w h h' => exK (AddV h h') B8.out (by omega)
     ·exact zAg (F := fun v _ => v = .pointer (some ⟨b5, 0, none⟩)) (G := fun v _ => v = .int .i64 0) hp fo tv (sqo 7) (sqi 0) (fun ρ w hc h h' => ⟨.pointer (some ⟨b5, 0, none⟩), by simp [execOp, go_sem, h, h'], rfl⟩)
     ·exact zAg (F := fun v _ => v = .pointer (some ⟨b5, 0, none⟩)) (G := fun v _ => v = .int .i64 0) hp fo tv (sqi 21) (sqi 1) (fun ρ w hc h h' => ⟨.pointer (some ⟨b5, 0, none⟩), by simp [execOp, go_sem, h, h'], rfl⟩)
     ·exact zDu (off := 0) (fs := [.n 0, .n 0, .n 0, .n 0]) (gs := [.n ((x1 * y1) + (x2 * y3))]) (fs' := [.n ((x1 * y1) + (x2 * y3)), .n 0, .n 0, .n 0]) hp (mq 0 rfl) rfl rfl rfl zF6 rfl (sqi 22) (zBw 20 rfl rfl (by simp) rfl (fun v w h => zFr h)) (fun _ _ => trivial) (zB7 rfl)
     intro L vs w22 nb hL hC hn E22
     have e0 := wXi hC 0
     have e1 := wXi hC 1
     have e2 := wXi hC 2
     have e3 := wXi hC 3
     have e4 := wXi hC 4
     have e6 := wXi hC 6
     have e7 := wXi hC 7
     have e8 := wXi hC 8
     have e11 := wXi hC 11
     have e12 := wXi hC 12
     have e13 := wXi hC 13
     have e15 := wXi hC 15
     have e16 := wXi hC 16
     have e17 := wXi hC 17
     have e21 := wXi hC 21
     have e22 := wXi hC 22
     have E := E22; try simp only [LM, zAd] at E
     rw [zAe hL]
     simp only [SP, Nat.zero_add, Nat.reduceAdd]
     rw [e0, e1, e2, e3, e4, e6, e7, e8, e11, e12, e13, e15, e16, e17, e21, e22]
     generalize vs 5 = u22_5
     generalize vs 9 = u22_9
     generalize vs 10 = u22_10
     generalize vs 14 = u22_14
     generalize vs 18 = u22_18
     generalize vs 19 = u22_19
     generalize vs 20 = u22_20
     clear e0 e1 e2 e3 e4 e6 e7 e8 e11 e12 e13 e15 e16 e17 e21 e22 hC hn E22 hL vs L nb
     clear B6 B7 B8 B9 B10 B11 B12 B13 B14 B15 B16 B17 hx1 hx2 hx3 hx4 hy1 hy2 hy3 hy4
     go_wp2
     go_roundw
     case rel => exact .inr (.inl ⟨by first | rfl | go_num, E⟩)
     case measure => first | (simp [intOf]; omega) | simp [intOf] | decide
    ·go_upto_region 7 with (fail)
     refine rg [yT] N6 [] E (fun hp => ⟨?_, tv⟩) ?_
     ·exact zAf (F := fun v _ => v = .int .i64 1) hp fo tv (sqo 17) (fun ρ w hc h => ⟨.bool true, by simp [execOp, go_sem, h, hc], rfl⟩)
     intro L vs w23 nb hL hC hn E23
     have e0 := wXi hC 0
     have E := E23; try simp only [LM, zAd] at E
     rw [zAe hL]
     simp only [SP, Nat.zero_add, Nat.reduceAdd]
     rw [e0]
     clear e0 hC hn E23 hL vs L nb
     go_upto_region 8 with (fail)
     refine rg [Fq.is (.int .i64 1), Fq.is (.int .i64 1)] N6 [] E (fun hp => ⟨?_, ?_, tv⟩) ?_
     ·exact zAa hp fo tv (sqo 17)
     ·exact zAh hp fo tv (sqi 0)
     intro L vs w24 nb hL hC hn E24
     have e0 := wXi hC 0
     have e1 := wXi hC 1
     have E := E24; try simp only [LM, zAd] at E
     rw [zAe hL]
     simp only [SP, Nat.zero_add, Nat.reduceAdd]
     rw [e0, e1]
     clear e0 e1 hC hn E24 hL vs L nb
     go_upto_region 9 with (fail)
     refine rg [Fq.is (.int .i64 0), Fq.is (.int .i64 1), Fq.is (.int .i64 0), ip b4_4 0, ip b4_4 0, Fq.num x1, Fq.is (.int .i64 1), ip b4_5 0, ip b4_5 2, Fq.num y2, Fq.num (x1 * y2), Fq.is (.int .i64 0), ip b4_4 0, ip b4_4 2, Fq.num x2, Fq.is (.int .i64 1), ip b4_5 4, ip b4_5 6, Fq.num y4, Fq.num (x2 * y4), Fq.num ((x1 * y2) + (x2 * y4)), ip b5 0, ip b5 2, Fq.any] [some (23, Fq.st [.n ((x1 * y1) + (x2 * y3)), .n ((x1 * y2) + (x2 * y4)), .n 0, .n 0]), none, none, none, none, none] [] E (fun hp => ⟨?_, ?_, ?_, ?_, ?_, ?_, ?_, ?_, ?_, ?_, ?_, ?_, ?_, ?_, ?_, ?_, ?_, ?_, ?_, ?_, ?_, ?_, ?_, ?_, tv⟩) ?_
     ·exact zAa hp fo tv (sqo 8)
     ·exact zAa hp fo tv (sqo 9)
     ·exact zAa hp fo tv (sqo 8)
     ·exact zAg (F := fun v _ => v = .pointer (some ⟨b4_4, 0, none⟩)) (G := fun v _ => v = .int .i64 0) hp fo tv (sqo 5) (sqi 2) (fun ρ w hc h h' => ⟨.pointer (some ⟨b4_4, 0, none⟩), by simp [execOp, go_sem, h, h'], rfl⟩)
     ·exact zAf (F := fun v _ => v = .pointer (some ⟨b4_4, 0, none⟩)) hp fo tv (sqi 3) (fun ρ w hc h => ⟨.pointer (some ⟨b4_4, 0, none⟩), by simp [execOp, go_sem, h, hc], rfl⟩)
     ·exact lN 0 2 hp (mq 1 rfl) zAc (sqi 4)
     ·exact zAa hp fo tv (sqo 9)
     ·exact zAf (F := fun v _ => v = .pointer (some ⟨b4_5, 0, none⟩)) hp fo tv (sqo 6) (fun ρ w hc h => ⟨.pointer (some ⟨b4_5, 0, none⟩), by simp [execOp, go_sem, h, hc], rfl⟩)
     ·exact zAg (F := fun v _ => v = .pointer (some ⟨b4_5, 0, none⟩)) (G := fun v _ => v = .int .i64 1) hp fo tv (sqi 7) (sqi 6) (fun ρ w hc h h' => ⟨.pointer (some ⟨b4_5, 2, none⟩), by simp [execOp, go_sem, h, h'], rfl⟩)
     ·exact lN 2 2 hp (mq 2 rfl) zAc (sqi 8)
     ·exact wXb (Fq.num x1) (Fq.num y2) hp zBj (sqi 5) (sqi 9) fun v v' w h h' => exK (MulV h h') B9.out (by omega)
     ·exact zAa hp fo tv (sqo 8)
     ·exact zAg (F := fun v _ => v = .pointer (some ⟨b4_4, 0, none⟩)) (G := fun v _ => v = .int .i64 0) hp fo tv (sqo 5) (sqi 11) (fun ρ w hc h h' => ⟨.pointer (some ⟨b4_4, 0, none⟩), by simp [execOp, go_sem, h, h'], rfl⟩)
     ·exact zAf (F := fun v _ => v = .pointer (some ⟨b4_4, 0, none⟩)) hp fo tv (sqi 12) (fun ρ w hc h => ⟨.pointer (some ⟨b4_4, 2, none⟩), by simp [execOp, go_sem, h, hc], rfl⟩)
     ·exact lN 2 2 hp (mq 1 rfl) zAc (sqi 13)
     ·exact zAa hp fo tv (sqo 9)
     ·exact zAf (F := fun v _ => v = .pointer (some ⟨b4_5, 0, none⟩)) hp fo tv (sqo 6) (fun ρ w hc h => ⟨.pointer (some ⟨b4_5, 4, none⟩), by simp [execOp, go_sem, h, hc], rfl⟩)
     ·exact zAg (F := fun v _ => v = .pointer (some ⟨b4_5, 4, none⟩)) (G := fun v _ => v = .int .i64 1) hp fo tv (sqi 16) (sqi 15) (fun ρ w hc h h' => ⟨.pointer (some ⟨b4_5, 6, none⟩), by simp [execOp, go_sem, h, h'], rfl⟩)
     ·exact lN 6 2 hp (mq 2 rfl) zAc (sqi 17)
     ·exact wXb (Fq.num x2) (Fq.num y4) hp zBj (sqi 14) (sqi 18) fun v v' w h h' => exK (MulV h h') B10.out (by omega)
     ·exact wXb (Fq.num (x1 * y2)) (Fq.num (x2 * y4)) hp zDq (sqi 10) (sqi 19) fun v v' w h h' => exK (AddV h h') B11.out (by omega)
     ·exact zAg (F := fun v _ => v = .pointer (some ⟨b5, 0, none⟩)) (G := fun v _ => v = .int .i64 0) hp fo tv (sqo 7) (sqi 0) (fun ρ w hc h h' => ⟨.pointer (some ⟨b5, 0, none⟩), by simp [execOp, go_sem, h, h'], rfl⟩)
     ·exact zAg (F := fun v _ => v = .pointer (some ⟨b5, 0, none⟩)) (G := fun v _ => v = .int .i64 1) hp fo tv (sqi 21) (sqi 1) (fun ρ w hc h h' => ⟨.pointer (some ⟨b5, 2, none⟩), by simp [execOp, go_sem, h, h'], rfl⟩)
     ·exact zDu (off := 2) (fs := [.n ((x1 * y1) + (x2 * y3)), .n 0, .n 0, .n 0]) (gs := [.n ((x1 * y2) + (x2 * y4))]) (fs' := [.n ((x1 * y1) + (x2 * y3)), .n ((x1 * y2) + (x2 * y4)), .n 0, .n 0]) hp (mq 0 rfl) rfl rfl rfl zF6 rfl (sqi 22) (zBw 20 rfl rfl (by simp) rfl (fun v w h => zFr h)) (fun _ _ => trivial) (zB7 rfl)
     intro L vs w25 nb hL hC hn E25
     have e0 := wXi hC 0
     have e1 := wXi hC 1
     have e2 := wXi hC 2
     have e3 := wXi hC 3
     have e4 := wXi hC 4
     have e6 := wXi hC 6
     have e7 := wXi hC 7
     have e8 := wXi hC 8
     have e11 := wXi hC 11
     have e12 := wXi hC 12
     have e13 := wXi hC 13
     have e15 := wXi hC 15
     have e16 := wXi hC 16
     have e17 := wXi hC 17
     have e21 := wXi hC 21
     have e22 := wXi hC 22
     have E := E25; try simp only [LM, zAd] at E
     rw [zAe hL]
     simp only [SP, Nat.zero_add, Nat.reduceAdd]
     rw [e0, e1, e2, e3, e4, e6, e7, e8, e11, e12, e13, e15, e16, e17, e21, e22]
     generalize vs 5 = u25_5
     generalize vs 9 = u25_9
     generalize vs 10 = u25_10
     generalize vs 14 = u25_14
     generalize vs 18 = u25_18
     generalize vs 19 = u25_19
     generalize vs 20 = u25_20
     clear e0 e1 e2 e3 e4 e6 e7 e8 e11 e12 e13 e15 e16 e17 e21 e22 hC hn E25 hL vs L nb
     clear B6 B7 B8 B9 B10 B11 B12 B13 B14 B15 B16 B17 hx1 hx2 hx3 hx4 hy1 hy2 hy3 hy4
     go_wp2
     go_roundw
     case rel => exact .inr (.inr ⟨by first | rfl | go_num, E⟩)
     case measure => first | (simp [intOf]; omega) | simp [intOf] | decide
    ·clear B6 B7 B8 B9 B10 B11 B12 B13 B14 B15 B16 B17 hx1 hx2 hx3 hx4 hy1 hy2 hy3 hy4
     go_wp2
     go_roundw
     case rel => exact .inr (.inl ⟨by first | rfl | go_num, E⟩)
     case measure => first | (simp [intOf]; omega) | simp [intOf] | decide
  ·go_upto_region 4 with (fail)
   refine rg [yT] N6 [] E (fun hp => ⟨?_, tv⟩) ?_
   ·exact zAf (F := fun v _ => v = .int .i64 1) hp fo tv (sqo 14) (fun ρ w hc h => ⟨.bool true, by simp [execOp, go_sem, h, hc], rfl⟩)
   intro L vs w26 nb hL hC hn E26
   have e0 := wXi hC 0
   have E := E26; try simp only [LM, zAd] at E
   rw [zAe hL]
   simp only [SP, Nat.zero_add, Nat.reduceAdd]
   rw [e0]
   clear e0 hC hn E26 hL vs L nb
   go_upto_region 5 with (fail)
   refine rg [Fq.is (.int .i64 1), Fq.is (.int .i64 1)] N6 [] E (fun hp => ⟨?_, ?_, tv⟩) ?_
   ·exact zAa hp fo tv (sqo 14)
   ·exact zAh hp fo tv (sqi 0)
   intro L vs w27 nb hL hC hn E27
   have e0 := wXi hC 0
   have e1 := wXi hC 1
   have E := E27; try simp only [LM, zAd] at E
   rw [zAe hL]
   simp only [SP, Nat.zero_add, Nat.reduceAdd]
   rw [e0, e1]
   clear e0 e1 hC hn E27 hL vs L nb
   have HE := hidd E
   clear E
   obtain ⟨W1, rfl⟩ : ∃ W1, W1 = w27 := ⟨_, rfl⟩
   go_wp2_with (fail)
   go_loopw [17] (fun vj W => (vj = .int .i64 0 ∧ Fr w [(b5, 8, Fq.st [.n ((x1 * y1) + (x2 * y3)), .n ((x1 * y2) + (x2 * y4)), .n 0, .n 0]), (b4_4, 8, Fq.st [.n x1, .n x2, .n x3, .n x4]), (b4_5, 8, Fq.st [.n y1, .n y2, .n y3, .n y4]), (b3, 8, Fq.st [.n 0, .n 0, .n 0, .n 0]), (b2, 8, Fq.st [.n y1, .n y2, .n y3, .n y4]), (b1, 8, Fq.st [.n x1, .n x2, .n x3, .n x4])] W) ∨ (vj = .int .i64 1 ∧ Fr w [(b5, 8, Fq.st [.n ((x1 * y1) + (x2 * y3)), .n ((x1 * y2) + (x2 * y4)), .n ((x3 * y1) + (x4 * y3)), .n 0]), (b4_4, 8, Fq.st [.n x1, .n x2, .n x3, .n x4]), (b4_5, 8, Fq.st [.n y1, .n y2, .n y3, .n y4]), (b3, 8, Fq.st [.n 0, .n 0, .n 0, .n 0]), (b2, 8, Fq.st [.n y1, .n y2, .n y3, .n y4]), (b1, 8, Fq.st [.n x1, .n x2, .n x3, .n x4])] W) ∨ (vj = .int .i64 2 ∧ Fr w [(b5, 8, Fq.st [.n ((x1 * y1) + (x2 * y3)), .n ((x1 * y2) + (x2 * y4)), .n ((x3 * y1) + (x4 * y3)), .n ((x3 * y2) + (x4 * y4))]), (b4_4, 8, Fq.st [.n x1, .n x2, .n x3, .n x4]), (b4_5, 8, Fq.st [.n y1, .n y2, .n y3, .n y4]), (b3, 8, Fq.st [.n 0, .n 0, .n 0, .n 0]), (b2, 8, Fq.st [.n y1, .n y2, .n y3, .n y4]), (b1, 8, Fq.st [.n x1, .n x2, .n x3, .n x4])] W)) (fun vj _ => (2 - intOf vj).toNat)
   case atStart => exact .inl ⟨rfl, HE.out⟩
   case round =>
    clear HE
    obtain ⟨V3, rfl⟩ : ∃ V3, V3 = wr := ⟨_, rfl⟩
    rcases hrel with ⟨rfl, E⟩ | ⟨rfl, E⟩ | ⟨rfl, E⟩
    ·go_upto_region 7 with (fail)
     refine rg [yT] N6 [] E (fun hp => ⟨?_, tv⟩) ?_
     ·exact zAf (F := fun v _ => v = .int .i64 0) hp fo tv (sqo 17) (fun ρ w hc h => ⟨.bool true, by simp [execOp, go_sem, h, hc], rfl⟩)
     intro L vs w28 nb hL hC hn E28
     have e0 := wXi hC 0
     have E := E28; try simp only [LM, zAd] at E
     rw [zAe hL]
     simp only [SP, Nat.zero_add, Nat.reduceAdd]
     rw [e0]
     clear e0 hC hn E28 hL vs L nb
     go_upto_region 8 with (fail)
     refine rg [Fq.is (.int .i64 0), Fq.is (.int .i64 0)] N6 [] E (fun hp => ⟨?_, ?_, tv⟩) ?_
     ·exact zAa hp fo tv (sqo 17)
     ·exact zAh hp fo tv (sqi 0)
     intro L vs w29 nb hL hC hn E29
     have e0 := wXi hC 0
     have e1 := wXi hC 1
     have E := E29; try simp only [LM, zAd] at E
     rw [zAe hL]
     simp only [SP, Nat.zero_add, Nat.reduceAdd]
     rw [e0, e1]
     clear e0 e1 hC hn E29 hL vs L nb
     go_upto_region 9 with (fail)
     refine rg [Fq.is (.int .i64 1), Fq.is (.int .i64 0), Fq.is (.int .i64 1), ip b4_4 4, ip b4_4 4, Fq.num x3, Fq.is (.int .i64 0), ip b4_5 0, ip b4_5 0, Fq.num y1, Fq.num (x3 * y1), Fq.is (.int .i64 1), ip b4_4 4, ip b4_4 6, Fq.num x4, Fq.is (.int .i64 0), ip b4_5 4, ip b4_5 4, Fq.num y3, Fq.num (x4 * y3), Fq.num ((x3 * y1) + (x4 * y3)), ip b5 4, ip b5 4, Fq.any] [some (23, Fq.st [.n ((x1 * y1) + (x2 * y3)), .n ((x1 * y2) + (x2 * y4)), .n ((x3 * y1) + (x4 * y3)), .n 0]), none, none, none, none, none] [] E (fun hp => ⟨?_, ?_, ?_, ?_, ?_, ?_, ?_, ?_, ?_, ?_, ?_, ?_, ?_, ?_, ?_, ?_, ?_, ?_, ?_, ?_, ?_, ?_, ?_, ?_, tv⟩) ?_
     ·exact zAa hp fo tv (sqo 8)
     ·exact zAa hp fo tv (sqo 9)
     ·exact zAa hp fo tv (sqo 8)
     ·exact zAg (F := fun v _ => v = .pointer (some ⟨b4_4, 0, none⟩)) (G := fun v _ => v = .int .i64 1) hp fo tv (sqo 5) (sqi 2) (fun ρ w hc h h' => ⟨.pointer (some ⟨b4_4, 4, none⟩), by simp [execOp, go_sem, h, h'], rfl⟩)
     ·exact zAf (F := fun v _ => v = .pointer (some ⟨b4_4, 4, none⟩)) hp fo tv (sqi 3) (fun ρ w hc h => ⟨.pointer (some ⟨b4_4, 4, none⟩), by simp [execOp, go_sem, h, hc], rfl⟩)
     ·exact lN 4 2 hp (mq 1 rfl) zAc (sqi 4)
     ·exact zAa hp fo tv (sqo 9)
     ·exact zAf (F := fun v _ => v = .pointer (some ⟨b4_5, 0, none⟩)) hp fo tv (sqo 6) (fun ρ w hc h => ⟨.pointer (some ⟨b4_5, 0, none⟩), by simp [execOp, go_sem, h, hc], rfl⟩)
     ·exact zAg (F := fun v _ => v = .pointer (some ⟨b4_5, 0, none⟩)) (G := fun v _ => v = .int .i64 0) hp fo tv (sqi 7) (sqi 6) (fun ρ w hc h h' => ⟨.pointer (some ⟨b4_5, 0, none⟩), by simp [execOp, go_sem, h, h'], rfl⟩)
     ·exact lN 0 2 hp (mq 2 rfl) zAc (sqi 8)
     ·exact wXb (Fq.num x3) (Fq.num y1) hp zBj (sqi 5) (sqi 9) fun v v' w h h' => exK (MulV h h') B12.out (by omega)
     ·exact zAa hp fo tv (sqo 8)
     ·exact zAg (F := fun v _ => v = .pointer (some ⟨b4_4, 0, none⟩)) (G := fun v _ => v = .int .i64 1) hp fo tv (sqo 5) (sqi 11) (fun ρ w hc h h' => ⟨.pointer (some ⟨b4_4, 4, none⟩), by simp [execOp, go_sem, h, h'], rfl⟩)
     ·exact zAf (F := fun v _ => v = .pointer (some ⟨b4_4, 4, none⟩)) hp fo tv (sqi 12) (fun ρ w hc h => ⟨.pointer (some ⟨b4_4, 6, none⟩), by simp [execOp, go_sem, h, hc], rfl⟩)
     ·exact lN 6 2 hp (mq 1 rfl) zAc (sqi 13)
     ·exact zAa hp fo tv (sqo 9)
     ·exact zAf (F := fun v _ => v = .pointer (some ⟨b4_5, 0, none⟩)) hp fo tv (sqo 6) (fun ρ w hc h => ⟨.pointer (some ⟨b4_5, 4, none⟩), by simp [execOp, go_sem, h, hc], rfl⟩)
     ·exact zAg (F := fun v _ => v = .pointer (some ⟨b4_5, 4, none⟩)) (G := fun v _ => v = .int .i64 0) hp fo tv (sqi 16) (sqi 15) (fun ρ w hc h h' => ⟨.pointer (some ⟨b4_5, 4, none⟩), by simp [execOp, go_sem, h, h'], rfl⟩)
     ·exact lN 4 2 hp (mq 2 rfl) zAc (sqi 17)
     ·exact wXb (Fq.num x4) (Fq.num y3) hp zBj (sqi 14) (sqi 18) fun v v' w h h' => exK (MulV h h') B13.out (by omega)
     ·exact wXb (Fq.num (x3 * y1)) (Fq.num (x4 * y3)) hp zDq (sqi 10) (sqi 19) fun v v' w h h' => exK (AddV h h') B14.out (by omega)
     ·exact zAg (F := fun v _ => v = .pointer (some ⟨b5, 0, none⟩)) (G := fun v _ => v = .int .i64 1) hp fo tv (sqo 7) (sqi 0) (fun ρ w hc h h' => ⟨.pointer (some ⟨b5, 4, none⟩), by simp [execOp, go_sem, h, h'], rfl⟩)
     ·exact zAg (F := fun v _ => v = .pointer (some ⟨b5, 4, none⟩)) (G := fun v _ => v = .int .i64 0) hp fo tv (sqi 21) (sqi 1) (fun ρ w hc h h' => ⟨.pointer (some ⟨b5, 4, none⟩), by simp [execOp, go_sem, h, h'], rfl⟩)
     ·exact zDu (off := 4) (fs := [.n ((x1 * y1) + (x2 * y3)), .n ((x1 * y2) + (x2 * y4)), .n 0, .n 0]) (gs := [.n ((x3 * y1) + (x4 * y3))]) (fs' := [.n ((x1 * y1) + (x2 * y3)), .n ((x1 * y2) + (x2 * y4)), .n ((x3 * y1) + (x4 * y3)), .n 0]) hp (mq 0 rfl) rfl rfl rfl zF6 rfl (sqi 22) (zBw 20 rfl rfl (by simp) rfl (fun v w h => zFr h)) (fun _ _ => trivial) (zB7 rfl)
     intro L vs w30 nb hL hC hn E30
     have e0 := wXi hC 0
     have e1 := wXi hC 1
     have e2 := wXi hC 2
     have e3 := wXi hC 3
     have e4 := wXi hC 4
     have e6 := wXi hC 6
     have e7 := wXi hC 7
     have e8 := wXi hC 8
     have e11 := wXi hC 11
     have e12 := wXi hC 12
     have e13 := wXi hC 13
     have e15 := wXi hC 15
     have e16 := wXi hC 16
     have e17 := wXi hC 17
     have e21 := wXi hC 21
     have e22 := wXi hC 22
     have E := E30; try simp only [LM, zAd] at E
     rw [zAe hL]
     simp only [SP, Nat.zero_add, Nat.reduceAdd]
     rw [e0, e1, e2, e3, e4, e6, e7, e8, e11, e12, e13, e15, e16, e17, e21, e22]
     generalize vs 5 = u30_5
     generalize vs 9 = u30_9
     generalize vs 10 = u30_10
     generalize vs 14 = u30_14
     generalize vs 18 = u30_18
     generalize vs 19 = u30_19
     generalize vs 20 = u30_20
     clear e0 e1 e2 e3 e4 e6 e7 e8 e11 e12 e13 e15 e16 e17 e21 e22 hC hn E30 hL vs L nb
     clear B6 B7 B8 B9 B10 B11 B12 B13 B14 B15 B16 B17 hx1 hx2 hx3 hx4 hy1 hy2 hy3 hy4
     go_wp2
     go_roundw
     case rel => exact .inr (.inl ⟨by first | rfl | go_num, E⟩)
     case measure => first | (simp [intOf]; omega) | simp [intOf] | decide
    ·go_upto_region 7 with (fail)
     refine rg [yT] N6 [] E (fun hp => ⟨?_, tv⟩) ?_
     ·exact zAf (F := fun v _ => v = .int .i64 1) hp fo tv (sqo 17) (fun ρ w hc h => ⟨.bool true, by simp [execOp, go_sem, h, hc], rfl⟩)
     intro L vs w31 nb hL hC hn E31
     have e0 := wXi hC 0
     have E := E31; try simp only [LM, zAd] at E
     rw [zAe hL]
     simp only [SP, Nat.zero_add, Nat.reduceAdd]
     rw [e0]
     clear e0 hC hn E31 hL vs L nb
     go_upto_region 8 with (fail)
     refine rg [Fq.is (.int .i64 1), Fq.is (.int .i64 1)] N6 [] E (fun hp => ⟨?_, ?_, tv⟩) ?_
     ·exact zAa hp fo tv (sqo 17)
     ·exact zAh hp fo tv (sqi 0)
     intro L vs w32 nb hL hC hn E32
     have e0 := wXi hC 0
     have e1 := wXi hC 1
     have E := E32; try simp only [LM, zAd] at E
     rw [zAe hL]
     simp only [SP, Nat.zero_add, Nat.reduceAdd]
     rw [e0, e1]
     clear e0 e1 hC hn E32 hL vs L nb
     go_upto_region 9 with (fail)
     refine rg [Fq.is (.int .i64 1), Fq.is (.int .i64 1), Fq.is (.int .i64 1), ip b4_4 4, ip b4_4 4, Fq.num x3, Fq.is (.int .i64 1), ip b4_5 0, ip b4_5 2, Fq.num y2, Fq.num (x3 * y2), Fq.is (.int .i64 1), ip b4_4 4, ip b4_4 6, Fq.num x4, Fq.is (.int .i64 1), ip b4_5 4, ip b4_5 6, Fq.num y4, Fq.num (x4 * y4), Fq.num ((x3 * y2) + (x4 * y4)), ip b5 4, ip b5 6, Fq.any] [some (23, Fq.st [.n ((x1 * y1) + (x2 * y3)), .n ((x1 * y2) + (x2 * y4)), .n ((x3 * y1) + (x4 * y3)), .n ((x3 * y2) + (x4 * y4))]), none, none, none, none, none] [] E (fun hp => ⟨?_, ?_, ?_, ?_, ?_, ?_, ?_, ?_, ?_, ?_, ?_, ?_, ?_, ?_, ?_, ?_, ?_, ?_, ?_, ?_, ?_, ?_, ?_, ?_, tv⟩) ?_
     ·exact zAa hp fo tv (sqo 8)
     ·exact zAa hp fo tv (sqo 9)
     ·exact zAa hp fo tv (sqo 8)
     ·exact zAg (F := fun v _ => v = .pointer (some ⟨b4_4, 0, none⟩)) (G := fun v _ => v = .int .i64 1) hp fo tv (sqo 5) (sqi 2) (fun ρ w hc h h' => ⟨.pointer (some ⟨b4_4, 4, none⟩), by simp [execOp, go_sem, h, h'], rfl⟩)
     ·exact zAf (F := fun v _ => v = .pointer (some ⟨b4_4, 4, none⟩)) hp fo tv (sqi 3) (fun ρ w hc h => ⟨.pointer (some ⟨b4_4, 4, none⟩), by simp [execOp, go_sem, h, hc], rfl⟩)
     ·exact lN 4 2 hp (mq 1 rfl) zAc (sqi 4)
     ·exact zAa hp fo tv (sqo 9)
     ·exact zAf (F := fun v _ => v = .pointer (some ⟨b4_5, 0, none⟩)) hp fo tv (sqo 6) (fun ρ w hc h => ⟨.pointer (some ⟨b4_5, 0, none⟩), by simp [execOp, go_sem, h, hc], rfl⟩)
     ·exact zAg (F := fun v _ => v = .pointer (some ⟨b4_5, 0, none⟩)) (G := fun v _ => v = .int .i64 1) hp fo tv (sqi 7) (sqi 6) (fun ρ w hc h h' => ⟨.pointer (some ⟨b4_5, 2, none⟩), by simp [execOp, go_sem, h, h'], rfl⟩)
     ·exact lN 2 2 hp (mq 2 rfl) zAc (sqi 8)
     ·exact wXb (Fq.num x3) (Fq.num y2) hp zBj (sqi 5) (sqi 9) fun v v' w h h' => exK (MulV h h') B15.out (by omega)
     ·exact zAa hp fo tv (sqo 8)
     ·exact zAg (F := fun v _ => v = .pointer (some ⟨b4_4, 0, none⟩)) (G := fun v _ => v = .int .i64 1) hp fo tv (sqo 5) (sqi 11) (fun ρ w hc h h' => ⟨.pointer (some ⟨b4_4, 4, none⟩), by simp [execOp, go_sem, h, h'], rfl⟩)
     ·exact zAf (F := fun v _ => v = .pointer (some ⟨b4_4, 4, none⟩)) hp fo tv (sqi 12) (fun ρ w hc h => ⟨.pointer (some ⟨b4_4, 6, none⟩), by simp [execOp, go_sem, h, hc], rfl⟩)
     ·exact lN 6 2 hp (mq 1 rfl) zAc (sqi 13)
     ·exact zAa hp fo tv (sqo 9)
     ·exact zAf (F := fun v _ => v = .pointer (some ⟨b4_5, 0, none⟩)) hp fo tv (sqo 6) (fun ρ w hc h => ⟨.pointer (some ⟨b4_5, 4, none⟩), by simp [execOp, go_sem, h, hc], rfl⟩)
     ·exact zAg (F := fun v _ => v = .pointer (some ⟨b4_5, 4, none⟩)) (G := fun v _ => v = .int .i64 1) hp fo tv (sqi 16) (sqi 15) (fun ρ w hc h h' => ⟨.pointer (some ⟨b4_5, 6, none⟩), by simp [execOp, go_sem, h, h'], rfl⟩)
     ·exact lN 6 2 hp (mq 2 rfl) zAc (sqi 17)
     ·exact wXb (Fq.num x4) (Fq.num y4) hp zBj (sqi 14) (sqi 18) fun v v' w h h' => exK (MulV h h') B16.out (by omega)
     ·exact wXb (Fq.num (x3 * y2)) (Fq.num (x4 * y4)) hp zDq (sqi 10) (sqi 19) fun v v' w h h' => exK (AddV h h') B17.out (by omega)
     ·exact zAg (F := fun v _ => v = .pointer (some ⟨b5, 0, none⟩)) (G := fun v _ => v = .int .i64 1) hp fo tv (sqo 7) (sqi 0) (fun ρ w hc h h' => ⟨.pointer (some ⟨b5, 4, none⟩), by simp [execOp, go_sem, h, h'], rfl⟩)
     ·exact zAg (F := fun v _ => v = .pointer (some ⟨b5, 4, none⟩)) (G := fun v _ => v = .int .i64 1) hp fo tv (sqi 21) (sqi 1) (fun ρ w hc h h' => ⟨.pointer (some ⟨b5, 6, none⟩), by simp [execOp, go_sem, h, h'], rfl⟩)
     ·exact zDu (off := 6) (fs := [.n ((x1 * y1) + (x2 * y3)), .n ((x1 * y2) + (x2 * y4)), .n ((x3 * y1) + (x4 * y3)), .n 0]) (gs := [.n ((x3 * y2) + (x4 * y4))]) (fs' := [.n ((x1 * y1) + (x2 * y3)), .n ((x1 * y2) + (x2 * y4)), .n ((x3 * y1) + (x4 * y3)), .n ((x3 * y2) + (x4 * y4))]) hp (mq 0 rfl) rfl rfl rfl zF6 rfl (sqi 22) (zBw 20 rfl rfl (by simp) rfl (fun v w h => zFr h)) (fun _ _ => trivial) (zB7 rfl)
     intro L vs w33 nb hL hC hn E33
     have e0 := wXi hC 0
     have e1 := wXi hC 1
     have e2 := wXi hC 2
     have e3 := wXi hC 3
     have e4 := wXi hC 4
     have e6 := wXi hC 6
     have e7 := wXi hC 7
     have e8 := wXi hC 8
     have e11 := wXi hC 11
     have e12 := wXi hC 12
     have e13 := wXi hC 13
     have e15 := wXi hC 15
     have e16 := wXi hC 16
     have e17 := wXi hC 17
     have e21 := wXi hC 21
     have e22 := wXi hC 22
     have E := E33; try simp only [LM, zAd] at E
     rw [zAe hL]
     simp only [SP, Nat.zero_add, Nat.reduceAdd]
     rw [e0, e1, e2, e3, e4, e6, e7, e8, e11, e12, e13, e15, e16, e17, e21, e22]
     generalize vs 5 = u33_5
     generalize vs 9 = u33_9
     generalize vs 10 = u33_10
     generalize vs 14 = u33_14
     generalize vs 18 = u33_18
     generalize vs 19 = u33_19
     generalize vs 20 = u33_20
     clear e0 e1 e2 e3 e4 e6 e7 e8 e11 e12 e13 e15 e16 e17 e21 e22 hC hn E33 hL vs L nb
     clear B6 B7 B8 B9 B10 B11 B12 B13 B14 B15 B16 B17 hx1 hx2 hx3 hx4 hy1 hy2 hy3 hy4
     go_wp2
     go_roundw
     case rel => exact .inr (.inr ⟨by first | rfl | go_num, E⟩)
     case measure => first | (simp [intOf]; omega) | simp [intOf] | decide
    ·clear B6 B7 B8 B9 B10 B11 B12 B13 B14 B15 B16 B17 hx1 hx2 hx3 hx4 hy1 hy2 hy3 hy4
     go_wp2
     go_roundw
     case rel => exact .inr (.inr ⟨by first | rfl | go_num, E⟩)
     case measure => first | (simp [intOf]; omega) | simp [intOf] | decide
  ·go_upto_region 4 with (fail)
   refine rg [yF] N6 [] E (fun hp => ⟨?_, tv⟩) ?_
   ·exact zAf (F := fun v _ => v = .int .i64 2) hp fo tv (sqo 14) (fun ρ w hc h => ⟨.bool false, by simp [execOp, go_sem, h, hc], rfl⟩)
   intro L vs w34 nb hL hC hn E34
   have e0 := wXi hC 0
   have E := E34; try simp only [LM, zAd] at E
   rw [zAe hL]
   simp only [SP, Nat.zero_add, Nat.reduceAdd]
   rw [e0]
   clear e0 hC hn E34 hL vs L nb
   go_upto_region 12 with (fail)
   refine rg [ip b5 0, ip b5 0, Fq.num ((x1 * y1) + (x2 * y3)), ip b5 0, ip b5 2, Fq.num ((x1 * y2) + (x2 * y4)), ip b5 4, ip b5 4, Fq.num ((x3 * y1) + (x4 * y3)), ip b5 4, ip b5 6, Fq.num ((x3 * y2) + (x4 * y4)), Fq.st [.n ((x1 * y1) + (x2 * y3)), .n ((x1 * y2) + (x2 * y4)), .n ((x3 * y1) + (x4 * y3)), .n ((x3 * y2) + (x4 * y4))], Fq.any] [none, none, none, some (13, Fq.st [.n ((x1 * y1) + (x2 * y3)), .n ((x1 * y2) + (x2 * y4)), .n ((x3 * y1) + (x4 * y3)), .n ((x3 * y2) + (x4 * y4))]), none, none] [] E (fun hp => ⟨?_, ?_, ?_, ?_, ?_, ?_, ?_, ?_, ?_, ?_, ?_, ?_, ?_, ?_, tv⟩) ?_
   ·exact zAf (F := fun v _ => v = .pointer (some ⟨b5, 0, none⟩)) hp fo tv (sqo 7) (fun ρ w hc h => ⟨.pointer (some ⟨b5, 0, none⟩), by simp [execOp, go_sem, h, hc], rfl⟩)
   ·exact zAf (F := fun v _ => v = .pointer (some ⟨b5, 0, none⟩)) hp fo tv (sqi 0) (fun ρ w hc h => ⟨.pointer (some ⟨b5, 0, none⟩), by simp [execOp, go_sem, h, hc], rfl⟩)
   ·exact lN 0 2 hp (mq 0 rfl) zAc (sqi 1)
   ·exact zAf (F := fun v _ => v = .pointer (some ⟨b5, 0, none⟩)) hp fo tv (sqo 7) (fun ρ w hc h => ⟨.pointer (some ⟨b5, 0, none⟩), by simp [execOp, go_sem, h, hc], rfl⟩)
   ·exact zAf (F := fun v _ => v = .pointer (some ⟨b5, 0, none⟩)) hp fo tv (sqi 3) (fun ρ w hc h => ⟨.pointer (some ⟨b5, 2, none⟩), by simp [execOp, go_sem, h, hc], rfl⟩)
   ·exact lN 2 2 hp (mq 0 rfl) zAc (sqi 4)
   ·exact zAf (F := fun v _ => v = .pointer (some ⟨b5, 0, none⟩)) hp fo tv (sqo 7) (fun ρ w hc h => ⟨.pointer (some ⟨b5, 4, none⟩), by simp [execOp, go_sem, h, hc], rfl⟩)
   ·exact zAf (F := fun v _ => v = .pointer (some ⟨b5, 4, none⟩)) hp fo tv (sqi 6) (fun ρ w hc h => ⟨.pointer (some ⟨b5, 4, none⟩), by simp [execOp, go_sem, h, hc], rfl⟩)
   ·exact lN 4 2 hp (mq 0 rfl) zAc (sqi 7)
   ·exact zAf (F := fun v _ => v = .pointer (some ⟨b5, 0, none⟩)) hp fo tv (sqo 7) (fun ρ w hc h => ⟨.pointer (some ⟨b5, 4, none⟩), by simp [execOp, go_sem, h, hc], rfl⟩)
   ·exact zAf (F := fun v _ => v = .pointer (some ⟨b5, 4, none⟩)) hp fo tv (sqi 9) (fun ρ w hc h => ⟨.pointer (some ⟨b5, 6, none⟩), by simp [execOp, go_sem, h, hc], rfl⟩)
   ·exact lN 6 2 hp (mq 0 rfl) zAc (sqi 10)
   ·exact zHc (z0 := ((x1 * y1) + (x2 * y3))) (z1 := ((x1 * y2) + (x2 * y4))) (z2 := ((x3 * y1) + (x4 * y3))) (z3 := ((x3 * y2) + (x4 * y4))) hp fo tv (sqi 2) (sqi 5) (sqi 8) (sqi 11) (fun v w h => h)
   ·exact sO 0 12 hp (mq 3 rfl) zBz (sqo 4)
   intro L vs w35 nb hL hC hn E35
   have e0 := wXi hC 0
   have e1 := wXi hC 1
   have e3 := wXi hC 3
   have e4 := wXi hC 4
   have e6 := wXi hC 6
   have e7 := wXi hC 7
   have e9 := wXi hC 9
   have e10 := wXi hC 10
   have E := E35; try simp only [LM, zAd] at E
   rw [zAe hL]
   simp only [SP, Nat.zero_add, Nat.reduceAdd]
   rw [e0, e1, e3, e4, e6, e7, e9, e10]
   generalize vs 2 = u35_2
   generalize vs 5 = u35_5
   generalize vs 8 = u35_8
   generalize vs 11 = u35_11
   generalize vs 12 = u35_12
   clear e0 e1 e3 e4 e6 e7 e9 e10 hC hn E35 hL vs L nb
   obtain ⟨_, _, hc0, hf0⟩ := zBm (E.box 3 rfl)
   have hP0 := hf0
   obtain ⟨r0_p0, r0_q0, _, rfl, _r0_n0, r0_p1, r0_q1, _, rfl, _r0_n1, r0_p2, r0_q2, _, rfl, _r0_n2, r0_p3, r0_q3, _, rfl, _r0_n3, rfl⟩ := hf0
   have c0_0 := hc0 0 (by simp)
   have c0_1 := hc0 1 (by simp)
   have c0_2 := hc0 2 (by simp)
   have c0_3 := hc0 3 (by simp)
   have c0_4 := hc0 4 (by simp)
   have c0_5 := hc0 5 (by simp)
   have c0_6 := hc0 6 (by simp)
   have c0_7 := hc0 7 (by simp)
   simp only [List.getD_cons_zero, List.getD_cons_succ] at c0_0 c0_1 c0_2 c0_3 c0_4 c0_5 c0_6 c0_7
   clear hc0
   clear B6 B7 B8 B9 B10 B11 B12 B13 B14 B15 B16 B17 hx1 hx2 hx3 hx4 hy1 hy2 hy3 hy4
   go_wp2
   refine bodyPost_ret (v := .agg #[r0_p0, r0_q0, r0_p1, r0_q1, r0_p2, r0_q2, r0_p3, r0_q3]) ?_ rfl ⟨_, rfl, E.below, ⟨_, rfl, hP0⟩⟩
   simp [results, Tryz.results31, go_sem, c0_0, c0_1, c0_2, c0_3, c0_4, c0_5, c0_6, c0_7]

theorem zJ4 (args : Array Value) (w : World) : (callFunc 97 args).run Tryz.prog w = .ok (.enter 97 args) w := zAq Tryz.func97 (by kernel_rfl) rfl args w
theorem zJ5 (args : Array Value) (w : World) : (callFunc 73 args).run Tryz.prog w = .ok (.enter 73 args) w := zAq Tryz.func73 (by kernel_rfl) rfl args w
theorem zMv (args : Array Value) (w : World) : (callFunc 74 args).run Tryz.prog w = .ok (.enter 74 args) w := zAq Tryz.func74 (by kernel_rfl) rfl args w
theorem zPi : zCx 88 14 = true := by kernel_rfl
theorem zOe (w : World) : Fits w [.n 0, .n 0, .n 0, .n 0, .n 0, .n 0, .n 0] [.bool false, .slice none 0 0, .bool false, .slice none 0 0, .bool false, .slice none 0 0, .bool false, .slice none 0 0, .bool false, .slice none 0 0, .bool false, .slice none 0 0, .bool false, .slice none 0 0] := ⟨_, _, _, rfl, Num.zero w, _, _, _, rfl, Num.zero w, _, _, _, rfl, Num.zero w, _, _, _, rfl, Num.zero w, _, _, _, rfl, Num.zero w, _, _, _, rfl, Num.zero w, _, _, _, rfl, Num.zero w, rfl⟩
theorem zO4 {d : Option Tmp} {ty : TypeId} {ps : String} {af : Array Edge} (ρ : Operand → Value) (w : World) : (execOp ρ { dst := d, op := .alloc 88, type := ty, pos := ps, after := af, guard := none }).run Tryz.prog w = .ok (.value (.pointer (some ⟨w.heap.size, 0, none⟩))) (w.alloc (.cells [.bool false, .slice none 0 0, .bool false, .slice none 0 0, .bool false, .slice none 0 0, .bool false, .slice none 0 0, .bool false, .slice none 0 0, .bool false, .slice none 0 0, .bool false, .slice none 0 0].toArray 88)) := by
 simp [execOp, go_sem]
theorem bq_pre {w : World} {b : Nat} {x y z p q r s : Int} (h : Bq w b 14 (Fq.st [.n x, .n y, .n z, .n p, .n q, .n r, .n s])) : Bq w b 6 (Fq.st [.n x, .n y, .n z]) := by
 obtain ⟨us, hl, _, hat, ht, us', e, hfit⟩ := h
 obtain rfl : us = us' := zEx e
 have hf := hfit.first (k := 6) (gs := [.n x, .n y, .n z]) rfl
 refine ⟨us.take 6, by rw [List.length_take]; omega, by decide, fun j hj => ?_, fun u hu => ht u (List.mem_of_mem_take hu), us.take 6, rfl, hf⟩
 rw [List.length_take] at hj
 have := hat j (by omega)
 rw [List.getD_eq_getElem?_getD, List.getElem?_take_of_lt (by omega), ← List.getD_eq_getElem?_getD]
 exact this
def RB (S : RS) : Prop := (ab S.fa < pw 5 ∧ ab S.fb < pw 5 ∧ ab S.fc < pw 15) ∧ ab S.x1 < pw 30 ∧ ab S.x2 < pw 30 ∧ ab S.x3 < pw 30 ∧ ab S.x4 < pw 30
theorem rsh_a (S : RS) : qv S.fa S.fb S.fc 1 0 = (rsh S).fa := (Und.shift S.fa S.fb S.fc S.kk).ea.symm
theorem rsh_b (S : RS) : qm S.fa S.fb S.fc 1 ((S.fa - S.fb) / (2 * S.fa)) 0 1 = (rsh S).fb := (Und.shift S.fa S.fb S.fc S.kk).eb.symm
theorem rsh_c (S : RS) : qv S.fa S.fb S.fc ((S.fa - S.fb) / (2 * S.fa)) 1 = (rsh S).fc := (Und.shift S.fa S.fb S.fc S.kk).ec.symm
theorem rsw_a (S : RS) : qv S.fa S.fb S.fc 0 1 = (rsw S).fa := (Und.swap S.fa S.fb S.fc).ea.symm
theorem rsw_b (S : RS) : qm S.fa S.fb S.fc 0 (-1) 1 0 = (rsw S).fb := (Und.swap S.fa S.fb S.fc).eb.symm
theorem rsw_c (S : RS) : qv S.fa S.fb S.fc (-1) 0 = (rsw S).fc := (Und.swap S.fa S.fb S.fc).ec.symm
def PIn (a b c : Int) (P : RS) : Prop := ∃ S, RAt a b c S ∧ P = rsh S ∧ RIn a b c S.x1 S.x2 S.x3 S.x4 S.fa S.fb S.fc
theorem zI9 {S : RS} (h0 : 0 < S.fa) (hr : S.red = true) : rsh S = S := by
 have h := (zD9 h0).1 hr
 have hk : S.kk = 0 := by
  unfold RS.kk
  refine Int.ediv_eq_zero_of_lt ?_ ?_
  ·have := h.hi; omega
  ·have := h.lo; omega
 unfold rsh
 rw [hk]
 simp
theorem PIn.start {a b c : Int} (h0 : 0 < a) (hb : ab b < pw 5) (hc : ab c < pw 5) : PIn a b c (rsh ⟨1, 0, 0, 1, a, b, c⟩) := ⟨_, RAt.zero a b c, rfl, RIn.one h0 hb hc⟩
theorem PIn.red {a b c : Int} {P : RS} (h : PIn a b c P) (hr : P.red = true) : zCe a b c = P := by
 obtain ⟨S, hA, rfl, hI⟩ := h
 cases hs : S.red with
 | true => rw [zI9 hI.p hs]; exact zI5 hA hs
 | false =>
  have h2 := hA.next hs
  unfold zCl at h2
  rw [if_pos hr] at h2
  exact zI5 h2 hr
theorem PIn.at {a b c : Int} {P : RS} (h : PIn a b c P) (ha : ab a < pw 5) (hb : ab b < pw 5) (hc : ab c < pw 5) (hd : b * b - 4 * (a * c) < 0) : RB P ∧ 0 < P.fa ∧ RIn a b c P.x1 P.x2 P.x3 P.x4 P.fa P.fb P.fc ∧ -P.fa < P.fb ∧ P.fb ≤ P.fa := by
 obtain ⟨S, _, rfl, hI⟩ := h
 obtain ⟨h1, h2, h3⟩ := hI.shift ha hb hc hd (kk := S.kk) rfl rfl rfl
 exact ⟨h1.bds ha hc hd, h1.p, h1, h2, h3⟩
theorem PIn.next {a b c : Int} {P : RS} (h : PIn a b c P) (ha : ab a < pw 5) (hb : ab b < pw 5) (hc : ab c < pw 5) (hd : b * b - 4 * (a * c) < 0) (hr : P.red = false) : PIn a b c (rsh (rsw P)) ∧ RB (rsw P) ∧ 0 < (rsw P).fa ∧ 2 * (rsh (rsw P)).fa.natAbs + (if redB (rsh (rsw P)).fa (rsh (rsw P)).fb (rsh (rsw P)).fc = true then 0 else 1) < 2 * P.fa.natAbs + 1 := by
 obtain ⟨_, hp, hI, hm1, hm2⟩ := h.at ha hb hc hd
 obtain ⟨S, hA, rfl, hIS⟩ := h
 have hs : S.red = false := by
  cases hs : S.red with
  | false => rfl
  | true => rw [zI9 hIS.p hs, hs] at hr; cases hr
 have h2 := hA.next hs
 unfold zCl at h2
 rw [if_neg (by rw [hr]; decide)] at h2
 have hsw := zLy hp hm1 hm2 (fun e => by rw [show (rsh S).red = true from (zD9 hp).2 e] at hr; cases hr)
 have hle : (rsh S).fc ≤ (rsh S).fa := by rcases hsw with h | h <;> omega
 have hI2 := RIn.swap (fa := (rsh S).fa) (fb := (rsh S).fb) (fc := (rsh S).fc) hI ha hc hd hle
 have hp2 : 0 < (rsw (rsh S)).fa := hI2.p
 refine ⟨⟨_, h2, rfl, hI2⟩, hI2.bds ha hc hd, hp2, ?_⟩
 have e : (rsh (rsw (rsh S))).fa = (rsh S).fc := rfl
 rcases hsw with hl | ⟨he, _, hrd⟩
 ·rw [e]
  have : (rsw (rsh S)).fa = (rsh S).fc := rfl
  split <;> omega
 ·have hr2 : (rsw (rsh S)).red = true := (zD9 hp2).2 hrd
  have e2 : rsh (rsw (rsh S)) = rsw (rsh S) := zI9 hp2 hr2
  rw [show redB (rsh (rsw (rsh S))).fa (rsh (rsw (rsh S))).fb (rsh (rsw (rsh S))).fc = true by rw [e2]; exact hr2, if_pos rfl, e, he]
  omega
theorem zEt {a b c : Int} (hd : b * b - 4 * (a * c) < 0) (h0 : 0 < a) : redE a b c = 0 := by
 unfold redE
 rw [if_neg (fun x => by omega), zHt hd (by omega)]
theorem zHd {a b c : Int} (h : redE a b c = 0) : b * b - 4 * (a * c) < 0 ∧ 0 < a := by
 have h1 := zHe a b c
 rw [h] at h1
 have h2 := of_decide_eq_true (h1.trans (decide_eq_true rfl))
 have h3 := zKe h2.1
 omega
section
variable {os : List Oper} {Q : Exit → Act → World → Prop} {a : Act} {p : Pq} {B B0 : Nat} {w0 : World}
variable {i s : Nat} {d : Option Tmp} {ty : TypeId} {ps : String} {af : Array Edge} {gd : Option (Nat × Bool)}
theorem zOv {x0 : Operand} {z0 : Int} {x1 : Operand} {z1 : Int} {x3 : Operand} {z3 : Int} (hp : p.Ok B B0) (hF : p.Free i) (hg : GdQ os a p B B0 w0 af gd) (h0 : SrcQ os a p B B0 w0 af x0 fun v w => Num w v z0) (h1 : SrcQ os a p B B0 w0 af x1 fun v w => Num w v z1) (h3 : SrcQ os a p B B0 w0 af x3 fun v w => Num w v z3) (hC : ∀ v w, (Fq.st [.n z0, .n z1, .n 0, .n z3]).P v w → (p.c i).P v w) :
  zAr os Q a p B B0 w0 i { dst := d, op := .build 36 #[(0, x0), (1, x1), (3, x3)], type := ty, pos := ps, after := af, guard := gd } := by
 refine zBs hp hF hg fun L vs w hG hL hc hd => ?_
 have g0 := h0 L vs w hG hd
 obtain ⟨n0, ao0, k0, c0, e0⟩ := g0.parts
 have m0 : Num w (.agg #[.bool n0, .slice ao0 k0 c0]) z0 := by rw [← e0]; exact g0
 have g1 := h1 L vs w hG hd
 obtain ⟨n1, ao1, k1, c1, e1⟩ := g1.parts
 have m1 : Num w (.agg #[.bool n1, .slice ao1 k1 c1]) z1 := by rw [← e1]; exact g1
 have g3 := h3 L vs w hG hd
 obtain ⟨n3, ao3, k3, c3, e3⟩ := g3.parts
 have m3 : Num w (.agg #[.bool n3, .slice ao3 k3 c3]) z3 := by rw [← e3]; exact g3
 refine ⟨.agg #[.bool n0, .slice ao0 k0 c0, .bool n1, .slice ao1 k1 c1, .bool false, .slice none 0 0, .bool n3, .slice ao3 k3 c3], ?_, hC _ _ ⟨_, rfl, _, _, _, rfl, m0, _, _, _, rfl, m1, _, _, _, rfl, Num.zero w, _, _, _, rfl, m3, rfl⟩⟩
 generalize (lay os.toArray L vs os.toArray.size a).eval = ρ at e0 e1 e3
 simp [execOp, go_sem, e0, e1, e3]
theorem zOw {x0 : Operand} {z0 : Int} {x3 : Operand} {z3 : Int} (hp : p.Ok B B0) (hF : p.Free i) (hg : GdQ os a p B B0 w0 af gd) (h0 : SrcQ os a p B B0 w0 af x0 fun v w => Num w v z0) (h3 : SrcQ os a p B B0 w0 af x3 fun v w => Num w v z3) (hC : ∀ v w, (Fq.st [.n z0, .n 0, .n 0, .n z3]).P v w → (p.c i).P v w) :
  zAr os Q a p B B0 w0 i { dst := d, op := .build 36 #[(0, x0), (3, x3)], type := ty, pos := ps, after := af, guard := gd } := by
 refine zBs hp hF hg fun L vs w hG hL hc hd => ?_
 have g0 := h0 L vs w hG hd
 obtain ⟨n0, ao0, k0, c0, e0⟩ := g0.parts
 have m0 : Num w (.agg #[.bool n0, .slice ao0 k0 c0]) z0 := by rw [← e0]; exact g0
 have g3 := h3 L vs w hG hd
 obtain ⟨n3, ao3, k3, c3, e3⟩ := g3.parts
 have m3 : Num w (.agg #[.bool n3, .slice ao3 k3 c3]) z3 := by rw [← e3]; exact g3
 refine ⟨.agg #[.bool n0, .slice ao0 k0 c0, .bool false, .slice none 0 0, .bool false, .slice none 0 0, .bool n3, .slice ao3 k3 c3], ?_, hC _ _ ⟨_, rfl, _, _, _, rfl, m0, _, _, _, rfl, Num.zero w, _, _, _, rfl, Num.zero w, _, _, _, rfl, m3, rfl⟩⟩
 generalize (lay os.toArray L vs os.toArray.size a).eval = ρ at e0 e3
 simp [execOp, go_sem, e0, e3]
theorem zOx {x1 : Operand} {z1 : Int} {x2 : Operand} {z2 : Int} (hp : p.Ok B B0) (hF : p.Free i) (hg : GdQ os a p B B0 w0 af gd) (h1 : SrcQ os a p B B0 w0 af x1 fun v w => Num w v z1) (h2 : SrcQ os a p B B0 w0 af x2 fun v w => Num w v z2) (hC : ∀ v w, (Fq.st [.n 0, .n z1, .n z2, .n 0]).P v w → (p.c i).P v w) :
  zAr os Q a p B B0 w0 i { dst := d, op := .build 36 #[(1, x1), (2, x2)], type := ty, pos := ps, after := af, guard := gd } := by
 refine zBs hp hF hg fun L vs w hG hL hc hd => ?_
 have g1 := h1 L vs w hG hd
 obtain ⟨n1, ao1, k1, c1, e1⟩ := g1.parts
 have m1 : Num w (.agg #[.bool n1, .slice ao1 k1 c1]) z1 := by rw [← e1]; exact g1
 have g2 := h2 L vs w hG hd
 obtain ⟨n2, ao2, k2, c2, e2⟩ := g2.parts
 have m2 : Num w (.agg #[.bool n2, .slice ao2 k2 c2]) z2 := by rw [← e2]; exact g2
 refine ⟨.agg #[.bool false, .slice none 0 0, .bool n1, .slice ao1 k1 c1, .bool n2, .slice ao2 k2 c2, .bool false, .slice none 0 0], ?_, hC _ _ ⟨_, rfl, _, _, _, rfl, Num.zero w, _, _, _, rfl, m1, _, _, _, rfl, m2, _, _, _, rfl, Num.zero w, rfl⟩⟩
 generalize (lay os.toArray L vs os.toArray.size a).eval = ρ at e1 e2
 simp [execOp, go_sem, e1, e2]
theorem zOy {x0 : Operand} {z0_0 : Int} {z0_1 : Int} {z0_2 : Int} {x1 : Operand} {z1_0 : Int} {z1_1 : Int} {z1_2 : Int} {z1_3 : Int} (hp : p.Ok B B0) (hF : p.Free i) (hg : GdQ os a p B B0 w0 af gd) (h0 : SrcQ os a p B B0 w0 af x0 (Fq.st [.n z0_0, .n z0_1, .n z0_2]).P) (h1 : SrcQ os a p B B0 w0 af x1 (Fq.st [.n z1_0, .n z1_1, .n z1_2, .n z1_3]).P) (hC : ∀ v w, (Fq.st [.n z0_0, .n z0_1, .n z0_2, .n z1_0, .n z1_1, .n z1_2, .n z1_3]).P v w → (p.c i).P v w) :
  zAr os Q a p B B0 w0 i { dst := d, op := .build 88 #[(0, x0), (1, x1)], type := ty, pos := ps, after := af, guard := gd } := by
 refine zBs hp hF hg fun L vs w hG hL hc hd => ?_
 have g0 := h0 L vs w hG hd
 obtain ⟨_, e0, _, _, _, rfl, a0_n0, _, _, _, rfl, a0_n1, _, _, _, rfl, a0_n2, rfl⟩ := g0
 obtain ⟨n0_0, ao0_0, k0_0, c0_0, e0_0⟩ := a0_n0.parts
 have m0_0 := a0_n0
 rw [e0_0] at m0_0
 obtain ⟨n0_1, ao0_1, k0_1, c0_1, e0_1⟩ := a0_n1.parts
 have m0_1 := a0_n1
 rw [e0_1] at m0_1
 obtain ⟨n0_2, ao0_2, k0_2, c0_2, e0_2⟩ := a0_n2.parts
 have m0_2 := a0_n2
 rw [e0_2] at m0_2
 injection e0_0 with f0_0
 have f0_0 := congrArg Array.toList f0_0
 simp at f0_0
 obtain ⟨rfl, rfl⟩ := f0_0
 injection e0_1 with f0_1
 have f0_1 := congrArg Array.toList f0_1
 simp at f0_1
 obtain ⟨rfl, rfl⟩ := f0_1
 injection e0_2 with f0_2
 have f0_2 := congrArg Array.toList f0_2
 simp at f0_2
 obtain ⟨rfl, rfl⟩ := f0_2
 have g1 := h1 L vs w hG hd
 obtain ⟨_, e1, _, _, _, rfl, a1_n0, _, _, _, rfl, a1_n1, _, _, _, rfl, a1_n2, _, _, _, rfl, a1_n3, rfl⟩ := g1
 obtain ⟨n1_0, ao1_0, k1_0, c1_0, e1_0⟩ := a1_n0.parts
 have m1_0 := a1_n0
 rw [e1_0] at m1_0
 obtain ⟨n1_1, ao1_1, k1_1, c1_1, e1_1⟩ := a1_n1.parts
 have m1_1 := a1_n1
 rw [e1_1] at m1_1
 obtain ⟨n1_2, ao1_2, k1_2, c1_2, e1_2⟩ := a1_n2.parts
 have m1_2 := a1_n2
 rw [e1_2] at m1_2
 obtain ⟨n1_3, ao1_3, k1_3, c1_3, e1_3⟩ := a1_n3.parts
 have m1_3 := a1_n3
 rw [e1_3] at m1_3
 injection e1_0 with f1_0
 have f1_0 := congrArg Array.toList f1_0
 simp at f1_0
 obtain ⟨rfl, rfl⟩ := f1_0
 injection e1_1 with f1_1
 have f1_1 := congrArg Array.toList f1_1
 simp at f1_1
 obtain ⟨rfl, rfl⟩ := f1_1
 injection e1_2 with f1_2
 have f1_2 := congrArg Array.toList f1_2
 simp at f1_2
 obtain ⟨rfl, rfl⟩ := f1_2
 injection e1_3 with f1_3
 have f1_3 := congrArg Array.toList f1_3
 simp at f1_3
 obtain ⟨rfl, rfl⟩ := f1_3
 refine ⟨.agg #[.bool n0_0, .slice ao0_0 k0_0 c0_0, .bool n0_1, .slice ao0_1 k0_1 c0_1, .bool n0_2, .slice ao0_2 k0_2 c0_2, .bool n1_0, .slice ao1_0 k1_0 c1_0, .bool n1_1, .slice ao1_1 k1_1 c1_1, .bool n1_2, .slice ao1_2 k1_2 c1_2, .bool n1_3, .slice ao1_3 k1_3 c1_3], ?_, hC _ _ ⟨_, rfl, _, _, _, rfl, m0_0, _, _, _, rfl, m0_1, _, _, _, rfl, m0_2, _, _, _, rfl, m1_0, _, _, _, rfl, m1_1, _, _, _, rfl, m1_2, _, _, _, rfl, m1_3, rfl⟩⟩
 generalize (lay os.toArray L vs os.toArray.size a).eval = ρ at e0 e1
 simp [execOp, go_sem, e0, e1]
end
set_option maxRecDepth 100000 in
set_option maxHeartbeats 4000000 in
theorem zM0 {wb w : World} {v : Value} {b : Nat} {bo1 mo1 bo2 mo2 bo3 mo3 : Nat} {Fo1 Fo2 Fo3 : Fq} {fa fb fc x1 x2 x3 x4 y1 y2 y3 y4 : Int} (E : Fr wb [(b, 14, Fq.st [.n fa, .n fb, .n fc, .n x1, .n x2, .n x3, .n x4]), (bo1, mo1, Fo1), (bo2, mo2, Fo2), (bo3, mo3, Fo3)] w) (h : (Fq.st [.n y1, .n y2, .n y3, .n y4]).P v w) (hS : ab fa < pw 60 ∧ ab fb < pw 60 ∧ ab fc < pw 60 ∧ ab x1 < pw 60 ∧ ab x2 < pw 60 ∧ ab x3 < pw 60 ∧ ab x4 < pw 60) (hY : ab y1 < pw 60 ∧ ab y2 < pw 60 ∧ ab y3 < pw 60 ∧ ab y4 < pw 60) :
  Calls Tryz.prog 97 #[.pointer (some ⟨b, 0, none⟩), v] w fun e w' => ∃ v', e = .returned v' ∧ Fr wb [(b, 14, Fq.st [.n (qv fa fb fc y1 y3), .n (qm fa fb fc y1 y2 y3 y4), .n (qv fa fb fc y2 y4), .n ((x1 * y1) + (x2 * y3)), .n ((x1 * y2) + (x2 * y4)), .n ((x3 * y1) + (x4 * y3)), .n ((x3 * y2) + (x4 * y4))]), (bo1, mo1, Fo1), (bo2, mo2, Fo2), (bo3, mo3, Fo3)] w' := by
 replace hS := hidd hS
 replace hY := hidd hY
 obtain ⟨k0, hs0⟩ : ∃ k, w.heap.size = k := ⟨_, rfl⟩
 obtain ⟨_, rfl, hf1⟩ := h
 have hF1 := hf1
 obtain ⟨y1_p0, y1_q0, _, rfl, _y1_n0, y1_p1, y1_q1, _, rfl, _y1_n1, y1_p2, y1_q2, _, rfl, _y1_n2, y1_p3, y1_q3, _, rfl, _y1_n3, rfl⟩ := hf1
 obtain ⟨w1, b1, hw1, hb1, hs1, E⟩ := zDf E hs0 (F := Fq.st [.n y1, .n y2, .n y3, .n y4]) (us := [y1_p0, y1_q0, y1_p1, y1_q1, y1_p2, y1_q2, y1_p3, y1_q3]) 36 rfl (by simp) hF1.tame (show (Fq.st [.n y1, .n y2, .n y3, .n y4]).P _ w from ⟨_, rfl, hF1⟩)
 go_enter Tryz.func97, Tryz.ntmps97
 go_upto_region 1 with (fail)
 rw [← hw1]
 rw [← hb1]
 clear hw1 hb1 hs1 hs0
 refine rg [ip b 0, ip b 0, ip b 0, ip b 0, Fq.st [.n fa, .n fb, .n fc], Fq.st [.n y1, .n y2, .n y3, .n y4], Fq.st [.n (qv fa fb fc y1 y3), .n (qm fa fb fc y1 y2 y3 y4), .n (qv fa fb fc y2 y4)], ip b 0, ip b 0, Fq.any] [none, some (9, Fq.st [.n (qv fa fb fc y1 y3), .n (qm fa fb fc y1 y2 y3 y4), .n (qv fa fb fc y2 y4), .n x1, .n x2, .n x3, .n x4]), none, none, none] [] E (fun hp => ⟨?_, ?_, ?_, ?_, ?_, ?_, ?_, ?_, ?_, ?_, tv⟩) ?_
 ·exact zAa hp fo tv (sqo 0)
 ·exact zAa hp fo tv (sqo 0)
 ·exact zAf (F := fun v _ => v = .pointer (some ⟨b, 0, none⟩)) hp fo tv (sqi 1) (fun ρ w hc h => ⟨.pointer (some ⟨b, 0, none⟩), by simp [execOp, go_sem, h], rfl⟩)
 ·exact qa b 0 0 hp (sqi 2)
 ·exact zD8 (off := 0) (l := 6) hp fo tv (mq 1 rfl) (.inr rfl) rfl zAm rfl (sqi 3) (fun v w h => h)
 ·exact lS 0 8 hp (mq 0 rfl) zCw (sqo 3)
 ·exact wXb (Fq.st [.n fa, .n fb, .n fc]) (Fq.st [.n y1, .n y2, .n y3, .n y4]) hp zJ2 (sqi 4) (sqi 5) fun v v' w h h' => zJ8 h h' (Int.lt_of_lt_of_le hS.out.1 (zAb (by omega))) (Int.lt_of_lt_of_le hS.out.2.1 (zAb (by omega))) (Int.lt_of_lt_of_le hS.out.2.2.1 (zAb (by omega))) (Int.lt_of_lt_of_le hY.out.1 (zAb (by omega))) (Int.lt_of_lt_of_le hY.out.2.1 (zAb (by omega))) (Int.lt_of_lt_of_le hY.out.2.2.1 (zAb (by omega))) (Int.lt_of_lt_of_le hY.out.2.2.2 (zAb (by omega)))
 ·exact zAf (F := fun v _ => v = .pointer (some ⟨b, 0, none⟩)) hp fo tv (sqi 0) (fun ρ w hc h => ⟨.pointer (some ⟨b, 0, none⟩), by simp [execOp, go_sem, h], rfl⟩)
 ·exact qa b 0 0 hp (sqi 7)
 ·exact zDu (off := 0) (fs := [.n fa, .n fb, .n fc, .n x1, .n x2, .n x3, .n x4]) (gs := [.n (qv fa fb fc y1 y3), .n (qm fa fb fc y1 y2 y3 y4), .n (qv fa fb fc y2 y4)]) (fs' := [.n (qv fa fb fc y1 y3), .n (qm fa fb fc y1 y2 y3 y4), .n (qv fa fb fc y2 y4), .n x1, .n x2, .n x3, .n x4]) hp (mq 1 rfl) rfl rfl rfl zA7 rfl (sqi 8) (zBw 6 rfl rfl (by simp) rfl (fun v w h => zFb h)) (fun _ _ => trivial) (zB7 rfl)
 intro L vs w2 nb hL hC hn E2
 have e0 := wXi hC 0
 have e1 := wXi hC 1
 have e2 := wXi hC 2
 have e3 := wXi hC 3
 have e7 := wXi hC 7
 have e8 := wXi hC 8
 have E := E2; try simp only [LM, zAd] at E
 rw [zAe hL]
 simp only [SP, Nat.zero_add, Nat.reduceAdd]
 rw [e0, e1, e2, e3, e7, e8]
 generalize vs 4 = u2_4
 generalize vs 5 = u2_5
 generalize vs 6 = u2_6
 clear e0 e1 e2 e3 e7 e8 hC hn E2 hL vs L nb
 go_upto_region 2 with (fail)
 refine rg [ip b 0, ip b 0, ip b 0, ip b 6, Fq.st [.n x1, .n x2, .n x3, .n x4], Fq.st [.n y1, .n y2, .n y3, .n y4], Fq.st [.n ((x1 * y1) + (x2 * y3)), .n ((x1 * y2) + (x2 * y4)), .n ((x3 * y1) + (x4 * y3)), .n ((x3 * y2) + (x4 * y4))], ip b 0, ip b 6, Fq.any] [none, some (9, Fq.st [.n (qv fa fb fc y1 y3), .n (qm fa fb fc y1 y2 y3 y4), .n (qv fa fb fc y2 y4), .n ((x1 * y1) + (x2 * y3)), .n ((x1 * y2) + (x2 * y4)), .n ((x3 * y1) + (x4 * y3)), .n ((x3 * y2) + (x4 * y4))]), none, none, none] [] E (fun hp => ⟨?_, ?_, ?_, ?_, ?_, ?_, ?_, ?_, ?_, ?_, tv⟩) ?_
 ·exact zAa hp fo tv (sqo 0)
 ·exact zAa hp fo tv (sqo 0)
 ·exact zAf (F := fun v _ => v = .pointer (some ⟨b, 0, none⟩)) hp fo tv (sqi 1) (fun ρ w hc h => ⟨.pointer (some ⟨b, 0, none⟩), by simp [execOp, go_sem, h], rfl⟩)
 ·exact qa b 0 6 hp (sqi 2)
 ·exact zD8 (off := 6) (l := 8) hp fo tv (mq 1 rfl) (.inr rfl) rfl zCw rfl (sqi 3) (fun v w h => h)
 ·exact lS 0 8 hp (mq 0 rfl) zCw (sqo 3)
 ·exact wXb (Fq.st [.n x1, .n x2, .n x3, .n x4]) (Fq.st [.n y1, .n y2, .n y3, .n y4]) hp zH5 (sqi 4) (sqi 5) fun v v' w h h' => zIc h h' (Int.lt_of_lt_of_le hS.out.2.2.2.1 (zAb (by omega))) (Int.lt_of_lt_of_le hS.out.2.2.2.2.1 (zAb (by omega))) (Int.lt_of_lt_of_le hS.out.2.2.2.2.2.1 (zAb (by omega))) (Int.lt_of_lt_of_le hS.out.2.2.2.2.2.2 (zAb (by omega))) (Int.lt_of_lt_of_le hY.out.1 (zAb (by omega))) (Int.lt_of_lt_of_le hY.out.2.1 (zAb (by omega))) (Int.lt_of_lt_of_le hY.out.2.2.1 (zAb (by omega))) (Int.lt_of_lt_of_le hY.out.2.2.2 (zAb (by omega)))
 ·exact zAf (F := fun v _ => v = .pointer (some ⟨b, 0, none⟩)) hp fo tv (sqi 0) (fun ρ w hc h => ⟨.pointer (some ⟨b, 0, none⟩), by simp [execOp, go_sem, h], rfl⟩)
 ·exact qa b 0 6 hp (sqi 7)
 ·exact zDu (off := 6) (fs := [.n (qv fa fb fc y1 y3), .n (qm fa fb fc y1 y2 y3 y4), .n (qv fa fb fc y2 y4), .n x1, .n x2, .n x3, .n x4]) (gs := [.n ((x1 * y1) + (x2 * y3)), .n ((x1 * y2) + (x2 * y4)), .n ((x3 * y1) + (x4 * y3)), .n ((x3 * y2) + (x4 * y4))]) (fs' := [.n (qv fa fb fc y1 y3), .n (qm fa fb fc y1 y2 y3 y4), .n (qv fa fb fc y2 y4), .n ((x1 * y1) + (x2 * y3)), .n ((x1 * y2) + (x2 * y4)), .n ((x3 * y1) + (x4 * y3)), .n ((x3 * y2) + (x4 * y4))]) hp (mq 1 rfl) rfl rfl rfl zBz rfl (sqi 8) (zBw 6 rfl rfl (by simp) rfl (fun v w h => zFb h)) (fun _ _ => trivial) (zB7 rfl)
 intro L vs w3 nb hL hC hn E3
 have e0 := wXi hC 0
 have e1 := wXi hC 1
 have e2 := wXi hC 2
 have e3 := wXi hC 3
 have e7 := wXi hC 7
 have e8 := wXi hC 8
 have E := E3; try simp only [LM, zAd] at E
 rw [zAe hL]
 simp only [SP, Nat.zero_add, Nat.reduceAdd]
 rw [e0, e1, e2, e3, e7, e8]
 generalize vs 4 = u3_4
 generalize vs 5 = u3_5
 generalize vs 6 = u3_6
 clear e0 e1 e2 e3 e7 e8 hC hn E3 hL vs L nb
 clear hS hY
 exact bodyPost_end (results_none rfl _ _ _) rfl ⟨_, rfl, E.drop⟩

set_option maxRecDepth 100000 in
set_option maxHeartbeats 4000000 in
theorem zM1 {wb w : World} {v : Value} {b : Nat} {p1 q1 : Nat} {P1 : Fq} {p2 q2 : Nat} {P2 : Fq} {bo1 mo1 bo2 mo2 bo3 mo3 : Nat} {Fo1 Fo2 Fo3 : Fq} {fa fb fc x1 x2 x3 x4 y1 y2 y3 y4 : Int} (E : Fr wb [(p1, q1, P1), (p2, q2, P2), (b, 14, Fq.st [.n fa, .n fb, .n fc, .n x1, .n x2, .n x3, .n x4]), (bo1, mo1, Fo1), (bo2, mo2, Fo2), (bo3, mo3, Fo3)] w) (h : (Fq.st [.n y1, .n y2, .n y3, .n y4]).P v w) (hS : ab fa < pw 60 ∧ ab fb < pw 60 ∧ ab fc < pw 60 ∧ ab x1 < pw 60 ∧ ab x2 < pw 60 ∧ ab x3 < pw 60 ∧ ab x4 < pw 60) (hY : ab y1 < pw 60 ∧ ab y2 < pw 60 ∧ ab y3 < pw 60 ∧ ab y4 < pw 60) :
  Calls Tryz.prog 97 #[.pointer (some ⟨b, 0, none⟩), v] w fun e w' => ∃ v', e = .returned v' ∧ Fr wb [(p1, q1, P1), (p2, q2, P2), (b, 14, Fq.st [.n (qv fa fb fc y1 y3), .n (qm fa fb fc y1 y2 y3 y4), .n (qv fa fb fc y2 y4), .n ((x1 * y1) + (x2 * y3)), .n ((x1 * y2) + (x2 * y4)), .n ((x3 * y1) + (x4 * y3)), .n ((x3 * y2) + (x4 * y4))]), (bo1, mo1, Fo1), (bo2, mo2, Fo2), (bo3, mo3, Fo3)] w' := by
 replace hS := hidd hS
 replace hY := hidd hY
 obtain ⟨k0, hs0⟩ : ∃ k, w.heap.size = k := ⟨_, rfl⟩
 obtain ⟨_, rfl, hf1⟩ := h
 have hF1 := hf1
 obtain ⟨y1_p0, y1_q0, _, rfl, _y1_n0, y1_p1, y1_q1, _, rfl, _y1_n1, y1_p2, y1_q2, _, rfl, _y1_n2, y1_p3, y1_q3, _, rfl, _y1_n3, rfl⟩ := hf1
 obtain ⟨w1, b1, hw1, hb1, hs1, E⟩ := zDf E hs0 (F := Fq.st [.n y1, .n y2, .n y3, .n y4]) (us := [y1_p0, y1_q0, y1_p1, y1_q1, y1_p2, y1_q2, y1_p3, y1_q3]) 36 rfl (by simp) hF1.tame (show (Fq.st [.n y1, .n y2, .n y3, .n y4]).P _ w from ⟨_, rfl, hF1⟩)
 go_enter Tryz.func97, Tryz.ntmps97
 go_upto_region 1 with (fail)
 rw [← hw1]
 rw [← hb1]
 clear hw1 hb1 hs1 hs0
 refine rg [ip b 0, ip b 0, ip b 0, ip b 0, Fq.st [.n fa, .n fb, .n fc], Fq.st [.n y1, .n y2, .n y3, .n y4], Fq.st [.n (qv fa fb fc y1 y3), .n (qm fa fb fc y1 y2 y3 y4), .n (qv fa fb fc y2 y4)], ip b 0, ip b 0, Fq.any] [none, none, none, some (9, Fq.st [.n (qv fa fb fc y1 y3), .n (qm fa fb fc y1 y2 y3 y4), .n (qv fa fb fc y2 y4), .n x1, .n x2, .n x3, .n x4]), none, none, none] [] E (fun hp => ⟨?_, ?_, ?_, ?_, ?_, ?_, ?_, ?_, ?_, ?_, tv⟩) ?_
 ·exact zAa hp fo tv (sqo 0)
 ·exact zAa hp fo tv (sqo 0)
 ·exact zAf (F := fun v _ => v = .pointer (some ⟨b, 0, none⟩)) hp fo tv (sqi 1) (fun ρ w hc h => ⟨.pointer (some ⟨b, 0, none⟩), by simp [execOp, go_sem, h], rfl⟩)
 ·exact qa b 0 0 hp (sqi 2)
 ·exact zD8 (off := 0) (l := 6) hp fo tv (mq 3 rfl) (.inr rfl) rfl zAm rfl (sqi 3) (fun v w h => h)
 ·exact lS 0 8 hp (mq 0 rfl) zCw (sqo 3)
 ·exact wXb (Fq.st [.n fa, .n fb, .n fc]) (Fq.st [.n y1, .n y2, .n y3, .n y4]) hp zJ2 (sqi 4) (sqi 5) fun v v' w h h' => zJ8 h h' (Int.lt_of_lt_of_le hS.out.1 (zAb (by omega))) (Int.lt_of_lt_of_le hS.out.2.1 (zAb (by omega))) (Int.lt_of_lt_of_le hS.out.2.2.1 (zAb (by omega))) (Int.lt_of_lt_of_le hY.out.1 (zAb (by omega))) (Int.lt_of_lt_of_le hY.out.2.1 (zAb (by omega))) (Int.lt_of_lt_of_le hY.out.2.2.1 (zAb (by omega))) (Int.lt_of_lt_of_le hY.out.2.2.2 (zAb (by omega)))
 ·exact zAf (F := fun v _ => v = .pointer (some ⟨b, 0, none⟩)) hp fo tv (sqi 0) (fun ρ w hc h => ⟨.pointer (some ⟨b, 0, none⟩), by simp [execOp, go_sem, h], rfl⟩)
 ·exact qa b 0 0 hp (sqi 7)
 ·exact zDu (off := 0) (fs := [.n fa, .n fb, .n fc, .n x1, .n x2, .n x3, .n x4]) (gs := [.n (qv fa fb fc y1 y3), .n (qm fa fb fc y1 y2 y3 y4), .n (qv fa fb fc y2 y4)]) (fs' := [.n (qv fa fb fc y1 y3), .n (qm fa fb fc y1 y2 y3 y4), .n (qv fa fb fc y2 y4), .n x1, .n x2, .n x3, .n x4]) hp (mq 3 rfl) rfl rfl rfl zA7 rfl (sqi 8) (zBw 6 rfl rfl (by simp) rfl (fun v w h => zFb h)) (fun _ _ => trivial) (zB7 rfl)
 intro L vs w2 nb hL hC hn E2
 have e0 := wXi hC 0
 have e1 := wXi hC 1
 have e2 := wXi hC 2
 have e3 := wXi hC 3
 have e7 := wXi hC 7
 have e8 := wXi hC 8
 have E := E2; try simp only [LM, zAd] at E
 rw [zAe hL]
 simp only [SP, Nat.zero_add, Nat.reduceAdd]
 rw [e0, e1, e2, e3, e7, e8]
 generalize vs 4 = u2_4
 generalize vs 5 = u2_5
 generalize vs 6 = u2_6
 clear e0 e1 e2 e3 e7 e8 hC hn E2 hL vs L nb
 go_upto_region 2 with (fail)
 refine rg [ip b 0, ip b 0, ip b 0, ip b 6, Fq.st [.n x1, .n x2, .n x3, .n x4], Fq.st [.n y1, .n y2, .n y3, .n y4], Fq.st [.n ((x1 * y1) + (x2 * y3)), .n ((x1 * y2) + (x2 * y4)), .n ((x3 * y1) + (x4 * y3)), .n ((x3 * y2) + (x4 * y4))], ip b 0, ip b 6, Fq.any] [none, none, none, some (9, Fq.st [.n (qv fa fb fc y1 y3), .n (qm fa fb fc y1 y2 y3 y4), .n (qv fa fb fc y2 y4), .n ((x1 * y1) + (x2 * y3)), .n ((x1 * y2) + (x2 * y4)), .n ((x3 * y1) + (x4 * y3)), .n ((x3 * y2) + (x4 * y4))]), none, none, none] [] E (fun hp => ⟨?_, ?_, ?_, ?_, ?_, ?_, ?_, ?_, ?_, ?_, tv⟩) ?_
 ·exact zAa hp fo tv (sqo 0)
 ·exact zAa hp fo tv (sqo 0)
 ·exact zAf (F := fun v _ => v = .pointer (some ⟨b, 0, none⟩)) hp fo tv (sqi 1) (fun ρ w hc h => ⟨.pointer (some ⟨b, 0, none⟩), by simp [execOp, go_sem, h], rfl⟩)
 ·exact qa b 0 6 hp (sqi 2)
 ·exact zD8 (off := 6) (l := 8) hp fo tv (mq 3 rfl) (.inr rfl) rfl zCw rfl (sqi 3) (fun v w h => h)
 ·exact lS 0 8 hp (mq 0 rfl) zCw (sqo 3)
 ·exact wXb (Fq.st [.n x1, .n x2, .n x3, .n x4]) (Fq.st [.n y1, .n y2, .n y3, .n y4]) hp zH5 (sqi 4) (sqi 5) fun v v' w h h' => zIc h h' (Int.lt_of_lt_of_le hS.out.2.2.2.1 (zAb (by omega))) (Int.lt_of_lt_of_le hS.out.2.2.2.2.1 (zAb (by omega))) (Int.lt_of_lt_of_le hS.out.2.2.2.2.2.1 (zAb (by omega))) (Int.lt_of_lt_of_le hS.out.2.2.2.2.2.2 (zAb (by omega))) (Int.lt_of_lt_of_le hY.out.1 (zAb (by omega))) (Int.lt_of_lt_of_le hY.out.2.1 (zAb (by omega))) (Int.lt_of_lt_of_le hY.out.2.2.1 (zAb (by omega))) (Int.lt_of_lt_of_le hY.out.2.2.2 (zAb (by omega)))
 ·exact zAf (F := fun v _ => v = .pointer (some ⟨b, 0, none⟩)) hp fo tv (sqi 0) (fun ρ w hc h => ⟨.pointer (some ⟨b, 0, none⟩), by simp [execOp, go_sem, h], rfl⟩)
 ·exact qa b 0 6 hp (sqi 7)
 ·exact zDu (off := 6) (fs := [.n (qv fa fb fc y1 y3), .n (qm fa fb fc y1 y2 y3 y4), .n (qv fa fb fc y2 y4), .n x1, .n x2, .n x3, .n x4]) (gs := [.n ((x1 * y1) + (x2 * y3)), .n ((x1 * y2) + (x2 * y4)), .n ((x3 * y1) + (x4 * y3)), .n ((x3 * y2) + (x4 * y4))]) (fs' := [.n (qv fa fb fc y1 y3), .n (qm fa fb fc y1 y2 y3 y4), .n (qv fa fb fc y2 y4), .n ((x1 * y1) + (x2 * y3)), .n ((x1 * y2) + (x2 * y4)), .n ((x3 * y1) + (x4 * y3)), .n ((x3 * y2) + (x4 * y4))]) hp (mq 3 rfl) rfl rfl rfl zBz rfl (sqi 8) (zBw 6 rfl rfl (by simp) rfl (fun v w h => zFb h)) (fun _ _ => trivial) (zB7 rfl)
 intro L vs w3 nb hL hC hn E3
 have e0 := wXi hC 0
 have e1 := wXi hC 1
 have e2 := wXi hC 2
 have e3 := wXi hC 3
 have e7 := wXi hC 7
 have e8 := wXi hC 8
 have E := E3; try simp only [LM, zAd] at E
 rw [zAe hL]
 simp only [SP, Nat.zero_add, Nat.reduceAdd]
 rw [e0, e1, e2, e3, e7, e8]
 generalize vs 4 = u3_4
 generalize vs 5 = u3_5
 generalize vs 6 = u3_6
 clear e0 e1 e2 e3 e7 e8 hC hn E3 hL vs L nb
 clear hS hY
 exact bodyPost_end (results_none rfl _ _ _) rfl ⟨_, rfl, E.drop⟩

set_option maxRecDepth 100000 in
set_option maxHeartbeats 4000000 in
theorem exPSwap {wb w : World} {b : Nat} {bo1 mo1 bo2 mo2 bo3 mo3 : Nat} {Fo1 Fo2 Fo3 : Fq} {S : RS} (E : Fr wb [(b, 14, Fq.st [.n S.fa, .n S.fb, .n S.fc, .n S.x1, .n S.x2, .n S.x3, .n S.x4]), (bo1, mo1, Fo1), (bo2, mo2, Fo2), (bo3, mo3, Fo3)] w) (hB : RB S) :
  Calls Tryz.prog 74 #[.pointer (some ⟨b, 0, none⟩)] w fun e w' => ∃ v', e = .returned v' ∧ Fr wb [(b, 14, Fq.st [.n ((rsw S).fa), .n ((rsw S).fb), .n ((rsw S).fc), .n ((rsw S).x1), .n ((rsw S).x2), .n ((rsw S).x3), .n ((rsw S).x4)]), (bo1, mo1, Fo1), (bo2, mo2, Fo2), (bo3, mo3, Fo3)] w' := by
 replace hB := hidd hB
 go_enter Tryz.func74, Tryz.ntmps74
 go_upto_region 0 with (fail)
 have B1 : Hid (ab ((-1)) < pw 3) := zBh (by decide)
 have B2 : Hid (ab ((1)) < pw 3) := zBh (by decide)
 refine zF5 (C := [Fq.is (.pointer (some ⟨b, 0, none⟩)), Fq.num (-1), Fq.num (1), Fq.st [.n 0, .n (-1), .n (1), .n 0], Fq.any]) (ks := [none, none, none, none]) (bs' := [(b, 14, Fq.st [.n ((rsw S).fa), .n ((rsw S).fb), .n ((rsw S).fc), .n ((rsw S).x1), .n ((rsw S).x2), .n ((rsw S).x3), .n ((rsw S).x4)]), (bo1, mo1, Fo1), (bo2, mo2, Fo2), (bo3, mo3, Fo3)]) 4 rfl rfl E rfl rfl (by kernel_rfl) rfl rfl rfl (fun hp => ⟨?_, ?_, ?_, ?_, tv⟩) ?_ ?_
 ·exact zAa hp fo tv (sqo 0)
 ·exact zAn (F := (Fq.is (.int .i64 (-1))).P) hp fo tv (zC1) (zAj (fun _ => rfl)) (fun v w h => (by subst h; exact OfK w (-1) (by omega) (by omega)))
 ·exact zAn (F := (Fq.is (.int .i64 1)).P) hp fo tv (zC1) (zAj (fun _ => rfl)) (fun v w h => (by subst h; exact OfK w (1) (by omega) (by omega)))
 ·exact zOx (z1 := (-1)) (z2 := (1)) hp fo tv (sqi 1) (sqi 2) (fun v w h => h)
 ·intro hp; exact zLh (G := (Fq.st [.n 0, .n (-1), .n (1), .n 0]).P) (zJ4) (sqi 0) (sqi 3) trivial (fun v w E h => (by have hh := zM0 E h ⟨(Int.lt_of_lt_of_le hB.out.1.1 (zAb (by omega))), (Int.lt_of_lt_of_le hB.out.1.2.1 (zAb (by omega))), (Int.lt_of_lt_of_le hB.out.1.2.2 (zAb (by omega))), (Int.lt_of_lt_of_le hB.out.2.1 (zAb (by omega))), (Int.lt_of_lt_of_le hB.out.2.2.1 (zAb (by omega))), (Int.lt_of_lt_of_le hB.out.2.2.2.1 (zAb (by omega))), (Int.lt_of_lt_of_le hB.out.2.2.2.2 (zAb (by omega)))⟩ ⟨(Int.lt_of_lt_of_le (zBh (by decide)) (zAb (by omega))), (Int.lt_of_lt_of_le (zBh (by decide)) (zAb (by omega))), (Int.lt_of_lt_of_le (zBh (by decide)) (zAb (by omega))), (Int.lt_of_lt_of_le (zBh (by decide)) (zAb (by omega)))⟩; rw [rsw_a, rsw_b, rsw_c] at hh; exact hh))
 intro L vs w3 hL E3
 have E := E3; try simp only [LM, zAd] at E
 rw [zAe hL]
 simp only [SP, Nat.zero_add, Nat.reduceAdd]
 generalize vs 0 = u3_0
 generalize vs 1 = u3_1
 generalize vs 2 = u3_2
 generalize vs 3 = u3_3
 generalize vs 4 = u3_4
 clear E3 hL vs L
 clear B1 B2 hB
 exact bodyPost_end (results_none rfl _ _ _) rfl ⟨_, rfl, E⟩

set_option maxRecDepth 100000 in
set_option maxHeartbeats 4000000 in
theorem zJ9 {wb w : World} {b : Nat} {bo1 mo1 bo2 mo2 bo3 mo3 : Nat} {Fo1 Fo2 Fo3 : Fq} {S : RS} (E : Fr wb [(b, 14, Fq.st [.n S.fa, .n S.fb, .n S.fc, .n S.x1, .n S.x2, .n S.x3, .n S.x4]), (bo1, mo1, Fo1), (bo2, mo2, Fo2), (bo3, mo3, Fo3)] w) (hB : RB S) (h0 : 0 < S.fa) :
  Calls Tryz.prog 73 #[.pointer (some ⟨b, 0, none⟩)] w fun e w' => ∃ v', e = .returned v' ∧ Fr wb [(b, 14, Fq.st [.n ((rsh S).fa), .n ((rsh S).fb), .n ((rsh S).fc), .n ((rsh S).x1), .n ((rsh S).x2), .n ((rsh S).x3), .n ((rsh S).x4)]), (bo1, mo1, Fo1), (bo2, mo2, Fo2), (bo3, mo3, Fo3)] w' := by
 replace hB := hidd hB
 have HNE : Hid (2 * S.fa ≠ 0) := by show _ ≠ _; omega
 have BQ : Hid (ab ((S.fa - S.fb) / (2 * S.fa)) < pw 15) := ediv_ab (zDp hB.out.1.1 hB.out.1.2.1 (by omega) (by omega))
 clear h0
 go_enter Tryz.func73, Tryz.ntmps73
 go_upto_region 0 with (fail)
 have B1 : Hid (ab ((S.fa - S.fb)) < pw 6) := zDp hB.out.1.1 hB.out.1.2.1 (by omega) (by omega)
 have B2 : Hid (ab ((2 * S.fa)) < pw 8) := Int.lt_of_lt_of_le (zBi (zAs (x := 2) (by decide) (by decide)) hB.out.1.1) (zAb (by omega))
 have B3 : Hid (ab (((S.fa - S.fb) % (2 * S.fa))) < pw 8) := zEw HNE.out B2.out
 refine rg [ip b 0, ip b 0, ip b 0, ip b 0, Fq.num S.fa, ip b 0, ip b 0, ip b 0, ip b 2, Fq.num S.fb, Fq.num (S.fa - S.fb), ip b 0, ip b 0, ip b 0, ip b 0, Fq.num S.fa, Fq.num (2 * S.fa), Fq.tup3 (Fq.num ((S.fa - S.fb) / (2 * S.fa))) (Fq.num ((S.fa - S.fb) % (2 * S.fa))) (Fq.is (.int .i64 0)), Fq.tup3 (Fq.num ((S.fa - S.fb) / (2 * S.fa))) (Fq.num ((S.fa - S.fb) % (2 * S.fa))) (Fq.is (.int .i64 0)), Fq.num ((S.fa - S.fb) / (2 * S.fa)), Fq.num ((S.fa - S.fb) % (2 * S.fa)), Fq.is (.int .i64 0), Fq.any, Fq.any, Fq.any, Fq.any, Fq.is (.int .i64 0)] N4 [⟨22, 24, 2, Fq.num 0, Fq.num ((S.fa - S.fb) / (2 * S.fa)), none⟩, ⟨23, 25, 2, Fq.num 0, Fq.num ((S.fa - S.fb) % (2 * S.fa)), none⟩] E (fun hp => ⟨?_, ?_, ?_, ?_, ?_, ?_, ?_, ?_, ?_, ?_, ?_, ?_, ?_, ?_, ?_, ?_, ?_, ?_, ?_, ?_, ?_, ?_, ?_, ?_, ?_, ?_, ?_, tv⟩) ?_
 ·exact zAa hp fo tv (sqo 0)
 ·exact zAf (F := fun v _ => v = .pointer (some ⟨b, 0, none⟩)) hp fo tv (sqi 0) (fun ρ w hc h => ⟨.pointer (some ⟨b, 0, none⟩), by simp [execOp, go_sem, h], rfl⟩)
 ·exact qa b 0 0 hp (sqi 1)
 ·exact qa b 0 0 hp (sqi 2)
 ·exact lN 0 2 hp (mq 0 rfl) zAc (sqi 3)
 ·exact zAa hp fo tv (sqo 0)
 ·exact zAf (F := fun v _ => v = .pointer (some ⟨b, 0, none⟩)) hp fo tv (sqi 5) (fun ρ w hc h => ⟨.pointer (some ⟨b, 0, none⟩), by simp [execOp, go_sem, h], rfl⟩)
 ·exact qa b 0 0 hp (sqi 6)
 ·exact qa b 0 2 hp (sqi 7)
 ·exact lN 2 2 hp (mq 0 rfl) zAc (sqi 8)
 ·exact wXb (Fq.num S.fa) (Fq.num S.fb) hp enq_Sub (sqi 4) (sqi 9) fun v v' w h h' => exK (SubV h h') B1.out (by omega)
 ·exact zAa hp fo tv (sqo 0)
 ·exact zAf (F := fun v _ => v = .pointer (some ⟨b, 0, none⟩)) hp fo tv (sqi 11) (fun ρ w hc h => ⟨.pointer (some ⟨b, 0, none⟩), by simp [execOp, go_sem, h], rfl⟩)
 ·exact qa b 0 0 hp (sqi 12)
 ·exact qa b 0 0 hp (sqi 13)
 ·exact lN 0 2 hp (mq 0 rfl) zAc (sqi 14)
 ·exact wXa (Fq.num S.fa) hp zH7 (sqi 15) fun v w h => zId h (Int.lt_of_lt_of_le hB.out.1.1 (zAb (by omega)))
 ·exact wXb (Fq.num (S.fa - S.fb)) (Fq.num (2 * S.fa)) hp zHz (sqi 10) (sqi 16) fun v v' w h h' => exDMq h h' HNE.out (Int.lt_of_lt_of_le BQ.out (zAb (by omega : 15 ≤ 15))) B3.out (by omega) (by omega)
 ·exact zAa hp fo tv (sqi 17)
 ·exact zA1 hp fo tv (sqi 18) (fun v1 v2 v3 w h1 h2 h3 => ⟨_, rfl, h1⟩)
 ·exact zA1 hp fo tv (sqi 18) (fun v1 v2 v3 w h1 h2 h3 => ⟨_, rfl, h2⟩)
 ·exact zA1 hp fo tv (sqi 18) (fun v1 v2 v3 w h1 h2 h3 => ⟨_, rfl, h3⟩)
 ·exact aN hp (mq 0 rfl)
 ·exact aN hp (mq 1 rfl)
 ·exact sN 19 hp (mq 0 rfl)
 ·exact sN 20 hp (mq 1 rfl)
 ·exact zAh hp fo tv (sqi 21)
 intro L vs w4 nb hL hC hn E4
 have e0 := wXi hC 0
 have e1 := wXi hC 1
 have e2 := wXi hC 2
 have e3 := wXi hC 3
 have e5 := wXi hC 5
 have e6 := wXi hC 6
 have e7 := wXi hC 7
 have e8 := wXi hC 8
 have e11 := wXi hC 11
 have e12 := wXi hC 12
 have e13 := wXi hC 13
 have e14 := wXi hC 14
 have e21 := wXi hC 21
 have e26 := wXi hC 26
 have e22 : vs 22 = .pointer (some ⟨nb 22, 0, none⟩) := hn _ (mq 0 rfl)
 have e23 : vs 23 = .pointer (some ⟨nb 23, 0, none⟩) := hn _ (mq 1 rfl)
 have E := E4; try simp only [LM, zAd] at E
 rw [zAe hL]
 simp only [SP, Nat.zero_add, Nat.reduceAdd]
 rw [e0, e1, e2, e3, e5, e6, e7, e8, e11, e12, e13, e14, e21, e26, e22, e23]
 generalize nb 22 = b4_22 at E ⊢
 generalize nb 23 = b4_23 at E ⊢
 generalize vs 4 = u4_4
 generalize vs 9 = u4_9
 generalize vs 10 = u4_10
 generalize vs 15 = u4_15
 generalize vs 16 = u4_16
 generalize vs 17 = u4_17
 generalize vs 18 = u4_18
 generalize vs 19 = u4_19
 generalize vs 20 = u4_20
 clear e0 e1 e2 e3 e5 e6 e7 e8 e11 e12 e13 e14 e21 e26 e22 e23 hC hn E4 hL vs L nb
 go_upto_region 1 with (fail)
 have B5 : Hid (ab ((1)) < pw 3) := zBh (by decide)
 refine zF5 (C := [Fq.is (.pointer (some ⟨b, 0, none⟩)), Fq.num (1), Fq.num ((S.fa - S.fb) / (2 * S.fa)), Fq.num (1), Fq.st [.n (1), .n ((S.fa - S.fb) / (2 * S.fa)), .n 0, .n (1)], Fq.any]) (ks := [none, none, none, none, none, none]) (bs' := [(b4_22, 2, Fq.num ((S.fa - S.fb) / (2 * S.fa))), (b4_23, 2, Fq.num ((S.fa - S.fb) % (2 * S.fa))), (b, 14, Fq.st [.n ((rsh S).fa), .n ((rsh S).fb), .n ((rsh S).fc), .n ((rsh S).x1), .n ((rsh S).x2), .n ((rsh S).x3), .n ((rsh S).x4)]), (bo1, mo1, Fo1), (bo2, mo2, Fo2), (bo3, mo3, Fo3)]) 5 rfl rfl E rfl rfl (by kernel_rfl) rfl rfl rfl (fun hp => ⟨?_, ?_, ?_, ?_, ?_, tv⟩) ?_ ?_
 ·exact zAa hp fo tv (sqo 0)
 ·exact zAn (F := (Fq.is (.int .i64 1)).P) hp fo tv (zC1) (zAj (fun _ => rfl)) (fun v w h => (by subst h; exact OfK w (1) (by omega) (by omega)))
 ·exact lI 0 hp (mq 0 rfl) (sqo 2) fun us w hl h => zAp hl h
 ·exact zAn (F := (Fq.is (.int .i64 1)).P) hp fo tv (zC1) (zAj (fun _ => rfl)) (fun v w h => (by subst h; exact OfK w (1) (by omega) (by omega)))
 ·exact zOv (z0 := (1)) (z1 := ((S.fa - S.fb) / (2 * S.fa))) (z3 := (1)) hp fo tv (sqi 1) (sqi 2) (sqi 3) (fun v w h => h)
 ·intro hp; exact zLh (G := (Fq.st [.n (1), .n ((S.fa - S.fb) / (2 * S.fa)), .n 0, .n (1)]).P) (zJ4) (sqi 0) (sqi 4) trivial (fun v w E h => (by have hh := zM1 E h ⟨(Int.lt_of_lt_of_le hB.out.1.1 (zAb (by omega))), (Int.lt_of_lt_of_le hB.out.1.2.1 (zAb (by omega))), (Int.lt_of_lt_of_le hB.out.1.2.2 (zAb (by omega))), (Int.lt_of_lt_of_le hB.out.2.1 (zAb (by omega))), (Int.lt_of_lt_of_le hB.out.2.2.1 (zAb (by omega))), (Int.lt_of_lt_of_le hB.out.2.2.2.1 (zAb (by omega))), (Int.lt_of_lt_of_le hB.out.2.2.2.2 (zAb (by omega)))⟩ ⟨(Int.lt_of_lt_of_le (zBh (by decide)) (zAb (by omega))), (Int.lt_of_lt_of_le BQ.out (zAb (by omega))), (Int.lt_of_lt_of_le (zBh (by decide)) (zAb (by omega))), (Int.lt_of_lt_of_le (zBh (by decide)) (zAb (by omega)))⟩; rw [rsh_a, rsh_b, rsh_c] at hh; exact hh))
 intro L vs w6 hL E6
 have E := E6; try simp only [LM, zAd] at E
 rw [zAe hL]
 simp only [SP, Nat.zero_add, Nat.reduceAdd]
 generalize vs 0 = u6_0
 generalize vs 1 = u6_1
 generalize vs 2 = u6_2
 generalize vs 3 = u6_3
 generalize vs 4 = u6_4
 generalize vs 5 = u6_5
 clear E6 hL vs L
 clear HNE
 clear B1 B2 B3 B5 hB BQ
 exact bodyPost_end (results_none rfl _ _ _) rfl ⟨_, rfl, E.drop.drop⟩

set_option maxRecDepth 100000 in
set_option maxHeartbeats 4000000 in
theorem zNp {w : World} {v : Value} {a b c : Int} (h : (Fq.st [.n a, .n b, .n c]).P v w) (ha : ab a < pw 5) (hb : ab b < pw 5) (hc : ab c < pw 5) (hd : (b * b - 4 * (a * c)) < 0) (h0 : 0 < a) :
  Calls Tryz.prog 34 #[v] w fun e w' => ∃ v', e = .returned v' ∧ Below w.heap.size w w' ∧ (Fq.red (zCe a b c)).P v' w' := by
 replace ha := hidd ha
 replace hb := hidd hb
 replace hc := hidd hc
 have HD := hidd hd
 have HP := hidd h0
 have HC : Hid (redE a b c = 0) := zEt hd h0
 have HS0 := hidd ((RIn.one h0 hb.out hc.out).bds ha.out hc.out hd : RB ⟨1, 0, 0, 1, a, b, c⟩)
 clear hd h0
 obtain ⟨_, rfl, hf0⟩ := h
 have hF0 := hf0
 obtain ⟨y0_p0, y0_q0, _, rfl, _y0_n0, y0_p1, y0_q1, _, rfl, _y0_n1, y0_p2, y0_q2, _, rfl, _y0_n2, rfl⟩ := hf0
 obtain ⟨w1, b1, hw1, hb1, hs1, E⟩ := gS w 33 hF0
 obtain ⟨w2, b2, hw2, hb2, hs2, E⟩ := fO E hs1 33 zBb
 obtain ⟨w3, b3, hw3, hb3, hs3, E⟩ := fO E hs2 36 zB5
 go_enter Tryz.func34, Tryz.ntmps34
 go_upto_region 1 with (fail)
 rw [← hw1]
 rw [← hw2]
 rw [← hw3]
 rw [← hb3]
 rw [← hb2]
 rw [← hb1]
 clear hw1 hw2 hw3 hb1 hb2 hb3 hs3 hs1 hs2
 refine rg [Fq.st [.n a, .n b, .n c], Fq.is (.int .i64 0), Fq.is (.int .i64 0)] N3 [] E (fun hp => ⟨?_, ?_, ?_, tv⟩) ?_
 ·exact lS 0 6 hp (mq 2 rfl) zAm (sqo 1)
 ·exact wXa (Fq.st [.n a, .n b, .n c]) hp zE3 (sqi 0) fun v w h => zE6 h (Int.lt_of_lt_of_le ha.out (zAb (by omega))) (Int.lt_of_lt_of_le hb.out (zAb (by omega))) (Int.lt_of_lt_of_le hc.out (zAb (by omega))) HC.out
 ·exact zAh hp fo tv (sqi 1)
 intro L vs w4 nb hL hC hn E4
 have e1 := wXi hC 1
 have e2 := wXi hC 2
 have E := E4; try simp only [LM, zAd] at E
 rw [zAe hL]
 simp only [SP, Nat.zero_add, Nat.reduceAdd]
 rw [e1, e2]
 generalize vs 0 = u4_0
 clear e1 e2 hC hn E4 hL vs L nb
 go_upto_region 2 with (fail)
 refine rg [Fq.is (.int .i64 0), yF] N3 [] E (fun hp => ⟨?_, ?_, tv⟩) ?_
 ·exact zAa hp fo tv (sqo 5)
 ·exact zAf (F := fun v _ => v = .int .i64 0) hp fo tv (sqi 0) (fun ρ w hc h => ⟨.bool false, by simp [execOp, go_sem, h, hc], rfl⟩)
 intro L vs w5 nb hL hC hn E5
 have e0 := wXi hC 0
 have e1 := wXi hC 1
 have E := E5; try simp only [LM, zAd] at E
 rw [zAe hL]
 simp only [SP, Nat.zero_add, Nat.reduceAdd]
 rw [e0, e1]
 clear e0 e1 hC hn E5 hL vs L nb
 clear HC
 go_upto_region 4 with (fail)
 have B6 : Hid (ab ((1)) < pw 3) := zBh (by decide)
 refine rg [Fq.st [.n a, .n b, .n c], Fq.num (1), Fq.num (1), Fq.st [.n (1), .n 0, .n 0, .n (1)], Fq.st [.n a, .n b, .n c, .n (1), .n 0, .n 0, .n (1)], Fq.any, Fq.any] N3 [⟨5, 6, 14, Fq.st [.n 0, .n 0, .n 0, .n 0, .n 0, .n 0, .n 0], Fq.st [.n a, .n b, .n c, .n (1), .n 0, .n 0, .n (1)], none⟩] E (fun hp => ⟨?_, ?_, ?_, ?_, ?_, ?_, ?_, tv⟩) ?_
 ·exact lS 0 6 hp (mq 2 rfl) zAm (sqo 1)
 ·exact zAn (F := (Fq.is (.int .i64 1)).P) hp fo tv (zC1) (zAj (fun _ => rfl)) (fun v w h => (by subst h; exact OfK w (1) (by omega) (by omega)))
 ·exact zAn (F := (Fq.is (.int .i64 1)).P) hp fo tv (zC1) (zAj (fun _ => rfl)) (fun v w h => (by subst h; exact OfK w (1) (by omega) (by omega)))
 ·exact zOw (z0 := (1)) (z3 := (1)) hp fo tv (sqi 1) (sqi 2) (fun v w h => h)
 ·exact zOy (z0_0 := a) (z0_1 := b) (z0_2 := c) (z1_0 := (1)) (z1_1 := 0) (z1_2 := 0) (z1_3 := (1)) hp fo tv (sqi 0) (sqi 3) (fun v w h => h)
 ·exact aS hp (mq 0 rfl) zOe zO4
 ·exact sS 4 hp (mq 0 rfl) zPi
 intro L vs w7 nb hL hC hn E7
 have e5 : vs 5 = .pointer (some ⟨nb 5, 0, none⟩) := hn _ (mq 0 rfl)
 have E := E7; try simp only [LM, zAd] at E
 rw [zAe hL]
 simp only [SP, Nat.zero_add, Nat.reduceAdd]
 rw [e5]
 generalize nb 5 = b7_5 at E ⊢
 generalize vs 0 = u7_0
 generalize vs 1 = u7_1
 generalize vs 2 = u7_2
 generalize vs 3 = u7_3
 generalize vs 4 = u7_4
 clear e5 hC hn E7 hL vs L nb
 go_upto_region 5 with (fail)
 refine zF5 (C := [Fq.any]) (ks := [none, none, none, none]) (bs' := [(b7_5, 14, Fq.st [.n ((rsh ⟨1, 0, 0, 1, a, b, c⟩).fa), .n ((rsh ⟨1, 0, 0, 1, a, b, c⟩).fb), .n ((rsh ⟨1, 0, 0, 1, a, b, c⟩).fc), .n ((rsh ⟨1, 0, 0, 1, a, b, c⟩).x1), .n ((rsh ⟨1, 0, 0, 1, a, b, c⟩).x2), .n ((rsh ⟨1, 0, 0, 1, a, b, c⟩).x3), .n ((rsh ⟨1, 0, 0, 1, a, b, c⟩).x4)]), (b3, 8, Fq.st [.n 0, .n 0, .n 0, .n 0]), (b2, 6, Fq.st [.n 0, .n 0, .n 0]), (b1, 6, Fq.st [.n a, .n b, .n c])]) 0 rfl rfl E rfl rfl (by kernel_rfl) rfl rfl rfl (fun hp => trivial) ?_ ?_
 ·intro hp; exact zI1  (zJ5) (sqo 6) trivial (fun w E => zJ9 (S := ⟨1, 0, 0, 1, a, b, c⟩) E HS0.out HP.out)
 intro L vs w8 hL E8
 have E := E8; try simp only [LM, zAd] at E
 rw [zAe hL]
 simp only [SP, Nat.zero_add, Nat.reduceAdd]
 generalize vs 0 = u8_0
 clear E8 hL vs L
 clear HS0
 have HE := hidd E
 clear E
 obtain ⟨W0, rfl⟩ : ∃ W0, W0 = w8 := ⟨_, rfl⟩
 go_wp2_with (fail)
 go_loopw [20] (fun _ W => ∃ P : RS, PIn a b c P ∧ Fr w [(b7_5, 14, Fq.st [.n P.fa, .n P.fb, .n P.fc, .n P.x1, .n P.x2, .n P.x3, .n P.x4]), (b3, 8, Fq.st [.n 0, .n 0, .n 0, .n 0]), (b2, 6, Fq.st [.n 0, .n 0, .n 0]), (b1, 6, Fq.st [.n a, .n b, .n c])] W) (fun _ W => frmMes W b7_5)
 case atStart => exact ⟨_, PIn.start HP.out hb.out hc.out, HE.out⟩
 case round =>
  clear HE
  obtain ⟨V2, rfl⟩ : ∃ V2, V2 = wr := ⟨_, rfl⟩
  obtain ⟨P, hI, E⟩ := hrel
  have HI := hidd hI
  have HBS := hidd (hI.at ha.out hb.out hc.out HD.out).1
  have HME := hidd (zKg (bq_pre (E.box 0 rfl)))
  clear hI
  go_upto_region 6 with (fail)
  by_cases hr : redB P.fa P.fb P.fc = true
  ·have HR := hidd hr
   clear hr
   refine rg [ip b7_5 0, Fq.st [.n P.fa, .n P.fb, .n P.fc], yT, yF] N4 [] E (fun hp => ⟨?_, ?_, ?_, ?_, tv⟩) ?_
   ·exact qa b7_5 0 0 hp (sqo 6)
   ·exact lS 0 6 hp (mq 0 rfl) zAm (sqi 0)
   ·exact wXa (Fq.st [.n P.fa, .n P.fb, .n P.fc]) hp zH6 (sqi 1) fun v w h => zIa h (Int.lt_of_lt_of_le HBS.out.1.1 (zAb (by omega))) (Int.lt_of_lt_of_le HBS.out.1.2.1 (zAb (by omega))) (Int.lt_of_lt_of_le HBS.out.1.2.2 (zAb (by omega))) HR.out
   ·exact zAf (F := fun v _ => v = .bool true) hp fo tv (sqi 2) (fun ρ w _ h => ⟨.bool false, by simp [execOp, go_sem, h], rfl⟩)
   intro L vs w9 nb hL hC hn E9
   have e0 := wXi hC 0
   have e2 := wXi hC 2
   have e3 := wXi hC 3
   have E := E9; try simp only [LM, zAd] at E
   rw [zAe hL]
   simp only [SP, Nat.zero_add, Nat.reduceAdd]
   rw [e0, e2, e3]
   generalize vs 1 = u9_1
   clear e0 e2 e3 hC hn E9 hL vs L nb
   go_upto_region 9 with (fail)
   refine rg [ip b7_5 0, Fq.st [.n P.fa, .n P.fb, .n P.fc], ip b7_5 6, Fq.st [.n P.x1, .n P.x2, .n P.x3, .n P.x4], Fq.any, Fq.any, Fq.is (.int .i64 0)] [none, some (5, Fq.st [.n P.x1, .n P.x2, .n P.x3, .n P.x4]), some (4, Fq.st [.n P.fa, .n P.fb, .n P.fc]), none] [] E (fun hp => ⟨?_, ?_, ?_, ?_, ?_, ?_, ?_, tv⟩) ?_
   ·exact qa b7_5 0 0 hp (sqo 6)
   ·exact lS 0 6 hp (mq 0 rfl) zAm (sqi 0)
   ·exact qa b7_5 0 6 hp (sqo 6)
   ·exact lS 6 8 hp (mq 0 rfl) zCw (sqi 2)
   ·exact sO 0 1 hp (mq 2 rfl) zA7 (sqo 2)
   ·exact sO 0 3 hp (mq 1 rfl) zBz (sqo 3)
   ·exact zAh hp fo tv (zAj (fun _ => rfl))
   intro L vs w10 nb hL hC hn E10
   have e0 := wXi hC 0
   have e2 := wXi hC 2
   have e6 := wXi hC 6
   have E := E10; try simp only [LM, zAd] at E
   rw [zAe hL]
   simp only [SP, Nat.zero_add, Nat.reduceAdd]
   rw [e0, e2, e6]
   generalize vs 1 = u10_1
   generalize vs 3 = u10_3
   clear e0 e2 e6 hC hn E10 hL vs L nb
   obtain ⟨_, _, hccr, hffr⟩ := zBm (E.box 2 rfl)
   have hPr := hffr
   obtain ⟨r_p0, r_q0, _, rfl, _r_n0, r_p1, r_q1, _, rfl, _r_n1, r_p2, r_q2, _, rfl, _r_n2, rfl⟩ := hffr
   have cr0 := hccr 0 (by simp)
   have cr1 := hccr 1 (by simp)
   have cr2 := hccr 2 (by simp)
   have cr3 := hccr 3 (by simp)
   have cr4 := hccr 4 (by simp)
   have cr5 := hccr 5 (by simp)
   simp only [List.getD_cons_zero, List.getD_cons_succ] at cr0 cr1 cr2 cr3 cr4 cr5
   clear hccr
   obtain ⟨_, _, hccq, hffq⟩ := zBm (E.box 1 rfl)
   have hPq := hffq
   obtain ⟨q_p0, q_q0, _, rfl, _q_n0, q_p1, q_q1, _, rfl, _q_n1, q_p2, q_q2, _, rfl, _q_n2, q_p3, q_q3, _, rfl, _q_n3, rfl⟩ := hffq
   have cq0 := hccq 0 (by simp)
   have cq1 := hccq 1 (by simp)
   have cq2 := hccq 2 (by simp)
   have cq3 := hccq 3 (by simp)
   have cq4 := hccq 4 (by simp)
   have cq5 := hccq 5 (by simp)
   have cq6 := hccq 6 (by simp)
   have cq7 := hccq 7 (by simp)
   simp only [List.getD_cons_zero, List.getD_cons_succ] at cq0 cq1 cq2 cq3 cq4 cq5 cq6 cq7
   clear hccq
   have hEnd := HI.out.red HR.out
   clear HI HME HR HD HP
   clear B6 ha hb hc HBS
   go_wp2
   refine bodyPost_ret (v := .tuple #[.agg #[r_p0, r_q0, r_p1, r_q1, r_p2, r_q2], .agg #[q_p0, q_q0, q_p1, q_q1, q_p2, q_q2, q_p3, q_q3], .int .i64 0]) ?_ rfl ⟨_, rfl, E.below, by rw [hEnd]; exact ⟨_, _, _, rfl, ⟨_, rfl, hPr⟩, ⟨_, rfl, hPq⟩, rfl⟩⟩
   simp [results, Tryz.results34, go_sem, cr0, cr1, cr2, cr3, cr4, cr5, cq0, cq1, cq2, cq3, cq4, cq5, cq6, cq7]
  ·have hr2 : P.red = false := Bool.eq_false_iff.2 hr
   obtain ⟨hN, hB2, hp2, hmm⟩ := HI.out.next ha.out hb.out hc.out HD.out hr2
   have HR := hidd (show redB P.fa P.fb P.fc = false from hr2)
   have HN := hidd hN
   have HBT := hidd hB2
   have HP2 := hidd hp2
   have HMM := hidd hmm
   clear hr hr2 hN hB2 hp2 hmm
   refine rg [ip b7_5 0, Fq.st [.n P.fa, .n P.fb, .n P.fc], yF, yT] N4 [] E (fun hp => ⟨?_, ?_, ?_, ?_, tv⟩) ?_
   ·exact qa b7_5 0 0 hp (sqo 6)
   ·exact lS 0 6 hp (mq 0 rfl) zAm (sqi 0)
   ·exact wXa (Fq.st [.n P.fa, .n P.fb, .n P.fc]) hp zH6 (sqi 1) fun v w h => zIa h (Int.lt_of_lt_of_le HBS.out.1.1 (zAb (by omega))) (Int.lt_of_lt_of_le HBS.out.1.2.1 (zAb (by omega))) (Int.lt_of_lt_of_le HBS.out.1.2.2 (zAb (by omega))) HR.out
   ·exact zAf (F := fun v _ => v = .bool false) hp fo tv (sqi 2) (fun ρ w _ h => ⟨.bool true, by simp [execOp, go_sem, h], rfl⟩)
   intro L vs w11 nb hL hC hn E11
   have e0 := wXi hC 0
   have e2 := wXi hC 2
   have e3 := wXi hC 3
   have E := E11; try simp only [LM, zAd] at E
   rw [zAe hL]
   simp only [SP, Nat.zero_add, Nat.reduceAdd]
   rw [e0, e2, e3]
   generalize vs 1 = u11_1
   clear e0 e2 e3 hC hn E11 hL vs L nb
   go_upto_region 7 with (fail)
   refine zF5 (C := [Fq.any]) (ks := [none, none, none, none]) (bs' := [(b7_5, 14, Fq.st [.n ((rsw P).fa), .n ((rsw P).fb), .n ((rsw P).fc), .n ((rsw P).x1), .n ((rsw P).x2), .n ((rsw P).x3), .n ((rsw P).x4)]), (b3, 8, Fq.st [.n 0, .n 0, .n 0, .n 0]), (b2, 6, Fq.st [.n 0, .n 0, .n 0]), (b1, 6, Fq.st [.n a, .n b, .n c])]) 0 rfl rfl E rfl rfl (by kernel_rfl) rfl rfl rfl (fun hp => trivial) ?_ ?_
   ·intro hp; exact zI1  (zMv) (sqo 6) trivial (fun w E => exPSwap (S := P) E HBS.out)
   intro L vs w12 hL E12
   have E := E12; try simp only [LM, zAd] at E
   rw [zAe hL]
   simp only [SP, Nat.zero_add, Nat.reduceAdd]
   generalize vs 0 = u12_0
   clear E12 hL vs L
   go_upto_region 8 with (fail)
   refine zF5 (C := [Fq.any]) (ks := [none, none, none, none]) (bs' := [(b7_5, 14, Fq.st [.n ((rsh (rsw P)).fa), .n ((rsh (rsw P)).fb), .n ((rsh (rsw P)).fc), .n ((rsh (rsw P)).x1), .n ((rsh (rsw P)).x2), .n ((rsh (rsw P)).x3), .n ((rsh (rsw P)).x4)]), (b3, 8, Fq.st [.n 0, .n 0, .n 0, .n 0]), (b2, 6, Fq.st [.n 0, .n 0, .n 0]), (b1, 6, Fq.st [.n a, .n b, .n c])]) 0 rfl rfl E rfl rfl (by kernel_rfl) rfl rfl rfl (fun hp => trivial) ?_ ?_
   ·intro hp; exact zI1  (zJ5) (sqo 6) trivial (fun w E => zJ9 (S := rsw P) E HBT.out HP2.out)
   intro L vs w13 hL E13
   have E := E13; try simp only [LM, zAd] at E
   rw [zAe hL]
   simp only [SP, Nat.zero_add, Nat.reduceAdd]
   generalize vs 0 = u13_0
   clear E13 hL vs L
   have hN := HN.out
   have hME := HME.out
   have hMM := HMM.out
   have hRo := HR.out
   have hM2 := zKg (bq_pre (E.box 0 rfl))
   rw [hRo] at hME
   clear HME HI HR HN HP2 HMM HD HP
   clear B6 ha hb hc HBS HBT
   go_wp2
   go_roundw
   case rel => exact ⟨_, hN, E⟩
   case measure =>
    rw [hM2, hME]
    simpa using hMM

set_option maxRecDepth 100000 in
set_option maxHeartbeats 4000000 in
theorem zNq {w : World} {v : Value} {a b c : Int} (h : (Fq.st [.n a, .n b, .n c]).P v w) (ha : ab a < pw 5) (hb : ab b < pw 5) (hc : ab c < pw 5) {er : Int} (he : redE a b c = er) (hn : ¬ er = 0) :
  Calls Tryz.prog 34 #[v] w fun e w' => ∃ v', e = .returned v' ∧ Below w.heap.size w w' ∧ (Fq.tup3 (Fq.st [.n 0, .n 0, .n 0]) (Fq.st [.n 0, .n 0, .n 0, .n 0]) (Fq.is (.int .i64 er))).P v' w' := by
 replace ha := hidd ha
 replace hb := hidd hb
 replace hc := hidd hc
 have HC := hidd he
 have HN := hidd hn
 clear he hn
 obtain ⟨_, rfl, hf0⟩ := h
 have hF0 := hf0
 obtain ⟨y0_p0, y0_q0, _, rfl, _y0_n0, y0_p1, y0_q1, _, rfl, _y0_n1, y0_p2, y0_q2, _, rfl, _y0_n2, rfl⟩ := hf0
 obtain ⟨w1, b1, hw1, hb1, hs1, E⟩ := gS w 33 hF0
 obtain ⟨w2, b2, hw2, hb2, hs2, E⟩ := fO E hs1 33 zBb
 obtain ⟨w3, b3, hw3, hb3, hs3, E⟩ := fO E hs2 36 zB5
 go_enter Tryz.func34, Tryz.ntmps34
 go_upto_region 1 with (fail)
 rw [← hw1]
 rw [← hw2]
 rw [← hw3]
 rw [← hb3]
 rw [← hb2]
 rw [← hb1]
 clear hw1 hw2 hw3 hb1 hb2 hb3 hs3 hs1 hs2
 refine rg [Fq.st [.n a, .n b, .n c], Fq.is (.int .i64 er), Fq.is (.int .i64 er)] N3 [] E (fun hp => ⟨?_, ?_, ?_, tv⟩) ?_
 ·exact lS 0 6 hp (mq 2 rfl) zAm (sqo 1)
 ·exact wXa (Fq.st [.n a, .n b, .n c]) hp zE3 (sqi 0) fun v w h => zE6 h (Int.lt_of_lt_of_le ha.out (zAb (by omega))) (Int.lt_of_lt_of_le hb.out (zAb (by omega))) (Int.lt_of_lt_of_le hc.out (zAb (by omega))) HC.out
 ·exact zAh hp fo tv (sqi 1)
 intro L vs w4 nb hL hC hn E4
 have e1 := wXi hC 1
 have e2 := wXi hC 2
 have E := E4; try simp only [LM, zAd] at E
 rw [zAe hL]
 simp only [SP, Nat.zero_add, Nat.reduceAdd]
 rw [e1, e2]
 generalize vs 0 = u4_0
 clear e1 e2 hC hn E4 hL vs L nb
 go_upto_region 2 with (fail)
 refine rg [Fq.is (.int .i64 er), yT] N3 [] E (fun hp => ⟨?_, ?_, tv⟩) ?_
 ·exact zAa hp fo tv (sqo 5)
 ·exact zAf (F := fun v _ => v = .int .i64 er) hp fo tv (sqi 0) (fun ρ w hc h => ⟨.bool true, by simp [execOp, go_sem, h, hc, HN.out], rfl⟩)
 intro L vs w5 nb hL hC hn E5
 have e0 := wXi hC 0
 have e1 := wXi hC 1
 have E := E5; try simp only [LM, zAd] at E
 rw [zAe hL]
 simp only [SP, Nat.zero_add, Nat.reduceAdd]
 rw [e0, e1]
 clear e0 e1 hC hn E5 hL vs L nb
 go_upto_region 3 with (fail)
 refine rg [Fq.st [.n 0, .n 0, .n 0], Fq.st [.n 0, .n 0, .n 0, .n 0], Fq.is (.int .i64 er), Fq.any, Fq.any, Fq.is (.int .i64 er)] [some (4, Fq.st [.n 0, .n 0, .n 0, .n 0]), some (3, Fq.st [.n 0, .n 0, .n 0]), none] [] E (fun hp => ⟨?_, ?_, ?_, ?_, ?_, ?_, tv⟩) ?_
 ·exact zI0 hp fo tv (fun v w h => h)
 ·exact zOu hp fo tv (fun v w h => h)
 ·exact zAa hp fo tv (sqo 5)
 ·exact sO 0 0 hp (mq 1 rfl) zA7 (sqo 2)
 ·exact sO 0 1 hp (mq 0 rfl) zBz (sqo 3)
 ·exact zAh hp fo tv (sqi 2)
 intro L vs w6 nb hL hC hn E6
 have e2 := wXi hC 2
 have e5 := wXi hC 5
 have E := E6; try simp only [LM, zAd] at E
 rw [zAe hL]
 simp only [SP, Nat.zero_add, Nat.reduceAdd]
 rw [e2, e5]
 generalize vs 0 = u6_0
 generalize vs 1 = u6_1
 clear e2 e5 hC hn E6 hL vs L nb
 clear HC HN
 obtain ⟨_, _, hccr, hffr⟩ := zBm (E.box 1 rfl)
 have hPr := hffr
 obtain ⟨r_p0, r_q0, _, rfl, _r_n0, r_p1, r_q1, _, rfl, _r_n1, r_p2, r_q2, _, rfl, _r_n2, rfl⟩ := hffr
 have cr0 := hccr 0 (by simp)
 have cr1 := hccr 1 (by simp)
 have cr2 := hccr 2 (by simp)
 have cr3 := hccr 3 (by simp)
 have cr4 := hccr 4 (by simp)
 have cr5 := hccr 5 (by simp)
 simp only [List.getD_cons_zero, List.getD_cons_succ] at cr0 cr1 cr2 cr3 cr4 cr5
 clear hccr
 obtain ⟨_, _, hccq, hffq⟩ := zBm (E.box 0 rfl)
 have hPq := hffq
 obtain ⟨q_p0, q_q0, _, rfl, _q_n0, q_p1, q_q1, _, rfl, _q_n1, q_p2, q_q2, _, rfl, _q_n2, q_p3, q_q3, _, rfl, _q_n3, rfl⟩ := hffq
 have cq0 := hccq 0 (by simp)
 have cq1 := hccq 1 (by simp)
 have cq2 := hccq 2 (by simp)
 have cq3 := hccq 3 (by simp)
 have cq4 := hccq 4 (by simp)
 have cq5 := hccq 5 (by simp)
 have cq6 := hccq 6 (by simp)
 have cq7 := hccq 7 (by simp)
 simp only [List.getD_cons_zero, List.getD_cons_succ] at cq0 cq1 cq2 cq3 cq4 cq5 cq6 cq7
 clear hccq
 clear ha hb hc
 go_wp2
 refine bodyPost_ret (v := .tuple #[.agg #[r_p0, r_q0, r_p1, r_q1, r_p2, r_q2], .agg #[q_p0, q_q0, q_p1, q_q1, q_p2, q_q2, q_p3, q_q3], .int .i64 er]) ?_ rfl ⟨_, rfl, E.below, _, _, _, rfl, ⟨_, rfl, hPr⟩, ⟨_, rfl, hPq⟩, rfl⟩
 simp [results, Tryz.results34, go_sem, cr0, cr1, cr2, cr3, cr4, cr5, cq0, cq1, cq2, cq3, cq4, cq5, cq6, cq7]

open Classical in
noncomputable def redT (a b c : Int) : RS := if redE a b c = 0 then zCe a b c else ⟨0, 0, 0, 0, 0, 0, 0⟩
theorem zI7 {a b c : Int} (h : redE a b c = 0) : redT a b c = zCe a b c := by unfold redT; rw [if_pos h]
theorem zI6 {a b c : Int} (h : ¬ redE a b c = 0) : redT a b c = ⟨0, 0, 0, 0, 0, 0, 0⟩ := by unfold redT; rw [if_neg h]
theorem zF4 {a b c : Int} (ha : ab a < pw 5) (hb : ab b < pw 5) (hc : ab c < pw 5) : RB (redT a b c) := by
 by_cases h : redE a b c = 0
 ·rw [zI7 h]
  obtain ⟨hd, h0⟩ := zHd h
  exact (zLl ha hb hc hd h0).1.bds ha hc hd
 ·rw [zI6 h]
  have z : ∀ k, 1 ≤ k → ab (0 : Int) < pw k := fun k hk => Int.lt_of_lt_of_le (show ab (0 : Int) < pw 1 by decide) (zAb hk)
  exact ⟨⟨z _ (by omega), z _ (by omega), z _ (by omega)⟩, z _ (by omega), z _ (by omega), z _ (by omega), z _ (by omega)⟩
theorem zEa {a b c : Int} (ha : ab a < pw 5) (hb : ab b < pw 5) (hc : ab c < pw 5) (h : redE a b c = 0) : Und a b c (redT a b c).x1 (redT a b c).x2 (redT a b c).x3 (redT a b c).x4 (redT a b c).fa (redT a b c).fb (redT a b c).fc ∧ Rdf (redT a b c).fa (redT a b c).fb (redT a b c).fc := by
 rw [zI7 h]
 obtain ⟨hd, h0⟩ := zHd h
 have h1 := zLl ha hb hc hd h0
 exact ⟨h1.1.u, h1.2⟩
theorem zHw (a b c : Int) : -b * -b - 4 * (a * c) = b * b - 4 * (a * c) := by rw [Int.neg_mul_neg]
theorem zF3 {a b c : Int} (h : redE a b c = 0) : redE a (-b) c = 0 := by
 obtain ⟨hd, h0⟩ := zHd h
 exact zEt (by rw [zHw]; exact hd) h0
noncomputable def invT (a b c : Int) : RS := if redE a b c = 0 then redT a (-b) c else ⟨0, 0, 0, 0, 0, 0, 0⟩
def eqR (S R : RS) : Bool := eqF S.fa S.fb S.fc R.fa R.fb R.fc
def smA (S R : RS) : Int := ((S.x1 * R.x4) + (S.x2 * (-R.x3)))
def smB (S R : RS) : Int := ((S.x1 * (-R.x2)) + (S.x2 * R.x1))
def smC (S R : RS) : Int := ((S.x3 * R.x4) + (S.x4 * (-R.x3)))
def smD (S R : RS) : Int := ((S.x3 * (-R.x2)) + (S.x4 * R.x1))
theorem zE8 {w : World} {v : Value} {a b c : Int} (h : (Fq.st [.n a, .n b, .n c]).P v w) (ha : ab a < pw 5) (hb : ab b < pw 5) (hc : ab c < pw 5) :
  Calls Tryz.prog 34 #[v] w fun e w' => ∃ v', e = .returned v' ∧ Below w.heap.size w w' ∧ (Fq.tup3 (Fq.st [.n (redT a b c).fa, .n (redT a b c).fb, .n (redT a b c).fc]) (Fq.st [.n (redT a b c).x1, .n (redT a b c).x2, .n (redT a b c).x3, .n (redT a b c).x4]) (Fq.is (.int .i64 (redE a b c)))).P v' w' := by
 by_cases he : redE a b c = 0
 ·rw [zI7 he, he]
  obtain ⟨hd, h0⟩ := zHd he
  exact zNp h ha hb hc hd h0
 ·rw [zI6 he]
  exact zNq h ha hb hc rfl he

set_option maxRecDepth 100000 in
set_option maxHeartbeats 4000000 in
theorem zNa {w : World} {v : Value} {a b c : Int} (h : (Fq.st [.n a, .n b, .n c]).P v w) (ha : ab a < pw 5) (hb : ab b < pw 5) (hc : ab c < pw 5) (hn : ¬ redE a b c = 0) :
  Calls Tryz.prog 12 #[v] w fun e w' => ∃ v', e = .returned v' ∧ Below w.heap.size w w' ∧ (Fq.tup2 (Fq.st [.n 0, .n 0, .n 0]) (Fq.is (.int .i64 (redE a b c)))).P v' w' := by
 replace ha := hidd ha
 replace hb := hidd hb
 replace hc := hidd hc
 have HC := hidd (rfl : redE a b c = redE a b c)
 have HN := hidd hn
 clear hn
 obtain ⟨_, rfl, hf0⟩ := h
 have hF0 := hf0
 obtain ⟨y0_p0, y0_q0, _, rfl, _y0_n0, y0_p1, y0_q1, _, rfl, _y0_n1, y0_p2, y0_q2, _, rfl, _y0_n2, rfl⟩ := hf0
 obtain ⟨w1, b1, hw1, hb1, hs1, E⟩ := gS w 33 hF0
 obtain ⟨w2, b2, hw2, hb2, hs2, E⟩ := fO E hs1 33 zBb
 go_enter Tryz.func12, Tryz.ntmps12
 go_upto_region 1 with (fail)
 rw [← hw1]
 rw [← hw2]
 rw [← hb2]
 rw [← hb1]
 clear hw1 hw2 hb1 hb2 hs2 hs1
 refine rg [Fq.st [.n a, .n b, .n c], Fq.is (.int .i64 (redE a b c)), Fq.is (.int .i64 (redE a b c))] N2 [] E (fun hp => ⟨?_, ?_, ?_, tv⟩) ?_
 ·exact lS 0 6 hp (mq 1 rfl) zAm (sqo 1)
 ·exact wXa (Fq.st [.n a, .n b, .n c]) hp zE3 (sqi 0) fun v w h => zE6 h (Int.lt_of_lt_of_le ha.out (zAb (by omega))) (Int.lt_of_lt_of_le hb.out (zAb (by omega))) (Int.lt_of_lt_of_le hc.out (zAb (by omega))) HC.out
 ·exact zAh hp fo tv (sqi 1)
 intro L vs w3 nb hL hC hn E3
 have e1 := wXi hC 1
 have e2 := wXi hC 2
 have E := E3; try simp only [LM, zAd] at E
 rw [zAe hL]
 simp only [SP, Nat.zero_add, Nat.reduceAdd]
 rw [e1, e2]
 generalize vs 0 = u3_0
 clear e1 e2 hC hn E3 hL vs L nb
 go_upto_region 2 with (fail)
 refine rg [Fq.is (.int .i64 (redE a b c)), yT] N2 [] E (fun hp => ⟨?_, ?_, tv⟩) ?_
 ·exact zAa hp fo tv (sqo 4)
 ·exact zAf (F := fun v _ => v = .int .i64 (redE a b c)) hp fo tv (sqi 0) (fun ρ w hc h => ⟨.bool true, by simp [execOp, go_sem, h, hc, HN.out], rfl⟩)
 intro L vs w4 nb hL hC hn E4
 have e0 := wXi hC 0
 have e1 := wXi hC 1
 have E := E4; try simp only [LM, zAd] at E
 rw [zAe hL]
 simp only [SP, Nat.zero_add, Nat.reduceAdd]
 rw [e0, e1]
 clear e0 e1 hC hn E4 hL vs L nb
 go_upto_region 3 with (fail)
 refine rg [Fq.st [.n 0, .n 0, .n 0], Fq.is (.int .i64 (redE a b c)), Fq.any, Fq.is (.int .i64 (redE a b c))] [some (2, Fq.st [.n 0, .n 0, .n 0]), none] [] E (fun hp => ⟨?_, ?_, ?_, ?_, tv⟩) ?_
 ·exact zI0 hp fo tv (fun v w h => h)
 ·exact zAa hp fo tv (sqo 4)
 ·exact sO 0 0 hp (mq 0 rfl) zA7 (sqo 2)
 ·exact zAh hp fo tv (sqi 1)
 intro L vs w5 nb hL hC hn E5
 have e1 := wXi hC 1
 have e3 := wXi hC 3
 have E := E5; try simp only [LM, zAd] at E
 rw [zAe hL]
 simp only [SP, Nat.zero_add, Nat.reduceAdd]
 rw [e1, e3]
 generalize vs 0 = u5_0
 clear e1 e3 hC hn E5 hL vs L nb
 clear HC HN
 obtain ⟨_, _, hccr, hffr⟩ := zBm (E.box 0 rfl)
 have hPr := hffr
 obtain ⟨r_p0, r_q0, _, rfl, _r_n0, r_p1, r_q1, _, rfl, _r_n1, r_p2, r_q2, _, rfl, _r_n2, rfl⟩ := hffr
 have cr0 := hccr 0 (by simp)
 have cr1 := hccr 1 (by simp)
 have cr2 := hccr 2 (by simp)
 have cr3 := hccr 3 (by simp)
 have cr4 := hccr 4 (by simp)
 have cr5 := hccr 5 (by simp)
 simp only [List.getD_cons_zero, List.getD_cons_succ] at cr0 cr1 cr2 cr3 cr4 cr5
 clear hccr
 clear ha hb hc
 go_wp2
 refine bodyPost_ret (v := .tuple #[.agg #[r_p0, r_q0, r_p1, r_q1, r_p2, r_q2], .int .i64 (redE a b c)]) ?_ rfl ⟨_, rfl, E.below, _, _, rfl, ⟨_, rfl, hPr⟩, rfl⟩
 simp [results, Tryz.results12, go_sem, cr0, cr1, cr2, cr3, cr4, cr5]

set_option maxRecDepth 100000 in
set_option maxHeartbeats 4000000 in
theorem zNb {w : World} {v : Value} {a b c : Int} (h : (Fq.st [.n a, .n b, .n c]).P v w) (ha : ab a < pw 5) (hb : ab b < pw 5) (hc : ab c < pw 5) (he : redE a b c = 0) :
  Calls Tryz.prog 12 #[v] w fun e w' => ∃ v', e = .returned v' ∧ Below w.heap.size w w' ∧ (Fq.tup2 (Fq.st [.n (redT a (-b) c).fa, .n (redT a (-b) c).fb, .n (redT a (-b) c).fc]) (Fq.is (.int .i64 0))).P v' w' := by
 replace ha := hidd ha
 replace hb := hidd hb
 replace hc := hidd hc
 have HC := hidd he
 clear he
 obtain ⟨ng, hng⟩ : ∃ ng, ng = -b := ⟨_, rfl⟩
 have hngb : ab ng < pw 5 := by rw [hng]; unfold ab; rw [Int.natAbs_neg]; exact hb.out
 have BN := hidd hngb
 have HN := hidd hng
 have HRE : Hid (redE a ng c = 0) := by show _ = _; rw [HN.out]; exact zF3 HC.out
 obtain ⟨S, hS⟩ : ∃ S, S = redT a ng c := ⟨_, rfl⟩
 have BS := hidd (zF4 ha.out hngb hc.out)
 rw [← hS] at BS
 have HS := hidd hS
 clear hng hngb hS
 obtain ⟨_, rfl, hf0⟩ := h
 have hF0 := hf0
 obtain ⟨y0_p0, y0_q0, _, rfl, _y0_n0, y0_p1, y0_q1, _, rfl, _y0_n1, y0_p2, y0_q2, _, rfl, _y0_n2, rfl⟩ := hf0
 obtain ⟨w1, b1, hw1, hb1, hs1, E⟩ := gS w 33 hF0
 obtain ⟨w2, b2, hw2, hb2, hs2, E⟩ := fO E hs1 33 zBb
 go_enter Tryz.func12, Tryz.ntmps12
 go_upto_region 1 with (fail)
 rw [← hw1]
 rw [← hw2]
 rw [← hb2]
 rw [← hb1]
 clear hw1 hw2 hb1 hb2 hs2 hs1
 refine rg [Fq.st [.n a, .n b, .n c], Fq.is (.int .i64 0), Fq.is (.int .i64 0)] N2 [] E (fun hp => ⟨?_, ?_, ?_, tv⟩) ?_
 ·exact lS 0 6 hp (mq 1 rfl) zAm (sqo 1)
 ·exact wXa (Fq.st [.n a, .n b, .n c]) hp zE3 (sqi 0) fun v w h => zE6 h (Int.lt_of_lt_of_le ha.out (zAb (by omega))) (Int.lt_of_lt_of_le hb.out (zAb (by omega))) (Int.lt_of_lt_of_le hc.out (zAb (by omega))) HC.out
 ·exact zAh hp fo tv (sqi 1)
 intro L vs w3 nb hL hC hn E3
 have e1 := wXi hC 1
 have e2 := wXi hC 2
 have E := E3; try simp only [LM, zAd] at E
 rw [zAe hL]
 simp only [SP, Nat.zero_add, Nat.reduceAdd]
 rw [e1, e2]
 generalize vs 0 = u3_0
 clear e1 e2 hC hn E3 hL vs L nb
 go_upto_region 2 with (fail)
 refine rg [Fq.is (.int .i64 0), yF] N2 [] E (fun hp => ⟨?_, ?_, tv⟩) ?_
 ·exact zAa hp fo tv (sqo 4)
 ·exact zAf (F := fun v _ => v = .int .i64 0) hp fo tv (sqi 0) (fun ρ w hc h => ⟨.bool false, by simp [execOp, go_sem, h, hc], rfl⟩)
 intro L vs w4 nb hL hC hn E4
 have e0 := wXi hC 0
 have e1 := wXi hC 1
 have E := E4; try simp only [LM, zAd] at E
 rw [zAe hL]
 simp only [SP, Nat.zero_add, Nat.reduceAdd]
 rw [e0, e1]
 clear e0 e1 hC hn E4 hL vs L nb
 go_upto_region 4 with (fail)
 refine rg [ip b1 2, Fq.num b, Fq.num ng, ip b1 2, Fq.any] [none, some (4, Fq.st [.n a, .n ng, .n c])] [] E (fun hp => ⟨?_, ?_, ?_, ?_, ?_, tv⟩) ?_
 ·exact qa b1 0 2 hp (sqo 1)
 ·exact zD8 (off := 2) (l := 2) hp fo tv (mq 1 rfl) (.inr rfl) rfl zAc rfl (sqi 0) (fun v w h => zAk h)
 ·exact wXa (Fq.num b) hp zGp (sqi 1) fun v w h => (by rw [HN.out]; exact exK (NegV h) (by rw [← HN.out]; exact BN.out) (by omega))
 ·exact qa b1 0 2 hp (sqo 1)
 ·exact zDu (off := 2) (fs := [.n a, .n b, .n c]) (gs := [.n ng]) (fs' := [.n a, .n ng, .n c]) hp (mq 1 rfl) rfl rfl rfl zF6 rfl (sqi 3) (zBw 2 rfl rfl (by simp) rfl (fun v w h => zFr h)) (fun _ _ => trivial) (zB7 rfl)
 intro L vs w5 nb hL hC hn E5
 have e0 := wXi hC 0
 have e3 := wXi hC 3
 have E := E5; try simp only [LM, zAd] at E
 rw [zAe hL]
 simp only [SP, Nat.zero_add, Nat.reduceAdd]
 rw [e0, e3]
 generalize vs 1 = u5_1
 generalize vs 2 = u5_2
 clear e0 e3 hC hn E5 hL vs L nb
 go_upto_region 5 with (fail)
 refine rg [Fq.st [.n a, .n ng, .n c], Fq.tup3 (Fq.st [.n S.fa, .n S.fb, .n S.fc]) (Fq.st [.n S.x1, .n S.x2, .n S.x3, .n S.x4]) (Fq.is (.int .i64 0)), Fq.tup3 (Fq.st [.n S.fa, .n S.fb, .n S.fc]) (Fq.st [.n S.x1, .n S.x2, .n S.x3, .n S.x4]) (Fq.is (.int .i64 0)), Fq.st [.n S.fa, .n S.fb, .n S.fc], Fq.st [.n S.x1, .n S.x2, .n S.x3, .n S.x4], Fq.is (.int .i64 0), Fq.any, Fq.any, Fq.any, Fq.any, Fq.is (.int .i64 0)] N2 [⟨6, 8, 6, Fq.st [.n 0, .n 0, .n 0], Fq.st [.n S.fa, .n S.fb, .n S.fc], none⟩, ⟨7, 9, 8, Fq.st [.n 0, .n 0, .n 0, .n 0], Fq.st [.n S.x1, .n S.x2, .n S.x3, .n S.x4], none⟩] E (fun hp => ⟨?_, ?_, ?_, ?_, ?_, ?_, ?_, ?_, ?_, ?_, ?_, tv⟩) ?_
 ·exact lS 0 6 hp (mq 1 rfl) zAm (sqo 1)
 ·exact wXa (Fq.st [.n a, .n ng, .n c]) hp zE2 (sqi 0) fun v w h => (by have hh := zE8 h ha.out BN.out hc.out; rw [← HS.out, HRE.out] at hh; exact hh)
 ·exact zAa hp fo tv (sqi 1)
 ·exact zA1 hp fo tv (sqi 2) (fun v1 v2 v3 w h1 h2 h3 => ⟨_, rfl, h1⟩)
 ·exact zA1 hp fo tv (sqi 2) (fun v1 v2 v3 w h1 h2 h3 => ⟨_, rfl, h2⟩)
 ·exact zA1 hp fo tv (sqi 2) (fun v1 v2 v3 w h1 h2 h3 => ⟨_, rfl, h3⟩)
 ·exact aS hp (mq 0 rfl) zBb zB8
 ·exact aS hp (mq 1 rfl) zB5 zEg
 ·exact sS 3 hp (mq 0 rfl) zA7
 ·exact sS 4 hp (mq 1 rfl) zBz
 ·exact zAh hp fo tv (sqi 5)
 intro L vs w6 nb hL hC hn E6
 have e5 := wXi hC 5
 have e10 := wXi hC 10
 have e6 : vs 6 = .pointer (some ⟨nb 6, 0, none⟩) := hn _ (mq 0 rfl)
 have e7 : vs 7 = .pointer (some ⟨nb 7, 0, none⟩) := hn _ (mq 1 rfl)
 have E := E6; try simp only [LM, zAd] at E
 rw [zAe hL]
 simp only [SP, Nat.zero_add, Nat.reduceAdd]
 rw [e5, e10, e6, e7]
 generalize nb 6 = b6_6 at E ⊢
 generalize nb 7 = b6_7 at E ⊢
 generalize vs 0 = u6_0
 generalize vs 1 = u6_1
 generalize vs 2 = u6_2
 generalize vs 3 = u6_3
 generalize vs 4 = u6_4
 clear e5 e10 e6 e7 hC hn E6 hL vs L nb
 go_upto_region 6 with (fail)
 refine rg [Fq.st [.n S.fa, .n S.fb, .n S.fc], Fq.is (.int .i64 0), Fq.any, Fq.is (.int .i64 0)] [none, none, some (2, Fq.st [.n S.fa, .n S.fb, .n S.fc]), none] [] E (fun hp => ⟨?_, ?_, ?_, ?_, tv⟩) ?_
 ·exact lS 0 6 hp (mq 0 rfl) zAm (sqo 5)
 ·exact zAa hp fo tv (sqo 7)
 ·exact sO 0 0 hp (mq 2 rfl) zA7 (sqo 2)
 ·exact zAh hp fo tv (sqi 1)
 intro L vs w7 nb hL hC hn E7
 have e1 := wXi hC 1
 have e3 := wXi hC 3
 have E := E7; try simp only [LM, zAd] at E
 rw [zAe hL]
 simp only [SP, Nat.zero_add, Nat.reduceAdd]
 rw [e1, e3]
 generalize vs 0 = u7_0
 clear e1 e3 hC hn E7 hL vs L nb
 have hE := HS.out
 have hN2 := HN.out
 clear HC HN HRE HS
 rw [hN2] at hE
 obtain ⟨_, _, hccr, hffr⟩ := zBm (E.box 2 rfl)
 have hPr := hffr
 obtain ⟨r_p0, r_q0, _, rfl, _r_n0, r_p1, r_q1, _, rfl, _r_n1, r_p2, r_q2, _, rfl, _r_n2, rfl⟩ := hffr
 have cr0 := hccr 0 (by simp)
 have cr1 := hccr 1 (by simp)
 have cr2 := hccr 2 (by simp)
 have cr3 := hccr 3 (by simp)
 have cr4 := hccr 4 (by simp)
 have cr5 := hccr 5 (by simp)
 simp only [List.getD_cons_zero, List.getD_cons_succ] at cr0 cr1 cr2 cr3 cr4 cr5
 clear hccr
 clear ha hb hc BN BS
 rw [hE] at hPr
 go_wp2
 refine bodyPost_ret (v := .tuple #[.agg #[r_p0, r_q0, r_p1, r_q1, r_p2, r_q2], .int .i64 0]) ?_ rfl ⟨_, rfl, E.below, _, _, rfl, ⟨_, rfl, hPr⟩, rfl⟩
 simp [results, Tryz.results12, go_sem, cr0, cr1, cr2, cr3, cr4, cr5]

theorem zGv {w : World} {v : Value} {a b c : Int} (h : (Fq.st [.n a, .n b, .n c]).P v w) (ha : ab a < pw 5) (hb : ab b < pw 5) (hc : ab c < pw 5) :
  Calls Tryz.prog 12 #[v] w fun e w' => ∃ v', e = .returned v' ∧ Below w.heap.size w w' ∧ (Fq.tup2 (Fq.st [.n (invT a b c).fa, .n (invT a b c).fb, .n (invT a b c).fc]) (Fq.is (.int .i64 (redE a b c)))).P v' w' := by
 unfold invT
 by_cases he : redE a b c = 0
 ·rw [if_pos he, he]; exact zNb h ha hb hc he
 ·rw [if_neg he]; exact zNa h ha hb hc he

set_option maxRecDepth 100000 in
set_option maxHeartbeats 4000000 in
theorem exPSame4 {w : World} {v v' : Value} {a b c x y z : Int} (h : (Fq.st [.n a, .n b, .n c]).P v w) (h' : (Fq.st [.n x, .n y, .n z]).P v' w) (ha : ab a < pw 5) (hb : ab b < pw 5) (hc : ab c < pw 5) (hx : ab x < pw 5) (hy : ab y < pw 5) (hz : ab z < pw 5) (k1 : redE a b c = 0) (k2 : redE x y z = 0) (k3 : eqR (redT a b c) (redT x y z) = true) :
  Calls Tryz.prog 36 #[v, v'] w fun e w' => ∃ v', e = .returned v' ∧ Below w.heap.size w w' ∧ (Fq.tup2 (Fq.st [.n (smA (redT a b c) (redT x y z)), .n (smB (redT a b c) (redT x y z)), .n (smC (redT a b c) (redT x y z)), .n (smD (redT a b c) (redT x y z))]) (Fq.is (.bool true))).P v' w' := by
 replace ha := hidd ha
 replace hb := hidd hb
 replace hc := hidd hc
 replace hx := hidd hx
 replace hy := hidd hy
 replace hz := hidd hz
 obtain ⟨er1, he1⟩ : ∃ er1, er1 = redE a b c := ⟨_, rfl⟩
 obtain ⟨er2, he2⟩ : ∃ er2, er2 = redE x y z := ⟨_, rfl⟩
 obtain ⟨S, hS⟩ : ∃ S, S = redT a b c := ⟨_, rfl⟩
 obtain ⟨R, hR⟩ : ∃ R, R = redT x y z := ⟨_, rfl⟩
 have BS := hidd (zF4 ha.out hb.out hc.out)
 have BR := hidd (zF4 hx.out hy.out hz.out)
 rw [← hS] at BS
 rw [← hR] at BR
 have HS := hidd hS
 have HR := hidd hR
 have HE1 := hidd he1
 have HE2 := hidd he2
 have T1 : Hid (er1 = 0) := by show _ = _; rw [he1]; exact k1
 clear k1
 have T2 : Hid (er2 = 0) := by show _ = _; rw [he2]; exact k2
 have T3 : Hid (eqF S.fa S.fb S.fc R.fa R.fb R.fc = true) := by show _ = _; rw [hS, hR]; exact k3
 clear k2 k3
 clear hS hR he1 he2
 obtain ⟨_, rfl, hf0⟩ := h
 have hF0 := hf0
 obtain ⟨y0_p0, y0_q0, _, rfl, _y0_n0, y0_p1, y0_q1, _, rfl, _y0_n1, y0_p2, y0_q2, _, rfl, _y0_n2, rfl⟩ := hf0
 obtain ⟨_, rfl, hf1⟩ := h'
 have hF1 := hf1
 obtain ⟨y1_p0, y1_q0, _, rfl, _y1_n0, y1_p1, y1_q1, _, rfl, _y1_n1, y1_p2, y1_q2, _, rfl, _y1_n2, rfl⟩ := hf1
 obtain ⟨w1, b1, hw1, hb1, hs1, E⟩ := gS w 33 hF0
 obtain ⟨w2, b2, hw2, hb2, hs2, E⟩ := fS E hs1 33 hF1
 obtain ⟨w3, b3, hw3, hb3, hs3, E⟩ := fO E hs2 36 zB5
 go_enter Tryz.func36, Tryz.ntmps36
 go_upto_region 1 with (fail)
 rw [← hw1]
 rw [← hw2]
 rw [← hw3]
 rw [← hb3]
 rw [← hb2]
 rw [← hb1]
 clear hw1 hw2 hw3 hb1 hb2 hb3 hs3 hs1 hs2
 refine rg [Fq.st [.n a, .n b, .n c], Fq.tup3 (Fq.st [.n S.fa, .n S.fb, .n S.fc]) (Fq.st [.n S.x1, .n S.x2, .n S.x3, .n S.x4]) (Fq.is (.int .i64 er1)), Fq.tup3 (Fq.st [.n S.fa, .n S.fb, .n S.fc]) (Fq.st [.n S.x1, .n S.x2, .n S.x3, .n S.x4]) (Fq.is (.int .i64 er1)), Fq.st [.n S.fa, .n S.fb, .n S.fc], Fq.st [.n S.x1, .n S.x2, .n S.x3, .n S.x4], Fq.is (.int .i64 er1), Fq.any, Fq.any, Fq.any, Fq.any, Fq.is (.int .i64 er1)] N3 [⟨6, 8, 6, Fq.st [.n 0, .n 0, .n 0], Fq.st [.n S.fa, .n S.fb, .n S.fc], none⟩, ⟨7, 9, 8, Fq.st [.n 0, .n 0, .n 0, .n 0], Fq.st [.n S.x1, .n S.x2, .n S.x3, .n S.x4], none⟩] E (fun hp => ⟨?_, ?_, ?_, ?_, ?_, ?_, ?_, ?_, ?_, ?_, ?_, tv⟩) ?_
 ·exact lS 0 6 hp (mq 2 rfl) zAm (sqo 2)
 ·exact wXa (Fq.st [.n a, .n b, .n c]) hp zE2 (sqi 0) fun v w h => (by have hh := zE8 h ha.out hb.out hc.out; rw [← HS.out, ← HE1.out] at hh; exact hh)
 ·exact zAa hp fo tv (sqi 1)
 ·exact zA1 hp fo tv (sqi 2) (fun v1 v2 v3 w h1 h2 h3 => ⟨_, rfl, h1⟩)
 ·exact zA1 hp fo tv (sqi 2) (fun v1 v2 v3 w h1 h2 h3 => ⟨_, rfl, h2⟩)
 ·exact zA1 hp fo tv (sqi 2) (fun v1 v2 v3 w h1 h2 h3 => ⟨_, rfl, h3⟩)
 ·exact aS hp (mq 0 rfl) zBb zB8
 ·exact aS hp (mq 1 rfl) zB5 zEg
 ·exact sS 3 hp (mq 0 rfl) zA7
 ·exact sS 4 hp (mq 1 rfl) zBz
 ·exact zAh hp fo tv (sqi 5)
 intro L vs w4 nb hL hC hn E4
 have e5 := wXi hC 5
 have e10 := wXi hC 10
 have e6 : vs 6 = .pointer (some ⟨nb 6, 0, none⟩) := hn _ (mq 0 rfl)
 have e7 : vs 7 = .pointer (some ⟨nb 7, 0, none⟩) := hn _ (mq 1 rfl)
 have E := E4; try simp only [LM, zAd] at E
 rw [zAe hL]
 simp only [SP, Nat.zero_add, Nat.reduceAdd]
 rw [e5, e10, e6, e7]
 generalize nb 6 = b4_6 at E ⊢
 generalize nb 7 = b4_7 at E ⊢
 generalize vs 0 = u4_0
 generalize vs 1 = u4_1
 generalize vs 2 = u4_2
 generalize vs 3 = u4_3
 generalize vs 4 = u4_4
 clear e5 e10 e6 e7 hC hn E4 hL vs L nb
 go_upto_region 2 with (fail)
 refine rg [Fq.st [.n x, .n y, .n z], Fq.tup3 (Fq.st [.n R.fa, .n R.fb, .n R.fc]) (Fq.st [.n R.x1, .n R.x2, .n R.x3, .n R.x4]) (Fq.is (.int .i64 er2)), Fq.tup3 (Fq.st [.n R.fa, .n R.fb, .n R.fc]) (Fq.st [.n R.x1, .n R.x2, .n R.x3, .n R.x4]) (Fq.is (.int .i64 er2)), Fq.st [.n R.fa, .n R.fb, .n R.fc], Fq.st [.n R.x1, .n R.x2, .n R.x3, .n R.x4], Fq.is (.int .i64 er2), Fq.any, Fq.any, Fq.any, Fq.any, Fq.is (.int .i64 er2)] N5 [⟨6, 8, 6, Fq.st [.n 0, .n 0, .n 0], Fq.st [.n R.fa, .n R.fb, .n R.fc], none⟩, ⟨7, 9, 8, Fq.st [.n 0, .n 0, .n 0, .n 0], Fq.st [.n R.x1, .n R.x2, .n R.x3, .n R.x4], none⟩] E (fun hp => ⟨?_, ?_, ?_, ?_, ?_, ?_, ?_, ?_, ?_, ?_, ?_, tv⟩) ?_
 ·exact lS 0 6 hp (mq 3 rfl) zAm (sqo 3)
 ·exact wXa (Fq.st [.n x, .n y, .n z]) hp zE2 (sqi 0) fun v w h => (by have hh := zE8 h hx.out hy.out hz.out; rw [← HR.out, ← HE2.out] at hh; exact hh)
 ·exact zAa hp fo tv (sqi 1)
 ·exact zA1 hp fo tv (sqi 2) (fun v1 v2 v3 w h1 h2 h3 => ⟨_, rfl, h1⟩)
 ·exact zA1 hp fo tv (sqi 2) (fun v1 v2 v3 w h1 h2 h3 => ⟨_, rfl, h2⟩)
 ·exact zA1 hp fo tv (sqi 2) (fun v1 v2 v3 w h1 h2 h3 => ⟨_, rfl, h3⟩)
 ·exact aS hp (mq 0 rfl) zBb zB8
 ·exact aS hp (mq 1 rfl) zB5 zEg
 ·exact sS 3 hp (mq 0 rfl) zA7
 ·exact sS 4 hp (mq 1 rfl) zBz
 ·exact zAh hp fo tv (sqi 5)
 intro L vs w5 nb hL hC hn E5
 have e5 := wXi hC 5
 have e10 := wXi hC 10
 have e6 : vs 6 = .pointer (some ⟨nb 6, 0, none⟩) := hn _ (mq 0 rfl)
 have e7 : vs 7 = .pointer (some ⟨nb 7, 0, none⟩) := hn _ (mq 1 rfl)
 have E := E5; try simp only [LM, zAd] at E
 rw [zAe hL]
 simp only [SP, Nat.zero_add, Nat.reduceAdd]
 rw [e5, e10, e6, e7]
 generalize nb 6 = b5_6 at E ⊢
 generalize nb 7 = b5_7 at E ⊢
 generalize vs 0 = u5_0
 generalize vs 1 = u5_1
 generalize vs 2 = u5_2
 generalize vs 3 = u5_3
 generalize vs 4 = u5_4
 clear e5 e10 e6 e7 hC hn E5 hL vs L nb
 go_upto_region 3 with (fail)
 refine rg [Fq.is (.int .i64 er1), yF, yF, Fq.is (.int .i64 er2), yF, yF, yF, Fq.st [.n S.fa, .n S.fb, .n S.fc], Fq.st [.n R.fa, .n R.fb, .n R.fc], yT, yF, yF] N7 [] E (fun hp => ⟨?_, ?_, ?_, ?_, ?_, ?_, ?_, ?_, ?_, ?_, ?_, ?_, tv⟩) ?_
 ·exact zAa hp fo tv (sqo 8)
 ·exact zAf (F := fun v _ => v = .int .i64 er1) hp fo tv (sqi 0) (fun ρ w hc h => ⟨.bool false, by simp [execOp, go_sem, h, hc, T1.out], rfl⟩)
 ·exact zAa hp fo tv (sqi 1)
 ·exact zAa hp fo gqi (sqo 11)
 ·exact zAf (F := fun v _ => v = .int .i64 er2) hp fo gqi (sqi 3) (fun ρ w hc h => ⟨.bool false, by simp [execOp, go_sem, h, hc, T2.out], rfl⟩)
 ·exact zAg (F := fun v _ => v = .bool false) (G := fun v _ => v = .bool false) hp fo tv (sqi 2) (sqi 4) (fun ρ w hc h h' => ⟨_, by simp [execOp, go_sem, h, h'], rfl⟩)
 ·exact zAa hp fo tv (sqi 5)
 ·exact lG 0 6 hp gqi (mq 2 rfl) zAm (sqo 6) fun v w h => h
 ·exact lG 0 6 hp gqi (mq 0 rfl) zAm (sqo 9) fun v w h => h
 ·exact zAx (F := (Fq.st [.n S.fa, .n S.fb, .n S.fc]).P) (G := (Fq.st [.n R.fa, .n R.fb, .n R.fc]).P) hp fo gqi (zMu) (sqi 7) (sqi 8) (fun v v' w h h' => zNc h h' T3.out)
 ·exact zAf (F := fun v _ => v = .bool true) hp fo gqi (sqi 9) (fun ρ w _ h => ⟨.bool false, by simp [execOp, go_sem, h], rfl⟩)
 ·exact zAg (F := fun v _ => v = .bool false) (G := fun v _ => v = .bool false) hp fo tv (sqi 6) (sqi 10) (fun ρ w hc h h' => ⟨_, by simp [execOp, go_sem, h, h'], rfl⟩)
 intro L vs w6 nb hL hC hn E6
 have e0 := wXi hC 0
 have e1 := wXi hC 1
 have e2 := wXi hC 2
 have e3 := wXi hC 3
 have e4 := wXi hC 4
 have e5 := wXi hC 5
 have e6 := wXi hC 6
 have e9 := wXi hC 9
 have e10 := wXi hC 10
 have e11 := wXi hC 11
 have E := E6; try simp only [LM, zAd] at E
 rw [zAe hL]
 simp only [SP, Nat.zero_add, Nat.reduceAdd]
 rw [e0, e1, e2, e3, e4, e5, e6, e9, e10, e11]
 generalize vs 7 = u6_7
 generalize vs 8 = u6_8
 clear e0 e1 e2 e3 e4 e5 e6 e9 e10 e11 hC hn E6 hL vs L nb
 go_upto_region 5 with (fail)
 have B7 : Hid (ab ((-R.x2)) < pw 30) := zDo BR.out.2.2.1
 have B8 : Hid (ab ((-R.x3)) < pw 30) := zDo BR.out.2.2.2.1
 refine rg [Fq.st [.n S.x1, .n S.x2, .n S.x3, .n S.x4], Fq.st [.n R.x1, .n R.x2, .n R.x3, .n R.x4], Fq.st [.n R.x4, .n (-R.x2), .n (-R.x3), .n R.x1], Fq.st [.n (smA S R), .n (smB S R), .n (smC S R), .n (smD S R)], Fq.any, yT] [none, none, none, none, some (4, Fq.st [.n (smA S R), .n (smB S R), .n (smC S R), .n (smD S R)]), none, none] [] E (fun hp => ⟨?_, ?_, ?_, ?_, ?_, ?_, tv⟩) ?_
 ·exact lS 0 8 hp (mq 3 rfl) zCw (sqo 7)
 ·exact lS 0 8 hp (mq 1 rfl) zCw (sqo 10)
 ·exact wXa (Fq.st [.n R.x1, .n R.x2, .n R.x3, .n R.x4]) hp zMt (sqi 1) fun v w h => zM9 h (Int.lt_of_lt_of_le BR.out.2.1 (zAb (by omega))) (Int.lt_of_lt_of_le BR.out.2.2.1 (zAb (by omega))) (Int.lt_of_lt_of_le BR.out.2.2.2.1 (zAb (by omega))) (Int.lt_of_lt_of_le BR.out.2.2.2.2 (zAb (by omega)))
 ·exact wXb (Fq.st [.n S.x1, .n S.x2, .n S.x3, .n S.x4]) (Fq.st [.n R.x4, .n (-R.x2), .n (-R.x3), .n R.x1]) hp zH5 (sqi 0) (sqi 2) fun v v' w h h' => zIc h h' (Int.lt_of_lt_of_le BS.out.2.1 (zAb (by omega))) (Int.lt_of_lt_of_le BS.out.2.2.1 (zAb (by omega))) (Int.lt_of_lt_of_le BS.out.2.2.2.1 (zAb (by omega))) (Int.lt_of_lt_of_le BS.out.2.2.2.2 (zAb (by omega))) (Int.lt_of_lt_of_le BR.out.2.2.2.2 (zAb (by omega))) (Int.lt_of_lt_of_le B7.out (zAb (by omega))) (Int.lt_of_lt_of_le B8.out (zAb (by omega))) (Int.lt_of_lt_of_le BR.out.2.1 (zAb (by omega)))
 ·exact sO 0 3 hp (mq 4 rfl) zBz (sqo 4)
 ·exact zAh hp fo tv (zAj (fun _ => rfl))
 intro L vs w9 nb hL hC hn E9
 have e5 := wXi hC 5
 have E := E9; try simp only [LM, zAd] at E
 rw [zAe hL]
 simp only [SP, Nat.zero_add, Nat.reduceAdd]
 rw [e5]
 generalize vs 0 = u9_0
 generalize vs 1 = u9_1
 generalize vs 2 = u9_2
 generalize vs 3 = u9_3
 clear e5 hC hn E9 hL vs L nb
 have hE := HS.out
 have hE2 := HR.out
 clear HS HR HE1 HE2 T1 T2 T3
 obtain ⟨_, _, hccr, hffr⟩ := zBm (E.box 4 rfl)
 have hPr := hffr
 obtain ⟨r_p0, r_q0, _, rfl, _r_n0, r_p1, r_q1, _, rfl, _r_n1, r_p2, r_q2, _, rfl, _r_n2, r_p3, r_q3, _, rfl, _r_n3, rfl⟩ := hffr
 have cr0 := hccr 0 (by simp)
 have cr1 := hccr 1 (by simp)
 have cr2 := hccr 2 (by simp)
 have cr3 := hccr 3 (by simp)
 have cr4 := hccr 4 (by simp)
 have cr5 := hccr 5 (by simp)
 have cr6 := hccr 6 (by simp)
 have cr7 := hccr 7 (by simp)
 simp only [List.getD_cons_zero, List.getD_cons_succ] at cr0 cr1 cr2 cr3 cr4 cr5 cr6 cr7
 clear hccr
 clear B7 B8 ha hb hc hx hy hz BS BR
 rw [hE, hE2] at hPr
 go_wp2
 refine bodyPost_ret (v := .tuple #[.agg #[r_p0, r_q0, r_p1, r_q1, r_p2, r_q2, r_p3, r_q3], .bool true]) ?_ rfl ⟨_, rfl, E.below, _, _, rfl, ⟨_, rfl, hPr⟩, rfl⟩
 simp [results, Tryz.results36, go_sem, cr0, cr1, cr2, cr3, cr4, cr5, cr6, cr7]

noncomputable def zEu (a b c x y z : Int) : Bool := decide (redE a b c = 0) && (decide (redE x y z = 0) && eqR (redT a b c) (redT x y z))
theorem exPSameY {w : World} {v v' : Value} {a b c x y z : Int} (h : (Fq.st [.n a, .n b, .n c]).P v w) (h' : (Fq.st [.n x, .n y, .n z]).P v' w) (ha : ab a < pw 5) (hb : ab b < pw 5) (hc : ab c < pw 5) (hx : ab x < pw 5) (hy : ab y < pw 5) (hz : ab z < pw 5) (hs : zEu a b c x y z = true) :
  Calls Tryz.prog 36 #[v, v'] w fun e w' => ∃ v', e = .returned v' ∧ Below w.heap.size w w' ∧ (Fq.tup2 (Fq.st [.n (smA (redT a b c) (redT x y z)), .n (smB (redT a b c) (redT x y z)), .n (smC (redT a b c) (redT x y z)), .n (smD (redT a b c) (redT x y z))]) (Fq.is (.bool true))).P v' w' := by
 unfold zEu at hs
 simp only [Bool.and_eq_true, decide_eq_true_eq] at hs
 exact exPSame4 h h' ha hb hc hx hy hz hs.1 hs.2.1 hs.2.2

def zBq (D : Int) : Int := if (3 + D % 2000) % 4 = 1 then 3 + D % 2000 + 2 else if (3 + D % 2000) % 4 = 2 then 3 + D % 2000 + 1 else 3 + D % 2000
theorem zJc (D : Int) : 3 ≤ zBq D ∧ zBq D ≤ 2004 ∧ (zBq D % 4 = 0 ∨ zBq D % 4 = 3) := by unfold zBq; split <;> (try split) <;> omega
theorem sizeF_at {D n : Int} (h0 : 3 + D % 2000 ≤ n) (h1 : n ≤ zBq D) : (n = zBq D ∧ (n % 4 = 0 ∨ n % 4 = 3)) ∨ (n < zBq D ∧ n % 4 ≠ 0 ∧ n % 4 ≠ 3) := by
 unfold zBq at *
 split at h1
 ·rename_i h; rw [if_pos h]; omega
 ·rename_i h
  rw [if_neg h]
  split at h1
  ·rename_i g; rw [if_pos g]; omega
  ·rename_i g; rw [if_neg g]; omega
theorem zLq : rowB 57 9 = true := by kernel_rfl
set_option maxRecDepth 100000 in
set_option maxHeartbeats 4000000 in
theorem exQTurn {w : World} {z s t : Int} (hz : 0 ≤ z ∧ z ≤ 255) (es : s = z % 8 - 3) (et : t = z / 8 % 8 - 4) :
  Calls Tryz.prog 35 #[.int .u8 z] w fun e w' => ∃ v', e = .returned v' ∧ Below w.heap.size w w' ∧ (Fq.st [.n s, .n (s * t - 1), .n 1, .n t]).P v' w' := by
 obtain ⟨r, hr⟩ : ∃ r, r = z % 8 := ⟨_, rfl⟩
 obtain ⟨d, hd⟩ : ∃ d, d = z / 8 := ⟨_, rfl⟩
 obtain ⟨q, hq⟩ : ∃ q, q = d % 8 := ⟨_, rfl⟩
 have hr0 : 0 ≤ r ∧ r < 8 := by omega
 have hd0 : 0 ≤ d ∧ d < 32 := by omega
 have hq0 : 0 ≤ q ∧ q < 8 := by omega
 have es2 : s = r - 3 := by rw [es, hr]
 have et2 : t = q - 4 := by rw [et, hq, hd]
 have C0 : Hid (Int.tmod z 8 = r) := by show _ = _; rw [Int.tmod_eq_emod_of_nonneg (by omega), hr]
 have C1 : Hid (Int.tdiv z 8 = d) := by show _ = _; rw [Int.tdiv_eq_ediv_of_nonneg (by omega), hd]
 have C2 : Hid (Int.tmod d 8 = q) := by show _ = _; rw [Int.tmod_eq_emod_of_nonneg (by omega), hq]
 have D0 : Hid (IntKind.u8.wrap r = r) := by show _ = _; simp [IntKind.wrap, IntKind.bits, IntKind.signed]; omega
 have D1 : Hid (IntKind.u8.wrap d = d) := by show _ = _; simp [IntKind.wrap, IntKind.bits, IntKind.signed]; omega
 have D2 : Hid (IntKind.u8.wrap q = q) := by show _ = _; simp [IntKind.wrap, IntKind.bits, IntKind.signed]; omega
 have I0 : Hid (IntKind.i64.wrap r = r) := IntWalk.i64_in _ (by omega)
 have I1 : Hid (IntKind.i64.wrap q = q) := IntWalk.i64_in _ (by omega)
 have E0 : Hid (IntKind.i64.wrap (r - 3) = s) := by show _ = _; rw [es2]; exact IntWalk.i64_in _ (by omega)
 have E1 : Hid (IntKind.i64.wrap (q - 4) = t) := by show _ = _; rw [et2]; exact IntWalk.i64_in _ (by omega)
 have RS1 : Hid (-9223372036854775808 ≤ s ∧ s ≤ 9223372036854775807) := by show _ ∧ _; omega
 have RT1 : Hid (-9223372036854775808 ≤ t ∧ t ≤ 9223372036854775807) := by show _ ∧ _; omega
 have BS : Hid (ab s < pw 3) := zAs RS1.out.1 RS1.out.2
 have BT : Hid (ab t < pw 3) := zAs RT1.out.1 RT1.out.2
 have BV : Hid (ab (s * t - 1) < pw 8) := zDp (zBi BS.out BT.out) (zAs (x := 1) (by decide) (by decide)) (by omega) (by omega)
 clear hr hd hq hr0 hd0 hq0 es2 et2 es et hz
 obtain ⟨w1, b1, hw1, hb1, hs1, E⟩ := zCu w (F := Fq.st [.n 0, .n 0, .n 0, .n 0]) (us := [.bool false, .slice none 0 0, .bool false, .slice none 0 0, .bool false, .slice none 0 0, .bool false, .slice none 0 0]) 36 rfl (by simp) ((Fits.tame (zB5 w))) (zKf _)
 go_enter Tryz.func35, Tryz.ntmps35
 go_upto_region 1 with (fail)
 rw [← hw1]
 rw [← hb1]
 clear hw1 hb1 hs1
 refine rg [Fq.is (.int .u8 z), Fq.is (.int .u8 r), Fq.is (.int .i64 r), Fq.is (.int .i64 s), Fq.st [.n 1, .n s, .n 0, .n 1], Fq.any, Fq.any] [none] [⟨5, 6, 8, Fq.st [.n 0, .n 0, .n 0, .n 0], Fq.st [.n 1, .n s, .n 0, .n 1], none⟩] E (fun hp => ⟨?_, ?_, ?_, ?_, ?_, ?_, ?_, tv⟩) ?_
 ·exact zAa hp fo tv (sqo 0)
 ·exact zAf (F := fun v _ => v = .int .u8 z) hp fo tv (sqi 0) (fun ρ w hc h => ⟨.int .u8 r, by simp [execOp, go_sem, h, hc, C0.out, D0.out], rfl⟩)
 ·exact zAf (F := fun v _ => v = .int .u8 r) hp fo tv (sqi 1) (fun ρ w hc h => ⟨.int .i64 r, by simp [execOp, go_sem, h, I0.out], rfl⟩)
 ·exact zAf (F := fun v _ => v = .int .i64 r) hp fo tv (sqi 2) (fun ρ w hc h => ⟨.int .i64 s, by simp [execOp, go_sem, h, hc, E0.out], rfl⟩)
 ·exact zDk (F := (Fq.is (.int .i64 1)).P) (G := (Fq.is (.int .i64 s)).P) (F3 := (Fq.is (.int .i64 0)).P) (F4 := (Fq.is (.int .i64 1)).P) hp fo tv (zH1) (zAj (fun _ => rfl)) (sqi 3) (zAj (fun _ => rfl)) (zAj (fun _ => rfl)) (fun v v' u u' w h h' g g' => (by subst h h' g g'; exact zIe (by decide) RS1.out (by decide) (by decide)))
 ·exact aS hp (mq 0 rfl) zB5 zEg
 ·exact sS 4 hp (mq 0 rfl) zBz
 intro L vs w2 nb hL hC hn E2
 have e0 := wXi hC 0
 have e1 := wXi hC 1
 have e2 := wXi hC 2
 have e3 := wXi hC 3
 have e5 : vs 5 = .pointer (some ⟨nb 5, 0, none⟩) := hn _ (mq 0 rfl)
 have E := E2; try simp only [LM, zAd] at E
 rw [zAe hL]
 simp only [SP, Nat.zero_add, Nat.reduceAdd]
 rw [e0, e1, e2, e3, e5]
 generalize nb 5 = b2_5 at E ⊢
 generalize vs 4 = u2_4
 clear e0 e1 e2 e3 e5 hC hn E2 hL vs L nb
 clear C0 I0 E0
 go_upto_region 2 with (fail)
 refine rg [Fq.st [.n 1, .n s, .n 0, .n 1], Fq.st [.n 0, .n (-1), .n 1, .n 0], Fq.st [.n s, .n (-1), .n 1, .n 0], Fq.is (.int .u8 z), Fq.is (.int .u8 d), Fq.is (.int .u8 q), Fq.is (.int .i64 q), Fq.is (.int .i64 t), Fq.st [.n 1, .n t, .n 0, .n 1], Fq.st [.n s, .n (s * t - 1), .n 1, .n t], Fq.any] [none, some (10, Fq.st [.n s, .n (s * t - 1), .n 1, .n t])] [] E (fun hp => ⟨?_, ?_, ?_, ?_, ?_, ?_, ?_, ?_, ?_, ?_, ?_, tv⟩) ?_
 ·exact lS 0 8 hp (mq 0 rfl) zCw (sqo 3)
 ·exact zDk (F := (Fq.is (.int .i64 0)).P) (G := (Fq.is (.int .i64 (-1))).P) (F3 := (Fq.is (.int .i64 1)).P) (F4 := (Fq.is (.int .i64 0)).P) hp fo tv (zH1) (zAj (fun _ => rfl)) (zAj (fun _ => rfl)) (zAj (fun _ => rfl)) (zAj (fun _ => rfl)) (fun v v' u u' w h h' g g' => (by subst h h' g g'; exact zIe (by decide) (by decide) (by decide) (by decide)))
 ·exact wXb (Fq.st [.n 1, .n s, .n 0, .n 1]) (Fq.st [.n 0, .n (-1), .n 1, .n 0]) hp zJ0 (sqi 0) (sqi 1) fun v v' w h h' => (by have hh := zKc h h' (Int.lt_of_lt_of_le (zAs (by decide) (by decide)) (zAb (by omega))) (Int.lt_of_lt_of_le BS.out (zAb (by omega))) (Int.lt_of_lt_of_le (zAs (by decide) (by decide)) (zAb (by omega))) (Int.lt_of_lt_of_le (zAs (by decide) (by decide)) (zAb (by omega))) (Int.lt_of_lt_of_le (zAs (by decide) (by decide)) (zAb (by omega))) (Int.lt_of_lt_of_le (zAs (by decide) (by decide)) (zAb (by omega))) (Int.lt_of_lt_of_le (zAs (by decide) (by decide)) (zAb (by omega))) (Int.lt_of_lt_of_le (zAs (by decide) (by decide)) (zAb (by omega))); rw [show (((1 * 0) + (s * 1)) : Int) = s by omega, show (((1 * (-1)) + (s * 0)) : Int) = (-1) by omega, show (((0 * 0) + (1 * 1)) : Int) = 1 by omega, show (((0 * (-1)) + (1 * 0)) : Int) = 0 by omega] at hh; exact hh)
 ·exact zAa hp fo tv (sqo 0)
 ·exact zAf (F := fun v _ => v = .int .u8 z) hp fo tv (sqi 3) (fun ρ w hc h => ⟨.int .u8 d, by simp [execOp, go_sem, h, hc, C1.out, D1.out], rfl⟩)
 ·exact zAf (F := fun v _ => v = .int .u8 d) hp fo tv (sqi 4) (fun ρ w hc h => ⟨.int .u8 q, by simp [execOp, go_sem, h, hc, C2.out, D2.out], rfl⟩)
 ·exact zAf (F := fun v _ => v = .int .u8 q) hp fo tv (sqi 5) (fun ρ w hc h => ⟨.int .i64 q, by simp [execOp, go_sem, h, I1.out], rfl⟩)
 ·exact zAf (F := fun v _ => v = .int .i64 q) hp fo tv (sqi 6) (fun ρ w hc h => ⟨.int .i64 t, by simp [execOp, go_sem, h, hc, E1.out], rfl⟩)
 ·exact zDk (F := (Fq.is (.int .i64 1)).P) (G := (Fq.is (.int .i64 t)).P) (F3 := (Fq.is (.int .i64 0)).P) (F4 := (Fq.is (.int .i64 1)).P) hp fo tv (zH1) (zAj (fun _ => rfl)) (sqi 7) (zAj (fun _ => rfl)) (zAj (fun _ => rfl)) (fun v v' u u' w h h' g g' => (by subst h h' g g'; exact zIe (by decide) RT1.out (by decide) (by decide)))
 ·exact wXb (Fq.st [.n s, .n (-1), .n 1, .n 0]) (Fq.st [.n 1, .n t, .n 0, .n 1]) hp zJ0 (sqi 2) (sqi 8) fun v v' w h h' => (by have hh := zKc h h' (Int.lt_of_lt_of_le BS.out (zAb (by omega))) (Int.lt_of_lt_of_le (zAs (by decide) (by decide)) (zAb (by omega))) (Int.lt_of_lt_of_le (zAs (by decide) (by decide)) (zAb (by omega))) (Int.lt_of_lt_of_le (zAs (by decide) (by decide)) (zAb (by omega))) (Int.lt_of_lt_of_le (zAs (by decide) (by decide)) (zAb (by omega))) (Int.lt_of_lt_of_le BT.out (zAb (by omega))) (Int.lt_of_lt_of_le (zAs (by decide) (by decide)) (zAb (by omega))) (Int.lt_of_lt_of_le (zAs (by decide) (by decide)) (zAb (by omega))); rw [show (((s * 1) + ((-1) * 0)) : Int) = s by omega, show (((s * t) + ((-1) * 1)) : Int) = (s * t - 1) by omega, show (((1 * 1) + (0 * 0)) : Int) = 1 by omega, show (((1 * t) + (0 * 1)) : Int) = t by omega] at hh; exact hh)
 ·exact sO 0 9 hp (mq 1 rfl) zBz (sqo 2)
 intro L vs w3 nb hL hC hn E3
 have e3 := wXi hC 3
 have e4 := wXi hC 4
 have e5 := wXi hC 5
 have e6 := wXi hC 6
 have e7 := wXi hC 7
 have E := E3; try simp only [LM, zAd] at E
 rw [zAe hL]
 simp only [SP, Nat.zero_add, Nat.reduceAdd]
 rw [e3, e4, e5, e6, e7]
 generalize vs 0 = u3_0
 generalize vs 1 = u3_1
 generalize vs 2 = u3_2
 generalize vs 8 = u3_8
 generalize vs 9 = u3_9
 clear e3 e4 e5 e6 e7 hC hn E3 hL vs L nb
 clear C1 D1 C2 D2 I1 E1 RS1 RT1
 obtain ⟨_, _, hc0, hf0⟩ := zBm (E.box 1 rfl)
 have hP0 := hf0
 obtain ⟨r0_p0, r0_q0, _, rfl, _r0_n0, r0_p1, r0_q1, _, rfl, _r0_n1, r0_p2, r0_q2, _, rfl, _r0_n2, r0_p3, r0_q3, _, rfl, _r0_n3, rfl⟩ := hf0
 have c0_0 := hc0 0 (by simp)
 have c0_1 := hc0 1 (by simp)
 have c0_2 := hc0 2 (by simp)
 have c0_3 := hc0 3 (by simp)
 have c0_4 := hc0 4 (by simp)
 have c0_5 := hc0 5 (by simp)
 have c0_6 := hc0 6 (by simp)
 have c0_7 := hc0 7 (by simp)
 simp only [List.getD_cons_zero, List.getD_cons_succ] at c0_0 c0_1 c0_2 c0_3 c0_4 c0_5 c0_6 c0_7
 clear hc0
 clear BS BT BV
 go_wp2
 refine bodyPost_ret (v := .agg #[r0_p0, r0_q0, r0_p1, r0_q1, r0_p2, r0_q2, r0_p3, r0_q3]) ?_ rfl ⟨_, rfl, E.below, ⟨_, rfl, hP0⟩⟩
 simp [results, Tryz.results35, go_sem, c0_0, c0_1, c0_2, c0_3, c0_4, c0_5, c0_6, c0_7]

set_option maxRecDepth 100000 in
set_option maxHeartbeats 4000000 in
theorem exQSize {w : World} {v : Value} {D i0 i1 i2 i3 m0 m1 m2 m3 : Int} (h : (Fq.st [.v (.int .u16 D), .v (.int .u16 i0), .v (.int .u16 i1), .v (.int .u16 i2), .v (.int .u16 i3), .v (.int .u8 m0), .v (.int .u8 m1), .v (.int .u8 m2), .v (.int .u8 m3)]).P v w) (hD : 0 ≤ D ∧ D ≤ 65535) :
  Calls Tryz.prog 38 #[v] w fun e w' => ∃ v', e = .returned v' ∧ Below w.heap.size w w' ∧ v' = .int .i64 (zBq D) := by
 obtain ⟨r, hr⟩ : ∃ r, r = D % 2000 := ⟨_, rfl⟩
 have hr0 : 0 ≤ r ∧ r < 2000 := by omega
 obtain ⟨k, hk⟩ : ∃ k, k = 3 + r := ⟨_, rfl⟩
 have hk1 : 3 + D % 2000 ≤ k := by omega
 have hk2 : k ≤ zBq D := by unfold zBq; rw [← hr]; split <;> (try split) <;> omega
 have C0 : Hid (Int.tmod D 2000 = r) := by show _ = _; rw [Int.tmod_eq_emod_of_nonneg (by omega), hr]
 have I0 : Hid (IntKind.i64.wrap r = r) := IntWalk.i64_in _ (by omega)
 have E0 : Hid (IntKind.i64.wrap (3 + r) = k) := by show _ = _; rw [hk]; exact IntWalk.i64_in _ (by omega)
 have HK := hidd (And.intro hk1 hk2)
 clear hr hr0 hk hk1 hk2 hD
 obtain ⟨_, rfl, hf0⟩ := h
 have hF0 := hf0
 obtain ⟨_, rfl, _, _, rfl, _, _, rfl, _, _, rfl, _, _, rfl, _, _, rfl, _, _, rfl, _, _, rfl, _, _, rfl, _, rfl⟩ := hf0
 obtain ⟨w1, b1, hw1, hb1, hs1, E⟩ := gS w 57 hF0
 go_enter Tryz.func38, Tryz.ntmps38
 go_upto_region 1 with (fail)
 rw [← hw1]
 rw [← hb1]
 clear hw1 hb1 hs1
 refine rg [ip b1 0, Fq.is (.int .u16 D), Fq.is (.int .u16 r), Fq.is (.int .i64 r), Fq.is (.int .i64 k), Fq.is (.int .i64 k)] [none] [] E (fun hp => ⟨?_, ?_, ?_, ?_, ?_, ?_, tv⟩) ?_
 ·exact qa b1 0 0 hp (sqo 1)
 ·exact wXc 0 hp (mq 0 rfl) (sqi 0)
 ·exact zAf (F := fun v _ => v = .int .u16 D) hp fo tv (sqi 1) (fun ρ w hc h => ⟨.int .u16 r, by simp [execOp, go_sem, h, hc, C0.out], rfl⟩)
 ·exact zAf (F := fun v _ => v = .int .u16 r) hp fo tv (sqi 2) (fun ρ w hc h => ⟨.int .i64 r, by simp [execOp, go_sem, h, I0.out], rfl⟩)
 ·exact zAf (F := fun v _ => v = .int .i64 r) hp fo tv (sqi 3) (fun ρ w hc h => ⟨.int .i64 k, by simp [execOp, go_sem, h, hc, E0.out], rfl⟩)
 ·exact zAh hp fo tv (sqi 4)
 intro L vs w2 nb hL hC hn E2
 have e0 := wXi hC 0
 have e1 := wXi hC 1
 have e2 := wXi hC 2
 have e3 := wXi hC 3
 have e4 := wXi hC 4
 have e5 := wXi hC 5
 have E := E2; try simp only [LM, zAd] at E
 rw [zAe hL]
 simp only [SP, Nat.zero_add, Nat.reduceAdd]
 rw [e0, e1, e2, e3, e4, e5]
 clear e0 e1 e2 e3 e4 e5 hC hn E2 hL vs L nb
 clear C0 I0 E0
 have HE := hidd E
 clear E
 obtain ⟨W0, rfl⟩ : ∃ W0, W0 = w2 := ⟨_, rfl⟩
 go_wp2_with (fail)
 go_loopw [3] (fun vn W => ∃ n : Int, vn = .int .i64 n ∧ 3 + D % 2000 ≤ n ∧ n ≤ zBq D ∧ Fr w [(b1, 9, Fq.st [.v (.int .u16 D), .v (.int .u16 i0), .v (.int .u16 i1), .v (.int .u16 i2), .v (.int .u16 i3), .v (.int .u8 m0), .v (.int .u8 m1), .v (.int .u8 m2), .v (.int .u8 m3)])] W) (fun vn _ => (zBq D - intOf vn).toNat)
 case atStart => exact ⟨k, rfl, HK.out.1, HK.out.2, HE.out⟩
 case round =>
  clear HE HK
  obtain ⟨V2, rfl⟩ : ∃ V2, V2 = wr := ⟨_, rfl⟩
  obtain ⟨n, rfl, hn1, hn2, E⟩ := hrel
  have hc := sizeF_at hn1 hn2
  have hsz := zJc D
  obtain ⟨rm, hrm⟩ : ∃ rm, rm = n % 4 := ⟨_, rfl⟩
  rw [← hrm] at hc
  have hn0 : 0 ≤ n ∧ n ≤ 2004 := by omega
  have TM : Hid (Int.tmod n 4 = rm) := by show _ = _; rw [Int.tmod_eq_emod_of_nonneg (by omega), hrm]
  clear hrm hsz
  go_upto_region 2 with (fail)
  by_cases hr0 : rm = 0
  ·have T1 : Hid (rm = 0) := by show _ = _; omega
   have hEq : n = zBq D := by omega
   have HEQ := hidd hEq
   clear hc hn1 hn2 hn0 hEq hr0
   refine rg [Fq.is (.int .i64 n), Fq.is (.int .i64 rm), yF, yF, Fq.is (undef), Fq.is (undef), Fq.is (undef), yF] [none] [] E (fun hp => ⟨?_, ?_, ?_, ?_, ?_, ?_, ?_, ?_, tv⟩) ?_
   ·exact zAa hp fo tv (sqo 3)
   ·exact zAf (F := fun v _ => v = .int .i64 n) hp fo tv (sqi 0) (fun ρ w hc h => ⟨.int .i64 rm, by simp [execOp, go_sem, h, hc, TM.out], rfl⟩)
   ·exact zAf (F := fun v _ => v = .int .i64 rm) hp fo tv (sqi 1) (fun ρ w hc h => ⟨.bool false, by simp [execOp, go_sem, h, hc, T1.out], rfl⟩)
   ·exact zAa hp fo tv (sqi 2)
   ·exact zAi hp fo rfl gqi (fun _ => rfl)
   ·exact zAi hp fo rfl gqi (fun _ => rfl)
   ·exact zAi hp fo rfl gqi (fun _ => rfl)
   ·exact zAg (F := fun v _ => v = .bool false) (G := fun v _ => v = .bool false) hp fo tv (sqi 3) (zAj (fun _ => rfl)) (fun ρ w hc h h' => ⟨_, by simp [execOp, go_sem, h, h'], rfl⟩)
   intro L vs w3 nb hL hC hn E3
   have e0 := wXi hC 0
   have e1 := wXi hC 1
   have e2 := wXi hC 2
   have e3 := wXi hC 3
   have e4 := wXi hC 4
   have e5 := wXi hC 5
   have e6 := wXi hC 6
   have e7 := wXi hC 7
   have E := E3; try simp only [LM, zAd] at E
   rw [zAe hL]
   simp only [SP, Nat.zero_add, Nat.reduceAdd]
   rw [e0, e1, e2, e3, e4, e5, e6, e7]
   clear e0 e1 e2 e3 e4 e5 e6 e7 hC hn E3 hL vs L nb
   go_upto_region 4 with (fail)
   refine rg [Fq.is (.int .i64 n), Fq.is (.int .i64 n)] [none] [] E (fun hp => ⟨?_, ?_, tv⟩) ?_
   ·exact zAa hp fo tv (sqo 3)
   ·exact zAh hp fo tv (sqi 0)
   intro L vs w4 nb hL hC hn E4
   have e0 := wXi hC 0
   have e1 := wXi hC 1
   have E := E4; try simp only [LM, zAd] at E
   rw [zAe hL]
   simp only [SP, Nat.zero_add, Nat.reduceAdd]
   rw [e0, e1]
   clear e0 e1 hC hn E4 hL vs L nb
   have hEq := HEQ.out
   clear T1 TM HEQ
   go_wp2
   refine bodyPost_ret (v := .int .i64 n) ?_ rfl ⟨_, rfl, E.below, by rw [hEq]⟩
   simp [results, Tryz.results38, go_sem]
  ·by_cases hr3 : rm = 3
   ·have T1 : Hid (¬ rm = 0) := by show ¬ _; omega
    have T2 : Hid (rm = 3) := by show _ = _; omega
    have hEq : n = zBq D := by omega
    have HEQ := hidd hEq
    clear hc hn1 hn2 hn0 hEq hr3
    refine rg [Fq.is (.int .i64 n), Fq.is (.int .i64 rm), yT, yT, Fq.is (.int .i64 n), Fq.is (.int .i64 rm), yF, yF] [none] [] E (fun hp => ⟨?_, ?_, ?_, ?_, ?_, ?_, ?_, ?_, tv⟩) ?_
    ·exact zAa hp fo tv (sqo 3)
    ·exact zAf (F := fun v _ => v = .int .i64 n) hp fo tv (sqi 0) (fun ρ w hc h => ⟨.int .i64 rm, by simp [execOp, go_sem, h, hc, TM.out], rfl⟩)
    ·exact zAf (F := fun v _ => v = .int .i64 rm) hp fo tv (sqi 1) (fun ρ w hc h => ⟨.bool true, by simp [execOp, go_sem, h, hc, T1.out], rfl⟩)
    ·exact zAa hp fo tv (sqi 2)
    ·exact zAa hp fo gqi (sqo 3)
    ·exact zAf (F := fun v _ => v = .int .i64 n) hp fo gqi (sqi 4) (fun ρ w hc h => ⟨.int .i64 rm, by simp [execOp, go_sem, h, hc, TM.out], rfl⟩)
    ·exact zAf (F := fun v _ => v = .int .i64 rm) hp fo gqi (sqi 5) (fun ρ w hc h => ⟨.bool false, by simp [execOp, go_sem, h, hc, T2.out], rfl⟩)
    ·exact zAg (F := fun v _ => v = .bool true) (G := fun v _ => v = .bool false) hp fo tv (sqi 3) (sqi 6) (fun ρ w hc h h' => ⟨_, by simp [execOp, go_sem, h, h'], rfl⟩)
    intro L vs w5 nb hL hC hn E5
    have e0 := wXi hC 0
    have e1 := wXi hC 1
    have e2 := wXi hC 2
    have e3 := wXi hC 3
    have e4 := wXi hC 4
    have e5 := wXi hC 5
    have e6 := wXi hC 6
    have e7 := wXi hC 7
    have E := E5; try simp only [LM, zAd] at E
    rw [zAe hL]
    simp only [SP, Nat.zero_add, Nat.reduceAdd]
    rw [e0, e1, e2, e3, e4, e5, e6, e7]
    clear e0 e1 e2 e3 e4 e5 e6 e7 hC hn E5 hL vs L nb
    go_upto_region 4 with (fail)
    refine rg [Fq.is (.int .i64 n), Fq.is (.int .i64 n)] [none] [] E (fun hp => ⟨?_, ?_, tv⟩) ?_
    ·exact zAa hp fo tv (sqo 3)
    ·exact zAh hp fo tv (sqi 0)
    intro L vs w6 nb hL hC hn E6
    have e0 := wXi hC 0
    have e1 := wXi hC 1
    have E := E6; try simp only [LM, zAd] at E
    rw [zAe hL]
    simp only [SP, Nat.zero_add, Nat.reduceAdd]
    rw [e0, e1]
    clear e0 e1 hC hn E6 hL vs L nb
    have hEq := HEQ.out
    clear T1 TM HEQ T2
    go_wp2
    refine bodyPost_ret (v := .int .i64 n) ?_ rfl ⟨_, rfl, E.below, by rw [hEq]⟩
    simp [results, Tryz.results38, go_sem]
   ·have T1 : Hid (¬ rm = 0) := by show ¬ _; omega
    have T2 : Hid (¬ rm = 3) := by show ¬ _ = _; omega
    have HN := hidd (show n < zBq D ∧ 3 + D % 2000 ≤ n ∧ n ≤ 2004 by omega)
    have W1 : Hid (IntKind.i64.wrap (n + 1) = n + 1) := IntWalk.i64_in _ (by omega)
    clear hc hn1 hn2 hn0 hr0 hr3
    refine rg [Fq.is (.int .i64 n), Fq.is (.int .i64 rm), yT, yT, Fq.is (.int .i64 n), Fq.is (.int .i64 rm), yT, yT] [none] [] E (fun hp => ⟨?_, ?_, ?_, ?_, ?_, ?_, ?_, ?_, tv⟩) ?_
    ·exact zAa hp fo tv (sqo 3)
    ·exact zAf (F := fun v _ => v = .int .i64 n) hp fo tv (sqi 0) (fun ρ w hc h => ⟨.int .i64 rm, by simp [execOp, go_sem, h, hc, TM.out], rfl⟩)
    ·exact zAf (F := fun v _ => v = .int .i64 rm) hp fo tv (sqi 1) (fun ρ w hc h => ⟨.bool true, by simp [execOp, go_sem, h, hc, T1.out], rfl⟩)
    ·exact zAa hp fo tv (sqi 2)
    ·exact zAa hp fo gqi (sqo 3)
    ·exact zAf (F := fun v _ => v = .int .i64 n) hp fo gqi (sqi 4) (fun ρ w hc h => ⟨.int .i64 rm, by simp [execOp, go_sem, h, hc, TM.out], rfl⟩)
    ·exact zAf (F := fun v _ => v = .int .i64 rm) hp fo gqi (sqi 5) (fun ρ w hc h => ⟨.bool true, by simp [execOp, go_sem, h, hc, T2.out], rfl⟩)
    ·exact zAg (F := fun v _ => v = .bool true) (G := fun v _ => v = .bool true) hp fo tv (sqi 3) (sqi 6) (fun ρ w hc h h' => ⟨_, by simp [execOp, go_sem, h, h'], rfl⟩)
    intro L vs w7 nb hL hC hn E7
    have e0 := wXi hC 0
    have e1 := wXi hC 1
    have e2 := wXi hC 2
    have e3 := wXi hC 3
    have e4 := wXi hC 4
    have e5 := wXi hC 5
    have e6 := wXi hC 6
    have e7 := wXi hC 7
    have E := E7; try simp only [LM, zAd] at E
    rw [zAe hL]
    simp only [SP, Nat.zero_add, Nat.reduceAdd]
    rw [e0, e1, e2, e3, e4, e5, e6, e7]
    clear e0 e1 e2 e3 e4 e5 e6 e7 hC hn E7 hL vs L nb
    go_upto_region 3 with (fail)
    refine rg [Fq.is (.int .i64 n), Fq.is (.int .i64 (n + 1)), Fq.is (.int .i64 (n + 1))] [none] [] E (fun hp => ⟨?_, ?_, ?_, tv⟩) ?_
    ·exact q_moveB 2 3 hp fo tv rfl rfl rfl rfl (fun _ => rfl)
    ·exact zAf (F := fun v _ => v = .int .i64 n) hp fo tv (sqi 0) (fun ρ w hc h => ⟨.int .i64 (n + 1), by simp [execOp, go_sem, h, hc, W1.out], rfl⟩)
    ·exact zAh hp fo tv (sqi 1)
    intro L vs w8 nb hL hC hn E8
    have e0 := wXi hC 0
    have e1 := wXi hC 1
    have e2 := wXi hC 2
    have E := E8; try simp only [LM, zAd] at E
    rw [zAe hL]
    simp only [SP, Nat.zero_add, Nat.reduceAdd]
    rw [e0, e1, e2]
    clear e0 e1 e2 hC hn E8 hL vs L nb
    have hN := HN.out
    clear T1 T2 TM HN W1
    go_wp2
    go_roundw
    case rel => exact ⟨n + 1, rfl, by omega, by omega, E⟩
    case measure => first | (simp [intOf]; omega) | simp [intOf]

section
variable {n1 n2 n3 n4 n5 n6 n7 : Bool} {a1 a2 a3 a4 a5 a6 a7 : Option Addr} {k1 c1 k2 c2 k3 c3 k4 c4 k5 c5 k6 c6 k7 c7 : Nat} {xs1 xs2 xs3 xs4 xs5 xs6 xs7 : List Int}
end
section
variable {os : List Oper} {Q : Exit → Act → World → Prop} {a : Act} {p : Pq} {B B0 : Nat} {w0 : World}
variable {i s : Nat} {d : Option Tmp} {ty : TypeId} {ps : String} {af : Array Edge} {gd : Option (Nat × Bool)}
end
theorem zMm (args : Array Value) (w : World) : (callFunc 7 args).run Tryz.prog w = .ok (.enter 7 args) w := zAq Tryz.func7 (by kernel_rfl) rfl args w
theorem zHf {a b c p q r s a' b' c' : Int} (ha : ab a < pw 5) (hb : ab b < pw 5) (hc : ab c < pw 5) (h : redE a b c = 0) (hu : Und a b c p q r s a' b' c') (hr : Rdf a' b' c') : (redT a b c).fa = a' ∧ (redT a b c).fb = b' ∧ (redT a b c).fc = c' := by
 obtain ⟨h1, h2⟩ := zEa ha hb hc h
 exact Und.same hu h1 hr h2
theorem lit5 {z : Int} (h : -9223372036854775808 ≤ z) (h' : z ≤ 9223372036854775807) : ab z < pw 5 := Int.lt_of_lt_of_le (zAs h h') (zAb (by omega))
theorem red_ex : redE 10 34 29 = 0 ∧ ((redT 10 34 29).fa = 1 ∧ (redT 10 34 29).fb = 0 ∧ (redT 10 34 29).fc = 1) ∧ (redT 10 34 29).x1 * (redT 10 34 29).x4 - (redT 10 34 29).x2 * (redT 10 34 29).x3 = 1 := by
 have h : redE 10 34 29 = 0 := zEt (by decide) (by decide)
 have ha : ab (10 : Int) < pw 5 := lit5 (by decide) (by decide)
 have hb : ab (34 : Int) < pw 5 := lit5 (by decide) (by decide)
 have hc : ab (29 : Int) < pw 5 := lit5 (by decide) (by decide)
 exact ⟨h, zHf (p := -2) (q := 5) (r := 1) (s := -3) ha hb hc h ⟨by decide, by decide, by decide, by decide⟩ ⟨by decide, by decide, by decide, by decide, by decide⟩, (zEa ha hb hc h).1.d⟩
theorem inv_ex : redE 2 1 3 = 0 ∧ ((invT 2 1 3).fa = 2 ∧ (invT 2 1 3).fb = -1 ∧ (invT 2 1 3).fc = 3) := by
 have h : redE 2 1 3 = 0 := zEt (by decide) (by decide)
 refine ⟨h, ?_⟩
 unfold invT
 rw [if_pos h]
 exact zHf (lit5 (by decide) (by decide)) (lit5 (by decide) (by decide)) (lit5 (by decide) (by decide)) (zF3 h) (Und.one 2 (-1) 3) ⟨by decide, by decide, by decide, by decide, by decide⟩
theorem ind_ex : redE 1 0 (-2) = 5 ∧ redT 1 0 (-2) = ⟨0, 0, 0, 0, 0, 0, 0⟩ := by
 have h : redE 1 0 (-2) = 5 := by decide
 exact ⟨h, zI6 (by rw [h]; decide)⟩
set_option maxRecDepth 100000 in
set_option maxHeartbeats 4000000 in
theorem zMz (w : World) :
  Calls Tryz.prog 7 #[] w fun e w' => ∃ v', e = .returned v' ∧ Below w.heap.size w w' ∧ v' = .bool true := by
 obtain ⟨S, hS⟩ : ∃ S, S = redT 10 34 29 := ⟨_, rfl⟩
 have hre := red_ex
 rw [← hS] at hre
 have HS := hidd hS
 have HR0 := hidd hre.1
 have HRA := hidd hre.2.1.1
 have HRB := hidd hre.2.1.2.1
 have HRC := hidd hre.2.1.2.2
 have HRD := hidd hre.2.2
 have BS := hidd (zF4 (a := 10) (b := 34) (c := 29) (lit5 (by decide) (by decide)) (lit5 (by decide) (by decide)) (lit5 (by decide) (by decide)))
 rw [← hS] at BS
 clear hS hre
 go_enter Tryz.func7, Tryz.ntmps7
 go_upto_region 1 with (fail)
 have E := Fr.start w
 refine rg [Fq.st [.n 2, .n 1, .n 3], Fq.any, Fq.any] [] [⟨1, 2, 6, Fq.st [.n 0, .n 0, .n 0], Fq.st [.n 2, .n 1, .n 3], none⟩] E (fun hp => ⟨?_, ?_, ?_, tv⟩) ?_
 ·exact zCb (F := (Fq.is (.int .i64 2)).P) (G := (Fq.is (.int .i64 1)).P) (F3 := (Fq.is (.int .i64 3)).P) hp fo tv (zDr) (zAj (fun _ => rfl)) (zAj (fun _ => rfl)) (zAj (fun _ => rfl)) (fun v v' u w h h' g => (by subst h h' g; exact zDs (by decide) (by decide) (by decide)))
 ·exact aS hp (mq 0 rfl) zBb zB8
 ·exact sS 0 hp (mq 0 rfl) zA7
 intro L vs w1 nb hL hC hn E1
 have e1 : vs 1 = .pointer (some ⟨nb 1, 0, none⟩) := hn _ (mq 0 rfl)
 have E := E1; try simp only [LM, zAd] at E
 rw [zAe hL]
 simp only [SP, Nat.zero_add, Nat.reduceAdd]
 rw [e1]
 generalize nb 1 = b1_1 at E ⊢
 generalize vs 0 = u1_0
 clear e1 hC hn E1 hL vs L nb
 go_upto_region 2 with (fail)
 refine rg [Fq.st [.n 10, .n 34, .n 29], Fq.tup3 (Fq.st [.n 1, .n 0, .n 1]) (Fq.st [.n S.x1, .n S.x2, .n S.x3, .n S.x4]) (Fq.is (.int .i64 0)), Fq.tup3 (Fq.st [.n 1, .n 0, .n 1]) (Fq.st [.n S.x1, .n S.x2, .n S.x3, .n S.x4]) (Fq.is (.int .i64 0)), Fq.st [.n 1, .n 0, .n 1], Fq.st [.n S.x1, .n S.x2, .n S.x3, .n S.x4], Fq.is (.int .i64 0), Fq.any, Fq.any, Fq.any, Fq.any, Fq.is (.int .i64 0)] [none] [⟨6, 8, 6, Fq.st [.n 0, .n 0, .n 0], Fq.st [.n 1, .n 0, .n 1], none⟩, ⟨7, 9, 8, Fq.st [.n 0, .n 0, .n 0, .n 0], Fq.st [.n S.x1, .n S.x2, .n S.x3, .n S.x4], none⟩] E (fun hp => ⟨?_, ?_, ?_, ?_, ?_, ?_, ?_, ?_, ?_, ?_, ?_, tv⟩) ?_
 ·exact zCb (F := (Fq.is (.int .i64 10)).P) (G := (Fq.is (.int .i64 34)).P) (F3 := (Fq.is (.int .i64 29)).P) hp fo tv (zDr) (zAj (fun _ => rfl)) (zAj (fun _ => rfl)) (zAj (fun _ => rfl)) (fun v v' u w h h' g => (by subst h h' g; exact zDs (by decide) (by decide) (by decide)))
 ·exact wXa (Fq.st [.n 10, .n 34, .n 29]) hp zE2 (sqi 0) fun v w h => (by have hh := zE8 h (lit5 (by decide) (by decide)) (lit5 (by decide) (by decide)) (lit5 (by decide) (by decide)); rw [← HS.out, HR0.out, HRA.out, HRB.out, HRC.out] at hh; exact hh)
 ·exact zAa hp fo tv (sqi 1)
 ·exact zA1 hp fo tv (sqi 2) (fun v1 v2 v3 w h1 h2 h3 => ⟨_, rfl, h1⟩)
 ·exact zA1 hp fo tv (sqi 2) (fun v1 v2 v3 w h1 h2 h3 => ⟨_, rfl, h2⟩)
 ·exact zA1 hp fo tv (sqi 2) (fun v1 v2 v3 w h1 h2 h3 => ⟨_, rfl, h3⟩)
 ·exact aS hp (mq 0 rfl) zBb zB8
 ·exact aS hp (mq 1 rfl) zB5 zEg
 ·exact sS 3 hp (mq 0 rfl) zA7
 ·exact sS 4 hp (mq 1 rfl) zBz
 ·exact zAh hp fo tv (sqi 5)
 intro L vs w2 nb hL hC hn E2
 have e5 := wXi hC 5
 have e10 := wXi hC 10
 have e6 : vs 6 = .pointer (some ⟨nb 6, 0, none⟩) := hn _ (mq 0 rfl)
 have e7 : vs 7 = .pointer (some ⟨nb 7, 0, none⟩) := hn _ (mq 1 rfl)
 have E := E2; try simp only [LM, zAd] at E
 rw [zAe hL]
 simp only [SP, Nat.zero_add, Nat.reduceAdd]
 rw [e5, e10, e6, e7]
 generalize nb 6 = b2_6 at E ⊢
 generalize nb 7 = b2_7 at E ⊢
 generalize vs 0 = u2_0
 generalize vs 1 = u2_1
 generalize vs 2 = u2_2
 generalize vs 3 = u2_3
 generalize vs 4 = u2_4
 clear e5 e10 e6 e7 hC hn E2 hL vs L nb
 go_upto_region 3 with (fail)
 refine rg [Fq.st [.n 2, .n 1, .n 3], Fq.tup2 (Fq.st [.n 2, .n (-1), .n 3]) (Fq.is (.int .i64 0)), Fq.tup2 (Fq.st [.n 2, .n (-1), .n 3]) (Fq.is (.int .i64 0)), Fq.st [.n 2, .n (-1), .n 3], Fq.is (.int .i64 0), Fq.any, Fq.any, Fq.is (.int .i64 0)] N3 [⟨5, 6, 6, Fq.st [.n 0, .n 0, .n 0], Fq.st [.n 2, .n (-1), .n 3], none⟩] E (fun hp => ⟨?_, ?_, ?_, ?_, ?_, ?_, ?_, ?_, tv⟩) ?_
 ·exact lS 0 6 hp (mq 2 rfl) zAm (sqo 1)
 ·exact wXa (Fq.st [.n 2, .n 1, .n 3]) hp zGs (sqi 0) fun v w h => (by have hh := zGv h (lit5 (by decide) (by decide)) (lit5 (by decide) (by decide)) (lit5 (by decide) (by decide)); rw [inv_ex.1, inv_ex.2.1, inv_ex.2.2.1, inv_ex.2.2.2] at hh; exact hh)
 ·exact zAa hp fo tv (sqi 1)
 ·exact zCc hp fo tv (sqi 2) (fun v1 v2 w h1 h2 => ⟨_, rfl, h1⟩)
 ·exact zCc hp fo tv (sqi 2) (fun v1 v2 w h1 h2 => ⟨_, rfl, h2⟩)
 ·exact aS hp (mq 0 rfl) zBb zB8
 ·exact sS 3 hp (mq 0 rfl) zA7
 ·exact zAh hp fo tv (sqi 4)
 intro L vs w3 nb hL hC hn E3
 have e4 := wXi hC 4
 have e7 := wXi hC 7
 have e5 : vs 5 = .pointer (some ⟨nb 5, 0, none⟩) := hn _ (mq 0 rfl)
 have E := E3; try simp only [LM, zAd] at E
 rw [zAe hL]
 simp only [SP, Nat.zero_add, Nat.reduceAdd]
 rw [e4, e7, e5]
 generalize nb 5 = b3_5 at E ⊢
 generalize vs 0 = u3_0
 generalize vs 1 = u3_1
 generalize vs 2 = u3_2
 generalize vs 3 = u3_3
 clear e4 e7 e5 hC hn E3 hL vs L nb
 go_upto_region 4 with (fail)
 have B4 : Hid (ab ((-23)) < pw 3) := zBh (by decide)
 refine rg [Fq.num (-23), Fq.tup2 (Fq.st [.n 1, .n 1, .n 6]) (Fq.is (.int .i64 0)), Fq.tup2 (Fq.st [.n 1, .n 1, .n 6]) (Fq.is (.int .i64 0)), Fq.st [.n 1, .n 1, .n 6], Fq.is (.int .i64 0), Fq.any, Fq.any, Fq.is (.int .i64 0)] N4 [⟨5, 6, 6, Fq.st [.n 0, .n 0, .n 0], Fq.st [.n 1, .n 1, .n 6], none⟩] E (fun hp => ⟨?_, ?_, ?_, ?_, ?_, ?_, ?_, ?_, tv⟩) ?_
 ·exact zAn (F := (Fq.is (.int .i64 (-23))).P) hp fo tv (zB2) (zAj (fun _ => rfl)) (fun v w h => (by subst h; exact rOfK w (-23) (by omega) (by omega)))
 ·exact wXa (Fq.num (-23)) hp zH3 (sqi 0) fun v w h => (by have hh := zKa h (Int.lt_of_lt_of_le B4.out (zAb (by omega))) (by decide) (by decide); rw [show ((-23 : Int) % 4) = 1 by decide, show (-((-23 : Int) / 4)) = 6 by decide] at hh; exact hh)
 ·exact zAa hp fo tv (sqi 1)
 ·exact zCc hp fo tv (sqi 2) (fun v1 v2 w h1 h2 => ⟨_, rfl, h1⟩)
 ·exact zCc hp fo tv (sqi 2) (fun v1 v2 w h1 h2 => ⟨_, rfl, h2⟩)
 ·exact aS hp (mq 0 rfl) zBb zB8
 ·exact sS 3 hp (mq 0 rfl) zA7
 ·exact zAh hp fo tv (sqi 4)
 intro L vs w5 nb hL hC hn E5
 have e4 := wXi hC 4
 have e7 := wXi hC 7
 have e5 : vs 5 = .pointer (some ⟨nb 5, 0, none⟩) := hn _ (mq 0 rfl)
 have E := E5; try simp only [LM, zAd] at E
 rw [zAe hL]
 simp only [SP, Nat.zero_add, Nat.reduceAdd]
 rw [e4, e7, e5]
 generalize nb 5 = b5_5 at E ⊢
 generalize vs 0 = u5_0
 generalize vs 1 = u5_1
 generalize vs 2 = u5_2
 generalize vs 3 = u5_3
 clear e4 e7 e5 hC hn E5 hL vs L nb
 go_upto_region 5 with (fail)
 have B6 : Hid (ab ((-20)) < pw 3) := zBh (by decide)
 refine rg [Fq.num (-20), Fq.tup2 (Fq.st [.n 1, .n 0, .n 5]) (Fq.is (.int .i64 0)), Fq.tup2 (Fq.st [.n 1, .n 0, .n 5]) (Fq.is (.int .i64 0)), Fq.st [.n 1, .n 0, .n 5], Fq.is (.int .i64 0), Fq.any, Fq.any, Fq.is (.int .i64 0)] N5 [⟨5, 6, 6, Fq.st [.n 0, .n 0, .n 0], Fq.st [.n 1, .n 0, .n 5], none⟩] E (fun hp => ⟨?_, ?_, ?_, ?_, ?_, ?_, ?_, ?_, tv⟩) ?_
 ·exact zAn (F := (Fq.is (.int .i64 (-20))).P) hp fo tv (zB2) (zAj (fun _ => rfl)) (fun v w h => (by subst h; exact rOfK w (-20) (by omega) (by omega)))
 ·exact wXa (Fq.num (-20)) hp zH3 (sqi 0) fun v w h => (by have hh := zKa h (Int.lt_of_lt_of_le B6.out (zAb (by omega))) (by decide) (by decide); rw [show ((-20 : Int) % 4) = 0 by decide, show (-((-20 : Int) / 4)) = 5 by decide] at hh; exact hh)
 ·exact zAa hp fo tv (sqi 1)
 ·exact zCc hp fo tv (sqi 2) (fun v1 v2 w h1 h2 => ⟨_, rfl, h1⟩)
 ·exact zCc hp fo tv (sqi 2) (fun v1 v2 w h1 h2 => ⟨_, rfl, h2⟩)
 ·exact aS hp (mq 0 rfl) zBb zB8
 ·exact sS 3 hp (mq 0 rfl) zA7
 ·exact zAh hp fo tv (sqi 4)
 intro L vs w7 nb hL hC hn E7
 have e4 := wXi hC 4
 have e7 := wXi hC 7
 have e5 : vs 5 = .pointer (some ⟨nb 5, 0, none⟩) := hn _ (mq 0 rfl)
 have E := E7; try simp only [LM, zAd] at E
 rw [zAe hL]
 simp only [SP, Nat.zero_add, Nat.reduceAdd]
 rw [e4, e7, e5]
 generalize nb 5 = b7_5 at E ⊢
 generalize vs 0 = u7_0
 generalize vs 1 = u7_1
 generalize vs 2 = u7_2
 generalize vs 3 = u7_3
 clear e4 e7 e5 hC hn E7 hL vs L nb
 go_upto_region 6 with (fail)
 have B8 : Hid (ab ((9)) < pw 3) := zBh (by decide)
 refine rg [Fq.num (9), Fq.tup2 (Fq.st [.n 0, .n 0, .n 0]) (Fq.is (.int .i64 5)), Fq.tup2 (Fq.st [.n 0, .n 0, .n 0]) (Fq.is (.int .i64 5)), Fq.st [.n 0, .n 0, .n 0], Fq.is (.int .i64 5), Fq.any, Fq.any, Fq.is (.int .i64 5)] N6 [⟨5, 6, 6, Fq.st [.n 0, .n 0, .n 0], Fq.st [.n 0, .n 0, .n 0], none⟩] E (fun hp => ⟨?_, ?_, ?_, ?_, ?_, ?_, ?_, ?_, tv⟩) ?_
 ·exact zAn (F := (Fq.is (.int .i64 9)).P) hp fo tv (zB2) (zAj (fun _ => rfl)) (fun v w h => (by subst h; exact rOfK w (9) (by omega) (by omega)))
 ·exact wXa (Fq.num (9)) hp zH3 (sqi 0) fun v w h => zNo h (Int.lt_of_lt_of_le B8.out (zAb (by omega))) (by decide) (by decide)
 ·exact zAa hp fo tv (sqi 1)
 ·exact zCc hp fo tv (sqi 2) (fun v1 v2 w h1 h2 => ⟨_, rfl, h1⟩)
 ·exact zCc hp fo tv (sqi 2) (fun v1 v2 w h1 h2 => ⟨_, rfl, h2⟩)
 ·exact aS hp (mq 0 rfl) zBb zB8
 ·exact sS 3 hp (mq 0 rfl) zA7
 ·exact zAh hp fo tv (sqi 4)
 intro L vs w9 nb hL hC hn E9
 have e4 := wXi hC 4
 have e7 := wXi hC 7
 have e5 : vs 5 = .pointer (some ⟨nb 5, 0, none⟩) := hn _ (mq 0 rfl)
 have E := E9; try simp only [LM, zAd] at E
 rw [zAe hL]
 simp only [SP, Nat.zero_add, Nat.reduceAdd]
 rw [e4, e7, e5]
 generalize nb 5 = b9_5 at E ⊢
 generalize vs 0 = u9_0
 generalize vs 1 = u9_1
 generalize vs 2 = u9_2
 generalize vs 3 = u9_3
 clear e4 e7 e5 hC hn E9 hL vs L nb
 go_upto_region 7 with (fail)
 refine rg [Fq.st [.n 1, .n 0, .n (-2)], Fq.tup3 (Fq.st [.n 0, .n 0, .n 0]) (Fq.st [.n 0, .n 0, .n 0, .n 0]) (Fq.is (.int .i64 5)), Fq.tup3 (Fq.st [.n 0, .n 0, .n 0]) (Fq.st [.n 0, .n 0, .n 0, .n 0]) (Fq.is (.int .i64 5)), Fq.st [.n 0, .n 0, .n 0], Fq.st [.n 0, .n 0, .n 0, .n 0], Fq.is (.int .i64 5), Fq.any, Fq.any, Fq.any, Fq.any, Fq.is (.int .i64 5)] N7 [⟨6, 8, 6, Fq.st [.n 0, .n 0, .n 0], Fq.st [.n 0, .n 0, .n 0], none⟩, ⟨7, 9, 8, Fq.st [.n 0, .n 0, .n 0, .n 0], Fq.st [.n 0, .n 0, .n 0, .n 0], none⟩] E (fun hp => ⟨?_, ?_, ?_, ?_, ?_, ?_, ?_, ?_, ?_, ?_, ?_, tv⟩) ?_
 ·exact zCb (F := (Fq.is (.int .i64 1)).P) (G := (Fq.is (.int .i64 0)).P) (F3 := (Fq.is (.int .i64 (-2))).P) hp fo tv (zDr) (zAj (fun _ => rfl)) (zAj (fun _ => rfl)) (zAj (fun _ => rfl)) (fun v v' u w h h' g => (by subst h h' g; exact zDs (by decide) (by decide) (by decide)))
 ·exact wXa (Fq.st [.n 1, .n 0, .n (-2)]) hp zE2 (sqi 0) fun v w h => (by have hh := zE8 h (lit5 (by decide) (by decide)) (lit5 (by decide) (by decide)) (lit5 (by decide) (by decide)); rw [ind_ex.1, ind_ex.2] at hh; exact hh)
 ·exact zAa hp fo tv (sqi 1)
 ·exact zA1 hp fo tv (sqi 2) (fun v1 v2 v3 w h1 h2 h3 => ⟨_, rfl, h1⟩)
 ·exact zA1 hp fo tv (sqi 2) (fun v1 v2 v3 w h1 h2 h3 => ⟨_, rfl, h2⟩)
 ·exact zA1 hp fo tv (sqi 2) (fun v1 v2 v3 w h1 h2 h3 => ⟨_, rfl, h3⟩)
 ·exact aS hp (mq 0 rfl) zBb zB8
 ·exact aS hp (mq 1 rfl) zB5 zEg
 ·exact sS 3 hp (mq 0 rfl) zA7
 ·exact sS 4 hp (mq 1 rfl) zBz
 ·exact zAh hp fo tv (sqi 5)
 intro L vs w10 nb hL hC hn E10
 have e5 := wXi hC 5
 have e10 := wXi hC 10
 have e6 : vs 6 = .pointer (some ⟨nb 6, 0, none⟩) := hn _ (mq 0 rfl)
 have e7 : vs 7 = .pointer (some ⟨nb 7, 0, none⟩) := hn _ (mq 1 rfl)
 have E := E10; try simp only [LM, zAd] at E
 rw [zAe hL]
 simp only [SP, Nat.zero_add, Nat.reduceAdd]
 rw [e5, e10, e6, e7]
 generalize nb 6 = b10_6 at E ⊢
 generalize nb 7 = b10_7 at E ⊢
 generalize vs 0 = u10_0
 generalize vs 1 = u10_1
 generalize vs 2 = u10_2
 generalize vs 3 = u10_3
 generalize vs 4 = u10_4
 clear e5 e10 e6 e7 hC hn E10 hL vs L nb
 go_upto_region 8 with (fail)
 refine rg [Fq.is (.int .i64 0), yF, yF, Fq.is (.int .i64 0), yF, yF, yF, Fq.is (.int .i64 0), yF, yF, yF, Fq.is (.int .i64 0), yF, yF, yF, Fq.is (.int .i64 5), yF, yF, yF, Fq.is (.int .i64 5), yF, yF, yF, Fq.st [.n (-1), .n 0, .n (-1)], Fq.is (.int .i64 1), yF, yF, yF, Fq.st [.n 2, .n 1, .n 3], Fq.is (.int .i64 0), yF, yF] N9 [] E (fun hp => ⟨?_, ?_, ?_, ?_, ?_, ?_, ?_, ?_, ?_, ?_, ?_, ?_, ?_, ?_, ?_, ?_, ?_, ?_, ?_, ?_, ?_, ?_, ?_, ?_, ?_, ?_, ?_, ?_, ?_, ?_, ?_, ?_, tv⟩) ?_
 ·exact zAa hp fo tv (sqo 4)
 ·exact zAf (F := fun v _ => v = .int .i64 0) hp fo tv (sqi 0) (fun ρ w hc h => ⟨.bool false, by simp [execOp, go_sem, h, hc], rfl⟩)
 ·exact zAa hp fo tv (sqi 1)
 ·exact zAa hp fo gqi (sqo 6)
 ·exact zAf (F := fun v _ => v = .int .i64 0) hp fo gqi (sqi 3) (fun ρ w hc h => ⟨.bool false, by simp [execOp, go_sem, h, hc], rfl⟩)
 ·exact zAg (F := fun v _ => v = .bool false) (G := fun v _ => v = .bool false) hp fo tv (sqi 2) (sqi 4) (fun ρ w hc h h' => ⟨_, by simp [execOp, go_sem, h, h'], rfl⟩)
 ·exact zAa hp fo tv (sqi 5)
 ·exact zAa hp fo gqi (sqo 8)
 ·exact zAf (F := fun v _ => v = .int .i64 0) hp fo gqi (sqi 7) (fun ρ w hc h => ⟨.bool false, by simp [execOp, go_sem, h, hc], rfl⟩)
 ·exact zAg (F := fun v _ => v = .bool false) (G := fun v _ => v = .bool false) hp fo tv (sqi 6) (sqi 8) (fun ρ w hc h h' => ⟨_, by simp [execOp, go_sem, h, h'], rfl⟩)
 ·exact zAa hp fo tv (sqi 9)
 ·exact zAa hp fo gqi (sqo 10)
 ·exact zAf (F := fun v _ => v = .int .i64 0) hp fo gqi (sqi 11) (fun ρ w hc h => ⟨.bool false, by simp [execOp, go_sem, h, hc], rfl⟩)
 ·exact zAg (F := fun v _ => v = .bool false) (G := fun v _ => v = .bool false) hp fo tv (sqi 10) (sqi 12) (fun ρ w hc h h' => ⟨_, by simp [execOp, go_sem, h, h'], rfl⟩)
 ·exact zAa hp fo tv (sqi 13)
 ·exact zAa hp fo gqi (sqo 12)
 ·exact zAf (F := fun v _ => v = .int .i64 5) hp fo gqi (sqi 15) (fun ρ w hc h => ⟨.bool false, by simp [execOp, go_sem, h, hc], rfl⟩)
 ·exact zAg (F := fun v _ => v = .bool false) (G := fun v _ => v = .bool false) hp fo tv (sqi 14) (sqi 16) (fun ρ w hc h h' => ⟨_, by simp [execOp, go_sem, h, h'], rfl⟩)
 ·exact zAa hp fo tv (sqi 17)
 ·exact zAa hp fo gqi (sqo 15)
 ·exact zAf (F := fun v _ => v = .int .i64 5) hp fo gqi (sqi 19) (fun ρ w hc h => ⟨.bool false, by simp [execOp, go_sem, h, hc], rfl⟩)
 ·exact zAg (F := fun v _ => v = .bool false) (G := fun v _ => v = .bool false) hp fo tv (sqi 18) (sqi 20) (fun ρ w hc h h' => ⟨_, by simp [execOp, go_sem, h, h'], rfl⟩)
 ·exact zAa hp fo tv (sqi 21)
 ·exact zCb (F := (Fq.is (.int .i64 (-1))).P) (G := (Fq.is (.int .i64 0)).P) (F3 := (Fq.is (.int .i64 (-1))).P) hp fo gqi (zDr) (zAj (fun _ => rfl)) (zAj (fun _ => rfl)) (zAj (fun _ => rfl)) (fun v v' u w h h' g => (by subst h h' g; exact zDs (by decide) (by decide) (by decide)))
 ·exact zAn (F := (Fq.st [.n (-1), .n 0, .n (-1)]).P) hp fo gqi (zFo) (sqi 23) (fun v w h => zFp h (Int.lt_of_lt_of_le (zAs (by decide) (by decide)) (zAb (by omega))) (Int.lt_of_lt_of_le (zAs (by decide) (by decide)) (zAb (by omega))) (Int.lt_of_lt_of_le (zAs (by decide) (by decide)) (zAb (by omega))) (by decide))
 ·exact zAf (F := fun v _ => v = .int .i64 1) hp fo gqi (sqi 24) (fun ρ w hc h => ⟨.bool false, by simp [execOp, go_sem, h, hc], rfl⟩)
 ·exact zAg (F := fun v _ => v = .bool false) (G := fun v _ => v = .bool false) hp fo tv (sqi 22) (sqi 25) (fun ρ w hc h h' => ⟨_, by simp [execOp, go_sem, h, h'], rfl⟩)
 ·exact zAa hp fo tv (sqi 26)
 ·exact lG 0 6 hp gqi (mq 8 rfl) zAm (sqo 1) fun v w h => h
 ·exact zAn (F := (Fq.st [.n 2, .n 1, .n 3]).P) hp fo gqi (zFo) (sqi 28) (fun v w h => zFp h (Int.lt_of_lt_of_le (zAs (by decide) (by decide)) (zAb (by omega))) (Int.lt_of_lt_of_le (zAs (by decide) (by decide)) (zAb (by omega))) (Int.lt_of_lt_of_le (zAs (by decide) (by decide)) (zAb (by omega))) (by decide))
 ·exact zAf (F := fun v _ => v = .int .i64 0) hp fo gqi (sqi 29) (fun ρ w hc h => ⟨.bool false, by simp [execOp, go_sem, h, hc], rfl⟩)
 ·exact zAg (F := fun v _ => v = .bool false) (G := fun v _ => v = .bool false) hp fo tv (sqi 27) (sqi 30) (fun ρ w hc h h' => ⟨_, by simp [execOp, go_sem, h, h'], rfl⟩)
 intro L vs w11 nb hL hC hn E11
 have e0 := wXi hC 0
 have e1 := wXi hC 1
 have e2 := wXi hC 2
 have e3 := wXi hC 3
 have e4 := wXi hC 4
 have e5 := wXi hC 5
 have e6 := wXi hC 6
 have e7 := wXi hC 7
 have e8 := wXi hC 8
 have e9 := wXi hC 9
 have e10 := wXi hC 10
 have e11 := wXi hC 11
 have e12 := wXi hC 12
 have e13 := wXi hC 13
 have e14 := wXi hC 14
 have e15 := wXi hC 15
 have e16 := wXi hC 16
 have e17 := wXi hC 17
 have e18 := wXi hC 18
 have e19 := wXi hC 19
 have e20 := wXi hC 20
 have e21 := wXi hC 21
 have e22 := wXi hC 22
 have e24 := wXi hC 24
 have e25 := wXi hC 25
 have e26 := wXi hC 26
 have e27 := wXi hC 27
 have e29 := wXi hC 29
 have e30 := wXi hC 30
 have e31 := wXi hC 31
 have E := E11; try simp only [LM, zAd] at E
 rw [zAe hL]
 simp only [SP, Nat.zero_add, Nat.reduceAdd]
 rw [e0, e1, e2, e3, e4, e5, e6, e7, e8, e9, e10, e11, e12, e13, e14, e15, e16, e17, e18, e19, e20, e21, e22, e24, e25, e26, e27, e29, e30, e31]
 generalize vs 23 = u11_23
 generalize vs 28 = u11_28
 clear e0 e1 e2 e3 e4 e5 e6 e7 e8 e9 e10 e11 e12 e13 e14 e15 e16 e17 e18 e19 e20 e21 e22 e24 e25 e26 e27 e29 e30 e31 hC hn E11 hL vs L nb
 go_upto_region 10 with (fail)
 have B12 : Hid (ab ((1)) < pw 3) := zBh (by decide)
 refine rg [Fq.st [.n 2, .n 1, .n 3], Fq.num (-23), Fq.num (-23), yT, yT, Fq.st [.n 2, .n 1, .n 3], yT, yT, yT, Fq.st [.n 2, .n (-2), .n 3], yF, yT, yT, yT, Fq.st [.n 1, .n 0, .n 1], Fq.st [.n 1, .n 0, .n 1], yT, yT, yT, Fq.st [.n S.x1, .n S.x2, .n S.x3, .n S.x4], Fq.num 1, Fq.num (1), yT, yT, yT, Fq.st [.n 2, .n (-1), .n 3], Fq.st [.n 2, .n (-1), .n 3], yT, yT, yT, Fq.st [.n 1, .n 1, .n 6], Fq.st [.n 1, .n 1, .n 6], yT, yT, yT, Fq.st [.n 1, .n 0, .n 5], Fq.st [.n 1, .n 0, .n 5], yT, yT, yT] N9 [] E (fun hp => ⟨?_, ?_, ?_, ?_, ?_, ?_, ?_, ?_, ?_, ?_, ?_, ?_, ?_, ?_, ?_, ?_, ?_, ?_, ?_, ?_, ?_, ?_, ?_, ?_, ?_, ?_, ?_, ?_, ?_, ?_, ?_, ?_, ?_, ?_, ?_, ?_, ?_, ?_, ?_, ?_, tv⟩) ?_
 ·exact lS 0 6 hp (mq 8 rfl) zAm (sqo 1)
 ·exact wXa (Fq.st [.n 2, .n 1, .n 3]) hp zEm (sqi 0) fun v w h => (by have hh := zEn h (Int.lt_of_lt_of_le (zAs (by decide) (by decide)) (zAb (by omega))) (Int.lt_of_lt_of_le (zAs (by decide) (by decide)) (zAb (by omega))) (Int.lt_of_lt_of_le (zAs (by decide) (by decide)) (zAb (by omega))); rw [show ((1 : Int) * 1 - 4 * (2 * 3)) = -23 by decide] at hh; exact hh)
 ·exact zAn (F := (Fq.is (.int .i64 (-23))).P) hp fo tv (zB2) (zAj (fun _ => rfl)) (fun v w h => (by subst h; exact rOfK w (-23) (by omega) (by omega)))
 ·exact wXb (Fq.num (-23)) (Fq.num (-23)) hp zCs (sqi 1) (sqi 2) fun v v' w h h' => zCt h h' (by decide)
 ·exact zAa hp fo tv (sqi 3)
 ·exact lG 0 6 hp gqi (mq 8 rfl) zAm (sqo 1) fun v w h => h
 ·exact zAn (F := (Fq.st [.n 2, .n 1, .n 3]).P) hp fo gqi (zH4) (sqi 5) (fun v w h => zIb h (Int.lt_of_lt_of_le (zAs (by decide) (by decide)) (zAb (by omega))) (Int.lt_of_lt_of_le (zAs (by decide) (by decide)) (zAb (by omega))) (Int.lt_of_lt_of_le (zAs (by decide) (by decide)) (zAb (by omega))) (by decide))
 ·exact zAg (F := fun v _ => v = .bool true) (G := fun v _ => v = .bool true) hp fo tv (sqi 4) (sqi 6) (fun ρ w hc h h' => ⟨_, by simp [execOp, go_sem, h, h'], rfl⟩)
 ·exact zAa hp fo tv (sqi 7)
 ·exact zCb (F := (Fq.is (.int .i64 2)).P) (G := (Fq.is (.int .i64 (-2))).P) (F3 := (Fq.is (.int .i64 3)).P) hp fo gqi (zDr) (zAj (fun _ => rfl)) (zAj (fun _ => rfl)) (zAj (fun _ => rfl)) (fun v v' u w h h' g => (by subst h h' g; exact zDs (by decide) (by decide) (by decide)))
 ·exact zAn (F := (Fq.st [.n 2, .n (-2), .n 3]).P) hp fo gqi (zH4) (sqi 9) (fun v w h => zIb h (Int.lt_of_lt_of_le (zAs (by decide) (by decide)) (zAb (by omega))) (Int.lt_of_lt_of_le (zAs (by decide) (by decide)) (zAb (by omega))) (Int.lt_of_lt_of_le (zAs (by decide) (by decide)) (zAb (by omega))) (by decide))
 ·exact zAf (F := fun v _ => v = .bool false) hp fo gqi (sqi 10) (fun ρ w _ h => ⟨.bool true, by simp [execOp, go_sem, h], rfl⟩)
 ·exact zAg (F := fun v _ => v = .bool true) (G := fun v _ => v = .bool true) hp fo tv (sqi 8) (sqi 11) (fun ρ w hc h h' => ⟨_, by simp [execOp, go_sem, h, h'], rfl⟩)
 ·exact zAa hp fo tv (sqi 12)
 ·exact lG 0 6 hp gqi (mq 6 rfl) zAm (sqo 2) fun v w h => h
 ·exact zCb (F := (Fq.is (.int .i64 1)).P) (G := (Fq.is (.int .i64 0)).P) (F3 := (Fq.is (.int .i64 1)).P) hp fo gqi (zDr) (zAj (fun _ => rfl)) (zAj (fun _ => rfl)) (zAj (fun _ => rfl)) (fun v v' u w h h' g => (by subst h h' g; exact zDs (by decide) (by decide) (by decide)))
 ·exact zAx (F := (Fq.st [.n 1, .n 0, .n 1]).P) (G := (Fq.st [.n 1, .n 0, .n 1]).P) hp fo gqi (zE1) (sqi 14) (sqi 15) (fun v v' w h h' => zFa h h' (by decide))
 ·exact zAg (F := fun v _ => v = .bool true) (G := fun v _ => v = .bool true) hp fo tv (sqi 13) (sqi 16) (fun ρ w hc h h' => ⟨_, by simp [execOp, go_sem, h, h'], rfl⟩)
 ·exact zAa hp fo tv (sqi 17)
 ·exact lG 0 8 hp gqi (mq 7 rfl) zCw (sqo 3) fun v w h => h
 ·exact zAn (F := (Fq.st [.n S.x1, .n S.x2, .n S.x3, .n S.x4]).P) hp fo gqi (zMp) (sqi 19) (fun v w h => (by have hh := exQDet h (Int.lt_of_lt_of_le BS.out.2.1 (zAb (by omega))) (Int.lt_of_lt_of_le BS.out.2.2.1 (zAb (by omega))) (Int.lt_of_lt_of_le BS.out.2.2.2.1 (zAb (by omega))) (Int.lt_of_lt_of_le BS.out.2.2.2.2 (zAb (by omega))); rw [HRD.out] at hh; exact hh))
 ·exact zAn (F := (Fq.is (.int .i64 1)).P) hp fo gqi (zB2) (zAj (fun _ => rfl)) (fun v w h => (by subst h; exact rOfK w (1) (by omega) (by omega)))
 ·exact zAx (F := (Fq.num 1).P) (G := (Fq.num (1)).P) hp fo gqi (zCs) (sqi 20) (sqi 21) (fun v v' w h h' => zCt h h' (by decide))
 ·exact zAg (F := fun v _ => v = .bool true) (G := fun v _ => v = .bool true) hp fo tv (sqi 18) (sqi 22) (fun ρ w hc h h' => ⟨_, by simp [execOp, go_sem, h, h'], rfl⟩)
 ·exact zAa hp fo tv (sqi 23)
 ·exact lG 0 6 hp gqi (mq 5 rfl) zAm (sqo 5) fun v w h => h
 ·exact zCb (F := (Fq.is (.int .i64 2)).P) (G := (Fq.is (.int .i64 (-1))).P) (F3 := (Fq.is (.int .i64 3)).P) hp fo gqi (zDr) (zAj (fun _ => rfl)) (zAj (fun _ => rfl)) (zAj (fun _ => rfl)) (fun v v' u w h h' g => (by subst h h' g; exact zDs (by decide) (by decide) (by decide)))
 ·exact zAx (F := (Fq.st [.n 2, .n (-1), .n 3]).P) (G := (Fq.st [.n 2, .n (-1), .n 3]).P) hp fo gqi (zE1) (sqi 25) (sqi 26) (fun v v' w h h' => zFa h h' (by decide))
 ·exact zAg (F := fun v _ => v = .bool true) (G := fun v _ => v = .bool true) hp fo tv (sqi 24) (sqi 27) (fun ρ w hc h h' => ⟨_, by simp [execOp, go_sem, h, h'], rfl⟩)
 ·exact zAa hp fo tv (sqi 28)
 ·exact lG 0 6 hp gqi (mq 4 rfl) zAm (sqo 7) fun v w h => h
 ·exact zCb (F := (Fq.is (.int .i64 1)).P) (G := (Fq.is (.int .i64 1)).P) (F3 := (Fq.is (.int .i64 6)).P) hp fo gqi (zDr) (zAj (fun _ => rfl)) (zAj (fun _ => rfl)) (zAj (fun _ => rfl)) (fun v v' u w h h' g => (by subst h h' g; exact zDs (by decide) (by decide) (by decide)))
 ·exact zAx (F := (Fq.st [.n 1, .n 1, .n 6]).P) (G := (Fq.st [.n 1, .n 1, .n 6]).P) hp fo gqi (zE1) (sqi 30) (sqi 31) (fun v v' w h h' => zFa h h' (by decide))
 ·exact zAg (F := fun v _ => v = .bool true) (G := fun v _ => v = .bool true) hp fo tv (sqi 29) (sqi 32) (fun ρ w hc h h' => ⟨_, by simp [execOp, go_sem, h, h'], rfl⟩)
 ·exact zAa hp fo tv (sqi 33)
 ·exact lG 0 6 hp gqi (mq 3 rfl) zAm (sqo 9) fun v w h => h
 ·exact zCb (F := (Fq.is (.int .i64 1)).P) (G := (Fq.is (.int .i64 0)).P) (F3 := (Fq.is (.int .i64 5)).P) hp fo gqi (zDr) (zAj (fun _ => rfl)) (zAj (fun _ => rfl)) (zAj (fun _ => rfl)) (fun v v' u w h h' g => (by subst h h' g; exact zDs (by decide) (by decide) (by decide)))
 ·exact zAx (F := (Fq.st [.n 1, .n 0, .n 5]).P) (G := (Fq.st [.n 1, .n 0, .n 5]).P) hp fo gqi (zE1) (sqi 35) (sqi 36) (fun v v' w h h' => zFa h h' (by decide))
 ·exact zAg (F := fun v _ => v = .bool true) (G := fun v _ => v = .bool true) hp fo tv (sqi 34) (sqi 37) (fun ρ w hc h h' => ⟨_, by simp [execOp, go_sem, h, h'], rfl⟩)
 ·exact zAh hp fo tv (sqi 38)
 intro L vs w13 nb hL hC hn E13
 have e3 := wXi hC 3
 have e4 := wXi hC 4
 have e6 := wXi hC 6
 have e7 := wXi hC 7
 have e8 := wXi hC 8
 have e10 := wXi hC 10
 have e11 := wXi hC 11
 have e12 := wXi hC 12
 have e13 := wXi hC 13
 have e16 := wXi hC 16
 have e17 := wXi hC 17
 have e18 := wXi hC 18
 have e22 := wXi hC 22
 have e23 := wXi hC 23
 have e24 := wXi hC 24
 have e27 := wXi hC 27
 have e28 := wXi hC 28
 have e29 := wXi hC 29
 have e32 := wXi hC 32
 have e33 := wXi hC 33
 have e34 := wXi hC 34
 have e37 := wXi hC 37
 have e38 := wXi hC 38
 have e39 := wXi hC 39
 have E := E13; try simp only [LM, zAd] at E
 rw [zAe hL]
 simp only [SP, Nat.zero_add, Nat.reduceAdd]
 rw [e3, e4, e6, e7, e8, e10, e11, e12, e13, e16, e17, e18, e22, e23, e24, e27, e28, e29, e32, e33, e34, e37, e38, e39]
 generalize vs 0 = u13_0
 generalize vs 1 = u13_1
 generalize vs 2 = u13_2
 generalize vs 5 = u13_5
 generalize vs 9 = u13_9
 generalize vs 14 = u13_14
 generalize vs 15 = u13_15
 generalize vs 19 = u13_19
 generalize vs 20 = u13_20
 generalize vs 21 = u13_21
 generalize vs 25 = u13_25
 generalize vs 26 = u13_26
 generalize vs 30 = u13_30
 generalize vs 31 = u13_31
 generalize vs 35 = u13_35
 generalize vs 36 = u13_36
 clear e3 e4 e6 e7 e8 e10 e11 e12 e13 e16 e17 e18 e22 e23 e24 e27 e28 e29 e32 e33 e34 e37 e38 e39 hC hn E13 hL vs L nb
 clear HS HR0 HRA HRB HRC HRD
 clear B4 B6 B8 B12 BS
 go_wp2
 refine bodyPost_ret (v := .bool true) ?_ rfl ⟨_, rfl, E.below, rfl⟩
 simp [results, Tryz.results7, go_sem]

section
variable {os : List Oper} {Q : Exit → Act → World → Prop} {a : Act} {p : Pq} {B B0 : Nat} {w0 : World}
variable {i s : Nat} {d : Option Tmp} {ty : TypeId} {ps : String} {af : Array Edge} {gd : Option (Nat × Bool)}
end
section
variable {os : List Oper} {Q : Exit → Act → World → Prop} {a : Act} {p : Pq} {B B0 : Nat} {w0 : World}
variable {i s : Nat} {d : Option Tmp} {ty : TypeId} {ps : String} {af : Array Edge} {gd : Option (Nat × Bool)}
end
section
variable {os : List Oper} {Q : Exit → Act → World → Prop} {a : Act} {p : Pq} {B B0 : Nat} {w0 : World}
variable {i s : Nat} {d : Option Tmp} {ty : TypeId} {ps : String} {af : Array Edge} {gd : Option (Nat × Bool)}
end
-- PART2
def red (a : Int) (P : Pt) : Pt := ⟨P.x % a, P.y % a, P.i⟩
def noSl : List Fd → Bool
 | [] => true
 | .v (.slice _ _ _) :: _ => false
 | _ :: r => noSl r
def FarC (own : Option Nat) (es : List Value) : Prop := ∀ a k c, Value.slice (some a) k c ∈ es → k ≠ 0 → some a.block ≠ own
theorem FarC.tail {own : Option Nat} {u : Value} {es : List Value} (h : FarC own (u :: es)) : FarC own es := fun a k c hm hk => h a k c (List.mem_cons_of_mem _ hm) hk
theorem Fits.grown {w w' : World} {row : Option Nat} (hg : w.grownBy w' row) : ∀ {fs : List Fd} {es : List Value}, Fits w fs es → FarC row es → Fits w' fs es
 | [], _, h, _ => h
 | .n z :: fs, _, ⟨a, b, r, e, h1, h2⟩, hf => by
  subst e
  refine ⟨a, b, r, rfl, ?_, Fits.grown hg h2 hf.tail.tail⟩
  obtain ⟨n, ao, k, c, e⟩ := h1.parts
  rw [e] at h1 ⊢
  injection e with e
  have e2 := congrArg Array.toList e
  simp at e2
  obtain ⟨rfl, rfl⟩ := e2
  exact h1.grown hg fun x hx hk => hf x k c (by rw [hx]; simp) hk
 | .v u :: fs, _, ⟨r, e, h1, h2⟩, hf => by
  subst e
  exact ⟨r, rfl, h1, Fits.grown hg h2 hf.tail⟩
 | .r n ao k c xs z :: fs, _, ⟨r, e, h1, h2⟩, hf => by
  subst e
  refine ⟨r, rfl, ⟨?_, h1.2.grown hg fun x hx hk => hf x k c (by rw [hx]; simp) hk⟩, Fits.grown hg h2 hf.tail.tail⟩
  have hs := h1.1
  refine ⟨hs.len, hs.cap, hs.cells.1, ?_⟩
  rcases hs.cells.2 with h0 | ⟨b, off, rfl, hlt, hc⟩
  ·exact .inl h0
  ·rcases Nat.eq_zero_or_pos k with h0 | h0
   ·exact .inl (List.eq_nil_of_length_eq_zero (hs.len.trans h0))
   ·exact .inr ⟨b, off, rfl, Nat.lt_of_lt_of_le hlt hg.size, fun j hj => hg.cell (hc j hj) (show some b ≠ row from hf ⟨b, off, none⟩ k c (by simp) (by omega))⟩
theorem Fits.blk {w : World} : ∀ {fs : List Fd} {es : List Value}, Fits w fs es → noSl fs = true → ∀ {a : Addr} {k c : Nat}, Value.slice (some a) k c ∈ es → k ≠ 0 → a.block < w.heap.size
 | [], _, h, _, _, _, _, hm, _ => by rw [show _ = [] from h] at hm; simp at hm
 | .n z :: fs, _, ⟨x, y, r, e, h1, h2⟩, hn, a, k, c, hm, hk => by
  subst e
  obtain ⟨n, ao, k', c', e⟩ := h1.parts
  have h3 := h1
  rw [e] at h3
  injection e with e
  have e2 := congrArg Array.toList e
  simp at e2
  obtain ⟨rfl, rfl⟩ := e2
  simp only [List.mem_cons, reduceCtorEq, false_or] at hm
  rcases hm with hm | hm
  ·injection hm with hm1 hm2 hm3
   subst hm1 hm2 hm3
   exact h3.blk hk
  ·exact Fits.blk h2 hn hm hk
 | .v u :: fs, _, ⟨r, e, h1, h2⟩, hn, a, k, c, hm, hk => by
  subst e
  rcases List.mem_cons.1 hm with hm | hm
  ·subst hm; simp [noSl] at hn
  ·refine Fits.blk h2 ?_ hm hk
   cases u <;> first | exact hn | simp [noSl] at hn
 | .r n ao k' c' xs z :: fs, _, ⟨r, e, h1, h2⟩, hn, a, k, c, hm, hk => by
  subst e
  simp only [List.mem_cons, reduceCtorEq, false_or] at hm
  rcases hm with hm | hm
  ·injection hm with hm1 hm2 hm3
   subst hm1 hm2 hm3
   exact h1.2.blk hk
  ·exact Fits.blk h2 hn hm hk
def StAt (w : World) (g o : Nat) (fs : List Fd) : Prop := ∃ es, Fits w fs es ∧ ∀ j, j < es.length → w.cell? ⟨g, o + j, none⟩ = some (es.getD j undef)
theorem StAt.mono {w w' : World} {g o : Nat} {fs : List Fd} (h : StAt w g o fs) (hl : g < w.heap.size) (hb : Below w.heap.size w w') : StAt w' g o fs := by
 obtain ⟨es, h1, h2⟩ := h
 exact ⟨es, h1.mono hb, fun j hj => (hb.cell (p := ⟨g, o + j, none⟩) hl).trans (h2 j hj)⟩
def Sts (m : Nat) (w : World) (v : Value) (fss : List (List Fd)) : Prop := ∃ g cap, v = .slice (some ⟨g, 0, none⟩) fss.length cap ∧ g < w.heap.size ∧ ∀ i fs, fss[i]? = some fs → StAt w g (i * m) fs
theorem Sts.mono {m : Nat} {w w' : World} {v : Value} {fss : List (List Fd)} (h : Sts m w v fss) (hb : Below w.heap.size w w') : Sts m w' v fss := by
 obtain ⟨g, cap, e, h1, h2⟩ := h
 exact ⟨g, cap, e, Nat.lt_of_lt_of_le h1 hb.size, fun i fs hi => (h2 i fs hi).mono h1 hb⟩
def StCell (m : Nat) (us : List Value) (w : World) (own : Option Nat) (i : Nat) (fs : List Fd) : Prop := ∃ es, es.length = m ∧ (∀ j, j < m → us[i * m + j]? = es[j]?) ∧ FarC own es ∧ Fits w fs es ∧ noSl fs = true
def Ls (T m : Nat) (W : World) (B : Nat) (v : Value) (fss : List (List Fd)) : Prop := ∃ us, W.ownsRow B T m v fss.length us ∧ ∀ i fs, fss[i]? = some fs → StCell m us W v.ownBlock i fs
theorem Ls.shape {T m : Nat} {W : World} {B : Nat} {v : Value} {fss : List (List Fd)} (h : Ls T m W B v fss) : ∃ ao cap, v = .slice ao fss.length cap := by
 obtain ⟨us, h, _⟩ := h
 rcases h.2 with ⟨rfl, h0⟩ | ⟨g, cap, cur, rfl, _⟩
 ·exact ⟨none, 0, by rw [h0]⟩
 ·exact ⟨_, _, rfl⟩
theorem Ls.mono {T m : Nat} {w w' : World} {B : Nat} {v : Value} {fss : List (List Fd)} (h : Ls T m w B v fss) (hb : Below w.heap.size w w') : Ls T m w' B v fss := by
 obtain ⟨us, h, hE⟩ := h
 refine ⟨us, ⟨h.1, ?_⟩, fun i z hi => ?_⟩
 ·rcases h.2 with h2 | ⟨g, cap, cur, h1, h2, h3, h4⟩
  ·exact .inl h2
  ·exact .inr ⟨g, cap, cur, h1, h2, by rw [hb.block g (Array.getElem?_eq_some_iff.1 h3).1]; exact h3, h4⟩
 ·obtain ⟨es, g1, g2, g3, g4, g5⟩ := hE i z hi
  exact ⟨es, g1, g2, g3, g4.mono hb, g5⟩
theorem Ls.one {T m : Nat} (w : World) {B : Nat} {fs : List Fd} {es : List Value} (hB : B ≤ w.heap.size) (hm : es.length = m) (hF : Fits w fs es) (hn : noSl fs = true) : Ls T m (w.alloc (.cells es.toArray T)) B (.slice (some ⟨w.heap.size, 0, none⟩) 1 1) [fs] := by
 refine ⟨es, ⟨by simp [hm], .inr ⟨w.heap.size, 1, es.toArray, rfl, hB, ?_, ?_⟩⟩, fun i z hi => ?_⟩
 ·exact heap_alloc_new w _
 ·simp [hm]
  exact ⟨by unfold maxLen; omega, by rw [← hm, List.take_length]⟩
 ·match i, hi with
  | 0, hi =>
   simp at hi
   subst hi
   refine ⟨es, hm, fun j _ => by rw [Nat.zero_mul, Nat.zero_add], fun a k c hs hk e => ?_, hF.mono (zAw _ _), hn⟩
   have h1 := hF.blk hn hs hk
   simp [Value.ownBlock] at e
   omega
  | i + 1, hi => simp at hi
theorem Ls.step {T m B : Nat} {w wr w1 w2 : World} {v : Value} {fss : List (List Fd)} {us es : List Value} {fs : List Fd} {o : Obj} {g cap H : Nat}
  (hO : wr.ownsRow B T m v fss.length us) (hE : ∀ i z, fss[i]? = some z → StCell m us wr v.ownBlock i z) (hB : B ≤ wr.heap.size) (hnx : Below B w wr) (hb : Below wr.heap.size wr w1)
  (hnew : ∀ a k c, Value.slice (some a) k c ∈ es → k ≠ 0 → wr.heap.size ≤ a.block) (hF : Fits w1 fs es) (hn : noSl fs = true) (hm : es.length = m)
  (hown' : w2.ownsRow B T m (.slice (some ⟨g, 0, none⟩) (fss.length + 1) cap) (fss.length + 1) (us ++ es)) (hgrow : (w1.alloc o).grownBy w2 v.ownBlock) (hat : v.ownBlock = some g ∨ g = H) (hH : (w1.alloc o).heap.size = H) :
  Ls T m w2 B (.slice (some ⟨g, 0, none⟩) (fss.length + 1) cap) (fss ++ [fs]) ∧ Below B w w2 := by
 have hsz := hb.size
 have hH2 : w1.heap.size + 1 = H := by rw [← hH]; simp
 have hlt := hO.lt
 have hul := hO.1
 refine ⟨⟨us ++ es, by simpa using hown', fun i y hi => ?_⟩, ?_⟩
 ·have hne : ∀ {a : Addr} {k c : Nat} {xs : List Value} {gs : List Fd}, Fits w1 gs xs → noSl gs = true → Value.slice (some a) k c ∈ xs → k ≠ 0 → some a.block ≠ v.ownBlock → a.block ≠ g := by
   intro a k c xs gs hx hnx2 hmx hk hr e
   have h1 := hx.blk hnx2 hmx hk
   rcases hat with h | h
   ·rw [h, e] at hr; exact hr rfl
   ·omega
  by_cases hil : i < fss.length
  ·rw [List.getElem?_append_left hil] at hi
   obtain ⟨xs, g1, g2, g3, g4, g5⟩ := hE i y hi
   refine ⟨xs, g1, fun j hj => ?_, fun a k c hs hk e => ?_, ((g4.mono hb).mono (zAw w1 o)).grown hgrow g3, g5⟩
   ·have hm1 : (i + 1) * m ≤ fss.length * m := Nat.mul_le_mul_right m (by omega)
    rw [Nat.add_mul, Nat.one_mul] at hm1
    rw [List.getElem?_append_left (by omega)]
    exact g2 j hj
   ·exact hne (g4.mono hb) g5 hs hk (g3 a k c hs hk) (by simpa [Value.ownBlock] using e)
  ·have hi2 : i = fss.length := by
    rcases Nat.lt_or_ge i (fss ++ [fs]).length with h | h
    ·simp at h; omega
    ·rw [List.getElem?_eq_none h] at hi; cases hi
   subst hi2
   rw [List.getElem?_append_right (Nat.le_refl _), Nat.sub_self] at hi
   simp only [List.getElem?_cons_zero, Option.some.injEq] at hi
   subst hi
   have hfar : FarC v.ownBlock es := fun a k c hs hk e => by
    have h1 := hnew a k c hs hk
    have h2 := (hlt a.block e.symm).2
    omega
   refine ⟨es, hm, fun j hj => ?_, fun a k c hs hk e => ?_, (hF.mono (zAw w1 o)).grown hgrow hfar, hn⟩
   ·rw [List.getElem?_append_right (by omega), show fss.length * m + j - us.length = j by omega]
   ·exact hne hF hn hs hk (hfar a k c hs hk) (by simpa [Value.ownBlock] using e)
 ·exact ((hnx.trans (hb.mono hB)).alloc (by omega) o).grown hgrow (by simp; omega) (fun j hj => (hO.lt j hj).1)
section
variable {os : List Oper} {Q : Exit → Act → World → Prop} {a : Act} {p : Pq} {B B0 : Nat} {w0 : World}
variable {i s : Nat} {d : Option Tmp} {ty : TypeId} {ps : String} {af : Array Edge} {gd : Option (Nat × Bool)}
end
def TameRow (w : World) (v : Value) : Prop := ∃ g n cap cur e, v = .slice (some ⟨g, 0, none⟩) n cap ∧ w.heap[g]? = some (.cells cur e (0, 0)) ∧ ∀ u ∈ cur.toList, zCn u = true
theorem TameRow.mono {w w' : World} {v : Value} (h : TameRow w v) (hb : Below w.heap.size w w') : TameRow w' v := by
 obtain ⟨g, n, cap, cur, e, h1, h2, h3⟩ := h
 exact ⟨g, n, cap, cur, e, h1, by rw [hb.block g (Array.getElem?_eq_some_iff.1 h2).1]; exact h2, h3⟩
theorem TameRow.num {w : World} {v : Value} (h : TameRow w v) {n : Bool} {ao : Option Addr} {k c : Nat} {z : Int} (hN : Num w (.agg #[.bool n, .slice ao k c]) z) : ∀ a, ao = some a → k ≠ 0 → some a.block ≠ v.ownBlock := by
 intro a ha hk e
 obtain ⟨g, n', cap, cur, et, rfl, h2, h3⟩ := h
 obtain ⟨neg, ao', k', c', xs, hv, hs, hn, hz⟩ := hN
 injection hv with hv
 have hv2 := congrArg Array.toList hv
 simp at hv2
 obtain ⟨rfl, rfl, rfl, rfl⟩ := hv2
 subst ha
 rcases hs.cells.2 with h0 | ⟨b, off, e1, hlt, hc⟩
 ·have := hs.len; rw [h0] at this; simp at this; omega
 ·injection e1 with e1
  subst e1
  simp [Value.ownBlock] at e
  subst e
  have h4 := hc 0 (by have := hs.len; omega)
  rw [cell_of_row w b _ cur et _ h2] at h4
  have h5 := List.mem_of_getElem? (l := cur.toList) (i := off + 0) (by rw [Array.getElem?_toList]; exact h4)
  have h6 := h3 _ h5
  simp [zCn] at h6
theorem TameRow.far {w : World} {v : Value} (h : TameRow w v) : ∀ {fs : List Fd} {es : List Value}, Fits w fs es → noSl fs = true → FarC v.ownBlock es
 | [], _, hf, _ => by rw [show _ = [] from hf]; intro a k c hm; simp at hm
 | .n z :: fs, _, ⟨x, y, r, e, h1, h2⟩, hn => by
  subst e
  obtain ⟨n, ao, k', c', e⟩ := h1.parts
  have h3 := h1
  rw [e] at h3
  injection e with e
  have e2 := congrArg Array.toList e
  simp at e2
  obtain ⟨rfl, rfl⟩ := e2
  intro a k c hm hk
  simp only [List.mem_cons, reduceCtorEq, false_or] at hm
  rcases hm with hm | hm
  ·injection hm with hm1 hm2 hm3
   subst hm1 hm2 hm3
   exact h.num h3 _ rfl hk
  ·exact TameRow.far h h2 hn a k c hm hk
 | .v u :: fs, _, ⟨r, e, h1, h2⟩, hn => by
  subst e
  intro a k c hm hk
  rcases List.mem_cons.1 hm with hm | hm
  ·subst hm; simp [noSl] at hn
  ·refine TameRow.far h h2 ?_ a k c hm hk
   cases u <;> first | exact hn | simp [noSl] at hn
 | .r n ao k' c' xs z :: fs, _, ⟨r, e, h1, h2⟩, hn => by
  subst e
  intro a k c hm hk
  simp only [List.mem_cons, reduceCtorEq, false_or] at hm
  rcases hm with hm | hm
  ·injection hm with hm1 hm2 hm3
   subst hm1 hm2 hm3
   exact h.num h1.2 _ rfl hk
  ·exact TameRow.far h h2 hn a k c hm hk
set_option maxRecDepth 20000 in
theorem zPc {w : World} (t ty : TypeId) (base : Nat) (e : TypeId) (i : TypeInfo) (z : Value) (size bytes : Nat) (ht : Tryz.prog.underlying t = some (.slice e)) (hi : Tryz.prog.info? e = some i) (hz : i.zero = some z)
  (hsize : i.size = size) (hby : i.bytes = bytes) (hzs : z.cells.size = size) (hsz : 0 < size)
  (v : Value) (n : Nat) (xs : List Value) (hown : w.ownsRow base e size v n xs) (htm : TameRow w v) (hzt : ∀ u ∈ z.cells.toList, zCn u = true)
  (ad : Addr) (m c : Nat) (news : List Value) (hl : news.length = m * size) (hnews : ∀ j u, news[j]? = some u → w.cell? (ad.add j) = some u) (h1 : ∀ u ∈ news, zCn u = true)
  (hm : 0 < m) (h63 : n + m ≤ maxLen) (hbytes : (n + m) * bytes ≤ 140737488355328) (hbase : base ≤ w.heap.size) (H : Nat) (hH : w.heap.size = H) :
  ∃ g cap w', (Builtin.append_ #[t, t] ty #[v, .slice (some ad) m c]).run Tryz.prog w = .ok (.slice (some ⟨g, 0, none⟩) (n + m) cap) w' ∧
   w'.ownsRow base e size (.slice (some ⟨g, 0, none⟩) (n + m) cap) (n + m) (xs ++ news) ∧ w.grownBy w' v.ownBlock ∧ (v.ownBlock = some g ∨ g = H) ∧ g < w'.heap.size ∧ TameRow w' (.slice (some ⟨g, 0, none⟩) (n + m) cap) := by
 have hone : ∀ u ∈ news, u.oneCell' = true := fun u hu => by
  have := h1 u hu
  simp only [zCn, Bool.and_eq_true] at this
  exact this.1
 obtain ⟨g, cap, w', hr, h2, h3, h4, h5⟩ := run_append_lies (P := Tryz.prog) w t ty base e i z size bytes ht hi hz hsize hby hzs hsz v n xs hown ad m c news hl hnews hone hm h63 hbytes hbase H hH
 refine ⟨g, cap, w', hr, h2, h3, h4, h5, ?_⟩
 subst hsize
 subst hby
 obtain ⟨g0, n0, cap0, cur0, e0, rfl, hg0, ht0⟩ := htm
 rcases hown.2 with ⟨h6, _⟩ | ⟨g6, cap6, cur, h7, hbg, hg, hnc, hcm, hcs, htake⟩
 ·cases h6
 ·injection h7 with h7 h8 h9
  injection h7 with h7
  injection h7 with h7
  subst h7 h8 h9
  have hcur : cur = cur0 := by rw [hg0] at hg; injection hg with hg; injection hg with hg; exact hg.symm
  subst hcur
  by_cases hroom : n0 + m ≤ cap0
  ·have hfit : n0 * i.size + news.length ≤ cur.size := by rw [hl, hcs, ← Nat.add_mul]; exact Nat.mul_le_mul_right _ hroom
   have hr2 := run_append_room (P := Tryz.prog) w t ty e i ht hi g0 n0 cap0 cur hg ad m c news hl hnews hone hroom hfit
   rw [hr] at hr2
   injection hr2 with e1 e2
   injection e1 with e1 _ e3
   injection e1 with e1
   injection e1 with e1
   subst e1 e2 e3
   refine ⟨g, _, _, _, e, rfl, setRow_heap w g cur _ e _ hg, fun u hu => ?_⟩
   simp only [List.mem_append] at hu
   rcases hu with (hu | hu) | hu
   ·exact ht0 u (List.mem_of_mem_take hu)
   ·exact h1 u hu
   ·exact ht0 u (List.mem_of_mem_drop hu)
  ·have holds : ∀ j u, xs[j]? = some u → w.cell? ((⟨g0, 0, none⟩ : Addr).add j) = some u := hown.cells (g := g0) rfl
   have hsmall : n0 + m ≤ 9223372036854775807 := by simp only [maxLen] at h63; omega
   have hr2 := run_append_grow (P := Tryz.prog) w t ty e i z ht hi hz ⟨g0, 0, none⟩ n0 cap0 xs hown.1 holds ad m c news hl hnews (by omega) (by omega) (growslice_fits (by omega) hbytes)
   rw [hr] at hr2
   injection hr2 with e1 e2
   injection e1 with e1 _ e3
   injection e1 with e1
   injection e1 with e1
   subst e1 e2 e3
   refine ⟨_, _, _, _, e, rfl, heap_alloc_new w.drew _, fun u hu => ?_⟩
   simp only [Array.toList_append, List.mem_append] at hu
   rcases hu with (hu | hu) | hu
   ·rw [← htake] at hu
    exact ht0 u (List.mem_of_mem_take hu)
   ·exact h1 u hu
   ·simp only [Builtin.zeroCells, Array.toList_map, Array.toList_range, List.mem_map, List.mem_range] at hu
    obtain ⟨j, hj, rfl⟩ := hu
    have hlt : j % z.cells.size < z.cells.size := Nat.mod_lt _ (by rw [hzs]; exact hsz)
    rw [getElem!_pos z.cells (j % z.cells.size) hlt]
    exact hzt _ (by simp)
theorem zPo {w : World} {ops : Array Oper} {rest : List Oper} {o : Oper} {a : Act} {Q : Exit → Act → World → Prop} (hgd : o.guard = none) (s x : Operand) (t : TypeId)
  (ho : o.op = .call { callee := .builtin .append, args := #[s, x], argTypes := #[t, t] })
  (base : Nat) (e : TypeId) (i : TypeInfo) (z : Value) (size bytes : Nat) (ht : Tryz.prog.underlying t = some (.slice e)) (hi : Tryz.prog.info? e = some i) (hz : i.zero = some z)
  (hsize : i.size = size) (hby : i.bytes = bytes) (hzs : z.cells.size = size) (hsz : 0 < size)
  (v : Value) (n : Nat) (xs : List Value) (hs : a.eval s = v) (hown : w.ownsRow base e size v n xs) (htm : TameRow w v) (hzt : ∀ u ∈ z.cells.toList, zCn u = true)
  (ad : Addr) (m c : Nat) (news : List Value) (hx : a.eval x = .slice (some ad) m c) (hl : news.length = m * size) (hnews : ∀ j u, news[j]? = some u → w.cell? (ad.add j) = some u) (h1 : ∀ u ∈ news, zCn u = true)
  (hm : 0 < m) (h63 : n + m ≤ maxLen) (hbytes : (n + m) * bytes ≤ 140737488355328) (hbase : base ≤ w.heap.size) (H : Nat) (hH : w.heap.size = H)
  (h : ∀ g cap w', w'.ownsRow base e size (.slice (some ⟨g, 0, none⟩) (n + m) cap) (n + m) (xs ++ news) → w.grownBy w' v.ownBlock → (v.ownBlock = some g ∨ g = H) → g < w'.heap.size → TameRow w' (.slice (some ⟨g, 0, none⟩) (n + m) cap) → wpList Tryz.prog ops Q rest (a.put o.dst (.slice (some ⟨g, 0, none⟩) (n + m) cap)) w') : wpList Tryz.prog ops Q (o :: rest) a w := by
 refine wpList_plain hgd fun K hK => ?_
 obtain ⟨g, cap, w', hr, h2, h3, h4, h5, h6⟩ := zPc (w := w) t o.type base e i z size bytes ht hi hz hsize hby hzs hsz v n xs hown htm hzt ad m c news hl hnews h1 hm h63 hbytes hbase H hH
 unfold Oper.wp execOp
 simp only [ho, resolve, invoke, builtin, Sem.run_bind, Sem.run_pure, Result.andThen_ok, List.map_toArray, List.map_cons, List.map_nil, hs, hx, hr]
 exact hK _ _ (h g cap w' h2 h3 h4 h5 h6)
def RBox (W : World) (own : Option Nat) (br : Nat) (z : Int) : Prop := br < W.heap.size ∧ some br ≠ own ∧ ∃ n ao k c, W.cell? ⟨br, 0, none⟩ = some (.bool n) ∧ W.cell? ⟨br, 1, none⟩ = some (.slice ao k c) ∧ Num W (.agg #[.bool n, .slice ao k c]) z
theorem RBox.mono {W W' : World} {own : Option Nat} {br : Nat} {z : Int} (h : RBox W own br z) (hb : Below W.heap.size W W') : RBox W' own br z := by
 obtain ⟨h1, h2, n, ao, k, c, g1, g2, g3⟩ := h
 exact ⟨Nat.lt_of_lt_of_le h1 hb.size, h2, n, ao, k, c, (hb.cell (p := ⟨br, 0, none⟩) h1).trans g1, (hb.cell (p := ⟨br, 1, none⟩) h1).trans g2, g3.mono hb⟩
theorem RBox.st {W : World} {own : Option Nat} {br : Nat} {z : Int} (h : RBox W own br z) : StAt W br 0 [.n z] := by
 obtain ⟨h1, h2, n, ao, k, c, g1, g2, g3⟩ := h
 refine ⟨[.bool n, .slice ao k c], ⟨_, _, _, rfl, g3, rfl⟩, fun j hj => ?_⟩
 match j, hj with
 | 0, _ => exact g1
 | 1, _ => exact g2
theorem RBox.step {wr w1 w2 : World} {v : Value} {br g H n cap : Nat} {z : Int} {o : Obj} (h : RBox wr v.ownBlock br z) (hb : Below wr.heap.size wr w1) (ht : TameRow (w1.alloc o) v) (hgrow : (w1.alloc o).grownBy w2 v.ownBlock) (hat : v.ownBlock = some g ∨ g = H) (hH : (w1.alloc o).heap.size = H) : RBox w2 (Value.slice (some ⟨g, 0, none⟩) n cap).ownBlock br z := by
 obtain ⟨h1, h2, m, ao, k, c, g1, g2, g3⟩ := (h.mono hb).mono (zAw w1 o)
 have hlt : br < H := by rw [← hH]; exact h1
 refine ⟨Nat.lt_of_lt_of_le h1 hgrow.size, ?_, m, ao, k, c, hgrow.cell g1 h2, hgrow.cell g2 h2, g3.grown hgrow (ht.num g3)⟩
 intro e
 simp [Value.ownBlock] at e
 rcases hat with h3 | h3
 ·rw [h3, e] at h2; exact h2 rfl
 ·omega
theorem TameRow.made {w : World} {es : List Value} {T : Nat} (h : ∀ u ∈ es, zCn u = true) : TameRow (w.alloc (.cells es.toArray T)) (.slice (some ⟨w.heap.size, 0, none⟩) 1 1) := ⟨_, _, _, es.toArray, T, rfl, heap_alloc_new w _, fun u hu => h u (by simpa using hu)⟩
end Go.Proofs.YtdhkhedhnolcjaaGreat
