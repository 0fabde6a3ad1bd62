/- Nb, Nc, Pv, Px, Qh, Qi, Ot, Ou, Ov, Ng, Nf, Ow, Ox, Om, Oj, Ok, Sf, Od, Ni, Nj, Oe, Og. -/
import Derived.Test.YtihhlaagndingaaGreatBz4
import Derived.Recover
import Derived.Laws.Pointers
namespace Go.Proofs.YtihhlaagndingaaGreat
open Go Go.RowKit

section
variable {os : List Oper} {Q : Exit → Act → World → Prop} {a : Act} {p : Pq} {B B0 : Nat} {w0 : World}
variable {i s : Nat} {d : Option Tmp} {ty : TypeId} {ps : String} {af : Array Edge} {gd : Option (Nat × Bool)}
end
theorem zLq {w w' : World} {base : Nat} {e : TypeId} {size : Nat} {v : Value} {n : Nat} {xs : List Value} (h : w.ownsRow base e size v n xs) (hb : Below w.heap.size w w') : w'.ownsRow base e size v n xs := by
 refine ⟨h.1, ?_⟩
 rcases h.2 with h2 | ⟨g, cap, cur, h1, h2, h3, h4⟩
 ·exact .inl h2
 ·exact .inr ⟨g, cap, cur, h1, h2, by rw [hb.block g (Array.getElem?_eq_some_iff.1 h3).1]; exact h3, h4⟩
section
variable {n1 n2 n3 : Bool} {a1 a2 a3 : Option Addr} {k1 c1 k2 c2 k3 c3 : Nat} {xs1 xs2 xs3 : List Int}
end

section
variable {os : List Oper} {Q : Exit → Act → World → Prop} {a : Act} {p : Pq} {B B0 : Nat} {w0 : World}
variable {i s : Nat} {d : Option Tmp} {ty : TypeId} {ps : String} {af : Array Edge} {gd : Option (Nat × Bool)}
end
section
variable {os : List Oper} {Q : Exit → Act → World → Prop} {a : Act} {p : Pq} {B B0 : Nat} {w0 : World}
variable {i s : Nat} {d : Option Tmp} {ty : TypeId} {ps : String} {af : Array Edge} {gd : Option (Nat × Bool)}
end
def Fq.nraw (n : Bool) (a : Option Addr) (k c : Nat) (xs : List Int) (z : Int) : Fq := ⟨fun v w => v = .agg #[.bool n, .slice a k c] ∧ Sl w a k c xs ∧ Num w v z, fun h hb => ⟨h.1, h.2.1.mono hb, h.2.2.mono hb⟩, fun h ha ht hl => ⟨h.1, h.2.1.putAt ha ht hl, h.2.2.putAt ha ht hl⟩⟩
theorem zFr {n : Bool} {a : Option Addr} {k c : Nat} {xs : List Int} {z : Int} {us : List Value} {w : World} (hl : us.length = 2) (h : (Fq.nraw n a k c xs z).P (.agg us.toArray) w) : us.getD 1 undef = .slice a k c := by
 match us, hl with
 | [p, q], _ =>
  obtain ⟨e, _⟩ := h
  injection e with e
  have e2 := congrArg Array.toList e
  simp at e2
  simp [e2]
section
variable {os : List Oper} {Q : Exit → Act → World → Prop} {a : Act} {p : Pq} {B B0 : Nat} {w0 : World}
variable {i s : Nat} {d : Option Tmp} {ty : TypeId} {ps : String} {af : Array Edge} {gd : Option (Nat × Bool)}
theorem zFz {o : Ob} {off : Nat} {x : Operand} {v : Value} (hp : p.Ok B B0) (hF : p.Free i) (hg : GdQ os a p B B0 w0 af gd) (ho : o ∈ p.old) (hk : o.F1 = o.F0 ∨ zBo os 9 o.k i = true) (hoff : off + 1 ≤ o.m)
  (hx : SrcQ os a p B B0 w0 af x fun u _ => u = .pointer (some ⟨o.b, off, none⟩)) (hC : ∀ (us : List Value) (w : World), us.length = o.m → o.F0.P (.agg us.toArray) w → us.getD off undef = v ∧ (p.c i).P v w) :
  zAr os Q a p B B0 w0 i { dst := d, op := .load 25 x, type := ty, pos := ps, after := af, guard := gd } := by
 refine zBk hp hF hg fun L vs w hG hL hc hd => ?_
 obtain ⟨us, hl, h0, hat, ht, hP⟩ := zDm ho hk hG hL hc
 have e := hx L vs w hG hd
 have c0 := (hat off (by omega)).1
 obtain ⟨e2, hP2⟩ := hC us w hl hP
 refine ⟨_, ?_, hP2⟩
 rw [e2] at c0
 generalize (lay os.toArray L vs os.toArray.size a).eval = ρ at e
 simp [execOp, go_sem, e, c0]
theorem zF1 {o : Ob} {bx : Nat} {ad : Addr} {x : Operand} {x0 : Int} (hp : p.Ok B B0) (hF : p.Free i) (hg : GdQ os a p B B0 w0 af gd) (ho : o ∈ p.old) (hk : o.F1 = o.F0 ∨ zBo os 9 o.k i = true)
  (hx : SrcQ os a p B B0 w0 af x fun u _ => u = .pointer (some ad)) (hC : ∀ (us : List Value) (w : World), us.length = o.m → o.F0.P (.agg us.toArray) w → w.cell? ad = some (.int .u32 x0)) (hI : ∀ w, (p.c i).P (.int .u32 x0) w) (_hb : o.b = bx := by rfl) :
  zAr os Q a p B B0 w0 i { dst := d, op := .load 67 x, type := ty, pos := ps, after := af, guard := gd } := by
 refine zBk hp hF hg fun L vs w hG hL hc hd => ?_
 obtain ⟨us, hl, h0, hat, ht, hP⟩ := zDm ho hk hG hL hc
 have e := hx L vs w hG hd
 have c0 := hC us w hl hP
 refine ⟨_, ?_, hI w⟩
 generalize (lay os.toArray L vs os.toArray.size a).eval = ρ at e
 simp [execOp, go_sem, e, c0]
end
theorem zLl {w : World} {n : Bool} {a : Option Addr} {k c : Nat} {xs : List Int} {z : Int} {v : Value} (h : (Fq.nraw n a k c xs z).P v w) (hk : 0 < k) : ∃ ab off, a = some ⟨ab, off, none⟩ := by
 obtain ⟨b, off, e, _⟩ := h.2.1.cells.at (k := 0) (by rw [h.2.1.len]; exact hk)
 exact ⟨b, off, e⟩
theorem zIt (args : Array Value) (w : World) : (callFunc 37 args).run Tryz.prog w = .ok (.enter 37 args) w := zAn Tryz.func37 (by kernel_rfl) rfl args w
theorem Num.opens {w : World} {v : Value} {z : Int} (h : Num w v z) : ∃ n a k c xs, v = .agg #[.bool n, .slice a k c] ∧ (z = sgn n (val xs) ∧ Canon xs ∧ xs.length = k ∧ (n = true → k ≠ 0) ∧ Digs xs) ∧ (Fq.nraw n a k c xs z).P v w := by
 obtain ⟨neg, ao, k, c, xs, hv, hs, hn, hz, hc, hnn⟩ := id h
 exact ⟨neg, ao, k, c, xs, hv, ⟨hz, hc, hs.len, hnn, hs.digs⟩, hv, hs, h⟩
theorem zFs {n : Bool} {ab : Nat} {off k c : Nat} {xs : List Int} {z x0 : Int} {q : Nat} (hk : q < k) (hx : xs.getD q 0 = x0) {v : Value} {w : World} (h : (Fq.nraw n (some ⟨ab, off, none⟩) k c xs z).P v w) : w.cell? ⟨ab, off + q, none⟩ = some (.int .u32 x0) := by
 obtain ⟨x, h1, _, _, h4⟩ := h.2.1.cells.at' (k := q) (by rw [h.2.1.len]; exact hk)
 rw [h1, ← hx, h4.out]
theorem zJt {n : Bool} {xs : List Int} {z : Int} {k i : Nat} (h : z = sgn n (val xs) ∧ Canon xs ∧ xs.length = k ∧ (n = true → k ≠ 0) ∧ Digs xs) (hi : i < zAp z) : i / 32 < k ∧ ∃ x0 y : Int, xs.getD (i / 32) 0 = x0 ∧ x0 / 2 ^ (i % 32) = y ∧ bits .and .u32 y 1 = ((z.natAbs / 2 ^ i % 2 : Nat) : Int) := by
 obtain ⟨hz, hc, hl, hn, hd⟩ := h
 have h1 : ab z = val xs := by rw [hz, zDv, zBl (zAx hd)]
 have h2 : ab z < pw k := by rw [h1, ← hl]; exact zBc hd
 have h3 : i / 32 < k := by have := zH1 h2; omega
 refine ⟨h3, _, _, rfl, rfl, ?_⟩
 have hb := zMy hd (k := i / 32) (r := i % 32) (by omega) (by omega)
 rw [show 32 * (i / 32) + i % 32 = i by omega] at hb
 have hx := hd.getD (i / 32)
 have e3 : 0 ≤ xs.getD (i / 32) 0 / 2 ^ (i % 32) ∧ xs.getD (i / 32) 0 / 2 ^ (i % 32) < 4294967296 := by
  have h := Int.ediv_nonneg hx.1 (show (0 : Int) ≤ 2 ^ (i % 32) by have := zCb (i % 32); omega)
  have h2 := Int.ediv_le_self (a := xs.getD (i / 32) 0) (2 ^ (i % 32)) hx.1
  have := hx.2
  omega
 rw [and_one _ e3.1 e3.2, ← hb, ← h1]
 unfold ab
 rw [Int.natCast_emod, Int.natCast_ediv, Int.natCast_pow]
 rfl
theorem zI1 {ops : Array Oper} {L : Nat → Bool} {vs : Nat → Value} : ∀ (k : Nat) (a : Act), (lay ops L vs k a).defers = a.defers
 | 0, _ => rfl
 | k + 1, a => by
  unfold lay
  split
  ·have : ((lay ops L vs k a).put (zBm ops k) (vs k)).defers = (lay ops L vs k a).defers := by
    unfold Act.put
    split <;> rfl
   rw [this, zI1 k a]
  ·exact zI1 k a
section
variable {os : List Oper} {Q : Exit → Act → World → Prop} {a : Act} {p : Pq} {B B0 : Nat} {w0 : World}
variable {i s : Nat} {d : Option Tmp} {ty : TypeId} {ps : String} {af : Array Edge}
set_option maxRecDepth 100000 in
theorem zMe {f : FuncId} {xs : Array Operand} {ts : Array TypeId} {T : World → List PanicEntry → World → Prop} (hen : ∀ args w, (callFunc f args).run Tryz.prog w = .ok (.enter f args) w)
  (hr : ∀ L vs w, p.G B B0 w0 L vs w → (∀ e ∈ af, Region.binds .any e = true → L e.on = true) → ∃ args, xs.map (lay os.toArray L vs os.toArray.size a).eval = args ∧ Calls Tryz.prog f args w fun e w' => ∃ ch, e = .panicked ch ∧ Below w.heap.size w w' ∧ T w ch w')
  (hQ : ∀ L vs w ch w' A, p.G B B0 w0 L vs w → Below w.heap.size w w' → T w ch w' → A.defers = a.defers → A.tmps.size = a.tmps.size → (∀ s, (os.map (·.dst)).contains (some s) = false → A.eval (.tmp s) = a.eval (.tmp s)) → Q (.panic ch) A w') :
  zAr os Q a p B B0 w0 i { dst := d, op := .call { callee := .value (.func f), args := xs, argTypes := ts }, type := ty, pos := ps, after := af, guard := none } := by
 intro hio L vs w hG hL hd hc
 refine wpOp_step hio fun K' hK => ?_
 obtain ⟨args, hx, hC⟩ := hr L vs w hG hd
 rw [if_pos (zIb (o := { dst := d, op := .call { callee := .value (.func f), args := xs, argTypes := ts }, type := ty, pos := ps, after := af, guard := none }) trivial hG hd)]
 have e : (execOp (lay os.toArray L vs os.toArray.size a).eval ({ dst := d, op := .call { callee := .value (.func f), args := xs, argTypes := ts }, type := ty, pos := ps, after := af, guard := none } : Oper)).run Tryz.prog w = (.ok (.enter f args) w) := by
  have hf : (lay os.toArray L vs os.toArray.size a).eval (.func f) = .func (.func f) #[] #[] := rfl
  generalize (lay os.toArray L vs os.toArray.size a).eval = ρ at hx hf
  simp [execOp, go_sem, hx, hf, hen]
 unfold Oper.wp
 rw [e]
 refine hC.mono ?_
 rintro e' w' ⟨ch, rfl, hb, hT⟩
 exact hQ L vs w ch w' _ hG hb hT (zI1 _ _) (zGt _ _) fun s hs => zGs hs _
theorem zL4 {x y : Operand} {F G : Value → World → Prop} {f : FuncId} {ts : Array TypeId} {T : World → List PanicEntry → World → Prop} (_hp : p.Ok B B0) (_hF : p.Free i) (hen : ∀ args w, (callFunc f args).run Tryz.prog w = .ok (.enter f args) w)
  (hx : SrcQ os a p B B0 w0 af x F) (hy : SrcQ os a p B B0 w0 af y G) (hC : ∀ v v' w, F v w → G v' w → Calls Tryz.prog f #[v, v'] w fun e w' => ∃ ch, e = .panicked ch ∧ Below w.heap.size w w' ∧ T w ch w')
  (hQ : ∀ L vs w ch w' A, p.G B B0 w0 L vs w → Below w.heap.size w w' → T w ch w' → A.defers = a.defers → A.tmps.size = a.tmps.size → (∀ s, (os.map (·.dst)).contains (some s) = false → A.eval (.tmp s) = a.eval (.tmp s)) → Q (.panic ch) A w') :
  zAr os Q a p B B0 w0 i { dst := d, op := .call { callee := .value (.func f), args := #[x, y], argTypes := ts }, type := ty, pos := ps, after := af, guard := none } :=
 zMe hen (fun L vs w hG hd => ⟨#[_, _], by simp, hC _ _ _ (hx L vs w hG hd) (hy L vs w hG hd)⟩) hQ
theorem zL5 {x y z : Operand} {F G F3 : Value → World → Prop} {f : FuncId} {ts : Array TypeId} {T : World → List PanicEntry → World → Prop} (_hp : p.Ok B B0) (_hF : p.Free i) (hen : ∀ args w, (callFunc f args).run Tryz.prog w = .ok (.enter f args) w)
  (hx : SrcQ os a p B B0 w0 af x F) (hy : SrcQ os a p B B0 w0 af y G) (hz : SrcQ os a p B B0 w0 af z F3) (hC : ∀ v v' u w, F v w → G v' w → F3 u w → Calls Tryz.prog f #[v, v', u] w fun e w' => ∃ ch, e = .panicked ch ∧ Below w.heap.size w w' ∧ T w ch w')
  (hQ : ∀ L vs w ch w' A, p.G B B0 w0 L vs w → Below w.heap.size w w' → T w ch w' → A.defers = a.defers → A.tmps.size = a.tmps.size → (∀ s, (os.map (·.dst)).contains (some s) = false → A.eval (.tmp s) = a.eval (.tmp s)) → Q (.panic ch) A w') :
  zAr os Q a p B B0 w0 i { dst := d, op := .call { callee := .value (.func f), args := #[x, y, z], argTypes := ts }, type := ty, pos := ps, after := af, guard := none } :=
 zMe hen (fun L vs w hG hd => ⟨#[_, _, _], by simp, hC _ _ _ _ (hx L vs w hG hd) (hy L vs w hG hd) (hz L vs w hG hd)⟩) hQ
end
def PanN (d : Int) (_w : World) (ch : List PanicEntry) (w' : World) : Prop := ∃ v, ch = [{ v := .iface 32 v, recovered := false }] ∧ Num w' v d
noncomputable def zCn (A M : Int) (P : Pt) (R : Pt × Int) (b : Bool) : Pt × Int := if R.2 = 0 then (if (sumP A M R.1 R.1).2 = 0 then (if b then sumP A M (sumP A M R.1 R.1).1 P else sumP A M R.1 R.1) else sumP A M R.1 R.1) else R
noncomputable def mulP (A M : Int) (P : Pt) : Nat → Nat → Pt × Int
 | 0, _ => (⟨0, 0, true⟩, 0)
 | k + 1, m => zCn A M P (mulP A M P k (m / 2)) (decide (m % 2 = 1))
noncomputable def xjP (A M : Int) (P : Pt) (N L j : Nat) : Pt × Int := mulP A M P (L - j) (N / 2 ^ j)
theorem zIc {A M : Int} {P : Pt} {N L j : Nat} (h : j < L) : xjP A M P N L j = zCn A M P (xjP A M P N L (j + 1)) (decide (N / 2 ^ j % 2 = 1)) := by
 unfold xjP
 rw [show L - j = L - (j + 1) + 1 by omega, mulP, Nat.div_div_eq_div_mul, ← Nat.pow_succ]
theorem zE4 {A M : Int} {P : Pt} {N L : Nat} : ∀ {j : Nat}, j ≤ L → ¬ (xjP A M P N L j).2 = 0 → xjP A M P N L 0 = xjP A M P N L j
 | 0, _, _ => rfl
 | j + 1, h, hd => by
  have h1 : xjP A M P N L j = xjP A M P N L (j + 1) := by rw [zIc (by omega), zCn, if_neg hd]
  rw [← h1]
  exact zE4 (by omega) (by rw [h1]; exact hd)
theorem zDr {A M : Int} {P Q : Pt} (hP : P.Ok M) (hQ : Q.Ok M) : (sumP A M P Q).1.Ok M := by
 have h0 : 0 < M := by have := hP.1; have := hP.2.1; omega
 have hz : (⟨0, 0, true⟩ : Pt).Ok M := ⟨by show (0 : Int) ≤ 0; omega, h0, by show (0 : Int) ≤ 0; omega, h0⟩
 unfold sumP
 split
 ·exact hQ
 ·split
  ·exact hP
  ·unfold finP
   split
   ·exact hz
   ·split
    ·exact ⟨Int.emod_nonneg _ (by omega), Int.emod_lt_of_pos _ h0, Int.emod_nonneg _ (by omega), Int.emod_lt_of_pos _ h0⟩
    ·exact hz
theorem stepP_ok {A M : Int} {P : Pt} {R : Pt × Int} {b : Bool} (hP : P.Ok M) (hR : R.1.Ok M) : (zCn A M P R b).1.Ok M := by
 unfold zCn
 split
 ·split
  ·split
   ·exact zDr (zDr hR hR) hP
   ·exact zDr hR hR
  ·exact zDr hR hR
 ·exact hR
theorem xj_ok {A M : Int} {P : Pt} {N L : Nat} (hP : P.Ok M) (j : Nat) : (xjP A M P N L j).1.Ok M := by
 unfold xjP
 generalize L - j = k
 generalize N / 2 ^ j = m
 have h0 : 0 < M := by have := hP.1; have := hP.2.1; omega
 induction k generalizing m with
 | zero => exact ⟨by show (0 : Int) ≤ 0; omega, h0, by show (0 : Int) ≤ 0; omega, h0⟩
 | succ k ih => exact stepP_ok hP (ih _)
set_option maxRecDepth 100000 in
set_option maxHeartbeats 4000000 in
theorem zHq {w : World} {v v' u : Value} {A B M n : Int} {P : Pt} {T : Pt × Int} (h : (Fq.st [.n A, .n B, .n M]).P v w) (h' : Num w v' n) (g : (Fq.pt P).P u w) (hM : ab M < pw 5) (hA : ab A < pw 5) (hn : ab n < pw 20) (hP : P.Ok M) (ht : xjP A M P n.natAbs (zAp n) 0 = T) :
  Calls Tryz.prog 61 #[v, v', u] w fun e w' => Below w.heap.size w w' ∧ ((T.2 = 0 ∧ ∃ v', e = .returned v' ∧ (Fq.pt T.1).P v' w') ∨ (¬ T.2 = 0 ∧ ∃ v', e = .panicked [{ v := .iface 32 v', recovered := false }] ∧ Num w' v' T.2)) := by
 replace hM := hidd hM
 replace hA := hidd hA
 obtain ⟨m1, d1, j1, cc1, ys, rfl, hop, h'⟩ := h'.opens
 have HA := hidd (show 0 < j1 → ∃ ab off, d1 = some ⟨ab, off, none⟩ from zLl h')
 have HOP := hidd hop
 replace hn := hidd hn
 have HP := hidd hP
 have HT := hidd ht
 clear hop hP ht
 obtain ⟨_, rfl, hf0⟩ := h
 have hF0 := hf0
 obtain ⟨y0_p0, y0_q0, _, rfl, _y0_n0, y0_p1, y0_q1, _, rfl, _y0_n1, y0_p2, y0_q2, _, rfl, _y0_n2, rfl⟩ := hf0
 obtain ⟨_, rfl, hf2⟩ := g
 have hF2 := hf2
 obtain ⟨y2_p0, y2_q0, _, rfl, _y2_n0, y2_p1, y2_q1, _, rfl, _y2_n1, _, rfl, _, rfl⟩ := hf2
 obtain ⟨w1, b1, hw1, hb1, hs1, E⟩ := gS w 34 hF0
 obtain ⟨w2, b2, hw2, hb2, hs2, E⟩ := zEr E hs1 (F := Fq.nraw m1 d1 j1 cc1 ys n) (us := [.bool m1, .slice d1 j1 cc1]) 32 rfl (by simp) (zBr _ _ _ _) ((Fq.nraw m1 d1 j1 cc1 ys n).mono (show (Fq.nraw m1 d1 j1 cc1 ys n).P _ w from h') E.below)
 obtain ⟨w3, b3, hw3, hb3, hs3, E⟩ := fS E hs2 36 hF2
 obtain ⟨w4, b4, hw4, hb4, hs4, E⟩ := fO E hs3 36 zA1
 go_enter Tryz.func61, Tryz.ntmps61
 go_upto_region 1 with (fail)
 rw [← hw1]
 rw [← hw2]
 rw [← hw3]
 rw [← hw4]
 rw [← hb4]
 rw [← hb3]
 rw [← hb2]
 rw [← hb1]
 clear hw1 hw2 hw3 hw4 hb1 hb2 hb3 hb4 hs4 hs1 hs2 hs3
 refine rg [Fq.st [.n 0, .n 0, .v (.bool true)], Fq.any, Fq.any] N4 [⟨1, 2, 5, Fq.st [.n 0, .n 0, .v (.bool false)], Fq.st [.n 0, .n 0, .v (.bool true)], none⟩] E (fun hp => ⟨?_, ?_, ?_, tv⟩) ?_
 ·exact zFy (u2 := true) hp fo tv (zAl (fun _ => rfl)) (fun v w h => h)
 ·exact aS hp (mq 0 rfl) zA1 zC9
 ·exact sS 0 hp (mq 0 rfl) zAy
 intro L vs w5 nb hL hC hn E5
 have e1 : vs 1 = .pointer (some ⟨nb 1, 0, none⟩) := hn _ (mq 0 rfl)
 have E := E5; simp only [LM, zAb] at E
 rw [zAa hL]
 simp only [SP, Nat.zero_add, Nat.reduceAdd]
 rw [e1]
 generalize nb 1 = b5_1 at E ⊢
 generalize vs 0 = u5_0
 clear e1 hC hn E5 hL vs L nb
 have HNB : Hid (zAp n ≤ 640) := zH1 hn.out
 have TW : Hid (IntKind.i64.wrap (((zAp n : Nat) : Int) - 1) = ((zAp n : Nat) : Int) - 1) := IntWalk.i64_in _ (by have := HNB.out; omega)
 go_upto_region 2 with (fail)
 refine rg [Fq.num n, Fq.is (.int .i64 ((zAp n : Nat) : Int)), Fq.is (.int .i64 (((zAp n : Nat) : Int) - 1)), Fq.is (.int .i64 (((zAp n : Nat) : Int) - 1))] N5 [] E (fun hp => ⟨?_, ?_, ?_, ?_, tv⟩) ?_
 ·exact lI 0 hp (mq 3 rfl) (sqo 4) fun us w hl h => zAh hl h.2.2
 ·exact wXa (Fq.num n) hp enq_Bits (sqi 0) fun v w h => exBits h
 ·exact zAf (F := fun v _ => v = .int .i64 ((zAp n : Nat) : Int)) hp fo tv (sqi 1) (fun ρ w hc h => ⟨.int .i64 (((zAp n : Nat) : Int) - 1), by simp [execOp, go_sem, h, hc, TW.out], rfl⟩)
 ·exact zAo hp fo tv (sqi 2)
 intro L vs w6 nb hL hC hn E6
 have e1 := wXi hC 1
 have e2 := wXi hC 2
 have e3 := wXi hC 3
 have E := E6; simp only [LM, zAb] at E
 rw [zAa hL]
 simp only [SP, Nat.zero_add, Nat.reduceAdd]
 rw [e1, e2, e3]
 generalize vs 0 = u6_0
 clear e1 e2 e3 hC hn E6 hL vs L nb
 clear TW
 have HS := hidd E
 go_upto_region 3 with (fail)
 go_loopw [8] (fun vi W => ∃ (j : Nat) (R : Pt), j ≤ zAp n ∧ vi = .int .i64 ((j : Int) - 1) ∧ xjP A M P n.natAbs (zAp n) j = (R, 0) ∧ Fr w [(b5_1, 5, Fq.st [.n R.x, .n R.y, .v (.bool R.i)]), (b4, 5, Fq.st [.n 0, .n 0, .v (.bool false)]), (b3, 5, Fq.st [.n P.x, .n P.y, .v (.bool P.i)]), (b2, 2, Fq.nraw m1 d1 j1 cc1 ys n), (b1, 6, Fq.st [.n A, .n B, .n M])] W) (fun vi _ => (intOf vi + 1).toNat)
 case atStart => exact ⟨zAp n, ⟨0, 0, true⟩, Nat.le_refl _, rfl, by unfold xjP; rw [Nat.sub_self]; rfl, HS.out⟩
 case round =>
  obtain ⟨j, R, hj, rfl, hR, E⟩ := hrel
  clear HS
  by_cases h0 : j = 0
  ·subst h0
   have HR := hidd hR
   clear hj hR
   go_upto_region 3 with (fail)
   refine rg [Fq.is (.int .i64 (((0 : Nat) : Int) - 1)), yF] N5 [] E (fun hp => ⟨?_, ?_, tv⟩) ?_
   ·exact zAe hp fo tv (sqo 8)
   ·exact zAf (F := fun v _ => v = .int .i64 (((0 : Nat) : Int) - 1)) hp fo tv (sqi 0) (fun ρ w hc h => ⟨.bool false, by simp [execOp, go_sem, h, hc], rfl⟩)
   intro L vs w7 nb hL hC hn E7
   have e0 := wXi hC 0
   have e1 := wXi hC 1
   have E := E7; simp only [LM, zAb] at E
   rw [zAa hL]
   simp only [SP, Nat.zero_add, Nat.reduceAdd]
   rw [e0, e1]
   clear e0 e1 hC hn E7 hL vs L nb
   go_upto_region 8 with (fail)
   refine rg [Fq.st [.n R.x, .n R.y, .v (.bool R.i)], Fq.any] [none, some (1, Fq.st [.n R.x, .n R.y, .v (.bool R.i)]), none, none, none] [] E (fun hp => ⟨?_, ?_, tv⟩) ?_
   ·exact lS 0 5 hp (mq 0 rfl) zAk (sqo 7)
   ·exact sO 0 0 hp (mq 1 rfl) zAy (sqo 6)
   intro L vs w8 nb hL hC hn E8
   have E := E8; simp only [LM, zAb] at E
   rw [zAa hL]
   simp only [SP, Nat.zero_add, Nat.reduceAdd]
   generalize vs 0 = u8_0
   clear  hC hn E8 hL vs L nb
   obtain ⟨_, _, hc, hf⟩ := zAu (E.box 1 rfl)
   have hR2 := hf
   obtain ⟨r_p0, r_q0, _, rfl, _r_n0, r_p1, r_q1, _, rfl, _r_n1, _, rfl, _, rfl⟩ := hf
   have c0 := hc 0 (by simp)
   have c1 := hc 1 (by simp)
   have c2 := hc 2 (by simp)
   have c3 := hc 3 (by simp)
   have c4 := hc 4 (by simp)
   simp only [List.getD_cons_zero, List.getD_cons_succ] at c0 c1 c2 c3 c4
   clear hc
   clear hM hA
   have HE := HT.out
   clear HP HT HNB HA HOP hn
   go_wp2
   refine bodyPost_ret (v := .agg #[r_p0, r_q0, r_p1, r_q1, .bool R.i]) ?_ rfl ⟨E.below, .inl ⟨by rw [← HE, HR.out], _, rfl, by rw [← HE, HR.out]; exact ⟨_, rfl, hR2⟩⟩⟩
   simp [results, Tryz.results61, go_sem, c0, c1, c2, c3, c4]
  ·obtain ⟨i, rfl⟩ : ∃ i, j = i + 1 := ⟨j - 1, by omega⟩
   have ei : (((i + 1 : Nat) : Int) - 1) = (i : Int) := by omega
   rw [ei]
   have HJ := hidd hj
   have HST := hidd (zIc (A := A) (M := M) (P := P) (N := n.natAbs) (L := zAp n) (j := i) (by omega))
   have HR := hidd hR
   have HRO : Hid (R.Ok M) := by have := xj_ok (A := A) (N := n.natAbs) (L := zAp n) HP.out (i + 1); rw [hR] at this; exact this
   have TL : Hid (0 ≤ (i : Int)) := by show 0 ≤ _; omega
   have hw : wrap64 ((i : Int) - 1) = (i : Int) - 1 := by have := HJ.out; have := HNB.out; simp only [wrap64]; omega
   obtain ⟨S, hS⟩ : ∃ S, S = sumP A M R R := ⟨_, rfl⟩
   obtain ⟨S, e1⟩ := S
   have HSO : Hid (S.Ok M) := by have := zDr (A := A) HRO.out HRO.out; rw [← hS] at this; exact this
   have HS := hidd hS.symm
   obtain ⟨hqk, x0, y, hx0, hy, hband⟩ := zJt HOP.out (i := i) (by omega)
   obtain ⟨ad, off, rfl⟩ := HA.out (by omega)
   obtain ⟨q, hq⟩ : ∃ q, q = i / 32 := ⟨_, rfl⟩
   obtain ⟨r, hr⟩ : ∃ r, r = i % 32 := ⟨_, rfl⟩
   rw [← hq] at hqk hx0
   rw [← hr] at hy
   have HX0 := hidd hx0
   have HQK := hidd hqk
   have HQI : Hid ((q : Int) < j1) := by show (q : Int) < j1; omega
   have HBA := hidd hband
   have HR32 : Hid (r < 32) := by show r < 32; omega
   have WQ : Hid (Int.tdiv (i : Int) 32 = (q : Int)) := by show _ = _; rw [Int.tdiv_eq_ediv_of_nonneg (by omega)]; omega
   have WQ3 : Hid (IntKind.i64.wrap (q : Int) = q) := IntWalk.i64_in _ (by have := HJ.out; have := HNB.out; omega)
   have WR : Hid (Int.tmod (i : Int) 32 = (r : Int)) := by show _ = _; rw [Int.tmod_eq_emod_of_nonneg (by omega)]; omega
   have WR3 : Hid (IntKind.i64.wrap (r : Int) = r) := IntWalk.i64_in _ (by omega)
   have WS : Hid (x0 / 2 ^ r = y) := hy
   have WM : Hid (min r 32 = r) := by show _ = _; omega
   have WG : Hid ((0 : Int) ≤ r) := by show (0 : Int) ≤ _; omega
   clear ei hR hS h0 hj hq hr hqk hx0 hy hband
   go_upto_region 3 with (fail)
   refine rg [Fq.is (.int .i64 (i : Int)), yT] N5 [] E (fun hp => ⟨?_, ?_, tv⟩) ?_
   ·exact zAe hp fo tv (sqo 8)
   ·exact zAf (F := fun v _ => v = .int .i64 (i : Int)) hp fo tv (sqi 0) (fun ρ w hc h => ⟨.bool true, by simp [execOp, go_sem, h, hc, TL.out], rfl⟩)
   intro L vs w9 nb hL hC hn E9
   have e0 := wXi hC 0
   have e1 := wXi hC 1
   have E := E9; simp only [LM, zAb] at E
   rw [zAa hL]
   simp only [SP, Nat.zero_add, Nat.reduceAdd]
   rw [e0, e1]
   clear e0 e1 hC hn E9 hL vs L nb
   clear TL
   by_cases he : ¬ e1 = 0
   ·have HD := hidd he
    have HX : Hid (xjP A M P n.natAbs (zAp n) 0 = (S, e1)) := by
     have h9 : xjP A M P n.natAbs (zAp n) i = (S, e1) := by rw [HST.out, HR.out, zCn, if_pos rfl, HS.out, if_neg he]
     show _ = _
     rw [zE4 (j := i) (by have := HJ.out; omega) (by rw [h9]; exact he), h9]
    clear he
    go_upto_region 5 with (fail)
    refine rg [Fq.st [.n A, .n B, .n M], Fq.st [.n R.x, .n R.y, .v (.bool R.i)], Fq.st [.n R.x, .n R.y, .v (.bool R.i)], Fq.tup2 (Fq.st [.n S.x, .n S.y, .v (.bool S.i)]) (Fq.num e1), Fq.st [.n S.x, .n S.y, .v (.bool S.i)], Fq.num e1, Fq.pre fun _ => False, Fq.any] [some (7, Fq.st [.n R.x, .n R.y, .v (.bool R.i)]), none, none, none, none] [] E (fun hp => ⟨?_, ?_, ?_, ?_, ?_, ?_, ?_, ?_, tv⟩) ?_
    ·exact lS 0 6 hp (mq 4 rfl) zAm (sqo 3)
    ·exact zBe (off := 0) (l := 5) hp fo tv (mq 0 rfl) (.inr rfl) rfl zAk rfl (sqo 7) (fun v w h => h)
    ·exact zBe (off := 0) (l := 5) hp fo tv (mq 0 rfl) (.inr rfl) rfl zAk rfl (sqo 7) (fun v w h => h)
    ·exact zBa (F := (Fq.st [.n A, .n B, .n M]).P) (G := (Fq.st [.n R.x, .n R.y, .v (.bool R.i)]).P) (F3 := (Fq.st [.n R.x, .n R.y, .v (.bool R.i)]).P) hp fo tv (zFj) (sqi 0) (sqi 1) (sqi 2) (fun v v' u w h h' g => zFn h h' g hM.out hA.out HRO.out HRO.out HS.out)
    ·exact zA5 hp fo tv (sqi 3) (fun v1 v2 w h1 h2 => ⟨_, rfl, h1⟩)
    ·exact zA5 hp fo tv (sqi 3) (fun v1 v2 w h1 h2 => ⟨_, rfl, h2⟩)
    ·refine zL4 (T := PanN e1) (F := (Fq.st [.n S.x, .n S.y, .v (.bool S.i)]).P) (G := (Fq.num e1).P) hp fo (zHn) (sqi 4) (sqi 5) (fun v v' w h h' => (zKz h h' HD.out).mono fun e w' hh => by obtain ⟨v2, he, hb, hn9⟩ := hh; exact ⟨_, he, hb, v2, rfl, hn9⟩) ?_
     intro L9 vs9 w9 ch w' A9 hG9 hb9 hT9 hdf _ _
     obtain ⟨v2, rfl, hn9⟩ := hT9
     have HE := HT.out
     have hbw := hG9.below.trans (hb9.mono (by have := hG9.below.size; omega))
     refine ⟨hdf, hbw, .inr ⟨by rw [← HE, HX.out]; exact HD.out, v2, rfl, by rw [← HE, HX.out]; exact hn9⟩⟩
    ·exact zDq (off := 0) (fs := [.n R.x, .n R.y, .v (.bool R.i)]) (gs := [.n R.x, .n R.y, .v (.bool R.i)]) (fs' := [.n R.x, .n R.y, .v (.bool R.i)]) hp (mq 0 rfl) rfl rfl rfl zAy rfl (sqo 7) (zB9 6 rfl rfl (by simp) rfl (fun v w h => False.elim h)) (fun _ _ => trivial) (zBw rfl)
    intro L vs w9 nb hL hC hn E9
    exact False.elim (hC 6 (by simp))
   ·replace he : e1 = 0 := by omega
    subst he
    go_upto_region 5 with (fail)
    refine rg [Fq.st [.n A, .n B, .n M], Fq.st [.n R.x, .n R.y, .v (.bool R.i)], Fq.st [.n R.x, .n R.y, .v (.bool R.i)], Fq.tup2 (Fq.st [.n S.x, .n S.y, .v (.bool S.i)]) (Fq.num 0), Fq.st [.n S.x, .n S.y, .v (.bool S.i)], Fq.num 0, Fq.st [.n S.x, .n S.y, .v (.bool S.i)], Fq.any] [some (7, Fq.st [.n S.x, .n S.y, .v (.bool S.i)]), none, none, none, none] [] E (fun hp => ⟨?_, ?_, ?_, ?_, ?_, ?_, ?_, ?_, tv⟩) ?_
    ·exact lS 0 6 hp (mq 4 rfl) zAm (sqo 3)
    ·exact zBe (off := 0) (l := 5) hp fo tv (mq 0 rfl) (.inr rfl) rfl zAk rfl (sqo 7) (fun v w h => h)
    ·exact zBe (off := 0) (l := 5) hp fo tv (mq 0 rfl) (.inr rfl) rfl zAk rfl (sqo 7) (fun v w h => h)
    ·exact zBa (F := (Fq.st [.n A, .n B, .n M]).P) (G := (Fq.st [.n R.x, .n R.y, .v (.bool R.i)]).P) (F3 := (Fq.st [.n R.x, .n R.y, .v (.bool R.i)]).P) hp fo tv (zFj) (sqi 0) (sqi 1) (sqi 2) (fun v v' u w h h' g => zFn h h' g hM.out hA.out HRO.out HRO.out HS.out)
    ·exact zA5 hp fo tv (sqi 3) (fun v1 v2 w h1 h2 => ⟨_, rfl, h1⟩)
    ·exact zA5 hp fo tv (sqi 3) (fun v1 v2 w h1 h2 => ⟨_, rfl, h2⟩)
    ·exact wXb (Fq.st [.n S.x, .n S.y, .v (.bool S.i)]) (Fq.num 0) hp zHn (sqi 4) (sqi 5) fun v v' w h h' => zKy h h' rfl
    ·exact sO 0 6 hp (mq 0 rfl) zAy (sqo 7)
    intro L vs w10 nb hL hC hn E10
    have E := E10; simp only [LM, zAb] at E
    rw [zAa hL]
    simp only [SP, Nat.zero_add, Nat.reduceAdd]
    generalize vs 0 = u10_0
    generalize vs 1 = u10_1
    generalize vs 2 = u10_2
    generalize vs 3 = u10_3
    generalize vs 4 = u10_4
    generalize vs 5 = u10_5
    generalize vs 6 = u10_6
    clear  hC hn E10 hL vs L nb
    by_cases hb : n.natAbs / 2 ^ i % 2 = 1
    ·have TB : Hid (bits .and .u32 y 1 = 1) := by show _ = _; rw [HBA.out, hb]; rfl
     obtain ⟨U, hU⟩ : ∃ U, U = sumP A M S P := ⟨_, rfl⟩
     obtain ⟨U, e2⟩ := U
     have HUO : Hid (U.Ok M) := by have := zDr (A := A) HSO.out HP.out; rw [← hU] at this; exact this
     have HU := hidd hU.symm
     have HXI : Hid (xjP A M P n.natAbs (zAp n) i = (U, e2)) := by show _ = _; rw [HST.out, HR.out, zCn, if_pos rfl, HS.out, if_pos rfl, decide_eq_true hb, if_pos rfl, HU.out]
     clear hU hb
     go_upto_region 6 with (fail)
     refine rg [ip b2 1, Fq.is (.slice (some ⟨ad, off, none⟩) j1 cc1), Fq.is (.int .i64 (i : Int)), Fq.is (.int .i64 (q : Int)), Fq.is (.pointer (some ⟨ad, off + q, none⟩)), Fq.is (.int .u32 x0), Fq.is (.int .i64 (i : Int)), Fq.is (.int .i64 (r : Int)), Fq.is (.int .u32 y), Fq.is (.int .u32 1), yT] N5 [] E (fun hp => ⟨?_, ?_, ?_, ?_, ?_, ?_, ?_, ?_, ?_, ?_, ?_, tv⟩) ?_
     ·exact qa b2 0 1 hp (sqo 4)
     ·exact zFz (off := 1) (v := .slice (some ⟨ad, off, none⟩) j1 cc1) hp fo tv (mq 3 rfl) (.inl rfl) (Nat.le_of_ble_eq_true rfl) (sqi 0) (fun us w hl h => ⟨zFr hl h, rfl⟩)
     ·exact zAe hp fo tv (sqo 8)
     ·exact zAf (F := fun v _ => v = .int .i64 (i : Int)) hp fo tv (sqi 2) (fun ρ w hc h => ⟨.int .i64 (q : Int), by simp [execOp, go_sem, h, hc, WQ.out, WQ3.out], rfl⟩)
     ·exact zAi (F := fun v _ => v = .slice (some ⟨ad, off, none⟩) j1 cc1) (G := fun v _ => v = .int .i64 (q : Int)) hp fo tv (sqi 1) (sqi 3) (fun ρ w hc h h' => ⟨.pointer (some ⟨ad, off + q, none⟩), by simp [execOp, go_sem, h, h', hc, HQI.out], rfl⟩)
     ·exact zF1 (bx := b2) (x0 := x0) hp fo tv (mq 3 rfl) (.inl rfl) (sqi 4) (fun us w hl h => zFs HQK.out HX0.out h) (fun _ => rfl)
     ·exact zAe hp fo tv (sqo 8)
     ·exact zAf (F := fun v _ => v = .int .i64 (i : Int)) hp fo tv (sqi 6) (fun ρ w hc h => ⟨.int .i64 (r : Int), by simp [execOp, go_sem, h, hc, WR.out], rfl⟩)
     ·exact zAi (F := fun v _ => v = .int .u32 x0) (G := fun v _ => v = .int .i64 (r : Int)) hp fo tv (sqi 5) (sqi 7) (fun ρ w hc h h' => ⟨.int .u32 y, by simp [execOp, go_sem, h, h', WG.out, WS.out, WM.out], rfl⟩)
     ·exact zAf (F := fun v _ => v = .int .u32 y) hp fo tv (sqi 8) (fun ρ w hc h => ⟨.int .u32 1, by simp [execOp, go_sem, h, hc, TB.out], rfl⟩)
     ·exact zAf (F := fun v _ => v = .int .u32 1) hp fo tv (sqi 9) (fun ρ w hc h => ⟨.bool true, by simp [execOp, go_sem, h, hc], rfl⟩)
     intro L vs w11 nb hL hC hn E11
     have e0 := wXi hC 0
     have e1 := wXi hC 1
     have e2 := wXi hC 2
     have e3 := wXi hC 3
     have e4 := wXi hC 4
     have e5 := wXi hC 5
     have e6 := wXi hC 6
     have e7 := wXi hC 7
     have e8 := wXi hC 8
     have e9 := wXi hC 9
     have e10 := wXi hC 10
     have E := E11; simp only [LM, zAb] at E
     rw [zAa hL]
     simp only [SP, Nat.zero_add, Nat.reduceAdd]
     rw [e0, e1, e2, e3, e4, e5, e6, e7, e8, e9, e10]
     clear e0 e1 e2 e3 e4 e5 e6 e7 e8 e9 e10 hC hn E11 hL vs L nb
     clear TB HX0 HQK HQI HBA HR32 WQ WQ3 WR WR3 WS WM WG
     by_cases he : ¬ e2 = 0
     ·have HD := hidd he
      have HX : Hid (xjP A M P n.natAbs (zAp n) 0 = (U, e2)) := by
       show _ = _
       rw [zE4 (j := i) (by have := HJ.out; omega) (by rw [HXI.out]; exact he), HXI.out]
      clear he
      go_upto_region 7 with (fail)
      refine rg [Fq.st [.n A, .n B, .n M], Fq.st [.n S.x, .n S.y, .v (.bool S.i)], Fq.st [.n P.x, .n P.y, .v (.bool P.i)], Fq.tup2 (Fq.st [.n U.x, .n U.y, .v (.bool U.i)]) (Fq.num e2), Fq.st [.n U.x, .n U.y, .v (.bool U.i)], Fq.num e2, Fq.pre fun _ => False, Fq.any] [some (7, Fq.st [.n S.x, .n S.y, .v (.bool S.i)]), none, none, none, none] [] E (fun hp => ⟨?_, ?_, ?_, ?_, ?_, ?_, ?_, ?_, tv⟩) ?_
      ·exact lS 0 6 hp (mq 4 rfl) zAm (sqo 3)
      ·exact zBe (off := 0) (l := 5) hp fo tv (mq 0 rfl) (.inr rfl) rfl zAk rfl (sqo 7) (fun v w h => h)
      ·exact lS 0 5 hp (mq 2 rfl) zAk (sqo 5)
      ·exact zBa (F := (Fq.st [.n A, .n B, .n M]).P) (G := (Fq.st [.n S.x, .n S.y, .v (.bool S.i)]).P) (F3 := (Fq.st [.n P.x, .n P.y, .v (.bool P.i)]).P) hp fo tv (zFj) (sqi 0) (sqi 1) (sqi 2) (fun v v' u w h h' g => zFn h h' g hM.out hA.out HSO.out HP.out HU.out)
      ·exact zA5 hp fo tv (sqi 3) (fun v1 v2 w h1 h2 => ⟨_, rfl, h1⟩)
      ·exact zA5 hp fo tv (sqi 3) (fun v1 v2 w h1 h2 => ⟨_, rfl, h2⟩)
      ·refine zL4 (T := PanN e2) (F := (Fq.st [.n U.x, .n U.y, .v (.bool U.i)]).P) (G := (Fq.num e2).P) hp fo (zHn) (sqi 4) (sqi 5) (fun v v' w h h' => (zKz h h' HD.out).mono fun e w' hh => by obtain ⟨v2, he, hb, hn9⟩ := hh; exact ⟨_, he, hb, v2, rfl, hn9⟩) ?_
       intro L9 vs9 w9 ch w' A9 hG9 hb9 hT9 hdf _ _
       obtain ⟨v2, rfl, hn9⟩ := hT9
       have HE := HT.out
       have hbw := hG9.below.trans (hb9.mono (by have := hG9.below.size; omega))
       refine ⟨hdf, hbw, .inr ⟨by rw [← HE, HX.out]; exact HD.out, v2, rfl, by rw [← HE, HX.out]; exact hn9⟩⟩
      ·exact zDq (off := 0) (fs := [.n S.x, .n S.y, .v (.bool S.i)]) (gs := [.n S.x, .n S.y, .v (.bool S.i)]) (fs' := [.n S.x, .n S.y, .v (.bool S.i)]) hp (mq 0 rfl) rfl rfl rfl zAy rfl (sqo 7) (zB9 6 rfl rfl (by simp) rfl (fun v w h => False.elim h)) (fun _ _ => trivial) (zBw rfl)
      intro L vs w9 nb hL hC hn E9
      exact False.elim (hC 6 (by simp))
     ·replace he : e2 = 0 := by omega
      subst he
      go_upto_region 7 with (fail)
      refine rg [Fq.st [.n A, .n B, .n M], Fq.st [.n S.x, .n S.y, .v (.bool S.i)], Fq.st [.n P.x, .n P.y, .v (.bool P.i)], Fq.tup2 (Fq.st [.n U.x, .n U.y, .v (.bool U.i)]) (Fq.num 0), Fq.st [.n U.x, .n U.y, .v (.bool U.i)], Fq.num 0, Fq.st [.n U.x, .n U.y, .v (.bool U.i)], Fq.any] [some (7, Fq.st [.n U.x, .n U.y, .v (.bool U.i)]), none, none, none, none] [] E (fun hp => ⟨?_, ?_, ?_, ?_, ?_, ?_, ?_, ?_, tv⟩) ?_
      ·exact lS 0 6 hp (mq 4 rfl) zAm (sqo 3)
      ·exact zBe (off := 0) (l := 5) hp fo tv (mq 0 rfl) (.inr rfl) rfl zAk rfl (sqo 7) (fun v w h => h)
      ·exact lS 0 5 hp (mq 2 rfl) zAk (sqo 5)
      ·exact zBa (F := (Fq.st [.n A, .n B, .n M]).P) (G := (Fq.st [.n S.x, .n S.y, .v (.bool S.i)]).P) (F3 := (Fq.st [.n P.x, .n P.y, .v (.bool P.i)]).P) hp fo tv (zFj) (sqi 0) (sqi 1) (sqi 2) (fun v v' u w h h' g => zFn h h' g hM.out hA.out HSO.out HP.out HU.out)
      ·exact zA5 hp fo tv (sqi 3) (fun v1 v2 w h1 h2 => ⟨_, rfl, h1⟩)
      ·exact zA5 hp fo tv (sqi 3) (fun v1 v2 w h1 h2 => ⟨_, rfl, h2⟩)
      ·exact wXb (Fq.st [.n U.x, .n U.y, .v (.bool U.i)]) (Fq.num 0) hp zHn (sqi 4) (sqi 5) fun v v' w h h' => zKy h h' rfl
      ·exact sO 0 6 hp (mq 0 rfl) zAy (sqo 7)
      intro L vs w12 nb hL hC hn E12
      have E := E12; simp only [LM, zAb] at E
      rw [zAa hL]
      simp only [SP, Nat.zero_add, Nat.reduceAdd]
      generalize vs 0 = u12_0
      generalize vs 1 = u12_1
      generalize vs 2 = u12_2
      generalize vs 3 = u12_3
      generalize vs 4 = u12_4
      generalize vs 5 = u12_5
      generalize vs 6 = u12_6
      clear  hC hn E12 hL vs L nb
      have HZ := HXI.out
      replace HZ := hidd HZ
      go_wp2
      go_roundw
      case rel => exact ⟨i, U, by have := HJ.out; omega, by first | go_num | (rw [hw]; go_num), HZ.out, E⟩
      case measure => first | exact zC5 | (rw [hw]; exact zC5)
    ·have TB : Hid (bits .and .u32 y 1 = 0) := by show _ = _; rw [HBA.out, show n.natAbs / 2 ^ i % 2 = 0 by omega]; rfl
     have HXI : Hid (xjP A M P n.natAbs (zAp n) i = (S, 0)) := by show _ = _; rw [HST.out, HR.out, zCn, if_pos rfl, HS.out, if_pos rfl, decide_eq_false hb]; rfl
     clear hb
     go_upto_region 6 with (fail)
     refine rg [ip b2 1, Fq.is (.slice (some ⟨ad, off, none⟩) j1 cc1), Fq.is (.int .i64 (i : Int)), Fq.is (.int .i64 (q : Int)), Fq.is (.pointer (some ⟨ad, off + q, none⟩)), Fq.is (.int .u32 x0), Fq.is (.int .i64 (i : Int)), Fq.is (.int .i64 (r : Int)), Fq.is (.int .u32 y), Fq.is (.int .u32 0), yF] N5 [] E (fun hp => ⟨?_, ?_, ?_, ?_, ?_, ?_, ?_, ?_, ?_, ?_, ?_, tv⟩) ?_
     ·exact qa b2 0 1 hp (sqo 4)
     ·exact zFz (off := 1) (v := .slice (some ⟨ad, off, none⟩) j1 cc1) hp fo tv (mq 3 rfl) (.inl rfl) (Nat.le_of_ble_eq_true rfl) (sqi 0) (fun us w hl h => ⟨zFr hl h, rfl⟩)
     ·exact zAe hp fo tv (sqo 8)
     ·exact zAf (F := fun v _ => v = .int .i64 (i : Int)) hp fo tv (sqi 2) (fun ρ w hc h => ⟨.int .i64 (q : Int), by simp [execOp, go_sem, h, hc, WQ.out, WQ3.out], rfl⟩)
     ·exact zAi (F := fun v _ => v = .slice (some ⟨ad, off, none⟩) j1 cc1) (G := fun v _ => v = .int .i64 (q : Int)) hp fo tv (sqi 1) (sqi 3) (fun ρ w hc h h' => ⟨.pointer (some ⟨ad, off + q, none⟩), by simp [execOp, go_sem, h, h', hc, HQI.out], rfl⟩)
     ·exact zF1 (bx := b2) (x0 := x0) hp fo tv (mq 3 rfl) (.inl rfl) (sqi 4) (fun us w hl h => zFs HQK.out HX0.out h) (fun _ => rfl)
     ·exact zAe hp fo tv (sqo 8)
     ·exact zAf (F := fun v _ => v = .int .i64 (i : Int)) hp fo tv (sqi 6) (fun ρ w hc h => ⟨.int .i64 (r : Int), by simp [execOp, go_sem, h, hc, WR.out], rfl⟩)
     ·exact zAi (F := fun v _ => v = .int .u32 x0) (G := fun v _ => v = .int .i64 (r : Int)) hp fo tv (sqi 5) (sqi 7) (fun ρ w hc h h' => ⟨.int .u32 y, by simp [execOp, go_sem, h, h', WG.out, WS.out, WM.out], rfl⟩)
     ·exact zAf (F := fun v _ => v = .int .u32 y) hp fo tv (sqi 8) (fun ρ w hc h => ⟨.int .u32 0, by simp [execOp, go_sem, h, hc, TB.out], rfl⟩)
     ·exact zAf (F := fun v _ => v = .int .u32 0) hp fo tv (sqi 9) (fun ρ w hc h => ⟨.bool false, by simp [execOp, go_sem, h, hc], rfl⟩)
     intro L vs w13 nb hL hC hn E13
     have e0 := wXi hC 0
     have e1 := wXi hC 1
     have e2 := wXi hC 2
     have e3 := wXi hC 3
     have e4 := wXi hC 4
     have e5 := wXi hC 5
     have e6 := wXi hC 6
     have e7 := wXi hC 7
     have e8 := wXi hC 8
     have e9 := wXi hC 9
     have e10 := wXi hC 10
     have E := E13; simp only [LM, zAb] at E
     rw [zAa hL]
     simp only [SP, Nat.zero_add, Nat.reduceAdd]
     rw [e0, e1, e2, e3, e4, e5, e6, e7, e8, e9, e10]
     clear e0 e1 e2 e3 e4 e5 e6 e7 e8 e9 e10 hC hn E13 hL vs L nb
     clear TB HX0 HQK HQI HBA HR32 WQ WQ3 WR WR3 WS WM WG
     have HZ := HXI.out
     replace HZ := hidd HZ
     go_wp2
     go_roundw
     case rel => exact ⟨i, S, by have := HJ.out; omega, by first | go_num | (rw [hw]; go_num), HZ.out, E⟩
     case measure => first | exact zC5 | (rw [hw]; exact zC5)

theorem Fr.store {w0 W : World} {bs : List (Nat × Nat × Fq)} (E : Fr w0 bs W) (k : Nat) {b m : Nat} {F F' : Fq} (hk : bs[k]? = some (b, m, F)) {us : List Value} (hl : us.length = m) (ht : Tame us) (hF : F'.P (.agg us.toArray) W) : Fr w0 (bs.set k (b, m, F')) (putFrom W b 0 us) := by
 have hm := List.mem_of_getElem? hk
 have hkl : k < bs.length := (List.getElem?_eq_some_iff.1 hk).1
 have hap : ∀ i, i < bs.length → i ≠ k → ∀ y, bs[i]? = some y → y.1 ≠ b := by
  intro i hi hne y hy e
  have h1 := E.apart
  rw [List.nodup_iff_pairwise_ne, List.pairwise_map, List.pairwise_iff_getElem] at h1
  have hy' := (List.getElem?_eq_some_iff.1 hy).2
  have hk' := (List.getElem?_eq_some_iff.1 hk).2
  rcases Nat.lt_or_gt_of_ne hne with h | h
  ·have := h1 i k hi hkl h
   rw [hy', hk'] at this
   exact this e
  ·have := h1 k i hkl hi h
   rw [hy', hk'] at this
   exact this e.symm
 refine ⟨zGz (E.boxes _ hm).1 us 0 _ _ E.below, fun x hx => ?_, ?_⟩
 ·obtain ⟨i, hi, e⟩ := List.mem_iff_getElem.1 hx
  rw [List.getElem_set] at e
  split at e
  ·subst e
   exact ⟨(E.boxes _ hm).1, (E.boxes _ hm).2.same hl ht hF⟩
  ·rename_i hne
   have hi' : i < bs.length := by simpa using hi
   have hx' : bs[i]? = some x := by rw [List.getElem?_eq_getElem hi', e]
   have hxm := List.mem_of_getElem? hx'
   exact ⟨(E.boxes _ hxm).1, (E.boxes _ hxm).2.other (E.boxes _ hm).2 (hap i hi' (fun h => hne h.symm) x hx') hl⟩
 ·have e : (bs.set k (b, m, F')).map (·.1) = bs.map (·.1) := by
   apply List.ext_getElem?
   intro i
   rw [List.getElem?_map, List.getElem?_map, List.getElem?_set]
   split
   ·rename_i h
    subst h
    simp [hkl]
    exact (congrArg (·.1) (List.getElem?_eq_some_iff.1 hk).2).symm
   ·rfl
  rw [e]
  exact E.apart
theorem oldOf_of {bs : List (Nat × Nat × Fq)} {ks : List (Option (Nat × Fq))} {d : Nat} (hl : ks.length = bs.length) : ∀ x ∈ bs, ∃ o ∈ zA6 bs ks d, o.b = x.1 ∧ o.m = x.2.1 ∧ o.F0 = x.2.2 := by
 induction bs generalizing ks d with
 | nil => intro x hx; simp at hx
 | cons y r ih =>
  obtain ⟨b, m, F⟩ := y
  cases ks with
  | nil => simp at hl
  | cons k ks =>
   have hl' : ks.length = r.length := by simpa using hl
   intro x hx
   rcases List.mem_cons.1 hx with rfl | hx
   ·cases k with
    | none => exact ⟨_, by simp only [zA6]; exact List.mem_cons_self .., rfl, rfl, rfl⟩
    | some kk => obtain ⟨k, F1⟩ := kk; exact ⟨_, by simp only [zA6]; exact List.mem_cons_self .., rfl, rfl, rfl⟩
   ·cases k with
    | none => obtain ⟨o, ho, h⟩ := ih (ks := ks) hl' x hx; exact ⟨o, by simp only [zA6]; exact List.mem_cons_of_mem _ ho, h⟩
    | some kk => obtain ⟨k, F1⟩ := kk; obtain ⟨o, ho, h⟩ := ih (ks := ks) hl' x hx; exact ⟨o, by simp only [zA6]; exact List.mem_cons_of_mem _ ho, h⟩
theorem fr_of_G {w0 W w : World} {C : List Fq} {bs : List (Nat × Nat × Fq)} {ks : List (Option (Nat × Fq))} {new : List Nb} {len : Nat} {L : Nat → Bool} {vs : Nat → Value} (E : Fr w0 bs W) (hG : (plq C bs ks new len).G w0.heap.size W.heap.size w0 L vs w) (hl : ks.length = bs.length) (hs : ∀ o ∈ (plq C bs ks new len).old, o.F1 = o.F0) : Fr w0 bs w := by
 refine ⟨hG.below, fun x hx => ?_, E.apart⟩
 obtain ⟨o, ho, h1, h2, h3⟩ := oldOf_of (d := len) hl x hx
 have hB := hG.old o ho
 rw [hs o ho, ite_self, h1, h2, h3] at hB
 exact ⟨(E.boxes x hx).1, hB⟩
theorem Fr.later {w0 W W' : World} {bs : List (Nat × Nat × Fq)} (E : Fr w0 bs W) (hb : Below W.heap.size W W') : Fr w0 bs W' := ⟨E.below.trans (hb.mono E.below.size), fun x hx => ⟨(E.boxes x hx).1, (E.boxes x hx).2.mono hb⟩, E.apart⟩

theorem ta_int (X : TypeId) (v : Value) (w : World) : (Instr.typeAssert (.iface 32 v) X 32 true).run Tryz.prog w = .ok (.tuple #[v, .bool true]) w := by
 simp [Instr.typeAssert, go_sem]
set_option maxRecDepth 20000 in
theorem zMl (bd be : Nat) (n : Bool) (ao : Option Addr) (k c : Nat) (older : List PanicEntry) (w : World) (hne : bd ≠ be) {x0 y0 e0 : Value} (h0 : w.cell? ⟨bd, 0, none⟩ = some x0) (h1 : w.cell? ⟨bd, 1, none⟩ = some y0) (h2 : w.cell? ⟨be, 0, none⟩ = some e0) (f0 : w.frozen? ⟨bd, 0, none⟩ = false) (f1 : w.frozen? ⟨bd, 1, none⟩ = false) (f2 : w.frozen? ⟨be, 0, none⟩ = false) :
  CallsD Tryz.prog 60 #[.pointer (some ⟨bd, 0, none⟩), .pointer (some ⟨be, 0, none⟩)] (.panicking ({ v := .iface 32 (.agg #[.bool n, .slice ao k c]), recovered := false } :: older)) w fun e u' w' =>
   e = .returned (.tuple #[]) ∧ u' = .panicking ({ v := .iface 32 (.agg #[.bool n, .slice ao k c]), recovered := true } :: older) ∧ w' = putFrom (putFrom w bd 0 [.bool n, .slice ao k c]) be 0 [.int .i64 6] := by
 refine callsD_of_wpS Tryz.func60 rfl fun c₀ cs hu => ?_
 apply wpS_seq
 apply wpS_region
 simp [wpOpsS, go_sem, recoverD, hu, Tryz.ntmps60, Exit.thenS]
 apply wpS_seq
 apply wpS_region
 simp [wpOpsS, go_sem, Exit.thenS]
 refine wpS_cond (t := true) (by simp [Act.eval, Array.replicate]) ?_
 simp only [if_true]
 refine wpS_of_wp ?_
 have hta := fun X => ta_int X (.agg #[.bool n, .slice ao k c]) w
 simp only [Array.replicate, List.replicate]
 go_wp2
 simp [bodyPostS, results, Tryz.results60, putFrom]
set_option maxRecDepth 20000 in
theorem zMm (bd be : Nat) (w : World) :
  CallsD Tryz.prog 60 #[.pointer (some ⟨bd, 0, none⟩), .pointer (some ⟨be, 0, none⟩)] .returning w fun e u' w' => e = .returned (.tuple #[]) ∧ u' = .returning ∧ w' = w := by
 refine callsD_of_wpS Tryz.func60 rfl fun c₀ cs hu => ?_
 apply wpS_seq
 apply wpS_region
 simp [wpOpsS, go_sem, recoverD, hu, Tryz.ntmps60, Exit.thenS]
 apply wpS_seq
 apply wpS_region
 simp [wpOpsS, go_sem, Exit.thenS]
 refine wpS_cond (t := false) (by simp [Act.eval, Array.replicate]) ?_
 simp only [Bool.false_eq_true, if_false]
 refine wpS_of_wp (wp_skip ?_)
 cases c₀
 simp_all [bodyPostS, results, Tryz.results60]
theorem zFo (w : World) : Fits w [.v (.int .i64 0)] [.int .i64 0] := ⟨_, rfl, rfl, rfl⟩
theorem zPc (w : World) : (Fq.st [.v (.int .i64 0)]).P (.agg ([.int .i64 0] : List Value).toArray) w := ⟨_, rfl, zFo w⟩
noncomputable def zCj (A M : Int) (P : Pt) (n : Int) : Pt × Int := xjP A M (if n < 0 then oppP M P else P) n.natAbs (zAp n) 0
theorem zJb {M : Int} {P : Pt} (hP : P.Ok M) : (oppP M P).Ok M := by
 have h0 : 0 < M := by have := hP.1; have := hP.2.1; omega
 unfold oppP
 split
 ·exact ⟨by show (0 : Int) ≤ 0; omega, h0, by show (0 : Int) ≤ 0; omega, h0⟩
 ·exact ⟨hP.1, hP.2.1, Int.emod_nonneg _ (by omega), Int.emod_lt_of_pos _ h0⟩
theorem zH0 (fn : Fn) (first cap : Array Value) (w : World) : (Instr.makeFunc fn first cap).run Tryz.prog w = .ok (.func fn first cap) w := rfl
theorem zFe {w : World} {b m : Nat} {F : Fq} (h : Bq w b m F) (j : Nat) (hj : j < m) : w.frozen? ⟨b, j, none⟩ = false := by
 obtain ⟨us, h1, _, h3, _⟩ := h
 exact (h3 j (by omega)).2
set_option maxRecDepth 20000 in
theorem zMn {A9 : Act} {w : World} {b6 b7 b8 : Nat} {p0 p1 p2 p3 p4 d0 d1 q0 : Value} (t6 : A9.eval (.tmp 6) = .pointer (some ⟨b6, 0, none⟩)) (t7 : A9.eval (.tmp 7) = .pointer (some ⟨b7, 0, none⟩)) (t8 : A9.eval (.tmp 8) = .pointer (some ⟨b8, 0, none⟩))
  (c0 : w.cell? ⟨b6, 0, none⟩ = some p0) (c1 : w.cell? ⟨b6, 1, none⟩ = some p1) (c2 : w.cell? ⟨b6, 2, none⟩ = some p2) (c3 : w.cell? ⟨b6, 3, none⟩ = some p3) (c4 : w.cell? ⟨b6, 4, none⟩ = some p4) (e0 : w.cell? ⟨b7, 0, none⟩ = some d0) (e1 : w.cell? ⟨b7, 1, none⟩ = some d1) (g0 : w.cell? ⟨b8, 0, none⟩ = some q0) :
  (results Tryz.f35 A9.tmps).run Tryz.prog w = .ok (.tuple #[.agg #[p0, p1, p2, p3, p4], .agg #[d0, d1], q0]) w := by
 simp [Act.eval] at t6 t7 t8
 simp [results, Tryz.results35, go_sem, t6, t7, t8, c0, c1, c2, c3, c4, e0, e1, g0]
set_option maxRecDepth 100000 in
set_option maxHeartbeats 4000000 in
theorem exTimesE {w : World} {v v' u : Value} {A B M n : Int} {P : Pt} (h : (Fq.st [.n A, .n B, .n M]).P v w) (h' : Num w v' n) (g : (Fq.pt P).P u w) (hM : ab M < pw 5) (hA : ab A < pw 5) (hB : ab B < pw 5) (hn : ab n < pw 20) (hP : ab P.x < pw 5 ∧ ab P.y < pw 5) (ht : onB A B M P.x P.y P.i = false) :
  Calls Tryz.prog 35 #[v, v', u] w fun e w' => ∃ v', e = .returned v' ∧ Below w.heap.size w w' ∧ (Fq.tup3 (Fq.pt ⟨0, 0, false⟩) (Fq.num 0) (Fq.is (.int .i64 1))).P v' w' := by
 replace hM := hidd hM
 replace hA := hidd hA
 replace hB := hidd hB
 replace hn := hidd hn
 replace hP := hidd hP
 replace ht := hidd ht
 obtain ⟨_, rfl, hf0⟩ := h
 have hF0 := hf0
 obtain ⟨y0_p0, y0_q0, _, rfl, _y0_n0, y0_p1, y0_q1, _, rfl, _y0_n1, y0_p2, y0_q2, _, rfl, _y0_n2, rfl⟩ := hf0
 obtain ⟨n1, ao1, k1, c1, rfl⟩ := h'.parts
 obtain ⟨_, rfl, hf2⟩ := g
 have hF2 := hf2
 obtain ⟨y2_p0, y2_q0, _, rfl, _y2_n0, y2_p1, y2_q1, _, rfl, _y2_n1, _, rfl, _, rfl⟩ := hf2
 obtain ⟨w1, b1, hw1, hb1, hs1, E⟩ := gS w 34 hF0
 obtain ⟨w2, b2, hw2, hb2, hs2, E⟩ := fN E hs1 32 h'
 obtain ⟨w3, b3, hw3, hb3, hs3, E⟩ := fS E hs2 36 hF2
 obtain ⟨w4, b4, hw4, hb4, hs4, E⟩ := fO E hs3 36 zA1
 obtain ⟨w5, b5, hw5, hb5, hs5, E⟩ := fZ E hs4 32
 obtain ⟨w6, b6, hw6, hb6, hs6, E⟩ := fO E hs5 42 zFo
 go_enter_defers Tryz.func35, Tryz.ntmps35
 go_upto_region 1 with (fail)
 rw [← hw1]
 rw [← hw2]
 rw [← hw3]
 rw [← hw4]
 rw [← hw5]
 rw [← hw6]
 rw [← hb6]
 rw [← hb5]
 rw [← hb4]
 rw [← hb3]
 rw [← hb2]
 rw [← hb1]
 clear hw1 hw2 hw3 hw4 hw5 hw6 hb1 hb2 hb3 hb4 hb5 hb6 hs6 hs1 hs2 hs3 hs4 hs5
 refine rg [Fq.st [.n A, .n B, .n M], Fq.st [.n P.x, .n P.y, .v (.bool P.i)], yF, yT] N6 [] E (fun hp => ⟨?_, ?_, ?_, ?_, tv⟩) ?_
 ·exact lS 0 6 hp (mq 5 rfl) zAm (sqo 3)
 ·exact lS 0 5 hp (mq 3 rfl) zAk (sqo 5)
 ·exact wXb (Fq.st [.n A, .n B, .n M]) (Fq.st [.n P.x, .n P.y, .v (.bool P.i)]) hp zB3 (sqi 0) (sqi 1) fun v v' w h h' => exOn h h' hM.out hA.out hB.out hP.out.1 hP.out.2 ht.out
 ·exact zAf (F := fun v _ => v = .bool false) hp fo tv (sqi 2) (fun ρ w _ h => ⟨.bool true, by simp [execOp, go_sem, h], rfl⟩)
 intro L vs w7 nb hL hC hn E7
 have e2 := wXi hC 2
 have e3 := wXi hC 3
 have E := E7; simp only [LM, zAb] at E
 rw [zAa hL]
 simp only [SP, Nat.zero_add, Nat.reduceAdd]
 rw [e2, e3]
 generalize vs 0 = u7_0
 generalize vs 1 = u7_1
 clear e2 e3 hC hn E7 hL vs L nb
 go_upto_region 2 with (fail)
 refine rg [Fq.st [.n 0, .n 0, .v (.bool false)], Fq.num 0, Fq.any, Fq.any, Fq.any] [some (4, Fq.st [.v (.int .i64 1)]), some (3, Fq.num 0), some (2, Fq.st [.n 0, .n 0, .v (.bool false)]), none, none, none] [] E (fun hp => ⟨?_, ?_, ?_, ?_, ?_, tv⟩) ?_
 ·exact zEy hp fo tv (fun v w h => h)
 ·exact zCx hp fo tv (fun w => Num.zero w)
 ·exact sO 0 0 hp (mq 2 rfl) zAy (sqo 6)
 ·exact sP 1 hp (mq 1 rfl) (sqo 7)
 ·exact zDq (off := 0) (fs := [.v (.int .i64 0)]) (gs := [.v (.int .i64 1)]) (fs' := [.v (.int .i64 1)]) hp (mq 0 rfl) rfl rfl rfl zG2 rfl (sqo 8) (zAl (fun _ => zGo rfl rfl)) (fun _ _ => trivial) (zBw rfl)
 intro L vs w8 nb hL hC hn E8
 have E := E8; simp only [LM, zAb] at E
 rw [zAa hL]
 simp only [SP, Nat.zero_add, Nat.reduceAdd]
 generalize vs 0 = u8_0
 generalize vs 1 = u8_1
 clear  hC hn E8 hL vs L nb
 obtain ⟨_, _, hcr, hfr⟩ := zAu (E.box 2 rfl)
 have hRr := hfr
 obtain ⟨r_p0, r_q0, _, rfl, _r_n0, r_p1, r_q1, _, rfl, _r_n1, _, rfl, _, rfl⟩ := hfr
 have cr0 := hcr 0 (by simp)
 have cr1 := hcr 1 (by simp)
 have cr2 := hcr 2 (by simp)
 have cr3 := hcr 3 (by simp)
 have cr4 := hcr 4 (by simp)
 simp only [List.getD_cons_zero, List.getD_cons_succ] at cr0 cr1 cr2 cr3 cr4
 clear hcr
 obtain ⟨d0, d1, e0, e1, hD⟩ := zBd (E.box 1 rfl)
 obtain ⟨_, _, hcq, hfq⟩ := zAu (E.box 0 rfl)
 have hRq := hfq
 obtain ⟨_, rfl, _, rfl⟩ := hfq
 have cq0 := hcq 0 (by simp)
 simp only [List.getD_cons_zero] at cq0
 clear hcq
 clear hM hA hB hn hP
 clear ht
 go_wp2
 simp only [bodyPostD, Leaves]
 refine ⟨.tuple #[.agg #[r_p0, r_q0, r_p1, r_q1, .bool false], .agg #[d0, d1], .int .i64 1], ?_, _, rfl, E.below, _, _, _, rfl, ⟨_, rfl, hRr⟩, hD, rfl⟩
 simp [results, Tryz.results35, go_sem, cr0, cr1, cr2, cr3, cr4, e0, e1, cq0]

set_option maxRecDepth 100000 in
set_option maxHeartbeats 4000000 in
theorem exTimes00 {w : World} {v v' u : Value} {A B M n : Int} {P : Pt} (h : (Fq.st [.n A, .n B, .n M]).P v w) (h' : Num w v' n) (g : (Fq.pt P).P u w) (hM : ab M < pw 5) (hA : ab A < pw 5) (hB : ab B < pw 5) (hn : ab n < pw 20) (hP : ab P.x < pw 5 ∧ ab P.y < pw 5) (ht : onB A B M P.x P.y P.i = true) {T : Pt × Int} (hT : zCj A M P n = T) (hneg : ¬ n < 0) (hd :  T.2 = 0) :
  Calls Tryz.prog 35 #[v, v', u] w fun e w' => ∃ v', e = .returned v' ∧ Below w.heap.size w w' ∧ (Fq.tup3 (Fq.pt T.1) (Fq.num 0) (Fq.is (.int .i64 0))).P v' w' := by
 replace hM := hidd hM
 replace hA := hidd hA
 replace hB := hidd hB
 replace hn := hidd hn
 replace hP := hidd hP
 replace ht := hidd ht
 obtain ⟨T, dT⟩ := T
 have HPO := hidd (zCt ht.out).1
 have T1 : Hid (¬ cmpI n 0 < 0) := fun e => hneg (cmpIqlt.1 e)
 unfold zCj at hT
 rw [if_neg hneg] at hT
 have HT := hidd hT
 clear hneg hT
 have hd0 : dT = 0 := hd
 subst hd0
 clear hd
 obtain ⟨_, rfl, hf0⟩ := h
 have hF0 := hf0
 obtain ⟨y0_p0, y0_q0, _, rfl, _y0_n0, y0_p1, y0_q1, _, rfl, _y0_n1, y0_p2, y0_q2, _, rfl, _y0_n2, rfl⟩ := hf0
 obtain ⟨n1, ao1, k1, c1, rfl⟩ := h'.parts
 obtain ⟨_, rfl, hf2⟩ := g
 have hF2 := hf2
 obtain ⟨y2_p0, y2_q0, _, rfl, _y2_n0, y2_p1, y2_q1, _, rfl, _y2_n1, _, rfl, _, rfl⟩ := hf2
 obtain ⟨w1, b1, hw1, hb1, hs1, E⟩ := gS w 34 hF0
 obtain ⟨w2, b2, hw2, hb2, hs2, E⟩ := fN E hs1 32 h'
 obtain ⟨w3, b3, hw3, hb3, hs3, E⟩ := fS E hs2 36 hF2
 obtain ⟨w4, b4, hw4, hb4, hs4, E⟩ := fO E hs3 36 zA1
 obtain ⟨w5, b5, hw5, hb5, hs5, E⟩ := fZ E hs4 32
 obtain ⟨w6, b6, hw6, hb6, hs6, E⟩ := fO E hs5 42 zFo
 go_enter_defers Tryz.func35, Tryz.ntmps35
 go_upto_region 1 with (fail)
 rw [← hw1]
 rw [← hw2]
 rw [← hw3]
 rw [← hw4]
 rw [← hw5]
 rw [← hw6]
 rw [← hb6]
 rw [← hb5]
 rw [← hb4]
 rw [← hb3]
 rw [← hb2]
 rw [← hb1]
 clear hw1 hw2 hw3 hw4 hw5 hw6 hb1 hb2 hb3 hb4 hb5 hb6 hs6 hs1 hs2 hs3 hs4 hs5
 refine rg [Fq.st [.n A, .n B, .n M], Fq.st [.n P.x, .n P.y, .v (.bool P.i)], yT, yF] N6 [] E (fun hp => ⟨?_, ?_, ?_, ?_, tv⟩) ?_
 ·exact lS 0 6 hp (mq 5 rfl) zAm (sqo 3)
 ·exact lS 0 5 hp (mq 3 rfl) zAk (sqo 5)
 ·exact wXb (Fq.st [.n A, .n B, .n M]) (Fq.st [.n P.x, .n P.y, .v (.bool P.i)]) hp zB3 (sqi 0) (sqi 1) fun v v' w h h' => exOn h h' hM.out hA.out hB.out hP.out.1 hP.out.2 ht.out
 ·exact zAf (F := fun v _ => v = .bool true) hp fo tv (sqi 2) (fun ρ w _ h => ⟨.bool false, by simp [execOp, go_sem, h], rfl⟩)
 intro L vs w7 nb hL hC hn E7
 have e2 := wXi hC 2
 have e3 := wXi hC 3
 have E := E7; simp only [LM, zAb] at E
 rw [zAa hL]
 simp only [SP, Nat.zero_add, Nat.reduceAdd]
 rw [e2, e3]
 generalize vs 0 = u7_0
 generalize vs 1 = u7_1
 clear e2 e3 hC hn E7 hL vs L nb
 have hmf := zH0
 go_upto_region 4 with (fail)
 clear hmf
 refine rg [Fq.num n, Fq.is (.int .i64 (cmpI n 0)), yF] N6 [] E (fun hp => ⟨?_, ?_, ?_, tv⟩) ?_
 ·exact lI 0 hp (mq 4 rfl) (sqo 4) fun us w hl h => zAh hl h
 ·exact wXa (Fq.num n) hp zCf (sqi 0) fun v w h => zCg h
 ·exact zAf (F := fun v _ => v = .int .i64 (cmpI n 0)) hp fo tv (sqi 1) (fun ρ w hc h => ⟨.bool false, by simp [execOp, go_sem, h, hc, T1.out], rfl⟩)
 intro L vs w8 nb hL hC hn E8
 have e1 := wXi hC 1
 have e2 := wXi hC 2
 have E := E8; simp only [LM, zAb] at E
 rw [zAa hL]
 simp only [SP, Nat.zero_add, Nat.reduceAdd]
 rw [e1, e2]
 generalize vs 0 = u8_0
 clear e1 e2 hC hn E8 hL vs L nb
 clear T1
 go_upto_region 6 with (fail)
 refine rg [Fq.st [.n A, .n B, .n M], Fq.num n, Fq.st [.n P.x, .n P.y, .v (.bool P.i)], Fq.st [.n T.x, .n T.y, .v (.bool T.i)], Fq.num 0, Fq.any, Fq.any, Fq.any] [some (7, Fq.st [.v (.int .i64 0)]), some (6, Fq.num 0), some (5, Fq.st [.n T.x, .n T.y, .v (.bool T.i)]), none, none, none] [] E (fun hp => ⟨?_, ?_, ?_, ?_, ?_, ?_, ?_, ?_, tv⟩) ?_
 ·exact lS 0 6 hp (mq 5 rfl) zAm (sqo 3)
 ·exact lI 0 hp (mq 4 rfl) (sqo 4) fun us w hl h => zAh hl h
 ·exact lS 0 5 hp (mq 3 rfl) zAk (sqo 5)
 ·exact zBa (F := (Fq.st [.n A, .n B, .n M]).P) (G := (Fq.num n).P) (F3 := (Fq.st [.n P.x, .n P.y, .v (.bool P.i)]).P) hp fo tv (zHo) (sqi 0) (sqi 1) (sqi 2) (fun v v' u w h h' g => (zHq h h' g hM.out hA.out hn.out HPO.out HT.out).mono fun e w' hh => by
   obtain ⟨hb, hh⟩ := hh
   rcases hh with ⟨_, v2, he, hp9⟩ | ⟨hd9, _⟩
   ·exact ⟨v2, he, hb, hp9⟩
   ·exact absurd rfl hd9)
 ·exact zCx hp fo tv (fun w => Num.zero w)
 ·exact sO 0 3 hp (mq 2 rfl) zAy (sqo 6)
 ·exact sP 4 hp (mq 1 rfl) (sqo 7)
 ·exact zDq (off := 0) (fs := [.v (.int .i64 0)]) (gs := [.v (.int .i64 0)]) (fs' := [.v (.int .i64 0)]) hp (mq 0 rfl) rfl rfl rfl zG2 rfl (sqo 8) (zAl (fun _ => zGo rfl rfl)) (fun _ _ => trivial) (zBw rfl)
 intro L vs w9 nb hL hC hn E9
 have E := E9; simp only [LM, zAb] at E
 rw [zAa hL]
 simp only [SP, Nat.zero_add, Nat.reduceAdd]
 generalize vs 0 = u9_0
 generalize vs 1 = u9_1
 generalize vs 2 = u9_2
 generalize vs 3 = u9_3
 generalize vs 4 = u9_4
 clear  hC hn E9 hL vs L nb
 obtain ⟨_, _, hcr, hfr⟩ := zAu (E.box 2 rfl)
 have hRr := hfr
 obtain ⟨r_p0, r_q0, _, rfl, _r_n0, r_p1, r_q1, _, rfl, _r_n1, _, rfl, _, rfl⟩ := hfr
 have cr0 := hcr 0 (by simp)
 have cr1 := hcr 1 (by simp)
 have cr2 := hcr 2 (by simp)
 have cr3 := hcr 3 (by simp)
 have cr4 := hcr 4 (by simp)
 simp only [List.getD_cons_zero, List.getD_cons_succ] at cr0 cr1 cr2 cr3 cr4
 clear hcr
 obtain ⟨d0, d1, e0, e1, hD⟩ := zBd (E.box 1 rfl)
 obtain ⟨_, _, hcq, hfq⟩ := zAu (E.box 0 rfl)
 have hRq := hfq
 obtain ⟨_, rfl, _, rfl⟩ := hfq
 have cq0 := hcq 0 (by simp)
 simp only [List.getD_cons_zero] at cq0
 clear hcq
 clear hM hA hB hn hP
 clear ht HPO HT
 go_wp2
 refine leaves_cons (f := 60) (args := #[.pointer (some ⟨b5, 0, none⟩), .pointer (some ⟨b6, 0, none⟩)]) (by simp) (by simp [go_sem]) ?_
 refine (zMm b5 b6 _).mono ?_
 rintro e u' w'' ⟨rfl, rfl, rfl⟩
 simp only [settle, Leaves]
 refine ⟨.tuple #[.agg #[r_p0, r_q0, r_p1, r_q1, .bool T.i], .agg #[d0, d1], .int .i64 0], ?_, _, rfl, E.below, _, _, _, rfl, ⟨_, rfl, hRr⟩, hD, rfl⟩
 simp [results, Tryz.results35, go_sem, cr0, cr1, cr2, cr3, cr4, e0, e1, cq0]

set_option maxRecDepth 100000 in
set_option maxHeartbeats 4000000 in
theorem exTimes01 {w : World} {v v' u : Value} {A B M n : Int} {P : Pt} (h : (Fq.st [.n A, .n B, .n M]).P v w) (h' : Num w v' n) (g : (Fq.pt P).P u w) (hM : ab M < pw 5) (hA : ab A < pw 5) (hB : ab B < pw 5) (hn : ab n < pw 20) (hP : ab P.x < pw 5 ∧ ab P.y < pw 5) (ht : onB A B M P.x P.y P.i = true) {T : Pt × Int} (hT : zCj A M P n = T) (hneg : ¬ n < 0) (hd : ¬ T.2 = 0) :
  Calls Tryz.prog 35 #[v, v', u] w fun e w' => ∃ v', e = .returned v' ∧ Below w.heap.size w w' ∧ (Fq.tup3 (Fq.pt ⟨0, 0, false⟩) (Fq.num T.2) (Fq.is (.int .i64 6))).P v' w' := by
 replace hM := hidd hM
 replace hA := hidd hA
 replace hB := hidd hB
 replace hn := hidd hn
 replace hP := hidd hP
 replace ht := hidd ht
 obtain ⟨T, dT⟩ := T
 have HPO := hidd (zCt ht.out).1
 have T1 : Hid (¬ cmpI n 0 < 0) := fun e => hneg (cmpIqlt.1 e)
 unfold zCj at hT
 rw [if_neg hneg] at hT
 have HT := hidd hT
 clear hneg hT
 have HD := hidd hd
 clear hd
 obtain ⟨_, rfl, hf0⟩ := h
 have hF0 := hf0
 obtain ⟨y0_p0, y0_q0, _, rfl, _y0_n0, y0_p1, y0_q1, _, rfl, _y0_n1, y0_p2, y0_q2, _, rfl, _y0_n2, rfl⟩ := hf0
 obtain ⟨n1, ao1, k1, c1, rfl⟩ := h'.parts
 obtain ⟨_, rfl, hf2⟩ := g
 have hF2 := hf2
 obtain ⟨y2_p0, y2_q0, _, rfl, _y2_n0, y2_p1, y2_q1, _, rfl, _y2_n1, _, rfl, _, rfl⟩ := hf2
 obtain ⟨w1, b1, hw1, hb1, hs1, E⟩ := gS w 34 hF0
 obtain ⟨w2, b2, hw2, hb2, hs2, E⟩ := fN E hs1 32 h'
 obtain ⟨w3, b3, hw3, hb3, hs3, E⟩ := fS E hs2 36 hF2
 obtain ⟨w4, b4, hw4, hb4, hs4, E⟩ := fO E hs3 36 zA1
 obtain ⟨w5, b5, hw5, hb5, hs5, E⟩ := fZ E hs4 32
 obtain ⟨w6, b6, hw6, hb6, hs6, E⟩ := fO E hs5 42 zFo
 go_enter_defers Tryz.func35, Tryz.ntmps35
 go_upto_region 1 with (fail)
 rw [← hw1]
 rw [← hw2]
 rw [← hw3]
 rw [← hw4]
 rw [← hw5]
 rw [← hw6]
 rw [← hb6]
 rw [← hb5]
 rw [← hb4]
 rw [← hb3]
 rw [← hb2]
 rw [← hb1]
 clear hw1 hw2 hw3 hw4 hw5 hw6 hb1 hb2 hb3 hb4 hb5 hb6 hs6 hs1 hs2 hs3 hs4 hs5
 refine rg [Fq.st [.n A, .n B, .n M], Fq.st [.n P.x, .n P.y, .v (.bool P.i)], yT, yF] N6 [] E (fun hp => ⟨?_, ?_, ?_, ?_, tv⟩) ?_
 ·exact lS 0 6 hp (mq 5 rfl) zAm (sqo 3)
 ·exact lS 0 5 hp (mq 3 rfl) zAk (sqo 5)
 ·exact wXb (Fq.st [.n A, .n B, .n M]) (Fq.st [.n P.x, .n P.y, .v (.bool P.i)]) hp zB3 (sqi 0) (sqi 1) fun v v' w h h' => exOn h h' hM.out hA.out hB.out hP.out.1 hP.out.2 ht.out
 ·exact zAf (F := fun v _ => v = .bool true) hp fo tv (sqi 2) (fun ρ w _ h => ⟨.bool false, by simp [execOp, go_sem, h], rfl⟩)
 intro L vs w7 nb hL hC hn E7
 have e2 := wXi hC 2
 have e3 := wXi hC 3
 have E := E7; simp only [LM, zAb] at E
 rw [zAa hL]
 simp only [SP, Nat.zero_add, Nat.reduceAdd]
 rw [e2, e3]
 generalize vs 0 = u7_0
 generalize vs 1 = u7_1
 clear e2 e3 hC hn E7 hL vs L nb
 have hmf := zH0
 go_upto_region 4 with (fail)
 clear hmf
 refine rg [Fq.num n, Fq.is (.int .i64 (cmpI n 0)), yF] N6 [] E (fun hp => ⟨?_, ?_, ?_, tv⟩) ?_
 ·exact lI 0 hp (mq 4 rfl) (sqo 4) fun us w hl h => zAh hl h
 ·exact wXa (Fq.num n) hp zCf (sqi 0) fun v w h => zCg h
 ·exact zAf (F := fun v _ => v = .int .i64 (cmpI n 0)) hp fo tv (sqi 1) (fun ρ w hc h => ⟨.bool false, by simp [execOp, go_sem, h, hc, T1.out], rfl⟩)
 intro L vs w8 nb hL hC hn E8
 have e1 := wXi hC 1
 have e2 := wXi hC 2
 have E := E8; simp only [LM, zAb] at E
 rw [zAa hL]
 simp only [SP, Nat.zero_add, Nat.reduceAdd]
 rw [e1, e2]
 generalize vs 0 = u8_0
 clear e1 e2 hC hn E8 hL vs L nb
 clear T1
 go_upto_region 6 with (fail)
 refine rg [Fq.st [.n A, .n B, .n M], Fq.num n, Fq.st [.n P.x, .n P.y, .v (.bool P.i)], Fq.pre fun _ => False, Fq.num 0, Fq.any, Fq.any, Fq.any] [some (7, Fq.st [.v (.int .i64 0)]), some (6, Fq.num 0), some (5, Fq.st [.n 0, .n 0, .v (.bool false)]), none, none, none] [] E (fun hp => ⟨?_, ?_, ?_, ?_, ?_, ?_, ?_, ?_, tv⟩) ?_
 ·exact lS 0 6 hp (mq 5 rfl) zAm (sqo 3)
 ·exact lI 0 hp (mq 4 rfl) (sqo 4) fun us w hl h => zAh hl h
 ·exact lS 0 5 hp (mq 3 rfl) zAk (sqo 5)
 ·refine zL5 (T := PanN dT) (F := (Fq.st [.n A, .n B, .n M]).P) (G := (Fq.num n).P) (F3 := (Fq.st [.n P.x, .n P.y, .v (.bool P.i)]).P) hp fo (zHo) (sqi 0) (sqi 1) (sqi 2) (fun v v' u w h h' g => (zHq h h' g hM.out hA.out hn.out HPO.out HT.out).mono fun e w' hh => by
   obtain ⟨hb, hh⟩ := hh
   rcases hh with ⟨hd9, _⟩ | ⟨_, v2, he, hp9⟩
   ·exact absurd hd9 HD.out
   ·exact ⟨_, he, hb, v2, rfl, hp9⟩) ?_
  intro L9 vs9 w9 ch w9' A9 hG9 hb9 hT9 hdf htsz hta
  obtain ⟨v2, rfl, hn9⟩ := hT9
  have F0 := (fr_of_G E hG9 rfl (by simp [plq, zA6])).later hb9
  obtain ⟨n9, ao9, k9, c9, rfl⟩ := hn9.parts
  obtain ⟨x0, y0, g0, g1, _⟩ := zBd (F0.box 1 rfl)
  obtain ⟨_, _, hcq, hfq⟩ := zAu (F0.box 0 rfl)
  obtain ⟨_, rfl, _, rfl⟩ := hfq
  have g2 := hcq 0 (by simp)
  have z0 : w9'.frozen? ⟨b5, 0, none⟩ = false := zFe (F0.box 1 rfl) 0 (by simp)
  have z1 : w9'.frozen? ⟨b5, 1, none⟩ = false := zFe (F0.box 1 rfl) 1 (by simp)
  have z2 : w9'.frozen? ⟨b6, 0, none⟩ = false := zFe (F0.box 0 rfl) 0 (by simp)
  have hne : b5 ≠ b6 := by have := F0.apart; simp at this; omega
  have F1 := F0.store 1 (F' := Fq.num dT) rfl (us := [.bool n9, .slice ao9 k9 c9]) rfl (zBr _ _ _ _) hn9
  have F2 := F1.store 0 (F' := Fq.st [.v (.int .i64 6)]) rfl (us := [.int .i64 6]) rfl (fun u hu q e => by simp at hu; subst hu; cases e) ⟨_, rfl, _, rfl, rfl, rfl⟩
  clear F0 F1 hG9 hb9
  show Leaves Tryz.prog _ A9.tmps _ A9.defers _ w9'
  rw [hdf]
  refine leaves_cons (f := 60) (args := #[.pointer (some ⟨b5, 0, none⟩), .pointer (some ⟨b6, 0, none⟩)]) (by simp) (by simp [go_sem]) ?_
  refine (zMl b5 b6 n9 ao9 k9 c9 [] _ hne g0 g1 g2 z0 z1 z2).mono ?_
  rintro e u' w'' ⟨rfl, rfl, rfl⟩
  simp only [settle, List.dropWhile, Leaves]
  obtain ⟨_, _, hcr, hfr⟩ := zAu (F2.box 2 rfl)
  have hRr := hfr
  obtain ⟨r_p0, r_q0, _, rfl, _r_n0, r_p1, r_q1, _, rfl, _r_n1, _, rfl, _, rfl⟩ := hfr
  have cr0 := hcr 0 (by simp)
  have cr1 := hcr 1 (by simp)
  have cr2 := hcr 2 (by simp)
  have cr3 := hcr 3 (by simp)
  have cr4 := hcr 4 (by simp)
  simp only [List.getD_cons_zero, List.getD_cons_succ] at cr0 cr1 cr2 cr3 cr4
  clear hcr
  obtain ⟨d0, d1, e0, e1, hD⟩ := zBd (F2.box 1 rfl)
  obtain ⟨_, _, hcq, hfq⟩ := zAu (F2.box 0 rfl)
  have hRq := hfq
  obtain ⟨_, rfl, _, rfl⟩ := hfq
  have cq0 := hcq 0 (by simp)
  simp only [List.getD_cons_zero] at cq0
  clear hcq
  have t6 := hta 6 rfl
  have t7 := hta 7 rfl
  have t8 := hta 8 rfl
  refine ⟨.tuple #[.agg #[r_p0, r_q0, r_p1, r_q1, .bool false], .agg #[d0, d1], .int .i64 6], ?_, _, rfl, F2.below, _, _, _, rfl, ⟨_, rfl, hRr⟩, hD, rfl⟩
  exact zMn t6 t7 t8 cr0 cr1 cr2 cr3 cr4 e0 e1 cq0
 ·exact zCx hp fo tv (fun w => Num.zero w)
 ·exact zDq (off := 0) (fs := [.n 0, .n 0, .v (.bool false)]) (gs := [.n 0, .n 0, .v (.bool false)]) (fs' := [.n 0, .n 0, .v (.bool false)]) hp (mq 2 rfl) rfl rfl rfl zAy rfl (sqo 6) (zB9 3 rfl rfl (by simp) rfl (fun v w h => False.elim h)) (fun _ _ => trivial) (zBw rfl)
 ·exact sP 4 hp (mq 1 rfl) (sqo 7)
 ·exact zDq (off := 0) (fs := [.v (.int .i64 0)]) (gs := [.v (.int .i64 0)]) (fs' := [.v (.int .i64 0)]) hp (mq 0 rfl) rfl rfl rfl zG2 rfl (sqo 8) (zAl (fun _ => zGo rfl rfl)) (fun _ _ => trivial) (zBw rfl)
 intro L vs w9 nb hL hC hn E9
 exact False.elim (hC 3 (by simp))

set_option maxRecDepth 100000 in
set_option maxHeartbeats 4000000 in
theorem exTimes10 {w : World} {v v' u : Value} {A B M n : Int} {P : Pt} (h : (Fq.st [.n A, .n B, .n M]).P v w) (h' : Num w v' n) (g : (Fq.pt P).P u w) (hM : ab M < pw 5) (hA : ab A < pw 5) (hB : ab B < pw 5) (hn : ab n < pw 20) (hP : ab P.x < pw 5 ∧ ab P.y < pw 5) (ht : onB A B M P.x P.y P.i = true) {T : Pt × Int} (hT : zCj A M P n = T) (hneg :  n < 0) (hd :  T.2 = 0) :
  Calls Tryz.prog 35 #[v, v', u] w fun e w' => ∃ v', e = .returned v' ∧ Below w.heap.size w w' ∧ (Fq.tup3 (Fq.pt T.1) (Fq.num 0) (Fq.is (.int .i64 0))).P v' w' := by
 replace hM := hidd hM
 replace hA := hidd hA
 replace hB := hidd hB
 replace hn := hidd hn
 replace hP := hidd hP
 replace ht := hidd ht
 obtain ⟨T, dT⟩ := T
 have HPO := hidd (zCt ht.out).1
 have T1 : Hid ( cmpI n 0 < 0) := cmpIqlt.2 hneg
 unfold zCj at hT
 rw [if_pos hneg] at hT
 have HT := hidd hT
 clear hneg hT
 have hd0 : dT = 0 := hd
 subst hd0
 clear hd
 obtain ⟨O, hO⟩ : ∃ O, O = oppP M P := ⟨_, rfl⟩
 have HOO : Hid (O.Ok M) := by rw [hO]; exact zJb HPO.out
 have HO := hidd hO
 have HT2 : Hid (xjP A M O n.natAbs (zAp n) 0 = (T, 0)) := by show _ = _; rw [hO]; exact HT.out
 clear hO HT
 obtain ⟨_, rfl, hf0⟩ := h
 have hF0 := hf0
 obtain ⟨y0_p0, y0_q0, _, rfl, _y0_n0, y0_p1, y0_q1, _, rfl, _y0_n1, y0_p2, y0_q2, _, rfl, _y0_n2, rfl⟩ := hf0
 obtain ⟨n1, ao1, k1, c1, rfl⟩ := h'.parts
 obtain ⟨_, rfl, hf2⟩ := g
 have hF2 := hf2
 obtain ⟨y2_p0, y2_q0, _, rfl, _y2_n0, y2_p1, y2_q1, _, rfl, _y2_n1, _, rfl, _, rfl⟩ := hf2
 obtain ⟨w1, b1, hw1, hb1, hs1, E⟩ := gS w 34 hF0
 obtain ⟨w2, b2, hw2, hb2, hs2, E⟩ := fN E hs1 32 h'
 obtain ⟨w3, b3, hw3, hb3, hs3, E⟩ := fS E hs2 36 hF2
 obtain ⟨w4, b4, hw4, hb4, hs4, E⟩ := fO E hs3 36 zA1
 obtain ⟨w5, b5, hw5, hb5, hs5, E⟩ := fZ E hs4 32
 obtain ⟨w6, b6, hw6, hb6, hs6, E⟩ := fO E hs5 42 zFo
 go_enter_defers Tryz.func35, Tryz.ntmps35
 go_upto_region 1 with (fail)
 rw [← hw1]
 rw [← hw2]
 rw [← hw3]
 rw [← hw4]
 rw [← hw5]
 rw [← hw6]
 rw [← hb6]
 rw [← hb5]
 rw [← hb4]
 rw [← hb3]
 rw [← hb2]
 rw [← hb1]
 clear hw1 hw2 hw3 hw4 hw5 hw6 hb1 hb2 hb3 hb4 hb5 hb6 hs6 hs1 hs2 hs3 hs4 hs5
 refine rg [Fq.st [.n A, .n B, .n M], Fq.st [.n P.x, .n P.y, .v (.bool P.i)], yT, yF] N6 [] E (fun hp => ⟨?_, ?_, ?_, ?_, tv⟩) ?_
 ·exact lS 0 6 hp (mq 5 rfl) zAm (sqo 3)
 ·exact lS 0 5 hp (mq 3 rfl) zAk (sqo 5)
 ·exact wXb (Fq.st [.n A, .n B, .n M]) (Fq.st [.n P.x, .n P.y, .v (.bool P.i)]) hp zB3 (sqi 0) (sqi 1) fun v v' w h h' => exOn h h' hM.out hA.out hB.out hP.out.1 hP.out.2 ht.out
 ·exact zAf (F := fun v _ => v = .bool true) hp fo tv (sqi 2) (fun ρ w _ h => ⟨.bool false, by simp [execOp, go_sem, h], rfl⟩)
 intro L vs w7 nb hL hC hn E7
 have e2 := wXi hC 2
 have e3 := wXi hC 3
 have E := E7; simp only [LM, zAb] at E
 rw [zAa hL]
 simp only [SP, Nat.zero_add, Nat.reduceAdd]
 rw [e2, e3]
 generalize vs 0 = u7_0
 generalize vs 1 = u7_1
 clear e2 e3 hC hn E7 hL vs L nb
 have hmf := zH0
 go_upto_region 4 with (fail)
 clear hmf
 refine rg [Fq.num n, Fq.is (.int .i64 (cmpI n 0)), yT] N6 [] E (fun hp => ⟨?_, ?_, ?_, tv⟩) ?_
 ·exact lI 0 hp (mq 4 rfl) (sqo 4) fun us w hl h => zAh hl h
 ·exact wXa (Fq.num n) hp zCf (sqi 0) fun v w h => zCg h
 ·exact zAf (F := fun v _ => v = .int .i64 (cmpI n 0)) hp fo tv (sqi 1) (fun ρ w hc h => ⟨.bool true, by simp [execOp, go_sem, h, hc, T1.out], rfl⟩)
 intro L vs w8 nb hL hC hn E8
 have e1 := wXi hC 1
 have e2 := wXi hC 2
 have E := E8; simp only [LM, zAb] at E
 rw [zAa hL]
 simp only [SP, Nat.zero_add, Nat.reduceAdd]
 rw [e1, e2]
 generalize vs 0 = u8_0
 clear e1 e2 hC hn E8 hL vs L nb
 clear T1
 go_upto_region 5 with (fail)
 refine rg [Fq.st [.n A, .n B, .n M], Fq.st [.n P.x, .n P.y, .v (.bool P.i)], Fq.st [.n O.x, .n O.y, .v (.bool O.i)], Fq.any] [none, none, none, some (3, Fq.st [.n O.x, .n O.y, .v (.bool O.i)]), none, none] [] E (fun hp => ⟨?_, ?_, ?_, ?_, tv⟩) ?_
 ·exact lS 0 6 hp (mq 5 rfl) zAm (sqo 3)
 ·exact zBe (off := 0) (l := 5) hp fo tv (mq 3 rfl) (.inr rfl) rfl zAk rfl (sqo 5) (fun v w h => h)
 ·exact wXb (Fq.st [.n A, .n B, .n M]) (Fq.st [.n P.x, .n P.y, .v (.bool P.i)]) hp zIu (sqi 0) (sqi 1) fun v v' w h h' => (by rw [HO.out]; exact exOppP h h' hM.out HPO.out)
 ·exact sO 0 2 hp (mq 3 rfl) zAy (sqo 5)
 intro L vs w9 nb hL hC hn E9
 have E := E9; simp only [LM, zAb] at E
 rw [zAa hL]
 simp only [SP, Nat.zero_add, Nat.reduceAdd]
 generalize vs 0 = u9_0
 generalize vs 1 = u9_1
 generalize vs 2 = u9_2
 clear  hC hn E9 hL vs L nb
 go_upto_region 6 with (fail)
 refine rg [Fq.st [.n A, .n B, .n M], Fq.num n, Fq.st [.n O.x, .n O.y, .v (.bool O.i)], Fq.st [.n T.x, .n T.y, .v (.bool T.i)], Fq.num 0, Fq.any, Fq.any, Fq.any] [some (7, Fq.st [.v (.int .i64 0)]), some (6, Fq.num 0), some (5, Fq.st [.n T.x, .n T.y, .v (.bool T.i)]), none, none, none] [] E (fun hp => ⟨?_, ?_, ?_, ?_, ?_, ?_, ?_, ?_, tv⟩) ?_
 ·exact lS 0 6 hp (mq 5 rfl) zAm (sqo 3)
 ·exact lI 0 hp (mq 4 rfl) (sqo 4) fun us w hl h => zAh hl h
 ·exact lS 0 5 hp (mq 3 rfl) zAk (sqo 5)
 ·exact zBa (F := (Fq.st [.n A, .n B, .n M]).P) (G := (Fq.num n).P) (F3 := (Fq.st [.n O.x, .n O.y, .v (.bool O.i)]).P) hp fo tv (zHo) (sqi 0) (sqi 1) (sqi 2) (fun v v' u w h h' g => (zHq h h' g hM.out hA.out hn.out HOO.out HT2.out).mono fun e w' hh => by
   obtain ⟨hb, hh⟩ := hh
   rcases hh with ⟨_, v2, he, hp9⟩ | ⟨hd9, _⟩
   ·exact ⟨v2, he, hb, hp9⟩
   ·exact absurd rfl hd9)
 ·exact zCx hp fo tv (fun w => Num.zero w)
 ·exact sO 0 3 hp (mq 2 rfl) zAy (sqo 6)
 ·exact sP 4 hp (mq 1 rfl) (sqo 7)
 ·exact zDq (off := 0) (fs := [.v (.int .i64 0)]) (gs := [.v (.int .i64 0)]) (fs' := [.v (.int .i64 0)]) hp (mq 0 rfl) rfl rfl rfl zG2 rfl (sqo 8) (zAl (fun _ => zGo rfl rfl)) (fun _ _ => trivial) (zBw rfl)
 intro L vs w10 nb hL hC hn E10
 have E := E10; simp only [LM, zAb] at E
 rw [zAa hL]
 simp only [SP, Nat.zero_add, Nat.reduceAdd]
 generalize vs 0 = u10_0
 generalize vs 1 = u10_1
 generalize vs 2 = u10_2
 generalize vs 3 = u10_3
 generalize vs 4 = u10_4
 clear  hC hn E10 hL vs L nb
 obtain ⟨_, _, hcr, hfr⟩ := zAu (E.box 2 rfl)
 have hRr := hfr
 obtain ⟨r_p0, r_q0, _, rfl, _r_n0, r_p1, r_q1, _, rfl, _r_n1, _, rfl, _, rfl⟩ := hfr
 have cr0 := hcr 0 (by simp)
 have cr1 := hcr 1 (by simp)
 have cr2 := hcr 2 (by simp)
 have cr3 := hcr 3 (by simp)
 have cr4 := hcr 4 (by simp)
 simp only [List.getD_cons_zero, List.getD_cons_succ] at cr0 cr1 cr2 cr3 cr4
 clear hcr
 obtain ⟨d0, d1, e0, e1, hD⟩ := zBd (E.box 1 rfl)
 obtain ⟨_, _, hcq, hfq⟩ := zAu (E.box 0 rfl)
 have hRq := hfq
 obtain ⟨_, rfl, _, rfl⟩ := hfq
 have cq0 := hcq 0 (by simp)
 simp only [List.getD_cons_zero] at cq0
 clear hcq
 clear hM hA hB hn hP
 clear ht HPO HOO HO HT2
 go_wp2
 refine leaves_cons (f := 60) (args := #[.pointer (some ⟨b5, 0, none⟩), .pointer (some ⟨b6, 0, none⟩)]) (by simp) (by simp [go_sem]) ?_
 refine (zMm b5 b6 _).mono ?_
 rintro e u' w'' ⟨rfl, rfl, rfl⟩
 simp only [settle, Leaves]
 refine ⟨.tuple #[.agg #[r_p0, r_q0, r_p1, r_q1, .bool T.i], .agg #[d0, d1], .int .i64 0], ?_, _, rfl, E.below, _, _, _, rfl, ⟨_, rfl, hRr⟩, hD, rfl⟩
 simp [results, Tryz.results35, go_sem, cr0, cr1, cr2, cr3, cr4, e0, e1, cq0]

set_option maxRecDepth 100000 in
set_option maxHeartbeats 4000000 in
theorem exTimes11 {w : World} {v v' u : Value} {A B M n : Int} {P : Pt} (h : (Fq.st [.n A, .n B, .n M]).P v w) (h' : Num w v' n) (g : (Fq.pt P).P u w) (hM : ab M < pw 5) (hA : ab A < pw 5) (hB : ab B < pw 5) (hn : ab n < pw 20) (hP : ab P.x < pw 5 ∧ ab P.y < pw 5) (ht : onB A B M P.x P.y P.i = true) {T : Pt × Int} (hT : zCj A M P n = T) (hneg :  n < 0) (hd : ¬ T.2 = 0) :
  Calls Tryz.prog 35 #[v, v', u] w fun e w' => ∃ v', e = .returned v' ∧ Below w.heap.size w w' ∧ (Fq.tup3 (Fq.pt ⟨0, 0, false⟩) (Fq.num T.2) (Fq.is (.int .i64 6))).P v' w' := by
 replace hM := hidd hM
 replace hA := hidd hA
 replace hB := hidd hB
 replace hn := hidd hn
 replace hP := hidd hP
 replace ht := hidd ht
 obtain ⟨T, dT⟩ := T
 have HPO := hidd (zCt ht.out).1
 have T1 : Hid ( cmpI n 0 < 0) := cmpIqlt.2 hneg
 unfold zCj at hT
 rw [if_pos hneg] at hT
 have HT := hidd hT
 clear hneg hT
 have HD := hidd hd
 clear hd
 obtain ⟨O, hO⟩ : ∃ O, O = oppP M P := ⟨_, rfl⟩
 have HOO : Hid (O.Ok M) := by rw [hO]; exact zJb HPO.out
 have HO := hidd hO
 have HT2 : Hid (xjP A M O n.natAbs (zAp n) 0 = (T, dT)) := by show _ = _; rw [hO]; exact HT.out
 clear hO HT
 obtain ⟨_, rfl, hf0⟩ := h
 have hF0 := hf0
 obtain ⟨y0_p0, y0_q0, _, rfl, _y0_n0, y0_p1, y0_q1, _, rfl, _y0_n1, y0_p2, y0_q2, _, rfl, _y0_n2, rfl⟩ := hf0
 obtain ⟨n1, ao1, k1, c1, rfl⟩ := h'.parts
 obtain ⟨_, rfl, hf2⟩ := g
 have hF2 := hf2
 obtain ⟨y2_p0, y2_q0, _, rfl, _y2_n0, y2_p1, y2_q1, _, rfl, _y2_n1, _, rfl, _, rfl⟩ := hf2
 obtain ⟨w1, b1, hw1, hb1, hs1, E⟩ := gS w 34 hF0
 obtain ⟨w2, b2, hw2, hb2, hs2, E⟩ := fN E hs1 32 h'
 obtain ⟨w3, b3, hw3, hb3, hs3, E⟩ := fS E hs2 36 hF2
 obtain ⟨w4, b4, hw4, hb4, hs4, E⟩ := fO E hs3 36 zA1
 obtain ⟨w5, b5, hw5, hb5, hs5, E⟩ := fZ E hs4 32
 obtain ⟨w6, b6, hw6, hb6, hs6, E⟩ := fO E hs5 42 zFo
 go_enter_defers Tryz.func35, Tryz.ntmps35
 go_upto_region 1 with (fail)
 rw [← hw1]
 rw [← hw2]
 rw [← hw3]
 rw [← hw4]
 rw [← hw5]
 rw [← hw6]
 rw [← hb6]
 rw [← hb5]
 rw [← hb4]
 rw [← hb3]
 rw [← hb2]
 rw [← hb1]
 clear hw1 hw2 hw3 hw4 hw5 hw6 hb1 hb2 hb3 hb4 hb5 hb6 hs6 hs1 hs2 hs3 hs4 hs5
 refine rg [Fq.st [.n A, .n B, .n M], Fq.st [.n P.x, .n P.y, .v (.bool P.i)], yT, yF] N6 [] E (fun hp => ⟨?_, ?_, ?_, ?_, tv⟩) ?_
 ·exact lS 0 6 hp (mq 5 rfl) zAm (sqo 3)
 ·exact lS 0 5 hp (mq 3 rfl) zAk (sqo 5)
 ·exact wXb (Fq.st [.n A, .n B, .n M]) (Fq.st [.n P.x, .n P.y, .v (.bool P.i)]) hp zB3 (sqi 0) (sqi 1) fun v v' w h h' => exOn h h' hM.out hA.out hB.out hP.out.1 hP.out.2 ht.out
 ·exact zAf (F := fun v _ => v = .bool true) hp fo tv (sqi 2) (fun ρ w _ h => ⟨.bool false, by simp [execOp, go_sem, h], rfl⟩)
 intro L vs w7 nb hL hC hn E7
 have e2 := wXi hC 2
 have e3 := wXi hC 3
 have E := E7; simp only [LM, zAb] at E
 rw [zAa hL]
 simp only [SP, Nat.zero_add, Nat.reduceAdd]
 rw [e2, e3]
 generalize vs 0 = u7_0
 generalize vs 1 = u7_1
 clear e2 e3 hC hn E7 hL vs L nb
 have hmf := zH0
 go_upto_region 4 with (fail)
 clear hmf
 refine rg [Fq.num n, Fq.is (.int .i64 (cmpI n 0)), yT] N6 [] E (fun hp => ⟨?_, ?_, ?_, tv⟩) ?_
 ·exact lI 0 hp (mq 4 rfl) (sqo 4) fun us w hl h => zAh hl h
 ·exact wXa (Fq.num n) hp zCf (sqi 0) fun v w h => zCg h
 ·exact zAf (F := fun v _ => v = .int .i64 (cmpI n 0)) hp fo tv (sqi 1) (fun ρ w hc h => ⟨.bool true, by simp [execOp, go_sem, h, hc, T1.out], rfl⟩)
 intro L vs w8 nb hL hC hn E8
 have e1 := wXi hC 1
 have e2 := wXi hC 2
 have E := E8; simp only [LM, zAb] at E
 rw [zAa hL]
 simp only [SP, Nat.zero_add, Nat.reduceAdd]
 rw [e1, e2]
 generalize vs 0 = u8_0
 clear e1 e2 hC hn E8 hL vs L nb
 clear T1
 go_upto_region 5 with (fail)
 refine rg [Fq.st [.n A, .n B, .n M], Fq.st [.n P.x, .n P.y, .v (.bool P.i)], Fq.st [.n O.x, .n O.y, .v (.bool O.i)], Fq.any] [none, none, none, some (3, Fq.st [.n O.x, .n O.y, .v (.bool O.i)]), none, none] [] E (fun hp => ⟨?_, ?_, ?_, ?_, tv⟩) ?_
 ·exact lS 0 6 hp (mq 5 rfl) zAm (sqo 3)
 ·exact zBe (off := 0) (l := 5) hp fo tv (mq 3 rfl) (.inr rfl) rfl zAk rfl (sqo 5) (fun v w h => h)
 ·exact wXb (Fq.st [.n A, .n B, .n M]) (Fq.st [.n P.x, .n P.y, .v (.bool P.i)]) hp zIu (sqi 0) (sqi 1) fun v v' w h h' => (by rw [HO.out]; exact exOppP h h' hM.out HPO.out)
 ·exact sO 0 2 hp (mq 3 rfl) zAy (sqo 5)
 intro L vs w9 nb hL hC hn E9
 have E := E9; simp only [LM, zAb] at E
 rw [zAa hL]
 simp only [SP, Nat.zero_add, Nat.reduceAdd]
 generalize vs 0 = u9_0
 generalize vs 1 = u9_1
 generalize vs 2 = u9_2
 clear  hC hn E9 hL vs L nb
 go_upto_region 6 with (fail)
 refine rg [Fq.st [.n A, .n B, .n M], Fq.num n, Fq.st [.n O.x, .n O.y, .v (.bool O.i)], Fq.pre fun _ => False, Fq.num 0, Fq.any, Fq.any, Fq.any] [some (7, Fq.st [.v (.int .i64 0)]), some (6, Fq.num 0), some (5, Fq.st [.n 0, .n 0, .v (.bool false)]), none, none, none] [] E (fun hp => ⟨?_, ?_, ?_, ?_, ?_, ?_, ?_, ?_, tv⟩) ?_
 ·exact lS 0 6 hp (mq 5 rfl) zAm (sqo 3)
 ·exact lI 0 hp (mq 4 rfl) (sqo 4) fun us w hl h => zAh hl h
 ·exact lS 0 5 hp (mq 3 rfl) zAk (sqo 5)
 ·refine zL5 (T := PanN dT) (F := (Fq.st [.n A, .n B, .n M]).P) (G := (Fq.num n).P) (F3 := (Fq.st [.n O.x, .n O.y, .v (.bool O.i)]).P) hp fo (zHo) (sqi 0) (sqi 1) (sqi 2) (fun v v' u w h h' g => (zHq h h' g hM.out hA.out hn.out HOO.out HT2.out).mono fun e w' hh => by
   obtain ⟨hb, hh⟩ := hh
   rcases hh with ⟨hd9, _⟩ | ⟨_, v2, he, hp9⟩
   ·exact absurd hd9 HD.out
   ·exact ⟨_, he, hb, v2, rfl, hp9⟩) ?_
  intro L9 vs9 w9 ch w9' A9 hG9 hb9 hT9 hdf htsz hta
  obtain ⟨v2, rfl, hn9⟩ := hT9
  have F0 := (fr_of_G E hG9 rfl (by simp [plq, zA6])).later hb9
  obtain ⟨n9, ao9, k9, c9, rfl⟩ := hn9.parts
  obtain ⟨x0, y0, g0, g1, _⟩ := zBd (F0.box 1 rfl)
  obtain ⟨_, _, hcq, hfq⟩ := zAu (F0.box 0 rfl)
  obtain ⟨_, rfl, _, rfl⟩ := hfq
  have g2 := hcq 0 (by simp)
  have z0 : w9'.frozen? ⟨b5, 0, none⟩ = false := zFe (F0.box 1 rfl) 0 (by simp)
  have z1 : w9'.frozen? ⟨b5, 1, none⟩ = false := zFe (F0.box 1 rfl) 1 (by simp)
  have z2 : w9'.frozen? ⟨b6, 0, none⟩ = false := zFe (F0.box 0 rfl) 0 (by simp)
  have hne : b5 ≠ b6 := by have := F0.apart; simp at this; omega
  have F1 := F0.store 1 (F' := Fq.num dT) rfl (us := [.bool n9, .slice ao9 k9 c9]) rfl (zBr _ _ _ _) hn9
  have F2 := F1.store 0 (F' := Fq.st [.v (.int .i64 6)]) rfl (us := [.int .i64 6]) rfl (fun u hu q e => by simp at hu; subst hu; cases e) ⟨_, rfl, _, rfl, rfl, rfl⟩
  clear F0 F1 hG9 hb9
  show Leaves Tryz.prog _ A9.tmps _ A9.defers _ w9'
  rw [hdf]
  refine leaves_cons (f := 60) (args := #[.pointer (some ⟨b5, 0, none⟩), .pointer (some ⟨b6, 0, none⟩)]) (by simp) (by simp [go_sem]) ?_
  refine (zMl b5 b6 n9 ao9 k9 c9 [] _ hne g0 g1 g2 z0 z1 z2).mono ?_
  rintro e u' w'' ⟨rfl, rfl, rfl⟩
  simp only [settle, List.dropWhile, Leaves]
  obtain ⟨_, _, hcr, hfr⟩ := zAu (F2.box 2 rfl)
  have hRr := hfr
  obtain ⟨r_p0, r_q0, _, rfl, _r_n0, r_p1, r_q1, _, rfl, _r_n1, _, rfl, _, rfl⟩ := hfr
  have cr0 := hcr 0 (by simp)
  have cr1 := hcr 1 (by simp)
  have cr2 := hcr 2 (by simp)
  have cr3 := hcr 3 (by simp)
  have cr4 := hcr 4 (by simp)
  simp only [List.getD_cons_zero, List.getD_cons_succ] at cr0 cr1 cr2 cr3 cr4
  clear hcr
  obtain ⟨d0, d1, e0, e1, hD⟩ := zBd (F2.box 1 rfl)
  obtain ⟨_, _, hcq, hfq⟩ := zAu (F2.box 0 rfl)
  have hRq := hfq
  obtain ⟨_, rfl, _, rfl⟩ := hfq
  have cq0 := hcq 0 (by simp)
  simp only [List.getD_cons_zero] at cq0
  clear hcq
  have t6 := hta 6 rfl
  have t7 := hta 7 rfl
  have t8 := hta 8 rfl
  refine ⟨.tuple #[.agg #[r_p0, r_q0, r_p1, r_q1, .bool false], .agg #[d0, d1], .int .i64 6], ?_, _, rfl, F2.below, _, _, _, rfl, ⟨_, rfl, hRr⟩, hD, rfl⟩
  exact zMn t6 t7 t8 cr0 cr1 cr2 cr3 cr4 e0 e1 cq0
 ·exact zCx hp fo tv (fun w => Num.zero w)
 ·exact zDq (off := 0) (fs := [.n 0, .n 0, .v (.bool false)]) (gs := [.n 0, .n 0, .v (.bool false)]) (fs' := [.n 0, .n 0, .v (.bool false)]) hp (mq 2 rfl) rfl rfl rfl zAy rfl (sqo 6) (zB9 3 rfl rfl (by simp) rfl (fun v w h => False.elim h)) (fun _ _ => trivial) (zBw rfl)
 ·exact sP 4 hp (mq 1 rfl) (sqo 7)
 ·exact zDq (off := 0) (fs := [.v (.int .i64 0)]) (gs := [.v (.int .i64 0)]) (fs' := [.v (.int .i64 0)]) hp (mq 0 rfl) rfl rfl rfl zG2 rfl (sqo 8) (zAl (fun _ => zGo rfl rfl)) (fun _ _ => trivial) (zBw rfl)
 intro L vs w9 nb hL hC hn E9
 exact False.elim (hC 3 (by simp))

section
variable {os : List Oper} {Q : Exit → Act → World → Prop} {a : Act} {p : Pq} {B B0 : Nat} {w0 : World}
variable {i s : Nat} {d : Option Tmp} {ty : TypeId} {ps : String} {af : Array Edge} {gd : Option (Nat × Bool)}
end
theorem zEa (args : Array Value) (w : World) : (callFunc 18 args).run Tryz.prog w = .ok (.enter 18 args) w := zAn Tryz.func18 (by kernel_rfl) rfl args w
theorem zGh (args : Array Value) (w : World) : (callFunc 10 args).run Tryz.prog w = .ok (.enter 10 args) w := zAn Tryz.func10 (by kernel_rfl) rfl args w
theorem zHl (args : Array Value) (w : World) : (callFunc 15 args).run Tryz.prog w = .ok (.enter 15 args) w := zAn Tryz.func15 (by kernel_rfl) rfl args w
theorem zNc (args : Array Value) (w : World) : (callFunc 4 args).run Tryz.prog w = .ok (.enter 4 args) w := zAn Tryz.func4 (by kernel_rfl) rfl args w
theorem zNd (args : Array Value) (w : World) : (callFunc 5 args).run Tryz.prog w = .ok (.enter 5 args) w := zAn Tryz.func5 (by kernel_rfl) rfl args w
theorem zGi (args : Array Value) (w : World) : (callFunc 14 args).run Tryz.prog w = .ok (.enter 14 args) w := zAn Tryz.func14 (by kernel_rfl) rfl args w
theorem zNe (args : Array Value) (w : World) : (callFunc 20 args).run Tryz.prog w = .ok (.enter 20 args) w := zAn Tryz.func20 (by kernel_rfl) rfl args w
theorem zKk (args : Array Value) (w : World) : (callFunc 30 args).run Tryz.prog w = .ok (.enter 30 args) w := zAn Tryz.func30 (by kernel_rfl) rfl args w
theorem zF2 : rowB 44 8 = true := by kernel_rfl
theorem zA9 : zDa 44 8 = true := by kernel_rfl
theorem zBt (w : World) : Fits w [.n 0, .n 0, .v (.bool false), .n 0, .v (.int .i64 0)] [.bool false, .slice none 0 0, .bool false, .slice none 0 0, .bool false, .bool false, .slice none 0 0, .int .i64 0] := ⟨_, _, _, rfl, Num.zero w, _, _, _, rfl, Num.zero w, _, rfl, rfl, _, _, _, rfl, Num.zero w, _, rfl, rfl, rfl⟩
theorem zPb (w : World) : (Fq.st [.n 0, .n 0, .v (.bool false), .n 0, .v (.int .i64 0)]).P (.agg ([.bool false, .slice none 0 0, .bool false, .slice none 0 0, .bool false, .bool false, .slice none 0 0, .int .i64 0] : List Value).toArray) w := ⟨_, rfl, zBt w⟩
theorem zEz {d : Option Tmp} {ty : TypeId} {ps : String} {af : Array Edge} (ρ : Operand → Value) (w : World) : (execOp ρ { dst := d, op := .alloc 44, type := ty, pos := ps, after := af, guard := none }).run Tryz.prog w = .ok (.value (.pointer (some ⟨w.heap.size, 0, none⟩))) (w.alloc (.cells [.bool false, .slice none 0 0, .bool false, .slice none 0 0, .bool false, .bool false, .slice none 0 0, .int .i64 0].toArray 44)) := by
 simp [execOp, go_sem]

noncomputable def addS (A B M : Int) (P Q : Pt) : Pt × Int × Int := if onB A B M P.x P.y P.i = true then (if onB A B M Q.x Q.y Q.i = true then (if (sumP A M P Q).2 = 0 then ((sumP A M P Q).1, 0, 0) else (⟨0, 0, false⟩, (sumP A M P Q).2, 6)) else (⟨0, 0, false⟩, 0, 1)) else (⟨0, 0, false⟩, 0, 1)
noncomputable def zDb (A B M : Int) (n : Int) (P : Pt) : Pt × Int × Int := if onB A B M P.x P.y P.i = true then (if (zCj A M P n).2 = 0 then ((zCj A M P n).1, 0, 0) else (⟨0, 0, false⟩, (zCj A M P n).2, 6)) else (⟨0, 0, false⟩, 0, 1)
def Fq.sm (R : Pt × Int × Int) : Fq := Fq.st [.n R.1.x, .n R.1.y, .v (.bool R.1.i), .n R.2.1, .v (.int .i64 R.2.2)]
theorem exAddS {w : World} {v v' u : Value} {A B M : Int} {P Q : Pt} (h : (Fq.st [.n A, .n B, .n M]).P v w) (h' : (Fq.pt P).P v' w) (h2 : (Fq.pt Q).P u w) (hM : ab M < pw 5) (hA : ab A < pw 5) (hB : ab B < pw 5) (hP : ab P.x < pw 5 ∧ ab P.y < pw 5) (hQ : ab Q.x < pw 5 ∧ ab Q.y < pw 5) {R : Pt × Int × Int} (hR : addS A B M P Q = R) :
  Calls Tryz.prog 31 #[v, v', u] w fun e w' => ∃ v', e = .returned v' ∧ Below w.heap.size w w' ∧ (Fq.tup3 (Fq.pt R.1) (Fq.num R.2.1) (Fq.is (.int .i64 R.2.2))).P v' w' := by
 subst hR
 unfold addS
 by_cases h3 : onB A B M P.x P.y P.i = true
 ·rw [if_pos h3]
  by_cases h4 : onB A B M Q.x Q.y Q.i = true
  ·rw [if_pos h4]
   by_cases h5 : (sumP A M P Q).2 = 0
   ·rw [if_pos h5]; exact exAddP h h' h2 hM hA hB hP hQ h3 h4 rfl h5
   ·rw [if_neg h5]; exact exAddN h h' h2 hM hA hB hP hQ h3 h4 rfl h5
  ·rw [if_neg h4]; exact exAddE2 h h' h2 hM hA hB hP hQ h3 (zCr h4)
 ·rw [if_neg h3]; exact exAddE1 h h' h2 hM hA hB hP hQ (zCr h3)
theorem exTimesS {w : World} {v v' u : Value} {A B M n : Int} {P : Pt} (h : (Fq.st [.n A, .n B, .n M]).P v w) (h' : Num w v' n) (g : (Fq.pt P).P u w) (hM : ab M < pw 5) (hA : ab A < pw 5) (hB : ab B < pw 5) (hn : ab n < pw 20) (hP : ab P.x < pw 5 ∧ ab P.y < pw 5) {R : Pt × Int × Int} (hR : zDb A B M n P = R) :
  Calls Tryz.prog 35 #[v, v', u] w fun e w' => ∃ v', e = .returned v' ∧ Below w.heap.size w w' ∧ (Fq.tup3 (Fq.pt R.1) (Fq.num R.2.1) (Fq.is (.int .i64 R.2.2))).P v' w' := by
 subst hR
 unfold zDb
 by_cases h3 : onB A B M P.x P.y P.i = true
 ·rw [if_pos h3]
  by_cases h5 : (zCj A M P n).2 = 0
  ·rw [if_pos h5]
   by_cases h6 : n < 0
   ·exact exTimes10 h h' g hM hA hB hn hP h3 rfl h6 h5
   ·exact exTimes00 h h' g hM hA hB hn hP h3 rfl h6 h5
  ·rw [if_neg h5]
   by_cases h6 : n < 0
   ·exact exTimes11 h h' g hM hA hB hn hP h3 rfl h6 h5
   ·exact exTimes01 h h' g hM hA hB hn hP h3 rfl h6 h5
 ·rw [if_neg h3]; exact exTimesE h h' g hM hA hB hn hP (zCr h3)
theorem zD4 {x : Int} (h0 : -9223372036854775808 ≤ x) (h1 : x ≤ 9223372036854775807) : ab x < pw 3 := by
 have hp : pw 3 = 79228162514264337593543950336 := by decide
 rw [hp]
 unfold ab
 omega
def zE0 (P Q : Pt) : Bool := decide (P.i = Q.i) && (decide (P.x = Q.x) && decide (P.y = Q.y))
section
variable {os : List Oper} {Q : Exit → Act → World → Prop} {a : Act} {p : Pq} {B B0 : Nat} {w0 : World}
variable {i s : Nat} {d : Option Tmp} {ty : TypeId} {ps : String} {af : Array Edge} {gd : Option (Nat × Bool)}
theorem zL0 {x0 : Operand} {z0_0 : Int} {z0_1 : Int} {u0_2 : Bool} {x1 : Operand} {z1 : Int} {x2 : Operand} {u2 : Int} (hp : p.Ok B B0) (hF : p.Free i) (hg : GdQ os a p B B0 w0 af gd) (h0 : SrcQ os a p B B0 w0 af x0 (Fq.st [.n z0_0, .n z0_1, .v (.bool u0_2)]).P) (h1 : SrcQ os a p B B0 w0 af x1 fun v w => Num w v z1) (h2 : SrcQ os a p B B0 w0 af x2 fun v _ => v = .int .i64 u2) (hC : ∀ v w, (Fq.st [.n z0_0, .n z0_1, .v (.bool u0_2), .n z1, .v (.int .i64 u2)]).P v w → (p.c i).P v w) :
  zAr os Q a p B B0 w0 i { dst := d, op := .build 44 #[(0, x0), (1, x1), (2, x2)], type := ty, pos := ps, after := af, guard := gd } := by
 refine zBk hp hF hg fun L vs w hG hL hc hd => ?_
 have g0 := h0 L vs w hG hd
 obtain ⟨_, e0, _, _, _, rfl, a0_n0, _, _, _, rfl, a0_n1, _, rfl, _, rfl⟩ := g0
 obtain ⟨n0_0, ao0_0, k0_0, c0_0, e0_0⟩ := a0_n0.parts
 have m0_0 := a0_n0
 rw [e0_0] at m0_0
 obtain ⟨n0_1, ao0_1, k0_1, c0_1, e0_1⟩ := a0_n1.parts
 have m0_1 := a0_n1
 rw [e0_1] at m0_1
 injection e0_0 with f0_0
 have f0_0 := congrArg Array.toList f0_0
 simp at f0_0
 obtain ⟨rfl, rfl⟩ := f0_0
 injection e0_1 with f0_1
 have f0_1 := congrArg Array.toList f0_1
 simp at f0_1
 obtain ⟨rfl, rfl⟩ := f0_1
 have g1 := h1 L vs w hG hd
 obtain ⟨n1, ao1, k1, c1, e1⟩ := g1.parts
 have m1 : Num w (.agg #[.bool n1, .slice ao1 k1 c1]) z1 := by rw [← e1]; exact g1
 have g2 := h2 L vs w hG hd
 refine ⟨.agg #[.bool n0_0, .slice ao0_0 k0_0 c0_0, .bool n0_1, .slice ao0_1 k0_1 c0_1, .bool u0_2, .bool n1, .slice ao1 k1 c1, .int .i64 u2], ?_, hC _ _ ⟨_, rfl, _, _, _, rfl, m0_0, _, _, _, rfl, m0_1, _, rfl, rfl, _, _, _, rfl, m1, _, rfl, rfl, rfl⟩⟩
 generalize (lay os.toArray L vs os.toArray.size a).eval = ρ at e0 e1 g2
 simp [execOp, go_sem, e0, e1, g2]
end
set_option maxRecDepth 100000 in
set_option maxHeartbeats 4000000 in
theorem exAt {w : World} {x y : Int} (hx : -9223372036854775808 ≤ x ∧ x ≤ 9223372036854775807) (hy : -9223372036854775808 ≤ y ∧ y ≤ 9223372036854775807) :
  Calls Tryz.prog 18 #[.int .i64 x, .int .i64 y] w fun e w' => ∃ v', e = .returned v' ∧ Below w.heap.size w w' ∧ (Fq.st [.n x, .n y, .v (.bool false)]).P v' w' := by
 have HX := hidd hx
 have HY := hidd hy
 have Bx : Hid (ab x < pw 3) := zD4 hx.1 hx.2
 have By : Hid (ab y < pw 3) := zD4 hy.1 hy.2
 clear hx hy
 obtain ⟨w1, b1, hw1, hb1, hs1, E⟩ := zB8 w (F := Fq.st [.n 0, .n 0, .v (.bool false)]) (us := [.bool false, .slice none 0 0, .bool false, .slice none 0 0, .bool false]) 36 rfl (by simp) ((Fits.tame (zA1 w))) (zN6 _)
 go_enter Tryz.func18, Tryz.ntmps18
 go_upto_region 1 with (fail)
 rw [← hw1]
 rw [← hb1]
 clear hw1 hb1 hs1
 refine rg [Fq.is (.int .i64 x), Fq.num x, Fq.is (.int .i64 y), Fq.num y, Fq.st [.n x, .n y, .v (.bool false)], Fq.any] [some (5, Fq.st [.n x, .n y, .v (.bool false)])] [] E (fun hp => ⟨?_, ?_, ?_, ?_, ?_, ?_, tv⟩) ?_
 ·exact zAe hp fo tv (sqo 0)
 ·exact wXa (Fq.is (.int .i64 x)) hp zBg (sqi 0) fun v w h => (by subst h; exact rOfK w x HX.out.1 HX.out.2)
 ·exact zAe hp fo tv (sqo 1)
 ·exact wXa (Fq.is (.int .i64 y)) hp zBg (sqi 2) fun v w h => (by subst h; exact rOfK w y HY.out.1 HY.out.2)
 ·exact zFx (z0 := x) (z1 := y) hp fo tv (sqi 1) (sqi 3) (fun v w h => h)
 ·exact sO 0 4 hp (mq 0 rfl) zAy (sqo 4)
 intro L vs w2 nb hL hC hn E2
 have e0 := wXi hC 0
 have e2 := wXi hC 2
 have E := E2; simp only [LM, zAb] at E
 rw [zAa hL]
 simp only [SP, Nat.zero_add, Nat.reduceAdd]
 rw [e0, e2]
 generalize vs 1 = u2_1
 generalize vs 3 = u2_3
 generalize vs 4 = u2_4
 clear e0 e2 hC hn E2 hL vs L nb
 clear HX HY
 obtain ⟨_, _, hc0, hf0⟩ := zAu (E.box 0 rfl)
 have hP0 := hf0
 obtain ⟨r0_p0, r0_q0, _, rfl, _r0_n0, r0_p1, r0_q1, _, rfl, _r0_n1, _, rfl, _, rfl⟩ := hf0
 have c0_0 := hc0 0 (by simp)
 have c0_1 := hc0 1 (by simp)
 have c0_2 := hc0 2 (by simp)
 have c0_3 := hc0 3 (by simp)
 have c0_4 := hc0 4 (by simp)
 simp only [List.getD_cons_zero, List.getD_cons_succ] at c0_0 c0_1 c0_2 c0_3 c0_4
 clear hc0
 clear Bx By
 go_wp2
 refine bodyPost_ret (v := .agg #[r0_p0, r0_q0, r0_p1, r0_q1, .bool false]) ?_ rfl ⟨_, rfl, E.below, ⟨_, rfl, hP0⟩⟩
 simp [results, Tryz.results18, go_sem, c0_0, c0_1, c0_2, c0_3, c0_4]

set_option maxRecDepth 100000 in
set_option maxHeartbeats 4000000 in
theorem zGk {w : World} {v v' u : Value} {A B M : Int} {P Q : Pt} (h : (Fq.st [.n A, .n B, .n M]).P v w) (h' : (Fq.pt P).P v' w) (h2 : (Fq.pt Q).P u w) (hM : ab M < pw 5) (hA : ab A < pw 5) (hB : ab B < pw 5) (hP : ab P.x < pw 5 ∧ ab P.y < pw 5) (hQ : ab Q.x < pw 5 ∧ ab Q.y < pw 5) {R : Pt × Int × Int} (hR : addS A B M P Q = R) :
  Calls Tryz.prog 10 #[v, v', u] w fun e w' => ∃ v', e = .returned v' ∧ Below w.heap.size w w' ∧ (Fq.sm R).P v' w' := by
 replace hM := hidd hM
 replace hA := hidd hA
 replace hB := hidd hB
 replace hP := hidd hP
 replace hQ := hidd hQ
 replace hR := hidd hR
 obtain ⟨_, rfl, hf0⟩ := h
 have hF0 := hf0
 obtain ⟨y0_p0, y0_q0, _, rfl, _y0_n0, y0_p1, y0_q1, _, rfl, _y0_n1, y0_p2, y0_q2, _, rfl, _y0_n2, rfl⟩ := hf0
 obtain ⟨_, rfl, hf1⟩ := h'
 have hF1 := hf1
 obtain ⟨y1_p0, y1_q0, _, rfl, _y1_n0, y1_p1, y1_q1, _, rfl, _y1_n1, _, rfl, _, rfl⟩ := hf1
 obtain ⟨_, rfl, hf2⟩ := h2
 have hF2 := hf2
 obtain ⟨y2_p0, y2_q0, _, rfl, _y2_n0, y2_p1, y2_q1, _, rfl, _y2_n1, _, rfl, _, rfl⟩ := hf2
 obtain ⟨w1, b1, hw1, hb1, hs1, E⟩ := gS w 34 hF0
 obtain ⟨w2, b2, hw2, hb2, hs2, E⟩ := fS E hs1 36 hF1
 obtain ⟨w3, b3, hw3, hb3, hs3, E⟩ := fS E hs2 36 hF2
 obtain ⟨w4, b4, hw4, hb4, hs4, E⟩ := fO E hs3 44 zBt
 go_enter Tryz.func10, Tryz.ntmps10
 go_upto_region 1 with (fail)
 rw [← hw1]
 rw [← hw2]
 rw [← hw3]
 rw [← hw4]
 rw [← hb4]
 rw [← hb3]
 rw [← hb2]
 rw [← hb1]
 clear hw1 hw2 hw3 hw4 hb1 hb2 hb3 hb4 hs4 hs1 hs2 hs3
 refine rg [Fq.st [.n A, .n B, .n M], Fq.st [.n P.x, .n P.y, .v (.bool P.i)], Fq.st [.n Q.x, .n Q.y, .v (.bool Q.i)], Fq.tup3 (Fq.st [.n R.1.x, .n R.1.y, .v (.bool R.1.i)]) (Fq.num R.2.1) (Fq.is (.int .i64 R.2.2)), Fq.tup3 (Fq.st [.n R.1.x, .n R.1.y, .v (.bool R.1.i)]) (Fq.num R.2.1) (Fq.is (.int .i64 R.2.2)), Fq.st [.n R.1.x, .n R.1.y, .v (.bool R.1.i)], Fq.num R.2.1, Fq.is (.int .i64 R.2.2), Fq.any, Fq.any, Fq.any, Fq.any, Fq.is (.int .i64 R.2.2)] N4 [⟨8, 10, 5, Fq.st [.n 0, .n 0, .v (.bool false)], Fq.st [.n R.1.x, .n R.1.y, .v (.bool R.1.i)], none⟩, ⟨9, 11, 2, Fq.num 0, Fq.num R.2.1, none⟩] E (fun hp => ⟨?_, ?_, ?_, ?_, ?_, ?_, ?_, ?_, ?_, ?_, ?_, ?_, ?_, tv⟩) ?_
 ·exact lS 0 6 hp (mq 3 rfl) zAm (sqo 3)
 ·exact lS 0 5 hp (mq 2 rfl) zAk (sqo 4)
 ·exact lS 0 5 hp (mq 1 rfl) zAk (sqo 5)
 ·exact zBa (F := (Fq.st [.n A, .n B, .n M]).P) (G := (Fq.st [.n P.x, .n P.y, .v (.bool P.i)]).P) (F3 := (Fq.st [.n Q.x, .n Q.y, .v (.bool Q.i)]).P) hp fo tv (zNg) (sqi 0) (sqi 1) (sqi 2) (fun v v' u w h h' g => exAddS h h' g hM.out hA.out hB.out hP.out hQ.out hR.out)
 ·exact zAe hp fo tv (sqi 3)
 ·exact zBx hp fo tv (sqi 4) (fun v1 v2 v3 w h1 h2 h3 => ⟨_, rfl, h1⟩)
 ·exact zBx hp fo tv (sqi 4) (fun v1 v2 v3 w h1 h2 h3 => ⟨_, rfl, h2⟩)
 ·exact zBx hp fo tv (sqi 4) (fun v1 v2 v3 w h1 h2 h3 => ⟨_, rfl, h3⟩)
 ·exact aS hp (mq 0 rfl) zA1 zC9
 ·exact aN hp (mq 1 rfl)
 ·exact sS 5 hp (mq 0 rfl) zAy
 ·exact sN 6 hp (mq 1 rfl)
 ·exact zAo hp fo tv (sqi 7)
 intro L vs w5 nb hL hC hn E5
 have e7 := wXi hC 7
 have e12 := wXi hC 12
 have e8 : vs 8 = .pointer (some ⟨nb 8, 0, none⟩) := hn _ (mq 0 rfl)
 have e9 : vs 9 = .pointer (some ⟨nb 9, 0, none⟩) := hn _ (mq 1 rfl)
 have E := E5; simp only [LM, zAb] at E
 rw [zAa hL]
 simp only [SP, Nat.zero_add, Nat.reduceAdd]
 rw [e7, e12, e8, e9]
 generalize nb 8 = b5_8 at E ⊢
 generalize nb 9 = b5_9 at E ⊢
 generalize vs 0 = u5_0
 generalize vs 1 = u5_1
 generalize vs 2 = u5_2
 generalize vs 3 = u5_3
 generalize vs 4 = u5_4
 generalize vs 5 = u5_5
 generalize vs 6 = u5_6
 clear e7 e12 e8 e9 hC hn E5 hL vs L nb
 go_upto_region 2 with (fail)
 refine rg [Fq.st [.n R.1.x, .n R.1.y, .v (.bool R.1.i)], Fq.num R.2.1, Fq.is (.int .i64 R.2.2), Fq.st [.n R.1.x, .n R.1.y, .v (.bool R.1.i), .n R.2.1, .v (.int .i64 R.2.2)], Fq.any] [none, none, some (4, Fq.st [.n R.1.x, .n R.1.y, .v (.bool R.1.i), .n R.2.1, .v (.int .i64 R.2.2)]), none, none, none] [] E (fun hp => ⟨?_, ?_, ?_, ?_, ?_, tv⟩) ?_
 ·exact lS 0 5 hp (mq 0 rfl) zAk (sqo 7)
 ·exact lI 0 hp (mq 1 rfl) (sqo 8) fun us w hl h => zAh hl h
 ·exact zAe hp fo tv (sqo 9)
 ·exact zL0 (z1 := R.2.1) (u2 := R.2.2) (z0_0 := R.1.x) (z0_1 := R.1.y) (u0_2 := R.1.i) hp fo tv (sqi 0) (sqi 1) (sqi 2) (fun v w h => h)
 ·exact sO 0 3 hp (mq 2 rfl) zA9 (sqo 6)
 intro L vs w6 nb hL hC hn E6
 have e2 := wXi hC 2
 have E := E6; simp only [LM, zAb] at E
 rw [zAa hL]
 simp only [SP, Nat.zero_add, Nat.reduceAdd]
 rw [e2]
 generalize vs 0 = u6_0
 generalize vs 1 = u6_1
 generalize vs 3 = u6_3
 clear e2 hC hn E6 hL vs L nb
 clear hR
 obtain ⟨_, _, hc0, hf0⟩ := zAu (E.box 2 rfl)
 have hP0 := hf0
 obtain ⟨r0_p0, r0_q0, _, rfl, _r0_n0, r0_p1, r0_q1, _, rfl, _r0_n1, _, rfl, _, r0_p3, r0_q3, _, rfl, _r0_n3, _, rfl, _, rfl⟩ := hf0
 have c0_0 := hc0 0 (by simp)
 have c0_1 := hc0 1 (by simp)
 have c0_2 := hc0 2 (by simp)
 have c0_3 := hc0 3 (by simp)
 have c0_4 := hc0 4 (by simp)
 have c0_5 := hc0 5 (by simp)
 have c0_6 := hc0 6 (by simp)
 have c0_7 := hc0 7 (by simp)
 simp only [List.getD_cons_zero, List.getD_cons_succ] at c0_0 c0_1 c0_2 c0_3 c0_4 c0_5 c0_6 c0_7
 clear hc0
 clear hM hA hB hP hQ
 go_wp2
 refine bodyPost_ret (v := .agg #[r0_p0, r0_q0, r0_p1, r0_q1, .bool R.1.i, r0_p3, r0_q3, .int .i64 R.2.2]) ?_ rfl ⟨_, rfl, E.below, ⟨_, rfl, hP0⟩⟩
 simp [results, Tryz.results10, go_sem, c0_0, c0_1, c0_2, c0_3, c0_4, c0_5, c0_6, c0_7]

set_option maxRecDepth 100000 in
set_option maxHeartbeats 4000000 in
theorem zHp {w : World} {v v' u : Value} {A B M n : Int} {P : Pt} (h : (Fq.st [.n A, .n B, .n M]).P v w) (h' : Num w v' n) (g : (Fq.pt P).P u w) (hM : ab M < pw 5) (hA : ab A < pw 5) (hB : ab B < pw 5) (hn : ab n < pw 20) (hP : ab P.x < pw 5 ∧ ab P.y < pw 5) {R : Pt × Int × Int} (hR : zDb A B M n P = R) :
  Calls Tryz.prog 15 #[v, v', u] w fun e w' => ∃ v', e = .returned v' ∧ Below w.heap.size w w' ∧ (Fq.sm R).P v' w' := by
 replace hM := hidd hM
 replace hA := hidd hA
 replace hB := hidd hB
 replace hn := hidd hn
 replace hP := hidd hP
 replace hR := hidd hR
 obtain ⟨_, rfl, hf0⟩ := h
 have hF0 := hf0
 obtain ⟨y0_p0, y0_q0, _, rfl, _y0_n0, y0_p1, y0_q1, _, rfl, _y0_n1, y0_p2, y0_q2, _, rfl, _y0_n2, rfl⟩ := hf0
 obtain ⟨n1, ao1, k1, c1, rfl⟩ := h'.parts
 obtain ⟨_, rfl, hf2⟩ := g
 have hF2 := hf2
 obtain ⟨y2_p0, y2_q0, _, rfl, _y2_n0, y2_p1, y2_q1, _, rfl, _y2_n1, _, rfl, _, rfl⟩ := hf2
 obtain ⟨w1, b1, hw1, hb1, hs1, E⟩ := gS w 34 hF0
 obtain ⟨w2, b2, hw2, hb2, hs2, E⟩ := fN E hs1 32 h'
 obtain ⟨w3, b3, hw3, hb3, hs3, E⟩ := fS E hs2 36 hF2
 obtain ⟨w4, b4, hw4, hb4, hs4, E⟩ := fO E hs3 44 zBt
 go_enter Tryz.func15, Tryz.ntmps15
 go_upto_region 1 with (fail)
 rw [← hw1]
 rw [← hw2]
 rw [← hw3]
 rw [← hw4]
 rw [← hb4]
 rw [← hb3]
 rw [← hb2]
 rw [← hb1]
 clear hw1 hw2 hw3 hw4 hb1 hb2 hb3 hb4 hs4 hs1 hs2 hs3
 refine rg [Fq.st [.n A, .n B, .n M], Fq.num n, Fq.st [.n P.x, .n P.y, .v (.bool P.i)], Fq.tup3 (Fq.st [.n R.1.x, .n R.1.y, .v (.bool R.1.i)]) (Fq.num R.2.1) (Fq.is (.int .i64 R.2.2)), Fq.tup3 (Fq.st [.n R.1.x, .n R.1.y, .v (.bool R.1.i)]) (Fq.num R.2.1) (Fq.is (.int .i64 R.2.2)), Fq.st [.n R.1.x, .n R.1.y, .v (.bool R.1.i)], Fq.num R.2.1, Fq.is (.int .i64 R.2.2), Fq.any, Fq.any, Fq.any, Fq.any, Fq.is (.int .i64 R.2.2)] N4 [⟨8, 10, 5, Fq.st [.n 0, .n 0, .v (.bool false)], Fq.st [.n R.1.x, .n R.1.y, .v (.bool R.1.i)], none⟩, ⟨9, 11, 2, Fq.num 0, Fq.num R.2.1, none⟩] E (fun hp => ⟨?_, ?_, ?_, ?_, ?_, ?_, ?_, ?_, ?_, ?_, ?_, ?_, ?_, tv⟩) ?_
 ·exact lS 0 6 hp (mq 3 rfl) zAm (sqo 3)
 ·exact lI 0 hp (mq 2 rfl) (sqo 4) fun us w hl h => zAh hl h
 ·exact lS 0 5 hp (mq 1 rfl) zAk (sqo 5)
 ·exact zBa (F := (Fq.st [.n A, .n B, .n M]).P) (G := (Fq.num n).P) (F3 := (Fq.st [.n P.x, .n P.y, .v (.bool P.i)]).P) hp fo tv (zNh) (sqi 0) (sqi 1) (sqi 2) (fun v v' u w h h' g => exTimesS h h' g hM.out hA.out hB.out hn.out hP.out hR.out)
 ·exact zAe hp fo tv (sqi 3)
 ·exact zBx hp fo tv (sqi 4) (fun v1 v2 v3 w h1 h2 h3 => ⟨_, rfl, h1⟩)
 ·exact zBx hp fo tv (sqi 4) (fun v1 v2 v3 w h1 h2 h3 => ⟨_, rfl, h2⟩)
 ·exact zBx hp fo tv (sqi 4) (fun v1 v2 v3 w h1 h2 h3 => ⟨_, rfl, h3⟩)
 ·exact aS hp (mq 0 rfl) zA1 zC9
 ·exact aN hp (mq 1 rfl)
 ·exact sS 5 hp (mq 0 rfl) zAy
 ·exact sN 6 hp (mq 1 rfl)
 ·exact zAo hp fo tv (sqi 7)
 intro L vs w5 nb hL hC hn E5
 have e7 := wXi hC 7
 have e12 := wXi hC 12
 have e8 : vs 8 = .pointer (some ⟨nb 8, 0, none⟩) := hn _ (mq 0 rfl)
 have e9 : vs 9 = .pointer (some ⟨nb 9, 0, none⟩) := hn _ (mq 1 rfl)
 have E := E5; simp only [LM, zAb] at E
 rw [zAa hL]
 simp only [SP, Nat.zero_add, Nat.reduceAdd]
 rw [e7, e12, e8, e9]
 generalize nb 8 = b5_8 at E ⊢
 generalize nb 9 = b5_9 at E ⊢
 generalize vs 0 = u5_0
 generalize vs 1 = u5_1
 generalize vs 2 = u5_2
 generalize vs 3 = u5_3
 generalize vs 4 = u5_4
 generalize vs 5 = u5_5
 generalize vs 6 = u5_6
 clear e7 e12 e8 e9 hC hn E5 hL vs L nb
 go_upto_region 2 with (fail)
 refine rg [Fq.st [.n R.1.x, .n R.1.y, .v (.bool R.1.i)], Fq.num R.2.1, Fq.is (.int .i64 R.2.2), Fq.st [.n R.1.x, .n R.1.y, .v (.bool R.1.i), .n R.2.1, .v (.int .i64 R.2.2)], Fq.any] [none, none, some (4, Fq.st [.n R.1.x, .n R.1.y, .v (.bool R.1.i), .n R.2.1, .v (.int .i64 R.2.2)]), none, none, none] [] E (fun hp => ⟨?_, ?_, ?_, ?_, ?_, tv⟩) ?_
 ·exact lS 0 5 hp (mq 0 rfl) zAk (sqo 7)
 ·exact lI 0 hp (mq 1 rfl) (sqo 8) fun us w hl h => zAh hl h
 ·exact zAe hp fo tv (sqo 9)
 ·exact zL0 (z1 := R.2.1) (u2 := R.2.2) (z0_0 := R.1.x) (z0_1 := R.1.y) (u0_2 := R.1.i) hp fo tv (sqi 0) (sqi 1) (sqi 2) (fun v w h => h)
 ·exact sO 0 3 hp (mq 2 rfl) zA9 (sqo 6)
 intro L vs w6 nb hL hC hn E6
 have e2 := wXi hC 2
 have E := E6; simp only [LM, zAb] at E
 rw [zAa hL]
 simp only [SP, Nat.zero_add, Nat.reduceAdd]
 rw [e2]
 generalize vs 0 = u6_0
 generalize vs 1 = u6_1
 generalize vs 3 = u6_3
 clear e2 hC hn E6 hL vs L nb
 clear hR
 obtain ⟨_, _, hc0, hf0⟩ := zAu (E.box 2 rfl)
 have hP0 := hf0
 obtain ⟨r0_p0, r0_q0, _, rfl, _r0_n0, r0_p1, r0_q1, _, rfl, _r0_n1, _, rfl, _, r0_p3, r0_q3, _, rfl, _r0_n3, _, rfl, _, rfl⟩ := hf0
 have c0_0 := hc0 0 (by simp)
 have c0_1 := hc0 1 (by simp)
 have c0_2 := hc0 2 (by simp)
 have c0_3 := hc0 3 (by simp)
 have c0_4 := hc0 4 (by simp)
 have c0_5 := hc0 5 (by simp)
 have c0_6 := hc0 6 (by simp)
 have c0_7 := hc0 7 (by simp)
 simp only [List.getD_cons_zero, List.getD_cons_succ] at c0_0 c0_1 c0_2 c0_3 c0_4 c0_5 c0_6 c0_7
 clear hc0
 clear hM hA hB hn hP
 go_wp2
 refine bodyPost_ret (v := .agg #[r0_p0, r0_q0, r0_p1, r0_q1, .bool R.1.i, r0_p3, r0_q3, .int .i64 R.2.2]) ?_ rfl ⟨_, rfl, E.below, ⟨_, rfl, hP0⟩⟩
 simp [results, Tryz.results15, go_sem, c0_0, c0_1, c0_2, c0_3, c0_4, c0_5, c0_6, c0_7]

set_option maxRecDepth 100000 in
set_option maxHeartbeats 4000000 in
theorem zGl {w : World} {v v' : Value} {P Q : Pt} (h : (Fq.pt P).P v w) (h' : (Fq.pt Q).P v' w) {t : Bool} (ht : zE0 P Q = t) :
  Calls Tryz.prog 14 #[v, v'] w fun e w' => ∃ v', e = .returned v' ∧ Below w.heap.size w w' ∧ v' = .bool t := by
 obtain ⟨_, rfl, hf0⟩ := h
 have hF0 := hf0
 obtain ⟨y0_p0, y0_q0, _, rfl, _y0_n0, y0_p1, y0_q1, _, rfl, _y0_n1, _, rfl, _, rfl⟩ := hf0
 obtain ⟨_, rfl, hf1⟩ := h'
 have hF1 := hf1
 obtain ⟨y1_p0, y1_q0, _, rfl, _y1_n0, y1_p1, y1_q1, _, rfl, _y1_n1, _, rfl, _, rfl⟩ := hf1
 obtain ⟨w1, b1, hw1, hb1, hs1, E⟩ := gS w 36 hF0
 obtain ⟨w2, b2, hw2, hb2, hs2, E⟩ := fS E hs1 36 hF1
 go_enter Tryz.func14, Tryz.ntmps14
 go_upto_region 1 with (fail)
 rw [← hw1]
 rw [← hw2]
 rw [← hb2]
 rw [← hb1]
 clear hw1 hw2 hb1 hb2 hs2 hs1
 go_upto_region 1 with (fail)
 by_cases hi : P.i = Q.i
 ·by_cases hx : P.x = Q.x
  ·by_cases hy : P.y = Q.y
   ·have ht2 : t = true := ht.symm.trans (by unfold zE0; rw [hi, hx, hy]; simp)
    subst ht2
    clear ht
    have HI := hidd (decide_eq_true hi)
    have HX := hidd (decide_eq_true hx)
    have HY := hidd (decide_eq_true hy)
    have HI2 : Hid ((P.i == Q.i) = true) := by show _ = _; rw [hi]; simp
    clear hi hx hy HI
    refine rg [ip b1 4, Fq.is (.bool P.i), ip b2 4, Fq.is (.bool Q.i), yT, yT, ip b1 0, Fq.num P.x, ip b2 0, Fq.num Q.x, yT, yT, yT, ip b1 2, Fq.num P.y, ip b2 2, Fq.num Q.y, yT, yT, yT] N2 [] E (fun hp => ⟨?_, ?_, ?_, ?_, ?_, ?_, ?_, ?_, ?_, ?_, ?_, ?_, ?_, ?_, ?_, ?_, ?_, ?_, ?_, ?_, tv⟩) ?_
    ·exact qa b1 0 4 hp (sqo 2)
    ·exact wXc 4 hp (mq 1 rfl) (sqi 0)
    ·exact qa b2 0 4 hp (sqo 3)
    ·exact wXc 4 hp (mq 0 rfl) (sqi 2)
    ·exact zAi (F := fun v _ => v = .bool P.i) (G := fun v _ => v = .bool Q.i) hp fo tv (sqi 1) (sqi 3) (fun ρ w hc h h' => ⟨.bool true, by simp [execOp, go_sem, h, h', HI2.out], rfl⟩)
    ·exact zAe hp fo tv (sqi 4)
    ·exact zAv (b := b1) (off := 0) (off' := 0) hp fo gqi (sqo 2) (fun ρ w h => by simp [execOp, go_sem, h]) (fun _ => rfl)
    ·exact lG 0 2 hp gqi (mq 1 rfl) zAd (sqi 6) fun v w h => zA8 h
    ·exact zAv (b := b2) (off := 0) (off' := 0) hp fo gqi (sqo 3) (fun ρ w h => by simp [execOp, go_sem, h]) (fun _ => rfl)
    ·exact lG 0 2 hp gqi (mq 0 rfl) zAd (sqi 8) fun v w h => zA8 h
    ·exact zAt (F := (Fq.num P.x).P) (G := (Fq.num Q.x).P) hp fo gqi (zBy) (sqi 7) (sqi 9) (fun v v' w h h' => zBz h h' HX.out)
    ·exact zAi (F := fun v _ => v = .bool true) (G := fun v _ => v = .bool true) hp fo tv (sqi 5) (sqi 10) (fun ρ w hc h h' => ⟨_, by simp [execOp, go_sem, h, h'], rfl⟩)
    ·exact zAe hp fo tv (sqi 11)
    ·exact zAv (b := b1) (off := 0) (off' := 2) hp fo gqi (sqo 2) (fun ρ w h => by simp [execOp, go_sem, h]) (fun _ => rfl)
    ·exact lG 2 2 hp gqi (mq 1 rfl) zAd (sqi 13) fun v w h => zA8 h
    ·exact zAv (b := b2) (off := 0) (off' := 2) hp fo gqi (sqo 3) (fun ρ w h => by simp [execOp, go_sem, h]) (fun _ => rfl)
    ·exact lG 2 2 hp gqi (mq 0 rfl) zAd (sqi 15) fun v w h => zA8 h
    ·exact zAt (F := (Fq.num P.y).P) (G := (Fq.num Q.y).P) hp fo gqi (zBy) (sqi 14) (sqi 16) (fun v v' w h h' => zBz h h' HY.out)
    ·exact zAi (F := fun v _ => v = .bool true) (G := fun v _ => v = .bool true) hp fo tv (sqi 12) (sqi 17) (fun ρ w hc h h' => ⟨_, by simp [execOp, go_sem, h, h'], rfl⟩)
    ·exact zAo hp fo tv (sqi 18)
    intro L vs w3 nb hL hC hn E3
    have e0 := wXi hC 0
    have e1 := wXi hC 1
    have e2 := wXi hC 2
    have e3 := wXi hC 3
    have e4 := wXi hC 4
    have e5 := wXi hC 5
    have e6 := wXi hC 6
    have e8 := wXi hC 8
    have e10 := wXi hC 10
    have e11 := wXi hC 11
    have e12 := wXi hC 12
    have e13 := wXi hC 13
    have e15 := wXi hC 15
    have e17 := wXi hC 17
    have e18 := wXi hC 18
    have e19 := wXi hC 19
    have E := E3; simp only [LM, zAb] at E
    rw [zAa hL]
    simp only [SP, Nat.zero_add, Nat.reduceAdd]
    rw [e0, e1, e2, e3, e4, e5, e6, e8, e10, e11, e12, e13, e15, e17, e18, e19]
    generalize vs 7 = u3_7
    generalize vs 9 = u3_9
    generalize vs 14 = u3_14
    generalize vs 16 = u3_16
    clear e0 e1 e2 e3 e4 e5 e6 e8 e10 e11 e12 e13 e15 e17 e18 e19 hC hn E3 hL vs L nb
    clear HX HY HI2
    go_wp2
    refine bodyPost_ret (v := .bool true) ?_ rfl ⟨_, rfl, E.below, rfl⟩
    simp [results, Tryz.results14, go_sem]
   ·have ht2 : t = false := ht.symm.trans (by unfold zE0; simp [hy])
    subst ht2
    clear ht
    have HX := hidd (decide_eq_true hx)
    have HY := hidd (decide_eq_false hy)
    have HI2 : Hid ((P.i == Q.i) = true) := by show _ = _; rw [hi]; simp
    clear hi hx hy
    refine rg [ip b1 4, Fq.is (.bool P.i), ip b2 4, Fq.is (.bool Q.i), yT, yT, ip b1 0, Fq.num P.x, ip b2 0, Fq.num Q.x, yT, yT, yT, ip b1 2, Fq.num P.y, ip b2 2, Fq.num Q.y, yF, yF, yF] N2 [] E (fun hp => ⟨?_, ?_, ?_, ?_, ?_, ?_, ?_, ?_, ?_, ?_, ?_, ?_, ?_, ?_, ?_, ?_, ?_, ?_, ?_, ?_, tv⟩) ?_
    ·exact qa b1 0 4 hp (sqo 2)
    ·exact wXc 4 hp (mq 1 rfl) (sqi 0)
    ·exact qa b2 0 4 hp (sqo 3)
    ·exact wXc 4 hp (mq 0 rfl) (sqi 2)
    ·exact zAi (F := fun v _ => v = .bool P.i) (G := fun v _ => v = .bool Q.i) hp fo tv (sqi 1) (sqi 3) (fun ρ w hc h h' => ⟨.bool true, by simp [execOp, go_sem, h, h', HI2.out], rfl⟩)
    ·exact zAe hp fo tv (sqi 4)
    ·exact zAv (b := b1) (off := 0) (off' := 0) hp fo gqi (sqo 2) (fun ρ w h => by simp [execOp, go_sem, h]) (fun _ => rfl)
    ·exact lG 0 2 hp gqi (mq 1 rfl) zAd (sqi 6) fun v w h => zA8 h
    ·exact zAv (b := b2) (off := 0) (off' := 0) hp fo gqi (sqo 3) (fun ρ w h => by simp [execOp, go_sem, h]) (fun _ => rfl)
    ·exact lG 0 2 hp gqi (mq 0 rfl) zAd (sqi 8) fun v w h => zA8 h
    ·exact zAt (F := (Fq.num P.x).P) (G := (Fq.num Q.x).P) hp fo gqi (zBy) (sqi 7) (sqi 9) (fun v v' w h h' => zBz h h' HX.out)
    ·exact zAi (F := fun v _ => v = .bool true) (G := fun v _ => v = .bool true) hp fo tv (sqi 5) (sqi 10) (fun ρ w hc h h' => ⟨_, by simp [execOp, go_sem, h, h'], rfl⟩)
    ·exact zAe hp fo tv (sqi 11)
    ·exact zAv (b := b1) (off := 0) (off' := 2) hp fo gqi (sqo 2) (fun ρ w h => by simp [execOp, go_sem, h]) (fun _ => rfl)
    ·exact lG 2 2 hp gqi (mq 1 rfl) zAd (sqi 13) fun v w h => zA8 h
    ·exact zAv (b := b2) (off := 0) (off' := 2) hp fo gqi (sqo 3) (fun ρ w h => by simp [execOp, go_sem, h]) (fun _ => rfl)
    ·exact lG 2 2 hp gqi (mq 0 rfl) zAd (sqi 15) fun v w h => zA8 h
    ·exact zAt (F := (Fq.num P.y).P) (G := (Fq.num Q.y).P) hp fo gqi (zBy) (sqi 14) (sqi 16) (fun v v' w h h' => zBz h h' HY.out)
    ·exact zAi (F := fun v _ => v = .bool true) (G := fun v _ => v = .bool false) hp fo tv (sqi 12) (sqi 17) (fun ρ w hc h h' => ⟨_, by simp [execOp, go_sem, h, h'], rfl⟩)
    ·exact zAo hp fo tv (sqi 18)
    intro L vs w4 nb hL hC hn E4
    have e0 := wXi hC 0
    have e1 := wXi hC 1
    have e2 := wXi hC 2
    have e3 := wXi hC 3
    have e4 := wXi hC 4
    have e5 := wXi hC 5
    have e6 := wXi hC 6
    have e8 := wXi hC 8
    have e10 := wXi hC 10
    have e11 := wXi hC 11
    have e12 := wXi hC 12
    have e13 := wXi hC 13
    have e15 := wXi hC 15
    have e17 := wXi hC 17
    have e18 := wXi hC 18
    have e19 := wXi hC 19
    have E := E4; simp only [LM, zAb] at E
    rw [zAa hL]
    simp only [SP, Nat.zero_add, Nat.reduceAdd]
    rw [e0, e1, e2, e3, e4, e5, e6, e8, e10, e11, e12, e13, e15, e17, e18, e19]
    generalize vs 7 = u4_7
    generalize vs 9 = u4_9
    generalize vs 14 = u4_14
    generalize vs 16 = u4_16
    clear e0 e1 e2 e3 e4 e5 e6 e8 e10 e11 e12 e13 e15 e17 e18 e19 hC hn E4 hL vs L nb
    clear HX HY HI2
    go_wp2
    refine bodyPost_ret (v := .bool false) ?_ rfl ⟨_, rfl, E.below, rfl⟩
    simp [results, Tryz.results14, go_sem]
  ·have ht2 : t = false := ht.symm.trans (by unfold zE0; simp [hx])
   subst ht2
   clear ht
   have HX := hidd (decide_eq_false hx)
   have HI2 : Hid ((P.i == Q.i) = true) := by show _ = _; rw [hi]; simp
   clear hi hx
   refine rg [ip b1 4, Fq.is (.bool P.i), ip b2 4, Fq.is (.bool Q.i), yT, yT, ip b1 0, Fq.num P.x, ip b2 0, Fq.num Q.x, yF, yF, yF, Fq.is (undef), Fq.is (undef), Fq.is (undef), Fq.is (undef), Fq.is (undef), yF, yF] N2 [] E (fun hp => ⟨?_, ?_, ?_, ?_, ?_, ?_, ?_, ?_, ?_, ?_, ?_, ?_, ?_, ?_, ?_, ?_, ?_, ?_, ?_, ?_, tv⟩) ?_
   ·exact qa b1 0 4 hp (sqo 2)
   ·exact wXc 4 hp (mq 1 rfl) (sqi 0)
   ·exact qa b2 0 4 hp (sqo 3)
   ·exact wXc 4 hp (mq 0 rfl) (sqi 2)
   ·exact zAi (F := fun v _ => v = .bool P.i) (G := fun v _ => v = .bool Q.i) hp fo tv (sqi 1) (sqi 3) (fun ρ w hc h h' => ⟨.bool true, by simp [execOp, go_sem, h, h', HI2.out], rfl⟩)
   ·exact zAe hp fo tv (sqi 4)
   ·exact zAv (b := b1) (off := 0) (off' := 0) hp fo gqi (sqo 2) (fun ρ w h => by simp [execOp, go_sem, h]) (fun _ => rfl)
   ·exact lG 0 2 hp gqi (mq 1 rfl) zAd (sqi 6) fun v w h => zA8 h
   ·exact zAv (b := b2) (off := 0) (off' := 0) hp fo gqi (sqo 3) (fun ρ w h => by simp [execOp, go_sem, h]) (fun _ => rfl)
   ·exact lG 0 2 hp gqi (mq 0 rfl) zAd (sqi 8) fun v w h => zA8 h
   ·exact zAt (F := (Fq.num P.x).P) (G := (Fq.num Q.x).P) hp fo gqi (zBy) (sqi 7) (sqi 9) (fun v v' w h h' => zBz h h' HX.out)
   ·exact zAi (F := fun v _ => v = .bool true) (G := fun v _ => v = .bool false) hp fo tv (sqi 5) (sqi 10) (fun ρ w hc h h' => ⟨_, by simp [execOp, go_sem, h, h'], rfl⟩)
   ·exact zAe hp fo tv (sqi 11)
   ·exact zAj hp fo rfl gqi (fun _ => rfl)
   ·exact zAj hp fo rfl gqi (fun _ => rfl)
   ·exact zAj hp fo rfl gqi (fun _ => rfl)
   ·exact zAj hp fo rfl gqi (fun _ => rfl)
   ·exact zAj hp fo rfl gqi (fun _ => rfl)
   ·exact zAi (F := fun v _ => v = .bool false) (G := fun v _ => v = .bool false) hp fo tv (sqi 12) (zAl (fun _ => rfl)) (fun ρ w hc h h' => ⟨_, by simp [execOp, go_sem, h, h'], rfl⟩)
   ·exact zAo hp fo tv (sqi 18)
   intro L vs w5 nb hL hC hn E5
   have e0 := wXi hC 0
   have e1 := wXi hC 1
   have e2 := wXi hC 2
   have e3 := wXi hC 3
   have e4 := wXi hC 4
   have e5 := wXi hC 5
   have e6 := wXi hC 6
   have e8 := wXi hC 8
   have e10 := wXi hC 10
   have e11 := wXi hC 11
   have e12 := wXi hC 12
   have e13 := wXi hC 13
   have e14 := wXi hC 14
   have e15 := wXi hC 15
   have e16 := wXi hC 16
   have e17 := wXi hC 17
   have e18 := wXi hC 18
   have e19 := wXi hC 19
   have E := E5; simp only [LM, zAb] at E
   rw [zAa hL]
   simp only [SP, Nat.zero_add, Nat.reduceAdd]
   rw [e0, e1, e2, e3, e4, e5, e6, e8, e10, e11, e12, e13, e14, e15, e16, e17, e18, e19]
   generalize vs 7 = u5_7
   generalize vs 9 = u5_9
   clear e0 e1 e2 e3 e4 e5 e6 e8 e10 e11 e12 e13 e14 e15 e16 e17 e18 e19 hC hn E5 hL vs L nb
   clear HX HI2
   go_wp2
   refine bodyPost_ret (v := .bool false) ?_ rfl ⟨_, rfl, E.below, rfl⟩
   simp [results, Tryz.results14, go_sem]
 ·have ht2 : t = false := ht.symm.trans (by unfold zE0; simp [hi])
  subst ht2
  clear ht
  have HI2 : Hid ((P.i == Q.i) = false) := by show _ = _; simp [hi]
  clear hi
  refine rg [ip b1 4, Fq.is (.bool P.i), ip b2 4, Fq.is (.bool Q.i), yF, yF, Fq.is (undef), Fq.is (undef), Fq.is (undef), Fq.is (undef), Fq.is (undef), yF, yF, Fq.is (undef), Fq.is (undef), Fq.is (undef), Fq.is (undef), Fq.is (undef), yF, yF] N2 [] E (fun hp => ⟨?_, ?_, ?_, ?_, ?_, ?_, ?_, ?_, ?_, ?_, ?_, ?_, ?_, ?_, ?_, ?_, ?_, ?_, ?_, ?_, tv⟩) ?_
  ·exact qa b1 0 4 hp (sqo 2)
  ·exact wXc 4 hp (mq 1 rfl) (sqi 0)
  ·exact qa b2 0 4 hp (sqo 3)
  ·exact wXc 4 hp (mq 0 rfl) (sqi 2)
  ·exact zAi (F := fun v _ => v = .bool P.i) (G := fun v _ => v = .bool Q.i) hp fo tv (sqi 1) (sqi 3) (fun ρ w hc h h' => ⟨.bool false, by simp [execOp, go_sem, h, h', HI2.out], rfl⟩)
  ·exact zAe hp fo tv (sqi 4)
  ·exact zAj hp fo rfl gqi (fun _ => rfl)
  ·exact zAj hp fo rfl gqi (fun _ => rfl)
  ·exact zAj hp fo rfl gqi (fun _ => rfl)
  ·exact zAj hp fo rfl gqi (fun _ => rfl)
  ·exact zAj hp fo rfl gqi (fun _ => rfl)
  ·exact zAi (F := fun v _ => v = .bool false) (G := fun v _ => v = .bool false) hp fo tv (sqi 5) (zAl (fun _ => rfl)) (fun ρ w hc h h' => ⟨_, by simp [execOp, go_sem, h, h'], rfl⟩)
  ·exact zAe hp fo tv (sqi 11)
  ·exact zAj hp fo rfl gqi (fun _ => rfl)
  ·exact zAj hp fo rfl gqi (fun _ => rfl)
  ·exact zAj hp fo rfl gqi (fun _ => rfl)
  ·exact zAj hp fo rfl gqi (fun _ => rfl)
  ·exact zAj hp fo rfl gqi (fun _ => rfl)
  ·exact zAi (F := fun v _ => v = .bool false) (G := fun v _ => v = .bool false) hp fo tv (sqi 12) (zAl (fun _ => rfl)) (fun ρ w hc h h' => ⟨_, by simp [execOp, go_sem, h, h'], rfl⟩)
  ·exact zAo hp fo tv (sqi 18)
  intro L vs w6 nb hL hC hn E6
  have e0 := wXi hC 0
  have e1 := wXi hC 1
  have e2 := wXi hC 2
  have e3 := wXi hC 3
  have e4 := wXi hC 4
  have e5 := wXi hC 5
  have e6 := wXi hC 6
  have e7 := wXi hC 7
  have e8 := wXi hC 8
  have e9 := wXi hC 9
  have e10 := wXi hC 10
  have e11 := wXi hC 11
  have e12 := wXi hC 12
  have e13 := wXi hC 13
  have e14 := wXi hC 14
  have e15 := wXi hC 15
  have e16 := wXi hC 16
  have e17 := wXi hC 17
  have e18 := wXi hC 18
  have e19 := wXi hC 19
  have E := E6; simp only [LM, zAb] at E
  rw [zAa hL]
  simp only [SP, Nat.zero_add, Nat.reduceAdd]
  rw [e0, e1, e2, e3, e4, e5, e6, e7, e8, e9, e10, e11, e12, e13, e14, e15, e16, e17, e18, e19]
  clear e0 e1 e2 e3 e4 e5 e6 e7 e8 e9 e10 e11 e12 e13 e14 e15 e16 e17 e18 e19 hC hn E6 hL vs L nb
  clear HI2
  go_wp2
  refine bodyPost_ret (v := .bool false) ?_ rfl ⟨_, rfl, E.below, rfl⟩
  simp [results, Tryz.results14, go_sem]

theorem tmod_same (s m : Int) : Int.tmod s m % m = s % m := by
 have h := Int.mul_tdiv_add_tmod s m
 calc Int.tmod s m % m = (m * Int.tdiv s m + Int.tmod s m) % m := by rw [Int.mul_add_emod_self_left]
  _ = s % m := by rw [h]
theorem tmod_bd {s m : Int} (hm : 0 < m) : -m < Int.tmod s m ∧ Int.tmod s m < m := by
 have h := Int.natAbs_tmod s m
 have h2 := Nat.mod_lt s.natAbs (show 0 < m.natAbs by omega)
 omega
theorem curve_b {m a x y t2 : Int} (ht2 : t2 = Int.tmod (y * y - x * x % m * x - a * x) m + m) (hm : 0 < m) : Int.tmod t2 m = (y * y - ((x * x) + a) * x) % m ∧ 0 < t2 ∧ t2 < 2 * m := by
 have h1 := tmod_bd (s := y * y - x * x % m * x - a * x) hm
 refine ⟨?_, by omega, by omega⟩
 rw [Int.tmod_eq_emod_of_nonneg (by omega), ht2, Int.add_emod_right, tmod_same]
 have h2 := Int.mul_ediv_add_emod (x * x) m
 have e : y * y - x * x % m * x - a * x = (y * y - ((x * x) + a) * x) + m * (x * x / m * x) := by
  have e1 : x * x * x = m * (x * x / m * x) + x * x % m * x := by
   rw [← Int.mul_assoc m, ← Int.add_mul, h2]
  rw [Int.add_mul]
  omega
 rw [e, Int.add_mul_emod_self_left]
theorem zGy {a b K : Int} (ha : 0 ≤ a ∧ a ≤ K) (hb : 0 ≤ b ∧ b ≤ K) (hK : 0 ≤ K) : 0 ≤ a * b ∧ a * b ≤ K * K := ⟨Int.mul_nonneg ha.1 hb.1, Int.mul_le_mul ha.2 hb.2 hb.1 hK⟩
section
variable {os : List Oper} {Q : Exit → Act → World → Prop} {a : Act} {p : Pq} {B B0 : Nat} {w0 : World}
variable {i s : Nat} {d : Option Tmp} {ty : TypeId} {ps : String} {af : Array Edge} {gd : Option (Nat × Bool)}
theorem zH4 {x0 : Operand} {z0 : Int} {x1 : Operand} {z1 : Int} {x2 : Operand} {z2 : Int} (hp : p.Ok B B0) (hF : p.Free i) (hg : GdQ os a p B B0 w0 af gd) (h0 : SrcQ os a p B B0 w0 af x0 fun v w => Num w v z0) (h1 : SrcQ os a p B B0 w0 af x1 fun v w => Num w v z1) (h2 : SrcQ os a p B B0 w0 af x2 fun v w => Num w v z2) (hC : ∀ v w, (Fq.st [.n z0, .n z1, .n z2]).P v w → (p.c i).P v w) :
  zAr os Q a p B B0 w0 i { dst := d, op := .build 34 #[(0, x0), (1, x1), (2, x2)], type := ty, pos := ps, after := af, guard := gd } := by
 refine zBk hp hF hg fun L vs w hG hL hc hd => ?_
 have g0 := h0 L vs w hG hd
 obtain ⟨n0, ao0, k0, c0, e0⟩ := g0.parts
 have m0 : Num w (.agg #[.bool n0, .slice ao0 k0 c0]) z0 := by rw [← e0]; exact g0
 have g1 := h1 L vs w hG hd
 obtain ⟨n1, ao1, k1, c1, e1⟩ := g1.parts
 have m1 : Num w (.agg #[.bool n1, .slice ao1 k1 c1]) z1 := by rw [← e1]; exact g1
 have g2 := h2 L vs w hG hd
 obtain ⟨n2, ao2, k2, c2, e2⟩ := g2.parts
 have m2 : Num w (.agg #[.bool n2, .slice ao2 k2 c2]) z2 := by rw [← e2]; exact g2
 refine ⟨.agg #[.bool n0, .slice ao0 k0 c0, .bool n1, .slice ao1 k1 c1, .bool n2, .slice ao2 k2 c2], ?_, hC _ _ ⟨_, rfl, _, _, _, rfl, m0, _, _, _, rfl, m1, _, _, _, rfl, m2, rfl⟩⟩
 generalize (lay os.toArray L vs os.toArray.size a).eval = ρ at e0 e1 e2
 simp [execOp, go_sem, e0, e1, e2]
end
set_option maxRecDepth 100000 in
set_option maxHeartbeats 4000000 in
theorem exCurve {w : World} {m a x y b : Int} (hm : 2 < m ∧ m ≤ 5000) (ha : 0 ≤ a ∧ a ≤ 5000) (hx : 0 ≤ x ∧ x ≤ 5000) (hy : 0 ≤ y ∧ y ≤ 5000) (hb : (y * y - ((x * x) + a) * x) % m = b) :
  Calls Tryz.prog 20 #[.int .i64 m, .int .i64 a, .int .i64 x, .int .i64 y] w fun e w' => ∃ v', e = .returned v' ∧ Below w.heap.size w w' ∧ (Fq.st [.n a, .n b, .n m]).P v' w' := by
 have hyy := zGy (K := 5000) hy hy (by omega)
 have hxx := zGy (K := 5000) hx hx (by omega)
 have hax := zGy (K := 5000) ha hx (by omega)
 obtain ⟨r, hr⟩ : ∃ r, r = x * x % m := ⟨_, rfl⟩
 have hr0 : 0 ≤ r ∧ r ≤ 5000 := by rw [hr]; have h1 := Int.emod_nonneg (x * x) (show m ≠ 0 by omega); have h2 := Int.emod_lt_of_pos (x * x) (show 0 < m by omega); omega
 have hrx := zGy (K := 5000) hr0 hx (by omega)
 obtain ⟨yy, hyyE⟩ : ∃ yy, yy = y * y := ⟨_, rfl⟩
 obtain ⟨xx, hxxE⟩ : ∃ xx, xx = x * x := ⟨_, rfl⟩
 obtain ⟨ax, haxE⟩ : ∃ ax, ax = a * x := ⟨_, rfl⟩
 obtain ⟨rx, hrxE⟩ : ∃ rx, rx = r * x := ⟨_, rfl⟩
 obtain ⟨t1, ht1⟩ : ∃ t1, t1 = Int.tmod (yy - rx - ax) m := ⟨_, rfl⟩
 obtain ⟨t2, ht2⟩ : ∃ t2, t2 = t1 + m := ⟨_, rfl⟩
 have hcb := curve_b (m := m) (a := a) (x := x) (y := y) (t2 := t2) (by rw [ht2, ht1, hyyE, hrxE, haxE, hr]) (by omega)
 rw [hb] at hcb
 rw [← hyyE] at hyy
 rw [← hxxE] at hxx
 rw [← haxE] at hax
 rw [← hrxE] at hrx
 have ht1b := tmod_bd (s := yy - rx - ax) (m := m) (by omega)
 rw [← ht1] at ht1b
 have hb0 : 0 ≤ b ∧ b < m := by rw [← hb]; exact ⟨Int.emod_nonneg _ (by omega), Int.emod_lt_of_pos _ (by omega)⟩
 have W1 : Hid (IntKind.i64.wrap (y * y) = yy) := by show _ = _; rw [← hyyE]; exact IntWalk.i64_in _ (by omega)
 have W2 : Hid (IntKind.i64.wrap (x * x) = xx) := by show _ = _; rw [← hxxE]; exact IntWalk.i64_in _ (by omega)
 have W3 : Hid (Int.tmod xx m = r) := by show _ = _; rw [Int.tmod_eq_emod_of_nonneg (by omega), hr, hxxE]
 have W3b : Hid (IntKind.i64.wrap r = r) := IntWalk.i64_in _ (by omega)
 have W4 : Hid (IntKind.i64.wrap (r * x) = rx) := by show _ = _; rw [← hrxE]; exact IntWalk.i64_in _ (by omega)
 have W5 : Hid (IntKind.i64.wrap (yy - rx) = yy - rx) := IntWalk.i64_in _ (by omega)
 have W6 : Hid (IntKind.i64.wrap (a * x) = ax) := by show _ = _; rw [← haxE]; exact IntWalk.i64_in _ (by omega)
 have W7 : Hid (IntKind.i64.wrap (yy - rx - ax) = yy - rx - ax) := IntWalk.i64_in _ (by omega)
 have W8 : Hid (Int.tmod (yy - rx - ax) m = t1) := ht1.symm
 have W8b : Hid (IntKind.i64.wrap t1 = t1) := IntWalk.i64_in _ (by omega)
 have W9 : Hid (IntKind.i64.wrap (t1 + m) = t2) := by show _ = _; rw [← ht2]; exact IntWalk.i64_in _ (by omega)
 have WA : Hid (Int.tmod t2 m = b) := hcb.1
 have WAb : Hid (IntKind.i64.wrap b = b) := IntWalk.i64_in _ (by omega)
 have W0 : Hid (¬ m = 0) := by show ¬ _; omega
 have RA : Hid (-9223372036854775808 ≤ a ∧ a ≤ 9223372036854775807) := by show _ ∧ _; omega
 have RB : Hid (-9223372036854775808 ≤ b ∧ b ≤ 9223372036854775807) := by show _ ∧ _; omega
 have RM9 : Hid (-9223372036854775808 ≤ m ∧ m ≤ 9223372036854775807) := by show _ ∧ _; omega
 have Ba : Hid (ab a < pw 3) := zD4 RA.out.1 RA.out.2
 have Bb : Hid (ab b < pw 3) := zD4 RB.out.1 RB.out.2
 have Bm : Hid (ab m < pw 3) := zD4 RM9.out.1 RM9.out.2
 clear hyy hxx hax hr hr0 hrx hyyE hxxE haxE hrxE ht1 ht2 hcb ht1b hb0 hb hm ha hx hy
 obtain ⟨w1, b1, hw1, hb1, hs1, E⟩ := zB8 w (F := Fq.st [.n 0, .n 0, .n 0]) (us := [.bool false, .slice none 0 0, .bool false, .slice none 0 0, .bool false, .slice none 0 0]) 34 rfl (by simp) ((Fits.tame (zEg w))) (zN5 _)
 go_enter Tryz.func20, Tryz.ntmps20
 go_upto_region 1 with (fail)
 rw [← hw1]
 rw [← hb1]
 clear hw1 hb1 hs1
 refine rg [Fq.is (.int .i64 y), Fq.is (.int .i64 y), Fq.is (.int .i64 yy), Fq.is (.int .i64 x), Fq.is (.int .i64 x), Fq.is (.int .i64 xx), Fq.is (.int .i64 m), Fq.is (.int .i64 r), Fq.is (.int .i64 x), Fq.is (.int .i64 rx), Fq.is (.int .i64 (yy - rx)), Fq.is (.int .i64 a), Fq.is (.int .i64 x), Fq.is (.int .i64 ax), Fq.is (.int .i64 (yy - rx - ax)), Fq.is (.int .i64 m), Fq.is (.int .i64 t1), Fq.is (.int .i64 m), Fq.is (.int .i64 t2), Fq.is (.int .i64 m), Fq.is (.int .i64 b), Fq.is (.int .i64 b)] [none] [] E (fun hp => ⟨?_, ?_, ?_, ?_, ?_, ?_, ?_, ?_, ?_, ?_, ?_, ?_, ?_, ?_, ?_, ?_, ?_, ?_, ?_, ?_, ?_, ?_, tv⟩) ?_
 ·exact zAe hp fo tv (sqo 3)
 ·exact zAe hp fo tv (sqo 3)
 ·exact zAi (F := fun v _ => v = .int .i64 y) (G := fun v _ => v = .int .i64 y) hp fo tv (sqi 0) (sqi 1) (fun ρ w hc h h' => ⟨.int .i64 yy, by simp [execOp, go_sem, h, h', W1.out], rfl⟩)
 ·exact zAe hp fo tv (sqo 2)
 ·exact zAe hp fo tv (sqo 2)
 ·exact zAi (F := fun v _ => v = .int .i64 x) (G := fun v _ => v = .int .i64 x) hp fo tv (sqi 3) (sqi 4) (fun ρ w hc h h' => ⟨.int .i64 xx, by simp [execOp, go_sem, h, h', W2.out], rfl⟩)
 ·exact zAe hp fo tv (sqo 0)
 ·exact zAi (F := fun v _ => v = .int .i64 xx) (G := fun v _ => v = .int .i64 m) hp fo tv (sqi 5) (sqi 6) (fun ρ w hc h h' => ⟨.int .i64 r, by simp [execOp, go_sem, h, h', W0.out, W3.out, W3b.out], rfl⟩)
 ·exact zAe hp fo tv (sqo 2)
 ·exact zAi (F := fun v _ => v = .int .i64 r) (G := fun v _ => v = .int .i64 x) hp fo tv (sqi 7) (sqi 8) (fun ρ w hc h h' => ⟨.int .i64 rx, by simp [execOp, go_sem, h, h', W4.out], rfl⟩)
 ·exact zAi (F := fun v _ => v = .int .i64 yy) (G := fun v _ => v = .int .i64 rx) hp fo tv (sqi 2) (sqi 9) (fun ρ w hc h h' => ⟨.int .i64 (yy - rx), by simp [execOp, go_sem, h, h', W5.out], rfl⟩)
 ·exact zAe hp fo tv (sqo 1)
 ·exact zAe hp fo tv (sqo 2)
 ·exact zAi (F := fun v _ => v = .int .i64 a) (G := fun v _ => v = .int .i64 x) hp fo tv (sqi 11) (sqi 12) (fun ρ w hc h h' => ⟨.int .i64 ax, by simp [execOp, go_sem, h, h', W6.out], rfl⟩)
 ·exact zAi (F := fun v _ => v = .int .i64 (yy - rx)) (G := fun v _ => v = .int .i64 ax) hp fo tv (sqi 10) (sqi 13) (fun ρ w hc h h' => ⟨.int .i64 (yy - rx - ax), by simp [execOp, go_sem, h, h', W7.out], rfl⟩)
 ·exact zAe hp fo tv (sqo 0)
 ·exact zAi (F := fun v _ => v = .int .i64 (yy - rx - ax)) (G := fun v _ => v = .int .i64 m) hp fo tv (sqi 14) (sqi 15) (fun ρ w hc h h' => ⟨.int .i64 t1, by simp [execOp, go_sem, h, h', W0.out, W8.out, W8b.out], rfl⟩)
 ·exact zAe hp fo tv (sqo 0)
 ·exact zAi (F := fun v _ => v = .int .i64 t1) (G := fun v _ => v = .int .i64 m) hp fo tv (sqi 16) (sqi 17) (fun ρ w hc h h' => ⟨.int .i64 t2, by simp [execOp, go_sem, h, h', W9.out], rfl⟩)
 ·exact zAe hp fo tv (sqo 0)
 ·exact zAi (F := fun v _ => v = .int .i64 t2) (G := fun v _ => v = .int .i64 m) hp fo tv (sqi 18) (sqi 19) (fun ρ w hc h h' => ⟨.int .i64 b, by simp [execOp, go_sem, h, h', W0.out, WA.out, WAb.out], rfl⟩)
 ·exact zAo hp fo tv (sqi 20)
 intro L vs w2 nb hL hC hn E2
 have e0 := wXi hC 0
 have e1 := wXi hC 1
 have e2 := wXi hC 2
 have e3 := wXi hC 3
 have e4 := wXi hC 4
 have e5 := wXi hC 5
 have e6 := wXi hC 6
 have e7 := wXi hC 7
 have e8 := wXi hC 8
 have e9 := wXi hC 9
 have e10 := wXi hC 10
 have e11 := wXi hC 11
 have e12 := wXi hC 12
 have e13 := wXi hC 13
 have e14 := wXi hC 14
 have e15 := wXi hC 15
 have e16 := wXi hC 16
 have e17 := wXi hC 17
 have e18 := wXi hC 18
 have e19 := wXi hC 19
 have e20 := wXi hC 20
 have e21 := wXi hC 21
 have E := E2; simp only [LM, zAb] at E
 rw [zAa hL]
 simp only [SP, Nat.zero_add, Nat.reduceAdd]
 rw [e0, e1, e2, e3, e4, e5, e6, e7, e8, e9, e10, e11, e12, e13, e14, e15, e16, e17, e18, e19, e20, e21]
 clear e0 e1 e2 e3 e4 e5 e6 e7 e8 e9 e10 e11 e12 e13 e14 e15 e16 e17 e18 e19 e20 e21 hC hn E2 hL vs L nb
 clear W0 W1 W2 W3 W3b W4 W5 W6 W7 W8 W8b W9 WA WAb
 go_upto_region 2 with (fail)
 refine rg [Fq.is (.int .i64 a), Fq.num a, Fq.is (.int .i64 b), Fq.num b, Fq.is (.int .i64 m), Fq.num m, Fq.st [.n a, .n b, .n m], Fq.any] [some (7, Fq.st [.n a, .n b, .n m])] [] E (fun hp => ⟨?_, ?_, ?_, ?_, ?_, ?_, ?_, ?_, tv⟩) ?_
 ·exact zAe hp fo tv (sqo 1)
 ·exact wXa (Fq.is (.int .i64 a)) hp zBg (sqi 0) fun v w h => (by subst h; exact rOfK w a RA.out.1 RA.out.2)
 ·exact zAe hp fo tv (sqo 9)
 ·exact wXa (Fq.is (.int .i64 b)) hp zBg (sqi 2) fun v w h => (by subst h; exact rOfK w b RB.out.1 RB.out.2)
 ·exact zAe hp fo tv (sqo 0)
 ·exact wXa (Fq.is (.int .i64 m)) hp zBg (sqi 4) fun v w h => (by subst h; exact rOfK w m RM9.out.1 RM9.out.2)
 ·exact zH4 (z0 := a) (z1 := b) (z2 := m) hp fo tv (sqi 1) (sqi 3) (sqi 5) (fun v w h => h)
 ·exact sO 0 6 hp (mq 0 rfl) zE1 (sqo 8)
 intro L vs w3 nb hL hC hn E3
 have e0 := wXi hC 0
 have e2 := wXi hC 2
 have e4 := wXi hC 4
 have E := E3; simp only [LM, zAb] at E
 rw [zAa hL]
 simp only [SP, Nat.zero_add, Nat.reduceAdd]
 rw [e0, e2, e4]
 generalize vs 1 = u3_1
 generalize vs 3 = u3_3
 generalize vs 5 = u3_5
 generalize vs 6 = u3_6
 clear e0 e2 e4 hC hn E3 hL vs L nb
 clear RA RB RM9
 obtain ⟨_, _, hc0, hf0⟩ := zAu (E.box 0 rfl)
 have hP0 := hf0
 obtain ⟨r0_p0, r0_q0, _, rfl, _r0_n0, r0_p1, r0_q1, _, rfl, _r0_n1, r0_p2, r0_q2, _, rfl, _r0_n2, rfl⟩ := hf0
 have c0_0 := hc0 0 (by simp)
 have c0_1 := hc0 1 (by simp)
 have c0_2 := hc0 2 (by simp)
 have c0_3 := hc0 3 (by simp)
 have c0_4 := hc0 4 (by simp)
 have c0_5 := hc0 5 (by simp)
 simp only [List.getD_cons_zero, List.getD_cons_succ] at c0_0 c0_1 c0_2 c0_3 c0_4 c0_5
 clear hc0
 clear Ba Bb Bm
 go_wp2
 refine bodyPost_ret (v := .agg #[r0_p0, r0_q0, r0_p1, r0_q1, r0_p2, r0_q2]) ?_ rfl ⟨_, rfl, E.below, ⟨_, rfl, hP0⟩⟩
 simp [results, Tryz.results20, go_sem, c0_0, c0_1, c0_2, c0_3, c0_4, c0_5]

inductive PE where
 | c (k : Int)
 | v (i : Nat)
 | a (x y : PE)
 | m (x y : PE)
 | n (x : PE)
def PE.den (ρ : List Int) : PE → Int
 | .c k => k
 | .v i => ρ.getD i 0
 | .a x y => x.den ρ + y.den ρ
 | .m x y => x.den ρ * y.den ρ
 | .n x => - x.den ρ
def insV (i : Nat) : List Nat → List Nat
 | [] => [i]
 | j :: r => if i ≤ j then i :: j :: r else j :: insV i r
def monD (ρ : List Int) : List Nat → Int
 | [] => 1
 | i :: r => ρ.getD i 0 * monD ρ r
def polD (ρ : List Int) : List (Int × List Nat) → Int
 | [] => 0
 | t :: r => t.1 * monD ρ t.2 + polD ρ r
theorem zLa (ρ : List Int) (i : Nat) : ∀ l, monD ρ (insV i l) = ρ.getD i 0 * monD ρ l
 | [] => rfl
 | j :: r => by
  unfold insV
  split
  ·rfl
  ·show _ * monD ρ (insV i r) = _ * (_ * monD ρ r)
   rw [zLa ρ i r, Int.mul_left_comm]
def mulM : List Nat → List Nat → List Nat
 | [], l => l
 | i :: r, l => insV i (mulM r l)
theorem zLh (ρ : List Int) : ∀ a b, monD ρ (mulM a b) = monD ρ a * monD ρ b
 | [], b => by show monD ρ b = 1 * _; rw [Int.one_mul]
 | i :: r, b => by
  show monD ρ (insV i (mulM r b)) = _ * monD ρ r * _
  rw [zLa, zLh ρ r b, Int.mul_assoc]
def addT (k : Int) (mo : List Nat) : List (Int × List Nat) → List (Int × List Nat)
 | [] => [(k, mo)]
 | t :: p => if t.2 = mo then (k + t.1, mo) :: p else t :: addT k mo p
theorem zJv (ρ : List Int) (k : Int) (mo : List Nat) : ∀ p, polD ρ (addT k mo p) = k * monD ρ mo + polD ρ p
 | [] => rfl
 | t :: p => by
  unfold addT
  split
  ·rename_i h
   show (k + t.1) * monD ρ mo + polD ρ p = _ + (t.1 * monD ρ t.2 + polD ρ p)
   rw [Int.add_mul, h]
   omega
  ·show t.1 * monD ρ t.2 + polD ρ (addT k mo p) = _ + (t.1 * monD ρ t.2 + polD ρ p)
   rw [zJv ρ k mo p]
   omega
def addQ : List (Int × List Nat) → List (Int × List Nat) → List (Int × List Nat)
 | [], q => q
 | t :: p, q => addT t.1 t.2 (addQ p q)
theorem zIi (ρ : List Int) : ∀ p q, polD ρ (addQ p q) = polD ρ p + polD ρ q
 | [], q => by show polD ρ q = 0 + _; omega
 | t :: p, q => by
  show polD ρ (addT t.1 t.2 (addQ p q)) = t.1 * monD ρ t.2 + polD ρ p + polD ρ q
  rw [zJv, zIi ρ p q]
  omega
def mulT (k : Int) (mo : List Nat) : List (Int × List Nat) → List (Int × List Nat)
 | [] => []
 | t :: p => (k * t.1, mulM mo t.2) :: mulT k mo p
theorem zI6 (ρ : List Int) (k : Int) (mo : List Nat) : ∀ p, polD ρ (mulT k mo p) = k * monD ρ mo * polD ρ p
 | [] => by show (0 : Int) = _ * 0; omega
 | t :: p => by
  show k * t.1 * monD ρ (mulM mo t.2) + polD ρ (mulT k mo p) = k * monD ρ mo * (t.1 * monD ρ t.2 + polD ρ p)
  rw [zLh, zI6 ρ k mo p, Int.mul_add]
  congr 1
  simp only [Int.mul_assoc, Int.mul_left_comm]
def mulQ : List (Int × List Nat) → List (Int × List Nat) → List (Int × List Nat)
 | [], _ => []
 | t :: p, q => addQ (mulT t.1 t.2 q) (mulQ p q)
theorem zLi (ρ : List Int) : ∀ p q, polD ρ (mulQ p q) = polD ρ p * polD ρ q
 | [], q => by show (0 : Int) = 0 * _; omega
 | t :: p, q => by
  show polD ρ (addQ (mulT t.1 t.2 q) (mulQ p q)) = (t.1 * monD ρ t.2 + polD ρ p) * polD ρ q
  rw [zIi, zI6, zLi ρ p q, Int.add_mul]
def PE.norm : PE → List (Int × List Nat)
 | .c k => [(k, [])]
 | .v i => [(1, [i])]
 | .a x y => addQ x.norm y.norm
 | .m x y => mulQ x.norm y.norm
 | .n x => mulT (-1) [] x.norm
theorem PE.norm_den (ρ : List Int) : ∀ e : PE, polD ρ e.norm = e.den ρ
 | .c k => by show k * 1 + 0 = k; omega
 | .v i => by show 1 * (ρ.getD i 0 * 1) + 0 = ρ.getD i 0; omega
 | .a x y => by show polD ρ (addQ _ _) = _ + _; rw [zIi, PE.norm_den ρ x, PE.norm_den ρ y]
 | .m x y => by show polD ρ (mulQ _ _) = _ * _; rw [zLi, PE.norm_den ρ x, PE.norm_den ρ y]
 | .n x => by show polD ρ (mulT _ _ _) = - _; rw [zI6, PE.norm_den ρ x]; show -1 * 1 * _ = _; omega
theorem zLs (ρ : List Int) : ∀ p : List (Int × List Nat), p.all (fun t => t.1 == 0) = true → polD ρ p = 0
 | [], _ => rfl
 | t :: p, h => by
  simp only [List.all_cons, Bool.and_eq_true, beq_iff_eq] at h
  show t.1 * _ + polD ρ p = 0
  rw [h.1, zLs ρ p h.2]
  omega
theorem PE.same (ρ : List Int) (x y : PE) (h : ((PE.a x (.n y)).norm.all fun t => t.1 == 0) = true) : x.den ρ = y.den ρ := by
 have h1 := zLs ρ _ h
 rw [PE.norm_den] at h1
 have h2 : x.den ρ + - y.den ρ = 0 := h1
 omega

theorem cg_symm {M a b : Int} (h : M ∣ a - b) : M ∣ b - a := by
 have e : b - a = -(a - b) := by omega
 rw [e]
 exact Int.dvd_neg.2 h
theorem cg_trans {M a b c : Int} (h : M ∣ a - b) (h' : M ∣ b - c) : M ∣ a - c := by
 have e : a - c = (a - b) + (b - c) := by omega
 rw [e]
 exact Int.dvd_add h h'
theorem cg_mod (M a : Int) : M ∣ a % M - a := by
 have h := Int.mul_ediv_add_emod a M
 exact ⟨-(a / M), by rw [Int.mul_neg]; omega⟩
theorem cg_iff {M a b : Int} : M ∣ a - b ↔ a % M = b % M := by
 constructor
 ·intro h; exact Int.emod_eq_emod_iff_emod_sub_eq_zero.2 (Int.emod_eq_zero_of_dvd h)
 ·intro h
  have h1 := cg_mod M a
  have h2 := cg_mod M b
  rw [h] at h1
  exact cg_trans (cg_symm h1) h2
-- PART2
theorem on_of {A B M x y : Int} {i : Bool} (hc : zBs A B M = true) (h1 : i = true → x = 0 ∧ y = 0) (h2 : i = false → (0 ≤ x ∧ x < M ∧ 0 ≤ y ∧ y < M) ∧ M ∣ y * y - ((x * x + A) * x + B)) : onB A B M x y i = true := by
 simp only [onB, Bool.and_eq_true]
 refine ⟨hc, ?_⟩
 cases i with
 | true => simpa [ptB] using h1 rfl
 | false =>
  obtain ⟨⟨g1, g2, g3, g4⟩, g5⟩ := h2 rfl
  simp only [ptB, resB, Bool.and_eq_true, decide_eq_true_eq, Bool.false_eq_true, if_false]
  exact ⟨⟨g1, g2⟩, ⟨g3, g4⟩, Int.emod_eq_zero_of_dvd g5⟩
def noSl : List Fd → Bool
 | [] => true
 | .v (.slice _ _ _) :: _ => false
 | _ :: r => noSl r
def FarC (own : Option Nat) (es : List Value) : Prop := ∀ a k c, Value.slice (some a) k c ∈ es → k ≠ 0 → some a.block ≠ own
theorem FarC.tail {own : Option Nat} {u : Value} {es : List Value} (h : FarC own (u :: es)) : FarC own es := fun a k c hm hk => h a k c (List.mem_cons_of_mem _ hm) hk
theorem Fits.grown {w w' : World} {row : Option Nat} (hg : w.grownBy w' row) : ∀ {fs : List Fd} {es : List Value}, Fits w fs es → FarC row es → Fits w' fs es
 | [], _, h, _ => h
 | .n z :: fs, _, ⟨a, b, r, e, h1, h2⟩, hf => by
  subst e
  refine ⟨a, b, r, rfl, ?_, Fits.grown hg h2 hf.tail.tail⟩
  obtain ⟨n, ao, k, c, e⟩ := h1.parts
  rw [e] at h1 ⊢
  injection e with e
  have e2 := congrArg Array.toList e
  simp at e2
  obtain ⟨rfl, rfl⟩ := e2
  exact h1.grown hg fun x hx hk => hf x k c (by rw [hx]; simp) hk
 | .v u :: fs, _, ⟨r, e, h1, h2⟩, hf => by
  subst e
  exact ⟨r, rfl, h1, Fits.grown hg h2 hf.tail⟩
 | .r n ao k c xs z :: fs, _, ⟨r, e, h1, h2⟩, hf => by
  subst e
  refine ⟨r, rfl, ⟨?_, h1.2.grown hg fun x hx hk => hf x k c (by rw [hx]; simp) hk⟩, Fits.grown hg h2 hf.tail.tail⟩
  have hs := h1.1
  refine ⟨hs.len, hs.cap, hs.cells.1, ?_⟩
  rcases hs.cells.2 with h0 | ⟨b, off, rfl, hlt, hc⟩
  ·exact .inl h0
  ·rcases Nat.eq_zero_or_pos k with h0 | h0
   ·exact .inl (List.eq_nil_of_length_eq_zero (hs.len.trans h0))
   ·exact .inr ⟨b, off, rfl, Nat.lt_of_lt_of_le hlt hg.size, fun j hj => hg.cell (hc j hj) (show some b ≠ row from hf ⟨b, off, none⟩ k c (by simp) (by omega))⟩
theorem Fits.blk {w : World} : ∀ {fs : List Fd} {es : List Value}, Fits w fs es → noSl fs = true → ∀ {a : Addr} {k c : Nat}, Value.slice (some a) k c ∈ es → k ≠ 0 → a.block < w.heap.size
 | [], _, h, _, _, _, _, hm, _ => by rw [show _ = [] from h] at hm; simp at hm
 | .n z :: fs, _, ⟨x, y, r, e, h1, h2⟩, hn, a, k, c, hm, hk => by
  subst e
  obtain ⟨n, ao, k', c', e⟩ := h1.parts
  have h3 := h1
  rw [e] at h3
  injection e with e
  have e2 := congrArg Array.toList e
  simp at e2
  obtain ⟨rfl, rfl⟩ := e2
  simp only [List.mem_cons, reduceCtorEq, false_or] at hm
  rcases hm with hm | hm
  ·injection hm with hm1 hm2 hm3
   subst hm1 hm2 hm3
   exact h3.blk hk
  ·exact Fits.blk h2 hn hm hk
 | .v u :: fs, _, ⟨r, e, h1, h2⟩, hn, a, k, c, hm, hk => by
  subst e
  rcases List.mem_cons.1 hm with hm | hm
  ·subst hm; simp [noSl] at hn
  ·refine Fits.blk h2 ?_ hm hk
   cases u <;> first | exact hn | simp [noSl] at hn
 | .r n ao k' c' xs z :: fs, _, ⟨r, e, h1, h2⟩, hn, a, k, c, hm, hk => by
  subst e
  simp only [List.mem_cons, reduceCtorEq, false_or] at hm
  rcases hm with hm | hm
  ·injection hm with hm1 hm2 hm3
   subst hm1 hm2 hm3
   exact h1.2.blk hk
  ·exact Fits.blk h2 hn hm hk
def StAt (w : World) (g o : Nat) (fs : List Fd) : Prop := ∃ es, Fits w fs es ∧ ∀ j, j < es.length → w.cell? ⟨g, o + j, none⟩ = some (es.getD j undef)
theorem StAt.mono {w w' : World} {g o : Nat} {fs : List Fd} (h : StAt w g o fs) (hl : g < w.heap.size) (hb : Below w.heap.size w w') : StAt w' g o fs := by
 obtain ⟨es, h1, h2⟩ := h
 exact ⟨es, h1.mono hb, fun j hj => (hb.cell (p := ⟨g, o + j, none⟩) hl).trans (h2 j hj)⟩
def Sts (m : Nat) (w : World) (v : Value) (fss : List (List Fd)) : Prop := ∃ g cap, v = .slice (some ⟨g, 0, none⟩) fss.length cap ∧ g < w.heap.size ∧ ∀ i fs, fss[i]? = some fs → StAt w g (i * m) fs
theorem Sts.mono {m : Nat} {w w' : World} {v : Value} {fss : List (List Fd)} (h : Sts m w v fss) (hb : Below w.heap.size w w') : Sts m w' v fss := by
 obtain ⟨g, cap, e, h1, h2⟩ := h
 exact ⟨g, cap, e, Nat.lt_of_lt_of_le h1 hb.size, fun i fs hi => (h2 i fs hi).mono h1 hb⟩
def StCell (m : Nat) (us : List Value) (w : World) (own : Option Nat) (i : Nat) (fs : List Fd) : Prop := ∃ es, es.length = m ∧ (∀ j, j < m → us[i * m + j]? = es[j]?) ∧ FarC own es ∧ Fits w fs es ∧ noSl fs = true
def Ls (T m : Nat) (W : World) (B : Nat) (v : Value) (fss : List (List Fd)) : Prop := ∃ us, W.ownsRow B T m v fss.length us ∧ ∀ i fs, fss[i]? = some fs → StCell m us W v.ownBlock i fs
theorem Ls.shape {T m : Nat} {W : World} {B : Nat} {v : Value} {fss : List (List Fd)} (h : Ls T m W B v fss) : ∃ ao cap, v = .slice ao fss.length cap := by
 obtain ⟨us, h, _⟩ := h
 rcases h.2 with ⟨rfl, h0⟩ | ⟨g, cap, cur, rfl, _⟩
 ·exact ⟨none, 0, by rw [h0]⟩
 ·exact ⟨_, _, rfl⟩
theorem Ls.mono {T m : Nat} {w w' : World} {B : Nat} {v : Value} {fss : List (List Fd)} (h : Ls T m w B v fss) (hb : Below w.heap.size w w') : Ls T m w' B v fss := by
 obtain ⟨us, h, hE⟩ := h
 refine ⟨us, ⟨h.1, ?_⟩, fun i z hi => ?_⟩
 ·rcases h.2 with h2 | ⟨g, cap, cur, h1, h2, h3, h4⟩
  ·exact .inl h2
  ·exact .inr ⟨g, cap, cur, h1, h2, by rw [hb.block g (Array.getElem?_eq_some_iff.1 h3).1]; exact h3, h4⟩
 ·obtain ⟨es, g1, g2, g3, g4, g5⟩ := hE i z hi
  exact ⟨es, g1, g2, g3, g4.mono hb, g5⟩
theorem Ls.one {T m : Nat} (w : World) {B : Nat} {fs : List Fd} {es : List Value} (hB : B ≤ w.heap.size) (hm : es.length = m) (hF : Fits w fs es) (hn : noSl fs = true) : Ls T m (w.alloc (.cells es.toArray T)) B (.slice (some ⟨w.heap.size, 0, none⟩) 1 1) [fs] := by
 refine ⟨es, ⟨by simp [hm], .inr ⟨w.heap.size, 1, es.toArray, rfl, hB, ?_, ?_⟩⟩, fun i z hi => ?_⟩
 ·exact heap_alloc_new w _
 ·simp [hm]
  exact ⟨by unfold maxLen; omega, by rw [← hm, List.take_length]⟩
 ·match i, hi with
  | 0, hi =>
   simp at hi
   subst hi
   refine ⟨es, hm, fun j _ => by rw [Nat.zero_mul, Nat.zero_add], fun a k c hs hk e => ?_, hF.mono (zAq _ _), hn⟩
   have h1 := hF.blk hn hs hk
   simp [Value.ownBlock] at e
   omega
  | i + 1, hi => simp at hi
theorem Ls.step {T m B : Nat} {w wr w1 w2 : World} {v : Value} {fss : List (List Fd)} {us es : List Value} {fs : List Fd} {o : Obj} {g cap H : Nat}
  (hO : wr.ownsRow B T m v fss.length us) (hE : ∀ i z, fss[i]? = some z → StCell m us wr v.ownBlock i z) (hB : B ≤ wr.heap.size) (hnx : Below B w wr) (hb : Below wr.heap.size wr w1)
  (hnew : ∀ a k c, Value.slice (some a) k c ∈ es → k ≠ 0 → wr.heap.size ≤ a.block) (hF : Fits w1 fs es) (hn : noSl fs = true) (hm : es.length = m)
  (hown' : w2.ownsRow B T m (.slice (some ⟨g, 0, none⟩) (fss.length + 1) cap) (fss.length + 1) (us ++ es)) (hgrow : (w1.alloc o).grownBy w2 v.ownBlock) (hat : v.ownBlock = some g ∨ g = H) (hH : (w1.alloc o).heap.size = H) :
  Ls T m w2 B (.slice (some ⟨g, 0, none⟩) (fss.length + 1) cap) (fss ++ [fs]) ∧ Below B w w2 := by
 have hsz := hb.size
 have hH2 : w1.heap.size + 1 = H := by rw [← hH]; simp
 have hlt := hO.lt
 have hul := hO.1
 refine ⟨⟨us ++ es, by simpa using hown', fun i y hi => ?_⟩, ?_⟩
 ·have hne : ∀ {a : Addr} {k c : Nat} {xs : List Value} {gs : List Fd}, Fits w1 gs xs → noSl gs = true → Value.slice (some a) k c ∈ xs → k ≠ 0 → some a.block ≠ v.ownBlock → a.block ≠ g := by
   intro a k c xs gs hx hnx2 hmx hk hr e
   have h1 := hx.blk hnx2 hmx hk
   rcases hat with h | h
   ·rw [h, e] at hr; exact hr rfl
   ·omega
  by_cases hil : i < fss.length
  ·rw [List.getElem?_append_left hil] at hi
   obtain ⟨xs, g1, g2, g3, g4, g5⟩ := hE i y hi
   refine ⟨xs, g1, fun j hj => ?_, fun a k c hs hk e => ?_, ((g4.mono hb).mono (zAq w1 o)).grown hgrow g3, g5⟩
   ·have hm1 : (i + 1) * m ≤ fss.length * m := Nat.mul_le_mul_right m (by omega)
    rw [Nat.add_mul, Nat.one_mul] at hm1
    rw [List.getElem?_append_left (by omega)]
    exact g2 j hj
   ·exact hne (g4.mono hb) g5 hs hk (g3 a k c hs hk) (by simpa [Value.ownBlock] using e)
  ·have hi2 : i = fss.length := by
    rcases Nat.lt_or_ge i (fss ++ [fs]).length with h | h
    ·simp at h; omega
    ·rw [List.getElem?_eq_none h] at hi; cases hi
   subst hi2
   rw [List.getElem?_append_right (Nat.le_refl _), Nat.sub_self] at hi
   simp only [List.getElem?_cons_zero, Option.some.injEq] at hi
   subst hi
   have hfar : FarC v.ownBlock es := fun a k c hs hk e => by
    have h1 := hnew a k c hs hk
    have h2 := (hlt a.block e.symm).2
    omega
   refine ⟨es, hm, fun j hj => ?_, fun a k c hs hk e => ?_, (hF.mono (zAq w1 o)).grown hgrow hfar, hn⟩
   ·rw [List.getElem?_append_right (by omega), show fss.length * m + j - us.length = j by omega]
   ·exact hne hF hn hs hk (hfar a k c hs hk) (by simpa [Value.ownBlock] using e)
 ·exact ((hnx.trans (hb.mono hB)).alloc (by omega) o).grown hgrow (by simp; omega) (fun j hj => (hO.lt j hj).1)
section
variable {os : List Oper} {Q : Exit → Act → World → Prop} {a : Act} {p : Pq} {B B0 : Nat} {w0 : World}
variable {i s : Nat} {d : Option Tmp} {ty : TypeId} {ps : String} {af : Array Edge} {gd : Option (Nat × Bool)}
theorem zJk {b off l T : Nat} {fs : List Fd} {x : Operand} (hp : p.Ok B B0) (hF : p.Free i) (hg : GdQ os a p B B0 w0 af gd) (hn : ∀ w, Below B w0 w → StAt w b off fs) (hT : rowB T l = true) (hl : sz fs = l)
  (hx : SrcQ os a p B B0 w0 af x fun u _ => u = .pointer (some ⟨b, off, none⟩)) (hC : ∀ v w, (Fq.st fs).P v w → (p.c i).P v w) :
  zAr os Q a p B B0 w0 i { dst := d, op := .load T x, type := ty, pos := ps, after := af, guard := gd } := by
 refine zBk hp hF hg fun L vs w hG hL hc hd => ?_
 obtain ⟨es, hfit, hat⟩ := hn w hG.below
 have e := hx L vs w hG hd
 obtain ⟨⟨dd, hu, hd'⟩, hi⟩ := zJm hT
 refine ⟨.agg es.toArray, ?_, hC _ _ ⟨_, rfl, hfit⟩⟩
 have hr : w.rangeAt b off es := by
  intro j v hv
  have hj := (List.getElem?_eq_some_iff.1 hv).1
  rw [hat j hj, List.getD, hv]
  rfl
 have := run_loadVar_mid (P := Tryz.prog) w b off T _ dd hr hu hd' (by rw [hfit.length, hl]; exact hi)
 generalize (lay os.toArray L vs os.toArray.size a).eval = ρ at e
 simp only [execOp, e, Instr.loadAt, Instr.sureAddr, Sem.run_bind, Sem.run_pure, Result.andThen_ok, this]
end
def TameRow (w : World) (v : Value) : Prop := ∃ g n cap cur e, v = .slice (some ⟨g, 0, none⟩) n cap ∧ w.heap[g]? = some (.cells cur e (0, 0)) ∧ ∀ u ∈ cur.toList, zB1 u = true
theorem TameRow.mono {w w' : World} {v : Value} (h : TameRow w v) (hb : Below w.heap.size w w') : TameRow w' v := by
 obtain ⟨g, n, cap, cur, e, h1, h2, h3⟩ := h
 exact ⟨g, n, cap, cur, e, h1, by rw [hb.block g (Array.getElem?_eq_some_iff.1 h2).1]; exact h2, h3⟩
theorem TameRow.num {w : World} {v : Value} (h : TameRow w v) {n : Bool} {ao : Option Addr} {k c : Nat} {z : Int} (hN : Num w (.agg #[.bool n, .slice ao k c]) z) : ∀ a, ao = some a → k ≠ 0 → some a.block ≠ v.ownBlock := by
 intro a ha hk e
 obtain ⟨g, n', cap, cur, et, rfl, h2, h3⟩ := h
 obtain ⟨neg, ao', k', c', xs, hv, hs, hn, hz⟩ := hN
 injection hv with hv
 have hv2 := congrArg Array.toList hv
 simp at hv2
 obtain ⟨rfl, rfl, rfl, rfl⟩ := hv2
 subst ha
 rcases hs.cells.2 with h0 | ⟨b, off, e1, hlt, hc⟩
 ·have := hs.len; rw [h0] at this; simp at this; omega
 ·injection e1 with e1
  subst e1
  simp [Value.ownBlock] at e
  subst e
  have h4 := hc 0 (by have := hs.len; omega)
  rw [cell_of_row w b _ cur et _ h2] at h4
  have h5 := List.mem_of_getElem? (l := cur.toList) (i := off + 0) (by rw [Array.getElem?_toList]; exact h4)
  have h6 := h3 _ h5
  simp [zB1] at h6
set_option maxRecDepth 20000 in
theorem zOx {w : World} (t ty : TypeId) (base : Nat) (e : TypeId) (i : TypeInfo) (z : Value) (size bytes : Nat) (ht : Tryz.prog.underlying t = some (.slice e)) (hi : Tryz.prog.info? e = some i) (hz : i.zero = some z)
  (hsize : i.size = size) (hby : i.bytes = bytes) (hzs : z.cells.size = size) (hsz : 0 < size)
  (v : Value) (n : Nat) (xs : List Value) (hown : w.ownsRow base e size v n xs) (htm : TameRow w v) (hzt : ∀ u ∈ z.cells.toList, zB1 u = true)
  (ad : Addr) (m c : Nat) (news : List Value) (hl : news.length = m * size) (hnews : ∀ j u, news[j]? = some u → w.cell? (ad.add j) = some u) (h1 : ∀ u ∈ news, zB1 u = true)
  (hm : 0 < m) (h63 : n + m ≤ maxLen) (hbytes : (n + m) * bytes ≤ 140737488355328) (hbase : base ≤ w.heap.size) (H : Nat) (hH : w.heap.size = H) :
  ∃ g cap w', (Builtin.append_ #[t, t] ty #[v, .slice (some ad) m c]).run Tryz.prog w = .ok (.slice (some ⟨g, 0, none⟩) (n + m) cap) w' ∧
   w'.ownsRow base e size (.slice (some ⟨g, 0, none⟩) (n + m) cap) (n + m) (xs ++ news) ∧ w.grownBy w' v.ownBlock ∧ (v.ownBlock = some g ∨ g = H) ∧ g < w'.heap.size ∧ TameRow w' (.slice (some ⟨g, 0, none⟩) (n + m) cap) := by
 have hone : ∀ u ∈ news, u.oneCell' = true := fun u hu => by
  have := h1 u hu
  simp only [zB1, Bool.and_eq_true] at this
  exact this.1
 obtain ⟨g, cap, w', hr, h2, h3, h4, h5⟩ := run_append_lies (P := Tryz.prog) w t ty base e i z size bytes ht hi hz hsize hby hzs hsz v n xs hown ad m c news hl hnews hone hm h63 hbytes hbase H hH
 refine ⟨g, cap, w', hr, h2, h3, h4, h5, ?_⟩
 subst hsize
 subst hby
 obtain ⟨g0, n0, cap0, cur0, e0, rfl, hg0, ht0⟩ := htm
 rcases hown.2 with ⟨h6, _⟩ | ⟨g6, cap6, cur, h7, hbg, hg, hnc, hcm, hcs, htake⟩
 ·cases h6
 ·injection h7 with h7 h8 h9
  injection h7 with h7
  injection h7 with h7
  subst h7 h8 h9
  have hcur : cur = cur0 := by rw [hg0] at hg; injection hg with hg; injection hg with hg; exact hg.symm
  subst hcur
  by_cases hroom : n0 + m ≤ cap0
  ·have hfit : n0 * i.size + news.length ≤ cur.size := by rw [hl, hcs, ← Nat.add_mul]; exact Nat.mul_le_mul_right _ hroom
   have hr2 := run_append_room (P := Tryz.prog) w t ty e i ht hi g0 n0 cap0 cur hg ad m c news hl hnews hone hroom hfit
   rw [hr] at hr2
   injection hr2 with e1 e2
   injection e1 with e1 _ e3
   injection e1 with e1
   injection e1 with e1
   subst e1 e2 e3
   refine ⟨g, _, _, _, e, rfl, setRow_heap w g cur _ e _ hg, fun u hu => ?_⟩
   simp only [List.mem_append] at hu
   rcases hu with (hu | hu) | hu
   ·exact ht0 u (List.mem_of_mem_take hu)
   ·exact h1 u hu
   ·exact ht0 u (List.mem_of_mem_drop hu)
  ·have holds : ∀ j u, xs[j]? = some u → w.cell? ((⟨g0, 0, none⟩ : Addr).add j) = some u := hown.cells (g := g0) rfl
   have hsmall : n0 + m ≤ 9223372036854775807 := by simp only [maxLen] at h63; omega
   have hr2 := run_append_grow (P := Tryz.prog) w t ty e i z ht hi hz ⟨g0, 0, none⟩ n0 cap0 xs hown.1 holds ad m c news hl hnews (by omega) (by omega) (growslice_fits (by omega) hbytes)
   rw [hr] at hr2
   injection hr2 with e1 e2
   injection e1 with e1 _ e3
   injection e1 with e1
   injection e1 with e1
   subst e1 e2 e3
   refine ⟨_, _, _, _, e, rfl, heap_alloc_new w.drew _, fun u hu => ?_⟩
   simp only [Array.toList_append, List.mem_append] at hu
   rcases hu with (hu | hu) | hu
   ·rw [← htake] at hu
    exact ht0 u (List.mem_of_mem_take hu)
   ·exact h1 u hu
   ·simp only [Builtin.zeroCells, Array.toList_map, Array.toList_range, List.mem_map, List.mem_range] at hu
    obtain ⟨j, hj, rfl⟩ := hu
    have hlt : j % z.cells.size < z.cells.size := Nat.mod_lt _ (by rw [hzs]; exact hsz)
    rw [getElem!_pos z.cells (j % z.cells.size) hlt]
    exact hzt _ (by simp)
theorem zO5 {w : World} {ops : Array Oper} {rest : List Oper} {o : Oper} {a : Act} {Q : Exit → Act → World → Prop} (hgd : o.guard = none) (s x : Operand) (t : TypeId)
  (ho : o.op = .call { callee := .builtin .append, args := #[s, x], argTypes := #[t, t] })
  (base : Nat) (e : TypeId) (i : TypeInfo) (z : Value) (size bytes : Nat) (ht : Tryz.prog.underlying t = some (.slice e)) (hi : Tryz.prog.info? e = some i) (hz : i.zero = some z)
  (hsize : i.size = size) (hby : i.bytes = bytes) (hzs : z.cells.size = size) (hsz : 0 < size)
  (v : Value) (n : Nat) (xs : List Value) (hs : a.eval s = v) (hown : w.ownsRow base e size v n xs) (htm : TameRow w v) (hzt : ∀ u ∈ z.cells.toList, zB1 u = true)
  (ad : Addr) (m c : Nat) (news : List Value) (hx : a.eval x = .slice (some ad) m c) (hl : news.length = m * size) (hnews : ∀ j u, news[j]? = some u → w.cell? (ad.add j) = some u) (h1 : ∀ u ∈ news, zB1 u = true)
  (hm : 0 < m) (h63 : n + m ≤ maxLen) (hbytes : (n + m) * bytes ≤ 140737488355328) (hbase : base ≤ w.heap.size) (H : Nat) (hH : w.heap.size = H)
  (h : ∀ g cap w', w'.ownsRow base e size (.slice (some ⟨g, 0, none⟩) (n + m) cap) (n + m) (xs ++ news) → w.grownBy w' v.ownBlock → (v.ownBlock = some g ∨ g = H) → g < w'.heap.size → TameRow w' (.slice (some ⟨g, 0, none⟩) (n + m) cap) → wpList Tryz.prog ops Q rest (a.put o.dst (.slice (some ⟨g, 0, none⟩) (n + m) cap)) w') : wpList Tryz.prog ops Q (o :: rest) a w := by
 refine wpList_plain hgd fun K hK => ?_
 obtain ⟨g, cap, w', hr, h2, h3, h4, h5, h6⟩ := zOx (w := w) t o.type base e i z size bytes ht hi hz hsize hby hzs hsz v n xs hown htm hzt ad m c news hl hnews h1 hm h63 hbytes hbase H hH
 unfold Oper.wp execOp
 simp only [ho, resolve, invoke, builtin, Sem.run_bind, Sem.run_pure, Result.andThen_ok, List.map_toArray, List.map_cons, List.map_nil, hs, hx, hr]
 exact hK _ _ (h g cap w' h2 h3 h4 h5 h6)
def RBox (W : World) (own : Option Nat) (br : Nat) (z : Int) : Prop := br < W.heap.size ∧ some br ≠ own ∧ ∃ n ao k c, W.cell? ⟨br, 0, none⟩ = some (.bool n) ∧ W.cell? ⟨br, 1, none⟩ = some (.slice ao k c) ∧ Num W (.agg #[.bool n, .slice ao k c]) z
theorem RBox.mono {W W' : World} {own : Option Nat} {br : Nat} {z : Int} (h : RBox W own br z) (hb : Below W.heap.size W W') : RBox W' own br z := by
 obtain ⟨h1, h2, n, ao, k, c, g1, g2, g3⟩ := h
 exact ⟨Nat.lt_of_lt_of_le h1 hb.size, h2, n, ao, k, c, (hb.cell (p := ⟨br, 0, none⟩) h1).trans g1, (hb.cell (p := ⟨br, 1, none⟩) h1).trans g2, g3.mono hb⟩
theorem RBox.st {W : World} {own : Option Nat} {br : Nat} {z : Int} (h : RBox W own br z) : StAt W br 0 [.n z] := by
 obtain ⟨h1, h2, n, ao, k, c, g1, g2, g3⟩ := h
 refine ⟨[.bool n, .slice ao k c], ⟨_, _, _, rfl, g3, rfl⟩, fun j hj => ?_⟩
 match j, hj with
 | 0, _ => exact g1
 | 1, _ => exact g2
theorem RBox.step {wr w1 w2 : World} {v : Value} {br g H n cap : Nat} {z : Int} {o : Obj} (h : RBox wr v.ownBlock br z) (hb : Below wr.heap.size wr w1) (ht : TameRow (w1.alloc o) v) (hgrow : (w1.alloc o).grownBy w2 v.ownBlock) (hat : v.ownBlock = some g ∨ g = H) (hH : (w1.alloc o).heap.size = H) : RBox w2 (Value.slice (some ⟨g, 0, none⟩) n cap).ownBlock br z := by
 obtain ⟨h1, h2, m, ao, k, c, g1, g2, g3⟩ := (h.mono hb).mono (zAq w1 o)
 have hlt : br < H := by rw [← hH]; exact h1
 refine ⟨Nat.lt_of_lt_of_le h1 hgrow.size, ?_, m, ao, k, c, hgrow.cell g1 h2, hgrow.cell g2 h2, g3.grown hgrow (ht.num g3)⟩
 intro e
 simp [Value.ownBlock] at e
 rcases hat with h3 | h3
 ·rw [h3, e] at h2; exact h2 rfl
 ·omega
theorem TameRow.made {w : World} {es : List Value} {T : Nat} (h : ∀ u ∈ es, zB1 u = true) : TameRow (w.alloc (.cells es.toArray T)) (.slice (some ⟨w.heap.size, 0, none⟩) 1 1) := ⟨_, _, _, es.toArray, T, rfl, heap_alloc_new w _, fun u hu => h u (by simpa using hu)⟩
set_option maxRecDepth 100000 in
set_option maxHeartbeats 4000000 in
theorem exRight {w : World} {v v' : Value} {A B M x : Int} (h : (Fq.st [.n A, .n B, .n M]).P v w) (h' : Num w v' x) (hM : ab M < pw 5) (hA : ab A < pw 5) (hB : ab B < pw 5) (hx : ab x < pw 5) (h0 : 0 < M) :
  Calls Tryz.prog 30 #[v, v'] w fun e w' => ∃ v', e = .returned v' ∧ Below w.heap.size w w' ∧ Num w' v' (((x * (x * x)) + (A * x) + B) % M) := by
 replace hM := hidd hM
 replace hA := hidd hA
 replace hB := hidd hB
 replace hx := hidd hx
 replace h0 := hidd h0
 obtain ⟨_, rfl, hf0⟩ := h
 have hF0 := hf0
 obtain ⟨y0_p0, y0_q0, _, rfl, _y0_n0, y0_p1, y0_q1, _, rfl, _y0_n1, y0_p2, y0_q2, _, rfl, _y0_n2, rfl⟩ := hf0
 obtain ⟨n1, ao1, k1, c1, rfl⟩ := h'.parts
 obtain ⟨w1, b1, hw1, hb1, hs1, E⟩ := gS w 34 hF0
 obtain ⟨w2, b2, hw2, hb2, hs2, E⟩ := fN E hs1 32 h'
 obtain ⟨w3, b3, hw3, hb3, hs3, E⟩ := fZ E hs2 32
 go_enter Tryz.func30, Tryz.ntmps30
 go_upto_region 1 with (fail)
 rw [← hw1]
 rw [← hw2]
 rw [← hw3]
 rw [← hb3]
 rw [← hb2]
 rw [← hb1]
 clear hw1 hw2 hw3 hb1 hb2 hb3 hs3 hs1 hs2
 have B4 : Hid (ab ((x * x)) < pw 10) := zBp hx.out hx.out (by omega)
 have B5 : Hid (ab ((x * (x * x))) < pw 15) := zBp hx.out B4.out (by omega)
 refine rg [Fq.num x, Fq.num x, Fq.num x, Fq.num (x * x), Fq.num (x * (x * x)), Fq.any, Fq.any] N3 [⟨5, 6, 2, Fq.num 0, Fq.num (x * (x * x)), none⟩] E (fun hp => ⟨?_, ?_, ?_, ?_, ?_, ?_, ?_, tv⟩) ?_
 ·exact lI 0 hp (mq 1 rfl) (sqo 3) fun us w hl h => zAh hl h
 ·exact lI 0 hp (mq 1 rfl) (sqo 3) fun us w hl h => zAh hl h
 ·exact lI 0 hp (mq 1 rfl) (sqo 3) fun us w hl h => zAh hl h
 ·exact wXb (Fq.num x) (Fq.num x) hp zCs (sqi 1) (sqi 2) fun v v' w h h' => exK (zCc h h') B4.out (by omega)
 ·exact wXb (Fq.num x) (Fq.num (x * x)) hp zCs (sqi 0) (sqi 3) fun v v' w h h' => exK (zCc h h') B5.out (by omega)
 ·exact aN hp (mq 0 rfl)
 ·exact sN 4 hp (mq 0 rfl)
 intro L vs w6 nb hL hC hn E6
 have e5 : vs 5 = .pointer (some ⟨nb 5, 0, none⟩) := hn _ (mq 0 rfl)
 have E := E6; simp only [LM, zAb] at E
 rw [zAa hL]
 simp only [SP, Nat.zero_add, Nat.reduceAdd]
 rw [e5]
 generalize nb 5 = b6_5 at E ⊢
 generalize vs 0 = u6_0
 generalize vs 1 = u6_1
 generalize vs 2 = u6_2
 generalize vs 3 = u6_3
 generalize vs 4 = u6_4
 clear e5 hC hn E6 hL vs L nb
 go_upto_region 2 with (fail)
 have B7 : Hid (ab ((A * x)) < pw 10) := zBp hA.out hx.out (by omega)
 have B8 : Hid (ab (((x * (x * x)) + (A * x))) < pw 16) := zB7 B5.out B7.out (by omega) (by omega)
 have B9 : Hid (ab ((((x * (x * x)) + (A * x)) + B)) < pw 17) := zB7 B8.out hB.out (by omega) (by omega)
 have B10 : Hid (ab (((((x * (x * x)) + (A * x)) + B) % M)) < pw 5) := zCq h0.out hM.out
 refine rg [Fq.num (x * (x * x)), ip b1 0, Fq.num A, Fq.num x, Fq.num (A * x), Fq.num ((x * (x * x)) + (A * x)), ip b1 2, Fq.num B, Fq.num (((x * (x * x)) + (A * x)) + B), ip b1 4, Fq.num M, Fq.num ((((x * (x * x)) + (A * x)) + B) % M), Fq.any] [none, some (12, Fq.num ((((x * (x * x)) + (A * x)) + B) % M)), none, none] [] E (fun hp => ⟨?_, ?_, ?_, ?_, ?_, ?_, ?_, ?_, ?_, ?_, ?_, ?_, ?_, tv⟩) ?_
 ·exact lI 0 hp (mq 0 rfl) (sqo 5) fun us w hl h => zAh hl h
 ·exact qa b1 0 0 hp (sqo 2)
 ·exact lN 0 2 hp (mq 3 rfl) zAd (sqi 1)
 ·exact lI 0 hp (mq 2 rfl) (sqo 3) fun us w hl h => zAh hl h
 ·exact wXb (Fq.num A) (Fq.num x) hp zCs (sqi 2) (sqi 3) fun v v' w h h' => exK (zCc h h') B7.out (by omega)
 ·exact wXb (Fq.num (x * (x * x))) (Fq.num (A * x)) hp zDx (sqi 0) (sqi 4) fun v v' w h h' => exK (zCy h h') B8.out (by omega)
 ·exact qa b1 0 2 hp (sqo 2)
 ·exact lN 2 2 hp (mq 3 rfl) zAd (sqi 6)
 ·exact wXb (Fq.num ((x * (x * x)) + (A * x))) (Fq.num B) hp zDx (sqi 5) (sqi 7) fun v v' w h h' => exK (zCy h h') B9.out (by omega)
 ·exact qa b1 0 4 hp (sqo 2)
 ·exact lN 4 2 hp (mq 3 rfl) zAd (sqi 9)
 ·exact wXb (Fq.num (((x * (x * x)) + (A * x)) + B)) (Fq.num M) hp zCl (sqi 8) (sqi 10) fun v v' w h h' => exK (zE5 h h' (Int.lt_of_lt_of_le B9.out (zAg (by omega))) (Int.lt_of_lt_of_le hM.out (zAg (by omega))) (by have := h0.out; omega)) (k := 5) (zCq h0.out hM.out) (by omega)
 ·exact sP 11 hp (mq 1 rfl) (sqo 4)
 intro L vs w11 nb hL hC hn E11
 have e1 := wXi hC 1
 have e6 := wXi hC 6
 have e9 := wXi hC 9
 have E := E11; simp only [LM, zAb] at E
 rw [zAa hL]
 simp only [SP, Nat.zero_add, Nat.reduceAdd]
 rw [e1, e6, e9]
 generalize vs 0 = u11_0
 generalize vs 2 = u11_2
 generalize vs 3 = u11_3
 generalize vs 4 = u11_4
 generalize vs 5 = u11_5
 generalize vs 7 = u11_7
 generalize vs 8 = u11_8
 generalize vs 10 = u11_10
 generalize vs 11 = u11_11
 clear e1 e6 e9 hC hn E11 hL vs L nb
 clear h0
 obtain ⟨p0_0, p0_1, c0_0, c0_1, hP0⟩ := zBd (E.box 1 rfl)
 clear B4 B5 B7 B8 B9 B10 hM hA hB hx
 go_wp2
 refine bodyPost_ret (v := .agg #[p0_0, p0_1]) ?_ rfl ⟨_, rfl, E.below, hP0⟩
 simp [results, Tryz.results30, go_sem, c0_0, c0_1]

theorem zEb (args : Array Value) (w : World) : (callFunc 27 args).run Tryz.prog w = .ok (.enter 27 args) w := zAn Tryz.func27 (by kernel_rfl) rfl args w
theorem zGj (args : Array Value) (w : World) : (callFunc 25 args).run Tryz.prog w = .ok (.enter 25 args) w := zAn Tryz.func25 (by kernel_rfl) rfl args w
theorem zC0 (args : Array Value) (w : World) : (callFunc 8 args).run Tryz.prog w = .ok (.enter 8 args) w := zAn Tryz.func8 (by kernel_rfl) rfl args w
theorem zKj (args : Array Value) (w : World) : (callFunc 34 args).run Tryz.prog w = .ok (.enter 34 args) w := zAn Tryz.func34 (by kernel_rfl) rfl args w
theorem zNf (args : Array Value) (w : World) : (callFunc 13 args).run Tryz.prog w = .ok (.enter 13 args) w := zAn Tryz.func13 (by kernel_rfl) rfl args w
theorem zDy (args : Array Value) (w : World) : (callFunc 32 args).run Tryz.prog w = .ok (.enter 32 args) w := zAn Tryz.func32 (by kernel_rfl) rfl args w
theorem zKi (args : Array Value) (w : World) : (callFunc 11 args).run Tryz.prog w = .ok (.enter 11 args) w := zAn Tryz.func11 (by kernel_rfl) rfl args w
theorem zKl (args : Array Value) (w : World) : (callFunc 16 args).run Tryz.prog w = .ok (.enter 16 args) w := zAn Tryz.func16 (by kernel_rfl) rfl args w
theorem zHm (args : Array Value) (w : World) : (callFunc 9 args).run Tryz.prog w = .ok (.enter 9 args) w := zAn Tryz.func9 (by kernel_rfl) rfl args w
theorem pt_iff {A B M x y : Int} : decide ((y * y - (((x * x) + A) * x + B)) % M = 0) = decide ((y * y) % M = ((x * (x * x)) + (A * x) + B) % M) := by
 have e : y * y - (((x * x) + A) * x + B) = y * y - ((x * (x * x)) + (A * x) + B) := by rw [Int.add_mul, Int.mul_assoc]
 rw [e]
 exact decide_eq_decide.2 ⟨fun h => Int.emod_eq_emod_iff_emod_sub_eq_zero.2 h, fun h => Int.emod_eq_emod_iff_emod_sub_eq_zero.1 h⟩
set_option maxRecDepth 100000 in
set_option maxHeartbeats 4000000 in
theorem exRIn0 {w : World} {v v' : Value} {a m : Int} (h : Num w v a) (h' : Num w v' m) (hc : a < 0) {t : Bool} (ht : resB a m = t) :
  Calls Tryz.prog 27 #[v, v'] w fun e w' => ∃ v', e = .returned v' ∧ Below w.heap.size w w' ∧ v' = .bool t := by
 have T1 : Hid (¬ 0 ≤ cmpI a 0) := by have := cmpIqlt.2 hc; show ¬ _; omega
 have ht2 : t = false := ht.symm.trans (decide_eq_false fun e => by omega)
 subst ht2
 clear ht
 clear hc
 obtain ⟨n0, ao0, k0, c0, rfl⟩ := h.parts
 obtain ⟨n1, ao1, k1, c1, rfl⟩ := h'.parts
 obtain ⟨w1, b1, hw1, hb1, hs1, E⟩ := zB8 w (F := Fq.num a) (us := [.bool n0, .slice ao0 k0 c0]) 32 rfl (by simp) (zBr _ _ _ _) h
 obtain ⟨w2, b2, hw2, hb2, hs2, E⟩ := fN E hs1 32 h'
 go_enter Tryz.func27, Tryz.ntmps27
 go_upto_region 1 with (fail)
 rw [← hw1]
 rw [← hw2]
 rw [← hb2]
 rw [← hb1]
 clear hw1 hw2 hb1 hb2 hs2 hs1
 refine rg [Fq.num a, Fq.is (.int .i64 (cmpI a 0)), yF, yF, Fq.is (undef), Fq.is (undef), Fq.is (undef), Fq.is (undef), yF, yF] N2 [] E (fun hp => ⟨?_, ?_, ?_, ?_, ?_, ?_, ?_, ?_, ?_, ?_, tv⟩) ?_
 ·exact lI 0 hp (mq 1 rfl) (sqo 2) fun us w hl h => zAh hl h
 ·exact wXa (Fq.num a) hp zCd (sqi 0) fun v w h => zCa h
 ·exact zAf (F := fun v _ => v = .int .i64 (cmpI a 0)) hp fo tv (sqi 1) (fun ρ w hc h => ⟨.bool false, by simp [execOp, go_sem, h, hc, T1.out], rfl⟩)
 ·exact zAe hp fo tv (sqi 2)
 ·exact zAj hp fo rfl gqi (fun _ => rfl)
 ·exact zAj hp fo rfl gqi (fun _ => rfl)
 ·exact zAj hp fo rfl gqi (fun _ => rfl)
 ·exact zAj hp fo rfl gqi (fun _ => rfl)
 ·exact zAi (F := fun v _ => v = .bool false) (G := fun v _ => v = .bool false) hp fo tv (sqi 3) (zAl (fun _ => rfl)) (fun ρ w hc h h' => ⟨_, by simp [execOp, go_sem, h, h'], rfl⟩)
 ·exact zAo hp fo tv (sqi 8)
 intro L vs w3 nb hL hC hn E3
 have e1 := wXi hC 1
 have e2 := wXi hC 2
 have e3 := wXi hC 3
 have e4 := wXi hC 4
 have e5 := wXi hC 5
 have e6 := wXi hC 6
 have e7 := wXi hC 7
 have e8 := wXi hC 8
 have e9 := wXi hC 9
 have E := E3; simp only [LM, zAb] at E
 rw [zAa hL]
 simp only [SP, Nat.zero_add, Nat.reduceAdd]
 rw [e1, e2, e3, e4, e5, e6, e7, e8, e9]
 generalize vs 0 = u3_0
 clear e1 e2 e3 e4 e5 e6 e7 e8 e9 hC hn E3 hL vs L nb
 clear T1
 go_wp2
 refine bodyPost_ret (v := .bool false) ?_ rfl ⟨_, rfl, E.below, rfl⟩
 simp [results, Tryz.results27, go_sem]

set_option maxRecDepth 100000 in
set_option maxHeartbeats 4000000 in
theorem exRIn1 {w : World} {v v' : Value} {a m : Int} (h : Num w v a) (h' : Num w v' m) (hc : 0 ≤ a ∧ a < m) {t : Bool} (ht : resB a m = t) :
  Calls Tryz.prog 27 #[v, v'] w fun e w' => ∃ v', e = .returned v' ∧ Below w.heap.size w w' ∧ v' = .bool t := by
 have T1 : Hid (0 ≤ cmpI a 0) := by have := mt cmpIqlt.1 (show ¬ a < 0 by omega); show _ ≤ _; omega
 have T2 : Hid (cmpI a m < 0) := cmpIqlt.2 hc.2
 have ht2 : t = true := ht.symm.trans (decide_eq_true hc)
 subst ht2
 clear ht
 clear hc
 obtain ⟨n0, ao0, k0, c0, rfl⟩ := h.parts
 obtain ⟨n1, ao1, k1, c1, rfl⟩ := h'.parts
 obtain ⟨w1, b1, hw1, hb1, hs1, E⟩ := zB8 w (F := Fq.num a) (us := [.bool n0, .slice ao0 k0 c0]) 32 rfl (by simp) (zBr _ _ _ _) h
 obtain ⟨w2, b2, hw2, hb2, hs2, E⟩ := fN E hs1 32 h'
 go_enter Tryz.func27, Tryz.ntmps27
 go_upto_region 1 with (fail)
 rw [← hw1]
 rw [← hw2]
 rw [← hb2]
 rw [← hb1]
 clear hw1 hw2 hb1 hb2 hs2 hs1
 refine rg [Fq.num a, Fq.is (.int .i64 (cmpI a 0)), yT, yT, Fq.num a, Fq.num m, Fq.is (.int .i64 (cmpI a m)), yT, yT, yT] N2 [] E (fun hp => ⟨?_, ?_, ?_, ?_, ?_, ?_, ?_, ?_, ?_, ?_, tv⟩) ?_
 ·exact lI 0 hp (mq 1 rfl) (sqo 2) fun us w hl h => zAh hl h
 ·exact wXa (Fq.num a) hp zCd (sqi 0) fun v w h => zCa h
 ·exact zAf (F := fun v _ => v = .int .i64 (cmpI a 0)) hp fo tv (sqi 1) (fun ρ w hc h => ⟨.bool true, by simp [execOp, go_sem, h, hc, T1.out], rfl⟩)
 ·exact zAe hp fo tv (sqi 2)
 ·exact zAz (off := 0) hp fo gqi (mq 1 rfl) (.inl rfl) (Nat.le_of_ble_eq_true rfl) (sqo 2) (fun us w hl h => zAh hl h)
 ·exact zAz (off := 0) hp fo gqi (mq 0 rfl) (.inl rfl) (Nat.le_of_ble_eq_true rfl) (sqo 3) (fun us w hl h => zAh hl h)
 ·exact zAt (F := (Fq.num a).P) (G := (Fq.num m).P) hp fo gqi (zGg) (sqi 4) (sqi 5) (fun v v' w h h' => zGm h h')
 ·exact zAf (F := fun v _ => v = .int .i64 (cmpI a m)) hp fo gqi (sqi 6) (fun ρ w hc h => ⟨.bool true, by simp [execOp, go_sem, h, hc, T2.out], rfl⟩)
 ·exact zAi (F := fun v _ => v = .bool true) (G := fun v _ => v = .bool true) hp fo tv (sqi 3) (sqi 7) (fun ρ w hc h h' => ⟨_, by simp [execOp, go_sem, h, h'], rfl⟩)
 ·exact zAo hp fo tv (sqi 8)
 intro L vs w3 nb hL hC hn E3
 have e1 := wXi hC 1
 have e2 := wXi hC 2
 have e3 := wXi hC 3
 have e6 := wXi hC 6
 have e7 := wXi hC 7
 have e8 := wXi hC 8
 have e9 := wXi hC 9
 have E := E3; simp only [LM, zAb] at E
 rw [zAa hL]
 simp only [SP, Nat.zero_add, Nat.reduceAdd]
 rw [e1, e2, e3, e6, e7, e8, e9]
 generalize vs 0 = u3_0
 generalize vs 4 = u3_4
 generalize vs 5 = u3_5
 clear e1 e2 e3 e6 e7 e8 e9 hC hn E3 hL vs L nb
 clear T1 T2
 go_wp2
 refine bodyPost_ret (v := .bool true) ?_ rfl ⟨_, rfl, E.below, rfl⟩
 simp [results, Tryz.results27, go_sem]

set_option maxRecDepth 100000 in
set_option maxHeartbeats 4000000 in
theorem exRIn2 {w : World} {v v' : Value} {a m : Int} (h : Num w v a) (h' : Num w v' m) (hc : 0 ≤ a ∧ ¬ a < m) {t : Bool} (ht : resB a m = t) :
  Calls Tryz.prog 27 #[v, v'] w fun e w' => ∃ v', e = .returned v' ∧ Below w.heap.size w w' ∧ v' = .bool t := by
 have T1 : Hid (0 ≤ cmpI a 0) := by have := mt cmpIqlt.1 (show ¬ a < 0 by omega); show _ ≤ _; omega
 have T2 : Hid (¬ cmpI a m < 0) := fun e => hc.2 (cmpIqlt.1 e)
 have ht2 : t = false := ht.symm.trans (decide_eq_false fun e => hc.2 e.2)
 subst ht2
 clear ht
 clear hc
 obtain ⟨n0, ao0, k0, c0, rfl⟩ := h.parts
 obtain ⟨n1, ao1, k1, c1, rfl⟩ := h'.parts
 obtain ⟨w1, b1, hw1, hb1, hs1, E⟩ := zB8 w (F := Fq.num a) (us := [.bool n0, .slice ao0 k0 c0]) 32 rfl (by simp) (zBr _ _ _ _) h
 obtain ⟨w2, b2, hw2, hb2, hs2, E⟩ := fN E hs1 32 h'
 go_enter Tryz.func27, Tryz.ntmps27
 go_upto_region 1 with (fail)
 rw [← hw1]
 rw [← hw2]
 rw [← hb2]
 rw [← hb1]
 clear hw1 hw2 hb1 hb2 hs2 hs1
 refine rg [Fq.num a, Fq.is (.int .i64 (cmpI a 0)), yT, yT, Fq.num a, Fq.num m, Fq.is (.int .i64 (cmpI a m)), yF, yF, yF] N2 [] E (fun hp => ⟨?_, ?_, ?_, ?_, ?_, ?_, ?_, ?_, ?_, ?_, tv⟩) ?_
 ·exact lI 0 hp (mq 1 rfl) (sqo 2) fun us w hl h => zAh hl h
 ·exact wXa (Fq.num a) hp zCd (sqi 0) fun v w h => zCa h
 ·exact zAf (F := fun v _ => v = .int .i64 (cmpI a 0)) hp fo tv (sqi 1) (fun ρ w hc h => ⟨.bool true, by simp [execOp, go_sem, h, hc, T1.out], rfl⟩)
 ·exact zAe hp fo tv (sqi 2)
 ·exact zAz (off := 0) hp fo gqi (mq 1 rfl) (.inl rfl) (Nat.le_of_ble_eq_true rfl) (sqo 2) (fun us w hl h => zAh hl h)
 ·exact zAz (off := 0) hp fo gqi (mq 0 rfl) (.inl rfl) (Nat.le_of_ble_eq_true rfl) (sqo 3) (fun us w hl h => zAh hl h)
 ·exact zAt (F := (Fq.num a).P) (G := (Fq.num m).P) hp fo gqi (zGg) (sqi 4) (sqi 5) (fun v v' w h h' => zGm h h')
 ·exact zAf (F := fun v _ => v = .int .i64 (cmpI a m)) hp fo gqi (sqi 6) (fun ρ w hc h => ⟨.bool false, by simp [execOp, go_sem, h, hc, T2.out], rfl⟩)
 ·exact zAi (F := fun v _ => v = .bool true) (G := fun v _ => v = .bool false) hp fo tv (sqi 3) (sqi 7) (fun ρ w hc h h' => ⟨_, by simp [execOp, go_sem, h, h'], rfl⟩)
 ·exact zAo hp fo tv (sqi 8)
 intro L vs w3 nb hL hC hn E3
 have e1 := wXi hC 1
 have e2 := wXi hC 2
 have e3 := wXi hC 3
 have e6 := wXi hC 6
 have e7 := wXi hC 7
 have e8 := wXi hC 8
 have e9 := wXi hC 9
 have E := E3; simp only [LM, zAb] at E
 rw [zAa hL]
 simp only [SP, Nat.zero_add, Nat.reduceAdd]
 rw [e1, e2, e3, e6, e7, e8, e9]
 generalize vs 0 = u3_0
 generalize vs 4 = u3_4
 generalize vs 5 = u3_5
 clear e1 e2 e3 e6 e7 e8 e9 hC hn E3 hL vs L nb
 clear T1 T2
 go_wp2
 refine bodyPost_ret (v := .bool false) ?_ rfl ⟨_, rfl, E.below, rfl⟩
 simp [results, Tryz.results27, go_sem]

theorem zEe {w : World} {v v' : Value} {a m : Int} (h : Num w v a) (h' : Num w v' m) {t : Bool} (ht : resB a m = t) :
  Calls Tryz.prog 27 #[v, v'] w fun e w' => ∃ v', e = .returned v' ∧ Below w.heap.size w w' ∧ v' = .bool t := by
 by_cases h0 : a < 0
 ·exact exRIn0 h h' h0 ht
 ·by_cases h1 : a < m
  ·exact exRIn1 h h' ⟨by omega, h1⟩ ht
  ·exact exRIn2 h h' ⟨by omega, h1⟩ ht

set_option maxRecDepth 100000 in
set_option maxHeartbeats 4000000 in
theorem zGn {w : World} {v : Value} {A B M : Int} (h : (Fq.st [.n A, .n B, .n M]).P v w) (hM : ab M < pw 5) (hA : ab A < pw 5) (hB : ab B < pw 5) {t : Bool} (ht : zBs A B M = t) :
  Calls Tryz.prog 25 #[v] w fun e w' => ∃ v', e = .returned v' ∧ Below w.heap.size w w' ∧ v' = .bool t := by
 replace hM := hidd hM
 replace hA := hidd hA
 replace hB := hidd hB
 by_cases h3 : 3 < M
 ·by_cases h2 : M % 2 = 0
  ·have T1 : Hid (¬ cmpI M 3 ≤ 0) := by have := cmpIqgt.2 h3; show ¬ _; omega
   have T2 : Hid (cmpI (M % 2) 0 = 0) := cmpIq0.2 h2
   have ht2 : t = false := ht.symm.trans (by unfold zBs; rw [show decide (3 < M ∧ M % 2 = 1) = false from decide_eq_false fun e => by omega]; rfl)
   subst ht2
   clear ht
   clear h3 h2
   obtain ⟨_, rfl, hf0⟩ := h
   have hF0 := hf0
   obtain ⟨y0_p0, y0_q0, _, rfl, _y0_n0, y0_p1, y0_q1, _, rfl, _y0_n1, y0_p2, y0_q2, _, rfl, _y0_n2, rfl⟩ := hf0
   obtain ⟨w1, b1, hw1, hb1, hs1, E⟩ := gS w 34 hF0
   go_enter Tryz.func25, Tryz.ntmps25
   go_upto_region 1 with (fail)
   rw [← hw1]
   rw [← hb1]
   clear hw1 hb1 hs1
   have B2 : Hid (ab ((3)) < pw 3) := zBq (by decide)
   refine rg [Fq.num (3), Fq.any, Fq.any] [none] [⟨1, 2, 2, Fq.num 0, Fq.num (3), none⟩] E (fun hp => ⟨?_, ?_, ?_, tv⟩) ?_
   ·exact zA7 (F := (Fq.is (.int .i64 3)).P) hp fo tv (zBg) (zAl (fun _ => rfl)) (fun v w h => (by subst h; exact rOfK w (3) (by omega) (by omega)))
   ·exact aN hp (mq 0 rfl)
   ·exact sN 0 hp (mq 0 rfl)
   intro L vs w3 nb hL hC hn E3
   have e1 : vs 1 = .pointer (some ⟨nb 1, 0, none⟩) := hn _ (mq 0 rfl)
   have E := E3; simp only [LM, zAb] at E
   rw [zAa hL]
   simp only [SP, Nat.zero_add, Nat.reduceAdd]
   rw [e1]
   generalize nb 1 = b3_1 at E ⊢
   generalize vs 0 = u3_0
   clear e1 hC hn E3 hL vs L nb
   go_upto_region 2 with (fail)
   have B4 : Hid (ab ((2)) < pw 3) := zBq (by decide)
   refine rg [ip b1 4, Fq.num M, Fq.num (3), Fq.is (.int .i64 (cmpI M (3))), yF, yF, ip b1 4, Fq.num M, Fq.num (2), Fq.num (M % 2), Fq.is (.int .i64 (cmpI (M % 2) 0)), yT, yT] N2 [] E (fun hp => ⟨?_, ?_, ?_, ?_, ?_, ?_, ?_, ?_, ?_, ?_, ?_, ?_, ?_, tv⟩) ?_
   ·exact qa b1 0 4 hp (sqo 1)
   ·exact lN 4 2 hp (mq 1 rfl) zAd (sqi 0)
   ·exact lI 0 hp (mq 0 rfl) (sqo 3) fun us w hl h => zAh hl h
   ·exact wXb (Fq.num M) (Fq.num (3)) hp zGg (sqi 1) (sqi 2) fun v v' w h h' => zGm h h'
   ·exact zAf (F := fun v _ => v = .int .i64 (cmpI M (3))) hp fo tv (sqi 3) (fun ρ w hc h => ⟨.bool false, by simp [execOp, go_sem, h, hc, T1.out], rfl⟩)
   ·exact zAe hp fo tv (sqi 4)
   ·exact zAv (b := b1) (off := 0) (off' := 4) hp fo gqi (sqo 1) (fun ρ w h => by simp [execOp, go_sem, h]) (fun _ => rfl)
   ·exact lG 4 2 hp gqi (mq 1 rfl) zAd (sqi 6) fun v w h => zA8 h
   ·exact zA7 (F := (Fq.is (.int .i64 2)).P) hp fo gqi (zBg) (zAl (fun _ => rfl)) (fun v w h => (by subst h; exact rOfK w (2) (by omega) (by omega)))
   ·exact zAt (F := (Fq.num M).P) (G := (Fq.num (2)).P) hp fo gqi (zCl) (sqi 7) (sqi 8) (fun v v' w h h' => zC1 h h' (by omega) (Int.lt_of_lt_of_le hM.out (zAg (by omega))) (Int.lt_of_lt_of_le B4.out (zAg (by omega))))
   ·exact zA7 (F := (Fq.num (M % 2)).P) hp fo gqi (zCd) (sqi 9) (fun v w h => zCa h)
   ·exact zAf (F := fun v _ => v = .int .i64 (cmpI (M % 2) 0)) hp fo gqi (sqi 10) (fun ρ w hc h => ⟨.bool true, by simp [execOp, go_sem, h, hc, T2.out], rfl⟩)
   ·exact zAi (F := fun v _ => v = .bool false) (G := fun v _ => v = .bool true) hp fo tv (sqi 5) (sqi 11) (fun ρ w hc h h' => ⟨_, by simp [execOp, go_sem, h, h'], rfl⟩)
   intro L vs w5 nb hL hC hn E5
   have e0 := wXi hC 0
   have e3 := wXi hC 3
   have e4 := wXi hC 4
   have e5 := wXi hC 5
   have e6 := wXi hC 6
   have e10 := wXi hC 10
   have e11 := wXi hC 11
   have e12 := wXi hC 12
   have E := E5; simp only [LM, zAb] at E
   rw [zAa hL]
   simp only [SP, Nat.zero_add, Nat.reduceAdd]
   rw [e0, e3, e4, e5, e6, e10, e11, e12]
   generalize vs 1 = u5_1
   generalize vs 2 = u5_2
   generalize vs 7 = u5_7
   generalize vs 8 = u5_8
   generalize vs 9 = u5_9
   clear e0 e3 e4 e5 e6 e10 e11 e12 hC hn E5 hL vs L nb
   clear T1 T2
   go_upto_region 3 with (fail)
   refine rg [yF] N2 [] E (fun hp => ⟨?_, tv⟩) ?_
   ·exact zAo hp fo tv (zAl (fun _ => rfl))
   intro L vs w6 nb hL hC hn E6
   have e0 := wXi hC 0
   have E := E6; simp only [LM, zAb] at E
   rw [zAa hL]
   simp only [SP, Nat.zero_add, Nat.reduceAdd]
   rw [e0]
   clear e0 hC hn E6 hL vs L nb
   clear B2 B4 hM hA hB
   go_wp2
   refine bodyPost_ret (v := .bool false) ?_ rfl ⟨_, rfl, E.below, rfl⟩
   simp [results, Tryz.results25, go_sem]
  ·have T1 : Hid (¬ cmpI M 3 ≤ 0) := by have := cmpIqgt.2 h3; show ¬ _; omega
   have T2 : Hid (¬ cmpI (M % 2) 0 = 0) := fun e => h2 (cmpIq0.1 e)
   have ht2 : t = (resB A M && resB B M) := ht.symm.trans (by unfold zBs; rw [show decide (3 < M ∧ M % 2 = 1) = true from decide_eq_true ⟨h3, by omega⟩]; rfl)
   clear ht
   clear h3 h2
   obtain ⟨_, rfl, hf0⟩ := h
   have hF0 := hf0
   obtain ⟨y0_p0, y0_q0, _, rfl, _y0_n0, y0_p1, y0_q1, _, rfl, _y0_n1, y0_p2, y0_q2, _, rfl, _y0_n2, rfl⟩ := hf0
   obtain ⟨w7, b7, hw7, hb7, hs7, E⟩ := gS w 34 hF0
   go_enter Tryz.func25, Tryz.ntmps25
   go_upto_region 1 with (fail)
   rw [← hw7]
   rw [← hb7]
   clear hw7 hb7 hs7
   have B8 : Hid (ab ((3)) < pw 3) := zBq (by decide)
   refine rg [Fq.num (3), Fq.any, Fq.any] [none] [⟨1, 2, 2, Fq.num 0, Fq.num (3), none⟩] E (fun hp => ⟨?_, ?_, ?_, tv⟩) ?_
   ·exact zA7 (F := (Fq.is (.int .i64 3)).P) hp fo tv (zBg) (zAl (fun _ => rfl)) (fun v w h => (by subst h; exact rOfK w (3) (by omega) (by omega)))
   ·exact aN hp (mq 0 rfl)
   ·exact sN 0 hp (mq 0 rfl)
   intro L vs w9 nb hL hC hn E9
   have e1 : vs 1 = .pointer (some ⟨nb 1, 0, none⟩) := hn _ (mq 0 rfl)
   have E := E9; simp only [LM, zAb] at E
   rw [zAa hL]
   simp only [SP, Nat.zero_add, Nat.reduceAdd]
   rw [e1]
   generalize nb 1 = b9_1 at E ⊢
   generalize vs 0 = u9_0
   clear e1 hC hn E9 hL vs L nb
   go_upto_region 2 with (fail)
   have B10 : Hid (ab ((2)) < pw 3) := zBq (by decide)
   refine rg [ip b7 4, Fq.num M, Fq.num (3), Fq.is (.int .i64 (cmpI M (3))), yF, yF, ip b7 4, Fq.num M, Fq.num (2), Fq.num (M % 2), Fq.is (.int .i64 (cmpI (M % 2) 0)), yF, yF] N2 [] E (fun hp => ⟨?_, ?_, ?_, ?_, ?_, ?_, ?_, ?_, ?_, ?_, ?_, ?_, ?_, tv⟩) ?_
   ·exact qa b7 0 4 hp (sqo 1)
   ·exact lN 4 2 hp (mq 1 rfl) zAd (sqi 0)
   ·exact lI 0 hp (mq 0 rfl) (sqo 3) fun us w hl h => zAh hl h
   ·exact wXb (Fq.num M) (Fq.num (3)) hp zGg (sqi 1) (sqi 2) fun v v' w h h' => zGm h h'
   ·exact zAf (F := fun v _ => v = .int .i64 (cmpI M (3))) hp fo tv (sqi 3) (fun ρ w hc h => ⟨.bool false, by simp [execOp, go_sem, h, hc, T1.out], rfl⟩)
   ·exact zAe hp fo tv (sqi 4)
   ·exact zAv (b := b7) (off := 0) (off' := 4) hp fo gqi (sqo 1) (fun ρ w h => by simp [execOp, go_sem, h]) (fun _ => rfl)
   ·exact lG 4 2 hp gqi (mq 1 rfl) zAd (sqi 6) fun v w h => zA8 h
   ·exact zA7 (F := (Fq.is (.int .i64 2)).P) hp fo gqi (zBg) (zAl (fun _ => rfl)) (fun v w h => (by subst h; exact rOfK w (2) (by omega) (by omega)))
   ·exact zAt (F := (Fq.num M).P) (G := (Fq.num (2)).P) hp fo gqi (zCl) (sqi 7) (sqi 8) (fun v v' w h h' => zC1 h h' (by omega) (Int.lt_of_lt_of_le hM.out (zAg (by omega))) (Int.lt_of_lt_of_le B10.out (zAg (by omega))))
   ·exact zA7 (F := (Fq.num (M % 2)).P) hp fo gqi (zCd) (sqi 9) (fun v w h => zCa h)
   ·exact zAf (F := fun v _ => v = .int .i64 (cmpI (M % 2) 0)) hp fo gqi (sqi 10) (fun ρ w hc h => ⟨.bool false, by simp [execOp, go_sem, h, hc, T2.out], rfl⟩)
   ·exact zAi (F := fun v _ => v = .bool false) (G := fun v _ => v = .bool false) hp fo tv (sqi 5) (sqi 11) (fun ρ w hc h h' => ⟨_, by simp [execOp, go_sem, h, h'], rfl⟩)
   intro L vs w11 nb hL hC hn E11
   have e0 := wXi hC 0
   have e3 := wXi hC 3
   have e4 := wXi hC 4
   have e5 := wXi hC 5
   have e6 := wXi hC 6
   have e10 := wXi hC 10
   have e11 := wXi hC 11
   have e12 := wXi hC 12
   have E := E11; simp only [LM, zAb] at E
   rw [zAa hL]
   simp only [SP, Nat.zero_add, Nat.reduceAdd]
   rw [e0, e3, e4, e5, e6, e10, e11, e12]
   generalize vs 1 = u11_1
   generalize vs 2 = u11_2
   generalize vs 7 = u11_7
   generalize vs 8 = u11_8
   generalize vs 9 = u11_9
   clear e0 e3 e4 e5 e6 e10 e11 e12 hC hn E11 hL vs L nb
   clear T1 T2
   go_upto_region 4 with (fail)
   cases ha : resB A M
   case false =>
    have HA := hidd ha
    rw [ha, Bool.false_and] at ht2
    subst ht2
    clear ha
    refine rg [ip b7 0, Fq.num A, ip b7 4, Fq.num M, yF, yF, Fq.is (undef), Fq.is (undef), Fq.is (undef), Fq.is (undef), Fq.is (undef), yF, yF] N2 [] E (fun hp => ⟨?_, ?_, ?_, ?_, ?_, ?_, ?_, ?_, ?_, ?_, ?_, ?_, ?_, tv⟩) ?_
    ·exact qa b7 0 0 hp (sqo 1)
    ·exact lN 0 2 hp (mq 1 rfl) zAd (sqi 0)
    ·exact qa b7 0 4 hp (sqo 1)
    ·exact lN 4 2 hp (mq 1 rfl) zAd (sqi 2)
    ·exact wXb (Fq.num A) (Fq.num M) hp zEb (sqi 1) (sqi 3) fun v v' w h h' => zEe h h' HA.out
    ·exact zAe hp fo tv (sqi 4)
    ·exact zAj hp fo rfl gqi (fun _ => rfl)
    ·exact zAj hp fo rfl gqi (fun _ => rfl)
    ·exact zAj hp fo rfl gqi (fun _ => rfl)
    ·exact zAj hp fo rfl gqi (fun _ => rfl)
    ·exact zAj hp fo rfl gqi (fun _ => rfl)
    ·exact zAi (F := fun v _ => v = .bool false) (G := fun v _ => v = .bool false) hp fo tv (sqi 5) (zAl (fun _ => rfl)) (fun ρ w hc h h' => ⟨_, by simp [execOp, go_sem, h, h'], rfl⟩)
    ·exact zAo hp fo tv (sqi 11)
    intro L vs w12 nb hL hC hn E12
    have e0 := wXi hC 0
    have e2 := wXi hC 2
    have e4 := wXi hC 4
    have e5 := wXi hC 5
    have e6 := wXi hC 6
    have e7 := wXi hC 7
    have e8 := wXi hC 8
    have e9 := wXi hC 9
    have e10 := wXi hC 10
    have e11 := wXi hC 11
    have e12 := wXi hC 12
    have E := E12; simp only [LM, zAb] at E
    rw [zAa hL]
    simp only [SP, Nat.zero_add, Nat.reduceAdd]
    rw [e0, e2, e4, e5, e6, e7, e8, e9, e10, e11, e12]
    generalize vs 1 = u12_1
    generalize vs 3 = u12_3
    clear e0 e2 e4 e5 e6 e7 e8 e9 e10 e11 e12 hC hn E12 hL vs L nb
    clear HA
    clear B8 B10 hM hA hB
    go_wp2
    refine bodyPost_ret (v := .bool false) ?_ rfl ⟨_, rfl, E.below, rfl⟩
    simp [results, Tryz.results25, go_sem]
   case true =>
    have HA := hidd ha
    rw [ha, Bool.true_and] at ht2
    subst ht2
    clear ha
    refine rg [ip b7 0, Fq.num A, ip b7 4, Fq.num M, yT, yT, ip b7 2, Fq.num B, ip b7 4, Fq.num M, Fq.is (.bool (resB B M)), Fq.is (.bool (resB B M)), Fq.is (.bool (resB B M))] N2 [] E (fun hp => ⟨?_, ?_, ?_, ?_, ?_, ?_, ?_, ?_, ?_, ?_, ?_, ?_, ?_, tv⟩) ?_
    ·exact qa b7 0 0 hp (sqo 1)
    ·exact lN 0 2 hp (mq 1 rfl) zAd (sqi 0)
    ·exact qa b7 0 4 hp (sqo 1)
    ·exact lN 4 2 hp (mq 1 rfl) zAd (sqi 2)
    ·exact wXb (Fq.num A) (Fq.num M) hp zEb (sqi 1) (sqi 3) fun v v' w h h' => zEe h h' HA.out
    ·exact zAe hp fo tv (sqi 4)
    ·exact zAv (b := b7) (off := 0) (off' := 2) hp fo gqi (sqo 1) (fun ρ w h => by simp [execOp, go_sem, h]) (fun _ => rfl)
    ·exact lG 2 2 hp gqi (mq 1 rfl) zAd (sqi 6) fun v w h => zA8 h
    ·exact zAv (b := b7) (off := 0) (off' := 4) hp fo gqi (sqo 1) (fun ρ w h => by simp [execOp, go_sem, h]) (fun _ => rfl)
    ·exact lG 4 2 hp gqi (mq 1 rfl) zAd (sqi 8) fun v w h => zA8 h
    ·exact zAt (F := (Fq.num B).P) (G := (Fq.num M).P) hp fo gqi (zEb) (sqi 7) (sqi 9) (fun v v' w h h' => zEe h h' rfl)
    ·exact zAi (F := fun v _ => v = .bool true) (G := fun v _ => v = .bool (resB B M)) hp fo tv (sqi 5) (sqi 10) (fun ρ w hc h h' => ⟨_, by simp [execOp, go_sem, h, h'], rfl⟩)
    ·exact zAo hp fo tv (sqi 11)
    intro L vs w13 nb hL hC hn E13
    have e0 := wXi hC 0
    have e2 := wXi hC 2
    have e4 := wXi hC 4
    have e5 := wXi hC 5
    have e6 := wXi hC 6
    have e8 := wXi hC 8
    have e10 := wXi hC 10
    have e11 := wXi hC 11
    have e12 := wXi hC 12
    have E := E13; simp only [LM, zAb] at E
    rw [zAa hL]
    simp only [SP, Nat.zero_add, Nat.reduceAdd]
    rw [e0, e2, e4, e5, e6, e8, e10, e11, e12]
    generalize vs 1 = u13_1
    generalize vs 3 = u13_3
    generalize vs 7 = u13_7
    generalize vs 9 = u13_9
    clear e0 e2 e4 e5 e6 e8 e10 e11 e12 hC hn E13 hL vs L nb
    clear HA
    clear B8 B10 hM hA hB
    go_wp2
    refine bodyPost_ret (v := .bool (resB B M)) ?_ rfl ⟨_, rfl, E.below, rfl⟩
    simp [results, Tryz.results25, go_sem]
 ·have T1 : Hid (cmpI M 3 ≤ 0) := by have := mt cmpIqgt.1 h3; show _ ≤ _; omega
  have ht2 : t = false := ht.symm.trans (by unfold zBs; rw [show decide (3 < M ∧ M % 2 = 1) = false from decide_eq_false fun e => by omega]; rfl)
  subst ht2
  clear ht
  clear h3
  obtain ⟨_, rfl, hf0⟩ := h
  have hF0 := hf0
  obtain ⟨y0_p0, y0_q0, _, rfl, _y0_n0, y0_p1, y0_q1, _, rfl, _y0_n1, y0_p2, y0_q2, _, rfl, _y0_n2, rfl⟩ := hf0
  obtain ⟨w14, b14, hw14, hb14, hs14, E⟩ := gS w 34 hF0
  go_enter Tryz.func25, Tryz.ntmps25
  go_upto_region 1 with (fail)
  rw [← hw14]
  rw [← hb14]
  clear hw14 hb14 hs14
  have B15 : Hid (ab ((3)) < pw 3) := zBq (by decide)
  refine rg [Fq.num (3), Fq.any, Fq.any] [none] [⟨1, 2, 2, Fq.num 0, Fq.num (3), none⟩] E (fun hp => ⟨?_, ?_, ?_, tv⟩) ?_
  ·exact zA7 (F := (Fq.is (.int .i64 3)).P) hp fo tv (zBg) (zAl (fun _ => rfl)) (fun v w h => (by subst h; exact rOfK w (3) (by omega) (by omega)))
  ·exact aN hp (mq 0 rfl)
  ·exact sN 0 hp (mq 0 rfl)
  intro L vs w16 nb hL hC hn E16
  have e1 : vs 1 = .pointer (some ⟨nb 1, 0, none⟩) := hn _ (mq 0 rfl)
  have E := E16; simp only [LM, zAb] at E
  rw [zAa hL]
  simp only [SP, Nat.zero_add, Nat.reduceAdd]
  rw [e1]
  generalize nb 1 = b16_1 at E ⊢
  generalize vs 0 = u16_0
  clear e1 hC hn E16 hL vs L nb
  go_upto_region 2 with (fail)
  refine rg [ip b14 4, Fq.num M, Fq.num (3), Fq.is (.int .i64 (cmpI M (3))), yT, yT, Fq.is (undef), Fq.is (undef), Fq.is (undef), Fq.is (undef), Fq.is (undef), Fq.is (undef), yT] N2 [] E (fun hp => ⟨?_, ?_, ?_, ?_, ?_, ?_, ?_, ?_, ?_, ?_, ?_, ?_, ?_, tv⟩) ?_
  ·exact qa b14 0 4 hp (sqo 1)
  ·exact lN 4 2 hp (mq 1 rfl) zAd (sqi 0)
  ·exact lI 0 hp (mq 0 rfl) (sqo 3) fun us w hl h => zAh hl h
  ·exact wXb (Fq.num M) (Fq.num (3)) hp zGg (sqi 1) (sqi 2) fun v v' w h h' => zGm h h'
  ·exact zAf (F := fun v _ => v = .int .i64 (cmpI M (3))) hp fo tv (sqi 3) (fun ρ w hc h => ⟨.bool true, by simp [execOp, go_sem, h, hc, T1.out], rfl⟩)
  ·exact zAe hp fo tv (sqi 4)
  ·exact zAj hp fo rfl gqi (fun _ => rfl)
  ·exact zAj hp fo rfl gqi (fun _ => rfl)
  ·exact zAj hp fo rfl gqi (fun _ => rfl)
  ·exact zAj hp fo rfl gqi (fun _ => rfl)
  ·exact zAj hp fo rfl gqi (fun _ => rfl)
  ·exact zAj hp fo rfl gqi (fun _ => rfl)
  ·exact zAi (F := fun v _ => v = .bool true) (G := fun v _ => v = .bool true) hp fo tv (sqi 5) (zAl (fun _ => rfl)) (fun ρ w hc h h' => ⟨_, by simp [execOp, go_sem, h, h'], rfl⟩)
  intro L vs w17 nb hL hC hn E17
  have e0 := wXi hC 0
  have e3 := wXi hC 3
  have e4 := wXi hC 4
  have e5 := wXi hC 5
  have e6 := wXi hC 6
  have e7 := wXi hC 7
  have e8 := wXi hC 8
  have e9 := wXi hC 9
  have e10 := wXi hC 10
  have e11 := wXi hC 11
  have e12 := wXi hC 12
  have E := E17; simp only [LM, zAb] at E
  rw [zAa hL]
  simp only [SP, Nat.zero_add, Nat.reduceAdd]
  rw [e0, e3, e4, e5, e6, e7, e8, e9, e10, e11, e12]
  generalize vs 1 = u17_1
  generalize vs 2 = u17_2
  clear e0 e3 e4 e5 e6 e7 e8 e9 e10 e11 e12 hC hn E17 hL vs L nb
  clear T1
  go_upto_region 3 with (fail)
  refine rg [yF] N2 [] E (fun hp => ⟨?_, tv⟩) ?_
  ·exact zAo hp fo tv (zAl (fun _ => rfl))
  intro L vs w18 nb hL hC hn E18
  have e0 := wXi hC 0
  have E := E18; simp only [LM, zAb] at E
  rw [zAa hL]
  simp only [SP, Nat.zero_add, Nat.reduceAdd]
  rw [e0]
  clear e0 hC hn E18 hL vs L nb
  clear B15 hM hA hB
  go_wp2
  refine bodyPost_ret (v := .bool false) ?_ rfl ⟨_, rfl, E.below, rfl⟩
  simp [results, Tryz.results25, go_sem]

set_option maxRecDepth 100000 in
set_option maxHeartbeats 4000000 in
theorem zC2 {w : World} {v v' : Value} {A B M x y : Int} {i : Bool} (h : (Fq.st [.n A, .n B, .n M]).P v w) (h' : (Fq.st [.n x, .n y, .v (.bool i)]).P v' w) (hM : ab M < pw 5) (hA : ab A < pw 5) (hB : ab B < pw 5) (hx : ab x < pw 5) (hy : ab y < pw 5) {t : Bool} (ht : onB A B M x y i = t) :
  Calls Tryz.prog 8 #[v, v'] w fun e w' => ∃ v', e = .returned v' ∧ Below w.heap.size w w' ∧ v' = .bool t := by
 replace hM := hidd hM
 replace hA := hidd hA
 replace hB := hidd hB
 replace hx := hidd hx
 replace hy := hidd hy
 cases ha : zBs A B M
 case false =>
  have HC := hidd ha
  have ht2 : t = false := ht.symm.trans (by unfold onB; rw [ha]; rfl)
  subst ht2
  clear ht
  clear ha
  obtain ⟨_, rfl, hf0⟩ := h
  have hF0 := hf0
  obtain ⟨y0_p0, y0_q0, _, rfl, _y0_n0, y0_p1, y0_q1, _, rfl, _y0_n1, y0_p2, y0_q2, _, rfl, _y0_n2, rfl⟩ := hf0
  obtain ⟨_, rfl, hf1⟩ := h'
  have hF1 := hf1
  obtain ⟨y1_p0, y1_q0, _, rfl, _y1_n0, y1_p1, y1_q1, _, rfl, _y1_n1, _, rfl, _, rfl⟩ := hf1
  obtain ⟨w1, b1, hw1, hb1, hs1, E⟩ := gS w 34 hF0
  obtain ⟨w2, b2, hw2, hb2, hs2, E⟩ := fS E hs1 36 hF1
  go_enter Tryz.func8, Tryz.ntmps8
  go_upto_region 1 with (fail)
  rw [← hw1]
  rw [← hw2]
  rw [← hb2]
  rw [← hb1]
  clear hw1 hw2 hb1 hb2 hs2 hs1
  refine rg [Fq.st [.n A, .n B, .n M], yF, yT] N2 [] E (fun hp => ⟨?_, ?_, ?_, tv⟩) ?_
  ·exact lS 0 6 hp (mq 1 rfl) zAm (sqo 2)
  ·exact wXa (Fq.st [.n A, .n B, .n M]) hp zGj (sqi 0) fun v w h => zGn h hM.out hA.out hB.out HC.out
  ·exact zAf (F := fun v _ => v = .bool false) hp fo tv (sqi 1) (fun ρ w _ h => ⟨.bool true, by simp [execOp, go_sem, h], rfl⟩)
  intro L vs w3 nb hL hC hn E3
  have e1 := wXi hC 1
  have e2 := wXi hC 2
  have E := E3; simp only [LM, zAb] at E
  rw [zAa hL]
  simp only [SP, Nat.zero_add, Nat.reduceAdd]
  rw [e1, e2]
  generalize vs 0 = u3_0
  clear e1 e2 hC hn E3 hL vs L nb
  go_upto_region 2 with (fail)
  refine rg [yF] N2 [] E (fun hp => ⟨?_, tv⟩) ?_
  ·exact zAo hp fo tv (zAl (fun _ => rfl))
  intro L vs w4 nb hL hC hn E4
  have e0 := wXi hC 0
  have E := E4; simp only [LM, zAb] at E
  rw [zAa hL]
  simp only [SP, Nat.zero_add, Nat.reduceAdd]
  rw [e0]
  clear e0 hC hn E4 hL vs L nb
  clear HC
  clear hM hA hB hx hy
  go_wp2
  refine bodyPost_ret (v := .bool false) ?_ rfl ⟨_, rfl, E.below, rfl⟩
  simp [results, Tryz.results8, go_sem]
 case true =>
  have HC := hidd ha
  have HM0 : Hid (0 < M) := (zIp ha).1
  replace ht : ptB A B M x y i = t := by rw [← ht]; unfold onB; rw [ha]; rfl
  clear ha
  cases i
  case false =>
   have ht2 : t = (resB x M && (resB y M && decide ((y * y) % M = ((x * (x * x)) + (A * x) + B) % M))) := ht.symm.trans (by rw [← pt_iff]; rfl)
   clear ht
   obtain ⟨_, rfl, hf0⟩ := h
   have hF0 := hf0
   obtain ⟨y0_p0, y0_q0, _, rfl, _y0_n0, y0_p1, y0_q1, _, rfl, _y0_n1, y0_p2, y0_q2, _, rfl, _y0_n2, rfl⟩ := hf0
   obtain ⟨_, rfl, hf1⟩ := h'
   have hF1 := hf1
   obtain ⟨y1_p0, y1_q0, _, rfl, _y1_n0, y1_p1, y1_q1, _, rfl, _y1_n1, _, rfl, _, rfl⟩ := hf1
   obtain ⟨w5, b5, hw5, hb5, hs5, E⟩ := gS w 34 hF0
   obtain ⟨w6, b6, hw6, hb6, hs6, E⟩ := fS E hs5 36 hF1
   go_enter Tryz.func8, Tryz.ntmps8
   go_upto_region 1 with (fail)
   rw [← hw5]
   rw [← hw6]
   rw [← hb6]
   rw [← hb5]
   clear hw5 hw6 hb5 hb6 hs6 hs5
   refine rg [Fq.st [.n A, .n B, .n M], yT, yF] N2 [] E (fun hp => ⟨?_, ?_, ?_, tv⟩) ?_
   ·exact lS 0 6 hp (mq 1 rfl) zAm (sqo 2)
   ·exact wXa (Fq.st [.n A, .n B, .n M]) hp zGj (sqi 0) fun v w h => zGn h hM.out hA.out hB.out HC.out
   ·exact zAf (F := fun v _ => v = .bool true) hp fo tv (sqi 1) (fun ρ w _ h => ⟨.bool false, by simp [execOp, go_sem, h], rfl⟩)
   intro L vs w7 nb hL hC hn E7
   have e1 := wXi hC 1
   have e2 := wXi hC 2
   have E := E7; simp only [LM, zAb] at E
   rw [zAa hL]
   simp only [SP, Nat.zero_add, Nat.reduceAdd]
   rw [e1, e2]
   generalize vs 0 = u7_0
   clear e1 e2 hC hn E7 hL vs L nb
   go_upto_region 3 with (fail)
   refine rg [ip b6 4, yF] N2 [] E (fun hp => ⟨?_, ?_, tv⟩) ?_
   ·exact qa b6 0 4 hp (sqo 3)
   ·exact wXc 4 hp (mq 0 rfl) (sqi 0)
   intro L vs w8 nb hL hC hn E8
   have e0 := wXi hC 0
   have e1 := wXi hC 1
   have E := E8; simp only [LM, zAb] at E
   rw [zAa hL]
   simp only [SP, Nat.zero_add, Nat.reduceAdd]
   rw [e0, e1]
   clear e0 e1 hC hn E8 hL vs L nb
   go_upto_region 5 with (fail)
   cases ha : resB x M
   case false =>
    have HX := hidd ha
    rw [ha, Bool.false_and] at ht2
    subst ht2
    clear ha
    refine rg [ip b6 0, Fq.num x, ip b5 4, Fq.num M, yF, yF, Fq.is (undef), Fq.is (undef), Fq.is (undef), Fq.is (undef), Fq.is (undef), yF, yF, Fq.is (undef), Fq.is (undef), Fq.is (undef), Fq.is (undef), Fq.is (undef), Fq.is (undef), Fq.is (undef), Fq.is (undef), Fq.is (undef), Fq.is (undef), Fq.is (undef), Fq.is (undef), Fq.is (undef), yF, yF] N2 [] E (fun hp => ⟨?_, ?_, ?_, ?_, ?_, ?_, ?_, ?_, ?_, ?_, ?_, ?_, ?_, ?_, ?_, ?_, ?_, ?_, ?_, ?_, ?_, ?_, ?_, ?_, ?_, ?_, ?_, ?_, tv⟩) ?_
    ·exact qa b6 0 0 hp (sqo 3)
    ·exact lN 0 2 hp (mq 0 rfl) zAd (sqi 0)
    ·exact qa b5 0 4 hp (sqo 2)
    ·exact lN 4 2 hp (mq 1 rfl) zAd (sqi 2)
    ·exact wXb (Fq.num x) (Fq.num M) hp zEb (sqi 1) (sqi 3) fun v v' w h h' => zEe h h' HX.out
    ·exact zAe hp fo tv (sqi 4)
    ·exact zAj hp fo rfl gqi (fun _ => rfl)
    ·exact zAj hp fo rfl gqi (fun _ => rfl)
    ·exact zAj hp fo rfl gqi (fun _ => rfl)
    ·exact zAj hp fo rfl gqi (fun _ => rfl)
    ·exact zAj hp fo rfl gqi (fun _ => rfl)
    ·exact zAi (F := fun v _ => v = .bool false) (G := fun v _ => v = .bool false) hp fo tv (sqi 5) (zAl (fun _ => rfl)) (fun ρ w hc h h' => ⟨_, by simp [execOp, go_sem, h, h'], rfl⟩)
    ·exact zAe hp fo tv (sqi 11)
    ·exact zAj hp fo rfl gqi (fun _ => rfl)
    ·exact zAj hp fo rfl gqi (fun _ => rfl)
    ·exact zAj hp fo rfl gqi (fun _ => rfl)
    ·exact zAj hp fo rfl gqi (fun _ => rfl)
    ·exact zAj hp fo rfl gqi (fun _ => rfl)
    ·exact zAj hp fo rfl gqi (fun _ => rfl)
    ·exact zAj hp fo rfl gqi (fun _ => rfl)
    ·exact zAj hp fo rfl gqi (fun _ => rfl)
    ·exact zAj hp fo rfl gqi (fun _ => rfl)
    ·exact zAj hp fo rfl gqi (fun _ => rfl)
    ·exact zAj hp fo rfl gqi (fun _ => rfl)
    ·exact zAj hp fo rfl gqi (fun _ => rfl)
    ·exact zAj hp fo rfl gqi (fun _ => rfl)
    ·exact zAi (F := fun v _ => v = .bool false) (G := fun v _ => v = .bool false) hp fo tv (sqi 12) (zAl (fun _ => rfl)) (fun ρ w hc h h' => ⟨_, by simp [execOp, go_sem, h, h'], rfl⟩)
    ·exact zAo hp fo tv (sqi 26)
    intro L vs w9 nb hL hC hn E9
    have e0 := wXi hC 0
    have e2 := wXi hC 2
    have e4 := wXi hC 4
    have e5 := wXi hC 5
    have e6 := wXi hC 6
    have e7 := wXi hC 7
    have e8 := wXi hC 8
    have e9 := wXi hC 9
    have e10 := wXi hC 10
    have e11 := wXi hC 11
    have e12 := wXi hC 12
    have e13 := wXi hC 13
    have e14 := wXi hC 14
    have e15 := wXi hC 15
    have e16 := wXi hC 16
    have e17 := wXi hC 17
    have e18 := wXi hC 18
    have e19 := wXi hC 19
    have e20 := wXi hC 20
    have e21 := wXi hC 21
    have e22 := wXi hC 22
    have e23 := wXi hC 23
    have e24 := wXi hC 24
    have e25 := wXi hC 25
    have e26 := wXi hC 26
    have e27 := wXi hC 27
    have E := E9; simp only [LM, zAb] at E
    rw [zAa hL]
    simp only [SP, Nat.zero_add, Nat.reduceAdd]
    rw [e0, e2, e4, e5, e6, e7, e8, e9, e10, e11, e12, e13, e14, e15, e16, e17, e18, e19, e20, e21, e22, e23, e24, e25, e26, e27]
    generalize vs 1 = u9_1
    generalize vs 3 = u9_3
    clear e0 e2 e4 e5 e6 e7 e8 e9 e10 e11 e12 e13 e14 e15 e16 e17 e18 e19 e20 e21 e22 e23 e24 e25 e26 e27 hC hn E9 hL vs L nb
    clear HX HC HM0
    clear hM hA hB hx hy
    go_wp2
    refine bodyPost_ret (v := .bool false) ?_ rfl ⟨_, rfl, E.below, rfl⟩
    simp [results, Tryz.results8, go_sem]
   case true =>
    have HX := hidd ha
    rw [ha, Bool.true_and] at ht2
    clear ha
    cases ha : resB y M
    case false =>
     have HY := hidd ha
     rw [ha, Bool.false_and] at ht2
     subst ht2
     clear ha
     refine rg [ip b6 0, Fq.num x, ip b5 4, Fq.num M, yT, yT, ip b6 2, Fq.num y, ip b5 4, Fq.num M, yF, yF, yF, Fq.is (undef), Fq.is (undef), Fq.is (undef), Fq.is (undef), Fq.is (undef), Fq.is (undef), Fq.is (undef), Fq.is (undef), Fq.is (undef), Fq.is (undef), Fq.is (undef), Fq.is (undef), Fq.is (undef), yF, yF] N2 [] E (fun hp => ⟨?_, ?_, ?_, ?_, ?_, ?_, ?_, ?_, ?_, ?_, ?_, ?_, ?_, ?_, ?_, ?_, ?_, ?_, ?_, ?_, ?_, ?_, ?_, ?_, ?_, ?_, ?_, ?_, tv⟩) ?_
     ·exact qa b6 0 0 hp (sqo 3)
     ·exact lN 0 2 hp (mq 0 rfl) zAd (sqi 0)
     ·exact qa b5 0 4 hp (sqo 2)
     ·exact lN 4 2 hp (mq 1 rfl) zAd (sqi 2)
     ·exact wXb (Fq.num x) (Fq.num M) hp zEb (sqi 1) (sqi 3) fun v v' w h h' => zEe h h' HX.out
     ·exact zAe hp fo tv (sqi 4)
     ·exact zAv (b := b6) (off := 0) (off' := 2) hp fo gqi (sqo 3) (fun ρ w h => by simp [execOp, go_sem, h]) (fun _ => rfl)
     ·exact lG 2 2 hp gqi (mq 0 rfl) zAd (sqi 6) fun v w h => zA8 h
     ·exact zAv (b := b5) (off := 0) (off' := 4) hp fo gqi (sqo 2) (fun ρ w h => by simp [execOp, go_sem, h]) (fun _ => rfl)
     ·exact lG 4 2 hp gqi (mq 1 rfl) zAd (sqi 8) fun v w h => zA8 h
     ·exact zAt (F := (Fq.num y).P) (G := (Fq.num M).P) hp fo gqi (zEb) (sqi 7) (sqi 9) (fun v v' w h h' => zEe h h' HY.out)
     ·exact zAi (F := fun v _ => v = .bool true) (G := fun v _ => v = .bool false) hp fo tv (sqi 5) (sqi 10) (fun ρ w hc h h' => ⟨_, by simp [execOp, go_sem, h, h'], rfl⟩)
     ·exact zAe hp fo tv (sqi 11)
     ·exact zAj hp fo rfl gqi (fun _ => rfl)
     ·exact zAj hp fo rfl gqi (fun _ => rfl)
     ·exact zAj hp fo rfl gqi (fun _ => rfl)
     ·exact zAj hp fo rfl gqi (fun _ => rfl)
     ·exact zAj hp fo rfl gqi (fun _ => rfl)
     ·exact zAj hp fo rfl gqi (fun _ => rfl)
     ·exact zAj hp fo rfl gqi (fun _ => rfl)
     ·exact zAj hp fo rfl gqi (fun _ => rfl)
     ·exact zAj hp fo rfl gqi (fun _ => rfl)
     ·exact zAj hp fo rfl gqi (fun _ => rfl)
     ·exact zAj hp fo rfl gqi (fun _ => rfl)
     ·exact zAj hp fo rfl gqi (fun _ => rfl)
     ·exact zAj hp fo rfl gqi (fun _ => rfl)
     ·exact zAi (F := fun v _ => v = .bool false) (G := fun v _ => v = .bool false) hp fo tv (sqi 12) (zAl (fun _ => rfl)) (fun ρ w hc h h' => ⟨_, by simp [execOp, go_sem, h, h'], rfl⟩)
     ·exact zAo hp fo tv (sqi 26)
     intro L vs w10 nb hL hC hn E10
     have e0 := wXi hC 0
     have e2 := wXi hC 2
     have e4 := wXi hC 4
     have e5 := wXi hC 5
     have e6 := wXi hC 6
     have e8 := wXi hC 8
     have e10 := wXi hC 10
     have e11 := wXi hC 11
     have e12 := wXi hC 12
     have e13 := wXi hC 13
     have e14 := wXi hC 14
     have e15 := wXi hC 15
     have e16 := wXi hC 16
     have e17 := wXi hC 17
     have e18 := wXi hC 18
     have e19 := wXi hC 19
     have e20 := wXi hC 20
     have e21 := wXi hC 21
     have e22 := wXi hC 22
     have e23 := wXi hC 23
     have e24 := wXi hC 24
     have e25 := wXi hC 25
     have e26 := wXi hC 26
     have e27 := wXi hC 27
     have E := E10; simp only [LM, zAb] at E
     rw [zAa hL]
     simp only [SP, Nat.zero_add, Nat.reduceAdd]
     rw [e0, e2, e4, e5, e6, e8, e10, e11, e12, e13, e14, e15, e16, e17, e18, e19, e20, e21, e22, e23, e24, e25, e26, e27]
     generalize vs 1 = u10_1
     generalize vs 3 = u10_3
     generalize vs 7 = u10_7
     generalize vs 9 = u10_9
     clear e0 e2 e4 e5 e6 e8 e10 e11 e12 e13 e14 e15 e16 e17 e18 e19 e20 e21 e22 e23 e24 e25 e26 e27 hC hn E10 hL vs L nb
     clear HX HY HC HM0
     clear hM hA hB hx hy
     go_wp2
     refine bodyPost_ret (v := .bool false) ?_ rfl ⟨_, rfl, E.below, rfl⟩
     simp [results, Tryz.results8, go_sem]
    case true =>
     have HY := hidd ha
     rw [ha, Bool.true_and] at ht2
     subst ht2
     clear ha
     have B11 : Hid (ab ((y * y)) < pw 10) := zBp hy.out hy.out (by omega)
     refine rg [ip b6 0, Fq.num x, ip b5 4, Fq.num M, yT, yT, ip b6 2, Fq.num y, ip b5 4, Fq.num M, yT, yT, yT, ip b6 2, Fq.num y, ip b6 2, Fq.num y, Fq.num (y * y), ip b5 4, Fq.num M, Fq.num ((y * y) % M), Fq.st [.n A, .n B, .n M], ip b6 0, Fq.num x, Fq.num (((x * (x * x)) + (A * x) + B) % M), Fq.is (.bool (decide (((y * y) % M) = (((x * (x * x)) + (A * x) + B) % M)))), Fq.is (.bool (decide (((y * y) % M) = (((x * (x * x)) + (A * x) + B) % M)))), Fq.is (.bool (decide (((y * y) % M) = (((x * (x * x)) + (A * x) + B) % M))))] N2 [] E (fun hp => ⟨?_, ?_, ?_, ?_, ?_, ?_, ?_, ?_, ?_, ?_, ?_, ?_, ?_, ?_, ?_, ?_, ?_, ?_, ?_, ?_, ?_, ?_, ?_, ?_, ?_, ?_, ?_, ?_, tv⟩) ?_
     ·exact qa b6 0 0 hp (sqo 3)
     ·exact lN 0 2 hp (mq 0 rfl) zAd (sqi 0)
     ·exact qa b5 0 4 hp (sqo 2)
     ·exact lN 4 2 hp (mq 1 rfl) zAd (sqi 2)
     ·exact wXb (Fq.num x) (Fq.num M) hp zEb (sqi 1) (sqi 3) fun v v' w h h' => zEe h h' HX.out
     ·exact zAe hp fo tv (sqi 4)
     ·exact zAv (b := b6) (off := 0) (off' := 2) hp fo gqi (sqo 3) (fun ρ w h => by simp [execOp, go_sem, h]) (fun _ => rfl)
     ·exact lG 2 2 hp gqi (mq 0 rfl) zAd (sqi 6) fun v w h => zA8 h
     ·exact zAv (b := b5) (off := 0) (off' := 4) hp fo gqi (sqo 2) (fun ρ w h => by simp [execOp, go_sem, h]) (fun _ => rfl)
     ·exact lG 4 2 hp gqi (mq 1 rfl) zAd (sqi 8) fun v w h => zA8 h
     ·exact zAt (F := (Fq.num y).P) (G := (Fq.num M).P) hp fo gqi (zEb) (sqi 7) (sqi 9) (fun v v' w h h' => zEe h h' HY.out)
     ·exact zAi (F := fun v _ => v = .bool true) (G := fun v _ => v = .bool true) hp fo tv (sqi 5) (sqi 10) (fun ρ w hc h h' => ⟨_, by simp [execOp, go_sem, h, h'], rfl⟩)
     ·exact zAe hp fo tv (sqi 11)
     ·exact zAv (b := b6) (off := 0) (off' := 2) hp fo gqi (sqo 3) (fun ρ w h => by simp [execOp, go_sem, h]) (fun _ => rfl)
     ·exact lG 2 2 hp gqi (mq 0 rfl) zAd (sqi 13) fun v w h => zA8 h
     ·exact zAv (b := b6) (off := 0) (off' := 2) hp fo gqi (sqo 3) (fun ρ w h => by simp [execOp, go_sem, h]) (fun _ => rfl)
     ·exact lG 2 2 hp gqi (mq 0 rfl) zAd (sqi 15) fun v w h => zA8 h
     ·exact zAt (F := (Fq.num y).P) (G := (Fq.num y).P) hp fo gqi (zCs) (sqi 14) (sqi 16) (fun v v' w h h' => exK (zCc h h') B11.out (by omega))
     ·exact zAv (b := b5) (off := 0) (off' := 4) hp fo gqi (sqo 2) (fun ρ w h => by simp [execOp, go_sem, h]) (fun _ => rfl)
     ·exact lG 4 2 hp gqi (mq 1 rfl) zAd (sqi 18) fun v w h => zA8 h
     ·exact zAt (F := (Fq.num (y * y)).P) (G := (Fq.num M).P) hp fo gqi (zCl) (sqi 17) (sqi 19) (fun v v' w h h' => zC1 h h' (by have := HM0.out; omega) (Int.lt_of_lt_of_le B11.out (zAg (by omega))) (Int.lt_of_lt_of_le hM.out (zAg (by omega))))
     ·exact lG 0 6 hp gqi (mq 1 rfl) zAm (sqo 2) fun v w h => h
     ·exact zAv (b := b6) (off := 0) (off' := 0) hp fo gqi (sqo 3) (fun ρ w h => by simp [execOp, go_sem, h]) (fun _ => rfl)
     ·exact lG 0 2 hp gqi (mq 0 rfl) zAd (sqi 22) fun v w h => zA8 h
     ·exact zAt (F := (Fq.st [.n A, .n B, .n M]).P) (G := (Fq.num x).P) hp fo gqi (zKk) (sqi 21) (sqi 23) (fun v v' w h h' => exRight h h' hM.out hA.out hB.out hx.out HM0.out)
     ·exact zAt (F := (Fq.num ((y * y) % M)).P) (G := (Fq.num (((x * (x * x)) + (A * x) + B) % M)).P) hp fo gqi (zBy) (sqi 20) (sqi 24) (fun v v' w h h' => zBz h h' rfl)
     ·exact zAi (F := fun v _ => v = .bool true) (G := fun v _ => v = .bool (decide (((y * y) % M) = (((x * (x * x)) + (A * x) + B) % M)))) hp fo tv (sqi 12) (sqi 25) (fun ρ w hc h h' => ⟨_, by simp [execOp, go_sem, h, h'], rfl⟩)
     ·exact zAo hp fo tv (sqi 26)
     intro L vs w12 nb hL hC hn E12
     have e0 := wXi hC 0
     have e2 := wXi hC 2
     have e4 := wXi hC 4
     have e5 := wXi hC 5
     have e6 := wXi hC 6
     have e8 := wXi hC 8
     have e10 := wXi hC 10
     have e11 := wXi hC 11
     have e12 := wXi hC 12
     have e13 := wXi hC 13
     have e15 := wXi hC 15
     have e18 := wXi hC 18
     have e22 := wXi hC 22
     have e25 := wXi hC 25
     have e26 := wXi hC 26
     have e27 := wXi hC 27
     have E := E12; simp only [LM, zAb] at E
     rw [zAa hL]
     simp only [SP, Nat.zero_add, Nat.reduceAdd]
     rw [e0, e2, e4, e5, e6, e8, e10, e11, e12, e13, e15, e18, e22, e25, e26, e27]
     generalize vs 1 = u12_1
     generalize vs 3 = u12_3
     generalize vs 7 = u12_7
     generalize vs 9 = u12_9
     generalize vs 14 = u12_14
     generalize vs 16 = u12_16
     generalize vs 17 = u12_17
     generalize vs 19 = u12_19
     generalize vs 20 = u12_20
     generalize vs 21 = u12_21
     generalize vs 23 = u12_23
     generalize vs 24 = u12_24
     clear e0 e2 e4 e5 e6 e8 e10 e11 e12 e13 e15 e18 e22 e25 e26 e27 hC hn E12 hL vs L nb
     clear HX HY HC HM0
     clear B11 hM hA hB hx hy
     go_wp2
     refine bodyPost_ret (v := .bool (decide ((y * y) % M = ((x * (x * x)) + (A * x) + B) % M))) ?_ rfl ⟨_, rfl, E.below, rfl⟩
     simp [results, Tryz.results8, go_sem]
  case true =>
   by_cases h0 : x = 0
   ·have T1 : Hid (cmpI x 0 = 0) := cmpIq0.2 h0
    by_cases h1 : y = 0
    ·have T2 : Hid (cmpI y 0 = 0) := cmpIq0.2 h1
     have ht2 : t = true := ht.symm.trans (decide_eq_true ⟨h0, h1⟩)
     subst ht2
     clear ht
     clear h0 h1
     obtain ⟨_, rfl, hf0⟩ := h
     have hF0 := hf0
     obtain ⟨y0_p0, y0_q0, _, rfl, _y0_n0, y0_p1, y0_q1, _, rfl, _y0_n1, y0_p2, y0_q2, _, rfl, _y0_n2, rfl⟩ := hf0
     obtain ⟨_, rfl, hf1⟩ := h'
     have hF1 := hf1
     obtain ⟨y1_p0, y1_q0, _, rfl, _y1_n0, y1_p1, y1_q1, _, rfl, _y1_n1, _, rfl, _, rfl⟩ := hf1
     obtain ⟨w13, b13, hw13, hb13, hs13, E⟩ := gS w 34 hF0
     obtain ⟨w14, b14, hw14, hb14, hs14, E⟩ := fS E hs13 36 hF1
     go_enter Tryz.func8, Tryz.ntmps8
     go_upto_region 1 with (fail)
     rw [← hw13]
     rw [← hw14]
     rw [← hb14]
     rw [← hb13]
     clear hw13 hw14 hb13 hb14 hs14 hs13
     refine rg [Fq.st [.n A, .n B, .n M], yT, yF] N2 [] E (fun hp => ⟨?_, ?_, ?_, tv⟩) ?_
     ·exact lS 0 6 hp (mq 1 rfl) zAm (sqo 2)
     ·exact wXa (Fq.st [.n A, .n B, .n M]) hp zGj (sqi 0) fun v w h => zGn h hM.out hA.out hB.out HC.out
     ·exact zAf (F := fun v _ => v = .bool true) hp fo tv (sqi 1) (fun ρ w _ h => ⟨.bool false, by simp [execOp, go_sem, h], rfl⟩)
     intro L vs w15 nb hL hC hn E15
     have e1 := wXi hC 1
     have e2 := wXi hC 2
     have E := E15; simp only [LM, zAb] at E
     rw [zAa hL]
     simp only [SP, Nat.zero_add, Nat.reduceAdd]
     rw [e1, e2]
     generalize vs 0 = u15_0
     clear e1 e2 hC hn E15 hL vs L nb
     go_upto_region 3 with (fail)
     refine rg [ip b14 4, yT] N2 [] E (fun hp => ⟨?_, ?_, tv⟩) ?_
     ·exact qa b14 0 4 hp (sqo 3)
     ·exact wXc 4 hp (mq 0 rfl) (sqi 0)
     intro L vs w16 nb hL hC hn E16
     have e0 := wXi hC 0
     have e1 := wXi hC 1
     have E := E16; simp only [LM, zAb] at E
     rw [zAa hL]
     simp only [SP, Nat.zero_add, Nat.reduceAdd]
     rw [e0, e1]
     clear e0 e1 hC hn E16 hL vs L nb
     go_upto_region 4 with (fail)
     refine rg [ip b14 0, Fq.num x, Fq.is (.int .i64 (cmpI x 0)), yT, yT, ip b14 2, Fq.num y, Fq.is (.int .i64 (cmpI y 0)), yT, yT, yT] N2 [] E (fun hp => ⟨?_, ?_, ?_, ?_, ?_, ?_, ?_, ?_, ?_, ?_, ?_, tv⟩) ?_
     ·exact qa b14 0 0 hp (sqo 3)
     ·exact lN 0 2 hp (mq 0 rfl) zAd (sqi 0)
     ·exact wXa (Fq.num x) hp zCd (sqi 1) fun v w h => zCa h
     ·exact zAf (F := fun v _ => v = .int .i64 (cmpI x 0)) hp fo tv (sqi 2) (fun ρ w hc h => ⟨.bool true, by simp [execOp, go_sem, h, hc, T1.out], rfl⟩)
     ·exact zAe hp fo tv (sqi 3)
     ·exact zAv (b := b14) (off := 0) (off' := 2) hp fo gqi (sqo 3) (fun ρ w h => by simp [execOp, go_sem, h]) (fun _ => rfl)
     ·exact lG 2 2 hp gqi (mq 0 rfl) zAd (sqi 5) fun v w h => zA8 h
     ·exact zA7 (F := (Fq.num y).P) hp fo gqi (zCd) (sqi 6) (fun v w h => zCa h)
     ·exact zAf (F := fun v _ => v = .int .i64 (cmpI y 0)) hp fo gqi (sqi 7) (fun ρ w hc h => ⟨.bool true, by simp [execOp, go_sem, h, hc, T2.out], rfl⟩)
     ·exact zAi (F := fun v _ => v = .bool true) (G := fun v _ => v = .bool true) hp fo tv (sqi 4) (sqi 8) (fun ρ w hc h h' => ⟨_, by simp [execOp, go_sem, h, h'], rfl⟩)
     ·exact zAo hp fo tv (sqi 9)
     intro L vs w17 nb hL hC hn E17
     have e0 := wXi hC 0
     have e2 := wXi hC 2
     have e3 := wXi hC 3
     have e4 := wXi hC 4
     have e5 := wXi hC 5
     have e7 := wXi hC 7
     have e8 := wXi hC 8
     have e9 := wXi hC 9
     have e10 := wXi hC 10
     have E := E17; simp only [LM, zAb] at E
     rw [zAa hL]
     simp only [SP, Nat.zero_add, Nat.reduceAdd]
     rw [e0, e2, e3, e4, e5, e7, e8, e9, e10]
     generalize vs 1 = u17_1
     generalize vs 6 = u17_6
     clear e0 e2 e3 e4 e5 e7 e8 e9 e10 hC hn E17 hL vs L nb
     clear HC HM0 T1 T2
     clear hM hA hB hx hy
     go_wp2
     refine bodyPost_ret (v := .bool true) ?_ rfl ⟨_, rfl, E.below, rfl⟩
     simp [results, Tryz.results8, go_sem]
    ·have T2 : Hid (¬ cmpI y 0 = 0) := fun e => h1 (cmpIq0.1 e)
     have ht2 : t = false := ht.symm.trans (decide_eq_false fun e => h1 e.2)
     subst ht2
     clear ht
     clear h0 h1
     obtain ⟨_, rfl, hf0⟩ := h
     have hF0 := hf0
     obtain ⟨y0_p0, y0_q0, _, rfl, _y0_n0, y0_p1, y0_q1, _, rfl, _y0_n1, y0_p2, y0_q2, _, rfl, _y0_n2, rfl⟩ := hf0
     obtain ⟨_, rfl, hf1⟩ := h'
     have hF1 := hf1
     obtain ⟨y1_p0, y1_q0, _, rfl, _y1_n0, y1_p1, y1_q1, _, rfl, _y1_n1, _, rfl, _, rfl⟩ := hf1
     obtain ⟨w18, b18, hw18, hb18, hs18, E⟩ := gS w 34 hF0
     obtain ⟨w19, b19, hw19, hb19, hs19, E⟩ := fS E hs18 36 hF1
     go_enter Tryz.func8, Tryz.ntmps8
     go_upto_region 1 with (fail)
     rw [← hw18]
     rw [← hw19]
     rw [← hb19]
     rw [← hb18]
     clear hw18 hw19 hb18 hb19 hs19 hs18
     refine rg [Fq.st [.n A, .n B, .n M], yT, yF] N2 [] E (fun hp => ⟨?_, ?_, ?_, tv⟩) ?_
     ·exact lS 0 6 hp (mq 1 rfl) zAm (sqo 2)
     ·exact wXa (Fq.st [.n A, .n B, .n M]) hp zGj (sqi 0) fun v w h => zGn h hM.out hA.out hB.out HC.out
     ·exact zAf (F := fun v _ => v = .bool true) hp fo tv (sqi 1) (fun ρ w _ h => ⟨.bool false, by simp [execOp, go_sem, h], rfl⟩)
     intro L vs w20 nb hL hC hn E20
     have e1 := wXi hC 1
     have e2 := wXi hC 2
     have E := E20; simp only [LM, zAb] at E
     rw [zAa hL]
     simp only [SP, Nat.zero_add, Nat.reduceAdd]
     rw [e1, e2]
     generalize vs 0 = u20_0
     clear e1 e2 hC hn E20 hL vs L nb
     go_upto_region 3 with (fail)
     refine rg [ip b19 4, yT] N2 [] E (fun hp => ⟨?_, ?_, tv⟩) ?_
     ·exact qa b19 0 4 hp (sqo 3)
     ·exact wXc 4 hp (mq 0 rfl) (sqi 0)
     intro L vs w21 nb hL hC hn E21
     have e0 := wXi hC 0
     have e1 := wXi hC 1
     have E := E21; simp only [LM, zAb] at E
     rw [zAa hL]
     simp only [SP, Nat.zero_add, Nat.reduceAdd]
     rw [e0, e1]
     clear e0 e1 hC hn E21 hL vs L nb
     go_upto_region 4 with (fail)
     refine rg [ip b19 0, Fq.num x, Fq.is (.int .i64 (cmpI x 0)), yT, yT, ip b19 2, Fq.num y, Fq.is (.int .i64 (cmpI y 0)), yF, yF, yF] N2 [] E (fun hp => ⟨?_, ?_, ?_, ?_, ?_, ?_, ?_, ?_, ?_, ?_, ?_, tv⟩) ?_
     ·exact qa b19 0 0 hp (sqo 3)
     ·exact lN 0 2 hp (mq 0 rfl) zAd (sqi 0)
     ·exact wXa (Fq.num x) hp zCd (sqi 1) fun v w h => zCa h
     ·exact zAf (F := fun v _ => v = .int .i64 (cmpI x 0)) hp fo tv (sqi 2) (fun ρ w hc h => ⟨.bool true, by simp [execOp, go_sem, h, hc, T1.out], rfl⟩)
     ·exact zAe hp fo tv (sqi 3)
     ·exact zAv (b := b19) (off := 0) (off' := 2) hp fo gqi (sqo 3) (fun ρ w h => by simp [execOp, go_sem, h]) (fun _ => rfl)
     ·exact lG 2 2 hp gqi (mq 0 rfl) zAd (sqi 5) fun v w h => zA8 h
     ·exact zA7 (F := (Fq.num y).P) hp fo gqi (zCd) (sqi 6) (fun v w h => zCa h)
     ·exact zAf (F := fun v _ => v = .int .i64 (cmpI y 0)) hp fo gqi (sqi 7) (fun ρ w hc h => ⟨.bool false, by simp [execOp, go_sem, h, hc, T2.out], rfl⟩)
     ·exact zAi (F := fun v _ => v = .bool true) (G := fun v _ => v = .bool false) hp fo tv (sqi 4) (sqi 8) (fun ρ w hc h h' => ⟨_, by simp [execOp, go_sem, h, h'], rfl⟩)
     ·exact zAo hp fo tv (sqi 9)
     intro L vs w22 nb hL hC hn E22
     have e0 := wXi hC 0
     have e2 := wXi hC 2
     have e3 := wXi hC 3
     have e4 := wXi hC 4
     have e5 := wXi hC 5
     have e7 := wXi hC 7
     have e8 := wXi hC 8
     have e9 := wXi hC 9
     have e10 := wXi hC 10
     have E := E22; simp only [LM, zAb] at E
     rw [zAa hL]
     simp only [SP, Nat.zero_add, Nat.reduceAdd]
     rw [e0, e2, e3, e4, e5, e7, e8, e9, e10]
     generalize vs 1 = u22_1
     generalize vs 6 = u22_6
     clear e0 e2 e3 e4 e5 e7 e8 e9 e10 hC hn E22 hL vs L nb
     clear HC HM0 T1 T2
     clear hM hA hB hx hy
     go_wp2
     refine bodyPost_ret (v := .bool false) ?_ rfl ⟨_, rfl, E.below, rfl⟩
     simp [results, Tryz.results8, go_sem]
   ·have T1 : Hid (¬ cmpI x 0 = 0) := fun e => h0 (cmpIq0.1 e)
    have ht2 : t = false := ht.symm.trans (decide_eq_false fun e => h0 e.1)
    subst ht2
    clear ht
    clear h0
    obtain ⟨_, rfl, hf0⟩ := h
    have hF0 := hf0
    obtain ⟨y0_p0, y0_q0, _, rfl, _y0_n0, y0_p1, y0_q1, _, rfl, _y0_n1, y0_p2, y0_q2, _, rfl, _y0_n2, rfl⟩ := hf0
    obtain ⟨_, rfl, hf1⟩ := h'
    have hF1 := hf1
    obtain ⟨y1_p0, y1_q0, _, rfl, _y1_n0, y1_p1, y1_q1, _, rfl, _y1_n1, _, rfl, _, rfl⟩ := hf1
    obtain ⟨w23, b23, hw23, hb23, hs23, E⟩ := gS w 34 hF0
    obtain ⟨w24, b24, hw24, hb24, hs24, E⟩ := fS E hs23 36 hF1
    go_enter Tryz.func8, Tryz.ntmps8
    go_upto_region 1 with (fail)
    rw [← hw23]
    rw [← hw24]
    rw [← hb24]
    rw [← hb23]
    clear hw23 hw24 hb23 hb24 hs24 hs23
    refine rg [Fq.st [.n A, .n B, .n M], yT, yF] N2 [] E (fun hp => ⟨?_, ?_, ?_, tv⟩) ?_
    ·exact lS 0 6 hp (mq 1 rfl) zAm (sqo 2)
    ·exact wXa (Fq.st [.n A, .n B, .n M]) hp zGj (sqi 0) fun v w h => zGn h hM.out hA.out hB.out HC.out
    ·exact zAf (F := fun v _ => v = .bool true) hp fo tv (sqi 1) (fun ρ w _ h => ⟨.bool false, by simp [execOp, go_sem, h], rfl⟩)
    intro L vs w25 nb hL hC hn E25
    have e1 := wXi hC 1
    have e2 := wXi hC 2
    have E := E25; simp only [LM, zAb] at E
    rw [zAa hL]
    simp only [SP, Nat.zero_add, Nat.reduceAdd]
    rw [e1, e2]
    generalize vs 0 = u25_0
    clear e1 e2 hC hn E25 hL vs L nb
    go_upto_region 3 with (fail)
    refine rg [ip b24 4, yT] N2 [] E (fun hp => ⟨?_, ?_, tv⟩) ?_
    ·exact qa b24 0 4 hp (sqo 3)
    ·exact wXc 4 hp (mq 0 rfl) (sqi 0)
    intro L vs w26 nb hL hC hn E26
    have e0 := wXi hC 0
    have e1 := wXi hC 1
    have E := E26; simp only [LM, zAb] at E
    rw [zAa hL]
    simp only [SP, Nat.zero_add, Nat.reduceAdd]
    rw [e0, e1]
    clear e0 e1 hC hn E26 hL vs L nb
    go_upto_region 4 with (fail)
    refine rg [ip b24 0, Fq.num x, Fq.is (.int .i64 (cmpI x 0)), yF, yF, Fq.is (undef), Fq.is (undef), Fq.is (undef), Fq.is (undef), yF, yF] N2 [] E (fun hp => ⟨?_, ?_, ?_, ?_, ?_, ?_, ?_, ?_, ?_, ?_, ?_, tv⟩) ?_
    ·exact qa b24 0 0 hp (sqo 3)
    ·exact lN 0 2 hp (mq 0 rfl) zAd (sqi 0)
    ·exact wXa (Fq.num x) hp zCd (sqi 1) fun v w h => zCa h
    ·exact zAf (F := fun v _ => v = .int .i64 (cmpI x 0)) hp fo tv (sqi 2) (fun ρ w hc h => ⟨.bool false, by simp [execOp, go_sem, h, hc, T1.out], rfl⟩)
    ·exact zAe hp fo tv (sqi 3)
    ·exact zAj hp fo rfl gqi (fun _ => rfl)
    ·exact zAj hp fo rfl gqi (fun _ => rfl)
    ·exact zAj hp fo rfl gqi (fun _ => rfl)
    ·exact zAj hp fo rfl gqi (fun _ => rfl)
    ·exact zAi (F := fun v _ => v = .bool false) (G := fun v _ => v = .bool false) hp fo tv (sqi 4) (zAl (fun _ => rfl)) (fun ρ w hc h h' => ⟨_, by simp [execOp, go_sem, h, h'], rfl⟩)
    ·exact zAo hp fo tv (sqi 9)
    intro L vs w27 nb hL hC hn E27
    have e0 := wXi hC 0
    have e2 := wXi hC 2
    have e3 := wXi hC 3
    have e4 := wXi hC 4
    have e5 := wXi hC 5
    have e6 := wXi hC 6
    have e7 := wXi hC 7
    have e8 := wXi hC 8
    have e9 := wXi hC 9
    have e10 := wXi hC 10
    have E := E27; simp only [LM, zAb] at E
    rw [zAa hL]
    simp only [SP, Nat.zero_add, Nat.reduceAdd]
    rw [e0, e2, e3, e4, e5, e6, e7, e8, e9, e10]
    generalize vs 1 = u27_1
    clear e0 e2 e3 e4 e5 e6 e7 e8 e9 e10 hC hn E27 hL vs L nb
    clear HC HM0 T1
    clear hM hA hB hx hy
    go_wp2
    refine bodyPost_ret (v := .bool false) ?_ rfl ⟨_, rfl, E.below, rfl⟩
    simp [results, Tryz.results8, go_sem]

set_option maxRecDepth 100000 in
set_option maxHeartbeats 4000000 in
theorem exRNegI {w : World} {v v' : Value} {A B M x y : Int} (h : (Fq.st [.n A, .n B, .n M]).P v w) (h' : (Fq.st [.n x, .n y, .v (.bool true)]).P v' w) (hM : ab M < pw 5) (hx : ab x < pw 5) (hy : ab y < pw 5) :
  Calls Tryz.prog 34 #[v, v'] w fun e w' => ∃ v', e = .returned v' ∧ Below w.heap.size w w' ∧ (Fq.st [.n x, .n y, .v (.bool true)]).P v' w' := by
 replace hM := hidd hM
 replace hx := hidd hx
 replace hy := hidd hy
 obtain ⟨_, rfl, hf0⟩ := h
 have hF0 := hf0
 obtain ⟨y0_p0, y0_q0, _, rfl, _y0_n0, y0_p1, y0_q1, _, rfl, _y0_n1, y0_p2, y0_q2, _, rfl, _y0_n2, rfl⟩ := hf0
 obtain ⟨_, rfl, hf1⟩ := h'
 have hF1 := hf1
 obtain ⟨y1_p0, y1_q0, _, rfl, _y1_n0, y1_p1, y1_q1, _, rfl, _y1_n1, _, rfl, _, rfl⟩ := hf1
 obtain ⟨w1, b1, hw1, hb1, hs1, E⟩ := gS w 34 hF0
 obtain ⟨w2, b2, hw2, hb2, hs2, E⟩ := fS E hs1 36 hF1
 obtain ⟨w3, b3, hw3, hb3, hs3, E⟩ := fO E hs2 36 zA1
 go_enter Tryz.func34, Tryz.ntmps34
 go_upto_region 1 with (fail)
 rw [← hw1]
 rw [← hw2]
 rw [← hw3]
 rw [← hb3]
 rw [← hb2]
 rw [← hb1]
 clear hw1 hw2 hw3 hb1 hb2 hb3 hs3 hs1 hs2
 refine rg [ip b2 4, yT] N3 [] E (fun hp => ⟨?_, ?_, tv⟩) ?_
 ·exact qa b2 0 4 hp (sqo 3)
 ·exact wXc 4 hp (mq 1 rfl) (sqi 0)
 intro L vs w4 nb hL hC hn E4
 have e0 := wXi hC 0
 have e1 := wXi hC 1
 have E := E4; simp only [LM, zAb] at E
 rw [zAa hL]
 simp only [SP, Nat.zero_add, Nat.reduceAdd]
 rw [e0, e1]
 clear e0 e1 hC hn E4 hL vs L nb
 go_upto_region 2 with (fail)
 refine rg [Fq.st [.n x, .n y, .v (.bool true)], Fq.any] [some (1, Fq.st [.n x, .n y, .v (.bool true)]), none, none] [] E (fun hp => ⟨?_, ?_, tv⟩) ?_
 ·exact lS 0 5 hp (mq 1 rfl) zAk (sqo 3)
 ·exact sO 0 0 hp (mq 0 rfl) zAy (sqo 4)
 intro L vs w5 nb hL hC hn E5
 have E := E5; simp only [LM, zAb] at E
 rw [zAa hL]
 simp only [SP, Nat.zero_add, Nat.reduceAdd]
 generalize vs 0 = u5_0
 clear  hC hn E5 hL vs L nb
 obtain ⟨_, _, hc0, hf0⟩ := zAu (E.box 0 rfl)
 have hP0 := hf0
 obtain ⟨r0_p0, r0_q0, _, rfl, _r0_n0, r0_p1, r0_q1, _, rfl, _r0_n1, _, rfl, _, rfl⟩ := hf0
 have c0_0 := hc0 0 (by simp)
 have c0_1 := hc0 1 (by simp)
 have c0_2 := hc0 2 (by simp)
 have c0_3 := hc0 3 (by simp)
 have c0_4 := hc0 4 (by simp)
 simp only [List.getD_cons_zero, List.getD_cons_succ] at c0_0 c0_1 c0_2 c0_3 c0_4
 clear hc0
 clear hM hx hy
 go_wp2
 refine bodyPost_ret (v := .agg #[r0_p0, r0_q0, r0_p1, r0_q1, .bool true]) ?_ rfl ⟨_, rfl, E.below, ⟨_, rfl, hP0⟩⟩
 simp [results, Tryz.results34, go_sem, c0_0, c0_1, c0_2, c0_3, c0_4]

set_option maxRecDepth 100000 in
set_option maxHeartbeats 4000000 in
theorem exRNegF {w : World} {v v' : Value} {A B M x y : Int} (h : (Fq.st [.n A, .n B, .n M]).P v w) (h' : (Fq.st [.n x, .n y, .v (.bool false)]).P v' w) (hM : ab M < pw 5) (hx : ab x < pw 5) (hy : ab y < pw 5) (h0 : 0 < M) :
  Calls Tryz.prog 34 #[v, v'] w fun e w' => ∃ v', e = .returned v' ∧ Below w.heap.size w w' ∧ (Fq.st [.n x, .n ((-y) % M), .v (.bool false)]).P v' w' := by
 replace hM := hidd hM
 replace hx := hidd hx
 replace hy := hidd hy
 obtain ⟨_, rfl, hf0⟩ := h
 have hF0 := hf0
 obtain ⟨y0_p0, y0_q0, _, rfl, _y0_n0, y0_p1, y0_q1, _, rfl, _y0_n1, y0_p2, y0_q2, _, rfl, _y0_n2, rfl⟩ := hf0
 obtain ⟨_, rfl, hf1⟩ := h'
 have hF1 := hf1
 obtain ⟨y1_p0, y1_q0, _, rfl, _y1_n0, y1_p1, y1_q1, _, rfl, _y1_n1, _, rfl, _, rfl⟩ := hf1
 obtain ⟨w1, b1, hw1, hb1, hs1, E⟩ := gS w 34 hF0
 obtain ⟨w2, b2, hw2, hb2, hs2, E⟩ := fS E hs1 36 hF1
 obtain ⟨w3, b3, hw3, hb3, hs3, E⟩ := fO E hs2 36 zA1
 go_enter Tryz.func34, Tryz.ntmps34
 go_upto_region 1 with (fail)
 rw [← hw1]
 rw [← hw2]
 rw [← hw3]
 rw [← hb3]
 rw [← hb2]
 rw [← hb1]
 clear hw1 hw2 hw3 hb1 hb2 hb3 hs3 hs1 hs2
 replace h0 := hidd h0
 refine rg [ip b2 4, yF] N3 [] E (fun hp => ⟨?_, ?_, tv⟩) ?_
 ·exact qa b2 0 4 hp (sqo 3)
 ·exact wXc 4 hp (mq 1 rfl) (sqi 0)
 intro L vs w4 nb hL hC hn E4
 have e0 := wXi hC 0
 have e1 := wXi hC 1
 have E := E4; simp only [LM, zAb] at E
 rw [zAa hL]
 simp only [SP, Nat.zero_add, Nat.reduceAdd]
 rw [e0, e1]
 clear e0 e1 hC hn E4 hL vs L nb
 go_upto_region 3 with (fail)
 have B5 : Hid (ab ((-y)) < pw 5) := zE8 hy.out
 refine rg [ip b2 0, Fq.num x, ip b2 2, Fq.num y, Fq.num (-y), ip b1 4, Fq.num M, Fq.num ((-y) % M), Fq.st [.n x, .n ((-y) % M), .v (.bool false)], Fq.any] [some (9, Fq.st [.n x, .n ((-y) % M), .v (.bool false)]), none, none] [] E (fun hp => ⟨?_, ?_, ?_, ?_, ?_, ?_, ?_, ?_, ?_, ?_, tv⟩) ?_
 ·exact qa b2 0 0 hp (sqo 3)
 ·exact lN 0 2 hp (mq 1 rfl) zAd (sqi 0)
 ·exact qa b2 0 2 hp (sqo 3)
 ·exact lN 2 2 hp (mq 1 rfl) zAd (sqi 2)
 ·exact wXa (Fq.num y) hp zKf (sqi 3) fun v w h => exK (RNegV h) B5.out (by omega)
 ·exact qa b1 0 4 hp (sqo 2)
 ·exact lN 4 2 hp (mq 2 rfl) zAd (sqi 5)
 ·exact wXb (Fq.num (-y)) (Fq.num M) hp zCl (sqi 4) (sqi 6) fun v v' w h h' => zC1 h h' (by have := h0.out; omega) (Int.lt_of_lt_of_le B5.out (zAg (by omega))) (Int.lt_of_lt_of_le hM.out (zAg (by omega)))
 ·exact zFx (z0 := x) (z1 := ((-y) % M)) hp fo tv (sqi 1) (sqi 7) (fun v w h => h)
 ·exact sO 0 8 hp (mq 0 rfl) zAy (sqo 4)
 intro L vs w6 nb hL hC hn E6
 have e0 := wXi hC 0
 have e2 := wXi hC 2
 have e5 := wXi hC 5
 have E := E6; simp only [LM, zAb] at E
 rw [zAa hL]
 simp only [SP, Nat.zero_add, Nat.reduceAdd]
 rw [e0, e2, e5]
 generalize vs 1 = u6_1
 generalize vs 3 = u6_3
 generalize vs 4 = u6_4
 generalize vs 6 = u6_6
 generalize vs 7 = u6_7
 generalize vs 8 = u6_8
 clear e0 e2 e5 hC hn E6 hL vs L nb
 clear h0
 obtain ⟨_, _, hc0, hf0⟩ := zAu (E.box 0 rfl)
 have hP0 := hf0
 obtain ⟨r0_p0, r0_q0, _, rfl, _r0_n0, r0_p1, r0_q1, _, rfl, _r0_n1, _, rfl, _, rfl⟩ := hf0
 have c0_0 := hc0 0 (by simp)
 have c0_1 := hc0 1 (by simp)
 have c0_2 := hc0 2 (by simp)
 have c0_3 := hc0 3 (by simp)
 have c0_4 := hc0 4 (by simp)
 simp only [List.getD_cons_zero, List.getD_cons_succ] at c0_0 c0_1 c0_2 c0_3 c0_4
 clear hc0
 clear B5 hM hx hy
 go_wp2
 refine bodyPost_ret (v := .agg #[r0_p0, r0_q0, r0_p1, r0_q1, .bool false]) ?_ rfl ⟨_, rfl, E.below, ⟨_, rfl, hP0⟩⟩
 simp [results, Tryz.results34, go_sem, c0_0, c0_1, c0_2, c0_3, c0_4]

def Fm.lst (zs : List Int) (e : Int) : Fm := ⟨fun v w => ∃ l, v = .tuple #[l, .int .i64 e] ∧ Nums w l zs, fun ⟨l, h1, h2⟩ hb => ⟨l, h1, h2.mono hb⟩⟩
def Fm.agg (zs : List Int) (e : Int) : Fm := ⟨fun v w => ∃ l, v = .agg #[l, .int .i64 e] ∧ Nums w l zs, fun ⟨l, h1, h2⟩ hb => ⟨l, h1, h2.mono hb⟩⟩
section
variable {os : List Oper} {Q : Exit → Act → World → Prop} {a : Act} {p : Plan} {B B0 : Nat} {w0 : World}
end

section
variable {os : List Oper} {Q : Exit → Act → World → Prop} {a : Act} {p : Plan} {B B0 : Nat} {w0 : World}
variable {i s : Nat} {d : Option Tmp} {ty : TypeId} {ps : String} {af : Array Edge} {gd : Option (Nat × Bool)}
end

set_option maxHeartbeats 1000000 in
theorem made_new (w : World) (neg : Bool) (ax : Option Addr) (n c : Nat) (xs : List Int) (hX : Sl w ax n c xs) (hb : n ≤ 4000000) :
  Calls Tryz.prog 22 #[.bool neg, .slice ax n c] w (GivesAt w ax (sgn neg (val xs))) := by
 obtain ⟨w0, hw0, hC, hCb⟩ : ∃ w0, w0 = w.alloc (.cells #[.bool false, .slice none 0 0] 32) ∧ IntBox w0 w.heap.size (.bool false) (.slice none 0 0) ∧ Below w.heap.size w w0 := ⟨_, rfl, box1 _ _, zAq _ _⟩
 go_enter Tryz.func22, Tryz.ntmps22
 go_wp2_with fail
 rw [← hw0]
 clear hw0
 refine (zL9 _ _ _ _ _ (hX.mono hCb) (by omega)).mono ?_
 rintro e w' ⟨m, rfl, hm, hsm, hvm, hcm, rfl⟩
 have hml := hsm.len
 have hz := hcm.zero
 rw [hml, hvm] at hz
 have HVM := hidd hvm
 clear hvm hml
 obtain ⟨e0, e1, e2, e3⟩ := hC
 by_cases hm0 : m = 0
 ·have HV : Hid (sgn neg (val xs) = 0) := zH6 neg (hz.1 hm0)
  clear hz
  subst hm0
  go_wp2
  refine bodyPost_ret (v := .agg #[.bool false, .slice none 0 0]) ?_ rfl ?_
  ·simp [results, Tryz.results22, go_sem, e0, e1]
  ·exact ⟨false, none, 0, 0, [], rfl, .inl rfl, Sl.nil _, ⟨fun _ hx => by simp at hx, .inl rfl⟩, by simp, by rw [HV.out]; rfl, (hCb.setCell (Nat.le_refl _) _).setCell (Nat.le_refl _) _⟩
 ·have hm1 : ((m : Int) == 0) = false := by simp; omega
  clear hz
  go_wp2
  refine bodyPost_ret (v := .agg #[.bool neg, .slice ax m c]) ?_ rfl ?_
  ·simp [results, Tryz.results22, go_sem, e0, e1]
  ·have h1 : (w0.setCell ⟨w.heap.size, 0, none⟩ (.bool neg)).cell? ⟨w.heap.size, 1, none⟩ = some (.slice none 0 0) := by
    rw [World.cell?_setCell_other _ _ _ _ (by intro e; cases e)]; exact e1
   exact ⟨neg, ax, m, c, _, rfl, .inr rfl, (hsm.setOther e0 (by intro q e; cases e) _).setOther h1 (by intro q e; cases e) _, hcm, fun _ => hm0, by rw [HVM.out], (hCb.setCell (Nat.le_refl _) _).setCell (Nat.le_refl _) _⟩

set_option maxHeartbeats 1000000 in
theorem rOfNew (w : World) (z : Int) (h0 : 0 ≤ z) (h1 : z ≤ 9223372036854775807) :
  Calls Tryz.prog 17 #[.int .i64 z] w fun e w' => ∃ ng ao n c, e = .returned (.agg #[.bool ng, .slice ao n c]) ∧ (∀ a, ao = some a → w.heap.size ≤ a.block) ∧ Num w' (.agg #[.bool ng, .slice ao n c]) z ∧ Below w.heap.size w w' := by
 obtain ⟨w0, hw0, hC, hCb⟩ : ∃ w0, w0 = w.alloc (.cells #[.bool false, .slice none 0 0] 32) ∧ IntBox w0 w.heap.size (.bool false) (.slice none 0 0) ∧ Below w.heap.size w w0 := ⟨_, rfl, box1 _ _, zAq _ _⟩
 have hz : ¬ z < 0 := by omega
 have hab := fun o => zAq w0 o
 have hq : IntKind.u64.wrap z = z := by rw [zBv]; omega
 obtain ⟨hs, hv⟩ := zHz w0 67 rfl z (by omega) (by omega)
 have hsz : Hid (w.heap.size ≤ w0.heap.size) := hCb.size
 go_enter Tryz.func17, Tryz.ntmps17
 go_upto_region 1 with (fail)
 rw [← hw0]
 clear hw0
 go_wp2_with fail
 refine (made_new _ _ _ _ _ _ hs (by omega)).mono ?_
 rintro e w3 ⟨ng, ao, nn, cc, rs, rfl, hao, hrs, hrc, hrn, hrz, hb3⟩
 obtain ⟨e0, e1, e2, e3⟩ := (hC.mono (hab _) hC.lt).mono hb3 (Nat.lt_of_lt_of_le hC.lt (hab _).size)
 have HZ : Hid (z = sgn ng (val rs)) := by
  show _ = _
  rw [← hrz, hv.out]; simp [sgn]
 have HA : Hid (∀ a, ao = some a → w.heap.size ≤ a.block) := by
  show ∀ a, _
  rintro a rfl
  rcases hao with h | h
  ·cases h
  ·injection h with h
   rw [h]
   exact hsz.out
 have hb4 : Below w.heap.size w w3 := (hCb.trans ((hab _).mono hCb.size)).trans (hb3.mono (Nat.le_trans hCb.size (hab _).size))
 clear hrz hv hC hq hao
 go_wp2
 refine bodyPost_ret (v := .agg #[.bool ng, .slice ao nn cc]) ?_ rfl ?_
 ·simp [results, Tryz.results17, go_sem, e0, e1]
 ·obtain ⟨v, he, hI, hB⟩ := zBu ⟨e0, e1, e2, e3⟩ hrs hrc hrn HZ.out hb4 (Nat.le_refl _)
  injection he with he
  subst he
  exact ⟨ng, ao, nn, cc, rfl, HA.out, zCh hI (k := 2) (by have e : pw 2 = 18446744073709551616 := rfl; rw [e]; unfold ab; omega) (by omega), hB⟩
section
variable {os : List Oper} {Q : Exit → Act → World → Prop} {a : Act} {p : Pq} {B B0 : Nat} {w0 : World}
variable {i s : Nat} {d : Option Tmp} {ty : TypeId} {ps : String} {af : Array Edge} {gd : Option (Nat × Bool)}
end
theorem zKg (args : Array Value) (w : World) : (callFunc 62 args).run Tryz.prog w = .ok (.enter 62 args) w := zAn Tryz.func62 (by kernel_rfl) rfl args w
theorem enq_R_Low (args : Array Value) (w : World) : (callFunc 39 args).run Tryz.prog w = .ok (.enter 39 args) w := zAn Tryz.func39 (by kernel_rfl) rfl args w
theorem ld_rawS {n : Bool} {a : Option Addr} {k c : Nat} {xs : List Int} {us : List Value} {w : World} (hl : us.length = 2) (h : (Fq.raw n a k c xs).P (.agg us.toArray) w) : us.getD 1 undef = .slice a k c := by
 match us, hl with
 | [p, q], _ =>
  obtain ⟨e, h1⟩ := h
  injection e with e
  have e2 := congrArg Array.toList e
  simp at e2
  simp [e2]
theorem box_raw1 {w : World} {b : Nat} {n : Bool} {a : Option Addr} {k c : Nat} {xs : List Int} (h : Bq w b 2 (Fq.raw n a k c xs)) : w.cell? ⟨b, 0, none⟩ = some (.bool n) ∧ w.cell? ⟨b, 1, none⟩ = some (.slice a k c) := by
 obtain ⟨us, hl, _, hat, _, hP⟩ := h
 obtain ⟨e, _⟩ := hP
 injection e with e
 have e2 := congrArg Array.toList e
 simp at e2
 subst e2
 exact ⟨(hat 0 (by simp)).1, (hat 1 (by simp)).1⟩
theorem exRWord0 {w : World} {ax : Option Addr} {n c : Nat} {xs : List Int} (hX : Sl w ax n c xs) (hb : n ≤ 2) : Calls Tryz.prog 62 #[.slice ax n c, .int .i64 0] w fun e w' => ∃ v', e = .returned v' ∧ Below w.heap.size w w' ∧ v' = .int .u64 (xs.getD 0 0) :=
 (zDs w ax n c xs hX (by omega) 0 (by omega) _ rfl).mono fun e w' ⟨h1, h2⟩ => ⟨_, h1, by rw [← h2]; exact Below.refl _ _, rfl⟩
theorem exRWord1 {w : World} {ax : Option Addr} {n c : Nat} {xs : List Int} (hX : Sl w ax n c xs) (hb : n ≤ 2) : Calls Tryz.prog 62 #[.slice ax n c, .int .i64 1] w fun e w' => ∃ v', e = .returned v' ∧ Below w.heap.size w w' ∧ v' = .int .u64 (xs.getD 1 0) :=
 (zDs w ax n c xs hX (by omega) 1 (by omega) _ rfl).mono fun e w' ⟨h1, h2⟩ => ⟨_, h1, by rw [← h2]; exact Below.refl _ _, rfl⟩
theorem val_xy {xs : List Int} (h : xs.length ≤ 2) : val xs = xs.getD 0 0 + xs.getD 1 0 * 4294967296 := by
 match xs, h with
 | [], _ => rfl
 | [x], _ => simp [val]
 | [x, y], _ => simp [val]; omega
theorem low_parts {w : World} {v : Value} {z : Int} (h : Num w v z) (h0 : 0 ≤ z) (h1 : z ≤ 9223372036854775807) : ∃ ao n c xs, v = .agg #[.bool false, .slice ao n c] ∧ Sl w ao n c xs ∧ n ≤ 2 ∧ z = xs.getD 0 0 + xs.getD 1 0 * 4294967296 ∧ 0 ≤ xs.getD 0 0 ∧ xs.getD 0 0 < 4294967296 ∧ 0 ≤ xs.getD 1 0 ∧ xs.getD 1 0 < 4294967296 := by
 have hp : pw 2 = 18446744073709551616 := by decide
 obtain ⟨neg, ao, n, c, xs, hv, hs, hn, hz, hc, hnn⟩ := h
 have hz0 := zAx hs.digs
 have hv2 : val xs < pw 2 := by
  rw [hp]
  cases neg <;> simp [sgn] at hz <;> omega
 have hl := hc.length_le hv2
 rw [hs.len] at hl
 have hneg : neg = false := by
  cases neg with
  | false => rfl
  | true =>
   have e0 : val xs = 0 := by simp [sgn] at hz; omega
   have e1 := hc.zero
   rw [hs.len] at e1
   exact absurd (e1.2 e0) (hnn rfl)
 subst hneg
 have g0 := hs.digs.getD 0
 have g1 := hs.digs.getD 1
 refine ⟨ao, n, c, xs, hv, hs, hl, ?_, g0.1, g0.2, g1.1, g1.2⟩
 rw [← val_xy (by rw [hs.len]; exact hl)]
 simpa [sgn] using hz

set_option maxRecDepth 100000 in
set_option maxHeartbeats 4000000 in
theorem exRLow {w : World} {v : Value} {z : Int} (h : Num w v z) (h0 : 0 ≤ z) (h1 : z ≤ 9223372036854775807) :
  Calls Tryz.prog 39 #[v] w fun e w' => ∃ v', e = .returned v' ∧ Below w.heap.size w w' ∧ (Fq.tup2 (Fq.is (.int .i64 z)) (Fq.is (.bool true))).P v' w' := by
 obtain ⟨ao, n, c, xs, rfl, hs, hn, hz, hx0, hx1, hy0, hy1⟩ := low_parts h h0 h1
 obtain ⟨x, hx⟩ : ∃ x, x = xs.getD 0 0 := ⟨_, rfl⟩
 obtain ⟨y, hy⟩ : ∃ y, y = xs.getD 1 0 := ⟨_, rfl⟩
 rw [← hx, ← hy] at hz
 rw [← hx] at hx0 hx1
 rw [← hy] at hy0 hy1
 have HX := hidd hx
 have HY := hidd hy
 have HS := hidd hs
 have HN := hidd hn
 have HZ := hidd hz
 have SH : Hid (IntKind.u64.wrap (y * 4294967296) = y * 4294967296) := by show _ = _; rw [zBv]; omega
 have OR : Hid (bits .or .u64 x (y * 4294967296) = z) := by show _ = _; rw [(zFv x y hx0 hx1 hy0 hy1).1]; exact hz.symm
 have H0 := hidd h0
 have H1 := hidd h1
 clear hx hy hn hz hx0 hx1 hy0 hy1 h0 h1 h
 obtain ⟨w1, b1, hw1, hb1, hs1, E⟩ := zB8 w (F := Fq.raw false ao n c xs) (us := [.bool false, .slice ao n c]) 32 rfl (by simp) (zBr _ _ _ _) (show (Fq.raw false ao n c xs).P _ w from ⟨rfl, hs⟩)
 go_enter Tryz.func39, Tryz.ntmps39
 go_upto_region 1 with (fail)
 rw [← hw1]
 rw [← hb1]
 clear hw1 hb1 hs1
 clear hs
 refine rg [ip b1 1, Fq.is (.slice ao n c), Fq.is (.int .u64 x), ip b1 1, Fq.is (.slice ao n c), Fq.is (.int .u64 y), Fq.is (.int .u64 (y * 4294967296)), Fq.is (.int .u64 z), Fq.is (.int .u64 z)] [none] [] E (fun hp => ⟨?_, ?_, ?_, ?_, ?_, ?_, ?_, ?_, ?_, tv⟩) ?_
 ·exact qa b1 0 1 hp (sqo 1)
 ·exact zL7 (off := 1) (v := .slice ao n c) hp fo tv (mq 0 rfl) (.inl rfl) (Nat.le_of_ble_eq_true rfl) (sqi 0) (fun us w hl h => ⟨ld_rawS hl h, rfl⟩)
 ·exact zL3 (F := (Fq.is (.slice ao n c)).P) (G := (Fq.is (.int .i64 0)).P) hp fo tv (zKg) rfl (sqi 1) (zAl (fun _ => rfl)) (fun v v' w hbw h h' => (by subst h; subst h'; rw [HX.out]; exact exRWord0 (HS.out.mono hbw) HN.out))
 ·exact qa b1 0 1 hp (sqo 1)
 ·exact zL7 (off := 1) (v := .slice ao n c) hp fo tv (mq 0 rfl) (.inl rfl) (Nat.le_of_ble_eq_true rfl) (sqi 3) (fun us w hl h => ⟨ld_rawS hl h, rfl⟩)
 ·exact zL3 (F := (Fq.is (.slice ao n c)).P) (G := (Fq.is (.int .i64 1)).P) hp fo tv (zKg) rfl (sqi 4) (zAl (fun _ => rfl)) (fun v v' w hbw h h' => (by subst h; subst h'; rw [HY.out]; exact exRWord1 (HS.out.mono hbw) HN.out))
 ·exact zAf (F := fun v _ => v = .int .u64 y) hp fo tv (sqi 5) (fun ρ w hc h => ⟨.int .u64 (y * 4294967296), by simp [execOp, go_sem, h, hc, SH.out], rfl⟩)
 ·exact zAi (F := fun v _ => v = .int .u64 x) (G := fun v _ => v = .int .u64 (y * 4294967296)) hp fo tv (sqi 2) (sqi 6) (fun ρ w hc h h' => ⟨.int .u64 z, by simp [execOp, go_sem, h, h', OR.out], rfl⟩)
 ·exact zAo hp fo tv (sqi 7)
 intro L vs w2 nb hL hC hn E2
 have e0 := wXi hC 0
 have e1 := wXi hC 1
 have e2 := wXi hC 2
 have e3 := wXi hC 3
 have e4 := wXi hC 4
 have e5 := wXi hC 5
 have e6 := wXi hC 6
 have e7 := wXi hC 7
 have e8 := wXi hC 8
 have E := E2; simp only [LM, zAb] at E
 rw [zAa hL]
 simp only [SP, Nat.zero_add, Nat.reduceAdd]
 rw [e0, e1, e2, e3, e4, e5, e6, e7, e8]
 clear e0 e1 e2 e3 e4 e5 e6 e7 e8 hC hn E2 hL vs L nb
 obtain ⟨c0, c1⟩ := box_raw1 (E.box 0 rfl)
 have t1 : decide ((n : Int) > 2) = false := by have := HN.out; simp; omega
 have t2 : decide (z > 9223372036854775808) = false := by have := H1.out; simp; omega
 have t3 : (z == 9223372036854775808) = false := by have := H1.out; simp; omega
 have t4 : IntKind.i64.wrap z = z := IntWalk.i64_in _ (by have := H1.out; have := H0.out; omega)
 clear HX HY HS HN HZ SH OR H0 H1
 go_wp2
 refine bodyPost_ret (v := .tuple #[.int .i64 z, .bool true]) ?_ rfl ⟨_, rfl, E.below, _, _, rfl, rfl, rfl⟩
 simp [results, Tryz.results39, go_sem]

theorem zKh (args : Array Value) (w : World) : (callFunc 57 args).run Tryz.prog w = .ok (.enter 57 args) w := zAn Tryz.func57 (by kernel_rfl) rfl args w
theorem zNb (args : Array Value) (w : World) : (callFunc 80 args).run Tryz.prog w = .ok (.enter 80 args) w := zAn Tryz.func80 (by kernel_rfl) rfl args w
theorem exRBezout {w : World} {v v' : Value} {a m : Int} (h : Num w v a) (h' : Num w v' m) (ha : ab a < pw 40) (hn : ab m < pw 40) (hm : 0 < m) :
  Calls Tryz.prog 80 #[v, v'] w fun e w' => ∃ v', e = .returned v' ∧ Below w.heap.size w w' ∧ (Fq.tup3 (Fq.num (Int.gcd a m : Int)) (Fq.num (bezU a m)) (Fq.num (bezV a m))).P v' w' := by
 refine (RBezoutV h h' ha hn).mono fun e w' hh => ?_
 obtain ⟨hb, v1, v2, v3, g, u, x, rfl, h1, h2, h3, rfl, ⟨h4, _⟩ | ⟨_, h5, h6, h7⟩⟩ := hh
 ·omega
 ·rw [zBl (by omega)] at h6
  obtain ⟨rfl, rfl⟩ := zJ4 hm h5 h6 h7
  exact ⟨_, rfl, hb, _, _, _, rfl, h1, h2, h3⟩
theorem zK2 {w : World} {v : Value} {z : Int} (h : Num w v z) : Calls Tryz.prog 37 #[v] w fun e w' => ∃ v', e = .returned v' ∧ Below w.heap.size w w' ∧ v' = .int .i64 ((zAp z : Nat) : Int) := by
 refine (RBitsV h).mono fun e w' hh => ?_
 obtain ⟨m, rfl, hm, _, hb⟩ := hh
 exact ⟨_, rfl, hb, by rw [zJ7 hm (zI7 z)]⟩
theorem bez_res {a m : Int} (hm : 0 < m) : bezU (a % m) m % m = bezU (a % m) m := by
 have h1 := (zD6 (a := a % m) hm).1
 have h2 := zGd (a := a % m) hm
 exact Int.emod_eq_of_lt h1 (by omega)
set_option maxRecDepth 100000 in
set_option maxHeartbeats 4000000 in
theorem exUInvP {w : World} {v v' : Value} {a m : Int} (h : Num w v a) (h' : Num w v' m) (ha : ab a < pw 20) (hm : ab m < pw 20) (h0 : 0 < m) (hg : Int.gcd (a % m) m = 1) :
  Calls Tryz.prog 57 #[v, v'] w fun e w' => ∃ v', e = .returned v' ∧ Below w.heap.size w w' ∧ (Fq.tup2 (Fq.num (bezU (a % m) m)) (Fq.is (.int .i64 0))).P v' w' := by
 replace ha := hidd ha
 replace hm := hidd hm
 obtain ⟨n0, ao0, k0, c0, rfl⟩ := h.parts
 obtain ⟨n1, ao1, k1, c1, rfl⟩ := h'.parts
 obtain ⟨w1, b1, hw1, hb1, hs1, E⟩ := zB8 w (F := Fq.num a) (us := [.bool n0, .slice ao0 k0 c0]) 32 rfl (by simp) (zBr _ _ _ _) h
 obtain ⟨w2, b2, hw2, hb2, hs2, E⟩ := fN E hs1 32 h'
 obtain ⟨w3, b3, hw3, hb3, hs3, E⟩ := fZ E hs2 32
 go_enter Tryz.func57, Tryz.ntmps57
 go_upto_region 1 with (fail)
 rw [← hw1]
 rw [← hw2]
 rw [← hw3]
 rw [← hb3]
 rw [← hb2]
 rw [← hb1]
 clear hw1 hw2 hw3 hb1 hb2 hb3 hs3 hs1 hs2
 have T1 : Hid (¬ cmpI m 0 ≤ 0) := fun e => by have := cmpI_le0.1 e; omega
 have HM : Hid (m ≠ 0) := by show _ ≠ _; omega
 have HP := hidd h0
 have T2 : Hid (decide ((Int.gcd (a % m) m : Int) = 1) = true) := decide_eq_true (by omega)
 have HB := hidd (bez_res (a := a) h0)
 clear h0 hg
 refine rg [Fq.num m, Fq.is (.int .i64 (cmpI m 0)), yF] N3 [] E (fun hp => ⟨?_, ?_, ?_, tv⟩) ?_
 ·exact lI 0 hp (mq 1 rfl) (sqo 3) fun us w hl h => zAh hl h
 ·exact wXa (Fq.num m) hp zCd (sqi 0) fun v w h => zCa h
 ·exact zAf (F := fun v _ => v = .int .i64 (cmpI m 0)) hp fo tv (sqi 1) (fun ρ w hc h => ⟨.bool false, by simp [execOp, go_sem, h, hc, T1.out], rfl⟩)
 intro L vs w4 nb hL hC hn E4
 have e1 := wXi hC 1
 have e2 := wXi hC 2
 have E := E4; simp only [LM, zAb] at E
 rw [zAa hL]
 simp only [SP, Nat.zero_add, Nat.reduceAdd]
 rw [e1, e2]
 generalize vs 0 = u4_0
 clear e1 e2 hC hn E4 hL vs L nb
 clear T1
 go_upto_region 3 with (fail)
 have B5 : Hid (ab ((a % m)) < pw 20) := zCz HM.out hm.out
 have B6 : Hid (ab ((Int.gcd (a % m) m : Int)) < pw 20) := zIg B5.out hm.out (by omega) (by omega)
 have B7 : Hid (ab (bezU (a % m) m) < pw 20) := zFa HP.out hm.out
 refine rg [Fq.num a, Fq.num m, Fq.num (a % m), Fq.num m, Fq.tup3 (Fq.num (Int.gcd (a % m) m : Int)) (Fq.num (bezU (a % m) m)) (Fq.num (bezV (a % m) m)), Fq.tup3 (Fq.num (Int.gcd (a % m) m : Int)) (Fq.num (bezU (a % m) m)) (Fq.num (bezV (a % m) m)), Fq.num (Int.gcd (a % m) m : Int), Fq.num (bezU (a % m) m), Fq.num (bezV (a % m) m), Fq.any, Fq.any, Fq.any, Fq.any, Fq.any, Fq.any] N3 [⟨9, 12, 2, Fq.num 0, Fq.num (Int.gcd (a % m) m : Int), none⟩, ⟨10, 13, 2, Fq.num 0, Fq.num (bezU (a % m) m), none⟩, ⟨11, 14, 2, Fq.num 0, Fq.num (bezV (a % m) m), none⟩] E (fun hp => ⟨?_, ?_, ?_, ?_, ?_, ?_, ?_, ?_, ?_, ?_, ?_, ?_, ?_, ?_, ?_, tv⟩) ?_
 ·exact lI 0 hp (mq 2 rfl) (sqo 2) fun us w hl h => zAh hl h
 ·exact lI 0 hp (mq 1 rfl) (sqo 3) fun us w hl h => zAh hl h
 ·exact wXb (Fq.num a) (Fq.num m) hp zCl (sqi 0) (sqi 1) fun v v' w h h' => exK (zE5 h h' (Int.lt_of_lt_of_le ha.out (zAg (by omega))) (Int.lt_of_lt_of_le hm.out (zAg (by omega))) HM.out) B5.out (by omega)
 ·exact lI 0 hp (mq 1 rfl) (sqo 3) fun us w hl h => zAh hl h
 ·exact wXb (Fq.num (a % m)) (Fq.num m) hp zNb (sqi 2) (sqi 3) fun v v' w h h' => exRBezout h h' (Int.lt_of_lt_of_le B5.out (zAg (by omega))) (Int.lt_of_lt_of_le hm.out (zAg (by omega))) HP.out
 ·exact zAe hp fo tv (sqi 4)
 ·exact zBx hp fo tv (sqi 5) (fun v1 v2 v3 w h1 h2 h3 => ⟨_, rfl, h1⟩)
 ·exact zBx hp fo tv (sqi 5) (fun v1 v2 v3 w h1 h2 h3 => ⟨_, rfl, h2⟩)
 ·exact zBx hp fo tv (sqi 5) (fun v1 v2 v3 w h1 h2 h3 => ⟨_, rfl, h3⟩)
 ·exact aN hp (mq 0 rfl)
 ·exact aN hp (mq 1 rfl)
 ·exact aN hp (mq 2 rfl)
 ·exact sN 6 hp (mq 0 rfl)
 ·exact sN 7 hp (mq 1 rfl)
 ·exact sN 8 hp (mq 2 rfl)
 intro L vs w8 nb hL hC hn E8
 have e9 : vs 9 = .pointer (some ⟨nb 9, 0, none⟩) := hn _ (mq 0 rfl)
 have e10 : vs 10 = .pointer (some ⟨nb 10, 0, none⟩) := hn _ (mq 1 rfl)
 have e11 : vs 11 = .pointer (some ⟨nb 11, 0, none⟩) := hn _ (mq 2 rfl)
 have E := E8; simp only [LM, zAb] at E
 rw [zAa hL]
 simp only [SP, Nat.zero_add, Nat.reduceAdd]
 rw [e9, e10, e11]
 generalize nb 9 = b8_9 at E ⊢
 generalize nb 10 = b8_10 at E ⊢
 generalize nb 11 = b8_11 at E ⊢
 generalize vs 0 = u8_0
 generalize vs 1 = u8_1
 generalize vs 2 = u8_2
 generalize vs 3 = u8_3
 generalize vs 4 = u8_4
 generalize vs 5 = u8_5
 generalize vs 6 = u8_6
 generalize vs 7 = u8_7
 generalize vs 8 = u8_8
 clear e9 e10 e11 hC hn E8 hL vs L nb
 go_upto_region 4 with (fail)
 have B9 : Hid (ab ((1)) < pw 3) := zBq (by decide)
 refine rg [Fq.num (Int.gcd (a % m) m : Int), Fq.num (1), yT, yF] N6 [] E (fun hp => ⟨?_, ?_, ?_, ?_, tv⟩) ?_
 ·exact lI 0 hp (mq 0 rfl) (sqo 6) fun us w hl h => zAh hl h
 ·exact zA7 (F := (Fq.is (.int .i64 1)).P) hp fo tv (zBg) (zAl (fun _ => rfl)) (fun v w h => (by subst h; exact rOfK w (1) (by omega) (by omega)))
 ·exact wXb (Fq.num (Int.gcd (a % m) m : Int)) (Fq.num (1)) hp zBy (sqi 0) (sqi 1) fun v v' w h h' => zBz h h' T2.out
 ·exact zAf (F := fun v _ => v = .bool true) hp fo tv (sqi 2) (fun ρ w _ h => ⟨.bool false, by simp [execOp, go_sem, h], rfl⟩)
 intro L vs w10 nb hL hC hn E10
 have e2 := wXi hC 2
 have e3 := wXi hC 3
 have E := E10; simp only [LM, zAb] at E
 rw [zAa hL]
 simp only [SP, Nat.zero_add, Nat.reduceAdd]
 rw [e2, e3]
 generalize vs 0 = u10_0
 generalize vs 1 = u10_1
 clear e2 e3 hC hn E10 hL vs L nb
 clear T2
 go_upto_region 6 with (fail)
 have B11 : Hid (ab ((bezU (a % m) m % m)) < pw 20) := zCz HM.out hm.out
 refine rg [Fq.num (bezU (a % m) m), Fq.num m, Fq.num (bezU (a % m) m % m), Fq.any, Fq.is (.int .i64 0)] [none, none, none, some (3, Fq.num (bezU (a % m) m % m)), none, none] [] E (fun hp => ⟨?_, ?_, ?_, ?_, ?_, tv⟩) ?_
 ·exact lI 0 hp (mq 1 rfl) (sqo 7) fun us w hl h => zAh hl h
 ·exact lI 0 hp (mq 4 rfl) (sqo 3) fun us w hl h => zAh hl h
 ·exact wXb (Fq.num (bezU (a % m) m)) (Fq.num m) hp zCl (sqi 0) (sqi 1) fun v v' w h h' => exK (zE5 h h' (Int.lt_of_lt_of_le B7.out (zAg (by omega))) (Int.lt_of_lt_of_le hm.out (zAg (by omega))) HM.out) B11.out (by omega)
 ·exact sP 2 hp (mq 3 rfl) (sqo 4)
 ·exact zAo hp fo tv (zAl (fun _ => rfl))
 intro L vs w12 nb hL hC hn E12
 have e4 := wXi hC 4
 have E := E12; simp only [LM, zAb] at E
 rw [zAa hL]
 simp only [SP, Nat.zero_add, Nat.reduceAdd]
 rw [e4]
 generalize vs 0 = u12_0
 generalize vs 1 = u12_1
 generalize vs 2 = u12_2
 clear e4 hC hn E12 hL vs L nb
 clear HM HP
 rw [HB.out] at E
 clear HB
 obtain ⟨p0, p1, c0, c1, hP⟩ := zBd (E.box 3 rfl)
 clear B5 B6 B7 B9 B11 ha hm
 go_wp2
 refine bodyPost_ret (v := .tuple #[.agg #[p0, p1], .int .i64 0]) ?_ rfl ⟨_, rfl, E.below, ⟨_, _, rfl, hP, rfl⟩⟩
 simp [results, Tryz.results57, go_sem, c0, c1]

end Go.Proofs.YtihhlaagndingaaGreat
