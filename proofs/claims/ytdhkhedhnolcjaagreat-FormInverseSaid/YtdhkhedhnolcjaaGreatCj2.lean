/- Rb, Fa, Gs, Ya, P, Nw, Rt, Rs, U, X, Bz, Be, Md, Li, V, W, Cv, Dg, Tx, Tt, Ex, Sk, Lw, Yb, Fr, Rc. -/
import Derived.Test.YtdhkhedhnolcjaaGreatCj1
import Derived.Deep.Cut
import Derived.ArgAppend
import Derived.Laws.RangeString
import Derived.Laws.RangeAny
set_option linter.unusedSimpArgs false
set_option linter.unusedVariables false
namespace Go.Proofs.YtdhkhedhnolcjaaGreat
open Go.RowKit

set_option maxHeartbeats 1000000 in
theorem zHh (w : World) (ax ay : Option Addr) (n m cx cy : Nat) (xs ys : List Int) (hX : Sl w ax n cx xs) (hY : Sl w ay m cy ys) (hcx : Canon xs) (hcy : Canon ys) (hb1 : n ≤ 4000000) (hb2 : m ≤ 4000000) :
  Calls Tryz.prog 60 #[.slice ax n cx, .slice ay m cy] w fun e w' => e = .returned (.int .i64 (cmpI (val xs) (val ys))) ∧ Drawn w w' := by
 have hn := hidd hX.len
 have hm := hidd hY.len
 have hx := hX.cells
 have hy := hY.cells
 by_cases hnm : n = m
 ·subst hnm
  go_enter Tryz.func60, Tryz.ntmps60
  go_wp2
  go_loopw [5] (fun i wr => ∃ (k : Nat), k ≤ n ∧ i = .int .i64 ((k : Int) - 1) ∧ Drawn w wr ∧ xs.drop k = ys.drop k) (fun i _ => (intOf i + 1).toNat)
  case atStart => exact ⟨n, Nat.le_refl _, rfl, ⟨0, rfl⟩, by rw [List.drop_of_length_le (by rw [hn.out]; omega), List.drop_of_length_le (by rw [hm.out]; omega)]⟩
  case round =>
   obtain ⟨k, hk, rfl, hd, hv⟩ := hrel
   have HV := hidd hv
   clear hv
   by_cases h0 : 0 < k
   ·obtain ⟨b, off, rfl, hbl, x, hxc, hx0, hx1, HX⟩ := hx.at (k := k - 1) (by rw [hn.out]; omega)
    obtain ⟨b2, off2, rfl, hbl2, y, hyc, hy0, hy1, HY⟩ := hy.at (k := k - 1) (by rw [hm.out]; omega)
    have hxr := (hd.cell _).trans hxc
    have hyr := (hd.cell _).trans hyc
    have hkx : k - 1 < xs.length := by rw [hn.out]; omega
    have hln : xs.length = ys.length := by rw [hn.out, hm.out]
    have HLN := hidd hln
    clear hxc hyc hln
    by_cases he : x < y
    ·have hk1 : k - 1 + 1 = k := by omega
     have HA : Hid (cmpI (val xs) (val ys) = -1) := by
      have := zGk hX.digs hY.digs hkx HLN.out (by rw [hk1]; exact HV.out) (by rw [HX.out, HY.out]; exact he)
      exact if_pos this
     clear hk1
     go_wp2
     go_quiet (fail)
     go_wp2
     go_ret
     refine ⟨?_, hd.drewN _⟩
     rw [HA.out]; try rfl
    ·have hle : decide (x < y) = false := by simp; omega
     by_cases hg : y < x
     ·have hk1 : k - 1 + 1 = k := by omega
      have HA : Hid (cmpI (val xs) (val ys) = 1) := by
       have hky : k - 1 < ys.length := by have := HLN.out; omega
       have := zGk hY.digs hX.digs hky HLN.out.symm (by rw [hk1]; exact HV.out.symm) (by rw [HX.out, HY.out]; exact hg)
       exact (if_neg (by omega)).trans (if_neg (by omega))
      clear hk1
      go_wp2
      go_quiet (fail)
      go_wp2
      obtain ⟨w2, hw2⟩ : ∃ w2, w2 = wr.drewN nq := ⟨_, rfl⟩
      rw [← hw2]
      have hd2 : Drawn w w2 := by rw [hw2]; exact hd.drewN _
      have hxr2 := (hd2.cell _).trans ((hd.cell _).symm.trans hxr)
      have hyr2 := (hd2.cell _).trans ((hd.cell _).symm.trans hyr)
      clear hw2 hxr hyr
      go_quiet (fail)
      go_wp2
      go_ret
      refine ⟨?_, hd2.drewN _⟩
      rw [HA.out]; try rfl
     ·have hge : decide (y < x) = false := by simp; omega
      have HE : Hid (x = y) := by show _ = _; omega
      go_wp2
      go_quiet (fail)
      go_wp2
      obtain ⟨w2, hw2⟩ : ∃ w2, w2 = wr.drewN nq := ⟨_, rfl⟩
      rw [← hw2]
      have hd2 : Drawn w w2 := by rw [hw2]; exact hd.drewN _
      have hxr2 := (hd2.cell _).trans ((hd.cell _).symm.trans hxr)
      have hyr2 := (hd2.cell _).trans ((hd.cell _).symm.trans hyr)
      clear hw2 hxr hyr
      go_quiet (fail)
      go_wp2
      go_roundw
      case rel =>
       refine ⟨k - 1, by omega, by go_num, hd2.drewN _, ?_⟩
       exact zJw hkx HLN.out (by rw [show k - 1 + 1 = k from by omega]; exact HV.out) (by rw [HX.out, HY.out]; exact HE.out)
      case measure => simp [intOf]; omega
   ·go_wp2
    go_ret
    obtain rfl : k = 0 := by omega
    refine ⟨?_, hd⟩
    have e : xs = ys := by simpa using HV.out
    subst e
    simp [cmpI]
 ·have h1 : ((n : Int) == m) = false := by simp; omega
  have h2 : ((n : Int) != m) = true := by simp; omega
  by_cases hlt : n < m
  ·have hli : ((n : Int) < (m : Int)) := by omega
   go_enter Tryz.func60, Tryz.ntmps60
   go_wp2
   go_ret
   refine ⟨?_, 0, rfl⟩
   have := Canon.lt_of_length hX.digs hcy (by rw [hn.out, hm.out]; exact hlt)
   simp [cmpI, this]
  ·have hli : ¬ ((n : Int) < (m : Int)) := by omega
   go_enter Tryz.func60, Tryz.ntmps60
   go_wp2
   go_ret
   refine ⟨?_, 0, rfl⟩
   have := Canon.lt_of_length hY.digs hcx (by rw [hn.out, hm.out]; omega)
   simp [cmpI, show ¬ val xs < val ys by omega, show ¬ val xs = val ys by omega]

theorem sgn_inj {a b : Bool} {xs ys : List Int} {n m : Nat} (hdx : Canon xs) (hdy : Canon ys) (hx : 0 ≤ val xs) (hy : 0 ≤ val ys) (hn : xs.length = n) (hm : ys.length = m) (ha : a = true → n ≠ 0) (hb : b = true → m ≠ 0) :
  (sgn a (val xs) = sgn b (val ys)) ↔ (a = b ∧ val xs = val ys) := by
 have hzx := hdx.zero
 have hzy := hdy.zero
 rw [hn] at hzx
 rw [hm] at hzy
 constructor
 ·intro h
  cases a <;> cases b <;> simp [sgn] at h ⊢
  ·exact h
  ·have := hb rfl
   have : val ys ≠ 0 := fun h => this (hzy.2 h)
   omega
  ·have := ha rfl
   have : val xs ≠ 0 := fun h => this (hzx.2 h)
   omega
  ·omega
 ·rintro ⟨rfl, h⟩
  rw [h]

theorem cmpI_zero {x y : Int} : cmpI x y = 0 ↔ x = y := by
 unfold cmpI
 split
 ·constructor <;> intro h <;> omega
 ·split
  ·constructor <;> intro h <;> omega
  ·constructor <;> intro h <;> omega

set_option maxHeartbeats 1000000 in
theorem Same_any (w : World) (na nb : Bool) (ax ay : Option Addr) (n m cx cy : Nat) (xs ys : List Int) (hX : Sl w ax n cx xs) (hY : Sl w ay m cy ys) (hcx : Canon xs) (hcy : Canon ys) (hna : na = true → n ≠ 0) (hnb : nb = true → m ≠ 0) (hb1 : n ≤ 4000000) (hb2 : m ≤ 4000000) :
  Calls Tryz.prog 17 #[.agg #[.bool na, .slice ax n cx], .agg #[.bool nb, .slice ay m cy]] w fun e w' => e = .returned (.bool (decide (sgn na (val xs) = sgn nb (val ys)))) ∧ Below w.heap.size w w' := by
 have hinj := sgn_inj hcx hcy (zAv hX.digs) (zAv hY.digs) hX.len hY.len hna hnb
 obtain ⟨w0, hw0, hA, hB, hbl⟩ : ∃ w0, w0 = (w.alloc (.cells #[.bool na, .slice ax n cx] 31)).alloc (.cells #[.bool nb, .slice ay m cy] 31) ∧ IntBox w0 w.heap.size (.bool na) (.slice ax n cx) ∧ IntBox w0 (w.heap.size + 1) (.bool nb) (.slice ay m cy) ∧ Below w.heap.size w w0 := by
  refine ⟨_, rfl, ?_, ?_, ?_⟩
  ·exact (IntBox.new w _ _ _).mono (zAw (w.alloc (.cells #[.bool na, .slice ax n cx] 31)) _) (by simp)
  ·have := IntBox.new (w.alloc (.cells #[.bool na, .slice ax n cx] 31)) (.bool nb) (.slice ay m cy) 31
   rw [World.size_alloc] at this
   exact this
  ·exact ((Below.refl _ _).alloc (Nat.le_refl _) _).alloc (by simp) _
 have hX0 := hX.mono hbl
 have hY0 := hY.mono hbl
 obtain ⟨a0, a1, _, _⟩ := hA
 obtain ⟨b0, b1, _, _⟩ := hB
 by_cases hs : na = nb
 ·subst hs
  have hi : Hid (decide (sgn na (val xs) = sgn na (val ys)) = decide (val xs = val ys)) := by
   show _ = _
   rw [decide_eq_decide, hinj]; simp
  clear hinj
  go_enter Tryz.func17, Tryz.ntmps17
  go_upto_region 1 with (fail)
  rw [← hw0]
  clear hw0
  have hbb : (na == na) = true := by cases na <;> rfl
  go_wp2_with fail
  refine (zHh _ _ _ _ _ _ _ _ _ hX0 hY0 hcx hcy (by omega) (by omega)).mono ?_
  rintro e w1 ⟨rfl, hd⟩
  have hbl1 := hbl.trans (hd.below _)
  by_cases he : val xs = val ys
  ·have hc : cmpI (val xs) (val ys) = 0 := cmpI_zero.2 he
   have hI : Hid (decide (sgn na (val xs) = sgn na (val ys)) = true) := hi.out.trans (by simp [he])
   rw [hc]
   clear hc he hi
   go_wp2
   go_ret
   exact ⟨by rw [hI.out]; try rfl, hbl1⟩
  ·have hc : cmpI (val xs) (val ys) ≠ 0 := fun h => he (cmpI_zero.1 h)
   have hI : Hid (decide (sgn na (val xs) = sgn na (val ys)) = false) := hi.out.trans (by simp [he])
   generalize cmpI (val xs) (val ys) = t at *
   have hcb : (t == 0) = false := by simp [hc]
   clear he hi hc
   go_wp2
   go_ret
   exact ⟨by rw [hI.out]; try rfl, hbl1⟩
 ·have hi : Hid (decide (sgn na (val xs) = sgn nb (val ys)) = false) := by
   show _ = _
   simp only [decide_eq_false_iff_not]
   intro h; exact hs (hinj.1 h).1
  have hbb : (na == nb) = false := by simp [hs]
  clear hinj hs
  go_enter Tryz.func17, Tryz.ntmps17
  go_upto_region 1 with (fail)
  rw [← hw0]
  clear hw0
  go_wp2
  go_ret
  exact ⟨by rw [hi.out]; try rfl, hbl⟩

end Go.Proofs.YtdhkhedhnolcjaaGreat
namespace Go.Proofs.YtdhkhedhnolcjaaGreat
open Go Go.RowKit

inductive Fact where
 | num (z : Int)
 | tup (z z' : Int)
 | int (z : Int)
 | is (u : Value)
 | any

def Fact.holds : Fact → Value → World → Prop
 | .num z, v, w => Num w v z
 | .tup z z', v, w => ∃ v1 v2 v3, v = .tuple #[v1, v2, v3] ∧ Num w v1 z ∧ Num w v2 z'
 | .int z, v, _ => v = .int .i64 z
 | .is u, v, _ => v = u
 | .any, _, _ => True

theorem Fact.mono {f : Fact} {v : Value} {w w' : World} (h : f.holds v w) (hb : Below w.heap.size w w') : f.holds v w' := by
 cases f with
 | num z => exact Num.mono h hb
 | tup z z' =>
  obtain ⟨v1, v2, v3, e, h1, h2⟩ := h
  exact ⟨v1, v2, v3, e, h1.mono hb, h2.mono hb⟩
 | int z => exact h
 | is u => exact h
 | any => trivial

theorem Fact.put {f : Fact} {v : Value} {w : World} {b : Nat} {y : Int} (h : f.holds v w) (hb : BoxNum w b y) (n' : Bool) (a' : Option Addr) (k' c' : Nat) : f.holds v (putBox w b n' a' k' c') := by
 cases f with
 | num z => exact Num.putBox h hb _ _ _ _
 | tup z z' =>
  obtain ⟨v1, v2, v3, e, h1, h2⟩ := h
  exact ⟨v1, v2, v3, e, h1.putBox hb _ _ _ _, h2.putBox hb _ _ _ _⟩
 | int z => exact h
 | is u => exact h
 | any => trivial

section
variable {os : List Oper} {Q : Exit → Act → World → Prop} {a : Act} {p : Plan} {B B0 : Nat} {w0 : World} {i s : Nat} {d : Option Tmp} {ty : TypeId} {ps : String} {af : Array Edge}

end

structure Fc where
 P : Value → World → Prop
 mono : ∀ {v : Value} {w w' : World}, P v w → Below w.heap.size w w' → P v w'
 put : ∀ {v : Value} {w : World} {b : Nat} {y : Int}, P v w → BoxNum w b y → ∀ (n' : Bool) (a' : Option Addr) (k' c' : Nat), P v (putBox w b n' a' k' c')

def Fc.num (z : Int) : Fc := ⟨fun v w => Num w v z, fun h hb => h.mono hb, fun h hb _ _ _ _ => h.putBox hb _ _ _ _⟩
def Fc.pre (P : Value → Prop) : Fc := ⟨fun v _ => P v, fun h _ => h, fun h _ _ _ _ _ => h⟩
def Fc.is (u : Value) : Fc := Fc.pre fun v => v = u
def Fc.any : Fc := Fc.pre fun _ => True
def Fc.tup (z z' : Int) : Fc := ⟨fun v w => ∃ v1 v2, v = .tuple #[v1, v2, .int .i64 0] ∧ Num w v1 z ∧ Num w v2 z',
 fun ⟨v1, v2, e, h1, h2⟩ hb => ⟨v1, v2, e, h1.mono hb, h2.mono hb⟩, fun ⟨v1, v2, e, h1, h2⟩ hb _ _ _ _ => ⟨v1, v2, e, h1.putBox hb _ _ _ _, h2.putBox hb _ _ _ _⟩⟩
def Fc.sl (m : Nat) (ys : List Int) : Fc := ⟨fun v w => ∃ ao c, v = .slice ao m c ∧ Sl w ao m c ys, fun ⟨ao, c, e, h⟩ hb => ⟨ao, c, e, h.mono hb⟩, fun ⟨ao, c, e, h⟩ hb n' a' k' c' => by
 obtain ⟨p, q, r, t, hI, _⟩ := hb
 exact ⟨ao, c, e, h.putBox hI n' a' k' c'⟩⟩

def plan (fs : List Fc) (old : List (Nat × Nat × Int × Int)) (new : List (Nat × Nat × Int)) : Plan := ⟨fun j v w => ((fs[j]?).getD Fc.any).P v w, old, new⟩

theorem zD6 {fs : List Fc} {old : List (Nat × Nat × Int × Int)} {new : List (Nat × Nat × Int)} {B B0 : Nat} (h1 : ∀ o ∈ old, B ≤ o.1 ∧ o.1 < B0) (h2 : ∀ o ∈ old, ∀ q ∈ old, o.2.1 ≠ q.2.1 → o.1 ≠ q.1) (h3 : ∀ n ∈ new, ∀ m ∈ new, n.1 = m.1 → n = m) (h4 : B ≤ B0) : (plan fs old new).Ok B B0 :=
 ⟨fun j _ _ _ h hb => ((fs[j]?).getD Fc.any).mono h hb, fun j _ _ _ _ n' a' k' c' h hb => ((fs[j]?).getD Fc.any).put h hb n' a' k' c', h1, h2, h3, h4⟩

theorem zD7 {fs : List Fc} {old : List (Nat × Nat × Int × Int)} {new : List (Nat × Nat × Int)} {B : Nat} {w w1 : World} (h : ∀ o ∈ old, BoxNum w1 o.1 o.2.2.1) (hb : Below B w w1) : (plan fs old new).G B w1.heap.size w (fun _ => false) (fun _ => undef) w1.drew :=
 ⟨hb.drew, Nat.le_refl _, fun _ h => (by cases h), fun o ho => (by
  have h1 := h o ho
  have h2 : BoxNum w1.drew o.1 o.2.2.1 := h1.mono (Below.refl _ _).drew
  simpa using h2), fun _ _ h => (by cases h), fun _ _ _ _ _ h => (by cases h)⟩

section
variable {os : List Oper} {Q : Exit → Act → World → Prop} {a : Act} {p : Plan} {B B0 : Nat} {w0 : World}
variable {i s : Nat} {d : Option Tmp} {ty : TypeId} {ps : String} {af : Array Edge} {gd : Option (Nat × Bool)}

structure PMono (p : Plan) (B B0 : Nat) : Prop where
 mono : ∀ j v w w', p.C j v w → Below w.heap.size w w' → p.C j v w'
 le : B ≤ B0

theorem PMono.of {p : Plan} {B B0 : Nat} (h : p.Ok B B0) : PMono p B B0 := ⟨h.mono, h.le⟩

theorem Plan.G.plainM {p : Plan} {B B0 : Nat} {w0 w w' : World} {L : Nat → Bool} {vs : Nat → Value} (h : p.G B B0 w0 L vs w) (hp : PMono p B B0) {i : Nat} {v : Value} (hL : L i = false) (hb : Below w.heap.size w w') (hC : p.C i v w')
  (h1 : ∀ o ∈ p.old, o.2.1 ≠ i) (h2 : ∀ n ∈ p.new, n.1 ≠ i ∧ n.2.1 ≠ i) : p.G B B0 w0 (up L i true) (up vs i v) w' where
 below := h.below.trans (hb.mono (Nat.le_trans hp.le h.size))
 size := Nat.le_trans h.size hb.size
 val := fun j hj => by
  by_cases hji : j = i
  ·subst hji; rw [zBt]; exact hC
  ·rw [zAo _ _ hji] at hj ⊢; exact hp.mono _ _ _ _ (h.val j hj) hb
 old := fun o ho => by rw [zAo _ _ (h1 o ho)]; exact (h.old o ho).mono hb
 new := fun n hn hj => by
  rw [zAo _ _ (h2 n hn).1] at hj ⊢
  rw [zAo _ _ (h2 n hn).2]
  obtain ⟨b, e1, e2, e3⟩ := h.new n hn hj
  exact ⟨b, e1, e2, e3.mono hb⟩
 apart := fun n hn m hm hne hj hk => by
  rw [zAo _ _ (h2 n hn).1] at hj ⊢
  rw [zAo _ _ (h2 m hm).1] at hk ⊢
  exact h.apart n hn m hm hne hj hk

structure Fm where
 P : Value → World → Prop
 mono : ∀ {v : Value} {w w' : World}, P v w → Below w.heap.size w w' → P v w'
def Fm.of (f : Fc) : Fm := ⟨f.P, f.mono⟩
def Fm.any : Fm := ⟨fun _ _ => True, fun h _ => h⟩
def Src (os : List Oper) (a : Act) (p : Plan) (B B0 : Nat) (w0 : World) (af : Array Edge) (x : Operand) (F : Value → World → Prop) : Prop :=
 ∀ L vs w, p.G B B0 w0 L vs w → (∀ e ∈ af, Region.binds .any e = true → L e.on = true) → F ((lay os.toArray L vs os.toArray.size a).eval x) w

def depA (af : Array Edge) (j : Nat) : Bool := af.toList.any fun e => Region.binds .any e && e.on == j

theorem zGn {j : Nat} {L : Nat → Bool} (h : depA af j = true) (hd : ∀ e ∈ af, Region.binds .any e = true → L e.on = true) : L j = true := by
 obtain ⟨e, he, h1⟩ := List.any_eq_true.1 h
 simp only [Bool.and_eq_true, beq_iff_eq] at h1
 rw [← h1.2]
 exact hd e (by simpa using he) h1.1

theorem zBr (j : Nat) {F : Value → World → Prop} (ha : zBd (os.map (·.dst)) = true) (hj : (os.map (·.dst))[j]? = some (some s)) (hs : s < a.tmps.size) (hdep : depA af j = true) (hF : ∀ v w, p.C j v w → F v w) : Src os a p B B0 w0 af (.tmp s) F := by
 intro L vs w hG hd
 have hLj := zGn hdep hd
 rw [zEq ha hLj hj hs]
 exact hF _ _ (hG.val j hLj)

theorem src_out {v : Value} {F : Value → World → Prop} (ho : (os.map (·.dst)).contains (some s) = false) (hx : a.eval (.tmp s) = v) (hF : ∀ w, Below B w0 w → F v w) : Src os a p B B0 w0 af (.tmp s) F := by
 intro L vs w hG hd
 rw [(zG5 ho _).trans hx]
 exact hF _ hG.below

theorem zHk {v : Value} {F : Value → World → Prop} (hF : ∀ w, F v w) : Src os a p B B0 w0 af (.const v) F := fun _ _ _ _ _ => hF _

def Gd (os : List Oper) (a : Act) (p : Plan) (B B0 : Nat) (w0 : World) (af : Array Edge) : Option (Nat × Bool) → Prop
 | none => True
 | some (j, b) => ∀ L vs w, p.G B B0 w0 L vs w → (∀ e ∈ af, Region.binds .any e = true → L e.on = true) → yielded os.toArray (lay os.toArray L vs os.toArray.size a).tmps j = some b

theorem stg_run {o : Oper} (hp : PMono p B B0) (hF : p.Free i) (hg : Gd os a p B B0 w0 o.after o.guard) (hr : ∀ L vs w, p.G B B0 w0 L vs w → (∀ e ∈ o.after, Region.binds .any e = true → L e.on = true) →
   ∃ v w', (execOp (lay os.toArray L vs os.toArray.size a).eval o).run Tryz.prog w = .ok (.value v) w' ∧ Below w.heap.size w w' ∧ p.C i v w') : Step os Q a p B B0 w0 i o := by
 intro hio L vs w hG hL hd hc
 refine wpOp_step hio fun K' hK => ?_
 obtain ⟨v, w', hv, hb, hCv⟩ := hr L vs w hG hd
 have hwn : Region.wanted o (yielded os.toArray (lay os.toArray L vs os.toArray.size a).tmps) = true := by
  unfold Region.wanted
  cases hgd : o.guard with
  | none => rfl
  | some jb =>
   obtain ⟨j, b⟩ := jb
   rw [hgd] at hg
   have := hg L vs w hG hd
   show (yielded os.toArray (lay os.toArray L vs os.toArray.size a).tmps j == some b) = true
   rw [this]
   cases b <;> rfl
 rw [if_pos hwn]
 unfold Oper.wp
 rw [hv]
 exact hK _ _ ⟨_, rfl, hG.plainM hp hL hb hCv hF.1 hF.2⟩

theorem stg_val {o : Oper} (hp : PMono p B B0) (hF : p.Free i) (hg : Gd os a p B B0 w0 o.after o.guard) (hr : ∀ L vs w, p.G B B0 w0 L vs w → (∀ e ∈ o.after, Region.binds .any e = true → L e.on = true) →
   ∃ v, (execOp (lay os.toArray L vs os.toArray.size a).eval o).run Tryz.prog w = .ok (.value v) w ∧ p.C i v w) : Step os Q a p B B0 w0 i o :=
 stg_run hp hF hg fun L vs w hG hd => by
  obtain ⟨v, h1, h2⟩ := hr L vs w hG hd
  exact ⟨v, w, h1, Below.refl _ _, h2⟩

theorem zJe {f : FuncId} {xs : Array Operand} {ts : Array TypeId} (hp : PMono p B B0) (hF : p.Free i) (hg : Gd os a p B B0 w0 af gd) (hen : ∀ args w, (callFunc f args).run Tryz.prog w = .ok (.enter f args) w)
  (hr : ∀ L vs w, p.G B B0 w0 L vs w → (∀ e ∈ af, Region.binds .any e = true → L e.on = true) → ∃ args, xs.map (lay os.toArray L vs os.toArray.size a).eval = args ∧
   Calls Tryz.prog f args w fun e w' => ∃ v', e = .returned v' ∧ Below w.heap.size w w' ∧ p.C i v' w') :
  Step os Q a p B B0 w0 i { dst := d, op := .call { callee := .value (.func f), args := xs, argTypes := ts }, type := ty, pos := ps, after := af, guard := gd } := by
 intro hio L vs w hG hL hd hc
 refine wpOp_step hio fun K' hK => ?_
 obtain ⟨args, hx, hC⟩ := hr L vs w hG hd
 have hwn : Region.wanted ({ dst := d, op := .call { callee := .value (.func f), args := xs, argTypes := ts }, type := ty, pos := ps, after := af, guard := gd } : Oper) (yielded os.toArray (lay os.toArray L vs os.toArray.size a).tmps) = true := by
  unfold Region.wanted
  cases gd with
  | none => rfl
  | some jb =>
   obtain ⟨j, b⟩ := jb
   have := hg L vs w hG hd
   show (yielded os.toArray (lay os.toArray L vs os.toArray.size a).tmps j == some b) = true
   rw [this]
   cases b <;> rfl
 rw [if_pos hwn]
 have e : (execOp (lay os.toArray L vs os.toArray.size a).eval ({ dst := d, op := .call { callee := .value (.func f), args := xs, argTypes := ts }, type := ty, pos := ps, after := af, guard := gd } : Oper)).run Tryz.prog w = (.ok (.enter f args) w) := by
  have hf : (lay os.toArray L vs os.toArray.size a).eval (.func f) = .func (.func f) #[] #[] := rfl
  generalize (lay os.toArray L vs os.toArray.size a).eval = ρ at hx hf
  simp [execOp, go_sem, hx, hf, hen]
 unfold Oper.wp
 rw [e]
 refine hC.mono ?_
 rintro e' w' ⟨v', rfl, hb, h⟩
 exact hK _ _ ⟨_, rfl, hG.plainM hp hL hb h hF.1 hF.2⟩

theorem g_load {b : Nat} {z : Int} {x : Operand} (hp : PMono p B B0) (hF : p.Free i) (hg : Gd os a p B B0 w0 af gd) (hx : Src os a p B B0 w0 af x fun v w => v = .pointer (some ⟨b, 0, none⟩) ∧ BoxNum w b z)
  (hC : ∀ v w, Num w v z → p.C i v w) : Step os Q a p B B0 w0 i { dst := d, op := .load 31 x, type := ty, pos := ps, after := af, guard := gd } := by
 refine stg_val hp hF hg fun L vs w hG hd => ?_
 obtain ⟨e, n, ao, kk, c, ⟨c0, c1, _, _⟩, hN⟩ := hx L vs w hG hd
 refine ⟨_, ?_, hC _ _ hN⟩
 generalize (lay os.toArray L vs os.toArray.size a).eval = ρ at e
 simp [execOp, go_sem, e, c0, c1]

theorem zG0 {x : Operand} (hp : PMono p B B0) (hF : p.Free i) (hg : Gd os a p B B0 w0 af gd) (hx : Src os a p B B0 w0 af x (p.C i)) : Step os Q a p B B0 w0 i { dst := d, op := .assign x, type := ty, pos := ps, after := af, guard := gd } := by
 refine stg_val hp hF hg fun L vs w hG hd => ⟨_, ?_, hx L vs w hG hd⟩
 simp [execOp, go_sem]

theorem g_call1 {x : Operand} {F : Value → World → Prop} {f : FuncId} {ts : Array TypeId} (hp : PMono p B B0) (hF : p.Free i) (hg : Gd os a p B B0 w0 af gd) (hen : ∀ args w, (callFunc f args).run Tryz.prog w = .ok (.enter f args) w)
  (hx : Src os a p B B0 w0 af x F) (hC : ∀ v w, F v w → Calls Tryz.prog f #[v] w fun e w' => ∃ v', e = .returned v' ∧ Below w.heap.size w w' ∧ p.C i v' w') :
  Step os Q a p B B0 w0 i { dst := d, op := .call { callee := .value (.func f), args := #[x], argTypes := ts }, type := ty, pos := ps, after := af, guard := gd } :=
 zJe hp hF hg hen fun L vs w hG hd => ⟨#[_], by simp, hC _ _ (hx L vs w hG hd)⟩

theorem zD4 {x y : Operand} {F G : Value → World → Prop} {f : FuncId} {ts : Array TypeId} (hp : PMono p B B0) (hF : p.Free i) (hg : Gd os a p B B0 w0 af gd) (hen : ∀ args w, (callFunc f args).run Tryz.prog w = .ok (.enter f args) w)
  (hx : Src os a p B B0 w0 af x F) (hy : Src os a p B B0 w0 af y G) (hC : ∀ v v' w, F v w → G v' w → Calls Tryz.prog f #[v, v'] w fun e w' => ∃ v', e = .returned v' ∧ Below w.heap.size w w' ∧ p.C i v' w') :
  Step os Q a p B B0 w0 i { dst := d, op := .call { callee := .value (.func f), args := #[x, y], argTypes := ts }, type := ty, pos := ps, after := af, guard := gd } :=
 zJe hp hF hg hen fun L vs w hG hd => ⟨#[_, _], by simp, hC _ _ _ (hx L vs w hG hd) (hy L vs w hG hd)⟩

end

def Tame (us : List Value) : Prop := ∀ u ∈ us, ∀ q, u ≠ .int .u32 q

def At (w : World) (b : Nat) (us : List Value) : Prop := ∀ j, j < us.length → w.cell? ⟨b, j, none⟩ = some (us.getD j undef) ∧ w.frozen? ⟨b, j, none⟩ = false

def putFrom (w : World) (b : Nat) : Nat → List Value → World
 | _, [] => w
 | j, u :: us => putFrom (w.setCell ⟨b, j, none⟩ u) b (j + 1) us

theorem zIz (b : Nat) : ∀ (us : List Value) (j : Nat) (w : World), (putFrom w b j us).heap.size = w.heap.size
 | [], _, _ => rfl
 | u :: us, j, w => by
  show (putFrom (w.setCell ⟨b, j, none⟩ u) b (j + 1) us).heap.size = _
  rw [zIz b us, World.size_setCell]

theorem zF1 {B b : Nat} (hb : B ≤ b) : ∀ (us : List Value) (j : Nat) (w w' : World), Below B w w' → Below B w (putFrom w' b j us)
 | [], _, _, _, h => h
 | u :: us, j, w, _, h => zF1 hb us (j + 1) w _ (h.setCell hb u)

theorem zIx (b : Nat) (x : Addr) : ∀ (us : List Value) (j : Nat) (w : World), (putFrom w b j us).frozen? x = w.frozen? x
 | [], _, _ => rfl
 | u :: us, j, w => by
  show (putFrom (w.setCell ⟨b, j, none⟩ u) b (j + 1) us).frozen? x = _
  rw [zIx b x us, World.frozen?_setCell]

theorem zLd {b : Nat} {x : Addr} (h : x.block ≠ b) : ∀ (us : List Value) (j : Nat) (w : World), (putFrom w b j us).cell? x = w.cell? x
 | [], _, _ => rfl
 | u :: us, j, w => by
  show (putFrom (w.setCell ⟨b, j, none⟩ u) b (j + 1) us).cell? x = _
  rw [zLd h us, World.cell?_setCell_other _ _ _ _ (by intro e; exact h (congrArg Addr.block e).symm)]

theorem zLb {b i : Nat} : ∀ (us : List Value) (j : Nat) (w : World), i < j → (putFrom w b j us).cell? ⟨b, i, none⟩ = w.cell? ⟨b, i, none⟩
 | [], _, _, _ => rfl
 | u :: us, j, w, h => by
  show (putFrom (w.setCell ⟨b, j, none⟩ u) b (j + 1) us).cell? _ = _
  rw [zLb us (j + 1) _ (by omega), World.cell?_setCell_other _ _ _ _ (by intro e; injection e with e1 e2; omega)]

theorem zLc {b : Nat} : ∀ (us : List Value) (j : Nat) (w : World), (∀ i, i < us.length → (w.cell? ⟨b, j + i, none⟩).isSome) → ∀ i, i < us.length → (putFrom w b j us).cell? ⟨b, j + i, none⟩ = some (us.getD i undef)
 | [], _, _, _, i, h => by simp at h
 | u :: us, j, w, hs, i, h => by
  show (putFrom (w.setCell ⟨b, j, none⟩ u) b (j + 1) us).cell? _ = _
  match i, h with
  | 0, _ =>
   rw [Nat.add_zero, zLb us (j + 1) _ (by omega)]
   refine World.cell?_setCell_same' _ _ _ ?_
   have := hs 0 (by simp)
   simpa using this
  | i + 1, h =>
   rw [show j + (i + 1) = j + 1 + i by omega]
   have hl : i < us.length := by simpa using h
   rw [zLc us (j + 1) _ (fun k hk => ?_) i hl]
   ·simp
   ·rw [World.cell?_setCell_other _ _ _ _ (by intro e; injection e with e1 e2; omega)]
    have := hs (k + 1) (by simp; omega)
    rw [show j + 1 + k = j + (k + 1) by omega]
    exact this

theorem At.put {w : World} {b : Nat} {us us' : List Value} (h : At w b us) (hl : us'.length = us.length) : At (putFrom w b 0 us') b us' := by
 intro j hj
 refine ⟨?_, by rw [zIx]; exact (h j (by omega)).2⟩
 have := zLc (b := b) us' 0 w (fun i hi => by rw [Nat.zero_add, (h i (by omega)).1]; rfl) j hj
 rwa [Nat.zero_add] at this

theorem At.other {w : World} {b b' : Nat} {us us' : List Value} (h : At w b us) (hne : b ≠ b') : At (putFrom w b' 0 us') b us := by
 intro j hj
 rw [zIx, zLd (by exact hne)]
 exact h j hj

theorem At.lt {w : World} {b : Nat} {us : List Value} (h : At w b us) (h0 : 0 < us.length) : b < w.heap.size := World.block_lt_of_cell? w ⟨b, 0, none⟩ (h 0 h0).1

theorem At.mono {w w' : World} {b B : Nat} {us : List Value} (h : At w b us) (hb : Below B w w') (hlt : b < B) : At w' b us := by
 intro j hj
 obtain ⟨h1, h2⟩ := h j hj
 refine ⟨(hb.cell (p := ⟨b, j, none⟩) hlt).trans h1, ?_⟩
 have := hb.block b hlt
 unfold World.frozen? at h2 ⊢
 simp only [this]
 exact h2

theorem At.new (w : World) (us : List Value) (t : TypeId) : At (w.alloc (.cells us.toArray t)) w.heap.size us := by
 intro j hj
 have h := heap_alloc_new w (.cells us.toArray t)
 refine ⟨?_, ?_⟩
 ·rw [cell_of_row _ _ _ _ _ (0, 0) h]
  simp [hj]
 ·simp only [World.frozen?]
  rw [h]
  simp

theorem Sl.putFrom {b : Nat} {ao : Option Addr} {n c : Nat} {xs : List Int} : ∀ (us : List Value) (j : Nat) (w : World), (∀ i, i < us.length → ∃ v, w.cell? ⟨b, j + i, none⟩ = some v ∧ ∀ q, v ≠ .int .u32 q) → Sl w ao n c xs → Sl (putFrom w b j us) ao n c xs
 | [], _, _, _, h => h
 | u :: us, j, w, hs, h => by
  show Sl (Go.Proofs.YtdhkhedhnolcjaaGreat.putFrom (w.setCell ⟨b, j, none⟩ u) b (j + 1) us) ao n c xs
  obtain ⟨v, hv, hq⟩ := hs 0 (by simp)
  refine Sl.putFrom us (j + 1) _ (fun i hi => ?_) (h.setOther (a := ⟨b, j, none⟩) hv hq u)
  obtain ⟨v2, hv2, hq2⟩ := hs (i + 1) (by simp; omega)
  refine ⟨v2, ?_, hq2⟩
  rw [World.cell?_setCell_other _ _ _ _ (by intro e; injection e with e1 e2; omega), show j + 1 + i = j + (i + 1) by omega]
  exact hv2

theorem Sl.putAt {w : World} {b : Nat} {us us' : List Value} {ao : Option Addr} {n c : Nat} {xs : List Int} (h : Sl w ao n c xs) (ha : At w b us) (ht : Tame us) (hl : us'.length = us.length) : Sl (Go.Proofs.YtdhkhedhnolcjaaGreat.putFrom w b 0 us') ao n c xs :=
 Sl.putFrom us' 0 w (fun i hi => ⟨us.getD i undef, by rw [Nat.zero_add]; exact (ha i (by omega)).1, ht _ (by
  have : i < us.length := by omega
  have e : us.getD i undef = us[i] := by simp [List.getD, this]
  rw [e]; exact List.getElem_mem _)⟩) h

theorem Num.putAt {w : World} {b : Nat} {us us' : List Value} {v : Value} {z : Int} (h : Num w v z) (ha : At w b us) (ht : Tame us) (hl : us'.length = us.length) : Num (putFrom w b 0 us') v z := by
 obtain ⟨neg, ao, n, c, xs, hv, hs, hn, hz⟩ := h
 exact ⟨neg, ao, n, c, xs, hv, hs.putAt ha ht hl, hn, hz⟩

structure Fq where
 P : Value → World → Prop
 mono : ∀ {v : Value} {w w' : World}, P v w → Below w.heap.size w w' → P v w'
 put : ∀ {v : Value} {w : World} {b : Nat} {us us' : List Value}, P v w → At w b us → Tame us → us'.length = us.length → P v (putFrom w b 0 us')

def Fq.num (z : Int) : Fq := ⟨fun v w => Num w v z, fun h hb => h.mono hb, fun h ha ht hl => h.putAt ha ht hl⟩
def Fq.pre (P : Value → Prop) : Fq := ⟨fun v _ => P v, fun h _ => h, fun h _ _ _ => h⟩
def Fq.is (u : Value) : Fq := Fq.pre fun v => v = u
def Fq.any : Fq := Fq.pre fun _ => True
def Fq.tup2 (F G : Fq) : Fq := ⟨fun v w => ∃ v1 v2, v = .tuple #[v1, v2] ∧ F.P v1 w ∧ G.P v2 w, fun ⟨v1, v2, e, h1, h2⟩ hb => ⟨v1, v2, e, F.mono h1 hb, G.mono h2 hb⟩, fun ⟨v1, v2, e, h1, h2⟩ ha ht hl => ⟨v1, v2, e, F.put h1 ha ht hl, G.put h2 ha ht hl⟩⟩
def Fq.tup3 (F G H : Fq) : Fq := ⟨fun v w => ∃ v1 v2 v3, v = .tuple #[v1, v2, v3] ∧ F.P v1 w ∧ G.P v2 w ∧ H.P v3 w, fun ⟨v1, v2, v3, e, h1, h2, h3⟩ hb => ⟨v1, v2, v3, e, F.mono h1 hb, G.mono h2 hb, H.mono h3 hb⟩,
 fun ⟨v1, v2, v3, e, h1, h2, h3⟩ ha ht hl => ⟨v1, v2, v3, e, F.put h1 ha ht hl, G.put h2 ha ht hl, H.put h3 ha ht hl⟩⟩
def Pair (w : World) (v : Value) (n d : Int) : Prop := ∃ p q r s, v = .agg #[p, q, r, s] ∧ Num w (.agg #[p, q]) n ∧ Num w (.agg #[r, s]) d
def Fq.pair (n d : Int) : Fq := ⟨fun v w => Pair w v n d, fun ⟨p, q, r, s, e, h1, h2⟩ hb => ⟨p, q, r, s, e, h1.mono hb, h2.mono hb⟩, fun ⟨p, q, r, s, e, h1, h2⟩ ha ht hl => ⟨p, q, r, s, e, h1.putAt ha ht hl, h2.putAt ha ht hl⟩⟩

theorem Pair.mono {w w' : World} {v : Value} {n d : Int} (h : Pair w v n d) (hb : Below w.heap.size w w') : Pair w' v n d := (Fq.pair n d).mono h hb

def Bq (w : World) (b m : Nat) (F : Fq) : Prop := ∃ us : List Value, us.length = m ∧ 0 < m ∧ At w b us ∧ Tame us ∧ F.P (.agg us.toArray) w

theorem Bq.lt {w : World} {b m : Nat} {F : Fq} (h : Bq w b m F) : b < w.heap.size := by
 obtain ⟨us, h1, h2, h3, _⟩ := h
 exact h3.lt (by omega)
theorem Bq.mono {w w' : World} {b m : Nat} {F : Fq} (h : Bq w b m F) (hb : Below w.heap.size w w') : Bq w' b m F := by
 have hl := h.lt
 obtain ⟨us, h1, h2, h3, h4, h5⟩ := h
 exact ⟨us, h1, h2, h3.mono hb hl, h4, F.mono h5 hb⟩
theorem Bq.other {w : World} {b b' m m' : Nat} {F F' : Fq} (h : Bq w b m F) (h' : Bq w b' m' F') (hne : b ≠ b') {us' : List Value} (hl : us'.length = m') : Bq (putFrom w b' 0 us') b m F := by
 obtain ⟨us, h1, h2, h3, h4, h5⟩ := h
 obtain ⟨vs, g1, g2, g3, g4, g5⟩ := h'
 exact ⟨us, h1, h2, h3.other hne, h4, F.put h5 g3 g4 (by omega)⟩
theorem Bq.same {w : World} {b m : Nat} {F F' : Fq} (h : Bq w b m F) {us' : List Value} (hl : us'.length = m) (ht : Tame us') (hF : F'.P (.agg us'.toArray) w) : Bq (putFrom w b 0 us') b m F' := by
 obtain ⟨us, h1, h2, h3, h4, h5⟩ := h
 exact ⟨us', hl, h2, h3.put (by omega), ht, F'.put hF h3 h4 (by omega)⟩

structure Ob where
 b : Nat
 k : Nat
 m : Nat
 F0 : Fq
 F1 : Fq
inductive Knd where
 | sl (l : Nat)
 | clo (f : FuncId)
@[reducible] instance (l : Nat) : OfNat Knd l := ⟨.sl l⟩
instance : Coe Nat Knd := ⟨.sl⟩
def cloV (f : FuncId) (b : Nat) : Value := .func (.func f) #[] #[.pointer (some ⟨b, 0, none⟩)]
structure Nb where
 i : Nat
 k : Nat
 m : Nat
 F0 : Fq
 F1 : Fq
 /-- A slice, a function, or nothing for a pointer. -/
 s : Option Knd
def zEy : Value → Nat
 | .pointer (some x) => x.block
 | .slice (some x) _ _ => x.block
 | .func _ _ ⟨.pointer (some x) :: _⟩ => x.block
 | _ => 0
def Nb.ptr (n : Nb) (b : Nat) : Value := match n.s with
 | none => .pointer (some ⟨b, 0, none⟩)
 | some (.sl l) => .slice (some ⟨b, 0, none⟩) l l
 | some (.clo f) => cloV f b
theorem Nb.block_ptr (n : Nb) (b : Nat) : zEy (n.ptr b) = b := by
 unfold Nb.ptr
 split <;> rfl
def Nb.now (n : Nb) (L : Nat → Bool) : Fq := if (n.s.isSome || L n.k) = true then n.F1 else n.F0
theorem Nb.now_up {n : Nb} {L : Nat → Bool} {i : Nat} {t : Bool} (h : n.k ≠ i) : n.now (up L i t) = n.now L := by
 unfold Nb.now
 rw [zAo _ _ h]
theorem Nb.now_same (n : Nb) (L : Nat → Bool) : n.now (up L n.k true) = n.F1 := by
 unfold Nb.now
 rw [zBt, Bool.or_true, if_pos rfl]
theorem Nb.now_on {n : Nb} {L : Nat → Bool} (h : L n.k = true) : n.now L = n.F1 := by
 unfold Nb.now
 rw [h, Bool.or_true, if_pos rfl]
theorem Nb.now_off {n : Nb} {L : Nat → Bool} (hs : n.s = none) (h : L n.k = false) : n.now L = n.F0 := by
 unfold Nb.now
 rw [h, hs]
 rfl
structure Pq where
 C : List Fq
 old : List Ob
 new : List Nb
def Pq.c (p : Pq) (j : Nat) : Fq := (p.C[j]?).getD Fq.any

structure Pq.G (p : Pq) (B B0 : Nat) (w0 : World) (L : Nat → Bool) (vs : Nat → Value) (w : World) : Prop where
 below : Below B w0 w
 size : B0 ≤ w.heap.size
 val : ∀ j, L j = true → (p.c j).P (vs j) w
 old : ∀ o ∈ p.old, Bq w o.b o.m (if L o.k then o.F1 else o.F0)
 new : ∀ n ∈ p.new, L n.i = true → ∃ b, vs n.i = n.ptr b ∧ B0 ≤ b ∧ Bq w b n.m (n.now L)
 apart : ∀ n ∈ p.new, ∀ m ∈ p.new, n.i ≠ m.i → L n.i = true → L m.i = true → zEy (vs n.i) ≠ zEy (vs m.i)

structure Pq.Ok (p : Pq) (B B0 : Nat) : Prop where
 oldlt : ∀ o ∈ p.old, B ≤ o.b ∧ o.b < B0
 oldne : ∀ o ∈ p.old, ∀ q ∈ p.old, o.k ≠ q.k → o.b ≠ q.b
 oldinj : ∀ o ∈ p.old, ∀ q ∈ p.old, o.k = q.k → o = q
 newinj : ∀ n ∈ p.new, ∀ m ∈ p.new, n.i = m.i → n = m
 newink : ∀ n ∈ p.new, ∀ m ∈ p.new, n.k = m.k → n = m
 le : B ≤ B0

def Pq.Free (p : Pq) (i : Nat) : Prop := (∀ o ∈ p.old, o.k ≠ i) ∧ ∀ n ∈ p.new, n.i ≠ i ∧ n.k ≠ i

theorem Pq.G.plain {p : Pq} {B B0 : Nat} {w0 w w' : World} {L : Nat → Bool} {vs : Nat → Value} (h : p.G B B0 w0 L vs w) (hp : p.Ok B B0) {i : Nat} {v : Value} (hF : p.Free i) (hb : Below w.heap.size w w') (hC : (p.c i).P v w') :
  p.G B B0 w0 (up L i true) (up vs i v) w' where
 below := h.below.trans (hb.mono (Nat.le_trans hp.le h.size))
 size := Nat.le_trans h.size hb.size
 val := fun j hj => by
  by_cases hji : j = i
  ·subst hji; rw [zBt]; exact hC
  ·rw [zAo _ _ hji] at hj ⊢; exact (p.c j).mono (h.val j hj) hb
 old := fun o ho => by rw [zAo _ _ (hF.1 o ho)]; exact (h.old o ho).mono hb
 new := fun n hn hj => by
  rw [zAo _ _ (hF.2 n hn).1] at hj ⊢
  rw [Nb.now_up (hF.2 n hn).2]
  obtain ⟨b, e1, e2, e3⟩ := h.new n hn hj
  exact ⟨b, e1, e2, e3.mono hb⟩
 apart := fun n hn m hm hne hj hk => by
  rw [zAo _ _ (hF.2 n hn).1] at hj ⊢
  rw [zAo _ _ (hF.2 m hm).1] at hk ⊢
  exact h.apart n hn m hm hne hj hk

theorem Pq.G.lay {p : Pq} {B B0 : Nat} {w0 w : World} {L : Nat → Bool} {vs : Nat → Value} (h : p.G B B0 w0 L vs w) (hp : p.Ok B B0) {n0 : Nb} (hi : n0 ∈ p.new) {F : Fq} (hk : n0.now (up L n0.i true) = F)
  (hC : ∀ v w', (p.c n0.i).P v w') (h1 : ∀ o ∈ p.old, o.k ≠ n0.i) (h2 : ∀ n ∈ p.new, n.i ≠ n0.i → n.k ≠ n0.i) (t : TypeId) {us : List Value} (hl : us.length = n0.m) (h0 : 0 < n0.m) (ht : Tame us) (hF : F.P (.agg us.toArray) (w.alloc (.cells us.toArray t))) :
  p.G B B0 w0 (up L n0.i true) (up vs n0.i (n0.ptr w.heap.size)) (w.alloc (.cells us.toArray t)) := by
 have hb := zAw w (.cells us.toArray t)
 have hbx : Bq (w.alloc (.cells us.toArray t)) w.heap.size n0.m F := ⟨us, hl, h0, At.new w us t, ht, hF⟩
 refine ⟨h.below.trans (hb.mono (Nat.le_trans hp.le h.size)), Nat.le_trans h.size hb.size, fun j hj => ?_, fun o ho => ?_, fun n hn hj => ?_, fun n hn m hm hne hj hk' => ?_⟩
 ·by_cases hji : j = n0.i
  ·subst hji; exact hC _ _
  ·rw [zAo _ _ hji] at hj ⊢; exact (p.c j).mono (h.val j hj) hb
 ·rw [zAo _ _ (h1 o ho)]; exact (h.old o ho).mono hb
 ·by_cases hni : n.i = n0.i
  ·have e := hp.newinj n hn _ hi hni
   subst e
   rw [zBt, hk]
   exact ⟨_, rfl, h.size, hbx⟩
  ·rw [Nb.now_up (h2 n hn hni)]
   rw [zAo _ _ hni] at hj ⊢
   obtain ⟨b, e1, e2, e3⟩ := h.new n hn hj
   exact ⟨b, e1, e2, e3.mono hb⟩
 ·by_cases hni : n.i = n0.i
  ·have hmi : m.i ≠ n0.i := fun e => hne (hni.trans e.symm)
   rw [hni, zBt]
   rw [zAo _ _ hmi] at hk' ⊢
   obtain ⟨b, e1, e2, e3⟩ := h.new m hm hk'
   rw [e1, Nb.block_ptr, Nb.block_ptr]
   have := e3.lt
   omega
  ·rw [zAo _ _ hni] at hj ⊢
   by_cases hmi : m.i = n0.i
   ·rw [hmi, zBt]
    obtain ⟨b, e1, e2, e3⟩ := h.new n hn hj
    rw [e1, Nb.block_ptr, Nb.block_ptr]
    have := e3.lt
    omega
   ·rw [zAo _ _ hmi] at hk' ⊢
    exact h.apart n hn m hm hne hj hk'

theorem Pq.G.alloc {p : Pq} {B B0 : Nat} {w0 w : World} {L : Nat → Bool} {vs : Nat → Value} (h : p.G B B0 w0 L vs w) (hp : p.Ok B B0) {n0 : Nb} (hi : n0 ∈ p.new) (hsl : n0.s = none) (hk : L n0.k = false) (hki : n0.k ≠ n0.i)
  (hC : ∀ v w', (p.c n0.i).P v w') (h1 : ∀ o ∈ p.old, o.k ≠ n0.i) (h2 : ∀ n ∈ p.new, n.k ≠ n0.i) (t : TypeId) {us : List Value} (hl : us.length = n0.m) (h0 : 0 < n0.m) (ht : Tame us) (hF : ∀ w', n0.F0.P (.agg us.toArray) w') :
  p.G B B0 w0 (up L n0.i true) (up vs n0.i (.pointer (some ⟨w.heap.size, 0, none⟩))) (w.alloc (.cells us.toArray t)) := by
 have := h.lay hp hi (F := n0.F0) (by rw [Nb.now_up hki]; exact Nb.now_off hsl hk) hC h1 (fun n hn _ => h2 n hn) t hl h0 ht (hF _)
 have e : n0.ptr w.heap.size = .pointer (some ⟨w.heap.size, 0, none⟩) := by unfold Nb.ptr; rw [hsl]
 rwa [e] at this

theorem Pq.G.storeNew {p : Pq} {B B0 : Nat} {w0 w : World} {L : Nat → Bool} {vs : Nat → Value} (h : p.G B B0 w0 L vs w) (hp : p.Ok B B0) {n0 : Nb} (hi : n0 ∈ p.new) (hLi : L n0.i = true)
  {us : List Value} (hl : us.length = n0.m) (ht : Tame us) (hF : n0.F1.P (.agg us.toArray) w) (hC : ∀ v w', (p.c n0.k).P v w') (h1 : ∀ o ∈ p.old, o.k ≠ n0.k) (h2 : ∀ n ∈ p.new, n.i ≠ n0.k) {b : Nat} (hb : vs n0.i = n0.ptr b) (v : Value) :
  p.G B B0 w0 (up L n0.k true) (up vs n0.k v) (putFrom w b 0 us) := by
 obtain ⟨b', hb', hB0, hbox⟩ := h.new _ hi hLi
 have hbb : b' = b := by
  have := congrArg zEy (hb'.symm.trans hb)
  rwa [Nb.block_ptr, Nb.block_ptr] at this
 subst hbb
 have hsz : B0 ≤ (putFrom w b' 0 us).heap.size := by rw [zIz]; exact h.size
 have hbox0 := hbox
 obtain ⟨us0, g1, g2, g3, g4, g5⟩ := hbox0
 refine ⟨zF1 (Nat.le_trans hp.le hB0) us 0 _ _ h.below, hsz, fun j hj => ?_, fun o ho => ?_, fun n hn hj => ?_, fun n hn m hm hne hj hk' => ?_⟩
 ·by_cases hji : j = n0.k
  ·subst hji; exact hC _ _
  ·rw [zAo _ _ hji] at hj ⊢; exact (p.c j).put (h.val j hj) g3 g4 (by omega)
 ·rw [zAo _ _ (h1 o ho)]
  exact (h.old o ho).other hbox (by have := (hp.oldlt o ho).2; omega) hl
 ·rw [zAo _ _ (h2 n hn)] at hj ⊢
  by_cases hnk : n.k = n0.k
  ·have e := hp.newink n hn _ hi hnk
   subst e
   refine ⟨b', hb', hB0, ?_⟩
   rw [Nb.now_same]
   exact hbox.same hl ht hF
  ·rw [Nb.now_up hnk]
   obtain ⟨b2, e1, e2, e3⟩ := h.new n hn hj
   refine ⟨b2, e1, e2, e3.other hbox (fun e => ?_) hl⟩
   have hni : n.i ≠ n0.i := fun e' => by
    have e2 := hp.newinj n hn _ hi e'
    exact hnk (by rw [e2])
   exact h.apart n hn _ hi hni hj hLi (by rw [e1, hb', Nb.block_ptr, Nb.block_ptr, e])
 ·rw [zAo _ _ (h2 n hn)] at hj ⊢
  rw [zAo _ _ (h2 m hm)] at hk' ⊢
  exact h.apart n hn m hm hne hj hk'

theorem Pq.G.storeOld {p : Pq} {B B0 : Nat} {w0 w : World} {L : Nat → Bool} {vs : Nat → Value} (h : p.G B B0 w0 L vs w) (hp : p.Ok B B0) {o0 : Ob} (hi : o0 ∈ p.old)
  {us : List Value} (hl : us.length = o0.m) (ht : Tame us) (hF : o0.F1.P (.agg us.toArray) w) (hC : ∀ v w', (p.c o0.k).P v w') (h2 : ∀ n ∈ p.new, n.i ≠ o0.k ∧ n.k ≠ o0.k) (v : Value) :
  p.G B B0 w0 (up L o0.k true) (up vs o0.k v) (putFrom w o0.b 0 us) := by
 have hbox := h.old _ hi
 have hblt := hp.oldlt _ hi
 have hsz : B0 ≤ (putFrom w o0.b 0 us).heap.size := by rw [zIz]; exact h.size
 have hbox0 := hbox
 obtain ⟨us0, g1, g2, g3, g4, g5⟩ := hbox0
 refine ⟨zF1 hblt.1 us 0 _ _ h.below, hsz, fun j hj => ?_, fun o ho => ?_, fun n hn hj => ?_, fun n hn m hm hne hj hk' => ?_⟩
 ·by_cases hji : j = o0.k
  ·subst hji; exact hC _ _
  ·rw [zAo _ _ hji] at hj ⊢; exact (p.c j).put (h.val j hj) g3 g4 (by omega)
 ·by_cases hok : o.k = o0.k
  ·have e := hp.oldinj o ho _ hi hok
   subst e
   rw [zBt]
   exact hbox.same hl ht hF
  ·rw [zAo _ _ hok]
   exact (h.old o ho).other hbox (hp.oldne o ho _ hi hok) hl
 ·rw [zAo _ _ (h2 n hn).1] at hj ⊢
  rw [Nb.now_up (h2 n hn).2]
  obtain ⟨b2, e1, e2, e3⟩ := h.new n hn hj
  exact ⟨b2, e1, e2, e3.other hbox (by have := hblt.2; omega) hl⟩
 ·rw [zAo _ _ (h2 n hn).1] at hj ⊢
  rw [zAo _ _ (h2 m hm).1] at hk' ⊢
  exact h.apart n hn m hm hne hj hk'

theorem zL4 {P : Program} {ops : Array Oper} {Q : Exit → Act → World → Prop} {id : Nat} {a : Act} {w : World} (hA : zFj ops)
  (hB : ∀ i o, ops[i]? = some o → ∀ e ∈ o.after, Region.binds .any e = true → e.on < i) (G : (Nat → Bool) → (Nat → Value) → World → Prop)
  (h0 : G (fun _ => false) (fun _ => undef) w)
  (hs : ∀ i o, ops[i]? = some o → ∀ L vs w, G L vs w → L i = false → (∀ e ∈ o.after, Region.binds .any e = true → L e.on = true) → zCz ops L →
   wpOp P ops Q i (fun a' w' => ∃ v, a' = (lay ops L vs ops.size a).put o.dst v ∧ G (up L i true) (up vs i v) w') (lay ops L vs ops.size a) w)
  (hf : ∀ L vs w, (∀ j, j < ops.size → L j = true) → G L vs w → Q .normal (lay ops L vs ops.size a) w) : (Code.region id ops false).wp P Q a w := by
 refine wp_region ?_
 have hL1 : ∀ i, up (fun j => decide (j < i)) i true = fun j => decide (j < i + 1) := fun i => by
  funext j
  unfold up
  split
  ·rename_i h; subst h; simp
  ·rename_i h; simp; omega
 have key : ∀ (k i : Nat) (vs : Nat → Value) (w' : World), i + k = ops.size → G (fun j => decide (j < i)) vs w' → wpOps P ops Q (List.range' i k) (lay ops (fun j => decide (j < i)) vs ops.size a) w' := by
  intro k
  induction k with
  | zero =>
   intro i vs w' hi hG
   show Q .normal _ _
   exact hf _ vs w' (fun j hj => by simp; omega) hG
  | succ k ih =>
   intro i vs w' hi hG
   rw [List.range'_succ, wpOps_cons]
   have hlt : i < ops.size := by omega
   have ho : ops[i]? = some ops[i] := by simp [hlt]
   refine wpOp_mono ?_ (hs i _ ho _ vs w' hG (by simp) (fun e he hb => by have := hB i _ ho e he hb; simpa using this) (fun j o hj hl e he hb => by have h1 := hB j o hj e he hb; simp at hl ⊢; omega))
   rintro a2 w2 ⟨v, rfl, hG2⟩
   have hdst : zBu ops i = ops[i].dst := by simp [zBu, hlt]
   have h3 := zIl (L := fun j => decide (j < i)) (vs := vs) (i := i) (v := v) hA (by simp) ops.size a hlt
   rw [hL1] at hG2 h3
   rw [← hdst, ← h3]
   exact ih (i + 1) (up vs i v) w2 (by omega) hG2
 have h := key ops.size 0 (fun _ => undef) w (by omega) (by simpa using h0)
 rw [List.range_eq_range']
 have e : ∀ k, lay ops (fun j => decide (j < 0)) (fun _ => undef) k a = a := fun k => by
  induction k with
  | zero => rfl
  | succ k ih => simp only [lay, ih]; simp
 rw [e] at h
 exact h

structure Fr (w0 : World) (bs : List (Nat × Nat × Fq)) (W : World) : Prop where
 below : Below w0.heap.size w0 W
 boxes : ∀ x ∈ bs, w0.heap.size ≤ x.1 ∧ Bq W x.1 x.2.1 x.2.2
 apart : (bs.map (·.1)).Nodup

theorem Fr.mono {w0 W W' : World} {bs : List (Nat × Nat × Fq)} (h : Fr w0 bs W) (hb : Below W.heap.size W W') : Fr w0 bs W' :=
 ⟨h.below.trans (hb.mono h.below.size), fun x hx => ⟨(h.boxes x hx).1, (h.boxes x hx).2.mono hb⟩, h.apart⟩

theorem Fr.start (w0 : World) : Fr w0 [] w0 := ⟨Below.refl _ _, fun _ h => by simp at h, by simp⟩

theorem Fr.push {w0 W : World} {bs : List (Nat × Nat × Fq)} (h : Fr w0 bs W) {m : Nat} {F : Fq} {us : List Value} (t : TypeId) (hl : us.length = m) (h0 : 0 < m) (ht : Tame us) (hF : F.P (.agg us.toArray) W) :
  Fr w0 ((W.heap.size, m, F) :: bs) (W.alloc (.cells us.toArray t)) := by
 have hb := zAw W (.cells us.toArray t)
 have h2 := h.mono hb
 refine ⟨h2.below, fun x hx => ?_, ?_⟩
 ·rcases List.mem_cons.1 hx with rfl | hx
  ·exact ⟨h.below.size, us, hl, h0, At.new W us t, ht, F.mono hF hb⟩
  ·exact h2.boxes x hx
 ·rw [List.map_cons, List.nodup_cons]
  refine ⟨fun hm => ?_, h.apart⟩
  obtain ⟨x, hx, e⟩ := List.mem_map.1 hm
  have := (h.boxes x hx).2.lt
  omega

def zAz : List (Nat × Nat × Fq) → List (Option (Nat × Fq)) → Nat → List Ob
 | (b, m, F) :: r, none :: ks, d => ⟨b, d, m, F, F⟩ :: zAz r ks (d + 1)
 | (b, m, F) :: r, some (k, F1) :: ks, d => ⟨b, k, m, F, F1⟩ :: zAz r ks (d + 1)
 | _, _, _ => []
def zAd : List (Nat × Nat × Fq) → List (Option (Nat × Fq)) → List (Nat × Nat × Fq)
 | (b, m, F) :: r, none :: ks => (b, m, F) :: zAd r ks
 | (b, m, _) :: r, some (_, F1) :: ks => (b, m, F1) :: zAd r ks
 | _, _ => []

def zC6 : List (Option (Nat × Fq)) → Nat → List Nat
 | none :: ks, d => d :: zC6 ks (d + 1)
 | some (k, _) :: ks, d => k :: zC6 ks (d + 1)
 | [], _ => []

theorem zFw {bs : List (Nat × Nat × Fq)} {ks : List (Option (Nat × Fq))} {d : Nat} {o : Ob} (h : o ∈ zAz bs ks d) : (o.b, o.m, o.F0) ∈ bs := by
 induction bs generalizing ks d with
 | nil => simp [zAz] at h
 | cons x r ih =>
  obtain ⟨b, m, F⟩ := x
  cases ks with
  | nil => simp [zAz] at h
  | cons k ks =>
   cases k with
   | none =>
    simp only [zAz, List.mem_cons] at h
    rcases h with rfl | h
    ·simp
    ·exact List.mem_cons_of_mem _ (ih h)
   | some kk =>
    obtain ⟨k, F1⟩ := kk
    simp only [zAz, List.mem_cons] at h
    rcases h with rfl | h
    ·simp
    ·exact List.mem_cons_of_mem _ (ih h)

theorem zFv {bs : List (Nat × Nat × Fq)} {ks : List (Option (Nat × Fq))} {d : Nat} {o : Ob} (h : o ∈ zAz bs ks d) : o.k ∈ zC6 ks d := by
 induction bs generalizing ks d with
 | nil => simp [zAz] at h
 | cons x r ih =>
  obtain ⟨b, m, F⟩ := x
  cases ks with
  | nil => simp [zAz] at h
  | cons k ks =>
   cases k with
   | none =>
    simp only [zAz, List.mem_cons] at h
    rcases h with rfl | h
    ·simp [zC6]
    ·exact List.mem_cons_of_mem _ (ih h)
   | some kk =>
    obtain ⟨k, F1⟩ := kk
    simp only [zAz, List.mem_cons] at h
    rcases h with rfl | h
    ·simp [zC6]
    ·exact List.mem_cons_of_mem _ (ih h)

theorem zK0 {bs : List (Nat × Nat × Fq)} {ks : List (Option (Nat × Fq))} {d : Nat} (hk : (zC6 ks d).Nodup) : ∀ o ∈ zAz bs ks d, ∀ q ∈ zAz bs ks d, o.k = q.k → o = q := by
 induction bs generalizing ks d with
 | nil => intro o ho; simp [zAz] at ho
 | cons x r ih =>
  obtain ⟨b, m, F⟩ := x
  cases ks with
  | nil => intro o ho; simp [zAz] at ho
  | cons k ks =>
   cases k with
   | none =>
    simp only [zC6, List.nodup_cons] at hk
    intro o ho q hq he
    simp only [zAz, List.mem_cons] at ho hq
    rcases ho with rfl | ho
    ·rcases hq with rfl | hq
     ·rfl
     ·exact absurd (by have h := zFv hq; rwa [← show d = q.k from he] at h) hk.1
    ·rcases hq with rfl | hq
     ·exact absurd (by have h := zFv ho; rwa [← show d = o.k from he.symm] at h) hk.1
     ·exact ih hk.2 o ho q hq he
   | some kk =>
    obtain ⟨k, F1⟩ := kk
    simp only [zC6, List.nodup_cons] at hk
    intro o ho q hq he
    simp only [zAz, List.mem_cons] at ho hq
    rcases ho with rfl | ho
    ·rcases hq with rfl | hq
     ·rfl
     ·exact absurd (by have h := zFv hq; rwa [← show k = q.k from he] at h) hk.1
    ·rcases hq with rfl | hq
     ·exact absurd (by have h := zFv ho; rwa [← show k = o.k from he.symm] at h) hk.1
     ·exact ih hk.2 o ho q hq he

theorem zK1 {bs : List (Nat × Nat × Fq)} {ks : List (Option (Nat × Fq))} {d : Nat} (hb : (bs.map (·.1)).Nodup) : ∀ o ∈ zAz bs ks d, ∀ q ∈ zAz bs ks d, o.k ≠ q.k → o.b ≠ q.b := by
 induction bs generalizing ks d with
 | nil => intro o ho; simp [zAz] at ho
 | cons x r ih =>
  obtain ⟨b, m, F⟩ := x
  simp only [List.map_cons, List.nodup_cons] at hb
  have hne : ∀ {ks d} {q : Ob}, q ∈ zAz r ks d → q.b ≠ b := fun hq e => hb.1 (by rw [← e]; exact List.mem_map.2 ⟨_, zFw hq, rfl⟩)
  cases ks with
  | nil => intro o ho; simp [zAz] at ho
  | cons k ks =>
   cases k with
   | none =>
    intro o ho q hq he
    simp only [zAz, List.mem_cons] at ho hq
    rcases ho with rfl | ho
    ·rcases hq with rfl | hq
     ·exact absurd rfl he
     ·exact Ne.symm (hne hq)
    ·rcases hq with rfl | hq
     ·exact hne ho
     ·exact ih hb.2 o ho q hq he
   | some kk =>
    obtain ⟨k, F1⟩ := kk
    intro o ho q hq he
    simp only [zAz, List.mem_cons] at ho hq
    rcases ho with rfl | ho
    ·rcases hq with rfl | hq
     ·exact absurd rfl he
     ·exact Ne.symm (hne hq)
    ·rcases hq with rfl | hq
     ·exact hne ho
     ·exact ih hb.2 o ho q hq he

theorem oldTo_mem {bs : List (Nat × Nat × Fq)} {ks : List (Option (Nat × Fq))} {d len : Nat} {W : World} {L : Nat → Bool} (hL : ∀ j, j < len → L j = true) (hk : ∀ k F, some (k, F) ∈ ks → k < len)
  (h : ∀ o ∈ zAz bs ks d, Bq W o.b o.m (if L o.k then o.F1 else o.F0)) : ∀ x ∈ zAd bs ks, Bq W x.1 x.2.1 x.2.2 := by
 induction bs generalizing ks d with
 | nil => intro x hx; simp [zAd] at hx
 | cons y r ih =>
  obtain ⟨b, m, F⟩ := y
  cases ks with
  | nil => intro x hx; simp [zAd] at hx
  | cons k ks =>
   have hk' : ∀ k F, some (k, F) ∈ ks → k < len := fun k F hm => hk k F (List.mem_cons_of_mem _ hm)
   cases k with
   | none =>
    intro x hx
    simp only [zAd, List.mem_cons] at hx
    simp only [zAz, List.mem_cons, forall_eq_or_imp] at h
    rcases hx with rfl | hx
    ·have := h.1; split at this <;> exact this
    ·exact ih hk' h.2 x hx
   | some kk =>
    obtain ⟨k, F1⟩ := kk
    intro x hx
    simp only [zAd, List.mem_cons] at hx
    simp only [zAz, List.mem_cons, forall_eq_or_imp] at h
    rcases hx with rfl | hx
    ·have h1 := h.1
     rw [hL k (hk k F1 (by simp))] at h1
     exact h1
    ·exact ih hk' h.2 x hx

theorem oldTo_fst {bs : List (Nat × Nat × Fq)} {ks : List (Option (Nat × Fq))} (hl : ks.length = bs.length) : (zAd bs ks).map (·.1) = bs.map (·.1) := by
 induction bs generalizing ks with
 | nil => simp [zAd]
 | cons y r ih =>
  obtain ⟨b, m, F⟩ := y
  cases ks with
  | nil => simp at hl
  | cons k ks =>
   have hl' : ks.length = r.length := by simpa using hl
   cases k with
   | none => simp [zAd, ih hl']
   | some kk => obtain ⟨k, F1⟩ := kk; simp [zAd, ih hl']

def okB (len nold : Nat) (ks : List (Option (Nat × Fq))) (new : List Nb) : Bool :=
 ks.length == nold && (zC6 ks len).all (fun k => (zC6 ks len).count k == 1) && ks.all (fun x => match x with | none => true | some (k, _) => decide (k < len)) &&
 (new.map (·.i)).all (fun k => (new.map (·.i)).count k == 1) && (new.map (·.k)).all (fun k => (new.map (·.k)).count k == 1) && new.all (fun n => decide (n.i < len) && decide (n.k < len))

theorem zG8 {l : List Nat} (h : l.all (fun k => l.count k == 1) = true) : l.Nodup := by
 rw [List.nodup_iff_count]
 intro a
 by_cases ha : a ∈ l
 ·have := List.all_eq_true.1 h a ha
  simp at this
  omega
 ·rw [List.count_eq_zero.2 ha]; omega

theorem new_inj {α : Type} {f : α → Nat} {l : List α} (h : (l.map f).Nodup) : ∀ n ∈ l, ∀ m ∈ l, f n = f m → n = m := by
 induction l with
 | nil => intro n hn; simp at hn
 | cons x r ih =>
  simp only [List.map_cons, List.nodup_cons] at h
  intro n hn m hm he
  rcases List.mem_cons.1 hn with h1 | h1
  ·rcases List.mem_cons.1 hm with h2 | h2
   ·rw [h1, h2]
   ·exact absurd (List.mem_map.2 ⟨m, h2, by rw [← he, h1]⟩) h.1
  ·rcases List.mem_cons.1 hm with h2 | h2
   ·exact absurd (List.mem_map.2 ⟨n, h1, by rw [he, h2]⟩) h.1
   ·exact ih h.2 n h1 m h2 he

def plq (C : List Fq) (bs : List (Nat × Nat × Fq)) (ks : List (Option (Nat × Fq))) (new : List Nb) (len : Nat) : Pq := ⟨C, zAz bs ks len, new⟩

section
variable {os : List Oper} {Q : Exit → Act → World → Prop} {a : Act} {p : Pq} {B B0 : Nat} {w0 : World}

def zAr (os : List Oper) (Q : Exit → Act → World → Prop) (a : Act) (p : Pq) (B B0 : Nat) (w0 : World) (i : Nat) (o : Oper) : Prop :=
 os.toArray[i]? = some o → ∀ L vs w, p.G B B0 w0 L vs w → L i = false → (∀ e ∈ o.after, Region.binds .any e = true → L e.on = true) → zCz os.toArray L →
  wpOp Tryz.prog os.toArray Q i (fun a' w' => ∃ v, a' = (lay os.toArray L vs os.toArray.size a).put o.dst v ∧ p.G B B0 w0 (up L i true) (up vs i v) w') (lay os.toArray L vs os.toArray.size a) w

def GS (p : Pq) (B B0 : Nat) (w0 : World) (same : List (Nat × Nat)) (L : Nat → Bool) (vs : Nat → Value) (w : World) : Prop := p.G B B0 w0 L vs w ∧ ∀ x ∈ same, L x.1 = true → L x.2 = true ∧ vs x.1 = vs x.2

def StepS (os : List Oper) (Q : Exit → Act → World → Prop) (a : Act) (p : Pq) (B B0 : Nat) (w0 : World) (same : List (Nat × Nat)) (i : Nat) (o : Oper) : Prop :=
 os.toArray[i]? = some o → ∀ L vs w, GS p B B0 w0 same L vs w → L i = false → (∀ e ∈ o.after, Region.binds .any e = true → L e.on = true) → zCz os.toArray L →
  wpOp Tryz.prog os.toArray Q i (fun a' w' => ∃ v, a' = (lay os.toArray L vs os.toArray.size a).put o.dst v ∧ GS p B B0 w0 same (up L i true) (up vs i v) w') (lay os.toArray L vs os.toArray.size a) w

theorem stepS_of {same : List (Nat × Nat)} {i : Nat} {o : Oper} (h : zAr os Q a p B B0 w0 i o) (hn : same.all (fun x => x.1 != i) = true) : StepS os Q a p B B0 w0 same i o := by
 intro hio L vs w hG hL hd hc
 refine wpOp_mono ?_ (h hio L vs w hG.1 hL hd hc)
 rintro a2 w2 ⟨v, rfl, hG2⟩
 refine ⟨v, rfl, hG2, fun x hx h1 => ?_⟩
 have hx1 : x.1 ≠ i := by
  have := List.all_eq_true.1 hn x hx
  simpa using this
 rw [zAo _ _ hx1] at h1
 obtain ⟨h2, h3⟩ := hG.2 x hx h1
 have hx2 : x.2 ≠ i := fun e => by rw [e, hL] at h2; cases h2
 rw [zAo _ _ hx1, zAo _ _ hx2, zAo _ _ hx2]
 exact ⟨h2, h3⟩

theorem zO8 {same : List (Nat × Nat)} {id : Nat} {dr : Bool} {C : List Fq} {bs : List (Nat × Nat × Fq)} {ks : List (Option (Nat × Fq))} {new : List Nb} {W : World} (E : Fr w0 bs W) (hok : okB os.length bs.length ks new = true) (hm : Tryz.prog.follows .mixedOrders = true) (ha : zBd (os.map (·.dst)) = true) (hb : zDz os 0 = true)
  (hs : (plq C bs ks new os.length).Ok w0.heap.size W.heap.size → ∀ i o, os.toArray[i]? = some o → StepS os Q a (plq C bs ks new os.length) w0.heap.size W.heap.size w0 same i o)
  (hf : ∀ L vs W' (nb : Nat → Nat), (∀ x ∈ same, x.1 < os.length → vs x.1 = vs x.2) → (∀ j, j < os.length → L j = true) → (∀ j, j < os.length → ((C[j]?).getD Fq.any).P (vs j) W') → (∀ n ∈ new, vs n.i = n.ptr (nb n.i)) → Fr w0 (new.map (fun n => (nb n.i, n.m, n.F1)) ++ zAd bs ks) W' →
   Q .normal (lay os.toArray L vs os.length a) W') : (Code.region id os.toArray dr).wp Tryz.prog Q a W := by
 simp only [okB, Bool.and_eq_true, beq_iff_eq] at hok
 obtain ⟨⟨⟨⟨⟨k1, k2⟩, k3⟩, k4⟩, k5⟩, k6⟩ := hok
 have n2 := zG8 k2
 have n4 := zG8 k4
 have n5 := zG8 k5
 have hp : (plq C bs ks new os.length).Ok w0.heap.size W.heap.size := by
  refine ⟨fun o ho => ?_, zK1 E.apart, zK0 n2, new_inj n4, new_inj n5, E.below.size⟩
  have h := E.boxes _ (zFw ho)
  exact ⟨h.1, h.2.lt⟩
 have h0 : ∀ W', Below W.heap.size W W' → W'.heap.size = W.heap.size → GS (plq C bs ks new os.length) w0.heap.size W.heap.size w0 same (fun _ => false) (fun _ => undef) W' := fun W' hW hsz =>
  ⟨⟨E.below.trans (hW.mono E.below.size), by omega, fun _ h => (by cases h), fun o ho => by simpa using (E.boxes _ (zFw ho)).2.mono hW, fun _ _ h => (by cases h), fun _ _ _ _ _ h => (by cases h)⟩, fun _ _ h => (by cases h)⟩
 have hs' := hs hp
 have hend : ∀ L vs w, (∀ j, j < os.toArray.size → L j = true) → GS (plq C bs ks new os.length) w0.heap.size W.heap.size w0 same L vs w → Q .normal (lay os.toArray L vs os.toArray.size a) w := by
  intro L vs w hL hGS
  have hG := hGS.1
  have hL' : ∀ j, j < os.length → L j = true := by simpa using hL
  have hk3 : ∀ k F, some (k, F) ∈ ks → k < os.length := fun k F hm => by
   have := List.all_eq_true.1 k3 _ hm
   simpa using this
  have hk6 : ∀ n ∈ new, n.i < os.length ∧ n.k < os.length := fun n hn => by
   have := List.all_eq_true.1 k6 _ hn
   simpa using this
  have hnb : ∀ n ∈ new, ∃ b, vs n.i = n.ptr b ∧ W.heap.size ≤ b ∧ Bq w b n.m n.F1 := fun n hn => by
   obtain ⟨b, e1, e2, e3⟩ := hG.new n hn (hL' _ (hk6 n hn).1)
   rw [Nb.now_on (hL' _ (hk6 n hn).2)] at e3
   exact ⟨b, e1, e2, e3⟩
  let nb : Nat → Nat := fun i => zEy (vs i)
  have hv : ∀ n ∈ new, vs n.i = n.ptr (nb n.i) ∧ W.heap.size ≤ nb n.i ∧ Bq w (nb n.i) n.m n.F1 := fun n hn => by
   obtain ⟨b, e1, e2, e3⟩ := hnb n hn
   have e4 : nb n.i = b := by show zEy (vs n.i) = b; rw [e1, Nb.block_ptr]
   rw [e4]
   exact ⟨e1, e2, e3⟩
  have hold := oldTo_mem hL' hk3 hG.old
  have hfst := oldTo_fst (bs := bs) (ks := ks) k1
  have hlt : ∀ x ∈ zAd bs ks, w0.heap.size ≤ x.1 ∧ x.1 < W.heap.size := fun x hx => by
   have hm : x.1 ∈ bs.map (·.1) := by rw [← hfst]; exact List.mem_map.2 ⟨x, hx, rfl⟩
   obtain ⟨y, hy, e⟩ := List.mem_map.1 hm
   have := E.boxes y hy
   have h2 := this.2.lt
   rw [← e]
   exact ⟨this.1, h2⟩
  have hE : Fr w0 (new.map (fun n => (nb n.i, n.m, n.F1)) ++ zAd bs ks) w := by
   refine ⟨hG.below, fun x hx => ?_, ?_⟩
   ·rcases List.mem_append.1 hx with hx | hx
    ·obtain ⟨n, hn, rfl⟩ := List.mem_map.1 hx
     have := hv n hn
     exact ⟨Nat.le_trans E.below.size this.2.1, this.2.2⟩
    ·exact ⟨(hlt x hx).1, hold x hx⟩
   ·rw [List.map_append, hfst, List.map_map]
    refine List.nodup_append.2 ⟨?_, E.apart, fun x hx y hy e => ?_⟩
    ·rw [List.nodup_iff_pairwise_ne, List.pairwise_map]
     have hpw : List.Pairwise (fun n m : Nb => n.i ≠ m.i) new := by
      have := List.nodup_iff_pairwise_ne.1 n4
      rwa [List.pairwise_map] at this
     refine hpw.imp_of_mem ?_
     intro n m hn hm hne e
     refine hG.apart n hn m hm hne (hL' _ (hk6 n hn).1) (hL' _ (hk6 m hm).1) ?_
     have e' : nb n.i = nb m.i := e
     rw [(hv n hn).1, (hv m hm).1, Nb.block_ptr, Nb.block_ptr, e']
    ·obtain ⟨n, hn, rfl⟩ := List.mem_map.1 hx
     obtain ⟨z, hz, rfl⟩ := List.mem_map.1 hy
     have h1 := (hv n hn).2.1
     have h2 := (E.boxes z hz).2.lt
     have e' : nb n.i = z.1 := e
     omega
  have := hf L vs w nb (fun x hx h => (hGS.2 x hx (hL' _ h)).2) hL' (fun j hj => hG.val j (hL' j hj)) (fun n hn => (hv n hn).1) hE
  simpa using this
 cases dr with
 | true => exact zJi hm (zEl ha) (zFl hb) (GS (plq C bs ks new os.length) w0.heap.size W.heap.size w0 same) (h0 W.drew (Below.refl _ _).drew rfl) (fun i o ho => hs' i o ho ho) hend
 | false => exact zL4 (zEl ha) (zFl hb) (GS (plq C bs ks new os.length) w0.heap.size W.heap.size w0 same) (h0 W (Below.refl _ _) rfl) (fun i o ho => hs' i o ho ho) hend

theorem region_fr {id : Nat} {dr : Bool} {C : List Fq} {bs : List (Nat × Nat × Fq)} {ks : List (Option (Nat × Fq))} {new : List Nb} {W : World} (E : Fr w0 bs W) (hok : okB os.length bs.length ks new = true) (hm : Tryz.prog.follows .mixedOrders = true) (ha : zBd (os.map (·.dst)) = true) (hb : zDz os 0 = true)
  (hs : (plq C bs ks new os.length).Ok w0.heap.size W.heap.size → AllOps (zAr os Q a (plq C bs ks new os.length) w0.heap.size W.heap.size w0) os 0)
  (hf : ∀ L vs W' (nb : Nat → Nat), (∀ j, j < os.length → L j = true) → (∀ j, j < os.length → ((C[j]?).getD Fq.any).P (vs j) W') → (∀ n ∈ new, vs n.i = n.ptr (nb n.i)) → Fr w0 (new.map (fun n => (nb n.i, n.m, n.F1)) ++ zAd bs ks) W' →
   Q .normal (lay os.toArray L vs os.length a) W') : (Code.region id os.toArray dr).wp Tryz.prog Q a W :=
 zO8 (same := []) E hok hm ha hb (fun hp i o ho => stepS_of (zHq (hs hp) i o ho) rfl) (fun L vs W' nb _ => hf L vs W' nb)

end

end Go.Proofs.YtdhkhedhnolcjaaGreat
namespace Go.Proofs.YtdhkhedhnolcjaaGreat
open Go.RowKit

theorem zJr (n : Int) : bits .and .i64 n 1 = n % 2 := by
 have h1 : (BitVec.ofInt 64 1).toNat = 2 ^ 1 - 1 := by decide
 have key : (BitVec.ofInt 64 n &&& BitVec.ofInt 64 1).toNat = (n % ((2 ^ 64 : Nat) : Int)).toNat % 2 ^ 1 := by
  rw [BitVec.toNat_and, BitVec.toNat_ofInt, h1, Nat.and_two_pow_sub_one_eq_mod]
 show IntKind.i64.wrap ((BitVec.ofInt 64 n &&& BitVec.ofInt 64 1).toNat : Nat) = n % 2
 rw [key, IntKind.wrap_i64]
 omega

theorem zK8 (x : Int) (j : Nat) : (x * x) ^ j = x ^ (2 * j) := by
 rw [Int.pow_mul]; congr 1; rw [Int.pow_succ, Int.pow_succ, Int.pow_zero, Int.one_mul]

theorem pow_odd {z x : Int} {k : Nat} (h : k % 2 = 1) : z * x * (x * x) ^ (k / 2) = z * x ^ k := by
 rw [zK8, Int.mul_assoc, Int.mul_comm x, ← Int.pow_succ]
 congr 2; omega

theorem pow_even {z x : Int} {k : Nat} (h : k % 2 = 0) : z * (x * x) ^ (k / 2) = z * x ^ k := by
 rw [zK8]; congr 2; omega

def PowInv (L : Nat) (X0 : Int) (K : Nat) (w : World) (vx vk vz : Value) (wr : World) : Prop :=
 ∃ ax cx nx xs k az cz nz zs, vx = .slice ax nx cx ∧ vk = .int .i64 ((k : Nat) : Int) ∧ vz = .slice az nz cz ∧ Sl wr ax nx cx xs ∧ Sl wr az nz cz zs ∧ Canon xs ∧ Canon zs ∧ Below w.heap.size w wr ∧
  val zs * val xs ^ k = X0 ^ K ∧ k ≤ K ∧ (1 ≤ k → nx ≤ L) ∧ nz ≤ L ∧ (1 ≤ X0 → 1 ≤ val xs ∧ 1 ≤ val zs) ∧ (X0 = 0 → val xs = 0)

theorem zIt {z x : Int} {k : Nat} (hz : 1 ≤ z) (hx : 1 ≤ x) (hk : 1 ≤ k) : z * x ≤ z * x ^ k := by
 refine Int.mul_le_mul_of_nonneg_left ?_ (by omega)
 obtain ⟨j, rfl⟩ : ∃ j, k = j + 1 := ⟨k - 1, by omega⟩
 rw [Int.pow_succ]
 have := Int.mul_le_mul_of_nonneg_right (show 1 ≤ x ^ j from Int.pow_pos (by omega)) (show 0 ≤ x by omega)
 omega

theorem sq_le_of {z x : Int} {k : Nat} (hz : 1 ≤ z) (hx : 1 ≤ x) (hk : 2 ≤ k) : x * x ≤ z * x ^ k := by
 obtain ⟨j, rfl⟩ : ∃ j, k = j + 1 := ⟨k - 1, by omega⟩
 have h1 := zIt (z := x) (x := x) (k := j) hx hx (by omega)
 have h2 : x * x ^ j = x ^ (j + 1) := by rw [Int.pow_succ, Int.mul_comm]
 have h3 := Int.mul_le_mul_of_nonneg_right hz (show 0 ≤ x ^ (j + 1) from Int.le_of_lt (Int.pow_pos (by omega)))
 omega

theorem step_lt {z x X0 : Int} {k K L : Nat} (hsum : z * x ^ k = X0 ^ K) (hM : X0 ^ K < pw L) (hX0 : 0 ≤ X0) (h1 : 1 ≤ X0 → 1 ≤ x ∧ 1 ≤ z) (h2 : X0 = 0 → x = 0) (hk : 1 ≤ k) : z * x < pw L := by
 have hp := zA6 L
 rcases (by omega : X0 = 0 ∨ 1 ≤ X0) with h | h
 ·rw [h2 h, Int.mul_zero]; exact hp
 ·have := zIt (h1 h).2 (h1 h).1 hk; omega

theorem step_sq {z x X0 : Int} {k K L : Nat} (hsum : z * x ^ k = X0 ^ K) (hM : X0 ^ K < pw L) (hX0 : 0 ≤ X0) (h1 : 1 ≤ X0 → 1 ≤ x ∧ 1 ≤ z) (h2 : X0 = 0 → x = 0) (hk : 2 ≤ k) : x * x < pw L := by
 have hp := zA6 L
 rcases (by omega : X0 = 0 ∨ 1 ≤ X0) with h | h
 ·rw [h2 h, Int.mul_zero]; exact hp
 ·have := sq_le_of (h1 h).2 (h1 h).1 hk; omega

theorem zFy {a b : Int} (ha : 1 ≤ a) (hb : 1 ≤ b) : 1 ≤ a * b := Int.mul_pos (by omega) (by omega)

set_option maxHeartbeats 1000000 in
theorem zOp (w : World) (ax : Option Addr) (n c : Nat) (xs : List Int) (hX : Sl w ax n c xs) (hcx : Canon xs) (K L : Nat) (hK : K ≤ 9000000) (hL : 1 ≤ L) (hL2 : L ≤ 900000) (hM : val xs ^ K < pw L) :
  Calls Tryz.prog 117 #[.slice ax n c, .int .i64 K] w fun e w' => ∃ az nz cz zs, e = .returned (.slice az nz cz) ∧ Sl w' az nz cz zs ∧ Canon zs ∧ val zs = val xs ^ K ∧ Below w.heap.size w w' := by
 have hnn := zAv hX.digs
 go_enter Tryz.func117, Tryz.ntmps117
 go_wp2
 have hone : Row (w.alloc (.cells #[.int .u32 1] 93)) 93 w.heap.size [1] := by
  refine ⟨fun x hx => ?_, ?_⟩
  ·simp at hx; subst hx; exact ⟨by omega, by omega⟩
  ·rw [heap_alloc_new]; rfl
 have hbl : Below w.heap.size w (w.alloc (.cells #[.int .u32 1] 93)) := (Below.refl _ _).alloc (Nat.le_refl _) _
 go_loopw [0, 1, 5] (fun vx vk vz wr => PowInv L (val xs) K w vx vk vz wr) (fun _ vk _ _ => (intOf vk).toNat)
 case atStart =>
  refine ⟨ax, c, n, xs, K, _, _, 1, [1], rfl, rfl, rfl, hX.mono hbl, hone.sl rfl, hcx, ⟨hone.1, .inr (by simp [val, zC8])⟩, hbl, by simp [val], Nat.le_refl _, fun hk => ?_, by omega, fun h => ⟨h, by simp [val]⟩, id⟩
  have := step_lt (z := 1) (x := val xs) (X0 := val xs) (k := K) (K := K) (L := L) (by rw [Int.one_mul]) hM hnn (fun h => ⟨h, by omega⟩) id hk
  rw [Int.one_mul] at this
  have := hcx.length_le this
  rw [hX.len] at this; exact this
 case round =>
  obtain ⟨ax, cx, nx, xs', k, az, cz, nz, zs, rfl, rfl, rfl, hsx, hsz, hcx', hcz, hB, hsum, hk, hnx, hnz, h1, h2⟩ := hrel
  have HSUM := hidd hsum
  clear hsum hone hbl
  by_cases hk0 : 0 < k
  ·have hk0' : (0 : Int) < (k : Int) := by omega
   have hnxL := hnx hk0
   by_cases hodd : k % 2 = 1
   ·have hand : (bits .and .i64 (k : Int) 1 == 1) = true := by rw [zJr]; simp; omega
    go_wp2_with fail
    refine (zFt _ _ _ _ _ _ _ _ _ hsz hsx (by omega) (by omega)).mono ?_
    rintro e w2 ⟨a2, c2, zs2, rfl, hs2, hv2, hB2⟩
    go_wp2_with fail
    refine (zBf _ _ _ _ _ hs2 (by omega)).mono ?_
    rintro e w3 ⟨m2, rfl, hm2, hs3, hv3, hc3, rfl⟩
    have hv4 := hv3.trans hv2
    have hlt2 := step_lt HSUM.out hM hnn h1 h2 hk0
    have hm2L : m2 ≤ L := by
     have := hc3.length_le (k := L) (by rw [hv4]; exact hlt2)
     rw [hs3.len] at this; exact this
    have hsx2 := hsx.mono hB2
    have hB3 := hB.trans (hB2.mono hB.size)
    have HV4 := hidd hv4
    clear hs2 hv2 hv3 hv4 hlt2 hB2 hsz hsx hB
    by_cases hk1 : 1 < k
    ·have hk1' : (1 : Int) < (k : Int) := by omega
     go_wp2_with fail
     refine (zFt _ _ _ _ _ _ _ _ _ hsx2 hsx2 (by omega) (by omega)).mono ?_
     rintro e w4 ⟨a5, c5, zs5, rfl, hs5, hv5, hB5⟩
     go_wp2_with fail
     refine (zBf _ _ _ _ _ hs5 (by omega)).mono ?_
     rintro e w6 ⟨m6, rfl, hm6, hs6, hv6, hc6, rfl⟩
     have hv7 := hv6.trans hv5
     have hm6L : m6 ≤ L := by
      have := hc6.length_le (k := L) (by rw [hv7]; exact step_sq HSUM.out hM hnn h1 h2 hk1)
      rw [hs6.len] at this; exact this
     have HV7 := hidd hv7
     clear hs5 hv5 hv6 hv7
     go_wp2
     go_roundw
     case rel =>
      refine ⟨_, _, _, _, k / 2, _, _, _, _, rfl, by congr 1, rfl, hs6, hs3.mono hB5, hc6, hc3, hB3.trans (hB5.mono hB3.size), ?_, by omega, fun _ => hm6L, hm2L, fun h => ?_, fun h => ?_⟩
      ·rw [HV7.out, HV4.out, pow_odd hodd]; exact HSUM.out
      ·rw [HV7.out, HV4.out]; exact ⟨zFy (h1 h).1 (h1 h).1, zFy (h1 h).2 (h1 h).1⟩
      ·rw [HV7.out, h2 h, Int.mul_zero]
     case measure => simp [intOf]; omega
    ·obtain rfl : k = 1 := by omega
     go_wp2
     go_roundw
     case rel =>
      refine ⟨_, _, _, _, 0, _, _, _, _, rfl, rfl, rfl, hsx2, hs3, hcx', hc3, hB3, ?_, by omega, fun h => by omega, hm2L, fun h => ?_, h2⟩
      ·rw [HV4.out, Int.pow_zero, Int.mul_one, ← HSUM.out, Int.pow_succ, Int.pow_zero, Int.one_mul]
      ·rw [HV4.out]; exact ⟨(h1 h).1, zFy (h1 h).2 (h1 h).1⟩
     case measure => simp [intOf]
   ·have hand : (bits .and .i64 (k : Int) 1 == 1) = false := by rw [zJr]; simp; omega
    have hk1' : (1 : Int) < (k : Int) := by omega
    go_wp2_with fail
    refine (zFt _ _ _ _ _ _ _ _ _ hsx hsx (by omega) (by omega)).mono ?_
    rintro e w4 ⟨a5, c5, zs5, rfl, hs5, hv5, hB5⟩
    go_wp2_with fail
    refine (zBf _ _ _ _ _ hs5 (by omega)).mono ?_
    rintro e w6 ⟨m6, rfl, hm6, hs6, hv6, hc6, rfl⟩
    have hv7 := hv6.trans hv5
    have hm6L : m6 ≤ L := by
     have := hc6.length_le (k := L) (by rw [hv7]; exact step_sq HSUM.out hM hnn h1 h2 (by omega))
     rw [hs6.len] at this; exact this
    have HV7 := hidd hv7
    clear hs5 hv5 hv6 hv7
    go_wp2
    go_roundw
    case rel =>
     refine ⟨_, _, _, _, k / 2, _, _, _, _, rfl, by congr 1, rfl, hs6, hsz.mono hB5, hc6, hcz, hB.trans (hB5.mono hB.size), ?_, by omega, fun _ => hm6L, hnz, fun h => ?_, fun h => ?_⟩
     ·rw [HV7.out, pow_even (by omega)]; exact HSUM.out
     ·rw [HV7.out]; exact ⟨zFy (h1 h).1 (h1 h).1, (h1 h).2⟩
     ·rw [HV7.out, h2 h, Int.mul_zero]
    case measure => simp [intOf]; omega
  ·obtain rfl : k = 0 := by omega
   go_wp2
   go_ret
   refine ⟨_, _, _, zs, rfl, hsz, hcz, ?_, hB⟩
   have := HSUM.out
   rw [Int.pow_zero, Int.mul_one] at this
   exact this

def newt (X S : Int) (K : Nat) : Int := (((K : Int) - 1) * S + X / S ^ (K - 1)) / K

set_option maxHeartbeats 1000000 in
theorem zKy (w : World) (ax az : Option Addr) (n m cx cs : Nat) (xs ss : List Int) (hX : Sl w ax n cx xs) (hS : Sl w az m cs ss) (hcx : Canon xs) (hcs : Canon ss) (hs1 : 1 ≤ val ss) (K L : Nat) (hK1 : 1 ≤ K) (hK : K ≤ 9000000)
  (hL1 : 1 ≤ L) (hL : L ≤ 400000) (hn : n ≤ L) (hm : m ≤ L) (hp : val ss ^ (K - 1) < pw L) :
  Calls Tryz.prog 113 #[.slice ax n cx, .slice az m cs, .int .i64 K] w fun e w' => ∃ at' nt ct ts, e = .returned (.slice at' nt ct) ∧ Sl w' at' nt ct ts ∧ Canon ts ∧ val ts = newt (val xs) (val ss) K ∧ Below w.heap.size w w' := by
 have hKm : ((K : Int) - 1) = ((K - 1 : Nat) : Int) := by omega
 have hpp : 0 < val ss ^ (K - 1) := Int.pow_pos (by omega)
 go_enter Tryz.func113, Tryz.ntmps113
 go_wp2_with fail
 refine (zOp _ _ _ _ _ hS hcs (K - 1) L (by omega) hL1 (by omega) hp).mono ?_
 rintro e w2 ⟨a2, n2, c2, zs2, rfl, hs2, hc2, hv2, hB2⟩
 have hn2 : n2 ≤ L := by
  have := hc2.length_le (k := L) (by rw [hv2]; exact hp)
  rw [hs2.len] at this; exact this
 have hX2 := hX.mono hB2
 have hS2 := hS.mono hB2
 have HV2 := hidd hv2
 clear hv2 hX hS
 go_wp2_with fail
 refine (zHx _ _ _ _ _ _ _ _ _ hX2 hs2 hcx hc2 (by rw [HV2.out]; exact hpp) (by omega) (by omega)).mono ?_
 rintro e w3 ⟨aq, ar, nq, nr, cq, cr, qs, rs, rfl, hsq, _, hcq, _, hvq, _, hB3⟩
 have hnq : nq ≤ n := by
  refine zD5 hcq hsq (hX2.mono hB3) ?_
  rw [hvq]
  exact Int.ediv_le_self _ (zAv hX2.digs)
 have hS3 := hS2.mono hB3
 have HVQ := hidd hvq
 have hB23 := hB2.trans (hB3.mono hB2.size)
 clear hvq hX2 hS2 hB2 hB3 hs2 hc2
 go_wp2_with fail
 refine (zEo _ ((K - 1 : Nat) : Int) (by omega) (by omega)).mono ?_
 rintro e w4 ⟨a4, n4, c4, zs4, rfl, hn4, hs4, hc4, hv4, hB4⟩
 have hS4 := hS3.mono hB4
 have hq4 := hsq.mono hB4
 have hB24 := hB23.trans (hB4.mono hB23.size)
 have HV4 := hidd hv4
 clear hv4 hS3 hsq hB23 hB4
 go_wp2_with fail
 refine (zFt _ _ _ _ _ _ _ _ _ hS4 hs4 (by omega) (by omega)).mono ?_
 rintro e w5 ⟨a5, c5, zs5, rfl, hs5, hv5, hB5⟩
 go_wp2_with fail
 refine (zBf _ _ _ _ _ hs5 (by omega)).mono ?_
 rintro e w6 ⟨m6, rfl, hm6, hs6, hv6, hc6, rfl⟩
 have hq5 := hq4.mono hB5
 have hB25 := hB24.trans (hB5.mono hB24.size)
 have hv56 := hv6.trans hv5
 have HV5 := hidd hv56
 clear hv56 hv5 hv6 hs5 hq4 hS4 hs4 hB24 hB5
 go_wp2_with fail
 refine (zGa _ _ _ _ _ _ _ _ _ hs6 hq5 (by omega) (by omega)).mono ?_
 rintro e w7 ⟨a7, n7, c7, zs7, rfl, hn7, hs7, hv7, hB7⟩
 have hB27 := hB25.trans (hB7.mono hB25.size)
 go_wp2_with fail
 refine (zBf _ _ _ _ _ hs7 (by omega)).mono ?_
 rintro e w8 ⟨m8, rfl, hm8, hs8, hv8, hc8, rfl⟩
 have hv78 := hv8.trans hv7
 have HV7 := hidd hv78
 clear hv78 hv7 hv8 hs7 hB25 hB7 hs6 hq5
 go_wp2_with fail
 refine (zEo _ (K : Int) (by omega) (by omega)).mono ?_
 rintro e w9 ⟨a9, n9, c9, zs9, rfl, hn9, hs9, hc9, hv9, hB9⟩
 have hs89 := hs8.mono hB9
 have hB29 := hB27.trans (hB9.mono hB27.size)
 have HV9 := hidd hv9
 clear hv9 hs8 hB27 hB9
 go_wp2_with fail
 refine (zHx _ _ _ _ _ _ _ _ _ hs89 hs9 hc8 hc9 (by rw [HV9.out]; omega) (by omega) (by omega)).mono ?_
 rintro e w10 ⟨b1, b2, k1, k2, d1, d2, q1, r1, rfl, hsq1, _, hcq1, _, hvq1, _, hB10⟩
 have hz : val q1 = newt (val xs) (val ss) K := by
  rw [hvq1, HV7.out, HV5.out, HV9.out, HV4.out, HVQ.out, HV2.out]
  unfold newt
  rw [hKm, Int.mul_comm]
 have HZ := hidd hz
 clear hz hvq1
 go_wp2
 go_ret
 exact ⟨_, _, _, q1, rfl, hsq1, hcq1, HZ.out, hB29.trans (hB10.mono hB29.size)⟩

end Go.Proofs.YtdhkhedhnolcjaaGreat
set_option linter.unusedSimpArgs false
namespace Go.Proofs.YtdhkhedhnolcjaaGreat
open Go.RowKit

theorem bern (r s : Int) (hr : 0 ≤ r) (hs : 0 ≤ s) : ∀ k : Nat, (((k + 1 : Nat) : Int) * r - (k : Int) * s) * s ^ k ≤ r ^ (k + 1)
 | 0 => by simp [Int.pow_succ]
 | k + 1 => by
  have ih := Int.mul_le_mul_of_nonneg_left (bern r s hr hs k) hr
  have hp : 0 ≤ s ^ k := Int.pow_nonneg hs
  have hsq : 0 ≤ s ^ k * (((k : Int) + 1) * ((r - s) * (r - s))) := Int.mul_nonneg hp (Int.mul_nonneg (by omega) (by
   rcases Int.le_total 0 (r - s) with h | h
   ·exact Int.mul_nonneg h h
   ·have := Int.mul_nonneg (show 0 ≤ -(r - s) by omega) (show 0 ≤ -(r - s) by omega)
    rwa [Int.neg_mul_neg] at this))
  rw [Int.pow_succ r (k + 1), Int.pow_succ s k]
  have e1 : ((k + 1 : Nat) : Int) = (k : Int) + 1 := rfl
  have e2 : ((k + 1 + 1 : Nat) : Int) = (k : Int) + 1 + 1 := rfl
  rw [e1] at ih ⊢
  rw [e2]
  generalize (k : Int) = c at *
  generalize s ^ k = p at *
  generalize r ^ (k + 1) = q at *
  simp only [Int.mul_add, Int.add_mul, Int.mul_sub, Int.sub_mul, Int.mul_one, Int.one_mul, Int.mul_comm, Int.mul_left_comm, Int.mul_assoc] at *
  omega

theorem zG7 {X S r : Int} {K : Nat} (hK : 1 ≤ K) (hS : 1 ≤ S) (hr : 0 ≤ r) (h : r ^ K ≤ X) : r ≤ newt X S K := by
 obtain ⟨k, rfl⟩ : ∃ k, K = k + 1 := ⟨K - 1, by omega⟩
 unfold newt
 rw [Nat.add_sub_cancel]
 have hb := bern r S hr (by omega) k
 have hp : 0 < S ^ k := Int.pow_pos (by omega)
 have h1 : ((k + 1 : Nat) : Int) * r - (k : Int) * S ≤ X / S ^ k := by
  refine (Int.le_ediv_iff_mul_le hp).2 ?_
  omega
 refine (Int.le_ediv_iff_mul_le (by omega)).2 ?_
 rw [Int.mul_comm r]
 have e : ((k + 1 : Nat) : Int) - 1 = k := by omega
 rw [e]
 omega

theorem newt_lt {X S : Int} {K : Nat} (hK : 1 ≤ K) (hS : 1 ≤ S) (h : X < S ^ K) : newt X S K < S := by
 obtain ⟨k, rfl⟩ : ∃ k, K = k + 1 := ⟨K - 1, by omega⟩
 unfold newt
 rw [Nat.add_sub_cancel]
 have hp : 0 < S ^ k := Int.pow_pos (by omega)
 have h1 : X / S ^ k < S := Int.ediv_lt_of_lt_mul hp (by rw [Int.mul_comm, ← Int.pow_succ]; exact h)
 refine Int.ediv_lt_of_lt_mul (by omega) ?_
 rw [Int.mul_comm S]
 have e : ((k + 1 : Nat) : Int) - 1 = k := by omega
 have e2 : ((k + 1 : Nat) : Int) = (k : Int) + 1 := rfl
 rw [e, e2, Int.add_mul]
 omega

def IsRoot (X : Int) (K : Nat) (r : Int) : Prop := 0 ≤ r ∧ r ^ K ≤ X ∧ X < (r + 1) ^ K

theorem zEs {a b : Int} (ha : 0 ≤ a) (h : a ≤ b) : ∀ k : Nat, a ^ k ≤ b ^ k
 | 0 => by simp
 | k + 1 => by
  rw [Int.pow_succ, Int.pow_succ]
  have h1 := Int.mul_le_mul_of_nonneg_right (zEs ha h k) ha
  have h2 := Int.mul_le_mul_of_nonneg_left h (show 0 ≤ b ^ k from Int.pow_nonneg (by omega))
  omega

theorem zK9 {a b : Int} {k : Nat} (hb : 0 ≤ b) (h : a ^ k < b ^ k) : a < b :=
 Int.not_le.1 fun hle => absurd (zEs hb hle k) (by omega)

theorem IsRoot.unique {X r r' : Int} {K : Nat} (h : IsRoot X K r) (h' : IsRoot X K r') : r = r' := by
 have h1 := zK9 (k := K) (show 0 ≤ r' + 1 by have := h'.1; omega) (Int.lt_of_le_of_lt h.2.1 h'.2.2)
 have h2 := zK9 (k := K) (show 0 ≤ r + 1 by have := h.1; omega) (Int.lt_of_le_of_lt h'.2.1 h.2.2)
 omega

theorem zIq {X S : Int} {K : Nat} (hK : 1 ≤ K) (hS : 1 ≤ S) (hup : X < (S + 1) ^ K) (h : S ≤ newt X S K) : IsRoot X K S :=
 ⟨by omega, Int.not_lt.1 fun hn => absurd (newt_lt hK hS hn) (by omega), hup⟩

theorem zIr {X S : Int} {K : Nat} (hK : 1 ≤ K) (hS : 1 ≤ S) : X < (newt X S K + 1) ^ K ∨ newt X S K + 1 < 0 := by
 rcases Int.lt_or_le (newt X S K + 1) 0 with h | h
 ·exact .inr h
 ·refine .inl (Int.not_le.1 fun hn => ?_)
  have := zG7 hK hS h hn
  omega

theorem half_up {X X' F p : Int} {K : Nat} (hp : 0 < p) (hX' : X' = X / p ^ K) (hF : IsRoot X' K F) : X < ((F + 1) * p) ^ K := by
 have hpk : 0 < p ^ K := Int.pow_pos hp
 rw [Int.mul_pow]
 have h1 := hF.2.2
 have h2 := Int.mul_ediv_add_emod X (p ^ K)
 have h3 := Int.emod_lt_of_pos X hpk
 have h4 := Int.mul_le_mul_of_nonneg_right (show X' + 1 ≤ (F + 1) ^ K by omega) (Int.le_of_lt hpk)
 rw [Int.add_mul, Int.one_mul, hX', Int.mul_comm] at h4
 omega

theorem half_bd {X X' F p : Int} {K : Nat} (hp : 0 < p) (hX : 0 ≤ X) (hX' : X' = X / p ^ K) (hF : IsRoot X' K F) : ((F + 1) * p) ^ K ≤ 2 ^ K * X + p ^ K := by
 have hpk : 0 < p ^ K := Int.pow_pos hp
 have h2k : (0 : Int) < 2 ^ K := zBe K
 rw [Int.mul_pow]
 rcases (by have := hF.1; omega : F = 0 ∨ 1 ≤ F) with h | h
 ·subst h
  simp only [Int.zero_add, Int.one_pow, Int.one_mul]
  have := Int.mul_nonneg (Int.le_of_lt h2k) hX
  omega
 ·have h1 := zEs (show 0 ≤ F + 1 by omega) (show F + 1 ≤ 2 * F by omega) K
  rw [Int.mul_pow] at h1
  have h3 := Int.mul_le_mul_of_nonneg_left hF.2.1 (Int.le_of_lt h2k)
  have h4 := Int.mul_le_mul_of_nonneg_right (Int.le_trans h1 h3) (Int.le_of_lt hpk)
  have h5 := Int.mul_ediv_add_emod X (p ^ K)
  have h6 := Int.emod_nonneg X (Int.ne_of_gt hpk)
  have h7 : 2 ^ K * X' * p ^ K ≤ 2 ^ K * X := by
   rw [Int.mul_assoc]
   refine Int.mul_le_mul_of_nonneg_left ?_ (Int.le_of_lt h2k)
   rw [hX', Int.mul_comm]; omega
  omega

end Go.Proofs.YtdhkhedhnolcjaaGreat
namespace Go.Proofs.YtdhkhedhnolcjaaGreat
open Go.RowKit

theorem Sl.unique {w : World} {ao : Option Addr} {n c : Nat} {xs ys : List Int} (h : Sl w ao n c xs) (h' : Sl w ao n c ys) : xs = ys := by
 apply List.ext_getElem (h.len.trans h'.len.symm)
 intro j hj hj'
 obtain ⟨b, off, hao, _, x, hc, _, _, hx⟩ := h.cells.at hj
 obtain ⟨b', off', hao', _, y, hc', _, _, hy⟩ := h'.cells.at hj'
 rw [hao] at hao'
 cases hao'
 rw [hc] at hc'
 cases hc'
 have e1 := hx.out
 have e2 := hy.out
 have f1 : xs.getD j 0 = xs[j] := by simp [hj]
 have f2 : ys.getD j 0 = ys[j] := by simp [hj']
 omega

open Classical in
noncomputable def slVal (w : World) (v : Value) : Nat :=
 if h : ∃ x : Nat, ∃ ao n c xs, v = .slice ao n c ∧ Sl w ao n c xs ∧ x = (val xs).toNat then Classical.choose h else 0

theorem zHi {w : World} {ao : Option Addr} {n c : Nat} {xs : List Int} (h : Sl w ao n c xs) : slVal w (.slice ao n c) = (val xs).toNat := by
 have he : ∃ x : Nat, ∃ ao' n' c' xs', Value.slice ao n c = .slice ao' n' c' ∧ Sl w ao' n' c' xs' ∧ x = (val xs').toNat := ⟨_, ao, n, c, xs, rfl, h, rfl⟩
 unfold slVal
 rw [dif_pos he]
 obtain ⟨ao', n', c', xs', e, h', hx⟩ := Classical.choose_spec he
 cases e
 rw [hx, h.unique h']

theorem zLa {x : Int} {K : Nat} (hx : 1 ≤ x) (hK : 1 ≤ K) : x ^ (K - 1) ≤ x ^ K := by
 obtain ⟨k, rfl⟩ : ∃ k, K = k + 1 := ⟨K - 1, by omega⟩
 rw [Nat.add_sub_cancel, Int.pow_succ]
 have := Int.mul_le_mul_of_nonneg_left hx (show 0 ≤ x ^ k from Int.pow_nonneg (by omega))
 omega

theorem zHb {x : Int} {K : Nat} (hx : 1 ≤ x) (hK : 1 ≤ K) : x ≤ x ^ K := by
 have := zIt (z := 1) (by omega) hx hK
 omega

theorem newt_le {X S : Int} {K : Nat} (hK : 1 ≤ K) (hS : 1 ≤ S) (hX : 0 ≤ X) : newt X S K ≤ S + X := by
 unfold newt
 have hp : 0 < S ^ (K - 1) := Int.pow_pos (by omega)
 have h1 : X / S ^ (K - 1) ≤ X := Int.ediv_le_self _ hX
 refine Int.le_of_lt_add_one (Int.ediv_lt_of_lt_mul (by omega) ?_)
 have h2 := Int.mul_le_mul_of_nonneg_left (show (1 : Int) ≤ K by omega) (show 0 ≤ S + X + 1 by omega)
 have h3 : ((K : Int) - 1) * S = K * S - S := by rw [Int.sub_mul, Int.one_mul]
 have h4 : (S + X + 1) * (K : Int) = K * S + (X + 1) * K := by rw [Int.add_assoc, Int.add_mul, Int.mul_comm S]
 have h5 := Int.mul_le_mul_of_nonneg_left (show (1 : Int) ≤ K by omega) (show 0 ≤ X + 1 by omega)
 omega

theorem zDm {a b : Nat} (h : a ≤ b) : (2 : Int) ^ a ≤ 2 ^ b := by
 have e := Nat.pow_le_pow_right (n := 2) (by decide) h
 have e1 : ((2 ^ a : Nat) : Int) = 2 ^ a := by simp
 have e2 : ((2 ^ b : Nat) : Int) = 2 ^ b := by simp
 rw [← e1, ← e2]; omega

theorem zPg (w : World) (ax : Option Addr) (n c : Nat) (xs : List Int) (hX : Sl w ax n c xs) (hb : n ≤ 1000000) (s : Nat) (hs : s ≤ 32 * n) :
  Calls Tryz.prog 112 #[.slice ax n c, .int .i64 s] w fun e w' => ∃ a m co zs, e = .returned (.slice a m co) ∧ m ≤ n ∧ Sl w' a m co zs ∧ val zs = val xs / 2 ^ s ∧ Below w.heap.size w w' :=
 (zLr w ax n c xs hX hb s hs).mono fun _ _ ⟨zs, he, hl, hr, hv, hb⟩ => ⟨_, _, _, zs, he, Nat.sub_le _ _, hr.sl hl, hv, hb⟩

theorem zPh (w : World) (ax : Option Addr) (n c : Nat) (xs : List Int) (hX : Sl w ax n c xs) (hb : n ≤ 1000000) (s : Nat) (hs : s ≤ 1000000) :
  Calls Tryz.prog 108 #[.slice ax n c, .int .i64 s] w fun e w' => ∃ a m co zs, e = .returned (.slice a m co) ∧ m ≤ n + s / 32 + 1 ∧ Sl w' a m co zs ∧ val zs = val xs * 2 ^ s ∧ Below w.heap.size w w' :=
 (zLs w ax n c xs hX hb s hs).mono fun _ _ ⟨zs, he, hl, hr, hv, hb⟩ => ⟨_, _, _, zs, he, Nat.le_refl _, hr.sl hl, hv, hb⟩

def zJk (w : World) (X : Int) (K : Nat) (e : Ending) (w' : World) : Prop :=
 ∃ a n c rs, e = .returned (.slice a n c) ∧ Sl w' a n c rs ∧ Canon rs ∧ IsRoot X K (val rs) ∧ Below w.heap.size w w'

set_option maxHeartbeats 400000 in
theorem zPa (N : Nat) : ∀ (w : World) (ax : Option Addr) (n c : Nat) (xs : List Int) (_ : Sl w ax n c xs) (_ : Canon xs) (_ : val xs < N) (_ : n ≤ 60000) (K : Nat) (_ : 1 ≤ K) (_ : (K : Int) ≤ 9223372036854775807),
  Calls Tryz.prog 102 #[.slice ax n c, .int .i64 K] w (zJk w (val xs) K) := by
 induction N with
 | zero =>
  intro w ax n c xs hX _ hN
  have := zAv hX.digs
  omega
 | succ N ih =>
  intro w ax n c xs hX hcx hN hn K hK hKb
  have hnn := zAv hX.digs
  have hKb2 : (0 : Int) ≤ K := by omega
  have hIH := hidd ih
  clear ih
  by_cases hX0 : val xs = 0
  ·go_enter Tryz.func102, Tryz.ntmps102
   go_wp2_with fail
   refine (zGf _ _ _ _ _ hX hcx (by omega)).mono ?_
   rintro e w' ⟨b, rfl, hb, hbn, rfl⟩
   have hb0 : b = 0 := by
    rcases hb with h | h
    ·exact h.2
    ·have := zBe (b - 1); omega
   subst hb0
   clear hb
   have HX0 := hidd hX0
   clear hX0
   go_wp2_with (go_at_call 90; (with_reducible refine (zFn _ _ _ _ _ hX (by omega)).mono ?_); rintro e w3 ⟨az, cz, rfl, hsz, hB2⟩)
   go_ret
   refine ⟨_, _, _, xs, rfl, hsz, hcx, ?_, hB2⟩
   rw [HX0.out]
   refine ⟨Int.le_refl _, ?_, ?_⟩
   ·rw [Int.zero_pow (by omega)]; exact Int.le_refl _
   ·rw [Int.zero_add, Int.one_pow]; decide
  have hXpos : 1 ≤ val xs := by omega
  by_cases hK1 : K = 1
  ·subst hK1
   go_enter Tryz.func102, Tryz.ntmps102
   go_wp2_with fail
   refine (zGf _ _ _ _ _ hX hcx (by omega)).mono ?_
   rintro e w' ⟨b, rfl, hb, hbn, rfl⟩
   have hb0 : 0 < b := by
    rcases hb with h | h
    ·omega
    ·exact h.1
   have hbb : ((b : Int) == 0) = false := by simp; omega
   clear hb hX0
   go_wp2_with (go_at_call 90; (with_reducible refine (zFn _ _ _ _ _ hX (by omega)).mono ?_); rintro e w3 ⟨az, cz, rfl, hsz, hB2⟩)
   go_ret
   refine ⟨_, _, _, xs, rfl, hsz, hcx, ⟨hnn, ?_, ?_⟩, hB2⟩
   ·simp [Int.pow_succ]
   ·simp [Int.pow_succ]; omega
  go_enter Tryz.func102, Tryz.ntmps102
  go_wp2_with fail
  refine (zGf _ _ _ _ _ hX hcx (by omega)).mono ?_
  rintro e w' ⟨b, rfl, hb, hbn, rfl⟩
  have hb3 : 0 < b ∧ 2 ^ (b - 1) ≤ val xs ∧ val xs < 2 ^ b := by
   rcases hb with h | h
   ·omega
   ·exact h
  obtain ⟨hb0, hblo, hbhi⟩ := hb3
  have hbb : ((b : Int) == 0) = false := by simp; omega
  have hKb1 : ((K : Int) == 1) = false := by simp; omega
  have HLO := hidd hblo
  have HHI := hidd hbhi
  clear hb hX0 hK1 hblo hbhi
  by_cases hbK : b ≤ K
  ·have hbKi : (b : Int) ≤ K := by omega
   have hone : Row (w.alloc (.cells #[.int .u32 1] 93)) 93 w.heap.size [1] := by
    refine ⟨fun x hx => ?_, ?_⟩
    ·simp at hx; subst hx; exact ⟨by omega, by omega⟩
    ·rw [heap_alloc_new]; rfl
   have hbl : Below w.heap.size w (w.alloc (.cells #[.int .u32 1] 93)) := (Below.refl _ _).alloc (Nat.le_refl _) _
   go_wp2
   go_ret
   refine ⟨_, _, _, [1], rfl, hone.sl rfl, ⟨hone.1, .inr (by simp [val, zC8])⟩, ?_, hbl⟩
   refine ⟨by simp [val], ?_, ?_⟩
   ·simp only [val, Int.mul_zero, Int.add_zero, Int.one_pow]; exact hXpos
   ·have := zDm hbK
    have h2 := HHI.out
    simp only [val, Int.mul_zero, Int.add_zero]
    show _ < (2 : Int) ^ K
    omega
  have hKbi : (K : Int) < b := by omega
  obtain ⟨hf, hhf⟩ : ∃ hf : Nat, (b : Int) / (2 * (K : Int)) = (hf : Int) := ⟨b / (2 * K), by simp⟩
  have hfv : hf = b / (2 * K) := by
   have : ((b / (2 * K) : Nat) : Int) = (b : Int) / (2 * (K : Int)) := by simp
   omega
  have hfK : 2 * (hf * K) ≤ b := by
   have := Nat.div_mul_le_self b (2 * K)
   rw [← hfv] at this
   have e : hf * (2 * K) = 2 * (hf * K) := by rw [Nat.mul_left_comm]
   omega
  have hfb : (hf : Int) ≤ b := by
   have := Nat.le_mul_of_pos_right hf (show 0 < K by omega)
   omega
  have hfle : hf ≤ hf * K := Nat.le_mul_of_pos_right hf (by omega)
  have hfm : (hf : Int) * K = ((hf * K : Nat) : Int) := by simp
  have hfm0 : 0 ≤ (hf : Int) * K := by omega
  have hfm1 : (hf : Int) * K ≤ 960000 := by omega
  have HFV := hidd hfv
  have HFM := hidd hfm
  have hb64 : (2 : Int) ^ (2 * b) ≤ pw (2 * n) := by rw [zCk]; exact zDm (by omega)
  have hpws := zCv (2 * n)
  have hpwp := zA6 (2 * n)
  clear hfv hfm
  by_cases hf0 : hf = 0
  ·have hfour : Row (w.alloc (.cells #[.int .u32 4] 93)) 93 w.heap.size [4] := by
    refine ⟨fun x hx => ?_, ?_⟩
    ·simp at hx; subst hx; exact ⟨by omega, by omega⟩
    ·rw [heap_alloc_new]; rfl
   have hbl : Below w.heap.size w (w.alloc (.cells #[.int .u32 4] 93)) := (Below.refl _ _).alloc (Nat.le_refl _) _
   have hb2K : b ≤ 2 * K := by
    have h1 := HFV.out
    rw [hf0] at h1
    have := Nat.lt_mul_of_div_lt (show b / (2 * K) < 1 by omega) (show 0 < 2 * K by omega)
    omega
   obtain ⟨S0, hS0⟩ : ∃ S0 : Int, S0 = 4 := ⟨_, rfl⟩
   have hp4 : (4 : Int) ^ K = 2 ^ (2 * K) := by rw [Int.pow_mul]; rfl
   have hup4 : val xs < 4 ^ K := by
    have h1 := HHI.out
    have h2 := zDm hb2K
    omega
   have hup5 : val xs < (val [4] + 1) ^ K := by
    have := zEs (show (0 : Int) ≤ 4 by decide) (show (4 : Int) ≤ val [4] + 1 by simp [val]) K
    omega
   have hS0b : S0 ^ K < pw (2 * n + 1) := by
    rw [hS0, hp4]
    have h1 := zDm (show 2 * K ≤ 2 * b by omega)
    omega
   have HS0 := hidd hS0
   have HUP5 := hidd hup5
   have HP4 := hidd hp4
   subst hf0
   clear hS0 hp4 hup4 hup5
   go_wp2
   have hSL := hidd hS0b
   go_loopw [6] (fun vs wr => ∃ aS ns cs ss, vs = .slice aS ns cs ∧ Sl wr aS ns cs ss ∧ Canon ss ∧ Below w.heap.size w wr ∧ 1 ≤ val ss ∧ val ss ≤ S0 ∧ val xs < (val ss + 1) ^ K) (fun vs wr => slVal wr vs)
   case atStart => exact ⟨_, _, _, [4], rfl, hfour.sl rfl, ⟨hfour.1, .inr (by simp [val, zC8])⟩, hbl, by simp [val], by rw [HS0.out]; simp [val], HUP5.out⟩
   case round =>
    obtain ⟨aS, ns, cs, ss, rfl, hss, hcs, hB, hs1, hs2, hup⟩ := hrel
    have hXr := hX.mono hB
    have hpw : val ss ^ K ≤ S0 ^ K := zEs (by omega) hs2 K
    have hK1 := zLa hs1 (show 1 ≤ K by omega)
    have hss1 := zHb hs1 (show 1 ≤ K by omega)
    have hb1 := hSL.out
    have hns : ns ≤ 2 * n + 1 := by
     have := hcs.length_le (k := 2 * n + 1) (by omega)
     rw [hss.len] at this; exact this
    have HUP := hidd hup
    clear hup
    go_wp2_with fail
    refine (zKy _ _ _ _ _ _ _ _ _ hXr hss hcx hcs hs1 K (2 * n + 1) (by omega) (by omega) (by omega) (by omega) (by omega) hns (by omega)).mono ?_
    rintro e w2 ⟨at2, nt, ct, ts, rfl, hst, hct, hvt, hB2⟩
    have hss2 := hss.mono hB2
    have hB3 := hB.trans (hB2.mono hB.size)
    have hnt : nt ≤ 2 * n + 1 ∨ val ss ≤ val ts := by
     rcases Int.lt_or_le (val ts) (val ss) with h | h
     ·refine .inl (Nat.le_trans (zD5 hct hst hss2 (by omega)) hns)
     ·exact .inr h
    have hge1 : 1 ≤ newt (val xs) (val ss) K := zG7 (by omega) hs1 (by omega) (by rw [Int.one_pow]; exact hXpos)
    have hntb : nt ≤ 4000000 := by
     have h1 : newt (val xs) (val ss) K ≤ val ss + val xs := newt_le (by omega) hs1 (by omega)
     have h2 := hct.length_le (k := 2 * n + 1 + 1) (by rw [hvt]; have := zBa hX.digs; rw [hX.len] at this; have h3 := zAb (show n ≤ 2 * n + 1 by omega); have h4 := zCv (2 * n + 1); have := zA6 (2 * n + 1); omega)
     rw [hst.len] at h2; omega
    have HVT := hidd hvt
    clear hvt
    by_cases hlt : val ts < val ss
    ·have hcm : cmpI (val ts) (val ss) = -1 := if_pos hlt
     go_wp2_with (go_at_call 88; (with_reducible refine (zDc _ _ _ _ _ _ _ _ _ hst hss2 hct hcs (by omega) (by omega)).mono ?_); rintro e w3 ⟨rfl, hd⟩)
     go_roundw
     case rel =>
      refine ⟨_, _, _, ts, rfl, hst.drawn' hd, hct, hB3.trans (hd.below _), by rw [HVT.out]; exact hge1, by omega, ?_⟩
      rw [HVT.out]
      rcases zIr (X := val xs) (S := val ss) (K := K) (by omega) hs1 with h | h
      ·exact h
      ·omega
     case measure =>
      rw [zHi (hst.drawn' hd), zHi hss]
      omega
    ·have hcm : 0 ≤ cmpI (val ts) (val ss) := by
      have := (not_congr (zGj (x := val ts) (y := val ss))).2 hlt; omega
     go_wp2_with (go_at_call 88; (with_reducible refine (zDc _ _ _ _ _ _ _ _ _ hst hss2 hct hcs (by omega) (by omega)).mono ?_); rintro e w3 ⟨rfl, hd⟩)
     go_ret
     exact ⟨_, _, _, ss, rfl, hss2.drawn' hd, hcs, zIq (by omega) hs1 HUP.out (by rw [← HVT.out]; omega), hB3.trans (hd.below _)⟩

  ·have hfi : (0 : Int) < (hf : Int) := by omega
   have hbl : Below w.heap.size w (w.alloc (.cells #[.int .u32 4] 93)) := (Below.refl _ _).alloc (Nat.le_refl _) _
   have hX1 := hX.mono hbl
   go_wp2_with fail
   rw [HFM.out]
   refine (zPg _ _ _ _ _ hX1 (by omega) (hf * K) (by omega)).mono ?_
   rintro e w2 ⟨a2, n2, c2, zs2, rfl, hn2, hs2, hv2, hB2⟩
   go_wp2_with fail
   refine (zBf _ _ _ _ _ hs2 (by omega)).mono ?_
   rintro e w3 ⟨m3, rfl, hm3, hs3, hv3, hc3, rfl⟩
   have hB2' := hbl.trans (hB2.mono hbl.size)
   have hv23 := hv3.trans hv2
   have hKp : 1 ≤ hf * K := Nat.mul_pos (by omega) (by omega)
   have hsmall : val (zs2.take m3) < N := by
    rw [hv23]
    have h1 := Int.mul_ediv_add_emod (val xs) (2 ^ (hf * K))
    have h2 := Int.emod_nonneg (val xs) (Int.ne_of_gt (zBe (hf * K)))
    have h3 := zDm hKp
    have h4 := Int.ediv_nonneg hnn (Int.le_of_lt (zBe (hf * K)))
    have h5 := Int.mul_le_mul_of_nonneg_right (show 2 ≤ (2 : Int) ^ (hf * K) by simpa using h3) h4
    omega
   have HV23 := hidd hv23
   clear hs2 hv2 hv3 hv23 hB2 hX1
   go_wp2_with fail
   refine (hIH.out _ _ _ _ _ hs3 hc3 hsmall (by omega) K hK hKb).mono ?_
   rintro e w4 ⟨a4, n4, c4, rs4, rfl, hs4, hc4, hroot, hB4⟩
   have hX'0 := zAv hs3.digs
   rw [HV23.out] at hroot
   have hn4 : n4 ≤ n := by
    have h1 : val rs4 ≤ val xs := by
     rcases (by have := hroot.1; omega : val rs4 = 0 ∨ 1 ≤ val rs4) with h | h
     ·omega
     ·have h2 := zHb h hK
      have h3 := hroot.2.1
      have h4 : val xs / 2 ^ (hf * K) ≤ val xs := Int.ediv_le_self _ hnn
      omega
    have h2 := hc4.length_le (k := n) (by have := zBa hX.digs; rw [hX.len] at this; omega)
    rw [hs4.len] at h2; exact h2
   have hB24 := hB2'.trans (hB4.mono hB2'.size)
   have HROOT := hidd hroot
   clear hroot hB2' hB4 hs3 hc3 hsmall
   go_wp2_with fail
   refine (zBf _ _ _ _ _ hs4 (by omega)).mono ?_
   rintro e w5 ⟨m5, rfl, hm5, hs5, hv5, hc5, rfl⟩
   have HV5 := hidd hv5
   clear hv5
   have hone : Row (w4.alloc (.cells #[.int .u32 1] 93)) 93 w4.heap.size [1] := by
    refine ⟨fun x hx => ?_, ?_⟩
    ·simp at hx; subst hx; exact ⟨by omega, by omega⟩
    ·rw [heap_alloc_new]; rfl
   have hbl5 : Below w4.heap.size w4 (w4.alloc (.cells #[.int .u32 1] 93)) := (Below.refl _ _).alloc (Nat.le_refl _) _
   have hs51 := hs5.mono hbl5
   have h1s := hone.sl (n := 1) rfl
   go_wp2_with fail
   refine (zGa _ _ _ _ _ _ _ _ _ hs51 h1s (by omega) (by omega)).mono ?_
   rintro e w6 ⟨a6, n6, c6, zs6, rfl, hn6, hs6, hv6, hB6⟩
   have hB26 := (hB24.trans (hbl5.mono hB24.size)).trans (hB6.mono (Nat.le_trans hB24.size hbl5.size))
   go_wp2_with fail
   refine (zBf _ _ _ _ _ hs6 (by omega)).mono ?_
   rintro e w7 ⟨m7, rfl, hm7, hs7, hv7, hc7, rfl⟩
   have hv67 : val (zs6.take m7) = val rs4 + 1 := by rw [hv7, hv6, HV5.out]; simp [val]
   have HV67 := hidd hv67
   clear hv67 hv7 hv6 hs6 hs51 h1s hone hbl5 hs5 hs4 hB24
   go_wp2_with fail
   refine (zPh _ _ _ _ _ hs7 (by omega) hf (by omega)).mono ?_
   rintro e w8 ⟨a8, n8, c8, zs8, rfl, hn8, hs8, hv8, hB8⟩
   go_wp2_with fail
   refine (zBf _ _ _ _ _ hs8 (by omega)).mono ?_
   rintro e w9 ⟨m9, rfl, hm9, hs9, hv9, hc9, rfl⟩
   have hB28 := hB26.trans (hB8.mono hB26.size)
   have hv89 : val (zs8.take m9) = (val rs4 + 1) * 2 ^ hf := by rw [hv9, hv8, HV67.out]
   obtain ⟨S0, hS0⟩ : ∃ S0 : Int, S0 = (val rs4 + 1) * 2 ^ hf := ⟨_, rfl⟩
   have hS89 : val (zs8.take m9) = S0 := hv89.trans hS0.symm
   have hX' : val xs / 2 ^ (hf * K) = val xs / (2 ^ hf) ^ K := by rw [← Int.pow_mul]
   have hup := half_up (K := K) (zBe hf) hX' HROOT.out
   have hbd := half_bd (K := K) (zBe hf) hnn hX' HROOT.out
   rw [← hS0] at hup hbd
   have hS1 : 1 ≤ S0 := by
    rw [hS0]
    have := HROOT.out.1
    exact zFy (by omega) (zBe hf)
   have hup9 : val xs < (val (zs8.take m9) + 1) ^ K := by
    rw [hS89]
    have := zEs (show 0 ≤ S0 by omega) (show S0 ≤ S0 + 1 by omega) K
    omega
   have hS0b : S0 ^ K < pw (2 * n + 1) := by
    have h1 : (2 : Int) ^ K * val xs ≤ 2 ^ K * 2 ^ b := Int.mul_le_mul_of_nonneg_left (by have := HHI.out; omega) (Int.le_of_lt (zBe K))
    rw [← Int.pow_add] at h1
    have h2 := zDm (show K + b ≤ 2 * b by omega)
    have h3 := zDm (show hf * K ≤ 2 * b by omega)
    rw [Int.pow_mul] at h3
    omega
   have HS89 := hidd hS89
   have HUP9 := hidd hup9
   clear hv89 hS0 hS89 hX' hup hbd hup9 hv8 hv9 hs8 hB8 hB26 hs7 hc7
   go_wp2
   have hSL := hidd hS0b
   go_loopw [6] (fun vs wr => ∃ aS ns cs ss, vs = .slice aS ns cs ∧ Sl wr aS ns cs ss ∧ Canon ss ∧ Below w.heap.size w wr ∧ 1 ≤ val ss ∧ val ss ≤ S0 ∧ val xs < (val ss + 1) ^ K) (fun vs wr => slVal wr vs)
   case atStart => exact ⟨_, _, _, _, rfl, hs9, hc9, hB28, by rw [HS89.out]; exact hS1, by rw [HS89.out]; exact Int.le_refl _, HUP9.out⟩
   case round =>
    obtain ⟨aS, ns, cs, ss, rfl, hss, hcs, hB, hs1, hs2, hup⟩ := hrel
    have hXr := hX.mono hB
    have hpw : val ss ^ K ≤ S0 ^ K := zEs (by omega) hs2 K
    have hK1 := zLa hs1 (show 1 ≤ K by omega)
    have hss1 := zHb hs1 (show 1 ≤ K by omega)
    have hb1 := hSL.out
    have hns : ns ≤ 2 * n + 1 := by
     have := hcs.length_le (k := 2 * n + 1) (by omega)
     rw [hss.len] at this; exact this
    have HUP := hidd hup
    clear hup
    go_wp2_with fail
    refine (zKy _ _ _ _ _ _ _ _ _ hXr hss hcx hcs hs1 K (2 * n + 1) (by omega) (by omega) (by omega) (by omega) (by omega) hns (by omega)).mono ?_
    rintro e w2 ⟨at2, nt, ct, ts, rfl, hst, hct, hvt, hB2⟩
    have hss2 := hss.mono hB2
    have hB3 := hB.trans (hB2.mono hB.size)
    have hnt : nt ≤ 2 * n + 1 ∨ val ss ≤ val ts := by
     rcases Int.lt_or_le (val ts) (val ss) with h | h
     ·refine .inl (Nat.le_trans (zD5 hct hst hss2 (by omega)) hns)
     ·exact .inr h
    have hge1 : 1 ≤ newt (val xs) (val ss) K := zG7 (by omega) hs1 (by omega) (by rw [Int.one_pow]; exact hXpos)
    have hntb : nt ≤ 4000000 := by
     have h1 : newt (val xs) (val ss) K ≤ val ss + val xs := newt_le (by omega) hs1 (by omega)
     have h2 := hct.length_le (k := 2 * n + 1 + 1) (by rw [hvt]; have := zBa hX.digs; rw [hX.len] at this; have h3 := zAb (show n ≤ 2 * n + 1 by omega); have h4 := zCv (2 * n + 1); have := zA6 (2 * n + 1); omega)
     rw [hst.len] at h2; omega
    have HVT := hidd hvt
    clear hvt
    by_cases hlt : val ts < val ss
    ·have hcm : cmpI (val ts) (val ss) = -1 := if_pos hlt
     go_wp2_with (go_at_call 88; (with_reducible refine (zDc _ _ _ _ _ _ _ _ _ hst hss2 hct hcs (by omega) (by omega)).mono ?_); rintro e w3 ⟨rfl, hd⟩)
     go_roundw
     case rel =>
      refine ⟨_, _, _, ts, rfl, hst.drawn' hd, hct, hB3.trans (hd.below _), by rw [HVT.out]; exact hge1, by omega, ?_⟩
      rw [HVT.out]
      rcases zIr (X := val xs) (S := val ss) (K := K) (by omega) hs1 with h | h
      ·exact h
      ·omega
     case measure =>
      rw [zHi (hst.drawn' hd), zHi hss]
      omega
    ·have hcm : 0 ≤ cmpI (val ts) (val ss) := by
      have := (not_congr (zGj (x := val ts) (y := val ss))).2 hlt; omega
     go_wp2_with (go_at_call 88; (with_reducible refine (zDc _ _ _ _ _ _ _ _ _ hst hss2 hct hcs (by omega) (by omega)).mono ?_); rintro e w3 ⟨rfl, hd⟩)
     go_ret
     exact ⟨_, _, _, ss, rfl, hss2.drawn' hd, hcs, zIq (by omega) hs1 HUP.out (by rw [← HVT.out]; omega), hB3.trans (hd.below _)⟩



theorem zO9 (w : World) (ax : Option Addr) (n c : Nat) (xs : List Int) (hX : Sl w ax n c xs) (hcx : Canon xs) (hn : n ≤ 60000) (K : Nat) (hK : 1 ≤ K) (hKb : (K : Int) ≤ 9223372036854775807) :
  Calls Tryz.prog 102 #[.slice ax n c, .int .i64 K] w (zJk w (val xs) K) :=
 zPa ((val xs).toNat + 1) w ax n c xs hX hcx (by have := zAv hX.digs; omega) hn K hK hKb

def zeroV : Value := .agg #[.bool false, .slice none 0 0]

theorem zJv {z : Int} : cmpI z 0 < 0 ↔ z < 0 := zGj

theorem zPf {b : Bool} {v : Int} (hv : 0 ≤ v) (h : 0 ≤ sgn b v) : sgn b v = v := by
 cases b
 ·rfl
 ·simp [sgn] at h ⊢; omega

theorem gcd_zero {x : Int} (hx : 0 ≤ x) : (Int.gcd x 0 : Int) = x := by
 rw [Int.gcd_zero_right]; omega

end Go.Proofs.YtdhkhedhnolcjaaGreat
namespace Go.Proofs.YtdhkhedhnolcjaaGreat

def ab (z : Int) : Int := (z.natAbs : Int)

theorem zJm (z : Int) : 0 ≤ ab z := by unfold ab; omega
theorem ab_mul (x y : Int) : ab (x * y) = ab x * ab y := by unfold ab; rw [Int.natAbs_mul]; rfl
theorem zDy {z : Int} (h : 0 ≤ z) : ab z = z := by unfold ab; omega

end Go.Proofs.YtdhkhedhnolcjaaGreat
namespace Go.Proofs.YtdhkhedhnolcjaaGreat
open Go Go.RowKit

def zFf (ops : Array Oper) (vs : Nat → Value) : Nat → Act → Act
 | 0, a => a
 | k + 1, a => (zFf ops vs k a).put (zBu ops k) (vs k)

theorem zAe {ops : Array Oper} {L : Nat → Bool} {vs : Nat → Value} : ∀ {k : Nat} {a : Act}, (∀ j, j < k → L j = true) → lay ops L vs k a = zFf ops vs k a
 | 0, _, _ => rfl
 | k + 1, a, h => by simp only [lay, zFf]; rw [if_pos (h k (by omega)), zAe fun j hj => h j (by omega)]

theorem zDj {w : World} {v : Value} {z : Int} (h : IsInt w v z) {k : Nat} (hz : ab z < pw k) (hk : k ≤ 900000) : Num w v z := h.num hk hz

theorem BoxNum.made {w : World} {n : Bool} {ao : Option Addr} {k c : Nat} {z : Int} (h : Num w (.agg #[.bool n, .slice ao k c]) z) (t : TypeId) : BoxNum (w.alloc (.cells #[.bool n, .slice ao k c] t)) w.heap.size z :=
 ⟨n, ao, k, c, IntBox.new w _ _ t, h.mono (zAw w _)⟩

theorem Num.zero (w : World) : Num w (.agg #[.bool false, .slice none 0 0]) 0 := ⟨false, none, 0, 0, [], rfl, Sl.nil _, by omega, by simp [sgn, val], ⟨fun _ hx => by simp at hx, .inl rfl⟩, by simp⟩

theorem zIh {w w' : World} {z : Int} {e : Ending} (h : zA4 w z e w') {k : Nat} (hz : ab z < pw k) (hk : k ≤ 900000) : ∃ v', e = .returned v' ∧ Below w.heap.size w w' ∧ Num w' v' z := by
 obtain ⟨v, rfl, hi, hb⟩ := h
 exact ⟨v, rfl, hb, zDj hi hz hk⟩

theorem OfV (w : World) (z : Int) (h0 : -9223372036854775808 ≤ z) (h1 : z ≤ 9223372036854775807) : Calls Tryz.prog 45 #[.int .i64 z] w fun e w' => ∃ v', e = .returned v' ∧ Below w.heap.size w w' ∧ Num w' v' z :=
 (Of_any w z h0 h1).mono fun _ _ h => zIh h (k := 2) (by have e : pw 2 = 18446744073709551616 := rfl; rw [e]; unfold ab; omega) (by omega)

theorem Num.unique {w : World} {v : Value} {z z' : Int} (h : Num w v z) (h' : Num w v z') : z = z' := by
 obtain ⟨neg, ao, n, c, xs, rfl, hs, _, hz, _⟩ := h
 obtain ⟨neg', ao', n', c', xs', hv, hs', _, hz', _⟩ := h'
 cases hv
 rw [hz, hz', hs.unique hs']

theorem BoxNum.unique {w : World} {b : Nat} {z z' : Int} (h : BoxNum w b z) (h' : BoxNum w b z') : z = z' := by
 obtain ⟨n, ao, k, c, ⟨e0, e1, _, _⟩, hN⟩ := h
 obtain ⟨n', ao', k', c', ⟨f0, f1, _, _⟩, hN'⟩ := h'
 have h0 := e0.symm.trans f0
 have h1 := e1.symm.trans f1
 cases h0
 cases h1
 exact hN.unique hN'

open Classical in
noncomputable def zGg (w : World) (b : Nat) : Nat :=
 if h : ∃ x : Nat, ∃ z, BoxNum w b z ∧ x = z.natAbs then Classical.choose h else 0

theorem zGh {w : World} {b : Nat} {z : Int} (h : BoxNum w b z) : zGg w b = z.natAbs := by
 have he : ∃ x : Nat, ∃ z, BoxNum w b z ∧ x = z.natAbs := ⟨_, z, h, rfl⟩
 unfold zGg
 rw [dif_pos he]
 obtain ⟨z', h', hx⟩ := Classical.choose_spec he
 rw [hx, h.unique h']

structure Bx (s : Nat) (a b : Int) (w W : World) : Prop where
 xA : BoxNum W s a
 xB : BoxNum W (s + 1) b
 x4 : BoxNum W (s + 1 + 1) 0
 x5 : BoxNum W (s + 1 + 1 + 1) 0
 x6 : BoxNum W (s + 1 + 1 + 1 + 1) 0
 below : Below s w W
 lt : s + 5 ≤ W.heap.size

theorem Bx.mono {s : Nat} {a b : Int} {w W W' : World} (h : Bx s a b w W) (hb : Below W.heap.size W W') : Bx s a b w W' :=
 ⟨h.xA.mono hb, h.xB.mono hb, h.x4.mono hb, h.x5.mono hb, h.x6.mono hb, h.below.trans (hb.mono (by have := h.lt; omega)), Nat.le_trans h.lt hb.size⟩

theorem Bx.put {s : Nat} {a b y : Int} {w W : World} {c : Nat} (h : Bx s a b w W) (hb : BoxNum W c y) (hc : s + 5 ≤ c) (n' : Bool) (a' : Option Addr) (k' c' : Nat) : Bx s a b w (putBox W c n' a' k' c') :=
 ⟨h.xA.putOther hb (by omega) _ _ _ _, h.xB.putOther hb (by omega) _ _ _ _, h.x4.putOther hb (by omega) _ _ _ _, h.x5.putOther hb (by omega) _ _ _ _, h.x6.putOther hb (by omega) _ _ _ _, zGe h.below (by omega) _ _ _ _, by rw [zIu]; exact h.lt⟩

structure Bl (b7 b8 b9 b10 : Nat) (r rr u uu : Int) (W : World) : Prop where
 x7 : BoxNum W b7 r
 x8 : BoxNum W b8 rr
 x9 : BoxNum W b9 u
 x10 : BoxNum W b10 uu

theorem Bl.mono {b7 b8 b9 b10 : Nat} {r rr u uu : Int} {W W' : World} (h : Bl b7 b8 b9 b10 r rr u uu W) (hb : Below W.heap.size W W') : Bl b7 b8 b9 b10 r rr u uu W' :=
 ⟨h.x7.mono hb, h.x8.mono hb, h.x9.mono hb, h.x10.mono hb⟩

theorem zHp (b j : Nat) : (⟨b, 0, none⟩ : Addr).add j = ⟨b, j, none⟩ := by rw [Go.WideShapes.add_plain, Nat.zero_add]

theorem zFs : (Tryz.prog.info? 93).map (fun i => (i.zero, i.size, i.bytes)) = some (some (.int .u32 0), 1, 4) := by kernel_rfl

theorem own_sl {w : World} {base m : Nat} {v : Value} {ys : List Int} (h : w.ownsRow base 93 1 v m (ys.map (Value.int .u32))) (hd : Digs ys) : ∃ ao c, v = .slice ao m c ∧ Sl w ao m c ys := by
 have hl : ys.length = m := by have := h.1; simpa using this
 rcases h.2 with ⟨rfl, h0⟩ | ⟨g, cap, cur, rfl, hb, hg, hn, _⟩
 ·subst h0
  obtain rfl : ys = [] := List.eq_nil_of_length_eq_zero hl
  exact ⟨none, 0, rfl, Sl.nil w⟩
 ·refine ⟨_, _, rfl, hl, hn, hd, .inr ⟨g, 0, rfl, (Array.getElem?_eq_some_iff.1 hg).1, fun j hj => ?_⟩⟩
  have := World.ownsRow.cells h (g := g) rfl j (.int .u32 (ys.getD j 0)) (by simp [hj])
  rw [zHp] at this
  rw [Nat.zero_add]
  exact this

theorem zMc (w : World) (ty : TypeId) (g : Nat) (ao : Option Addr) (m c : Nat) (ys : List Int) (hS : Sl w ao m c ys) (hb : m ≤ 1000000) :
  ∃ v' w', (Builtin.append_ #[22, 22] ty #[.slice (some ⟨g, 0, none⟩) 0 0, .slice ao m c]).run Tryz.prog w = .ok v' w' ∧ Below w.heap.size w w' ∧ ∃ ao' c', v' = .slice ao' m c' ∧ Sl w' ao' m c' ys := by
 obtain ⟨i0, hi, hz0, hz1, hz2⟩ := info_parts zFs
 by_cases h0 : m = 0
 ·subst h0
  obtain rfl : ys = [] := List.eq_nil_of_length_eq_zero hS.len
  refine ⟨.slice (some ⟨g, 0, none⟩) 0 0, w, ?_, Below.refl _ _, _, _, rfl, rfl, Nat.le_refl _, fun x hx => by simp at hx, .inl rfl⟩
  cases ao with
  | none => simp [Builtin.append_, run_underlying Tryz.underlying22, sizeOf, typeInfo, hi, Builtin.lenOf, Builtin.firstCells, storeCells]
  | some x =>
   have := run_append_room_cells (P := Tryz.prog) w 22 ty 93 i0 Tryz.underlying22 hi g 0 0 0 x 0 c [] (by simp) (by simp) (by simp) (by omega) (by simp) (by simp)
   simpa [World.setCells] using this
 ·rcases hS.cells.2 with h1 | ⟨b, off, rfl, hlt, hc⟩
  ·subst h1; have := hS.len; simp at this; omega
  ·obtain ⟨v', w', hrun, hown, hg⟩ := run_append_arg_grows (P := Tryz.prog) w 22 ty 93 i0 (.int .u32 0) 1 4 Tryz.underlying22 hi hz0 hz1 hz2 rfl (by decide)
    ⟨g, 0, none⟩ 0 0 [] (by simp) (by simp) ⟨b, off, none⟩ m c (ys.map (Value.int .u32)) (by simp [hS.len]) (fun j u hu => by
     have hj : j < ys.length := by have := (List.getElem?_eq_some_iff.1 hu).1; simpa using this
     rw [Go.WideShapes.add_plain, hc j hj, ← hu]
     simp [hj]) (by omega) (by unfold maxLen; omega) (by omega)
   rw [Nat.zero_add, List.nil_append] at hown
   exact ⟨v', w', hrun, ⟨hg.os, hg.tape, hg.output, hg.size, fun k hk => hg.block k hk (by simp)⟩, own_sl hown hS.digs⟩

theorem rOfV (w : World) (z : Int) (h0 : -9223372036854775808 ≤ z) (h1 : z ≤ 9223372036854775807) : Calls Tryz.prog 37 #[.int .i64 z] w fun e w' => ∃ v', e = .returned v' ∧ Below w.heap.size w w' ∧ Num w' v' z :=
 (rOf_any w z h0 h1).mono fun _ _ h => zIh h (k := 2) (by have e : pw 2 = 18446744073709551616 := rfl; rw [e]; unfold ab; omega) (by omega)

theorem SameV {w : World} {v v' : Value} {z z' : Int} (h : Num w v z) (h' : Num w v' z') : Calls Tryz.prog 17 #[v, v'] w fun e w' => e = .returned (.bool (decide (z = z'))) ∧ Below w.heap.size w w' := by
 obtain ⟨neg, ao, n, c, xs, rfl, hs, hn, rfl, hc, hnn⟩ := h
 obtain ⟨neg', ao', n', c', xs', rfl, hs', hn', rfl, hc', hnn'⟩ := h'
 exact Same_any _ _ _ _ _ _ _ _ _ _ _ hs hs' hc hc' hnn hnn' (by omega) (by omega)

theorem zH8 (args : Array Value) (w : World) : (callFunc 37 args).run Tryz.prog w = .ok (.enter 37 args) w := zAq Tryz.func37 (by kernel_rfl) rfl args w
end Go.Proofs.YtdhkhedhnolcjaaGreat
namespace Go.Proofs.YtdhkhedhnolcjaaGreat
open Go.RowKit

def Two (n a b : Nat) (p q p' q' : Value) (W : World) : Prop :=
 n ≤ W.heap.size ∧ W.cell? ⟨a, 0, none⟩ = some p ∧ W.cell? ⟨a, 1, none⟩ = some q ∧ W.cell? ⟨b, 0, none⟩ = some p' ∧ W.cell? ⟨b, 1, none⟩ = some q'

theorem Two.call {n a b : Nat} {p q p' q' : Value} {W W' : World} (h : Two n a b p q p' q' W) (hb : Below W.heap.size W W') (ha : a < n) (hb' : b < n) : Two n a b p q p' q' W' :=
 ⟨Nat.le_trans h.1 hb.size, (hb.cell (p := ⟨a, 0, none⟩) (Nat.lt_of_lt_of_le ha h.1)).trans h.2.1, (hb.cell (p := ⟨a, 1, none⟩) (Nat.lt_of_lt_of_le ha h.1)).trans h.2.2.1,
  (hb.cell (p := ⟨b, 0, none⟩) (Nat.lt_of_lt_of_le hb' h.1)).trans h.2.2.2.1, (hb.cell (p := ⟨b, 1, none⟩) (Nat.lt_of_lt_of_le hb' h.1)).trans h.2.2.2.2⟩

theorem Two.set {n a b c o : Nat} {p q p' q' : Value} {W : World} (h : Two n a b p q p' q' W) (ha : c ≠ a) (hb : c ≠ b) (v : Value) : Two n a b p q p' q' (W.setCell ⟨c, o, none⟩ v) := by
 refine ⟨by rw [World.size_setCell]; exact h.1, ?_, ?_, ?_, ?_⟩
 ·rw [World.cell?_setCell_other _ _ _ _ (by intro e; cases e; exact ha rfl)]; exact h.2.1
 ·rw [World.cell?_setCell_other _ _ _ _ (by intro e; cases e; exact ha rfl)]; exact h.2.2.1
 ·rw [World.cell?_setCell_other _ _ _ _ (by intro e; cases e; exact hb rfl)]; exact h.2.2.2.1
 ·rw [World.cell?_setCell_other _ _ _ _ (by intro e; cases e; exact hb rfl)]; exact h.2.2.2.2

theorem boxes12 (w : World) (a1 a2 : Value) (t : TypeId) :
  ∃ w0, w0 = ((w.alloc (.cells #[a1, a2] t)).alloc (.cells #[.bool false, .slice none 0 0] t)).alloc (.cells #[.bool false, .slice none 0 0] t) ∧ IntBox w0 w.heap.size a1 a2 ∧ IntBox w0 (w.heap.size + 1) (.bool false) (.slice none 0 0) ∧
   IntBox w0 (w.heap.size + 1 + 1) (.bool false) (.slice none 0 0) ∧ Below w.heap.size w w0 ∧ Hid (w0.heap.size = w.heap.size + 3) :=
 zD1 w a1 a2 (.bool false) (.slice none 0 0) t

theorem mul_len {w w' : World} {a a' : Option Addr} {n c n' c' : Nat} {xs ys : List Int} {b b' : Bool} (h : Sl w a n c xs) (h' : Sl w' a' n' c' ys) (hc : Canon ys) (hz : sgn b (val xs) * sgn b (val xs) = sgn b' (val ys)) : n' ≤ n + n := by
 have h0 := zAv h.digs
 have h1 := zBa h.digs
 have h2 := zAv h'.digs
 have e1 : sgn b (val xs) * sgn b (val xs) = val xs * val xs := by cases b <;> simp [sgn, Int.neg_mul_neg]
 rw [e1] at hz
 have h3 := Int.mul_nonneg h0 h0
 have h4 : val ys = val xs * val xs := by
  cases b'
  ·exact hz.symm
  ·simp [sgn] at hz; omega
 have h5 : val xs * val xs < pw n * pw n := by
  rw [h.len] at h1
  have i1 := Int.mul_le_mul_of_nonneg_left (show val xs ≤ pw n by omega) h0
  have i2 := Int.mul_lt_mul_of_pos_right h1 (zA6 n)
  omega
 have := hc.length_le (k := n + n) (by rw [h4, zEf]; exact h5)
 rw [h'.len] at this; exact this

def zHn (w : World) (z : Int) (e : Ending) (w' : World) : Prop :=
 Below w.heap.size w w' ∧ ((z < 0 ∧ e = .returned (.tuple #[zeroV, zeroV, .int .i64 1])) ∨ (0 ≤ z ∧ ∃ v v' r, e = .returned (.tuple #[v, v', .int .i64 0]) ∧ IsInt w' v r ∧ IsInt w' v' (z - r * r) ∧ IsRoot z 2 r))

set_option maxHeartbeats 2000000 in
theorem Sqrt_any (w : World) (na : Bool) (ax : Option Addr) (n cx : Nat) (xs : List Int) (hX : Sl w ax n cx xs) (hb1 : n ≤ 60000) :
  Calls Tryz.prog 89 #[.agg #[.bool na, .slice ax n cx]] w (zHn w (sgn na (val xs))) := by
 have hx0 := zAv hX.digs
 obtain ⟨s, hs⟩ : ∃ s, s = cmpI (sgn na (val xs)) 0 := ⟨_, rfl⟩
 have HS' := hidd hs
 clear hs
 go_enter Tryz.func89, Tryz.ntmps89
 go_wp2_with fail
 obtain ⟨w0, hw0, hA, hC, hD, hbl, HSZ⟩ := boxes12 w (.bool na) (.slice ax n cx) 31
 rw [← hw0]
 clear hw0
 refine (zF9 _ _ _ _ _ _ (hX.mono hbl) (by omega)).mono ?_
 rw [← HS'.out]
 rintro e w2 ⟨rfl, hB2⟩
 have hA2 := hA.mono hB2 hA.lt
 have hC2 := hC.mono hB2 hC.lt
 have hD2 := hD.mono hB2 hD.lt
 have hbl2 := hbl.trans (hB2.mono hbl.size)
 have hX2 := (hX.mono hbl).mono hB2
 have HA2 := hidd hA2
 have HC2 := hidd hC2
 have HD2 := hidd hD2
 obtain ⟨a0, a1, _, _⟩ := hA2
 obtain ⟨c0, c1, c2, c3⟩ := hC2
 obtain ⟨d0, d1, d2, d3⟩ := hD2
 clear hA hC hD hbl hB2
 by_cases hs0 : s < 0
 ·have hneg : sgn na (val xs) < 0 := by rw [← zJv, ← HS'.out]; exact hs0
  have HN := hidd hneg
  clear hneg
  go_wp2
  refine bodyPost_ret (v := .tuple #[zeroV, zeroV, .int .i64 1]) ?_ rfl ⟨?_, .inl ⟨HN.out, rfl⟩⟩
  ·simp [results, Tryz.results89, go_sem, c0, c1, d0, d1, zeroV]
  ·exact (((hbl2.setCell (by show w.heap.size ≤ w.heap.size + 1; omega) _).setCell (by show w.heap.size ≤ w.heap.size + 1; omega) _).setCell (by show w.heap.size ≤ w.heap.size + 1 + 1; omega) _).setCell (by show w.heap.size ≤ w.heap.size + 1 + 1; omega) _
 ·have hz0 : 0 ≤ sgn na (val xs) := by
   have := (not_congr (zJv (z := sgn na (val xs)))).1 (by rw [← HS'.out]; exact hs0)
   omega
  have HZ : Hid (sgn na (val xs) = val xs) := zPf hx0 hz0
  go_wp2_with fail
  refine (zBf _ _ _ _ _ hX2 (by omega)).mono ?_
  rintro e w' ⟨m, rfl, hm, hsm, hvm, hcm, rfl⟩
  have HVM := hidd hvm
  clear hvm
  go_wp2_with fail
  refine (zO9 _ _ _ _ _ hsm hcm (by omega) 2 (by omega) (by omega)).mono ?_
  rintro e w4 ⟨a4, n4, k4, rs4, rfl, hs4, hc4, hroot, hB4⟩
  rw [HVM.out] at hroot
  have hn4 : n4 ≤ m := by
   have h1 : val rs4 ≤ val xs := by
    rcases (by have := hroot.1; omega : val rs4 = 0 ∨ 1 ≤ val rs4) with h | h
    ·omega
    ·have h2 := zHb h (show 1 ≤ 2 by omega)
     have h3 := hroot.2.1
     omega
   exact zD5 hc4 hs4 (hsm.mono hB4) (by rw [HVM.out]; exact h1)
  have HR := hidd hroot
  have hA4 := HA2.out.mono hB4 HA2.out.lt
  have hC4 := HC2.out.mono hB4 HC2.out.lt
  have hD4 := HD2.out.mono hB4 HD2.out.lt
  have hbl4 := hbl2.trans (hB4.mono hbl2.size)
  have hX4 := hX2.mono hB4
  clear hroot a0 a1 c0 c1 c2 c3 d0 d1 d2 d3 hbl2 hB4 HC2 HD2 HA2 hX2 hsm
  go_wp2_with fail
  refine (zCm _ _ _ _ _ _ hs4 (by omega)).mono ?_
  rintro e w5 ⟨v, rfl, ⟨ng, ao, nn, cc, rs, rfl, hrs, hrc, hrn, hrz⟩, hb5⟩
  have hnn : nn ≤ n4 := by
   have h1 : val rs = val rs4 := by
    have h0 := zAv hrs.digs
    have h1 := zAv hs4.digs
    have h2 : val rs4 = sgn ng (val rs) := hrz
    cases ng
    ·exact h2.symm
    ·simp [sgn] at h2; omega
   exact zD5 hrc hrs (hs4.mono hb5) (by omega)
  have hA5 := hA4.mono hb5 hA4.lt
  have hC5 := hC4.mono hb5 hC4.lt
  have hD5 := hD4.mono hb5 hD4.lt
  have hbl5 := hbl4.trans (hb5.mono hbl4.size)
  have hX5 := hX4.mono hb5
  have HRZ : Hid (val rs4 = sgn ng (val rs)) := hrz
  clear hrz hA4 hC4 hD4 hbl4 hX4 hb5 hs4
  go_wp2_with fail
  obtain ⟨w6, hw6⟩ : ∃ w6, w6 = w5.alloc (.cells #[.bool ng, .slice ao nn cc] 31) := ⟨_, rfl⟩
  obtain ⟨b5, hb5⟩ : ∃ b5, b5 = w5.heap.size := ⟨_, rfl⟩
  rw [← hw6, ← hb5]
  have hE : IntBox w6 b5 (.bool ng) (.slice ao nn cc) := by rw [hw6, hb5]; exact IntBox.new w5 _ _ _
  have hba : Below w5.heap.size w5 w6 := by rw [hw6]; exact zAw _ _
  have hA6 := hA5.mono hba hA5.lt
  have hC6 := hC5.mono hba hC5.lt
  have hD6 := hD5.mono hba hD5.lt
  have hbl6 := hbl5.trans (hba.mono hbl5.size)
  have hX6d := (hX5.mono hba).drew
  have hs6 := hrs.mono hba
  have hs6d := hs6.drew
  have hDlt := hD5.lt
  have hb5a : w.heap.size + 1 + 1 < b5 := by rw [hb5]; exact hDlt
  have hb5n : b5 < w6.heap.size := hE.lt
  clear hw6 hb5 hA5 hC5 hD5 hbl5 hX5 hba hrs
  have hTwo : Two w6.heap.size w.heap.size b5 (.bool na) (.slice ax n cx) (.bool ng) (.slice ao nn cc) w6.drew := ⟨Nat.le_refl _, hA6.1, hA6.2.1, hE.1, hE.2.1⟩
  have hC6d : IntBox w6.drew (w.heap.size + 1) (.bool false) (.slice none 0 0) := hC6
  have hD6d : IntBox w6.drew (w.heap.size + 1 + 1) (.bool false) (.slice none 0 0) := hD6
  go_region_held3 (fun W => w6.heap.size ≤ W.heap.size ∧ W.cell? ⟨w.heap.size, 0, none⟩ = some (.bool na) ∧ W.cell? ⟨w.heap.size, 1, none⟩ = some (.slice ax n cx) ∧ W.cell? ⟨b5, 0, none⟩ = some (.bool ng) ∧ W.cell? ⟨b5, 1, none⟩ = some (.slice ao nn cc))
   (first | exact hTwo | assumption | exact Two.call (by assumption) hB7 (by omega) (by omega) | exact Two.call (by assumption) hB8 (by omega) (by omega) | exact Two.set (Two.set (by assumption) (by omega) (by omega) _) (by omega) (by omega) _)
   (first | (go_at_call 62; (with_reducible refine (Mul_any _ _ _ _ _ _ _ _ _ _ _ hs6d hs6d (by omega) (by omega)).mono ?_); rintro e w7 ⟨v7, rfl, ⟨n7, a7, k7, c7, s7, rfl, hs7, hc7, hn7, hz7⟩, hB7⟩; have hX7 := hX6d.mono hB7; have hk7 := mul_len hs6d hs7 hc7 hz7) | (go_at_call 61; (with_reducible refine (Sub_any _ _ _ _ _ _ _ _ _ _ _ hX7 hs7 (by omega) (by omega)).mono ?_); rintro e w8 ⟨v8, rfl, ⟨n8, a8, k8, c8, s8, rfl, hs8, hc8, hn8, hz8⟩, hB8⟩; obtain ⟨e0, e1, e2, e3⟩ := (hC6d.mono hB7 hC6d.lt).mono hB8 (Nat.lt_of_lt_of_le hC6d.lt hB7.size); obtain ⟨g0, g1, g2, g3⟩ := (hD6d.mono hB7 hD6d.lt).mono hB8 (Nat.lt_of_lt_of_le hD6d.lt hB7.size)))
  go_wp2
  have hbl8 : Below w.heap.size w w8 := (hbl6.drew.trans (hB7.mono hbl6.size)).trans (hB8.mono (Nat.le_trans hbl6.size hB7.size))
  have hs68 := (hs6d.mono hB7).mono hB8
  have hfin := zG2 (n1 := ng) (n2 := n8) ⟨e0, e1, e2, e3⟩ ⟨g0, g1, g2, g3⟩ (by omega) hs68 hs8 hbl8 (by omega) (by omega)
  have hr2 : val rs4 = sgn ng (val rs) := HRZ.out
  refine bodyPost_ret (v := .tuple #[.agg #[.bool ng, .slice ao nn cc], .agg #[.bool n8, .slice a8 k8 c8], .int .i64 0]) ?_ rfl ⟨hfin.2.2, .inr ⟨hz0, _, _, val rs4, rfl, ⟨ng, ao, nn, cc, rs, rfl, hfin.1, hrc, hrn, hr2⟩, ⟨n8, a8, k8, c8, s8, rfl, hfin.2.1, hc8, hn8, ?_⟩, ?_⟩⟩
  ·simp [results, Tryz.results89, go_sem, e0, e1, g0, g1]
  ·rw [← hz8, ← hz7, hr2]
  ·rw [HZ.out]; exact HR.out

end Go.Proofs.YtdhkhedhnolcjaaGreat
namespace Go.Proofs.YtdhkhedhnolcjaaGreat
open Go Go.RowKit

theorem Num.len {w : World} {v : Value} {z : Int} (h : Num w v z) {k : Nat} (hz : ab z < pw k) : ∃ (neg : Bool) (ao : Option Addr) (n c : Nat) (xs : List Int), v = .agg #[.bool neg, .slice ao n c] ∧ Sl w ao n c xs ∧ n ≤ k ∧ z = sgn neg (val xs) := by
 obtain ⟨neg, ao, n, c, xs, hv, hs, hn, hz', hc, hnn⟩ := h
 have h0 := zAv hs.digs
 have h1 : val xs < pw k := by
  subst hz'
  unfold ab at hz
  cases neg <;> simp [sgn] at hz <;> omega
 have h2 := hc.length_le h1
 rw [hs.len] at h2
 exact ⟨neg, ao, n, c, xs, hv, hs, h2, hz'⟩

theorem AddV {w : World} {v v' : Value} {z z' : Int} (h : Num w v z) (h' : Num w v' z') : Calls Tryz.prog 69 #[v, v'] w (zA4 w (z + z')) := by
 obtain ⟨neg, ao, n, c, xs, rfl, hs, hn, rfl, _⟩ := h
 obtain ⟨neg', ao', n', c', xs', rfl, hs', hn', rfl, _⟩ := h'
 exact Add_any _ _ _ _ _ _ _ _ _ _ _ hs hs' (by omega) (by omega)

theorem NegV {w : World} {v : Value} {z : Int} (h : Num w v z) : Calls Tryz.prog 48 #[v] w (zA4 w (-z)) := by
 obtain ⟨neg, ao, n, c, xs, rfl, hs, hn, rfl, _⟩ := h
 exact Neg_any _ _ _ _ _ _ hs (by omega)

theorem CmpV {w : World} {v v' : Value} {z z' : Int} (h : Num w v z) (h' : Num w v' z') : Calls Tryz.prog 46 #[v, v'] w fun e w' => e = .returned (.int .i64 (cmpI z z')) ∧ Below w.heap.size w w' := by
 obtain ⟨neg, ao, n, c, xs, rfl, hs, hn, rfl, _⟩ := h
 obtain ⟨neg', ao', n', c', xs', rfl, hs', hn', rfl, _⟩ := h'
 exact Cmp_any _ _ _ _ _ _ _ _ _ _ _ hs hs' (by omega) (by omega)

theorem SqrtV {w : World} {v : Value} {z : Int} (h : Num w v z) (hz : ab z < pw 60000) : Calls Tryz.prog 89 #[v] w (zHn w z) := by
 obtain ⟨neg, ao, n, c, xs, rfl, hs, hn, rfl⟩ := h.len hz
 exact Sqrt_any _ _ _ _ _ _ hs hn

def RowB (w : World) (e : TypeId) (b : Nat) (zs : List Int) : Prop := w.heap[b]? = some (.cells (zs.map (Value.int .u8)).toArray e (0, 0))

theorem RowB.lt {w : World} {e : TypeId} {b : Nat} {zs : List Int} (h : RowB w e b zs) : b < w.heap.size := (Array.getElem?_eq_some_iff.1 h).1

theorem RowB.cell {w : World} {e : TypeId} {b : Nat} {zs : List Int} (h : RowB w e b zs) {j : Nat} (hj : j < zs.length) : w.cell? ⟨b, j, none⟩ = some (.int .u8 (zs.getD j 0)) := by
 rw [cell_of_row w b j _ e (0, 0) h]
 simp [hj]

theorem RowB.frozen {w : World} {e : TypeId} {b : Nat} {zs : List Int} (h : RowB w e b zs) (j : Nat) : w.frozen? ⟨b, j, none⟩ = false := by
 have h2 : w.heap[b]? = some (.cells (zs.map (Value.int .u8)).toArray e (0, 0)) := h
 simp [World.frozen?, h2]

theorem RowB.set {w : World} {e : TypeId} {b : Nat} {zs : List Int} (h : RowB w e b zs) {j : Nat} (x : Int) : RowB (w.setCell ⟨b, j, none⟩ (.int .u8 x)) e b (zs.set j x) := by
 have hb := h.lt
 have h2 : w.heap[b]? = some (.cells (zs.map (Value.int .u8)).toArray e (0, 0)) := h
 unfold RowB
 simp only [World.setCell, Array.getElem?_modify, if_true, h2, Option.map_some, Option.isSome_none]
 simp

def Back (w : World) (B : Nat) (v : Value) (ds : List Int) : Prop := w.ownsRow B 5 1 v ds.length (ds.map (Value.int .u8))

theorem Back.shape {w : World} {B : Nat} {v : Value} {ds : List Int} (h : Back w B v ds) : ∃ ao cap, v = .slice ao ds.length cap := by
 rcases h.2 with ⟨rfl, h0⟩ | ⟨g, cap, cur, rfl, _⟩
 ·exact ⟨none, 0, by rw [h0]⟩
 ·exact ⟨_, _, rfl⟩

theorem Back.cells {w : World} {B : Nat} {v : Value} {ds : List Int} (h : Back w B v ds) (h0 : 0 < ds.length) :
  ∃ g cap, v = .slice (some ⟨g, 0, none⟩) ds.length cap ∧ g < w.heap.size ∧ ∀ j, j < ds.length → w.cell? ⟨g, j, none⟩ = some (.int .u8 (ds.getD j 0)) := by
 rcases h.2 with ⟨rfl, h1⟩ | ⟨g, cap, cur, rfl, hb, hg, _⟩
 ·omega
 ·refine ⟨g, cap, rfl, (Array.getElem?_eq_some_iff.1 hg).1, fun j hj => ?_⟩
  have := World.ownsRow.cells h (g := g) rfl j (.int .u8 (ds.getD j 0)) (by simp [hj])
  have hadd : (⟨g, 0, none⟩ : Addr).add j = ⟨g, j, none⟩ := by unfold Addr.add; split <;> simp_all
  rw [hadd] at this
  exact this

theorem zG9 (w : World) (x : Value) (e : TypeId) : ∀ (j : Nat) (u : Value), [x][j]? = some u → (w.alloc (.cells #[x] e)).cell? ((⟨w.heap.size, 0, none⟩ : Addr).add j) = some u := by
 intro j u hj
 match j, hj with
 | 0, hj => simp at hj; subst hj; simp [Addr.add]

def RTwo (w : World) (z1 z2 : Int) (e : Ending) (w' : World) : Prop :=
 ∃ (n : Bool) (ao : Option Addr) (k c : Nat) (n' : Bool) (ao' : Option Addr) (k' c' : Nat), e = .returned (.tuple #[.agg #[.bool n, .slice ao k c], .agg #[.bool n', .slice ao' k' c'], .int .i64 0]) ∧ Below w.heap.size w w' ∧
  Num w' (.agg #[.bool n, .slice ao k c]) z1 ∧ Num w' (.agg #[.bool n', .slice ao' k' c']) z2

theorem zFm {w : World} {n : Bool} {ao : Option Addr} {k c : Nat} {z : Int} (h : Num w (.agg #[.bool n, .slice ao k c]) z) (t : TypeId) :
  ∃ w1, w1 = w.alloc (.cells #[.bool n, .slice ao k c] t) ∧ Below w.heap.size w w1 ∧ BoxNum w1 w.heap.size z := ⟨_, rfl, zAw _ _, BoxNum.made h t⟩

theorem boxTwo {w : World} {n n' : Bool} {ao ao' : Option Addr} {k c k' c' : Nat} {z z' : Int} (h : Num w (.agg #[.bool n, .slice ao k c]) z) (h' : Num w (.agg #[.bool n', .slice ao' k' c']) z') (t : TypeId) :
  ∃ w1, w1 = (w.alloc (.cells #[.bool n, .slice ao k c] t)).alloc (.cells #[.bool n', .slice ao' k' c'] t) ∧ Below w.heap.size w w1 ∧ BoxNum w1 w.heap.size z ∧ BoxNum w1 (w.heap.size + 1) z' := by
 obtain ⟨w1, h1, b1, x1⟩ := zFm h t
 have h2 := h'.mono b1
 have s1 : w1.heap.size = w.heap.size + 1 := by rw [h1, World.size_alloc]
 obtain ⟨w2, h3, b2, x2⟩ := zFm h2 t
 rw [s1] at x2
 exact ⟨w2, by rw [h3, h1], b1.trans (b2.mono (by omega)), x1.mono b2, x2⟩

def Bs (w : World) : List (Nat × Int) → Prop
 | [] => True
 | p :: r => BoxNum w p.1 p.2 ∧ Bs w r

theorem Bs.mono {w w' : World} (hb : Below w.heap.size w w') : ∀ {l : List (Nat × Int)}, Bs w l → Bs w' l
 | [], _ => trivial
 | _ :: _, h => ⟨h.1.mono hb, Bs.mono hb h.2⟩

section
variable {os : List Oper} {Q : Exit → Act → World → Prop} {a : Act} {p : Plan} {B B0 : Nat} {w0 : World}
variable {i s : Nat} {d : Option Tmp} {ty : TypeId} {ps : String} {af : Array Edge}

end

theorem zA5 {x y : Int} {j k m : Nat} (hx : ab x < pw j) (hy : ab y < pw k) (hj : j < m) (hk : k < m) : ab (x + y) < pw m := by
 have h1 := zAb (show j ≤ m - 1 by omega)
 have h2 := zAb (show k ≤ m - 1 by omega)
 have h3 := zCv (m - 1)
 rw [show m - 1 + 1 = m by omega] at h3
 have h4 := zA6 (m - 1)
 unfold ab at *
 omega

theorem zDo {x : Int} {k : Nat} (hx : ab x < pw k) : ab (-x) < pw k := by
 unfold ab at *
 omega

theorem zDp {x y : Int} {j k m : Nat} (hx : ab x < pw j) (hy : ab y < pw k) (hj : j < m) (hk : k < m) : ab (x - y) < pw m := by
 have := zA5 hx (zDo hy) hj hk
 rw [Int.sub_eq_add_neg]
 exact this

theorem zBi {x y : Int} {j k : Nat} (hx : ab x < pw j) (hy : ab y < pw k) : ab (x * y) < pw (j + k) := by
 rw [ab_mul, zEf]
 have h1 := zJm x
 have h2 := zJm y
 exact Int.mul_lt_mul' (Int.le_of_lt hx) hy h2 (zA6 _)

theorem zAt {x y : Int} {j k m : Nat} (hx : ab x < pw j) (hy : ab y < pw k) (hm : j + k = m) : ab (x * y) < pw m := by
 subst hm
 exact zBi hx hy

theorem zBg {x : Int} {k : Nat} (hx : ab x < pw k) : ab (x.natAbs : Int) < pw k := by
 unfold ab at *
 omega

theorem zEw {x y : Int} {k : Nat} (hy0 : y ≠ 0) (hy : ab y < pw k) : ab (x % y) < pw k := by
 have h1 := Int.emod_nonneg x hy0
 have h2 := Int.emod_lt x hy0
 unfold ab at *
 omega

theorem zEv {x y : Int} {k m : Nat} (hx : ab x < pw k) (hk : k < m) : ab (x / y) < pw m := by
 have h1 : (x / y).natAbs ≤ x.natAbs + 1 := by
  have h0 := Int.natAbs_ediv_le_natAbs x y
  omega
 have h2 := zAb (show k + 1 ≤ m by omega)
 have h3 := zCv k
 have h4 := zA6 k
 unfold ab at *
 omega

theorem exK {w : World} {z : Int} {f : FuncId} {args : Array Value} (h : Calls Tryz.prog f args w (zA4 w z)) {k : Nat} (hz : ab z < pw k) (hk : k ≤ 900000) :
  Calls Tryz.prog f args w fun e w' => ∃ v', e = .returned v' ∧ Below w.heap.size w w' ∧ Num w' v' z :=
 h.mono fun _ _ hh => zIh hh hz hk

theorem exKP {w : World} {z : Int} {f : FuncId} {args : Array Value} (h : Calls Tryz.prog f args w (zA4 w z)) {k : Nat} (hz : ab z < pw k) (hk : k ≤ 900000) :
  Calls Tryz.prog f args w fun e w' => ∃ (n : Bool) (ao : Option Addr) (k c : Nat), e = .returned (.agg #[.bool n, .slice ao k c]) ∧ Below w.heap.size w w' ∧ Num w' (.agg #[.bool n, .slice ao k c]) z :=
 (exK h hz hk).mono fun _ _ hh => by
  obtain ⟨v, rfl, hb, hn⟩ := hh
  obtain ⟨n, ao, k, c, rfl⟩ := hn.parts
  exact ⟨_, _, _, _, rfl, hb, hn⟩

theorem exDK {w : World} {v v' : Value} {a b : Int} (h : Num w v a) (h' : Num w v' b) (hb : b ≠ 0) {j k : Nat} (hq : ab (a / b) < pw j) (hr : ab (a % b) < pw k) (hj : j ≤ 900000) (hk : k ≤ 900000) : Calls Tryz.prog 44 #[v, v'] w (RTwo w (a / b) (a % b)) :=
 (DivModV h h').mono fun e w' hg => by
  obtain ⟨hbl, ⟨h0, _⟩ | ⟨_, vq, vr, rfl, i1, i2⟩⟩ := hg
  ·exact absurd h0 hb
  ·have n1 := zDj i1 hq hj
   have n2 := zDj i2 hr hk
   obtain ⟨n, ao, k, c, rfl⟩ := n1.parts
   obtain ⟨n', ao', k', c', rfl⟩ := n2.parts
   exact ⟨_, _, _, _, _, _, _, _, rfl, hbl, n1, n2⟩

theorem exDT {w : World} {v v' : Value} {a b : Int} (h : Num w v a) (h' : Num w v' b) (hb : b ≠ 0) {j k : Nat} (hq : ab (a / b) < pw j) (hr : ab (a % b) < pw k) (hj : j ≤ 900000) (hk : k ≤ 900000) :
  Calls Tryz.prog 44 #[v, v'] w fun e w' => ∃ v', e = .returned v' ∧ Below w.heap.size w w' ∧ (Fc.tup (a / b) (a % b)).P v' w' :=
 (exDK h h' hb hq hr hj hk).mono fun e w' hg => by
  obtain ⟨_, _, _, _, _, _, _, _, rfl, hbl, n1, n2⟩ := hg
  exact ⟨_, rfl, hbl, _, _, rfl, n1, n2⟩

theorem zCh {w : World} {v : Value} {z : Int} (h : Num w v z) : Calls Tryz.prog 57 #[v] w fun e w' => ∃ v', e = .returned v' ∧ Below w.heap.size w w' ∧ v' = .int .i64 (cmpI z 0) :=
 (SignV h).mono fun _ _ hh => ⟨_, hh.1, hh.2, rfl⟩

theorem zA9 {w : World} {v v' : Value} {z z' : Int} (h : Num w v z) (h' : Num w v' z') : Calls Tryz.prog 46 #[v, v'] w fun e w' => ∃ v', e = .returned v' ∧ Below w.heap.size w w' ∧ v' = .int .i64 (cmpI z z') :=
 (CmpV h h').mono fun _ _ hh => ⟨_, hh.1, hh.2, rfl⟩

theorem Num.len_zero {w : World} {n : Bool} {ao : Option Addr} {k c : Nat} {z : Int} (h : Num w (.agg #[.bool n, .slice ao k c]) z) : (k = 0 ↔ z = 0) ∧ k ≤ 900000 := by
 obtain ⟨neg, ao', k', c', xs, hv, hs, hn, hz, hc, hnn⟩ := h
 obtain ⟨rfl, rfl, rfl, rfl⟩ : n = neg ∧ ao = ao' ∧ k = k' ∧ c = c' := by
  simp at hv; exact ⟨hv.1, hv.2.1, hv.2.2.1, hv.2.2.2⟩
 refine ⟨?_, hn⟩
 have h1 := hc.zero
 rw [hs.len] at h1
 rw [h1, hz]
 cases n <;> simp [sgn]

def Rw (w : World) : List (Nat × Bool × Option Addr × Nat × Nat × List Int) → Prop
 | [] => True
 | (b, neg, ao, n, c, xs) :: r => (IntBox w b (.bool neg) (.slice ao n c) ∧ Sl w ao n c xs) ∧ Rw w r

theorem Rw.mono {w w' : World} (hb : Below w.heap.size w w') : ∀ {l : List (Nat × Bool × Option Addr × Nat × Nat × List Int)}, Rw w l → Rw w' l
 | [], _ => trivial
 | (_, _, _, _, _, _) :: _, h => ⟨⟨h.1.1.mono hb h.1.1.lt, h.1.2.mono hb⟩, Rw.mono hb h.2⟩

structure Ev (w0 : World) (rs : List (Nat × Bool × Option Addr × Nat × Nat × List Int)) (l : List (Nat × Int)) (W : World) : Prop where
 below : Below w0.heap.size w0 W
 raws : Rw W rs
 bs : Bs W l

theorem Ev.mono {w0 W W' : World} {rs : List (Nat × Bool × Option Addr × Nat × Nat × List Int)} {l : List (Nat × Int)} (h : Ev w0 rs l W) (hb : Below W.heap.size W W') : Ev w0 rs l W' :=
 ⟨h.below.trans (hb.mono h.below.size), h.raws.mono hb, h.bs.mono hb⟩

theorem Ev.push {w0 W : World} {rs : List (Nat × Bool × Option Addr × Nat × Nat × List Int)} {l : List (Nat × Int)} (h : Ev w0 rs l W) {b : Nat} {z : Int} (hb : BoxNum W b z) : Ev w0 rs ((b, z) :: l) W :=
 ⟨h.below, h.raws, hb, h.bs⟩

section
variable {os : List Oper} {Q : Exit → Act → World → Prop} {a : Act} {p : Plan} {B B0 : Nat} {w0 : World}
variable {i s : Nat} {d : Option Tmp} {ty : TypeId} {ps : String} {af : Array Edge} {gd : Option (Nat × Bool)}

theorem zIg {x : Value} {f : FuncId} {ts : Array TypeId} (hp : PMono p B B0) (hF : p.Free i) (hg : Gd os a p B B0 w0 af gd) (hen : ∀ args w, (callFunc f args).run Tryz.prog w = .ok (.enter f args) w)
  (hC : ∀ w, Calls Tryz.prog f #[x] w fun e w' => ∃ v', e = .returned v' ∧ Below w.heap.size w w' ∧ p.C i v' w') :
  Step os Q a p B B0 w0 i { dst := d, op := .call { callee := .value (.func f), args := #[.const x], argTypes := ts }, type := ty, pos := ps, after := af, guard := gd } :=
 zJe hp hF hg hen fun L vs w _ _ => ⟨#[x], by simp [Act.eval], hC w⟩

end

section
variable {os : List Oper} {Q : Exit → Act → World → Prop} {a : Act} {p : Pq} {B B0 : Nat} {w0 : World}
variable {i s : Nat} {d : Option Tmp} {ty : TypeId} {ps : String} {af : Array Edge} {gd : Option (Nat × Bool)}

def SrcQ (os : List Oper) (a : Act) (p : Pq) (B B0 : Nat) (w0 : World) (af : Array Edge) (x : Operand) (F : Value → World → Prop) : Prop :=
 ∀ L vs w, p.G B B0 w0 L vs w → (∀ e ∈ af, Region.binds .any e = true → L e.on = true) → F ((lay os.toArray L vs os.toArray.size a).eval x) w

theorem zBw (j : Nat) {F : Value → World → Prop} (ha : zBd (os.map (·.dst)) = true) (hj : (os.map (·.dst))[j]? = some (some s)) (hs : s < a.tmps.size) (hdep : depA af j = true) (hF : ∀ v w, (p.c j).P v w → F v w) : SrcQ os a p B B0 w0 af (.tmp s) F := by
 intro L vs w hG hd
 have hLj := zGn hdep hd
 rw [zEq ha hLj hj hs]
 exact hF _ _ (hG.val j hLj)

theorem zCy {v : Value} {F : Value → World → Prop} (ho : (os.map (·.dst)).contains (some s) = false) (hx : a.eval (.tmp s) = v) (hF : ∀ w, Below B w0 w → F v w) : SrcQ os a p B B0 w0 af (.tmp s) F := by
 intro L vs w hG hd
 rw [(zG5 ho _).trans hx]
 exact hF _ hG.below

theorem zAj {v : Value} {F : Value → World → Prop} (hF : ∀ w, F v w) : SrcQ os a p B B0 w0 af (.const v) F := fun _ _ _ _ _ => hF _

def GdQ (os : List Oper) (a : Act) (p : Pq) (B B0 : Nat) (w0 : World) (af : Array Edge) : Option (Nat × Bool) → Prop
 | none => True
 | some (j, b) => ∀ L vs w, p.G B B0 w0 L vs w → (∀ e ∈ af, Region.binds .any e = true → L e.on = true) → yielded os.toArray (lay os.toArray L vs os.toArray.size a).tmps j = some b

theorem gq_some {j : Nat} {b : Bool} (ha : zBd (os.map (·.dst)) = true) (hj : (os.map (·.dst))[j]? = some (some s)) (hs : s < a.tmps.size) (hdep : depA af j = true) (hC : ∀ v w, (p.c j).P v w → v = .bool b) : GdQ os a p B B0 w0 af (some (j, b)) := by
 intro L vs w hG hd
 have hLj := zGn hdep hd
 have hv := hC _ _ (hG.val j hLj)
 have he := zEq (vs := vs) ha hLj hj hs
 rw [hv] at he
 have hsz : s < (lay os.toArray L vs os.toArray.size a).tmps.size := by rw [zG6]; exact hs
 have ht : (lay os.toArray L vs os.toArray.size a).tmps[s]? = some (.bool b) := by
  have h2 : (lay os.toArray L vs os.toArray.size a).eval (.tmp s) = ((lay os.toArray L vs os.toArray.size a).tmps[s]?).getD undef := by simp [Act.eval]
  rw [Array.getElem?_eq_getElem hsz] at h2 ⊢
  rw [he] at h2
  exact congrArg some h2.symm
 have hdst : (os.toArray[j]?).bind (·.dst) = some s := by
  simp at hj ⊢
  cases ho : os[j]? with
  | none => simp [ho] at hj
  | some o => simp [ho] at hj ⊢; exact hj
 unfold yielded
 rw [hdst]
 simp only [Option.bind_some, ht]

theorem sqi (j : Nat) {F : Value → World → Prop} (ha : zBd (os.map (·.dst)) = true := by exact rfl) (hj : (os.map (·.dst))[j]? = some (some s) := by exact rfl) (hs : s < a.tmps.size := by simp) (hdep : depA af j = true := by exact rfl) (hF : ∀ v w, (p.c j).P v w → F v w := by exact fun v w h => h) : SrcQ os a p B B0 w0 af (.tmp s) F := zBw j ha hj hs hdep hF
theorem sqo (s : Nat) {u : Value} (ho : (os.map (·.dst)).contains (some s) = false := by exact rfl) (hx : a.eval (.tmp s) = u := by exact rfl) : SrcQ os a p B B0 w0 af (.tmp s) fun v _ => v = u := zCy ho hx fun _ _ => rfl
theorem gqi {j : Nat} {b : Bool} (ha : zBd (os.map (·.dst)) = true := by exact rfl) (hj : (os.map (·.dst))[j]? = some (some s) := by exact rfl) (hs : s < a.tmps.size := by simp) (hdep : depA af j = true := by exact rfl) (hC : ∀ v w, (p.c j).P v w → v = .bool b := by exact fun v w h => h) : GdQ os a p B B0 w0 af (some (j, b)) := gq_some ha hj hs hdep hC
theorem mq {α : Type} {l : List α} {x : α} (k : Nat) (h : l[k]? = some x) : x ∈ l := List.mem_iff_getElem?.2 ⟨k, h⟩
theorem SP : (∀ (ops : Array Oper) (vs : Nat → Value) (a : Act), zFf ops vs 0 a = a) ∧ (∀ (ops : Array Oper) (vs : Nat → Value) (k : Nat) (a : Act), zFf ops vs (k + 1) a = (zFf ops vs k a).put (zBu ops k) (vs k)) ∧ (∀ (l : List Oper) (i : Nat), zBu l.toArray i = (l[i]?).bind (·.dst)) ∧ (∀ (a : Act) (d : Tmp) (v : Value), a.put (some d) v = { a with tmps := a.tmps.setIfInBounds d v }) ∧ (∀ (a : Act) (v : Value), a.put none v = a) ∧ (∀ (x : Oper) (l : List Oper), (x :: l).length = l.length + 1) ∧ ([] : List Oper).length = 0 ∧ (∀ (x : Oper) (l : List Oper), (x :: l)[0]? = some x) ∧ (∀ (x : Oper) (l : List Oper) (i : Nat), (x :: l)[i + 1]? = l[i]?) ∧ (∀ (x : Oper) (f : Oper → Option Tmp), (some x).bind f = f x) ∧ (∀ (l : List Value) (i : Nat) (v : Value), l.toArray.setIfInBounds i v = (l.set i v).toArray) ∧ (∀ (x v : Value) (l : List Value) (i : Nat), (x :: l).set (i + 1) v = x :: l.set i v) ∧ (∀ (x v : Value) (l : List Value), (x :: l).set 0 v = v :: l) := ⟨fun _ _ _ => rfl, fun _ _ _ _ => rfl, fun _ _ => by simp [zBu], fun _ _ _ => rfl, fun _ _ => rfl, fun _ _ => rfl, rfl, fun _ _ => rfl, fun _ _ _ => rfl, fun _ _ => rfl, fun _ _ _ => by simp, fun _ _ _ _ => rfl, fun _ _ _ => rfl⟩
theorem wXi {C : List Fq} {n : Nat} {vs : Nat → Value} {W : World} (hC : ∀ j, j < n → ((C[j]?).getD Fq.any).P (vs j) W) (j : Nat) {u : Value} (hj : j < n := by simp) (h : C[j]? = some (Fq.is u) := by exact rfl) : vs j = u := by
 have := hC j hj
 rw [h] at this
 exact this
theorem zJh {o : Oper} {L : Nat → Bool} {vs : Nat → Value} {w : World} (hg : GdQ os a p B B0 w0 o.after o.guard) (hG : p.G B B0 w0 L vs w) (hd : ∀ e ∈ o.after, Region.binds .any e = true → L e.on = true) : Region.wanted o (yielded os.toArray (lay os.toArray L vs os.toArray.size a).tmps) = true := by
 unfold Region.wanted
 cases hgd : o.guard with
 | none => rfl
 | some jb =>
  obtain ⟨j, b⟩ := jb
  rw [hgd] at hg
  have := hg L vs w hG hd
  show (yielded os.toArray (lay os.toArray L vs os.toArray.size a).tmps j == some b) = true
  rw [this]
  cases b <;> rfl

theorem zAi {o : Oper} {j : Nat} {b : Bool} (hp : p.Ok B B0) (hF : p.Free i) (hgd : o.guard = some (j, b)) (hg : GdQ os a p B B0 w0 o.after (some (j, !b))) (hC : ∀ w, (p.c i).P undef w) : zAr os Q a p B B0 w0 i o := by
 intro hio L vs w hG hL hd hc
 refine wpOp_step hio fun K' hK => ?_
 have h1 := hg L vs w hG hd
 have hwn : ¬ Region.wanted o (yielded os.toArray (lay os.toArray L vs os.toArray.size a).tmps) = true := by
  unfold Region.wanted
  rw [hgd]
  show ¬ (yielded os.toArray (lay os.toArray L vs os.toArray.size a).tmps j == some b) = true
  rw [h1]
  cases b <;> simp
 rw [if_neg hwn]
 exact hK _ _ ⟨_, rfl, hG.plain hp hF (Below.refl _ _) (hC _)⟩

theorem stq_run {o : Oper} (hp : p.Ok B B0) (hF : p.Free i) (hg : GdQ os a p B B0 w0 o.after o.guard) (hr : ∀ L vs w, p.G B B0 w0 L vs w → L i = false → zCz os.toArray L → (∀ e ∈ o.after, Region.binds .any e = true → L e.on = true) →
   ∃ v w', (execOp (lay os.toArray L vs os.toArray.size a).eval o).run Tryz.prog w = .ok (.value v) w' ∧ Below w.heap.size w w' ∧ (p.c i).P v w') : zAr os Q a p B B0 w0 i o := by
 intro hio L vs w hG hL hd hc
 refine wpOp_step hio fun K' hK => ?_
 obtain ⟨v, w', hv, hb, hCv⟩ := hr L vs w hG hL hc hd
 rw [if_pos (zJh hg hG hd)]
 unfold Oper.wp
 rw [hv]
 exact hK _ _ ⟨_, rfl, hG.plain hp hF hb hCv⟩

theorem zBs {o : Oper} (hp : p.Ok B B0) (hF : p.Free i) (hg : GdQ os a p B B0 w0 o.after o.guard) (hr : ∀ L vs w, p.G B B0 w0 L vs w → L i = false → zCz os.toArray L → (∀ e ∈ o.after, Region.binds .any e = true → L e.on = true) →
   ∃ v, (execOp (lay os.toArray L vs os.toArray.size a).eval o).run Tryz.prog w = .ok (.value v) w ∧ (p.c i).P v w) : zAr os Q a p B B0 w0 i o :=
 stq_run hp hF hg fun L vs w hG hL hc hd => by
  obtain ⟨v, h1, h2⟩ := hr L vs w hG hL hc hd
  exact ⟨v, w, h1, Below.refl _ _, h2⟩

theorem zF7 {f : FuncId} {xs : Array Operand} {ts : Array TypeId} (hp : p.Ok B B0) (hF : p.Free i) (hg : GdQ os a p B B0 w0 af gd) (hen : ∀ args w, (callFunc f args).run Tryz.prog w = .ok (.enter f args) w)
  (hr : ∀ L vs w, p.G B B0 w0 L vs w → (∀ e ∈ af, Region.binds .any e = true → L e.on = true) → ∃ args, xs.map (lay os.toArray L vs os.toArray.size a).eval = args ∧
   Calls Tryz.prog f args w fun e w' => ∃ v', e = .returned v' ∧ Below w.heap.size w w' ∧ (p.c i).P v' w') :
  zAr os Q a p B B0 w0 i { dst := d, op := .call { callee := .value (.func f), args := xs, argTypes := ts }, type := ty, pos := ps, after := af, guard := gd } := by
 intro hio L vs w hG hL hd hc
 refine wpOp_step hio fun K' hK => ?_
 obtain ⟨args, hx, hC⟩ := hr L vs w hG hd
 rw [if_pos (zJh (o := { dst := d, op := .call { callee := .value (.func f), args := xs, argTypes := ts }, type := ty, pos := ps, after := af, guard := gd }) hg hG hd)]
 have e : (execOp (lay os.toArray L vs os.toArray.size a).eval ({ dst := d, op := .call { callee := .value (.func f), args := xs, argTypes := ts }, type := ty, pos := ps, after := af, guard := gd } : Oper)).run Tryz.prog w = (.ok (.enter f args) w) := by
  have hf : (lay os.toArray L vs os.toArray.size a).eval (.func f) = .func (.func f) #[] #[] := rfl
  generalize (lay os.toArray L vs os.toArray.size a).eval = ρ at hx hf
  simp [execOp, go_sem, hx, hf, hen]
 unfold Oper.wp
 rw [e]
 refine hC.mono ?_
 rintro e' w' ⟨v', rfl, hb, h⟩
 exact hK _ _ ⟨_, rfl, hG.plain hp hF hb h⟩

theorem q_call0 {f : FuncId} {ts : Array TypeId} (hp : p.Ok B B0) (hF : p.Free i) (hg : GdQ os a p B B0 w0 af gd) (hen : ∀ args w, (callFunc f args).run Tryz.prog w = .ok (.enter f args) w)
  (hC : ∀ w, Calls Tryz.prog f #[] w fun e w' => ∃ v', e = .returned v' ∧ Below w.heap.size w w' ∧ (p.c i).P v' w') :
  zAr os Q a p B B0 w0 i { dst := d, op := .call { callee := .value (.func f), args := #[], argTypes := ts }, type := ty, pos := ps, after := af, guard := gd } :=
 zF7 hp hF hg hen fun L vs w hG hd => ⟨#[], by simp, hC _⟩

theorem zAn {x : Operand} {F : Value → World → Prop} {f : FuncId} {ts : Array TypeId} (hp : p.Ok B B0) (hF : p.Free i) (hg : GdQ os a p B B0 w0 af gd) (hen : ∀ args w, (callFunc f args).run Tryz.prog w = .ok (.enter f args) w)
  (hx : SrcQ os a p B B0 w0 af x F) (hC : ∀ v w, F v w → Calls Tryz.prog f #[v] w fun e w' => ∃ v', e = .returned v' ∧ Below w.heap.size w w' ∧ (p.c i).P v' w') :
  zAr os Q a p B B0 w0 i { dst := d, op := .call { callee := .value (.func f), args := #[x], argTypes := ts }, type := ty, pos := ps, after := af, guard := gd } :=
 zF7 hp hF hg hen fun L vs w hG hd => ⟨#[_], by simp, hC _ _ (hx L vs w hG hd)⟩

theorem zAx {x y : Operand} {F G : Value → World → Prop} {f : FuncId} {ts : Array TypeId} (hp : p.Ok B B0) (hF : p.Free i) (hg : GdQ os a p B B0 w0 af gd) (hen : ∀ args w, (callFunc f args).run Tryz.prog w = .ok (.enter f args) w)
  (hx : SrcQ os a p B B0 w0 af x F) (hy : SrcQ os a p B B0 w0 af y G) (hC : ∀ v v' w, F v w → G v' w → Calls Tryz.prog f #[v, v'] w fun e w' => ∃ v', e = .returned v' ∧ Below w.heap.size w w' ∧ (p.c i).P v' w') :
  zAr os Q a p B B0 w0 i { dst := d, op := .call { callee := .value (.func f), args := #[x, y], argTypes := ts }, type := ty, pos := ps, after := af, guard := gd } :=
 zF7 hp hF hg hen fun L vs w hG hd => ⟨#[_, _], by simp, hC _ _ _ (hx L vs w hG hd) (hy L vs w hG hd)⟩

theorem zAf {o : Oper} {x : Operand} {F : Value → World → Prop} (hp : p.Ok B B0) (hF : p.Free i) (hg : GdQ os a p B B0 w0 o.after o.guard) (hx : SrcQ os a p B B0 w0 o.after x F)
  (hr : ∀ (ρ : Operand → Value) (w : World), (∀ c, ρ (.const c) = c) → F (ρ x) w → ∃ r, (execOp ρ o).run Tryz.prog w = .ok (.value r) w ∧ (p.c i).P r w) : zAr os Q a p B B0 w0 i o :=
 zBs hp hF hg fun L vs w hG _ _ hd => hr _ _ (fun _ => rfl) (hx L vs w hG hd)

theorem zAg {o : Oper} {x y : Operand} {F G : Value → World → Prop} (hp : p.Ok B B0) (hF : p.Free i) (hg : GdQ os a p B B0 w0 o.after o.guard) (hx : SrcQ os a p B B0 w0 o.after x F) (hy : SrcQ os a p B B0 w0 o.after y G)
  (hr : ∀ (ρ : Operand → Value) (w : World), (∀ c, ρ (.const c) = c) → F (ρ x) w → G (ρ y) w → ∃ r, (execOp ρ o).run Tryz.prog w = .ok (.value r) w ∧ (p.c i).P r w) : zAr os Q a p B B0 w0 i o :=
 zBs hp hF hg fun L vs w hG _ _ hd => hr _ _ (fun _ => rfl) (hx L vs w hG hd) (hy L vs w hG hd)

theorem zAa {x : Operand} (hp : p.Ok B B0) (hF : p.Free i) (hg : GdQ os a p B B0 w0 af gd) (hx : SrcQ os a p B B0 w0 af x (p.c i).P) : zAr os Q a p B B0 w0 i { dst := d, op := .move x, type := ty, pos := ps, after := af, guard := gd } := by
 refine zBs hp hF hg fun L vs w hG _ _ hd => ⟨_, ?_, hx L vs w hG hd⟩
 simp [execOp, go_sem]

theorem zAh {x : Operand} (hp : p.Ok B B0) (hF : p.Free i) (hg : GdQ os a p B B0 w0 af gd) (hx : SrcQ os a p B B0 w0 af x (p.c i).P) : zAr os Q a p B B0 w0 i { dst := d, op := .assign x, type := ty, pos := ps, after := af, guard := gd } := by
 refine zBs hp hF hg fun L vs w hG _ _ hd => ⟨_, ?_, hx L vs w hG hd⟩
 simp [execOp, go_sem]

theorem zCc {x : Operand} {k : Nat} {F G : Fq} (hp : p.Ok B B0) (hF : p.Free i) (hg : GdQ os a p B B0 w0 af gd) (hx : SrcQ os a p B B0 w0 af x (Fq.tup2 F G).P) (hC : ∀ v1 v2 w, F.P v1 w → G.P v2 w → ∃ u, #[v1, v2][k]? = some u ∧ (p.c i).P u w) : zAr os Q a p B B0 w0 i { dst := d, op := .extract x k, type := ty, pos := ps, after := af, guard := gd } := by
 refine zBs hp hF hg fun L vs w hG _ _ hd => ?_
 obtain ⟨v1, v2, e, h1, h2⟩ := hx L vs w hG hd
 obtain ⟨u, hu, h⟩ := hC v1 v2 w h1 h2
 refine ⟨_, ?_, h⟩
 generalize (lay os.toArray L vs os.toArray.size a).eval = ρ at e
 simp only [execOp, go_sem, e]
 simp [go_sem, hu]

theorem zA1 {x : Operand} {k : Nat} {F G H : Fq} (hp : p.Ok B B0) (hF : p.Free i) (hg : GdQ os a p B B0 w0 af gd) (hx : SrcQ os a p B B0 w0 af x (Fq.tup3 F G H).P) (hC : ∀ v1 v2 v3 w, F.P v1 w → G.P v2 w → H.P v3 w → ∃ u, #[v1, v2, v3][k]? = some u ∧ (p.c i).P u w) : zAr os Q a p B B0 w0 i { dst := d, op := .extract x k, type := ty, pos := ps, after := af, guard := gd } := by
 refine zBs hp hF hg fun L vs w hG _ _ hd => ?_
 obtain ⟨v1, v2, v3, e, h1, h2, h3⟩ := hx L vs w hG hd
 obtain ⟨u, hu, h⟩ := hC v1 v2 v3 w h1 h2 h3
 refine ⟨_, ?_, h⟩
 generalize (lay os.toArray L vs os.toArray.size a).eval = ρ at e
 simp only [execOp, go_sem, e]
 simp [go_sem, hu]

theorem zHr {o : Ob} (ho : o ∈ p.old) (hk : o.F1 = o.F0 ∨ zBk os 9 o.k i = true) {L : Nat → Bool} {vs : Nat → Value} {w : World} (hG : p.G B B0 w0 L vs w) (hL : L i = false) (hc : zCz os.toArray L) : Bq w o.b o.m o.F0 := by
 have := hG.old _ ho
 rcases hk with hk | hk
 ·rw [hk] at this; simpa using this
 ·rw [zEr hc hk hL] at this; exact this

theorem zCd {o : Ob} {off : Nat} {x : Operand} (hp : p.Ok B B0) (hF : p.Free i) (hg : GdQ os a p B B0 w0 af gd) (ho : o ∈ p.old) (hk : o.F1 = o.F0 ∨ zBk os 9 o.k i = true) (hoff : off + 2 ≤ o.m)
  (hx : SrcQ os a p B B0 w0 af x fun u _ => u = .pointer (some ⟨o.b, off, none⟩)) (hC : ∀ (us : List Value) (w : World), us.length = o.m → o.F0.P (.agg us.toArray) w → (p.c i).P (.agg #[us.getD off undef, us.getD (off + 1) undef]) w) :
  zAr os Q a p B B0 w0 i { dst := d, op := .load 31 x, type := ty, pos := ps, after := af, guard := gd } := by
 refine zBs hp hF hg fun L vs w hG hL hc hd => ?_
 obtain ⟨us, hl, h0, hat, ht, hP⟩ := zHr ho hk hG hL hc
 have e := hx L vs w hG hd
 have c0 := (hat off (by omega)).1
 have c1 := (hat (off + 1) (by omega)).1
 refine ⟨_, ?_, hC us w hl hP⟩
 generalize (lay os.toArray L vs os.toArray.size a).eval = ρ at e
 generalize us.getD off undef = u0 at c0 ⊢
 generalize us.getD (off + 1) undef = u1 at c1 ⊢
 simp [execOp, go_sem, e, c0, c1]

theorem zAp {us : List Value} {w : World} {z : Int} (hl : us.length = 2) (h : (Fq.num z).P (.agg us.toArray) w) : Num w (.agg #[us.getD 0 undef, us.getD (0 + 1) undef]) z := by
 match us, hl with
 | [p, q], _ => exact h
def zeroInt : List Value := [.bool false, .slice none 0 0]
def zeroRat : List Value := [.bool false, .slice none 0 0, .bool false, .slice none 0 0]
theorem zB0 (n : Bool) (ao : Option Addr) (k c : Nat) : Tame [.bool n, .slice ao k c] := by
 intro u hu q e
 simp at hu
 rcases hu with rfl | rfl <;> cases e
theorem zOs {n0 : Nb} (hp : p.Ok B B0) (hi : n0 ∈ p.new) (hii : n0.i = i) (hsl : n0.s = none) (hm : n0.m = 2) (hk : zBk os 9 n0.k i = true) (hki : n0.k ≠ i) (hC : ∀ v w', (p.c i).P v w') (h1 : ∀ o ∈ p.old, o.k ≠ i) (h2 : ∀ n ∈ p.new, n.k ≠ i) (hF : ∀ w', n0.F0.P (.agg zeroInt.toArray) w') :
  zAr os Q a p B B0 w0 i { dst := d, op := .alloc 31, type := ty, pos := ps, after := af, guard := none } := by
 subst hii
 intro hio L vs w hG hL hd hc
 exact zK2 hio ⟨_, rfl, hG.alloc hp hi hsl (zEr hc hk hL) hki hC h1 h2 _ (us := zeroInt) hm.symm (by omega) (zB0 _ _ _ _) hF⟩

def IntV (F : Fq) (v : Value) (w : World) : Prop := ∃ n ao k c, v = .agg #[.bool n, .slice ao k c] ∧ F.P v w
theorem zEp {v : Value} {w : World} {z : Int} (h : Num w v z) : IntV (Fq.num z) v w := by
 obtain ⟨n, ao, k, c, e⟩ := h.parts
 exact ⟨n, ao, k, c, e, h⟩
theorem zK3 {ops : Array Oper} {K : Act → World → Prop} {w : World} {x y : Operand} {b : Nat} {us : List Value} {n' : Bool} {a' : Option Addr} {k' c' : Nat} (ho : ops[i]? = some { dst := d, op := .store 31 x y, type := ty, pos := ps, after := af, guard := none }) (hx : a.eval x = .pointer (some ⟨b, 0, none⟩)) (hy : a.eval y = .agg #[.bool n', .slice a' k' c']) (hat : At w b us) (hl : us.length = 2)
  (h : K (a.put d undef) (putFrom w b 0 [.bool n', .slice a' k' c'])) : wpOp Tryz.prog ops Q i K a w :=
 zIs (p := us.getD 0 undef) (q := us.getD 1 undef) ho hx hy ⟨(hat 0 (by omega)).1, (hat 1 (by omega)).1, (hat 0 (by omega)).2, (hat 1 (by omega)).2⟩ h

theorem zO1 {n0 : Nb} {x y : Operand} (hp : p.Ok B B0) (hi : n0 ∈ p.new) (hki : n0.k = i) (hsl : n0.s = none) (hm : n0.m = 2) (hx : ∀ L vs w, p.G B B0 w0 L vs w → (∀ e ∈ af, Region.binds .any e = true → L e.on = true) → L n0.i = true ∧ (lay os.toArray L vs os.toArray.size a).eval x = vs n0.i) (hy : SrcQ os a p B B0 w0 af y (IntV n0.F1))
  (hC : ∀ v w', (p.c i).P v w') (h1 : ∀ o ∈ p.old, o.k ≠ i) (h2 : ∀ n ∈ p.new, n.i ≠ i) : zAr os Q a p B B0 w0 i { dst := none, op := .store 31 x y, type := ty, pos := ps, after := af, guard := none } := by
 subst hki
 intro hio L vs w hG hL hd hc
 obtain ⟨hLi, hxe⟩ := hx L vs w hG hd
 obtain ⟨n, ao, k, c, e, hP⟩ := hy L vs w hG hd
 obtain ⟨b, e1', e2, us, g1, g2, g3, g4, g5⟩ := hG.new _ hi hLi
 have e1 : vs n0.i = .pointer (some ⟨b, 0, none⟩) := by rw [e1']; unfold Nb.ptr; rw [hsl]
 rw [e] at hP
 exact zK3 hio (hxe.trans e1) e g3 (by omega) ⟨undef, rfl, hG.storeNew hp hi hLi (us := [.bool n, .slice ao k c]) hm.symm (zB0 _ _ _ _) hP hC h1 h2 e1' _⟩

theorem own_ptr {i0 : Nat} (ha : zBd (os.map (·.dst)) = true) (hj : (os.map (·.dst))[i0]? = some (some s)) (hs : s < a.tmps.size) (hdep : depA af i0 = true) : ∀ L vs w, p.G B B0 w0 L vs w → (∀ e ∈ af, Region.binds .any e = true → L e.on = true) → L i0 = true ∧ (lay os.toArray L vs os.toArray.size a).eval (.tmp s) = vs i0 := by
 intro L vs w hG hd
 have hLj := zGn hdep hd
 exact ⟨hLj, zEq ha hLj hj hs⟩

theorem zFg {o0 : Ob} {x y : Operand} (hp : p.Ok B B0) (hi : o0 ∈ p.old) (hki : o0.k = i) (hm : o0.m = 2) (hx : SrcQ os a p B B0 w0 af x fun u _ => u = .pointer (some ⟨o0.b, 0, none⟩)) (hy : SrcQ os a p B B0 w0 af y (IntV o0.F1))
  (hC : ∀ v w', (p.c i).P v w') (h2 : ∀ n ∈ p.new, n.i ≠ i ∧ n.k ≠ i) : zAr os Q a p B B0 w0 i { dst := none, op := .store 31 x y, type := ty, pos := ps, after := af, guard := none } := by
 subst hki
 intro hio L vs w hG hL hd hc
 obtain ⟨n, ao, k, c, e, hP⟩ := hy L vs w hG hd
 obtain ⟨us, g1, g2, g3, g4, g5⟩ := hG.old _ hi
 rw [e] at hP
 exact zK3 hio (hx L vs w hG hd) e g3 (by omega) ⟨undef, rfl, hG.storeOld hp hi (us := [.bool n, .slice ao k c]) hm.symm (zB0 _ _ _ _) hP hC h2 _⟩

theorem zAl {T k b off off' : Nat} {x : Operand} (hp : p.Ok B B0) (hF : p.Free i) (hg : GdQ os a p B B0 w0 af gd) (hx : SrcQ os a p B B0 w0 af x fun u _ => u = .pointer (some ⟨b, off, none⟩))
  (hr : ∀ (ρ : Operand → Value) (w : World), ρ x = .pointer (some ⟨b, off, none⟩) → (execOp ρ { dst := d, op := .fieldAddr T x k, type := ty, pos := ps, after := af, guard := gd }).run Tryz.prog w = .ok (.value (.pointer (some ⟨b, off', none⟩))) w) (hC : ∀ w, (p.c i).P (.pointer (some ⟨b, off', none⟩)) w) :
  zAr os Q a p B B0 w0 i { dst := d, op := .fieldAddr T x k, type := ty, pos := ps, after := af, guard := gd } :=
 zAf hp hF hg hx fun ρ w _ h => ⟨_, hr ρ w h, hC w⟩

end

def freeB (len : Nat) (ks : List (Option (Nat × Fq))) (new : List Nb) (i : Nat) : Bool := !(zC6 ks len).contains i && new.all (fun n => n.i != i && n.k != i)

theorem zFx {C : List Fq} {bs : List (Nat × Nat × Fq)} {ks : List (Option (Nat × Fq))} {new : List Nb} {len i : Nat} (h : (zC6 ks len).contains i = false) : ∀ o ∈ (plq C bs ks new len).old, o.k ≠ i := fun o ho e => by
 have h1 := zFv ho
 rw [e] at h1
 have h2 := List.contains_iff_mem.2 h1
 rw [h] at h2
 cases h2

theorem newk_ne {C : List Fq} {bs : List (Nat × Nat × Fq)} {ks : List (Option (Nat × Fq))} {new : List Nb} {len i : Nat} (h : new.all (fun n => n.k != i) = true) : ∀ n ∈ (plq C bs ks new len).new, n.k ≠ i := fun n hn e => by
 have := List.all_eq_true.1 h n hn
 simp [e] at this

theorem newi_ne {C : List Fq} {bs : List (Nat × Nat × Fq)} {ks : List (Option (Nat × Fq))} {new : List Nb} {len i : Nat} (h : new.all (fun n => n.i != i) = true) : ∀ n ∈ (plq C bs ks new len).new, n.i ≠ i := fun n hn e => by
 have := List.all_eq_true.1 h n hn
 simp [e] at this

theorem zB7 {C : List Fq} {bs : List (Nat × Nat × Fq)} {ks : List (Option (Nat × Fq))} {new : List Nb} {len i : Nat} (h : new.all (fun n => n.i != i && n.k != i) = true) : ∀ n ∈ (plq C bs ks new len).new, n.i ≠ i ∧ n.k ≠ i := fun n hn => by
 have := List.all_eq_true.1 h n hn
 simpa using this

theorem zD3 {C : List Fq} {bs : List (Nat × Nat × Fq)} {ks : List (Option (Nat × Fq))} {new : List Nb} {len i : Nat} (h : freeB len ks new i = true) : (plq C bs ks new len).Free i := by
 simp only [freeB, Bool.and_eq_true, Bool.not_eq_true'] at h
 exact ⟨zFx h.1, zB7 h.2⟩

theorem Fr.box {w0 W : World} {bs : List (Nat × Nat × Fq)} (h : Fr w0 bs W) (k : Nat) {b m : Nat} {F : Fq} (hk : bs[k]? = some (b, m, F)) : Bq W b m F := (h.boxes _ (List.mem_of_getElem? hk)).2

theorem zD0 {w : World} {b : Nat} {z : Int} (h : Bq w b 2 (Fq.num z)) : ∃ p q, w.cell? ⟨b, 0, none⟩ = some p ∧ w.cell? ⟨b, 1, none⟩ = some q ∧ Num w (.agg #[p, q]) z := by
 obtain ⟨us, hl, _, hat, _, hP⟩ := h
 match us, hl, hat with
 | [p, q], _, hat => exact ⟨p, q, (hat 0 (by simp)).1, (hat 1 (by simp)).1, hP⟩

theorem Pair.zero (w : World) : Pair w (.agg zeroRat.toArray) 0 0 := ⟨_, _, _, _, rfl, Num.zero w, Num.zero w⟩

theorem zCu (w : World) {m : Nat} {F : Fq} {us : List Value} (t : TypeId) (hl : us.length = m) (h0 : 0 < m) (ht : Tame us) (hF : F.P (.agg us.toArray) w) : ∃ w' b, w' = w.alloc (.cells us.toArray t) ∧ b = w.heap.size ∧ w'.heap.size = w.heap.size + 1 ∧ Fr w [(b, m, F)] w' :=
 ⟨_, _, rfl, rfl, World.size_alloc _ _, (Fr.start w).push t hl h0 ht hF⟩
theorem zDf {w W : World} {bs : List (Nat × Nat × Fq)} (E : Fr w bs W) {k : Nat} (hk : W.heap.size = k) {m : Nat} {F : Fq} {us : List Value} (t : TypeId) (hl : us.length = m) (h0 : 0 < m) (ht : Tame us) (hF : F.P (.agg us.toArray) W) : ∃ w' b, w' = W.alloc (.cells us.toArray t) ∧ b = k ∧ w'.heap.size = k + 1 ∧ Fr w ((b, m, F) :: bs) w' :=
 ⟨_, _, rfl, rfl, by rw [World.size_alloc, hk], by rw [← hk]; exact E.push t hl h0 ht hF⟩

section
variable {os : List Oper} {Q : Exit → Act → World → Prop} {a : Act} {p : Pq} {B B0 : Nat} {w0 : World}
variable {i s : Nat} {d : Option Tmp} {ty : TypeId} {ps : String} {af : Array Edge} {gd : Option (Nat × Bool)}
theorem fo {C : List Fq} {bs : List (Nat × Nat × Fq)} {ks : List (Option (Nat × Fq))} {new : List Nb} {len i : Nat} (h : freeB len ks new i = true := by exact rfl) : (plq C bs ks new len).Free i := zD3 h
theorem tv : True := ⟨⟩
theorem qa (b off off' : Nat) {T k : Nat} {x : Operand} (hp : p.Ok B B0) (hx : SrcQ os a p B B0 w0 af x fun u _ => u = .pointer (some ⟨b, off, none⟩)) (hF : p.Free i := by exact zD3 rfl)
  (hr : ∀ (ρ : Operand → Value) (w : World), ρ x = .pointer (some ⟨b, off, none⟩) → (execOp ρ { dst := d, op := .fieldAddr T x k, type := ty, pos := ps, after := af, guard := none }).run Tryz.prog w = .ok (.value (.pointer (some ⟨b, off', none⟩))) w := by intro ρ w h; simp [execOp, go_sem, h])
  (hC : ∀ w, (p.c i).P (.pointer (some ⟨b, off', none⟩)) w := by exact fun _ => rfl) : zAr os Q a p B B0 w0 i { dst := d, op := .fieldAddr T x k, type := ty, pos := ps, after := af, guard := none } := zAl hp hF trivial hx hr hC
theorem lI (off : Nat) {o : Ob} {x : Operand} (hp : p.Ok B B0) (ho : o ∈ p.old) (hx : SrcQ os a p B B0 w0 af x fun u _ => u = .pointer (some ⟨o.b, off, none⟩)) (hC : ∀ (us : List Value) (w : World), us.length = o.m → o.F0.P (.agg us.toArray) w → (p.c i).P (.agg #[us.getD off undef, us.getD (off + 1) undef]) w)
  (hk : o.F1 = o.F0 ∨ zBk os 9 o.k i = true := by exact .inl rfl) (hoff : off + 2 ≤ o.m := by exact Nat.le_of_ble_eq_true rfl) (hF : p.Free i := by exact zD3 rfl) : zAr os Q a p B B0 w0 i { dst := d, op := .load 31 x, type := ty, pos := ps, after := af, guard := none } := zCd hp hF trivial ho hk hoff hx hC
theorem sN (j : Nat) {n0 : Nb} {s' : Nat} (hp : p.Ok B B0) (hi : n0 ∈ p.new) (hki : n0.k = i := by exact rfl) (hsl : n0.s = none := by exact rfl) (hm : n0.m = 2 := by exact rfl) (ha : zBd (os.map (·.dst)) = true := by exact rfl) (hj0 : (os.map (·.dst))[n0.i]? = some (some s') := by exact rfl) (hs0 : s' < a.tmps.size := by simp) (hd0 : depA af n0.i = true := by exact rfl) (hj : (os.map (·.dst))[j]? = some (some s) := by exact rfl) (hs : s < a.tmps.size := by simp) (hdep : depA af j = true := by exact rfl) (hV : ∀ v w, (p.c j).P v w → IntV n0.F1 v w := by exact fun v w h => zEp h)
  (hC : ∀ v w', (p.c i).P v w' := by exact fun _ _ => trivial) (h1 : ∀ o ∈ p.old, o.k ≠ i := by exact zFx rfl) (h2 : ∀ n ∈ p.new, n.i ≠ i := by exact newi_ne rfl) : zAr os Q a p B B0 w0 i { dst := none, op := .store 31 (.tmp s') (.tmp s), type := ty, pos := ps, after := af, guard := none } := zO1 hp hi hki hsl hm (own_ptr ha hj0 hs0 hd0) (zBw j ha hj hs hdep hV) hC h1 h2
theorem aN {n0 : Nb} (hp : p.Ok B B0) (hi : n0 ∈ p.new) (hii : n0.i = i := by exact rfl) (hsl : n0.s = none := by exact rfl) (hm : n0.m = 2 := by exact rfl) (hk : zBk os 9 n0.k i = true := by exact rfl) (hki : n0.k ≠ i := by exact Nat.ne_of_beq_eq_false rfl) (hC : ∀ v w', (p.c i).P v w' := by exact fun _ _ => trivial) (h1 : ∀ o ∈ p.old, o.k ≠ i := by exact zFx rfl) (h2 : ∀ n ∈ p.new, n.k ≠ i := by exact newk_ne rfl) (hF : ∀ w', n0.F0.P (.agg zeroInt.toArray) w' := by exact fun w => Num.zero w) :
  zAr os Q a p B B0 w0 i { dst := d, op := .alloc 31, type := ty, pos := ps, after := af, guard := none } := zOs hp hi hii hsl hm hk hki hC h1 h2 hF
theorem sP (j : Nat) {o0 : Ob} {x : Operand} (hp : p.Ok B B0) (hi : o0 ∈ p.old) (hx : SrcQ os a p B B0 w0 af x fun u _ => u = .pointer (some ⟨o0.b, 0, none⟩)) (hki : o0.k = i := by exact rfl) (hm : o0.m = 2 := by exact rfl) (ha : zBd (os.map (·.dst)) = true := by exact rfl) (hj : (os.map (·.dst))[j]? = some (some s) := by exact rfl) (hs : s < a.tmps.size := by simp) (hdep : depA af j = true := by exact rfl) (hV : ∀ v w, (p.c j).P v w → IntV o0.F1 v w := by exact fun v w h => zEp h)
  (hC : ∀ v w', (p.c i).P v w' := by exact fun _ _ => trivial) (h2 : ∀ n ∈ p.new, n.i ≠ i ∧ n.k ≠ i := by exact zB7 rfl) : zAr os Q a p B B0 w0 i { dst := none, op := .store 31 x (.tmp s), type := ty, pos := ps, after := af, guard := none } := zFg hp hi hki hm hx (zBw j ha hj hs hdep hV) hC h2
theorem wXa (F : Fq) {x : Operand} {f : FuncId} {ts : Array TypeId} (hp : p.Ok B B0) (hen : ∀ args w, (callFunc f args).run Tryz.prog w = .ok (.enter f args) w)
  (hx : SrcQ os a p B B0 w0 af x F.P) (hC : ∀ v w, F.P v w → Calls Tryz.prog f #[v] w fun e w' => ∃ v', e = .returned v' ∧ Below w.heap.size w w' ∧ (p.c i).P v' w') (hF : p.Free i := by exact zD3 rfl) :
  zAr os Q a p B B0 w0 i { dst := d, op := .call { callee := .value (.func f), args := #[x], argTypes := ts }, type := ty, pos := ps, after := af, guard := none } := zAn hp hF trivial hen hx hC
theorem wXb (F G : Fq) {x y : Operand} {f : FuncId} {ts : Array TypeId} (hp : p.Ok B B0) (hen : ∀ args w, (callFunc f args).run Tryz.prog w = .ok (.enter f args) w)
  (hx : SrcQ os a p B B0 w0 af x F.P) (hy : SrcQ os a p B B0 w0 af y G.P) (hC : ∀ v v' w, F.P v w → G.P v' w → Calls Tryz.prog f #[v, v'] w fun e w' => ∃ v', e = .returned v' ∧ Below w.heap.size w w' ∧ (p.c i).P v' w') (hF : p.Free i := by exact zD3 rfl) :
  zAr os Q a p B B0 w0 i { dst := d, op := .call { callee := .value (.func f), args := #[x, y], argTypes := ts }, type := ty, pos := ps, after := af, guard := none } := zAx hp hF trivial hen hx hy hC
theorem rg {id : Nat} {dr : Bool} (C : List Fq) {bs : List (Nat × Nat × Fq)} (ks : List (Option (Nat × Fq))) (new : List Nb) {W : World} (E : Fr w0 bs W)
  (hs : (plq C bs ks new os.length).Ok w0.heap.size W.heap.size → AllOps (zAr os Q a (plq C bs ks new os.length) w0.heap.size W.heap.size w0) os 0)
  (hf : ∀ L vs W' (nb : Nat → Nat), (∀ j, j < os.length → L j = true) → (∀ j, j < os.length → ((C[j]?).getD Fq.any).P (vs j) W') → (∀ n ∈ new, vs n.i = n.ptr (nb n.i)) → Fr w0 (new.map (fun n => (nb n.i, n.m, n.F1)) ++ zAd bs ks) W' →
   Q .normal (lay os.toArray L vs os.length a) W') (hok : okB os.length bs.length ks new = true := by exact rfl) (hm : Tryz.prog.follows .mixedOrders = true := by kernel_rfl) (ha : zBd (os.map (·.dst)) = true := by exact rfl) (hb : zDz os 0 = true := by exact rfl) : (Code.region id os.toArray dr).wp Tryz.prog Q a W := region_fr E hok hm ha hb hs hf
end
theorem LM : (∀ (f : Nb → Nat × Nat × Fq) (x : Nb) (l : List Nb), (x :: l).map f = f x :: l.map f) ∧ (∀ f : Nb → Nat × Nat × Fq, [].map f = []) ∧ (∀ l : List (Nat × Nat × Fq), [] ++ l = l) ∧ (∀ (x : Nat × Nat × Fq) (l m : List (Nat × Nat × Fq)), x :: l ++ m = x :: (l ++ m)) := ⟨fun _ _ _ => rfl, fun _ => rfl, fun _ => rfl, fun _ _ _ => rfl⟩
theorem fN {w W : World} {bs : List (Nat × Nat × Fq)} (E : Fr w bs W) {k : Nat} (hk : W.heap.size = k) (t : TypeId) {n : Bool} {ao : Option Addr} {l c : Nat} {z : Int} (h : Num w (.agg #[.bool n, .slice ao l c]) z) : ∃ w' b, w' = W.alloc (.cells ([.bool n, .slice ao l c] : List Value).toArray t) ∧ b = k ∧ w'.heap.size = k + 1 ∧ Fr w ((b, ([.bool n, .slice ao l c] : List Value).length, Fq.num z) :: bs) w' := zDf E hk (F := Fq.num z) (us := [.bool n, .slice ao l c]) t rfl (by simp) (zB0 _ _ _ _) (h.mono E.below)
theorem fZ {w W : World} {bs : List (Nat × Nat × Fq)} (E : Fr w bs W) {k : Nat} (hk : W.heap.size = k) (t : TypeId) : ∃ w' b, w' = W.alloc (.cells ([.bool false, .slice none 0 0] : List Value).toArray t) ∧ b = k ∧ w'.heap.size = k + 1 ∧ Fr w ((b, ([.bool false, .slice none 0 0] : List Value).length, Fq.num 0) :: bs) w' := zDf E hk (F := Fq.num 0) (us := [.bool false, .slice none 0 0]) t rfl (by simp) (zB0 _ _ _ _) (Num.zero _)
abbrev ip (b k : Nat) : Fq := Fq.is (.pointer (some ⟨b, k, none⟩))
abbrev yT : Fq := Fq.is (.bool true)
abbrev yF : Fq := Fq.is (.bool false)
abbrev N1 : List (Option (Nat × Fq)) := [none]
abbrev N2 : List (Option (Nat × Fq)) := none :: N1
abbrev N3 : List (Option (Nat × Fq)) := none :: N2
abbrev N4 : List (Option (Nat × Fq)) := none :: N3
abbrev N5 : List (Option (Nat × Fq)) := none :: N4
abbrev N6 : List (Option (Nat × Fq)) := none :: N5
abbrev N7 : List (Option (Nat × Fq)) := none :: N6
abbrev N8 : List (Option (Nat × Fq)) := none :: N7
abbrev N9 : List (Option (Nat × Fq)) := none :: N8
abbrev N10 : List (Option (Nat × Fq)) := none :: N9
abbrev N11 : List (Option (Nat × Fq)) := none :: N10
abbrev N12 : List (Option (Nat × Fq)) := none :: N11
abbrev N13 : List (Option (Nat × Fq)) := none :: N12
abbrev N14 : List (Option (Nat × Fq)) := none :: N13
abbrev N15 : List (Option (Nat × Fq)) := none :: N14
abbrev N16 : List (Option (Nat × Fq)) := none :: N15
abbrev N17 : List (Option (Nat × Fq)) := none :: N16
abbrev N18 : List (Option (Nat × Fq)) := none :: N17
abbrev N19 : List (Option (Nat × Fq)) := none :: N18
abbrev N20 : List (Option (Nat × Fq)) := none :: N19
abbrev N21 : List (Option (Nat × Fq)) := none :: N20
abbrev N22 : List (Option (Nat × Fq)) := none :: N21
abbrev N23 : List (Option (Nat × Fq)) := none :: N22
abbrev N24 : List (Option (Nat × Fq)) := none :: N23
abbrev N25 : List (Option (Nat × Fq)) := none :: N24
abbrev N26 : List (Option (Nat × Fq)) := none :: N25
abbrev N27 : List (Option (Nat × Fq)) := none :: N26
abbrev N28 : List (Option (Nat × Fq)) := none :: N27
abbrev N29 : List (Option (Nat × Fq)) := none :: N28
abbrev N30 : List (Option (Nat × Fq)) := none :: N29

end Go.Proofs.YtdhkhedhnolcjaaGreat
namespace Go.Proofs.YtdhkhedhnolcjaaGreat
open Go

end Go.Proofs.YtdhkhedhnolcjaaGreat
namespace Go.Proofs.YtdhkhedhnolcjaaGreat
open Go Go.RowKit

set_option maxRecDepth 20000 in
set_option maxHeartbeats 1000000 in
theorem rNeg_any (w : World) (na : Bool) (ax : Option Addr) (n cx : Nat) (xs : List Int) (hX : Sl w ax n cx xs) (hb1 : n ≤ 4000000) :
  Calls Tryz.prog 40 #[.agg #[.bool na, .slice ax n cx]] w (zA4 w (-sgn na (val xs))) := by
 go_enter Tryz.func40, Tryz.ntmps40
 obtain ⟨w0, hw0, hA, hC, hbl, HS⟩ := zGi w (.bool na) (.slice ax n cx) 31
 have hX0 := hX.mono hbl
 obtain ⟨ca0, ca1, _, _⟩ := hA
 go_wp2_with fail
 rw [← hw0]
 clear hw0
 refine (zDi _ _ _ _ _ _ hX0 (by omega)).mono ?_
 rintro e w3 ⟨v, rfl, ⟨ng, ao, nn, cc, rs, rfl, hrs, hrc, hrn, hrz⟩, hb3⟩
 obtain ⟨e0, e1, e2, e3⟩ := hC.mono hb3 hC.lt
 have hb4 : Below w.heap.size w w3 := hbl.trans (hb3.mono hbl.size)
 have hz : -sgn na (val xs) = sgn ng (val rs) := by rw [← hrz, sgn_not]
 have HZ := hidd hz
 clear hrz hz
 go_wp2
 refine bodyPost_ret (v := .agg #[.bool ng, .slice ao nn cc]) ?_ rfl ?_
 ·simp [results, Tryz.results40, go_sem, e0, e1]
 ·exact zBv ⟨e0, e1, e2, e3⟩ hrs hrc hrn HZ.out hb4 (by omega)

set_option maxRecDepth 20000 in
set_option maxHeartbeats 1000000 in
theorem rAbs_any (w : World) (na : Bool) (ax : Option Addr) (n cx : Nat) (xs : List Int) (hX : Sl w ax n cx xs) (hb1 : n ≤ 4000000) :
  Calls Tryz.prog 68 #[.agg #[.bool na, .slice ax n cx]] w (zA4 w (val xs)) := by
 go_enter Tryz.func68, Tryz.ntmps68
 obtain ⟨w0, hw0, hA, hC, hbl, HS⟩ := zGi w (.bool na) (.slice ax n cx) 31
 have hX0 := hX.mono hbl
 obtain ⟨ca0, ca1, _, _⟩ := hA
 go_wp2_with fail
 rw [← hw0]
 clear hw0
 refine (zDi _ _ _ _ _ _ hX0 (by omega)).mono ?_
 rintro e w3 ⟨v, rfl, ⟨ng, ao, nn, cc, rs, rfl, hrs, hrc, hrn, hrz⟩, hb3⟩
 obtain ⟨e0, e1, e2, e3⟩ := hC.mono hb3 hC.lt
 have hb4 : Below w.heap.size w w3 := hbl.trans (hb3.mono hbl.size)
 have hz : val xs = sgn ng (val rs) := by rw [← hrz]; rfl
 have HZ := hidd hz
 clear hrz hz
 go_wp2
 refine bodyPost_ret (v := .agg #[.bool ng, .slice ao nn cc]) ?_ rfl ?_
 ·simp [results, Tryz.results68, go_sem, e0, e1]
 ·exact zBv ⟨e0, e1, e2, e3⟩ hrs hrc hrn HZ.out hb4 (by omega)

theorem RNegV {w : World} {v : Value} {z : Int} (h : Num w v z) : Calls Tryz.prog 40 #[v] w (zA4 w (-z)) := by
 obtain ⟨neg, ao, n, c, xs, rfl, hs, hn, rfl, _⟩ := h
 exact rNeg_any _ _ _ _ _ _ hs (by omega)

theorem sgn_absR (b : Bool) {v : Int} (h : 0 ≤ v) : ((sgn b v).natAbs : Int) = v := by cases b <;> simp [sgn] <;> omega

theorem zBl {w : World} {v : Value} {z : Int} (h : Num w v z) : Calls Tryz.prog 68 #[v] w (zA4 w (z.natAbs : Int)) := by
 obtain ⟨neg, ao, n, c, xs, rfl, hs, hn, rfl, _⟩ := h
 rw [sgn_absR _ (zAv hs.digs)]
 exact rAbs_any _ _ _ _ _ _ hs (by omega)

theorem Num.sign {w : World} {n : Bool} {ao : Option Addr} {k c : Nat} {z : Int} (h : Num w (.agg #[.bool n, .slice ao k c]) z) : ∃ xs, Sl w ao k c xs ∧ Canon xs ∧ k ≤ 900000 ∧ z = sgn n (val xs) ∧ 0 ≤ val xs ∧ (k = 0 ↔ z = 0) ∧ (n = true → z < 0) ∧ (n = false → 0 ≤ z) := by
 obtain ⟨neg, ao', k', c', xs, hv, hs, hn, hz, hc, hnn⟩ := h
 obtain ⟨rfl, rfl, rfl, rfl⟩ : n = neg ∧ ao = ao' ∧ k = k' ∧ c = c' := by
  simp at hv; exact ⟨hv.1, hv.2.1, hv.2.2.1, hv.2.2.2⟩
 have h0 := zAv hs.digs
 have h1 := hc.zero
 rw [hs.len] at h1
 refine ⟨xs, hs, hc, hn, hz, h0, ?_, ?_, ?_⟩
 ·rw [h1, hz]; cases n <;> simp [sgn]
 ·rintro rfl
  have h2 : val xs ≠ 0 := fun h => hnn rfl (h1.2 h)
  rw [hz]; simp [sgn]; omega
 ·rintro rfl
  rw [hz]; simp [sgn]; exact h0

set_option maxRecDepth 20000 in
set_option maxHeartbeats 1000000 in
theorem RSignV {w : World} {v : Value} {z : Int} (h : Num w v z) : Calls Tryz.prog 59 #[v] w fun e w' => e = .returned (.int .i64 (cmpI z 0)) ∧ Below w.heap.size w w' := by
 obtain ⟨n, ao, k, c, rfl⟩ := h.parts
 obtain ⟨xs, hs, hc, hk, hz, h0, hkz, hneg, hpos⟩ := h.sign
 by_cases hk0 : k = 0
 ·have HV : Hid (cmpI z 0 = 0) := by
   have := hkz.1 hk0
   show cmpI z 0 = 0
   rw [this]; rfl
  subst hk0
  clear hkz hneg hpos hz h
  go_enter Tryz.func59, Tryz.ntmps59
  go_wp2
  go_ret
  exact ⟨by rw [HV.out]; rfl, zAw _ _⟩
 ·have hk1 : ((k : Int) == 0) = false := by simp; omega
  have hz0 : z ≠ 0 := fun h => hk0 (hkz.2 h)
  cases n
  ·have HV : Hid (cmpI z 0 = 1) := by
    have := hpos rfl
    show cmpI z 0 = 1
    unfold cmpI; rw [if_neg (by omega), if_neg hz0]
   clear hkz hneg hpos hz h hz0 hk0
   go_enter Tryz.func59, Tryz.ntmps59
   go_wp2
   go_ret
   exact ⟨by rw [HV.out]; rfl, zAw _ _⟩
  ·have HV : Hid (cmpI z 0 = -1) := by
    have := hneg rfl
    show cmpI z 0 = -1
    unfold cmpI; rw [if_pos this]
   clear hkz hneg hpos hz h hz0 hk0
   go_enter Tryz.func59, Tryz.ntmps59
   go_wp2
   go_ret
   exact ⟨by rw [HV.out]; rfl, zAw _ _⟩

set_option maxRecDepth 20000 in
set_option maxHeartbeats 1000000 in
theorem RCmpV {w : World} {v v' : Value} {z z' : Int} (h : Num w v z) (h' : Num w v' z') : Calls Tryz.prog 50 #[v, v'] w fun e w' => e = .returned (.int .i64 (cmpI z z')) ∧ Below w.heap.size w w' := by
 obtain ⟨n, ao, k, c, rfl⟩ := h.parts
 obtain ⟨n', ao', k', c', rfl⟩ := h'.parts
 obtain ⟨xs, hs, hc, hk, hz, h0, hkz, hneg, hpos⟩ := h.sign
 obtain ⟨ys, hs', hc', hk', hz', h0', hkz', hneg', hpos'⟩ := h'.sign
 obtain ⟨w0, hw0, hbl, hsz⟩ : ∃ w0, w0 = (w.alloc (.cells #[.bool n, .slice ao k c] 31)).alloc (.cells #[.bool n', .slice ao' k' c'] 31) ∧ Below w.heap.size w w0 ∧ w0.heap.size = w.heap.size + 2 :=
  ⟨_, rfl, (zAw _ _).trans ((zAw _ _).mono (by simp)), by simp⟩
 have hX := hs.mono hbl
 have hY := hs'.mono hbl
 cases n <;> cases n'
 ·have HV : Hid (cmpI (val xs) (val ys) = cmpI z z') := by
   show _ = _
   rw [hz, hz']; rfl
  clear hkz hneg hpos hz h hkz' hneg' hpos' hz' h'
  go_enter Tryz.func50, Tryz.ntmps50
  go_wp2_with fail
  rw [← hw0]
  clear hw0
  refine (zHh _ _ _ _ _ _ _ _ _ hX hY hc hc' (by omega) (by omega)).mono ?_
  rintro e w2 ⟨rfl, hd⟩
  go_wp2
  go_ret
  exact ⟨by rw [HV.out]; rfl, hbl.trans (hd.below _)⟩
 ·have HV : Hid (cmpI z z' = 1) := by
   have h1 := hpos rfl
   have h2 := hneg' rfl
   show _ = _
   unfold cmpI; rw [if_neg (by omega), if_neg (by omega)]
  clear hkz hneg hpos hz h hkz' hneg' hpos' hz' h'
  go_enter Tryz.func50, Tryz.ntmps50
  go_wp2
  rw [← hw0]
  go_ret
  exact ⟨by rw [HV.out]; rfl, hbl⟩
 ·have HV : Hid (cmpI z z' = -1) := by
   have h1 := hneg rfl
   have h2 := hpos' rfl
   show _ = _
   unfold cmpI; rw [if_pos (by omega)]
  clear hkz hneg hpos hz h hkz' hneg' hpos' hz' h'
  go_enter Tryz.func50, Tryz.ntmps50
  go_wp2
  rw [← hw0]
  go_ret
  exact ⟨by rw [HV.out]; rfl, hbl⟩
 ·have HV : Hid (cmpI (val ys) (val xs) = cmpI z z') := by
   show _ = _
   rw [hz, hz']
   simp only [sgn, if_true]
   unfold cmpI
   split <;> split <;> (try split) <;> omega
  clear hkz hneg hpos hz h hkz' hneg' hpos' hz' h'
  go_enter Tryz.func50, Tryz.ntmps50
  go_wp2_with fail
  rw [← hw0]
  clear hw0
  refine (zHh _ _ _ _ _ _ _ _ _ hY hX hc' hc (by omega) (by omega)).mono ?_
  rintro e w2 ⟨rfl, hd⟩
  go_wp2
  go_ret
  exact ⟨by rw [HV.out]; rfl, hbl.trans (hd.below _)⟩

end Go.Proofs.YtdhkhedhnolcjaaGreat

namespace Go.Proofs.YtdhkhedhnolcjaaGreat
open Go Go.RowKit

theorem zEj (w : World) (ax : Option Addr) (n c : Nat) (xs : List Int) (hX : Sl w ax n c xs) (_ : n ≤ 4000000) (k : Nat) (_ : k ≤ 9000000) (x : Int) (hx : xs.getD k 0 = x) :
  Calls Tryz.prog 99 #[.slice ax n c, .int .i64 k] w fun e w' => e = .returned (.int .u64 x) ∧ w = w' := by
 have hl := hX.len
 by_cases h : k < n
 ·obtain ⟨b, off, rfl, hbl, x', hxc, hx0, hx1, HX⟩ := hX.cells.at (k := k) (by omega)
  rw [HX.out] at hx
  subst hx
  have h1 : decide ((k : Int) ≥ (n : Int)) = false := by simp; omega
  have h2 : ¬ ((k : Int) < 0) := by omega
  clear hl
  go_enter Tryz.func99, Tryz.ntmps99
  go_wp2
  go_ret
  exact ⟨rfl, rfl⟩
 ·have h0 : x = 0 := by rw [← hx]; exact zDg (by omega)
  subst h0
  have h1 : decide ((k : Int) ≥ (n : Int)) = true := by simp; omega
  clear hl hx hX
  go_enter Tryz.func99, Tryz.ntmps99
  go_wp2
  go_ret
  exact ⟨rfl, rfl⟩

theorem zPn (w : World) (ax : Option Addr) (n c : Nat) (k : Int) (_ : k < 0) (_ : -9000000 ≤ k) :
  Calls Tryz.prog 99 #[.slice ax n c, .int .i64 k] w fun e w' => e = .returned (.int .u64 0) ∧ w = w' := by
 go_enter Tryz.func99, Tryz.ntmps99
 go_wp2
 go_ret
 exact ⟨rfl, rfl⟩

def Ow (W : World) (B : Nat) (v : Value) (zs : List Int) : Prop := W.ownsRow B 93 1 v zs.length (zs.map (Value.int .u32)) ∧ Digs zs

theorem Ow.shape {W : World} {B : Nat} {v : Value} {zs : List Int} (h : Ow W B v zs) : ∃ ao cap, v = .slice ao zs.length cap := by
 rcases h.1.2 with ⟨rfl, h0⟩ | ⟨g, cap, cur, rfl, _⟩
 ·exact ⟨none, 0, by rw [h0]⟩
 ·exact ⟨_, _, rfl⟩

theorem Ow.start (w : World) : Ow (w.alloc (.cells #[] 93)) w.heap.size (.slice (some ⟨w.heap.size, 0, none⟩) 0 0) [] :=
 ⟨⟨rfl, .inr ⟨w.heap.size, 0, #[], rfl, Nat.le_refl _, heap_alloc_new _ _, Nat.le_refl _, Nat.zero_le _, rfl, rfl⟩⟩, fun _ h => by simp at h⟩

theorem Ow.sl {W : World} {B : Nat} {v : Value} {zs : List Int} (h : Ow W B v zs) : ∃ ao c, v = .slice ao zs.length c ∧ Sl W ao zs.length c zs := own_sl h.1 h.2

theorem Ow.step {w wr w1 : World} {v v' : Value} {zs : List Int} {d : Int} {o : Obj} (h : Ow wr w.heap.size v zs) (hnx : Below w.heap.size w wr) (hd0 : 0 ≤ d) (hd1 : d < 4294967296)
  (hown' : w1.ownsRow w.heap.size 93 1 v' (zs.length + 1) (zs.map (Value.int .u32) ++ [.int .u32 d])) (hgrow : (wr.alloc o).grownBy w1 v.ownBlock) :
  Ow w1 w.heap.size v' (zs ++ [d]) ∧ Below w.heap.size w w1 := by
 refine ⟨⟨by simpa using hown', fun y hy => ?_⟩, ?_⟩
 ·rcases List.mem_append.1 hy with h1 | h1
  ·exact h.2 y h1
  ·simp at h1; subst h1; exact ⟨hd0, hd1⟩
 ·have hs := hnx.size
  exact (hnx.alloc hs o).grown hgrow (by simp; omega) (fun j hj => (World.ownsRow.lt h.1 j hj).1)

theorem zHl (zs : List Int) (d : Int) : val (zs ++ [d]) = val zs + pw zs.length * d := by
 rw [zJg]
 show _ + _ * (d + 4294967296 * 0) = _
 rw [Int.mul_zero, Int.add_zero]

theorem plus_step {k : Nat} {zs xs ys : List Int} {q x y : Int} (hk : zs.length = k) (h : val zs + pw k * q = val (xs.take k) + val (ys.take k)) (hx : xs.getD k 0 = x) (hy : ys.getD k 0 = y) :
  val (zs ++ [(q + (x + y)) % 4294967296]) + pw (k + 1) * ((q + (x + y)) / 4294967296) = val (xs.take (k + 1)) + val (ys.take (k + 1)) := by
 rw [zHl, hk, zAu, zAu, hx, hy]
 have h1 := zC7 k (q + (x + y))
 rw [Int.mul_add, Int.mul_add] at h1
 omega

set_option maxRecDepth 20000 in
set_option maxHeartbeats 1000000 in
theorem plus_any (w : World) (ax ay : Option Addr) (n m cx cy : Nat) (xs ys : List Int) (hX : Sl w ax n cx xs) (hY : Sl w ay m cy ys) (hb1 : n ≤ 2000000) (hb2 : m ≤ 2000000) :
  Calls Tryz.prog 79 #[.slice ax n cx, .slice ay m cy] w fun e w' => ∃ ao c l zs, e = .returned (.slice ao l c) ∧ Sl w' ao l c zs ∧ l ≤ max n m + 1 ∧ val zs = val xs + val ys ∧ Below w.heap.size w w' := by
 obtain ⟨i0, hi, hz0, hz1, hz2⟩ := info_parts zFs
 obtain ⟨L, hL⟩ : ∃ L : Nat, L = max n m := ⟨_, rfl⟩
 have hL2 : (if n < m then (m : Int) else (n : Int)) = (L : Int) := by split <;> omega
 have hLb : L ≤ 2000000 := by omega
 have HL := hidd hL
 clear hL
 go_enter Tryz.func79, Tryz.ntmps79
 go_wp2
 go_loopw [5, 6, 7] (fun vo vc vi wr => ∃ (k : Nat) (q : Int) (zs : List Int), k ≤ L ∧ vi = .int .i64 k ∧ vc = .int .u64 q ∧ 0 ≤ q ∧ q ≤ 1 ∧ Ow wr w.heap.size vo zs ∧ zs.length = k ∧ val zs + pw k * q = val (xs.take k) + val (ys.take k) ∧ Below w.heap.size w wr) (fun _ _ vi _ => L - (intOf vi).toNat)
 case atStart => exact ⟨0, 0, [], Nat.zero_le _, rfl, rfl, by omega, by omega, Ow.start w, rfl, by simp [val], zAw _ _⟩
 case round =>
  obtain ⟨k, q, zs, hk, rfl, rfl, hq0, hq1, hO, hzl, hv, hB⟩ := hrel
  subst hzl
  have HV := hidd hv
  clear hv
  obtain ⟨ao, cap, rfl⟩ := hO.shape
  have HO := hO.1
  have hsz := hB.size
  by_cases hkL : zs.length < L
  ·obtain ⟨x, hx⟩ : ∃ x, xs.getD zs.length 0 = x := ⟨_, rfl⟩
   obtain ⟨y, hy⟩ : ∃ y, ys.getD zs.length 0 = y := ⟨_, rfl⟩
   have hxd := hX.digs.getD zs.length
   have hyd := hY.digs.getD zs.length
   rw [hx] at hxd
   rw [hy] at hyd
   have Hx := hidd hx
   have Hy := hidd hy
   clear hx hy
   go_wp2_with fail
   refine (zEj _ _ _ _ _ (hX.mono hB) (by omega) zs.length (by omega) x Hx.out).mono ?_
   rintro e w' ⟨rfl, rfl⟩
   go_wp2_with fail
   refine (zEj _ _ _ _ _ (hY.mono hB) (by omega) zs.length (by omega) y Hy.out).mono ?_
   rintro e w' ⟨rfl, rfl⟩
   go_wp2_with (first | (at_builtin; refine wpList_append_own _ rfl _ _ 22 rfl w.heap.size 93 i0 (.int .u32 0) 1 4 Tryz.underlying22 hi hz0 hz1 hz2 rfl (by decide) _ _ _ rfl (World.ownsRow.alloc HO _) ⟨_, 0, none⟩ 1 1 [.int .u32 ((q + (x + y)) % 4294967296)] rfl rfl (zG9 _ _ _) (by intro u hu; simp at hu; subst hu; rfl) (by unfold maxLen; omega) (by omega) (by simp; omega) ?_; intro v' w5 hown' hgrow _) | go_in)
   obtain ⟨hO2, hB2⟩ := hO.step hB (by omega) (by omega) hown' hgrow
   clear hown' hgrow hO hB HO hsz
   go_wp2
   go_roundw
   case rel => exact ⟨zs.length + 1, (q + (x + y)) / 4294967296, zs ++ [(q + (x + y)) % 4294967296], by omega, by go_num, by go_num, by omega, by omega, hO2, by simp, plus_step rfl HV.out Hx.out Hy.out, hB2⟩
   case measure => simp [intOf]; omega
  ·have hkl : zs.length = L := by omega
   have hqm : q % 4294967296 = q := by omega
   go_wp2_with (first | (at_builtin; refine wpList_append_own _ rfl _ _ 22 rfl w.heap.size 93 i0 (.int .u32 0) 1 4 Tryz.underlying22 hi hz0 hz1 hz2 rfl (by decide) _ _ _ rfl (World.ownsRow.alloc HO _) ⟨_, 0, none⟩ 1 1 [.int .u32 (q)] rfl rfl (zG9 _ _ _) (by intro u hu; simp at hu; subst hu; rfl) (by unfold maxLen; omega) (by omega) (by simp; omega) ?_; intro v' w5 hown' hgrow _) | go_in)
   obtain ⟨hO2, hB2⟩ := hO.step hB hq0 (by omega) hown' hgrow
   clear hown' hgrow hO hB HO hsz
   obtain ⟨ao2, c2, rfl, hS2⟩ := hO2.sl
   go_wp2
   go_ret
   refine ⟨_, _, _, _, rfl, hS2, by have := HL.out; simp; omega, ?_, hB2⟩
   have h1 := HV.out
   rw [zAy xs (by rw [hX.len]; have := HL.out; omega), zAy ys (by rw [hY.len]; have := HL.out; omega)] at h1
   rw [zHl]
   exact h1

theorem zOi {k : Nat} {zs xs ys : List Int} {q x y : Int} (hk : zs.length = k) (h : val zs = val (xs.take k) - val (ys.take k) + pw k * q) (hx : xs.getD k 0 = x) (hy : ys.getD k 0 = y) :
  val (zs ++ [(4294967296 + x - y - q) % 4294967296]) = val (xs.take (k + 1)) - val (ys.take (k + 1)) + pw (k + 1) * (1 - (4294967296 + x - y - q) / 4294967296) := by
 rw [zHl, hk, zAu, zAu, hx, hy]
 have h1 := zC7 k (4294967296 + x - y - q)
 have h2 : pw k * (4294967296 + x - y - q) = pw (k + 1) + pw k * x - pw k * y - pw k * q := by
  rw [zCv, Int.mul_sub, Int.mul_sub, Int.mul_add]
 rw [Int.mul_sub, Int.mul_one]
 omega

set_option maxRecDepth 20000 in
set_option maxHeartbeats 1000000 in
theorem zKt (w : World) (ax ay : Option Addr) (n m cx cy : Nat) (xs ys : List Int) (hX : Sl w ax n cx xs) (hY : Sl w ay m cy ys) (hcy : Canon ys) (hle : val ys ≤ val xs) (hb1 : n ≤ 2000000) (hb2 : m ≤ 2000000) :
  Calls Tryz.prog 80 #[.slice ax n cx, .slice ay m cy] w fun e w' => ∃ ao c zs, e = .returned (.slice ao n c) ∧ Sl w' ao n c zs ∧ val zs = val xs - val ys ∧ Below w.heap.size w w' := by
 obtain ⟨i0, hi, hz0, hz1, hz2⟩ := info_parts zFs
 have HCY := hidd hcy
 have HLE := hidd hle
 clear hcy hle
 go_enter Tryz.func80, Tryz.ntmps80
 go_wp2
 go_loopw [5, 6, 7] (fun vo vc vi wr => ∃ (k : Nat) (q : Int) (zs : List Int), k ≤ n ∧ vi = .int .i64 k ∧ vc = .int .u64 q ∧ 0 ≤ q ∧ q ≤ 1 ∧ Ow wr w.heap.size vo zs ∧ zs.length = k ∧ val zs = val (xs.take k) - val (ys.take k) + pw k * q ∧ Below w.heap.size w wr) (fun _ _ vi _ => n - (intOf vi).toNat)
 case atStart => exact ⟨0, 0, [], Nat.zero_le _, rfl, rfl, by omega, by omega, Ow.start w, rfl, by simp [val], zAw _ _⟩
 case round =>
  obtain ⟨k, q, zs, hk, rfl, rfl, hq0, hq1, hO, hzl, hv, hB⟩ := hrel
  subst hzl
  have HV := hidd hv
  clear hv
  obtain ⟨ao, cap, rfl⟩ := hO.shape
  have HO := hO.1
  have hsz := hB.size
  by_cases hkL : zs.length < n
  ·obtain ⟨x, hx⟩ : ∃ x, xs.getD zs.length 0 = x := ⟨_, rfl⟩
   obtain ⟨y, hy⟩ : ∃ y, ys.getD zs.length 0 = y := ⟨_, rfl⟩
   have hxd := hX.digs.getD zs.length
   have hyd := hY.digs.getD zs.length
   rw [hx] at hxd
   rw [hy] at hyd
   have Hx := hidd hx
   have Hy := hidd hy
   clear hx hy
   go_wp2_with fail
   refine (zEj _ _ _ _ _ (hX.mono hB) (by omega) zs.length (by omega) x Hx.out).mono ?_
   rintro e w' ⟨rfl, rfl⟩
   go_wp2_with fail
   refine (zEj _ _ _ _ _ (hY.mono hB) (by omega) zs.length (by omega) y Hy.out).mono ?_
   rintro e w' ⟨rfl, rfl⟩
   go_wp2_with (first | (at_builtin; refine wpList_append_own _ rfl _ _ 22 rfl w.heap.size 93 i0 (.int .u32 0) 1 4 Tryz.underlying22 hi hz0 hz1 hz2 rfl (by decide) _ _ _ rfl (World.ownsRow.alloc HO _) ⟨_, 0, none⟩ 1 1 [.int .u32 ((4294967296 + x - y - q) % 4294967296)] rfl rfl (zG9 _ _ _) (by intro u hu; simp at hu; subst hu; rfl) (by unfold maxLen; omega) (by omega) (by simp; omega) ?_; intro v' w5 hown' hgrow _) | go_in)
   obtain ⟨hO2, hB2⟩ := hO.step hB (by omega) (by omega) hown' hgrow
   clear hown' hgrow hO hB HO hsz
   go_wp2
   go_roundw
   case rel => exact ⟨zs.length + 1, 1 - (4294967296 + x - y - q) / 4294967296, zs ++ [(4294967296 + x - y - q) % 4294967296], by omega, by go_num, by go_num, by omega, by omega, hO2, by simp, zOi rfl HV.out Hx.out Hy.out, hB2⟩
   case measure => simp [intOf]; omega
  ·have hkl : zs.length = n := by omega
   obtain ⟨ao2, c2, he, hS2⟩ := hO.sl
   cases he
   rw [hkl] at hS2
   have HE : Hid (val zs = val xs - val ys) := by
    have h1 := HV.out
    have h2 := zAv hX.digs
    have h3 := zBa hX.digs
    rw [hX.len] at h3
    have h4 := HCY.out.length_le (Int.lt_of_le_of_lt HLE.out h3)
    rw [hkl, zAy xs (by rw [hX.len]; omega), zAy ys h4] at h1
    have h5 := zBa hS2.digs
    rw [hS2.len] at h5
    have h6 := HLE.out
    show val zs = _
    rcases (by omega : q = 0 ∨ q = 1) with rfl | rfl
    ·omega
    ·omega
   clear hO HO
   go_wp2
   go_ret
   exact ⟨ao, cap, zs, by show Ending.returned (.slice ao zs.length cap) = _; rw [hkl], hS2, HE.out, hB⟩

end Go.Proofs.YtdhkhedhnolcjaaGreat

namespace Go.Proofs.YtdhkhedhnolcjaaGreat
open Go Go.RowKit

def Mine (w : World) (b n : Nat) (zs : List Int) : Prop :=
 ∃ cur : Array Value, w.heap[b]? = some (.cells cur 93 (0, 0)) ∧ zs.length = n ∧ Digs zs ∧ n ≤ cur.size ∧ ∀ j, j < n → cur[j]? = some (.int .u32 (zs.getD j 0))

theorem Mine.lt {w : World} {b n : Nat} {zs : List Int} (h : Mine w b n zs) : b < w.heap.size := by
 obtain ⟨cur, h1, _⟩ := h
 exact (Array.getElem?_eq_some_iff.1 h1).1
theorem Mine.len {w : World} {b n : Nat} {zs : List Int} (h : Mine w b n zs) : zs.length = n := by
 obtain ⟨cur, _, h1, _⟩ := h
 exact h1
theorem Mine.digs {w : World} {b n : Nat} {zs : List Int} (h : Mine w b n zs) : Digs zs := by
 obtain ⟨cur, _, _, h1, _⟩ := h
 exact h1
theorem Mine.cell {w : World} {b n : Nat} {zs : List Int} (h : Mine w b n zs) {j : Nat} (hj : j < n) : w.cell? ⟨b, j, none⟩ = some (.int .u32 (zs.getD j 0)) := by
 obtain ⟨cur, h1, h2, h3, h4, h5⟩ := h
 rw [cell_of_row w b j _ _ (0, 0) h1]
 exact h5 j hj
theorem Mine.frozen {w : World} {b n : Nat} {zs : List Int} (h : Mine w b n zs) (j : Nat) : w.frozen? ⟨b, j, none⟩ = false := by
 obtain ⟨cur, h1, _⟩ := h
 simp [World.frozen?, h1]
theorem Mine.mono {w w' : World} {b n : Nat} {zs : List Int} (h : Mine w b n zs) {B : Nat} (hb : Below B w w') (hB : b < B) : Mine w' b n zs := by
 obtain ⟨cur, h1, h2⟩ := h
 exact ⟨cur, by rw [hb.block b hB]; exact h1, h2⟩
theorem Mine.drewN {w : World} {b n : Nat} {zs : List Int} (h : Mine w b n zs) (d : Nat) : Mine (w.drewN d) b n zs := h
theorem Mine.set {w : World} {b n : Nat} {zs : List Int} (h : Mine w b n zs) {j : Nat} (hj : j < n) {x : Int} (hx0 : 0 ≤ x) (hx1 : x < 4294967296) : Mine (w.setCell ⟨b, j, none⟩ (.int .u32 x)) b n (zs.set j x) := by
 obtain ⟨cur, h1, h2, h3, h4, h5⟩ := h
 refine ⟨cur.setIfInBounds j (.int .u32 x), ?_, by rw [List.length_set]; exact h2, h3.set j ⟨hx0, hx1⟩, by simpa using h4, fun k hk => ?_⟩
 ·simp only [World.setCell, Array.getElem?_modify, if_true, h1, Option.map_some, Option.isSome_none]
  simp
 ·by_cases hjk : j = k
  ·subst hjk
   rw [zBp _ _ _ (by omega), Array.getElem?_setIfInBounds_self_of_lt (by omega)]
  ·rw [getD_set_ne _ _ _ _ hjk]
   rw [Array.getElem?_setIfInBounds_ne hjk]
   exact h5 k hk
theorem Mine.sl {w : World} {b n : Nat} {zs : List Int} (h : Mine w b n zs) {c : Nat} (hc : n ≤ c) : Sl w (some ⟨b, 0, none⟩) n c zs :=
 ⟨h.len, hc, h.digs, .inr ⟨b, 0, rfl, h.lt, fun j hj => by rw [Nat.zero_add]; exact h.cell (by have := h.len; omega)⟩⟩
theorem Mine.other {w : World} {b n : Nat} {zs : List Int} (h : Mine w b n zs) {w' : World} {b' : Nat} (hg : w.grownBy w' (some b')) (hne : b ≠ b') : Mine w' b n zs := by
 have hl := h.lt
 obtain ⟨cur, h1, h2⟩ := h
 exact ⟨cur, by rw [hg.block b hl (by simpa using hne)]; exact h1, h2⟩
theorem Row.mine {w : World} {b : Nat} {zs : List Int} (h : Row w 93 b zs) : Mine w b zs.length zs :=
 ⟨_, h.2, rfl, h.1, by simp, fun j hj => by simp [hj]⟩
theorem Ow.mine {w : World} {B b n c : Nat} {zs : List Int} (h : Ow w B (.slice (some ⟨b, 0, none⟩) n c) zs) : Mine w b n zs ∧ B ≤ b ∧ n ≤ c := by
 obtain ⟨⟨h1, h2⟩, h3⟩ := h
 rcases h2 with ⟨h4, _⟩ | ⟨g, cap, cur, h4, h5, h6, h7, h8, h9, h10⟩
 ·cases h4
 ·cases h4
  refine ⟨⟨cur, h6, rfl, h3, by omega, fun j hj => ?_⟩, h5, h7⟩
  have e : (cur.toList.take (zs.length * 1))[j]? = (zs.map (Value.int .u32))[j]? := by rw [h10]
  rw [List.getElem?_take_of_lt (by omega)] at e
  simp at e
  rw [e]
  simp [hj]
theorem Row.ow {w : World} {B b : Nat} {zs : List Int} (h : Row w 93 b zs) (hB : B ≤ b) (hn : zs.length ≤ maxLen) : Ow w B (.slice (some ⟨b, 0, none⟩) zs.length zs.length) zs :=
 ⟨⟨by simp, .inr ⟨b, zs.length, _, rfl, hB, h.2, Nat.le_refl _, hn, by simp, by rw [Nat.mul_one]; exact List.take_of_length_le (by simp)⟩⟩, h.1⟩

set_option maxRecDepth 20000 in
set_option maxHeartbeats 1000000 in
theorem zI4 (w : World) (na : Bool) (ax : Option Addr) (n c : Nat) (xs : List Int) (hX : Sl w ax n c xs) (hc : Canon xs) (hb : n ≤ 4000000) :
  Calls Tryz.prog 105 #[.agg #[.bool na, .slice ax n c]] w fun e w' => ∃ m : Nat, e = .returned (.int .i64 m) ∧ zDb (val xs) m ∧ m ≤ 32 * n ∧ Below w.heap.size w w' := by
 have hn := hidd hX.len
 obtain ⟨w0, hw0, hA, hbl0, HS⟩ := boxes1 w (.bool na) (.slice ax n c) 31
 by_cases h0 : n = 0
 ·obtain rfl := h0
  have e : xs = [] := List.eq_nil_of_length_eq_zero hn.out
  clear hA hw0
  go_enter Tryz.func105, Tryz.ntmps105
  go_wp2
  go_ret
  exact ⟨0, rfl, .inl ⟨by subst e; rfl, rfl⟩, by omega, zAw _ _⟩
 ·have h1 : ((n : Int) == 0) = false := by simp; omega
  have hx := (hX.mono hbl0).cells
  obtain ⟨b, off, rfl, hbl, x, hxc, hx0, hx1, HX⟩ := hx.at (k := n - 1) (by rw [hn.out]; omega)
  have hxp : 0 < x := by
   rcases hc.2 with h | h
   ·have := hn.out; omega
   ·rcases (by omega : x = 0 ∨ 0 < x) with h2 | h2
    ·exfalso
     have e := zAu xs (n - 1)
     rw [show n - 1 + 1 = n from by omega, HX.out, h2, zAy xs (by rw [hn.out]; omega)] at e
     have l1 := zBa (hX.take (show n - 1 ≤ n by omega)).digs
     rw [(hX.take (show n - 1 ≤ n by omega)).len] at l1
     rw [hn.out] at h
     omega
    ·exact h2
  obtain ⟨ca0, ca1, _, _⟩ := hA
  go_enter Tryz.func105, Tryz.ntmps105
  go_upto_region 1 with (fail)
  rw [← hw0]
  clear hw0
  go_wp2
  go_loop [3, 4] (fun i u => ∃ (k : Nat) (q : Int), k ≤ 32 ∧ 0 ≤ q ∧ q < 4294967296 ∧ i = .int .i64 (32 * ((n : Int) - 1) + k) ∧ u = .int .u32 q ∧ q * 2 ^ k ≤ x ∧ x < (q + 1) * 2 ^ k ∧ (k = 0 ∨ 2 ^ (k - 1) ≤ x)) (fun _ u => (intOf u).toNat)
  case atStart => exact ⟨0, x, by omega, hx0, hx1, by simp, rfl, by simp, by simp; omega, .inl rfl⟩
  case round =>
   obtain ⟨k, q, hk, hq0, hq1, rfl, rfl, hv⟩ := hrel
   have HV := hidd hv
   clear hv
   by_cases hq : 0 < q
   ·go_wp2
    go_round
    case rel =>
     obtain ⟨v1, v2, _⟩ := HV.out
     have hp := zBe k
     have h5 : (2 : Int) ^ k ≤ x := by
      have := Int.mul_le_mul_of_nonneg_right (show 1 ≤ q by omega) (Int.le_of_lt hp)
      omega
     have hk2 : k < 32 := by
      rcases Nat.lt_or_ge k 32 with h | h
      ·exact h
      ·have : k = 32 := by omega
       subst this; simp at h5; omega
     refine ⟨k + 1, q / 2, by omega, by omega, by omega, by rw [show ((k + 1 : Nat) : Int) = (k : Int) + 1 from rfl]; congr 1; omega, rfl, ?_, ?_, .inr h5⟩
     ·rw [zFe]
      have : q / 2 * (2 ^ k * 2) = (q / 2 * 2) * 2 ^ k := by rw [Int.mul_comm (2 ^ k), Int.mul_assoc]
      have h6 := Int.mul_le_mul_of_nonneg_right (show q / 2 * 2 ≤ q by omega) (Int.le_of_lt hp)
      omega
     ·rw [zFe]
      have : (q / 2 + 1) * (2 ^ k * 2) = ((q / 2 + 1) * 2) * 2 ^ k := by rw [Int.mul_comm (2 ^ k), Int.mul_assoc]
      have h6 := Int.mul_le_mul_of_nonneg_right (show q + 1 ≤ (q / 2 + 1) * 2 by omega) (Int.le_of_lt hp)
      omega
    case measure => simp [intOf]; omega
   ·go_wp2
    go_ret
    obtain ⟨v1, v2, v3⟩ := HV.out
    refine ⟨32 * (n - 1) + k, ?_, zJt hX.digs hn.out (by omega) HX.out hxp hx1 (by omega) v1 v2 v3, by omega, hbl0⟩
    have : ((32 * (n - 1) + k : Nat) : Int) = 32 * ((n : Int) - 1) + k := by omega
    rw [this]; rfl

def zDt (xs : List Int) (i : Nat) : Int := if i = 0 then 0 else xs.getD (i - 1) 0

theorem word_prev (w : World) (ax : Option Addr) (n c : Nat) (xs : List Int) (hX : Sl w ax n c xs) (hb : n ≤ 4000000) (i : Nat) (hi : i ≤ 9000000) (y : Int) (hy : zDt xs i = y) (j : Int) (hj : j = (i : Int) - 1) :
  Calls Tryz.prog 99 #[.slice ax n c, .int .i64 j] w fun e w' => e = .returned (.int .u64 y) ∧ w = w' := by
 unfold zDt at hy
 subst hj
 by_cases h : i = 0
 ·subst h
  rw [if_pos rfl] at hy
  subst hy
  exact zPn w ax n c _ (by omega) (by omega)
 ·rw [if_neg h] at hy
  rw [show (i : Int) - 1 = ((i - 1 : Nat) : Int) by omega]
  exact zEj w ax n c xs hX hb (i - 1) (by omega) y hy

theorem left_step {m : Nat} {zs xs : List Int} {i wd : Nat} {p x c : Int} (hm : zs.length = i + wd) (h : val zs + pw (i + wd) * c = val (xs.take i) * p * pw wd) (hx : xs.getD i 0 = x) (hd : m = i + wd + 1) :
  val (zs ++ [x * p % 4294967296 + c]) + pw m * (x * p / 4294967296) = val (xs.take (i + 1)) * p * pw wd := by
 subst hd
 rw [zHl, hm, zAu, hx, Int.add_mul, Int.add_mul, ← h]
 have h1 := zC7 (i + wd) (x * p)
 have h2 : pw i * x * p * pw wd = pw (i + wd) * (x * p) := by rw [zEf]; ac_rfl
 rw [Int.mul_add]
 omega

theorem add_mod {T cc P : Int} (h1 : T % 4294967296 % P = 0) (h2 : (4294967296 : Int) % P = 0) (_ : 0 < P) (hc0 : 0 ≤ cc) (hc : cc < P) : (T + cc) % 4294967296 = T % 4294967296 + cc := by
 have h4 : (4294967296 - T % 4294967296) % P = 0 := by rw [Int.sub_emod, h1, h2]; simp
 have h5 : 0 < 4294967296 - T % 4294967296 := by omega
 have h6 := Int.le_of_dvd h5 (Int.dvd_of_emod_eq_zero h4)
 omega

set_option maxRecDepth 20000 in
set_option maxHeartbeats 1000000 in
theorem zKm (w : World) (ax : Option Addr) (n c : Nat) (xs : List Int) (hX : Sl w ax n c xs) (hb : n ≤ 1000000) (s : Nat) (hs : s ≤ 100000000) :
  Calls Tryz.prog 104 #[.slice ax n c, .int .i64 s] w fun e w' => ∃ g l cap zs, e = .returned (.slice (some ⟨g, 0, none⟩) l cap) ∧ w.heap.size ≤ g ∧ Mine w' g l zs ∧ l ≤ cap ∧ l = s / 32 + n + 1 ∧ val zs = val xs * 2 ^ s ∧ Below w.heap.size w w' := by
 obtain ⟨i0, hi, hz0, hz1, hz2⟩ := info_parts zFs
 have hn := hidd hX.len
 have hrs : s % 32 < 32 := Nat.mod_lt _ (by decide)
 obtain ⟨hp0, hp1⟩ := zF8 _ hrs
 go_enter Tryz.func104, Tryz.ntmps104
 go_wp2_with (at_make; refine zDx _ rfl _ _ 22 rfl 93 Tryz.underlying22 (by kernel_rfl) _ _ _ _ rfl rfl (s / 32) (by omega) (by omega) (by omega) ?_; intro w1 hrow hb1 hs1)
 go_loopw [5, 7] (fun vo vi wr => ∃ (i : Nat) (zs : List Int), i ≤ n + 1 ∧ vi = .int .i64 i ∧ Ow wr w.heap.size vo zs ∧ zs.length = i + s / 32 ∧ val zs + pw (i + s / 32) * (zDt xs i * 2 ^ (s % 32) / 4294967296) = val (xs.take i) * 2 ^ (s % 32) * pw (s / 32) ∧ Below w.heap.size w wr) (fun _ vi _ => n + 1 - (intOf vi).toNat)
 case atStart =>
  have ho := hrow.ow (Nat.le_refl _) (by rw [List.length_replicate]; unfold maxLen; omega)
  rw [List.length_replicate] at ho
  exact ⟨0, _, by omega, rfl, ho, by simp, by rw [zFh]; simp [zDt, val], hb1⟩
 case round =>
  obtain ⟨i, zs, hk, rfl, hO, hzl, hv, hB⟩ := hrel
  have HV := hidd hv
  clear hv hrow hb1 hs1
  obtain ⟨ao, cap, rfl⟩ := hO.shape
  have HO := hO.1
  have hsz := hB.size
  have HZL := hidd hzl
  have hzb : zs.length ≤ 10000000 := by omega
  clear hzl
  by_cases hin : i ≤ n
  ·obtain ⟨x, hx⟩ : ∃ x, xs.getD i 0 = x := ⟨_, rfl⟩
   obtain ⟨y, hy⟩ : ∃ y, zDt xs i = y := ⟨_, rfl⟩
   have hxd := hX.digs.getD i
   rw [hx] at hxd
   obtain ⟨hx0, hx1⟩ := hxd
   have hyd : 0 ≤ y ∧ y < 4294967296 := by
    rw [← hy]; unfold zDt; split
    ·omega
    ·exact hX.digs.getD _
   obtain ⟨hy0, hy1⟩ := hyd
   have Hx := hidd hx
   have Hy := hidd hy
   clear hx hy
   have hxp0 : 0 ≤ x * 2 ^ (s % 32) := Int.mul_nonneg hx0 (by omega)
   have hxp2 : x * 2 ^ (s % 32) ≤ 4294967295 * 2 ^ (s % 32) := Int.mul_le_mul_of_nonneg_right (by omega) (by omega)
   have hxp1 : x * 2 ^ (s % 32) ≤ 9223372036854775807 := by omega
   have hyp0 : 0 ≤ y * 2 ^ (s % 32) := Int.mul_nonneg hy0 (by omega)
   have hyp2 : y * 2 ^ (s % 32) ≤ 4294967295 * 2 ^ (s % 32) := Int.mul_le_mul_of_nonneg_right (by omega) (by omega)
   have hyp1 : y * 2 ^ (s % 32) ≤ 9223372036854775807 := by omega
   have hc0 : y * 2 ^ (s % 32) / 4294967296 < 2 ^ (s % 32) := Int.ediv_lt_of_lt_mul (by decide) (by omega)
   obtain ⟨u, hor⟩ : ∃ u, bits .or .u64 (x * 2 ^ (s % 32)) (y * 2 ^ (s % 32) / 4294967296) = u := ⟨_, rfl⟩
   have hu : u = x * 2 ^ (s % 32) + y * 2 ^ (s % 32) / 4294967296 := by
    rw [← hor]
    exact (zHa (s % 32) _ _ hxp0 (by omega) (by omega) (by omega) hc0 (Int.mul_emod_left _ _)).1
   have hu0 : 0 ≤ u := by omega
   have hu1 : u < 18446744073709551616 := by omega
   have HD : Hid (u % 4294967296 = x * 2 ^ (s % 32) % 4294967296 + y * 2 ^ (s % 32) / 4294967296) := by
    have h1 := zKx x (s % 32) (by omega)
    have h2 : (4294967296 : Int) % 2 ^ (s % 32) = 0 := by
     have e : (4294967296 : Int) = 2 ^ (s % 32) * 2 ^ (32 - s % 32) := by rw [← Int.pow_add, show s % 32 + (32 - s % 32) = 32 from by omega]; rfl
     rw [e]; exact Int.mul_emod_right _ _
    show u % 4294967296 = _
    rw [hu]
    exact add_mod h1 h2 (by omega) (by omega) hc0
   clear hu
   go_wp2_with fail
   refine (zEj _ _ _ _ _ (hX.mono hB) (by omega) i (by omega) x Hx.out).mono ?_
   rintro e w' ⟨rfl, rfl⟩
   go_wp2_with fail
   refine (word_prev _ _ _ _ _ (hX.mono hB) (by omega) i (by omega) y Hy.out _ (by omega)).mono ?_
   rintro e w' ⟨rfl, rfl⟩
   go_wp2_with (first | (at_builtin; refine wpList_append_own _ rfl _ _ 22 rfl w.heap.size 93 i0 (.int .u32 0) 1 4 Tryz.underlying22 hi hz0 hz1 hz2 rfl (by decide) _ _ _ rfl (World.ownsRow.alloc HO _) ⟨_, 0, none⟩ 1 1 [.int .u32 (u % 4294967296)] rfl rfl (zG9 _ _ _) (by intro u hu; simp at hu; subst hu; rfl) (by unfold maxLen; omega) (by omega) (by simp; omega) ?_; intro v' w5 hown' hgrow _) | go_in)
   obtain ⟨hO2, hB2⟩ := hO.step hB (by omega) (by omega) hown' hgrow
   clear hown' hgrow hO hB HO hsz
   go_wp2
   go_roundw
   case rel =>
    refine ⟨i + 1, zs ++ [u % 4294967296], by omega, by go_num, hO2, by rw [List.length_append, HZL.out]; simp; omega, ?_, hB2⟩
    have h1 := HV.out
    rw [Hy.out] at h1
    have h2 : zDt xs (i + 1) = x := by unfold zDt; rw [if_neg (by omega)]; exact Hx.out
    rw [h2, HD.out]
    exact left_step HZL.out h1 Hx.out (by omega)
   case measure => simp [intOf]; omega
  ·obtain rfl : i = n + 1 := by omega
   have HE : Hid (val zs = val xs * 2 ^ s) := by
    have h1 := HV.out
    have h2 : zDt xs (n + 1) = 0 := by unfold zDt; rw [if_neg (by omega)]; exact zDg (by rw [hn.out]; omega)
    rw [h2, Int.zero_mul, Int.zero_ediv, Int.mul_zero, Int.add_zero, zAy xs (by rw [hn.out]; omega)] at h1
    show val zs = _
    rw [h1, zCk, Int.mul_assoc, ← Int.pow_add]
    congr 2
    omega
   have hl2 : 0 < zs.length := by have := HZL.out; omega
   obtain ⟨g, rfl⟩ : ∃ g, ao = some ⟨g, 0, none⟩ := by
    rcases hO.1.2 with ⟨_, h0⟩ | ⟨g, cap', cur, h1, _⟩
    ·omega
    ·cases h1; exact ⟨g, rfl⟩
   obtain ⟨hM, hgB, hcap⟩ := hO.mine
   clear hO HO
   go_wp2
   go_ret
   exact ⟨g, zs.length, cap, zs, rfl, hgB, hM, hcap, by have := HZL.out; omega, HE.out, hB⟩

end Go.Proofs.YtdhkhedhnolcjaaGreat

namespace Go.Proofs.YtdhkhedhnolcjaaGreat
open Go Go.RowKit

theorem zEh (xs : List Int) (k : Nat) : val (xs.drop k) = xs.getD k 0 + 4294967296 * val (xs.drop (k + 1)) := by
 by_cases h : k < xs.length
 ·exact zDw xs h
 ·rw [List.drop_of_length_le (by omega), List.drop_of_length_le (by omega), zDg (by omega)]; rfl

theorem zFi (xs : List Int) (k : Nat) : val xs = val (xs.take k) + pw k * val (xs.drop k) := by
 by_cases h : k ≤ xs.length
 ·exact zCo xs h
 ·rw [List.take_of_length_le (by omega), List.drop_of_length_le (by omega)]
  show _ = _ + _ * 0
  rw [Int.mul_zero, Int.add_zero]

theorem zL1 {xs : List Int} (h : Digs xs) (k : Nat) : val (xs.take k) < pw k := by
 have h1 := zBa (h.take k)
 have h2 := zAb (show (xs.take k).length ≤ k by rw [List.length_take]; omega)
 omega

theorem lt_at {xs ys : List Int} {k : Nat} (hx : Digs xs) (h : val (xs.drop (k + 1)) = val (ys.drop (k + 1))) (hlt : xs.getD k 0 < ys.getD k 0) (hy : Digs ys) : val xs < val ys := by
 have e1 := zFi xs k
 have e2 := zFi ys k
 have d1 := zEh xs k
 have d2 := zEh ys k
 have h1 := zL1 hx k
 have h2 := zAv (hy.take k)
 have h3 := Int.mul_le_mul_of_nonneg_left (show val (xs.drop k) + 1 ≤ val (ys.drop k) by omega) (Int.le_of_lt (zA6 k))
 rw [Int.mul_add, Int.mul_one] at h3
 omega

theorem zDa (w : World) (ax : Option Addr) (n c : Nat) (xs : List Int) (hX : Sl w ax n c xs) (hb : n ≤ 4000000) (i : Nat) (hi : i ≤ 9000000) (y : Int) (hy : xs.getD i 0 = y) (j : Int) (hj : j = (i : Int)) :
  Calls Tryz.prog 99 #[.slice ax n c, .int .i64 j] w fun e w' => e = .returned (.int .u64 y) ∧ w = w' := by
 subst hj
 exact zEj w ax n c xs hX hb i hi y hy

theorem word_same (w : World) (ax : Option Addr) (n c : Nat) (xs : List Int) (hX : Sl w ax n c xs) (hb : n ≤ 4000000) (i : Nat) (hi : i ≤ 9000000) (y : Int) (hy : xs.getD i 0 = y) :
  Calls Tryz.prog 99 #[.slice ax n c, .int .i64 i] w fun e w' => e = .returned (.int .u64 y) ∧ w' = w :=
 (zEj w ax n c xs hX hb i hi y hy).mono fun _ _ h => ⟨h.1, h.2.symm⟩

set_option maxRecDepth 20000 in
set_option maxHeartbeats 1000000 in
theorem zO6 (w : World) (ax ay : Option Addr) (n m cx cy : Nat) (xs ys : List Int) (hX : Sl w ax n cx xs) (hY : Sl w ay m cy ys) (hb1 : n ≤ 4000000) (hb2 : m ≤ 4000000) :
  Calls Tryz.prog 114 #[.slice ax n cx, .slice ay m cy] w fun e w' => e = .returned (.bool (decide (val ys ≤ val xs))) ∧ w = w' := by
 obtain ⟨L, hL⟩ : ∃ L : Nat, L = max n m := ⟨_, rfl⟩
 have hL2 : (if n < m then (m : Int) else (n : Int)) = (L : Int) := by split <;> omega
 have hLb : L ≤ 4000000 := by omega
 have HL := hidd hL
 clear hL
 go_enter Tryz.func114, Tryz.ntmps114
 go_wp2
 go_loop [5] (fun vi => ∃ k : Nat, k ≤ L ∧ vi = .int .i64 ((k : Int) - 1) ∧ val (xs.drop k) = val (ys.drop k)) (fun vi => (intOf vi + 1).toNat)
 case atStart => exact ⟨L, Nat.le_refl _, rfl, by rw [List.drop_of_length_le (by rw [hX.len]; have := HL.out; omega), List.drop_of_length_le (by rw [hY.len]; have := HL.out; omega)]⟩
 case round =>
  obtain ⟨k, hk, rfl, hv⟩ := hrel
  have HV := hidd hv
  clear hv
  by_cases h0 : 0 < k
  ·obtain ⟨j, rfl⟩ : ∃ j, k = j + 1 := ⟨k - 1, by omega⟩
   obtain ⟨x, hx⟩ : ∃ x, xs.getD j 0 = x := ⟨_, rfl⟩
   obtain ⟨y, hy⟩ : ∃ y, ys.getD j 0 = y := ⟨_, rfl⟩
   have Hx := hidd hx
   have Hy := hidd hy
   clear hx hy
   have hj1 : ((j + 1 : Nat) : Int) - 1 = (j : Int) := by omega
   by_cases he : x = y
   ·have he2 : (x != y) = false := by simp [he]
    have HE := hidd he
    clear he
    go_wp2_with fail
    refine (zDa _ _ _ _ _ hX (by omega) j (by omega) x Hx.out _ (by omega)).mono ?_
    rintro e w' ⟨rfl, rfl⟩
    go_wp2_with fail
    refine (zDa _ _ _ _ _ hY (by omega) j (by omega) y Hy.out _ (by omega)).mono ?_
    rintro e w' ⟨rfl, rfl⟩
    go_wp2
    go_round
    case rel =>
     refine ⟨j, by omega, by go_num, ?_⟩
     rw [zEh xs j, zEh ys j, HV.out, Hx.out, Hy.out, HE.out]
    case measure => simp [intOf]
   ·have he2 : (x != y) = true := by simp [he]
    have HR : Hid (decide (x > y) = decide (val ys ≤ val xs)) := by
     rcases Int.lt_or_gt_of_ne he with h | h
     ·have h2 := lt_at hX.digs HV.out (by rw [Hx.out, Hy.out]; exact h) hY.digs
      show _ = _
      rw [decide_eq_false (show ¬ x > y by omega), decide_eq_false (show ¬ val ys ≤ val xs by omega)]
     ·have h2 := lt_at hY.digs HV.out.symm (by rw [Hx.out, Hy.out]; exact h) hX.digs
      show _ = _
      rw [decide_eq_true (show x > y by omega), decide_eq_true (show val ys ≤ val xs by omega)]
    clear he
    go_wp2_with fail
    refine (zDa _ _ _ _ _ hX (by omega) j (by omega) x Hx.out _ (by omega)).mono ?_
    rintro e w' ⟨rfl, rfl⟩
    go_wp2_with fail
    refine (zDa _ _ _ _ _ hY (by omega) j (by omega) y Hy.out _ (by omega)).mono ?_
    rintro e w' ⟨rfl, rfl⟩
    go_wp2_with fail
    refine (zDa _ _ _ _ _ hX (by omega) j (by omega) x Hx.out _ (by omega)).mono ?_
    rintro e w' ⟨rfl, rfl⟩
    go_wp2_with fail
    refine (zDa _ _ _ _ _ hY (by omega) j (by omega) y Hy.out _ (by omega)).mono ?_
    rintro e w' ⟨rfl, rfl⟩
    go_wp2
    go_ret
    exact ⟨by rw [← HR.out]; simp, rfl⟩
  ·obtain rfl : k = 0 := by omega
   have HR : Hid (decide (val ys ≤ val xs) = true) := by
    have := HV.out
    simp only [List.drop_zero] at this
    exact decide_eq_true (by omega)
   go_wp2
   go_ret
   exact ⟨by rw [HR.out]; rfl, rfl⟩

theorem zOh {w wr : World} {b : Option Nat} (h : w.grownBy wr b) (d : Nat) : w.grownBy (wr.drewN d) b := ⟨h.os, h.tape, h.output, h.size, h.block⟩

theorem zKi {w wr : World} {b : Nat} (h : w.grownBy wr (some b)) (j : Nat) (u : Value) : w.grownBy (wr.setCell ⟨b, j, none⟩ u) (some b) := zFc h (zDh _ _ _ _)

theorem half_dig {x y : Int} (hx0 : 0 ≤ x) (hx1 : x < 4294967296) (hy0 : 0 ≤ y) (hy1 : y < 4294967296) :
  ∃ u, bits .or .u64 (x / 2) (y * 2147483648) = u ∧ 0 ≤ u ∧ u < 18446744073709551616 ∧ Hid (2 * (u % 4294967296) = x - x % 2 + 4294967296 * (y % 2)) := by
 have h := (zHa 31 (y * 2147483648) (x / 2) (by omega) (by omega) (by omega) (by omega) (by show x / 2 < 2147483648; omega) (by show y * 2147483648 % 2147483648 = 0; omega)).2
 refine ⟨_, h, by omega, by omega, ?_⟩
 show _ = _
 omega

set_option maxRecDepth 20000 in
set_option maxHeartbeats 1000000 in
theorem zKj (w : World) (b n c : Nat) (zs : List Int) (hM : Mine w b n zs) (hc : n ≤ c) (hb1 : n ≤ 4000000) :
  Calls Tryz.prog 116 #[.slice (some ⟨b, 0, none⟩) n c] w fun e w' => ∃ zs', e = .returned (.tuple #[]) ∧ Mine w' b n zs' ∧ val zs' = val zs / 2 ∧ w.grownBy w' (some b) ∧ w'.heap.size = w.heap.size := by
 have hzl := hidd hM.len
 have hdz := hM.digs
 go_enter Tryz.func116, Tryz.ntmps116
 go_wp2
 go_loopw [2] (fun vi wr => ∃ (k : Nat) (us : List Int), k ≤ n ∧ vi = .int .i64 k ∧ Mine wr b n us ∧ us.drop k = zs.drop k ∧ 2 * val (us.take k) = val (zs.take k) - zs.getD 0 0 % 2 + pw k * (zs.getD k 0 % 2) ∧ w.grownBy wr (some b) ∧ wr.heap.size = w.heap.size) (fun vi _ => n - (intOf vi).toNat)
 case atStart => exact ⟨0, zs, Nat.zero_le _, rfl, hM, rfl, by simp [val, zC8]; omega, World.grownBy.refl _ _, rfl⟩
 case round =>
  obtain ⟨k, us, hk, rfl, hU, hdr, hv, hg, hsz⟩ := hrel
  have HDR := hidd hdr
  have HV := hidd hv
  have HSZ := hidd hsz
  clear hdr hv hsz
  by_cases hkn : k < n
  ·obtain ⟨x, hx⟩ : ∃ x, us.getD k 0 = x := ⟨_, rfl⟩
   obtain ⟨y, hy⟩ : ∃ y, us.getD (k + 1) 0 = y := ⟨_, rfl⟩
   have hxd := hU.digs.getD k
   have hyd := hU.digs.getD (k + 1)
   rw [hx] at hxd
   rw [hy] at hyd
   have Hx := hidd hx
   have Hy := hidd hy
   clear hx hy
   obtain ⟨u, hor, hu0, hu1, HU⟩ := half_dig hxd.1 hxd.2 hyd.1 hyd.2
   have hfr := hU.frozen k
   have hcell := hU.cell hkn
   go_wp2_with fail
   refine (zDa _ _ _ _ _ (hU.sl hc) (by omega) k (by omega) x Hx.out _ (by omega)).mono ?_
   rintro e w' ⟨rfl, rfl⟩
   go_wp2_with fail
   refine (zDa _ _ _ _ _ (hU.sl hc) (by omega) (k + 1) (by omega) y Hy.out _ (by omega)).mono ?_
   rintro e w' ⟨rfl, rfl⟩
   go_wp2
   go_roundw
   case rel =>
    have hlen := hU.len
    have e1 : zs.getD k 0 = x := by
     have := congrArg (fun l => l.getD 0 0) HDR.out
     simp only [zCi, Nat.add_zero] at this
     rw [← this]; exact Hx.out
    have e2 : zs.getD (k + 1) 0 = y := by
     have := congrArg (fun l => l.getD 1 0) HDR.out
     simp only [zCi] at this
     rw [← this]; exact Hy.out
    refine ⟨k + 1, us.set k (u % 4294967296), by omega, by go_num, hU.set hkn (by omega) (by omega), ?_, zJb (by omega) HV.out e1 e2 HU.out, zKi hg _ _, by rw [World.size_setCell]; exact HSZ.out⟩
    rw [List.drop_set_of_lt (by omega), ← List.drop_drop, HDR.out, List.drop_drop]
   case measure => simp [intOf]; omega
  ·obtain rfl : k = n := by omega
   have HE : Hid (val us = val zs / 2) := by
    have h1 := HV.out
    rw [zAy us (by rw [hU.len]; omega), zAy zs (by rw [hzl.out]; omega), zDg (xs := zs) (k := k) (by rw [hzl.out]; omega)] at h1
    have h2 := zEh zs 0
    rw [List.drop_zero] at h2
    show val us = _
    omega
   go_wp2
   (try simp only [Exit.inBlock, Exit.then])
   exact bodyPost_end (results_none rfl _ _ _) rfl ⟨us, rfl, hU, HE.out, hg, HSZ.out⟩

theorem take_step {k : Nat} {us xs ys : List Int} {q x y : Int} (hk : k < us.length) (h : val (us.take k) = val (xs.take k) - val (ys.take k) + pw k * q) (hx : xs.getD k 0 = x) (hy : ys.getD k 0 = y) :
  val ((us.set k ((4294967296 + x - y - q) % 4294967296)).take (k + 1)) = val (xs.take (k + 1)) - val (ys.take (k + 1)) + pw (k + 1) * (1 - (4294967296 + x - y - q) / 4294967296) := by
 rw [zAu, zCp _ _ _ _ (Nat.le_refl _), zBp _ _ _ hk, zAu, zAu, hx, hy]
 have h1 := zC7 k (4294967296 + x - y - q)
 have h2 : pw k * (4294967296 + x - y - q) = pw (k + 1) + pw k * x - pw k * y - pw k * q := by
  rw [zCv, Int.mul_sub, Int.mul_sub, Int.mul_add]
 rw [Int.mul_sub, Int.mul_one]
 omega

theorem Sl.other {w w' : World} {ay : Option Addr} {m cy b : Nat} {ys : List Int} (h : Sl w ay m cy ys) (hg : w.grownBy w' (some b)) (hne : ∀ b' o, ay = some ⟨b', o, none⟩ → b' ≠ b) : Sl w' ay m cy ys := by
 refine ⟨h.len, h.cap, h.digs, ?_⟩
 rcases h.cells.2 with h1 | ⟨b', off, h1, h2, h3⟩
 ·exact .inl h1
 ·refine .inr ⟨b', off, h1, Nat.lt_of_lt_of_le h2 hg.size, fun j hj => ?_⟩
  have := hg.block b' h2 (by simpa using hne b' off h1)
  have h4 := h3 j hj
  unfold World.cell? at h4 ⊢
  rw [this]
  exact h4

set_option maxRecDepth 20000 in
set_option maxHeartbeats 1000000 in
theorem take_any (w : World) (b n c : Nat) (zs : List Int) (hM : Mine w b n zs) (hc : n ≤ c) (hb1 : n ≤ 4000000) (ay : Option Addr) (m cy : Nat) (ys : List Int) (hY : Sl w ay m cy ys) (hb2 : m ≤ 4000000) (hne : ∀ b' o, ay = some ⟨b', o, none⟩ → b' ≠ b) (hle : val ys ≤ val zs) :
  Calls Tryz.prog 115 #[.slice (some ⟨b, 0, none⟩) n c, .slice ay m cy] w fun e w' => ∃ zs', e = .returned (.tuple #[]) ∧ Mine w' b n zs' ∧ val zs' = val zs - val ys ∧ w.grownBy w' (some b) ∧ w'.heap.size = w.heap.size := by
 have hzl := hidd hM.len
 have hdz := hidd hM.digs
 have HLE := hidd hle
 have HNE := hidd hne
 clear hle hne
 go_enter Tryz.func115, Tryz.ntmps115
 go_wp2
 go_loopw [4, 5] (fun vc vi wr => ∃ (k : Nat) (q : Int) (us : List Int), k ≤ n ∧ vi = .int .i64 k ∧ vc = .int .u64 q ∧ 0 ≤ q ∧ q ≤ 1 ∧ Mine wr b n us ∧ us.drop k = zs.drop k ∧ val (us.take k) = val (zs.take k) - val (ys.take k) + pw k * q ∧ w.grownBy wr (some b) ∧ wr.heap.size = w.heap.size) (fun _ vi _ => n - (intOf vi).toNat)
 case atStart => exact ⟨0, 0, zs, Nat.zero_le _, rfl, rfl, by omega, by omega, hM, rfl, by simp [val], World.grownBy.refl _ _, rfl⟩
 case round =>
  obtain ⟨k, q, us, hk, rfl, rfl, hq0, hq1, hU, hdr, hv, hg, hsz⟩ := hrel
  have HDR := hidd hdr
  have HV := hidd hv
  have HSZ := hidd hsz
  clear hdr hv hsz
  by_cases hkn : k < n
  ·obtain ⟨x, hx⟩ : ∃ x, us.getD k 0 = x := ⟨_, rfl⟩
   obtain ⟨y, hy⟩ : ∃ y, ys.getD k 0 = y := ⟨_, rfl⟩
   have hxd := hU.digs.getD k
   have hyd := hY.digs.getD k
   rw [hx] at hxd
   rw [hy] at hyd
   obtain ⟨hx0, hx1⟩ := hxd
   obtain ⟨hy0, hy1⟩ := hyd
   have hcell := hU.cell hkn
   rw [hx] at hcell
   have Hx := hidd hx
   have Hy := hidd hy
   clear hx hy
   have hYr := hY.other hg HNE.out
   go_wp2
   go_quiet ((go_at_call 99; exact Calls.quiet_of_same (word_same _ _ _ _ _ (Sl.drewN hYr _) (by omega) k (by omega) y Hy.out)))
   obtain ⟨w2, hw2⟩ : ∃ w2, w2 = wr.drewN nq := ⟨_, rfl⟩
   rw [← hw2]
   have hU2 : Mine w2 b n us := by rw [hw2]; exact hU.drewN _
   have hg2 : w.grownBy w2 (some b) := by rw [hw2]; exact zOh hg _
   have HS2 : Hid (w2.heap.size = w.heap.size) := by show _ = _; rw [hw2]; exact HSZ.out
   clear hw2 hcell hYr hU hg HSZ
   have hfr := hU2.frozen k
   have hcell := hU2.cell hkn
   go_wp2
   go_roundw
   case rel =>
    have hlen := hU2.len
    have e1 : zs.getD k 0 = x := by
     have := congrArg (fun l => l.getD 0 0) HDR.out
     simp only [zCi, Nat.add_zero] at this
     rw [← this]; exact Hx.out
    refine ⟨k + 1, 1 - (4294967296 + x - y - q) / 4294967296, us.set k ((4294967296 + x - y - q) % 4294967296), by omega, by go_num, by go_num, by omega, by omega, hU2.set hkn (by omega) (by omega), ?_, take_step (by omega) HV.out e1 Hy.out, zKi hg2 _ _, by rw [World.size_setCell]; exact HS2.out⟩
    rw [List.drop_set_of_lt (by omega), ← List.drop_drop, HDR.out, List.drop_drop]
   case measure => simp [intOf]; omega
  ·obtain rfl : k = n := by omega
   have HE : Hid (val us = val zs - val ys) := by
    have h1 := HV.out
    rw [zAy us (by rw [hU.len]; omega), zAy zs (by rw [hzl.out]; omega)] at h1
    have h2 := zFi ys k
    have h3 := zBa hdz.out
    rw [hzl.out] at h3
    have h4 := zAv (hY.digs.drop k)
    have h5 := zBa hU.digs
    rw [hU.len] at h5
    have h6 := zAv (hY.digs.take k)
    have h7 := zAv hU.digs
    have h8 := HLE.out
    have h9 := zA6 k
    show val us = _
    have h10 : val (ys.drop k) = 0 := by
     rcases (by omega : val (ys.drop k) = 0 ∨ 1 ≤ val (ys.drop k)) with h | h
     ·exact h
     ·have := Int.mul_le_mul_of_nonneg_left h (Int.le_of_lt h9)
      omega
    rw [h10, Int.mul_zero] at h2
    rcases (by omega : q = 0 ∨ q = 1) with rfl | rfl
    ·omega
    ·omega
   go_wp2
   (try simp only [Exit.inBlock, Exit.then])
   exact bodyPost_end (results_none rfl _ _ _) rfl ⟨us, rfl, hU, HE.out, hg, HSZ.out⟩

end Go.Proofs.YtdhkhedhnolcjaaGreat
