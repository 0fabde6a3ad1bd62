/- Fa, Gs, Ya, P, Nw, Rt, Rs, U, X, Bz, Be, Md, Li, V, W, Cv, Dg, Tx, Tt, Ex, Sk, Lw, Yb, Fr, Rc, Rh. -/
import Derived.Test.YtnhapjifddhdiaaDoorBm1
import Derived.Deep.Cut
import Derived.ArgAppend
import Derived.Laws.RangeString
import Derived.Laws.RangeAny
import Derived.BigRegion
namespace Go.Proofs.YtnhapjifddhdiaaDoor
open Go Go.RowKit

inductive Fact where
  | num (z : Int)
  | tup (z z' : Int)
  | int (z : Int)
  | is (u : Value)
  | any

def Fact.holds : Fact → Value → World → Prop
  | .num z, v, w => Num w v z
  | .tup z z', v, w => ∃ v1 v2 v3, v = .tuple #[v1, v2, v3] ∧ Num w v1 z ∧ Num w v2 z'
  | .int z, v, _ => v = .int .i64 z
  | .is u, v, _ => v = u
  | .any, _, _ => True

theorem Fact.mono {f : Fact} {v : Value} {w w' : World} (h : f.holds v w) (hb : Below w.heap.size w w') : f.holds v w' := by
  cases f with
  | num z => exact Num.mono h hb
  | tup z z' =>
    obtain ⟨v1, v2, v3, e, h1, h2⟩ := h
    exact ⟨v1, v2, v3, e, h1.mono hb, h2.mono hb⟩
  | int z => exact h
  | is u => exact h
  | any => trivial

theorem Fact.put {f : Fact} {v : Value} {w : World} {b : Nat} {y : Int} (h : f.holds v w) (hb : BoxNum w b y) (n' : Bool) (a' : Option Addr) (k' c' : Nat) : f.holds v (putBox w b n' a' k' c') := by
  cases f with
  | num z => exact Num.putBox h hb _ _ _ _
  | tup z z' =>
    obtain ⟨v1, v2, v3, e, h1, h2⟩ := h
    exact ⟨v1, v2, v3, e, h1.putBox hb _ _ _ _, h2.putBox hb _ _ _ _⟩
  | int z => exact h
  | is u => exact h
  | any => trivial

section
variable {os : List Oper} {Q : Exit → Act → World → Prop} {a : Act} {p : Plan} {B B0 : Nat} {w0 : World} {i s : Nat} {d : Option Tmp} {ty : TypeId} {ps : String} {af : Array Edge}

end

end Go.Proofs.YtnhapjifddhdiaaDoor

namespace Go.Proofs.YtnhapjifddhdiaaDoor
open Go Go.RowKit

structure Fc where
  P : Value → World → Prop
  mono : ∀ {v : Value} {w w' : World}, P v w → Below w.heap.size w w' → P v w'
  put : ∀ {v : Value} {w : World} {b : Nat} {y : Int}, P v w → BoxNum w b y → ∀ (n' : Bool) (a' : Option Addr) (k' c' : Nat), P v (putBox w b n' a' k' c')

def Fc.num (z : Int) : Fc := ⟨fun v w => Num w v z, fun h hb => h.mono hb, fun h hb _ _ _ _ => h.putBox hb _ _ _ _⟩
def Fc.pre (P : Value → Prop) : Fc := ⟨fun v _ => P v, fun h _ => h, fun h _ _ _ _ _ => h⟩
def Fc.is (u : Value) : Fc := Fc.pre fun v => v = u
def Fc.any : Fc := Fc.pre fun _ => True
def Fc.tup (z z' : Int) : Fc := ⟨fun v w => ∃ v1 v2, v = .tuple #[v1, v2, .int .i64 0] ∧ Num w v1 z ∧ Num w v2 z',
  fun ⟨v1, v2, e, h1, h2⟩ hb => ⟨v1, v2, e, h1.mono hb, h2.mono hb⟩, fun ⟨v1, v2, e, h1, h2⟩ hb _ _ _ _ => ⟨v1, v2, e, h1.putBox hb _ _ _ _, h2.putBox hb _ _ _ _⟩⟩
def Fc.sl (m : Nat) (ys : List Int) : Fc := ⟨fun v w => ∃ ao c, v = .slice ao m c ∧ Sl w ao m c ys, fun ⟨ao, c, e, h⟩ hb => ⟨ao, c, e, h.mono hb⟩, fun ⟨ao, c, e, h⟩ hb n' a' k' c' => by
  obtain ⟨p, q, r, t, hI, _⟩ := hb
  exact ⟨ao, c, e, h.putBox hI n' a' k' c'⟩⟩

def plan (fs : List Fc) (old : List (Nat × Nat × Int × Int)) (new : List (Nat × Nat × Int)) : Plan := ⟨fun j v w => ((fs[j]?).getD Fc.any).P v w, old, new⟩

theorem plan_ok {fs : List Fc} {old : List (Nat × Nat × Int × Int)} {new : List (Nat × Nat × Int)} {B B0 : Nat} (h1 : ∀ o ∈ old, B ≤ o.1 ∧ o.1 < B0) (h2 : ∀ o ∈ old, ∀ q ∈ old, o.2.1 ≠ q.2.1 → o.1 ≠ q.1) (h3 : ∀ n ∈ new, ∀ m ∈ new, n.1 = m.1 → n = m) (h4 : B ≤ B0) : (plan fs old new).Ok B B0 :=
  ⟨fun j _ _ _ h hb => ((fs[j]?).getD Fc.any).mono h hb, fun j _ _ _ _ n' a' k' c' h hb => ((fs[j]?).getD Fc.any).put h hb n' a' k' c', h1, h2, h3, h4⟩

theorem plan_start {fs : List Fc} {old : List (Nat × Nat × Int × Int)} {new : List (Nat × Nat × Int)} {B : Nat} {w w1 : World} (h : ∀ o ∈ old, BoxNum w1 o.1 o.2.2.1) (hb : Below B w w1) : (plan fs old new).G B w1.heap.size w (fun _ => false) (fun _ => undef) w1.drew :=
  ⟨hb.drew, Nat.le_refl _, fun _ h => (by cases h), fun o ho => (by
    have h1 := h o ho
    have h2 : BoxNum w1.drew o.1 o.2.2.1 := h1.mono (Below.refl _ _).drew
    simpa using h2), fun _ _ h => (by cases h), fun _ _ _ _ _ h => (by cases h)⟩

section
variable {os : List Oper} {Q : Exit → Act → World → Prop} {a : Act} {p : Plan} {B B0 : Nat} {w0 : World}
variable {i s : Nat} {d : Option Tmp} {ty : TypeId} {ps : String} {af : Array Edge} {gd : Option (Nat × Bool)}

structure PMono (p : Plan) (B B0 : Nat) : Prop where
  mono : ∀ j v w w', p.C j v w → Below w.heap.size w w' → p.C j v w'
  le : B ≤ B0

theorem PMono.of {p : Plan} {B B0 : Nat} (h : p.Ok B B0) : PMono p B B0 := ⟨h.mono, h.le⟩

theorem Plan.G.plainM {p : Plan} {B B0 : Nat} {w0 w w' : World} {L : Nat → Bool} {vs : Nat → Value} (h : p.G B B0 w0 L vs w) (hp : PMono p B B0) {i : Nat} {v : Value} (hL : L i = false) (hb : Below w.heap.size w w') (hC : p.C i v w')
    (h1 : ∀ o ∈ p.old, o.2.1 ≠ i) (h2 : ∀ n ∈ p.new, n.1 ≠ i ∧ n.2.1 ≠ i) : p.G B B0 w0 (up L i true) (up vs i v) w' where
  below := h.below.trans (hb.mono (Nat.le_trans hp.le h.size))
  size := Nat.le_trans h.size hb.size
  val := fun j hj => by
    by_cases hji : j = i
    · subst hji; rw [up_same]; exact hC
    · rw [up_ne _ _ hji] at hj ⊢; exact hp.mono _ _ _ _ (h.val j hj) hb
  old := fun o ho => by rw [up_ne _ _ (h1 o ho)]; exact (h.old o ho).mono hb
  new := fun n hn hj => by
    rw [up_ne _ _ (h2 n hn).1] at hj ⊢
    rw [up_ne _ _ (h2 n hn).2]
    obtain ⟨b, e1, e2, e3⟩ := h.new n hn hj
    exact ⟨b, e1, e2, e3.mono hb⟩
  apart := fun n hn m hm hne hj hk => by
    rw [up_ne _ _ (h2 n hn).1] at hj ⊢
    rw [up_ne _ _ (h2 m hm).1] at hk ⊢
    exact h.apart n hn m hm hne hj hk

structure Fm where
  P : Value → World → Prop
  mono : ∀ {v : Value} {w w' : World}, P v w → Below w.heap.size w w' → P v w'
def Fm.of (f : Fc) : Fm := ⟨f.P, f.mono⟩
def Fm.any : Fm := ⟨fun _ _ => True, fun h _ => h⟩
def Src (os : List Oper) (a : Act) (p : Plan) (B B0 : Nat) (w0 : World) (af : Array Edge) (x : Operand) (F : Value → World → Prop) : Prop :=
  ∀ L vs w, p.G B B0 w0 L vs w → (∀ e ∈ af, Region.binds .any e = true → L e.on = true) → F ((lay os.toArray L vs os.toArray.size a).eval x) w

def depA (af : Array Edge) (j : Nat) : Bool := af.toList.any fun e => Region.binds .any e && e.on == j

theorem depA_of {j : Nat} {L : Nat → Bool} (h : depA af j = true) (hd : ∀ e ∈ af, Region.binds .any e = true → L e.on = true) : L j = true := by
  obtain ⟨e, he, h1⟩ := List.any_eq_true.1 h
  simp only [Bool.and_eq_true, beq_iff_eq] at h1
  rw [← h1.2]
  exact hd e (by simpa using he) h1.1

theorem src_in (j : Nat) {F : Value → World → Prop} (ha : apartB (os.map (·.dst)) = true) (hj : (os.map (·.dst))[j]? = some (some s)) (hs : s < a.tmps.size) (hdep : depA af j = true) (hF : ∀ v w, p.C j v w → F v w) : Src os a p B B0 w0 af (.tmp s) F := by
  intro L vs w hG hd
  have hLj := depA_of hdep hd
  rw [lay_in ha hLj hj hs]
  exact hF _ _ (hG.val j hLj)

theorem src_out {v : Value} {F : Value → World → Prop} (ho : (os.map (·.dst)).contains (some s) = false) (hx : a.eval (.tmp s) = v) (hF : ∀ w, Below B w0 w → F v w) : Src os a p B B0 w0 af (.tmp s) F := by
  intro L vs w hG hd
  rw [(lay_out ho _).trans hx]
  exact hF _ hG.below

theorem src_const {v : Value} {F : Value → World → Prop} (hF : ∀ w, F v w) : Src os a p B B0 w0 af (.const v) F := fun _ _ _ _ _ => hF _

def Gd (os : List Oper) (a : Act) (p : Plan) (B B0 : Nat) (w0 : World) (af : Array Edge) : Option (Nat × Bool) → Prop
  | none => True
  | some (j, b) => ∀ L vs w, p.G B B0 w0 L vs w → (∀ e ∈ af, Region.binds .any e = true → L e.on = true) → yielded os.toArray (lay os.toArray L vs os.toArray.size a).tmps j = some b

theorem stg_run {o : Oper} (hp : PMono p B B0) (hF : p.Free i) (hg : Gd os a p B B0 w0 o.after o.guard) (hr : ∀ L vs w, p.G B B0 w0 L vs w → (∀ e ∈ o.after, Region.binds .any e = true → L e.on = true) →
      ∃ v w', (execOp (lay os.toArray L vs os.toArray.size a).eval o).run Tryd.prog w = .ok (.value v) w' ∧ Below w.heap.size w w' ∧ p.C i v w') : Step os Q a p B B0 w0 i o := by
  intro hio L vs w hG hL hd hc
  refine wpOp_step hio fun K' hK => ?_
  obtain ⟨v, w', hv, hb, hCv⟩ := hr L vs w hG hd
  have hwn : Region.wanted o (yielded os.toArray (lay os.toArray L vs os.toArray.size a).tmps) = true := by
    unfold Region.wanted
    cases hgd : o.guard with
    | none => rfl
    | some jb =>
      obtain ⟨j, b⟩ := jb
      rw [hgd] at hg
      have := hg L vs w hG hd
      show (yielded os.toArray (lay os.toArray L vs os.toArray.size a).tmps j == some b) = true
      rw [this]
      cases b <;> rfl
  rw [if_pos hwn]
  unfold Oper.wp
  rw [hv]
  exact hK _ _ ⟨_, rfl, hG.plainM hp hL hb hCv hF.1 hF.2⟩

theorem stg_val {o : Oper} (hp : PMono p B B0) (hF : p.Free i) (hg : Gd os a p B B0 w0 o.after o.guard) (hr : ∀ L vs w, p.G B B0 w0 L vs w → (∀ e ∈ o.after, Region.binds .any e = true → L e.on = true) →
      ∃ v, (execOp (lay os.toArray L vs os.toArray.size a).eval o).run Tryd.prog w = .ok (.value v) w ∧ p.C i v w) : Step os Q a p B B0 w0 i o :=
  stg_run hp hF hg fun L vs w hG hd => by
    obtain ⟨v, h1, h2⟩ := hr L vs w hG hd
    exact ⟨v, w, h1, Below.refl _ _, h2⟩

theorem stg_call {f : FuncId} {xs : Array Operand} {ts : Array TypeId} (hp : PMono p B B0) (hF : p.Free i) (hg : Gd os a p B B0 w0 af gd) (hen : ∀ args w, (callFunc f args).run Tryd.prog w = .ok (.enter f args) w)
    (hr : ∀ L vs w, p.G B B0 w0 L vs w → (∀ e ∈ af, Region.binds .any e = true → L e.on = true) → ∃ args, xs.map (lay os.toArray L vs os.toArray.size a).eval = args ∧
      Calls Tryd.prog f args w fun e w' => ∃ v', e = .returned v' ∧ Below w.heap.size w w' ∧ p.C i v' w') :
    Step os Q a p B B0 w0 i { dst := d, op := .call { callee := .value (.func f), args := xs, argTypes := ts }, type := ty, pos := ps, after := af, guard := gd } := by
  intro hio L vs w hG hL hd hc
  refine wpOp_step hio fun K' hK => ?_
  obtain ⟨args, hx, hC⟩ := hr L vs w hG hd
  have hwn : Region.wanted ({ dst := d, op := .call { callee := .value (.func f), args := xs, argTypes := ts }, type := ty, pos := ps, after := af, guard := gd } : Oper) (yielded os.toArray (lay os.toArray L vs os.toArray.size a).tmps) = true := by
    unfold Region.wanted
    cases gd with
    | none => rfl
    | some jb =>
      obtain ⟨j, b⟩ := jb
      have := hg L vs w hG hd
      show (yielded os.toArray (lay os.toArray L vs os.toArray.size a).tmps j == some b) = true
      rw [this]
      cases b <;> rfl
  rw [if_pos hwn]
  have e : (execOp (lay os.toArray L vs os.toArray.size a).eval ({ dst := d, op := .call { callee := .value (.func f), args := xs, argTypes := ts }, type := ty, pos := ps, after := af, guard := gd } : Oper)).run Tryd.prog w = (.ok (.enter f args) w) := by
    have hf : (lay os.toArray L vs os.toArray.size a).eval (.func f) = .func (.func f) #[] #[] := rfl
    generalize (lay os.toArray L vs os.toArray.size a).eval = ρ at hx hf
    simp [execOp, go_sem, hx, hf, hen]
  unfold Oper.wp
  rw [e]
  refine hC.mono ?_
  rintro e' w' ⟨v', rfl, hb, h⟩
  exact hK _ _ ⟨_, rfl, hG.plainM hp hL hb h hF.1 hF.2⟩

theorem g_load {b : Nat} {z : Int} {x : Operand} (hp : PMono p B B0) (hF : p.Free i) (hg : Gd os a p B B0 w0 af gd) (hx : Src os a p B B0 w0 af x fun v w => v = .pointer (some ⟨b, 0, none⟩) ∧ BoxNum w b z)
    (hC : ∀ v w, Num w v z → p.C i v w) : Step os Q a p B B0 w0 i { dst := d, op := .load 27 x, type := ty, pos := ps, after := af, guard := gd } := by
  refine stg_val hp hF hg fun L vs w hG hd => ?_
  obtain ⟨e, n, ao, kk, c, ⟨c0, c1, _, _⟩, hN⟩ := hx L vs w hG hd
  refine ⟨_, ?_, hC _ _ hN⟩
  generalize (lay os.toArray L vs os.toArray.size a).eval = ρ at e
  simp [execOp, go_sem, e, c0, c1]

theorem g_move {x : Operand} (hp : PMono p B B0) (hF : p.Free i) (hg : Gd os a p B B0 w0 af gd) (hx : Src os a p B B0 w0 af x (p.C i)) : Step os Q a p B B0 w0 i { dst := d, op := .move x, type := ty, pos := ps, after := af, guard := gd } := by
  refine stg_val hp hF hg fun L vs w hG hd => ⟨_, ?_, hx L vs w hG hd⟩
  simp [execOp, go_sem]

theorem g_assign {x : Operand} (hp : PMono p B B0) (hF : p.Free i) (hg : Gd os a p B B0 w0 af gd) (hx : Src os a p B B0 w0 af x (p.C i)) : Step os Q a p B B0 w0 i { dst := d, op := .assign x, type := ty, pos := ps, after := af, guard := gd } := by
  refine stg_val hp hF hg fun L vs w hG hd => ⟨_, ?_, hx L vs w hG hd⟩
  simp [execOp, go_sem]

theorem g_call1 {x : Operand} {F : Value → World → Prop} {f : FuncId} {ts : Array TypeId} (hp : PMono p B B0) (hF : p.Free i) (hg : Gd os a p B B0 w0 af gd) (hen : ∀ args w, (callFunc f args).run Tryd.prog w = .ok (.enter f args) w)
    (hx : Src os a p B B0 w0 af x F) (hC : ∀ v w, F v w → Calls Tryd.prog f #[v] w fun e w' => ∃ v', e = .returned v' ∧ Below w.heap.size w w' ∧ p.C i v' w') :
    Step os Q a p B B0 w0 i { dst := d, op := .call { callee := .value (.func f), args := #[x], argTypes := ts }, type := ty, pos := ps, after := af, guard := gd } :=
  stg_call hp hF hg hen fun L vs w hG hd => ⟨#[_], by simp, hC _ _ (hx L vs w hG hd)⟩

theorem g_call2 {x y : Operand} {F G : Value → World → Prop} {f : FuncId} {ts : Array TypeId} (hp : PMono p B B0) (hF : p.Free i) (hg : Gd os a p B B0 w0 af gd) (hen : ∀ args w, (callFunc f args).run Tryd.prog w = .ok (.enter f args) w)
    (hx : Src os a p B B0 w0 af x F) (hy : Src os a p B B0 w0 af y G) (hC : ∀ v v' w, F v w → G v' w → Calls Tryd.prog f #[v, v'] w fun e w' => ∃ v', e = .returned v' ∧ Below w.heap.size w w' ∧ p.C i v' w') :
    Step os Q a p B B0 w0 i { dst := d, op := .call { callee := .value (.func f), args := #[x, y], argTypes := ts }, type := ty, pos := ps, after := af, guard := gd } :=
  stg_call hp hF hg hen fun L vs w hG hd => ⟨#[_, _], by simp, hC _ _ _ (hx L vs w hG hd) (hy L vs w hG hd)⟩

theorem g_two {o : Oper} {x y : Operand} {u v r : Value} (hp : PMono p B B0) (hF : p.Free i) (hg : Gd os a p B B0 w0 o.after o.guard) (hx : Src os a p B B0 w0 o.after x fun t _ => t = u) (hy : Src os a p B B0 w0 o.after y fun t _ => t = v)
    (hr : ∀ (ρ : Operand → Value) (w : World), (∀ c, ρ (.const c) = c) → ρ x = u → ρ y = v → (execOp ρ o).run Tryd.prog w = .ok (.value r) w) (hC : ∀ w, p.C i r w) : Step os Q a p B B0 w0 i o :=
  stg_val hp hF hg fun L vs w hG hd => ⟨_, hr _ _ (fun _ => rfl) (hx L vs w hG hd) (hy L vs w hG hd), hC _⟩

theorem g_run2 {o : Oper} {x y : Operand} {F G : Value → World → Prop} (hp : PMono p B B0) (hF : p.Free i) (hg : Gd os a p B B0 w0 o.after o.guard) (hx : Src os a p B B0 w0 o.after x F) (hy : Src os a p B B0 w0 o.after y G)
    (hr : ∀ (ρ : Operand → Value) (w : World), (∀ c, ρ (.const c) = c) → Below B w0 w → F (ρ x) w → G (ρ y) w → ∃ v w', (execOp ρ o).run Tryd.prog w = .ok (.value v) w' ∧ Below w.heap.size w w' ∧ p.C i v w') : Step os Q a p B B0 w0 i o :=
  stg_run hp hF hg fun L vs w hG hd => hr _ _ (fun _ => rfl) hG.below (hx L vs w hG hd) (hy L vs w hG hd)

theorem g_one {o : Oper} {x : Operand} {F : Value → World → Prop} (hp : PMono p B B0) (hF : p.Free i) (hg : Gd os a p B B0 w0 o.after o.guard) (hx : Src os a p B B0 w0 o.after x F)
    (hr : ∀ (ρ : Operand → Value) (w : World), (∀ c, ρ (.const c) = c) → F (ρ x) w → ∃ r, (execOp ρ o).run Tryd.prog w = .ok (.value r) w ∧ p.C i r w) : Step os Q a p B B0 w0 i o :=
  stg_val hp hF hg fun L vs w hG hd => hr _ _ (fun _ => rfl) (hx L vs w hG hd)

end

end Go.Proofs.YtnhapjifddhdiaaDoor

namespace Go.Proofs.YtnhapjifddhdiaaDoor
open Go Go.RowKit

def Tame (us : List Value) : Prop := ∀ u ∈ us, ∀ q, u ≠ .int .u32 q

def At (w : World) (b : Nat) (us : List Value) : Prop := ∀ j, j < us.length → w.cell? ⟨b, j, none⟩ = some (us.getD j undef) ∧ w.frozen? ⟨b, j, none⟩ = false

def putFrom (w : World) (b : Nat) : Nat → List Value → World
  | _, [] => w
  | j, u :: us => putFrom (w.setCell ⟨b, j, none⟩ u) b (j + 1) us

theorem putFrom_size (b : Nat) : ∀ (us : List Value) (j : Nat) (w : World), (putFrom w b j us).heap.size = w.heap.size
  | [], _, _ => rfl
  | u :: us, j, w => by
    show (putFrom (w.setCell ⟨b, j, none⟩ u) b (j + 1) us).heap.size = _
    rw [putFrom_size b us, World.size_setCell]

theorem putFrom_below {B b : Nat} (hb : B ≤ b) : ∀ (us : List Value) (j : Nat) (w w' : World), Below B w w' → Below B w (putFrom w' b j us)
  | [], _, _, _, h => h
  | u :: us, j, w, _, h => putFrom_below hb us (j + 1) w _ (h.setCell hb u)

theorem putFrom_frozen (b : Nat) (x : Addr) : ∀ (us : List Value) (j : Nat) (w : World), (putFrom w b j us).frozen? x = w.frozen? x
  | [], _, _ => rfl
  | u :: us, j, w => by
    show (putFrom (w.setCell ⟨b, j, none⟩ u) b (j + 1) us).frozen? x = _
    rw [putFrom_frozen b x us, World.frozen?_setCell]

theorem putFrom_other {b : Nat} {x : Addr} (h : x.block ≠ b) : ∀ (us : List Value) (j : Nat) (w : World), (putFrom w b j us).cell? x = w.cell? x
  | [], _, _ => rfl
  | u :: us, j, w => by
    show (putFrom (w.setCell ⟨b, j, none⟩ u) b (j + 1) us).cell? x = _
    rw [putFrom_other h us, World.cell?_setCell_other _ _ _ _ (by intro e; exact h (congrArg Addr.block e).symm)]

theorem putFrom_before {b i : Nat} : ∀ (us : List Value) (j : Nat) (w : World), i < j → (putFrom w b j us).cell? ⟨b, i, none⟩ = w.cell? ⟨b, i, none⟩
  | [], _, _, _ => rfl
  | u :: us, j, w, h => by
    show (putFrom (w.setCell ⟨b, j, none⟩ u) b (j + 1) us).cell? _ = _
    rw [putFrom_before us (j + 1) _ (by omega), World.cell?_setCell_other _ _ _ _ (by intro e; injection e with e1 e2; omega)]

theorem putFrom_cell {b : Nat} : ∀ (us : List Value) (j : Nat) (w : World), (∀ i, i < us.length → (w.cell? ⟨b, j + i, none⟩).isSome) → ∀ i, i < us.length → (putFrom w b j us).cell? ⟨b, j + i, none⟩ = some (us.getD i undef)
  | [], _, _, _, i, h => by simp at h
  | u :: us, j, w, hs, i, h => by
    show (putFrom (w.setCell ⟨b, j, none⟩ u) b (j + 1) us).cell? _ = _
    match i, h with
    | 0, _ =>
      rw [Nat.add_zero, putFrom_before us (j + 1) _ (by omega)]
      refine World.cell?_setCell_same' _ _ _ ?_
      have := hs 0 (by simp)
      simpa using this
    | i + 1, h =>
      rw [show j + (i + 1) = j + 1 + i by omega]
      have hl : i < us.length := by simpa using h
      rw [putFrom_cell us (j + 1) _ (fun k hk => ?_) i hl]
      · simp
      · rw [World.cell?_setCell_other _ _ _ _ (by intro e; injection e with e1 e2; omega)]
        have := hs (k + 1) (by simp; omega)
        rw [show j + 1 + k = j + (k + 1) by omega]
        exact this

theorem At.put {w : World} {b : Nat} {us us' : List Value} (h : At w b us) (hl : us'.length = us.length) : At (putFrom w b 0 us') b us' := by
  intro j hj
  refine ⟨?_, by rw [putFrom_frozen]; exact (h j (by omega)).2⟩
  have := putFrom_cell (b := b) us' 0 w (fun i hi => by rw [Nat.zero_add, (h i (by omega)).1]; rfl) j hj
  rwa [Nat.zero_add] at this

theorem At.other {w : World} {b b' : Nat} {us us' : List Value} (h : At w b us) (hne : b ≠ b') : At (putFrom w b' 0 us') b us := by
  intro j hj
  rw [putFrom_frozen, putFrom_other (by exact hne)]
  exact h j hj

theorem At.lt {w : World} {b : Nat} {us : List Value} (h : At w b us) (h0 : 0 < us.length) : b < w.heap.size := World.block_lt_of_cell? w ⟨b, 0, none⟩ (h 0 h0).1

theorem At.mono {w w' : World} {b B : Nat} {us : List Value} (h : At w b us) (hb : Below B w w') (hlt : b < B) : At w' b us := by
  intro j hj
  obtain ⟨h1, h2⟩ := h j hj
  refine ⟨(hb.cell (p := ⟨b, j, none⟩) hlt).trans h1, ?_⟩
  have := hb.block b hlt
  unfold World.frozen? at h2 ⊢
  simp only [this]
  exact h2

theorem At.new (w : World) (us : List Value) (t : TypeId) : At (w.alloc (.cells us.toArray t)) w.heap.size us := by
  intro j hj
  have h := heap_alloc_new w (.cells us.toArray t)
  refine ⟨?_, ?_⟩
  · rw [cell_of_row _ _ _ _ _ (0, 0) h]
    simp [hj]
  · simp only [World.frozen?]
    rw [h]
    simp

theorem Sl.putFrom {b : Nat} {ao : Option Addr} {n c : Nat} {xs : List Int} : ∀ (us : List Value) (j : Nat) (w : World), (∀ i, i < us.length → ∃ v, w.cell? ⟨b, j + i, none⟩ = some v ∧ ∀ q, v ≠ .int .u32 q) → Sl w ao n c xs → Sl (putFrom w b j us) ao n c xs
  | [], _, _, _, h => h
  | u :: us, j, w, hs, h => by
    show Sl (Go.Proofs.YtnhapjifddhdiaaDoor.putFrom (w.setCell ⟨b, j, none⟩ u) b (j + 1) us) ao n c xs
    obtain ⟨v, hv, hq⟩ := hs 0 (by simp)
    refine Sl.putFrom us (j + 1) _ (fun i hi => ?_) (h.setOther (a := ⟨b, j, none⟩) hv hq u)
    obtain ⟨v2, hv2, hq2⟩ := hs (i + 1) (by simp; omega)
    refine ⟨v2, ?_, hq2⟩
    rw [World.cell?_setCell_other _ _ _ _ (by intro e; injection e with e1 e2; omega), show j + 1 + i = j + (i + 1) by omega]
    exact hv2

theorem Sl.putAt {w : World} {b : Nat} {us us' : List Value} {ao : Option Addr} {n c : Nat} {xs : List Int} (h : Sl w ao n c xs) (ha : At w b us) (ht : Tame us) (hl : us'.length = us.length) : Sl (Go.Proofs.YtnhapjifddhdiaaDoor.putFrom w b 0 us') ao n c xs :=
  Sl.putFrom us' 0 w (fun i hi => ⟨us.getD i undef, by rw [Nat.zero_add]; exact (ha i (by omega)).1, ht _ (by
    have : i < us.length := by omega
    have e : us.getD i undef = us[i] := by simp [List.getD, this]
    rw [e]; exact List.getElem_mem _)⟩) h

theorem Num.putAt {w : World} {b : Nat} {us us' : List Value} {v : Value} {z : Int} (h : Num w v z) (ha : At w b us) (ht : Tame us) (hl : us'.length = us.length) : Num (putFrom w b 0 us') v z := by
  obtain ⟨neg, ao, n, c, xs, hv, hs, hn, hz⟩ := h
  exact ⟨neg, ao, n, c, xs, hv, hs.putAt ha ht hl, hn, hz⟩

structure Fq where
  P : Value → World → Prop
  mono : ∀ {v : Value} {w w' : World}, P v w → Below w.heap.size w w' → P v w'
  put : ∀ {v : Value} {w : World} {b : Nat} {us us' : List Value}, P v w → At w b us → Tame us → us'.length = us.length → P v (putFrom w b 0 us')

def Fq.num (z : Int) : Fq := ⟨fun v w => Num w v z, fun h hb => h.mono hb, fun h ha ht hl => h.putAt ha ht hl⟩
def Fq.pre (P : Value → Prop) : Fq := ⟨fun v _ => P v, fun h _ => h, fun h _ _ _ => h⟩
def Fq.is (u : Value) : Fq := Fq.pre fun v => v = u
def Fq.any : Fq := Fq.pre fun _ => True
def Fq.tup2 (F G : Fq) : Fq := ⟨fun v w => ∃ v1 v2, v = .tuple #[v1, v2] ∧ F.P v1 w ∧ G.P v2 w, fun ⟨v1, v2, e, h1, h2⟩ hb => ⟨v1, v2, e, F.mono h1 hb, G.mono h2 hb⟩, fun ⟨v1, v2, e, h1, h2⟩ ha ht hl => ⟨v1, v2, e, F.put h1 ha ht hl, G.put h2 ha ht hl⟩⟩
def Fq.tup3 (F G H : Fq) : Fq := ⟨fun v w => ∃ v1 v2 v3, v = .tuple #[v1, v2, v3] ∧ F.P v1 w ∧ G.P v2 w ∧ H.P v3 w, fun ⟨v1, v2, v3, e, h1, h2, h3⟩ hb => ⟨v1, v2, v3, e, F.mono h1 hb, G.mono h2 hb, H.mono h3 hb⟩,
  fun ⟨v1, v2, v3, e, h1, h2, h3⟩ ha ht hl => ⟨v1, v2, v3, e, F.put h1 ha ht hl, G.put h2 ha ht hl, H.put h3 ha ht hl⟩⟩
def Pair (w : World) (v : Value) (n d : Int) : Prop := ∃ p q r s, v = .agg #[p, q, r, s] ∧ Num w (.agg #[p, q]) n ∧ Num w (.agg #[r, s]) d
def Fq.pair (n d : Int) : Fq := ⟨fun v w => Pair w v n d, fun ⟨p, q, r, s, e, h1, h2⟩ hb => ⟨p, q, r, s, e, h1.mono hb, h2.mono hb⟩, fun ⟨p, q, r, s, e, h1, h2⟩ ha ht hl => ⟨p, q, r, s, e, h1.putAt ha ht hl, h2.putAt ha ht hl⟩⟩

theorem Pair.mono {w w' : World} {v : Value} {n d : Int} (h : Pair w v n d) (hb : Below w.heap.size w w') : Pair w' v n d := (Fq.pair n d).mono h hb

def Bq (w : World) (b m : Nat) (F : Fq) : Prop := ∃ us : List Value, us.length = m ∧ 0 < m ∧ At w b us ∧ Tame us ∧ F.P (.agg us.toArray) w

theorem Bq.lt {w : World} {b m : Nat} {F : Fq} (h : Bq w b m F) : b < w.heap.size := by
  obtain ⟨us, h1, h2, h3, _⟩ := h
  exact h3.lt (by omega)
theorem Bq.mono {w w' : World} {b m : Nat} {F : Fq} (h : Bq w b m F) (hb : Below w.heap.size w w') : Bq w' b m F := by
  have hl := h.lt
  obtain ⟨us, h1, h2, h3, h4, h5⟩ := h
  exact ⟨us, h1, h2, h3.mono hb hl, h4, F.mono h5 hb⟩
theorem Bq.other {w : World} {b b' m m' : Nat} {F F' : Fq} (h : Bq w b m F) (h' : Bq w b' m' F') (hne : b ≠ b') {us' : List Value} (hl : us'.length = m') : Bq (putFrom w b' 0 us') b m F := by
  obtain ⟨us, h1, h2, h3, h4, h5⟩ := h
  obtain ⟨vs, g1, g2, g3, g4, g5⟩ := h'
  exact ⟨us, h1, h2, h3.other hne, h4, F.put h5 g3 g4 (by omega)⟩
theorem Bq.same {w : World} {b m : Nat} {F F' : Fq} (h : Bq w b m F) {us' : List Value} (hl : us'.length = m) (ht : Tame us') (hF : F'.P (.agg us'.toArray) w) : Bq (putFrom w b 0 us') b m F' := by
  obtain ⟨us, h1, h2, h3, h4, h5⟩ := h
  exact ⟨us', hl, h2, h3.put (by omega), ht, F'.put hF h3 h4 (by omega)⟩

structure Ob where
  b : Nat
  k : Nat
  m : Nat
  F0 : Fq
  F1 : Fq
inductive Knd where
  | sl (l : Nat)
  | clo (f : FuncId)
@[reducible] instance (l : Nat) : OfNat Knd l := ⟨.sl l⟩
instance : Coe Nat Knd := ⟨.sl⟩
def cloV (f : FuncId) (b : Nat) : Value := .func (.func f) #[] #[.pointer (some ⟨b, 0, none⟩)]
structure Nb where
  i : Nat
  k : Nat
  m : Nat
  F0 : Fq
  F1 : Fq
  /-- A slice, a function, or nothing for a pointer. -/
  s : Option Knd
def blockOf : Value → Nat
  | .pointer (some x) => x.block
  | .slice (some x) _ _ => x.block
  | .func _ _ ⟨.pointer (some x) :: _⟩ => x.block
  | _ => 0
def Nb.ptr (n : Nb) (b : Nat) : Value := match n.s with
  | none => .pointer (some ⟨b, 0, none⟩)
  | some (.sl l) => .slice (some ⟨b, 0, none⟩) l l
  | some (.clo f) => cloV f b
theorem Nb.block_ptr (n : Nb) (b : Nat) : blockOf (n.ptr b) = b := by
  unfold Nb.ptr
  split <;> rfl
def Nb.now (n : Nb) (L : Nat → Bool) : Fq := if (n.s.isSome || L n.k) = true then n.F1 else n.F0
theorem Nb.now_up {n : Nb} {L : Nat → Bool} {i : Nat} {t : Bool} (h : n.k ≠ i) : n.now (up L i t) = n.now L := by
  unfold Nb.now
  rw [up_ne _ _ h]
theorem Nb.now_same (n : Nb) (L : Nat → Bool) : n.now (up L n.k true) = n.F1 := by
  unfold Nb.now
  rw [up_same, Bool.or_true, if_pos rfl]
theorem Nb.now_on {n : Nb} {L : Nat → Bool} (h : L n.k = true) : n.now L = n.F1 := by
  unfold Nb.now
  rw [h, Bool.or_true, if_pos rfl]
theorem Nb.now_off {n : Nb} {L : Nat → Bool} (hs : n.s = none) (h : L n.k = false) : n.now L = n.F0 := by
  unfold Nb.now
  rw [h, hs]
  rfl
structure Pq where
  C : List Fq
  old : List Ob
  new : List Nb
def Pq.c (p : Pq) (j : Nat) : Fq := (p.C[j]?).getD Fq.any

structure Pq.G (p : Pq) (B B0 : Nat) (w0 : World) (L : Nat → Bool) (vs : Nat → Value) (w : World) : Prop where
  below : Below B w0 w
  size : B0 ≤ w.heap.size
  val : ∀ j, L j = true → (p.c j).P (vs j) w
  old : ∀ o ∈ p.old, Bq w o.b o.m (if L o.k then o.F1 else o.F0)
  new : ∀ n ∈ p.new, L n.i = true → ∃ b, vs n.i = n.ptr b ∧ B0 ≤ b ∧ Bq w b n.m (n.now L)
  apart : ∀ n ∈ p.new, ∀ m ∈ p.new, n.i ≠ m.i → L n.i = true → L m.i = true → blockOf (vs n.i) ≠ blockOf (vs m.i)

structure Pq.Ok (p : Pq) (B B0 : Nat) : Prop where
  oldlt : ∀ o ∈ p.old, B ≤ o.b ∧ o.b < B0
  oldne : ∀ o ∈ p.old, ∀ q ∈ p.old, o.k ≠ q.k → o.b ≠ q.b
  oldinj : ∀ o ∈ p.old, ∀ q ∈ p.old, o.k = q.k → o = q
  newinj : ∀ n ∈ p.new, ∀ m ∈ p.new, n.i = m.i → n = m
  newink : ∀ n ∈ p.new, ∀ m ∈ p.new, n.k = m.k → n = m
  le : B ≤ B0

def Pq.Free (p : Pq) (i : Nat) : Prop := (∀ o ∈ p.old, o.k ≠ i) ∧ ∀ n ∈ p.new, n.i ≠ i ∧ n.k ≠ i

theorem Pq.G.plain {p : Pq} {B B0 : Nat} {w0 w w' : World} {L : Nat → Bool} {vs : Nat → Value} (h : p.G B B0 w0 L vs w) (hp : p.Ok B B0) {i : Nat} {v : Value} (hF : p.Free i) (hb : Below w.heap.size w w') (hC : (p.c i).P v w') :
    p.G B B0 w0 (up L i true) (up vs i v) w' where
  below := h.below.trans (hb.mono (Nat.le_trans hp.le h.size))
  size := Nat.le_trans h.size hb.size
  val := fun j hj => by
    by_cases hji : j = i
    · subst hji; rw [up_same]; exact hC
    · rw [up_ne _ _ hji] at hj ⊢; exact (p.c j).mono (h.val j hj) hb
  old := fun o ho => by rw [up_ne _ _ (hF.1 o ho)]; exact (h.old o ho).mono hb
  new := fun n hn hj => by
    rw [up_ne _ _ (hF.2 n hn).1] at hj ⊢
    rw [Nb.now_up (hF.2 n hn).2]
    obtain ⟨b, e1, e2, e3⟩ := h.new n hn hj
    exact ⟨b, e1, e2, e3.mono hb⟩
  apart := fun n hn m hm hne hj hk => by
    rw [up_ne _ _ (hF.2 n hn).1] at hj ⊢
    rw [up_ne _ _ (hF.2 m hm).1] at hk ⊢
    exact h.apart n hn m hm hne hj hk

theorem Pq.G.lay {p : Pq} {B B0 : Nat} {w0 w : World} {L : Nat → Bool} {vs : Nat → Value} (h : p.G B B0 w0 L vs w) (hp : p.Ok B B0) {n0 : Nb} (hi : n0 ∈ p.new) {F : Fq} (hk : n0.now (up L n0.i true) = F)
    (hC : ∀ v w', (p.c n0.i).P v w') (h1 : ∀ o ∈ p.old, o.k ≠ n0.i) (h2 : ∀ n ∈ p.new, n.i ≠ n0.i → n.k ≠ n0.i) (t : TypeId) {us : List Value} (hl : us.length = n0.m) (h0 : 0 < n0.m) (ht : Tame us) (hF : F.P (.agg us.toArray) (w.alloc (.cells us.toArray t))) :
    p.G B B0 w0 (up L n0.i true) (up vs n0.i (n0.ptr w.heap.size)) (w.alloc (.cells us.toArray t)) := by
  have hb := alloc_below w (.cells us.toArray t)
  have hbx : Bq (w.alloc (.cells us.toArray t)) w.heap.size n0.m F := ⟨us, hl, h0, At.new w us t, ht, hF⟩
  refine ⟨h.below.trans (hb.mono (Nat.le_trans hp.le h.size)), Nat.le_trans h.size hb.size, fun j hj => ?_, fun o ho => ?_, fun n hn hj => ?_, fun n hn m hm hne hj hk' => ?_⟩
  · by_cases hji : j = n0.i
    · subst hji; exact hC _ _
    · rw [up_ne _ _ hji] at hj ⊢; exact (p.c j).mono (h.val j hj) hb
  · rw [up_ne _ _ (h1 o ho)]; exact (h.old o ho).mono hb
  · by_cases hni : n.i = n0.i
    · have e := hp.newinj n hn _ hi hni
      subst e
      rw [up_same, hk]
      exact ⟨_, rfl, h.size, hbx⟩
    · rw [Nb.now_up (h2 n hn hni)]
      rw [up_ne _ _ hni] at hj ⊢
      obtain ⟨b, e1, e2, e3⟩ := h.new n hn hj
      exact ⟨b, e1, e2, e3.mono hb⟩
  · by_cases hni : n.i = n0.i
    · have hmi : m.i ≠ n0.i := fun e => hne (hni.trans e.symm)
      rw [hni, up_same]
      rw [up_ne _ _ hmi] at hk' ⊢
      obtain ⟨b, e1, e2, e3⟩ := h.new m hm hk'
      rw [e1, Nb.block_ptr, Nb.block_ptr]
      have := e3.lt
      omega
    · rw [up_ne _ _ hni] at hj ⊢
      by_cases hmi : m.i = n0.i
      · rw [hmi, up_same]
        obtain ⟨b, e1, e2, e3⟩ := h.new n hn hj
        rw [e1, Nb.block_ptr, Nb.block_ptr]
        have := e3.lt
        omega
      · rw [up_ne _ _ hmi] at hk' ⊢
        exact h.apart n hn m hm hne hj hk'

theorem Pq.G.alloc {p : Pq} {B B0 : Nat} {w0 w : World} {L : Nat → Bool} {vs : Nat → Value} (h : p.G B B0 w0 L vs w) (hp : p.Ok B B0) {n0 : Nb} (hi : n0 ∈ p.new) (hsl : n0.s = none) (hk : L n0.k = false) (hki : n0.k ≠ n0.i)
    (hC : ∀ v w', (p.c n0.i).P v w') (h1 : ∀ o ∈ p.old, o.k ≠ n0.i) (h2 : ∀ n ∈ p.new, n.k ≠ n0.i) (t : TypeId) {us : List Value} (hl : us.length = n0.m) (h0 : 0 < n0.m) (ht : Tame us) (hF : ∀ w', n0.F0.P (.agg us.toArray) w') :
    p.G B B0 w0 (up L n0.i true) (up vs n0.i (.pointer (some ⟨w.heap.size, 0, none⟩))) (w.alloc (.cells us.toArray t)) := by
  have := h.lay hp hi (F := n0.F0) (by rw [Nb.now_up hki]; exact Nb.now_off hsl hk) hC h1 (fun n hn _ => h2 n hn) t hl h0 ht (hF _)
  have e : n0.ptr w.heap.size = .pointer (some ⟨w.heap.size, 0, none⟩) := by unfold Nb.ptr; rw [hsl]
  rwa [e] at this

theorem Pq.G.storeNew {p : Pq} {B B0 : Nat} {w0 w : World} {L : Nat → Bool} {vs : Nat → Value} (h : p.G B B0 w0 L vs w) (hp : p.Ok B B0) {n0 : Nb} (hi : n0 ∈ p.new) (hLi : L n0.i = true)
    {us : List Value} (hl : us.length = n0.m) (ht : Tame us) (hF : n0.F1.P (.agg us.toArray) w) (hC : ∀ v w', (p.c n0.k).P v w') (h1 : ∀ o ∈ p.old, o.k ≠ n0.k) (h2 : ∀ n ∈ p.new, n.i ≠ n0.k) {b : Nat} (hb : vs n0.i = n0.ptr b) (v : Value) :
    p.G B B0 w0 (up L n0.k true) (up vs n0.k v) (putFrom w b 0 us) := by
  obtain ⟨b', hb', hB0, hbox⟩ := h.new _ hi hLi
  have hbb : b' = b := by
    have := congrArg blockOf (hb'.symm.trans hb)
    rwa [Nb.block_ptr, Nb.block_ptr] at this
  subst hbb
  have hsz : B0 ≤ (putFrom w b' 0 us).heap.size := by rw [putFrom_size]; exact h.size
  have hbox0 := hbox
  obtain ⟨us0, g1, g2, g3, g4, g5⟩ := hbox0
  refine ⟨putFrom_below (Nat.le_trans hp.le hB0) us 0 _ _ h.below, hsz, fun j hj => ?_, fun o ho => ?_, fun n hn hj => ?_, fun n hn m hm hne hj hk' => ?_⟩
  · by_cases hji : j = n0.k
    · subst hji; exact hC _ _
    · rw [up_ne _ _ hji] at hj ⊢; exact (p.c j).put (h.val j hj) g3 g4 (by omega)
  · rw [up_ne _ _ (h1 o ho)]
    exact (h.old o ho).other hbox (by have := (hp.oldlt o ho).2; omega) hl
  · rw [up_ne _ _ (h2 n hn)] at hj ⊢
    by_cases hnk : n.k = n0.k
    · have e := hp.newink n hn _ hi hnk
      subst e
      refine ⟨b', hb', hB0, ?_⟩
      rw [Nb.now_same]
      exact hbox.same hl ht hF
    · rw [Nb.now_up hnk]
      obtain ⟨b2, e1, e2, e3⟩ := h.new n hn hj
      refine ⟨b2, e1, e2, e3.other hbox (fun e => ?_) hl⟩
      have hni : n.i ≠ n0.i := fun e' => by
        have e2 := hp.newinj n hn _ hi e'
        exact hnk (by rw [e2])
      exact h.apart n hn _ hi hni hj hLi (by rw [e1, hb', Nb.block_ptr, Nb.block_ptr, e])
  · rw [up_ne _ _ (h2 n hn)] at hj ⊢
    rw [up_ne _ _ (h2 m hm)] at hk' ⊢
    exact h.apart n hn m hm hne hj hk'

theorem Pq.G.storeOld {p : Pq} {B B0 : Nat} {w0 w : World} {L : Nat → Bool} {vs : Nat → Value} (h : p.G B B0 w0 L vs w) (hp : p.Ok B B0) {o0 : Ob} (hi : o0 ∈ p.old)
    {us : List Value} (hl : us.length = o0.m) (ht : Tame us) (hF : o0.F1.P (.agg us.toArray) w) (hC : ∀ v w', (p.c o0.k).P v w') (h2 : ∀ n ∈ p.new, n.i ≠ o0.k ∧ n.k ≠ o0.k) (v : Value) :
    p.G B B0 w0 (up L o0.k true) (up vs o0.k v) (putFrom w o0.b 0 us) := by
  have hbox := h.old _ hi
  have hblt := hp.oldlt _ hi
  have hsz : B0 ≤ (putFrom w o0.b 0 us).heap.size := by rw [putFrom_size]; exact h.size
  have hbox0 := hbox
  obtain ⟨us0, g1, g2, g3, g4, g5⟩ := hbox0
  refine ⟨putFrom_below hblt.1 us 0 _ _ h.below, hsz, fun j hj => ?_, fun o ho => ?_, fun n hn hj => ?_, fun n hn m hm hne hj hk' => ?_⟩
  · by_cases hji : j = o0.k
    · subst hji; exact hC _ _
    · rw [up_ne _ _ hji] at hj ⊢; exact (p.c j).put (h.val j hj) g3 g4 (by omega)
  · by_cases hok : o.k = o0.k
    · have e := hp.oldinj o ho _ hi hok
      subst e
      rw [up_same]
      exact hbox.same hl ht hF
    · rw [up_ne _ _ hok]
      exact (h.old o ho).other hbox (hp.oldne o ho _ hi hok) hl
  · rw [up_ne _ _ (h2 n hn).1] at hj ⊢
    rw [Nb.now_up (h2 n hn).2]
    obtain ⟨b2, e1, e2, e3⟩ := h.new n hn hj
    exact ⟨b2, e1, e2, e3.other hbox (by have := hblt.2; omega) hl⟩
  · rw [up_ne _ _ (h2 n hn).1] at hj ⊢
    rw [up_ne _ _ (h2 m hm).1] at hk' ⊢
    exact h.apart n hn m hm hne hj hk'

theorem wp_region_inv_plain {P : Program} {ops : Array Oper} {Q : Exit → Act → World → Prop} {id : Nat} {a : Act} {w : World} (hA : ApartAll ops)
    (hB : ∀ i o, ops[i]? = some o → ∀ e ∈ o.after, Region.binds .any e = true → e.on < i) (G : (Nat → Bool) → (Nat → Value) → World → Prop)
    (h0 : G (fun _ => false) (fun _ => undef) w)
    (hs : ∀ i o, ops[i]? = some o → ∀ L vs w, G L vs w → L i = false → (∀ e ∈ o.after, Region.binds .any e = true → L e.on = true) → ClosedL ops L →
      wpOp P ops Q i (fun a' w' => ∃ v, a' = (lay ops L vs ops.size a).put o.dst v ∧ G (up L i true) (up vs i v) w') (lay ops L vs ops.size a) w)
    (hf : ∀ L vs w, (∀ j, j < ops.size → L j = true) → G L vs w → Q .normal (lay ops L vs ops.size a) w) : (Code.region id ops false).wp P Q a w := by
  refine wp_region ?_
  have hL1 : ∀ i, up (fun j => decide (j < i)) i true = fun j => decide (j < i + 1) := fun i => by
    funext j
    unfold up
    split
    · rename_i h; subst h; simp
    · rename_i h; simp; omega
  have key : ∀ (k i : Nat) (vs : Nat → Value) (w' : World), i + k = ops.size → G (fun j => decide (j < i)) vs w' → wpOps P ops Q (List.range' i k) (lay ops (fun j => decide (j < i)) vs ops.size a) w' := by
    intro k
    induction k with
    | zero =>
      intro i vs w' hi hG
      show Q .normal _ _
      exact hf _ vs w' (fun j hj => by simp; omega) hG
    | succ k ih =>
      intro i vs w' hi hG
      rw [List.range'_succ, wpOps_cons]
      have hlt : i < ops.size := by omega
      have ho : ops[i]? = some ops[i] := by simp [hlt]
      refine wpOp_mono ?_ (hs i _ ho _ vs w' hG (by simp) (fun e he hb => by have := hB i _ ho e he hb; simpa using this) (fun j o hj hl e he hb => by have h1 := hB j o hj e he hb; simp at hl ⊢; omega))
      rintro a2 w2 ⟨v, rfl, hG2⟩
      have hdst : dstOf ops i = ops[i].dst := by simp [dstOf, hlt]
      have h3 := lay_set (L := fun j => decide (j < i)) (vs := vs) (i := i) (v := v) hA (by simp) ops.size a hlt
      rw [hL1] at hG2 h3
      rw [← hdst, ← h3]
      exact ih (i + 1) (up vs i v) w2 (by omega) hG2
  have h := key ops.size 0 (fun _ => undef) w (by omega) (by simpa using h0)
  rw [List.range_eq_range']
  have e : ∀ k, lay ops (fun j => decide (j < 0)) (fun _ => undef) k a = a := fun k => by
    induction k with
    | zero => rfl
    | succ k ih => simp only [lay, ih]; simp
  rw [e] at h
  exact h

structure Fr (w0 : World) (bs : List (Nat × Nat × Fq)) (W : World) : Prop where
  below : Below w0.heap.size w0 W
  boxes : ∀ x ∈ bs, w0.heap.size ≤ x.1 ∧ Bq W x.1 x.2.1 x.2.2
  apart : (bs.map (·.1)).Nodup

theorem Fr.mono {w0 W W' : World} {bs : List (Nat × Nat × Fq)} (h : Fr w0 bs W) (hb : Below W.heap.size W W') : Fr w0 bs W' :=
  ⟨h.below.trans (hb.mono h.below.size), fun x hx => ⟨(h.boxes x hx).1, (h.boxes x hx).2.mono hb⟩, h.apart⟩

theorem Fr.start (w0 : World) : Fr w0 [] w0 := ⟨Below.refl _ _, fun _ h => by simp at h, by simp⟩

theorem Fr.push {w0 W : World} {bs : List (Nat × Nat × Fq)} (h : Fr w0 bs W) {m : Nat} {F : Fq} {us : List Value} (t : TypeId) (hl : us.length = m) (h0 : 0 < m) (ht : Tame us) (hF : F.P (.agg us.toArray) W) :
    Fr w0 ((W.heap.size, m, F) :: bs) (W.alloc (.cells us.toArray t)) := by
  have hb := alloc_below W (.cells us.toArray t)
  have h2 := h.mono hb
  refine ⟨h2.below, fun x hx => ?_, ?_⟩
  · rcases List.mem_cons.1 hx with rfl | hx
    · exact ⟨h.below.size, us, hl, h0, At.new W us t, ht, F.mono hF hb⟩
    · exact h2.boxes x hx
  · rw [List.map_cons, List.nodup_cons]
    refine ⟨fun hm => ?_, h.apart⟩
    obtain ⟨x, hx, e⟩ := List.mem_map.1 hm
    have := (h.boxes x hx).2.lt
    omega

def oldOf : List (Nat × Nat × Fq) → List (Option (Nat × Fq)) → Nat → List Ob
  | (b, m, F) :: r, none :: ks, d => ⟨b, d, m, F, F⟩ :: oldOf r ks (d + 1)
  | (b, m, F) :: r, some (k, F1) :: ks, d => ⟨b, k, m, F, F1⟩ :: oldOf r ks (d + 1)
  | _, _, _ => []
def oldTo : List (Nat × Nat × Fq) → List (Option (Nat × Fq)) → List (Nat × Nat × Fq)
  | (b, m, F) :: r, none :: ks => (b, m, F) :: oldTo r ks
  | (b, m, _) :: r, some (_, F1) :: ks => (b, m, F1) :: oldTo r ks
  | _, _ => []

def keysOf : List (Option (Nat × Fq)) → Nat → List Nat
  | none :: ks, d => d :: keysOf ks (d + 1)
  | some (k, _) :: ks, d => k :: keysOf ks (d + 1)
  | [], _ => []

theorem oldOf_mem {bs : List (Nat × Nat × Fq)} {ks : List (Option (Nat × Fq))} {d : Nat} {o : Ob} (h : o ∈ oldOf bs ks d) : (o.b, o.m, o.F0) ∈ bs := by
  induction bs generalizing ks d with
  | nil => simp [oldOf] at h
  | cons x r ih =>
    obtain ⟨b, m, F⟩ := x
    cases ks with
    | nil => simp [oldOf] at h
    | cons k ks =>
      cases k with
      | none =>
        simp only [oldOf, List.mem_cons] at h
        rcases h with rfl | h
        · simp
        · exact List.mem_cons_of_mem _ (ih h)
      | some kk =>
        obtain ⟨k, F1⟩ := kk
        simp only [oldOf, List.mem_cons] at h
        rcases h with rfl | h
        · simp
        · exact List.mem_cons_of_mem _ (ih h)

theorem oldOf_key {bs : List (Nat × Nat × Fq)} {ks : List (Option (Nat × Fq))} {d : Nat} {o : Ob} (h : o ∈ oldOf bs ks d) : o.k ∈ keysOf ks d := by
  induction bs generalizing ks d with
  | nil => simp [oldOf] at h
  | cons x r ih =>
    obtain ⟨b, m, F⟩ := x
    cases ks with
    | nil => simp [oldOf] at h
    | cons k ks =>
      cases k with
      | none =>
        simp only [oldOf, List.mem_cons] at h
        rcases h with rfl | h
        · simp [keysOf]
        · exact List.mem_cons_of_mem _ (ih h)
      | some kk =>
        obtain ⟨k, F1⟩ := kk
        simp only [oldOf, List.mem_cons] at h
        rcases h with rfl | h
        · simp [keysOf]
        · exact List.mem_cons_of_mem _ (ih h)

theorem oldOf_inj {bs : List (Nat × Nat × Fq)} {ks : List (Option (Nat × Fq))} {d : Nat} (hk : (keysOf ks d).Nodup) : ∀ o ∈ oldOf bs ks d, ∀ q ∈ oldOf bs ks d, o.k = q.k → o = q := by
  induction bs generalizing ks d with
  | nil => intro o ho; simp [oldOf] at ho
  | cons x r ih =>
    obtain ⟨b, m, F⟩ := x
    cases ks with
    | nil => intro o ho; simp [oldOf] at ho
    | cons k ks =>
      cases k with
      | none =>
        simp only [keysOf, List.nodup_cons] at hk
        intro o ho q hq he
        simp only [oldOf, List.mem_cons] at ho hq
        rcases ho with rfl | ho
        · rcases hq with rfl | hq
          · rfl
          · exact absurd (by have h := oldOf_key hq; rwa [← show d = q.k from he] at h) hk.1
        · rcases hq with rfl | hq
          · exact absurd (by have h := oldOf_key ho; rwa [← show d = o.k from he.symm] at h) hk.1
          · exact ih hk.2 o ho q hq he
      | some kk =>
        obtain ⟨k, F1⟩ := kk
        simp only [keysOf, List.nodup_cons] at hk
        intro o ho q hq he
        simp only [oldOf, List.mem_cons] at ho hq
        rcases ho with rfl | ho
        · rcases hq with rfl | hq
          · rfl
          · exact absurd (by have h := oldOf_key hq; rwa [← show k = q.k from he] at h) hk.1
        · rcases hq with rfl | hq
          · exact absurd (by have h := oldOf_key ho; rwa [← show k = o.k from he.symm] at h) hk.1
          · exact ih hk.2 o ho q hq he

theorem oldOf_ne {bs : List (Nat × Nat × Fq)} {ks : List (Option (Nat × Fq))} {d : Nat} (hb : (bs.map (·.1)).Nodup) : ∀ o ∈ oldOf bs ks d, ∀ q ∈ oldOf bs ks d, o.k ≠ q.k → o.b ≠ q.b := by
  induction bs generalizing ks d with
  | nil => intro o ho; simp [oldOf] at ho
  | cons x r ih =>
    obtain ⟨b, m, F⟩ := x
    simp only [List.map_cons, List.nodup_cons] at hb
    have hne : ∀ {ks d} {q : Ob}, q ∈ oldOf r ks d → q.b ≠ b := fun hq e => hb.1 (by rw [← e]; exact List.mem_map.2 ⟨_, oldOf_mem hq, rfl⟩)
    cases ks with
    | nil => intro o ho; simp [oldOf] at ho
    | cons k ks =>
      cases k with
      | none =>
        intro o ho q hq he
        simp only [oldOf, List.mem_cons] at ho hq
        rcases ho with rfl | ho
        · rcases hq with rfl | hq
          · exact absurd rfl he
          · exact Ne.symm (hne hq)
        · rcases hq with rfl | hq
          · exact hne ho
          · exact ih hb.2 o ho q hq he
      | some kk =>
        obtain ⟨k, F1⟩ := kk
        intro o ho q hq he
        simp only [oldOf, List.mem_cons] at ho hq
        rcases ho with rfl | ho
        · rcases hq with rfl | hq
          · exact absurd rfl he
          · exact Ne.symm (hne hq)
        · rcases hq with rfl | hq
          · exact hne ho
          · exact ih hb.2 o ho q hq he

theorem oldTo_mem {bs : List (Nat × Nat × Fq)} {ks : List (Option (Nat × Fq))} {d len : Nat} {W : World} {L : Nat → Bool} (hL : ∀ j, j < len → L j = true) (hk : ∀ k F, some (k, F) ∈ ks → k < len)
    (h : ∀ o ∈ oldOf bs ks d, Bq W o.b o.m (if L o.k then o.F1 else o.F0)) : ∀ x ∈ oldTo bs ks, Bq W x.1 x.2.1 x.2.2 := by
  induction bs generalizing ks d with
  | nil => intro x hx; simp [oldTo] at hx
  | cons y r ih =>
    obtain ⟨b, m, F⟩ := y
    cases ks with
    | nil => intro x hx; simp [oldTo] at hx
    | cons k ks =>
      have hk' : ∀ k F, some (k, F) ∈ ks → k < len := fun k F hm => hk k F (List.mem_cons_of_mem _ hm)
      cases k with
      | none =>
        intro x hx
        simp only [oldTo, List.mem_cons] at hx
        simp only [oldOf, List.mem_cons, forall_eq_or_imp] at h
        rcases hx with rfl | hx
        · have := h.1; split at this <;> exact this
        · exact ih hk' h.2 x hx
      | some kk =>
        obtain ⟨k, F1⟩ := kk
        intro x hx
        simp only [oldTo, List.mem_cons] at hx
        simp only [oldOf, List.mem_cons, forall_eq_or_imp] at h
        rcases hx with rfl | hx
        · have h1 := h.1
          rw [hL k (hk k F1 (by simp))] at h1
          exact h1
        · exact ih hk' h.2 x hx

theorem oldTo_fst {bs : List (Nat × Nat × Fq)} {ks : List (Option (Nat × Fq))} (hl : ks.length = bs.length) : (oldTo bs ks).map (·.1) = bs.map (·.1) := by
  induction bs generalizing ks with
  | nil => simp [oldTo]
  | cons y r ih =>
    obtain ⟨b, m, F⟩ := y
    cases ks with
    | nil => simp at hl
    | cons k ks =>
      have hl' : ks.length = r.length := by simpa using hl
      cases k with
      | none => simp [oldTo, ih hl']
      | some kk => obtain ⟨k, F1⟩ := kk; simp [oldTo, ih hl']

def okB (len nold : Nat) (ks : List (Option (Nat × Fq))) (new : List Nb) : Bool :=
  ks.length == nold && (keysOf ks len).all (fun k => (keysOf ks len).count k == 1) && ks.all (fun x => match x with | none => true | some (k, _) => decide (k < len)) &&
  (new.map (·.i)).all (fun k => (new.map (·.i)).count k == 1) && (new.map (·.k)).all (fun k => (new.map (·.k)).count k == 1) && new.all (fun n => decide (n.i < len) && decide (n.k < len))

theorem nodup_count {l : List Nat} (h : l.all (fun k => l.count k == 1) = true) : l.Nodup := by
  rw [List.nodup_iff_count]
  intro a
  by_cases ha : a ∈ l
  · have := List.all_eq_true.1 h a ha
    simp at this
    omega
  · rw [List.count_eq_zero.2 ha]; omega

theorem new_inj {α : Type} {f : α → Nat} {l : List α} (h : (l.map f).Nodup) : ∀ n ∈ l, ∀ m ∈ l, f n = f m → n = m := by
  induction l with
  | nil => intro n hn; simp at hn
  | cons x r ih =>
    simp only [List.map_cons, List.nodup_cons] at h
    intro n hn m hm he
    rcases List.mem_cons.1 hn with h1 | h1
    · rcases List.mem_cons.1 hm with h2 | h2
      · rw [h1, h2]
      · exact absurd (List.mem_map.2 ⟨m, h2, by rw [← he, h1]⟩) h.1
    · rcases List.mem_cons.1 hm with h2 | h2
      · exact absurd (List.mem_map.2 ⟨n, h1, by rw [he, h2]⟩) h.1
      · exact ih h.2 n h1 m h2 he

def plq (C : List Fq) (bs : List (Nat × Nat × Fq)) (ks : List (Option (Nat × Fq))) (new : List Nb) (len : Nat) : Pq := ⟨C, oldOf bs ks len, new⟩

section
variable {os : List Oper} {Q : Exit → Act → World → Prop} {a : Act} {p : Pq} {B B0 : Nat} {w0 : World}

def StepQ (os : List Oper) (Q : Exit → Act → World → Prop) (a : Act) (p : Pq) (B B0 : Nat) (w0 : World) (i : Nat) (o : Oper) : Prop :=
  os.toArray[i]? = some o → ∀ L vs w, p.G B B0 w0 L vs w → L i = false → (∀ e ∈ o.after, Region.binds .any e = true → L e.on = true) → ClosedL os.toArray L →
    wpOp Tryd.prog os.toArray Q i (fun a' w' => ∃ v, a' = (lay os.toArray L vs os.toArray.size a).put o.dst v ∧ p.G B B0 w0 (up L i true) (up vs i v) w') (lay os.toArray L vs os.toArray.size a) w

def GS (p : Pq) (B B0 : Nat) (w0 : World) (same : List (Nat × Nat)) (L : Nat → Bool) (vs : Nat → Value) (w : World) : Prop := p.G B B0 w0 L vs w ∧ ∀ x ∈ same, L x.1 = true → L x.2 = true ∧ vs x.1 = vs x.2

def StepS (os : List Oper) (Q : Exit → Act → World → Prop) (a : Act) (p : Pq) (B B0 : Nat) (w0 : World) (same : List (Nat × Nat)) (i : Nat) (o : Oper) : Prop :=
  os.toArray[i]? = some o → ∀ L vs w, GS p B B0 w0 same L vs w → L i = false → (∀ e ∈ o.after, Region.binds .any e = true → L e.on = true) → ClosedL os.toArray L →
    wpOp Tryd.prog os.toArray Q i (fun a' w' => ∃ v, a' = (lay os.toArray L vs os.toArray.size a).put o.dst v ∧ GS p B B0 w0 same (up L i true) (up vs i v) w') (lay os.toArray L vs os.toArray.size a) w

theorem stepS_of {same : List (Nat × Nat)} {i : Nat} {o : Oper} (h : StepQ os Q a p B B0 w0 i o) (hn : same.all (fun x => x.1 != i) = true) : StepS os Q a p B B0 w0 same i o := by
  intro hio L vs w hG hL hd hc
  refine wpOp_mono ?_ (h hio L vs w hG.1 hL hd hc)
  rintro a2 w2 ⟨v, rfl, hG2⟩
  refine ⟨v, rfl, hG2, fun x hx h1 => ?_⟩
  have hx1 : x.1 ≠ i := by
    have := List.all_eq_true.1 hn x hx
    simpa using this
  rw [up_ne _ _ hx1] at h1
  obtain ⟨h2, h3⟩ := hG.2 x hx h1
  have hx2 : x.2 ≠ i := fun e => by rw [e, hL] at h2; cases h2
  rw [up_ne _ _ hx1, up_ne _ _ hx2, up_ne _ _ hx2]
  exact ⟨h2, h3⟩

theorem region_frG {same : List (Nat × Nat)} {id : Nat} {dr : Bool} {C : List Fq} {bs : List (Nat × Nat × Fq)} {ks : List (Option (Nat × Fq))} {new : List Nb} {W : World} (E : Fr w0 bs W) (hok : okB os.length bs.length ks new = true) (hm : Tryd.prog.follows .mixedOrders = true) (ha : apartB (os.map (·.dst)) = true) (hb : backB os 0 = true)
    (hs : (plq C bs ks new os.length).Ok w0.heap.size W.heap.size → ∀ i o, os.toArray[i]? = some o → StepS os Q a (plq C bs ks new os.length) w0.heap.size W.heap.size w0 same i o)
    (hf : ∀ L vs W' (nb : Nat → Nat), (∀ x ∈ same, x.1 < os.length → vs x.1 = vs x.2) → (∀ j, j < os.length → L j = true) → (∀ j, j < os.length → ((C[j]?).getD Fq.any).P (vs j) W') → (∀ n ∈ new, vs n.i = n.ptr (nb n.i)) → Fr w0 (new.map (fun n => (nb n.i, n.m, n.F1)) ++ oldTo bs ks) W' →
      Q .normal (lay os.toArray L vs os.length a) W') : (Code.region id os.toArray dr).wp Tryd.prog Q a W := by
  simp only [okB, Bool.and_eq_true, beq_iff_eq] at hok
  obtain ⟨⟨⟨⟨⟨k1, k2⟩, k3⟩, k4⟩, k5⟩, k6⟩ := hok
  have n2 := nodup_count k2
  have n4 := nodup_count k4
  have n5 := nodup_count k5
  have hp : (plq C bs ks new os.length).Ok w0.heap.size W.heap.size := by
    refine ⟨fun o ho => ?_, oldOf_ne E.apart, oldOf_inj n2, new_inj n4, new_inj n5, E.below.size⟩
    have h := E.boxes _ (oldOf_mem ho)
    exact ⟨h.1, h.2.lt⟩
  have h0 : ∀ W', Below W.heap.size W W' → W'.heap.size = W.heap.size → GS (plq C bs ks new os.length) w0.heap.size W.heap.size w0 same (fun _ => false) (fun _ => undef) W' := fun W' hW hsz =>
    ⟨⟨E.below.trans (hW.mono E.below.size), by omega, fun _ h => (by cases h), fun o ho => by simpa using (E.boxes _ (oldOf_mem ho)).2.mono hW, fun _ _ h => (by cases h), fun _ _ _ _ _ h => (by cases h)⟩, fun _ _ h => (by cases h)⟩
  have hs' := hs hp
  have hend : ∀ L vs w, (∀ j, j < os.toArray.size → L j = true) → GS (plq C bs ks new os.length) w0.heap.size W.heap.size w0 same L vs w → Q .normal (lay os.toArray L vs os.toArray.size a) w := by
    intro L vs w hL hGS
    have hG := hGS.1
    have hL' : ∀ j, j < os.length → L j = true := by simpa using hL
    have hk3 : ∀ k F, some (k, F) ∈ ks → k < os.length := fun k F hm => by
      have := List.all_eq_true.1 k3 _ hm
      simpa using this
    have hk6 : ∀ n ∈ new, n.i < os.length ∧ n.k < os.length := fun n hn => by
      have := List.all_eq_true.1 k6 _ hn
      simpa using this
    have hnb : ∀ n ∈ new, ∃ b, vs n.i = n.ptr b ∧ W.heap.size ≤ b ∧ Bq w b n.m n.F1 := fun n hn => by
      obtain ⟨b, e1, e2, e3⟩ := hG.new n hn (hL' _ (hk6 n hn).1)
      rw [Nb.now_on (hL' _ (hk6 n hn).2)] at e3
      exact ⟨b, e1, e2, e3⟩
    let nb : Nat → Nat := fun i => blockOf (vs i)
    have hv : ∀ n ∈ new, vs n.i = n.ptr (nb n.i) ∧ W.heap.size ≤ nb n.i ∧ Bq w (nb n.i) n.m n.F1 := fun n hn => by
      obtain ⟨b, e1, e2, e3⟩ := hnb n hn
      have e4 : nb n.i = b := by show blockOf (vs n.i) = b; rw [e1, Nb.block_ptr]
      rw [e4]
      exact ⟨e1, e2, e3⟩
    have hold := oldTo_mem hL' hk3 hG.old
    have hfst := oldTo_fst (bs := bs) (ks := ks) k1
    have hlt : ∀ x ∈ oldTo bs ks, w0.heap.size ≤ x.1 ∧ x.1 < W.heap.size := fun x hx => by
      have hm : x.1 ∈ bs.map (·.1) := by rw [← hfst]; exact List.mem_map.2 ⟨x, hx, rfl⟩
      obtain ⟨y, hy, e⟩ := List.mem_map.1 hm
      have := E.boxes y hy
      have h2 := this.2.lt
      rw [← e]
      exact ⟨this.1, h2⟩
    have hE : Fr w0 (new.map (fun n => (nb n.i, n.m, n.F1)) ++ oldTo bs ks) w := by
      refine ⟨hG.below, fun x hx => ?_, ?_⟩
      · rcases List.mem_append.1 hx with hx | hx
        · obtain ⟨n, hn, rfl⟩ := List.mem_map.1 hx
          have := hv n hn
          exact ⟨Nat.le_trans E.below.size this.2.1, this.2.2⟩
        · exact ⟨(hlt x hx).1, hold x hx⟩
      · rw [List.map_append, hfst, List.map_map]
        refine List.nodup_append.2 ⟨?_, E.apart, fun x hx y hy e => ?_⟩
        · rw [List.nodup_iff_pairwise_ne, List.pairwise_map]
          have hpw : List.Pairwise (fun n m : Nb => n.i ≠ m.i) new := by
            have := List.nodup_iff_pairwise_ne.1 n4
            rwa [List.pairwise_map] at this
          refine hpw.imp_of_mem ?_
          intro n m hn hm hne e
          refine hG.apart n hn m hm hne (hL' _ (hk6 n hn).1) (hL' _ (hk6 m hm).1) ?_
          have e' : nb n.i = nb m.i := e
          rw [(hv n hn).1, (hv m hm).1, Nb.block_ptr, Nb.block_ptr, e']
        · obtain ⟨n, hn, rfl⟩ := List.mem_map.1 hx
          obtain ⟨z, hz, rfl⟩ := List.mem_map.1 hy
          have h1 := (hv n hn).2.1
          have h2 := (E.boxes z hz).2.lt
          have e' : nb n.i = z.1 := e
          omega
    have := hf L vs w nb (fun x hx h => (hGS.2 x hx (hL' _ h)).2) hL' (fun j hj => hG.val j (hL' j hj)) (fun n hn => (hv n hn).1) hE
    simpa using this
  cases dr with
  | true => exact wp_region_inv hm (apart_of ha) (back_of hb) (GS (plq C bs ks new os.length) w0.heap.size W.heap.size w0 same) (h0 W.drew (Below.refl _ _).drew rfl) (fun i o ho => hs' i o ho ho) hend
  | false => exact wp_region_inv_plain (apart_of ha) (back_of hb) (GS (plq C bs ks new os.length) w0.heap.size W.heap.size w0 same) (h0 W (Below.refl _ _) rfl) (fun i o ho => hs' i o ho ho) hend

theorem region_fr {id : Nat} {dr : Bool} {C : List Fq} {bs : List (Nat × Nat × Fq)} {ks : List (Option (Nat × Fq))} {new : List Nb} {W : World} (E : Fr w0 bs W) (hok : okB os.length bs.length ks new = true) (hm : Tryd.prog.follows .mixedOrders = true) (ha : apartB (os.map (·.dst)) = true) (hb : backB os 0 = true)
    (hs : (plq C bs ks new os.length).Ok w0.heap.size W.heap.size → AllOps (StepQ os Q a (plq C bs ks new os.length) w0.heap.size W.heap.size w0) os 0)
    (hf : ∀ L vs W' (nb : Nat → Nat), (∀ j, j < os.length → L j = true) → (∀ j, j < os.length → ((C[j]?).getD Fq.any).P (vs j) W') → (∀ n ∈ new, vs n.i = n.ptr (nb n.i)) → Fr w0 (new.map (fun n => (nb n.i, n.m, n.F1)) ++ oldTo bs ks) W' →
      Q .normal (lay os.toArray L vs os.length a) W') : (Code.region id os.toArray dr).wp Tryd.prog Q a W :=
  region_frG (same := []) E hok hm ha hb (fun hp i o ho => stepS_of (all_ops (hs hp) i o ho) rfl) (fun L vs W' nb _ => hf L vs W' nb)

end

end Go.Proofs.YtnhapjifddhdiaaDoor

namespace Go.Proofs.YtnhapjifddhdiaaDoor
open Go.RowKit

end Go.Proofs.YtnhapjifddhdiaaDoor

namespace Go.Proofs.YtnhapjifddhdiaaDoor
open Go.RowKit

end Go.Proofs.YtnhapjifddhdiaaDoor

set_option linter.unusedSimpArgs false
namespace Go.Proofs.YtnhapjifddhdiaaDoor
open Go.RowKit

end Go.Proofs.YtnhapjifddhdiaaDoor

namespace Go.Proofs.YtnhapjifddhdiaaDoor
open Go.RowKit

theorem two_pow_le {a b : Nat} (h : a ≤ b) : (2 : Int) ^ a ≤ 2 ^ b := by
  have e := Nat.pow_le_pow_right (n := 2) (by decide) h
  have e1 : ((2 ^ a : Nat) : Int) = 2 ^ a := by simp
  have e2 : ((2 ^ b : Nat) : Int) = 2 ^ b := by simp
  rw [← e1, ← e2]; omega

end Go.Proofs.YtnhapjifddhdiaaDoor

namespace Go.Proofs.YtnhapjifddhdiaaDoor
open Go.RowKit

end Go.Proofs.YtnhapjifddhdiaaDoor

namespace Go.Proofs.YtnhapjifddhdiaaDoor
open Go.RowKit

end Go.Proofs.YtnhapjifddhdiaaDoor

namespace Go.Proofs.YtnhapjifddhdiaaDoor

def ab (z : Int) : Int := (z.natAbs : Int)

theorem ab_nonneg (z : Int) : 0 ≤ ab z := by unfold ab; omega
theorem ab_mul (x y : Int) : ab (x * y) = ab x * ab y := by unfold ab; rw [Int.natAbs_mul]; rfl
theorem ab_of {z : Int} (h : 0 ≤ z) : ab z = z := by unfold ab; omega

end Go.Proofs.YtnhapjifddhdiaaDoor

namespace Go.Proofs.YtnhapjifddhdiaaDoor
open Go Go.RowKit

def putAll (ops : Array Oper) (vs : Nat → Value) : Nat → Act → Act
  | 0, a => a
  | k + 1, a => (putAll ops vs k a).put (dstOf ops k) (vs k)

theorem lay_all {ops : Array Oper} {L : Nat → Bool} {vs : Nat → Value} : ∀ {k : Nat} {a : Act}, (∀ j, j < k → L j = true) → lay ops L vs k a = putAll ops vs k a
  | 0, _, _ => rfl
  | k + 1, a, h => by simp only [lay, putAll]; rw [if_pos (h k (by omega)), lay_all fun j hj => h j (by omega)]

theorem num_of {w : World} {v : Value} {z : Int} (h : IsInt w v z) {k : Nat} (hz : ab z < pw k) (hk : k ≤ 900000) : Num w v z := h.num hk hz

theorem BoxNum.made {w : World} {n : Bool} {ao : Option Addr} {k c : Nat} {z : Int} (h : Num w (.agg #[.bool n, .slice ao k c]) z) (t : TypeId) : BoxNum (w.alloc (.cells #[.bool n, .slice ao k c] t)) w.heap.size z :=
  ⟨n, ao, k, c, IntBox.new w _ _ t, h.mono (alloc_below w _)⟩

theorem BoxNum.made0 (w : World) (t : TypeId) : BoxNum (w.alloc (.cells #[.bool false, .slice none 0 0] t)) w.heap.size 0 := BoxNum.zero (IntBox.new w _ _ t)

theorem Num.zero (w : World) : Num w (.agg #[.bool false, .slice none 0 0]) 0 := ⟨false, none, 0, 0, [], rfl, Sl.nil _, by omega, by simp [sgn, val], ⟨fun _ hx => by simp at hx, .inl rfl⟩, by simp⟩

theorem gives_num {w w' : World} {z : Int} {e : Ending} (h : GivesInt w z e w') {k : Nat} (hz : ab z < pw k) (hk : k ≤ 900000) : ∃ v', e = .returned v' ∧ Below w.heap.size w w' ∧ Num w' v' z := by
  obtain ⟨v, rfl, hi, hb⟩ := h
  exact ⟨v, rfl, hb, num_of hi hz hk⟩

theorem OfV (w : World) (z : Int) (h0 : -9223372036854775808 ≤ z) (h1 : z ≤ 9223372036854775807) : Calls Tryd.prog 26 #[.int .i64 z] w fun e w' => ∃ v', e = .returned v' ∧ Below w.heap.size w w' ∧ Num w' v' z :=
  (Of_any w z h0 h1).mono fun _ _ h => gives_num h (k := 2) (by have e : pw 2 = 18446744073709551616 := rfl; rw [e]; unfold ab; omega) (by omega)

structure Bx (s : Nat) (a b : Int) (w W : World) : Prop where
  xA : BoxNum W s a
  xB : BoxNum W (s + 1) b
  x4 : BoxNum W (s + 1 + 1) 0
  x5 : BoxNum W (s + 1 + 1 + 1) 0
  x6 : BoxNum W (s + 1 + 1 + 1 + 1) 0
  below : Below s w W
  lt : s + 5 ≤ W.heap.size

theorem Bx.mono {s : Nat} {a b : Int} {w W W' : World} (h : Bx s a b w W) (hb : Below W.heap.size W W') : Bx s a b w W' :=
  ⟨h.xA.mono hb, h.xB.mono hb, h.x4.mono hb, h.x5.mono hb, h.x6.mono hb, h.below.trans (hb.mono (by have := h.lt; omega)), Nat.le_trans h.lt hb.size⟩

theorem Bx.put {s : Nat} {a b y : Int} {w W : World} {c : Nat} (h : Bx s a b w W) (hb : BoxNum W c y) (hc : s + 5 ≤ c) (n' : Bool) (a' : Option Addr) (k' c' : Nat) : Bx s a b w (putBox W c n' a' k' c') :=
  ⟨h.xA.putOther hb (by omega) _ _ _ _, h.xB.putOther hb (by omega) _ _ _ _, h.x4.putOther hb (by omega) _ _ _ _, h.x5.putOther hb (by omega) _ _ _ _, h.x6.putOther hb (by omega) _ _ _ _, belowPut h.below (by omega) _ _ _ _, by rw [putBox_size]; exact h.lt⟩

structure Bl (b7 b8 b9 b10 : Nat) (r rr u uu : Int) (W : World) : Prop where
  x7 : BoxNum W b7 r
  x8 : BoxNum W b8 rr
  x9 : BoxNum W b9 u
  x10 : BoxNum W b10 uu

theorem Bl.mono {b7 b8 b9 b10 : Nat} {r rr u uu : Int} {W W' : World} (h : Bl b7 b8 b9 b10 r rr u uu W) (hb : Below W.heap.size W W') : Bl b7 b8 b9 b10 r rr u uu W' :=
  ⟨h.x7.mono hb, h.x8.mono hb, h.x9.mono hb, h.x10.mono hb⟩

end Go.Proofs.YtnhapjifddhdiaaDoor

namespace Go.Proofs.YtnhapjifddhdiaaDoor
open Go Go.RowKit

theorem add_plain' (b j : Nat) : (⟨b, 0, none⟩ : Addr).add j = ⟨b, j, none⟩ := by rw [Go.WideShapes.add_plain, Nat.zero_add]

theorem info_word : (Tryd.prog.info? 60).map (fun i => (i.zero, i.size, i.bytes)) = some (some (.int .u32 0), 1, 4) := by kernel_rfl

theorem own_sl {w : World} {base m : Nat} {v : Value} {ys : List Int} (h : w.ownsRow base 60 1 v m (ys.map (Value.int .u32))) (hd : Digs ys) : ∃ ao c, v = .slice ao m c ∧ Sl w ao m c ys := by
  have hl : ys.length = m := by have := h.1; simpa using this
  rcases h.2 with ⟨rfl, h0⟩ | ⟨g, cap, cur, rfl, hb, hg, hn, _⟩
  · subst h0
    obtain rfl : ys = [] := List.eq_nil_of_length_eq_zero hl
    exact ⟨none, 0, rfl, Sl.nil w⟩
  · refine ⟨_, _, rfl, hl, hn, hd, .inr ⟨g, 0, rfl, (Array.getElem?_eq_some_iff.1 hg).1, fun j hj => ?_⟩⟩
    have := World.ownsRow.cells h (g := g) rfl j (.int .u32 (ys.getD j 0)) (by simp [hj])
    rw [add_plain'] at this
    rw [Nat.zero_add]
    exact this

theorem append_words (w : World) (ty : TypeId) (g : Nat) (ao : Option Addr) (m c : Nat) (ys : List Int) (hS : Sl w ao m c ys) (hb : m ≤ 1000000) :
    ∃ v' w', (Builtin.append_ #[22, 22] ty #[.slice (some ⟨g, 0, none⟩) 0 0, .slice ao m c]).run Tryd.prog w = .ok v' w' ∧ Below w.heap.size w w' ∧ ∃ ao' c', v' = .slice ao' m c' ∧ Sl w' ao' m c' ys := by
  obtain ⟨i0, hi, hz0, hz1, hz2⟩ := info_parts info_word
  by_cases h0 : m = 0
  · subst h0
    obtain rfl : ys = [] := List.eq_nil_of_length_eq_zero hS.len
    refine ⟨.slice (some ⟨g, 0, none⟩) 0 0, w, ?_, Below.refl _ _, _, _, rfl, rfl, Nat.le_refl _, fun x hx => by simp at hx, .inl rfl⟩
    cases ao with
    | none => simp [Builtin.append_, run_underlying Tryd.underlying22, sizeOf, typeInfo, hi, Builtin.lenOf, Builtin.firstCells, storeCells]
    | some x =>
      have := run_append_room_cells (P := Tryd.prog) w 22 ty 60 i0 Tryd.underlying22 hi g 0 0 0 x 0 c [] (by simp) (by simp) (by simp) (by omega) (by simp) (by simp)
      simpa [World.setCells] using this
  · rcases hS.cells.2 with h1 | ⟨b, off, rfl, hlt, hc⟩
    · subst h1; have := hS.len; simp at this; omega
    · obtain ⟨v', w', hrun, hown, hg⟩ := run_append_arg_grows (P := Tryd.prog) w 22 ty 60 i0 (.int .u32 0) 1 4 Tryd.underlying22 hi hz0 hz1 hz2 rfl (by decide)
        ⟨g, 0, none⟩ 0 0 [] (by simp) (by simp) ⟨b, off, none⟩ m c (ys.map (Value.int .u32)) (by simp [hS.len]) (fun j u hu => by
          have hj : j < ys.length := by have := (List.getElem?_eq_some_iff.1 hu).1; simpa using this
          rw [Go.WideShapes.add_plain, hc j hj, ← hu]
          simp [hj]) (by omega) (by unfold maxLen; omega) (by omega)
      rw [Nat.zero_add, List.nil_append] at hown
      exact ⟨v', w', hrun, ⟨hg.os, hg.tape, hg.output, hg.size, fun k hk => hg.block k hk (by simp)⟩, own_sl hown hS.digs⟩

theorem enter_made (args : Array Value) (w : World) : (callFunc 41 args).run Tryd.prog w = .ok (.enter 41 args) w := enter_of Tryd.func41 (by kernel_rfl) rfl args w

theorem box2t (w : World) (a1 a2 : Value) (t t' : TypeId) :
    ∃ w1, w1 = (w.alloc (.cells #[a1, a2] t)).alloc (.cells #[.bool false, .slice none 0 0] t') ∧ IntBox w1 w.heap.size a1 a2 ∧ BoxNum w1 (w.heap.size + 1) 0 ∧ Below w.heap.size w w1 ∧ w1.heap.size = w.heap.size + 2 := by
  obtain ⟨u, hu⟩ : ∃ u, u = w.alloc (.cells #[a1, a2] t) := ⟨_, rfl⟩
  have hs : u.heap.size = w.heap.size + 1 := by rw [hu, World.size_alloc]
  have hI : IntBox u w.heap.size a1 a2 := by rw [hu]; exact IntBox.new w a1 a2 t
  have hb : Below w.heap.size w u := by rw [hu]; exact alloc_below _ _
  refine ⟨_, by rw [← hu], hI.mono (alloc_below _ _) hI.lt, ?_, hb.alloc (by omega) _, by rw [World.size_alloc, hs]⟩
  have := BoxNum.made0 u t'
  rw [hs] at this
  exact this

set_option maxRecDepth 10000 in
set_option maxRecDepth 20000 in
set_option maxHeartbeats 2000000 in
theorem Made_any (w : World) (neg : Bool) (ao : Option Addr) (n c : Nat) (xs : List Int) (hX : Sl w ao n c xs) (hb : n ≤ 9223372036854775807) (k : Nat) (hk : k ≤ 900000) :
    Calls Tryd.prog 17 #[.agg #[.bool neg, .slice ao n c], .int .i64 k] w (GivesInt w (sgn neg (val (xs.take k)))) := by
  obtain ⟨m, hm⟩ : ∃ m : Nat, m = min n k := ⟨_, rfl⟩
  have hm2 : min (n : Int) (k : Int) = (m : Int) := by omega
  have hmn : m ≤ n := by omega
  have hmk : m ≤ k := by omega
  have htk : xs.take m = xs.take k := by
    rw [hm]
    rcases Nat.le_total n k with h | h
    · rw [Nat.min_eq_left h, List.take_of_length_le (by rw [hX.len]; exact Nat.le_refl _), List.take_of_length_le (by rw [hX.len]; exact h)]
    · rw [Nat.min_eq_right h]
  have HT := hidd htk
  clear htk hm
  go_enter Tryd.func17, Tryd.ntmps17
  go_upto_region 1 with (fail)
  obtain ⟨w1, hw1, hI, hR, hB, hsz⟩ := box2t w (.bool neg) (.slice ao n c) 24 27
  rw [← hw1]
  clear hw1
  have hX1 := hX.mono hB
  obtain ⟨z, hz⟩ : ∃ z, z = sgn neg (val (xs.take k)) := ⟨_, rfl⟩
  have hd : Digs (xs.take m) := hX.digs.take m
  have hzb : ab z < pw m := by
    rw [hz, ← HT.out]
    have h1 := val_nonneg hd
    have h2 := val_lt hd
    rw [List.length_take, hX.len, Nat.min_eq_left hmn] at h2
    unfold ab
    cases neg <;> simp [sgn] <;> omega
  rw [← hz]
  have HZ := hidd hz
  clear hz
  have hmi : (if k < n then (k : Int) else (n : Int)) = m := by split <;> omega
  have hcm : ¬ c < m := by have := hX.cap; omega
  obtain ⟨c0, c1, _, _⟩ := hI
  have hcell0 : ∀ W, Below (w.heap.size + 1) w1 W → W.cell? ⟨w.heap.size, 0, none⟩ = some (.bool neg) := fun W h => (h.cell (p := ⟨w.heap.size, 0, none⟩) (by simp)).trans c0
  have hcell1 : ∀ W, Below (w.heap.size + 1) w1 W → W.cell? ⟨w.heap.size, 1, none⟩ = some (.slice ao n c) := fun W h => (h.cell (p := ⟨w.heap.size, 1, none⟩) (by simp)).trans c1
  have hXW : ∀ W, Below (w.heap.size + 1) w1 W → Sl W ao n c xs := fun W h => hX.mono (hB.trans (h.mono (by omega)))
  clear c0 c1
  go_wp2
  have hp : (plan [Fc.is (.pointer (some ⟨w.heap.size, 0, none⟩)), Fc.is (.bool neg), Fc.pre (fun v => ∃ g, v = .slice (some ⟨g, 0, none⟩) 0 0), Fc.is (.pointer (some ⟨w.heap.size, 1, none⟩)), Fc.is (.slice ao n c), Fc.is (.pointer (some ⟨w.heap.size, 1, none⟩)), Fc.is (.slice ao n c),
    Fc.is (.int .i64 n), Fc.is (.int .i64 k), Fc.is (.int .i64 m), Fc.is (.slice ao m c), Fc.sl m (xs.take m), Fc.num z, Fc.any] [(w.heap.size + 1, 13, 0, z)] []).Ok (w.heap.size + 1) w1.heap.size := plan_ok (by simp; omega) (by simp) (by simp) (by omega)
  have hm := PMono.of hp
  refine region_steps (p := plan [Fc.is (.pointer (some ⟨w.heap.size, 0, none⟩)), Fc.is (.bool neg), Fc.pre (fun v => ∃ g, v = .slice (some ⟨g, 0, none⟩) 0 0), Fc.is (.pointer (some ⟨w.heap.size, 1, none⟩)), Fc.is (.slice ao n c), Fc.is (.pointer (some ⟨w.heap.size, 1, none⟩)), Fc.is (.slice ao n c),
    Fc.is (.int .i64 n), Fc.is (.int .i64 k), Fc.is (.int .i64 m), Fc.is (.slice ao m c), Fc.sl m (xs.take m), Fc.num z, Fc.any] [(w.heap.size + 1, 13, 0, z)] []) (B := w.heap.size + 1) (B0 := w1.heap.size) (w0 := w1) (by kernel_rfl) rfl rfl (plan_start (by simp; exact hR) (Below.refl _ _))
    ⟨?_, ?_, ?_, ?_, ?_, ?_, ?_, ?_, ?_, ?_, ?_, ?_, ?_, ?_, trivial⟩ ?_
  · exact g_one (x := .tmp 2) (F := fun v _ => v = .pointer (some ⟨w.heap.size, 0, none⟩)) hm ⟨by simp [plan], by simp [plan]⟩ trivial (src_out rfl rfl (fun _ _ => rfl)) (fun ρ W _ h => ⟨_, by simp [execOp, go_sem, h], rfl⟩)
  · exact g_one (x := .tmp 5) (F := fun v W => v = .pointer (some ⟨w.heap.size, 0, none⟩) ∧ W.cell? ⟨w.heap.size, 0, none⟩ = some (.bool neg)) hm ⟨by simp [plan], by simp [plan]⟩ trivial (fun L vs W hG hd => ⟨src_in 0 rfl rfl (by simp) rfl (fun v w h => h) L vs W hG hd, hcell0 W hG.below⟩) (fun ρ W _ h => ⟨_, by simp [execOp, go_sem, h.1, h.2], rfl⟩)
  · exact stg_run hm ⟨by simp [plan], by simp [plan]⟩ trivial (fun L vs W hG hd => ⟨.slice (some ⟨W.heap.size, 0, none⟩) 0 0, W.alloc (.cells #[] 60), by simp [execOp, go_sem], alloc_below _ _, ⟨_, rfl⟩⟩)
  · exact g_one (x := .tmp 2) (F := fun v _ => v = .pointer (some ⟨w.heap.size, 0, none⟩)) hm ⟨by simp [plan], by simp [plan]⟩ trivial (src_out rfl rfl (fun _ _ => rfl)) (fun ρ W _ h => ⟨_, by simp [execOp, go_sem, h], rfl⟩)
  · exact g_one (x := .tmp 8) (F := fun v W => v = .pointer (some ⟨w.heap.size, 1, none⟩) ∧ W.cell? ⟨w.heap.size, 1, none⟩ = some (.slice ao n c)) hm ⟨by simp [plan], by simp [plan]⟩ trivial (fun L vs W hG hd => ⟨src_in 3 rfl rfl (by simp) rfl (fun v w h => h) L vs W hG hd, hcell1 W hG.below⟩) (fun ρ W _ h => ⟨_, by simp [execOp, go_sem, h.1, h.2], rfl⟩)
  · exact g_one (x := .tmp 2) (F := fun v _ => v = .pointer (some ⟨w.heap.size, 0, none⟩)) hm ⟨by simp [plan], by simp [plan]⟩ trivial (src_out rfl rfl (fun _ _ => rfl)) (fun ρ W _ h => ⟨_, by simp [execOp, go_sem, h], rfl⟩)
  · exact g_one (x := .tmp 10) (F := fun v W => v = .pointer (some ⟨w.heap.size, 1, none⟩) ∧ W.cell? ⟨w.heap.size, 1, none⟩ = some (.slice ao n c)) hm ⟨by simp [plan], by simp [plan]⟩ trivial (fun L vs W hG hd => ⟨src_in 5 rfl rfl (by simp) rfl (fun v w h => h) L vs W hG hd, hcell1 W hG.below⟩) (fun ρ W _ h => ⟨_, by simp [execOp, go_sem, h.1, h.2], rfl⟩)
  · exact g_one (x := .tmp 11) (F := fun v _ => v = .slice ao n c) hm ⟨by simp [plan], by simp [plan]⟩ trivial (src_in 6 rfl rfl (by simp) rfl (fun v w h => h)) (fun ρ W _ h => ⟨_, by simp [go_sem, h], rfl⟩)
  · exact g_move hm ⟨by simp [plan], by simp [plan]⟩ trivial (src_out rfl rfl (fun _ _ => rfl))
  · exact g_two (x := .tmp 12) (y := .tmp 13) (u := .int .i64 n) (v := .int .i64 k) (r := .int .i64 m) hm ⟨by simp [plan], by simp [plan]⟩ trivial (src_in 7 rfl rfl (by simp) rfl (fun v w h => h)) (src_in 8 rfl rfl (by simp) rfl (fun v w h => h)) (fun ρ W _ h1 h2 => by simp [go_sem, h1, h2, hmi]) (fun _ => rfl)
  · exact g_two (x := .tmp 9) (y := .tmp 14) (u := .slice ao n c) (v := .int .i64 m) (r := .slice ao m c) hm ⟨by simp [plan], by simp [plan]⟩ trivial (src_in 4 rfl rfl (by simp) rfl (fun v w h => h)) (src_in 9 rfl rfl (by simp) rfl (fun v w h => h)) (fun ρ W _ h1 h2 => by simp [execOp, go_sem, h1, h2, hcm]) (fun _ => rfl)
  · refine g_run2 (x := .tmp 7) (y := .tmp 15) (F := fun v _ => ∃ g, v = .slice (some ⟨g, 0, none⟩) 0 0) (G := fun v _ => v = .slice ao m c) hm ⟨by simp [plan], by simp [plan]⟩ trivial (src_in 2 rfl rfl (by simp) rfl (fun v w h => h)) (src_in 10 rfl rfl (by simp) rfl (fun v w h => h)) (fun ρ W _ hW h1 h2 => ?_)
    obtain ⟨g, h1⟩ := h1
    obtain ⟨v', w', hrun, hb, hS⟩ := append_words W 22 g ao m c (xs.take m) ((hXW W hW).take hmn) (by omega)
    exact ⟨v', w', by simp [execOp, resolve, invoke, builtin, h1, h2, hrun, Result.andThen], hb, hS⟩
  · exact g_call2 (F := fun v _ => v = .bool neg) (G := (Fc.sl m (xs.take m)).P) hm ⟨by simp [plan], by simp [plan]⟩ trivial enter_made (src_in 1 rfl rfl (by simp) rfl (fun v w h => h)) (src_in 11 rfl rfl (by simp) rfl (fun v w h => h)) (fun v v' W h1 h2 => by
      obtain ⟨ao', c', rfl, hS⟩ := h2
      subst h1
      refine (made_any W neg ao' m c' (xs.take m) hS (by omega)).mono fun e W' h => ?_
      rw [HT.out, ← HZ.out] at h
      exact gives_num h hzb (by omega))
  · exact st_storeOld (b := w.heap.size + 1) (j := 12) (z := 0) (z' := z) hp rfl (by simp [plan]) rfl rfl rfl (by simp) rfl (fun v w h => h) (fun _ _ => trivial) (by simp [plan]) (by simp [plan])
  · intro L vs w2 hL hG
    obtain ⟨ng, ao2, k2, c2, ⟨e0, e1, e2, e3⟩, hN⟩ : BoxNum w2 (w.heap.size + 1) z := by
      have := hG.old (w.heap.size + 1, 13, 0, z) (by simp [plan])
      simpa [hL 13 (by simp)] using this
    have hb : Below w.heap.size w w2 := hB.trans (hG.below.mono (by omega))
    rw [lay_all hL]
    simp only [putAll, dstOf, List.length_cons, List.length_nil, Nat.zero_add, Nat.reduceAdd, List.getElem?_toArray, List.getElem?_cons_zero, List.getElem?_cons_succ, Option.bind_some, Act.put, List.setIfInBounds_toArray, List.set_cons_succ, List.set_cons_zero]
    clear hL hG hp
    go_wp2
    refine bodyPost_ret (v := .agg #[.bool ng, .slice ao2 k2 c2]) ?_ rfl ⟨_, rfl, by rw [← HZ.out]; exact hN.isInt, hb⟩
    simp [results, Tryd.results17, go_sem, e0, e1]

end Go.Proofs.YtnhapjifddhdiaaDoor

namespace Go.Proofs.YtnhapjifddhdiaaDoor
open Go Go.RowKit

theorem rOfV (w : World) (z : Int) (h0 : -9223372036854775808 ≤ z) (h1 : z ≤ 9223372036854775807) : Calls Tryd.prog 13 #[.int .i64 z] w fun e w' => ∃ v', e = .returned v' ∧ Below w.heap.size w w' ∧ Num w' v' z :=
  (rOf_any w z h0 h1).mono fun _ _ h => gives_num h (k := 2) (by have e : pw 2 = 18446744073709551616 := rfl; rw [e]; unfold ab; omega) (by omega)

theorem SameV {w : World} {v v' : Value} {z z' : Int} (h : Num w v z) (h' : Num w v' z') : Calls Tryd.prog 16 #[v, v'] w fun e w' => e = .returned (.bool (decide (z = z'))) ∧ Below w.heap.size w w' := by
  obtain ⟨neg, ao, n, c, xs, rfl, hs, hn, rfl, hc, hnn⟩ := h
  obtain ⟨neg', ao', n', c', xs', rfl, hs', hn', rfl, hc', hnn'⟩ := h'
  exact Same_any _ _ _ _ _ _ _ _ _ _ _ hs hs' hc hc' hnn hnn' (by omega) (by omega)

theorem enter_rOf (args : Array Value) (w : World) : (callFunc 13 args).run Tryd.prog w = .ok (.enter 13 args) w := enter_of Tryd.func13 (by kernel_rfl) rfl args w
end Go.Proofs.YtnhapjifddhdiaaDoor

namespace Go.Proofs.YtnhapjifddhdiaaDoor
open Go.RowKit

def Two (n a b : Nat) (p q p' q' : Value) (W : World) : Prop :=
  n ≤ W.heap.size ∧ W.cell? ⟨a, 0, none⟩ = some p ∧ W.cell? ⟨a, 1, none⟩ = some q ∧ W.cell? ⟨b, 0, none⟩ = some p' ∧ W.cell? ⟨b, 1, none⟩ = some q'

theorem Two.call {n a b : Nat} {p q p' q' : Value} {W W' : World} (h : Two n a b p q p' q' W) (hb : Below W.heap.size W W') (ha : a < n) (hb' : b < n) : Two n a b p q p' q' W' :=
  ⟨Nat.le_trans h.1 hb.size, (hb.cell (p := ⟨a, 0, none⟩) (Nat.lt_of_lt_of_le ha h.1)).trans h.2.1, (hb.cell (p := ⟨a, 1, none⟩) (Nat.lt_of_lt_of_le ha h.1)).trans h.2.2.1,
    (hb.cell (p := ⟨b, 0, none⟩) (Nat.lt_of_lt_of_le hb' h.1)).trans h.2.2.2.1, (hb.cell (p := ⟨b, 1, none⟩) (Nat.lt_of_lt_of_le hb' h.1)).trans h.2.2.2.2⟩

theorem Two.set {n a b c o : Nat} {p q p' q' : Value} {W : World} (h : Two n a b p q p' q' W) (ha : c ≠ a) (hb : c ≠ b) (v : Value) : Two n a b p q p' q' (W.setCell ⟨c, o, none⟩ v) := by
  refine ⟨by rw [World.size_setCell]; exact h.1, ?_, ?_, ?_, ?_⟩
  · rw [World.cell?_setCell_other _ _ _ _ (by intro e; cases e; exact ha rfl)]; exact h.2.1
  · rw [World.cell?_setCell_other _ _ _ _ (by intro e; cases e; exact ha rfl)]; exact h.2.2.1
  · rw [World.cell?_setCell_other _ _ _ _ (by intro e; cases e; exact hb rfl)]; exact h.2.2.2.1
  · rw [World.cell?_setCell_other _ _ _ _ (by intro e; cases e; exact hb rfl)]; exact h.2.2.2.2

end Go.Proofs.YtnhapjifddhdiaaDoor

namespace Go.Proofs.YtnhapjifddhdiaaDoor
open Go.RowKit

end Go.Proofs.YtnhapjifddhdiaaDoor

namespace Go.Proofs.YtnhapjifddhdiaaDoor
open Go Go.RowKit

theorem Num.len {w : World} {v : Value} {z : Int} (h : Num w v z) {k : Nat} (hz : ab z < pw k) : ∃ (neg : Bool) (ao : Option Addr) (n c : Nat) (xs : List Int), v = .agg #[.bool neg, .slice ao n c] ∧ Sl w ao n c xs ∧ n ≤ k ∧ z = sgn neg (val xs) := by
  obtain ⟨neg, ao, n, c, xs, hv, hs, hn, hz', hc, hnn⟩ := h
  have h0 := val_nonneg hs.digs
  have h1 : val xs < pw k := by
    subst hz'
    unfold ab at hz
    cases neg <;> simp [sgn] at hz <;> omega
  have h2 := hc.length_le h1
  rw [hs.len] at h2
  exact ⟨neg, ao, n, c, xs, hv, hs, h2, hz'⟩

theorem AddV {w : World} {v v' : Value} {z z' : Int} (h : Num w v z) (h' : Num w v' z') : Calls Tryd.prog 42 #[v, v'] w (GivesInt w (z + z')) := by
  obtain ⟨neg, ao, n, c, xs, rfl, hs, hn, rfl, _⟩ := h
  obtain ⟨neg', ao', n', c', xs', rfl, hs', hn', rfl, _⟩ := h'
  exact Add_any _ _ _ _ _ _ _ _ _ _ _ hs hs' (by omega) (by omega)

theorem CmpV {w : World} {v v' : Value} {z z' : Int} (h : Num w v z) (h' : Num w v' z') : Calls Tryd.prog 25 #[v, v'] w fun e w' => e = .returned (.int .i64 (cmpI z z')) ∧ Below w.heap.size w w' := by
  obtain ⟨neg, ao, n, c, xs, rfl, hs, hn, rfl, _⟩ := h
  obtain ⟨neg', ao', n', c', xs', rfl, hs', hn', rfl, _⟩ := h'
  exact Cmp_any _ _ _ _ _ _ _ _ _ _ _ hs hs' (by omega) (by omega)

end Go.Proofs.YtnhapjifddhdiaaDoor

namespace Go.Proofs.YtnhapjifddhdiaaDoor
open Go Go.RowKit

def RowB (w : World) (e : TypeId) (b : Nat) (zs : List Int) : Prop := w.heap[b]? = some (.cells (zs.map (Value.int .u8)).toArray e (0, 0))

theorem RowB.lt {w : World} {e : TypeId} {b : Nat} {zs : List Int} (h : RowB w e b zs) : b < w.heap.size := (Array.getElem?_eq_some_iff.1 h).1

theorem RowB.cell {w : World} {e : TypeId} {b : Nat} {zs : List Int} (h : RowB w e b zs) {j : Nat} (hj : j < zs.length) : w.cell? ⟨b, j, none⟩ = some (.int .u8 (zs.getD j 0)) := by
  rw [cell_of_row w b j _ e (0, 0) h]
  simp [hj]

theorem RowB.frozen {w : World} {e : TypeId} {b : Nat} {zs : List Int} (h : RowB w e b zs) (j : Nat) : w.frozen? ⟨b, j, none⟩ = false := by
  have h2 : w.heap[b]? = some (.cells (zs.map (Value.int .u8)).toArray e (0, 0)) := h
  simp [World.frozen?, h2]

theorem RowB.set {w : World} {e : TypeId} {b : Nat} {zs : List Int} (h : RowB w e b zs) {j : Nat} (x : Int) : RowB (w.setCell ⟨b, j, none⟩ (.int .u8 x)) e b (zs.set j x) := by
  have hb := h.lt
  have h2 : w.heap[b]? = some (.cells (zs.map (Value.int .u8)).toArray e (0, 0)) := h
  unfold RowB
  simp only [World.setCell, Array.getElem?_modify, if_true, h2, Option.map_some, Option.isSome_none]
  simp

end Go.Proofs.YtnhapjifddhdiaaDoor

namespace Go.Proofs.YtnhapjifddhdiaaDoor
open Go Go.RowKit

def Back (w : World) (B : Nat) (v : Value) (ds : List Int) : Prop := w.ownsRow B 5 1 v ds.length (ds.map (Value.int .u8))

theorem Back.shape {w : World} {B : Nat} {v : Value} {ds : List Int} (h : Back w B v ds) : ∃ ao cap, v = .slice ao ds.length cap := by
  rcases h.2 with ⟨rfl, h0⟩ | ⟨g, cap, cur, rfl, _⟩
  · exact ⟨none, 0, by rw [h0]⟩
  · exact ⟨_, _, rfl⟩

theorem Back.cells {w : World} {B : Nat} {v : Value} {ds : List Int} (h : Back w B v ds) (h0 : 0 < ds.length) :
    ∃ g cap, v = .slice (some ⟨g, 0, none⟩) ds.length cap ∧ g < w.heap.size ∧ ∀ j, j < ds.length → w.cell? ⟨g, j, none⟩ = some (.int .u8 (ds.getD j 0)) := by
  rcases h.2 with ⟨rfl, h1⟩ | ⟨g, cap, cur, rfl, hb, hg, _⟩
  · omega
  · refine ⟨g, cap, rfl, (Array.getElem?_eq_some_iff.1 hg).1, fun j hj => ?_⟩
    have := World.ownsRow.cells h (g := g) rfl j (.int .u8 (ds.getD j 0)) (by simp [hj])
    have hadd : (⟨g, 0, none⟩ : Addr).add j = ⟨g, j, none⟩ := by unfold Addr.add; split <;> simp_all
    rw [hadd] at this
    exact this

theorem one_at (w : World) (x : Value) (e : TypeId) : ∀ (j : Nat) (u : Value), [x][j]? = some u → (w.alloc (.cells #[x] e)).cell? ((⟨w.heap.size, 0, none⟩ : Addr).add j) = some u := by
  intro j u hj
  match j, hj with
  | 0, hj => simp at hj; subst hj; simp [Addr.add]

end Go.Proofs.YtnhapjifddhdiaaDoor

namespace Go.Proofs.YtnhapjifddhdiaaDoor
open Go Go.RowKit

end Go.Proofs.YtnhapjifddhdiaaDoor

namespace Go.Proofs.YtnhapjifddhdiaaDoor
open Go Go.RowKit

def RTwo (w : World) (z1 z2 : Int) (e : Ending) (w' : World) : Prop :=
  ∃ (n : Bool) (ao : Option Addr) (k c : Nat) (n' : Bool) (ao' : Option Addr) (k' c' : Nat), e = .returned (.tuple #[.agg #[.bool n, .slice ao k c], .agg #[.bool n', .slice ao' k' c'], .int .i64 0]) ∧ Below w.heap.size w w' ∧
    Num w' (.agg #[.bool n, .slice ao k c]) z1 ∧ Num w' (.agg #[.bool n', .slice ao' k' c']) z2

theorem boxOne {w : World} {n : Bool} {ao : Option Addr} {k c : Nat} {z : Int} (h : Num w (.agg #[.bool n, .slice ao k c]) z) (t : TypeId) :
    ∃ w1, w1 = w.alloc (.cells #[.bool n, .slice ao k c] t) ∧ Below w.heap.size w w1 ∧ BoxNum w1 w.heap.size z := ⟨_, rfl, alloc_below _ _, BoxNum.made h t⟩

theorem boxTwo {w : World} {n n' : Bool} {ao ao' : Option Addr} {k c k' c' : Nat} {z z' : Int} (h : Num w (.agg #[.bool n, .slice ao k c]) z) (h' : Num w (.agg #[.bool n', .slice ao' k' c']) z') (t : TypeId) :
    ∃ w1, w1 = (w.alloc (.cells #[.bool n, .slice ao k c] t)).alloc (.cells #[.bool n', .slice ao' k' c'] t) ∧ Below w.heap.size w w1 ∧ BoxNum w1 w.heap.size z ∧ BoxNum w1 (w.heap.size + 1) z' := by
  obtain ⟨w1, h1, b1, x1⟩ := boxOne h t
  have h2 := h'.mono b1
  have s1 : w1.heap.size = w.heap.size + 1 := by rw [h1, World.size_alloc]
  obtain ⟨w2, h3, b2, x2⟩ := boxOne h2 t
  rw [s1] at x2
  exact ⟨w2, by rw [h3, h1], b1.trans (b2.mono (by omega)), x1.mono b2, x2⟩

def Bs (w : World) : List (Nat × Int) → Prop
  | [] => True
  | p :: r => BoxNum w p.1 p.2 ∧ Bs w r

theorem Bs.mono {w w' : World} (hb : Below w.heap.size w w') : ∀ {l : List (Nat × Int)}, Bs w l → Bs w' l
  | [], _ => trivial
  | _ :: _, h => ⟨h.1.mono hb, Bs.mono hb h.2⟩

end Go.Proofs.YtnhapjifddhdiaaDoor

namespace Go.Proofs.YtnhapjifddhdiaaDoor
open Go Go.RowKit

section
variable {os : List Oper} {Q : Exit → Act → World → Prop} {a : Act} {p : Plan} {B B0 : Nat} {w0 : World}
variable {i s : Nat} {d : Option Tmp} {ty : TypeId} {ps : String} {af : Array Edge}

end

end Go.Proofs.YtnhapjifddhdiaaDoor

namespace Go.Proofs.YtnhapjifddhdiaaDoor
open Go Go.RowKit

theorem ab_addB {x y : Int} {j k m : Nat} (hx : ab x < pw j) (hy : ab y < pw k) (hj : j < m) (hk : k < m) : ab (x + y) < pw m := by
  have h1 := pw_le (show j ≤ m - 1 by omega)
  have h2 := pw_le (show k ≤ m - 1 by omega)
  have h3 := pw_succ (m - 1)
  rw [show m - 1 + 1 = m by omega] at h3
  have h4 := pw_pos (m - 1)
  unfold ab at *
  omega

theorem ab_negB {x : Int} {k : Nat} (hx : ab x < pw k) : ab (-x) < pw k := by
  unfold ab at *
  omega

theorem ab_subB {x y : Int} {j k m : Nat} (hx : ab x < pw j) (hy : ab y < pw k) (hj : j < m) (hk : k < m) : ab (x - y) < pw m := by
  have := ab_addB hx (ab_negB hy) hj hk
  rw [Int.sub_eq_add_neg]
  exact this

theorem ab_mulB {x y : Int} {j k : Nat} (hx : ab x < pw j) (hy : ab y < pw k) : ab (x * y) < pw (j + k) := by
  rw [ab_mul, pw_add]
  have h1 := ab_nonneg x
  have h2 := ab_nonneg y
  exact Int.mul_lt_mul' (Int.le_of_lt hx) hy h2 (pw_pos _)

theorem ab_mulM {x y : Int} {j k m : Nat} (hx : ab x < pw j) (hy : ab y < pw k) (hm : j + k = m) : ab (x * y) < pw m := by
  subst hm
  exact ab_mulB hx hy

theorem ab_absB {x : Int} {k : Nat} (hx : ab x < pw k) : ab (x.natAbs : Int) < pw k := by
  unfold ab at *
  omega

theorem ab_modB {x y : Int} {k : Nat} (hy0 : y ≠ 0) (hy : ab y < pw k) : ab (x % y) < pw k := by
  have h1 := Int.emod_nonneg x hy0
  have h2 := Int.emod_lt x hy0
  unfold ab at *
  omega

theorem ab_divB {x y : Int} {k m : Nat} (hx : ab x < pw k) (hk : k < m) : ab (x / y) < pw m := by
  have h1 : (x / y).natAbs ≤ x.natAbs + 1 := by
    have h0 := Int.natAbs_ediv_le_natAbs x y
    omega
  have h2 := pw_le (show k + 1 ≤ m by omega)
  have h3 := pw_succ k
  have h4 := pw_pos k
  unfold ab at *
  omega

theorem exK {w : World} {z : Int} {f : FuncId} {args : Array Value} (h : Calls Tryd.prog f args w (GivesInt w z)) {k : Nat} (hz : ab z < pw k) (hk : k ≤ 900000) :
    Calls Tryd.prog f args w fun e w' => ∃ v', e = .returned v' ∧ Below w.heap.size w w' ∧ Num w' v' z :=
  h.mono fun _ _ hh => gives_num hh hz hk

theorem exKP {w : World} {z : Int} {f : FuncId} {args : Array Value} (h : Calls Tryd.prog f args w (GivesInt w z)) {k : Nat} (hz : ab z < pw k) (hk : k ≤ 900000) :
    Calls Tryd.prog f args w fun e w' => ∃ (n : Bool) (ao : Option Addr) (k c : Nat), e = .returned (.agg #[.bool n, .slice ao k c]) ∧ Below w.heap.size w w' ∧ Num w' (.agg #[.bool n, .slice ao k c]) z :=
  (exK h hz hk).mono fun _ _ hh => by
    obtain ⟨v, rfl, hb, hn⟩ := hh
    obtain ⟨n, ao, k, c, rfl⟩ := hn.parts
    exact ⟨_, _, _, _, rfl, hb, hn⟩

theorem exDK {w : World} {v v' : Value} {a b : Int} (h : Num w v a) (h' : Num w v' b) (hb : b ≠ 0) {j k : Nat} (hq : ab (a / b) < pw j) (hr : ab (a % b) < pw k) (hj : j ≤ 900000) (hk : k ≤ 900000) : Calls Tryd.prog 70 #[v, v'] w (RTwo w (a / b) (a % b)) :=
  (DivModV h h').mono fun e w' hg => by
    obtain ⟨hbl, ⟨h0, _⟩ | ⟨_, vq, vr, rfl, i1, i2⟩⟩ := hg
    · exact absurd h0 hb
    · have n1 := num_of i1 hq hj
      have n2 := num_of i2 hr hk
      obtain ⟨n, ao, k, c, rfl⟩ := n1.parts
      obtain ⟨n', ao', k', c', rfl⟩ := n2.parts
      exact ⟨_, _, _, _, _, _, _, _, rfl, hbl, n1, n2⟩

theorem exDT {w : World} {v v' : Value} {a b : Int} (h : Num w v a) (h' : Num w v' b) (hb : b ≠ 0) {j k : Nat} (hq : ab (a / b) < pw j) (hr : ab (a % b) < pw k) (hj : j ≤ 900000) (hk : k ≤ 900000) :
    Calls Tryd.prog 70 #[v, v'] w fun e w' => ∃ v', e = .returned v' ∧ Below w.heap.size w w' ∧ (Fc.tup (a / b) (a % b)).P v' w' :=
  (exDK h h' hb hq hr hj hk).mono fun e w' hg => by
    obtain ⟨_, _, _, _, _, _, _, _, rfl, hbl, n1, n2⟩ := hg
    exact ⟨_, rfl, hbl, _, _, rfl, n1, n2⟩

theorem exSign {w : World} {v : Value} {z : Int} (h : Num w v z) : Calls Tryd.prog 18 #[v] w fun e w' => ∃ v', e = .returned v' ∧ Below w.heap.size w w' ∧ v' = .int .i64 (cmpI z 0) :=
  (SignV h).mono fun _ _ hh => ⟨_, hh.1, hh.2, rfl⟩

theorem exCmp {w : World} {v v' : Value} {z z' : Int} (h : Num w v z) (h' : Num w v' z') : Calls Tryd.prog 25 #[v, v'] w fun e w' => ∃ v', e = .returned v' ∧ Below w.heap.size w w' ∧ v' = .int .i64 (cmpI z z') :=
  (CmpV h h').mono fun _ _ hh => ⟨_, hh.1, hh.2, rfl⟩

def Rw (w : World) : List (Nat × Bool × Option Addr × Nat × Nat × List Int) → Prop
  | [] => True
  | (b, neg, ao, n, c, xs) :: r => (IntBox w b (.bool neg) (.slice ao n c) ∧ Sl w ao n c xs) ∧ Rw w r

theorem Rw.mono {w w' : World} (hb : Below w.heap.size w w') : ∀ {l : List (Nat × Bool × Option Addr × Nat × Nat × List Int)}, Rw w l → Rw w' l
  | [], _ => trivial
  | (_, _, _, _, _, _) :: _, h => ⟨⟨h.1.1.mono hb h.1.1.lt, h.1.2.mono hb⟩, Rw.mono hb h.2⟩

structure Ev (w0 : World) (rs : List (Nat × Bool × Option Addr × Nat × Nat × List Int)) (l : List (Nat × Int)) (W : World) : Prop where
  below : Below w0.heap.size w0 W
  raws : Rw W rs
  bs : Bs W l

theorem Ev.mono {w0 W W' : World} {rs : List (Nat × Bool × Option Addr × Nat × Nat × List Int)} {l : List (Nat × Int)} (h : Ev w0 rs l W) (hb : Below W.heap.size W W') : Ev w0 rs l W' :=
  ⟨h.below.trans (hb.mono h.below.size), h.raws.mono hb, h.bs.mono hb⟩

theorem Ev.push {w0 W : World} {rs : List (Nat × Bool × Option Addr × Nat × Nat × List Int)} {l : List (Nat × Int)} (h : Ev w0 rs l W) {b : Nat} {z : Int} (hb : BoxNum W b z) : Ev w0 rs ((b, z) :: l) W :=
  ⟨h.below, h.raws, hb, h.bs⟩

theorem Num.ofMade {neg : Bool} {xs : List Int} {m : Nat} (hd : Digs xs) : ab (sgn neg (val (xs.take m))) < pw m := by
  have h1 := val_nonneg (hd.take m)
  have h2 := val_lt (hd.take m)
  have h3 := pw_le (show (xs.take m).length ≤ m by rw [List.length_take]; omega)
  unfold ab
  cases neg <;> simp [sgn] <;> omega

section
variable {os : List Oper} {Q : Exit → Act → World → Prop} {a : Act} {p : Plan} {B B0 : Nat} {w0 : World}
variable {i s : Nat} {d : Option Tmp} {ty : TypeId} {ps : String} {af : Array Edge} {gd : Option (Nat × Bool)}

theorem g_callC {x : Value} {f : FuncId} {ts : Array TypeId} (hp : PMono p B B0) (hF : p.Free i) (hg : Gd os a p B B0 w0 af gd) (hen : ∀ args w, (callFunc f args).run Tryd.prog w = .ok (.enter f args) w)
    (hC : ∀ w, Calls Tryd.prog f #[x] w fun e w' => ∃ v', e = .returned v' ∧ Below w.heap.size w w' ∧ p.C i v' w') :
    Step os Q a p B B0 w0 i { dst := d, op := .call { callee := .value (.func f), args := #[.const x], argTypes := ts }, type := ty, pos := ps, after := af, guard := gd } :=
  stg_call hp hF hg hen fun L vs w _ _ => ⟨#[x], by simp [Act.eval], hC w⟩

end

end Go.Proofs.YtnhapjifddhdiaaDoor

namespace Go.Proofs.YtnhapjifddhdiaaDoor
open Go Go.RowKit

section
variable {os : List Oper} {Q : Exit → Act → World → Prop} {a : Act} {p : Pq} {B B0 : Nat} {w0 : World}
variable {i s : Nat} {d : Option Tmp} {ty : TypeId} {ps : String} {af : Array Edge} {gd : Option (Nat × Bool)}

def SrcQ (os : List Oper) (a : Act) (p : Pq) (B B0 : Nat) (w0 : World) (af : Array Edge) (x : Operand) (F : Value → World → Prop) : Prop :=
  ∀ L vs w, p.G B B0 w0 L vs w → (∀ e ∈ af, Region.binds .any e = true → L e.on = true) → F ((lay os.toArray L vs os.toArray.size a).eval x) w

theorem sq_in (j : Nat) {F : Value → World → Prop} (ha : apartB (os.map (·.dst)) = true) (hj : (os.map (·.dst))[j]? = some (some s)) (hs : s < a.tmps.size) (hdep : depA af j = true) (hF : ∀ v w, (p.c j).P v w → F v w) : SrcQ os a p B B0 w0 af (.tmp s) F := by
  intro L vs w hG hd
  have hLj := depA_of hdep hd
  rw [lay_in ha hLj hj hs]
  exact hF _ _ (hG.val j hLj)

theorem sqi (j : Nat) {F : Value → World → Prop} (ha : apartB (os.map (·.dst)) = true := by exact rfl) (hj : (os.map (·.dst))[j]? = some (some s) := by exact rfl) (hs : s < a.tmps.size := by simp) (hdep : depA af j = true := by exact rfl) (hF : ∀ v w, (p.c j).P v w → F v w := by exact fun v w h => h) : SrcQ os a p B B0 w0 af (.tmp s) F := sq_in j ha hj hs hdep hF
theorem sq_out {v : Value} {F : Value → World → Prop} (ho : (os.map (·.dst)).contains (some s) = false) (hx : a.eval (.tmp s) = v) (hF : ∀ w, Below B w0 w → F v w) : SrcQ os a p B B0 w0 af (.tmp s) F := by
  intro L vs w hG hd
  rw [(lay_out ho _).trans hx]
  exact hF _ hG.below

theorem sq_const {v : Value} {F : Value → World → Prop} (hF : ∀ w, F v w) : SrcQ os a p B B0 w0 af (.const v) F := fun _ _ _ _ _ => hF _

def GdQ (os : List Oper) (a : Act) (p : Pq) (B B0 : Nat) (w0 : World) (af : Array Edge) : Option (Nat × Bool) → Prop
  | none => True
  | some (j, b) => ∀ L vs w, p.G B B0 w0 L vs w → (∀ e ∈ af, Region.binds .any e = true → L e.on = true) → yielded os.toArray (lay os.toArray L vs os.toArray.size a).tmps j = some b

theorem gq_some {j : Nat} {b : Bool} (ha : apartB (os.map (·.dst)) = true) (hj : (os.map (·.dst))[j]? = some (some s)) (hs : s < a.tmps.size) (hdep : depA af j = true) (hC : ∀ v w, (p.c j).P v w → v = .bool b) : GdQ os a p B B0 w0 af (some (j, b)) := by
  intro L vs w hG hd
  have hLj := depA_of hdep hd
  have hv := hC _ _ (hG.val j hLj)
  have he := lay_in (vs := vs) ha hLj hj hs
  rw [hv] at he
  have hsz : s < (lay os.toArray L vs os.toArray.size a).tmps.size := by rw [lay_size]; exact hs
  have ht : (lay os.toArray L vs os.toArray.size a).tmps[s]? = some (.bool b) := by
    have h2 : (lay os.toArray L vs os.toArray.size a).eval (.tmp s) = ((lay os.toArray L vs os.toArray.size a).tmps[s]?).getD undef := by simp [Act.eval]
    rw [Array.getElem?_eq_getElem hsz] at h2 ⊢
    rw [he] at h2
    exact congrArg some h2.symm
  have hdst : (os.toArray[j]?).bind (·.dst) = some s := by
    simp at hj ⊢
    cases ho : os[j]? with
    | none => simp [ho] at hj
    | some o => simp [ho] at hj ⊢; exact hj
  unfold yielded
  rw [hdst]
  simp only [Option.bind_some, ht]

theorem wanted_of {o : Oper} {L : Nat → Bool} {vs : Nat → Value} {w : World} (hg : GdQ os a p B B0 w0 o.after o.guard) (hG : p.G B B0 w0 L vs w) (hd : ∀ e ∈ o.after, Region.binds .any e = true → L e.on = true) : Region.wanted o (yielded os.toArray (lay os.toArray L vs os.toArray.size a).tmps) = true := by
  unfold Region.wanted
  cases hgd : o.guard with
  | none => rfl
  | some jb =>
    obtain ⟨j, b⟩ := jb
    rw [hgd] at hg
    have := hg L vs w hG hd
    show (yielded os.toArray (lay os.toArray L vs os.toArray.size a).tmps j == some b) = true
    rw [this]
    cases b <;> rfl

theorem q_skip {o : Oper} {j : Nat} {b : Bool} (hp : p.Ok B B0) (hF : p.Free i) (hgd : o.guard = some (j, b)) (hg : GdQ os a p B B0 w0 o.after (some (j, !b))) (hC : ∀ w, (p.c i).P undef w) : StepQ os Q a p B B0 w0 i o := by
  intro hio L vs w hG hL hd hc
  refine wpOp_step hio fun K' hK => ?_
  have h1 := hg L vs w hG hd
  have hwn : ¬ Region.wanted o (yielded os.toArray (lay os.toArray L vs os.toArray.size a).tmps) = true := by
    unfold Region.wanted
    rw [hgd]
    show ¬ (yielded os.toArray (lay os.toArray L vs os.toArray.size a).tmps j == some b) = true
    rw [h1]
    cases b <;> simp
  rw [if_neg hwn]
  exact hK _ _ ⟨_, rfl, hG.plain hp hF (Below.refl _ _) (hC _)⟩

theorem stq_run {o : Oper} (hp : p.Ok B B0) (hF : p.Free i) (hg : GdQ os a p B B0 w0 o.after o.guard) (hr : ∀ L vs w, p.G B B0 w0 L vs w → L i = false → ClosedL os.toArray L → (∀ e ∈ o.after, Region.binds .any e = true → L e.on = true) →
      ∃ v w', (execOp (lay os.toArray L vs os.toArray.size a).eval o).run Tryd.prog w = .ok (.value v) w' ∧ Below w.heap.size w w' ∧ (p.c i).P v w') : StepQ os Q a p B B0 w0 i o := by
  intro hio L vs w hG hL hd hc
  refine wpOp_step hio fun K' hK => ?_
  obtain ⟨v, w', hv, hb, hCv⟩ := hr L vs w hG hL hc hd
  rw [if_pos (wanted_of hg hG hd)]
  unfold Oper.wp
  rw [hv]
  exact hK _ _ ⟨_, rfl, hG.plain hp hF hb hCv⟩

theorem stq_val {o : Oper} (hp : p.Ok B B0) (hF : p.Free i) (hg : GdQ os a p B B0 w0 o.after o.guard) (hr : ∀ L vs w, p.G B B0 w0 L vs w → L i = false → ClosedL os.toArray L → (∀ e ∈ o.after, Region.binds .any e = true → L e.on = true) →
      ∃ v, (execOp (lay os.toArray L vs os.toArray.size a).eval o).run Tryd.prog w = .ok (.value v) w ∧ (p.c i).P v w) : StepQ os Q a p B B0 w0 i o :=
  stq_run hp hF hg fun L vs w hG hL hc hd => by
    obtain ⟨v, h1, h2⟩ := hr L vs w hG hL hc hd
    exact ⟨v, w, h1, Below.refl _ _, h2⟩

theorem stq_call {f : FuncId} {xs : Array Operand} {ts : Array TypeId} (hp : p.Ok B B0) (hF : p.Free i) (hg : GdQ os a p B B0 w0 af gd) (hen : ∀ args w, (callFunc f args).run Tryd.prog w = .ok (.enter f args) w)
    (hr : ∀ L vs w, p.G B B0 w0 L vs w → (∀ e ∈ af, Region.binds .any e = true → L e.on = true) → ∃ args, xs.map (lay os.toArray L vs os.toArray.size a).eval = args ∧
      Calls Tryd.prog f args w fun e w' => ∃ v', e = .returned v' ∧ Below w.heap.size w w' ∧ (p.c i).P v' w') :
    StepQ os Q a p B B0 w0 i { dst := d, op := .call { callee := .value (.func f), args := xs, argTypes := ts }, type := ty, pos := ps, after := af, guard := gd } := by
  intro hio L vs w hG hL hd hc
  refine wpOp_step hio fun K' hK => ?_
  obtain ⟨args, hx, hC⟩ := hr L vs w hG hd
  rw [if_pos (wanted_of (o := { dst := d, op := .call { callee := .value (.func f), args := xs, argTypes := ts }, type := ty, pos := ps, after := af, guard := gd }) hg hG hd)]
  have e : (execOp (lay os.toArray L vs os.toArray.size a).eval ({ dst := d, op := .call { callee := .value (.func f), args := xs, argTypes := ts }, type := ty, pos := ps, after := af, guard := gd } : Oper)).run Tryd.prog w = (.ok (.enter f args) w) := by
    have hf : (lay os.toArray L vs os.toArray.size a).eval (.func f) = .func (.func f) #[] #[] := rfl
    generalize (lay os.toArray L vs os.toArray.size a).eval = ρ at hx hf
    simp [execOp, go_sem, hx, hf, hen]
  unfold Oper.wp
  rw [e]
  refine hC.mono ?_
  rintro e' w' ⟨v', rfl, hb, h⟩
  exact hK _ _ ⟨_, rfl, hG.plain hp hF hb h⟩

theorem q_call1 {x : Operand} {F : Value → World → Prop} {f : FuncId} {ts : Array TypeId} (hp : p.Ok B B0) (hF : p.Free i) (hg : GdQ os a p B B0 w0 af gd) (hen : ∀ args w, (callFunc f args).run Tryd.prog w = .ok (.enter f args) w)
    (hx : SrcQ os a p B B0 w0 af x F) (hC : ∀ v w, F v w → Calls Tryd.prog f #[v] w fun e w' => ∃ v', e = .returned v' ∧ Below w.heap.size w w' ∧ (p.c i).P v' w') :
    StepQ os Q a p B B0 w0 i { dst := d, op := .call { callee := .value (.func f), args := #[x], argTypes := ts }, type := ty, pos := ps, after := af, guard := gd } :=
  stq_call hp hF hg hen fun L vs w hG hd => ⟨#[_], by simp, hC _ _ (hx L vs w hG hd)⟩

theorem q_call2 {x y : Operand} {F G : Value → World → Prop} {f : FuncId} {ts : Array TypeId} (hp : p.Ok B B0) (hF : p.Free i) (hg : GdQ os a p B B0 w0 af gd) (hen : ∀ args w, (callFunc f args).run Tryd.prog w = .ok (.enter f args) w)
    (hx : SrcQ os a p B B0 w0 af x F) (hy : SrcQ os a p B B0 w0 af y G) (hC : ∀ v v' w, F v w → G v' w → Calls Tryd.prog f #[v, v'] w fun e w' => ∃ v', e = .returned v' ∧ Below w.heap.size w w' ∧ (p.c i).P v' w') :
    StepQ os Q a p B B0 w0 i { dst := d, op := .call { callee := .value (.func f), args := #[x, y], argTypes := ts }, type := ty, pos := ps, after := af, guard := gd } :=
  stq_call hp hF hg hen fun L vs w hG hd => ⟨#[_, _], by simp, hC _ _ _ (hx L vs w hG hd) (hy L vs w hG hd)⟩

theorem q_one {o : Oper} {x : Operand} {F : Value → World → Prop} (hp : p.Ok B B0) (hF : p.Free i) (hg : GdQ os a p B B0 w0 o.after o.guard) (hx : SrcQ os a p B B0 w0 o.after x F)
    (hr : ∀ (ρ : Operand → Value) (w : World), (∀ c, ρ (.const c) = c) → F (ρ x) w → ∃ r, (execOp ρ o).run Tryd.prog w = .ok (.value r) w ∧ (p.c i).P r w) : StepQ os Q a p B B0 w0 i o :=
  stq_val hp hF hg fun L vs w hG _ _ hd => hr _ _ (fun _ => rfl) (hx L vs w hG hd)

theorem q_two {o : Oper} {x y : Operand} {F G : Value → World → Prop} (hp : p.Ok B B0) (hF : p.Free i) (hg : GdQ os a p B B0 w0 o.after o.guard) (hx : SrcQ os a p B B0 w0 o.after x F) (hy : SrcQ os a p B B0 w0 o.after y G)
    (hr : ∀ (ρ : Operand → Value) (w : World), (∀ c, ρ (.const c) = c) → F (ρ x) w → G (ρ y) w → ∃ r, (execOp ρ o).run Tryd.prog w = .ok (.value r) w ∧ (p.c i).P r w) : StepQ os Q a p B B0 w0 i o :=
  stq_val hp hF hg fun L vs w hG _ _ hd => hr _ _ (fun _ => rfl) (hx L vs w hG hd) (hy L vs w hG hd)

theorem q_move {x : Operand} (hp : p.Ok B B0) (hF : p.Free i) (hg : GdQ os a p B B0 w0 af gd) (hx : SrcQ os a p B B0 w0 af x (p.c i).P) : StepQ os Q a p B B0 w0 i { dst := d, op := .move x, type := ty, pos := ps, after := af, guard := gd } := by
  refine stq_val hp hF hg fun L vs w hG _ _ hd => ⟨_, ?_, hx L vs w hG hd⟩
  simp [execOp, go_sem]

theorem q_assign {x : Operand} (hp : p.Ok B B0) (hF : p.Free i) (hg : GdQ os a p B B0 w0 af gd) (hx : SrcQ os a p B B0 w0 af x (p.c i).P) : StepQ os Q a p B B0 w0 i { dst := d, op := .assign x, type := ty, pos := ps, after := af, guard := gd } := by
  refine stq_val hp hF hg fun L vs w hG _ _ hd => ⟨_, ?_, hx L vs w hG hd⟩
  simp [execOp, go_sem]

theorem q_extract2 {x : Operand} {k : Nat} {F G : Fq} (hp : p.Ok B B0) (hF : p.Free i) (hg : GdQ os a p B B0 w0 af gd) (hx : SrcQ os a p B B0 w0 af x (Fq.tup2 F G).P) (hC : ∀ v1 v2 w, F.P v1 w → G.P v2 w → ∃ u, #[v1, v2][k]? = some u ∧ (p.c i).P u w) : StepQ os Q a p B B0 w0 i { dst := d, op := .extract x k, type := ty, pos := ps, after := af, guard := gd } := by
  refine stq_val hp hF hg fun L vs w hG _ _ hd => ?_
  obtain ⟨v1, v2, e, h1, h2⟩ := hx L vs w hG hd
  obtain ⟨u, hu, h⟩ := hC v1 v2 w h1 h2
  refine ⟨_, ?_, h⟩
  generalize (lay os.toArray L vs os.toArray.size a).eval = ρ at e
  simp only [execOp, go_sem, e]
  simp [go_sem, hu]

theorem q_extract3 {x : Operand} {k : Nat} {F G H : Fq} (hp : p.Ok B B0) (hF : p.Free i) (hg : GdQ os a p B B0 w0 af gd) (hx : SrcQ os a p B B0 w0 af x (Fq.tup3 F G H).P) (hC : ∀ v1 v2 v3 w, F.P v1 w → G.P v2 w → H.P v3 w → ∃ u, #[v1, v2, v3][k]? = some u ∧ (p.c i).P u w) : StepQ os Q a p B B0 w0 i { dst := d, op := .extract x k, type := ty, pos := ps, after := af, guard := gd } := by
  refine stq_val hp hF hg fun L vs w hG _ _ hd => ?_
  obtain ⟨v1, v2, v3, e, h1, h2, h3⟩ := hx L vs w hG hd
  obtain ⟨u, hu, h⟩ := hC v1 v2 v3 w h1 h2 h3
  refine ⟨_, ?_, h⟩
  generalize (lay os.toArray L vs os.toArray.size a).eval = ρ at e
  simp only [execOp, go_sem, e]
  simp [go_sem, hu]

theorem box_now {o : Ob} (ho : o ∈ p.old) (hk : o.F1 = o.F0 ∨ leadsB os 9 o.k i = true) {L : Nat → Bool} {vs : Nat → Value} {w : World} (hG : p.G B B0 w0 L vs w) (hL : L i = false) (hc : ClosedL os.toArray L) : Bq w o.b o.m o.F0 := by
  have := hG.old _ ho
  rcases hk with hk | hk
  · rw [hk] at this; simpa using this
  · rw [not_yet hc hk hL] at this; exact this

theorem q_loadInt {o : Ob} {off : Nat} {x : Operand} (hp : p.Ok B B0) (hF : p.Free i) (hg : GdQ os a p B B0 w0 af gd) (ho : o ∈ p.old) (hk : o.F1 = o.F0 ∨ leadsB os 9 o.k i = true) (hoff : off + 2 ≤ o.m)
    (hx : SrcQ os a p B B0 w0 af x fun u _ => u = .pointer (some ⟨o.b, off, none⟩)) (hC : ∀ (us : List Value) (w : World), us.length = o.m → o.F0.P (.agg us.toArray) w → (p.c i).P (.agg #[us.getD off undef, us.getD (off + 1) undef]) w) :
    StepQ os Q a p B B0 w0 i { dst := d, op := .load 27 x, type := ty, pos := ps, after := af, guard := gd } := by
  refine stq_val hp hF hg fun L vs w hG hL hc hd => ?_
  obtain ⟨us, hl, h0, hat, ht, hP⟩ := box_now ho hk hG hL hc
  have e := hx L vs w hG hd
  have c0 := (hat off (by omega)).1
  have c1 := (hat (off + 1) (by omega)).1
  refine ⟨_, ?_, hC us w hl hP⟩
  generalize (lay os.toArray L vs os.toArray.size a).eval = ρ at e
  generalize us.getD off undef = u0 at c0 ⊢
  generalize us.getD (off + 1) undef = u1 at c1 ⊢
  simp [execOp, go_sem, e, c0, c1]

theorem ld_num {us : List Value} {w : World} {z : Int} (hl : us.length = 2) (h : (Fq.num z).P (.agg us.toArray) w) : Num w (.agg #[us.getD 0 undef, us.getD (0 + 1) undef]) z := by
  match us, hl with
  | [p, q], _ => exact h
def zeroInt : List Value := [.bool false, .slice none 0 0]
def zeroRat : List Value := [.bool false, .slice none 0 0, .bool false, .slice none 0 0]
theorem tame_int (n : Bool) (ao : Option Addr) (k c : Nat) : Tame [.bool n, .slice ao k c] := by
  intro u hu q e
  simp at hu
  rcases hu with rfl | rfl <;> cases e
theorem q_allocInt {n0 : Nb} (hp : p.Ok B B0) (hi : n0 ∈ p.new) (hii : n0.i = i) (hsl : n0.s = none) (hm : n0.m = 2) (hk : leadsB os 9 n0.k i = true) (hki : n0.k ≠ i) (hC : ∀ v w', (p.c i).P v w') (h1 : ∀ o ∈ p.old, o.k ≠ i) (h2 : ∀ n ∈ p.new, n.k ≠ i) (hF : ∀ w', n0.F0.P (.agg zeroInt.toArray) w') :
    StepQ os Q a p B B0 w0 i { dst := d, op := .alloc 27, type := ty, pos := ps, after := af, guard := none } := by
  subst hii
  intro hio L vs w hG hL hd hc
  exact op_alloc hio ⟨_, rfl, hG.alloc hp hi hsl (not_yet hc hk hL) hki hC h1 h2 _ (us := zeroInt) hm.symm (by omega) (tame_int _ _ _ _) hF⟩

def IntV (F : Fq) (v : Value) (w : World) : Prop := ∃ n ao k c, v = .agg #[.bool n, .slice ao k c] ∧ F.P v w
theorem intV_num {v : Value} {w : World} {z : Int} (h : Num w v z) : IntV (Fq.num z) v w := by
  obtain ⟨n, ao, k, c, e⟩ := h.parts
  exact ⟨n, ao, k, c, e, h⟩
theorem op_storeInt {ops : Array Oper} {K : Act → World → Prop} {w : World} {x y : Operand} {b : Nat} {us : List Value} {n' : Bool} {a' : Option Addr} {k' c' : Nat} (ho : ops[i]? = some { dst := d, op := .store 27 x y, type := ty, pos := ps, after := af, guard := none }) (hx : a.eval x = .pointer (some ⟨b, 0, none⟩)) (hy : a.eval y = .agg #[.bool n', .slice a' k' c']) (hat : At w b us) (hl : us.length = 2)
    (h : K (a.put d undef) (putFrom w b 0 [.bool n', .slice a' k' c'])) : wpOp Tryd.prog ops Q i K a w :=
  op_store (p := us.getD 0 undef) (q := us.getD 1 undef) ho hx hy ⟨(hat 0 (by omega)).1, (hat 1 (by omega)).1, (hat 0 (by omega)).2, (hat 1 (by omega)).2⟩ h

theorem q_storeNewInt {n0 : Nb} {x y : Operand} (hp : p.Ok B B0) (hi : n0 ∈ p.new) (hki : n0.k = i) (hsl : n0.s = none) (hm : n0.m = 2) (hx : ∀ L vs w, p.G B B0 w0 L vs w → (∀ e ∈ af, Region.binds .any e = true → L e.on = true) → L n0.i = true ∧ (lay os.toArray L vs os.toArray.size a).eval x = vs n0.i) (hy : SrcQ os a p B B0 w0 af y (IntV n0.F1))
    (hC : ∀ v w', (p.c i).P v w') (h1 : ∀ o ∈ p.old, o.k ≠ i) (h2 : ∀ n ∈ p.new, n.i ≠ i) : StepQ os Q a p B B0 w0 i { dst := none, op := .store 27 x y, type := ty, pos := ps, after := af, guard := none } := by
  subst hki
  intro hio L vs w hG hL hd hc
  obtain ⟨hLi, hxe⟩ := hx L vs w hG hd
  obtain ⟨n, ao, k, c, e, hP⟩ := hy L vs w hG hd
  obtain ⟨b, e1', e2, us, g1, g2, g3, g4, g5⟩ := hG.new _ hi hLi
  have e1 : vs n0.i = .pointer (some ⟨b, 0, none⟩) := by rw [e1']; unfold Nb.ptr; rw [hsl]
  rw [e] at hP
  exact op_storeInt hio (hxe.trans e1) e g3 (by omega) ⟨undef, rfl, hG.storeNew hp hi hLi (us := [.bool n, .slice ao k c]) hm.symm (tame_int _ _ _ _) hP hC h1 h2 e1' _⟩

theorem own_ptr {i0 : Nat} (ha : apartB (os.map (·.dst)) = true) (hj : (os.map (·.dst))[i0]? = some (some s)) (hs : s < a.tmps.size) (hdep : depA af i0 = true) : ∀ L vs w, p.G B B0 w0 L vs w → (∀ e ∈ af, Region.binds .any e = true → L e.on = true) → L i0 = true ∧ (lay os.toArray L vs os.toArray.size a).eval (.tmp s) = vs i0 := by
  intro L vs w hG hd
  have hLj := depA_of hdep hd
  exact ⟨hLj, lay_in ha hLj hj hs⟩

theorem q_storeOldInt {o0 : Ob} {x y : Operand} (hp : p.Ok B B0) (hi : o0 ∈ p.old) (hki : o0.k = i) (hm : o0.m = 2) (hx : SrcQ os a p B B0 w0 af x fun u _ => u = .pointer (some ⟨o0.b, 0, none⟩)) (hy : SrcQ os a p B B0 w0 af y (IntV o0.F1))
    (hC : ∀ v w', (p.c i).P v w') (h2 : ∀ n ∈ p.new, n.i ≠ i ∧ n.k ≠ i) : StepQ os Q a p B B0 w0 i { dst := none, op := .store 27 x y, type := ty, pos := ps, after := af, guard := none } := by
  subst hki
  intro hio L vs w hG hL hd hc
  obtain ⟨n, ao, k, c, e, hP⟩ := hy L vs w hG hd
  obtain ⟨us, g1, g2, g3, g4, g5⟩ := hG.old _ hi
  rw [e] at hP
  exact op_storeInt hio (hx L vs w hG hd) e g3 (by omega) ⟨undef, rfl, hG.storeOld hp hi (us := [.bool n, .slice ao k c]) hm.symm (tame_int _ _ _ _) hP hC h2 _⟩

theorem q_addr {T k b off off' : Nat} {x : Operand} (hp : p.Ok B B0) (hF : p.Free i) (hg : GdQ os a p B B0 w0 af gd) (hx : SrcQ os a p B B0 w0 af x fun u _ => u = .pointer (some ⟨b, off, none⟩))
    (hr : ∀ (ρ : Operand → Value) (w : World), ρ x = .pointer (some ⟨b, off, none⟩) → (execOp ρ { dst := d, op := .fieldAddr T x k, type := ty, pos := ps, after := af, guard := gd }).run Tryd.prog w = .ok (.value (.pointer (some ⟨b, off', none⟩))) w) (hC : ∀ w, (p.c i).P (.pointer (some ⟨b, off', none⟩)) w) :
    StepQ os Q a p B B0 w0 i { dst := d, op := .fieldAddr T x k, type := ty, pos := ps, after := af, guard := gd } :=
  q_one hp hF hg hx fun ρ w _ h => ⟨_, hr ρ w h, hC w⟩

end

def freeB (len : Nat) (ks : List (Option (Nat × Fq))) (new : List Nb) (i : Nat) : Bool := !(keysOf ks len).contains i && new.all (fun n => n.i != i && n.k != i)

theorem old_ne {C : List Fq} {bs : List (Nat × Nat × Fq)} {ks : List (Option (Nat × Fq))} {new : List Nb} {len i : Nat} (h : (keysOf ks len).contains i = false) : ∀ o ∈ (plq C bs ks new len).old, o.k ≠ i := fun o ho e => by
  have h1 := oldOf_key ho
  rw [e] at h1
  have h2 := List.contains_iff_mem.2 h1
  rw [h] at h2
  cases h2

theorem newk_ne {C : List Fq} {bs : List (Nat × Nat × Fq)} {ks : List (Option (Nat × Fq))} {new : List Nb} {len i : Nat} (h : new.all (fun n => n.k != i) = true) : ∀ n ∈ (plq C bs ks new len).new, n.k ≠ i := fun n hn e => by
  have := List.all_eq_true.1 h n hn
  simp [e] at this

theorem newi_ne {C : List Fq} {bs : List (Nat × Nat × Fq)} {ks : List (Option (Nat × Fq))} {new : List Nb} {len i : Nat} (h : new.all (fun n => n.i != i) = true) : ∀ n ∈ (plq C bs ks new len).new, n.i ≠ i := fun n hn e => by
  have := List.all_eq_true.1 h n hn
  simp [e] at this

theorem newik_ne {C : List Fq} {bs : List (Nat × Nat × Fq)} {ks : List (Option (Nat × Fq))} {new : List Nb} {len i : Nat} (h : new.all (fun n => n.i != i && n.k != i) = true) : ∀ n ∈ (plq C bs ks new len).new, n.i ≠ i ∧ n.k ≠ i := fun n hn => by
  have := List.all_eq_true.1 h n hn
  simpa using this

theorem free_of {C : List Fq} {bs : List (Nat × Nat × Fq)} {ks : List (Option (Nat × Fq))} {new : List Nb} {len i : Nat} (h : freeB len ks new i = true) : (plq C bs ks new len).Free i := by
  simp only [freeB, Bool.and_eq_true, Bool.not_eq_true'] at h
  exact ⟨old_ne h.1, newik_ne h.2⟩

theorem Fr.box {w0 W : World} {bs : List (Nat × Nat × Fq)} (h : Fr w0 bs W) (k : Nat) {b m : Nat} {F : Fq} (hk : bs[k]? = some (b, m, F)) : Bq W b m F := (h.boxes _ (List.mem_of_getElem? hk)).2

theorem box_num {w : World} {b : Nat} {z : Int} (h : Bq w b 2 (Fq.num z)) : ∃ p q, w.cell? ⟨b, 0, none⟩ = some p ∧ w.cell? ⟨b, 1, none⟩ = some q ∧ Num w (.agg #[p, q]) z := by
  obtain ⟨us, hl, _, hat, _, hP⟩ := h
  match us, hl, hat with
  | [p, q], _, hat => exact ⟨p, q, (hat 0 (by simp)).1, (hat 1 (by simp)).1, hP⟩

theorem Pair.zero (w : World) : Pair w (.agg zeroRat.toArray) 0 0 := ⟨_, _, _, _, rfl, Num.zero w, Num.zero w⟩

theorem fr_start (w : World) {m : Nat} {F : Fq} {us : List Value} (t : TypeId) (hl : us.length = m) (h0 : 0 < m) (ht : Tame us) (hF : F.P (.agg us.toArray) w) : ∃ w' b, w' = w.alloc (.cells us.toArray t) ∧ b = w.heap.size ∧ w'.heap.size = w.heap.size + 1 ∧ Fr w [(b, m, F)] w' :=
  ⟨_, _, rfl, rfl, World.size_alloc _ _, (Fr.start w).push t hl h0 ht hF⟩
theorem fr_more {w W : World} {bs : List (Nat × Nat × Fq)} (E : Fr w bs W) {k : Nat} (hk : W.heap.size = k) {m : Nat} {F : Fq} {us : List Value} (t : TypeId) (hl : us.length = m) (h0 : 0 < m) (ht : Tame us) (hF : F.P (.agg us.toArray) W) : ∃ w' b, w' = W.alloc (.cells us.toArray t) ∧ b = k ∧ w'.heap.size = k + 1 ∧ Fr w ((b, m, F) :: bs) w' :=
  ⟨_, _, rfl, rfl, by rw [World.size_alloc, hk], by rw [← hk]; exact E.push t hl h0 ht hF⟩

end Go.Proofs.YtnhapjifddhdiaaDoor

namespace Go.Proofs.YtnhapjifddhdiaaDoor
open Go

theorem exact_div {a g : Int} (h : g ∣ a) : a = g * (a / g) := (Int.mul_ediv_cancel' h).symm

theorem div_pos {a g : Int} (h : g ∣ a) (ha : 0 < a) (hg : 0 < g) : 0 < a / g := by
  have h1 := exact_div h
  rcases Int.lt_or_le 0 (a / g) with h2 | h2
  · exact h2
  · have := Int.mul_nonneg (Int.le_of_lt hg) (show 0 ≤ -(a / g) by omega)
    rw [Int.mul_neg] at this
    omega

end Go.Proofs.YtnhapjifddhdiaaDoor

namespace Go.Proofs.YtnhapjifddhdiaaDoor
open Go Go.RowKit

set_option maxRecDepth 20000 in
set_option maxHeartbeats 1000000 in
theorem rNeg_any (w : World) (na : Bool) (ax : Option Addr) (n cx : Nat) (xs : List Int) (hX : Sl w ax n cx xs) (hb1 : n ≤ 4000000) :
    Calls Tryd.prog 61 #[.agg #[.bool na, .slice ax n cx]] w (GivesInt w (-sgn na (val xs))) := by
  go_enter Tryd.func61, Tryd.ntmps61
  obtain ⟨w0, hw0, hA, hC, hbl, HS⟩ := boxes2 w (.bool na) (.slice ax n cx) 27
  have hX0 := hX.mono hbl
  obtain ⟨ca0, ca1, _, _⟩ := hA
  go_wp2_with fail
  rw [← hw0]
  clear hw0
  refine (made_any _ _ _ _ _ _ hX0 (by omega)).mono ?_
  rintro e w3 ⟨v, rfl, ⟨ng, ao, nn, cc, rs, rfl, hrs, hrc, hrn, hrz⟩, hb3⟩
  obtain ⟨e0, e1, e2, e3⟩ := hC.mono hb3 hC.lt
  have hb4 : Below w.heap.size w w3 := hbl.trans (hb3.mono hbl.size)
  have hz : -sgn na (val xs) = sgn ng (val rs) := by rw [← hrz, sgn_not]
  have HZ := hidd hz
  clear hrz hz
  go_wp2
  refine bodyPost_ret (v := .agg #[.bool ng, .slice ao nn cc]) ?_ rfl ?_
  · simp [results, Tryd.results61, go_sem, e0, e1]
  · exact gives_store ⟨e0, e1, e2, e3⟩ hrs hrc hrn HZ.out hb4 (by omega)

set_option maxRecDepth 20000 in
set_option maxHeartbeats 1000000 in
theorem rAbs_any (w : World) (na : Bool) (ax : Option Addr) (n cx : Nat) (xs : List Int) (hX : Sl w ax n cx xs) (hb1 : n ≤ 4000000) :
    Calls Tryd.prog 74 #[.agg #[.bool na, .slice ax n cx]] w (GivesInt w (val xs)) := by
  go_enter Tryd.func74, Tryd.ntmps74
  obtain ⟨w0, hw0, hA, hC, hbl, HS⟩ := boxes2 w (.bool na) (.slice ax n cx) 27
  have hX0 := hX.mono hbl
  obtain ⟨ca0, ca1, _, _⟩ := hA
  go_wp2_with fail
  rw [← hw0]
  clear hw0
  refine (made_any _ _ _ _ _ _ hX0 (by omega)).mono ?_
  rintro e w3 ⟨v, rfl, ⟨ng, ao, nn, cc, rs, rfl, hrs, hrc, hrn, hrz⟩, hb3⟩
  obtain ⟨e0, e1, e2, e3⟩ := hC.mono hb3 hC.lt
  have hb4 : Below w.heap.size w w3 := hbl.trans (hb3.mono hbl.size)
  have hz : val xs = sgn ng (val rs) := by rw [← hrz]; rfl
  have HZ := hidd hz
  clear hrz hz
  go_wp2
  refine bodyPost_ret (v := .agg #[.bool ng, .slice ao nn cc]) ?_ rfl ?_
  · simp [results, Tryd.results74, go_sem, e0, e1]
  · exact gives_store ⟨e0, e1, e2, e3⟩ hrs hrc hrn HZ.out hb4 (by omega)

theorem RNegV {w : World} {v : Value} {z : Int} (h : Num w v z) : Calls Tryd.prog 61 #[v] w (GivesInt w (-z)) := by
  obtain ⟨neg, ao, n, c, xs, rfl, hs, hn, rfl, _⟩ := h
  exact rNeg_any _ _ _ _ _ _ hs (by omega)

theorem sgn_absR (b : Bool) {v : Int} (h : 0 ≤ v) : ((sgn b v).natAbs : Int) = v := by cases b <;> simp [sgn] <;> omega

theorem RAbsV {w : World} {v : Value} {z : Int} (h : Num w v z) : Calls Tryd.prog 74 #[v] w (GivesInt w (z.natAbs : Int)) := by
  obtain ⟨neg, ao, n, c, xs, rfl, hs, hn, rfl, _⟩ := h
  rw [sgn_absR _ (val_nonneg hs.digs)]
  exact rAbs_any _ _ _ _ _ _ hs (by omega)

theorem Num.sign {w : World} {n : Bool} {ao : Option Addr} {k c : Nat} {z : Int} (h : Num w (.agg #[.bool n, .slice ao k c]) z) : ∃ xs, Sl w ao k c xs ∧ Canon xs ∧ k ≤ 900000 ∧ z = sgn n (val xs) ∧ 0 ≤ val xs ∧ (k = 0 ↔ z = 0) ∧ (n = true → z < 0) ∧ (n = false → 0 ≤ z) := by
  obtain ⟨neg, ao', k', c', xs, hv, hs, hn, hz, hc, hnn⟩ := h
  obtain ⟨rfl, rfl, rfl, rfl⟩ : n = neg ∧ ao = ao' ∧ k = k' ∧ c = c' := by
    simp at hv; exact ⟨hv.1, hv.2.1, hv.2.2.1, hv.2.2.2⟩
  have h0 := val_nonneg hs.digs
  have h1 := hc.zero
  rw [hs.len] at h1
  refine ⟨xs, hs, hc, hn, hz, h0, ?_, ?_, ?_⟩
  · rw [h1, hz]; cases n <;> simp [sgn]
  · rintro rfl
    have h2 : val xs ≠ 0 := fun h => hnn rfl (h1.2 h)
    rw [hz]; simp [sgn]; omega
  · rintro rfl
    rw [hz]; simp [sgn]; exact h0

set_option maxRecDepth 20000 in
set_option maxHeartbeats 1000000 in
theorem RCmpV {w : World} {v v' : Value} {z z' : Int} (h : Num w v z) (h' : Num w v' z') : Calls Tryd.prog 57 #[v, v'] w fun e w' => e = .returned (.int .i64 (cmpI z z')) ∧ Below w.heap.size w w' := by
  obtain ⟨n, ao, k, c, rfl⟩ := h.parts
  obtain ⟨n', ao', k', c', rfl⟩ := h'.parts
  obtain ⟨xs, hs, hc, hk, hz, h0, hkz, hneg, hpos⟩ := h.sign
  obtain ⟨ys, hs', hc', hk', hz', h0', hkz', hneg', hpos'⟩ := h'.sign
  obtain ⟨w0, hw0, hbl, hsz⟩ : ∃ w0, w0 = (w.alloc (.cells #[.bool n, .slice ao k c] 27)).alloc (.cells #[.bool n', .slice ao' k' c'] 27) ∧ Below w.heap.size w w0 ∧ w0.heap.size = w.heap.size + 2 :=
    ⟨_, rfl, (alloc_below _ _).trans ((alloc_below _ _).mono (by simp)), by simp⟩
  have hX := hs.mono hbl
  have hY := hs'.mono hbl
  cases n <;> cases n'
  · have HV : Hid (cmpI (val xs) (val ys) = cmpI z z') := by
      show _ = _
      rw [hz, hz']; rfl
    clear hkz hneg hpos hz h hkz' hneg' hpos' hz' h'
    go_enter Tryd.func57, Tryd.ntmps57
    go_wp2_with fail
    rw [← hw0]
    clear hw0
    refine (size_any _ _ _ _ _ _ _ _ _ hX hY hc hc' (by omega) (by omega)).mono ?_
    rintro e w2 ⟨rfl, hd⟩
    go_wp2
    go_ret
    exact ⟨by rw [HV.out]; rfl, hbl.trans (hd.below _)⟩
  · have HV : Hid (cmpI z z' = 1) := by
      have h1 := hpos rfl
      have h2 := hneg' rfl
      show _ = _
      unfold cmpI; rw [if_neg (by omega), if_neg (by omega)]
    clear hkz hneg hpos hz h hkz' hneg' hpos' hz' h'
    go_enter Tryd.func57, Tryd.ntmps57
    go_wp2
    rw [← hw0]
    go_ret
    exact ⟨by rw [HV.out]; rfl, hbl⟩
  · have HV : Hid (cmpI z z' = -1) := by
      have h1 := hneg rfl
      have h2 := hpos' rfl
      show _ = _
      unfold cmpI; rw [if_pos (by omega)]
    clear hkz hneg hpos hz h hkz' hneg' hpos' hz' h'
    go_enter Tryd.func57, Tryd.ntmps57
    go_wp2
    rw [← hw0]
    go_ret
    exact ⟨by rw [HV.out]; rfl, hbl⟩
  · have HV : Hid (cmpI (val ys) (val xs) = cmpI z z') := by
      show _ = _
      rw [hz, hz']
      simp only [sgn, if_true]
      unfold cmpI
      split <;> split <;> (try split) <;> omega
    clear hkz hneg hpos hz h hkz' hneg' hpos' hz' h'
    go_enter Tryd.func57, Tryd.ntmps57
    go_wp2_with fail
    rw [← hw0]
    clear hw0
    refine (size_any _ _ _ _ _ _ _ _ _ hY hX hc' hc (by omega) (by omega)).mono ?_
    rintro e w2 ⟨rfl, hd⟩
    go_wp2
    go_ret
    exact ⟨by rw [HV.out]; rfl, hbl.trans (hd.below _)⟩

end Go.Proofs.YtnhapjifddhdiaaDoor

namespace Go.Proofs.YtnhapjifddhdiaaDoor
open Go Go.RowKit

theorem word_any (w : World) (ax : Option Addr) (n c : Nat) (xs : List Int) (hX : Sl w ax n c xs) (_ : n ≤ 4000000) (k : Nat) (_ : k ≤ 9000000) (x : Int) (hx : xs.getD k 0 = x) :
    Calls Tryd.prog 80 #[.slice ax n c, .int .i64 k] w fun e w' => e = .returned (.int .u64 x) ∧ w = w' := by
  have hl := hX.len
  by_cases h : k < n
  · obtain ⟨b, off, rfl, hbl, x', hxc, hx0, hx1, HX⟩ := hX.cells.at (k := k) (by omega)
    rw [HX.out] at hx
    subst hx
    have h1 : decide ((k : Int) ≥ (n : Int)) = false := by simp; omega
    have h2 : ¬ ((k : Int) < 0) := by omega
    clear hl
    go_enter Tryd.func80, Tryd.ntmps80
    go_wp2
    go_ret
    exact ⟨rfl, rfl⟩
  · have h0 : x = 0 := by rw [← hx]; exact getD_out (by omega)
    subst h0
    have h1 : decide ((k : Int) ≥ (n : Int)) = true := by simp; omega
    clear hl hx hX
    go_enter Tryd.func80, Tryd.ntmps80
    go_wp2
    go_ret
    exact ⟨rfl, rfl⟩

theorem word_before (w : World) (ax : Option Addr) (n c : Nat) (k : Int) (_ : k < 0) (_ : -9000000 ≤ k) :
    Calls Tryd.prog 80 #[.slice ax n c, .int .i64 k] w fun e w' => e = .returned (.int .u64 0) ∧ w = w' := by
  go_enter Tryd.func80, Tryd.ntmps80
  go_wp2
  go_ret
  exact ⟨rfl, rfl⟩

def Ow (W : World) (B : Nat) (v : Value) (zs : List Int) : Prop := W.ownsRow B 60 1 v zs.length (zs.map (Value.int .u32)) ∧ Digs zs

theorem Ow.shape {W : World} {B : Nat} {v : Value} {zs : List Int} (h : Ow W B v zs) : ∃ ao cap, v = .slice ao zs.length cap := by
  rcases h.1.2 with ⟨rfl, h0⟩ | ⟨g, cap, cur, rfl, _⟩
  · exact ⟨none, 0, by rw [h0]⟩
  · exact ⟨_, _, rfl⟩

theorem Ow.start (w : World) : Ow (w.alloc (.cells #[] 60)) w.heap.size (.slice (some ⟨w.heap.size, 0, none⟩) 0 0) [] :=
  ⟨⟨rfl, .inr ⟨w.heap.size, 0, #[], rfl, Nat.le_refl _, heap_alloc_new _ _, Nat.le_refl _, Nat.zero_le _, rfl, rfl⟩⟩, fun _ h => by simp at h⟩

theorem Ow.sl {W : World} {B : Nat} {v : Value} {zs : List Int} (h : Ow W B v zs) : ∃ ao c, v = .slice ao zs.length c ∧ Sl W ao zs.length c zs := own_sl h.1 h.2

theorem Ow.step {w wr w1 : World} {v v' : Value} {zs : List Int} {d : Int} {o : Obj} (h : Ow wr w.heap.size v zs) (hnx : Below w.heap.size w wr) (hd0 : 0 ≤ d) (hd1 : d < 4294967296)
    (hown' : w1.ownsRow w.heap.size 60 1 v' (zs.length + 1) (zs.map (Value.int .u32) ++ [.int .u32 d])) (hgrow : (wr.alloc o).grownBy w1 v.ownBlock) :
    Ow w1 w.heap.size v' (zs ++ [d]) ∧ Below w.heap.size w w1 := by
  refine ⟨⟨by simpa using hown', fun y hy => ?_⟩, ?_⟩
  · rcases List.mem_append.1 hy with h1 | h1
    · exact h.2 y h1
    · simp at h1; subst h1; exact ⟨hd0, hd1⟩
  · have hs := hnx.size
    exact (hnx.alloc hs o).grown hgrow (by simp; omega) (fun j hj => (World.ownsRow.lt h.1 j hj).1)

theorem val_snoc (zs : List Int) (d : Int) : val (zs ++ [d]) = val zs + pw zs.length * d := by
  rw [val_append]
  show _ + _ * (d + 4294967296 * 0) = _
  rw [Int.mul_zero, Int.add_zero]

theorem plus_step {k : Nat} {zs xs ys : List Int} {q x y : Int} (hk : zs.length = k) (h : val zs + pw k * q = val (xs.take k) + val (ys.take k)) (hx : xs.getD k 0 = x) (hy : ys.getD k 0 = y) :
    val (zs ++ [(q + (x + y)) % 4294967296]) + pw (k + 1) * ((q + (x + y)) / 4294967296) = val (xs.take (k + 1)) + val (ys.take (k + 1)) := by
  rw [val_snoc, hk, val_take_succ, val_take_succ, hx, hy]
  have h1 := pw_split k (q + (x + y))
  rw [Int.mul_add, Int.mul_add] at h1
  omega

set_option maxRecDepth 20000 in
set_option maxHeartbeats 1000000 in
theorem plus_any (w : World) (ax ay : Option Addr) (n m cx cy : Nat) (xs ys : List Int) (hX : Sl w ax n cx xs) (hY : Sl w ay m cy ys) (hb1 : n ≤ 2000000) (hb2 : m ≤ 2000000) :
    Calls Tryd.prog 75 #[.slice ax n cx, .slice ay m cy] w fun e w' => ∃ ao c l zs, e = .returned (.slice ao l c) ∧ Sl w' ao l c zs ∧ l ≤ max n m + 1 ∧ val zs = val xs + val ys ∧ Below w.heap.size w w' := by
  obtain ⟨i0, hi, hz0, hz1, hz2⟩ := info_parts info_word
  obtain ⟨L, hL⟩ : ∃ L : Nat, L = max n m := ⟨_, rfl⟩
  have hL2 : (if n < m then (m : Int) else (n : Int)) = (L : Int) := by split <;> omega
  have hLb : L ≤ 2000000 := by omega
  have HL := hidd hL
  clear hL
  go_enter Tryd.func75, Tryd.ntmps75
  go_wp2
  go_loopw [5, 6, 7] (fun vo vc vi wr => ∃ (k : Nat) (q : Int) (zs : List Int), k ≤ L ∧ vi = .int .i64 k ∧ vc = .int .u64 q ∧ 0 ≤ q ∧ q ≤ 1 ∧ Ow wr w.heap.size vo zs ∧ zs.length = k ∧ val zs + pw k * q = val (xs.take k) + val (ys.take k) ∧ Below w.heap.size w wr) (fun _ _ vi _ => L - (intOf vi).toNat)
  case atStart => exact ⟨0, 0, [], Nat.zero_le _, rfl, rfl, by omega, by omega, Ow.start w, rfl, by simp [val], alloc_below _ _⟩
  case round =>
    obtain ⟨k, q, zs, hk, rfl, rfl, hq0, hq1, hO, hzl, hv, hB⟩ := hrel
    subst hzl
    have HV := hidd hv
    clear hv
    obtain ⟨ao, cap, rfl⟩ := hO.shape
    have HO := hO.1
    have hsz := hB.size
    by_cases hkL : zs.length < L
    · obtain ⟨x, hx⟩ : ∃ x, xs.getD zs.length 0 = x := ⟨_, rfl⟩
      obtain ⟨y, hy⟩ : ∃ y, ys.getD zs.length 0 = y := ⟨_, rfl⟩
      have hxd := hX.digs.getD zs.length
      have hyd := hY.digs.getD zs.length
      rw [hx] at hxd
      rw [hy] at hyd
      have Hx := hidd hx
      have Hy := hidd hy
      clear hx hy
      go_wp2_with fail
      refine (word_any _ _ _ _ _ (hX.mono hB) (by omega) zs.length (by omega) x Hx.out).mono ?_
      rintro e w' ⟨rfl, rfl⟩
      go_wp2_with fail
      refine (word_any _ _ _ _ _ (hY.mono hB) (by omega) zs.length (by omega) y Hy.out).mono ?_
      rintro e w' ⟨rfl, rfl⟩
      go_wp2_with (first | (at_builtin; refine wpList_append_own _ rfl _ _ 22 rfl w.heap.size 60 i0 (.int .u32 0) 1 4 Tryd.underlying22 hi hz0 hz1 hz2 rfl (by decide) _ _ _ rfl (World.ownsRow.alloc HO _) ⟨_, 0, none⟩ 1 1 [.int .u32 ((q + (x + y)) % 4294967296)] rfl rfl (one_at _ _ _) (by intro u hu; simp at hu; subst hu; rfl) (by unfold maxLen; omega) (by omega) (by simp; omega) ?_; intro v' w5 hown' hgrow _) | go_in)
      obtain ⟨hO2, hB2⟩ := hO.step hB (by omega) (by omega) hown' hgrow
      clear hown' hgrow hO hB HO hsz
      go_wp2
      go_roundw
      case rel => exact ⟨zs.length + 1, (q + (x + y)) / 4294967296, zs ++ [(q + (x + y)) % 4294967296], by omega, by go_num, by go_num, by omega, by omega, hO2, by simp, plus_step rfl HV.out Hx.out Hy.out, hB2⟩
      case measure => simp [intOf]; omega
    · have hkl : zs.length = L := by omega
      have hqm : q % 4294967296 = q := by omega
      go_wp2_with (first | (at_builtin; refine wpList_append_own _ rfl _ _ 22 rfl w.heap.size 60 i0 (.int .u32 0) 1 4 Tryd.underlying22 hi hz0 hz1 hz2 rfl (by decide) _ _ _ rfl (World.ownsRow.alloc HO _) ⟨_, 0, none⟩ 1 1 [.int .u32 (q)] rfl rfl (one_at _ _ _) (by intro u hu; simp at hu; subst hu; rfl) (by unfold maxLen; omega) (by omega) (by simp; omega) ?_; intro v' w5 hown' hgrow _) | go_in)
      obtain ⟨hO2, hB2⟩ := hO.step hB hq0 (by omega) hown' hgrow
      clear hown' hgrow hO hB HO hsz
      obtain ⟨ao2, c2, rfl, hS2⟩ := hO2.sl
      go_wp2
      go_ret
      refine ⟨_, _, _, _, rfl, hS2, by have := HL.out; simp; omega, ?_, hB2⟩
      have h1 := HV.out
      rw [val_take_all xs (by rw [hX.len]; have := HL.out; omega), val_take_all ys (by rw [hY.len]; have := HL.out; omega)] at h1
      rw [val_snoc]
      exact h1

theorem minus_step {k : Nat} {zs xs ys : List Int} {q x y : Int} (hk : zs.length = k) (h : val zs = val (xs.take k) - val (ys.take k) + pw k * q) (hx : xs.getD k 0 = x) (hy : ys.getD k 0 = y) :
    val (zs ++ [(4294967296 + x - y - q) % 4294967296]) = val (xs.take (k + 1)) - val (ys.take (k + 1)) + pw (k + 1) * (1 - (4294967296 + x - y - q) / 4294967296) := by
  rw [val_snoc, hk, val_take_succ, val_take_succ, hx, hy]
  have h1 := pw_split k (4294967296 + x - y - q)
  have h2 : pw k * (4294967296 + x - y - q) = pw (k + 1) + pw k * x - pw k * y - pw k * q := by
    rw [pw_succ, Int.mul_sub, Int.mul_sub, Int.mul_add]
  rw [Int.mul_sub, Int.mul_one]
  omega

set_option maxRecDepth 20000 in
set_option maxHeartbeats 1000000 in
theorem minus_any (w : World) (ax ay : Option Addr) (n m cx cy : Nat) (xs ys : List Int) (hX : Sl w ax n cx xs) (hY : Sl w ay m cy ys) (hcy : Canon ys) (hle : val ys ≤ val xs) (hb1 : n ≤ 2000000) (hb2 : m ≤ 2000000) :
    Calls Tryd.prog 76 #[.slice ax n cx, .slice ay m cy] w fun e w' => ∃ ao c zs, e = .returned (.slice ao n c) ∧ Sl w' ao n c zs ∧ val zs = val xs - val ys ∧ Below w.heap.size w w' := by
  obtain ⟨i0, hi, hz0, hz1, hz2⟩ := info_parts info_word
  have HCY := hidd hcy
  have HLE := hidd hle
  clear hcy hle
  go_enter Tryd.func76, Tryd.ntmps76
  go_wp2
  go_loopw [5, 6, 7] (fun vo vc vi wr => ∃ (k : Nat) (q : Int) (zs : List Int), k ≤ n ∧ vi = .int .i64 k ∧ vc = .int .u64 q ∧ 0 ≤ q ∧ q ≤ 1 ∧ Ow wr w.heap.size vo zs ∧ zs.length = k ∧ val zs = val (xs.take k) - val (ys.take k) + pw k * q ∧ Below w.heap.size w wr) (fun _ _ vi _ => n - (intOf vi).toNat)
  case atStart => exact ⟨0, 0, [], Nat.zero_le _, rfl, rfl, by omega, by omega, Ow.start w, rfl, by simp [val], alloc_below _ _⟩
  case round =>
    obtain ⟨k, q, zs, hk, rfl, rfl, hq0, hq1, hO, hzl, hv, hB⟩ := hrel
    subst hzl
    have HV := hidd hv
    clear hv
    obtain ⟨ao, cap, rfl⟩ := hO.shape
    have HO := hO.1
    have hsz := hB.size
    by_cases hkL : zs.length < n
    · obtain ⟨x, hx⟩ : ∃ x, xs.getD zs.length 0 = x := ⟨_, rfl⟩
      obtain ⟨y, hy⟩ : ∃ y, ys.getD zs.length 0 = y := ⟨_, rfl⟩
      have hxd := hX.digs.getD zs.length
      have hyd := hY.digs.getD zs.length
      rw [hx] at hxd
      rw [hy] at hyd
      have Hx := hidd hx
      have Hy := hidd hy
      clear hx hy
      go_wp2_with fail
      refine (word_any _ _ _ _ _ (hX.mono hB) (by omega) zs.length (by omega) x Hx.out).mono ?_
      rintro e w' ⟨rfl, rfl⟩
      go_wp2_with fail
      refine (word_any _ _ _ _ _ (hY.mono hB) (by omega) zs.length (by omega) y Hy.out).mono ?_
      rintro e w' ⟨rfl, rfl⟩
      go_wp2_with (first | (at_builtin; refine wpList_append_own _ rfl _ _ 22 rfl w.heap.size 60 i0 (.int .u32 0) 1 4 Tryd.underlying22 hi hz0 hz1 hz2 rfl (by decide) _ _ _ rfl (World.ownsRow.alloc HO _) ⟨_, 0, none⟩ 1 1 [.int .u32 ((4294967296 + x - y - q) % 4294967296)] rfl rfl (one_at _ _ _) (by intro u hu; simp at hu; subst hu; rfl) (by unfold maxLen; omega) (by omega) (by simp; omega) ?_; intro v' w5 hown' hgrow _) | go_in)
      obtain ⟨hO2, hB2⟩ := hO.step hB (by omega) (by omega) hown' hgrow
      clear hown' hgrow hO hB HO hsz
      go_wp2
      go_roundw
      case rel => exact ⟨zs.length + 1, 1 - (4294967296 + x - y - q) / 4294967296, zs ++ [(4294967296 + x - y - q) % 4294967296], by omega, by go_num, by go_num, by omega, by omega, hO2, by simp, minus_step rfl HV.out Hx.out Hy.out, hB2⟩
      case measure => simp [intOf]; omega
    · have hkl : zs.length = n := by omega
      obtain ⟨ao2, c2, he, hS2⟩ := hO.sl
      cases he
      rw [hkl] at hS2
      have HE : Hid (val zs = val xs - val ys) := by
        have h1 := HV.out
        have h2 := val_nonneg hX.digs
        have h3 := val_lt hX.digs
        rw [hX.len] at h3
        have h4 := HCY.out.length_le (Int.lt_of_le_of_lt HLE.out h3)
        rw [hkl, val_take_all xs (by rw [hX.len]; omega), val_take_all ys h4] at h1
        have h5 := val_lt hS2.digs
        rw [hS2.len] at h5
        have h6 := HLE.out
        show val zs = _
        rcases (by omega : q = 0 ∨ q = 1) with rfl | rfl
        · omega
        · omega
      clear hO HO
      go_wp2
      go_ret
      exact ⟨ao, cap, zs, by show Ending.returned (.slice ao zs.length cap) = _; rw [hkl], hS2, HE.out, hB⟩

end Go.Proofs.YtnhapjifddhdiaaDoor

namespace Go.Proofs.YtnhapjifddhdiaaDoor
open Go Go.RowKit

def Mine (w : World) (b n : Nat) (zs : List Int) : Prop :=
  ∃ cur : Array Value, w.heap[b]? = some (.cells cur 60 (0, 0)) ∧ zs.length = n ∧ Digs zs ∧ n ≤ cur.size ∧ ∀ j, j < n → cur[j]? = some (.int .u32 (zs.getD j 0))

theorem Mine.lt {w : World} {b n : Nat} {zs : List Int} (h : Mine w b n zs) : b < w.heap.size := by
  obtain ⟨cur, h1, _⟩ := h
  exact (Array.getElem?_eq_some_iff.1 h1).1
theorem Mine.len {w : World} {b n : Nat} {zs : List Int} (h : Mine w b n zs) : zs.length = n := by
  obtain ⟨cur, _, h1, _⟩ := h
  exact h1
theorem Mine.digs {w : World} {b n : Nat} {zs : List Int} (h : Mine w b n zs) : Digs zs := by
  obtain ⟨cur, _, _, h1, _⟩ := h
  exact h1
theorem Mine.cell {w : World} {b n : Nat} {zs : List Int} (h : Mine w b n zs) {j : Nat} (hj : j < n) : w.cell? ⟨b, j, none⟩ = some (.int .u32 (zs.getD j 0)) := by
  obtain ⟨cur, h1, h2, h3, h4, h5⟩ := h
  rw [cell_of_row w b j _ _ (0, 0) h1]
  exact h5 j hj
theorem Mine.frozen {w : World} {b n : Nat} {zs : List Int} (h : Mine w b n zs) (j : Nat) : w.frozen? ⟨b, j, none⟩ = false := by
  obtain ⟨cur, h1, _⟩ := h
  simp [World.frozen?, h1]
theorem Mine.mono {w w' : World} {b n : Nat} {zs : List Int} (h : Mine w b n zs) {B : Nat} (hb : Below B w w') (hB : b < B) : Mine w' b n zs := by
  obtain ⟨cur, h1, h2⟩ := h
  exact ⟨cur, by rw [hb.block b hB]; exact h1, h2⟩
theorem Mine.drewN {w : World} {b n : Nat} {zs : List Int} (h : Mine w b n zs) (d : Nat) : Mine (w.drewN d) b n zs := h
theorem Mine.set {w : World} {b n : Nat} {zs : List Int} (h : Mine w b n zs) {j : Nat} (hj : j < n) {x : Int} (hx0 : 0 ≤ x) (hx1 : x < 4294967296) : Mine (w.setCell ⟨b, j, none⟩ (.int .u32 x)) b n (zs.set j x) := by
  obtain ⟨cur, h1, h2, h3, h4, h5⟩ := h
  refine ⟨cur.setIfInBounds j (.int .u32 x), ?_, by rw [List.length_set]; exact h2, h3.set j ⟨hx0, hx1⟩, by simpa using h4, fun k hk => ?_⟩
  · simp only [World.setCell, Array.getElem?_modify, if_true, h1, Option.map_some, Option.isSome_none]
    simp
  · by_cases hjk : j = k
    · subst hjk
      rw [getD_set _ _ _ (by omega), Array.getElem?_setIfInBounds_self_of_lt (by omega)]
    · rw [getD_set_ne _ _ _ _ hjk]
      rw [Array.getElem?_setIfInBounds_ne hjk]
      exact h5 k hk
theorem Mine.sl {w : World} {b n : Nat} {zs : List Int} (h : Mine w b n zs) {c : Nat} (hc : n ≤ c) : Sl w (some ⟨b, 0, none⟩) n c zs :=
  ⟨h.len, hc, h.digs, .inr ⟨b, 0, rfl, h.lt, fun j hj => by rw [Nat.zero_add]; exact h.cell (by have := h.len; omega)⟩⟩
theorem Mine.other {w : World} {b n : Nat} {zs : List Int} (h : Mine w b n zs) {w' : World} {b' : Nat} (hg : w.grownBy w' (some b')) (hne : b ≠ b') : Mine w' b n zs := by
  have hl := h.lt
  obtain ⟨cur, h1, h2⟩ := h
  exact ⟨cur, by rw [hg.block b hl (by simpa using hne)]; exact h1, h2⟩
theorem Row.mine {w : World} {b : Nat} {zs : List Int} (h : Row w 60 b zs) : Mine w b zs.length zs :=
  ⟨_, h.2, rfl, h.1, by simp, fun j hj => by simp [hj]⟩
theorem Ow.mine {w : World} {B b n c : Nat} {zs : List Int} (h : Ow w B (.slice (some ⟨b, 0, none⟩) n c) zs) : Mine w b n zs ∧ B ≤ b ∧ n ≤ c := by
  obtain ⟨⟨h1, h2⟩, h3⟩ := h
  rcases h2 with ⟨h4, _⟩ | ⟨g, cap, cur, h4, h5, h6, h7, h8, h9, h10⟩
  · cases h4
  · cases h4
    refine ⟨⟨cur, h6, rfl, h3, by omega, fun j hj => ?_⟩, h5, h7⟩
    have e : (cur.toList.take (zs.length * 1))[j]? = (zs.map (Value.int .u32))[j]? := by rw [h10]
    rw [List.getElem?_take_of_lt (by omega)] at e
    simp at e
    rw [e]
    simp [hj]
theorem Row.ow {w : World} {B b : Nat} {zs : List Int} (h : Row w 60 b zs) (hB : B ≤ b) (hn : zs.length ≤ maxLen) : Ow w B (.slice (some ⟨b, 0, none⟩) zs.length zs.length) zs :=
  ⟨⟨by simp, .inr ⟨b, zs.length, _, rfl, hB, h.2, Nat.le_refl _, hn, by simp, by rw [Nat.mul_one]; exact List.take_of_length_le (by simp)⟩⟩, h.1⟩

set_option maxRecDepth 20000 in
set_option maxHeartbeats 1000000 in
theorem rBits_any (w : World) (na : Bool) (ax : Option Addr) (n c : Nat) (xs : List Int) (hX : Sl w ax n c xs) (hc : Canon xs) (hb : n ≤ 4000000) :
    Calls Tryd.prog 62 #[.agg #[.bool na, .slice ax n c]] w fun e w' => ∃ m : Nat, e = .returned (.int .i64 m) ∧ IsBits (val xs) m ∧ m ≤ 32 * n ∧ Below w.heap.size w w' := by
  have hn := hidd hX.len
  obtain ⟨w0, hw0, hA, hbl0, HS⟩ := boxes1 w (.bool na) (.slice ax n c) 27
  by_cases h0 : n = 0
  · obtain rfl := h0
    have e : xs = [] := List.eq_nil_of_length_eq_zero hn.out
    clear hA hw0
    go_enter Tryd.func62, Tryd.ntmps62
    go_wp2
    go_ret
    exact ⟨0, rfl, .inl ⟨by subst e; rfl, rfl⟩, by omega, alloc_below _ _⟩
  · have h1 : ((n : Int) == 0) = false := by simp; omega
    have hx := (hX.mono hbl0).cells
    obtain ⟨b, off, rfl, hbl, x, hxc, hx0, hx1, HX⟩ := hx.at (k := n - 1) (by rw [hn.out]; omega)
    have hxp : 0 < x := by
      rcases hc.2 with h | h
      · have := hn.out; omega
      · rcases (by omega : x = 0 ∨ 0 < x) with h2 | h2
        · exfalso
          have e := val_take_succ xs (n - 1)
          rw [show n - 1 + 1 = n from by omega, HX.out, h2, val_take_all xs (by rw [hn.out]; omega)] at e
          have l1 := val_lt (hX.take (show n - 1 ≤ n by omega)).digs
          rw [(hX.take (show n - 1 ≤ n by omega)).len] at l1
          rw [hn.out] at h
          omega
        · exact h2
    obtain ⟨ca0, ca1, _, _⟩ := hA
    go_enter Tryd.func62, Tryd.ntmps62
    go_upto_region 1 with (fail)
    rw [← hw0]
    clear hw0
    go_wp2
    go_loop [3, 4] (fun i u => ∃ (k : Nat) (q : Int), k ≤ 32 ∧ 0 ≤ q ∧ q < 4294967296 ∧ i = .int .i64 (32 * ((n : Int) - 1) + k) ∧ u = .int .u32 q ∧ q * 2 ^ k ≤ x ∧ x < (q + 1) * 2 ^ k ∧ (k = 0 ∨ 2 ^ (k - 1) ≤ x)) (fun _ u => (intOf u).toNat)
    case atStart => exact ⟨0, x, by omega, hx0, hx1, by simp, rfl, by simp, by simp; omega, .inl rfl⟩
    case round =>
      obtain ⟨k, q, hk, hq0, hq1, rfl, rfl, hv⟩ := hrel
      have HV := hidd hv
      clear hv
      by_cases hq : 0 < q
      · go_wp2
        go_round
        case rel =>
          obtain ⟨v1, v2, _⟩ := HV.out
          have hp := pow_two_pos k
          have h5 : (2 : Int) ^ k ≤ x := by
            have := Int.mul_le_mul_of_nonneg_right (show 1 ≤ q by omega) (Int.le_of_lt hp)
            omega
          have hk2 : k < 32 := by
            rcases Nat.lt_or_ge k 32 with h | h
            · exact h
            · have : k = 32 := by omega
              subst this; simp at h5; omega
          refine ⟨k + 1, q / 2, by omega, by omega, by omega, by rw [show ((k + 1 : Nat) : Int) = (k : Int) + 1 from rfl]; congr 1; omega, rfl, ?_, ?_, .inr h5⟩
          · rw [pow_two_succ]
            have : q / 2 * (2 ^ k * 2) = (q / 2 * 2) * 2 ^ k := by rw [Int.mul_comm (2 ^ k), Int.mul_assoc]
            have h6 := Int.mul_le_mul_of_nonneg_right (show q / 2 * 2 ≤ q by omega) (Int.le_of_lt hp)
            omega
          · rw [pow_two_succ]
            have : (q / 2 + 1) * (2 ^ k * 2) = ((q / 2 + 1) * 2) * 2 ^ k := by rw [Int.mul_comm (2 ^ k), Int.mul_assoc]
            have h6 := Int.mul_le_mul_of_nonneg_right (show q + 1 ≤ (q / 2 + 1) * 2 by omega) (Int.le_of_lt hp)
            omega
        case measure => simp [intOf]; omega
      · go_wp2
        go_ret
        obtain ⟨v1, v2, v3⟩ := HV.out
        refine ⟨32 * (n - 1) + k, ?_, bits_end hX.digs hn.out (by omega) HX.out hxp hx1 (by omega) v1 v2 v3, by omega, hbl0⟩
        have : ((32 * (n - 1) + k : Nat) : Int) = 32 * ((n : Int) - 1) + k := by omega
        rw [this]; rfl

def prevW (xs : List Int) (i : Nat) : Int := if i = 0 then 0 else xs.getD (i - 1) 0

theorem word_prev (w : World) (ax : Option Addr) (n c : Nat) (xs : List Int) (hX : Sl w ax n c xs) (hb : n ≤ 4000000) (i : Nat) (hi : i ≤ 9000000) (y : Int) (hy : prevW xs i = y) (j : Int) (hj : j = (i : Int) - 1) :
    Calls Tryd.prog 80 #[.slice ax n c, .int .i64 j] w fun e w' => e = .returned (.int .u64 y) ∧ w = w' := by
  unfold prevW at hy
  subst hj
  by_cases h : i = 0
  · subst h
    rw [if_pos rfl] at hy
    subst hy
    exact word_before w ax n c _ (by omega) (by omega)
  · rw [if_neg h] at hy
    rw [show (i : Int) - 1 = ((i - 1 : Nat) : Int) by omega]
    exact word_any w ax n c xs hX hb (i - 1) (by omega) y hy

theorem left_step {m : Nat} {zs xs : List Int} {i wd : Nat} {p x c : Int} (hm : zs.length = i + wd) (h : val zs + pw (i + wd) * c = val (xs.take i) * p * pw wd) (hx : xs.getD i 0 = x) (hd : m = i + wd + 1) :
    val (zs ++ [x * p % 4294967296 + c]) + pw m * (x * p / 4294967296) = val (xs.take (i + 1)) * p * pw wd := by
  subst hd
  rw [val_snoc, hm, val_take_succ, hx, Int.add_mul, Int.add_mul, ← h]
  have h1 := pw_split (i + wd) (x * p)
  have h2 : pw i * x * p * pw wd = pw (i + wd) * (x * p) := by rw [pw_add]; ac_rfl
  rw [Int.mul_add]
  omega

theorem add_mod {T cc P : Int} (h1 : T % 4294967296 % P = 0) (h2 : (4294967296 : Int) % P = 0) (_ : 0 < P) (hc0 : 0 ≤ cc) (hc : cc < P) : (T + cc) % 4294967296 = T % 4294967296 + cc := by
  have h4 : (4294967296 - T % 4294967296) % P = 0 := by rw [Int.sub_emod, h1, h2]; simp
  have h5 : 0 < 4294967296 - T % 4294967296 := by omega
  have h6 := Int.le_of_dvd h5 (Int.dvd_of_emod_eq_zero h4)
  omega

set_option maxRecDepth 20000 in
set_option maxHeartbeats 1000000 in
theorem left_any (w : World) (ax : Option Addr) (n c : Nat) (xs : List Int) (hX : Sl w ax n c xs) (hb : n ≤ 1000000) (s : Nat) (hs : s ≤ 100000000) :
    Calls Tryd.prog 81 #[.slice ax n c, .int .i64 s] w fun e w' => ∃ g l cap zs, e = .returned (.slice (some ⟨g, 0, none⟩) l cap) ∧ w.heap.size ≤ g ∧ Mine w' g l zs ∧ l ≤ cap ∧ l = s / 32 + n + 1 ∧ val zs = val xs * 2 ^ s ∧ Below w.heap.size w w' := by
  obtain ⟨i0, hi, hz0, hz1, hz2⟩ := info_parts info_word
  have hn := hidd hX.len
  have hrs : s % 32 < 32 := Nat.mod_lt _ (by decide)
  obtain ⟨hp0, hp1⟩ := two_le _ hrs
  go_enter Tryd.func81, Tryd.ntmps81
  go_wp2_with (at_make; refine wpList_make_words _ rfl _ _ 22 rfl 60 Tryd.underlying22 (by kernel_rfl) _ _ _ _ rfl rfl (s / 32) (by omega) (by omega) (by omega) ?_; intro w1 hrow hb1 hs1)
  go_loopw [5, 7] (fun vo vi wr => ∃ (i : Nat) (zs : List Int), i ≤ n + 1 ∧ vi = .int .i64 i ∧ Ow wr w.heap.size vo zs ∧ zs.length = i + s / 32 ∧ val zs + pw (i + s / 32) * (prevW xs i * 2 ^ (s % 32) / 4294967296) = val (xs.take i) * 2 ^ (s % 32) * pw (s / 32) ∧ Below w.heap.size w wr) (fun _ vi _ => n + 1 - (intOf vi).toNat)
  case atStart =>
    have ho := hrow.ow (Nat.le_refl _) (by rw [List.length_replicate]; unfold maxLen; omega)
    rw [List.length_replicate] at ho
    exact ⟨0, _, by omega, rfl, ho, by simp, by rw [val_replicate]; simp [prevW, val], hb1⟩
  case round =>
    obtain ⟨i, zs, hk, rfl, hO, hzl, hv, hB⟩ := hrel
    have HV := hidd hv
    clear hv hrow hb1 hs1
    obtain ⟨ao, cap, rfl⟩ := hO.shape
    have HO := hO.1
    have hsz := hB.size
    have HZL := hidd hzl
    have hzb : zs.length ≤ 10000000 := by omega
    clear hzl
    by_cases hin : i ≤ n
    · obtain ⟨x, hx⟩ : ∃ x, xs.getD i 0 = x := ⟨_, rfl⟩
      obtain ⟨y, hy⟩ : ∃ y, prevW xs i = y := ⟨_, rfl⟩
      have hxd := hX.digs.getD i
      rw [hx] at hxd
      obtain ⟨hx0, hx1⟩ := hxd
      have hyd : 0 ≤ y ∧ y < 4294967296 := by
        rw [← hy]; unfold prevW; split
        · omega
        · exact hX.digs.getD _
      obtain ⟨hy0, hy1⟩ := hyd
      have Hx := hidd hx
      have Hy := hidd hy
      clear hx hy
      have hxp0 : 0 ≤ x * 2 ^ (s % 32) := Int.mul_nonneg hx0 (by omega)
      have hxp2 : x * 2 ^ (s % 32) ≤ 4294967295 * 2 ^ (s % 32) := Int.mul_le_mul_of_nonneg_right (by omega) (by omega)
      have hxp1 : x * 2 ^ (s % 32) ≤ 9223372036854775807 := by omega
      have hyp0 : 0 ≤ y * 2 ^ (s % 32) := Int.mul_nonneg hy0 (by omega)
      have hyp2 : y * 2 ^ (s % 32) ≤ 4294967295 * 2 ^ (s % 32) := Int.mul_le_mul_of_nonneg_right (by omega) (by omega)
      have hyp1 : y * 2 ^ (s % 32) ≤ 9223372036854775807 := by omega
      have hc0 : y * 2 ^ (s % 32) / 4294967296 < 2 ^ (s % 32) := Int.ediv_lt_of_lt_mul (by decide) (by omega)
      obtain ⟨u, hor⟩ : ∃ u, bits .or .u64 (x * 2 ^ (s % 32)) (y * 2 ^ (s % 32) / 4294967296) = u := ⟨_, rfl⟩
      have hu : u = x * 2 ^ (s % 32) + y * 2 ^ (s % 32) / 4294967296 := by
        rw [← hor]
        exact (or_u64 (s % 32) _ _ hxp0 (by omega) (by omega) (by omega) hc0 (Int.mul_emod_left _ _)).1
      have hu0 : 0 ≤ u := by omega
      have hu1 : u < 18446744073709551616 := by omega
      have HD : Hid (u % 4294967296 = x * 2 ^ (s % 32) % 4294967296 + y * 2 ^ (s % 32) / 4294967296) := by
        have h1 := mul_pow_dvd x (s % 32) (by omega)
        have h2 : (4294967296 : Int) % 2 ^ (s % 32) = 0 := by
          have e : (4294967296 : Int) = 2 ^ (s % 32) * 2 ^ (32 - s % 32) := by rw [← Int.pow_add, show s % 32 + (32 - s % 32) = 32 from by omega]; rfl
          rw [e]; exact Int.mul_emod_right _ _
        show u % 4294967296 = _
        rw [hu]
        exact add_mod h1 h2 (by omega) (by omega) hc0
      clear hu
      go_wp2_with fail
      refine (word_any _ _ _ _ _ (hX.mono hB) (by omega) i (by omega) x Hx.out).mono ?_
      rintro e w' ⟨rfl, rfl⟩
      go_wp2_with fail
      refine (word_prev _ _ _ _ _ (hX.mono hB) (by omega) i (by omega) y Hy.out _ (by omega)).mono ?_
      rintro e w' ⟨rfl, rfl⟩
      go_wp2_with (first | (at_builtin; refine wpList_append_own _ rfl _ _ 22 rfl w.heap.size 60 i0 (.int .u32 0) 1 4 Tryd.underlying22 hi hz0 hz1 hz2 rfl (by decide) _ _ _ rfl (World.ownsRow.alloc HO _) ⟨_, 0, none⟩ 1 1 [.int .u32 (u % 4294967296)] rfl rfl (one_at _ _ _) (by intro u hu; simp at hu; subst hu; rfl) (by unfold maxLen; omega) (by omega) (by simp; omega) ?_; intro v' w5 hown' hgrow _) | go_in)
      obtain ⟨hO2, hB2⟩ := hO.step hB (by omega) (by omega) hown' hgrow
      clear hown' hgrow hO hB HO hsz
      go_wp2
      go_roundw
      case rel =>
        refine ⟨i + 1, zs ++ [u % 4294967296], by omega, by go_num, hO2, by rw [List.length_append, HZL.out]; simp; omega, ?_, hB2⟩
        have h1 := HV.out
        rw [Hy.out] at h1
        have h2 : prevW xs (i + 1) = x := by unfold prevW; rw [if_neg (by omega)]; exact Hx.out
        rw [h2, HD.out]
        exact left_step HZL.out h1 Hx.out (by omega)
      case measure => simp [intOf]; omega
    · obtain rfl : i = n + 1 := by omega
      have HE : Hid (val zs = val xs * 2 ^ s) := by
        have h1 := HV.out
        have h2 : prevW xs (n + 1) = 0 := by unfold prevW; rw [if_neg (by omega)]; exact getD_out (by rw [hn.out]; omega)
        rw [h2, Int.zero_mul, Int.zero_ediv, Int.mul_zero, Int.add_zero, val_take_all xs (by rw [hn.out]; omega)] at h1
        show val zs = _
        rw [h1, pw_two, Int.mul_assoc, ← Int.pow_add]
        congr 2
        omega
      have hl2 : 0 < zs.length := by have := HZL.out; omega
      obtain ⟨g, rfl⟩ : ∃ g, ao = some ⟨g, 0, none⟩ := by
        rcases hO.1.2 with ⟨_, h0⟩ | ⟨g, cap', cur, h1, _⟩
        · omega
        · cases h1; exact ⟨g, rfl⟩
      obtain ⟨hM, hgB, hcap⟩ := hO.mine
      clear hO HO
      go_wp2
      go_ret
      exact ⟨g, zs.length, cap, zs, rfl, hgB, hM, hcap, by have := HZL.out; omega, HE.out, hB⟩

end Go.Proofs.YtnhapjifddhdiaaDoor

namespace Go.Proofs.YtnhapjifddhdiaaDoor
open Go Go.RowKit

theorem val_drop_any (xs : List Int) (k : Nat) : val (xs.drop k) = xs.getD k 0 + 4294967296 * val (xs.drop (k + 1)) := by
  by_cases h : k < xs.length
  · exact val_drop_step xs h
  · rw [List.drop_of_length_le (by omega), List.drop_of_length_le (by omega), getD_out (by omega)]; rfl

theorem val_split_any (xs : List Int) (k : Nat) : val xs = val (xs.take k) + pw k * val (xs.drop k) := by
  by_cases h : k ≤ xs.length
  · exact val_split xs h
  · rw [List.take_of_length_le (by omega), List.drop_of_length_le (by omega)]
    show _ = _ + _ * 0
    rw [Int.mul_zero, Int.add_zero]

theorem val_take_lt {xs : List Int} (h : Digs xs) (k : Nat) : val (xs.take k) < pw k := by
  have h1 := val_lt (h.take k)
  have h2 := pw_le (show (xs.take k).length ≤ k by rw [List.length_take]; omega)
  omega

theorem lt_at {xs ys : List Int} {k : Nat} (hx : Digs xs) (h : val (xs.drop (k + 1)) = val (ys.drop (k + 1))) (hlt : xs.getD k 0 < ys.getD k 0) (hy : Digs ys) : val xs < val ys := by
  have e1 := val_split_any xs k
  have e2 := val_split_any ys k
  have d1 := val_drop_any xs k
  have d2 := val_drop_any ys k
  have h1 := val_take_lt hx k
  have h2 := val_nonneg (hy.take k)
  have h3 := Int.mul_le_mul_of_nonneg_left (show val (xs.drop k) + 1 ≤ val (ys.drop k) by omega) (Int.le_of_lt (pw_pos k))
  rw [Int.mul_add, Int.mul_one] at h3
  omega

theorem word_at (w : World) (ax : Option Addr) (n c : Nat) (xs : List Int) (hX : Sl w ax n c xs) (hb : n ≤ 4000000) (i : Nat) (hi : i ≤ 9000000) (y : Int) (hy : xs.getD i 0 = y) (j : Int) (hj : j = (i : Int)) :
    Calls Tryd.prog 80 #[.slice ax n c, .int .i64 j] w fun e w' => e = .returned (.int .u64 y) ∧ w = w' := by
  subst hj
  exact word_any w ax n c xs hX hb i hi y hy

theorem word_same (w : World) (ax : Option Addr) (n c : Nat) (xs : List Int) (hX : Sl w ax n c xs) (hb : n ≤ 4000000) (i : Nat) (hi : i ≤ 9000000) (y : Int) (hy : xs.getD i 0 = y) :
    Calls Tryd.prog 80 #[.slice ax n c, .int .i64 i] w fun e w' => e = .returned (.int .u64 y) ∧ w' = w :=
  (word_any w ax n c xs hX hb i hi y hy).mono fun _ _ h => ⟨h.1, h.2.symm⟩

set_option maxRecDepth 20000 in
set_option maxHeartbeats 1000000 in
theorem reaches_any (w : World) (ax ay : Option Addr) (n m cx cy : Nat) (xs ys : List Int) (hX : Sl w ax n cx xs) (hY : Sl w ay m cy ys) (hb1 : n ≤ 4000000) (hb2 : m ≤ 4000000) :
    Calls Tryd.prog 82 #[.slice ax n cx, .slice ay m cy] w fun e w' => e = .returned (.bool (decide (val ys ≤ val xs))) ∧ w = w' := by
  obtain ⟨L, hL⟩ : ∃ L : Nat, L = max n m := ⟨_, rfl⟩
  have hL2 : (if n < m then (m : Int) else (n : Int)) = (L : Int) := by split <;> omega
  have hLb : L ≤ 4000000 := by omega
  have HL := hidd hL
  clear hL
  go_enter Tryd.func82, Tryd.ntmps82
  go_wp2
  go_loop [5] (fun vi => ∃ k : Nat, k ≤ L ∧ vi = .int .i64 ((k : Int) - 1) ∧ val (xs.drop k) = val (ys.drop k)) (fun vi => (intOf vi + 1).toNat)
  case atStart => exact ⟨L, Nat.le_refl _, rfl, by rw [List.drop_of_length_le (by rw [hX.len]; have := HL.out; omega), List.drop_of_length_le (by rw [hY.len]; have := HL.out; omega)]⟩
  case round =>
    obtain ⟨k, hk, rfl, hv⟩ := hrel
    have HV := hidd hv
    clear hv
    by_cases h0 : 0 < k
    · obtain ⟨j, rfl⟩ : ∃ j, k = j + 1 := ⟨k - 1, by omega⟩
      obtain ⟨x, hx⟩ : ∃ x, xs.getD j 0 = x := ⟨_, rfl⟩
      obtain ⟨y, hy⟩ : ∃ y, ys.getD j 0 = y := ⟨_, rfl⟩
      have Hx := hidd hx
      have Hy := hidd hy
      clear hx hy
      have hj1 : ((j + 1 : Nat) : Int) - 1 = (j : Int) := by omega
      by_cases he : x = y
      · have he2 : (x != y) = false := by simp [he]
        have HE := hidd he
        clear he
        go_wp2_with fail
        refine (word_at _ _ _ _ _ hX (by omega) j (by omega) x Hx.out _ (by omega)).mono ?_
        rintro e w' ⟨rfl, rfl⟩
        go_wp2_with fail
        refine (word_at _ _ _ _ _ hY (by omega) j (by omega) y Hy.out _ (by omega)).mono ?_
        rintro e w' ⟨rfl, rfl⟩
        go_wp2
        go_round
        case rel =>
          refine ⟨j, by omega, by go_num, ?_⟩
          rw [val_drop_any xs j, val_drop_any ys j, HV.out, Hx.out, Hy.out, HE.out]
        case measure => simp [intOf]
      · have he2 : (x != y) = true := by simp [he]
        have HR : Hid (decide (x > y) = decide (val ys ≤ val xs)) := by
          rcases Int.lt_or_gt_of_ne he with h | h
          · have h2 := lt_at hX.digs HV.out (by rw [Hx.out, Hy.out]; exact h) hY.digs
            show _ = _
            rw [decide_eq_false (show ¬ x > y by omega), decide_eq_false (show ¬ val ys ≤ val xs by omega)]
          · have h2 := lt_at hY.digs HV.out.symm (by rw [Hx.out, Hy.out]; exact h) hX.digs
            show _ = _
            rw [decide_eq_true (show x > y by omega), decide_eq_true (show val ys ≤ val xs by omega)]
        clear he
        go_wp2_with fail
        refine (word_at _ _ _ _ _ hX (by omega) j (by omega) x Hx.out _ (by omega)).mono ?_
        rintro e w' ⟨rfl, rfl⟩
        go_wp2_with fail
        refine (word_at _ _ _ _ _ hY (by omega) j (by omega) y Hy.out _ (by omega)).mono ?_
        rintro e w' ⟨rfl, rfl⟩
        go_wp2_with fail
        refine (word_at _ _ _ _ _ hX (by omega) j (by omega) x Hx.out _ (by omega)).mono ?_
        rintro e w' ⟨rfl, rfl⟩
        go_wp2_with fail
        refine (word_at _ _ _ _ _ hY (by omega) j (by omega) y Hy.out _ (by omega)).mono ?_
        rintro e w' ⟨rfl, rfl⟩
        go_wp2
        go_ret
        exact ⟨by rw [← HR.out]; simp, rfl⟩
    · obtain rfl : k = 0 := by omega
      have HR : Hid (decide (val ys ≤ val xs) = true) := by
        have := HV.out
        simp only [List.drop_zero] at this
        exact decide_eq_true (by omega)
      go_wp2
      go_ret
      exact ⟨by rw [HR.out]; rfl, rfl⟩

theorem grown_drewN {w wr : World} {b : Option Nat} (h : w.grownBy wr b) (d : Nat) : w.grownBy (wr.drewN d) b := ⟨h.os, h.tape, h.output, h.size, h.block⟩

theorem grown_set {w wr : World} {b : Nat} (h : w.grownBy wr (some b)) (j : Nat) (u : Value) : w.grownBy (wr.setCell ⟨b, j, none⟩ u) (some b) := grownBy_trans h (grownBy_set _ _ _ _)

theorem half_dig {x y : Int} (hx0 : 0 ≤ x) (hx1 : x < 4294967296) (hy0 : 0 ≤ y) (hy1 : y < 4294967296) :
    ∃ u, bits .or .u64 (x / 2) (y * 2147483648) = u ∧ 0 ≤ u ∧ u < 18446744073709551616 ∧ Hid (2 * (u % 4294967296) = x - x % 2 + 4294967296 * (y % 2)) := by
  have h := (or_u64 31 (y * 2147483648) (x / 2) (by omega) (by omega) (by omega) (by omega) (by show x / 2 < 2147483648; omega) (by show y * 2147483648 % 2147483648 = 0; omega)).2
  refine ⟨_, h, by omega, by omega, ?_⟩
  show _ = _
  omega

set_option maxRecDepth 20000 in
set_option maxHeartbeats 1000000 in
theorem half_any (w : World) (b n c : Nat) (zs : List Int) (hM : Mine w b n zs) (hc : n ≤ c) (hb1 : n ≤ 4000000) :
    Calls Tryd.prog 84 #[.slice (some ⟨b, 0, none⟩) n c] w fun e w' => ∃ zs', e = .returned (.tuple #[]) ∧ Mine w' b n zs' ∧ val zs' = val zs / 2 ∧ w.grownBy w' (some b) ∧ w'.heap.size = w.heap.size := by
  have hzl := hidd hM.len
  have hdz := hM.digs
  go_enter Tryd.func84, Tryd.ntmps84
  go_wp2
  go_loopw [2] (fun vi wr => ∃ (k : Nat) (us : List Int), k ≤ n ∧ vi = .int .i64 k ∧ Mine wr b n us ∧ us.drop k = zs.drop k ∧ 2 * val (us.take k) = val (zs.take k) - zs.getD 0 0 % 2 + pw k * (zs.getD k 0 % 2) ∧ w.grownBy wr (some b) ∧ wr.heap.size = w.heap.size) (fun vi _ => n - (intOf vi).toNat)
  case atStart => exact ⟨0, zs, Nat.zero_le _, rfl, hM, rfl, by simp [val, pw_zero]; omega, World.grownBy.refl _ _, rfl⟩
  case round =>
    obtain ⟨k, us, hk, rfl, hU, hdr, hv, hg, hsz⟩ := hrel
    have HDR := hidd hdr
    have HV := hidd hv
    have HSZ := hidd hsz
    clear hdr hv hsz
    by_cases hkn : k < n
    · obtain ⟨x, hx⟩ : ∃ x, us.getD k 0 = x := ⟨_, rfl⟩
      obtain ⟨y, hy⟩ : ∃ y, us.getD (k + 1) 0 = y := ⟨_, rfl⟩
      have hxd := hU.digs.getD k
      have hyd := hU.digs.getD (k + 1)
      rw [hx] at hxd
      rw [hy] at hyd
      have Hx := hidd hx
      have Hy := hidd hy
      clear hx hy
      obtain ⟨u, hor, hu0, hu1, HU⟩ := half_dig hxd.1 hxd.2 hyd.1 hyd.2
      have hfr := hU.frozen k
      have hcell := hU.cell hkn
      go_wp2_with fail
      refine (word_at _ _ _ _ _ (hU.sl hc) (by omega) k (by omega) x Hx.out _ (by omega)).mono ?_
      rintro e w' ⟨rfl, rfl⟩
      go_wp2_with fail
      refine (word_at _ _ _ _ _ (hU.sl hc) (by omega) (k + 1) (by omega) y Hy.out _ (by omega)).mono ?_
      rintro e w' ⟨rfl, rfl⟩
      go_wp2
      go_roundw
      case rel =>
        have hlen := hU.len
        have e1 : zs.getD k 0 = x := by
          have := congrArg (fun l => l.getD 0 0) HDR.out
          simp only [getD_drop, Nat.add_zero] at this
          rw [← this]; exact Hx.out
        have e2 : zs.getD (k + 1) 0 = y := by
          have := congrArg (fun l => l.getD 1 0) HDR.out
          simp only [getD_drop] at this
          rw [← this]; exact Hy.out
        refine ⟨k + 1, us.set k (u % 4294967296), by omega, by go_num, hU.set hkn (by omega) (by omega), ?_, shr_step (by omega) HV.out e1 e2 HU.out, grown_set hg _ _, by rw [World.size_setCell]; exact HSZ.out⟩
        rw [List.drop_set_of_lt (by omega), ← List.drop_drop, HDR.out, List.drop_drop]
      case measure => simp [intOf]; omega
    · obtain rfl : k = n := by omega
      have HE : Hid (val us = val zs / 2) := by
        have h1 := HV.out
        rw [val_take_all us (by rw [hU.len]; omega), val_take_all zs (by rw [hzl.out]; omega), getD_out (xs := zs) (k := k) (by rw [hzl.out]; omega)] at h1
        have h2 := val_drop_any zs 0
        rw [List.drop_zero] at h2
        show val us = _
        omega
      go_wp2
      (try simp only [Exit.inBlock, Exit.then])
      exact bodyPost_end (results_none rfl _ _ _) rfl ⟨us, rfl, hU, HE.out, hg, HSZ.out⟩

theorem take_step {k : Nat} {us xs ys : List Int} {q x y : Int} (hk : k < us.length) (h : val (us.take k) = val (xs.take k) - val (ys.take k) + pw k * q) (hx : xs.getD k 0 = x) (hy : ys.getD k 0 = y) :
    val ((us.set k ((4294967296 + x - y - q) % 4294967296)).take (k + 1)) = val (xs.take (k + 1)) - val (ys.take (k + 1)) + pw (k + 1) * (1 - (4294967296 + x - y - q) / 4294967296) := by
  rw [val_take_succ, val_take_set _ _ _ _ (Nat.le_refl _), getD_set _ _ _ hk, val_take_succ, val_take_succ, hx, hy]
  have h1 := pw_split k (4294967296 + x - y - q)
  have h2 : pw k * (4294967296 + x - y - q) = pw (k + 1) + pw k * x - pw k * y - pw k * q := by
    rw [pw_succ, Int.mul_sub, Int.mul_sub, Int.mul_add]
  rw [Int.mul_sub, Int.mul_one]
  omega

theorem Sl.other {w w' : World} {ay : Option Addr} {m cy b : Nat} {ys : List Int} (h : Sl w ay m cy ys) (hg : w.grownBy w' (some b)) (hne : ∀ b' o, ay = some ⟨b', o, none⟩ → b' ≠ b) : Sl w' ay m cy ys := by
  refine ⟨h.len, h.cap, h.digs, ?_⟩
  rcases h.cells.2 with h1 | ⟨b', off, h1, h2, h3⟩
  · exact .inl h1
  · refine .inr ⟨b', off, h1, Nat.lt_of_lt_of_le h2 hg.size, fun j hj => ?_⟩
    have := hg.block b' h2 (by simpa using hne b' off h1)
    have h4 := h3 j hj
    unfold World.cell? at h4 ⊢
    rw [this]
    exact h4

set_option maxRecDepth 20000 in
set_option maxHeartbeats 1000000 in
theorem take_any (w : World) (b n c : Nat) (zs : List Int) (hM : Mine w b n zs) (hc : n ≤ c) (hb1 : n ≤ 4000000) (ay : Option Addr) (m cy : Nat) (ys : List Int) (hY : Sl w ay m cy ys) (hb2 : m ≤ 4000000) (hne : ∀ b' o, ay = some ⟨b', o, none⟩ → b' ≠ b) (hle : val ys ≤ val zs) :
    Calls Tryd.prog 83 #[.slice (some ⟨b, 0, none⟩) n c, .slice ay m cy] w fun e w' => ∃ zs', e = .returned (.tuple #[]) ∧ Mine w' b n zs' ∧ val zs' = val zs - val ys ∧ w.grownBy w' (some b) ∧ w'.heap.size = w.heap.size := by
  have hzl := hidd hM.len
  have hdz := hidd hM.digs
  have HLE := hidd hle
  have HNE := hidd hne
  clear hle hne
  go_enter Tryd.func83, Tryd.ntmps83
  go_wp2
  go_loopw [4, 5] (fun vc vi wr => ∃ (k : Nat) (q : Int) (us : List Int), k ≤ n ∧ vi = .int .i64 k ∧ vc = .int .u64 q ∧ 0 ≤ q ∧ q ≤ 1 ∧ Mine wr b n us ∧ us.drop k = zs.drop k ∧ val (us.take k) = val (zs.take k) - val (ys.take k) + pw k * q ∧ w.grownBy wr (some b) ∧ wr.heap.size = w.heap.size) (fun _ vi _ => n - (intOf vi).toNat)
  case atStart => exact ⟨0, 0, zs, Nat.zero_le _, rfl, rfl, by omega, by omega, hM, rfl, by simp [val], World.grownBy.refl _ _, rfl⟩
  case round =>
    obtain ⟨k, q, us, hk, rfl, rfl, hq0, hq1, hU, hdr, hv, hg, hsz⟩ := hrel
    have HDR := hidd hdr
    have HV := hidd hv
    have HSZ := hidd hsz
    clear hdr hv hsz
    by_cases hkn : k < n
    · obtain ⟨x, hx⟩ : ∃ x, us.getD k 0 = x := ⟨_, rfl⟩
      obtain ⟨y, hy⟩ : ∃ y, ys.getD k 0 = y := ⟨_, rfl⟩
      have hxd := hU.digs.getD k
      have hyd := hY.digs.getD k
      rw [hx] at hxd
      rw [hy] at hyd
      obtain ⟨hx0, hx1⟩ := hxd
      obtain ⟨hy0, hy1⟩ := hyd
      have hcell := hU.cell hkn
      rw [hx] at hcell
      have Hx := hidd hx
      have Hy := hidd hy
      clear hx hy
      have hYr := hY.other hg HNE.out
      go_wp2
      go_quiet ((go_at_call 80; exact Calls.quiet_of_same (word_same _ _ _ _ _ (Sl.drewN hYr _) (by omega) k (by omega) y Hy.out)))
      obtain ⟨w2, hw2⟩ : ∃ w2, w2 = wr.drewN nq := ⟨_, rfl⟩
      rw [← hw2]
      have hU2 : Mine w2 b n us := by rw [hw2]; exact hU.drewN _
      have hg2 : w.grownBy w2 (some b) := by rw [hw2]; exact grown_drewN hg _
      have HS2 : Hid (w2.heap.size = w.heap.size) := by show _ = _; rw [hw2]; exact HSZ.out
      clear hw2 hcell hYr hU hg HSZ
      have hfr := hU2.frozen k
      have hcell := hU2.cell hkn
      go_wp2
      go_roundw
      case rel =>
        have hlen := hU2.len
        have e1 : zs.getD k 0 = x := by
          have := congrArg (fun l => l.getD 0 0) HDR.out
          simp only [getD_drop, Nat.add_zero] at this
          rw [← this]; exact Hx.out
        refine ⟨k + 1, 1 - (4294967296 + x - y - q) / 4294967296, us.set k ((4294967296 + x - y - q) % 4294967296), by omega, by go_num, by go_num, by omega, by omega, hU2.set hkn (by omega) (by omega), ?_, take_step (by omega) HV.out e1 Hy.out, grown_set hg2 _ _, by rw [World.size_setCell]; exact HS2.out⟩
        rw [List.drop_set_of_lt (by omega), ← List.drop_drop, HDR.out, List.drop_drop]
      case measure => simp [intOf]; omega
    · obtain rfl : k = n := by omega
      have HE : Hid (val us = val zs - val ys) := by
        have h1 := HV.out
        rw [val_take_all us (by rw [hU.len]; omega), val_take_all zs (by rw [hzl.out]; omega)] at h1
        have h2 := val_split_any ys k
        have h3 := val_lt hdz.out
        rw [hzl.out] at h3
        have h4 := val_nonneg (hY.digs.drop k)
        have h5 := val_lt hU.digs
        rw [hU.len] at h5
        have h6 := val_nonneg (hY.digs.take k)
        have h7 := val_nonneg hU.digs
        have h8 := HLE.out
        have h9 := pw_pos k
        show val us = _
        have h10 : val (ys.drop k) = 0 := by
          rcases (by omega : val (ys.drop k) = 0 ∨ 1 ≤ val (ys.drop k)) with h | h
          · exact h
          · have := Int.mul_le_mul_of_nonneg_left h (Int.le_of_lt h9)
            omega
        rw [h10, Int.mul_zero] at h2
        rcases (by omega : q = 0 ∨ q = 1) with rfl | rfl
        · omega
        · omega
      go_wp2
      (try simp only [Exit.inBlock, Exit.then])
      exact bodyPost_end (results_none rfl _ _ _) rfl ⟨us, rfl, hU, HE.out, hg, HSZ.out⟩

end Go.Proofs.YtnhapjifddhdiaaDoor

namespace Go.Proofs.YtnhapjifddhdiaaDoor
open Go Go.RowKit

theorem sgn_same (b : Bool) (x y : Int) : sgn b (x + y) = sgn b x + sgn b y := by cases b <;> simp [sgn]; omega

set_option maxRecDepth 20000 in
set_option maxHeartbeats 2000000 in
theorem rAdd_any (w : World) (na nb : Bool) (ax ay : Option Addr) (n m cx cy : Nat) (xs ys : List Int) (hX : Sl w ax n cx xs) (hY : Sl w ay m cy ys) (hcx : Canon xs) (hcy : Canon ys) (hb1 : n ≤ 1000000) (hb2 : m ≤ 1000000) :
    Calls Tryd.prog 60 #[.agg #[.bool na, .slice ax n cx], .agg #[.bool nb, .slice ay m cy]] w (GivesInt w (sgn na (val xs) + sgn nb (val ys))) := by
  obtain ⟨w0, hw0, hA, hB, hC, hbl, HS⟩ := boxes3 w (.bool na) (.slice ax n cx) (.bool nb) (.slice ay m cy) 27
  have HCX := hidd hcx
  have HCY := hidd hcy
  clear hcx hcy
  by_cases hab : na = nb
  · subst hab
    have HE : Hid (sgn na (val xs + val ys) = sgn na (val xs) + sgn na (val ys)) := sgn_same _ _ _
    have hnn : (na == na) = true := by simp
    go_enter Tryd.func60, Tryd.ntmps60
    go_wp2
    rw [← hw0]
    clear hw0
    have hXd := (hX.mono hbl).drew
    have hYd := (hY.mono hbl).drew
    have hCd : IntBox w0.drew (w.heap.size + 1 + 1) (.bool false) (.slice none 0 0) := hC
    have hcut : w.heap.size + 2 ≤ w0.heap.size := by have := HS.out; omega
    obtain ⟨ca0, ca1, _, _⟩ := hA
    obtain ⟨cb0, cb1, _, _⟩ := hB
    go_region_held3 (fun W => w.heap.size + 2 ≤ W.heap.size ∧ (∀ b o, b < w.heap.size + 2 → W.cell? ⟨b, o, none⟩ = w0.cell? ⟨b, o, none⟩) ∧ ∀ b o, b < w.heap.size + 2 → W.frozen? ⟨b, o, none⟩ = w0.frozen? ⟨b, o, none⟩)
      (first | exact Kept.start hcut | assumption | exact Kept.call (by assumption) (by assumption) | exact Kept.set (Kept.set (by assumption) (by omega) _) (by omega) _)
      (first | (go_at_call 75; (with_reducible refine (plus_any _ _ _ _ _ _ _ _ _ hXd hYd (by omega) (by omega)).mono ?_); rintro e w2 ⟨az, cz, lz, zs, rfl, hsz, hlz, hvz, hB2⟩) | (go_at_call 41; (with_reducible refine (made_any _ _ _ _ _ _ hsz (by omega)).mono ?_); rintro e w3 ⟨v, rfl, ⟨ng, ao, nn, cc, rs, rfl, hrs, hrc, hrn, hrz⟩, hb3⟩; obtain ⟨e0, e1, e2, e3⟩ := (hCd.mono hB2 hCd.lt).mono hb3 (Nat.lt_of_lt_of_le hCd.lt hB2.size)))
    go_wp2
    refine bodyPost_ret (v := .agg #[.bool ng, .slice ao nn cc]) ?_ rfl ?_
    · simp [results, Tryd.results60, go_sem, e0, e1]
    · have hb4 : Below w.heap.size w w3 := (hbl.drew.trans (hB2.mono (by have := HS.out; simp; omega))).trans (hb3.mono (by have := HS.out; have := hB2.size; simp at this; omega))
      exact gives_store ⟨e0, e1, e2, e3⟩ hrs hrc hrn (by rw [← hrz, hvz]; exact HE.out.symm) hb4 (by omega)
  · have hnn : (na == nb) = false := by simpa using hab
    go_enter Tryd.func60, Tryd.ntmps60
    go_wp2_with fail
    rw [← hw0]
    clear hw0
    refine (size_any _ _ _ _ _ _ _ _ _ (hX.mono hbl) (hY.mono hbl) HCX.out HCY.out (by omega) (by omega)).mono ?_
    rintro e w1 ⟨rfl, hd⟩
    have hbl1 : Below w.heap.size w w1 := hbl.trans (hd.below _)
    obtain ⟨d, hw1⟩ := hd
    have hA1 : IntBox w1 w.heap.size (.bool na) (.slice ax n cx) := by rw [hw1]; exact hA
    have hB1 : IntBox w1 (w.heap.size + 1) (.bool nb) (.slice ay m cy) := by rw [hw1]; exact hB
    have hC1 : IntBox w1 (w.heap.size + 1 + 1) (.bool false) (.slice none 0 0) := by rw [hw1]; exact hC
    have HS1 : Hid (w1.heap.size = w.heap.size + 3) := by show _ = _; rw [hw1]; exact HS.out
    clear hw1 hA hB hC hbl HS
    rename Below w.heap.size w w1 => hbl
    rename IntBox w1 w.heap.size (.bool na) (.slice ax n cx) => hA
    rename IntBox w1 (w.heap.size + 1) (.bool nb) (.slice ay m cy) => hB
    rename IntBox w1 (w.heap.size + 1 + 1) (.bool false) (.slice none 0 0) => hC
    rename Hid (w1.heap.size = w.heap.size + 3) => HS
    have hx0 := val_nonneg hX.digs
    have hy0 := val_nonneg hY.digs
    by_cases hle : val ys ≤ val xs
    · have HL := hidd hle
      have hge : decide (cmpI (val xs) (val ys) ≥ 0) = true := by
        rw [decide_eq_true_eq]; unfold cmpI; rw [if_neg (by omega)]; split <;> omega
      have HE : Hid (sgn na (val xs - val ys) = sgn na (val xs) + sgn nb (val ys)) := by
        show _ = _
        cases na <;> cases nb <;> simp [sgn] at hab ⊢ <;> omega
      clear hle hx0 hy0
      generalize cmpI (val xs) (val ys) = cc0 at *
      go_wp2
      have hXd := (hX.mono hbl).drew
      have hYd := (hY.mono hbl).drew
      have hCd : IntBox w1.drew (w.heap.size + 1 + 1) (.bool false) (.slice none 0 0) := hC
      have hcut : w.heap.size + 2 ≤ w1.heap.size := by have := HS.out; omega
      obtain ⟨ca0, ca1, _, _⟩ := hA
      obtain ⟨cb0, cb1, _, _⟩ := hB
      go_region_held3 (fun W => w.heap.size + 2 ≤ W.heap.size ∧ (∀ b o, b < w.heap.size + 2 → W.cell? ⟨b, o, none⟩ = w1.cell? ⟨b, o, none⟩) ∧ ∀ b o, b < w.heap.size + 2 → W.frozen? ⟨b, o, none⟩ = w1.frozen? ⟨b, o, none⟩)
        (first | exact Kept.start hcut | assumption | exact Kept.call (by assumption) (by assumption) | exact Kept.set (Kept.set (by assumption) (by omega) _) (by omega) _)
        (first | (go_at_call 76; (with_reducible refine (minus_any _ _ _ _ _ _ _ _ _ hXd hYd HCY.out HL.out (by omega) (by omega)).mono ?_); rintro e w2 ⟨az, cz, zs, rfl, hsz, hvz, hB2⟩) | (go_at_call 41; (with_reducible refine (made_any _ _ _ _ _ _ hsz (by omega)).mono ?_); rintro e w3 ⟨v, rfl, ⟨ng, ao, nn, cc, rs, rfl, hrs, hrc, hrn, hrz⟩, hb3⟩; obtain ⟨e0, e1, e2, e3⟩ := (hCd.mono hB2 hCd.lt).mono hb3 (Nat.lt_of_lt_of_le hCd.lt hB2.size)))
      go_wp2
      refine bodyPost_ret (v := .agg #[.bool ng, .slice ao nn cc]) ?_ rfl ?_
      · simp [results, Tryd.results60, go_sem, e0, e1]
      · have hb4 : Below w.heap.size w w3 := (hbl.drew.trans (hB2.mono (by have := HS.out; simp; omega))).trans (hb3.mono (by have := HS.out; have := hB2.size; simp at this; omega))
        exact gives_store ⟨e0, e1, e2, e3⟩ hrs hrc hrn (by rw [← hrz, hvz]; exact HE.out.symm) hb4 (by omega)
    · have HL : Hid (val xs ≤ val ys) := by show _ ≤ _; omega
      have hge : decide (cmpI (val xs) (val ys) ≥ 0) = false := by
        rw [decide_eq_false_iff_not]; unfold cmpI; rw [if_pos (by omega)]; omega
      have HE : Hid (sgn nb (val ys - val xs) = sgn na (val xs) + sgn nb (val ys)) := by
        show _ = _
        cases na <;> cases nb <;> simp [sgn] at hab ⊢ <;> omega
      clear hle hx0 hy0
      generalize cmpI (val xs) (val ys) = cc0 at *
      go_wp2
      have hXd := (hX.mono hbl).drew
      have hYd := (hY.mono hbl).drew
      have hCd : IntBox w1.drew (w.heap.size + 1 + 1) (.bool false) (.slice none 0 0) := hC
      have hcut : w.heap.size + 2 ≤ w1.heap.size := by have := HS.out; omega
      obtain ⟨ca0, ca1, _, _⟩ := hA
      obtain ⟨cb0, cb1, _, _⟩ := hB
      go_region_held3 (fun W => w.heap.size + 2 ≤ W.heap.size ∧ (∀ b o, b < w.heap.size + 2 → W.cell? ⟨b, o, none⟩ = w1.cell? ⟨b, o, none⟩) ∧ ∀ b o, b < w.heap.size + 2 → W.frozen? ⟨b, o, none⟩ = w1.frozen? ⟨b, o, none⟩)
        (first | exact Kept.start hcut | assumption | exact Kept.call (by assumption) (by assumption) | exact Kept.set (Kept.set (by assumption) (by omega) _) (by omega) _)
        (first | (go_at_call 76; (with_reducible refine (minus_any _ _ _ _ _ _ _ _ _ hYd hXd HCX.out HL.out (by omega) (by omega)).mono ?_); rintro e w2 ⟨az, cz, zs, rfl, hsz, hvz, hB2⟩) | (go_at_call 41; (with_reducible refine (made_any _ _ _ _ _ _ hsz (by omega)).mono ?_); rintro e w3 ⟨v, rfl, ⟨ng, ao, nn, cc, rs, rfl, hrs, hrc, hrn, hrz⟩, hb3⟩; obtain ⟨e0, e1, e2, e3⟩ := (hCd.mono hB2 hCd.lt).mono hb3 (Nat.lt_of_lt_of_le hCd.lt hB2.size)))
      go_wp2
      refine bodyPost_ret (v := .agg #[.bool ng, .slice ao nn cc]) ?_ rfl ?_
      · simp [results, Tryd.results60, go_sem, e0, e1]
      · have hb4 : Below w.heap.size w w3 := (hbl.drew.trans (hB2.mono (by have := HS.out; simp; omega))).trans (hb3.mono (by have := HS.out; have := hB2.size; simp at this; omega))
        exact gives_store ⟨e0, e1, e2, e3⟩ hrs hrc hrn (by rw [← hrz, hvz]; exact HE.out.symm) hb4 (by omega)
theorem RAddV {w : World} {v v' : Value} {z z' : Int} (h : Num w v z) (h' : Num w v' z') : Calls Tryd.prog 60 #[v, v'] w (GivesInt w (z + z')) := by
  obtain ⟨neg, ao, n, c, xs, rfl, hs, hn, rfl, hc, _⟩ := h
  obtain ⟨neg', ao', n', c', xs', rfl, hs', hn', rfl, hc', _⟩ := h'
  exact rAdd_any _ _ _ _ _ _ _ _ _ _ _ hs hs' hc hc' (by omega) (by omega)

theorem boxes3n (w : World) {n n' : Bool} {ao ao' : Option Addr} {k c k' c' : Nat} {z z' : Int} (h : Num w (.agg #[.bool n, .slice ao k c]) z) (h' : Num w (.agg #[.bool n', .slice ao' k' c']) z') (t : TypeId) :
    ∃ w0, w0 = ((w.alloc (.cells #[.bool n, .slice ao k c] t)).alloc (.cells #[.bool n', .slice ao' k' c'] t)).alloc (.cells #[.bool false, .slice none 0 0] t) ∧
      (∀ W, Below (w.heap.size + 2) w0 W → BoxNum W w.heap.size z ∧ BoxNum W (w.heap.size + 1) z' ∧ Below w.heap.size w W) ∧ BoxNum w0 (w.heap.size + 1 + 1) 0 ∧ Below w.heap.size w w0 ∧ w0.heap.size = w.heap.size + 3 := by
  obtain ⟨w0, hw0, hA, hB, hC, hbl, HS⟩ := boxes3 w (.bool n) (.slice ao k c) (.bool n') (.slice ao' k' c') t
  refine ⟨w0, hw0, fun W hb => ?_, ⟨_, _, _, _, hC, Num.zero _⟩, hbl, HS.out⟩
  have hbW : Below w.heap.size w W := hbl.trans (hb.mono (by omega))
  exact ⟨⟨_, _, _, _, hA.mono hb (by omega), h.mono hbW⟩, ⟨_, _, _, _, hB.mono hb (by omega), h'.mono hbW⟩, hbW⟩

theorem enter_rNeg (args : Array Value) (w : World) : (callFunc 61 args).run Tryd.prog w = .ok (.enter 61 args) w := enter_of Tryd.func61 (by kernel_rfl) rfl args w
theorem enter_rAdd (args : Array Value) (w : World) : (callFunc 60 args).run Tryd.prog w = .ok (.enter 60 args) w := enter_of Tryd.func60 (by kernel_rfl) rfl args w

set_option maxRecDepth 10000 in
set_option maxRecDepth 20000 in
set_option maxHeartbeats 2000000 in
theorem RSubV {w : World} {v v' : Value} {z z' : Int} (h : Num w v z) (h' : Num w v' z') {K : Nat} (hz : ab z < pw K) (hz' : ab z' < pw K) (hK : K ≤ 800000) : Calls Tryd.prog 34 #[v, v'] w (GivesInt w (z - z')) := by
  obtain ⟨n, ao, k, c, rfl⟩ := h.parts
  obtain ⟨n', ao', k', c', rfl⟩ := h'.parts
  obtain ⟨w0, hw0, hXW, hR, hbl, hsz⟩ := boxes3n w h h' 27
  have Bn : Hid (ab (-z') < pw K) := ab_negB hz'
  have Bs : Hid (ab (z - z') < pw (K + 1)) := ab_subB hz hz' (by omega) (by omega)
  go_enter Tryd.func34, Tryd.ntmps34
  go_upto_region 1 with (fail)
  rw [← hw0]
  clear hw0
  go_wp2
  have hp : (plan [Fc.num z, Fc.num z', Fc.num (-z'), Fc.num (z - z'), Fc.any] [(w.heap.size + 1 + 1, 4, 0, z - z')] []).Ok (w.heap.size + 2) w0.heap.size := plan_ok (by simp; omega) (by simp) (by simp) (by omega)
  have hm := PMono.of hp
  refine region_steps (p := plan [Fc.num z, Fc.num z', Fc.num (-z'), Fc.num (z - z'), Fc.any] [(w.heap.size + 1 + 1, 4, 0, z - z')] []) (B := w.heap.size + 2) (B0 := w0.heap.size) (w0 := w0) (by kernel_rfl) rfl rfl (plan_start (by simp; exact hR) (Below.refl _ _))
    ⟨?_, ?_, ?_, ?_, ?_, trivial⟩ ?_
  · exact g_load (b := w.heap.size) (z := z) hm ⟨by simp [plan], by simp [plan]⟩ trivial (src_out rfl rfl (fun W hb => ⟨rfl, (hXW W hb).1⟩)) (fun v w h => h)
  · exact g_load (b := w.heap.size + 1) (z := z') hm ⟨by simp [plan], by simp [plan]⟩ trivial (src_out rfl rfl (fun W hb => ⟨rfl, (hXW W hb).2.1⟩)) (fun v w h => h)
  · exact g_call1 (F := (Fc.num z').P) hm ⟨by simp [plan], by simp [plan]⟩ trivial enter_rNeg (src_in 1 rfl rfl (by simp) rfl (fun v w h => h)) (fun v w h => exK (RNegV h) Bn.out (by omega))
  · exact g_call2 (F := (Fc.num z).P) (G := (Fc.num (-z')).P) hm ⟨by simp [plan], by simp [plan]⟩ trivial enter_rAdd (src_in 0 rfl rfl (by simp) rfl (fun v w h => h)) (src_in 2 rfl rfl (by simp) rfl (fun v w h => h)) (fun v v' w h h' => by
      have := RAddV h h'
      rw [show z + -z' = z - z' by omega] at this
      exact exK this Bs.out (by omega))
  · exact st_storeOld (b := w.heap.size + 1 + 1) (j := 3) (z := 0) (z' := z - z') hp rfl (by simp [plan]) rfl rfl rfl (by simp) rfl (fun v w h => h) (fun _ _ => trivial) (by simp [plan]) (by simp [plan])
  · intro L vs w2 hL hG
    obtain ⟨ng, ao2, k2, c2, ⟨e0, e1, e2, e3⟩, hN⟩ : BoxNum w2 (w.heap.size + 1 + 1) (z - z') := by
      have := hG.old (w.heap.size + 1 + 1, 4, 0, z - z') (by simp [plan])
      simpa [hL 4 (by simp)] using this
    have hb : Below w.heap.size w w2 := (hXW w2 hG.below).2.2
    rw [lay_all hL]
    simp only [putAll, dstOf, List.length_cons, List.length_nil, Nat.zero_add, Nat.reduceAdd, List.getElem?_toArray, List.getElem?_cons_zero, List.getElem?_cons_succ, Option.bind_some, Act.put, List.setIfInBounds_toArray, List.set_cons_succ, List.set_cons_zero]
    clear hL hG hp
    go_wp2
    refine bodyPost_ret (v := .agg #[.bool ng, .slice ao2 k2 c2]) ?_ rfl ⟨_, rfl, hN.isInt, hb⟩
    simp [results, Tryd.results34, go_sem, e0, e1]

theorem rmac {i k : Nat} {us zs ys : List Int} {q x y z : Int} (hk : i + k < us.length) (h : val (us.take (i + k)) + pw (i + k) * q = val (zs.take (i + k)) + pw i * (x * val (ys.take k))) (hz : zs.getD (i + k) 0 = z) (hy : ys.getD k 0 = y) :
    val ((us.set (i + k) ((q + (x * y + z)) % 4294967296)).take (i + (k + 1))) + pw (i + (k + 1)) * ((q + (x * y + z)) / 4294967296) = val (zs.take (i + (k + 1))) + pw i * (x * val (ys.take (k + 1))) := by
  rw [show i + (k + 1) = (i + k) + 1 by omega, val_take_succ, val_take_set _ _ _ _ (Nat.le_refl _), getD_set _ _ _ hk, val_take_succ zs, val_take_succ ys, hz, hy]
  have h1 := pw_split (i + k) (q + (x * y + z))
  rw [Int.mul_add, Int.mul_add] at h1
  rw [Int.mul_add, Int.mul_add]
  have h2 : pw i * (x * (pw k * y)) = pw (i + k) * (x * y) := by rw [pw_add]; ac_rfl
  rw [h2]
  omega

set_option maxRecDepth 20000 in
set_option maxHeartbeats 2000000 in
theorem rMul_any (w : World) (na nb : Bool) (ax ay : Option Addr) (n m cx cy : Nat) (xs ys : List Int) (hX : Sl w ax n cx xs) (hY : Sl w ay m cy ys) (hb1 : n ≤ 1000000) (hb2 : m ≤ 1000000) :
    Calls Tryd.prog 37 #[.agg #[.bool na, .slice ax n cx], .agg #[.bool nb, .slice ay m cy]] w (GivesInt w (sgn na (val xs) * sgn nb (val ys))) := by
  obtain ⟨w0, hw0, hA, hB, hC, hbl, HS⟩ := boxes3 w (.bool na) (.slice ax n cx) (.bool nb) (.slice ay m cy) 27
  have hn := hidd hX.len
  have hm := hidd hY.len
  obtain ⟨ca0, ca1, _, _⟩ := hA
  obtain ⟨cb0, cb1, _, _⟩ := hB
  go_enter Tryd.func37, Tryd.ntmps37
  go_upto_region 1 with (fail)
  rw [← hw0]
  clear hw0
  go_wp2_with (at_make; refine wpList_make_words _ rfl _ _ 22 rfl 60 Tryd.underlying22 (by kernel_rfl) _ _ _ _ rfl rfl (n + m) rfl rfl (by omega) ?_; intro w1 hrow hb1' hs1)
  obtain ⟨B, hB3⟩ : ∃ B, B = w0.heap.size := ⟨_, rfl⟩
  rw [← hB3] at hrow hb1' hs1
  rw [← hB3]
  have HB4 : Hid (B = w.heap.size + 3) := by show B = _; rw [hB3]; exact HS.out
  have hBlt : w.heap.size + 2 < B := by have := HB4.out; omega
  clear hB3 HS HB4
  go_loopw [6] (fun vi wr => ∃ (i : Nat) (zs : List Int), i ≤ n ∧ vi = .int .i64 i ∧ zs.length = n + m ∧ Row wr 60 B zs ∧ Below B w0 wr ∧ val (zs.take (i + m)) = val (xs.take i) * val ys) (fun vi _ => n - (intOf vi).toNat)
  case atStart => exact ⟨0, _, Nat.zero_le _, rfl, by simp, hrow, hb1', by rw [List.take_replicate, val_replicate]; simp [val]⟩
  case round =>
    obtain ⟨i, zs, hi, rfl, hzl, hr, hbr, hv⟩ := hrel
    have HZL := hidd hzl
    have HV := hidd hv
    clear hzl hv hrow hb1' hs1
    have da0 := (hbr.cell (p := ⟨w.heap.size, 0, none⟩) (by show w.heap.size < _; omega)).trans ca0
    have da1 := (hbr.cell (p := ⟨w.heap.size, 1, none⟩) (by show w.heap.size < _; omega)).trans ca1
    have db0 := (hbr.cell (p := ⟨w.heap.size + 1, 0, none⟩) (by show w.heap.size + 1 < _; omega)).trans cb0
    have db1 := (hbr.cell (p := ⟨w.heap.size + 1, 1, none⟩) (by show w.heap.size + 1 < _; omega)).trans cb1
    have hbw : Below w.heap.size w wr := hbl.trans (hbr.mono (by omega))
    by_cases hin : i < n
    · obtain ⟨b1, off1, rfl, hbl1, x, hxc0, hx0, hx1, HX⟩ := hX.cells.at (k := i) (by rw [hn.out]; exact hin)
      go_wp2
      go_loopw [7, 8] (fun vc vk wq => ∃ (k : Nat) (q : Int) (us : List Int), k ≤ m ∧ vk = .int .i64 k ∧ vc = .int .u64 q ∧ 0 ≤ q ∧ q < 4294967296 ∧ us.length = n + m ∧ Row wq 60 B us ∧ Below B w0 wq ∧ us.drop (i + k) = zs.drop (i + k) ∧
        val (us.take (i + k)) + pw (i + k) * q = val (zs.take (i + k)) + pw i * (x * val (ys.take k))) (fun _ vk _ => m - (intOf vk).toNat)
      case atStart => exact ⟨0, 0, zs, Nat.zero_le _, rfl, rfl, by omega, by omega, HZL.out, hr, hbr, rfl, by simp [val]⟩
      case round =>
        obtain ⟨k, q, us, hk, rfl, rfl, hq0, hq1, hul, hr2, hbr2, hdr, hv2⟩ := hrel
        have HUL := hidd hul
        have HDR := hidd hdr
        have HV2 := hidd hv2
        clear hul hdr hv2 da0 da1 db0 db1 hr hbr hbw
        have da0 := (hbr2.cell (p := ⟨w.heap.size, 0, none⟩) (by show w.heap.size < _; omega)).trans ca0
        have da1 := (hbr2.cell (p := ⟨w.heap.size, 1, none⟩) (by show w.heap.size < _; omega)).trans ca1
        have db0 := (hbr2.cell (p := ⟨w.heap.size + 1, 0, none⟩) (by show w.heap.size + 1 < _; omega)).trans cb0
        have db1 := (hbr2.cell (p := ⟨w.heap.size + 1, 1, none⟩) (by show w.heap.size + 1 < _; omega)).trans cb1
        have hbw2 : Below w.heap.size w wr := hbl.trans (hbr2.mono (by omega))
        have hul := HUL.out
        by_cases hkm : k < m
        · obtain ⟨b2, off2, rfl, hbl2, y, hyc0, hy0, hy1, HY⟩ := hY.cells.at (k := k) (by rw [hm.out]; exact hkm)
          have hku : i + k < us.length := by omega
          obtain ⟨z, hzc, hz0, hz1, HZ⟩ := hr2.at hku
          have hfr := hr2.frozen (i + k)
          have hxc := (hbw2.cell (p := ⟨b1, off1 + i, none⟩) hbl1).trans hxc0
          have hyc := (hbw2.cell (p := ⟨b2, off2 + k, none⟩) hbl2).trans hyc0
          obtain ⟨hp0, hp1⟩ := mul_bd hx0 hx1 hy0 hy1
          have hw1 : IntKind.u64.wrap x = x := IntWalk.u64_in _ (by omega)
          have hw2 : IntKind.u64.wrap y = y := IntWalk.u64_in _ (by omega)
          have hw3 : IntKind.u64.wrap (x * y) = x * y := IntWalk.u64_in _ (by omega)
          have hw4 : IntKind.u64.wrap z = z := IntWalk.u64_in _ (by omega)
          have hw5 : IntKind.u64.wrap (x * y + z) = x * y + z := IntWalk.u64_in _ (by omega)
          have hw6 : IntKind.u64.wrap (q + (x * y + z)) = q + (x * y + z) := IntWalk.u64_in _ (by omega)
          have hik : IntKind.i64.wrap ((i : Int) + (k : Int)) = ((i + k : Nat) : Int) := by rw [Int.natCast_add]; exact IntWalk.i64_in _ (by omega)
          have hiknm : i + k < n + m := by omega
          clear hul
          go_wp2
          go_quiet (fail)
          obtain ⟨w2, hW2⟩ : ∃ w2, w2 = wr.drewN nq := ⟨_, rfl⟩
          rw [← hW2]
          have hrw : Row w2 60 B us := by rw [hW2]; exact hr2
          have hbw : Below B w0 w2 := by rw [hW2]; exact hbr2.trans ((Drawn.refl wr).drewN nq |>.below _)
          clear hW2 hr2 hbr2 hbw2 hzc hfr hxc hyc da0 da1 db0 db1 hw1 hw2 hw3 hw4 hw5 hw6
          have hfr := hrw.frozen (i + k)
          have hzc := hrw.cell hku
          go_wp2
          go_roundw
          case rel =>
            refine ⟨k + 1, (q + (x * y + z)) / 4294967296, us.set (i + k) ((q + (x * y + z)) % 4294967296), by omega, by go_num, by go_num, by omega, by omega, by rw [List.length_set]; exact HUL.out, hrw.set ⟨by omega, by omega⟩, hbw.setCell (Nat.le_refl _) _, ?_, ?_⟩
            · rw [List.drop_set_of_lt (by omega)]
              have := congrArg (List.drop 1) HDR.out
              simpa [List.drop_drop, Nat.add_assoc] using this
            · have hzz : zs.getD (i + k) 0 = z := by
                have := congrArg (fun l : List Int => l.getD 0 0) HDR.out
                simp only [getD_drop, Nat.add_zero] at this
                rw [← this]; exact HZ.out
              exact rmac hku HV2.out hzz HY.out
          case measure => simp [intOf]; omega
        · obtain rfl : k = m := by omega
          have hzc := hr2.cell (j := i + k) (by omega)
          have hfr := hr2.frozen (i + k)
          have hik : IntKind.i64.wrap ((i : Int) + (k : Int)) = ((i + k : Nat) : Int) := by rw [Int.natCast_add]; exact IntWalk.i64_in _ (by omega)
          have hqm : q % 4294967296 = q := by omega
          clear hul
          go_wp2
          go_roundw
          case rel =>
            refine ⟨i + 1, us.set (i + k) q, by omega, by go_num, by rw [List.length_set]; exact HUL.out, hr2.set ⟨by omega, by omega⟩, hbr2.setCell (Nat.le_refl _) _, ?_⟩
            rw [show i + 1 + k = (i + k) + 1 by omega, val_take_succ, val_take_set _ _ _ _ (Nat.le_refl _), getD_set _ _ _ (by rw [HUL.out]; omega), val_take_succ, HX.out]
            have h1 := HV2.out
            rw [HV.out, val_take_all ys (by rw [hm.out]; omega)] at h1
            rw [Int.add_mul, h1]
            congr 1
            ac_rfl
          case measure => simp [intOf]; omega
    · obtain rfl : i = n := by omega
      have HE : Hid (val zs = val xs * val ys) := by
        have h1 := HV.out
        rw [val_take_all zs (by rw [HZL.out]; omega), val_take_all xs (by rw [hn.out]; omega)] at h1
        exact h1
      have hS := hr.sl HZL.out
      have hCr := hC.mono hbr (by omega)
      go_wp2_with fail
      refine (made_any _ _ _ _ _ _ hS (by omega)).mono ?_
      rintro e w3 ⟨v, rfl, ⟨ng, ao, nn, cc, rs, rfl, hrs, hrc, hrn, hrz⟩, hb3⟩
      obtain ⟨e0, e1, e2, e3⟩ := hCr.mono hb3 hCr.lt
      have hb4 : Below w.heap.size w w3 := hbw.trans (hb3.mono hbw.size)
      have hz : sgn na (val xs) * sgn nb (val ys) = sgn ng (val rs) := by
        rw [← hrz, HE.out]
        cases na <;> cases nb <;> simp [sgn, Int.mul_neg, Int.neg_mul]
      have HZ := hidd hz
      clear hrz hz
      go_wp2
      refine bodyPost_ret (v := .agg #[.bool ng, .slice ao nn cc]) ?_ rfl ?_
      · simp [results, Tryd.results37, go_sem, e0, e1]
      · exact gives_store ⟨e0, e1, e2, e3⟩ hrs hrc hrn HZ.out hb4 (by omega)

theorem RMulV {w : World} {v v' : Value} {z z' : Int} (h : Num w v z) (h' : Num w v' z') : Calls Tryd.prog 37 #[v, v'] w (GivesInt w (z * z')) := by
  obtain ⟨neg, ao, n, c, xs, rfl, hs, hn, rfl, hc, _⟩ := h
  obtain ⟨neg', ao', n', c', xs', rfl, hs', hn', rfl, hc', _⟩ := h'
  exact rMul_any _ _ _ _ _ _ _ _ _ _ _ hs hs' (by omega) (by omega)

end Go.Proofs.YtnhapjifddhdiaaDoor

namespace Go.Proofs.YtnhapjifddhdiaaDoor
open Go Go.RowKit

def DivR (w : World) (X Y : Int) (e : Ending) (w' : World) : Prop :=
  ∃ aq lq cq qs ar lr cr rs, e = .returned (.agg #[.slice aq lq cq, .slice ar lr cr]) ∧ Sl w' aq lq cq qs ∧ Sl w' ar lr cr rs ∧ lq ≤ 3000000 ∧ lr ≤ 3000000 ∧ val qs = X / Y ∧ val rs = X % Y ∧ Below w.heap.size w w'

theorem val_two {xs : List Int} (h : xs.length ≤ 2) : val xs = xs.getD 0 0 + xs.getD 1 0 * 4294967296 := by
  have h1 := val_drop_any xs 0
  have h2 := val_drop_any xs 1
  rw [List.drop_of_length_le (show xs.length ≤ 1 + 1 by omega)] at h2
  rw [List.drop_zero, h2] at h1
  rw [h1]
  show _ + 4294967296 * (_ + 4294967296 * 0) = _
  omega

theorem or_pair {x y : Int} (hx0 : 0 ≤ x) (hx1 : x < 4294967296) (hy0 : 0 ≤ y) (hy1 : y < 4294967296) : bits .or .u64 x (y * 4294967296) = x + y * 4294967296 := (or_halves x y hx0 hx1 hy0 hy1).1

theorem pairs_end {w S : World} {N : Nat} (hS : S.heap.size = N) (hb : Below w.heap.size w S) (T U : Int) (hT0 : 0 ≤ T) (hT1 : T < 18446744073709551616) (hU0 : 0 ≤ U) (hU1 : U < 18446744073709551616) :
    Sl (((S.alloc (.cells #[.int .u32 (T % 4294967296), .int .u32 (T / 4294967296)] 60)).alloc (.cells #[.int .u32 (U % 4294967296), .int .u32 (U / 4294967296)] 60)).drew) (some ⟨N, 0, none⟩) 2 2 [T % 4294967296, T / 4294967296] ∧
    Sl (((S.alloc (.cells #[.int .u32 (T % 4294967296), .int .u32 (T / 4294967296)] 60)).alloc (.cells #[.int .u32 (U % 4294967296), .int .u32 (U / 4294967296)] 60)).drew) (some ⟨N + 1, 0, none⟩) 2 2 [U % 4294967296, U / 4294967296] ∧
    Below w.heap.size w (((S.alloc (.cells #[.int .u32 (T % 4294967296), .int .u32 (T / 4294967296)] 60)).alloc (.cells #[.int .u32 (U % 4294967296), .int .u32 (U / 4294967296)] 60)).drew) ∧
    val [T % 4294967296, T / 4294967296] = T ∧ val [U % 4294967296, U / 4294967296] = U := by
  subst hS
  obtain ⟨s1, v1⟩ := halves_sl S 60 rfl T hT0 hT1
  obtain ⟨s2, v2⟩ := halves_sl (S.alloc (.cells #[.int .u32 (T % 4294967296), .int .u32 (T / 4294967296)] 60)) 60 rfl U hU0 hU1
  rw [World.size_alloc] at s2
  have h1 := hb.alloc hb.size (.cells #[.int .u32 (T % 4294967296), .int .u32 (T / 4294967296)] 60)
  have h2 := h1.alloc h1.size (.cells #[.int .u32 (U % 4294967296), .int .u32 (U / 4294967296)] 60)
  exact ⟨(s1.mono (alloc_below _ _)).drew, s2.drew, h2.drew, v1.out, v2.out⟩

theorem set_pair {w w0 : World} {p q : Value} (hbl : Below w.heap.size w w0) (hI : IntBox w0 w.heap.size p q) (u v : Value) :
    ∃ S, S = (w0.setCell ⟨w.heap.size, 0, none⟩ u).setCell ⟨w.heap.size, 1, none⟩ v ∧ S.heap.size = w0.heap.size ∧ Below w.heap.size w S ∧ S.cell? ⟨w.heap.size, 0, none⟩ = some u ∧ S.cell? ⟨w.heap.size, 1, none⟩ = some v := by
  obtain ⟨e0, e1, _, _⟩ := hI
  have h1 : (w0.setCell ⟨w.heap.size, 0, none⟩ u).cell? ⟨w.heap.size, 1, none⟩ = some q := by
    rw [World.cell?_setCell_other _ _ _ _ (by intro e; cases e)]; exact e1
  refine ⟨_, rfl, by rw [World.size_setCell, World.size_setCell], (hbl.setCell (Nat.le_refl _) _).setCell (Nat.le_refl _) _, ?_, ?_⟩
  · rw [World.cell?_setCell_other _ _ _ _ (by intro e; cases e)]
    exact World.cell?_setCell_same _ _ _ e0
  · exact World.cell?_setCell_same _ _ _ h1

set_option maxRecDepth 20000 in
set_option maxHeartbeats 2000000 in
theorem divideSmall_any (w : World) (ax ay : Option Addr) (n m cx cy : Nat) (xs ys : List Int) (hX : Sl w ax n cx xs) (hY : Sl w ay m cy ys) (hy0 : 0 < val ys) (hn : n ≤ 2) (hm : m ≤ 2) :
    Calls Tryd.prog 73 #[.slice ax n cx, .slice ay m cy] w (DivR w (val xs) (val ys)) := by
  obtain ⟨x0, hx0⟩ : ∃ x, xs.getD 0 0 = x := ⟨_, rfl⟩
  obtain ⟨x1, hx1⟩ : ∃ x, xs.getD 1 0 = x := ⟨_, rfl⟩
  obtain ⟨y0, hy0'⟩ : ∃ x, ys.getD 0 0 = x := ⟨_, rfl⟩
  obtain ⟨y1, hy1⟩ : ∃ x, ys.getD 1 0 = x := ⟨_, rfl⟩
  have dx0 := hX.digs.getD 0
  have dx1 := hX.digs.getD 1
  have dy0 := hY.digs.getD 0
  have dy1 := hY.digs.getD 1
  have vx := val_two (show xs.length ≤ 2 by rw [hX.len]; exact hn)
  have vy := val_two (show ys.length ≤ 2 by rw [hY.len]; exact hm)
  rw [hx0] at dx0 vx
  rw [hx1] at dx1 vx
  rw [hy0'] at dy0 vy
  rw [hy1] at dy1 vy
  have ox := or_pair dx0.1 dx0.2 dx1.1 dx1.2
  have oy := or_pair dy0.1 dy0.2 dy1.1 dy1.2
  obtain ⟨X, hXe⟩ : ∃ X, X = x0 + x1 * 4294967296 := ⟨_, rfl⟩
  obtain ⟨Y, hYe⟩ : ∃ Y, Y = y0 + y1 * 4294967296 := ⟨_, rfl⟩
  rw [← hXe] at ox vx
  rw [← hYe] at oy vy
  rw [vx, vy]
  rw [vy] at hy0
  have hX0 : 0 ≤ X := by omega
  have hX1 : X < 18446744073709551616 := by omega
  have hY1 : Y < 18446744073709551616 := by omega
  have hx1m : x1 * 4294967296 < 18446744073709551616 := by omega
  have hx1n : 0 ≤ x1 * 4294967296 := by omega
  have hy1m : y1 * 4294967296 < 18446744073709551616 := by omega
  have hy1n : 0 ≤ y1 * 4294967296 := by omega
  have Hx0 := hidd hx0
  have Hx1 := hidd hx1
  have Hy0 := hidd hy0'
  have Hy1 := hidd hy1
  clear hx0 hx1 hy0' hy1 hXe hYe vx vy dx0 dx1 dy0 dy1
  obtain ⟨w0, hw0⟩ : ∃ w0, w0 = w.alloc (.cells #[.slice none 0 0, .slice none 0 0] 90) := ⟨_, rfl⟩
  have hbl : Below w.heap.size w w0 := by rw [hw0]; exact alloc_below _ _
  have hX0w := hX.mono hbl
  have hY0w := hY.mono hbl
  have hI : IntBox w0 w.heap.size (.slice none 0 0) (.slice none 0 0) := by rw [hw0]; exact IntBox.new _ _ _ _
  have hsz : w0.heap.size = w.heap.size + 1 := by rw [hw0]; simp
  have HSZ := hidd hsz
  clear hsz
  go_enter Tryd.func73, Tryd.ntmps73
  go_upto_region 1 with (fail)
  rw [← hw0]
  clear hw0
  go_wp2_with fail
  refine (word_at _ _ _ _ _ hX0w (by omega) 0 (by omega) x0 Hx0.out _ rfl).mono ?_
  rintro e w' ⟨rfl, rfl⟩
  go_wp2_with fail
  refine (word_at _ _ _ _ _ hX0w (by omega) 1 (by omega) x1 Hx1.out _ rfl).mono ?_
  rintro e w' ⟨rfl, rfl⟩
  go_wp2_with fail
  refine (word_at _ _ _ _ _ hY0w (by omega) 0 (by omega) y0 Hy0.out _ rfl).mono ?_
  rintro e w' ⟨rfl, rfl⟩
  go_wp2_with fail
  refine (word_at _ _ _ _ _ hY0w (by omega) 1 (by omega) y1 Hy1.out _ rfl).mono ?_
  rintro e w' ⟨rfl, rfl⟩
  have hq0 : 0 ≤ X / Y := Int.ediv_nonneg hX0 (by omega)
  have hq1 : X / Y < 18446744073709551616 := Int.lt_of_le_of_lt (Int.ediv_le_self _ hX0) hX1
  have hr0 : 0 ≤ X % Y := Int.emod_nonneg _ (by omega)
  have hr1 : X % Y < 18446744073709551616 := Int.lt_trans (Int.emod_lt_of_pos _ hy0) hY1
  have hYz : (Y == 0) = false := by simp; omega
  have hYn : Y ≠ 0 := by omega
  have hI2 := hI
  obtain ⟨e0, e1, e2, e3⟩ := hI
  have hlt : w.heap.size < w0.heap.size := by have := HSZ.out; omega
  have hne : ¬ w.heap.size = w0.heap.size := by omega
  have hne2 : ¬ w.heap.size = w0.heap.size + 1 := by omega
  go_wp2
  go_region
  · obtain ⟨S, hS, hsz, hbS, c0, c1⟩ := set_pair hbl hI2 (.slice (some ⟨w0.heap.size, 0, none⟩) 2 2) (.slice (some ⟨w0.heap.size + 1, 0, none⟩) 2 2)
    rw [← hS]
    obtain ⟨s1, s2, hbW, v1, v2⟩ := pairs_end hsz hbS (X / Y) (X % Y) hq0 hq1 hr0 hr1
    clear hS
    have hltS : w.heap.size < S.heap.size := by omega
    go_wp2
    refine bodyPost_ret (v := .agg #[.slice (some ⟨w0.heap.size, 0, none⟩) 2 2, .slice (some ⟨w0.heap.size + 1, 0, none⟩) 2 2]) ?_ rfl ⟨_, _, _, _, _, _, _, _, rfl, s1, s2, by omega, by omega, v1, v2, hbW⟩
    simp [results, Tryd.results73, go_sem, c0, c1, hltS]
  · obtain ⟨S, hS, hsz, hbS, c0, c1⟩ := set_pair hbl hI2 (.slice (some ⟨w0.heap.size + 1, 0, none⟩) 2 2) (.slice (some ⟨w0.heap.size, 0, none⟩) 2 2)
    rw [← hS]
    obtain ⟨s1, s2, hbW, v1, v2⟩ := pairs_end hsz hbS (X % Y) (X / Y) hr0 hr1 hq0 hq1
    clear hS
    have hltS : w.heap.size < S.heap.size := by omega
    go_wp2
    refine bodyPost_ret (v := .agg #[.slice (some ⟨w0.heap.size + 1, 0, none⟩) 2 2, .slice (some ⟨w0.heap.size, 0, none⟩) 2 2]) ?_ rfl ⟨_, _, _, _, _, _, _, _, rfl, s2, s1, by omega, by omega, v2, v1, hbW⟩
    simp [results, Tryd.results73, go_sem, c0, c1, hltS]

theorem append_mine (w : World) (ty : TypeId) (g : Nat) (ao : Option Addr) (m c : Nat) (ys : List Int) (hS : Sl w ao m c ys) (hb : m ≤ 1000000) :
    ∃ ao' c' w', (Builtin.append_ #[22, 22] ty #[.slice (some ⟨g, 0, none⟩) 0 0, .slice ao m c]).run Tryd.prog w = .ok (.slice ao' m c') w' ∧ Below w.heap.size w w' ∧ Sl w' ao' m c' ys ∧
      (0 < m → ∃ g', ao' = some ⟨g', 0, none⟩ ∧ w.heap.size ≤ g' ∧ Mine w' g' m ys) := by
  obtain ⟨i0, hi, hz0, hz1, hz2⟩ := info_parts info_word
  by_cases h0 : m = 0
  · obtain ⟨v', w', h1, h2, ao', c', rfl, h3⟩ := append_words w ty g ao m c ys hS hb
    exact ⟨ao', c', w', h1, h2, h3, fun h => absurd h0 (by omega)⟩
  · rcases hS.cells.2 with h1 | ⟨b, off, rfl, hlt, hc⟩
    · subst h1; have := hS.len; simp at this; omega
    · obtain ⟨v', w', hrun, hown, hg⟩ := run_append_arg_grows (P := Tryd.prog) w 22 ty 60 i0 (.int .u32 0) 1 4 Tryd.underlying22 hi hz0 hz1 hz2 rfl (by decide)
        ⟨g, 0, none⟩ 0 0 [] (by simp) (by simp) ⟨b, off, none⟩ m c (ys.map (Value.int .u32)) (by simp [hS.len]) (fun j u hu => by
          have hj : j < ys.length := by have := (List.getElem?_eq_some_iff.1 hu).1; simpa using this
          rw [Go.WideShapes.add_plain, hc j hj, ← hu]
          simp [hj]) (by omega) (by unfold maxLen; omega) (by omega)
      rw [Nat.zero_add, List.nil_append, ← hS.len] at hown
      have hO : Ow w' w.heap.size v' ys := ⟨hown, hS.digs⟩
      obtain ⟨ao', c', rfl, hS'⟩ := hO.sl
      rw [hS.len] at hS' hrun hO
      refine ⟨ao', c', w', hrun, ⟨hg.os, hg.tape, hg.output, hg.size, fun k hk => hg.block k hk (by simp)⟩, hS', fun _ => ?_⟩
      rcases hO.1.2 with ⟨_, h2⟩ | ⟨g', cap', cur, h2, _⟩
      · rw [hS.len] at h2; omega
      · cases h2
        have := hO.mine
        exact ⟨g', rfl, this.2.1, this.1⟩

theorem wpList_copy_arg (w : World) {ops : Array Oper} {rest : List Oper} {o : Oper} {a : Act} {Q : Exit → Act → World → Prop} (hgd : o.guard = none) (s x : Operand)
    (hop : o.op = Op.call { callee := Callee.builtin Builtin.append, args := #[s, x], argTypes := #[22, 22] }) (g : Nat) (ao : Option Addr) (m c : Nat) (ys : List Int)
    (hs : a.eval s = .slice (some ⟨g, 0, none⟩) 0 0) (hx : a.eval x = .slice ao m c) (hS : Sl w ao m c ys) (hb : m ≤ 1000000)
    (hK : ∀ ao' c' w', Below w.heap.size w w' → Sl w' ao' m c' ys → (0 < m → ∃ g', ao' = some ⟨g', 0, none⟩ ∧ w.heap.size ≤ g' ∧ Mine w' g' m ys) → wpList Tryd.prog ops Q rest (a.put o.dst (.slice ao' m c')) w') :
    wpList Tryd.prog ops Q (o :: rest) a w := by
  refine wpList_plain hgd fun K hK' => ?_
  obtain ⟨ao', c', w', hrun, h1, h2, h3⟩ := append_mine w o.type g ao m c ys hS hb
  unfold Oper.wp
  simp [execOp, hop, resolve, invoke, builtin, hs, hx, hrun, Result.andThen]
  exact hK' _ _ (hK ao' c' w' h1 h2 h3)

theorem val_set {zs : List Int} {j : Nat} {x : Int} (hj : j < zs.length) : val (zs.set j x) = val zs + pw j * (x - zs.getD j 0) := by
  have e1 := val_split_any (zs.set j x) (j + 1)
  have e2 := val_split_any zs (j + 1)
  rw [val_take_succ, val_take_set _ _ _ _ (Nat.le_refl _), getD_set _ _ _ hj, List.drop_set_of_lt (by omega)] at e1
  rw [val_take_succ] at e2
  rw [Int.mul_sub]
  omega

theorem bit_word {qs : List Int} {j : Nat} {c : Int} (hq : Digs qs) (h : val qs = 2 ^ (j + 1) * c) : qs.getD (j / 32) 0 % 2 ^ (j % 32 + 1) = 0 := by
  have e : (2 : Int) ^ (j + 1) = pw (j / 32) * 2 ^ (j % 32 + 1) := by rw [pw_two, ← Int.pow_add]; congr 1; omega
  have e32 : (4294967296 : Int) = 2 ^ (j % 32 + 1) * 2 ^ (31 - j % 32) := by rw [← Int.pow_add, show j % 32 + 1 + (31 - j % 32) = 32 by omega]; rfl
  have e1 := val_split_any qs (j / 32)
  have e2 := val_drop_any qs (j / 32)
  have h0 := val_nonneg (hq.take (j / 32))
  have h1 := val_take_lt hq (j / 32)
  have hp := pw_pos (j / 32)
  rw [h, e, Int.mul_assoc] at e1
  generalize val (qs.take (j / 32)) = T at *
  generalize val (qs.drop (j / 32)) = D at *
  generalize val (qs.drop (j / 32 + 1)) = H at *
  generalize qs.getD (j / 32) 0 = x at *
  generalize pw (j / 32) = P at *
  rw [e32] at e2
  generalize (2 : Int) ^ (j % 32 + 1) = S at *
  generalize (2 : Int) ^ (31 - j % 32) = V at *
  have hT : T = P * (S * c - D) := by rw [Int.mul_sub]; omega
  have hz : S * c - D = 0 := by
    rcases Int.lt_trichotomy (S * c - D) 0 with h2 | h2 | h2
    · have := Int.mul_le_mul_of_nonneg_left (show S * c - D ≤ -1 by omega) (Int.le_of_lt hp)
      omega
    · exact h2
    · have := Int.mul_le_mul_of_nonneg_left (show 1 ≤ S * c - D by omega) (Int.le_of_lt hp)
      omega
  have hx : x = S * (c - V * H) := by rw [Int.mul_sub, ← Int.mul_assoc]; omega
  rw [hx]
  exact Int.mul_emod_right _ _

theorem or_bit {x : Int} {r : Nat} (hr : r < 32) (hx0 : 0 ≤ x) (hx1 : x < 4294967296) (h : x % 2 ^ (r + 1) = 0) : bits .or .u32 x (2 ^ r) = x + 2 ^ r ∧ x + 2 ^ r < 4294967296 := by
  obtain ⟨h1, h2⟩ := two_le r hr
  have h3 := pow_two_succ r
  refine ⟨(or_u32 (r + 1) x (2 ^ r) hx0 hx1 (by omega) (by omega) (by omega) h).1, ?_⟩
  have e32 : (4294967296 : Int) = 2 ^ (r + 1) * 2 ^ (31 - r) := by rw [← Int.pow_add, show r + 1 + (31 - r) = 32 by omega]; rfl
  have h4 : (4294967296 - x) % 2 ^ (r + 1) = 0 := by
    rw [Int.sub_emod, h, e32, Int.mul_emod_right]; simp
  have h5 := Int.le_of_dvd (show 0 < 4294967296 - x by omega) (Int.dvd_of_emod_eq_zero h4)
  omega

theorem bits_lt {X Y : Int} {a b : Nat} (hX : IsBits X a) (hY : IsBits Y b) (h : a < b) : X < Y := by
  have hY2 : (2 : Int) ^ (b - 1) ≤ Y := by
    rcases hY with ⟨_, h0⟩ | ⟨_, h1, _⟩
    · omega
    · exact h1
  have hX2 : X < 2 ^ a := by
    rcases hX with ⟨h1, h0⟩ | ⟨_, _, h1⟩
    · subst h0; rw [h1]; decide
    · exact h1
  have h3 := two_pow_le (show a ≤ b - 1 by omega)
  omega

theorem bits_room {X Y : Int} {a b N : Nat} (hX : IsBits X a) (hY : IsBits Y b) (hY0 : 0 < Y) (h : a = b + N) : X < Y * 2 ^ (N + 1) := by
  have hX2 : X < 2 ^ a := by
    rcases hX with ⟨h1, h0⟩ | ⟨_, _, h1⟩
    · subst h0; rw [h1]; decide
    · exact h1
  rcases hY with ⟨h1, _⟩ | ⟨h0, h1, _⟩
  · omega
  · have h3 := Int.mul_le_mul_of_nonneg_right h1 (Int.le_of_lt (pow_two_pos (N + 1)))
    rw [← Int.pow_add, show b - 1 + (N + 1) = a by omega] at h3
    omega

end Go.Proofs.YtnhapjifddhdiaaDoor

namespace Go.Proofs.YtnhapjifddhdiaaDoor
open Go Go.RowKit

structure DivInv (w0 : World) (B gr gq gd n lq ld : Nat) (X Y : Int) (k : Nat) (wr : World) where
  below : Below B w0 wr
  some : ∃ rs qs ds : List Int, Mine wr gr n rs ∧ Mine wr gq lq qs ∧ Mine wr gd ld ds ∧ X = val qs * Y + val rs ∧ val rs < Y * 2 ^ k ∧ (∃ c, val qs = 2 ^ k * c) ∧ (0 < k → val ds = Y * 2 ^ (k - 1))

set_option maxRecDepth 20000 in
set_option maxHeartbeats 4000000 in
theorem divideLong_any (w : World) (ax ay : Option Addr) (n m cx cy : Nat) (xs ys : List Int) (hX : Sl w ax n cx xs) (hY : Sl w ay m cy ys) (hcx : Canon xs) (hcy : Canon ys) (hy0 : 0 < val ys) (hn : n ≤ 1000000) (hm : m ≤ 1000000) (hlong : ¬ (n ≤ 2 ∧ m ≤ 2)) :
    Calls Tryd.prog 73 #[.slice ax n cx, .slice ay m cy] w (DivR w (val xs) (val ys)) := by
  have HCX := hidd hcx
  have HCY := hidd hcy
  have HY0 := hidd hy0
  clear hcx hcy hy0
  obtain ⟨w0, hw0⟩ : ∃ w0, w0 = w.alloc (.cells #[.slice none 0 0, .slice none 0 0] 90) := ⟨_, rfl⟩
  have hbl : Below w.heap.size w w0 := by rw [hw0]; exact alloc_below _ _
  have hI : IntBox w0 w.heap.size (.slice none 0 0) (.slice none 0 0) := by rw [hw0]; exact IntBox.new _ _ _ _
  have hlt : w.heap.size < w0.heap.size := by rw [hw0]; simp
  have hI2 := hidd hI
  obtain ⟨e0, e1, e2, e3⟩ := hI
  go_enter Tryd.func73, Tryd.ntmps73
  go_upto_region 1 with (fail)
  rw [← hw0]
  clear hw0
  rcases (by omega : 2 < n ∨ (n ≤ 2 ∧ 2 < m)) with hn2 | ⟨hn2, hm2⟩
  all_goals
    go_upto_region 5 with (fail)
  all_goals
    go_wp2_with (at_builtin; refine wpList_copy_arg _ rfl _ _ rfl _ ax n cx xs rfl rfl ((hX.mono hbl).mono (alloc_below _ _)) hn ?_; intro ar cr w1 hb1 hS1 hM1)
  all_goals
    have hbw1 : Below w0.heap.size w0 w1 := (alloc_below w0 _).trans (hb1.mono (by simp))
    clear hb1
    refine (rBits_any _ _ _ _ _ _ ((hX.mono hbl).mono hbw1) HCX.out (by omega)).mono ?_
    rintro e w2 ⟨b1, rfl, hB1, hb1n, hb2⟩
    have hbw2 := hbw1.trans (hb2.mono hbw1.size)
    go_wp2_with fail
    refine (rBits_any _ _ _ _ _ _ ((hY.mono hbl).mono hbw2) HCY.out (by omega)).mono ?_
    rintro e w3 ⟨b2, rfl, hB2, hb2m, hb3⟩
    have hbw3 := hbw2.trans (hb3.mono hbw2.size)
    have hS3 := (hS1.mono hb2).mono hb3
    have hM3 : 0 < n → ∃ g', ar = some ⟨g', 0, none⟩ ∧ w0.heap.size ≤ g' ∧ g' < w3.heap.size ∧ Mine w3 g' n xs := fun h => by
      obtain ⟨g', h1, h2, h3⟩ := hM1 h
      have h4 := (h3.mono hb2 h3.lt)
      exact ⟨g', h1, by simp at h2; omega, (h4.mono hb3 h4.lt).lt, h4.mono hb3 h4.lt⟩
    have f0 := (hbw3.cell (p := ⟨w.heap.size, 0, none⟩) hlt).trans e0
    have f1 := (hbw3.cell (p := ⟨w.heap.size, 1, none⟩) hlt).trans e1
    have f2 := (hbw3.frozen (p := ⟨w.heap.size, 0, none⟩) hlt).trans e2
    have f3 := (hbw3.frozen (p := ⟨w.heap.size, 1, none⟩) hlt).trans e3
    clear hM1 hS1 hbw1 hbw2 hb2 hb3 e0 e1 e2 e3
    have hbw : Below w.heap.size w w3 := hbl.trans (hbw3.mono hbl.size)
    by_cases hlt2 : b1 < b2
    · have HXY := hidd (bits_lt hB1 hB2 hlt2)
      have hX0 := val_nonneg hX.digs
      go_wp2
      obtain ⟨S, hS, hsz, hbS, c0, c1⟩ := set_pair hbw ⟨f0, f1, f2, f3⟩ (.slice none 0 0) (.slice ar n cr)
      rw [← hS]
      have hSS : Sl S ar n cr xs := by rw [hS]; exact (hS3.setOther f0 (by intro q h; cases h) _).setOther (by rw [World.cell?_setCell_other _ _ _ _ (by intro e; cases e)]; exact f1) (by intro q h; cases h) _
      clear hS
      refine bodyPost_ret (v := .agg #[.slice none 0 0, .slice ar n cr]) ?_ rfl ⟨_, _, _, _, _, _, _, _, rfl, Sl.nil _, hSS, by omega, by omega, ?_, ?_, hbS⟩
      · simp [results, Tryd.results73, go_sem, c0, c1]
      · rw [Int.ediv_eq_zero_of_lt hX0 HXY.out]; rfl
      · rw [Int.emod_eq_of_lt hX0 HXY.out]
    · obtain ⟨N, hN⟩ : ∃ N, b1 = b2 + N := ⟨b1 - b2, by omega⟩
      have HR := hidd (bits_room hB1 hB2 HY0.out hN)
      have hb20 : 0 < b2 := by
        rcases hB2 with ⟨h1, _⟩ | ⟨h1, _⟩
        · have := HY0.out; omega
        · exact h1
      obtain ⟨gr, rfl, hgr, hgr2, hMr⟩ := hM3 (by omega)
      have hNi : (b1 : Int) - (b2 : Int) = (N : Int) := by omega
      have hNb : N ≤ 32000000 := by omega
      have hcr := hS3.cap
      clear hN hlt2 hb1n hb2m hB1 hB2
      go_wp2_with (at_make; refine wpList_make_words _ rfl _ _ 22 rfl 60 Tryd.underlying22 (by kernel_rfl) _ _ _ _ rfl rfl (N / 32 + 1) (by omega) (by omega) (by omega) ?_; intro w4 hrow hb4 hs4)
      have hbw4 : Below w0.heap.size w0 w4 := hbw3.trans (hb4.mono hbw3.size)
      refine (left_any _ _ _ _ _ ((hY.mono hbl).mono hbw4) (by omega) N (by omega)).mono ?_
      rintro e w5 ⟨gd, ld, cd, ds0, rfl, hgd, hMd, hcd, hld, hvd, hb5⟩
      have hbw5 := hbw4.trans (hb5.mono hbw4.size)
      have hq5 : Mine w5 w3.heap.size (N / 32 + 1) (List.replicate (N / 32 + 1) 0) := by
        have := hrow.mine
        rw [List.length_replicate] at this
        exact this.mono hb5 this.lt
      have hr5 := (hMr.mono hb4 hMr.lt).mono hb5 (hMr.mono hb4 hMr.lt).lt
      obtain ⟨gq, hgq⟩ : ∃ gq, gq = w3.heap.size := ⟨_, rfl⟩
      rw [← hgq] at hq5 hgr2 hs4
      rw [← hgq]
      have hgq0 : w0.heap.size ≤ gq := by rw [hgq]; exact hbw3.size
      have hne1 : gr ≠ gq := by omega
      have hne2 : gq ≠ gd := by omega
      have hne3 : gr ≠ gd := by omega
      have hgd0 : w0.heap.size ≤ gd := by omega
      have hld2 : ld ≤ 3000000 := by omega
      have HVD := hidd hvd
      clear hvd hld hrow hb4 hb5 hbw3 hbw4 hMr hM3 hS3 hgq hs4 hgd f0 f1 f2 f3 hbw
      go_wp2
      go_loopw [11] (fun vi wr => ∃ k : Nat, k ≤ N + 1 ∧ vi = .int .i64 ((k : Int) - 1) ∧ DivInv w0 w0.heap.size gr gq gd n (N / 32 + 1) ld (val xs) (val ys) k wr) (fun vi _ => (intOf vi + 1).toNat)
      case atStart =>
        refine ⟨N + 1, Nat.le_refl _, by go_num, hbw5, xs, _, ds0, hr5, hq5, hMd, ?_, HR.out, ⟨0, ?_⟩, fun _ => HVD.out⟩
        · rw [val_replicate, Int.zero_mul, Int.zero_add]
        · rw [val_replicate, Int.mul_zero]
      case round =>
        obtain ⟨k, hk, rfl, ⟨hb, rs, qs, dd, hr, hq, hd, hXe, hrl, ⟨c, hqc⟩, hdv⟩⟩ := hrel
        have HXE := hidd hXe
        have HRL := hidd hrl
        have HQC := hidd hqc
        have HDV := hidd hdv
        clear hXe hrl hqc hdv hr5 hq5 hMd hbw5
        by_cases hk0 : 0 < k
        · obtain ⟨j, rfl⟩ : ∃ j, k = j + 1 := ⟨k - 1, by omega⟩
          have hj1 : ((j + 1 : Nat) : Int) - 1 = (j : Int) := by omega
          have HDJ : Hid (val dd = val ys * 2 ^ j) := HDV.out (by omega)
          clear HDV
          go_wp2_with fail
          refine (reaches_any _ _ _ _ _ _ _ rs dd (hr.sl hcr) (hd.sl hcd) (by omega) (by omega)).mono ?_
          rintro e w' ⟨rfl, rfl⟩
          by_cases hge : val dd ≤ val rs
          · have hged : decide (val dd ≤ val rs) = true := decide_eq_true hge
            rw [hged]
            have HGE := hidd hge
            clear hge hged
            go_wp2_with fail
            refine (take_any _ gr n cr rs hr hcr (by omega) (some ⟨gd, 0, none⟩) ld cd dd (hd.sl hcd) (by omega) (fun b' o h => by cases h; exact fun h => hne3 h.symm) HGE.out).mono ?_
            rintro e w6 ⟨rs', rfl, hr6, hv6, hg6, hs6⟩
            have hq6 := hq.other hg6 (fun h => hne1 h.symm)
            have hd6 := hd.other hg6 (fun h => hne3 h.symm)
            have hb6 : Below w0.heap.size w0 w6 := hb.grown hg6 hb.size (fun j hj => by cases hj; exact hgr)
            have HV6 := hidd hv6
            clear hv6 hr hq hd hb hg6 hs6
            have hjq : j / 32 < N / 32 + 1 := by omega
            obtain ⟨x, hx⟩ : ∃ x, qs.getD (j / 32) 0 = x := ⟨_, rfl⟩
            have hxd := hq6.digs.getD (j / 32)
            have hcell := hq6.cell hjq
            rw [hx] at hxd hcell
            have hfr := hq6.frozen (j / 32)
            have hbit := bit_word hq6.digs HQC.out
            rw [hx] at hbit
            obtain ⟨hor, hxb⟩ := or_bit (Nat.mod_lt j (by decide)) hxd.1 hxd.2 hbit
            obtain ⟨u, hu⟩ : ∃ u, u = x + 2 ^ (j % 32) := ⟨_, rfl⟩
            rw [← hu] at hor hxb
            have hp2 := two_le (j % 32) (Nat.mod_lt j (by decide))
            have Hx := hidd hx
            have Hu := hidd hu
            have Hbit := hidd hbit
            have hj32 : j % 32 < 32 := Nat.mod_lt j (by decide)
            have hu0 : 0 ≤ u := by omega
            clear hx hu hbit
            go_wp2_with fail
            have hg7 := grownBy_set w6 gq (j / 32) (.int .u32 u)
            have hq7 := hq6.set hjq hu0 hxb
            have hd7 := hd6.other hg7 (fun h => hne2 h.symm)
            have hr7 := hr6.other hg7 hne1
            have hb7 : Below w0.heap.size w0 (w6.setCell ⟨gq, j / 32, none⟩ (.int .u32 u)) := hb6.setCell hgq0 _
            generalize w6.setCell ⟨gq, j / 32, none⟩ (.int .u32 u) = w7 at *
            refine (half_any _ gd ld cd dd hd7 hcd (by omega)).mono ?_
            rintro e w8 ⟨dd', rfl, hd8, hv8, hg8, hs8⟩
            have hb8 : Below w0.heap.size w0 w8 := hb7.grown hg8 hb7.size (fun j hj => by cases hj; exact hgd0)
            have hq8 := hq7.other hg8 hne2
            have hr8 := hr7.other hg8 hne3
            have HV8 := hidd hv8
            clear hv8 hq7 hd7 hr7 hb7 hg7 hg8 hs8 hq6 hd6 hb6 hr6 hor hcell hfr
            go_wp2
            go_roundw
            case rel =>
              refine ⟨j, by omega, by go_num, hb8, rs', _, dd', hr8, hq8, hd8, ?_, ?_, ?_, ?_⟩
              · have h1 := HXE.out
                rw [val_set (by have := hq8.len; rw [List.length_set] at this; omega), Hx.out, Hu.out, show x + 2 ^ (j % 32) - x = 2 ^ (j % 32) by omega, pw_two, ← Int.pow_add, show 32 * (j / 32) + j % 32 = j by omega, HV6.out, HDJ.out, Int.add_mul, Int.mul_comm (val ys)]
                omega
              · have h1 := HRL.out
                rw [HV6.out, HDJ.out]
                rw [Int.pow_succ, ← Int.mul_assoc] at h1
                omega
              · refine ⟨2 * c + 1, ?_⟩
                rw [val_set (by have := hq8.len; rw [List.length_set] at this; omega), Hx.out, Hu.out, show x + 2 ^ (j % 32) - x = 2 ^ (j % 32) by omega, pw_two, ← Int.pow_add, show 32 * (j / 32) + j % 32 = j by omega, HQC.out, Int.pow_succ, Int.mul_add, Int.mul_one, Int.mul_assoc]
              · intro h
                rw [HV8.out, HDJ.out, show j = (j - 1) + 1 by omega, Int.pow_succ, ← Int.mul_assoc, Int.mul_ediv_cancel _ (by decide)]
                rfl
            case measure => simp [intOf]
          · have hged : decide (val dd ≤ val rs) = false := decide_eq_false hge
            rw [hged]
            have HGE := hidd hge
            clear hge hged
            go_wp2_with fail
            refine (half_any _ gd ld cd dd hd hcd (by omega)).mono ?_
            rintro e w8 ⟨dd', rfl, hd8, hv8, hg8, hs8⟩
            have hb8 : Below w0.heap.size w0 w8 := hb.grown hg8 hb.size (fun j hj => by cases hj; exact hgd0)
            have hq8 := hq.other hg8 hne2
            have hr8 := hr.other hg8 hne3
            have HV8 := hidd hv8
            clear hv8 hq hd hr hb hg8 hs8
            go_wp2
            go_roundw
            case rel =>
              refine ⟨j, by omega, by go_num, hb8, rs, qs, dd', hr8, hq8, hd8, HXE.out, ?_, ?_, ?_⟩
              · have h1 := HGE.out
                rw [HDJ.out] at h1
                omega
              · refine ⟨2 * c, ?_⟩
                rw [HQC.out, Int.pow_succ, Int.mul_assoc]
              · intro h
                rw [HV8.out, HDJ.out, show j = (j - 1) + 1 by omega, Int.pow_succ, ← Int.mul_assoc, Int.mul_ediv_cancel _ (by decide)]
                rfl
            case measure => simp [intOf]
        · obtain rfl : k = 0 := by omega
          have hbw : Below w.heap.size w wr := hbl.trans (hb.mono hbl.size)
          obtain ⟨f0, f1, f2, f3⟩ := hI2.out.mono hb hlt
          have hR0 := val_nonneg hr.digs
          have hR1 := HRL.out
          rw [Int.pow_zero, Int.mul_one] at hR1
          have hq1 := ediv_unique (a := val xs) (P := val ys) (V := val qs) (r := val rs) (by have h := HXE.out; rw [Int.mul_comm (val qs)] at h; exact h) hR0 hR1 HY0.out
          have hr1 : val rs = val xs % val ys := by
            rw [Int.emod_def, ← hq1]
            have h := HXE.out
            rw [Int.mul_comm (val qs)] at h
            omega
          have HQ := hidd hq1
          have HM := hidd hr1
          clear hR0 hR1 hq1 hr1
          have hsq := hq.sl (Nat.le_refl _)
          have hsr := hr.sl hcr
          clear hq hr hd
          go_wp2
          obtain ⟨S, hS, hsz, hbS, c0, c1⟩ := set_pair hbw ⟨f0, f1, f2, f3⟩ (.slice (some ⟨gq, 0, none⟩) (N / 32 + 1) (N / 32 + 1)) (.slice (some ⟨gr, 0, none⟩) n cr)
          rw [← hS]
          have hSq : Sl S (some ⟨gq, 0, none⟩) (N / 32 + 1) (N / 32 + 1) qs := by rw [hS]; exact (hsq.setOther f0 (by intro q h; cases h) _).setOther (by rw [World.cell?_setCell_other _ _ _ _ (by intro e; cases e)]; exact f1) (by intro q h; cases h) _
          have hSr : Sl S (some ⟨gr, 0, none⟩) n cr rs := by rw [hS]; exact (hsr.setOther f0 (by intro q h; cases h) _).setOther (by rw [World.cell?_setCell_other _ _ _ _ (by intro e; cases e)]; exact f1) (by intro q h; cases h) _
          clear hS
          refine bodyPost_ret (v := .agg #[.slice (some ⟨gq, 0, none⟩) (N / 32 + 1) (N / 32 + 1), .slice (some ⟨gr, 0, none⟩) n cr]) ?_ rfl ⟨_, _, _, _, _, _, _, _, rfl, hSq, hSr, by omega, by omega, HQ.out, HM.out, hbS⟩
          simp [results, Tryd.results73, go_sem, c0, c1]

theorem divide_any (w : World) (ax ay : Option Addr) (n m cx cy : Nat) (xs ys : List Int) (hX : Sl w ax n cx xs) (hY : Sl w ay m cy ys) (hcx : Canon xs) (hcy : Canon ys) (hy0 : 0 < val ys) (hn : n ≤ 1000000) (hm : m ≤ 1000000) :
    Calls Tryd.prog 73 #[.slice ax n cx, .slice ay m cy] w (DivR w (val xs) (val ys)) := by
  by_cases h : n ≤ 2 ∧ m ≤ 2
  · exact divideSmall_any w ax ay n m cx cy xs ys hX hY hy0 h.1 h.2
  · exact divideLong_any w ax ay n m cx cy xs ys hX hY hcx hcy hy0 hn hm h

end Go.Proofs.YtnhapjifddhdiaaDoor
