/- Steps of a region that draws its order, with guards: what an operand holds; one obligation for each kind of operation. -/
import Derived.Test.YtjpbmghdamcdcaaFa
namespace Go.Proofs.Ytjpbmghdamcdcaa
open Go Go.RowKit

/-- What may be known of a value: it stays so in later worlds, and behind a store into a box. -/
structure Fc where
  P : Value → World → Prop
  mono : ∀ {v : Value} {w w' : World}, P v w → Below w.heap.size w w' → P v w'
  put : ∀ {v : Value} {w : World} {b : Nat} {y : Int}, P v w → BoxNum w b y → ∀ (n' : Bool) (a' : Option Addr) (k' c' : Nat), P v (putBox w b n' a' k' c')

/-- A number. -/
def Fc.num (z : Int) : Fc := ⟨fun v w => Num w v z, fun h hb => h.mono hb, fun h hb _ _ _ _ => h.putBox hb _ _ _ _⟩
/-- A property of the value alone. -/
def Fc.pre (P : Value → Prop) : Fc := ⟨fun v _ => P v, fun h _ => h, fun h _ _ _ _ _ => h⟩
/-- The value itself. -/
def Fc.is (u : Value) : Fc := Fc.pre fun v => v = u
def Fc.any : Fc := Fc.pre fun _ => True
/-- Two numbers and no error. -/
def Fc.tup (z z' : Int) : Fc := ⟨fun v w => ∃ v1 v2, v = .tuple #[v1, v2, .int .i64 0] ∧ Num w v1 z ∧ Num w v2 z',
  fun ⟨v1, v2, e, h1, h2⟩ hb => ⟨v1, v2, e, h1.mono hb, h2.mono hb⟩, fun ⟨v1, v2, e, h1, h2⟩ hb _ _ _ _ => ⟨v1, v2, e, h1.putBox hb _ _ _ _, h2.putBox hb _ _ _ _⟩⟩
/-- A number and no error. -/
def Fc.tup1 (z : Int) : Fc := ⟨fun v w => ∃ v1, v = .tuple #[v1, .int .i64 0] ∧ Num w v1 z, fun ⟨v1, e, h1⟩ hb => ⟨v1, e, h1.mono hb⟩, fun ⟨v1, e, h1⟩ hb _ _ _ _ => ⟨v1, e, h1.putBox hb _ _ _ _⟩⟩
/-- A slice of these words. -/
def Fc.sl (m : Nat) (ys : List Int) : Fc := ⟨fun v w => ∃ ao c, v = .slice ao m c ∧ Sl w ao m c ys, fun ⟨ao, c, e, h⟩ hb => ⟨ao, c, e, h.mono hb⟩, fun ⟨ao, c, e, h⟩ hb n' a' k' c' => by
  obtain ⟨p, q, r, t, hI, _⟩ := hb
  exact ⟨ao, c, e, h.putBox hI n' a' k' c'⟩⟩

def plan (fs : List Fc) (old : List (Nat × Nat × Int × Int)) (new : List (Nat × Nat × Int)) : Plan := ⟨fun j v w => ((fs[j]?).getD Fc.any).P v w, old, new⟩

theorem plan_ok {fs : List Fc} {old : List (Nat × Nat × Int × Int)} {new : List (Nat × Nat × Int)} {B B0 : Nat} (h1 : ∀ o ∈ old, B ≤ o.1 ∧ o.1 < B0) (h2 : ∀ o ∈ old, ∀ q ∈ old, o.2.1 ≠ q.2.1 → o.1 ≠ q.1) (h3 : ∀ n ∈ new, ∀ m ∈ new, n.1 = m.1 → n = m) (h4 : B ≤ B0) : (plan fs old new).Ok B B0 :=
  ⟨fun j _ _ _ h hb => ((fs[j]?).getD Fc.any).mono h hb, fun j _ _ _ _ n' a' k' c' h hb => ((fs[j]?).getD Fc.any).put h hb n' a' k' c', h1, h2, h3, h4⟩

theorem plan_start {fs : List Fc} {old : List (Nat × Nat × Int × Int)} {new : List (Nat × Nat × Int)} {B : Nat} {w w1 : World} (h : ∀ o ∈ old, BoxNum w1 o.1 o.2.2.1) (hb : Below B w w1) : (plan fs old new).G B w1.heap.size w (fun _ => false) (fun _ => undef) w1.drew :=
  ⟨hb.drew, Nat.le_refl _, fun _ h => (by cases h), fun o ho => (by
    have h1 := h o ho
    have h2 : BoxNum w1.drew o.1 o.2.2.1 := h1.mono (Below.refl _ _).drew
    simpa using h2), fun _ _ h => (by cases h), fun _ _ _ _ _ h => (by cases h)⟩

section
variable {os : List Oper} {Q : Exit → Act → World → Prop} {a : Act} {p : Plan} {B B0 : Nat} {w0 : World}
variable {i s : Nat} {d : Option Tmp} {ty : TypeId} {ps : String} {af : Array Edge} {gd : Option (Nat × Bool)}

/-- What a plan without stores must meet. -/
structure PMono (p : Plan) (B B0 : Nat) : Prop where
  mono : ∀ j v w w', p.C j v w → Below w.heap.size w w' → p.C j v w'
  le : B ≤ B0

theorem PMono.of {p : Plan} {B B0 : Nat} (h : p.Ok B B0) : PMono p B B0 := ⟨h.mono, h.le⟩

theorem Plan.G.plainM {p : Plan} {B B0 : Nat} {w0 w w' : World} {L : Nat → Bool} {vs : Nat → Value} (h : p.G B B0 w0 L vs w) (hp : PMono p B B0) {i : Nat} {v : Value} (hL : L i = false) (hb : Below w.heap.size w w') (hC : p.C i v w')
    (h1 : ∀ o ∈ p.old, o.2.1 ≠ i) (h2 : ∀ n ∈ p.new, n.1 ≠ i ∧ n.2.1 ≠ i) : p.G B B0 w0 (up L i true) (up vs i v) w' where
  below := h.below.trans (hb.mono (Nat.le_trans hp.le h.size))
  size := Nat.le_trans h.size hb.size
  val := fun j hj => by
    by_cases hji : j = i
    · subst hji; rw [up_same]; exact hC
    · rw [up_ne _ _ hji] at hj ⊢; exact hp.mono _ _ _ _ (h.val j hj) hb
  old := fun o ho => by rw [up_ne _ _ (h1 o ho)]; exact (h.old o ho).mono hb
  new := fun n hn hj => by
    rw [up_ne _ _ (h2 n hn).1] at hj ⊢
    rw [up_ne _ _ (h2 n hn).2]
    obtain ⟨b, e1, e2, e3⟩ := h.new n hn hj
    exact ⟨b, e1, e2, e3.mono hb⟩
  apart := fun n hn m hm hne hj hk => by
    rw [up_ne _ _ (h2 n hn).1] at hj ⊢
    rw [up_ne _ _ (h2 m hm).1] at hk ⊢
    exact h.apart n hn m hm hne hj hk

/-- What may be known of a value where nothing is stored. -/
structure Fm where
  P : Value → World → Prop
  mono : ∀ {v : Value} {w w' : World}, P v w → Below w.heap.size w w' → P v w'
def Fm.of (f : Fc) : Fm := ⟨f.P, f.mono⟩
def Fm.any : Fm := ⟨fun _ _ => True, fun h _ => h⟩
def planM (fs : List Fm) : Plan := ⟨fun j v w => ((fs[j]?).getD Fm.any).P v w, [], []⟩
theorem planM_ok (fs : List Fm) (B : Nat) : PMono (planM fs) B B := ⟨fun j _ _ _ h hb => ((fs[j]?).getD Fm.any).mono h hb, Nat.le_refl _⟩
theorem planM_start (fs : List Fm) (w : World) : (planM fs).G w.heap.size w.heap.size w (fun _ => false) (fun _ => undef) w.drew :=
  ⟨(Below.refl _ _).drew, Nat.le_refl _, fun _ h => (by cases h), fun o ho => (by cases ho), fun n hn => (by cases hn), fun n hn => (by cases hn)⟩

/-- What operand x holds when an operation that waits for 'af' is on. -/
def Src (os : List Oper) (a : Act) (p : Plan) (B B0 : Nat) (w0 : World) (af : Array Edge) (x : Operand) (F : Value → World → Prop) : Prop :=
  ∀ L vs w, p.G B B0 w0 L vs w → (∀ e ∈ af, Region.binds .any e = true → L e.on = true) → F ((lay os.toArray L vs os.toArray.size a).eval x) w

def depA (af : Array Edge) (j : Nat) : Bool := af.toList.any fun e => Region.binds .any e && e.on == j

theorem depA_of {j : Nat} {L : Nat → Bool} (h : depA af j = true) (hd : ∀ e ∈ af, Region.binds .any e = true → L e.on = true) : L j = true := by
  obtain ⟨e, he, h1⟩ := List.any_eq_true.1 h
  simp only [Bool.and_eq_true, beq_iff_eq] at h1
  rw [← h1.2]
  exact hd e (by simpa using he) h1.1

theorem src_in (j : Nat) {F : Value → World → Prop} (ha : apartB (os.map (·.dst)) = true) (hj : (os.map (·.dst))[j]? = some (some s)) (hs : s < a.tmps.size) (hdep : depA af j = true) (hF : ∀ v w, p.C j v w → F v w) : Src os a p B B0 w0 af (.tmp s) F := by
  intro L vs w hG hd
  have hLj := depA_of hdep hd
  rw [lay_in ha hLj hj hs]
  exact hF _ _ (hG.val j hLj)

theorem src_out {v : Value} {F : Value → World → Prop} (ho : (os.map (·.dst)).contains (some s) = false) (hx : a.eval (.tmp s) = v) (hF : ∀ w, Below B w0 w → F v w) : Src os a p B B0 w0 af (.tmp s) F := by
  intro L vs w hG hd
  rw [(lay_out ho _).trans hx]
  exact hF _ hG.below

theorem src_const {v : Value} {F : Value → World → Prop} (hF : ∀ w, F v w) : Src os a p B B0 w0 af (.const v) F := fun _ _ _ _ _ => hF _

/-- The guard lets the operation run. -/
def Gd (os : List Oper) (a : Act) (p : Plan) (B B0 : Nat) (w0 : World) (af : Array Edge) : Option (Nat × Bool) → Prop
  | none => True
  | some (j, b) => ∀ L vs w, p.G B B0 w0 L vs w → (∀ e ∈ af, Region.binds .any e = true → L e.on = true) → yielded os.toArray (lay os.toArray L vs os.toArray.size a).tmps j = some b

theorem gd_some {j : Nat} {b : Bool} (ha : apartB (os.map (·.dst)) = true) (hj : (os.map (·.dst))[j]? = some (some s)) (hs : s < a.tmps.size) (hdep : depA af j = true) (hC : ∀ v w, p.C j v w → v = .bool b) : Gd os a p B B0 w0 af (some (j, b)) := by
  intro L vs w hG hd
  have hLj := depA_of hdep hd
  have hv := hC _ _ (hG.val j hLj)
  have he := lay_in (vs := vs) ha hLj hj hs
  rw [hv] at he
  have hsz : s < (lay os.toArray L vs os.toArray.size a).tmps.size := by rw [lay_size]; exact hs
  have ht : (lay os.toArray L vs os.toArray.size a).tmps[s]? = some (.bool b) := by
    have h2 : (lay os.toArray L vs os.toArray.size a).eval (.tmp s) = ((lay os.toArray L vs os.toArray.size a).tmps[s]?).getD undef := by simp [Act.eval]
    rw [Array.getElem?_eq_getElem hsz] at h2 ⊢
    rw [he] at h2
    exact congrArg some h2.symm
  have hdst : (os.toArray[j]?).bind (·.dst) = some s := by
    simp at hj ⊢
    cases ho : os[j]? with
    | none => simp [ho] at hj
    | some o => simp [ho] at hj ⊢; exact hj
  unfold yielded
  rw [hdst]
  simp only [Option.bind_some, ht]

theorem stg_run {o : Oper} (hp : PMono p B B0) (hF : p.Free i) (hg : Gd os a p B B0 w0 o.after o.guard) (hr : ∀ L vs w, p.G B B0 w0 L vs w → (∀ e ∈ o.after, Region.binds .any e = true → L e.on = true) →
      ∃ v w', (execOp (lay os.toArray L vs os.toArray.size a).eval o).run Try.prog w = .ok (.value v) w' ∧ Below w.heap.size w w' ∧ p.C i v w') : Step os Q a p B B0 w0 i o := by
  intro hio L vs w hG hL hd hc
  refine wpOp_step hio fun K' hK => ?_
  obtain ⟨v, w', hv, hb, hCv⟩ := hr L vs w hG hd
  have hwn : Region.wanted o (yielded os.toArray (lay os.toArray L vs os.toArray.size a).tmps) = true := by
    unfold Region.wanted
    cases hgd : o.guard with
    | none => rfl
    | some jb =>
      obtain ⟨j, b⟩ := jb
      rw [hgd] at hg
      have := hg L vs w hG hd
      show (yielded os.toArray (lay os.toArray L vs os.toArray.size a).tmps j == some b) = true
      rw [this]
      cases b <;> rfl
  rw [if_pos hwn]
  unfold Oper.wp
  rw [hv]
  exact hK _ _ ⟨_, rfl, hG.plainM hp hL hb hCv hF.1 hF.2⟩

theorem stg_val {o : Oper} (hp : PMono p B B0) (hF : p.Free i) (hg : Gd os a p B B0 w0 o.after o.guard) (hr : ∀ L vs w, p.G B B0 w0 L vs w → (∀ e ∈ o.after, Region.binds .any e = true → L e.on = true) →
      ∃ v, (execOp (lay os.toArray L vs os.toArray.size a).eval o).run Try.prog w = .ok (.value v) w ∧ p.C i v w) : Step os Q a p B B0 w0 i o :=
  stg_run hp hF hg fun L vs w hG hd => by
    obtain ⟨v, h1, h2⟩ := hr L vs w hG hd
    exact ⟨v, w, h1, Below.refl _ _, h2⟩

theorem stg_call {f : FuncId} {xs : Array Operand} {ts : Array TypeId} (hp : PMono p B B0) (hF : p.Free i) (hg : Gd os a p B B0 w0 af gd) (hen : ∀ args w, (callFunc f args).run Try.prog w = .ok (.enter f args) w)
    (hr : ∀ L vs w, p.G B B0 w0 L vs w → (∀ e ∈ af, Region.binds .any e = true → L e.on = true) → ∃ args, xs.map (lay os.toArray L vs os.toArray.size a).eval = args ∧
      Calls Try.prog f args w fun e w' => ∃ v', e = .returned v' ∧ Below w.heap.size w w' ∧ p.C i v' w') :
    Step os Q a p B B0 w0 i { dst := d, op := .call { callee := .value (.func f), args := xs, argTypes := ts }, type := ty, pos := ps, after := af, guard := gd } := by
  intro hio L vs w hG hL hd hc
  refine wpOp_step hio fun K' hK => ?_
  obtain ⟨args, hx, hC⟩ := hr L vs w hG hd
  have hwn : Region.wanted ({ dst := d, op := .call { callee := .value (.func f), args := xs, argTypes := ts }, type := ty, pos := ps, after := af, guard := gd } : Oper) (yielded os.toArray (lay os.toArray L vs os.toArray.size a).tmps) = true := by
    unfold Region.wanted
    cases gd with
    | none => rfl
    | some jb =>
      obtain ⟨j, b⟩ := jb
      have := hg L vs w hG hd
      show (yielded os.toArray (lay os.toArray L vs os.toArray.size a).tmps j == some b) = true
      rw [this]
      cases b <;> rfl
  rw [if_pos hwn]
  have e : (execOp (lay os.toArray L vs os.toArray.size a).eval ({ dst := d, op := .call { callee := .value (.func f), args := xs, argTypes := ts }, type := ty, pos := ps, after := af, guard := gd } : Oper)).run Try.prog w = (.ok (.enter f args) w) := by
    have hf : (lay os.toArray L vs os.toArray.size a).eval (.func f) = .func (.func f) #[] #[] := rfl
    generalize (lay os.toArray L vs os.toArray.size a).eval = ρ at hx hf
    simp [execOp, go_sem, hx, hf, hen]
  unfold Oper.wp
  rw [e]
  refine hC.mono ?_
  rintro e' w' ⟨v', rfl, hb, h⟩
  exact hK _ _ ⟨_, rfl, hG.plainM hp hL hb h hF.1 hF.2⟩

/-- A box of an integer that lay there before the region, loaded. -/
theorem g_load {b : Nat} {z : Int} {x : Operand} (hp : PMono p B B0) (hF : p.Free i) (hg : Gd os a p B B0 w0 af gd) (hx : Src os a p B B0 w0 af x fun v w => v = .pointer (some ⟨b, 0, none⟩) ∧ BoxNum w b z)
    (hC : ∀ v w, Num w v z → p.C i v w) : Step os Q a p B B0 w0 i { dst := d, op := .load 27 x, type := ty, pos := ps, after := af, guard := gd } := by
  refine stg_val hp hF hg fun L vs w hG hd => ?_
  obtain ⟨e, n, ao, kk, c, ⟨c0, c1, _, _⟩, hN⟩ := hx L vs w hG hd
  refine ⟨_, ?_, hC _ _ hN⟩
  generalize (lay os.toArray L vs os.toArray.size a).eval = ρ at e
  simp [execOp, go_sem, e, c0, c1]

theorem g_move {x : Operand} (hp : PMono p B B0) (hF : p.Free i) (hg : Gd os a p B B0 w0 af gd) (hx : Src os a p B B0 w0 af x (p.C i)) : Step os Q a p B B0 w0 i { dst := d, op := .move x, type := ty, pos := ps, after := af, guard := gd } := by
  refine stg_val hp hF hg fun L vs w hG hd => ⟨_, ?_, hx L vs w hG hd⟩
  simp [execOp, go_sem]

theorem g_assign {x : Operand} (hp : PMono p B B0) (hF : p.Free i) (hg : Gd os a p B B0 w0 af gd) (hx : Src os a p B B0 w0 af x (p.C i)) : Step os Q a p B B0 w0 i { dst := d, op := .assign x, type := ty, pos := ps, after := af, guard := gd } := by
  refine stg_val hp hF hg fun L vs w hG hd => ⟨_, ?_, hx L vs w hG hd⟩
  simp [execOp, go_sem]

theorem g_not {x : Operand} {b : Bool} (hp : PMono p B B0) (hF : p.Free i) (hg : Gd os a p B B0 w0 af gd) (hx : Src os a p B B0 w0 af x fun v _ => v = .bool b) (hC : ∀ w, p.C i (.bool (!b)) w) : Step os Q a p B B0 w0 i { dst := d, op := .unOp .not 4 x, type := ty, pos := ps, after := af, guard := gd } := by
  refine stg_val hp hF hg fun L vs w hG hd => ?_
  have e := hx L vs w hG hd
  refine ⟨_, ?_, hC w⟩
  generalize (lay os.toArray L vs os.toArray.size a).eval = ρ at e
  simp [execOp, go_sem, e]

/-- The zero value of an integer. -/
theorem g_zero (hp : PMono p B B0) (hF : p.Free i) (hg : Gd os a p B B0 w0 af gd) (hC : ∀ w, p.C i (.agg #[.bool false, .slice none 0 0]) w) : Step os Q a p B B0 w0 i { dst := d, op := .build 27 #[], type := ty, pos := ps, after := af, guard := gd } := by
  refine stg_val hp hF hg fun L vs w hG hd => ⟨_, ?_, hC w⟩
  generalize (lay os.toArray L vs os.toArray.size a).eval = ρ
  simp [execOp, go_sem]

/-- '||' behind false: the right side's value. -/
theorem g_pickF {x y z : Operand} (hp : PMono p B B0) (hF : p.Free i) (hg : Gd os a p B B0 w0 af gd) (hx : Src os a p B B0 w0 af x fun v _ => v = .bool false) (hy : Src os a p B B0 w0 af z (p.C i)) : Step os Q a p B B0 w0 i { dst := d, op := .pick x y z, type := ty, pos := ps, after := af, guard := gd } := by
  refine stg_val hp hF hg fun L vs w hG hd => ?_
  have e := hx L vs w hG hd
  refine ⟨_, ?_, hy L vs w hG hd⟩
  generalize (lay os.toArray L vs os.toArray.size a).eval = ρ at e
  simp [execOp, go_sem, e]

/-- '&&' behind true: the right side's value. -/
theorem g_pick {x y z : Operand} (hp : PMono p B B0) (hF : p.Free i) (hg : Gd os a p B B0 w0 af gd) (hx : Src os a p B B0 w0 af x fun v _ => v = .bool true) (hy : Src os a p B B0 w0 af y (p.C i)) : Step os Q a p B B0 w0 i { dst := d, op := .pick x y z, type := ty, pos := ps, after := af, guard := gd } := by
  refine stg_val hp hF hg fun L vs w hG hd => ?_
  have e := hx L vs w hG hd
  refine ⟨_, ?_, hy L vs w hG hd⟩
  generalize (lay os.toArray L vs os.toArray.size a).eval = ρ at e
  simp [execOp, go_sem, e]

theorem g_extract {x : Operand} {k : Nat} (hp : PMono p B B0) (hF : p.Free i) (hg : Gd os a p B B0 w0 af gd) (hx : Src os a p B B0 w0 af x fun v w => ∃ us u, v = .tuple us ∧ us[k]? = some u ∧ p.C i u w) : Step os Q a p B B0 w0 i { dst := d, op := .extract x k, type := ty, pos := ps, after := af, guard := gd } := by
  refine stg_val hp hF hg fun L vs w hG hd => ?_
  obtain ⟨us, u, e, hu, h⟩ := hx L vs w hG hd
  refine ⟨_, ?_, h⟩
  generalize (lay os.toArray L vs os.toArray.size a).eval = ρ at e
  simp [execOp, go_sem, e, hu]

theorem g_call1 {x : Operand} {F : Value → World → Prop} {f : FuncId} {ts : Array TypeId} (hp : PMono p B B0) (hF : p.Free i) (hg : Gd os a p B B0 w0 af gd) (hen : ∀ args w, (callFunc f args).run Try.prog w = .ok (.enter f args) w)
    (hx : Src os a p B B0 w0 af x F) (hC : ∀ v w, F v w → Calls Try.prog f #[v] w fun e w' => ∃ v', e = .returned v' ∧ Below w.heap.size w w' ∧ p.C i v' w') :
    Step os Q a p B B0 w0 i { dst := d, op := .call { callee := .value (.func f), args := #[x], argTypes := ts }, type := ty, pos := ps, after := af, guard := gd } :=
  stg_call hp hF hg hen fun L vs w hG hd => ⟨#[_], by simp, hC _ _ (hx L vs w hG hd)⟩

theorem g_call2 {x y : Operand} {F G : Value → World → Prop} {f : FuncId} {ts : Array TypeId} (hp : PMono p B B0) (hF : p.Free i) (hg : Gd os a p B B0 w0 af gd) (hen : ∀ args w, (callFunc f args).run Try.prog w = .ok (.enter f args) w)
    (hx : Src os a p B B0 w0 af x F) (hy : Src os a p B B0 w0 af y G) (hC : ∀ v v' w, F v w → G v' w → Calls Try.prog f #[v, v'] w fun e w' => ∃ v', e = .returned v' ∧ Below w.heap.size w w' ∧ p.C i v' w') :
    Step os Q a p B B0 w0 i { dst := d, op := .call { callee := .value (.func f), args := #[x, y], argTypes := ts }, type := ty, pos := ps, after := af, guard := gd } :=
  stg_call hp hF hg hen fun L vs w hG hd => ⟨#[_, _], by simp, hC _ _ _ (hx L vs w hG hd) (hy L vs w hG hd)⟩

/-- An operation on two known values that has no part in memory. -/
theorem g_two {o : Oper} {x y : Operand} {u v r : Value} (hp : PMono p B B0) (hF : p.Free i) (hg : Gd os a p B B0 w0 o.after o.guard) (hx : Src os a p B B0 w0 o.after x fun t _ => t = u) (hy : Src os a p B B0 w0 o.after y fun t _ => t = v)
    (hr : ∀ (ρ : Operand → Value) (w : World), (∀ c, ρ (.const c) = c) → ρ x = u → ρ y = v → (execOp ρ o).run Try.prog w = .ok (.value r) w) (hC : ∀ w, p.C i r w) : Step os Q a p B B0 w0 i o :=
  stg_val hp hF hg fun L vs w hG hd => ⟨_, hr _ _ (fun _ => rfl) (hx L vs w hG hd) (hy L vs w hG hd), hC _⟩

/-- An operation on two values that may make memory. -/
theorem g_run2 {o : Oper} {x y : Operand} {F G : Value → World → Prop} (hp : PMono p B B0) (hF : p.Free i) (hg : Gd os a p B B0 w0 o.after o.guard) (hx : Src os a p B B0 w0 o.after x F) (hy : Src os a p B B0 w0 o.after y G)
    (hr : ∀ (ρ : Operand → Value) (w : World), (∀ c, ρ (.const c) = c) → Below B w0 w → F (ρ x) w → G (ρ y) w → ∃ v w', (execOp ρ o).run Try.prog w = .ok (.value v) w' ∧ Below w.heap.size w w' ∧ p.C i v w') : Step os Q a p B B0 w0 i o :=
  stg_run hp hF hg fun L vs w hG hd => hr _ _ (fun _ => rfl) hG.below (hx L vs w hG hd) (hy L vs w hG hd)

/-- An operation on one value that has no part in memory. -/
theorem g_one {o : Oper} {x : Operand} {F : Value → World → Prop} (hp : PMono p B B0) (hF : p.Free i) (hg : Gd os a p B B0 w0 o.after o.guard) (hx : Src os a p B B0 w0 o.after x F)
    (hr : ∀ (ρ : Operand → Value) (w : World), (∀ c, ρ (.const c) = c) → F (ρ x) w → ∃ r, (execOp ρ o).run Try.prog w = .ok (.value r) w ∧ p.C i r w) : Step os Q a p B B0 w0 i o :=
  stg_val hp hF hg fun L vs w hG hd => hr _ _ (fun _ => rfl) (hx L vs w hG hd)

end

end Go.Proofs.Ytjpbmghdamcdcaa
