/- Yb, Fr, Rc, Rh, Rk, Yc, Ye, Yf, Pa, Yg, Yh, Yi, Yj, Yr, Ma, Nt, Mb, Mc, Rm, Me. -/
import Derived.Test.YtieobgadihcgeaaDoorCr2
import Derived.BigRegion
import Derived.Laws.RangeAny
import Derived.Lib.OthersKept
import Derived.Laws.RangeString
import Derived.BigQuiet
import Derived.Laws.StandIn
import Derived.Laws.EntriesVeiled
/- Steps of a region over boxes of any kind: what an operand holds; one obligation for each kind of operation. -/
namespace Go.Proofs.YtieobgadihcgeaaDoor
open Go Go.RowKit

section
variable {os : List Oper} {Q : Exit → Act → World → Prop} {a : Act} {p : Pq} {B B0 : Nat} {w0 : World}
variable {i s : Nat} {d : Option Tmp} {ty : TypeId} {ps : String} {af : Array Edge} {gd : Option (Nat × Bool)}

/-- What operand x holds when an operation that waits for 'af' is on. -/
def SrcQ (os : List Oper) (a : Act) (p : Pq) (B B0 : Nat) (w0 : World) (af : Array Edge) (x : Operand) (F : Value → World → Prop) : Prop :=
  ∀ L vs w, p.G B B0 w0 L vs w → (∀ e ∈ af, Region.binds .any e = true → L e.on = true) → F ((lay os.toArray L vs os.toArray.size a).eval x) w

theorem sq_in (j : Nat) {F : Value → World → Prop} (ha : apartB (os.map (·.dst)) = true) (hj : (os.map (·.dst))[j]? = some (some s)) (hs : s < a.tmps.size) (hdep : depA af j = true) (hF : ∀ v w, (p.c j).P v w → F v w) : SrcQ os a p B B0 w0 af (.tmp s) F := by
  intro L vs w hG hd
  have hLj := depA_of hdep hd
  rw [lay_in ha hLj hj hs]
  exact hF _ _ (hG.val j hLj)

theorem sq_out {v : Value} {F : Value → World → Prop} (ho : (os.map (·.dst)).contains (some s) = false) (hx : a.eval (.tmp s) = v) (hF : ∀ w, Below B w0 w → F v w) : SrcQ os a p B B0 w0 af (.tmp s) F := by
  intro L vs w hG hd
  rw [(lay_out ho _).trans hx]
  exact hF _ hG.below

theorem sq_const {v : Value} {F : Value → World → Prop} (hF : ∀ w, F v w) : SrcQ os a p B B0 w0 af (.const v) F := fun _ _ _ _ _ => hF _

/-- The guard lets the operation run. -/
def GdQ (os : List Oper) (a : Act) (p : Pq) (B B0 : Nat) (w0 : World) (af : Array Edge) : Option (Nat × Bool) → Prop
  | none => True
  | some (j, b) => ∀ L vs w, p.G B B0 w0 L vs w → (∀ e ∈ af, Region.binds .any e = true → L e.on = true) → yielded os.toArray (lay os.toArray L vs os.toArray.size a).tmps j = some b

theorem gq_some {j : Nat} {b : Bool} (ha : apartB (os.map (·.dst)) = true) (hj : (os.map (·.dst))[j]? = some (some s)) (hs : s < a.tmps.size) (hdep : depA af j = true) (hC : ∀ v w, (p.c j).P v w → v = .bool b) : GdQ os a p B B0 w0 af (some (j, b)) := by
  intro L vs w hG hd
  have hLj := depA_of hdep hd
  have hv := hC _ _ (hG.val j hLj)
  have he := lay_in (vs := vs) ha hLj hj hs
  rw [hv] at he
  have hsz : s < (lay os.toArray L vs os.toArray.size a).tmps.size := by rw [lay_size]; exact hs
  have ht : (lay os.toArray L vs os.toArray.size a).tmps[s]? = some (.bool b) := by
    have h2 : (lay os.toArray L vs os.toArray.size a).eval (.tmp s) = ((lay os.toArray L vs os.toArray.size a).tmps[s]?).getD undef := by simp [Act.eval]
    rw [Array.getElem?_eq_getElem hsz] at h2 ⊢
    rw [he] at h2
    exact congrArg some h2.symm
  have hdst : (os.toArray[j]?).bind (·.dst) = some s := by
    simp at hj ⊢
    cases ho : os[j]? with
    | none => simp [ho] at hj
    | some o => simp [ho] at hj ⊢; exact hj
  unfold yielded
  rw [hdst]
  simp only [Option.bind_some, ht]

theorem wanted_of {o : Oper} {L : Nat → Bool} {vs : Nat → Value} {w : World} (hg : GdQ os a p B B0 w0 o.after o.guard) (hG : p.G B B0 w0 L vs w) (hd : ∀ e ∈ o.after, Region.binds .any e = true → L e.on = true) : Region.wanted o (yielded os.toArray (lay os.toArray L vs os.toArray.size a).tmps) = true := by
  unfold Region.wanted
  cases hgd : o.guard with
  | none => rfl
  | some jb =>
    obtain ⟨j, b⟩ := jb
    rw [hgd] at hg
    have := hg L vs w hG hd
    show (yielded os.toArray (lay os.toArray L vs os.toArray.size a).tmps j == some b) = true
    rw [this]
    cases b <;> rfl

/-- The guard lets the operation be passed over. -/
theorem q_skip {o : Oper} {j : Nat} {b : Bool} (hp : p.Ok B B0) (hF : p.Free i) (hgd : o.guard = some (j, b)) (hg : GdQ os a p B B0 w0 o.after (some (j, !b))) (hC : ∀ w, (p.c i).P undef w) : StepQ os Q a p B B0 w0 i o := by
  intro hio L vs w hG hL hd hc
  refine wpOp_step hio fun K' hK => ?_
  have h1 := hg L vs w hG hd
  have hwn : ¬ Region.wanted o (yielded os.toArray (lay os.toArray L vs os.toArray.size a).tmps) = true := by
    unfold Region.wanted
    rw [hgd]
    show ¬ (yielded os.toArray (lay os.toArray L vs os.toArray.size a).tmps j == some b) = true
    rw [h1]
    cases b <;> simp
  rw [if_neg hwn]
  exact hK _ _ ⟨_, rfl, hG.plain hp hF (Below.refl _ _) (hC _)⟩

theorem stq_run {o : Oper} (hp : p.Ok B B0) (hF : p.Free i) (hg : GdQ os a p B B0 w0 o.after o.guard) (hr : ∀ L vs w, p.G B B0 w0 L vs w → L i = false → ClosedL os.toArray L → (∀ e ∈ o.after, Region.binds .any e = true → L e.on = true) →
      ∃ v w', (execOp (lay os.toArray L vs os.toArray.size a).eval o).run Tryd.prog w = .ok (.value v) w' ∧ Below w.heap.size w w' ∧ (p.c i).P v w') : StepQ os Q a p B B0 w0 i o := by
  intro hio L vs w hG hL hd hc
  refine wpOp_step hio fun K' hK => ?_
  obtain ⟨v, w', hv, hb, hCv⟩ := hr L vs w hG hL hc hd
  rw [if_pos (wanted_of hg hG hd)]
  unfold Oper.wp
  rw [hv]
  exact hK _ _ ⟨_, rfl, hG.plain hp hF hb hCv⟩

theorem stq_val {o : Oper} (hp : p.Ok B B0) (hF : p.Free i) (hg : GdQ os a p B B0 w0 o.after o.guard) (hr : ∀ L vs w, p.G B B0 w0 L vs w → L i = false → ClosedL os.toArray L → (∀ e ∈ o.after, Region.binds .any e = true → L e.on = true) →
      ∃ v, (execOp (lay os.toArray L vs os.toArray.size a).eval o).run Tryd.prog w = .ok (.value v) w ∧ (p.c i).P v w) : StepQ os Q a p B B0 w0 i o :=
  stq_run hp hF hg fun L vs w hG hL hc hd => by
    obtain ⟨v, h1, h2⟩ := hr L vs w hG hL hc hd
    exact ⟨v, w, h1, Below.refl _ _, h2⟩

theorem stq_call {f : FuncId} {xs : Array Operand} {ts : Array TypeId} (hp : p.Ok B B0) (hF : p.Free i) (hg : GdQ os a p B B0 w0 af gd) (hen : ∀ args w, (callFunc f args).run Tryd.prog w = .ok (.enter f args) w)
    (hr : ∀ L vs w, p.G B B0 w0 L vs w → (∀ e ∈ af, Region.binds .any e = true → L e.on = true) → ∃ args, xs.map (lay os.toArray L vs os.toArray.size a).eval = args ∧
      Calls Tryd.prog f args w fun e w' => ∃ v', e = .returned v' ∧ Below w.heap.size w w' ∧ (p.c i).P v' w') :
    StepQ os Q a p B B0 w0 i { dst := d, op := .call { callee := .value (.func f), args := xs, argTypes := ts }, type := ty, pos := ps, after := af, guard := gd } := by
  intro hio L vs w hG hL hd hc
  refine wpOp_step hio fun K' hK => ?_
  obtain ⟨args, hx, hC⟩ := hr L vs w hG hd
  rw [if_pos (wanted_of (o := { dst := d, op := .call { callee := .value (.func f), args := xs, argTypes := ts }, type := ty, pos := ps, after := af, guard := gd }) hg hG hd)]
  have e : (execOp (lay os.toArray L vs os.toArray.size a).eval ({ dst := d, op := .call { callee := .value (.func f), args := xs, argTypes := ts }, type := ty, pos := ps, after := af, guard := gd } : Oper)).run Tryd.prog w = (.ok (.enter f args) w) := by
    have hf : (lay os.toArray L vs os.toArray.size a).eval (.func f) = .func (.func f) #[] #[] := rfl
    generalize (lay os.toArray L vs os.toArray.size a).eval = ρ at hx hf
    simp [execOp, go_sem, hx, hf, hen]
  unfold Oper.wp
  rw [e]
  refine hC.mono ?_
  rintro e' w' ⟨v', rfl, hb, h⟩
  exact hK _ _ ⟨_, rfl, hG.plain hp hF hb h⟩

theorem q_call1 {x : Operand} {F : Value → World → Prop} {f : FuncId} {ts : Array TypeId} (hp : p.Ok B B0) (hF : p.Free i) (hg : GdQ os a p B B0 w0 af gd) (hen : ∀ args w, (callFunc f args).run Tryd.prog w = .ok (.enter f args) w)
    (hx : SrcQ os a p B B0 w0 af x F) (hC : ∀ v w, F v w → Calls Tryd.prog f #[v] w fun e w' => ∃ v', e = .returned v' ∧ Below w.heap.size w w' ∧ (p.c i).P v' w') :
    StepQ os Q a p B B0 w0 i { dst := d, op := .call { callee := .value (.func f), args := #[x], argTypes := ts }, type := ty, pos := ps, after := af, guard := gd } :=
  stq_call hp hF hg hen fun L vs w hG hd => ⟨#[_], by simp, hC _ _ (hx L vs w hG hd)⟩

theorem q_call2 {x y : Operand} {F G : Value → World → Prop} {f : FuncId} {ts : Array TypeId} (hp : p.Ok B B0) (hF : p.Free i) (hg : GdQ os a p B B0 w0 af gd) (hen : ∀ args w, (callFunc f args).run Tryd.prog w = .ok (.enter f args) w)
    (hx : SrcQ os a p B B0 w0 af x F) (hy : SrcQ os a p B B0 w0 af y G) (hC : ∀ v v' w, F v w → G v' w → Calls Tryd.prog f #[v, v'] w fun e w' => ∃ v', e = .returned v' ∧ Below w.heap.size w w' ∧ (p.c i).P v' w') :
    StepQ os Q a p B B0 w0 i { dst := d, op := .call { callee := .value (.func f), args := #[x, y], argTypes := ts }, type := ty, pos := ps, after := af, guard := gd } :=
  stq_call hp hF hg hen fun L vs w hG hd => ⟨#[_, _], by simp, hC _ _ _ (hx L vs w hG hd) (hy L vs w hG hd)⟩

theorem q_one {o : Oper} {x : Operand} {F : Value → World → Prop} (hp : p.Ok B B0) (hF : p.Free i) (hg : GdQ os a p B B0 w0 o.after o.guard) (hx : SrcQ os a p B B0 w0 o.after x F)
    (hr : ∀ (ρ : Operand → Value) (w : World), (∀ c, ρ (.const c) = c) → F (ρ x) w → ∃ r, (execOp ρ o).run Tryd.prog w = .ok (.value r) w ∧ (p.c i).P r w) : StepQ os Q a p B B0 w0 i o :=
  stq_val hp hF hg fun L vs w hG _ _ hd => hr _ _ (fun _ => rfl) (hx L vs w hG hd)

theorem q_two {o : Oper} {x y : Operand} {F G : Value → World → Prop} (hp : p.Ok B B0) (hF : p.Free i) (hg : GdQ os a p B B0 w0 o.after o.guard) (hx : SrcQ os a p B B0 w0 o.after x F) (hy : SrcQ os a p B B0 w0 o.after y G)
    (hr : ∀ (ρ : Operand → Value) (w : World), (∀ c, ρ (.const c) = c) → F (ρ x) w → G (ρ y) w → ∃ r, (execOp ρ o).run Tryd.prog w = .ok (.value r) w ∧ (p.c i).P r w) : StepQ os Q a p B B0 w0 i o :=
  stq_val hp hF hg fun L vs w hG _ _ hd => hr _ _ (fun _ => rfl) (hx L vs w hG hd) (hy L vs w hG hd)

theorem q_move {x : Operand} (hp : p.Ok B B0) (hF : p.Free i) (hg : GdQ os a p B B0 w0 af gd) (hx : SrcQ os a p B B0 w0 af x (p.c i).P) : StepQ os Q a p B B0 w0 i { dst := d, op := .move x, type := ty, pos := ps, after := af, guard := gd } := by
  refine stq_val hp hF hg fun L vs w hG _ _ hd => ⟨_, ?_, hx L vs w hG hd⟩
  simp [execOp, go_sem]

theorem q_assign {x : Operand} (hp : p.Ok B B0) (hF : p.Free i) (hg : GdQ os a p B B0 w0 af gd) (hx : SrcQ os a p B B0 w0 af x (p.c i).P) : StepQ os Q a p B B0 w0 i { dst := d, op := .assign x, type := ty, pos := ps, after := af, guard := gd } := by
  refine stq_val hp hF hg fun L vs w hG _ _ hd => ⟨_, ?_, hx L vs w hG hd⟩
  simp [execOp, go_sem]

theorem q_extract2 {x : Operand} {k : Nat} {F G : Fq} (hp : p.Ok B B0) (hF : p.Free i) (hg : GdQ os a p B B0 w0 af gd) (hx : SrcQ os a p B B0 w0 af x (Fq.tup2 F G).P) (hC : ∀ v1 v2 w, F.P v1 w → G.P v2 w → ∃ u, #[v1, v2][k]? = some u ∧ (p.c i).P u w) : StepQ os Q a p B B0 w0 i { dst := d, op := .extract x k, type := ty, pos := ps, after := af, guard := gd } := by
  refine stq_val hp hF hg fun L vs w hG _ _ hd => ?_
  obtain ⟨v1, v2, e, h1, h2⟩ := hx L vs w hG hd
  obtain ⟨u, hu, h⟩ := hC v1 v2 w h1 h2
  refine ⟨_, ?_, h⟩
  generalize (lay os.toArray L vs os.toArray.size a).eval = ρ at e
  simp only [execOp, go_sem, e]
  simp [go_sem, hu]

theorem q_extract3 {x : Operand} {k : Nat} {F G H : Fq} (hp : p.Ok B B0) (hF : p.Free i) (hg : GdQ os a p B B0 w0 af gd) (hx : SrcQ os a p B B0 w0 af x (Fq.tup3 F G H).P) (hC : ∀ v1 v2 v3 w, F.P v1 w → G.P v2 w → H.P v3 w → ∃ u, #[v1, v2, v3][k]? = some u ∧ (p.c i).P u w) : StepQ os Q a p B B0 w0 i { dst := d, op := .extract x k, type := ty, pos := ps, after := af, guard := gd } := by
  refine stq_val hp hF hg fun L vs w hG _ _ hd => ?_
  obtain ⟨v1, v2, v3, e, h1, h2, h3⟩ := hx L vs w hG hd
  obtain ⟨u, hu, h⟩ := hC v1 v2 v3 w h1 h2 h3
  refine ⟨_, ?_, h⟩
  generalize (lay os.toArray L vs os.toArray.size a).eval = ρ at e
  simp only [execOp, go_sem, e]
  simp [go_sem, hu]

/-- What a box from before holds while it is not stored to. -/
theorem box_now {o : Ob} (ho : o ∈ p.old) (hk : o.F1 = o.F0 ∨ leadsB os 9 o.k i = true) {L : Nat → Bool} {vs : Nat → Value} {w : World} (hG : p.G B B0 w0 L vs w) (hL : L i = false) (hc : ClosedL os.toArray L) : Bq w o.b o.m o.F0 := by
  have := hG.old _ ho
  rcases hk with hk | hk
  · rw [hk] at this; simpa using this
  · rw [not_yet hc hk hL] at this; exact this

/-- An integer, loaded out of a box, or out of a part of it. -/
theorem q_loadInt {o : Ob} {off : Nat} {x : Operand} (hp : p.Ok B B0) (hF : p.Free i) (hg : GdQ os a p B B0 w0 af gd) (ho : o ∈ p.old) (hk : o.F1 = o.F0 ∨ leadsB os 9 o.k i = true) (hoff : off + 2 ≤ o.m)
    (hx : SrcQ os a p B B0 w0 af x fun u _ => u = .pointer (some ⟨o.b, off, none⟩)) (hC : ∀ (us : List Value) (w : World), us.length = o.m → o.F0.P (.agg us.toArray) w → (p.c i).P (.agg #[us.getD off undef, us.getD (off + 1) undef]) w) :
    StepQ os Q a p B B0 w0 i { dst := d, op := .load 29 x, type := ty, pos := ps, after := af, guard := gd } := by
  refine stq_val hp hF hg fun L vs w hG hL hc hd => ?_
  obtain ⟨us, hl, h0, hat, ht, hP⟩ := box_now ho hk hG hL hc
  have e := hx L vs w hG hd
  have c0 := (hat off (by omega)).1
  have c1 := (hat (off + 1) (by omega)).1
  refine ⟨_, ?_, hC us w hl hP⟩
  generalize (lay os.toArray L vs os.toArray.size a).eval = ρ at e
  generalize us.getD off undef = u0 at c0 ⊢
  generalize us.getD (off + 1) undef = u1 at c1 ⊢
  simp [execOp, go_sem, e, c0, c1]

theorem ld_num {us : List Value} {w : World} {z : Int} (hl : us.length = 2) (h : (Fq.num z).P (.agg us.toArray) w) : Num w (.agg #[us.getD 0 undef, us.getD (0 + 1) undef]) z := by
  match us, hl with
  | [p, q], _ => exact h
def zeroInt : List Value := [.bool false, .slice none 0 0]
def zeroRat : List Value := [.bool false, .slice none 0 0, .bool false, .slice none 0 0]
theorem tame_int (n : Bool) (ao : Option Addr) (k c : Nat) : Tame [.bool n, .slice ao k c] := by
  intro u hu q e
  simp at hu
  rcases hu with rfl | rfl <;> cases e
theorem q_allocInt {n0 : Nb} (hp : p.Ok B B0) (hi : n0 ∈ p.new) (hii : n0.i = i) (hsl : n0.s = none) (hm : n0.m = 2) (hk : leadsB os 9 n0.k i = true) (hki : n0.k ≠ i) (hC : ∀ v w', (p.c i).P v w') (h1 : ∀ o ∈ p.old, o.k ≠ i) (h2 : ∀ n ∈ p.new, n.k ≠ i) (hF : ∀ w', n0.F0.P (.agg zeroInt.toArray) w') :
    StepQ os Q a p B B0 w0 i { dst := d, op := .alloc 29, type := ty, pos := ps, after := af, guard := none } := by
  subst hii
  intro hio L vs w hG hL hd hc
  exact op_alloc hio ⟨_, rfl, hG.alloc hp hi hsl (not_yet hc hk hL) hki hC h1 h2 _ (us := zeroInt) hm.symm (by omega) (tame_int _ _ _ _) hF⟩

/-- What is stored into a box of an integer. -/
def IntV (F : Fq) (v : Value) (w : World) : Prop := ∃ n ao k c, v = .agg #[.bool n, .slice ao k c] ∧ F.P v w
theorem intV_num {v : Value} {w : World} {z : Int} (h : Num w v z) : IntV (Fq.num z) v w := by
  obtain ⟨n, ao, k, c, e⟩ := h.parts
  exact ⟨n, ao, k, c, e, h⟩
theorem op_storeInt {ops : Array Oper} {K : Act → World → Prop} {w : World} {x y : Operand} {b : Nat} {us : List Value} {n' : Bool} {a' : Option Addr} {k' c' : Nat} (ho : ops[i]? = some { dst := d, op := .store 29 x y, type := ty, pos := ps, after := af, guard := none }) (hx : a.eval x = .pointer (some ⟨b, 0, none⟩)) (hy : a.eval y = .agg #[.bool n', .slice a' k' c']) (hat : At w b us) (hl : us.length = 2)
    (h : K (a.put d undef) (putFrom w b 0 [.bool n', .slice a' k' c'])) : wpOp Tryd.prog ops Q i K a w :=
  op_store (p := us.getD 0 undef) (q := us.getD 1 undef) ho hx hy ⟨(hat 0 (by omega)).1, (hat 1 (by omega)).1, (hat 0 (by omega)).2, (hat 1 (by omega)).2⟩ h

theorem q_storeNewInt {n0 : Nb} {x y : Operand} (hp : p.Ok B B0) (hi : n0 ∈ p.new) (hki : n0.k = i) (hsl : n0.s = none) (hm : n0.m = 2) (hx : ∀ L vs w, p.G B B0 w0 L vs w → (∀ e ∈ af, Region.binds .any e = true → L e.on = true) → L n0.i = true ∧ (lay os.toArray L vs os.toArray.size a).eval x = vs n0.i) (hy : SrcQ os a p B B0 w0 af y (IntV n0.F1))
    (hC : ∀ v w', (p.c i).P v w') (h1 : ∀ o ∈ p.old, o.k ≠ i) (h2 : ∀ n ∈ p.new, n.i ≠ i) : StepQ os Q a p B B0 w0 i { dst := none, op := .store 29 x y, type := ty, pos := ps, after := af, guard := none } := by
  subst hki
  intro hio L vs w hG hL hd hc
  obtain ⟨hLi, hxe⟩ := hx L vs w hG hd
  obtain ⟨n, ao, k, c, e, hP⟩ := hy L vs w hG hd
  obtain ⟨b, e1', e2, us, g1, g2, g3, g4, g5⟩ := hG.new _ hi hLi
  have e1 : vs n0.i = .pointer (some ⟨b, 0, none⟩) := by rw [e1']; unfold Nb.ptr; rw [hsl]
  rw [e] at hP
  exact op_storeInt hio (hxe.trans e1) e g3 (by omega) ⟨undef, rfl, hG.storeNew hp hi hLi (us := [.bool n, .slice ao k c]) hm.symm (tame_int _ _ _ _) hP hC h1 h2 e1' _⟩

/-- The pointer that an allocation of the region gave. -/
theorem own_ptr {i0 : Nat} (ha : apartB (os.map (·.dst)) = true) (hj : (os.map (·.dst))[i0]? = some (some s)) (hs : s < a.tmps.size) (hdep : depA af i0 = true) : ∀ L vs w, p.G B B0 w0 L vs w → (∀ e ∈ af, Region.binds .any e = true → L e.on = true) → L i0 = true ∧ (lay os.toArray L vs os.toArray.size a).eval (.tmp s) = vs i0 := by
  intro L vs w hG hd
  have hLj := depA_of hdep hd
  exact ⟨hLj, lay_in ha hLj hj hs⟩

theorem q_storeOldInt {o0 : Ob} {x y : Operand} (hp : p.Ok B B0) (hi : o0 ∈ p.old) (hki : o0.k = i) (hm : o0.m = 2) (hx : SrcQ os a p B B0 w0 af x fun u _ => u = .pointer (some ⟨o0.b, 0, none⟩)) (hy : SrcQ os a p B B0 w0 af y (IntV o0.F1))
    (hC : ∀ v w', (p.c i).P v w') (h2 : ∀ n ∈ p.new, n.i ≠ i ∧ n.k ≠ i) : StepQ os Q a p B B0 w0 i { dst := none, op := .store 29 x y, type := ty, pos := ps, after := af, guard := none } := by
  subst hki
  intro hio L vs w hG hL hd hc
  obtain ⟨n, ao, k, c, e, hP⟩ := hy L vs w hG hd
  obtain ⟨us, g1, g2, g3, g4, g5⟩ := hG.old _ hi
  rw [e] at hP
  exact op_storeInt hio (hx L vs w hG hd) e g3 (by omega) ⟨undef, rfl, hG.storeOld hp hi (us := [.bool n, .slice ao k c]) hm.symm (tame_int _ _ _ _) hP hC h2 _⟩

/-- A field's address. -/
theorem q_addr {T k b off off' : Nat} {x : Operand} (hp : p.Ok B B0) (hF : p.Free i) (hg : GdQ os a p B B0 w0 af gd) (hx : SrcQ os a p B B0 w0 af x fun u _ => u = .pointer (some ⟨b, off, none⟩))
    (hr : ∀ (ρ : Operand → Value) (w : World), ρ x = .pointer (some ⟨b, off, none⟩) → (execOp ρ { dst := d, op := .fieldAddr T x k, type := ty, pos := ps, after := af, guard := gd }).run Tryd.prog w = .ok (.value (.pointer (some ⟨b, off', none⟩))) w) (hC : ∀ w, (p.c i).P (.pointer (some ⟨b, off', none⟩)) w) :
    StepQ os Q a p B B0 w0 i { dst := d, op := .fieldAddr T x k, type := ty, pos := ps, after := af, guard := gd } :=
  q_one hp hF hg hx fun ρ w _ h => ⟨_, hr ρ w h, hC w⟩

end

/-- Operation i neither stores in a box nor makes one. -/
def freeB (len : Nat) (ks : List (Option (Nat × Fq))) (new : List Nb) (i : Nat) : Bool := !(keysOf ks len).contains i && new.all (fun n => n.i != i && n.k != i)

theorem old_ne {C : List Fq} {bs : List (Nat × Nat × Fq)} {ks : List (Option (Nat × Fq))} {new : List Nb} {len i : Nat} (h : (keysOf ks len).contains i = false) : ∀ o ∈ (plq C bs ks new len).old, o.k ≠ i := fun o ho e => by
  have h1 := oldOf_key ho
  rw [e] at h1
  have h2 := List.contains_iff_mem.2 h1
  rw [h] at h2
  cases h2

theorem newk_ne {C : List Fq} {bs : List (Nat × Nat × Fq)} {ks : List (Option (Nat × Fq))} {new : List Nb} {len i : Nat} (h : new.all (fun n => n.k != i) = true) : ∀ n ∈ (plq C bs ks new len).new, n.k ≠ i := fun n hn e => by
  have := List.all_eq_true.1 h n hn
  simp [e] at this

theorem newi_ne {C : List Fq} {bs : List (Nat × Nat × Fq)} {ks : List (Option (Nat × Fq))} {new : List Nb} {len i : Nat} (h : new.all (fun n => n.i != i) = true) : ∀ n ∈ (plq C bs ks new len).new, n.i ≠ i := fun n hn e => by
  have := List.all_eq_true.1 h n hn
  simp [e] at this

theorem newik_ne {C : List Fq} {bs : List (Nat × Nat × Fq)} {ks : List (Option (Nat × Fq))} {new : List Nb} {len i : Nat} (h : new.all (fun n => n.i != i && n.k != i) = true) : ∀ n ∈ (plq C bs ks new len).new, n.i ≠ i ∧ n.k ≠ i := fun n hn => by
  have := List.all_eq_true.1 h n hn
  simpa using this

theorem free_of {C : List Fq} {bs : List (Nat × Nat × Fq)} {ks : List (Option (Nat × Fq))} {new : List Nb} {len i : Nat} (h : freeB len ks new i = true) : (plq C bs ks new len).Free i := by
  simp only [freeB, Bool.and_eq_true, Bool.not_eq_true'] at h
  exact ⟨old_ne h.1, newik_ne h.2⟩

theorem Fr.box {w0 W : World} {bs : List (Nat × Nat × Fq)} (h : Fr w0 bs W) (k : Nat) {b m : Nat} {F : Fq} (hk : bs[k]? = some (b, m, F)) : Bq W b m F := (h.boxes _ (List.mem_of_getElem? hk)).2

theorem box_num {w : World} {b : Nat} {z : Int} (h : Bq w b 2 (Fq.num z)) : ∃ p q, w.cell? ⟨b, 0, none⟩ = some p ∧ w.cell? ⟨b, 1, none⟩ = some q ∧ Num w (.agg #[p, q]) z := by
  obtain ⟨us, hl, _, hat, _, hP⟩ := h
  match us, hl, hat with
  | [p, q], _, hat => exact ⟨p, q, (hat 0 (by simp)).1, (hat 1 (by simp)).1, hP⟩

theorem Pair.zero (w : World) : Pair w (.agg zeroRat.toArray) 0 0 := ⟨_, _, _, _, rfl, Num.zero w, Num.zero w⟩

/-- The boxes that a call lays first. -/
theorem fr_start (w : World) {m : Nat} {F : Fq} {us : List Value} (t : TypeId) (hl : us.length = m) (h0 : 0 < m) (ht : Tame us) (hF : F.P (.agg us.toArray) w) : ∃ w' b, w' = w.alloc (.cells us.toArray t) ∧ b = w.heap.size ∧ w'.heap.size = w.heap.size + 1 ∧ Fr w [(b, m, F)] w' :=
  ⟨_, _, rfl, rfl, World.size_alloc _ _, (Fr.start w).push t hl h0 ht hF⟩
theorem fr_more {w W : World} {bs : List (Nat × Nat × Fq)} (E : Fr w bs W) {k : Nat} (hk : W.heap.size = k) {m : Nat} {F : Fq} {us : List Value} (t : TypeId) (hl : us.length = m) (h0 : 0 < m) (ht : Tame us) (hF : F.P (.agg us.toArray) W) : ∃ w' b, w' = W.alloc (.cells us.toArray t) ∧ b = k ∧ w'.heap.size = k + 1 ∧ Fr w ((b, m, F) :: bs) w' :=
  ⟨_, _, rfl, rfl, by rw [World.size_alloc, hk], by rw [← hk]; exact E.push t hl h0 ht hF⟩

end Go.Proofs.YtieobgadihcgeaaDoor

/- Fractions in lowest terms: what the steps of a sum, a product, a quotient come to. Nothing of the program is used. -/
namespace Go.Proofs.YtieobgadihcgeaaDoor
open Go

end Go.Proofs.YtieobgadihcgeaaDoor

/- Walks of the reference: Neg, Abs, Sign, Cmp. Walks of the reference: word, plus, minus. Walks of the reference: Bits, left. Walks of the reference: reaches, take, half. -/
namespace Go.Proofs.YtieobgadihcgeaaDoor
open Go Go.RowKit

end Go.Proofs.YtieobgadihcgeaaDoor

namespace Go.Proofs.YtieobgadihcgeaaDoor
open Go Go.RowKit

/-- Words that a call has gathered in a row of its own. -/
def Ow (W : World) (B : Nat) (v : Value) (zs : List Int) : Prop := W.ownsRow B 77 1 v zs.length (zs.map (Value.int .u32)) ∧ Digs zs

theorem Ow.shape {W : World} {B : Nat} {v : Value} {zs : List Int} (h : Ow W B v zs) : ∃ ao cap, v = .slice ao zs.length cap := by
  rcases h.1.2 with ⟨rfl, h0⟩ | ⟨g, cap, cur, rfl, _⟩
  · exact ⟨none, 0, by rw [h0]⟩
  · exact ⟨_, _, rfl⟩

theorem Ow.start (w : World) : Ow (w.alloc (.cells #[] 77)) w.heap.size (.slice (some ⟨w.heap.size, 0, none⟩) 0 0) [] :=
  ⟨⟨rfl, .inr ⟨w.heap.size, 0, #[], rfl, Nat.le_refl _, heap_alloc_new _ _, Nat.le_refl _, Nat.zero_le _, rfl, rfl⟩⟩, fun _ h => by simp at h⟩

theorem Ow.sl {W : World} {B : Nat} {v : Value} {zs : List Int} (h : Ow W B v zs) : ∃ ao c, v = .slice ao zs.length c ∧ Sl W ao zs.length c zs := own_sl h.1 h.2

theorem Ow.step {w wr w1 : World} {v v' : Value} {zs : List Int} {d : Int} {o : Obj} (h : Ow wr w.heap.size v zs) (hnx : Below w.heap.size w wr) (hd0 : 0 ≤ d) (hd1 : d < 4294967296)
    (hown' : w1.ownsRow w.heap.size 77 1 v' (zs.length + 1) (zs.map (Value.int .u32) ++ [.int .u32 d])) (hgrow : (wr.alloc o).grownBy w1 v.ownBlock) :
    Ow w1 w.heap.size v' (zs ++ [d]) ∧ Below w.heap.size w w1 := by
  refine ⟨⟨by simpa using hown', fun y hy => ?_⟩, ?_⟩
  · rcases List.mem_append.1 hy with h1 | h1
    · exact h.2 y h1
    · simp at h1; subst h1; exact ⟨hd0, hd1⟩
  · have hs := hnx.size
    exact (hnx.alloc hs o).grown hgrow (by simp; omega) (fun j hj => (World.ownsRow.lt h.1 j hj).1)

end Go.Proofs.YtieobgadihcgeaaDoor

namespace Go.Proofs.YtieobgadihcgeaaDoor
open Go Go.RowKit

/-- Block b is a row of the call's own whose first n cells are these words. -/
def Mine (w : World) (b n : Nat) (zs : List Int) : Prop :=
  ∃ cur : Array Value, w.heap[b]? = some (.cells cur 77 (0, 0)) ∧ zs.length = n ∧ Digs zs ∧ n ≤ cur.size ∧ ∀ j, j < n → cur[j]? = some (.int .u32 (zs.getD j 0))

theorem Mine.lt {w : World} {b n : Nat} {zs : List Int} (h : Mine w b n zs) : b < w.heap.size := by
  obtain ⟨cur, h1, _⟩ := h
  exact (Array.getElem?_eq_some_iff.1 h1).1
theorem Mine.len {w : World} {b n : Nat} {zs : List Int} (h : Mine w b n zs) : zs.length = n := by
  obtain ⟨cur, _, h1, _⟩ := h
  exact h1
theorem Mine.digs {w : World} {b n : Nat} {zs : List Int} (h : Mine w b n zs) : Digs zs := by
  obtain ⟨cur, _, _, h1, _⟩ := h
  exact h1
theorem Mine.cell {w : World} {b n : Nat} {zs : List Int} (h : Mine w b n zs) {j : Nat} (hj : j < n) : w.cell? ⟨b, j, none⟩ = some (.int .u32 (zs.getD j 0)) := by
  obtain ⟨cur, h1, h2, h3, h4, h5⟩ := h
  rw [cell_of_row w b j _ _ (0, 0) h1]
  exact h5 j hj
theorem Mine.frozen {w : World} {b n : Nat} {zs : List Int} (h : Mine w b n zs) (j : Nat) : w.frozen? ⟨b, j, none⟩ = false := by
  obtain ⟨cur, h1, _⟩ := h
  simp [World.frozen?, h1]
theorem Mine.mono {w w' : World} {b n : Nat} {zs : List Int} (h : Mine w b n zs) {B : Nat} (hb : Below B w w') (hB : b < B) : Mine w' b n zs := by
  obtain ⟨cur, h1, h2⟩ := h
  exact ⟨cur, by rw [hb.block b hB]; exact h1, h2⟩
theorem Mine.drewN {w : World} {b n : Nat} {zs : List Int} (h : Mine w b n zs) (d : Nat) : Mine (w.drewN d) b n zs := h
theorem Mine.set {w : World} {b n : Nat} {zs : List Int} (h : Mine w b n zs) {j : Nat} (hj : j < n) {x : Int} (hx0 : 0 ≤ x) (hx1 : x < 4294967296) : Mine (w.setCell ⟨b, j, none⟩ (.int .u32 x)) b n (zs.set j x) := by
  obtain ⟨cur, h1, h2, h3, h4, h5⟩ := h
  refine ⟨cur.setIfInBounds j (.int .u32 x), ?_, by rw [List.length_set]; exact h2, h3.set j ⟨hx0, hx1⟩, by simpa using h4, fun k hk => ?_⟩
  · simp only [World.setCell, Array.getElem?_modify, if_true, h1, Option.map_some, Option.isSome_none]
    simp
  · by_cases hjk : j = k
    · subst hjk
      rw [getD_set _ _ _ (by omega), Array.getElem?_setIfInBounds_self_of_lt (by omega)]
    · rw [getD_set_ne _ _ _ _ hjk]
      rw [Array.getElem?_setIfInBounds_ne hjk]
      exact h5 k hk
theorem Mine.sl {w : World} {b n : Nat} {zs : List Int} (h : Mine w b n zs) {c : Nat} (hc : n ≤ c) : Sl w (some ⟨b, 0, none⟩) n c zs :=
  ⟨h.len, hc, h.digs, .inr ⟨b, 0, rfl, h.lt, fun j hj => by rw [Nat.zero_add]; exact h.cell (by have := h.len; omega)⟩⟩
theorem Mine.other {w : World} {b n : Nat} {zs : List Int} (h : Mine w b n zs) {w' : World} {b' : Nat} (hg : w.grownBy w' (some b')) (hne : b ≠ b') : Mine w' b n zs := by
  have hl := h.lt
  obtain ⟨cur, h1, h2⟩ := h
  exact ⟨cur, by rw [hg.block b hl (by simpa using hne)]; exact h1, h2⟩
end Go.Proofs.YtieobgadihcgeaaDoor

namespace Go.Proofs.YtieobgadihcgeaaDoor
open Go Go.RowKit

theorem Sl.other {w w' : World} {ay : Option Addr} {m cy b : Nat} {ys : List Int} (h : Sl w ay m cy ys) (hg : w.grownBy w' (some b)) (hne : ∀ b' o, ay = some ⟨b', o, none⟩ → b' ≠ b) : Sl w' ay m cy ys := by
  refine ⟨h.len, h.cap, h.digs, ?_⟩
  rcases h.cells.2 with h1 | ⟨b', off, h1, h2, h3⟩
  · exact .inl h1
  · refine .inr ⟨b', off, h1, Nat.lt_of_lt_of_le h2 hg.size, fun j hj => ?_⟩
    have := hg.block b' h2 (by simpa using hne b' off h1)
    have h4 := h3 j hj
    unfold World.cell? at h4 ⊢
    rw [this]
    exact h4

end Go.Proofs.YtieobgadihcgeaaDoor

/- Walks of the reference: Add, Sub, Mul. Walks of the reference: divide. Walks of the reference: divide of long sizes. -/
namespace Go.Proofs.YtieobgadihcgeaaDoor
open Go Go.RowKit

theorem rmac {i k : Nat} {us zs ys : List Int} {q x y z : Int} (hk : i + k < us.length) (h : val (us.take (i + k)) + pw (i + k) * q = val (zs.take (i + k)) + pw i * (x * val (ys.take k))) (hz : zs.getD (i + k) 0 = z) (hy : ys.getD k 0 = y) :
    val ((us.set (i + k) ((q + (x * y + z)) % 4294967296)).take (i + (k + 1))) + pw (i + (k + 1)) * ((q + (x * y + z)) / 4294967296) = val (zs.take (i + (k + 1))) + pw i * (x * val (ys.take (k + 1))) := by
  rw [show i + (k + 1) = (i + k) + 1 by omega, val_take_succ, val_take_set _ _ _ _ (Nat.le_refl _), getD_set _ _ _ hk, val_take_succ zs, val_take_succ ys, hz, hy]
  have h1 := pw_split (i + k) (q + (x * y + z))
  rw [Int.mul_add, Int.mul_add] at h1
  rw [Int.mul_add, Int.mul_add]
  have h2 : pw i * (x * (pw k * y)) = pw (i + k) * (x * y) := by rw [pw_add]; ac_rfl
  rw [h2]
  omega

set_option maxRecDepth 20000 in
set_option maxHeartbeats 2000000 in
theorem rMul_any (w : World) (na nb : Bool) (ax ay : Option Addr) (n m cx cy : Nat) (xs ys : List Int) (hX : Sl w ax n cx xs) (hY : Sl w ay m cy ys) (hb1 : n ≤ 1000000) (hb2 : m ≤ 1000000) :
    Calls Tryd.prog 55 #[.agg #[.bool na, .slice ax n cx], .agg #[.bool nb, .slice ay m cy]] w (GivesInt w (sgn na (val xs) * sgn nb (val ys))) := by
  obtain ⟨w0, hw0, hA, hB, hC, hbl, HS⟩ := boxes3 w (.bool na) (.slice ax n cx) (.bool nb) (.slice ay m cy) 29
  have hn := hidd hX.len
  have hm := hidd hY.len
  obtain ⟨ca0, ca1, _, _⟩ := hA
  obtain ⟨cb0, cb1, _, _⟩ := hB
  go_enter Tryd.func55, Tryd.ntmps55
  go_upto_region 1 with (fail)
  rw [← hw0]
  clear hw0
  go_wp2_with (at_make; refine wpList_make_words _ rfl _ _ 22 rfl 77 Tryd.underlying22 (by kernel_rfl) _ _ _ _ rfl rfl (n + m) rfl rfl (by omega) ?_; intro w1 hrow hb1' hs1)
  obtain ⟨B, hB3⟩ : ∃ B, B = w0.heap.size := ⟨_, rfl⟩
  rw [← hB3] at hrow hb1' hs1
  rw [← hB3]
  have HB4 : Hid (B = w.heap.size + 3) := by show B = _; rw [hB3]; exact HS.out
  have hBlt : w.heap.size + 2 < B := by have := HB4.out; omega
  clear hB3 HS HB4
  go_loopw [6] (fun vi wr => ∃ (i : Nat) (zs : List Int), i ≤ n ∧ vi = .int .i64 i ∧ zs.length = n + m ∧ Row wr 77 B zs ∧ Below B w0 wr ∧ val (zs.take (i + m)) = val (xs.take i) * val ys) (fun vi _ => n - (intOf vi).toNat)
  case atStart => exact ⟨0, _, Nat.zero_le _, rfl, by simp, hrow, hb1', by rw [List.take_replicate, val_replicate]; simp [val]⟩
  case round =>
    obtain ⟨i, zs, hi, rfl, hzl, hr, hbr, hv⟩ := hrel
    have HZL := hidd hzl
    have HV := hidd hv
    clear hzl hv hrow hb1' hs1
    have da0 := (hbr.cell (p := ⟨w.heap.size, 0, none⟩) (by show w.heap.size < _; omega)).trans ca0
    have da1 := (hbr.cell (p := ⟨w.heap.size, 1, none⟩) (by show w.heap.size < _; omega)).trans ca1
    have db0 := (hbr.cell (p := ⟨w.heap.size + 1, 0, none⟩) (by show w.heap.size + 1 < _; omega)).trans cb0
    have db1 := (hbr.cell (p := ⟨w.heap.size + 1, 1, none⟩) (by show w.heap.size + 1 < _; omega)).trans cb1
    have hbw : Below w.heap.size w wr := hbl.trans (hbr.mono (by omega))
    by_cases hin : i < n
    · obtain ⟨b1, off1, rfl, hbl1, x, hxc0, hx0, hx1, HX⟩ := hX.cells.at (k := i) (by rw [hn.out]; exact hin)
      go_wp2
      go_loopw [7, 8] (fun vc vk wq => ∃ (k : Nat) (q : Int) (us : List Int), k ≤ m ∧ vk = .int .i64 k ∧ vc = .int .u64 q ∧ 0 ≤ q ∧ q < 4294967296 ∧ us.length = n + m ∧ Row wq 77 B us ∧ Below B w0 wq ∧ us.drop (i + k) = zs.drop (i + k) ∧
        val (us.take (i + k)) + pw (i + k) * q = val (zs.take (i + k)) + pw i * (x * val (ys.take k))) (fun _ vk _ => m - (intOf vk).toNat)
      case atStart => exact ⟨0, 0, zs, Nat.zero_le _, rfl, rfl, by omega, by omega, HZL.out, hr, hbr, rfl, by simp [val]⟩
      case round =>
        obtain ⟨k, q, us, hk, rfl, rfl, hq0, hq1, hul, hr2, hbr2, hdr, hv2⟩ := hrel
        have HUL := hidd hul
        have HDR := hidd hdr
        have HV2 := hidd hv2
        clear hul hdr hv2 da0 da1 db0 db1 hr hbr hbw
        have da0 := (hbr2.cell (p := ⟨w.heap.size, 0, none⟩) (by show w.heap.size < _; omega)).trans ca0
        have da1 := (hbr2.cell (p := ⟨w.heap.size, 1, none⟩) (by show w.heap.size < _; omega)).trans ca1
        have db0 := (hbr2.cell (p := ⟨w.heap.size + 1, 0, none⟩) (by show w.heap.size + 1 < _; omega)).trans cb0
        have db1 := (hbr2.cell (p := ⟨w.heap.size + 1, 1, none⟩) (by show w.heap.size + 1 < _; omega)).trans cb1
        have hbw2 : Below w.heap.size w wr := hbl.trans (hbr2.mono (by omega))
        have hul := HUL.out
        by_cases hkm : k < m
        · obtain ⟨b2, off2, rfl, hbl2, y, hyc0, hy0, hy1, HY⟩ := hY.cells.at (k := k) (by rw [hm.out]; exact hkm)
          have hku : i + k < us.length := by omega
          obtain ⟨z, hzc, hz0, hz1, HZ⟩ := hr2.at hku
          have hfr := hr2.frozen (i + k)
          have hxc := (hbw2.cell (p := ⟨b1, off1 + i, none⟩) hbl1).trans hxc0
          have hyc := (hbw2.cell (p := ⟨b2, off2 + k, none⟩) hbl2).trans hyc0
          obtain ⟨hp0, hp1⟩ := mul_bd hx0 hx1 hy0 hy1
          have hw1 : IntKind.u64.wrap x = x := IntWalk.u64_in _ (by omega)
          have hw2 : IntKind.u64.wrap y = y := IntWalk.u64_in _ (by omega)
          have hw3 : IntKind.u64.wrap (x * y) = x * y := IntWalk.u64_in _ (by omega)
          have hw4 : IntKind.u64.wrap z = z := IntWalk.u64_in _ (by omega)
          have hw5 : IntKind.u64.wrap (x * y + z) = x * y + z := IntWalk.u64_in _ (by omega)
          have hw6 : IntKind.u64.wrap (q + (x * y + z)) = q + (x * y + z) := IntWalk.u64_in _ (by omega)
          have hik : IntKind.i64.wrap ((i : Int) + (k : Int)) = ((i + k : Nat) : Int) := by rw [Int.natCast_add]; exact IntWalk.i64_in _ (by omega)
          have hiknm : i + k < n + m := by omega
          clear hul
          go_wp2
          go_quiet (fail)
          obtain ⟨w2, hW2⟩ : ∃ w2, w2 = wr.drewN nq := ⟨_, rfl⟩
          rw [← hW2]
          have hrw : Row w2 77 B us := by rw [hW2]; exact hr2
          have hbw : Below B w0 w2 := by rw [hW2]; exact hbr2.trans ((Drawn.refl wr).drewN nq |>.below _)
          clear hW2 hr2 hbr2 hbw2 hzc hfr hxc hyc da0 da1 db0 db1 hw1 hw2 hw3 hw4 hw5 hw6
          have hfr := hrw.frozen (i + k)
          have hzc := hrw.cell hku
          go_wp2
          go_roundw
          case rel =>
            refine ⟨k + 1, (q + (x * y + z)) / 4294967296, us.set (i + k) ((q + (x * y + z)) % 4294967296), by omega, by go_num, by go_num, by omega, by omega, by rw [List.length_set]; exact HUL.out, hrw.set ⟨by omega, by omega⟩, hbw.setCell (Nat.le_refl _) _, ?_, ?_⟩
            · rw [List.drop_set_of_lt (by omega)]
              have := congrArg (List.drop 1) HDR.out
              simpa [List.drop_drop, Nat.add_assoc] using this
            · have hzz : zs.getD (i + k) 0 = z := by
                have := congrArg (fun l : List Int => l.getD 0 0) HDR.out
                simp only [getD_drop, Nat.add_zero] at this
                rw [← this]; exact HZ.out
              exact rmac hku HV2.out hzz HY.out
          case measure => simp [intOf]; omega
        · obtain rfl : k = m := by omega
          have hzc := hr2.cell (j := i + k) (by omega)
          have hfr := hr2.frozen (i + k)
          have hik : IntKind.i64.wrap ((i : Int) + (k : Int)) = ((i + k : Nat) : Int) := by rw [Int.natCast_add]; exact IntWalk.i64_in _ (by omega)
          have hqm : q % 4294967296 = q := by omega
          clear hul
          go_wp2
          go_roundw
          case rel =>
            refine ⟨i + 1, us.set (i + k) q, by omega, by go_num, by rw [List.length_set]; exact HUL.out, hr2.set ⟨by omega, by omega⟩, hbr2.setCell (Nat.le_refl _) _, ?_⟩
            rw [show i + 1 + k = (i + k) + 1 by omega, val_take_succ, val_take_set _ _ _ _ (Nat.le_refl _), getD_set _ _ _ (by rw [HUL.out]; omega), val_take_succ, HX.out]
            have h1 := HV2.out
            rw [HV.out, val_take_all ys (by rw [hm.out]; omega)] at h1
            rw [Int.add_mul, h1]
            congr 1
            ac_rfl
          case measure => simp [intOf]; omega
    · obtain rfl : i = n := by omega
      have HE : Hid (val zs = val xs * val ys) := by
        have h1 := HV.out
        rw [val_take_all zs (by rw [HZL.out]; omega), val_take_all xs (by rw [hn.out]; omega)] at h1
        exact h1
      have hS := hr.sl HZL.out
      have hCr := hC.mono hbr (by omega)
      go_wp2_with fail
      refine (made_any _ _ _ _ _ _ hS (by omega)).mono ?_
      rintro e w3 ⟨v, rfl, ⟨ng, ao, nn, cc, rs, rfl, hrs, hrc, hrn, hrz⟩, hb3⟩
      obtain ⟨e0, e1, e2, e3⟩ := hCr.mono hb3 hCr.lt
      have hb4 : Below w.heap.size w w3 := hbw.trans (hb3.mono hbw.size)
      have hz : sgn na (val xs) * sgn nb (val ys) = sgn ng (val rs) := by
        rw [← hrz, HE.out]
        cases na <;> cases nb <;> simp [sgn, Int.mul_neg, Int.neg_mul]
      have HZ := hidd hz
      clear hrz hz
      go_wp2
      refine bodyPost_ret (v := .agg #[.bool ng, .slice ao nn cc]) ?_ rfl ?_
      · simp [results, Tryd.results55, go_sem, e0, e1]
      · exact gives_store ⟨e0, e1, e2, e3⟩ hrs hrc hrn HZ.out hb4 (by omega)

theorem RMulV {w : World} {v v' : Value} {z z' : Int} (h : Num w v z) (h' : Num w v' z') : Calls Tryd.prog 55 #[v, v'] w (GivesInt w (z * z')) := by
  obtain ⟨neg, ao, n, c, xs, rfl, hs, hn, rfl, hc, _⟩ := h
  obtain ⟨neg', ao', n', c', xs', rfl, hs', hn', rfl, hc', _⟩ := h'
  exact rMul_any _ _ _ _ _ _ _ _ _ _ _ hs hs' (by omega) (by omega)

end Go.Proofs.YtieobgadihcgeaaDoor

namespace Go.Proofs.YtieobgadihcgeaaDoor
open Go Go.RowKit

end Go.Proofs.YtieobgadihcgeaaDoor

namespace Go.Proofs.YtieobgadihcgeaaDoor
open Go Go.RowKit

end Go.Proofs.YtieobgadihcgeaaDoor

/- Walks of the reference: DivMod, Div, Mod. Walk of the reference: Bezout. -/
namespace Go.Proofs.YtieobgadihcgeaaDoor
open Go Go.RowKit

theorem ab_sgn (b : Bool) (v : Int) : ab (sgn b v) = ab v := by unfold ab; cases b <;> simp [sgn]

end Go.Proofs.YtieobgadihcgeaaDoor

namespace Go.Proofs.YtieobgadihcgeaaDoor
open Go Go.RowKit

end Go.Proofs.YtieobgadihcgeaaDoor

/- What the walks of stage 2 share: entering a function, contracts in the form that a region wants. -/
namespace Go.Proofs.YtieobgadihcgeaaDoor
open Go Go.RowKit

theorem enq_Add (args : Array Value) (w : World) : (callFunc 11 args).run Tryd.prog w = .ok (.enter 11 args) w := enter_of Tryd.func11 (by kernel_rfl) rfl args w
theorem enq_Mul (args : Array Value) (w : World) : (callFunc 19 args).run Tryd.prog w = .ok (.enter 19 args) w := enter_of Tryd.func19 (by kernel_rfl) rfl args w
theorem enq_Sub (args : Array Value) (w : World) : (callFunc 24 args).run Tryd.prog w = .ok (.enter 24 args) w := enter_of Tryd.func24 (by kernel_rfl) rfl args w
theorem enq_Neg (args : Array Value) (w : World) : (callFunc 27 args).run Tryd.prog w = .ok (.enter 27 args) w := enter_of Tryd.func27 (by kernel_rfl) rfl args w
theorem enq_DivMod (args : Array Value) (w : World) : (callFunc 65 args).run Tryd.prog w = .ok (.enter 65 args) w := enter_of Tryd.func65 (by kernel_rfl) rfl args w
theorem enq_Cmp (args : Array Value) (w : World) : (callFunc 15 args).run Tryd.prog w = .ok (.enter 15 args) w := enter_of Tryd.func15 (by kernel_rfl) rfl args w
theorem enq_Sign (args : Array Value) (w : World) : (callFunc 21 args).run Tryd.prog w = .ok (.enter 21 args) w := enter_of Tryd.func21 (by kernel_rfl) rfl args w
theorem enq_Of (args : Array Value) (w : World) : (callFunc 57 args).run Tryd.prog w = .ok (.enter 57 args) w := enter_of Tryd.func57 (by kernel_rfl) rfl args w
theorem enq_R_Made (args : Array Value) (w : World) : (callFunc 10 args).run Tryd.prog w = .ok (.enter 10 args) w := enter_of Tryd.func10 (by kernel_rfl) rfl args w
theorem enq_R_Same (args : Array Value) (w : World) : (callFunc 32 args).run Tryd.prog w = .ok (.enter 32 args) w := enter_of Tryd.func32 (by kernel_rfl) rfl args w
theorem enq_R_Of (args : Array Value) (w : World) : (callFunc 40 args).run Tryd.prog w = .ok (.enter 40 args) w := enter_of Tryd.func40 (by kernel_rfl) rfl args w
theorem ab_gcdB {x y : Int} {j k m : Nat} (hx : ab x < pw j) (hy : ab y < pw k) (hj : j ≤ m) (hk : k ≤ m) : ab (Int.gcd x y : Int) < pw m := by
  have h1 := pw_le hj
  have h2 := pw_le hk
  by_cases h : x = 0
  · subst h
    rw [Int.zero_gcd]
    unfold ab at *
    omega
  · have h3 := Int.gcd_le_natAbs_left y h
    unfold ab at *
    omega

theorem cmpIq0 {x y : Int} : cmpI x y = 0 ↔ x = y := by
  unfold cmpI
  split
  · rename_i h
    constructor
    · intro h2; omega
    · intro h2; omega
  · split
    · rename_i h; exact ⟨fun _ => h, fun _ => rfl⟩
    · rename_i h; exact ⟨fun h2 => by omega, fun h2 => absurd h2 h⟩
theorem cmpIqlt {x y : Int} : cmpI x y < 0 ↔ x < y := by
  unfold cmpI
  split
  · rename_i h; exact ⟨fun _ => h, fun _ => by decide⟩
  · rename_i h
    split
    · exact ⟨fun h2 => by omega, fun h2 => absurd h2 h⟩
    · exact ⟨fun h2 => by omega, fun h2 => absurd h2 h⟩
theorem cmpIqgt {x y : Int} : 0 < cmpI x y ↔ y < x := by
  unfold cmpI
  split
  · rename_i h; exact ⟨fun h2 => by omega, fun h2 => by omega⟩
  · split
    · rename_i h; exact ⟨fun h2 => by omega, fun h2 => by omega⟩
    · rename_i h1 h; exact ⟨fun _ => by omega, fun _ => by decide⟩

theorem ab_lit {c : Int} (h : ab c < 4294967296 * 4294967296 * 4294967296) : ab c < pw 3 := h

theorem exDMq {w : World} {v v' : Value} {a b : Int} (h : Num w v a) (h' : Num w v' b) (hb : b ≠ 0) {j k : Nat} (hq : ab (a / b) < pw j) (hr : ab (a % b) < pw k) (hj : j ≤ 900000) (hk : k ≤ 900000) :
    Calls Tryd.prog 65 #[v, v'] w fun e w' => ∃ v', e = .returned v' ∧ Below w.heap.size w w' ∧ (Fq.tup3 (Fq.num (a / b)) (Fq.num (a % b)) (Fq.is (.int .i64 0))).P v' w' :=
  (exDT h h' hb hq hr hj hk).mono fun _ _ ⟨v', e, hb', v1, v2, e2, h1, h2⟩ => ⟨v', e, hb', v1, v2, _, e2, h1, h2, rfl⟩

theorem OfK (w : World) (z : Int) (h0 : -9223372036854775808 ≤ z) (h1 : z ≤ 9223372036854775807) : Calls Tryd.prog 57 #[.int .i64 z] w fun e w' => ∃ v', e = .returned v' ∧ Below w.heap.size w w' ∧ Num w' v' z := OfV w z h0 h1
theorem rOfK (w : World) (z : Int) (h0 : -9223372036854775808 ≤ z) (h1 : z ≤ 9223372036854775807) : Calls Tryd.prog 40 #[.int .i64 z] w fun e w' => ∃ v', e = .returned v' ∧ Below w.heap.size w w' ∧ Num w' v' z := rOfV w z h0 h1

end Go.Proofs.YtieobgadihcgeaaDoor

/- Walks: package rational and its reference, on fractions. -/
namespace Go.Proofs.YtieobgadihcgeaaDoor
open Go Go.RowKit

theorem bq_box {w : World} {b : Nat} {z : Int} (h : Bq w b 2 (Fq.num z)) : BoxNum w b z := by
  obtain ⟨us, hl, _, hat, _, hP⟩ := h
  match us, hl, hat, hP with
  | [p, q], _, hat, hP =>
    have hN : Num w (.agg #[p, q]) z := hP
    obtain ⟨n, ao, k, c, e⟩ := hN.parts
    have e1 := congrArg (fun v => match v with | Value.agg us => us.toList | _ => []) e
    simp at e1
    obtain ⟨rfl, rfl⟩ := e1
    exact ⟨n, ao, k, c, ⟨(hat 0 (by simp)).1, (hat 1 (by simp)).1, (hat 0 (by simp)).2, (hat 1 (by simp)).2⟩, hN⟩

theorem Fr.drop {w0 W : World} {x : Nat × Nat × Fq} {bs : List (Nat × Nat × Fq)} (h : Fr w0 (x :: bs) W) : Fr w0 bs W :=
  ⟨h.below, fun y hy => h.boxes y (List.mem_cons_of_mem _ hy), by have := h.apart; rw [List.map_cons, List.nodup_cons] at this; exact this.2⟩

theorem exRSame {w : World} {v v' : Value} {a b : Int} (h : Num w v a) (h' : Num w v' b) : Calls Tryd.prog 32 #[v, v'] w fun e w' => ∃ v', e = .returned v' ∧ Below w.heap.size w w' ∧ v' = .bool (decide (a = b)) :=
  (SameV h h').mono fun _ _ hh => ⟨_, hh.1, hh.2, rfl⟩

end Go.Proofs.YtieobgadihcgeaaDoor

/- Walks: the reference's Gcd; its package of fractions. -/
namespace Go.Proofs.YtieobgadihcgeaaDoor
open Go Go.RowKit

/-- A sign and words. -/
def Fq.raw (n : Bool) (a : Option Addr) (k c : Nat) (xs : List Int) : Fq := ⟨fun v w => v = .agg #[.bool n, .slice a k c] ∧ Sl w a k c xs, fun h hb => ⟨h.1, h.2.mono hb⟩, fun h ha ht hl => ⟨h.1, h.2.putAt ha ht hl⟩⟩
section
variable {n n' : Bool} {a a' : Option Addr} {k c k' c' : Nat} {xs xs' : List Int}
theorem ld_raw {us : List Value} {w : World} (hl : us.length = 2) (h : (Fq.raw n a k c xs).P (.agg us.toArray) w) : (Fq.raw n a k c xs).P (.agg #[us.getD 0 undef, us.getD (0 + 1) undef]) w := by
  match us, hl with
  | [p, q], _ => exact h
end

section
variable {os : List Oper} {Q : Exit → Act → World → Prop} {a : Act} {p : Pq} {B B0 : Nat} {w0 : World}
variable {i s : Nat} {d : Option Tmp} {ty : TypeId} {ps : String} {af : Array Edge} {gd : Option (Nat × Bool)}
theorem q_loadRaw {o : Ob} {off : Nat} {x : Operand} (hp : p.Ok B B0) (hF : p.Free i) (hg : GdQ os a p B B0 w0 af gd) (ho : o ∈ p.old) (hk : o.F1 = o.F0 ∨ leadsB os 9 o.k i = true) (hoff : off + 2 ≤ o.m)
    (hx : SrcQ os a p B B0 w0 af x fun u _ => u = .pointer (some ⟨o.b, off, none⟩)) (hC : ∀ (us : List Value) (w : World), us.length = o.m → o.F0.P (.agg us.toArray) w → (p.c i).P (.agg #[us.getD off undef, us.getD (off + 1) undef]) w) :
    StepQ os Q a p B B0 w0 i { dst := d, op := .load 24 x, type := ty, pos := ps, after := af, guard := gd } := by
  refine stq_val hp hF hg fun L vs w hG hL hc hd => ?_
  obtain ⟨us, hl, h0, hat, ht, hP⟩ := box_now ho hk hG hL hc
  have e := hx L vs w hG hd
  have c0 := (hat off (by omega)).1
  have c1 := (hat (off + 1) (by omega)).1
  refine ⟨_, ?_, hC us w hl hP⟩
  generalize (lay os.toArray L vs os.toArray.size a).eval = ρ at e
  generalize us.getD off undef = u0 at c0 ⊢
  generalize us.getD (off + 1) undef = u1 at c1 ⊢
  simp [execOp, go_sem, e, c0, c1]
end

theorem exRMade {w : World} {v v' : Value} {n : Bool} {a : Option Addr} {k c : Nat} {xs : List Int} {j : Nat} (h : (Fq.raw n a k c xs).P v w) (h' : v' = .int .i64 j) (hk : k ≤ 9223372036854775807) (hj : j ≤ 900000) :
    Calls Tryd.prog 10 #[v, v'] w fun e w' => ∃ v', e = .returned v' ∧ Below w.heap.size w w' ∧ Num w' v' (sgn n (val (xs.take j))) := by
  obtain ⟨rfl, hs⟩ := h
  subst h'
  exact exK (Made_any _ _ _ _ _ _ hs hk j hj) (Num.ofMade hs.digs) hj

theorem exRSameB {w : World} {v v' : Value} {a b : Int} {t : Bool} (h : Num w v a) (h' : Num w v' b) (ht : decide (a = b) = t) : Calls Tryd.prog 32 #[v, v'] w fun e w' => ∃ v', e = .returned v' ∧ Below w.heap.size w w' ∧ v' = .bool t := by
  have := exRSame h h'
  rw [ht] at this
  exact this

end Go.Proofs.YtieobgadihcgeaaDoor

/- Decimal texts: what a text says, and that it is the only text of its number. Nothing of the program is used. Walk: a size times ten and a digit, in its place. Walks: read, whole. Walk: Parse, whole. -/
namespace Go.Proofs.YtieobgadihcgeaaDoor
open Go Go.RowKit

end Go.Proofs.YtieobgadihcgeaaDoor

namespace Go.Proofs.YtieobgadihcgeaaDoor
open Go Go.RowKit

theorem Ow.set {w : World} {B g n c : Nat} {zs : List Int} (h : Ow w B (.slice (some ⟨g, 0, none⟩) n c) zs) {j : Nat} (hj : j < n) {x : Int} (hx0 : 0 ≤ x) (hx1 : x < 4294967296) : Ow (w.setCell ⟨g, j, none⟩ (.int .u32 x)) B (.slice (some ⟨g, 0, none⟩) n c) (zs.set j x) := by
  obtain ⟨⟨h1, h2⟩, h3⟩ := h
  rcases h2 with ⟨h4, _⟩ | ⟨g', cap, cur, h4, h5, h6, h7, h8, h9, h10⟩
  · cases h4
  · cases h4
    refine ⟨⟨by simp, .inr ⟨g, c, cur.setIfInBounds j (.int .u32 x), by rw [List.length_set], h5, ?_, by rw [List.length_set]; exact h7, h8, by simpa using h9, ?_⟩⟩, h3.set j ⟨hx0, hx1⟩⟩
    · simp only [World.setCell, Array.getElem?_modify, if_true, h6, Option.map_some, Option.isSome_none]
      simp
    · rw [List.length_set, Array.toList_setIfInBounds, List.take_set, h10, List.map_set]

end Go.Proofs.YtieobgadihcgeaaDoor

namespace Go.Proofs.YtieobgadihcgeaaDoor
open Go Go.RowKit

theorem Ow.nil (w : World) (B : Nat) : Ow w B (.slice none 0 0) [] := ⟨World.ownsRow_nil _ _ _ _, fun _ h => by simp at h⟩

end Go.Proofs.YtieobgadihcgeaaDoor

namespace Go.Proofs.YtieobgadihcgeaaDoor
open Go Go.RowKit

end Go.Proofs.YtieobgadihcgeaaDoor

/- Walks: fractions made of descriptions; texts; Valid. -/
namespace Go.Proofs.YtieobgadihcgeaaDoor
open Go Go.RowKit

end Go.Proofs.YtieobgadihcgeaaDoor

/- Walks: Valid; Parse of "2/4"; the simplest fraction. -/
namespace Go.Proofs.YtieobgadihcgeaaDoor
open Go Go.RowKit

end Go.Proofs.YtieobgadihcgeaaDoor

/- Walks: the simplest fraction between two. -/
namespace Go.Proofs.YtieobgadihcgeaaDoor
open Go Go.RowKit

/-- A box of the call's own is stored to. -/
theorem Fr.put {w0 W : World} {b m : Nat} {F F' : Fq} {bs : List (Nat × Nat × Fq)} (h : Fr w0 ((b, m, F) :: bs) W) {us : List Value} (hl : us.length = m) (ht : Tame us) (hF : F'.P (.agg us.toArray) W) : Fr w0 ((b, m, F') :: bs) (putFrom W b 0 us) := by
  have hb := h.boxes _ List.mem_cons_self
  refine ⟨putFrom_below hb.1 us 0 _ _ h.below, fun x hx => ?_, h.apart⟩
  rcases List.mem_cons.1 hx with rfl | hx
  · exact ⟨hb.1, hb.2.same hl ht hF⟩
  · have hx2 := h.boxes x (List.mem_cons_of_mem _ hx)
    refine ⟨hx2.1, hx2.2.other hb.2 (fun e => ?_) hl⟩
    have hn := h.apart
    rw [List.map_cons, List.nodup_cons] at hn
    exact hn.1 (by rw [show (b, m, F).1 = x.1 from e.symm]; exact List.mem_map.2 ⟨x, hx, rfl⟩)

section
variable {os : List Oper} {Q : Exit → Act → World → Prop} {a : Act} {p : Pq} {B B0 : Nat} {w0 : World}
variable {i s : Nat} {d : Option Tmp} {ty : TypeId} {ps : String} {af : Array Edge} {gd : Option (Nat × Bool)}
/-- An integer out of a box that was there before the call. -/
theorem q_loadIntOut {b : Nat} {F : Fq} {x : Operand} (hp : p.Ok B B0) (hF : p.Free i) (hg : GdQ os a p B B0 w0 af gd) (hb : Bq w0 b 2 F) (hB : B = w0.heap.size) (hx : SrcQ os a p B B0 w0 af x fun u _ => u = .pointer (some ⟨b, 0, none⟩)) (hC : ∀ v w, F.P v w → (p.c i).P v w) :
    StepQ os Q a p B B0 w0 i { dst := d, op := .load 29 x, type := ty, pos := ps, after := af, guard := gd } := by
  subst hB
  refine stq_val hp hF hg fun L vs w hG hL hc hd => ?_
  obtain ⟨us, hl, h0, hat, ht, hP⟩ := hb.mono hG.below
  have e := hx L vs w hG hd
  match us, hl, hat, hP with
  | [u0, u1], _, hat, hP =>
    have c0 := (hat 0 (by simp)).1
    have c1 := (hat 1 (by simp)).1
    simp at c0 c1
    refine ⟨_, ?_, hC _ w hP⟩
    generalize (lay os.toArray L vs os.toArray.size a).eval = ρ at e
    simp [execOp, go_sem, e, c0, c1]
end

end Go.Proofs.YtieobgadihcgeaaDoor

/- Walks: Between; the examples of the laws on fractions. -/
namespace Go.Proofs.YtieobgadihcgeaaDoor
open Go Go.RowKit

end Go.Proofs.YtieobgadihcgeaaDoor

/- Steps of a region over slices of fractions. -/
namespace Go.Proofs.YtieobgadihcgeaaDoor
open Go Go.RowKit

section
variable {os : List Oper} {Q : Exit → Act → World → Prop} {a : Act} {p : Pq} {B B0 : Nat} {w0 : World}
variable {i s : Nat} {d : Option Tmp} {ty : TypeId} {ps : String} {af : Array Edge} {gd : Option (Nat × Bool)}

/-- A value is passed on inside the region. -/
theorem stepS_assign {same : List (Nat × Nat)} {j : Nat} (hp : p.Ok B B0) (hF : p.Free i) (ha : apartB (os.map (·.dst)) = true) (hj : (os.map (·.dst))[j]? = some (some s)) (hs : s < a.tmps.size) (hdep : depA af j = true) (hC : ∀ v w, (p.c i).P v w)
    (hsm : same.all (fun x => x.1 != i || x.2 == j) = true) (hne : j ≠ i) : StepS os Q a p B B0 w0 same i { dst := d, op := .assign (.tmp s), type := ty, pos := ps, after := af, guard := none } := by
  intro hio L vs w hG hL hd hc
  have hLj := depA_of hdep hd
  have he := lay_in (vs := vs) ha hLj hj hs
  refine wpOp_step hio fun K' hK => ?_
  have hwn : Region.wanted ({ dst := d, op := .assign (.tmp s), type := ty, pos := ps, after := af, guard := none } : Oper) (yielded os.toArray (lay os.toArray L vs os.toArray.size a).tmps) = true := rfl
  rw [if_pos hwn]
  have e : (execOp (lay os.toArray L vs os.toArray.size a).eval ({ dst := d, op := .assign (.tmp s), type := ty, pos := ps, after := af, guard := none } : Oper)).run Tryd.prog w = .ok (.value (vs j)) w := by
    generalize (lay os.toArray L vs os.toArray.size a).eval = ρ at he
    simp [execOp, go_sem, he]
  unfold Oper.wp
  rw [e]
  refine hK _ _ ⟨_, rfl, hG.1.plain hp hF (Below.refl _ _) (hC _ _), fun x hx h1 => ?_⟩
  by_cases hx1 : x.1 = i
  · have h2 : x.2 = j := by
      have := List.all_eq_true.1 hsm x hx
      simpa [hx1] using this
    rw [hx1, h2, up_same, up_ne _ _ hne, up_ne _ _ hne]
    exact ⟨hLj, rfl⟩
  · rw [up_ne _ _ hx1] at h1
    obtain ⟨h2, h3⟩ := hG.2 x hx h1
    have hx2 : x.2 ≠ i := fun e => by rw [e, hL] at h2; cases h2
    rw [up_ne _ _ hx1, up_ne _ _ hx2, up_ne _ _ hx2]
    exact ⟨h2, h3⟩

end

theorem newks_ne {C : List Fq} {bs : List (Nat × Nat × Fq)} {ks : List (Option (Nat × Fq))} {new : List Nb} {len i : Nat} (h : new.all (fun n => n.i == i || n.k != i) = true) : ∀ n ∈ (plq C bs ks new len).new, n.i ≠ i → n.k ≠ i := fun n hn hi e => by
  have := List.all_eq_true.1 h n hn
  simp [e, hi] at this

end Go.Proofs.YtieobgadihcgeaaDoor

/- Steps of a region over functions that hold a box. -/
namespace Go.Proofs.YtieobgadihcgeaaDoor
open Go Go.RowKit

/-- A box that a call has laid. -/
theorem Pq.G.made {p : Pq} {B B0 : Nat} {w0 w w' : World} {L : Nat → Bool} {vs : Nat → Value} (h : p.G B B0 w0 L vs w) (hp : p.Ok B B0) {n0 : Nb} (hi : n0 ∈ p.new) {F : Fq} (hk : n0.now (up L n0.i true) = F)
    (hC : ∀ v w', (p.c n0.i).P v w') (h1 : ∀ o ∈ p.old, o.k ≠ n0.i) (h2 : ∀ n ∈ p.new, n.i ≠ n0.i → n.k ≠ n0.i) {b : Nat} (hbs : w.heap.size ≤ b) (hb : Below w.heap.size w w') (hbx : Bq w' b n0.m F) :
    p.G B B0 w0 (up L n0.i true) (up vs n0.i (n0.ptr b)) w' := by
  refine ⟨h.below.trans (hb.mono (Nat.le_trans hp.le h.size)), Nat.le_trans h.size hb.size, fun j hj => ?_, fun o ho => ?_, fun n hn hj => ?_, fun n hn m hm hne hj hk' => ?_⟩
  · by_cases hji : j = n0.i
    · subst hji; exact hC _ _
    · rw [up_ne _ _ hji] at hj ⊢; exact (p.c j).mono (h.val j hj) hb
  · rw [up_ne _ _ (h1 o ho)]; exact (h.old o ho).mono hb
  · by_cases hni : n.i = n0.i
    · have e := hp.newinj n hn _ hi hni
      subst e
      rw [up_same, hk]
      exact ⟨_, rfl, Nat.le_trans h.size hbs, hbx⟩
    · rw [Nb.now_up (h2 n hn hni)]
      rw [up_ne _ _ hni] at hj ⊢
      obtain ⟨b, e1, e2, e3⟩ := h.new n hn hj
      exact ⟨b, e1, e2, e3.mono hb⟩
  · by_cases hni : n.i = n0.i
    · have hmi : m.i ≠ n0.i := fun e => hne (hni.trans e.symm)
      rw [hni, up_same]
      rw [up_ne _ _ hmi] at hk' ⊢
      obtain ⟨b, e1, e2, e3⟩ := h.new m hm hk'
      rw [e1, Nb.block_ptr, Nb.block_ptr]
      have := e3.lt
      omega
    · rw [up_ne _ _ hni] at hj ⊢
      by_cases hmi : m.i = n0.i
      · rw [hmi, up_same]
        obtain ⟨b, e1, e2, e3⟩ := h.new n hn hj
        rw [e1, Nb.block_ptr, Nb.block_ptr]
        have := e3.lt
        omega
      · rw [up_ne _ _ hmi] at hk' ⊢
        exact h.apart n hn m hm hne hj hk'

section
variable {os : List Oper} {Q : Exit → Act → World → Prop} {a : Act} {p : Pq} {B B0 : Nat} {w0 : World}
variable {i s : Nat} {d : Option Tmp} {ty : TypeId} {ps : String} {af : Array Edge} {gd : Option (Nat × Bool)}

/-- The zero value of an integer. -/
theorem q_zeroInt (hp : p.Ok B B0) (hF : p.Free i) (hg : GdQ os a p B B0 w0 af gd) (hC : ∀ w, (p.c i).P (.agg #[.bool false, .slice none 0 0]) w) : StepQ os Q a p B B0 w0 i { dst := d, op := .build 29 #[], type := ty, pos := ps, after := af, guard := gd } := by
  refine stq_val hp hF hg fun L vs w hG hL hc hd => ⟨.agg #[.bool false, .slice none 0 0], ?_, hC w⟩
  generalize (lay os.toArray L vs os.toArray.size a).eval = ρ
  simp [execOp, go_sem]
theorem q_call3 {x y z : Operand} {F G F3 : Value → World → Prop} {f : FuncId} {ts : Array TypeId} (hp : p.Ok B B0) (hF : p.Free i) (hg : GdQ os a p B B0 w0 af gd) (hen : ∀ args w, (callFunc f args).run Tryd.prog w = .ok (.enter f args) w)
    (hx : SrcQ os a p B B0 w0 af x F) (hy : SrcQ os a p B B0 w0 af y G) (hz : SrcQ os a p B B0 w0 af z F3) (hC : ∀ v v' u w, F v w → G v' w → F3 u w → Calls Tryd.prog f #[v, v', u] w fun e w' => ∃ v', e = .returned v' ∧ Below w.heap.size w w' ∧ (p.c i).P v' w') :
    StepQ os Q a p B B0 w0 i { dst := d, op := .call { callee := .value (.func f), args := #[x, y, z], argTypes := ts }, type := ty, pos := ps, after := af, guard := gd } :=
  stq_call hp hF hg hen fun L vs w hG hd => ⟨#[_, _, _], by simp, hC _ _ _ _ (hx L vs w hG hd) (hy L vs w hG hd) (hz L vs w hG hd)⟩
theorem q_call4 {x y z t : Operand} {F G F3 F4 : Value → World → Prop} {f : FuncId} {ts : Array TypeId} (hp : p.Ok B B0) (hF : p.Free i) (hg : GdQ os a p B B0 w0 af gd) (hen : ∀ args w, (callFunc f args).run Tryd.prog w = .ok (.enter f args) w)
    (hx : SrcQ os a p B B0 w0 af x F) (hy : SrcQ os a p B B0 w0 af y G) (hz : SrcQ os a p B B0 w0 af z F3) (ht : SrcQ os a p B B0 w0 af t F4) (hC : ∀ v v' u u' w, F v w → G v' w → F3 u w → F4 u' w → Calls Tryd.prog f #[v, v', u, u'] w fun e w' => ∃ v', e = .returned v' ∧ Below w.heap.size w w' ∧ (p.c i).P v' w') :
    StepQ os Q a p B B0 w0 i { dst := d, op := .call { callee := .value (.func f), args := #[x, y, z, t], argTypes := ts }, type := ty, pos := ps, after := af, guard := gd } :=
  stq_call hp hF hg hen fun L vs w hG hd => ⟨#[_, _, _, _], by simp, hC _ _ _ _ _ (hx L vs w hG hd) (hy L vs w hG hd) (hz L vs w hG hd) (ht L vs w hG hd)⟩

/-- A call makes a function that holds a box. -/
theorem q_callMake {n0 : Nb} {x : Operand} {f g : FuncId} {ts : Array TypeId} {F : Value → World → Prop} (hp : p.Ok B B0) (hen : ∀ args w, (callFunc f args).run Tryd.prog w = .ok (.enter f args) w) (hi : n0 ∈ p.new) (hii : n0.i = i) (hki : n0.k = i) (hsl : n0.s = some (.clo g))
    (hx : SrcQ os a p B B0 w0 af x F) (hC : ∀ v w, F v w → Calls Tryd.prog f #[v] w fun e w' => ∃ b, e = .returned (cloV g b) ∧ w.heap.size ≤ b ∧ Below w.heap.size w w' ∧ Bq w' b n0.m n0.F1)
    (hany : ∀ v w', (p.c i).P v w') (h1 : ∀ o ∈ p.old, o.k ≠ i) (h2 : ∀ n ∈ p.new, n.i ≠ i → n.k ≠ i) :
    StepQ os Q a p B B0 w0 i { dst := d, op := .call { callee := .value (.func f), args := #[x], argTypes := ts }, type := ty, pos := ps, after := af, guard := none } := by
  intro hio L vs w hG hL hd hc
  refine wpOp_step hio fun K' hK => ?_
  have h0 := hx L vs w hG hd
  have hwn : Region.wanted ({ dst := d, op := .call { callee := .value (.func f), args := #[x], argTypes := ts }, type := ty, pos := ps, after := af, guard := none } : Oper) (yielded os.toArray (lay os.toArray L vs os.toArray.size a).tmps) = true := rfl
  rw [if_pos hwn]
  have e : (execOp (lay os.toArray L vs os.toArray.size a).eval ({ dst := d, op := .call { callee := .value (.func f), args := #[x], argTypes := ts }, type := ty, pos := ps, after := af, guard := none } : Oper)).run Tryd.prog w = (.ok (.enter f #[(lay os.toArray L vs os.toArray.size a).eval x]) w) := by
    have hf : (lay os.toArray L vs os.toArray.size a).eval (.func f) = .func (.func f) #[] #[] := rfl
    generalize (lay os.toArray L vs os.toArray.size a).eval = ρ at hf
    simp [execOp, go_sem, hf, hen]
  unfold Oper.wp
  rw [e]
  refine (hC _ w h0).mono ?_
  rintro e' w' ⟨b, rfl, hbs, hb, hbx⟩
  subst hii
  have hnow : n0.now (up L n0.i true) = n0.F1 := by
    unfold Nb.now
    rw [hsl]
    rfl
  have hlay := hG.made hp hi (F := n0.F1) hnow hany h1 h2 hbs hb hbx
  have hptr : n0.ptr b = cloV g b := by unfold Nb.ptr; rw [hsl]
  rw [hptr] at hlay
  exact hK _ _ ⟨_, rfl, hlay⟩

theorem stq_clo {f0 : Operand} {g : FuncId} {xs : Array Operand} {ts : Array TypeId} (hp : p.Ok B B0) (hF : p.Free i) (hg : GdQ os a p B B0 w0 af gd) (hen : ∀ args w, (callFunc g args).run Tryd.prog w = .ok (.enter g args) w)
    (hr : ∀ L vs w, p.G B B0 w0 L vs w → (∀ e ∈ af, Region.binds .any e = true → L e.on = true) → ∃ args b, xs.map (lay os.toArray L vs os.toArray.size a).eval = args ∧ (lay os.toArray L vs os.toArray.size a).eval f0 = cloV g b ∧
      Calls Tryd.prog g (args ++ #[.pointer (some ⟨b, 0, none⟩)]) w fun e w' => ∃ v', e = .returned v' ∧ Below w.heap.size w w' ∧ (p.c i).P v' w') :
    StepQ os Q a p B B0 w0 i { dst := d, op := .call { callee := .value f0, args := xs, argTypes := ts }, type := ty, pos := ps, after := af, guard := gd } := by
  intro hio L vs w hG hL hd hc
  refine wpOp_step hio fun K' hK => ?_
  obtain ⟨args, b, hx, hf, hC⟩ := hr L vs w hG hd
  rw [if_pos (wanted_of (o := { dst := d, op := .call { callee := .value f0, args := xs, argTypes := ts }, type := ty, pos := ps, after := af, guard := gd }) hg hG hd)]
  have e : (execOp (lay os.toArray L vs os.toArray.size a).eval ({ dst := d, op := .call { callee := .value f0, args := xs, argTypes := ts }, type := ty, pos := ps, after := af, guard := gd } : Oper)).run Tryd.prog w = (.ok (.enter g (args ++ #[.pointer (some ⟨b, 0, none⟩)])) w) := by
    unfold cloV at hf
    generalize (lay os.toArray L vs os.toArray.size a).eval = ρ at hx hf
    simp [execOp, go_sem, hx, hf, hen]
  unfold Oper.wp
  rw [e]
  refine hC.mono ?_
  rintro e' w' ⟨v', rfl, hb, h⟩
  exact hK _ _ ⟨_, rfl, hG.plain hp hF hb h⟩

/-- A function of the region is called. -/
theorem q_callCloIn {n0 : Nb} {f0 x : Operand} {g : FuncId} {ts : Array TypeId} {F : Value → World → Prop} (hp : p.Ok B B0) (hF : p.Free i) (hg : GdQ os a p B B0 w0 af gd) (hen : ∀ args w, (callFunc g args).run Tryd.prog w = .ok (.enter g args) w) (hi : n0 ∈ p.new) (hsl : n0.s = some (.clo g))
    (hf : ∀ L vs w, p.G B B0 w0 L vs w → (∀ e ∈ af, Region.binds .any e = true → L e.on = true) → L n0.i = true ∧ (lay os.toArray L vs os.toArray.size a).eval f0 = vs n0.i) (hx : SrcQ os a p B B0 w0 af x F)
    (hC : ∀ v b w, F v w → Bq w b n0.m n0.F1 → Calls Tryd.prog g #[v, .pointer (some ⟨b, 0, none⟩)] w fun e w' => ∃ v', e = .returned v' ∧ Below w.heap.size w w' ∧ (p.c i).P v' w') :
    StepQ os Q a p B B0 w0 i { dst := d, op := .call { callee := .value f0, args := #[x], argTypes := ts }, type := ty, pos := ps, after := af, guard := gd } :=
  stq_clo hp hF hg hen fun L vs w hG hd => by
    obtain ⟨hLi, hye⟩ := hf L vs w hG hd
    obtain ⟨b, e1, _, hb⟩ := hG.new _ hi hLi
    have hptr : n0.ptr b = cloV g b := by unfold Nb.ptr; rw [hsl]
    have hnow : n0.now L = n0.F1 := by
      unfold Nb.now
      rw [hsl]
      rfl
    rw [hnow] at hb
    exact ⟨_, b, rfl, by rw [hye, e1, hptr], by simpa using hC _ b w (hx L vs w hG hd) hb⟩

/-- A function from before is called. -/
theorem q_callCloOut {o : Ob} {f0 x : Operand} {g : FuncId} {ts : Array TypeId} {F : Value → World → Prop} (hp : p.Ok B B0) (hF : p.Free i) (hg : GdQ os a p B B0 w0 af gd) (hen : ∀ args w, (callFunc g args).run Tryd.prog w = .ok (.enter g args) w) (ho : o ∈ p.old) (hk : o.F1 = o.F0)
    (hf : SrcQ os a p B B0 w0 af f0 fun v _ => v = cloV g o.b) (hx : SrcQ os a p B B0 w0 af x F)
    (hC : ∀ v w, F v w → Bq w o.b o.m o.F0 → Calls Tryd.prog g #[v, .pointer (some ⟨o.b, 0, none⟩)] w fun e w' => ∃ v', e = .returned v' ∧ Below w.heap.size w w' ∧ (p.c i).P v' w') :
    StepQ os Q a p B B0 w0 i { dst := d, op := .call { callee := .value f0, args := #[x], argTypes := ts }, type := ty, pos := ps, after := af, guard := gd } :=
  stq_clo hp hF hg hen fun L vs w hG hd => by
    have hb := hG.old o ho
    rw [hk] at hb
    exact ⟨_, o.b, rfl, hf L vs w hG hd, by simpa using hC _ w (hx L vs w hG hd) (by simpa using hb)⟩
end

theorem enq_M_within (args : Array Value) (w : World) : (callFunc 47 args).run Tryd.prog w = .ok (.enter 47 args) w := enter_of Tryd.func47 (by kernel_rfl) rfl args w
theorem enq_M_within1 (args : Array Value) (w : World) : (callFunc 72 args).run Tryd.prog w = .ok (.enter 72 args) w := enter_of Tryd.func72 (by kernel_rfl) rfl args w

/-- The function that takes residues modulo a number. -/
theorem exWithin {w : World} {v : Value} {m : Int} (h : Num w v m) : Calls Tryd.prog 47 #[v] w fun e w' => ∃ b, e = .returned (cloV 72 b) ∧ w.heap.size ≤ b ∧ Below w.heap.size w w' ∧ Bq w' b 2 (Fq.num m) := by
  obtain ⟨n0, ao0, k0, c0, rfl⟩ := h.parts
  obtain ⟨w1, b1, hw1, hb1, hs1, E⟩ := fr_start w (F := Fq.num m) (us := [.bool n0, .slice ao0 k0 c0]) 29 rfl (by simp) (tame_int _ _ _ _) h
  go_enter Tryd.func47, Tryd.ntmps47
  go_upto_region 1 with (fail)
  rw [← hw1]
  rw [← hb1]
  have hbs : w.heap.size ≤ b1 := (E.boxes _ (List.mem_cons_self ..)).1
  have hbx := (E.boxes _ (List.mem_cons_self ..)).2
  clear hw1 hb1 hs1
  go_wp2
  refine bodyPost_ret (v := cloV 72 b1) ?_ rfl ⟨_, rfl, hbs, E.below, hbx⟩
  simp [results, Tryd.results47, go_sem, cloV]

end Go.Proofs.YtieobgadihcgeaaDoor

/- The symbol of Jacobi, by Gauss's count: products, the second law, reciprocity, Euler. -/
namespace Go.Proofs.YtieobgadihcgeaaDoor
open Go Go.RowKit

/-- A product over a list, a sum over a list. -/
def prodL (f : Nat → Int) (l : List Nat) : Int := l.foldr (fun k z => f k * z) 1
def sumL (f : Nat → Int) (l : List Nat) : Int := l.foldr (fun k z => f k + z) 0
theorem prodL_perm {l l' : List Nat} (h : l.Perm l') (f : Nat → Int) : prodL f l = prodL f l' := h.foldr_eq' (fun x _ y _ z => by ac_rfl) 1
theorem prodL_cons (f : Nat → Int) (k : Nat) (l : List Nat) : prodL f (k :: l) = f k * prodL f l := rfl
theorem sumL_cons (f : Nat → Int) (k : Nat) (l : List Nat) : sumL f (k :: l) = f k + sumL f l := rfl
theorem prodL_mul (f g : Nat → Int) : ∀ l, prodL (fun k => f k * g k) l = prodL f l * prodL g l
  | [] => rfl
  | k :: l => by rw [prodL_cons, prodL_cons, prodL_cons, prodL_mul f g l]; ac_rfl
theorem sumL_add (f g : Nat → Int) : ∀ l, sumL (fun k => f k + g k) l = sumL f l + sumL g l
  | [] => rfl
  | k :: l => by rw [sumL_cons, sumL_cons, sumL_cons, sumL_add f g l]; omega
theorem prodL_map (f : Nat → Int) (s : Nat → Nat) : ∀ l, prodL f (l.map s) = prodL (fun k => f (s k)) l
  | [] => rfl
  | k :: l => by rw [List.map_cons, prodL_cons, prodL_cons, prodL_map f s l]
theorem prodL_congr {f g : Nat → Int} : ∀ {l : List Nat}, (∀ k ∈ l, f k = g k) → prodL f l = prodL g l
  | [], _ => rfl
  | k :: l, h => by rw [prodL_cons, prodL_cons, h k (by simp), prodL_congr (fun j hj => h j (by simp [hj]))]
theorem sumL_congr {f g : Nat → Int} : ∀ {l : List Nat}, (∀ k ∈ l, f k = g k) → sumL f l = sumL g l
  | [], _ => rfl
  | k :: l, h => by rw [sumL_cons, sumL_cons, h k (by simp), sumL_congr (fun j hj => h j (by simp [hj]))]
theorem sumL_swap (f : Nat → Nat → Int) (l2 : List Nat) : ∀ l1, sumL (fun k => sumL (fun j => f k j) l2) l1 = sumL (fun j => sumL (fun k => f k j) l1) l2
  | [] => by
    show (0 : Int) = _
    induction l2 with
    | nil => rfl
    | cons j l2 ih => rw [sumL_cons, ← ih]; rfl
  | k :: l1 => by
    rw [sumL_cons, sumL_swap f l2 l1, ← sumL_add]
    rfl
theorem sumL_append (f : Nat → Int) (l2 : List Nat) : ∀ l1, sumL f (l1 ++ l2) = sumL f l1 + sumL f l2
  | [] => by show _ = 0 + _; rw [Int.zero_add]; rfl
  | k :: l1 => by rw [List.cons_append, sumL_cons, sumL_cons, sumL_append f l2 l1]; omega
theorem prodL_append (f : Nat → Int) (l2 : List Nat) : ∀ l1, prodL f (l1 ++ l2) = prodL f l1 * prodL f l2
  | [] => by show _ = 1 * _; rw [Int.one_mul]; rfl
  | k :: l1 => by rw [List.cons_append, prodL_cons, prodL_cons, prodL_append f l2 l1]; ac_rfl

/-- The numbers from 1 to h. -/
def up1 (h : Nat) : List Nat := List.range' 1 h
theorem up1_mem {h k : Nat} : k ∈ up1 h ↔ 1 ≤ k ∧ k ≤ h := by
  unfold up1
  rw [List.mem_range'_1]
  omega
theorem up1_succ (h : Nat) : up1 (h + 1) = up1 h ++ [h + 1] := by
  unfold up1
  rw [List.range'_1_concat, Nat.add_comm 1 h]
theorem up1_nodup (h : Nat) : (up1 h).Nodup := List.nodup_range' 1
theorem nlen_le : ∀ (h : Nat) (L : List Nat), L.Nodup → (∀ x ∈ L, 1 ≤ x ∧ x ≤ h) → L.length ≤ h
  | 0, L, _, hx => by
    cases L with
    | nil => exact Nat.le_refl _
    | cons x L => have := hx x (by simp); omega
  | h + 1, L, hn, hx => by
    by_cases hm : h + 1 ∈ L
    · have h1 := nlen_le h (L.erase (h + 1)) (hn.erase _) (fun x hxe => by
        have h2 := hx x (List.mem_of_mem_erase hxe)
        have h3 : x ≠ h + 1 := fun e => by subst e; exact hn.not_mem_erase hxe
        omega)
      have := List.length_erase_of_mem hm
      omega
    · have h1 := nlen_le h L hn (fun x hxe => by
        have h2 := hx x hxe
        have h3 : x ≠ h + 1 := fun e => hm (by rw [← e]; exact hxe)
        omega)
      omega
theorem perm_up1 : ∀ (h : Nat) (L : List Nat), L.Nodup → (∀ x ∈ L, 1 ≤ x ∧ x ≤ h) → L.length = h → L.Perm (up1 h)
  | 0, L, _, _, hl => by
    cases L with
    | nil => exact List.Perm.refl _
    | cons x L => simp at hl
  | h + 1, L, hn, hx, hl => by
    by_cases hm : h + 1 ∈ L
    · have h1 := perm_up1 h (L.erase (h + 1)) (hn.erase _) (fun x hxe => by
        have h2 := hx x (List.mem_of_mem_erase hxe)
        have h3 : x ≠ h + 1 := fun e => by subst e; exact hn.not_mem_erase hxe
        omega) (by rw [List.length_erase_of_mem hm]; omega)
      rw [up1_succ]
      exact (List.perm_cons_erase hm).trans ((h1.cons _).trans (List.perm_append_singleton _ _).symm)
    · have h1 := nlen_le h L hn (fun x hxe => by
        have h2 := hx x hxe
        have h3 : x ≠ h + 1 := fun e => hm (by rw [← e]; exact hxe)
        omega)
      omega

theorem nodup_map_of {s : Nat → Nat} : ∀ {l : List Nat}, l.Nodup → (∀ x ∈ l, ∀ y ∈ l, s x = s y → x = y) → (l.map s).Nodup
  | [], _, _ => by simp
  | k :: l, hn, hi => by
    rw [List.nodup_cons] at hn
    rw [List.map_cons, List.nodup_cons]
    refine ⟨fun hm => ?_, nodup_map_of hn.2 (fun x hx y hy => hi x (by simp [hx]) y (by simp [hy]))⟩
    obtain ⟨y, hy, e⟩ := List.mem_map.1 hm
    exact hn.1 (by rw [← hi y (by simp [hy]) k (by simp) e]; exact hy)

/-- A permutation of 1 to h, given by a function. -/
theorem perm_of_inj {h : Nat} {s : Nat → Nat} (h1 : ∀ k, 1 ≤ k → k ≤ h → 1 ≤ s k ∧ s k ≤ h) (h2 : ∀ j k, 1 ≤ j → j ≤ h → 1 ≤ k → k ≤ h → s j = s k → j = k) : ((up1 h).map s).Perm (up1 h) := by
  refine perm_up1 h _ (nodup_map_of (up1_nodup h) fun x hx y hy e => ?_) (fun x hx => ?_) (by rw [List.length_map]; unfold up1; rw [List.length_range'])
  · rw [up1_mem] at hx hy
    exact h2 x y hx.1 hx.2 hy.1 hy.2 e
  · obtain ⟨k, hk, rfl⟩ := List.mem_map.1 hx
    rw [up1_mem] at hk
    exact h1 k hk.1 hk.2

/-- The sign of the least absolute residue, and its size. -/
def sg (n : Nat) (x : Int) : Int := if 2 * (x % n) < n then 1 else -1
def la (n : Nat) (x : Int) : Nat := if 2 * (x % n) < n then (x % n).toNat else (n - x % n).toNat

theorem sg_congr {n : Nat} {x y : Int} (h : x % n = y % n) : sg n x = sg n y := by unfold sg; rw [h]
theorem emod_of_dvd {n x y : Int} (h : n ∣ x - y) : x % n = y % n := Int.emod_eq_emod_iff_emod_sub_eq_zero.2 (Int.emod_eq_zero_of_dvd h)
theorem dvd_of_emod {n x y : Int} (h : x % n = y % n) : n ∣ x - y := Int.dvd_of_emod_eq_zero (Int.emod_eq_emod_iff_emod_sub_eq_zero.1 h)
theorem sg_or (n : Nat) (x : Int) : sg n x = 1 ∨ sg n x = -1 := by unfold sg; split <;> simp
theorem neg_mod {n : Nat} (h0 : 0 < n) {x : Int} (hx : x % n ≠ 0) : (-x) % n = n - x % n := by
  have h1 := Int.mul_ediv_add_emod x n
  have h2 := Int.emod_nonneg x (show (n : Int) ≠ 0 by omega)
  have h3 := Int.emod_lt_of_pos x (show (0 : Int) < n by omega)
  have e : -x = (n - x % n) + n * (-(x / n) - 1) := by
    rw [Int.mul_sub, Int.mul_neg, Int.mul_one]
    omega
  rw [e, Int.add_mul_emod_self_left]
  exact Int.emod_eq_of_lt (by omega) (by omega)
theorem sg_neg {n : Nat} (ho : n % 2 = 1) {x : Int} (hx : x % n ≠ 0) : sg n (-x) = -(sg n x) := by
  have h1 := Int.emod_nonneg x (show (n : Int) ≠ 0 by omega)
  have h2 := Int.emod_lt_of_pos x (show (0 : Int) < n by omega)
  unfold sg
  rw [neg_mod (by omega) hx]
  split
  · rw [if_neg (by omega)]; rfl
  · rw [if_pos (by omega)]
/-- A number is the sign times the size. -/
theorem sg_la {n : Nat} (h0 : 0 < n) (x : Int) : x % n = (sg n x * (la n x : Int)) % n := by
  have h1 := Int.emod_nonneg x (show (n : Int) ≠ 0 by omega)
  have h2 := Int.emod_lt_of_pos x (show (0 : Int) < n by omega)
  unfold sg la
  split
  · rw [Int.one_mul, Int.toNat_of_nonneg h1, Int.emod_emod_of_dvd x (Int.dvd_refl _)]
  · rw [Int.toNat_of_nonneg (by omega), Int.neg_mul, Int.one_mul, Int.neg_sub]
    rw [Int.sub_emod_right]
    rw [Int.emod_emod_of_dvd x (Int.dvd_refl _)]
theorem la_range {n : Nat} (ho : n % 2 = 1) {x : Int} (hx : x % n ≠ 0) : 1 ≤ la n x ∧ la n x ≤ (n - 1) / 2 := by
  have h1 := Int.emod_nonneg x (show (n : Int) ≠ 0 by omega)
  have h2 := Int.emod_lt_of_pos x (show (0 : Int) < n by omega)
  unfold la
  split <;> omega

theorem cop_mod {n : Nat} {b : Int} (hb : Int.gcd b n = 1) {x : Int} (hx : x % n ≠ 0) : (b * x) % n ≠ 0 := by
  intro h
  apply hx
  have h1 : (n : Int) ∣ b * x := Int.dvd_of_emod_eq_zero h
  have h2 : n ∣ b.natAbs * x.natAbs := by
    have := Int.natAbs_dvd_natAbs.2 h1
    rw [Int.natAbs_mul] at this
    exact this
  have h3 : Nat.Coprime n b.natAbs := by
    have : Nat.gcd b.natAbs n = 1 := hb
    rw [Nat.gcd_comm] at this
    exact this
  have h4 := h3.dvd_of_dvd_mul_left h2
  exact Int.emod_eq_zero_of_dvd (Int.natAbs_dvd_natAbs.1 h4)
theorem small_mod {n : Nat} {x : Int} (h : x % n = 0) (h1 : -(n : Int) < x) (h2 : x < n) : x = 0 := by
  obtain ⟨c, hc⟩ := Int.dvd_of_emod_eq_zero h
  have hn : (0 : Int) ≤ n := by omega
  rcases Int.lt_trichotomy c 0 with h3 | h3 | h3
  · have := Int.mul_le_mul_of_nonneg_left (show c ≤ -1 by omega) hn
    omega
  · rw [hc, h3, Int.mul_zero]
  · have := Int.mul_le_mul_of_nonneg_left (show 1 ≤ c by omega) hn
    omega

theorem half_mod {n k : Nat} (h1 : 1 ≤ k) (h2 : k ≤ (n - 1) / 2) : (k : Int) % n ≠ 0 := by
  intro h
  have := small_mod h (by omega) (by omega)
  omega

/-- The sizes are a permutation. -/
theorem la_perm {n : Nat} (ho : n % 2 = 1) {b : Int} (hb : Int.gcd b n = 1) : ((up1 ((n - 1) / 2)).map (fun k : Nat => la n (b * k))).Perm (up1 ((n - 1) / 2)) := by
  refine perm_of_inj (fun k h1 h2 => la_range ho (cop_mod hb (half_mod h1 h2))) (fun j k hj1 hj2 hk1 hk2 e => ?_)
  have e1 := sg_la (show 0 < n by omega) (b * j)
  have e2 := sg_la (show 0 < n by omega) (b * k)
  rw [e] at e1
  have key : ∀ s : Int, (b * j) % n = (s * (b * k)) % n → (s = 1 ∨ s = -1) → j = k := by
    intro s hs hs1
    have h1 := dvd_of_emod hs
    have e3 : b * (j : Int) - s * (b * k) = b * (j - s * k) := by rw [Int.mul_sub]; congr 1; ac_rfl
    rw [e3] at h1
    have h2 : ((j : Int) - s * k) % n = 0 := by
      by_cases h : ((j : Int) - s * k) % n = 0
      · exact h
      · exact absurd (Int.emod_eq_zero_of_dvd h1) (cop_mod hb h)
    rcases hs1 with rfl | rfl
    · have := small_mod h2 (by omega) (by omega)
      omega
    · have := small_mod h2 (by omega) (by omega)
      omega
  have e4 : ∀ s t : Int, (s = 1 ∨ s = -1) → (t = 1 ∨ t = -1) → (b * j) % n = (s * (la n (b * k) : Int)) % n → (b * k) % n = (t * (la n (b * k) : Int)) % n → j = k := by
    intro s t hs ht h1 h2
    refine key (s * t) ?_ (by rcases hs with rfl | rfl <;> rcases ht with rfl | rfl <;> simp)
    have h3 : (s * t * (b * k)) % n = (s * t * (t * (la n (b * k) : Int))) % n := by
      rw [Int.mul_emod, h2, ← Int.mul_emod]
    rw [h1, h3]
    have : s * t * (t * (la n (b * k) : Int)) = s * (la n (b * k) : Int) * (t * t) := by ac_rfl
    rw [this, show t * t = 1 by rcases ht with rfl | rfl <;> rfl, Int.mul_one]
  exact e4 _ _ (sg_or _ _) (sg_or _ _) e1 e2

/-- Jacobi's symbol, for odd n. -/
def J (a : Int) (n : Nat) : Int := if Int.gcd a n = 1 then prodL (fun k => sg n (a * k)) (up1 ((n - 1) / 2)) else 0
theorem J_cop {a : Int} {n : Nat} (h : Int.gcd a n = 1) : J a n = prodL (fun k => sg n (a * k)) (up1 ((n - 1) / 2)) := by unfold J; rw [if_pos h]
theorem J_not {a : Int} {n : Nat} (h : Int.gcd a n ≠ 1) : J a n = 0 := by unfold J; rw [if_neg h]
theorem prodS_or {n : Nat} {f : Nat → Int} : ∀ l, prodL (fun k => sg n (f k)) l = 1 ∨ prodL (fun k => sg n (f k)) l = -1
  | [] => .inl rfl
  | k :: l => by
    rw [prodL_cons]
    rcases sg_or n (f k) with h | h <;> rcases prodS_or (f := f) l with h2 | h2 <;> rw [h, h2] <;> simp
theorem J_or {a : Int} {n : Nat} (h : Int.gcd a n = 1) : J a n = 1 ∨ J a n = -1 := by rw [J_cop h]; exact prodS_or _
theorem gcd_emod {a : Int} {n : Nat} : Int.gcd (a % n) n = Int.gcd a n := by
  rw [Int.gcd_comm, Int.gcd_comm a]
  have h := Int.mul_ediv_add_emod a n
  have e : a % n = a + n * (-(a / n)) := by rw [Int.mul_neg]; omega
  rw [e]; simp
theorem J_mod (a : Int) (n : Nat) : J (a % n) n = J a n := by
  unfold J
  rw [gcd_emod]
  split
  · refine prodL_congr fun k _ => sg_congr ?_
    rw [Int.mul_emod, Int.emod_emod_of_dvd _ (Int.dvd_refl _), ← Int.mul_emod]
  · rfl
theorem J_congr {a b : Int} {n : Nat} (h : a % n = b % n) : J a n = J b n := by rw [← J_mod a, ← J_mod b, h]
theorem gcd_mul_iff {a b : Int} {n : Nat} : Int.gcd (a * b) n = 1 ↔ Int.gcd a n = 1 ∧ Int.gcd b n = 1 := by
  have e : Int.gcd (a * b) n = Nat.gcd (a.natAbs * b.natAbs) n := by
    unfold Int.gcd; rw [Int.natAbs_mul]; rfl
  rw [e]
  exact Nat.coprime_mul_iff_left
/-- The symbol is multiplicative above. -/
theorem J_mul {n : Nat} (ho : n % 2 = 1) (a b : Int) : J (a * b) n = J a n * J b n := by
  by_cases h : Int.gcd a n = 1 ∧ Int.gcd b n = 1
  · obtain ⟨ha, hb⟩ := h
    rw [J_cop (gcd_mul_iff.2 ⟨ha, hb⟩), J_cop ha, J_cop hb, ← prodL_perm (la_perm ho hb) (fun k => sg n (a * k)), prodL_map, ← prodL_mul]
    refine prodL_congr fun k hk => ?_
    rw [up1_mem] at hk
    have h0 := half_mod hk.1 hk.2
    have h1 := cop_mod hb h0
    have h2 := sg_la (show 0 < n by omega) (b * k)
    have h3 : (a * b * (k : Int)) % n = (sg n (b * k) * (a * (la n (b * k) : Int))) % n := by
      rw [Int.mul_assoc, Int.mul_emod, h2, ← Int.mul_emod]
      congr 1
      ac_rfl
    rw [sg_congr h3]
    have h4 : (a * (la n (b * k) : Int)) % n ≠ 0 := cop_mod ha (half_mod (la_range ho h1).1 (la_range ho h1).2)
    rcases sg_or n (b * k) with e | e
    · rw [e, Int.one_mul, Int.mul_one]
    · rw [e, Int.neg_mul, Int.one_mul, sg_neg ho h4, Int.mul_neg, Int.mul_one]
  · rw [J_not (fun e => h (gcd_mul_iff.1 e))]
    by_cases ha : Int.gcd a n = 1
    · rw [J_not (a := b) (fun e => h ⟨ha, e⟩), Int.mul_zero]
    · rw [J_not ha, Int.zero_mul]

/-- 1 for an even number, -1 for an odd one. -/
def par (z : Int) : Int := if z % 2 = 0 then 1 else -1
theorem par_add (x y : Int) : par (x + y) = par x * par y := by
  unfold par
  split <;> split <;> split <;> first | rfl | omega
theorem par_sq (x : Int) : par x * par x = 1 := by unfold par; split <;> rfl
theorem par_sum (f : Nat → Int) : ∀ l, prodL (fun k => par (f k)) l = par (sumL f l)
  | [] => rfl
  | k :: l => by rw [prodL_cons, sumL_cons, par_add, par_sum f l]
theorem sg_par {n : Nat} (h0 : 0 < n) (x : Int) : sg n x = par ((2 * x) / n) := by
  have h1 := Int.emod_nonneg x (show (n : Int) ≠ 0 by omega)
  have h2 := Int.emod_lt_of_pos x (show (0 : Int) < n by omega)
  have h3 := Int.mul_ediv_add_emod x n
  have e : 2 * x = 2 * (x % n) + n * (2 * (x / n)) := by
    have : (n : Int) * (2 * (x / n)) = 2 * (n * (x / n)) := by ac_rfl
    omega
  rw [e, Int.add_mul_ediv_left _ _ (show (n : Int) ≠ 0 by omega)]
  unfold sg par
  by_cases h : 2 * (x % n) < n
  · rw [if_pos h, Int.ediv_eq_zero_of_lt (by omega) h, if_pos (by omega)]
  · have h5 : 2 * (x % n) / n = 1 := by
      have e2 : 2 * (x % n) = (2 * (x % n) - n) + n * 1 := by omega
      rw [e2, Int.add_mul_ediv_left _ _ (show (n : Int) ≠ 0 by omega), Int.ediv_eq_zero_of_lt (by omega) (by omega)]
      rfl
    rw [if_neg h, h5, if_neg (by omega)]
theorem J_par {a : Int} {n : Nat} (ho : n % 2 = 1) (h : Int.gcd a n = 1) : J a n = par (sumL (fun k => (2 * (a * k)) / n) (up1 ((n - 1) / 2))) := by
  rw [J_cop h, ← par_sum]
  exact prodL_congr fun k _ => sg_par (by omega) _

/-- Half of the sum of an odd number and n. -/
theorem J_half {m : Int} {n : Nat} (ho : n % 2 = 1) (hm : m % 2 = 1) (h : Int.gcd m n = 1) :
    Int.gcd 2 n = 1 ∧ J 2 n * J ((m + n) / 2) n = J m n ∧ J ((m + n) / 2) n = par (sumL (fun k => (m * k) / n) (up1 ((n - 1) / 2))) * par (sumL (fun k => (k : Int)) (up1 ((n - 1) / 2))) := by
  have e : 2 * ((m + n) / 2) = m + n := by omega
  have h1 : Int.gcd (m + n) n = 1 := by
    rw [Int.gcd_comm] at h ⊢
    have : m + (n : Int) = m + n * 1 := by omega
    rw [this]; simpa using h
  have h2 := h1
  rw [← e] at h2
  obtain ⟨h3, h4⟩ := gcd_mul_iff.1 h2
  refine ⟨h3, ?_, ?_⟩
  · rw [← J_mul ho, e]
    exact J_congr (by rw [Int.add_emod_right])
  · rw [J_par ho h4, ← par_add, ← sumL_add]
    refine congrArg par (sumL_congr fun k _ => ?_)
    have e2 : 2 * ((m + n) / 2 * (k : Int)) = m * k + n * k := by
      rw [← Int.mul_assoc, e, Int.add_mul]
    rw [e2, Int.add_mul_ediv_left _ _ (show (n : Int) ≠ 0 by omega)]
theorem gcd_one_left (n : Nat) : Int.gcd 1 n = 1 := by simp
theorem J_one (n : Nat) : J 1 n = 1 := by
  rw [J_cop (gcd_one_left n)]
  have : ∀ l : List Nat, (∀ k ∈ l, 1 ≤ k ∧ k ≤ (n - 1) / 2) → prodL (fun k => sg n (1 * k)) l = 1 := by
    intro l hl
    induction l with
    | nil => rfl
    | cons k l ih =>
      rw [prodL_cons, ih (fun j hj => hl j (by simp [hj]))]
      have := hl k (by simp)
      unfold sg
      rw [Int.one_mul, Int.emod_eq_of_lt (by omega) (by omega), if_pos (by omega)]
      rfl
  exact this _ (fun k hk => up1_mem.1 hk)
theorem sum_small {n : Nat} : sumL (fun k => ((1 : Int) * k) / n) (up1 ((n - 1) / 2)) = 0 := by
  have : ∀ l : List Nat, (∀ k ∈ l, 1 ≤ k ∧ k ≤ (n - 1) / 2) → sumL (fun k => ((1 : Int) * k) / n) l = 0 := by
    intro l hl
    induction l with
    | nil => rfl
    | cons k l ih =>
      rw [sumL_cons, ih (fun j hj => hl j (by simp [hj]))]
      have := hl k (by simp)
      rw [Int.one_mul, Int.ediv_eq_zero_of_lt (by omega) (by omega)]
      rfl
  exact this _ (fun k hk => up1_mem.1 hk)
theorem J_two_sum {n : Nat} (ho : n % 2 = 1) : J 2 n = par (sumL (fun k => (k : Int)) (up1 ((n - 1) / 2))) := by
  obtain ⟨h1, h2, h3⟩ := J_half (m := 1) ho (by decide) (gcd_one_left n)
  rw [sum_small, J_one] at *
  rw [h3] at h2
  have h4 : par 0 = 1 := rfl
  rw [h4, Int.one_mul] at h2
  have h5 := par_sq (sumL (fun k => (k : Int)) (up1 ((n - 1) / 2)))
  calc J 2 n = J 2 n * (par (sumL (fun k => (k : Int)) (up1 ((n - 1) / 2))) * par (sumL (fun k => (k : Int)) (up1 ((n - 1) / 2)))) := by rw [h5, Int.mul_one]
    _ = _ := by rw [← Int.mul_assoc, h2, Int.one_mul]
theorem sum_up1 : ∀ h : Nat, 2 * sumL (fun k => (k : Int)) (up1 h) = h * (h + 1)
  | 0 => rfl
  | h + 1 => by
    have ih := sum_up1 h
    rw [up1_succ, sumL_append, Int.mul_add, ih]
    show (h : Int) * (h + 1) + 2 * (((h + 1 : Nat) : Int) + 0) = _
    have e : ((h + 1 : Nat) : Int) = (h : Int) + 1 := rfl
    rw [e]
    simp only [Int.mul_add, Int.add_mul]
    omega
/-- The symbol of 2. -/
theorem J_two {n : Nat} (ho : n % 2 = 1) : J 2 n = if n % 8 = 3 ∨ n % 8 = 5 then -1 else 1 := by
  rw [J_two_sum ho]
  have h := sum_up1 ((n - 1) / 2)
  generalize sumL (fun k => (k : Int)) (up1 ((n - 1) / 2)) = s at *
  obtain ⟨q, hq⟩ : ∃ q : Nat, n = 8 * q + n % 8 := ⟨n / 8, by omega⟩
  have h8 : n % 8 = 1 ∨ n % 8 = 3 ∨ n % 8 = 5 ∨ n % 8 = 7 := by omega
  have sq : ∀ c : Nat, c < 4 → (n - 1) / 2 = 4 * q + c → 2 * s = 16 * ((q : Int) * q) + (8 * c + 4) * q + c * (c + 1) := by
    intro c _ hc
    rw [hc] at h
    rw [h]
    have : ((4 * q + c : Nat) : Int) = 4 * (q : Int) + c := by omega
    rw [this]
    simp only [Int.mul_add, Int.add_mul, Int.mul_one]
    have e1 : 4 * (q : Int) * (4 * q) = 16 * (q * q) := by
      rw [Int.mul_assoc, Int.mul_left_comm (q : Int) 4 q, ← Int.mul_assoc]; rfl
    have e2 : (c : Int) * (4 * q) = 4 * (c * q) := by ac_rfl
    have e3 : 4 * (q : Int) * c = 4 * (c * q) := by ac_rfl
    have e4 : 8 * (c : Int) * q = 8 * (c * q) := by ac_rfl
    omega
  unfold par
  rcases h8 with e | e | e | e
  · have := sq 0 (by omega) (by omega)
    rw [if_pos (show s % 2 = 0 by omega), if_neg (by omega)]
  · have := sq 1 (by omega) (by omega)
    rw [if_neg (show ¬ s % 2 = 0 by omega), if_pos (by omega)]
  · have := sq 2 (by omega) (by omega)
    rw [if_neg (show ¬ s % 2 = 0 by omega), if_pos (by omega)]
  · have := sq 3 (by omega) (by omega)
    rw [if_pos (show s % 2 = 0 by omega), if_neg (by omega)]
/-- The symbol of an odd number, by the lattice. -/
theorem J_odd {m : Int} {n : Nat} (ho : n % 2 = 1) (hm : m % 2 = 1) (h : Int.gcd m n = 1) : J m n = par (sumL (fun k => (m * k) / n) (up1 ((n - 1) / 2))) := by
  obtain ⟨h1, h2, h3⟩ := J_half ho hm h
  rw [← h2, h3, J_two_sum ho]
  rw [Int.mul_comm, Int.mul_assoc, par_sq, Int.mul_one]

/-- How many of 1 to H fulfil n j ≤ N. -/
theorem count_le {n : Nat} (h0 : 0 < n) {N : Int} (hN : 0 ≤ N) : ∀ H : Nat, sumL (fun j => if (n : Int) * j ≤ N then 1 else 0) (up1 H) = if (H : Int) ≤ N / n then (H : Int) else N / n
  | 0 => by
    have : 0 ≤ N / n := Int.ediv_nonneg hN (by omega)
    rw [if_pos (by omega)]; rfl
  | H + 1 => by
    rw [up1_succ, sumL_append, count_le h0 hN H]
    show _ + ((if (n : Int) * ((H + 1 : Nat) : Int) ≤ N then 1 else 0) + 0) = _
    have hi : (n : Int) * ((H + 1 : Nat) : Int) ≤ N ↔ ((H + 1 : Nat) : Int) ≤ N / n := by
      rw [Int.le_ediv_iff_mul_le (by omega), Int.mul_comm]
    by_cases h : ((H + 1 : Nat) : Int) ≤ N / n
    · rw [if_pos (hi.2 h), if_pos h, if_pos (by omega)]
      omega
    · rw [if_neg (mt hi.1 h), if_neg h]
      split <;> omega
theorem div_half {m n k : Nat} (hm : m % 2 = 1) (hn : n % 2 = 1) (hk : k ≤ (n - 1) / 2) : ((m : Int) * k) / n ≤ (((m - 1) / 2 : Nat) : Int) := by
  refine Int.le_of_lt_add_one (Int.ediv_lt_of_lt_mul (by omega) ?_)
  have h1 : (m : Int) * (2 * k + 1) ≤ m * n := Int.mul_le_mul_of_nonneg_left (by omega) (by omega)
  have h2 : (((m - 1) / 2 : Nat) : Int) * 2 + 1 = m := by omega
  have h3 : ((((m - 1) / 2 : Nat) : Int) + 1) * n * 2 = m * n + n := by
    rw [Int.mul_assoc, Int.mul_comm (n : Int) 2, ← Int.mul_assoc]
    have : ((((m - 1) / 2 : Nat) : Int) + 1) * 2 = m + 1 := by omega
    rw [this, Int.add_mul, Int.one_mul]
  have h4 : (m : Int) * (2 * k + 1) = 2 * (m * k) + m := by
    rw [Int.mul_add, Int.mul_one]; congr 1; ac_rfl
  omega
/-- The lattice of Eisenstein. -/
theorem lattice {m n : Nat} (hm : m % 2 = 1) (hn : n % 2 = 1) (hc : Nat.gcd m n = 1) :
    sumL (fun k => ((m : Int) * k) / n) (up1 ((n - 1) / 2)) + sumL (fun j => ((n : Int) * j) / m) (up1 ((m - 1) / 2)) = (((n - 1) / 2 : Nat) : Int) * (((m - 1) / 2 : Nat) : Int) := by
  have e1 : sumL (fun k => ((m : Int) * k) / n) (up1 ((n - 1) / 2)) = sumL (fun k => sumL (fun j => if (n : Int) * j ≤ m * k then 1 else 0) (up1 ((m - 1) / 2))) (up1 ((n - 1) / 2)) := by
    refine sumL_congr fun k hk => ?_
    rw [up1_mem] at hk
    rw [count_le (by omega) (Int.mul_nonneg (by omega) (by omega))]
    have := div_half hm hn hk.2
    split <;> omega
  have e2 : sumL (fun j => ((n : Int) * j) / m) (up1 ((m - 1) / 2)) = sumL (fun j => sumL (fun k => if (m : Int) * k ≤ n * j then 1 else 0) (up1 ((n - 1) / 2))) (up1 ((m - 1) / 2)) := by
    refine sumL_congr fun k hk => ?_
    rw [up1_mem] at hk
    rw [count_le (by omega) (Int.mul_nonneg (by omega) (by omega))]
    have := div_half hn hm hk.2
    split <;> omega
  rw [e1, e2, sumL_swap (fun j k : Nat => if (m : Int) * k ≤ n * j then (1 : Int) else 0), ← sumL_add]
  have e3 : ∀ l : List Nat, (∀ k ∈ l, 1 ≤ k ∧ k ≤ (n - 1) / 2) → sumL (fun k => sumL (fun j => if (n : Int) * j ≤ m * k then 1 else 0) (up1 ((m - 1) / 2)) + sumL (fun j => if (m : Int) * k ≤ n * j then 1 else 0) (up1 ((m - 1) / 2))) l = l.length * (((m - 1) / 2 : Nat) : Int) := by
    intro l hl
    induction l with
    | nil => show (0 : Int) = 0 * _; rw [Int.zero_mul]
    | cons k l ih =>
      rw [sumL_cons, ih (fun j hj => hl j (by simp [hj])), ← sumL_add]
      have hk := hl k (by simp)
      have e4 : ∀ l2 : List Nat, sumL (fun j => (if (n : Int) * j ≤ m * k then 1 else 0) + (if (m : Int) * k ≤ n * j then 1 else 0)) l2 = l2.length := by
        intro l2
        induction l2 with
        | nil => rfl
        | cons j l2 ih2 =>
          rw [sumL_cons, ih2]
          have hne : (n : Int) * j ≠ m * k := by
            intro e
            have h1 : n ∣ m * k := by
              have : (n : Int) ∣ m * k := ⟨j, e.symm⟩
              exact Int.natCast_dvd_natCast.1 (by simpa using this)
            have h2 : Nat.Coprime n m := by rw [Nat.coprime_comm]; exact hc
            have h3 := Nat.le_of_dvd (by omega) (h2.dvd_of_dvd_mul_left h1)
            omega
          rw [List.length_cons]
          by_cases h : (n : Int) * j ≤ m * k
          · rw [if_pos h, if_neg (by omega)]; omega
          · rw [if_neg h, if_pos (by omega)]; omega
      rw [e4]
      have : (up1 ((m - 1) / 2)).length = (m - 1) / 2 := by unfold up1; rw [List.length_range']
      rw [this, List.length_cons]
      have : (((l.length + 1 : Nat) : Int)) = (l.length : Int) + 1 := rfl
      rw [this, Int.add_mul, Int.one_mul, Int.add_comm]
  rw [e3 _ (fun k hk => up1_mem.1 hk)]
  have : (up1 ((n - 1) / 2)).length = (n - 1) / 2 := by unfold up1; rw [List.length_range']
  rw [this]

/-- Reciprocity. -/
theorem J_rec {m n : Nat} (hm : m % 2 = 1) (hn : n % 2 = 1) : J m n = (if m % 4 = 3 ∧ n % 4 = 3 then -1 else 1) * J n m := by
  by_cases hc : Nat.gcd m n = 1
  · have h1 : Int.gcd (m : Int) n = 1 := hc
    have h2 : Int.gcd (n : Int) m = 1 := by rw [Int.gcd_comm]; exact h1
    rw [J_odd hn (by omega) h1, J_odd hm (by omega) h2]
    have h := lattice hm hn hc
    have h3 : par (sumL (fun k => ((m : Int) * k) / n) (up1 ((n - 1) / 2)) + sumL (fun j => ((n : Int) * j) / m) (up1 ((m - 1) / 2))) = if m % 4 = 3 ∧ n % 4 = 3 then -1 else 1 := by
      rw [h]
      unfold par
      by_cases h4 : m % 4 = 3 ∧ n % 4 = 3
      · rw [if_pos h4, if_neg]
        rw [Int.mul_emod]
        have e1 : (((n - 1) / 2 : Nat) : Int) % 2 = 1 := by omega
        have e2 : (((m - 1) / 2 : Nat) : Int) % 2 = 1 := by omega
        rw [e1, e2]; decide
      · rw [if_neg h4, if_pos]
        rw [Int.mul_emod]
        have : (((n - 1) / 2 : Nat) : Int) % 2 = 0 ∨ (((m - 1) / 2 : Nat) : Int) % 2 = 0 := by omega
        rcases this with e | e <;> rw [e] <;> simp
    rw [par_add] at h3
    rw [← h3, Int.mul_assoc, par_sq, Int.mul_one]
  · have h1 : Int.gcd (m : Int) n ≠ 1 := hc
    have h2 : Int.gcd (n : Int) m ≠ 1 := by rw [Int.gcd_comm]; exact h1
    rw [J_not h1, J_not h2, Int.mul_zero]

/-- A prime number. -/
def Pr (p : Nat) : Prop := 2 ≤ p ∧ ∀ d, d ∣ p → d = 1 ∨ d = p
theorem Pr.cop {p : Nat} (hp : Pr p) {a : Int} (h : a % p ≠ 0) : Int.gcd a p = 1 := by
  have hd : Int.gcd a p ∣ p := by
    have := Int.gcd_dvd_right (a := a) (b := (p : Int))
    exact Int.natCast_dvd_natCast.1 this
  rcases hp.2 _ hd with e | e
  · exact e
  · exfalso
    apply h
    have := Int.gcd_dvd_left (a := a) (b := (p : Int))
    rw [e] at this
    exact Int.emod_eq_zero_of_dvd this
theorem Pr.not_cop {p : Nat} (hp : Pr p) {a : Int} (h : a % p = 0) : Int.gcd a p ≠ 1 := by
  intro e
  have h1 : (p : Int) ∣ (Int.gcd a p : Int) := Int.dvd_coe_gcd (Int.dvd_of_emod_eq_zero h) (Int.dvd_refl _)
  rw [e] at h1
  have h2 := Int.le_of_dvd (by decide) h1
  have := hp.1
  omega
theorem prodL_emod {n : Int} {f g : Nat → Int} : ∀ {l : List Nat}, (∀ k ∈ l, f k % n = g k % n) → prodL f l % n = prodL g l % n
  | [], _ => rfl
  | k :: l, h => by rw [prodL_cons, prodL_cons, Int.mul_emod, h k (by simp), prodL_emod (fun j hj => h j (by simp [hj])), ← Int.mul_emod]
theorem prodL_const (a : Int) (f : Nat → Int) : ∀ l : List Nat, prodL (fun k => a * f k) l = a ^ l.length * prodL f l
  | [] => by show (1 : Int) = a ^ 0 * 1; rw [Int.pow_zero]; rfl
  | k :: l => by
    rw [prodL_cons, prodL_cons, prodL_const a f l, List.length_cons, Int.pow_succ]
    ac_rfl
theorem prodL_cop {p : Nat} {f : Nat → Int} : ∀ {l : List Nat}, (∀ k ∈ l, Int.gcd (f k) p = 1) → Int.gcd (prodL f l) p = 1
  | [], _ => gcd_one_left p
  | k :: l, h => by rw [prodL_cons]; exact gcd_mul_iff.2 ⟨h k (by simp), prodL_cop (fun j hj => h j (by simp [hj]))⟩
/-- Euler. -/
theorem euler {p : Nat} (hp : Pr p) (ho : p % 2 = 1) (a : Int) : (a ^ ((p - 1) / 2)) % p = J a p % p := by
  have h3 : 3 ≤ p := by have := hp.1; omega
  by_cases ha : a % p = 0
  · rw [J_not (hp.not_cop ha)]
    have : (a ^ ((p - 1) / 2)) = a * a ^ ((p - 1) / 2 - 1) := by
      rw [Int.mul_comm, ← Int.pow_succ]
      congr 1
      omega
    rw [this, Int.mul_emod, ha, Int.zero_mul]
  · have hc := hp.cop ha
    have e1 : prodL (fun k => a * (k : Int)) (up1 ((p - 1) / 2)) % p = (J a p * prodL (fun k => (k : Int)) (up1 ((p - 1) / 2))) % p := by
      rw [J_cop hc, ← prodL_perm (la_perm ho hc) (fun k => (k : Int)), prodL_map, ← prodL_mul]
      exact prodL_emod fun k _ => sg_la (by omega) _
    rw [prodL_const, show (up1 ((p - 1) / 2)).length = (p - 1) / 2 by unfold up1; rw [List.length_range']] at e1
    have e2 := dvd_of_emod e1
    rw [← Int.sub_mul] at e2
    have e3 : Int.gcd (prodL (fun k => (k : Int)) (up1 ((p - 1) / 2))) p = 1 := prodL_cop fun k hk => by
      rw [up1_mem] at hk
      exact hp.cop (half_mod hk.1 hk.2)
    refine emod_of_dvd (Int.dvd_of_emod_eq_zero ?_)
    by_cases h : (a ^ ((p - 1) / 2) - J a p) % p = 0
    · exact h
    · exact absurd (by rw [Int.mul_comm] at e2; exact Int.emod_eq_zero_of_dvd e2) (cop_mod e3 h)

/-- The symbol of Kronecker. -/
def two (a : Int) : Int := if a % 2 = 0 then 0 else if a % 8 = 3 ∨ a % 8 = 5 then -1 else 1
def kro (a : Int) (n : Nat) : Int := if n = 0 then 0 else if n % 2 = 0 then two a * kro a (n / 2) else J a n
  termination_by n
  decreasing_by omega
def kron (a n : Int) : Int := if n = 0 then (if a.natAbs = 1 then 1 else 0) else (if a < 0 ∧ n < 0 then -1 else 1) * kro a n.natAbs
theorem kro_odd {a : Int} {n : Nat} (h : n % 2 = 1) : kro a n = J a n := by
  rw [kro, if_neg (by omega), if_neg (by omega)]
theorem kro_even {a : Int} {n : Nat} (h : n ≠ 0) : kro a (2 * n) = two a * kro a n := by
  rw [kro, if_neg (by omega), if_pos (by omega), Nat.mul_div_cancel_left n (by omega)]
theorem two_mul (a b : Int) : two (a * b) = two a * two b := by
  have h2 : (a * b) % 2 = ((a % 2) * (b % 2)) % 2 := Int.mul_emod _ _ _
  have h8 : (a * b) % 8 = ((a % 8) * (b % 8)) % 8 := Int.mul_emod _ _ _
  have ea : a % 2 = (a % 8) % 2 := by omega
  have eb : b % 2 = (b % 8) % 2 := by omega
  have ra : a % 8 = 0 ∨ a % 8 = 1 ∨ a % 8 = 2 ∨ a % 8 = 3 ∨ a % 8 = 4 ∨ a % 8 = 5 ∨ a % 8 = 6 ∨ a % 8 = 7 := by omega
  have rb : b % 8 = 0 ∨ b % 8 = 1 ∨ b % 8 = 2 ∨ b % 8 = 3 ∨ b % 8 = 4 ∨ b % 8 = 5 ∨ b % 8 = 6 ∨ b % 8 = 7 := by omega
  unfold two
  rw [h2, h8, ea, eb]
  generalize a % 8 = x at *
  generalize b % 8 = y at *
  rcases ra with rfl | rfl | rfl | rfl | rfl | rfl | rfl | rfl <;> rcases rb with rfl | rfl | rfl | rfl | rfl | rfl | rfl | rfl <;> rfl
theorem kro_zero {a : Int} : ∀ n : Nat, n ≠ 0 → (kro a n = 0 ↔ Int.gcd a n ≠ 1) := by
  intro n
  induction n using Nat.strongRecOn with
  | _ n ih =>
    intro hn
    by_cases h : n % 2 = 1
    · rw [kro_odd h]
      constructor
      · intro h1 h2
        rcases J_or h2 with e | e <;> rw [e] at h1 <;> simp at h1
      · exact J_not
    · have e : n = 2 * (n / 2) := by omega
      have h1 := ih (n / 2) (by omega) (by omega)
      have h2 : kro a n = two a * kro a (n / 2) := by
        conv => lhs; rw [e]
        exact kro_even (by omega)
      have h3 : Int.gcd a n = 1 ↔ Int.gcd a 2 = 1 ∧ Int.gcd a (n / 2 : Nat) = 1 := by
        have : (n : Int) = 2 * ((n / 2 : Nat) : Int) := by omega
        rw [this, Int.gcd_comm, Int.gcd_comm a, Int.gcd_comm a]
        unfold Int.gcd
        rw [Int.natAbs_mul]
        exact Nat.coprime_mul_iff_left
      have h4 : Int.gcd a 2 = 1 ↔ a % 2 ≠ 0 := by
        constructor
        · intro h5 h6
          have h7 : (2 : Int) ∣ Int.gcd a 2 := Int.dvd_coe_gcd (Int.dvd_of_emod_eq_zero h6) (Int.dvd_refl _)
          rw [h5] at h7
          omega
        · intro h5
          refine Pr.cop (p := 2) ⟨by omega, fun d hd => ?_⟩ h5
          have h6 := Nat.le_of_dvd (by omega) hd
          have h7 : d ≠ 0 := fun e => by subst e; simp at hd
          omega
      have h5 : two a = 0 ↔ a % 2 = 0 := by
        unfold two
        by_cases c : a % 2 = 0
        · rw [if_pos c]; exact ⟨fun _ => c, fun _ => rfl⟩
        · rw [if_neg c]
          split
          · exact ⟨fun h => by simp at h, fun h => absurd h c⟩
          · exact ⟨fun h => by simp at h, fun h => absurd h c⟩
      rw [h2, Int.mul_eq_zero, h1, h5, ne_eq, ne_eq, h3, h4]
      by_cases c1 : a % 2 = 0 <;> by_cases c2 : Int.gcd a (n / 2 : Nat) = 1 <;> simp [c1]


end Go.Proofs.YtieobgadihcgeaaDoor

/- Residues: the sum that Bezout says, inverses, powers, two congruences. -/
namespace Go.Proofs.YtieobgadihcgeaaDoor
open Go Go.RowKit

theorem bez_ex : ∀ (n : Nat) (a : Int), ∃ u v : Int, u * a + v * n = (Int.gcd a n : Int) := by
  intro n
  induction n using Nat.strongRecOn with
  | _ n ih =>
    intro a
    by_cases h0 : n = 0
    · subst h0
      refine ⟨if a < 0 then -1 else 1, 0, ?_⟩
      have : (Int.gcd a ((0 : Nat) : Int) : Int) = (a.natAbs : Int) := by simp
      rw [this]
      split <;> omega
    · have h1 := Int.emod_nonneg a (show (n : Int) ≠ 0 by omega)
      have h2 := Int.emod_lt_of_pos a (show (0 : Int) < n by omega)
      obtain ⟨u, v, h⟩ := ih (a % n).toNat (by omega) (n : Int)
      rw [Int.toNat_of_nonneg h1, Int.gcd_comm, gcd_emod] at h
      refine ⟨v, u - v * (a / n), ?_⟩
      rw [← h]
      have e := Int.mul_ediv_add_emod a n
      have e2 : v * a = v * (n * (a / n)) + v * (a % n) := by rw [← Int.mul_add, e]
      rw [e2, Int.sub_mul]
      have e3 : v * (a / n) * n = v * (n * (a / n)) := by ac_rfl
      omega

theorem gcd_pos_r {a m : Int} (hm : m ≠ 0) : (0 : Int) < Int.gcd a m := by
  have := Int.gcd_pos_iff (a := a) (b := m)
  have h : 0 < Int.gcd a m := this.2 (.inr hm)
  omega

/-- The numbers that Bezout says, for m greater than 0. -/
theorem bez_ex2 (a m : Int) (hm : 0 < m) : ∃ u v : Int, 0 ≤ u ∧ u < m / (Int.gcd a m : Int) ∧ u * a + v * m = (Int.gcd a m : Int) := by
  obtain ⟨u, v, h⟩ := bez_ex m.toNat a
  rw [Int.toNat_of_nonneg (by omega)] at h
  have hg := gcd_pos_r (a := a) (show m ≠ 0 by omega)
  obtain ⟨c, hc⟩ := Int.gcd_dvd_left (a := a) (b := m)
  obtain ⟨d, hd⟩ := Int.gcd_dvd_right (a := a) (b := m)
  generalize (Int.gcd a m : Int) = g at *
  have e0 : m / g = d := by rw [hd]; exact Int.mul_ediv_cancel_left _ (by omega)
  have hd0 : 0 < d := by
    rcases Int.lt_or_le 0 d with h1 | h1
    · exact h1
    · have := Int.mul_le_mul_of_nonneg_left h1 (show 0 ≤ g by omega)
      omega
  rw [e0]
  refine ⟨u % d, v + u / d * c, Int.emod_nonneg _ (by omega), Int.emod_lt_of_pos _ hd0, ?_⟩
  rw [← h]
  have e := Int.mul_ediv_add_emod u d
  have e2 : u * a = d * (u / d) * a + u % d * a := by rw [← Int.add_mul, e]
  rw [e2, Int.add_mul]
  have e3 : u / d * c * m = d * (u / d) * a := by rw [hc, hd]; ac_rfl
  omega
noncomputable def bezU (a m : Int) : Int := if h : 0 < m then Classical.choose (bez_ex2 a m h) else 0
noncomputable def bezV (a m : Int) : Int := if h : 0 < m then Classical.choose (Classical.choose_spec (bez_ex2 a m h)) else 0
theorem bez_spec {a m : Int} (hm : 0 < m) : 0 ≤ bezU a m ∧ bezU a m < m / (Int.gcd a m : Int) ∧ bezU a m * a + bezV a m * m = (Int.gcd a m : Int) := by
  unfold bezU bezV
  rw [dif_pos hm, dif_pos hm]
  exact Classical.choose_spec (Classical.choose_spec (bez_ex2 a m hm))
theorem small_dvd {x n : Int} (h : n ∣ x) (h1 : -n < x) (h2 : x < n) : x = 0 := by
  obtain ⟨c, hc⟩ := h
  have hn : (0 : Int) ≤ n := by omega
  rcases Int.lt_trichotomy c 0 with h3 | h3 | h3
  · have := Int.mul_le_mul_of_nonneg_left (show c ≤ -1 by omega) hn
    omega
  · rw [hc, h3, Int.mul_zero]
  · have := Int.mul_le_mul_of_nonneg_left (show 1 ≤ c by omega) hn
    omega
theorem dvd_of_cop {n b x : Int} (h : Int.gcd n b = 1) (hd : n ∣ b * x) : n ∣ x := by
  have h1 : n.natAbs ∣ b.natAbs * x.natAbs := by rw [← Int.natAbs_mul]; exact Int.natAbs_dvd_natAbs.2 hd
  have h2 : Nat.Coprime n.natAbs b.natAbs := h
  exact Int.natAbs_dvd_natAbs.1 (h2.dvd_of_dvd_mul_left h1)
theorem bez_uniq {a m : Int} (hm : 0 < m) {u v : Int} (h0 : 0 ≤ u) (h1 : u < m / (Int.gcd a m : Int)) (h2 : u * a + v * m = (Int.gcd a m : Int)) : u = bezU a m ∧ v = bezV a m := by
  obtain ⟨g0, g1, g2⟩ := bez_spec (a := a) hm
  have hg := gcd_pos_r (a := a) (show m ≠ 0 by omega)
  have hco := Int.gcd_ediv_gcd_ediv_gcd (i := a) (j := m) (by
    have := Int.gcd_pos_iff (a := a) (b := m)
    exact this.2 (.inr (by omega)))
  obtain ⟨c, hc⟩ := Int.gcd_dvd_left (a := a) (b := m)
  obtain ⟨d, hd⟩ := Int.gcd_dvd_right (a := a) (b := m)
  generalize bezU a m = p at *
  generalize bezV a m = q at *
  generalize hG : (Int.gcd a m : Int) = g at *
  have e0 : m / g = d := by rw [hd]; exact Int.mul_ediv_cancel_left _ (by omega)
  have e1 : a / g = c := by rw [hc]; exact Int.mul_ediv_cancel_left _ (by omega)
  rw [e0, e1] at hco
  rw [e0] at h1 g1
  have h3 : (u - p) * a + (v - q) * m = 0 := by rw [Int.sub_mul, Int.sub_mul]; omega
  have h4 : g * (c * (u - p) + d * (v - q)) = 0 := by
    rw [← h3, Int.mul_add]
    congr 1
    · conv => rhs; rw [hc]
      ac_rfl
    · conv => rhs; rw [hd]
      ac_rfl
  have h5 : c * (u - p) + d * (v - q) = 0 := by
    rcases Int.mul_eq_zero.1 h4 with h | h
    · omega
    · exact h
  have h6 : d ∣ c * (u - p) := ⟨-(v - q), by rw [Int.mul_neg]; omega⟩
  have h7 := small_dvd (dvd_of_cop (by rw [Int.gcd_comm]; exact hco) h6) (by omega) (by omega)
  rw [h7, Int.mul_zero, Int.zero_add] at h5
  refine ⟨by omega, ?_⟩
  rcases Int.mul_eq_zero.1 h5 with h | h
  · rw [h, Int.mul_zero] at hd; omega
  · omega
theorem bez_lt {a m : Int} (hm : 0 < m) : bezU a m < m := by
  obtain ⟨g0, g1, _⟩ := bez_spec (a := a) hm
  have hg := gcd_pos_r (a := a) (show m ≠ 0 by omega)
  have := Int.ediv_le_self (a := m) (Int.gcd a m : Int) (by omega)
  omega
theorem bez_inv {a m : Int} (hm : 0 < m) (hg : Int.gcd a m = 1) : (a * bezU a m) % m = 1 % m := by
  have h := (bez_spec (a := a) hm).2.2
  rw [hg] at h
  refine emod_of_dvd ⟨-(bezV a m), ?_⟩
  rw [Int.mul_neg]
  have : a * bezU a m = bezU a m * a := Int.mul_comm _ _
  have h2 : m * bezV a m = bezV a m * m := Int.mul_comm _ _
  omega
/-- An inverse is the one. -/
theorem inv_uniq {a m x : Int} (hm : 0 < m) (h0 : 0 ≤ x) (h1 : x < m) (h : (a * x) % m = 1 % m) : Int.gcd a m = 1 ∧ x = bezU a m := by
  have hd := dvd_of_emod h
  have hg : Int.gcd a m = 1 := by
    have g1 := Int.gcd_dvd_left (a := a) (b := m)
    have g2 := Int.gcd_dvd_right (a := a) (b := m)
    have g3 : (Int.gcd a m : Int) ∣ a * x - 1 := Int.dvd_trans g2 hd
    have g4 : (Int.gcd a m : Int) ∣ 1 := by
      have g5 : (Int.gcd a m : Int) ∣ a * x := Int.dvd_trans g1 ⟨x, rfl⟩
      have := Int.dvd_sub g5 g3
      have e : a * x - (a * x - 1) = 1 := by omega
      rwa [e] at this
    have := Int.le_of_dvd (by decide) g4
    have := gcd_pos_r (a := a) (show m ≠ 0 by omega)
    omega
  refine ⟨hg, ?_⟩
  have h2 := bez_inv hm hg
  have h3 : (a * (x - bezU a m)) % m = 0 := by
    rw [Int.mul_sub]
    exact Int.emod_eq_emod_iff_emod_sub_eq_zero.1 (h.trans h2.symm)
  have h4 := dvd_of_cop (by rw [Int.gcd_comm]; exact hg) (Int.dvd_of_emod_eq_zero h3)
  have h5 := (bez_spec (a := a) hm).1
  have h6 := bez_lt (a := a) hm
  have := small_dvd h4 (by omega) (by omega)
  omega

/-- Two congruences. -/
noncomputable def crtR (r1 m1 r2 m2 : Int) : Int := (r1 + m1 * (((r2 - r1) / (Int.gcd m1 m2 : Int) * bezU m1 m2) % (m2 / (Int.gcd m1 m2 : Int)))) % (m1 * (m2 / (Int.gcd m1 m2 : Int)))
theorem crt_part {m1 m2 : Int} (h2 : 0 < m2) : 0 < m2 / (Int.gcd m1 m2 : Int) ∧ (Int.gcd m1 m2 : Int) * (m2 / (Int.gcd m1 m2 : Int)) = m2 := by
  have hg := gcd_pos_r (a := m1) (show m2 ≠ 0 by omega)
  have e := Int.mul_ediv_cancel' (Int.gcd_dvd_right (a := m1) (b := m2))
  refine ⟨?_, e⟩
  rcases Int.lt_or_le 0 (m2 / (Int.gcd m1 m2 : Int)) with h | h
  · exact h
  · have := Int.mul_le_mul_of_nonneg_left h (show 0 ≤ (Int.gcd m1 m2 : Int) by omega)
    omega
end Go.Proofs.YtieobgadihcgeaaDoor

/- Walks: package modular: residues, inverses, two congruences. -/
namespace Go.Proofs.YtieobgadihcgeaaDoor
open Go Go.RowKit

theorem enq_M_Mod (args : Array Value) (w : World) : (callFunc 18 args).run Tryd.prog w = .ok (.enter 18 args) w := enter_of Tryd.func18 (by kernel_rfl) rfl args w
theorem enq_M_Inv (args : Array Value) (w : World) : (callFunc 41 args).run Tryd.prog w = .ok (.enter 41 args) w := enter_of Tryd.func41 (by kernel_rfl) rfl args w
theorem enq_M_Crt (args : Array Value) (w : World) : (callFunc 31 args).run Tryd.prog w = .ok (.enter 31 args) w := enter_of Tryd.func31 (by kernel_rfl) rfl args w
theorem enq_M_isOne (args : Array Value) (w : World) : (callFunc 49 args).run Tryd.prog w = .ok (.enter 49 args) w := enter_of Tryd.func49 (by kernel_rfl) rfl args w
theorem enq_M_bit (args : Array Value) (w : World) : (callFunc 71 args).run Tryd.prog w = .ok (.enter 71 args) w := enter_of Tryd.func71 (by kernel_rfl) rfl args w
theorem enq_M_Pow (args : Array Value) (w : World) : (callFunc 46 args).run Tryd.prog w = .ok (.enter 46 args) w := enter_of Tryd.func46 (by kernel_rfl) rfl args w
theorem enq_M_low (args : Array Value) (w : World) : (callFunc 50 args).run Tryd.prog w = .ok (.enter 50 args) w := enter_of Tryd.func50 (by kernel_rfl) rfl args w
theorem enq_M_oddPart (args : Array Value) (w : World) : (callFunc 51 args).run Tryd.prog w = .ok (.enter 51 args) w := enter_of Tryd.func51 (by kernel_rfl) rfl args w
theorem enq_M_jacobi (args : Array Value) (w : World) : (callFunc 53 args).run Tryd.prog w = .ok (.enter 53 args) w := enter_of Tryd.func53 (by kernel_rfl) rfl args w
theorem enq_M_jacobiWords (args : Array Value) (w : World) : (callFunc 76 args).run Tryd.prog w = .ok (.enter 76 args) w := enter_of Tryd.func76 (by kernel_rfl) rfl args w
theorem enq_M_ofTwos (args : Array Value) (w : World) : (callFunc 52 args).run Tryd.prog w = .ok (.enter 52 args) w := enter_of Tryd.func52 (by kernel_rfl) rfl args w
theorem enq_M_turned (args : Array Value) (w : World) : (callFunc 75 args).run Tryd.prog w = .ok (.enter 75 args) w := enter_of Tryd.func75 (by kernel_rfl) rfl args w
theorem enq_M_Kronecker (args : Array Value) (w : World) : (callFunc 20 args).run Tryd.prog w = .ok (.enter 20 args) w := enter_of Tryd.func20 (by kernel_rfl) rfl args w
theorem enq_M_Sqrt (args : Array Value) (w : World) : (callFunc 56 args).run Tryd.prog w = .ok (.enter 56 args) w := enter_of Tryd.func56 (by kernel_rfl) rfl args w
theorem enq_M_someRoot (args : Array Value) (w : World) : (callFunc 77 args).run Tryd.prog w = .ok (.enter 77 args) w := enter_of Tryd.func77 (by kernel_rfl) rfl args w
theorem enq_M_lucasRoot (args : Array Value) (w : World) : (callFunc 87 args).run Tryd.prog w = .ok (.enter 87 args) w := enter_of Tryd.func87 (by kernel_rfl) rfl args w
theorem enq_M_lucas (args : Array Value) (w : World) : (callFunc 90 args).run Tryd.prog w = .ok (.enter 90 args) w := enter_of Tryd.func90 (by kernel_rfl) rfl args w
theorem enq_M_smallPower (args : Array Value) (w : World) : (callFunc 59 args).run Tryd.prog w = .ok (.enter 59 args) w := enter_of Tryd.func59 (by kernel_rfl) rfl args w
theorem enq_V_of (args : Array Value) (w : World) : (callFunc 13 args).run Tryd.prog w = .ok (.enter 13 args) w := enter_of Tryd.func13 (by kernel_rfl) rfl args w
theorem enq_V_inv (args : Array Value) (w : World) : (callFunc 14 args).run Tryd.prog w = .ok (.enter 14 args) w := enter_of Tryd.func14 (by kernel_rfl) rfl args w
theorem enq_V_pow (args : Array Value) (w : World) : (callFunc 17 args).run Tryd.prog w = .ok (.enter 17 args) w := enter_of Tryd.func17 (by kernel_rfl) rfl args w
theorem enq_V_root (args : Array Value) (w : World) : (callFunc 26 args).run Tryd.prog w = .ok (.enter 26 args) w := enter_of Tryd.func26 (by kernel_rfl) rfl args w
theorem enq_V_is (args : Array Value) (w : World) : (callFunc 23 args).run Tryd.prog w = .ok (.enter 23 args) w := enter_of Tryd.func23 (by kernel_rfl) rfl args w
theorem enq_V_examples (args : Array Value) (w : World) : (callFunc 9 args).run Tryd.prog w = .ok (.enter 9 args) w := enter_of Tryd.func9 (by kernel_rfl) rfl args w
theorem enq_U_Prime (args : Array Value) (w : World) : (callFunc 22 args).run Tryd.prog w = .ok (.enter 22 args) w := enter_of Tryd.func22 (by kernel_rfl) rfl args w
theorem enq_U_SameList (args : Array Value) (w : World) : (callFunc 30 args).run Tryd.prog w = .ok (.enter 30 args) w := enter_of Tryd.func30 (by kernel_rfl) rfl args w
theorem enq_Bezout (args : Array Value) (w : World) : (callFunc 64 args).run Tryd.prog w = .ok (.enter 64 args) w := enter_of Tryd.func64 (by kernel_rfl) rfl args w
theorem enq_Low (args : Array Value) (w : World) : (callFunc 58 args).run Tryd.prog w = .ok (.enter 58 args) w := enter_of Tryd.func58 (by kernel_rfl) rfl args w
theorem enq_Abs (args : Array Value) (w : World) : (callFunc 12 args).run Tryd.prog w = .ok (.enter 12 args) w := enter_of Tryd.func12 (by kernel_rfl) rfl args w
theorem enq_Bits (args : Array Value) (w : World) : (callFunc 70 args).run Tryd.prog w = .ok (.enter 70 args) w := enter_of Tryd.func70 (by kernel_rfl) rfl args w
theorem enq_Sqrt (args : Array Value) (w : World) : (callFunc 89 args).run Tryd.prog w = .ok (.enter 89 args) w := enter_of Tryd.func89 (by kernel_rfl) rfl args w

theorem exResidue {w : World} {v : Value} {b : Nat} {a m : Int} (h : Num w v a) (hb : Bq w b 2 (Fq.num m)) (hm : m ≠ 0) (ha : ab a < pw 300) (hn : ab m < pw 300) :
    Calls Tryd.prog 72 #[v, .pointer (some ⟨b, 0, none⟩)] w fun e w' => ∃ v', e = .returned v' ∧ Below w.heap.size w w' ∧ Num w' v' (a % m) := by
  have ho := hb
  have HM := hidd hm
  clear hb hm
  replace ha := hidd ha
  replace hn := hidd hn
  obtain ⟨n0, ao0, k0, c0, rfl⟩ := h.parts
  obtain ⟨w1, b1, hw1, hb1, hs1, E⟩ := fr_start w (F := Fq.num a) (us := [.bool n0, .slice ao0 k0 c0]) 29 rfl (by simp) (tame_int _ _ _ _) h
  obtain ⟨w2, b2, hw2, hb2, hs2, E⟩ := fr_more E hs1 (F := Fq.num 0) (us := [.bool false, .slice none 0 0]) 29 rfl (by simp) (tame_int _ _ _ _) (Num.zero _)
  go_enter Tryd.func72, Tryd.ntmps72
  go_upto_region 1 with (fail)
  rw [← hw1]
  rw [← hw2]
  rw [← hb2]
  rw [← hb1]
  clear hw1 hw2 hb1 hb2 hs2 hs1
  have B3 : Hid (ab ((a / m)) < pw 301) := ab_divB ha.out (by omega)
  have B4 : Hid (ab ((a % m)) < pw 300) := ab_modB HM.out hn.out
  refine region_fr (C := [Fq.num a, Fq.num m, Fq.tup3 (Fq.num (a / m)) (Fq.num (a % m)) (Fq.is (.int .i64 0)), Fq.tup3 (Fq.num (a / m)) (Fq.num (a % m)) (Fq.is (.int .i64 0)), Fq.num (a / m), Fq.num (a % m), Fq.is (.int .i64 0), Fq.any, Fq.any, Fq.any, Fq.any, Fq.is (.int .i64 0)]) (ks := [none, none]) (new := [⟨7, 9, 2, Fq.num 0, Fq.num (a / m), none⟩, ⟨8, 10, 2, Fq.num 0, Fq.num (a % m), none⟩]) E rfl (by kernel_rfl) rfl rfl (fun hp => ⟨?_, ?_, ?_, ?_, ?_, ?_, ?_, ?_, ?_, ?_, ?_, ?_, trivial⟩) ?_
  · exact q_loadInt (off := 0) hp (free_of rfl) trivial (List.mem_iff_getElem?.2 ⟨1, rfl⟩) (.inl rfl) (Nat.le_of_ble_eq_true rfl) (sq_out rfl rfl (fun _ _ => rfl)) (fun us w hl h => ld_num hl h)
  · exact q_loadIntOut hp (free_of rfl) trivial ho rfl (sq_out rfl rfl (fun _ _ => rfl)) (fun v w h => h)
  · exact q_call2 (F := (Fq.num a).P) (G := (Fq.num m).P) hp (free_of rfl) trivial (enq_DivMod) (sq_in 0 rfl rfl (by simp) rfl (fun v w h => h)) (sq_in 1 rfl rfl (by simp) rfl (fun v w h => h)) (fun v v' w h h' => exDMq h h' HM.out B3.out B4.out (by omega) (by omega))
  · exact q_move hp (free_of rfl) trivial (sq_in 2 rfl rfl (by simp) rfl (fun v w h => h))
  · exact q_extract3 hp (free_of rfl) trivial (sq_in 3 rfl rfl (by simp) rfl (fun v w h => h)) (fun v1 v2 v3 w h1 h2 h3 => ⟨_, rfl, h1⟩)
  · exact q_extract3 hp (free_of rfl) trivial (sq_in 3 rfl rfl (by simp) rfl (fun v w h => h)) (fun v1 v2 v3 w h1 h2 h3 => ⟨_, rfl, h2⟩)
  · exact q_extract3 hp (free_of rfl) trivial (sq_in 3 rfl rfl (by simp) rfl (fun v w h => h)) (fun v1 v2 v3 w h1 h2 h3 => ⟨_, rfl, h3⟩)
  · exact q_allocInt hp (List.mem_iff_getElem?.2 ⟨0, rfl⟩) rfl rfl rfl rfl (Nat.ne_of_beq_eq_false rfl) (fun _ _ => trivial) (old_ne rfl) (newk_ne rfl) (fun w => Num.zero w)
  · exact q_allocInt hp (List.mem_iff_getElem?.2 ⟨1, rfl⟩) rfl rfl rfl rfl (Nat.ne_of_beq_eq_false rfl) (fun _ _ => trivial) (old_ne rfl) (newk_ne rfl) (fun w => Num.zero w)
  · exact q_storeNewInt hp (List.mem_iff_getElem?.2 ⟨0, rfl⟩) rfl rfl rfl (own_ptr rfl rfl (by simp) rfl) (sq_in 4 rfl rfl (by simp) rfl (fun v w h => intV_num h)) (fun _ _ => trivial) (old_ne rfl) (newi_ne rfl)
  · exact q_storeNewInt hp (List.mem_iff_getElem?.2 ⟨1, rfl⟩) rfl rfl rfl (own_ptr rfl rfl (by simp) rfl) (sq_in 5 rfl rfl (by simp) rfl (fun v w h => intV_num h)) (fun _ _ => trivial) (old_ne rfl) (newi_ne rfl)
  · exact q_assign hp (free_of rfl) trivial (sq_in 6 rfl rfl (by simp) rfl (fun v w h => h))
  intro L vs w5 nb hL hC hn E5
  have e6 : vs 6 = .int .i64 0 := hC 6 (by simp)
  have e11 : vs 11 = .int .i64 0 := hC 11 (by simp)
  have e7 : vs 7 = .pointer (some ⟨nb 7, 0, none⟩) := hn _ (List.mem_iff_getElem?.2 ⟨0, rfl⟩)
  have e8 : vs 8 = .pointer (some ⟨nb 8, 0, none⟩) := hn _ (List.mem_iff_getElem?.2 ⟨1, rfl⟩)
  have E : Fr w [(nb 7, 2, Fq.num (a / m)), (nb 8, 2, Fq.num (a % m)), (b2, 2, Fq.num 0), (b1, 2, Fq.num a)] w5 := E5
  rw [lay_all hL]
  simp only [putAll, dstOf, List.length_cons, List.length_nil, Nat.zero_add, Nat.reduceAdd, List.getElem?_toArray, List.getElem?_cons_zero, List.getElem?_cons_succ, Option.bind_some, Act.put, List.setIfInBounds_toArray, List.set_cons_succ, List.set_cons_zero]
  rw [e6, e11, e7, e8]
  generalize nb 7 = b5_7 at E ⊢
  generalize nb 8 = b5_8 at E ⊢
  generalize vs 0 = u5_0
  generalize vs 1 = u5_1
  generalize vs 2 = u5_2
  generalize vs 3 = u5_3
  generalize vs 4 = u5_4
  generalize vs 5 = u5_5
  clear e6 e11 e7 e8 hC hn E5 hL vs L nb
  go_upto_region 2 with (fail)
  refine region_fr (C := [Fq.num (a % m), Fq.any]) (ks := [none, none, some (1, Fq.num (a % m)), none]) (new := []) E rfl (by kernel_rfl) rfl rfl (fun hp => ⟨?_, ?_, trivial⟩) ?_
  · exact q_loadInt (off := 0) hp (free_of rfl) trivial (List.mem_iff_getElem?.2 ⟨1, rfl⟩) (.inl rfl) (Nat.le_of_ble_eq_true rfl) (sq_out rfl rfl (fun _ _ => rfl)) (fun us w hl h => ld_num hl h)
  · exact q_storeOldInt hp (List.mem_iff_getElem?.2 ⟨2, rfl⟩) rfl rfl (sq_out rfl rfl (fun _ _ => rfl)) (sq_in 0 rfl rfl (by simp) rfl (fun v w h => intV_num h)) (fun _ _ => trivial) (newik_ne rfl)
  intro L vs w6 nb hL hC hn E6
  have E : Fr w [(b5_7, 2, Fq.num (a / m)), (b5_8, 2, Fq.num (a % m)), (b2, 2, Fq.num (a % m)), (b1, 2, Fq.num a)] w6 := E6
  rw [lay_all hL]
  simp only [putAll, dstOf, List.length_cons, List.length_nil, Nat.zero_add, Nat.reduceAdd, List.getElem?_toArray, List.getElem?_cons_zero, List.getElem?_cons_succ, Option.bind_some, Act.put, List.setIfInBounds_toArray, List.set_cons_succ, List.set_cons_zero]
  generalize vs 0 = u6_0
  clear  hC hn E6 hL vs L nb
  clear HM ho
  obtain ⟨p0, p1, c0, c1, hP⟩ := box_num (E.box 2 rfl)
  clear B3 B4 ha hn
  go_wp2
  refine bodyPost_ret (v := .agg #[p0, p1]) ?_ rfl ⟨_, rfl, E.below, hP⟩
  simp [results, Tryd.results72, go_sem, c0, c1]

theorem exLowQ {w : World} {v : Value} {z : Int} (h : Num w v z) {n : Int} {t : Bool} (e : lowV z = .tuple #[.int .i64 n, .bool t]) : Calls Tryd.prog 58 #[v] w fun e w' => ∃ v', e = .returned v' ∧ Below w.heap.size w w' ∧ (Fq.tup2 (Fq.is (.int .i64 n)) (Fq.is (.bool t))).P v' w' :=
  (LowV h).mono fun _ _ ⟨he, hb⟩ => ⟨_, he, hb, _, _, e, rfl, rfl⟩
theorem lowV_in {z : Int} (h0 : -9223372036854775808 ≤ z) (h1 : z ≤ 9223372036854775807) : lowV z = .tuple #[.int .i64 z, .bool true] := by unfold lowV; rw [if_pos ⟨h0, h1⟩]
theorem lowV_out {z : Int} (h : ¬ (-9223372036854775808 ≤ z ∧ z ≤ 9223372036854775807)) : lowV z = .tuple #[.int .i64 0, .bool false] := by unfold lowV; rw [if_neg h]

set_option maxRecDepth 100000 in
set_option maxHeartbeats 4000000 in
theorem exIsOneM {w : World} {v : Value} {z : Int} (h : Num w v z) :
    Calls Tryd.prog 49 #[v] w fun e w' => ∃ v', e = .returned v' ∧ Below w.heap.size w w' ∧ v' = .bool (decide (z = 1)) := by
  obtain ⟨n0, ao0, k0, c0, rfl⟩ := h.parts
  obtain ⟨w1, b1, hw1, hb1, hs1, E⟩ := fr_start w (F := Fq.num z) (us := [.bool n0, .slice ao0 k0 c0]) 29 rfl (by simp) (tame_int _ _ _ _) h
  go_enter Tryd.func49, Tryd.ntmps49
  go_upto_region 1 with (fail)
  rw [← hw1]
  rw [← hb1]
  clear hw1 hb1 hs1
  by_cases hl : -9223372036854775808 ≤ z ∧ z ≤ 9223372036854775807
  · by_cases hc : z = 1
    · have HL := hidd (lowV_in hl.1 hl.2)
      have T : Hid (z = 1) := hc
      have T2 : Hid (decide (z = 1) = true) := decide_eq_true hc
      clear hl hc
      refine region_fr (C := [Fq.num z, Fq.tup2 (Fq.is (.int .i64 z)) (Fq.is (.bool true)), Fq.tup2 (Fq.is (.int .i64 z)) (Fq.is (.bool true)), Fq.is (.int .i64 z), Fq.is (.bool true), Fq.is (.int .i64 z), Fq.is (.bool true)]) (ks := [none]) (new := []) E rfl (by kernel_rfl) rfl rfl (fun hp => ⟨?_, ?_, ?_, ?_, ?_, ?_, ?_, trivial⟩) ?_
      · exact q_loadInt (off := 0) hp (free_of rfl) trivial (List.mem_iff_getElem?.2 ⟨0, rfl⟩) (.inl rfl) (Nat.le_of_ble_eq_true rfl) (sq_out rfl rfl (fun _ _ => rfl)) (fun us w hl h => ld_num hl h)
      · exact q_call1 (F := (Fq.num z).P) hp (free_of rfl) trivial (enq_Low) (sq_in 0 rfl rfl (by simp) rfl (fun v w h => h)) (fun v w h => exLowQ h HL.out)
      · exact q_move hp (free_of rfl) trivial (sq_in 1 rfl rfl (by simp) rfl (fun v w h => h))
      · exact q_extract2 hp (free_of rfl) trivial (sq_in 2 rfl rfl (by simp) rfl (fun v w h => h)) (fun v1 v2 w h1 h2 => ⟨_, rfl, h1⟩)
      · exact q_extract2 hp (free_of rfl) trivial (sq_in 2 rfl rfl (by simp) rfl (fun v w h => h)) (fun v1 v2 w h1 h2 => ⟨_, rfl, h2⟩)
      · exact q_assign hp (free_of rfl) trivial (sq_in 3 rfl rfl (by simp) rfl (fun v w h => h))
      · exact q_assign hp (free_of rfl) trivial (sq_in 4 rfl rfl (by simp) rfl (fun v w h => h))
      intro L vs w2 nb hL hC hn E2
      have e3 : vs 3 = .int .i64 z := hC 3 (by simp)
      have e4 : vs 4 = .bool true := hC 4 (by simp)
      have e5 : vs 5 = .int .i64 z := hC 5 (by simp)
      have e6 : vs 6 = .bool true := hC 6 (by simp)
      have E : Fr w [(b1, 2, Fq.num z)] w2 := E2
      rw [lay_all hL]
      simp only [putAll, dstOf, List.length_cons, List.length_nil, Nat.zero_add, Nat.reduceAdd, List.getElem?_toArray, List.getElem?_cons_zero, List.getElem?_cons_succ, Option.bind_some, Act.put, List.setIfInBounds_toArray, List.set_cons_succ, List.set_cons_zero]
      rw [e3, e4, e5, e6]
      generalize vs 0 = u2_0
      generalize vs 1 = u2_1
      generalize vs 2 = u2_2
      clear e3 e4 e5 e6 hC hn E2 hL vs L nb
      go_upto_region 2 with (fail)
      refine region_fr (C := [Fq.is (.bool true), Fq.is (.bool true), Fq.is (.int .i64 z), Fq.is (.bool true), Fq.is (.bool true), Fq.is (.bool true)]) (ks := [none]) (new := []) E rfl (by kernel_rfl) rfl rfl (fun hp => ⟨?_, ?_, ?_, ?_, ?_, ?_, trivial⟩) ?_
      · exact q_move hp (free_of rfl) trivial (sq_out rfl rfl (fun _ _ => rfl))
      · exact q_move hp (free_of rfl) trivial (sq_in 0 rfl rfl (by simp) rfl (fun v w h => h))
      · exact q_move hp (free_of rfl) (gq_some rfl rfl (by simp) rfl (fun v w h => h)) (sq_out rfl rfl (fun _ _ => rfl))
      · exact q_one (F := fun v _ => v = .int .i64 z) hp (free_of rfl) (gq_some rfl rfl (by simp) rfl (fun v w h => h)) (sq_in 2 rfl rfl (by simp) rfl (fun v w h => h)) (fun ρ w hc h => ⟨.bool true, by simp [execOp, go_sem, h, hc, T.out], rfl⟩)
      · exact q_two (F := fun v _ => v = .bool true) (G := fun v _ => v = .bool true) hp (free_of rfl) trivial (sq_in 1 rfl rfl (by simp) rfl (fun v w h => h)) (sq_in 3 rfl rfl (by simp) rfl (fun v w h => h)) (fun ρ w hc h h' => ⟨_, by simp [execOp, go_sem, h, h'], rfl⟩)
      · exact q_assign hp (free_of rfl) trivial (sq_in 4 rfl rfl (by simp) rfl (fun v w h => h))
      intro L vs w3 nb hL hC hn E3
      have e0 : vs 0 = .bool true := hC 0 (by simp)
      have e1 : vs 1 = .bool true := hC 1 (by simp)
      have e2 : vs 2 = .int .i64 z := hC 2 (by simp)
      have e3 : vs 3 = .bool true := hC 3 (by simp)
      have e4 : vs 4 = .bool true := hC 4 (by simp)
      have e5 : vs 5 = .bool true := hC 5 (by simp)
      have E : Fr w [(b1, 2, Fq.num z)] w3 := E3
      rw [lay_all hL]
      simp only [putAll, dstOf, List.length_cons, List.length_nil, Nat.zero_add, Nat.reduceAdd, List.getElem?_toArray, List.getElem?_cons_zero, List.getElem?_cons_succ, Option.bind_some, Act.put, List.setIfInBounds_toArray, List.set_cons_succ, List.set_cons_zero]
      rw [e0, e1, e2, e3, e4, e5]
      clear e0 e1 e2 e3 e4 e5 hC hn E3 hL vs L nb
      clear T HL
      go_wp2
      refine bodyPost_ret (v := .bool true) ?_ rfl (by first | exact ⟨_, rfl, E.below, by rw [T2.out]⟩ | exact ⟨_, rfl, E.below⟩ | exact ⟨rfl, E.below⟩)
      simp [results, Tryd.results49, go_sem]
    · have HL := hidd (lowV_in hl.1 hl.2)
      have T : Hid (¬ z = 1) := hc
      have T2 : Hid (decide (z = 1) = false) := decide_eq_false hc
      clear hl hc
      refine region_fr (C := [Fq.num z, Fq.tup2 (Fq.is (.int .i64 z)) (Fq.is (.bool true)), Fq.tup2 (Fq.is (.int .i64 z)) (Fq.is (.bool true)), Fq.is (.int .i64 z), Fq.is (.bool true), Fq.is (.int .i64 z), Fq.is (.bool true)]) (ks := [none]) (new := []) E rfl (by kernel_rfl) rfl rfl (fun hp => ⟨?_, ?_, ?_, ?_, ?_, ?_, ?_, trivial⟩) ?_
      · exact q_loadInt (off := 0) hp (free_of rfl) trivial (List.mem_iff_getElem?.2 ⟨0, rfl⟩) (.inl rfl) (Nat.le_of_ble_eq_true rfl) (sq_out rfl rfl (fun _ _ => rfl)) (fun us w hl h => ld_num hl h)
      · exact q_call1 (F := (Fq.num z).P) hp (free_of rfl) trivial (enq_Low) (sq_in 0 rfl rfl (by simp) rfl (fun v w h => h)) (fun v w h => exLowQ h HL.out)
      · exact q_move hp (free_of rfl) trivial (sq_in 1 rfl rfl (by simp) rfl (fun v w h => h))
      · exact q_extract2 hp (free_of rfl) trivial (sq_in 2 rfl rfl (by simp) rfl (fun v w h => h)) (fun v1 v2 w h1 h2 => ⟨_, rfl, h1⟩)
      · exact q_extract2 hp (free_of rfl) trivial (sq_in 2 rfl rfl (by simp) rfl (fun v w h => h)) (fun v1 v2 w h1 h2 => ⟨_, rfl, h2⟩)
      · exact q_assign hp (free_of rfl) trivial (sq_in 3 rfl rfl (by simp) rfl (fun v w h => h))
      · exact q_assign hp (free_of rfl) trivial (sq_in 4 rfl rfl (by simp) rfl (fun v w h => h))
      intro L vs w4 nb hL hC hn E4
      have e3 : vs 3 = .int .i64 z := hC 3 (by simp)
      have e4 : vs 4 = .bool true := hC 4 (by simp)
      have e5 : vs 5 = .int .i64 z := hC 5 (by simp)
      have e6 : vs 6 = .bool true := hC 6 (by simp)
      have E : Fr w [(b1, 2, Fq.num z)] w4 := E4
      rw [lay_all hL]
      simp only [putAll, dstOf, List.length_cons, List.length_nil, Nat.zero_add, Nat.reduceAdd, List.getElem?_toArray, List.getElem?_cons_zero, List.getElem?_cons_succ, Option.bind_some, Act.put, List.setIfInBounds_toArray, List.set_cons_succ, List.set_cons_zero]
      rw [e3, e4, e5, e6]
      generalize vs 0 = u4_0
      generalize vs 1 = u4_1
      generalize vs 2 = u4_2
      clear e3 e4 e5 e6 hC hn E4 hL vs L nb
      go_upto_region 2 with (fail)
      refine region_fr (C := [Fq.is (.bool true), Fq.is (.bool true), Fq.is (.int .i64 z), Fq.is (.bool false), Fq.is (.bool false), Fq.is (.bool false)]) (ks := [none]) (new := []) E rfl (by kernel_rfl) rfl rfl (fun hp => ⟨?_, ?_, ?_, ?_, ?_, ?_, trivial⟩) ?_
      · exact q_move hp (free_of rfl) trivial (sq_out rfl rfl (fun _ _ => rfl))
      · exact q_move hp (free_of rfl) trivial (sq_in 0 rfl rfl (by simp) rfl (fun v w h => h))
      · exact q_move hp (free_of rfl) (gq_some rfl rfl (by simp) rfl (fun v w h => h)) (sq_out rfl rfl (fun _ _ => rfl))
      · exact q_one (F := fun v _ => v = .int .i64 z) hp (free_of rfl) (gq_some rfl rfl (by simp) rfl (fun v w h => h)) (sq_in 2 rfl rfl (by simp) rfl (fun v w h => h)) (fun ρ w hc h => ⟨.bool false, by simp [execOp, go_sem, h, hc, T.out], rfl⟩)
      · exact q_two (F := fun v _ => v = .bool true) (G := fun v _ => v = .bool false) hp (free_of rfl) trivial (sq_in 1 rfl rfl (by simp) rfl (fun v w h => h)) (sq_in 3 rfl rfl (by simp) rfl (fun v w h => h)) (fun ρ w hc h h' => ⟨_, by simp [execOp, go_sem, h, h'], rfl⟩)
      · exact q_assign hp (free_of rfl) trivial (sq_in 4 rfl rfl (by simp) rfl (fun v w h => h))
      intro L vs w5 nb hL hC hn E5
      have e0 : vs 0 = .bool true := hC 0 (by simp)
      have e1 : vs 1 = .bool true := hC 1 (by simp)
      have e2 : vs 2 = .int .i64 z := hC 2 (by simp)
      have e3 : vs 3 = .bool false := hC 3 (by simp)
      have e4 : vs 4 = .bool false := hC 4 (by simp)
      have e5 : vs 5 = .bool false := hC 5 (by simp)
      have E : Fr w [(b1, 2, Fq.num z)] w5 := E5
      rw [lay_all hL]
      simp only [putAll, dstOf, List.length_cons, List.length_nil, Nat.zero_add, Nat.reduceAdd, List.getElem?_toArray, List.getElem?_cons_zero, List.getElem?_cons_succ, Option.bind_some, Act.put, List.setIfInBounds_toArray, List.set_cons_succ, List.set_cons_zero]
      rw [e0, e1, e2, e3, e4, e5]
      clear e0 e1 e2 e3 e4 e5 hC hn E5 hL vs L nb
      clear T HL
      go_wp2
      refine bodyPost_ret (v := .bool false) ?_ rfl (by first | exact ⟨_, rfl, E.below, by rw [T2.out]⟩ | exact ⟨_, rfl, E.below⟩ | exact ⟨rfl, E.below⟩)
      simp [results, Tryd.results49, go_sem]
  · have HL := hidd (lowV_out hl)
    have T2 : Hid (decide (z = 1) = false) := decide_eq_false (by omega)
    clear hl
    refine region_fr (C := [Fq.num z, Fq.tup2 (Fq.is (.int .i64 0)) (Fq.is (.bool false)), Fq.tup2 (Fq.is (.int .i64 0)) (Fq.is (.bool false)), Fq.is (.int .i64 0), Fq.is (.bool false), Fq.is (.int .i64 0), Fq.is (.bool false)]) (ks := [none]) (new := []) E rfl (by kernel_rfl) rfl rfl (fun hp => ⟨?_, ?_, ?_, ?_, ?_, ?_, ?_, trivial⟩) ?_
    · exact q_loadInt (off := 0) hp (free_of rfl) trivial (List.mem_iff_getElem?.2 ⟨0, rfl⟩) (.inl rfl) (Nat.le_of_ble_eq_true rfl) (sq_out rfl rfl (fun _ _ => rfl)) (fun us w hl h => ld_num hl h)
    · exact q_call1 (F := (Fq.num z).P) hp (free_of rfl) trivial (enq_Low) (sq_in 0 rfl rfl (by simp) rfl (fun v w h => h)) (fun v w h => exLowQ h HL.out)
    · exact q_move hp (free_of rfl) trivial (sq_in 1 rfl rfl (by simp) rfl (fun v w h => h))
    · exact q_extract2 hp (free_of rfl) trivial (sq_in 2 rfl rfl (by simp) rfl (fun v w h => h)) (fun v1 v2 w h1 h2 => ⟨_, rfl, h1⟩)
    · exact q_extract2 hp (free_of rfl) trivial (sq_in 2 rfl rfl (by simp) rfl (fun v w h => h)) (fun v1 v2 w h1 h2 => ⟨_, rfl, h2⟩)
    · exact q_assign hp (free_of rfl) trivial (sq_in 3 rfl rfl (by simp) rfl (fun v w h => h))
    · exact q_assign hp (free_of rfl) trivial (sq_in 4 rfl rfl (by simp) rfl (fun v w h => h))
    intro L vs w6 nb hL hC hn E6
    have e3 : vs 3 = .int .i64 0 := hC 3 (by simp)
    have e4 : vs 4 = .bool false := hC 4 (by simp)
    have e5 : vs 5 = .int .i64 0 := hC 5 (by simp)
    have e6 : vs 6 = .bool false := hC 6 (by simp)
    have E : Fr w [(b1, 2, Fq.num z)] w6 := E6
    rw [lay_all hL]
    simp only [putAll, dstOf, List.length_cons, List.length_nil, Nat.zero_add, Nat.reduceAdd, List.getElem?_toArray, List.getElem?_cons_zero, List.getElem?_cons_succ, Option.bind_some, Act.put, List.setIfInBounds_toArray, List.set_cons_succ, List.set_cons_zero]
    rw [e3, e4, e5, e6]
    generalize vs 0 = u6_0
    generalize vs 1 = u6_1
    generalize vs 2 = u6_2
    clear e3 e4 e5 e6 hC hn E6 hL vs L nb
    go_upto_region 2 with (fail)
    refine region_fr (C := [Fq.is (.bool false), Fq.is (.bool false), Fq.is (undef), Fq.is (undef), Fq.is (.bool false), Fq.is (.bool false)]) (ks := [none]) (new := []) E rfl (by kernel_rfl) rfl rfl (fun hp => ⟨?_, ?_, ?_, ?_, ?_, ?_, trivial⟩) ?_
    · exact q_move hp (free_of rfl) trivial (sq_out rfl rfl (fun _ _ => rfl))
    · exact q_move hp (free_of rfl) trivial (sq_in 0 rfl rfl (by simp) rfl (fun v w h => h))
    · exact q_skip hp (free_of rfl) rfl (gq_some rfl rfl (by simp) rfl (fun v w h => h)) (fun _ => rfl)
    · exact q_skip hp (free_of rfl) rfl (gq_some rfl rfl (by simp) rfl (fun v w h => h)) (fun _ => rfl)
    · exact q_two (F := fun v _ => v = .bool false) (G := fun v _ => v = .bool false) hp (free_of rfl) trivial (sq_in 1 rfl rfl (by simp) rfl (fun v w h => h)) (sq_const (fun _ => rfl)) (fun ρ w hc h h' => ⟨_, by simp [execOp, go_sem, h, h'], rfl⟩)
    · exact q_assign hp (free_of rfl) trivial (sq_in 4 rfl rfl (by simp) rfl (fun v w h => h))
    intro L vs w7 nb hL hC hn E7
    have e0 : vs 0 = .bool false := hC 0 (by simp)
    have e1 : vs 1 = .bool false := hC 1 (by simp)
    have e2 : vs 2 = undef := hC 2 (by simp)
    have e3 : vs 3 = undef := hC 3 (by simp)
    have e4 : vs 4 = .bool false := hC 4 (by simp)
    have e5 : vs 5 = .bool false := hC 5 (by simp)
    have E : Fr w [(b1, 2, Fq.num z)] w7 := E7
    rw [lay_all hL]
    simp only [putAll, dstOf, List.length_cons, List.length_nil, Nat.zero_add, Nat.reduceAdd, List.getElem?_toArray, List.getElem?_cons_zero, List.getElem?_cons_succ, Option.bind_some, Act.put, List.setIfInBounds_toArray, List.set_cons_succ, List.set_cons_zero]
    rw [e0, e1, e2, e3, e4, e5]
    clear e0 e1 e2 e3 e4 e5 hC hn E7 hL vs L nb
    clear HL
    go_wp2
    refine bodyPost_ret (v := .bool false) ?_ rfl (by first | exact ⟨_, rfl, E.below, by rw [T2.out]⟩ | exact ⟨_, rfl, E.below⟩ | exact ⟨rfl, E.below⟩)
    simp [results, Tryd.results49, go_sem]

theorem exIsOneMB {w : World} {v : Value} {z : Int} {t : Bool} (h : Num w v z) (ht : decide (z = 1) = t) : Calls Tryd.prog 49 #[v] w fun e w' => ∃ v', e = .returned v' ∧ Below w.heap.size w w' ∧ v' = .bool t := by
  have := exIsOneM h
  rw [ht] at this
  exact this

theorem cmpI_le0 {x : Int} : cmpI x 0 ≤ 0 ↔ x ≤ 0 := by
  constructor
  · intro h
    rcases Int.lt_or_le 0 x with h2 | h2
    · have := cmpIqgt.2 h2; omega
    · exact h2
  · intro h
    rcases Int.lt_or_le 0 (cmpI x 0) with h2 | h2
    · have := cmpIqgt.1 h2; omega
    · exact h2

set_option maxRecDepth 100000 in
set_option maxHeartbeats 4000000 in
theorem exModP {w : World} {v v' : Value} {a m : Int} (h : Num w v a) (h' : Num w v' m) (ha : ab a < pw 300) (hm : ab m < pw 300) (h0 : 0 < m) :
    Calls Tryd.prog 18 #[v, v'] w fun e w' => ∃ v', e = .returned v' ∧ Below w.heap.size w w' ∧ (Fq.tup2 (Fq.num (a % m)) (Fq.is (.int .i64 0))).P v' w' := by
  replace ha := hidd ha
  replace hm := hidd hm
  obtain ⟨n0, ao0, k0, c0, rfl⟩ := h.parts
  obtain ⟨n1, ao1, k1, c1, rfl⟩ := h'.parts
  obtain ⟨w1, b1, hw1, hb1, hs1, E⟩ := fr_start w (F := Fq.num a) (us := [.bool n0, .slice ao0 k0 c0]) 29 rfl (by simp) (tame_int _ _ _ _) h
  obtain ⟨w2, b2, hw2, hb2, hs2, E⟩ := fr_more E hs1 (F := Fq.num m) (us := [.bool n1, .slice ao1 k1 c1]) 29 rfl (by simp) (tame_int _ _ _ _) (h'.mono E.below)
  obtain ⟨w3, b3, hw3, hb3, hs3, E⟩ := fr_more E hs2 (F := Fq.num 0) (us := [.bool false, .slice none 0 0]) 29 rfl (by simp) (tame_int _ _ _ _) (Num.zero _)
  go_enter Tryd.func18, Tryd.ntmps18
  go_upto_region 1 with (fail)
  rw [← hw1]
  rw [← hw2]
  rw [← hw3]
  rw [← hb3]
  rw [← hb2]
  rw [← hb1]
  clear hw1 hw2 hw3 hb1 hb2 hb3 hs3 hs1 hs2
  have T1 : Hid (¬ cmpI m 0 ≤ 0) := fun e => by have := cmpI_le0.1 e; omega
  have HM : Hid (m ≠ 0) := by show _ ≠ _; omega
  clear h0
  refine region_fr (C := [Fq.num m, Fq.is (.int .i64 (cmpI m 0)), Fq.is (.bool false)]) (ks := [none, none, none]) (new := []) E rfl (by kernel_rfl) rfl rfl (fun hp => ⟨?_, ?_, ?_, trivial⟩) ?_
  · exact q_loadInt (off := 0) hp (free_of rfl) trivial (List.mem_iff_getElem?.2 ⟨1, rfl⟩) (.inl rfl) (Nat.le_of_ble_eq_true rfl) (sq_out rfl rfl (fun _ _ => rfl)) (fun us w hl h => ld_num hl h)
  · exact q_call1 (F := (Fq.num m).P) hp (free_of rfl) trivial (enq_Sign) (sq_in 0 rfl rfl (by simp) rfl (fun v w h => h)) (fun v w h => exSign h)
  · exact q_one (F := fun v _ => v = .int .i64 (cmpI m 0)) hp (free_of rfl) trivial (sq_in 1 rfl rfl (by simp) rfl (fun v w h => h)) (fun ρ w hc h => ⟨.bool false, by simp [execOp, go_sem, h, hc, T1.out], rfl⟩)
  intro L vs w4 nb hL hC hn E4
  have e1 : vs 1 = .int .i64 (cmpI m 0) := hC 1 (by simp)
  have e2 : vs 2 = .bool false := hC 2 (by simp)
  have E : Fr w [(b3, 2, Fq.num 0), (b2, 2, Fq.num m), (b1, 2, Fq.num a)] w4 := E4
  rw [lay_all hL]
  simp only [putAll, dstOf, List.length_cons, List.length_nil, Nat.zero_add, Nat.reduceAdd, List.getElem?_toArray, List.getElem?_cons_zero, List.getElem?_cons_succ, Option.bind_some, Act.put, List.setIfInBounds_toArray, List.set_cons_succ, List.set_cons_zero]
  rw [e1, e2]
  generalize vs 0 = u4_0
  clear e1 e2 hC hn E4 hL vs L nb
  clear T1
  go_upto_region 3 with (fail)
  have B5 : Hid (ab ((a % m)) < pw 300) := ab_modB HM.out hm.out
  refine region_fr (C := [Fq.num m, Fq.any, Fq.num a, Fq.num (a % m), Fq.any, Fq.is (.int .i64 0)]) (ks := [some (4, Fq.num (a % m)), none, none]) (new := [⟨1, 1, 2, Fq.num m, Fq.num m, (some (.clo 72))⟩]) E rfl (by kernel_rfl) rfl rfl (fun hp => ⟨?_, ?_, ?_, ?_, ?_, ?_, trivial⟩) ?_
  · exact q_loadInt (off := 0) hp (free_of rfl) trivial (List.mem_iff_getElem?.2 ⟨1, rfl⟩) (.inl rfl) (Nat.le_of_ble_eq_true rfl) (sq_out rfl rfl (fun _ _ => rfl)) (fun us w hl h => ld_num hl h)
  · exact q_callMake (F := (Fq.num m).P) hp enq_M_within (List.mem_iff_getElem?.2 ⟨0, rfl⟩) rfl rfl rfl (sq_in 0 rfl rfl (by simp) rfl (fun v w h => h)) (fun v w h => exWithin h) (fun _ _ => trivial) (old_ne rfl) (newks_ne rfl)
  · exact q_loadInt (off := 0) hp (free_of rfl) trivial (List.mem_iff_getElem?.2 ⟨2, rfl⟩) (.inl rfl) (Nat.le_of_ble_eq_true rfl) (sq_out rfl rfl (fun _ _ => rfl)) (fun us w hl h => ld_num hl h)
  · exact q_callCloIn (F := (Fq.num a).P) hp (free_of rfl) trivial enq_M_within1 (List.mem_iff_getElem?.2 ⟨0, rfl⟩) rfl (own_ptr rfl rfl (by simp) rfl) (sq_in 2 rfl rfl (by simp) rfl (fun v w h => h)) (fun v b w h hb => exResidue h hb HM.out (Int.lt_of_lt_of_le ha.out (pw_le (by omega))) (Int.lt_of_lt_of_le hm.out (pw_le (by omega))))
  · exact q_storeOldInt hp (List.mem_iff_getElem?.2 ⟨0, rfl⟩) rfl rfl (sq_out rfl rfl (fun _ _ => rfl)) (sq_in 3 rfl rfl (by simp) rfl (fun v w h => intV_num h)) (fun _ _ => trivial) (newik_ne rfl)
  · exact q_assign hp (free_of rfl) trivial (sq_const (fun _ => rfl))
  intro L vs w6 nb hL hC hn E6
  have e5 : vs 5 = .int .i64 0 := hC 5 (by simp)
  have e1 : vs 1 = cloV 72 (nb 1) := hn _ (List.mem_iff_getElem?.2 ⟨0, rfl⟩)
  have E : Fr w [(nb 1, 2, Fq.num m), (b3, 2, Fq.num (a % m)), (b2, 2, Fq.num m), (b1, 2, Fq.num a)] w6 := E6
  rw [lay_all hL]
  simp only [putAll, dstOf, List.length_cons, List.length_nil, Nat.zero_add, Nat.reduceAdd, List.getElem?_toArray, List.getElem?_cons_zero, List.getElem?_cons_succ, Option.bind_some, Act.put, List.setIfInBounds_toArray, List.set_cons_succ, List.set_cons_zero]
  rw [e5, e1]
  generalize nb 1 = b6_1 at E ⊢
  generalize vs 0 = u6_0
  generalize vs 2 = u6_2
  generalize vs 3 = u6_3
  clear e5 e1 hC hn E6 hL vs L nb
  clear HM
  obtain ⟨p0, p1, c0, c1, hP⟩ := box_num (E.box 1 rfl)
  clear B5 ha hm
  go_wp2
  refine bodyPost_ret (v := .tuple #[.agg #[p0, p1], .int .i64 0]) ?_ rfl ⟨_, rfl, E.below, ⟨_, _, rfl, hP, rfl⟩⟩
  simp [results, Tryd.results18, go_sem, c0, c1]

theorem exBezout {w : World} {v v' : Value} {a m : Int} (h : Num w v a) (h' : Num w v' m) (ha : ab a < pw 300) (hn : ab m < pw 300) (hm : 0 < m) :
    Calls Tryd.prog 64 #[v, v'] w fun e w' => ∃ v', e = .returned v' ∧ Below w.heap.size w w' ∧ (Fq.tup3 (Fq.num (Int.gcd a m : Int)) (Fq.num (bezU a m)) (Fq.num (bezV a m))).P v' w' := by
  refine (BezoutV h h' ha hn (by omega)).mono fun e w' hh => ?_
  obtain ⟨hb, v1, v2, v3, g, u, x, rfl, h1, h2, h3, rfl, ⟨h4, _⟩ | ⟨_, h5, h6, h7⟩⟩ := hh
  · omega
  · rw [ab_of (by omega)] at h6
    obtain ⟨rfl, rfl⟩ := bez_uniq hm h5 h6 h7
    exact ⟨_, rfl, hb, _, _, _, rfl, h1, h2, h3⟩
theorem bezU_ab {a m : Int} {k : Nat} (hm : 0 < m) (h : ab m < pw k) : ab (bezU a m) < pw k := by
  have h1 := (bez_spec (a := a) hm).1
  have h2 := bez_lt (a := a) hm
  unfold ab at *
  omega

set_option maxRecDepth 100000 in
set_option maxHeartbeats 4000000 in
theorem exInvP {w : World} {v v' : Value} {a m : Int} (h : Num w v a) (h' : Num w v' m) (ha : ab a < pw 300) (hm : ab m < pw 300) (h0 : 0 < m) (hg : Int.gcd a m = 1) :
    Calls Tryd.prog 41 #[v, v'] w fun e w' => ∃ v', e = .returned v' ∧ Below w.heap.size w w' ∧ (Fq.tup2 (Fq.num (bezU a m)) (Fq.is (.int .i64 0))).P v' w' := by
  replace ha := hidd ha
  replace hm := hidd hm
  obtain ⟨n0, ao0, k0, c0, rfl⟩ := h.parts
  obtain ⟨n1, ao1, k1, c1, rfl⟩ := h'.parts
  obtain ⟨w1, b1, hw1, hb1, hs1, E⟩ := fr_start w (F := Fq.num a) (us := [.bool n0, .slice ao0 k0 c0]) 29 rfl (by simp) (tame_int _ _ _ _) h
  obtain ⟨w2, b2, hw2, hb2, hs2, E⟩ := fr_more E hs1 (F := Fq.num m) (us := [.bool n1, .slice ao1 k1 c1]) 29 rfl (by simp) (tame_int _ _ _ _) (h'.mono E.below)
  obtain ⟨w3, b3, hw3, hb3, hs3, E⟩ := fr_more E hs2 (F := Fq.num 0) (us := [.bool false, .slice none 0 0]) 29 rfl (by simp) (tame_int _ _ _ _) (Num.zero _)
  go_enter Tryd.func41, Tryd.ntmps41
  go_upto_region 1 with (fail)
  rw [← hw1]
  rw [← hw2]
  rw [← hw3]
  rw [← hb3]
  rw [← hb2]
  rw [← hb1]
  clear hw1 hw2 hw3 hb1 hb2 hb3 hs3 hs1 hs2
  have T1 : Hid (¬ cmpI m 0 ≤ 0) := fun e => by have := cmpI_le0.1 e; omega
  have HP := hidd h0
  have T2 : Hid (decide ((Int.gcd a m : Int) = 1) = true) := decide_eq_true (by omega)
  clear h0 hg
  refine region_fr (C := [Fq.num m, Fq.is (.int .i64 (cmpI m 0)), Fq.is (.bool false)]) (ks := [none, none, none]) (new := []) E rfl (by kernel_rfl) rfl rfl (fun hp => ⟨?_, ?_, ?_, trivial⟩) ?_
  · exact q_loadInt (off := 0) hp (free_of rfl) trivial (List.mem_iff_getElem?.2 ⟨1, rfl⟩) (.inl rfl) (Nat.le_of_ble_eq_true rfl) (sq_out rfl rfl (fun _ _ => rfl)) (fun us w hl h => ld_num hl h)
  · exact q_call1 (F := (Fq.num m).P) hp (free_of rfl) trivial (enq_Sign) (sq_in 0 rfl rfl (by simp) rfl (fun v w h => h)) (fun v w h => exSign h)
  · exact q_one (F := fun v _ => v = .int .i64 (cmpI m 0)) hp (free_of rfl) trivial (sq_in 1 rfl rfl (by simp) rfl (fun v w h => h)) (fun ρ w hc h => ⟨.bool false, by simp [execOp, go_sem, h, hc, T1.out], rfl⟩)
  intro L vs w4 nb hL hC hn E4
  have e1 : vs 1 = .int .i64 (cmpI m 0) := hC 1 (by simp)
  have e2 : vs 2 = .bool false := hC 2 (by simp)
  have E : Fr w [(b3, 2, Fq.num 0), (b2, 2, Fq.num m), (b1, 2, Fq.num a)] w4 := E4
  rw [lay_all hL]
  simp only [putAll, dstOf, List.length_cons, List.length_nil, Nat.zero_add, Nat.reduceAdd, List.getElem?_toArray, List.getElem?_cons_zero, List.getElem?_cons_succ, Option.bind_some, Act.put, List.setIfInBounds_toArray, List.set_cons_succ, List.set_cons_zero]
  rw [e1, e2]
  generalize vs 0 = u4_0
  clear e1 e2 hC hn E4 hL vs L nb
  clear T1
  go_upto_region 3 with (fail)
  have B5 : Hid (ab ((Int.gcd a m : Int)) < pw 300) := ab_gcdB ha.out hm.out (by omega) (by omega)
  have B6 : Hid (ab (bezU a m) < pw 300) := bezU_ab HP.out hm.out
  refine region_fr (C := [Fq.num a, Fq.num m, Fq.tup3 (Fq.num (Int.gcd a m : Int)) (Fq.num (bezU a m)) (Fq.num (bezV a m)), Fq.tup3 (Fq.num (Int.gcd a m : Int)) (Fq.num (bezU a m)) (Fq.num (bezV a m)), Fq.num (Int.gcd a m : Int), Fq.num (bezU a m), Fq.num (bezV a m), Fq.any, Fq.any, Fq.any, Fq.any, Fq.any, Fq.any]) (ks := [none, none, none]) (new := [⟨7, 10, 2, Fq.num 0, Fq.num (Int.gcd a m : Int), none⟩, ⟨8, 11, 2, Fq.num 0, Fq.num (bezU a m), none⟩, ⟨9, 12, 2, Fq.num 0, Fq.num (bezV a m), none⟩]) E rfl (by kernel_rfl) rfl rfl (fun hp => ⟨?_, ?_, ?_, ?_, ?_, ?_, ?_, ?_, ?_, ?_, ?_, ?_, ?_, trivial⟩) ?_
  · exact q_loadInt (off := 0) hp (free_of rfl) trivial (List.mem_iff_getElem?.2 ⟨2, rfl⟩) (.inl rfl) (Nat.le_of_ble_eq_true rfl) (sq_out rfl rfl (fun _ _ => rfl)) (fun us w hl h => ld_num hl h)
  · exact q_loadInt (off := 0) hp (free_of rfl) trivial (List.mem_iff_getElem?.2 ⟨1, rfl⟩) (.inl rfl) (Nat.le_of_ble_eq_true rfl) (sq_out rfl rfl (fun _ _ => rfl)) (fun us w hl h => ld_num hl h)
  · exact q_call2 (F := (Fq.num a).P) (G := (Fq.num m).P) hp (free_of rfl) trivial (enq_Bezout) (sq_in 0 rfl rfl (by simp) rfl (fun v w h => h)) (sq_in 1 rfl rfl (by simp) rfl (fun v w h => h)) (fun v v' w h h' => exBezout h h' (Int.lt_of_lt_of_le ha.out (pw_le (by omega))) (Int.lt_of_lt_of_le hm.out (pw_le (by omega))) HP.out)
  · exact q_move hp (free_of rfl) trivial (sq_in 2 rfl rfl (by simp) rfl (fun v w h => h))
  · exact q_extract3 hp (free_of rfl) trivial (sq_in 3 rfl rfl (by simp) rfl (fun v w h => h)) (fun v1 v2 v3 w h1 h2 h3 => ⟨_, rfl, h1⟩)
  · exact q_extract3 hp (free_of rfl) trivial (sq_in 3 rfl rfl (by simp) rfl (fun v w h => h)) (fun v1 v2 v3 w h1 h2 h3 => ⟨_, rfl, h2⟩)
  · exact q_extract3 hp (free_of rfl) trivial (sq_in 3 rfl rfl (by simp) rfl (fun v w h => h)) (fun v1 v2 v3 w h1 h2 h3 => ⟨_, rfl, h3⟩)
  · exact q_allocInt hp (List.mem_iff_getElem?.2 ⟨0, rfl⟩) rfl rfl rfl rfl (Nat.ne_of_beq_eq_false rfl) (fun _ _ => trivial) (old_ne rfl) (newk_ne rfl) (fun w => Num.zero w)
  · exact q_allocInt hp (List.mem_iff_getElem?.2 ⟨1, rfl⟩) rfl rfl rfl rfl (Nat.ne_of_beq_eq_false rfl) (fun _ _ => trivial) (old_ne rfl) (newk_ne rfl) (fun w => Num.zero w)
  · exact q_allocInt hp (List.mem_iff_getElem?.2 ⟨2, rfl⟩) rfl rfl rfl rfl (Nat.ne_of_beq_eq_false rfl) (fun _ _ => trivial) (old_ne rfl) (newk_ne rfl) (fun w => Num.zero w)
  · exact q_storeNewInt hp (List.mem_iff_getElem?.2 ⟨0, rfl⟩) rfl rfl rfl (own_ptr rfl rfl (by simp) rfl) (sq_in 4 rfl rfl (by simp) rfl (fun v w h => intV_num h)) (fun _ _ => trivial) (old_ne rfl) (newi_ne rfl)
  · exact q_storeNewInt hp (List.mem_iff_getElem?.2 ⟨1, rfl⟩) rfl rfl rfl (own_ptr rfl rfl (by simp) rfl) (sq_in 5 rfl rfl (by simp) rfl (fun v w h => intV_num h)) (fun _ _ => trivial) (old_ne rfl) (newi_ne rfl)
  · exact q_storeNewInt hp (List.mem_iff_getElem?.2 ⟨2, rfl⟩) rfl rfl rfl (own_ptr rfl rfl (by simp) rfl) (sq_in 6 rfl rfl (by simp) rfl (fun v w h => intV_num h)) (fun _ _ => trivial) (old_ne rfl) (newi_ne rfl)
  intro L vs w7 nb hL hC hn E7
  have e7 : vs 7 = .pointer (some ⟨nb 7, 0, none⟩) := hn _ (List.mem_iff_getElem?.2 ⟨0, rfl⟩)
  have e8 : vs 8 = .pointer (some ⟨nb 8, 0, none⟩) := hn _ (List.mem_iff_getElem?.2 ⟨1, rfl⟩)
  have e9 : vs 9 = .pointer (some ⟨nb 9, 0, none⟩) := hn _ (List.mem_iff_getElem?.2 ⟨2, rfl⟩)
  have E : Fr w [(nb 7, 2, Fq.num (Int.gcd a m : Int)), (nb 8, 2, Fq.num (bezU a m)), (nb 9, 2, Fq.num (bezV a m)), (b3, 2, Fq.num 0), (b2, 2, Fq.num m), (b1, 2, Fq.num a)] w7 := E7
  rw [lay_all hL]
  simp only [putAll, dstOf, List.length_cons, List.length_nil, Nat.zero_add, Nat.reduceAdd, List.getElem?_toArray, List.getElem?_cons_zero, List.getElem?_cons_succ, Option.bind_some, Act.put, List.setIfInBounds_toArray, List.set_cons_succ, List.set_cons_zero]
  rw [e7, e8, e9]
  generalize nb 7 = b7_7 at E ⊢
  generalize nb 8 = b7_8 at E ⊢
  generalize nb 9 = b7_9 at E ⊢
  generalize vs 0 = u7_0
  generalize vs 1 = u7_1
  generalize vs 2 = u7_2
  generalize vs 3 = u7_3
  generalize vs 4 = u7_4
  generalize vs 5 = u7_5
  generalize vs 6 = u7_6
  clear e7 e8 e9 hC hn E7 hL vs L nb
  go_upto_region 4 with (fail)
  refine region_fr (C := [Fq.num (Int.gcd a m : Int), Fq.is (.bool true), Fq.is (.bool false)]) (ks := [none, none, none, none, none, none]) (new := []) E rfl (by kernel_rfl) rfl rfl (fun hp => ⟨?_, ?_, ?_, trivial⟩) ?_
  · exact q_loadInt (off := 0) hp (free_of rfl) trivial (List.mem_iff_getElem?.2 ⟨0, rfl⟩) (.inl rfl) (Nat.le_of_ble_eq_true rfl) (sq_out rfl rfl (fun _ _ => rfl)) (fun us w hl h => ld_num hl h)
  · exact q_call1 (F := (Fq.num (Int.gcd a m : Int)).P) hp (free_of rfl) trivial (enq_M_isOne) (sq_in 0 rfl rfl (by simp) rfl (fun v w h => h)) (fun v w h => exIsOneMB h T2.out)
  · exact q_one (F := fun v _ => v = .bool true) hp (free_of rfl) trivial (sq_in 1 rfl rfl (by simp) rfl (fun v w h => h)) (fun ρ w _ h => ⟨.bool false, by simp [execOp, go_sem, h], rfl⟩)
  intro L vs w8 nb hL hC hn E8
  have e1 : vs 1 = .bool true := hC 1 (by simp)
  have e2 : vs 2 = .bool false := hC 2 (by simp)
  have E : Fr w [(b7_7, 2, Fq.num (Int.gcd a m : Int)), (b7_8, 2, Fq.num (bezU a m)), (b7_9, 2, Fq.num (bezV a m)), (b3, 2, Fq.num 0), (b2, 2, Fq.num m), (b1, 2, Fq.num a)] w8 := E8
  rw [lay_all hL]
  simp only [putAll, dstOf, List.length_cons, List.length_nil, Nat.zero_add, Nat.reduceAdd, List.getElem?_toArray, List.getElem?_cons_zero, List.getElem?_cons_succ, Option.bind_some, Act.put, List.setIfInBounds_toArray, List.set_cons_succ, List.set_cons_zero]
  rw [e1, e2]
  generalize vs 0 = u8_0
  clear e1 e2 hC hn E8 hL vs L nb
  clear T2
  go_upto_region 6 with (fail)
  refine region_fr (C := [Fq.num (bezU a m), Fq.any, Fq.is (.int .i64 0)]) (ks := [none, none, none, some (1, Fq.num (bezU a m)), none, none]) (new := []) E rfl (by kernel_rfl) rfl rfl (fun hp => ⟨?_, ?_, ?_, trivial⟩) ?_
  · exact q_loadInt (off := 0) hp (free_of rfl) trivial (List.mem_iff_getElem?.2 ⟨1, rfl⟩) (.inl rfl) (Nat.le_of_ble_eq_true rfl) (sq_out rfl rfl (fun _ _ => rfl)) (fun us w hl h => ld_num hl h)
  · exact q_storeOldInt hp (List.mem_iff_getElem?.2 ⟨3, rfl⟩) rfl rfl (sq_out rfl rfl (fun _ _ => rfl)) (sq_in 0 rfl rfl (by simp) rfl (fun v w h => intV_num h)) (fun _ _ => trivial) (newik_ne rfl)
  · exact q_assign hp (free_of rfl) trivial (sq_const (fun _ => rfl))
  intro L vs w9 nb hL hC hn E9
  have e2 : vs 2 = .int .i64 0 := hC 2 (by simp)
  have E : Fr w [(b7_7, 2, Fq.num (Int.gcd a m : Int)), (b7_8, 2, Fq.num (bezU a m)), (b7_9, 2, Fq.num (bezV a m)), (b3, 2, Fq.num (bezU a m)), (b2, 2, Fq.num m), (b1, 2, Fq.num a)] w9 := E9
  rw [lay_all hL]
  simp only [putAll, dstOf, List.length_cons, List.length_nil, Nat.zero_add, Nat.reduceAdd, List.getElem?_toArray, List.getElem?_cons_zero, List.getElem?_cons_succ, Option.bind_some, Act.put, List.setIfInBounds_toArray, List.set_cons_succ, List.set_cons_zero]
  rw [e2]
  generalize vs 0 = u9_0
  clear e2 hC hn E9 hL vs L nb
  clear HP
  obtain ⟨p0, p1, c0, c1, hP⟩ := box_num (E.box 3 rfl)
  clear B5 B6 ha hm
  go_wp2
  refine bodyPost_ret (v := .tuple #[.agg #[p0, p1], .int .i64 0]) ?_ rfl ⟨_, rfl, E.below, ⟨_, _, rfl, hP, rfl⟩⟩
  simp [results, Tryd.results41, go_sem, c0, c1]

set_option maxRecDepth 100000 in
set_option maxHeartbeats 4000000 in
theorem exInvN {w : World} {v v' : Value} {a m : Int} (h : Num w v a) (h' : Num w v' m) (ha : ab a < pw 300) (hm : ab m < pw 300) (h0 : 0 < m) (hg : Int.gcd a m ≠ 1) :
    Calls Tryd.prog 41 #[v, v'] w fun e w' => ∃ v', e = .returned v' ∧ Below w.heap.size w w' ∧ (Fq.tup2 (Fq.num 0) (Fq.is (.int .i64 4))).P v' w' := by
  replace ha := hidd ha
  replace hm := hidd hm
  obtain ⟨n0, ao0, k0, c0, rfl⟩ := h.parts
  obtain ⟨n1, ao1, k1, c1, rfl⟩ := h'.parts
  obtain ⟨w1, b1, hw1, hb1, hs1, E⟩ := fr_start w (F := Fq.num a) (us := [.bool n0, .slice ao0 k0 c0]) 29 rfl (by simp) (tame_int _ _ _ _) h
  obtain ⟨w2, b2, hw2, hb2, hs2, E⟩ := fr_more E hs1 (F := Fq.num m) (us := [.bool n1, .slice ao1 k1 c1]) 29 rfl (by simp) (tame_int _ _ _ _) (h'.mono E.below)
  obtain ⟨w3, b3, hw3, hb3, hs3, E⟩ := fr_more E hs2 (F := Fq.num 0) (us := [.bool false, .slice none 0 0]) 29 rfl (by simp) (tame_int _ _ _ _) (Num.zero _)
  go_enter Tryd.func41, Tryd.ntmps41
  go_upto_region 1 with (fail)
  rw [← hw1]
  rw [← hw2]
  rw [← hw3]
  rw [← hb3]
  rw [← hb2]
  rw [← hb1]
  clear hw1 hw2 hw3 hb1 hb2 hb3 hs3 hs1 hs2
  have T1 : Hid (¬ cmpI m 0 ≤ 0) := fun e => by have := cmpI_le0.1 e; omega
  have HP := hidd h0
  have T2 : Hid (decide ((Int.gcd a m : Int) = 1) = false) := decide_eq_false (by omega)
  clear h0 hg
  refine region_fr (C := [Fq.num m, Fq.is (.int .i64 (cmpI m 0)), Fq.is (.bool false)]) (ks := [none, none, none]) (new := []) E rfl (by kernel_rfl) rfl rfl (fun hp => ⟨?_, ?_, ?_, trivial⟩) ?_
  · exact q_loadInt (off := 0) hp (free_of rfl) trivial (List.mem_iff_getElem?.2 ⟨1, rfl⟩) (.inl rfl) (Nat.le_of_ble_eq_true rfl) (sq_out rfl rfl (fun _ _ => rfl)) (fun us w hl h => ld_num hl h)
  · exact q_call1 (F := (Fq.num m).P) hp (free_of rfl) trivial (enq_Sign) (sq_in 0 rfl rfl (by simp) rfl (fun v w h => h)) (fun v w h => exSign h)
  · exact q_one (F := fun v _ => v = .int .i64 (cmpI m 0)) hp (free_of rfl) trivial (sq_in 1 rfl rfl (by simp) rfl (fun v w h => h)) (fun ρ w hc h => ⟨.bool false, by simp [execOp, go_sem, h, hc, T1.out], rfl⟩)
  intro L vs w4 nb hL hC hn E4
  have e1 : vs 1 = .int .i64 (cmpI m 0) := hC 1 (by simp)
  have e2 : vs 2 = .bool false := hC 2 (by simp)
  have E : Fr w [(b3, 2, Fq.num 0), (b2, 2, Fq.num m), (b1, 2, Fq.num a)] w4 := E4
  rw [lay_all hL]
  simp only [putAll, dstOf, List.length_cons, List.length_nil, Nat.zero_add, Nat.reduceAdd, List.getElem?_toArray, List.getElem?_cons_zero, List.getElem?_cons_succ, Option.bind_some, Act.put, List.setIfInBounds_toArray, List.set_cons_succ, List.set_cons_zero]
  rw [e1, e2]
  generalize vs 0 = u4_0
  clear e1 e2 hC hn E4 hL vs L nb
  clear T1
  go_upto_region 3 with (fail)
  have B5 : Hid (ab ((Int.gcd a m : Int)) < pw 300) := ab_gcdB ha.out hm.out (by omega) (by omega)
  have B6 : Hid (ab (bezU a m) < pw 300) := bezU_ab HP.out hm.out
  refine region_fr (C := [Fq.num a, Fq.num m, Fq.tup3 (Fq.num (Int.gcd a m : Int)) (Fq.num (bezU a m)) (Fq.num (bezV a m)), Fq.tup3 (Fq.num (Int.gcd a m : Int)) (Fq.num (bezU a m)) (Fq.num (bezV a m)), Fq.num (Int.gcd a m : Int), Fq.num (bezU a m), Fq.num (bezV a m), Fq.any, Fq.any, Fq.any, Fq.any, Fq.any, Fq.any]) (ks := [none, none, none]) (new := [⟨7, 10, 2, Fq.num 0, Fq.num (Int.gcd a m : Int), none⟩, ⟨8, 11, 2, Fq.num 0, Fq.num (bezU a m), none⟩, ⟨9, 12, 2, Fq.num 0, Fq.num (bezV a m), none⟩]) E rfl (by kernel_rfl) rfl rfl (fun hp => ⟨?_, ?_, ?_, ?_, ?_, ?_, ?_, ?_, ?_, ?_, ?_, ?_, ?_, trivial⟩) ?_
  · exact q_loadInt (off := 0) hp (free_of rfl) trivial (List.mem_iff_getElem?.2 ⟨2, rfl⟩) (.inl rfl) (Nat.le_of_ble_eq_true rfl) (sq_out rfl rfl (fun _ _ => rfl)) (fun us w hl h => ld_num hl h)
  · exact q_loadInt (off := 0) hp (free_of rfl) trivial (List.mem_iff_getElem?.2 ⟨1, rfl⟩) (.inl rfl) (Nat.le_of_ble_eq_true rfl) (sq_out rfl rfl (fun _ _ => rfl)) (fun us w hl h => ld_num hl h)
  · exact q_call2 (F := (Fq.num a).P) (G := (Fq.num m).P) hp (free_of rfl) trivial (enq_Bezout) (sq_in 0 rfl rfl (by simp) rfl (fun v w h => h)) (sq_in 1 rfl rfl (by simp) rfl (fun v w h => h)) (fun v v' w h h' => exBezout h h' (Int.lt_of_lt_of_le ha.out (pw_le (by omega))) (Int.lt_of_lt_of_le hm.out (pw_le (by omega))) HP.out)
  · exact q_move hp (free_of rfl) trivial (sq_in 2 rfl rfl (by simp) rfl (fun v w h => h))
  · exact q_extract3 hp (free_of rfl) trivial (sq_in 3 rfl rfl (by simp) rfl (fun v w h => h)) (fun v1 v2 v3 w h1 h2 h3 => ⟨_, rfl, h1⟩)
  · exact q_extract3 hp (free_of rfl) trivial (sq_in 3 rfl rfl (by simp) rfl (fun v w h => h)) (fun v1 v2 v3 w h1 h2 h3 => ⟨_, rfl, h2⟩)
  · exact q_extract3 hp (free_of rfl) trivial (sq_in 3 rfl rfl (by simp) rfl (fun v w h => h)) (fun v1 v2 v3 w h1 h2 h3 => ⟨_, rfl, h3⟩)
  · exact q_allocInt hp (List.mem_iff_getElem?.2 ⟨0, rfl⟩) rfl rfl rfl rfl (Nat.ne_of_beq_eq_false rfl) (fun _ _ => trivial) (old_ne rfl) (newk_ne rfl) (fun w => Num.zero w)
  · exact q_allocInt hp (List.mem_iff_getElem?.2 ⟨1, rfl⟩) rfl rfl rfl rfl (Nat.ne_of_beq_eq_false rfl) (fun _ _ => trivial) (old_ne rfl) (newk_ne rfl) (fun w => Num.zero w)
  · exact q_allocInt hp (List.mem_iff_getElem?.2 ⟨2, rfl⟩) rfl rfl rfl rfl (Nat.ne_of_beq_eq_false rfl) (fun _ _ => trivial) (old_ne rfl) (newk_ne rfl) (fun w => Num.zero w)
  · exact q_storeNewInt hp (List.mem_iff_getElem?.2 ⟨0, rfl⟩) rfl rfl rfl (own_ptr rfl rfl (by simp) rfl) (sq_in 4 rfl rfl (by simp) rfl (fun v w h => intV_num h)) (fun _ _ => trivial) (old_ne rfl) (newi_ne rfl)
  · exact q_storeNewInt hp (List.mem_iff_getElem?.2 ⟨1, rfl⟩) rfl rfl rfl (own_ptr rfl rfl (by simp) rfl) (sq_in 5 rfl rfl (by simp) rfl (fun v w h => intV_num h)) (fun _ _ => trivial) (old_ne rfl) (newi_ne rfl)
  · exact q_storeNewInt hp (List.mem_iff_getElem?.2 ⟨2, rfl⟩) rfl rfl rfl (own_ptr rfl rfl (by simp) rfl) (sq_in 6 rfl rfl (by simp) rfl (fun v w h => intV_num h)) (fun _ _ => trivial) (old_ne rfl) (newi_ne rfl)
  intro L vs w7 nb hL hC hn E7
  have e7 : vs 7 = .pointer (some ⟨nb 7, 0, none⟩) := hn _ (List.mem_iff_getElem?.2 ⟨0, rfl⟩)
  have e8 : vs 8 = .pointer (some ⟨nb 8, 0, none⟩) := hn _ (List.mem_iff_getElem?.2 ⟨1, rfl⟩)
  have e9 : vs 9 = .pointer (some ⟨nb 9, 0, none⟩) := hn _ (List.mem_iff_getElem?.2 ⟨2, rfl⟩)
  have E : Fr w [(nb 7, 2, Fq.num (Int.gcd a m : Int)), (nb 8, 2, Fq.num (bezU a m)), (nb 9, 2, Fq.num (bezV a m)), (b3, 2, Fq.num 0), (b2, 2, Fq.num m), (b1, 2, Fq.num a)] w7 := E7
  rw [lay_all hL]
  simp only [putAll, dstOf, List.length_cons, List.length_nil, Nat.zero_add, Nat.reduceAdd, List.getElem?_toArray, List.getElem?_cons_zero, List.getElem?_cons_succ, Option.bind_some, Act.put, List.setIfInBounds_toArray, List.set_cons_succ, List.set_cons_zero]
  rw [e7, e8, e9]
  generalize nb 7 = b7_7 at E ⊢
  generalize nb 8 = b7_8 at E ⊢
  generalize nb 9 = b7_9 at E ⊢
  generalize vs 0 = u7_0
  generalize vs 1 = u7_1
  generalize vs 2 = u7_2
  generalize vs 3 = u7_3
  generalize vs 4 = u7_4
  generalize vs 5 = u7_5
  generalize vs 6 = u7_6
  clear e7 e8 e9 hC hn E7 hL vs L nb
  go_upto_region 4 with (fail)
  refine region_fr (C := [Fq.num (Int.gcd a m : Int), Fq.is (.bool false), Fq.is (.bool true)]) (ks := [none, none, none, none, none, none]) (new := []) E rfl (by kernel_rfl) rfl rfl (fun hp => ⟨?_, ?_, ?_, trivial⟩) ?_
  · exact q_loadInt (off := 0) hp (free_of rfl) trivial (List.mem_iff_getElem?.2 ⟨0, rfl⟩) (.inl rfl) (Nat.le_of_ble_eq_true rfl) (sq_out rfl rfl (fun _ _ => rfl)) (fun us w hl h => ld_num hl h)
  · exact q_call1 (F := (Fq.num (Int.gcd a m : Int)).P) hp (free_of rfl) trivial (enq_M_isOne) (sq_in 0 rfl rfl (by simp) rfl (fun v w h => h)) (fun v w h => exIsOneMB h T2.out)
  · exact q_one (F := fun v _ => v = .bool false) hp (free_of rfl) trivial (sq_in 1 rfl rfl (by simp) rfl (fun v w h => h)) (fun ρ w _ h => ⟨.bool true, by simp [execOp, go_sem, h], rfl⟩)
  intro L vs w8 nb hL hC hn E8
  have e1 : vs 1 = .bool false := hC 1 (by simp)
  have e2 : vs 2 = .bool true := hC 2 (by simp)
  have E : Fr w [(b7_7, 2, Fq.num (Int.gcd a m : Int)), (b7_8, 2, Fq.num (bezU a m)), (b7_9, 2, Fq.num (bezV a m)), (b3, 2, Fq.num 0), (b2, 2, Fq.num m), (b1, 2, Fq.num a)] w8 := E8
  rw [lay_all hL]
  simp only [putAll, dstOf, List.length_cons, List.length_nil, Nat.zero_add, Nat.reduceAdd, List.getElem?_toArray, List.getElem?_cons_zero, List.getElem?_cons_succ, Option.bind_some, Act.put, List.setIfInBounds_toArray, List.set_cons_succ, List.set_cons_zero]
  rw [e1, e2]
  generalize vs 0 = u8_0
  clear e1 e2 hC hn E8 hL vs L nb
  clear T2
  go_upto_region 5 with (fail)
  refine region_fr (C := [Fq.num 0, Fq.any, Fq.is (.int .i64 4)]) (ks := [none, none, none, some (1, Fq.num 0), none, none]) (new := []) E rfl (by kernel_rfl) rfl rfl (fun hp => ⟨?_, ?_, ?_, trivial⟩) ?_
  · exact q_zeroInt hp (free_of rfl) trivial (fun w => Num.zero w)
  · exact q_storeOldInt hp (List.mem_iff_getElem?.2 ⟨3, rfl⟩) rfl rfl (sq_out rfl rfl (fun _ _ => rfl)) (sq_in 0 rfl rfl (by simp) rfl (fun v w h => intV_num h)) (fun _ _ => trivial) (newik_ne rfl)
  · exact q_assign hp (free_of rfl) trivial (sq_const (fun _ => rfl))
  intro L vs w9 nb hL hC hn E9
  have e2 : vs 2 = .int .i64 4 := hC 2 (by simp)
  have E : Fr w [(b7_7, 2, Fq.num (Int.gcd a m : Int)), (b7_8, 2, Fq.num (bezU a m)), (b7_9, 2, Fq.num (bezV a m)), (b3, 2, Fq.num 0), (b2, 2, Fq.num m), (b1, 2, Fq.num a)] w9 := E9
  rw [lay_all hL]
  simp only [putAll, dstOf, List.length_cons, List.length_nil, Nat.zero_add, Nat.reduceAdd, List.getElem?_toArray, List.getElem?_cons_zero, List.getElem?_cons_succ, Option.bind_some, Act.put, List.setIfInBounds_toArray, List.set_cons_succ, List.set_cons_zero]
  rw [e2]
  generalize vs 0 = u9_0
  clear e2 hC hn E9 hL vs L nb
  clear HP
  obtain ⟨p0, p1, c0, c1, hP⟩ := box_num (E.box 3 rfl)
  clear B5 B6 ha hm
  go_wp2
  refine bodyPost_ret (v := .tuple #[.agg #[p0, p1], .int .i64 4]) ?_ rfl ⟨_, rfl, E.below, ⟨_, _, rfl, hP, rfl⟩⟩
  simp [results, Tryd.results41, go_sem, c0, c1]

set_option maxRecDepth 100000 in
set_option maxHeartbeats 4000000 in
theorem exCrtP {w : World} {v v' u u' : Value} {r1 m1 r2 m2 : Int} (h : Num w v r1) (h' : Num w v' m1) (g : Num w u r2) (g' : Num w u' m2) (ha : ab r1 < pw 100) (hb : ab m1 < pw 100) (hc : ab r2 < pw 100) (hd : ab m2 < pw 100) (h1 : 0 < m1) (h2 : 0 < m2) (hz : (r2 - r1) % (Int.gcd m1 m2 : Int) = 0) :
    Calls Tryd.prog 31 #[v, v', u, u'] w fun e w' => ∃ v', e = .returned v' ∧ Below w.heap.size w w' ∧ (Fq.tup3 (Fq.num (crtR r1 m1 r2 m2)) (Fq.num (m1 * (m2 / (Int.gcd m1 m2 : Int)))) (Fq.is (.int .i64 0))).P v' w' := by
  replace ha := hidd ha
  replace hb := hidd hb
  replace hc := hidd hc
  replace hd := hidd hd
  obtain ⟨n0, ao0, k0, c0, rfl⟩ := h.parts
  obtain ⟨n1, ao1, k1, c1, rfl⟩ := h'.parts
  obtain ⟨n2, ao2, k2, c2, rfl⟩ := g.parts
  obtain ⟨n3, ao3, k3, c3, rfl⟩ := g'.parts
  obtain ⟨w1, b1, hw1, hb1, hs1, E⟩ := fr_start w (F := Fq.num r1) (us := [.bool n0, .slice ao0 k0 c0]) 29 rfl (by simp) (tame_int _ _ _ _) h
  obtain ⟨w2, b2, hw2, hb2, hs2, E⟩ := fr_more E hs1 (F := Fq.num m1) (us := [.bool n1, .slice ao1 k1 c1]) 29 rfl (by simp) (tame_int _ _ _ _) (h'.mono E.below)
  obtain ⟨w3, b3, hw3, hb3, hs3, E⟩ := fr_more E hs2 (F := Fq.num r2) (us := [.bool n2, .slice ao2 k2 c2]) 29 rfl (by simp) (tame_int _ _ _ _) (g.mono E.below)
  obtain ⟨w4, b4, hw4, hb4, hs4, E⟩ := fr_more E hs3 (F := Fq.num m2) (us := [.bool n3, .slice ao3 k3 c3]) 29 rfl (by simp) (tame_int _ _ _ _) (g'.mono E.below)
  obtain ⟨w5, b5, hw5, hb5, hs5, E⟩ := fr_more E hs4 (F := Fq.num 0) (us := [.bool false, .slice none 0 0]) 29 rfl (by simp) (tame_int _ _ _ _) (Num.zero _)
  obtain ⟨w6, b6, hw6, hb6, hs6, E⟩ := fr_more E hs5 (F := Fq.num 0) (us := [.bool false, .slice none 0 0]) 29 rfl (by simp) (tame_int _ _ _ _) (Num.zero _)
  go_enter Tryd.func31, Tryd.ntmps31
  go_upto_region 1 with (fail)
  rw [← hw1]
  rw [← hw2]
  rw [← hw3]
  rw [← hw4]
  rw [← hw5]
  rw [← hw6]
  rw [← hb6]
  rw [← hb5]
  rw [← hb4]
  rw [← hb3]
  rw [← hb2]
  rw [← hb1]
  clear hw1 hw2 hw3 hw4 hw5 hw6 hb1 hb2 hb3 hb4 hb5 hb6 hs6 hs1 hs2 hs3 hs4 hs5
  have T1 : Hid (¬ cmpI m1 0 ≤ 0) := fun e => by have := cmpI_le0.1 e; omega
  have T2 : Hid (¬ cmpI m2 0 ≤ 0) := fun e => by have := cmpI_le0.1 e; omega
  have HP := hidd h2
  have HG : Hid ((Int.gcd m1 m2 : Int) ≠ 0) := by have := gcd_pos_r (a := m1) (show m2 ≠ 0 by omega); show _ ≠ _; omega
  have T3 : Hid (cmpI ((r2 - r1) % (Int.gcd m1 m2 : Int)) 0 = 0) := cmpIq0.2 hz
  have HQ : Hid (m2 / (Int.gcd m1 m2 : Int) ≠ 0) := by have := (crt_part (m1 := m1) h2).1; show _ ≠ _; omega
  have HR : Hid (m1 * (m2 / (Int.gcd m1 m2 : Int)) ≠ 0) := Int.mul_ne_zero (by omega) HQ.out
  clear h1 h2 hz
  refine region_fr (C := [Fq.num m1, Fq.is (.int .i64 (cmpI m1 0)), Fq.is (.bool false), Fq.is (.bool false), Fq.num m2, Fq.is (.int .i64 (cmpI m2 0)), Fq.is (.bool false), Fq.is (.bool false)]) (ks := [none, none, none, none, none, none]) (new := []) E rfl (by kernel_rfl) rfl rfl (fun hp => ⟨?_, ?_, ?_, ?_, ?_, ?_, ?_, ?_, trivial⟩) ?_
  · exact q_loadInt (off := 0) hp (free_of rfl) trivial (List.mem_iff_getElem?.2 ⟨4, rfl⟩) (.inl rfl) (Nat.le_of_ble_eq_true rfl) (sq_out rfl rfl (fun _ _ => rfl)) (fun us w hl h => ld_num hl h)
  · exact q_call1 (F := (Fq.num m1).P) hp (free_of rfl) trivial (enq_Sign) (sq_in 0 rfl rfl (by simp) rfl (fun v w h => h)) (fun v w h => exSign h)
  · exact q_one (F := fun v _ => v = .int .i64 (cmpI m1 0)) hp (free_of rfl) trivial (sq_in 1 rfl rfl (by simp) rfl (fun v w h => h)) (fun ρ w hc h => ⟨.bool false, by simp [execOp, go_sem, h, hc, T1.out], rfl⟩)
  · exact q_move hp (free_of rfl) trivial (sq_in 2 rfl rfl (by simp) rfl (fun v w h => h))
  · exact q_loadInt (off := 0) hp (free_of rfl) (gq_some rfl rfl (by simp) rfl (fun v w h => h)) (List.mem_iff_getElem?.2 ⟨2, rfl⟩) (.inl rfl) (Nat.le_of_ble_eq_true rfl) (sq_out rfl rfl (fun _ _ => rfl)) (fun us w hl h => ld_num hl h)
  · exact q_call1 (F := (Fq.num m2).P) hp (free_of rfl) (gq_some rfl rfl (by simp) rfl (fun v w h => h)) (enq_Sign) (sq_in 4 rfl rfl (by simp) rfl (fun v w h => h)) (fun v w h => exSign h)
  · exact q_one (F := fun v _ => v = .int .i64 (cmpI m2 0)) hp (free_of rfl) (gq_some rfl rfl (by simp) rfl (fun v w h => h)) (sq_in 5 rfl rfl (by simp) rfl (fun v w h => h)) (fun ρ w hc h => ⟨.bool false, by simp [execOp, go_sem, h, hc, T2.out], rfl⟩)
  · exact q_two (F := fun v _ => v = .bool false) (G := fun v _ => v = .bool false) hp (free_of rfl) trivial (sq_in 3 rfl rfl (by simp) rfl (fun v w h => h)) (sq_in 6 rfl rfl (by simp) rfl (fun v w h => h)) (fun ρ w hc h h' => ⟨_, by simp [execOp, go_sem, h, h'], rfl⟩)
  intro L vs w7 nb hL hC hn E7
  have e1 : vs 1 = .int .i64 (cmpI m1 0) := hC 1 (by simp)
  have e2 : vs 2 = .bool false := hC 2 (by simp)
  have e3 : vs 3 = .bool false := hC 3 (by simp)
  have e5 : vs 5 = .int .i64 (cmpI m2 0) := hC 5 (by simp)
  have e6 : vs 6 = .bool false := hC 6 (by simp)
  have e7 : vs 7 = .bool false := hC 7 (by simp)
  have E : Fr w [(b6, 2, Fq.num 0), (b5, 2, Fq.num 0), (b4, 2, Fq.num m2), (b3, 2, Fq.num r2), (b2, 2, Fq.num m1), (b1, 2, Fq.num r1)] w7 := E7
  rw [lay_all hL]
  simp only [putAll, dstOf, List.length_cons, List.length_nil, Nat.zero_add, Nat.reduceAdd, List.getElem?_toArray, List.getElem?_cons_zero, List.getElem?_cons_succ, Option.bind_some, Act.put, List.setIfInBounds_toArray, List.set_cons_succ, List.set_cons_zero]
  rw [e1, e2, e3, e5, e6, e7]
  generalize vs 0 = u7_0
  generalize vs 4 = u7_4
  clear e1 e2 e3 e5 e6 e7 hC hn E7 hL vs L nb
  clear T1 T2
  go_upto_region 3 with (fail)
  have B8 : Hid (ab ((Int.gcd m1 m2 : Int)) < pw 100) := ab_gcdB hb.out hd.out (by omega) (by omega)
  have B9 : Hid (ab (bezU m1 m2) < pw 100) := bezU_ab HP.out hd.out
  refine region_fr (C := [Fq.num m1, Fq.num m2, Fq.tup3 (Fq.num (Int.gcd m1 m2 : Int)) (Fq.num (bezU m1 m2)) (Fq.num (bezV m1 m2)), Fq.tup3 (Fq.num (Int.gcd m1 m2 : Int)) (Fq.num (bezU m1 m2)) (Fq.num (bezV m1 m2)), Fq.num (Int.gcd m1 m2 : Int), Fq.num (bezU m1 m2), Fq.num (bezV m1 m2), Fq.any, Fq.any, Fq.any, Fq.any, Fq.any, Fq.any]) (ks := [none, none, none, none, none, none]) (new := [⟨7, 10, 2, Fq.num 0, Fq.num (Int.gcd m1 m2 : Int), none⟩, ⟨8, 11, 2, Fq.num 0, Fq.num (bezU m1 m2), none⟩, ⟨9, 12, 2, Fq.num 0, Fq.num (bezV m1 m2), none⟩]) E rfl (by kernel_rfl) rfl rfl (fun hp => ⟨?_, ?_, ?_, ?_, ?_, ?_, ?_, ?_, ?_, ?_, ?_, ?_, ?_, trivial⟩) ?_
  · exact q_loadInt (off := 0) hp (free_of rfl) trivial (List.mem_iff_getElem?.2 ⟨4, rfl⟩) (.inl rfl) (Nat.le_of_ble_eq_true rfl) (sq_out rfl rfl (fun _ _ => rfl)) (fun us w hl h => ld_num hl h)
  · exact q_loadInt (off := 0) hp (free_of rfl) trivial (List.mem_iff_getElem?.2 ⟨2, rfl⟩) (.inl rfl) (Nat.le_of_ble_eq_true rfl) (sq_out rfl rfl (fun _ _ => rfl)) (fun us w hl h => ld_num hl h)
  · exact q_call2 (F := (Fq.num m1).P) (G := (Fq.num m2).P) hp (free_of rfl) trivial (enq_Bezout) (sq_in 0 rfl rfl (by simp) rfl (fun v w h => h)) (sq_in 1 rfl rfl (by simp) rfl (fun v w h => h)) (fun v v' w h h' => exBezout h h' (Int.lt_of_lt_of_le hb.out (pw_le (by omega))) (Int.lt_of_lt_of_le hd.out (pw_le (by omega))) HP.out)
  · exact q_move hp (free_of rfl) trivial (sq_in 2 rfl rfl (by simp) rfl (fun v w h => h))
  · exact q_extract3 hp (free_of rfl) trivial (sq_in 3 rfl rfl (by simp) rfl (fun v w h => h)) (fun v1 v2 v3 w h1 h2 h3 => ⟨_, rfl, h1⟩)
  · exact q_extract3 hp (free_of rfl) trivial (sq_in 3 rfl rfl (by simp) rfl (fun v w h => h)) (fun v1 v2 v3 w h1 h2 h3 => ⟨_, rfl, h2⟩)
  · exact q_extract3 hp (free_of rfl) trivial (sq_in 3 rfl rfl (by simp) rfl (fun v w h => h)) (fun v1 v2 v3 w h1 h2 h3 => ⟨_, rfl, h3⟩)
  · exact q_allocInt hp (List.mem_iff_getElem?.2 ⟨0, rfl⟩) rfl rfl rfl rfl (Nat.ne_of_beq_eq_false rfl) (fun _ _ => trivial) (old_ne rfl) (newk_ne rfl) (fun w => Num.zero w)
  · exact q_allocInt hp (List.mem_iff_getElem?.2 ⟨1, rfl⟩) rfl rfl rfl rfl (Nat.ne_of_beq_eq_false rfl) (fun _ _ => trivial) (old_ne rfl) (newk_ne rfl) (fun w => Num.zero w)
  · exact q_allocInt hp (List.mem_iff_getElem?.2 ⟨2, rfl⟩) rfl rfl rfl rfl (Nat.ne_of_beq_eq_false rfl) (fun _ _ => trivial) (old_ne rfl) (newk_ne rfl) (fun w => Num.zero w)
  · exact q_storeNewInt hp (List.mem_iff_getElem?.2 ⟨0, rfl⟩) rfl rfl rfl (own_ptr rfl rfl (by simp) rfl) (sq_in 4 rfl rfl (by simp) rfl (fun v w h => intV_num h)) (fun _ _ => trivial) (old_ne rfl) (newi_ne rfl)
  · exact q_storeNewInt hp (List.mem_iff_getElem?.2 ⟨1, rfl⟩) rfl rfl rfl (own_ptr rfl rfl (by simp) rfl) (sq_in 5 rfl rfl (by simp) rfl (fun v w h => intV_num h)) (fun _ _ => trivial) (old_ne rfl) (newi_ne rfl)
  · exact q_storeNewInt hp (List.mem_iff_getElem?.2 ⟨2, rfl⟩) rfl rfl rfl (own_ptr rfl rfl (by simp) rfl) (sq_in 6 rfl rfl (by simp) rfl (fun v w h => intV_num h)) (fun _ _ => trivial) (old_ne rfl) (newi_ne rfl)
  intro L vs w10 nb hL hC hn E10
  have e7 : vs 7 = .pointer (some ⟨nb 7, 0, none⟩) := hn _ (List.mem_iff_getElem?.2 ⟨0, rfl⟩)
  have e8 : vs 8 = .pointer (some ⟨nb 8, 0, none⟩) := hn _ (List.mem_iff_getElem?.2 ⟨1, rfl⟩)
  have e9 : vs 9 = .pointer (some ⟨nb 9, 0, none⟩) := hn _ (List.mem_iff_getElem?.2 ⟨2, rfl⟩)
  have E : Fr w [(nb 7, 2, Fq.num (Int.gcd m1 m2 : Int)), (nb 8, 2, Fq.num (bezU m1 m2)), (nb 9, 2, Fq.num (bezV m1 m2)), (b6, 2, Fq.num 0), (b5, 2, Fq.num 0), (b4, 2, Fq.num m2), (b3, 2, Fq.num r2), (b2, 2, Fq.num m1), (b1, 2, Fq.num r1)] w10 := E10
  rw [lay_all hL]
  simp only [putAll, dstOf, List.length_cons, List.length_nil, Nat.zero_add, Nat.reduceAdd, List.getElem?_toArray, List.getElem?_cons_zero, List.getElem?_cons_succ, Option.bind_some, Act.put, List.setIfInBounds_toArray, List.set_cons_succ, List.set_cons_zero]
  rw [e7, e8, e9]
  generalize nb 7 = b10_7 at E ⊢
  generalize nb 8 = b10_8 at E ⊢
  generalize nb 9 = b10_9 at E ⊢
  generalize vs 0 = u10_0
  generalize vs 1 = u10_1
  generalize vs 2 = u10_2
  generalize vs 3 = u10_3
  generalize vs 4 = u10_4
  generalize vs 5 = u10_5
  generalize vs 6 = u10_6
  clear e7 e8 e9 hC hn E10 hL vs L nb
  go_upto_region 4 with (fail)
  have B11 : Hid (ab ((r2 - r1)) < pw 101) := ab_subB hc.out ha.out (by omega) (by omega)
  have B12 : Hid (ab (((r2 - r1) / (Int.gcd m1 m2 : Int))) < pw 102) := ab_divB B11.out (by omega)
  have B13 : Hid (ab (((r2 - r1) % (Int.gcd m1 m2 : Int))) < pw 100) := ab_modB HG.out B8.out
  refine region_fr (C := [Fq.num r2, Fq.num r1, Fq.num (r2 - r1), Fq.num (Int.gcd m1 m2 : Int), Fq.tup3 (Fq.num ((r2 - r1) / (Int.gcd m1 m2 : Int))) (Fq.num ((r2 - r1) % (Int.gcd m1 m2 : Int))) (Fq.is (.int .i64 0)), Fq.tup3 (Fq.num ((r2 - r1) / (Int.gcd m1 m2 : Int))) (Fq.num ((r2 - r1) % (Int.gcd m1 m2 : Int))) (Fq.is (.int .i64 0)), Fq.num ((r2 - r1) / (Int.gcd m1 m2 : Int)), Fq.num ((r2 - r1) % (Int.gcd m1 m2 : Int)), Fq.is (.int .i64 0), Fq.any, Fq.any, Fq.any, Fq.any, Fq.is (.int .i64 0)]) (ks := [none, none, none, none, none, none, none, none, none]) (new := [⟨9, 11, 2, Fq.num 0, Fq.num ((r2 - r1) / (Int.gcd m1 m2 : Int)), none⟩, ⟨10, 12, 2, Fq.num 0, Fq.num ((r2 - r1) % (Int.gcd m1 m2 : Int)), none⟩]) E rfl (by kernel_rfl) rfl rfl (fun hp => ⟨?_, ?_, ?_, ?_, ?_, ?_, ?_, ?_, ?_, ?_, ?_, ?_, ?_, ?_, trivial⟩) ?_
  · exact q_loadInt (off := 0) hp (free_of rfl) trivial (List.mem_iff_getElem?.2 ⟨6, rfl⟩) (.inl rfl) (Nat.le_of_ble_eq_true rfl) (sq_out rfl rfl (fun _ _ => rfl)) (fun us w hl h => ld_num hl h)
  · exact q_loadInt (off := 0) hp (free_of rfl) trivial (List.mem_iff_getElem?.2 ⟨8, rfl⟩) (.inl rfl) (Nat.le_of_ble_eq_true rfl) (sq_out rfl rfl (fun _ _ => rfl)) (fun us w hl h => ld_num hl h)
  · exact q_call2 (F := (Fq.num r2).P) (G := (Fq.num r1).P) hp (free_of rfl) trivial (enq_Sub) (sq_in 0 rfl rfl (by simp) rfl (fun v w h => h)) (sq_in 1 rfl rfl (by simp) rfl (fun v w h => h)) (fun v v' w h h' => exK (SubV h h') B11.out (by omega))
  · exact q_loadInt (off := 0) hp (free_of rfl) trivial (List.mem_iff_getElem?.2 ⟨0, rfl⟩) (.inl rfl) (Nat.le_of_ble_eq_true rfl) (sq_out rfl rfl (fun _ _ => rfl)) (fun us w hl h => ld_num hl h)
  · exact q_call2 (F := (Fq.num (r2 - r1)).P) (G := (Fq.num (Int.gcd m1 m2 : Int)).P) hp (free_of rfl) trivial (enq_DivMod) (sq_in 2 rfl rfl (by simp) rfl (fun v w h => h)) (sq_in 3 rfl rfl (by simp) rfl (fun v w h => h)) (fun v v' w h h' => exDMq h h' HG.out B12.out B13.out (by omega) (by omega))
  · exact q_move hp (free_of rfl) trivial (sq_in 4 rfl rfl (by simp) rfl (fun v w h => h))
  · exact q_extract3 hp (free_of rfl) trivial (sq_in 5 rfl rfl (by simp) rfl (fun v w h => h)) (fun v1 v2 v3 w h1 h2 h3 => ⟨_, rfl, h1⟩)
  · exact q_extract3 hp (free_of rfl) trivial (sq_in 5 rfl rfl (by simp) rfl (fun v w h => h)) (fun v1 v2 v3 w h1 h2 h3 => ⟨_, rfl, h2⟩)
  · exact q_extract3 hp (free_of rfl) trivial (sq_in 5 rfl rfl (by simp) rfl (fun v w h => h)) (fun v1 v2 v3 w h1 h2 h3 => ⟨_, rfl, h3⟩)
  · exact q_allocInt hp (List.mem_iff_getElem?.2 ⟨0, rfl⟩) rfl rfl rfl rfl (Nat.ne_of_beq_eq_false rfl) (fun _ _ => trivial) (old_ne rfl) (newk_ne rfl) (fun w => Num.zero w)
  · exact q_allocInt hp (List.mem_iff_getElem?.2 ⟨1, rfl⟩) rfl rfl rfl rfl (Nat.ne_of_beq_eq_false rfl) (fun _ _ => trivial) (old_ne rfl) (newk_ne rfl) (fun w => Num.zero w)
  · exact q_storeNewInt hp (List.mem_iff_getElem?.2 ⟨0, rfl⟩) rfl rfl rfl (own_ptr rfl rfl (by simp) rfl) (sq_in 6 rfl rfl (by simp) rfl (fun v w h => intV_num h)) (fun _ _ => trivial) (old_ne rfl) (newi_ne rfl)
  · exact q_storeNewInt hp (List.mem_iff_getElem?.2 ⟨1, rfl⟩) rfl rfl rfl (own_ptr rfl rfl (by simp) rfl) (sq_in 7 rfl rfl (by simp) rfl (fun v w h => intV_num h)) (fun _ _ => trivial) (old_ne rfl) (newi_ne rfl)
  · exact q_assign hp (free_of rfl) trivial (sq_in 8 rfl rfl (by simp) rfl (fun v w h => h))
  intro L vs w14 nb hL hC hn E14
  have e8 : vs 8 = .int .i64 0 := hC 8 (by simp)
  have e13 : vs 13 = .int .i64 0 := hC 13 (by simp)
  have e9 : vs 9 = .pointer (some ⟨nb 9, 0, none⟩) := hn _ (List.mem_iff_getElem?.2 ⟨0, rfl⟩)
  have e10 : vs 10 = .pointer (some ⟨nb 10, 0, none⟩) := hn _ (List.mem_iff_getElem?.2 ⟨1, rfl⟩)
  have E : Fr w [(nb 9, 2, Fq.num ((r2 - r1) / (Int.gcd m1 m2 : Int))), (nb 10, 2, Fq.num ((r2 - r1) % (Int.gcd m1 m2 : Int))), (b10_7, 2, Fq.num (Int.gcd m1 m2 : Int)), (b10_8, 2, Fq.num (bezU m1 m2)), (b10_9, 2, Fq.num (bezV m1 m2)), (b6, 2, Fq.num 0), (b5, 2, Fq.num 0), (b4, 2, Fq.num m2), (b3, 2, Fq.num r2), (b2, 2, Fq.num m1), (b1, 2, Fq.num r1)] w14 := E14
  rw [lay_all hL]
  simp only [putAll, dstOf, List.length_cons, List.length_nil, Nat.zero_add, Nat.reduceAdd, List.getElem?_toArray, List.getElem?_cons_zero, List.getElem?_cons_succ, Option.bind_some, Act.put, List.setIfInBounds_toArray, List.set_cons_succ, List.set_cons_zero]
  rw [e8, e13, e9, e10]
  generalize nb 9 = b14_9 at E ⊢
  generalize nb 10 = b14_10 at E ⊢
  generalize vs 0 = u14_0
  generalize vs 1 = u14_1
  generalize vs 2 = u14_2
  generalize vs 3 = u14_3
  generalize vs 4 = u14_4
  generalize vs 5 = u14_5
  generalize vs 6 = u14_6
  generalize vs 7 = u14_7
  clear e8 e13 e9 e10 hC hn E14 hL vs L nb
  go_upto_region 5 with (fail)
  refine region_fr (C := [Fq.num ((r2 - r1) % (Int.gcd m1 m2 : Int)), Fq.is (.int .i64 (cmpI ((r2 - r1) % (Int.gcd m1 m2 : Int)) 0)), Fq.is (.bool false)]) (ks := [none, none, none, none, none, none, none, none, none, none, none]) (new := []) E rfl (by kernel_rfl) rfl rfl (fun hp => ⟨?_, ?_, ?_, trivial⟩) ?_
  · exact q_loadInt (off := 0) hp (free_of rfl) trivial (List.mem_iff_getElem?.2 ⟨1, rfl⟩) (.inl rfl) (Nat.le_of_ble_eq_true rfl) (sq_out rfl rfl (fun _ _ => rfl)) (fun us w hl h => ld_num hl h)
  · exact q_call1 (F := (Fq.num ((r2 - r1) % (Int.gcd m1 m2 : Int))).P) hp (free_of rfl) trivial (enq_Sign) (sq_in 0 rfl rfl (by simp) rfl (fun v w h => h)) (fun v w h => exSign h)
  · exact q_one (F := fun v _ => v = .int .i64 (cmpI ((r2 - r1) % (Int.gcd m1 m2 : Int)) 0)) hp (free_of rfl) trivial (sq_in 1 rfl rfl (by simp) rfl (fun v w h => h)) (fun ρ w hc h => ⟨.bool false, by simp [execOp, go_sem, h, hc, T3.out], rfl⟩)
  intro L vs w15 nb hL hC hn E15
  have e1 : vs 1 = .int .i64 (cmpI ((r2 - r1) % (Int.gcd m1 m2 : Int)) 0) := hC 1 (by simp)
  have e2 : vs 2 = .bool false := hC 2 (by simp)
  have E : Fr w [(b14_9, 2, Fq.num ((r2 - r1) / (Int.gcd m1 m2 : Int))), (b14_10, 2, Fq.num ((r2 - r1) % (Int.gcd m1 m2 : Int))), (b10_7, 2, Fq.num (Int.gcd m1 m2 : Int)), (b10_8, 2, Fq.num (bezU m1 m2)), (b10_9, 2, Fq.num (bezV m1 m2)), (b6, 2, Fq.num 0), (b5, 2, Fq.num 0), (b4, 2, Fq.num m2), (b3, 2, Fq.num r2), (b2, 2, Fq.num m1), (b1, 2, Fq.num r1)] w15 := E15
  rw [lay_all hL]
  simp only [putAll, dstOf, List.length_cons, List.length_nil, Nat.zero_add, Nat.reduceAdd, List.getElem?_toArray, List.getElem?_cons_zero, List.getElem?_cons_succ, Option.bind_some, Act.put, List.setIfInBounds_toArray, List.set_cons_succ, List.set_cons_zero]
  rw [e1, e2]
  generalize vs 0 = u15_0
  clear e1 e2 hC hn E15 hL vs L nb
  clear T3
  go_upto_region 7 with (fail)
  have B16 : Hid (ab ((m2 / (Int.gcd m1 m2 : Int))) < pw 101) := ab_divB hd.out (by omega)
  have B17 : Hid (ab ((m2 % (Int.gcd m1 m2 : Int))) < pw 100) := ab_modB HG.out B8.out
  refine region_fr (C := [Fq.num m2, Fq.num (Int.gcd m1 m2 : Int), Fq.tup3 (Fq.num (m2 / (Int.gcd m1 m2 : Int))) (Fq.num (m2 % (Int.gcd m1 m2 : Int))) (Fq.is (.int .i64 0)), Fq.tup3 (Fq.num (m2 / (Int.gcd m1 m2 : Int))) (Fq.num (m2 % (Int.gcd m1 m2 : Int))) (Fq.is (.int .i64 0)), Fq.num (m2 / (Int.gcd m1 m2 : Int)), Fq.num (m2 % (Int.gcd m1 m2 : Int)), Fq.is (.int .i64 0), Fq.any, Fq.any, Fq.any, Fq.any, Fq.is (.int .i64 0)]) (ks := [none, none, none, none, none, none, none, none, none, none, none]) (new := [⟨7, 9, 2, Fq.num 0, Fq.num (m2 / (Int.gcd m1 m2 : Int)), none⟩, ⟨8, 10, 2, Fq.num 0, Fq.num (m2 % (Int.gcd m1 m2 : Int)), none⟩]) E rfl (by kernel_rfl) rfl rfl (fun hp => ⟨?_, ?_, ?_, ?_, ?_, ?_, ?_, ?_, ?_, ?_, ?_, ?_, trivial⟩) ?_
  · exact q_loadInt (off := 0) hp (free_of rfl) trivial (List.mem_iff_getElem?.2 ⟨7, rfl⟩) (.inl rfl) (Nat.le_of_ble_eq_true rfl) (sq_out rfl rfl (fun _ _ => rfl)) (fun us w hl h => ld_num hl h)
  · exact q_loadInt (off := 0) hp (free_of rfl) trivial (List.mem_iff_getElem?.2 ⟨2, rfl⟩) (.inl rfl) (Nat.le_of_ble_eq_true rfl) (sq_out rfl rfl (fun _ _ => rfl)) (fun us w hl h => ld_num hl h)
  · exact q_call2 (F := (Fq.num m2).P) (G := (Fq.num (Int.gcd m1 m2 : Int)).P) hp (free_of rfl) trivial (enq_DivMod) (sq_in 0 rfl rfl (by simp) rfl (fun v w h => h)) (sq_in 1 rfl rfl (by simp) rfl (fun v w h => h)) (fun v v' w h h' => exDMq h h' HG.out B16.out B17.out (by omega) (by omega))
  · exact q_move hp (free_of rfl) trivial (sq_in 2 rfl rfl (by simp) rfl (fun v w h => h))
  · exact q_extract3 hp (free_of rfl) trivial (sq_in 3 rfl rfl (by simp) rfl (fun v w h => h)) (fun v1 v2 v3 w h1 h2 h3 => ⟨_, rfl, h1⟩)
  · exact q_extract3 hp (free_of rfl) trivial (sq_in 3 rfl rfl (by simp) rfl (fun v w h => h)) (fun v1 v2 v3 w h1 h2 h3 => ⟨_, rfl, h2⟩)
  · exact q_extract3 hp (free_of rfl) trivial (sq_in 3 rfl rfl (by simp) rfl (fun v w h => h)) (fun v1 v2 v3 w h1 h2 h3 => ⟨_, rfl, h3⟩)
  · exact q_allocInt hp (List.mem_iff_getElem?.2 ⟨0, rfl⟩) rfl rfl rfl rfl (Nat.ne_of_beq_eq_false rfl) (fun _ _ => trivial) (old_ne rfl) (newk_ne rfl) (fun w => Num.zero w)
  · exact q_allocInt hp (List.mem_iff_getElem?.2 ⟨1, rfl⟩) rfl rfl rfl rfl (Nat.ne_of_beq_eq_false rfl) (fun _ _ => trivial) (old_ne rfl) (newk_ne rfl) (fun w => Num.zero w)
  · exact q_storeNewInt hp (List.mem_iff_getElem?.2 ⟨0, rfl⟩) rfl rfl rfl (own_ptr rfl rfl (by simp) rfl) (sq_in 4 rfl rfl (by simp) rfl (fun v w h => intV_num h)) (fun _ _ => trivial) (old_ne rfl) (newi_ne rfl)
  · exact q_storeNewInt hp (List.mem_iff_getElem?.2 ⟨1, rfl⟩) rfl rfl rfl (own_ptr rfl rfl (by simp) rfl) (sq_in 5 rfl rfl (by simp) rfl (fun v w h => intV_num h)) (fun _ _ => trivial) (old_ne rfl) (newi_ne rfl)
  · exact q_assign hp (free_of rfl) trivial (sq_in 6 rfl rfl (by simp) rfl (fun v w h => h))
  intro L vs w18 nb hL hC hn E18
  have e6 : vs 6 = .int .i64 0 := hC 6 (by simp)
  have e11 : vs 11 = .int .i64 0 := hC 11 (by simp)
  have e7 : vs 7 = .pointer (some ⟨nb 7, 0, none⟩) := hn _ (List.mem_iff_getElem?.2 ⟨0, rfl⟩)
  have e8 : vs 8 = .pointer (some ⟨nb 8, 0, none⟩) := hn _ (List.mem_iff_getElem?.2 ⟨1, rfl⟩)
  have E : Fr w [(nb 7, 2, Fq.num (m2 / (Int.gcd m1 m2 : Int))), (nb 8, 2, Fq.num (m2 % (Int.gcd m1 m2 : Int))), (b14_9, 2, Fq.num ((r2 - r1) / (Int.gcd m1 m2 : Int))), (b14_10, 2, Fq.num ((r2 - r1) % (Int.gcd m1 m2 : Int))), (b10_7, 2, Fq.num (Int.gcd m1 m2 : Int)), (b10_8, 2, Fq.num (bezU m1 m2)), (b10_9, 2, Fq.num (bezV m1 m2)), (b6, 2, Fq.num 0), (b5, 2, Fq.num 0), (b4, 2, Fq.num m2), (b3, 2, Fq.num r2), (b2, 2, Fq.num m1), (b1, 2, Fq.num r1)] w18 := E18
  rw [lay_all hL]
  simp only [putAll, dstOf, List.length_cons, List.length_nil, Nat.zero_add, Nat.reduceAdd, List.getElem?_toArray, List.getElem?_cons_zero, List.getElem?_cons_succ, Option.bind_some, Act.put, List.setIfInBounds_toArray, List.set_cons_succ, List.set_cons_zero]
  rw [e6, e11, e7, e8]
  generalize nb 7 = b18_7 at E ⊢
  generalize nb 8 = b18_8 at E ⊢
  generalize vs 0 = u18_0
  generalize vs 1 = u18_1
  generalize vs 2 = u18_2
  generalize vs 3 = u18_3
  generalize vs 4 = u18_4
  generalize vs 5 = u18_5
  clear e6 e11 e7 e8 hC hn E18 hL vs L nb
  go_upto_region 8 with (fail)
  have B19 : Hid (ab ((((r2 - r1) / (Int.gcd m1 m2 : Int)) * bezU m1 m2)) < pw 202) := ab_mulM B12.out B9.out (by omega)
  have B20 : Hid (ab (((((r2 - r1) / (Int.gcd m1 m2 : Int)) * bezU m1 m2) % (m2 / (Int.gcd m1 m2 : Int)))) < pw 101) := ab_modB HQ.out B16.out
  refine region_fr (C := [Fq.num (m2 / (Int.gcd m1 m2 : Int)), Fq.any, Fq.num ((r2 - r1) / (Int.gcd m1 m2 : Int)), Fq.num (bezU m1 m2), Fq.num (((r2 - r1) / (Int.gcd m1 m2 : Int)) * bezU m1 m2), Fq.num ((((r2 - r1) / (Int.gcd m1 m2 : Int)) * bezU m1 m2) % (m2 / (Int.gcd m1 m2 : Int))), Fq.any]) (ks := [none, none, some (6, Fq.num ((((r2 - r1) / (Int.gcd m1 m2 : Int)) * bezU m1 m2) % (m2 / (Int.gcd m1 m2 : Int)))), none, none, none, none, none, none, none, none, none, none]) (new := [⟨1, 1, 2, Fq.num (m2 / (Int.gcd m1 m2 : Int)), Fq.num (m2 / (Int.gcd m1 m2 : Int)), (some (.clo 72))⟩]) E rfl (by kernel_rfl) rfl rfl (fun hp => ⟨?_, ?_, ?_, ?_, ?_, ?_, ?_, trivial⟩) ?_
  · exact q_loadInt (off := 0) hp (free_of rfl) trivial (List.mem_iff_getElem?.2 ⟨0, rfl⟩) (.inl rfl) (Nat.le_of_ble_eq_true rfl) (sq_out rfl rfl (fun _ _ => rfl)) (fun us w hl h => ld_num hl h)
  · exact q_callMake (F := (Fq.num (m2 / (Int.gcd m1 m2 : Int))).P) hp enq_M_within (List.mem_iff_getElem?.2 ⟨0, rfl⟩) rfl rfl rfl (sq_in 0 rfl rfl (by simp) rfl (fun v w h => h)) (fun v w h => exWithin h) (fun _ _ => trivial) (old_ne rfl) (newks_ne rfl)
  · exact q_loadInt (off := 0) hp (free_of rfl) trivial (List.mem_iff_getElem?.2 ⟨2, rfl⟩) (.inr rfl) (Nat.le_of_ble_eq_true rfl) (sq_out rfl rfl (fun _ _ => rfl)) (fun us w hl h => ld_num hl h)
  · exact q_loadInt (off := 0) hp (free_of rfl) trivial (List.mem_iff_getElem?.2 ⟨5, rfl⟩) (.inl rfl) (Nat.le_of_ble_eq_true rfl) (sq_out rfl rfl (fun _ _ => rfl)) (fun us w hl h => ld_num hl h)
  · exact q_call2 (F := (Fq.num ((r2 - r1) / (Int.gcd m1 m2 : Int))).P) (G := (Fq.num (bezU m1 m2)).P) hp (free_of rfl) trivial (enq_Mul) (sq_in 2 rfl rfl (by simp) rfl (fun v w h => h)) (sq_in 3 rfl rfl (by simp) rfl (fun v w h => h)) (fun v v' w h h' => exK (MulV h h') B19.out (by omega))
  · exact q_callCloIn (F := (Fq.num (((r2 - r1) / (Int.gcd m1 m2 : Int)) * bezU m1 m2)).P) hp (free_of rfl) trivial enq_M_within1 (List.mem_iff_getElem?.2 ⟨0, rfl⟩) rfl (own_ptr rfl rfl (by simp) rfl) (sq_in 4 rfl rfl (by simp) rfl (fun v w h => h)) (fun v b w h hb => exResidue h hb HQ.out (Int.lt_of_lt_of_le B19.out (pw_le (by omega))) (Int.lt_of_lt_of_le B16.out (pw_le (by omega))))
  · exact q_storeOldInt hp (List.mem_iff_getElem?.2 ⟨2, rfl⟩) rfl rfl (sq_out rfl rfl (fun _ _ => rfl)) (sq_in 5 rfl rfl (by simp) rfl (fun v w h => intV_num h)) (fun _ _ => trivial) (newik_ne rfl)
  intro L vs w21 nb hL hC hn E21
  have e1 : vs 1 = cloV 72 (nb 1) := hn _ (List.mem_iff_getElem?.2 ⟨0, rfl⟩)
  have E : Fr w [(nb 1, 2, Fq.num (m2 / (Int.gcd m1 m2 : Int))), (b18_7, 2, Fq.num (m2 / (Int.gcd m1 m2 : Int))), (b18_8, 2, Fq.num (m2 % (Int.gcd m1 m2 : Int))), (b14_9, 2, Fq.num ((((r2 - r1) / (Int.gcd m1 m2 : Int)) * bezU m1 m2) % (m2 / (Int.gcd m1 m2 : Int)))), (b14_10, 2, Fq.num ((r2 - r1) % (Int.gcd m1 m2 : Int))), (b10_7, 2, Fq.num (Int.gcd m1 m2 : Int)), (b10_8, 2, Fq.num (bezU m1 m2)), (b10_9, 2, Fq.num (bezV m1 m2)), (b6, 2, Fq.num 0), (b5, 2, Fq.num 0), (b4, 2, Fq.num m2), (b3, 2, Fq.num r2), (b2, 2, Fq.num m1), (b1, 2, Fq.num r1)] w21 := E21
  rw [lay_all hL]
  simp only [putAll, dstOf, List.length_cons, List.length_nil, Nat.zero_add, Nat.reduceAdd, List.getElem?_toArray, List.getElem?_cons_zero, List.getElem?_cons_succ, Option.bind_some, Act.put, List.setIfInBounds_toArray, List.set_cons_succ, List.set_cons_zero]
  rw [e1]
  generalize nb 1 = b21_1 at E ⊢
  generalize vs 0 = u21_0
  generalize vs 2 = u21_2
  generalize vs 3 = u21_3
  generalize vs 4 = u21_4
  generalize vs 5 = u21_5
  clear e1 hC hn E21 hL vs L nb
  go_upto_region 9 with (fail)
  have B22 : Hid (ab ((m1 * (m2 / (Int.gcd m1 m2 : Int)))) < pw 201) := ab_mulM hb.out B16.out (by omega)
  refine region_fr (C := [Fq.num m1, Fq.num (m2 / (Int.gcd m1 m2 : Int)), Fq.num (m1 * (m2 / (Int.gcd m1 m2 : Int))), Fq.any, Fq.any]) (ks := [none, none, none, none, none, none, none, none, none, none, none, none, none, none]) (new := [⟨3, 4, 2, Fq.num 0, Fq.num (m1 * (m2 / (Int.gcd m1 m2 : Int))), none⟩]) E rfl (by kernel_rfl) rfl rfl (fun hp => ⟨?_, ?_, ?_, ?_, ?_, trivial⟩) ?_
  · exact q_loadInt (off := 0) hp (free_of rfl) trivial (List.mem_iff_getElem?.2 ⟨12, rfl⟩) (.inl rfl) (Nat.le_of_ble_eq_true rfl) (sq_out rfl rfl (fun _ _ => rfl)) (fun us w hl h => ld_num hl h)
  · exact q_loadInt (off := 0) hp (free_of rfl) trivial (List.mem_iff_getElem?.2 ⟨1, rfl⟩) (.inl rfl) (Nat.le_of_ble_eq_true rfl) (sq_out rfl rfl (fun _ _ => rfl)) (fun us w hl h => ld_num hl h)
  · exact q_call2 (F := (Fq.num m1).P) (G := (Fq.num (m2 / (Int.gcd m1 m2 : Int))).P) hp (free_of rfl) trivial (enq_Mul) (sq_in 0 rfl rfl (by simp) rfl (fun v w h => h)) (sq_in 1 rfl rfl (by simp) rfl (fun v w h => h)) (fun v v' w h h' => exK (MulV h h') B22.out (by omega))
  · exact q_allocInt hp (List.mem_iff_getElem?.2 ⟨0, rfl⟩) rfl rfl rfl rfl (Nat.ne_of_beq_eq_false rfl) (fun _ _ => trivial) (old_ne rfl) (newk_ne rfl) (fun w => Num.zero w)
  · exact q_storeNewInt hp (List.mem_iff_getElem?.2 ⟨0, rfl⟩) rfl rfl rfl (own_ptr rfl rfl (by simp) rfl) (sq_in 2 rfl rfl (by simp) rfl (fun v w h => intV_num h)) (fun _ _ => trivial) (old_ne rfl) (newi_ne rfl)
  intro L vs w23 nb hL hC hn E23
  have e3 : vs 3 = .pointer (some ⟨nb 3, 0, none⟩) := hn _ (List.mem_iff_getElem?.2 ⟨0, rfl⟩)
  have E : Fr w [(nb 3, 2, Fq.num (m1 * (m2 / (Int.gcd m1 m2 : Int)))), (b21_1, 2, Fq.num (m2 / (Int.gcd m1 m2 : Int))), (b18_7, 2, Fq.num (m2 / (Int.gcd m1 m2 : Int))), (b18_8, 2, Fq.num (m2 % (Int.gcd m1 m2 : Int))), (b14_9, 2, Fq.num ((((r2 - r1) / (Int.gcd m1 m2 : Int)) * bezU m1 m2) % (m2 / (Int.gcd m1 m2 : Int)))), (b14_10, 2, Fq.num ((r2 - r1) % (Int.gcd m1 m2 : Int))), (b10_7, 2, Fq.num (Int.gcd m1 m2 : Int)), (b10_8, 2, Fq.num (bezU m1 m2)), (b10_9, 2, Fq.num (bezV m1 m2)), (b6, 2, Fq.num 0), (b5, 2, Fq.num 0), (b4, 2, Fq.num m2), (b3, 2, Fq.num r2), (b2, 2, Fq.num m1), (b1, 2, Fq.num r1)] w23 := E23
  rw [lay_all hL]
  simp only [putAll, dstOf, List.length_cons, List.length_nil, Nat.zero_add, Nat.reduceAdd, List.getElem?_toArray, List.getElem?_cons_zero, List.getElem?_cons_succ, Option.bind_some, Act.put, List.setIfInBounds_toArray, List.set_cons_succ, List.set_cons_zero]
  rw [e3]
  generalize nb 3 = b23_3 at E ⊢
  generalize vs 0 = u23_0
  generalize vs 1 = u23_1
  generalize vs 2 = u23_2
  clear e3 hC hn E23 hL vs L nb
  go_upto_region 10 with (fail)
  have B24 : Hid (ab ((m1 * ((((r2 - r1) / (Int.gcd m1 m2 : Int)) * bezU m1 m2) % (m2 / (Int.gcd m1 m2 : Int))))) < pw 201) := ab_mulM hb.out B20.out (by omega)
  have B25 : Hid (ab ((r1 + (m1 * ((((r2 - r1) / (Int.gcd m1 m2 : Int)) * bezU m1 m2) % (m2 / (Int.gcd m1 m2 : Int)))))) < pw 202) := ab_addB ha.out B24.out (by omega) (by omega)
  have B26 : Hid (ab (((r1 + (m1 * ((((r2 - r1) / (Int.gcd m1 m2 : Int)) * bezU m1 m2) % (m2 / (Int.gcd m1 m2 : Int))))) % (m1 * (m2 / (Int.gcd m1 m2 : Int))))) < pw 201) := ab_modB HR.out B22.out
  refine region_fr (C := [Fq.num (m1 * (m2 / (Int.gcd m1 m2 : Int))), Fq.any, Fq.num r1, Fq.num m1, Fq.num ((((r2 - r1) / (Int.gcd m1 m2 : Int)) * bezU m1 m2) % (m2 / (Int.gcd m1 m2 : Int))), Fq.num (m1 * ((((r2 - r1) / (Int.gcd m1 m2 : Int)) * bezU m1 m2) % (m2 / (Int.gcd m1 m2 : Int)))), Fq.num (r1 + (m1 * ((((r2 - r1) / (Int.gcd m1 m2 : Int)) * bezU m1 m2) % (m2 / (Int.gcd m1 m2 : Int))))), Fq.num ((r1 + (m1 * ((((r2 - r1) / (Int.gcd m1 m2 : Int)) * bezU m1 m2) % (m2 / (Int.gcd m1 m2 : Int))))) % (m1 * (m2 / (Int.gcd m1 m2 : Int)))), Fq.num (m1 * (m2 / (Int.gcd m1 m2 : Int))), Fq.any, Fq.any, Fq.is (.int .i64 0)]) (ks := [none, none, none, none, none, none, none, none, none, some (10, Fq.num (m1 * (m2 / (Int.gcd m1 m2 : Int)))), some (9, Fq.num ((r1 + (m1 * ((((r2 - r1) / (Int.gcd m1 m2 : Int)) * bezU m1 m2) % (m2 / (Int.gcd m1 m2 : Int))))) % (m1 * (m2 / (Int.gcd m1 m2 : Int))))), none, none, none, none]) (new := [⟨1, 1, 2, Fq.num (m1 * (m2 / (Int.gcd m1 m2 : Int))), Fq.num (m1 * (m2 / (Int.gcd m1 m2 : Int))), (some (.clo 72))⟩]) E rfl (by kernel_rfl) rfl rfl (fun hp => ⟨?_, ?_, ?_, ?_, ?_, ?_, ?_, ?_, ?_, ?_, ?_, ?_, trivial⟩) ?_
  · exact q_loadInt (off := 0) hp (free_of rfl) trivial (List.mem_iff_getElem?.2 ⟨0, rfl⟩) (.inl rfl) (Nat.le_of_ble_eq_true rfl) (sq_out rfl rfl (fun _ _ => rfl)) (fun us w hl h => ld_num hl h)
  · exact q_callMake (F := (Fq.num (m1 * (m2 / (Int.gcd m1 m2 : Int)))).P) hp enq_M_within (List.mem_iff_getElem?.2 ⟨0, rfl⟩) rfl rfl rfl (sq_in 0 rfl rfl (by simp) rfl (fun v w h => h)) (fun v w h => exWithin h) (fun _ _ => trivial) (old_ne rfl) (newks_ne rfl)
  · exact q_loadInt (off := 0) hp (free_of rfl) trivial (List.mem_iff_getElem?.2 ⟨14, rfl⟩) (.inl rfl) (Nat.le_of_ble_eq_true rfl) (sq_out rfl rfl (fun _ _ => rfl)) (fun us w hl h => ld_num hl h)
  · exact q_loadInt (off := 0) hp (free_of rfl) trivial (List.mem_iff_getElem?.2 ⟨13, rfl⟩) (.inl rfl) (Nat.le_of_ble_eq_true rfl) (sq_out rfl rfl (fun _ _ => rfl)) (fun us w hl h => ld_num hl h)
  · exact q_loadInt (off := 0) hp (free_of rfl) trivial (List.mem_iff_getElem?.2 ⟨4, rfl⟩) (.inl rfl) (Nat.le_of_ble_eq_true rfl) (sq_out rfl rfl (fun _ _ => rfl)) (fun us w hl h => ld_num hl h)
  · exact q_call2 (F := (Fq.num m1).P) (G := (Fq.num ((((r2 - r1) / (Int.gcd m1 m2 : Int)) * bezU m1 m2) % (m2 / (Int.gcd m1 m2 : Int)))).P) hp (free_of rfl) trivial (enq_Mul) (sq_in 3 rfl rfl (by simp) rfl (fun v w h => h)) (sq_in 4 rfl rfl (by simp) rfl (fun v w h => h)) (fun v v' w h h' => exK (MulV h h') B24.out (by omega))
  · exact q_call2 (F := (Fq.num r1).P) (G := (Fq.num (m1 * ((((r2 - r1) / (Int.gcd m1 m2 : Int)) * bezU m1 m2) % (m2 / (Int.gcd m1 m2 : Int))))).P) hp (free_of rfl) trivial (enq_Add) (sq_in 2 rfl rfl (by simp) rfl (fun v w h => h)) (sq_in 5 rfl rfl (by simp) rfl (fun v w h => h)) (fun v v' w h h' => exK (AddV h h') B25.out (by omega))
  · exact q_callCloIn (F := (Fq.num (r1 + (m1 * ((((r2 - r1) / (Int.gcd m1 m2 : Int)) * bezU m1 m2) % (m2 / (Int.gcd m1 m2 : Int)))))).P) hp (free_of rfl) trivial enq_M_within1 (List.mem_iff_getElem?.2 ⟨0, rfl⟩) rfl (own_ptr rfl rfl (by simp) rfl) (sq_in 6 rfl rfl (by simp) rfl (fun v w h => h)) (fun v b w h hb => exResidue h hb HR.out (Int.lt_of_lt_of_le B25.out (pw_le (by omega))) (Int.lt_of_lt_of_le B22.out (pw_le (by omega))))
  · exact q_loadInt (off := 0) hp (free_of rfl) trivial (List.mem_iff_getElem?.2 ⟨0, rfl⟩) (.inl rfl) (Nat.le_of_ble_eq_true rfl) (sq_out rfl rfl (fun _ _ => rfl)) (fun us w hl h => ld_num hl h)
  · exact q_storeOldInt hp (List.mem_iff_getElem?.2 ⟨10, rfl⟩) rfl rfl (sq_out rfl rfl (fun _ _ => rfl)) (sq_in 7 rfl rfl (by simp) rfl (fun v w h => intV_num h)) (fun _ _ => trivial) (newik_ne rfl)
  · exact q_storeOldInt hp (List.mem_iff_getElem?.2 ⟨9, rfl⟩) rfl rfl (sq_out rfl rfl (fun _ _ => rfl)) (sq_in 8 rfl rfl (by simp) rfl (fun v w h => intV_num h)) (fun _ _ => trivial) (newik_ne rfl)
  · exact q_assign hp (free_of rfl) trivial (sq_const (fun _ => rfl))
  intro L vs w27 nb hL hC hn E27
  have e11 : vs 11 = .int .i64 0 := hC 11 (by simp)
  have e1 : vs 1 = cloV 72 (nb 1) := hn _ (List.mem_iff_getElem?.2 ⟨0, rfl⟩)
  have E : Fr w [(nb 1, 2, Fq.num (m1 * (m2 / (Int.gcd m1 m2 : Int)))), (b23_3, 2, Fq.num (m1 * (m2 / (Int.gcd m1 m2 : Int)))), (b21_1, 2, Fq.num (m2 / (Int.gcd m1 m2 : Int))), (b18_7, 2, Fq.num (m2 / (Int.gcd m1 m2 : Int))), (b18_8, 2, Fq.num (m2 % (Int.gcd m1 m2 : Int))), (b14_9, 2, Fq.num ((((r2 - r1) / (Int.gcd m1 m2 : Int)) * bezU m1 m2) % (m2 / (Int.gcd m1 m2 : Int)))), (b14_10, 2, Fq.num ((r2 - r1) % (Int.gcd m1 m2 : Int))), (b10_7, 2, Fq.num (Int.gcd m1 m2 : Int)), (b10_8, 2, Fq.num (bezU m1 m2)), (b10_9, 2, Fq.num (bezV m1 m2)), (b6, 2, Fq.num (m1 * (m2 / (Int.gcd m1 m2 : Int)))), (b5, 2, Fq.num ((r1 + (m1 * ((((r2 - r1) / (Int.gcd m1 m2 : Int)) * bezU m1 m2) % (m2 / (Int.gcd m1 m2 : Int))))) % (m1 * (m2 / (Int.gcd m1 m2 : Int))))), (b4, 2, Fq.num m2), (b3, 2, Fq.num r2), (b2, 2, Fq.num m1), (b1, 2, Fq.num r1)] w27 := E27
  rw [lay_all hL]
  simp only [putAll, dstOf, List.length_cons, List.length_nil, Nat.zero_add, Nat.reduceAdd, List.getElem?_toArray, List.getElem?_cons_zero, List.getElem?_cons_succ, Option.bind_some, Act.put, List.setIfInBounds_toArray, List.set_cons_succ, List.set_cons_zero]
  rw [e11, e1]
  generalize nb 1 = b27_1 at E ⊢
  generalize vs 0 = u27_0
  generalize vs 2 = u27_2
  generalize vs 3 = u27_3
  generalize vs 4 = u27_4
  generalize vs 5 = u27_5
  generalize vs 6 = u27_6
  generalize vs 7 = u27_7
  generalize vs 8 = u27_8
  clear e11 e1 hC hn E27 hL vs L nb
  clear HP HG HQ HR
  obtain ⟨p0, p1, c0, c1, hP⟩ := box_num (E.box 11 rfl)
  obtain ⟨q0, q1, d0, d1, hQ⟩ := box_num (E.box 10 rfl)
  clear B8 B9 B11 B12 B13 B16 B17 B19 B20 B22 B24 B25 B26 ha hb hc hd
  go_wp2
  refine bodyPost_ret (v := .tuple #[.agg #[p0, p1], .agg #[q0, q1], .int .i64 0]) ?_ rfl ⟨_, rfl, E.below, ⟨_, _, _, rfl, hP, hQ, rfl⟩⟩
  simp [results, Tryd.results31, go_sem, c0, c1, d0, d1]

set_option maxRecDepth 100000 in
set_option maxHeartbeats 4000000 in
theorem exCrtN {w : World} {v v' u u' : Value} {r1 m1 r2 m2 : Int} (h : Num w v r1) (h' : Num w v' m1) (g : Num w u r2) (g' : Num w u' m2) (ha : ab r1 < pw 100) (hb : ab m1 < pw 100) (hc : ab r2 < pw 100) (hd : ab m2 < pw 100) (h1 : 0 < m1) (h2 : 0 < m2) (hz : (r2 - r1) % (Int.gcd m1 m2 : Int) ≠ 0) :
    Calls Tryd.prog 31 #[v, v', u, u'] w fun e w' => ∃ v', e = .returned v' ∧ Below w.heap.size w w' ∧ (Fq.tup3 (Fq.num 0) (Fq.num 0) (Fq.is (.int .i64 6))).P v' w' := by
  replace ha := hidd ha
  replace hb := hidd hb
  replace hc := hidd hc
  replace hd := hidd hd
  obtain ⟨n0, ao0, k0, c0, rfl⟩ := h.parts
  obtain ⟨n1, ao1, k1, c1, rfl⟩ := h'.parts
  obtain ⟨n2, ao2, k2, c2, rfl⟩ := g.parts
  obtain ⟨n3, ao3, k3, c3, rfl⟩ := g'.parts
  obtain ⟨w1, b1, hw1, hb1, hs1, E⟩ := fr_start w (F := Fq.num r1) (us := [.bool n0, .slice ao0 k0 c0]) 29 rfl (by simp) (tame_int _ _ _ _) h
  obtain ⟨w2, b2, hw2, hb2, hs2, E⟩ := fr_more E hs1 (F := Fq.num m1) (us := [.bool n1, .slice ao1 k1 c1]) 29 rfl (by simp) (tame_int _ _ _ _) (h'.mono E.below)
  obtain ⟨w3, b3, hw3, hb3, hs3, E⟩ := fr_more E hs2 (F := Fq.num r2) (us := [.bool n2, .slice ao2 k2 c2]) 29 rfl (by simp) (tame_int _ _ _ _) (g.mono E.below)
  obtain ⟨w4, b4, hw4, hb4, hs4, E⟩ := fr_more E hs3 (F := Fq.num m2) (us := [.bool n3, .slice ao3 k3 c3]) 29 rfl (by simp) (tame_int _ _ _ _) (g'.mono E.below)
  obtain ⟨w5, b5, hw5, hb5, hs5, E⟩ := fr_more E hs4 (F := Fq.num 0) (us := [.bool false, .slice none 0 0]) 29 rfl (by simp) (tame_int _ _ _ _) (Num.zero _)
  obtain ⟨w6, b6, hw6, hb6, hs6, E⟩ := fr_more E hs5 (F := Fq.num 0) (us := [.bool false, .slice none 0 0]) 29 rfl (by simp) (tame_int _ _ _ _) (Num.zero _)
  go_enter Tryd.func31, Tryd.ntmps31
  go_upto_region 1 with (fail)
  rw [← hw1]
  rw [← hw2]
  rw [← hw3]
  rw [← hw4]
  rw [← hw5]
  rw [← hw6]
  rw [← hb6]
  rw [← hb5]
  rw [← hb4]
  rw [← hb3]
  rw [← hb2]
  rw [← hb1]
  clear hw1 hw2 hw3 hw4 hw5 hw6 hb1 hb2 hb3 hb4 hb5 hb6 hs6 hs1 hs2 hs3 hs4 hs5
  have T1 : Hid (¬ cmpI m1 0 ≤ 0) := fun e => by have := cmpI_le0.1 e; omega
  have T2 : Hid (¬ cmpI m2 0 ≤ 0) := fun e => by have := cmpI_le0.1 e; omega
  have HP := hidd h2
  have HG : Hid ((Int.gcd m1 m2 : Int) ≠ 0) := by have := gcd_pos_r (a := m1) (show m2 ≠ 0 by omega); show _ ≠ _; omega
  have T3 : Hid (¬ cmpI ((r2 - r1) % (Int.gcd m1 m2 : Int)) 0 = 0) := fun e => hz (cmpIq0.1 e)
  have HQ : Hid (m2 / (Int.gcd m1 m2 : Int) ≠ 0) := by have := (crt_part (m1 := m1) h2).1; show _ ≠ _; omega
  have HR : Hid (m1 * (m2 / (Int.gcd m1 m2 : Int)) ≠ 0) := Int.mul_ne_zero (by omega) HQ.out
  clear h1 h2 hz
  refine region_fr (C := [Fq.num m1, Fq.is (.int .i64 (cmpI m1 0)), Fq.is (.bool false), Fq.is (.bool false), Fq.num m2, Fq.is (.int .i64 (cmpI m2 0)), Fq.is (.bool false), Fq.is (.bool false)]) (ks := [none, none, none, none, none, none]) (new := []) E rfl (by kernel_rfl) rfl rfl (fun hp => ⟨?_, ?_, ?_, ?_, ?_, ?_, ?_, ?_, trivial⟩) ?_
  · exact q_loadInt (off := 0) hp (free_of rfl) trivial (List.mem_iff_getElem?.2 ⟨4, rfl⟩) (.inl rfl) (Nat.le_of_ble_eq_true rfl) (sq_out rfl rfl (fun _ _ => rfl)) (fun us w hl h => ld_num hl h)
  · exact q_call1 (F := (Fq.num m1).P) hp (free_of rfl) trivial (enq_Sign) (sq_in 0 rfl rfl (by simp) rfl (fun v w h => h)) (fun v w h => exSign h)
  · exact q_one (F := fun v _ => v = .int .i64 (cmpI m1 0)) hp (free_of rfl) trivial (sq_in 1 rfl rfl (by simp) rfl (fun v w h => h)) (fun ρ w hc h => ⟨.bool false, by simp [execOp, go_sem, h, hc, T1.out], rfl⟩)
  · exact q_move hp (free_of rfl) trivial (sq_in 2 rfl rfl (by simp) rfl (fun v w h => h))
  · exact q_loadInt (off := 0) hp (free_of rfl) (gq_some rfl rfl (by simp) rfl (fun v w h => h)) (List.mem_iff_getElem?.2 ⟨2, rfl⟩) (.inl rfl) (Nat.le_of_ble_eq_true rfl) (sq_out rfl rfl (fun _ _ => rfl)) (fun us w hl h => ld_num hl h)
  · exact q_call1 (F := (Fq.num m2).P) hp (free_of rfl) (gq_some rfl rfl (by simp) rfl (fun v w h => h)) (enq_Sign) (sq_in 4 rfl rfl (by simp) rfl (fun v w h => h)) (fun v w h => exSign h)
  · exact q_one (F := fun v _ => v = .int .i64 (cmpI m2 0)) hp (free_of rfl) (gq_some rfl rfl (by simp) rfl (fun v w h => h)) (sq_in 5 rfl rfl (by simp) rfl (fun v w h => h)) (fun ρ w hc h => ⟨.bool false, by simp [execOp, go_sem, h, hc, T2.out], rfl⟩)
  · exact q_two (F := fun v _ => v = .bool false) (G := fun v _ => v = .bool false) hp (free_of rfl) trivial (sq_in 3 rfl rfl (by simp) rfl (fun v w h => h)) (sq_in 6 rfl rfl (by simp) rfl (fun v w h => h)) (fun ρ w hc h h' => ⟨_, by simp [execOp, go_sem, h, h'], rfl⟩)
  intro L vs w7 nb hL hC hn E7
  have e1 : vs 1 = .int .i64 (cmpI m1 0) := hC 1 (by simp)
  have e2 : vs 2 = .bool false := hC 2 (by simp)
  have e3 : vs 3 = .bool false := hC 3 (by simp)
  have e5 : vs 5 = .int .i64 (cmpI m2 0) := hC 5 (by simp)
  have e6 : vs 6 = .bool false := hC 6 (by simp)
  have e7 : vs 7 = .bool false := hC 7 (by simp)
  have E : Fr w [(b6, 2, Fq.num 0), (b5, 2, Fq.num 0), (b4, 2, Fq.num m2), (b3, 2, Fq.num r2), (b2, 2, Fq.num m1), (b1, 2, Fq.num r1)] w7 := E7
  rw [lay_all hL]
  simp only [putAll, dstOf, List.length_cons, List.length_nil, Nat.zero_add, Nat.reduceAdd, List.getElem?_toArray, List.getElem?_cons_zero, List.getElem?_cons_succ, Option.bind_some, Act.put, List.setIfInBounds_toArray, List.set_cons_succ, List.set_cons_zero]
  rw [e1, e2, e3, e5, e6, e7]
  generalize vs 0 = u7_0
  generalize vs 4 = u7_4
  clear e1 e2 e3 e5 e6 e7 hC hn E7 hL vs L nb
  clear T1 T2
  go_upto_region 3 with (fail)
  have B8 : Hid (ab ((Int.gcd m1 m2 : Int)) < pw 100) := ab_gcdB hb.out hd.out (by omega) (by omega)
  have B9 : Hid (ab (bezU m1 m2) < pw 100) := bezU_ab HP.out hd.out
  refine region_fr (C := [Fq.num m1, Fq.num m2, Fq.tup3 (Fq.num (Int.gcd m1 m2 : Int)) (Fq.num (bezU m1 m2)) (Fq.num (bezV m1 m2)), Fq.tup3 (Fq.num (Int.gcd m1 m2 : Int)) (Fq.num (bezU m1 m2)) (Fq.num (bezV m1 m2)), Fq.num (Int.gcd m1 m2 : Int), Fq.num (bezU m1 m2), Fq.num (bezV m1 m2), Fq.any, Fq.any, Fq.any, Fq.any, Fq.any, Fq.any]) (ks := [none, none, none, none, none, none]) (new := [⟨7, 10, 2, Fq.num 0, Fq.num (Int.gcd m1 m2 : Int), none⟩, ⟨8, 11, 2, Fq.num 0, Fq.num (bezU m1 m2), none⟩, ⟨9, 12, 2, Fq.num 0, Fq.num (bezV m1 m2), none⟩]) E rfl (by kernel_rfl) rfl rfl (fun hp => ⟨?_, ?_, ?_, ?_, ?_, ?_, ?_, ?_, ?_, ?_, ?_, ?_, ?_, trivial⟩) ?_
  · exact q_loadInt (off := 0) hp (free_of rfl) trivial (List.mem_iff_getElem?.2 ⟨4, rfl⟩) (.inl rfl) (Nat.le_of_ble_eq_true rfl) (sq_out rfl rfl (fun _ _ => rfl)) (fun us w hl h => ld_num hl h)
  · exact q_loadInt (off := 0) hp (free_of rfl) trivial (List.mem_iff_getElem?.2 ⟨2, rfl⟩) (.inl rfl) (Nat.le_of_ble_eq_true rfl) (sq_out rfl rfl (fun _ _ => rfl)) (fun us w hl h => ld_num hl h)
  · exact q_call2 (F := (Fq.num m1).P) (G := (Fq.num m2).P) hp (free_of rfl) trivial (enq_Bezout) (sq_in 0 rfl rfl (by simp) rfl (fun v w h => h)) (sq_in 1 rfl rfl (by simp) rfl (fun v w h => h)) (fun v v' w h h' => exBezout h h' (Int.lt_of_lt_of_le hb.out (pw_le (by omega))) (Int.lt_of_lt_of_le hd.out (pw_le (by omega))) HP.out)
  · exact q_move hp (free_of rfl) trivial (sq_in 2 rfl rfl (by simp) rfl (fun v w h => h))
  · exact q_extract3 hp (free_of rfl) trivial (sq_in 3 rfl rfl (by simp) rfl (fun v w h => h)) (fun v1 v2 v3 w h1 h2 h3 => ⟨_, rfl, h1⟩)
  · exact q_extract3 hp (free_of rfl) trivial (sq_in 3 rfl rfl (by simp) rfl (fun v w h => h)) (fun v1 v2 v3 w h1 h2 h3 => ⟨_, rfl, h2⟩)
  · exact q_extract3 hp (free_of rfl) trivial (sq_in 3 rfl rfl (by simp) rfl (fun v w h => h)) (fun v1 v2 v3 w h1 h2 h3 => ⟨_, rfl, h3⟩)
  · exact q_allocInt hp (List.mem_iff_getElem?.2 ⟨0, rfl⟩) rfl rfl rfl rfl (Nat.ne_of_beq_eq_false rfl) (fun _ _ => trivial) (old_ne rfl) (newk_ne rfl) (fun w => Num.zero w)
  · exact q_allocInt hp (List.mem_iff_getElem?.2 ⟨1, rfl⟩) rfl rfl rfl rfl (Nat.ne_of_beq_eq_false rfl) (fun _ _ => trivial) (old_ne rfl) (newk_ne rfl) (fun w => Num.zero w)
  · exact q_allocInt hp (List.mem_iff_getElem?.2 ⟨2, rfl⟩) rfl rfl rfl rfl (Nat.ne_of_beq_eq_false rfl) (fun _ _ => trivial) (old_ne rfl) (newk_ne rfl) (fun w => Num.zero w)
  · exact q_storeNewInt hp (List.mem_iff_getElem?.2 ⟨0, rfl⟩) rfl rfl rfl (own_ptr rfl rfl (by simp) rfl) (sq_in 4 rfl rfl (by simp) rfl (fun v w h => intV_num h)) (fun _ _ => trivial) (old_ne rfl) (newi_ne rfl)
  · exact q_storeNewInt hp (List.mem_iff_getElem?.2 ⟨1, rfl⟩) rfl rfl rfl (own_ptr rfl rfl (by simp) rfl) (sq_in 5 rfl rfl (by simp) rfl (fun v w h => intV_num h)) (fun _ _ => trivial) (old_ne rfl) (newi_ne rfl)
  · exact q_storeNewInt hp (List.mem_iff_getElem?.2 ⟨2, rfl⟩) rfl rfl rfl (own_ptr rfl rfl (by simp) rfl) (sq_in 6 rfl rfl (by simp) rfl (fun v w h => intV_num h)) (fun _ _ => trivial) (old_ne rfl) (newi_ne rfl)
  intro L vs w10 nb hL hC hn E10
  have e7 : vs 7 = .pointer (some ⟨nb 7, 0, none⟩) := hn _ (List.mem_iff_getElem?.2 ⟨0, rfl⟩)
  have e8 : vs 8 = .pointer (some ⟨nb 8, 0, none⟩) := hn _ (List.mem_iff_getElem?.2 ⟨1, rfl⟩)
  have e9 : vs 9 = .pointer (some ⟨nb 9, 0, none⟩) := hn _ (List.mem_iff_getElem?.2 ⟨2, rfl⟩)
  have E : Fr w [(nb 7, 2, Fq.num (Int.gcd m1 m2 : Int)), (nb 8, 2, Fq.num (bezU m1 m2)), (nb 9, 2, Fq.num (bezV m1 m2)), (b6, 2, Fq.num 0), (b5, 2, Fq.num 0), (b4, 2, Fq.num m2), (b3, 2, Fq.num r2), (b2, 2, Fq.num m1), (b1, 2, Fq.num r1)] w10 := E10
  rw [lay_all hL]
  simp only [putAll, dstOf, List.length_cons, List.length_nil, Nat.zero_add, Nat.reduceAdd, List.getElem?_toArray, List.getElem?_cons_zero, List.getElem?_cons_succ, Option.bind_some, Act.put, List.setIfInBounds_toArray, List.set_cons_succ, List.set_cons_zero]
  rw [e7, e8, e9]
  generalize nb 7 = b10_7 at E ⊢
  generalize nb 8 = b10_8 at E ⊢
  generalize nb 9 = b10_9 at E ⊢
  generalize vs 0 = u10_0
  generalize vs 1 = u10_1
  generalize vs 2 = u10_2
  generalize vs 3 = u10_3
  generalize vs 4 = u10_4
  generalize vs 5 = u10_5
  generalize vs 6 = u10_6
  clear e7 e8 e9 hC hn E10 hL vs L nb
  go_upto_region 4 with (fail)
  have B11 : Hid (ab ((r2 - r1)) < pw 101) := ab_subB hc.out ha.out (by omega) (by omega)
  have B12 : Hid (ab (((r2 - r1) / (Int.gcd m1 m2 : Int))) < pw 102) := ab_divB B11.out (by omega)
  have B13 : Hid (ab (((r2 - r1) % (Int.gcd m1 m2 : Int))) < pw 100) := ab_modB HG.out B8.out
  refine region_fr (C := [Fq.num r2, Fq.num r1, Fq.num (r2 - r1), Fq.num (Int.gcd m1 m2 : Int), Fq.tup3 (Fq.num ((r2 - r1) / (Int.gcd m1 m2 : Int))) (Fq.num ((r2 - r1) % (Int.gcd m1 m2 : Int))) (Fq.is (.int .i64 0)), Fq.tup3 (Fq.num ((r2 - r1) / (Int.gcd m1 m2 : Int))) (Fq.num ((r2 - r1) % (Int.gcd m1 m2 : Int))) (Fq.is (.int .i64 0)), Fq.num ((r2 - r1) / (Int.gcd m1 m2 : Int)), Fq.num ((r2 - r1) % (Int.gcd m1 m2 : Int)), Fq.is (.int .i64 0), Fq.any, Fq.any, Fq.any, Fq.any, Fq.is (.int .i64 0)]) (ks := [none, none, none, none, none, none, none, none, none]) (new := [⟨9, 11, 2, Fq.num 0, Fq.num ((r2 - r1) / (Int.gcd m1 m2 : Int)), none⟩, ⟨10, 12, 2, Fq.num 0, Fq.num ((r2 - r1) % (Int.gcd m1 m2 : Int)), none⟩]) E rfl (by kernel_rfl) rfl rfl (fun hp => ⟨?_, ?_, ?_, ?_, ?_, ?_, ?_, ?_, ?_, ?_, ?_, ?_, ?_, ?_, trivial⟩) ?_
  · exact q_loadInt (off := 0) hp (free_of rfl) trivial (List.mem_iff_getElem?.2 ⟨6, rfl⟩) (.inl rfl) (Nat.le_of_ble_eq_true rfl) (sq_out rfl rfl (fun _ _ => rfl)) (fun us w hl h => ld_num hl h)
  · exact q_loadInt (off := 0) hp (free_of rfl) trivial (List.mem_iff_getElem?.2 ⟨8, rfl⟩) (.inl rfl) (Nat.le_of_ble_eq_true rfl) (sq_out rfl rfl (fun _ _ => rfl)) (fun us w hl h => ld_num hl h)
  · exact q_call2 (F := (Fq.num r2).P) (G := (Fq.num r1).P) hp (free_of rfl) trivial (enq_Sub) (sq_in 0 rfl rfl (by simp) rfl (fun v w h => h)) (sq_in 1 rfl rfl (by simp) rfl (fun v w h => h)) (fun v v' w h h' => exK (SubV h h') B11.out (by omega))
  · exact q_loadInt (off := 0) hp (free_of rfl) trivial (List.mem_iff_getElem?.2 ⟨0, rfl⟩) (.inl rfl) (Nat.le_of_ble_eq_true rfl) (sq_out rfl rfl (fun _ _ => rfl)) (fun us w hl h => ld_num hl h)
  · exact q_call2 (F := (Fq.num (r2 - r1)).P) (G := (Fq.num (Int.gcd m1 m2 : Int)).P) hp (free_of rfl) trivial (enq_DivMod) (sq_in 2 rfl rfl (by simp) rfl (fun v w h => h)) (sq_in 3 rfl rfl (by simp) rfl (fun v w h => h)) (fun v v' w h h' => exDMq h h' HG.out B12.out B13.out (by omega) (by omega))
  · exact q_move hp (free_of rfl) trivial (sq_in 4 rfl rfl (by simp) rfl (fun v w h => h))
  · exact q_extract3 hp (free_of rfl) trivial (sq_in 5 rfl rfl (by simp) rfl (fun v w h => h)) (fun v1 v2 v3 w h1 h2 h3 => ⟨_, rfl, h1⟩)
  · exact q_extract3 hp (free_of rfl) trivial (sq_in 5 rfl rfl (by simp) rfl (fun v w h => h)) (fun v1 v2 v3 w h1 h2 h3 => ⟨_, rfl, h2⟩)
  · exact q_extract3 hp (free_of rfl) trivial (sq_in 5 rfl rfl (by simp) rfl (fun v w h => h)) (fun v1 v2 v3 w h1 h2 h3 => ⟨_, rfl, h3⟩)
  · exact q_allocInt hp (List.mem_iff_getElem?.2 ⟨0, rfl⟩) rfl rfl rfl rfl (Nat.ne_of_beq_eq_false rfl) (fun _ _ => trivial) (old_ne rfl) (newk_ne rfl) (fun w => Num.zero w)
  · exact q_allocInt hp (List.mem_iff_getElem?.2 ⟨1, rfl⟩) rfl rfl rfl rfl (Nat.ne_of_beq_eq_false rfl) (fun _ _ => trivial) (old_ne rfl) (newk_ne rfl) (fun w => Num.zero w)
  · exact q_storeNewInt hp (List.mem_iff_getElem?.2 ⟨0, rfl⟩) rfl rfl rfl (own_ptr rfl rfl (by simp) rfl) (sq_in 6 rfl rfl (by simp) rfl (fun v w h => intV_num h)) (fun _ _ => trivial) (old_ne rfl) (newi_ne rfl)
  · exact q_storeNewInt hp (List.mem_iff_getElem?.2 ⟨1, rfl⟩) rfl rfl rfl (own_ptr rfl rfl (by simp) rfl) (sq_in 7 rfl rfl (by simp) rfl (fun v w h => intV_num h)) (fun _ _ => trivial) (old_ne rfl) (newi_ne rfl)
  · exact q_assign hp (free_of rfl) trivial (sq_in 8 rfl rfl (by simp) rfl (fun v w h => h))
  intro L vs w14 nb hL hC hn E14
  have e8 : vs 8 = .int .i64 0 := hC 8 (by simp)
  have e13 : vs 13 = .int .i64 0 := hC 13 (by simp)
  have e9 : vs 9 = .pointer (some ⟨nb 9, 0, none⟩) := hn _ (List.mem_iff_getElem?.2 ⟨0, rfl⟩)
  have e10 : vs 10 = .pointer (some ⟨nb 10, 0, none⟩) := hn _ (List.mem_iff_getElem?.2 ⟨1, rfl⟩)
  have E : Fr w [(nb 9, 2, Fq.num ((r2 - r1) / (Int.gcd m1 m2 : Int))), (nb 10, 2, Fq.num ((r2 - r1) % (Int.gcd m1 m2 : Int))), (b10_7, 2, Fq.num (Int.gcd m1 m2 : Int)), (b10_8, 2, Fq.num (bezU m1 m2)), (b10_9, 2, Fq.num (bezV m1 m2)), (b6, 2, Fq.num 0), (b5, 2, Fq.num 0), (b4, 2, Fq.num m2), (b3, 2, Fq.num r2), (b2, 2, Fq.num m1), (b1, 2, Fq.num r1)] w14 := E14
  rw [lay_all hL]
  simp only [putAll, dstOf, List.length_cons, List.length_nil, Nat.zero_add, Nat.reduceAdd, List.getElem?_toArray, List.getElem?_cons_zero, List.getElem?_cons_succ, Option.bind_some, Act.put, List.setIfInBounds_toArray, List.set_cons_succ, List.set_cons_zero]
  rw [e8, e13, e9, e10]
  generalize nb 9 = b14_9 at E ⊢
  generalize nb 10 = b14_10 at E ⊢
  generalize vs 0 = u14_0
  generalize vs 1 = u14_1
  generalize vs 2 = u14_2
  generalize vs 3 = u14_3
  generalize vs 4 = u14_4
  generalize vs 5 = u14_5
  generalize vs 6 = u14_6
  generalize vs 7 = u14_7
  clear e8 e13 e9 e10 hC hn E14 hL vs L nb
  go_upto_region 5 with (fail)
  refine region_fr (C := [Fq.num ((r2 - r1) % (Int.gcd m1 m2 : Int)), Fq.is (.int .i64 (cmpI ((r2 - r1) % (Int.gcd m1 m2 : Int)) 0)), Fq.is (.bool true)]) (ks := [none, none, none, none, none, none, none, none, none, none, none]) (new := []) E rfl (by kernel_rfl) rfl rfl (fun hp => ⟨?_, ?_, ?_, trivial⟩) ?_
  · exact q_loadInt (off := 0) hp (free_of rfl) trivial (List.mem_iff_getElem?.2 ⟨1, rfl⟩) (.inl rfl) (Nat.le_of_ble_eq_true rfl) (sq_out rfl rfl (fun _ _ => rfl)) (fun us w hl h => ld_num hl h)
  · exact q_call1 (F := (Fq.num ((r2 - r1) % (Int.gcd m1 m2 : Int))).P) hp (free_of rfl) trivial (enq_Sign) (sq_in 0 rfl rfl (by simp) rfl (fun v w h => h)) (fun v w h => exSign h)
  · exact q_one (F := fun v _ => v = .int .i64 (cmpI ((r2 - r1) % (Int.gcd m1 m2 : Int)) 0)) hp (free_of rfl) trivial (sq_in 1 rfl rfl (by simp) rfl (fun v w h => h)) (fun ρ w hc h => ⟨.bool true, by simp [execOp, go_sem, h, hc, T3.out], rfl⟩)
  intro L vs w15 nb hL hC hn E15
  have e1 : vs 1 = .int .i64 (cmpI ((r2 - r1) % (Int.gcd m1 m2 : Int)) 0) := hC 1 (by simp)
  have e2 : vs 2 = .bool true := hC 2 (by simp)
  have E : Fr w [(b14_9, 2, Fq.num ((r2 - r1) / (Int.gcd m1 m2 : Int))), (b14_10, 2, Fq.num ((r2 - r1) % (Int.gcd m1 m2 : Int))), (b10_7, 2, Fq.num (Int.gcd m1 m2 : Int)), (b10_8, 2, Fq.num (bezU m1 m2)), (b10_9, 2, Fq.num (bezV m1 m2)), (b6, 2, Fq.num 0), (b5, 2, Fq.num 0), (b4, 2, Fq.num m2), (b3, 2, Fq.num r2), (b2, 2, Fq.num m1), (b1, 2, Fq.num r1)] w15 := E15
  rw [lay_all hL]
  simp only [putAll, dstOf, List.length_cons, List.length_nil, Nat.zero_add, Nat.reduceAdd, List.getElem?_toArray, List.getElem?_cons_zero, List.getElem?_cons_succ, Option.bind_some, Act.put, List.setIfInBounds_toArray, List.set_cons_succ, List.set_cons_zero]
  rw [e1, e2]
  generalize vs 0 = u15_0
  clear e1 e2 hC hn E15 hL vs L nb
  clear T3
  go_upto_region 6 with (fail)
  refine region_fr (C := [Fq.num 0, Fq.num 0, Fq.any, Fq.any, Fq.is (.int .i64 6)]) (ks := [none, none, none, none, none, some (3, Fq.num 0), some (2, Fq.num 0), none, none, none, none]) (new := []) E rfl (by kernel_rfl) rfl rfl (fun hp => ⟨?_, ?_, ?_, ?_, ?_, trivial⟩) ?_
  · exact q_zeroInt hp (free_of rfl) trivial (fun w => Num.zero w)
  · exact q_zeroInt hp (free_of rfl) trivial (fun w => Num.zero w)
  · exact q_storeOldInt hp (List.mem_iff_getElem?.2 ⟨6, rfl⟩) rfl rfl (sq_out rfl rfl (fun _ _ => rfl)) (sq_in 0 rfl rfl (by simp) rfl (fun v w h => intV_num h)) (fun _ _ => trivial) (newik_ne rfl)
  · exact q_storeOldInt hp (List.mem_iff_getElem?.2 ⟨5, rfl⟩) rfl rfl (sq_out rfl rfl (fun _ _ => rfl)) (sq_in 1 rfl rfl (by simp) rfl (fun v w h => intV_num h)) (fun _ _ => trivial) (newik_ne rfl)
  · exact q_assign hp (free_of rfl) trivial (sq_const (fun _ => rfl))
  intro L vs w16 nb hL hC hn E16
  have e4 : vs 4 = .int .i64 6 := hC 4 (by simp)
  have E : Fr w [(b14_9, 2, Fq.num ((r2 - r1) / (Int.gcd m1 m2 : Int))), (b14_10, 2, Fq.num ((r2 - r1) % (Int.gcd m1 m2 : Int))), (b10_7, 2, Fq.num (Int.gcd m1 m2 : Int)), (b10_8, 2, Fq.num (bezU m1 m2)), (b10_9, 2, Fq.num (bezV m1 m2)), (b6, 2, Fq.num 0), (b5, 2, Fq.num 0), (b4, 2, Fq.num m2), (b3, 2, Fq.num r2), (b2, 2, Fq.num m1), (b1, 2, Fq.num r1)] w16 := E16
  rw [lay_all hL]
  simp only [putAll, dstOf, List.length_cons, List.length_nil, Nat.zero_add, Nat.reduceAdd, List.getElem?_toArray, List.getElem?_cons_zero, List.getElem?_cons_succ, Option.bind_some, Act.put, List.setIfInBounds_toArray, List.set_cons_succ, List.set_cons_zero]
  rw [e4]
  generalize vs 0 = u16_0
  generalize vs 1 = u16_1
  clear e4 hC hn E16 hL vs L nb
  clear HP HG HQ HR
  obtain ⟨p0, p1, c0, c1, hP⟩ := box_num (E.box 6 rfl)
  obtain ⟨q0, q1, d0, d1, hQ⟩ := box_num (E.box 5 rfl)
  clear B8 B9 B11 B12 B13 ha hb hc hd
  go_wp2
  refine bodyPost_ret (v := .tuple #[.agg #[p0, p1], .agg #[q0, q1], .int .i64 6]) ?_ rfl ⟨_, rfl, E.below, ⟨_, _, _, rfl, hP, hQ, rfl⟩⟩
  simp [results, Tryd.results31, go_sem, c0, c1, d0, d1]

end Go.Proofs.YtieobgadihcgeaaDoor

/- Walks of the reference: Power. Walk of the reference: Pow. Walk of the reference: Sqrt. Walk of the reference: Root. -/
namespace Go.Proofs.YtieobgadihcgeaaDoor
open Go Go.RowKit

theorem boxes2n (w : World) {n : Bool} {ao : Option Addr} {k c : Nat} {z : Int} (h : Num w (.agg #[.bool n, .slice ao k c]) z) (t : TypeId) :
    ∃ w0, w0 = (w.alloc (.cells #[.bool n, .slice ao k c] t)).alloc (.cells #[.bool false, .slice none 0 0] t) ∧ BoxNum w0 w.heap.size z ∧ BoxNum w0 (w.heap.size + 1) 0 ∧ Below w.heap.size w w0 := by
  obtain ⟨w0, hw0, hA, hC, hbl, HS⟩ := boxes2 w (.bool n) (.slice ao k c) t
  exact ⟨w0, hw0, ⟨_, _, _, _, hA, h.mono hbl⟩, ⟨_, _, _, _, hC, Num.zero _⟩, hbl⟩

theorem half_odd {e k : Nat} (h : k % 2 = 1) : e * k = (e + e) * (k / 2) + e := by
  have hk : k = 2 * (k / 2) + 1 := by omega
  have h1 : e * (2 * (k / 2) + 1) = (e + e) * (k / 2) + e := by rw [Nat.mul_add, Nat.mul_one, ← Nat.mul_assoc, Nat.mul_two]
  rw [← hk] at h1
  exact h1

theorem half_even {e k : Nat} (h : k % 2 = 0) : e * k = (e + e) * (k / 2) := by
  have hk : k = 2 * (k / 2) := by omega
  have h1 : e * (2 * (k / 2)) = (e + e) * (k / 2) := by rw [← Nat.mul_assoc, Nat.mul_two]
  rw [← hk] at h1
  exact h1

set_option maxRecDepth 100000 in
set_option maxHeartbeats 8000000 in
theorem RPowerV {w : World} {v : Value} {z : Int} (h : Num w v z) (n : Nat) (hn : n ≤ 1000000) {M : Nat} (hM : ∀ j, j ≤ 2 * n + 1 → ab (z ^ j) < pw M) (hM2 : M ≤ 400000) : Calls Tryd.prog 25 #[v, .int .i64 n] w (GivesInt w (z ^ n)) := by
  obtain ⟨n1, ao, k1, c, rfl⟩ := h.parts
  have HM := hidd hM
  clear hM
  obtain ⟨w0, hw0, XA, X4, HB⟩ := boxes2n w h 29
  go_enter Tryd.func25, Tryd.ntmps25
  go_upto_region 1 with (fail)
  rw [← hw0]
  clear hw0 h
  go_wp2_with fail
  refine (rOfV _ (1) (by omega) (by omega)).mono ?_
  rintro e wI ⟨v1, rfl, hb, hN1⟩
  obtain ⟨n1, ao1, kk1, c1, rfl⟩ := hN1.parts
  replace XA := XA.mono hb
  replace X4 := X4.mono hb
  replace HB := HB.trans (hb.mono HB.size)
  clear hb
  go_upto_region 2 with (fail)
  obtain ⟨w1, hw1, hb, p1_0⟩ := boxOne hN1 29
  rw [← hw1]
  clear hw1
  have hlt1 : (w.heap.size + 1) < wI.heap.size := X4.lt
  replace XA := XA.mono hb
  replace X4 := X4.mono hb
  replace HB := HB.trans (hb.mono HB.size)
  clear hb
  obtain ⟨g5, hg5⟩ : ∃ g, g = wI.heap.size := ⟨_, rfl⟩
  rw [← hg5]
  rw [← hg5] at hlt1 p1_0
  clear hg5
  have X5 := p1_0
  clear p1_0
  go_loopw [1] (fun v1 W => ∃ e f k : Nat, v1 = .int .i64 k ∧ f + e * k = n ∧ 1 ≤ e ∧ e ≤ 2 * n + 1 ∧ BoxNum W w.heap.size (z ^ e) ∧ BoxNum W (w.heap.size + 1) 0 ∧ BoxNum W g5 (z ^ f) ∧ Below w.heap.size w W) (fun v1 _ => (intOf v1).toNat)
  case atStart => exact ⟨1, 0, n, rfl, by omega, by omega, by omega, by rw [Int.pow_one]; exact XA, X4, by rw [Int.pow_zero]; exact X5, HB⟩
  case round =>
    obtain ⟨e, f, k, rfl, hfe, he1, he2, YA, Y4, Y5, HB⟩ := hrel
    clear XA X4 X5
    have XA := YA
    have X4 := Y4
    have X5 := Y5
    clear YA Y4 Y5
    have Hfe := hidd hfe
    have hkn : k ≤ n := by have := Nat.le_mul_of_pos_left k he1; omega
    clear hfe
    by_cases hk0 : 0 < k
    · have hen : e ≤ n := by have := Nat.le_mul_of_pos_right e hk0; have := Hfe.out; omega
      rcases (by omega : k % 2 = 1 ∨ k % 2 = 0) with hpar | hpar
      · have hm2 : ((k : Int) % 2 == 1) = true := by simp; omega
        have Hpar := hidd hpar
        clear hpar
        have hfn : f + e ≤ n := by have := Nat.le_mul_of_pos_right e hk0; have := Hfe.out; omega
        obtain ⟨na, aoa, kka, cca, ⟨a0, a1, a2, a3⟩, hNa⟩ := id X5
        obtain ⟨nb, aob, kkb, ccb, ⟨b0, b1, b2, b3⟩, hNb⟩ := id XA
        go_wp2_with fail
        refine (exKP (z := z ^ (f + e)) (by rw [Int.pow_add]; exact RMulV hNa hNb) (HM.out _ (by omega)) (by omega)).mono ?_
        rintro e w2 ⟨ne, aoe, kke, cce, rfl, hb, hNe⟩
        clear a0 a1 a2 a3 hNa b0 b1 b2 b3 hNb
        replace XA := XA.mono hb
        replace X4 := X4.mono hb
        replace X5 := X5.mono hb
        replace HB := HB.trans (hb.mono HB.size)
        clear hb
        clear hm2
        obtain ⟨nc, aoc, kkc, ccc, ⟨c0, c1, c2, c3⟩, hNc⟩ := id X5
        go_upto_region 5 with (fail)
        obtain ⟨w3, hw3⟩ : ∃ w1, w1 = putBox w2 g5 ne aoe kke cce := ⟨_, rfl⟩
        rw [show (w2.setCell ⟨g5, 0, none⟩ (.bool ne)).setCell ⟨g5, 1, none⟩ (.slice aoe kke cce) = w3 from hw3.symm]
        have YA : BoxNum w3 w.heap.size (z ^ e) := by rw [hw3]; exact XA.putOther X5 (by omega) _ _ _ _
        have Y4 : BoxNum w3 (w.heap.size + 1) (0) := by rw [hw3]; exact X4.putOther X5 (by omega) _ _ _ _
        have Y5 : BoxNum w3 g5 (z ^ (f + e)) := by rw [hw3]; exact X5.putSame hNe
        replace HB : Below w.heap.size w w3 := by rw [hw3]; exact belowPut HB (by omega) _ _ _ _
        replace XA := YA
        replace X4 := Y4
        replace X5 := Y5
        clear hw3 c0 c1 c2 c3 hNc hNe YA Y4 Y5
        obtain ⟨na, aoa, kka, cca, ⟨a0, a1, a2, a3⟩, hNa⟩ := id XA
        go_wp2_with fail
        refine (exKP (z := z ^ (e + e)) (by rw [Int.pow_add]; exact RMulV hNa hNa) (HM.out _ (by omega)) (by omega)).mono ?_
        rintro e w4 ⟨ne, aoe, kke, cce, rfl, hb, hNe⟩
        clear a0 a1 a2 a3 hNa
        replace XA := XA.mono hb
        replace X4 := X4.mono hb
        replace X5 := X5.mono hb
        replace HB := HB.trans (hb.mono HB.size)
        clear hb
        obtain ⟨nc, aoc, kkc, ccc, ⟨c0, c1, c2, c3⟩, hNc⟩ := id XA
        go_wp2
        obtain ⟨w5, hw5⟩ : ∃ w1, w1 = putBox w4 w.heap.size ne aoe kke cce := ⟨_, rfl⟩
        rw [show (w4.setCell ⟨w.heap.size, 0, none⟩ (.bool ne)).setCell ⟨w.heap.size, 1, none⟩ (.slice aoe kke cce) = w5 from hw5.symm]
        have Y4 : BoxNum w5 (w.heap.size + 1) (0) := by rw [hw5]; exact X4.putOther XA (by omega) _ _ _ _
        have Y5 : BoxNum w5 g5 (z ^ (f + e)) := by rw [hw5]; exact X5.putOther XA (by omega) _ _ _ _
        have YA : BoxNum w5 w.heap.size (z ^ (e + e)) := by rw [hw5]; exact XA.putSame hNe
        replace HB : Below w.heap.size w w5 := by rw [hw5]; exact belowPut HB (by omega) _ _ _ _
        replace XA := YA
        replace X4 := Y4
        replace X5 := Y5
        clear hw5 c0 c1 c2 c3 hNc hNe YA Y4 Y5
        go_roundw
        case rel => exact ⟨e + e, f + e, k / 2, by go_num, by have h1 := Hfe.out; rw [half_odd Hpar.out] at h1; omega, by omega, by omega, XA, X4, X5, HB⟩
        case measure => simp [intOf]; omega
      · have hm2 : ((k : Int) % 2 == 1) = false := by simp; omega
        have Hpar := hidd hpar
        clear hpar
        obtain ⟨na, aoa, kka, cca, ⟨a0, a1, a2, a3⟩, hNa⟩ := id XA
        go_wp2_with fail
        refine (exKP (z := z ^ (e + e)) (by rw [Int.pow_add]; exact RMulV hNa hNa) (HM.out _ (by omega)) (by omega)).mono ?_
        rintro e w6 ⟨ne, aoe, kke, cce, rfl, hb, hNe⟩
        clear a0 a1 a2 a3 hNa
        replace XA := XA.mono hb
        replace X4 := X4.mono hb
        replace X5 := X5.mono hb
        replace HB := HB.trans (hb.mono HB.size)
        clear hb
        clear hm2
        obtain ⟨nc, aoc, kkc, ccc, ⟨c0, c1, c2, c3⟩, hNc⟩ := id XA
        go_wp2
        obtain ⟨w7, hw7⟩ : ∃ w1, w1 = putBox w6 w.heap.size ne aoe kke cce := ⟨_, rfl⟩
        rw [show (w6.setCell ⟨w.heap.size, 0, none⟩ (.bool ne)).setCell ⟨w.heap.size, 1, none⟩ (.slice aoe kke cce) = w7 from hw7.symm]
        have Y4 : BoxNum w7 (w.heap.size + 1) (0) := by rw [hw7]; exact X4.putOther XA (by omega) _ _ _ _
        have Y5 : BoxNum w7 g5 (z ^ f) := by rw [hw7]; exact X5.putOther XA (by omega) _ _ _ _
        have YA : BoxNum w7 w.heap.size (z ^ (e + e)) := by rw [hw7]; exact XA.putSame hNe
        replace HB : Below w.heap.size w w7 := by rw [hw7]; exact belowPut HB (by omega) _ _ _ _
        replace XA := YA
        replace X4 := Y4
        replace X5 := Y5
        clear hw7 c0 c1 c2 c3 hNc hNe YA Y4 Y5
        go_roundw
        case rel => exact ⟨e + e, f, k / 2, by go_num, by have h1 := Hfe.out; rw [half_even Hpar.out] at h1; omega, by omega, by omega, XA, X4, X5, HB⟩
        case measure => simp [intOf]; omega
    · obtain rfl : k = 0 := by omega
      have hfn : f = n := by have := Hfe.out; simpa using this
      subst hfn
      obtain ⟨ne, aoe, kke, cce, ⟨e0, e1, e2, e3⟩, hNe⟩ := id X5
      obtain ⟨nc, aoc, kkc, ccc, ⟨c0, c1, c2, c3⟩, hNc⟩ := id X4
      have hNf := hNe.putBox X4 ne aoe kke cce
      unfold putBox at hNf
      have hbS := (HB.setCell (p := ⟨w.heap.size + 1, 0, none⟩) (by show w.heap.size ≤ w.heap.size + 1; omega) (.bool ne)).setCell (p := ⟨w.heap.size + 1, 1, none⟩) (by show w.heap.size ≤ w.heap.size + 1; omega) (.slice aoe kke cce)
      go_wp2
      refine bodyPost_ret (v := .agg #[.bool ne, .slice aoe kke cce]) ?_ rfl ⟨_, rfl, hNf.isInt, hbS⟩
      simp [results, Tryd.results25, go_sem, c0, c1]

end Go.Proofs.YtieobgadihcgeaaDoor

namespace Go.Proofs.YtieobgadihcgeaaDoor
open Go Go.RowKit

theorem bits_uniq {v : Int} {m m' : Nat} (h : IsBits v m) (h' : IsBits v m') : m = m' := by
  rcases h with ⟨h1, h2⟩ | ⟨h1, h2, h3⟩ <;> rcases h' with ⟨h4, h5⟩ | ⟨h4, h5, h6⟩
  · omega
  · have := pow_two_pos (m' - 1); omega
  · have := pow_two_pos (m - 1); omega
  · rcases Nat.lt_trichotomy m m' with h | h | h
    · have := two_pow_le (show m ≤ m' - 1 by omega); omega
    · exact h
    · have := two_pow_le (show m' ≤ m - 1 by omega); omega

end Go.Proofs.YtieobgadihcgeaaDoor

namespace Go.Proofs.YtieobgadihcgeaaDoor
open Go Go.RowKit

end Go.Proofs.YtieobgadihcgeaaDoor

namespace Go.Proofs.YtieobgadihcgeaaDoor
open Go Go.RowKit

end Go.Proofs.YtieobgadihcgeaaDoor

/- Walk: a binary digit of a number; how many there are. -/
namespace Go.Proofs.YtieobgadihcgeaaDoor
open Go Go.RowKit

/-- A binary digit of a size lies in its word. -/
theorem bit_of_val {xs : List Int} (hd : Digs xs) {k r : Nat} (hk : k < xs.length) (hr : r < 32) : (val xs / 2 ^ (32 * k + r)) % 2 = (xs.getD k 0 / 2 ^ r) % 2 := by
  have h1 := val_split xs (k := k) (by omega)
  have h2 := val_drop_step xs hk
  have h3 := val_lt (hd.take k)
  have h4 := val_nonneg (hd.take k)
  rw [List.length_take, Nat.min_eq_left (by omega)] at h3
  rw [Int.pow_add, ← pw_two, ← Int.ediv_ediv_of_nonneg (by have := pw_pos k; omega)]
  have e1 : val xs / pw k = xs.getD k 0 + 4294967296 * val (xs.drop (k + 1)) := by
    rw [h1, Int.add_mul_ediv_left _ _ (by have := pw_pos k; omega), Int.ediv_eq_zero_of_lt h4 h3, Int.zero_add, h2]
  rw [e1]
  have e2 : (4294967296 : Int) = 2 ^ r * 2 ^ (32 - r) := by rw [← Int.pow_add, show r + (32 - r) = 32 by omega]; rfl
  obtain ⟨m, hm⟩ : ∃ m, 32 - r = m + 1 := ⟨31 - r, by omega⟩
  rw [e2, hm, Int.mul_assoc, Int.add_mul_ediv_left _ _ (by have := pow_two_pos r; omega), pow_two_succ, Int.mul_assoc, Int.mul_left_comm, Int.add_mul_emod_self_left]

theorem and_one (x : Int) (h0 : 0 ≤ x) (h1 : x < 4294967296) : bits .and .u32 x 1 = x % 2 := by
  obtain ⟨n, rfl⟩ := Int.eq_ofNat_of_zero_le h0
  have hn : n < 4294967296 := by omega
  have h2 : (BitVec.ofInt 32 ((n : Nat) : Int)).toNat = n := by rw [BitVec.ofInt_natCast, BitVec.toNat_ofNat]; exact Nat.mod_eq_of_lt (by omega)
  show IntKind.u32.wrap (((BitVec.ofInt 32 (n : Int)) &&& (BitVec.ofInt 32 1)).toNat : Int) = _
  rw [BitVec.toNat_and, h2]
  have h3 : (BitVec.ofInt 32 1).toNat = 1 := rfl
  rw [h3, Nat.and_one_is_mod]
  simp only [IntKind.wrap, IntKind.bits, IntKind.signed]
  simp
  omega

set_option maxRecDepth 20000 in
set_option maxHeartbeats 1000000 in
theorem bit_any (w : World) (na : Bool) (ax : Option Addr) (n cx : Nat) (xs : List Int) (hX : Sl w ax n cx xs) (hb1 : n ≤ 1000000) (i : Nat) (hi : i < 32 * n) :
    Calls Tryd.prog 71 #[.agg #[.bool na, .slice ax n cx], .int .i64 (i : Int)] w fun e w' => e = .returned (.bool (decide ((val xs / 2 ^ i) % 2 = 1))) ∧ Below w.heap.size w w' := by
  have hX0 := hX.mono (alloc_below w (.cells #[.bool na, .slice ax n cx] 29))
  have hk : i / 32 < n := by omega
  obtain ⟨b, off, rfl, hbl, x, hxc, hx0, hx1, HX⟩ := hX0.cells.at (k := i / 32) (by rw [hX.len]; exact hk)
  have hB := bit_of_val hX.digs (k := i / 32) (r := i % 32) (by rw [hX.len]; exact hk) (by omega)
  rw [HX.out, show 32 * (i / 32) + i % 32 = i by omega] at hB
  rw [hB]
  have e3 : 0 ≤ x / 2 ^ (i % 32) ∧ x / 2 ^ (i % 32) < 4294967296 := by
    have h := Int.ediv_nonneg hx0 (show (0 : Int) ≤ 2 ^ (i % 32) by have := pow_two_pos (i % 32); omega)
    have h2 := Int.ediv_le_self (a := x) (2 ^ (i % 32)) hx0
    omega
  have e4 := and_one _ e3.1 e3.2
  have g1 : (0 : Int) ≤ (i : Int) / 32 ∧ (i : Int) / 32 < n := by omega
  have g2 : (0 : Int) ≤ (i : Int) % 32 := by omega
  have HB := hidd hB
  clear hB
  go_enter Tryd.func71, Tryd.ntmps71
  go_wp2
  go_ret
  refine ⟨?_, alloc_below _ _⟩
  by_cases h : x / 2 ^ (i % 32) % 2 = 1 <;> simp [h]

/-- How many binary digits a number has. -/
def nbits (z : Int) : Nat := if z = 0 then 0 else z.natAbs.log2 + 1
theorem nbits_isBits (z : Int) : IsBits (ab z) (nbits z) := by
  unfold nbits IsBits ab
  by_cases h : z = 0
  · rw [if_pos h, h]; exact .inl ⟨rfl, rfl⟩
  · rw [if_neg h]
    right
    have h0 : z.natAbs ≠ 0 := by omega
    have h1 := Nat.log2_self_le h0
    have h2 := Nat.lt_log2_self (n := z.natAbs)
    refine ⟨by omega, ?_, ?_⟩
    · rw [show z.natAbs.log2 + 1 - 1 = z.natAbs.log2 by omega]
      exact_mod_cast h1
    · exact_mod_cast h2
theorem nbits_le {z : Int} {k : Nat} (h : ab z < pw k) : nbits z ≤ 32 * k := by
  rcases nbits_isBits z with ⟨_, h2⟩ | ⟨h1, h2, _⟩
  · omega
  · rw [pw_two] at h
    by_cases hc : nbits z ≤ 32 * k
    · exact hc
    · exfalso
      have h3 : (2 : Int) ^ (32 * k) ≤ 2 ^ (nbits z - 1) := two_pow_le (by omega)
      omega
theorem nbits_top {z : Int} : z.natAbs / 2 ^ nbits z = 0 := by
  rcases nbits_isBits z with ⟨h1, _⟩ | ⟨_, _, h3⟩
  · unfold ab at h1
    have : z.natAbs = 0 := by omega
    rw [this]; simp
  · unfold ab at h3
    refine Nat.div_eq_of_lt ?_
    exact_mod_cast h3

theorem exBits {w : World} {v : Value} {z : Int} (h : Num w v z) : Calls Tryd.prog 70 #[v] w fun e w' => ∃ v', e = .returned v' ∧ Below w.heap.size w w' ∧ v' = .int .i64 ((nbits z : Nat) : Int) := by
  obtain ⟨neg, ao, n, c, xs, rfl, hs, hn, rfl, hc, _⟩ := h
  refine (Bits_any _ _ _ _ _ _ hs (by omega)).mono fun e w' hh => ?_
  obtain ⟨m, rfl, hm, _, hb⟩ := hh
  refine ⟨_, rfl, hb, ?_⟩
  have h2 := nbits_isBits (sgn neg (val xs))
  rw [ab_sgn, ab_of (val_nonneg hs.digs)] at h2
  rw [bits_uniq hm h2]
theorem exBit {w : World} {v : Value} {z : Int} {i : Nat} {t : Bool} (h : Num w v z) (hi : i < nbits z) (ht : decide (z.natAbs / 2 ^ i % 2 = 1) = t) : Calls Tryd.prog 71 #[v, .int .i64 (i : Int)] w fun e w' => ∃ v', e = .returned v' ∧ Below w.heap.size w w' ∧ v' = .bool t := by
  obtain ⟨neg, ao, n, c, xs, rfl, hs, hn, hz, hc, _⟩ := h
  have h1 : ab z = val xs := by rw [hz, ab_sgn, ab_of (val_nonneg hs.digs)]
  have h2 : ab z < pw n := by rw [h1]; have := val_lt hs.digs; rwa [hs.len] at this
  refine (bit_any _ _ _ _ _ _ hs (by omega) i (by have := nbits_le h2; omega)).mono fun e w' hh => ?_
  refine ⟨_, hh.1, hh.2, ?_⟩
  rw [← ht, ← h1]
  congr 2
  unfold ab
  refine propext ⟨fun h => ?_, fun h => ?_⟩
  · have : (((z.natAbs / 2 ^ i % 2 : Nat)) : Int) = 1 := by simpa using h
    exact_mod_cast this
  · have : (((z.natAbs / 2 ^ i % 2 : Nat)) : Int) = 1 := by exact_mod_cast h
    simpa using this

theorem measP {i : Nat} : (intOf (.int .i64 ((i : Int) - 1)) + 1).toNat < (intOf (.int .i64 (i : Int)) + 1).toNat := by simp [intOf]
theorem pow_mod_mul (p m : Int) : ((p % m) * (p % m)) % m = (p * p) % m := by rw [← Int.mul_emod]
/-- A step of the power. -/
theorem pow_step {B m : Int} {N i : Nat} {z : Int} (hz : z = B ^ (N / 2 ^ (i + 1)) % m) :
    (N / 2 ^ i % 2 = 1 → (((z * z) % m) * B) % m = B ^ (N / 2 ^ i) % m) ∧ (¬ N / 2 ^ i % 2 = 1 → (z * z) % m = B ^ (N / 2 ^ i) % m) := by
  have e1 : N / 2 ^ (i + 1) = N / 2 ^ i / 2 := by rw [Nat.pow_succ, Nat.div_div_eq_div_mul]
  generalize N / 2 ^ i = q at *
  rw [e1] at hz
  have e2 : (z * z) % m = B ^ (q / 2 + q / 2) % m := by rw [hz, pow_mod_mul, Int.pow_add]
  constructor
  · intro h
    have e3 : q = q / 2 + q / 2 + 1 := by omega
    rw [e2]
    conv => rhs; rw [e3, Int.pow_succ]
    rw [Int.mul_emod, Int.emod_emod_of_dvd _ (Int.dvd_refl _), ← Int.mul_emod]
  · intro h
    have e3 : q = q / 2 + q / 2 := by omega
    rw [e2]
    conv => rhs; rw [e3]

end Go.Proofs.YtieobgadihcgeaaDoor
