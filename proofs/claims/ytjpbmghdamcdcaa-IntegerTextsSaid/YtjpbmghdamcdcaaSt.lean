/- One step of a region that draws its order, over boxes of integers: an obligation for each kind of operation. -/
import Derived.Test.YtjpbmghdamcdcaaIc
namespace Go.Proofs.Ytjpbmghdamcdcaa
open Go Go.RowKit

section
variable {os : List Oper} {Q : Exit → Act → World → Prop} {a : Act} {p : Plan} {B B0 : Nat} {w0 : World}

def Step (os : List Oper) (Q : Exit → Act → World → Prop) (a : Act) (p : Plan) (B B0 : Nat) (w0 : World) (i : Nat) (o : Oper) : Prop :=
  os.toArray[i]? = some o → ∀ L vs w, p.G B B0 w0 L vs w → L i = false → (∀ e ∈ o.after, Region.binds .any e = true → L e.on = true) → ClosedL os.toArray L →
    wpOp Try.prog os.toArray Q i (fun a' w' => ∃ v, a' = (lay os.toArray L vs os.toArray.size a).put o.dst v ∧ p.G B B0 w0 (up L i true) (up vs i v) w') (lay os.toArray L vs os.toArray.size a) w

theorem region_steps {id : Nat} {w : World} (hm : Try.prog.follows .mixedOrders = true) (ha : apartB (os.map (·.dst)) = true) (hb : backB os 0 = true) (h0 : p.G B B0 w0 (fun _ => false) (fun _ => undef) w.drew)
    (hs : AllOps (Step os Q a p B B0 w0) os 0)
    (hf : ∀ L vs w, (∀ j, j < os.length → L j = true) → p.G B B0 w0 L vs w → Q .normal (lay os.toArray L vs os.length a) w) : (Code.region id os.toArray true).wp Try.prog Q a w := by
  refine wp_region_inv hm (apart_of ha) (back_of hb) (p.G B B0 w0) h0 ?_ ?_
  · intro i o ho
    exact all_ops hs i o ho ho
  · intro L vs w hL hG
    have := hf L vs w (by simpa using hL) hG
    simpa using this

def depB (o : Oper) (j : Nat) : Bool := o.after.toList.any fun e => Region.binds .any e && e.on == j

theorem dep_of {o : Oper} {j : Nat} {L : Nat → Bool} (h : depB o j = true) (hd : ∀ e ∈ o.after, Region.binds .any e = true → L e.on = true) : L j = true := by
  obtain ⟨e, he, h1⟩ := List.any_eq_true.1 h
  simp only [Bool.and_eq_true, beq_iff_eq] at h1
  rw [← h1.2]
  exact hd e (by simpa using he) h1.1

/-- Operation k waits, in the end, for operation i. -/
def leadsB (os : List Oper) : Nat → Nat → Nat → Bool
  | 0, _, _ => false
  | f + 1, k, i => match os[k]? with
    | none => false
    | some o => o.after.toList.any fun e => Region.binds .any e && (e.on == i || leadsB os f e.on i)

theorem leads_of {L : Nat → Bool} (hc : ClosedL os.toArray L) : ∀ {f k i : Nat}, leadsB os f k i = true → L k = true → L i = true
  | 0, _, _, h, _ => by simp [leadsB] at h
  | f + 1, k, i, h, hk => by
    unfold leadsB at h
    cases ho : os[k]? with
    | none => simp [ho] at h
    | some o =>
      simp only [ho] at h
      obtain ⟨e, he, h1⟩ := List.any_eq_true.1 h
      simp only [Bool.and_eq_true, Bool.or_eq_true, beq_iff_eq] at h1
      have h2 := hc k o (by simpa using ho) hk e (by simpa using he) h1.1
      rcases h1.2 with h3 | h3
      · rw [← h3]; exact h2
      · exact leads_of hc h3 h2

theorem not_yet {L : Nat → Bool} (hc : ClosedL os.toArray L) {f k i : Nat} (h : leadsB os f k i = true) (hi : L i = false) : L k = false := by
  cases hk : L k
  · rfl
  · rw [leads_of hc h hk] at hi; cases hi

theorem lay_out {L : Nat → Bool} {vs : Nat → Value} {s : Tmp} (h : (os.map (·.dst)).contains (some s) = false) (k : Nat) : (lay os.toArray L vs k a).eval (.tmp s) = a.eval (.tmp s) := by
  refine lay_eval_out _ _ fun j _ _ hd => ?_
  have hm : some s ∈ os.map (·.dst) := by
    unfold dstOf at hd
    simp at hd
    cases ho : os[j]? with
    | none => simp [ho] at hd
    | some o =>
      simp [ho] at hd
      exact List.mem_map.2 ⟨o, List.mem_of_getElem? ho, hd⟩
  have := List.contains_iff_mem.2 hm
  rw [h] at this
  cases this

theorem lay_in {L : Nat → Bool} {vs : Nat → Value} {s : Tmp} {j : Nat} (ha : apartB (os.map (·.dst)) = true) (hL : L j = true) (hj : (os.map (·.dst))[j]? = some (some s)) (hs : s < a.tmps.size) : (lay os.toArray L vs os.toArray.size a).eval (.tmp s) = vs j := by
  refine lay_eval_in (apart_of ha) hL ?_ _ _ ?_ hs
  · unfold dstOf
    simp at hj ⊢
    cases ho : os[j]? with
    | none => simp [ho] at hj
    | some o => simp [ho] at hj ⊢; exact hj
  · have := (List.getElem?_eq_some_iff.1 hj).1
    simpa using this

/-- The numbers of the plan's stores and allocations shun i. -/
def Plan.Free (p : Plan) (i : Nat) : Prop := (∀ o ∈ p.old, o.2.1 ≠ i) ∧ ∀ n ∈ p.new, n.1 ≠ i ∧ n.2.1 ≠ i

variable {i s : Nat} {d : Option Tmp} {ty : TypeId} {ps : String} {af : Array Edge}

theorem st_load {b k : Nat} {z z' : Int} (hp : p.Ok B B0) (hi : (b, k, z, z') ∈ p.old) (hk : z = z' ∨ leadsB os 9 k i = true) (hx : a.eval (.tmp s) = .pointer (some ⟨b, 0, none⟩)) (ho : (os.map (·.dst)).contains (some s) = false)
    (hC : ∀ v w, Num w v z → p.C i v w) (hF : p.Free i) : Step os Q a p B B0 w0 i { dst := d, op := .load 27 (.tmp s), type := ty, pos := ps, after := af, guard := none } := by
  intro hio L vs w hG hL hd hc
  have hbx : BoxNum w b z := by
    have := hG.old _ hi
    rcases hk with rfl | hk
    · simpa using this
    · simpa [not_yet hc hk hL] using this
  obtain ⟨n, ao, kk, c, ⟨c0, c1, _, _⟩, hN⟩ := hbx
  exact op_load hio ((lay_out ho _).trans hx) c0 c1 ⟨_, rfl, hG.plain hp hL (Below.refl _ _) (hC _ _ hN) hF.1 hF.2⟩

theorem st_move {j : Nat} (hp : p.Ok B B0) (ha : apartB (os.map (·.dst)) = true) (hj : (os.map (·.dst))[j]? = some (some s)) (hs : s < a.tmps.size) (hdep : (af.toList.any fun e => Region.binds .any e && e.on == j) = true)
    (hC : ∀ v w, p.C j v w → p.C i v w) (hF : p.Free i) : Step os Q a p B B0 w0 i { dst := d, op := .move (.tmp s), type := ty, pos := ps, after := af, guard := none } := by
  intro hio L vs w hG hL hd hc
  have hLj : L j = true := dep_of (o := { dst := d, op := .move (.tmp s), type := ty, pos := ps, after := af, guard := none }) hdep hd
  exact op_move hio (lay_in ha hLj hj hs) ⟨_, rfl, hG.plain hp hL (Below.refl _ _) (hC _ _ (hG.val j hLj)) hF.1 hF.2⟩

theorem st_assign {j : Nat} (hp : p.Ok B B0) (ha : apartB (os.map (·.dst)) = true) (hj : (os.map (·.dst))[j]? = some (some s)) (hs : s < a.tmps.size) (hdep : (af.toList.any fun e => Region.binds .any e && e.on == j) = true)
    (hC : ∀ v w, p.C j v w → p.C i v w) (hF : p.Free i) : Step os Q a p B B0 w0 i { dst := d, op := .assign (.tmp s), type := ty, pos := ps, after := af, guard := none } := by
  intro hio L vs w hG hL hd hc
  have hLj : L j = true := dep_of (o := { dst := d, op := .assign (.tmp s), type := ty, pos := ps, after := af, guard := none }) hdep hd
  exact op_assign hio (lay_in ha hLj hj hs) ⟨_, rfl, hG.plain hp hL (Below.refl _ _) (hC _ _ (hG.val j hLj)) hF.1 hF.2⟩

theorem st_extract {j k : Nat} (hp : p.Ok B B0) (ha : apartB (os.map (·.dst)) = true) (hj : (os.map (·.dst))[j]? = some (some s)) (hs : s < a.tmps.size) (hdep : (af.toList.any fun e => Region.binds .any e && e.on == j) = true)
    (hC : ∀ v w, p.C j v w → ∃ us u, v = .tuple us ∧ us[k]? = some u ∧ p.C i u w) (hF : p.Free i) : Step os Q a p B B0 w0 i { dst := d, op := .extract (.tmp s) k, type := ty, pos := ps, after := af, guard := none } := by
  intro hio L vs w hG hL hd hc
  have hLj : L j = true := dep_of (o := { dst := d, op := .extract (.tmp s) k, type := ty, pos := ps, after := af, guard := none }) hdep hd
  obtain ⟨us, u, e1, e2, e3⟩ := hC _ _ (hG.val j hLj)
  exact op_extract hio ((lay_in ha hLj hj hs).trans e1) e2 ⟨_, rfl, hG.plain hp hL (Below.refl _ _) e3 hF.1 hF.2⟩

theorem st_call1 {j : Nat} {f : FuncId} {ts : Array TypeId} (hp : p.Ok B B0) (ha : apartB (os.map (·.dst)) = true) (hj : (os.map (·.dst))[j]? = some (some s)) (hs : s < a.tmps.size) (hdep : (af.toList.any fun e => Region.binds .any e && e.on == j) = true)
    (hen : ∀ args w, (callFunc f args).run Try.prog w = .ok (.enter f args) w) (hC : ∀ v w, p.C j v w → Calls Try.prog f #[v] w fun e w' => ∃ v', e = .returned v' ∧ Below w.heap.size w w' ∧ p.C i v' w') (hF : p.Free i) :
    Step os Q a p B B0 w0 i { dst := d, op := .call { callee := .value (.func f), args := #[.tmp s], argTypes := ts }, type := ty, pos := ps, after := af, guard := none } := by
  intro hio L vs w hG hL hd hc
  have hLj : L j = true := dep_of (o := { dst := d, op := .call { callee := .value (.func f), args := #[.tmp s], argTypes := ts }, type := ty, pos := ps, after := af, guard := none }) hdep hd
  refine op_call hio (args := #[vs j]) (by have e := lay_in (vs := vs) ha hLj hj hs; simp at e ⊢; exact e) hen ((hC _ _ (hG.val j hLj)).mono ?_)
  rintro e w' ⟨v', rfl, hb, h⟩
  exact ⟨v', rfl, v', rfl, hG.plain hp hL hb h hF.1 hF.2⟩

theorem st_call2 {j j' s' : Nat} {f : FuncId} {ts : Array TypeId} (hp : p.Ok B B0) (ha : apartB (os.map (·.dst)) = true) (hj : (os.map (·.dst))[j]? = some (some s)) (hs : s < a.tmps.size) (hdep : (af.toList.any fun e => Region.binds .any e && e.on == j) = true)
    (hj' : (os.map (·.dst))[j']? = some (some s')) (hs' : s' < a.tmps.size) (hdep' : (af.toList.any fun e => Region.binds .any e && e.on == j') = true)
    (hen : ∀ args w, (callFunc f args).run Try.prog w = .ok (.enter f args) w) (hC : ∀ v v' w, p.C j v w → p.C j' v' w → Calls Try.prog f #[v, v'] w fun e w' => ∃ v', e = .returned v' ∧ Below w.heap.size w w' ∧ p.C i v' w') (hF : p.Free i) :
    Step os Q a p B B0 w0 i { dst := d, op := .call { callee := .value (.func f), args := #[.tmp s, .tmp s'], argTypes := ts }, type := ty, pos := ps, after := af, guard := none } := by
  intro hio L vs w hG hL hd hc
  have hLj : L j = true := dep_of (o := { dst := d, op := .call { callee := .value (.func f), args := #[.tmp s, .tmp s'], argTypes := ts }, type := ty, pos := ps, after := af, guard := none }) hdep hd
  have hLj' : L j' = true := dep_of (o := { dst := d, op := .call { callee := .value (.func f), args := #[.tmp s, .tmp s'], argTypes := ts }, type := ty, pos := ps, after := af, guard := none }) hdep' hd
  refine op_call hio (args := #[vs j, vs j']) (by have e := lay_in (vs := vs) ha hLj hj hs; have e' := lay_in (vs := vs) ha hLj' hj' hs'; simp at e e' ⊢; exact ⟨e, e'⟩) hen ((hC _ _ _ (hG.val j hLj) (hG.val j' hLj')).mono ?_)
  rintro e w' ⟨v', rfl, hb, h⟩
  exact ⟨v', rfl, v', rfl, hG.plain hp hL hb h hF.1 hF.2⟩

theorem st_alloc {k : Nat} {z : Int} (hp : p.Ok B B0) (hi : (i, k, z) ∈ p.new) (hk : leadsB os 9 k i = true) (hC : ∀ v w', p.C i v w') (h1 : ∀ o ∈ p.old, o.2.1 ≠ i) (h2 : ∀ n ∈ p.new, n.2.1 ≠ i) :
    Step os Q a p B B0 w0 i { dst := d, op := .alloc 27, type := ty, pos := ps, after := af, guard := none } := by
  intro hio L vs w hG hL hd hc
  exact op_alloc hio ⟨_, rfl, hG.alloc hp hL (not_yet hc hk hL) hi hC h1 (fun n hn => ⟨h2 n hn, fun e => hp.newinj n hn _ hi e⟩) _⟩

/-- What a stored number is made of. -/
theorem Num.parts {w : World} {v : Value} {z : Int} (h : Num w v z) : ∃ n ao k c, v = .agg #[.bool n, .slice ao k c] := by
  obtain ⟨neg, ao, n, c, xs, rfl, _⟩ := h
  exact ⟨_, _, _, _, rfl⟩

theorem st_storeNew {i0 j s' : Nat} {z : Int} (hp : p.Ok B B0) (ha : apartB (os.map (·.dst)) = true) (hi : (i0, i, z) ∈ p.new) (hj0 : (os.map (·.dst))[i0]? = some (some s)) (hs0 : s < a.tmps.size) (hdep0 : (af.toList.any fun e => Region.binds .any e && e.on == i0) = true)
    (hj : (os.map (·.dst))[j]? = some (some s')) (hs : s' < a.tmps.size) (hdep : (af.toList.any fun e => Region.binds .any e && e.on == j) = true) (hN : ∀ v w, p.C j v w → Num w v z) (hC : ∀ v w', p.C i v w') (h1 : ∀ o ∈ p.old, o.2.1 ≠ i)
    (h2 : ∀ n ∈ p.new, n.1 ≠ i ∧ (n.2.1 = i → n.1 = i0)) : Step os Q a p B B0 w0 i { dst := none, op := .store 27 (.tmp s) (.tmp s'), type := ty, pos := ps, after := af, guard := none } := by
  intro hio L vs w hG hL hd hc
  have hLi : L i0 = true := dep_of (o := { dst := none, op := .store 27 (.tmp s) (.tmp s'), type := ty, pos := ps, after := af, guard := none }) hdep0 hd
  have hLj : L j = true := dep_of (o := { dst := none, op := .store 27 (.tmp s) (.tmp s'), type := ty, pos := ps, after := af, guard := none }) hdep hd
  obtain ⟨b, e1, e2, e3⟩ := hG.new _ hi hLi
  have hNv := hN _ _ (hG.val j hLj)
  obtain ⟨n', a', k', c', hv⟩ := hNv.parts
  obtain ⟨_, _, _, _, hI, _⟩ := e3
  rw [hv] at hNv
  exact op_store hio ((lay_in ha hLi hj0 hs0).trans e1) ((lay_in ha hLj hj hs).trans hv) hI ⟨undef, rfl, hG.storeNew hp hL hi hLi hNv hC h1 (fun n hn => ⟨(h2 n hn).1, fun e => hp.newinj n hn _ hi ((h2 n hn).2 e)⟩) e1 _⟩

theorem st_storeOld {b j s' : Nat} {z z' : Int} (hp : p.Ok B B0) (ha : apartB (os.map (·.dst)) = true) (hi : (b, i, z, z') ∈ p.old) (hx : a.eval (.tmp s) = .pointer (some ⟨b, 0, none⟩)) (ho : (os.map (·.dst)).contains (some s) = false)
    (hj : (os.map (·.dst))[j]? = some (some s')) (hs : s' < a.tmps.size) (hdep : (af.toList.any fun e => Region.binds .any e && e.on == j) = true) (hN : ∀ v w, p.C j v w → Num w v z') (hC : ∀ v w', p.C i v w') (h1 : ∀ o ∈ p.old, o.2.1 = i → o = (b, i, z, z'))
    (h2 : ∀ n ∈ p.new, n.1 ≠ i ∧ n.2.1 ≠ i) : Step os Q a p B B0 w0 i { dst := none, op := .store 27 (.tmp s) (.tmp s'), type := ty, pos := ps, after := af, guard := none } := by
  intro hio L vs w hG hL hd hc
  have hLj : L j = true := dep_of (o := { dst := none, op := .store 27 (.tmp s) (.tmp s'), type := ty, pos := ps, after := af, guard := none }) hdep hd
  have hNv := hN _ _ (hG.val j hLj)
  obtain ⟨n', a', k', c', hv⟩ := hNv.parts
  obtain ⟨_, _, _, _, hI, _⟩ := hG.old _ hi
  rw [hv] at hNv
  exact op_store hio ((lay_out ho _).trans hx) ((lay_in ha hLj hj hs).trans hv) hI ⟨undef, rfl, hG.storeOld hp hi hNv hC h1 h2 _⟩

end

end Go.Proofs.Ytjpbmghdamcdcaa
