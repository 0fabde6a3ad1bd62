/- A region that draws its order, by an invariant: one obligation for each operation, whatever the order. -/
import Derived.OrdersHeld
namespace Go.Proofs.Ytjpbmghdamcdcaa
open Go

def dstOf (ops : Array Oper) (i : Nat) : Option Tmp := (ops[i]?).bind (·.dst)

def up {α : Type} (f : Nat → α) (i : Nat) (x : α) : Nat → α := fun j => if j = i then x else f j

theorem up_same {α : Type} (f : Nat → α) (i : Nat) (x : α) : up f i x i = x := by simp [up]
theorem up_ne {α : Type} (f : Nat → α) {i j : Nat} (x : α) (h : j ≠ i) : up f i x j = f j := by simp [up, h]

/-- The state in which the operations of L have laid their values. -/
def lay (ops : Array Oper) (L : Nat → Bool) (vs : Nat → Value) : Nat → Act → Act
  | 0, a => a
  | k + 1, a => if L k then (lay ops L vs k a).put (dstOf ops k) (vs k) else lay ops L vs k a

/-- No two operations lay into the same slot. -/
def ApartAll (ops : Array Oper) : Prop := ∀ j k d, j ≠ k → dstOf ops j = some d → dstOf ops k ≠ some d

theorem lay_off {ops : Array Oper} {L : Nat → Bool} {vs : Nat → Value} {i : Nat} {x : Bool} {v : Value} : ∀ (k : Nat) (a : Act), k ≤ i → lay ops (up L i x) (up vs i v) k a = lay ops L vs k a
  | 0, _, _ => rfl
  | k + 1, a, h => by
    simp only [lay]
    rw [lay_off k a (by omega), up_ne _ _ (by omega), up_ne _ _ (by omega)]

theorem lay_set {ops : Array Oper} {L : Nat → Bool} {vs : Nat → Value} {i : Nat} {v : Value} (hA : ApartAll ops) (hL : L i = false) : ∀ (k : Nat) (a : Act), i < k → lay ops (up L i true) (up vs i v) k a = (lay ops L vs k a).put (dstOf ops i) v
  | 0, _, h => by omega
  | k + 1, a, h => by
    simp only [lay]
    by_cases hik : i = k
    · subst hik
      rw [lay_off i a (Nat.le_refl _), up_same, up_same, hL]
      simp
    · rw [lay_set hA hL k a (by omega), up_ne _ _ (Ne.symm hik), up_ne _ _ (Ne.symm hik)]
      split
      · exact Act.put_comm _ _ _ fun d hd => hA i k d hik hd
      · rfl

theorem put_size (a : Act) (d : Option Tmp) (v : Value) : (a.put d v).tmps.size = a.tmps.size := by
  cases d <;> simp [Act.put]

theorem lay_size {ops : Array Oper} {L : Nat → Bool} {vs : Nat → Value} : ∀ (k : Nat) (a : Act), (lay ops L vs k a).tmps.size = a.tmps.size
  | 0, _ => rfl
  | k + 1, a => by
    simp only [lay]
    split
    · rw [put_size, lay_size k a]
    · exact lay_size k a

theorem put_eval_same (a : Act) (s : Tmp) (v : Value) (h : s < a.tmps.size) : (a.put (some s) v).eval (.tmp s) = v := by
  simp [Act.put, Act.eval, h]

theorem put_eval_other (a : Act) (d : Option Tmp) (s : Tmp) (v : Value) (h : d ≠ some s) : (a.put d v).eval (.tmp s) = a.eval (.tmp s) := by
  cases d with
  | none => rfl
  | some d =>
    have hne : d ≠ s := fun e => h (by rw [e])
    simp [Act.put, Act.eval, Array.getElem?_setIfInBounds_ne hne]

theorem lay_eval_out {ops : Array Oper} {L : Nat → Bool} {vs : Nat → Value} {s : Tmp} : ∀ (k : Nat) (a : Act), (∀ j, j < k → L j = true → dstOf ops j ≠ some s) → (lay ops L vs k a).eval (.tmp s) = a.eval (.tmp s)
  | 0, _, _ => rfl
  | k + 1, a, h => by
    simp only [lay]
    split
    · rename_i hk
      rw [put_eval_other _ _ _ _ (h k (by omega) hk), lay_eval_out k a fun j hj => h j (by omega)]
    · exact lay_eval_out k a fun j hj => h j (by omega)

theorem lay_eval_in {ops : Array Oper} {L : Nat → Bool} {vs : Nat → Value} {s : Tmp} {j : Nat} (hA : ApartAll ops) (hj : L j = true) (hd : dstOf ops j = some s) : ∀ (k : Nat) (a : Act), j < k → s < a.tmps.size → (lay ops L vs k a).eval (.tmp s) = vs j
  | 0, _, h, _ => by omega
  | k + 1, a, h, hs => by
    simp only [lay]
    by_cases hjk : j = k
    · subst hjk
      rw [if_pos hj, hd, put_eval_same _ _ _ (by rw [lay_size]; exact hs)]
    · split
      · rw [put_eval_other _ _ _ _ (hA j k s hjk hd), lay_eval_in hA hj hd k a (by omega) hs]
      · exact lay_eval_in hA hj hd k a (by omega) hs

/-- What has come up is closed under 'before'. -/
def ClosedL (ops : Array Oper) (L : Nat → Bool) : Prop := ∀ j o, ops[j]? = some o → L j = true → ∀ e ∈ o.after, Region.binds .any e = true → L e.on = true

def lst (listed : Array Bool) (j : Nat) : Bool := listed.getD j false

theorem lst_set {listed : Array Bool} {i : Nat} (h : i < listed.size) : lst (listed.setIfInBounds i true) = up (lst listed) i true := by
  funext j
  unfold lst up
  by_cases hj : j = i
  · subst hj; simp [h]
  · rw [if_neg hj, getD_set_ne false (Ne.symm hj)]

theorem all_listed {ops : Array Oper} {listed : Array Bool} (hsz : listed.size = ops.size) (hB : ∀ i o, ops[i]? = some o → ∀ e ∈ o.after, Region.binds .any e = true → e.on < i) (hr : Region.ready .any ops listed = []) :
    ∀ (n j : Nat), j < n → j < ops.size → lst listed j = true
  | 0, j, h, _ => by omega
  | n + 1, j, h, hj => by
    by_cases hjn : j < n
    · exact all_listed hsz hB hr n j hjn hj
    · have hjn' : j = n := by omega
      by_cases hl : lst listed j = true
      · exact hl
      · exfalso
        have hm : j ∈ Region.ready .any ops listed := by
          rw [mem_ready]
          refine ⟨?_, ops[j], by simp [hj], fun e he hb => ?_⟩
          · unfold lst at hl
            simp [hsz, hj] at hl ⊢
            exact hl
          · have := hB j ops[j] (by simp [hj]) e he hb
            exact all_listed hsz hB hr n e.on (by omega) (by omega)
        rw [hr] at hm
        cases hm

theorem wp_region_inv {P : Program} {ops : Array Oper} {Q : Exit → Act → World → Prop} {id : Nat} {a : Act} {w : World} (hm : P.follows .mixedOrders = true) (hA : ApartAll ops)
    (hB : ∀ i o, ops[i]? = some o → ∀ e ∈ o.after, Region.binds .any e = true → e.on < i) (G : (Nat → Bool) → (Nat → Value) → World → Prop)
    (h0 : G (fun _ => false) (fun _ => undef) { w with drawn := w.drawn + 1 })
    (hs : ∀ i o, ops[i]? = some o → ∀ L vs w, G L vs w → L i = false → (∀ e ∈ o.after, Region.binds .any e = true → L e.on = true) → ClosedL ops L →
      wpOp P ops Q i (fun a' w' => ∃ v, a' = (lay ops L vs ops.size a).put o.dst v ∧ G (up L i true) (up vs i v) w') (lay ops L vs ops.size a) w)
    (hf : ∀ L vs w, (∀ j, j < ops.size → L j = true) → G L vs w → Q .normal (lay ops L vs ops.size a) w) : (Code.region id ops true).wp P Q a w := by
  apply wp_region_any hm
  have key : ∀ (fuel : Nat) (listed : Array Bool) (a' : Act) (w' : World), listed.size = ops.size → ClosedL ops (lst listed) → (∃ vs, a' = lay ops (lst listed) vs ops.size a ∧ G (lst listed) vs w') → listed.count false ≤ fuel →
      wpAny P .any ops Q fuel listed a' w' := by
    intro fuel
    induction fuel with
    | zero =>
      intro listed a' w' hsz hc ⟨vs, ha, hG⟩ hcount
      have hr : Region.ready .any ops listed = [] := by
        refine List.eq_nil_iff_forall_not_mem.2 fun j hj => ?_
        obtain ⟨h1, o, ho, _⟩ := mem_ready.1 hj
        have hlt : j < ops.size := (Array.getElem?_eq_some_iff.1 ho).1
        have hz : listed.count false = 0 := by omega
        rw [Array.count_eq_zero] at hz
        apply hz
        have hjl : j < listed.size := by omega
        have : listed[j] = false := by simpa [hjl] using h1
        rw [← this]
        exact Array.getElem_mem hjl
      exact ⟨hr, by rw [ha]; exact hf _ vs w' (fun j hj => all_listed hsz hB hr (j + 1) j (by omega) hj) hG⟩
    | succ fuel ih =>
      intro listed a' w' hsz hc ⟨vs, ha, hG⟩ hcount
      refine ⟨fun hr => by rw [ha]; exact hf _ vs w' (fun j hj => all_listed hsz hB hr (j + 1) j (by omega) hj) hG, fun i hi => ?_⟩
      obtain ⟨h1, o, ho, hall⟩ := mem_ready.1 hi
      have hlt : i < ops.size := (Array.getElem?_eq_some_iff.1 ho).1
      have hil : i < listed.size := by omega
      have h1' : listed[i] = false := by simpa [hil] using h1
      have hLi : lst listed i = false := by simp [lst, hil, h1']
      have hdst : dstOf ops i = o.dst := by simp [dstOf, ho]
      have := hs i o ho (lst listed) vs w' hG hLi hall hc
      rw [← ha] at this
      refine wpOp_mono ?_ this
      rintro a2 w2 ⟨v, rfl, hG2⟩
      refine ih _ _ _ (by simp [hsz]) ?_ ⟨up vs i v, ?_, ?_⟩ ?_
      · rw [lst_set hil]
        intro j oj hoj hj e he hb
        by_cases hji : j = i
        · subst hji
          rw [ho] at hoj
          cases hoj
          have h3 := hall e he hb
          have h4 := hB j o ho e he hb
          rw [up_ne _ _ (by omega)]
          exact h3
        · rw [up_ne _ _ hji] at hj
          have h3 := hc j oj hoj hj e he hb
          by_cases hei : e.on = i
          · rw [hei, up_same]
          · rw [up_ne _ _ hei]; exact h3
      · rw [lst_set hil, lay_set hA hLi _ _ hlt, hdst, ha]
      · rw [lst_set hil]; exact hG2
      · have h5 : (listed.setIfInBounds i true).count false = listed.count false - 1 := by
          have h6 : listed.setIfInBounds i true = listed.set i true hil := by simp [Array.setIfInBounds, hil]
          rw [h6, Array.count_set hil, h1']
          simp
        omega
  have hl0 : lst (Array.replicate ops.size false) = fun _ => false := by
    funext j
    unfold lst
    by_cases hj : j < ops.size <;> simp [hj]
  refine key _ _ _ _ (by simp) ?_ ⟨fun _ => undef, ?_, by rw [hl0]; exact h0⟩ ?_
  · rw [hl0]; intro j o _ h; cases h
  · rw [hl0]
    have : ∀ k, lay ops (fun _ => false) (fun _ => undef) k a = a := fun k => by
      induction k with
      | zero => rfl
      | succ k ih => simp [lay, ih]
    exact (this _).symm
  · simp

end Go.Proofs.Ytjpbmghdamcdcaa
