/- Inv, Mem, Val, A, B, C, G, H, M, I, D, J, Is, Ib, Alg, Q, R, E, F, N, O, S, K, Ra, Ic, St, Rb, Fa, Gs, Ya, P, Nw, Rt, Rs, U, X, Bz, Be, Md, Li, V, W, Cv, Dg, Tx, Tt, Ex, Sk, Lw, Yb, Fr, Rc, Rh, Rk, Yc, Ye, Yf, Pa, Yg, Yh, Yi, Yj, Yr, Ma, Nt, Mb, Mc, Rm, Me, Mg, Mh, Mi, Mj, Mk, Pm. -/
import Derived.OrdersHeld
import Derived.WalkKit
import Derived.Laws.CopyOwn
import Derived.Test.YthgpcgijhmgenaaDoorRows
import Derived.BigQuiet
import Derived.Deep.QuietTactic
import Derived.Deep.RegionHeld3
import Derived.Deep.RegionWith
import Derived.StillTailTactics
import Derived.Deep.Cut
import Derived.ArgAppend
import Derived.Laws.RangeString
import Derived.Laws.RangeAny
import Derived.BigRegion
import Derived.Lib.OthersKept
import Derived.Laws.StandIn
import Derived.Laws.EntriesVeiled
import Derived.Shelf.Spec.TrailingZeros
import Derived.Shelf.Bits.Mul64
/- A region that draws its order, by an invariant: one obligation for each operation, whatever the order. -/
namespace Go.Proofs.YthgpcgijhmgenaaDoor
open Go

def dstOf (ops : Array Oper) (i : Nat) : Option Tmp := (ops[i]?).bind (·.dst)

def up {α : Type} (f : Nat → α) (i : Nat) (x : α) : Nat → α := fun j => if j = i then x else f j

theorem up_same {α : Type} (f : Nat → α) (i : Nat) (x : α) : up f i x i = x := by simp [up]
theorem up_ne {α : Type} (f : Nat → α) {i j : Nat} (x : α) (h : j ≠ i) : up f i x j = f j := by simp [up, h]

/-- The state in which the operations of L have laid their values. -/
def lay (ops : Array Oper) (L : Nat → Bool) (vs : Nat → Value) : Nat → Act → Act
  | 0, a => a
  | k + 1, a => if L k then (lay ops L vs k a).put (dstOf ops k) (vs k) else lay ops L vs k a

/-- No two operations lay into the same slot. -/
def ApartAll (ops : Array Oper) : Prop := ∀ j k d, j ≠ k → dstOf ops j = some d → dstOf ops k ≠ some d

theorem lay_off {ops : Array Oper} {L : Nat → Bool} {vs : Nat → Value} {i : Nat} {x : Bool} {v : Value} : ∀ (k : Nat) (a : Act), k ≤ i → lay ops (up L i x) (up vs i v) k a = lay ops L vs k a
  | 0, _, _ => rfl
  | k + 1, a, h => by
    simp only [lay]
    rw [lay_off k a (by omega), up_ne _ _ (by omega), up_ne _ _ (by omega)]

theorem lay_set {ops : Array Oper} {L : Nat → Bool} {vs : Nat → Value} {i : Nat} {v : Value} (hA : ApartAll ops) (hL : L i = false) : ∀ (k : Nat) (a : Act), i < k → lay ops (up L i true) (up vs i v) k a = (lay ops L vs k a).put (dstOf ops i) v
  | 0, _, h => by omega
  | k + 1, a, h => by
    simp only [lay]
    by_cases hik : i = k
    · subst hik
      rw [lay_off i a (Nat.le_refl _), up_same, up_same, hL]
      simp
    · rw [lay_set hA hL k a (by omega), up_ne _ _ (Ne.symm hik), up_ne _ _ (Ne.symm hik)]
      split
      · exact Act.put_comm _ _ _ fun d hd => hA i k d hik hd
      · rfl

theorem put_size (a : Act) (d : Option Tmp) (v : Value) : (a.put d v).tmps.size = a.tmps.size := by
  cases d <;> simp [Act.put]

theorem lay_size {ops : Array Oper} {L : Nat → Bool} {vs : Nat → Value} : ∀ (k : Nat) (a : Act), (lay ops L vs k a).tmps.size = a.tmps.size
  | 0, _ => rfl
  | k + 1, a => by
    simp only [lay]
    split
    · rw [put_size, lay_size k a]
    · exact lay_size k a

theorem put_eval_same (a : Act) (s : Tmp) (v : Value) (h : s < a.tmps.size) : (a.put (some s) v).eval (.tmp s) = v := by
  simp [Act.put, Act.eval, h]

theorem put_eval_other (a : Act) (d : Option Tmp) (s : Tmp) (v : Value) (h : d ≠ some s) : (a.put d v).eval (.tmp s) = a.eval (.tmp s) := by
  cases d with
  | none => rfl
  | some d =>
    have hne : d ≠ s := fun e => h (by rw [e])
    simp [Act.put, Act.eval, Array.getElem?_setIfInBounds_ne hne]

theorem lay_eval_out {ops : Array Oper} {L : Nat → Bool} {vs : Nat → Value} {s : Tmp} : ∀ (k : Nat) (a : Act), (∀ j, j < k → L j = true → dstOf ops j ≠ some s) → (lay ops L vs k a).eval (.tmp s) = a.eval (.tmp s)
  | 0, _, _ => rfl
  | k + 1, a, h => by
    simp only [lay]
    split
    · rename_i hk
      rw [put_eval_other _ _ _ _ (h k (by omega) hk), lay_eval_out k a fun j hj => h j (by omega)]
    · exact lay_eval_out k a fun j hj => h j (by omega)

theorem lay_eval_in {ops : Array Oper} {L : Nat → Bool} {vs : Nat → Value} {s : Tmp} {j : Nat} (hA : ApartAll ops) (hj : L j = true) (hd : dstOf ops j = some s) : ∀ (k : Nat) (a : Act), j < k → s < a.tmps.size → (lay ops L vs k a).eval (.tmp s) = vs j
  | 0, _, h, _ => by omega
  | k + 1, a, h, hs => by
    simp only [lay]
    by_cases hjk : j = k
    · subst hjk
      rw [if_pos hj, hd, put_eval_same _ _ _ (by rw [lay_size]; exact hs)]
    · split
      · rw [put_eval_other _ _ _ _ (hA j k s hjk hd), lay_eval_in hA hj hd k a (by omega) hs]
      · exact lay_eval_in hA hj hd k a (by omega) hs

/-- What has come up is closed under 'before'. -/
def ClosedL (ops : Array Oper) (L : Nat → Bool) : Prop := ∀ j o, ops[j]? = some o → L j = true → ∀ e ∈ o.after, Region.binds .any e = true → L e.on = true

def lst (listed : Array Bool) (j : Nat) : Bool := listed.getD j false

theorem lst_set {listed : Array Bool} {i : Nat} (h : i < listed.size) : lst (listed.setIfInBounds i true) = up (lst listed) i true := by
  funext j
  unfold lst up
  by_cases hj : j = i
  · subst hj; simp [h]
  · rw [if_neg hj, Go.getD_set_ne false (Ne.symm hj)]

theorem all_listed {ops : Array Oper} {listed : Array Bool} (hsz : listed.size = ops.size) (hB : ∀ i o, ops[i]? = some o → ∀ e ∈ o.after, Region.binds .any e = true → e.on < i) (hr : Region.ready .any ops listed = []) :
    ∀ (n j : Nat), j < n → j < ops.size → lst listed j = true
  | 0, j, h, _ => by omega
  | n + 1, j, h, hj => by
    by_cases hjn : j < n
    · exact all_listed hsz hB hr n j hjn hj
    · have hjn' : j = n := by omega
      by_cases hl : lst listed j = true
      · exact hl
      · exfalso
        have hm : j ∈ Region.ready .any ops listed := by
          rw [mem_ready]
          refine ⟨?_, ops[j], by simp [hj], fun e he hb => ?_⟩
          · unfold lst at hl
            simp [hsz, hj] at hl ⊢
            exact hl
          · have := hB j ops[j] (by simp [hj]) e he hb
            exact all_listed hsz hB hr n e.on (by omega) (by omega)
        rw [hr] at hm
        cases hm

theorem wp_region_inv {P : Program} {ops : Array Oper} {Q : Exit → Act → World → Prop} {id : Nat} {a : Act} {w : World} (hm : P.follows .mixedOrders = true) (hA : ApartAll ops)
    (hB : ∀ i o, ops[i]? = some o → ∀ e ∈ o.after, Region.binds .any e = true → e.on < i) (G : (Nat → Bool) → (Nat → Value) → World → Prop)
    (h0 : G (fun _ => false) (fun _ => undef) { w with drawn := w.drawn + 1 })
    (hs : ∀ i o, ops[i]? = some o → ∀ L vs w, G L vs w → L i = false → (∀ e ∈ o.after, Region.binds .any e = true → L e.on = true) → ClosedL ops L →
      wpOp P ops Q i (fun a' w' => ∃ v, a' = (lay ops L vs ops.size a).put o.dst v ∧ G (up L i true) (up vs i v) w') (lay ops L vs ops.size a) w)
    (hf : ∀ L vs w, (∀ j, j < ops.size → L j = true) → G L vs w → Q .normal (lay ops L vs ops.size a) w) : (Code.region id ops true).wp P Q a w := by
  apply wp_region_any hm
  have key : ∀ (fuel : Nat) (listed : Array Bool) (a' : Act) (w' : World), listed.size = ops.size → ClosedL ops (lst listed) → (∃ vs, a' = lay ops (lst listed) vs ops.size a ∧ G (lst listed) vs w') → listed.count false ≤ fuel →
      wpAny P .any ops Q fuel listed a' w' := by
    intro fuel
    induction fuel with
    | zero =>
      intro listed a' w' hsz hc ⟨vs, ha, hG⟩ hcount
      have hr : Region.ready .any ops listed = [] := by
        refine List.eq_nil_iff_forall_not_mem.2 fun j hj => ?_
        obtain ⟨h1, o, ho, _⟩ := mem_ready.1 hj
        have hlt : j < ops.size := (Array.getElem?_eq_some_iff.1 ho).1
        have hz : listed.count false = 0 := by omega
        rw [Array.count_eq_zero] at hz
        apply hz
        have hjl : j < listed.size := by omega
        have : listed[j] = false := by simpa [hjl] using h1
        rw [← this]
        exact Array.getElem_mem hjl
      exact ⟨hr, by rw [ha]; exact hf _ vs w' (fun j hj => all_listed hsz hB hr (j + 1) j (by omega) hj) hG⟩
    | succ fuel ih =>
      intro listed a' w' hsz hc ⟨vs, ha, hG⟩ hcount
      refine ⟨fun hr => by rw [ha]; exact hf _ vs w' (fun j hj => all_listed hsz hB hr (j + 1) j (by omega) hj) hG, fun i hi => ?_⟩
      obtain ⟨h1, o, ho, hall⟩ := mem_ready.1 hi
      have hlt : i < ops.size := (Array.getElem?_eq_some_iff.1 ho).1
      have hil : i < listed.size := by omega
      have h1' : listed[i] = false := by simpa [hil] using h1
      have hLi : lst listed i = false := by simp [lst, hil, h1']
      have hdst : dstOf ops i = o.dst := by simp [dstOf, ho]
      have := hs i o ho (lst listed) vs w' hG hLi hall hc
      rw [← ha] at this
      refine wpOp_mono ?_ this
      rintro a2 w2 ⟨v, rfl, hG2⟩
      refine ih _ _ _ (by simp [hsz]) ?_ ⟨up vs i v, ?_, ?_⟩ ?_
      · rw [lst_set hil]
        intro j oj hoj hj e he hb
        by_cases hji : j = i
        · subst hji
          rw [ho] at hoj
          cases hoj
          have h3 := hall e he hb
          have h4 := hB j o ho e he hb
          rw [up_ne _ _ (by omega)]
          exact h3
        · rw [up_ne _ _ hji] at hj
          have h3 := hc j oj hoj hj e he hb
          by_cases hei : e.on = i
          · rw [hei, up_same]
          · rw [up_ne _ _ hei]; exact h3
      · rw [lst_set hil, lay_set hA hLi _ _ hlt, hdst, ha]
      · rw [lst_set hil]; exact hG2
      · have h5 : (listed.setIfInBounds i true).count false = listed.count false - 1 := by
          have h6 : listed.setIfInBounds i true = listed.set i true hil := by simp [Array.setIfInBounds, hil]
          rw [h6, Array.count_set hil, h1']
          simp
        omega
  have hl0 : lst (Array.replicate ops.size false) = fun _ => false := by
    funext j
    unfold lst
    by_cases hj : j < ops.size <;> simp [hj]
  refine key _ _ _ _ (by simp) ?_ ⟨fun _ => undef, ?_, by rw [hl0]; exact h0⟩ ?_
  · rw [hl0]; intro j o _ h; cases h
  · rw [hl0]
    have : ∀ k, lay ops (fun _ => false) (fun _ => undef) k a = a := fun k => by
      induction k with
      | zero => rfl
      | succ k ih => simp [lay, ih]
    exact (this _).symm
  · simp

end Go.Proofs.YthgpcgijhmgenaaDoor

/- Words of memory that the walks share: a slice of words that reads as a list, a row of the call's own, and the value of a list of words. Nothing of the program is used. -/
namespace Go.Proofs.YthgpcgijhmgenaaDoor
open Go.RowKit

theorem hidd {p : Prop} (h : p) : Hid p := h

/-- The value of a list of words, the least significant first. -/
def val : List Int → Int
  | [] => 0
  | x :: r => x + 4294967296 * val r

def Dig (x : Int) : Prop := 0 ≤ x ∧ x < 4294967296

def Digs (xs : List Int) : Prop := ∀ x ∈ xs, Dig x

/-- A slice that starts at 'ao' reads as these words in this world. -/
def Cells (w : World) (ao : Option Addr) (xs : List Int) : Prop :=
  Digs xs ∧ (xs = [] ∨ ∃ b off, ao = some ⟨b, off, none⟩ ∧ b < w.heap.size ∧ ∀ j, j < xs.length → w.cell? ⟨b, off + j, none⟩ = some (.int .u32 (xs.getD j 0)))

theorem Digs.getD {xs : List Int} (h : Digs xs) (k : Nat) : 0 ≤ xs.getD k 0 ∧ xs.getD k 0 < 4294967296 := by
  by_cases hk : k < xs.length
  · have : xs.getD k 0 = xs[k] := by simp [hk]
    rw [this]; exact h _ (List.getElem_mem hk)
  · have : xs.getD k 0 = 0 := by simp [Nat.le_of_not_lt hk]
    rw [this]; omega

theorem Cells.mono {w w' : World} {ao : Option Addr} {xs : List Int} (h : Cells w ao xs) (hb : Below w.heap.size w w') : Cells w' ao xs := by
  refine ⟨h.1, ?_⟩
  rcases h.2 with h0 | ⟨b, off, hao, hlt, hc⟩
  · exact .inl h0
  · exact .inr ⟨b, off, hao, Nat.lt_of_lt_of_le hlt hb.size, fun j hj => by rw [hb.cell (p := ⟨b, off + j, none⟩) hlt]; exact hc j hj⟩

/-- One word of it: the slice is not nil, the cell holds the word. -/
theorem Cells.at {w : World} {ao : Option Addr} {xs : List Int} (h : Cells w ao xs) {k : Nat} (hk : k < xs.length) :
    ∃ b off, ao = some ⟨b, off, none⟩ ∧ b < w.heap.size ∧ (∃ x, w.cell? ⟨b, off + k, none⟩ = some (.int .u32 x) ∧ 0 ≤ x ∧ x < 4294967296 ∧ Hid (xs.getD k 0 = x)) := by
  rcases h.2 with h0 | ⟨b, off, hao, hlt, hc⟩
  · subst h0; simp at hk
  · exact ⟨b, off, hao, hlt, _, hc k hk, (h.1.getD k).1, (h.1.getD k).2, rfl⟩

theorem Cells.at' {w : World} {b off : Nat} {xs : List Int} (h : Cells w (some ⟨b, off, none⟩) xs) {k : Nat} (hk : k < xs.length) :
    ∃ x, w.cell? ⟨b, off + k, none⟩ = some (.int .u32 x) ∧ 0 ≤ x ∧ x < 4294967296 ∧ Hid (xs.getD k 0 = x) := by
  obtain ⟨b', off', hao, _, h⟩ := h.at hk
  cases hao
  exact h

theorem Cells.take {w : World} {ao : Option Addr} {xs : List Int} (h : Cells w ao xs) (n : Nat) : Cells w ao (xs.take n) := by
  refine ⟨fun x hx => h.1 x (List.mem_of_mem_take hx), ?_⟩
  rcases h.2 with h0 | ⟨b, off, hao, hlt, hc⟩
  · subst h0; simp
  · refine .inr ⟨b, off, hao, hlt, fun j hj => ?_⟩
    have hj2 : j < n ∧ j < xs.length := by simp only [List.length_take] at hj; omega
    rw [hc j hj2.2]
    simp [List.getD, hj2.1]

/-- Block b is a row of words of the call's own. -/
def Row (w : World) (e : TypeId) (b : Nat) (zs : List Int) : Prop :=
  Digs zs ∧ w.heap[b]? = some (.cells (zs.map (Value.int .u32)).toArray e (0, 0))

theorem Row.lt {w : World} {e : TypeId} {b : Nat} {zs : List Int} (h : Row w e b zs) : b < w.heap.size :=
  (Array.getElem?_eq_some_iff.1 h.2).1

theorem Row.cell {w : World} {e : TypeId} {b : Nat} {zs : List Int} (h : Row w e b zs) {j : Nat} (hj : j < zs.length) : w.cell? ⟨b, j, none⟩ = some (.int .u32 (zs.getD j 0)) := by
  rw [cell_of_row w b j _ e (0, 0) h.2]
  simp [hj]

theorem Row.at {w : World} {e : TypeId} {b : Nat} {zs : List Int} (h : Row w e b zs) {j : Nat} (hj : j < zs.length) :
    ∃ x, w.cell? ⟨b, j, none⟩ = some (.int .u32 x) ∧ 0 ≤ x ∧ x < 4294967296 ∧ Hid (zs.getD j 0 = x) :=
  ⟨_, h.cell hj, (h.1.getD j).1, (h.1.getD j).2, rfl⟩

theorem Row.frozen {w : World} {e : TypeId} {b : Nat} {zs : List Int} (h : Row w e b zs) (j : Nat) : w.frozen? ⟨b, j, none⟩ = false := by
  simp [World.frozen?, h.2]

theorem Row.cells {w : World} {e : TypeId} {b : Nat} {zs : List Int} (h : Row w e b zs) : Cells w (some ⟨b, 0, none⟩) zs :=
  ⟨h.1, .inr ⟨b, 0, rfl, h.lt, fun j hj => by rw [Nat.zero_add]; exact h.cell hj⟩⟩

theorem Digs.set {zs : List Int} (h : Digs zs) (j : Nat) {x : Int} (hx : Dig x) : Digs (zs.set j x) := by
  intro y hy
  rcases List.mem_or_eq_of_mem_set hy with h1 | h1
  · exact h y h1
  · subst h1; exact hx

theorem Row.set {w : World} {e : TypeId} {b : Nat} {zs : List Int} (h : Row w e b zs) {j : Nat} {x : Int} (hx : Dig x) :
    Row (w.setCell ⟨b, j, none⟩ (.int .u32 x)) e b (zs.set j x) := by
  refine ⟨h.1.set j hx, ?_⟩
  have hb := h.lt
  have h2 := h.2
  simp only [World.setCell, Array.getElem?_modify, if_true, h2, Option.map_some, Option.isSome_none]
  simp

theorem Row.mono {w w' : World} {e : TypeId} {b : Nat} {zs : List Int} (h : Row w e b zs) {B : Nat} (hb : Below B w w') (hB : b < B) : Row w' e b zs :=
  ⟨h.1, by rw [hb.block b hB]; exact h.2⟩

/-- A slice of n words with room for c. -/
structure Sl (w : World) (ao : Option Addr) (n c : Nat) (xs : List Int) : Prop where
  len : xs.length = n
  cap : n ≤ c
  cells : Cells w ao xs

theorem Sl.mono {w w' : World} {ao : Option Addr} {n c : Nat} {xs : List Int} (h : Sl w ao n c xs) (hb : Below w.heap.size w w') : Sl w' ao n c xs :=
  ⟨h.len, h.cap, h.cells.mono hb⟩

theorem Sl.digs {w : World} {ao : Option Addr} {n c : Nat} {xs : List Int} (h : Sl w ao n c xs) : Digs xs := h.cells.1

theorem Sl.nil (w : World) : Sl w none 0 0 [] := ⟨rfl, Nat.le_refl _, fun _ hx => by simp at hx, .inl rfl⟩

theorem Sl.take {w : World} {ao : Option Addr} {n c : Nat} {xs : List Int} (h : Sl w ao n c xs) {m : Nat} (hm : m ≤ n) : Sl w ao m c (xs.take m) :=
  ⟨by rw [List.length_take, h.len]; omega, Nat.le_trans hm h.cap, h.cells.take m⟩

theorem Row.sl {w : World} {e : TypeId} {b n : Nat} {zs : List Int} (h : Row w e b zs) (hn : zs.length = n) : Sl w (some ⟨b, 0, none⟩) n n zs :=
  ⟨hn, Nat.le_refl _, h.cells⟩

/-- 'make([]uint32, n)': n zeros. -/
theorem wpList_make_words {P : Program} (w : World) {ops : Array Oper} {rest : List Oper} {o : Oper} {a : Act} {Q : Exit → Act → World → Prop}
    (hg : o.guard = none) (l c : Operand) (t : TypeId) (hop : o.op = Op.makeSlice t l c)
    (e : TypeId) (h1 : P.underlying t = some (.slice e)) (h2 : (P.info? e).map (fun i => (i.zero, i.size, i.bytes)) = some (some (.int .u32 0), 1, 4))
    (kl kc : IntKind) (L C : Int) (hl : a.eval l = .int kl L) (hc : a.eval c = .int kc C) (n : Nat) (hL : L = (n : Int)) (hC : C = (n : Int)) (b2 : n ≤ 70368744177664)
    (hK : ∀ w', Row w' e w.heap.size (List.replicate n 0) → Below w.heap.size w w' → w'.heap.size = w.heap.size + 1 → wpList P ops Q rest (a.put o.dst (.slice (some ⟨w.heap.size, 0, none⟩) n n)) w') :
    wpList P ops Q (o :: rest) a w := by
  obtain ⟨i, hi, hz, hs, hb⟩ := info_parts h2
  refine wpList_plain hg fun K hK' => ?_
  have hrun := run_make (P := P) w t e i _ h1 hi hz kl kc n n (by omega) (by omega) (by rw [hb]; omega) (by omega)
  subst hL
  subst hC
  unfold Oper.wp
  simp [execOp, hop, hl, hc, hrun, Result.andThen]
  refine hK' _ _ (hK _ ?_ ((Below.refl _ _).alloc (Nat.le_refl _) _) (by simp))
  refine ⟨fun x hx => ?_, ?_⟩
  · obtain ⟨_, rfl⟩ := List.mem_replicate.1 hx; exact ⟨by omega, by omega⟩
  · rw [heap_alloc_new]
    have : (madeCells (Value.int IntKind.u32 0).cells (n * i.size)) = ((List.replicate n (0 : Int)).map (Value.int .u32)).toArray := by
      rw [hs, Nat.mul_one]
      apply Array.ext'
      have := toList_madeCells_one (Value.int .u32 0) n
      simpa [Value.cells] using this
    simp [this]

end Go.Proofs.YthgpcgijhmgenaaDoor

/- The value of a list of words: what the first words of it are worth, and what a step of a sum, a difference or a product does to it. Nothing of the program is used. -/
namespace Go.Proofs.YthgpcgijhmgenaaDoor
open Go.RowKit

/-- 2^(32 k). -/
def pw (k : Nat) : Int := 4294967296 ^ k
theorem pw_zero : pw 0 = 1 := rfl
theorem pw_succ (k : Nat) : pw (k + 1) = pw k * 4294967296 := Int.pow_succ _ _
theorem pw_pos (k : Nat) : 0 < pw k := Int.pow_pos (by decide)
theorem pw_add (j k : Nat) : pw (j + k) = pw j * pw k := Int.pow_add _ _ _

theorem val_append (xs ys : List Int) : val (xs ++ ys) = val xs + pw xs.length * val ys := by
  induction xs with
  | nil => simp [val, pw_zero]
  | cons x r ih =>
    simp only [List.cons_append, val, ih, List.length_cons, pw_succ, Int.mul_add]
    have : pw r.length * 4294967296 * val ys = 4294967296 * (pw r.length * val ys) := by rw [Int.mul_comm (pw r.length), Int.mul_assoc]
    omega

theorem val_take_succ (xs : List Int) (k : Nat) : val (xs.take (k + 1)) = val (xs.take k) + pw k * xs.getD k 0 := by
  by_cases hk : k < xs.length
  · rw [List.take_succ_eq_append_getElem hk, val_append, List.length_take, Nat.min_eq_left (by omega)]
    simp [val, hk]
  · have h1 : xs.take (k + 1) = xs := List.take_of_length_le (by omega)
    have h2 : xs.take k = xs := List.take_of_length_le (by omega)
    simp [h1, h2, Nat.le_of_not_lt hk]

theorem val_take_all (xs : List Int) {k : Nat} (h : xs.length ≤ k) : val (xs.take k) = val xs := by rw [List.take_of_length_le h]

theorem val_take_set (zs : List Int) (k j : Nat) (x : Int) (h : k ≤ j) : val ((zs.set j x).take k) = val (zs.take k) := by
  rw [List.take_set_of_le h]

theorem getD_set (zs : List Int) (j : Nat) (x : Int) (h : j < zs.length) : (zs.set j x).getD j 0 = x := by simp [h]
theorem getD_set_ne (zs : List Int) (i j : Nat) (x : Int) (h : i ≠ j) : (zs.set i x).getD j 0 = zs.getD j 0 := by
  simp [List.getD, List.getElem?_set_ne h]

theorem val_nonneg {xs : List Int} (h : Digs xs) : 0 ≤ val xs := by
  induction xs with
  | nil => exact Int.le_refl _
  | cons x r ih =>
    have h1 := h x (by simp)
    have h2 := ih fun y hy => h y (by simp [hy])
    unfold Dig at h1
    simp only [val]; omega

theorem val_lt {xs : List Int} (h : Digs xs) : val xs < pw xs.length := by
  induction xs with
  | nil => simp [val, pw_zero]
  | cons x r ih =>
    have h1 := h x (by simp)
    have h2 := ih fun y hy => h y (by simp [hy])
    unfold Dig at h1
    simp only [val, List.length_cons, pw_succ]; omega

/-- A digit and a carry are the number that they were split from. -/
theorem pw_split (k : Nat) (t : Int) : pw k * (t % 4294967296) + pw (k + 1) * (t / 4294967296) = pw k * t := by
  rw [pw_succ, Int.mul_assoc, ← Int.mul_add]
  congr 1
  omega

/-- One step of a sum. -/
theorem add_step {k : Nat} {zs xs ys : List Int} {q x y : Int} (hk : k < zs.length) (h : val (zs.take k) + pw k * q = val (xs.take k) + val (ys.take k))
    (hx : xs.getD k 0 = x) (hy : ys.getD k 0 = y) :
    val ((zs.set k ((x + q + y) % 4294967296)).take (k + 1)) + pw (k + 1) * ((x + q + y) / 4294967296) = val (xs.take (k + 1)) + val (ys.take (k + 1)) := by
  rw [val_take_succ, val_take_set _ _ _ _ (Nat.le_refl _), getD_set _ _ _ hk, val_take_succ xs, val_take_succ ys, hx, hy]
  have h1 := pw_split k (x + q + y)
  rw [Int.mul_add, Int.mul_add] at h1
  omega

theorem getD_out {xs : List Int} {k : Nat} (h : xs.length ≤ k) : xs.getD k 0 = 0 := by simp [h]

theorem u64_wrap (e : Int) : IntKind.u64.wrap e = e % 18446744073709551616 := by
  simp [IntKind.wrap, IntKind.bits, IntKind.signed]

/-- One step of a difference. -/
theorem sub_step {k : Nat} {zs xs ys : List Int} {q x y : Int} (hk : k < zs.length) (h : val (zs.take k) = val (xs.take k) - val (ys.take k) + pw k * q)
    (hx : xs.getD k 0 = x) (hy : ys.getD k 0 = y) :
    val ((zs.set k ((x - q - y) % 4294967296)).take (k + 1)) = val (xs.take (k + 1)) - val (ys.take (k + 1)) + pw (k + 1) * (-((x - q - y) / 4294967296)) := by
  rw [val_take_succ, val_take_set _ _ _ _ (Nat.le_refl _), getD_set _ _ _ hk, val_take_succ xs, val_take_succ ys, hx, hy]
  have h1 := pw_split k (x - q - y)
  rw [Int.mul_sub, Int.mul_sub] at h1
  rw [Int.mul_neg]
  omega

theorem sub_dig (x q y : Int) (_ : 0 ≤ x) (_ : x < 4294967296) (_ : 0 ≤ q) (_ : q ≤ 1) (_ : 0 ≤ y) (_ : y < 4294967296) :
    IntKind.u64.wrap (IntKind.u64.wrap (x - q) - y) % 4294967296 = (x - q - y) % 4294967296 := by
  rw [u64_wrap, u64_wrap]; omega
theorem sub_bor (x q y : Int) (_ : 0 ≤ x) (_ : x < 4294967296) (_ : 0 ≤ q) (_ : q ≤ 1) (_ : 0 ≤ y) (_ : y < 4294967296) :
    IntKind.u64.wrap (IntKind.u64.wrap (x - q) - y) / 9223372036854775808 = -((x - q - y) / 4294967296) := by
  rw [u64_wrap, u64_wrap]; omega
theorem sub_dig0 (x q : Int) (_ : 0 ≤ x) (_ : x < 4294967296) (_ : 0 ≤ q) (_ : q ≤ 1) :
    IntKind.u64.wrap (x - q) % 4294967296 = (x - q) % 4294967296 := by
  rw [u64_wrap]; omega
theorem sub_bor0 (x q : Int) (_ : 0 ≤ x) (_ : x < 4294967296) (_ : 0 ≤ q) (_ : q ≤ 1) :
    IntKind.u64.wrap (x - q) / 9223372036854775808 = -((x - q) / 4294967296) := by
  rw [u64_wrap]; omega

/-- No zero word at the end. -/
def Canon (xs : List Int) : Prop := Digs xs ∧ (xs.length = 0 ∨ pw (xs.length - 1) ≤ val xs)

theorem pw_le {j k : Nat} (h : j ≤ k) : pw j ≤ pw k := by
  obtain ⟨d, rfl⟩ := Nat.exists_eq_add_of_le h
  rw [pw_add]
  have := Int.mul_le_mul_of_nonneg_left (show (1 : Int) ≤ pw d from pw_pos d) (Int.le_of_lt (pw_pos j))
  omega

/-- Of two sizes without zeros at the end the shorter one is less. -/
theorem Canon.lt_of_length {xs ys : List Int} (hx : Digs xs) (hy : Canon ys) (h : xs.length < ys.length) : val xs < val ys := by
  have h1 := val_lt hx
  rcases hy.2 with h2 | h2
  · omega
  · have := pw_le (show xs.length ≤ ys.length - 1 by omega)
    omega

theorem Canon.length_eq {xs ys : List Int} (hx : Canon xs) (hy : Canon ys) (h : val xs = val ys) : xs.length = ys.length := by
  rcases Nat.lt_trichotomy xs.length ys.length with h1 | h1 | h1
  · have := Canon.lt_of_length hx.1 hy h1; omega
  · exact h1
  · have := Canon.lt_of_length hy.1 hx h1; omega

theorem val_inj : ∀ {xs ys : List Int}, Digs xs → Digs ys → xs.length = ys.length → val xs = val ys → xs = ys
  | [], [], _, _, _, _ => rfl
  | [], _ :: _, _, _, h, _ => by simp at h
  | _ :: _, [], _, _, h, _ => by simp at h
  | x :: r, y :: s, hx, hy, hl, hv => by
    have h1 := hx x (by simp)
    have h2 := hy y (by simp)
    unfold Dig at h1 h2
    simp only [val] at hv
    have e : x = y := by omega
    subst e
    rw [val_inj (xs := r) (ys := s) (fun z hz => hx z (by simp [hz])) (fun z hz => hy z (by simp [hz])) (by simpa using hl) (by omega)]

theorem Canon.inj {xs ys : List Int} (hx : Canon xs) (hy : Canon ys) (h : val xs = val ys) : xs = ys :=
  val_inj hx.1 hy.1 (hx.length_eq hy h) h

theorem Canon.zero {xs : List Int} (hx : Canon xs) : xs.length = 0 ↔ val xs = 0 := by
  constructor
  · intro h; rw [List.length_eq_zero_iff.1 h]; rfl
  · intro h
    rcases hx.2 with h1 | h1
    · exact h1
    · have := pw_pos (xs.length - 1); omega

/-- How long it is is said by its value. -/
theorem Canon.length_le {xs : List Int} (hx : Canon xs) {k : Nat} (h : val xs < pw k) : xs.length ≤ k := by
  rcases hx.2 with h1 | h1
  · omega
  · by_cases hk : xs.length ≤ k
    · exact hk
    · have := pw_le (show k ≤ xs.length - 1 by omega); omega

theorem or_u64 (i : Nat) (x y : Int) (hx0 : 0 ≤ x) (hx : x < 18446744073709551616) (hy0 : 0 ≤ y) (hy : y < 18446744073709551616) (hyi : y < 2 ^ i) (hxi : x % 2 ^ i = 0) :
    bits .or .u64 x y = x + y ∧ bits .or .u64 y x = x + y := by
  obtain ⟨a, rfl⟩ := Int.eq_ofNat_of_zero_le hx0
  obtain ⟨b, rfl⟩ := Int.eq_ofNat_of_zero_le hy0
  have e : ((2 ^ i : Nat) : Int) = 2 ^ i := by simp
  have h1 : b < 2 ^ i := by rw [← e] at hyi; omega
  have h2 : a % 2 ^ i = 0 := by rw [← e] at hxi; omega
  have h3 := nat_join i a b h2 h1
  constructor
  · rw [u64_or_nat a b (by omega) (by omega), h3]; rfl
  · rw [u64_or_nat b a (by omega) (by omega), Nat.or_comm, h3]; rfl

/-- A word of 64 bits out of two halves. -/
theorem or_halves (x y : Int) (hx0 : 0 ≤ x) (hx : x < 4294967296) (hy0 : 0 ≤ y) (hy : y < 4294967296) :
    bits .or .u64 x (y * 4294967296) = x + y * 4294967296 ∧ bits .or .u64 (y * 4294967296) x = x + y * 4294967296 := by
  have h := or_u64 32 (y * 4294967296) x (by omega) (by omega) hx0 (by omega) (by simpa using hx) (by simp)
  exact ⟨by rw [h.2]; omega, by rw [h.1]; omega⟩

theorem or_zero_u64 (x : Int) (hx0 : 0 ≤ x) (hx : x < 18446744073709551616) : bits .or .u64 0 x = x := by
  have h := or_u64 64 0 x (by omega) (by omega) hx0 hx (by simpa using hx) (by simp)
  rw [h.1]; omega

theorem pow_two_succ (k : Nat) : (2 : Int) ^ (k + 1) = 2 ^ k * 2 := Int.pow_succ _ _
theorem pow_two_pos (k : Nat) : (0 : Int) < 2 ^ k := Int.pow_pos (by decide)
theorem pw_two (k : Nat) : pw k = 2 ^ (32 * k) := by
  unfold pw; rw [Int.pow_mul]; rfl

/-- How two numbers compare. -/
def cmpI (x y : Int) : Int := if x < y then -1 else if x = y then 0 else 1

theorem val_split (xs : List Int) {k : Nat} (h : k ≤ xs.length) : val xs = val (xs.take k) + pw k * val (xs.drop k) := by
  have e := val_append (xs.take k) (xs.drop k)
  rw [List.take_append_drop, List.length_take, Nat.min_eq_left h] at e
  exact e

theorem Digs.take {xs : List Int} (h : Digs xs) (k : Nat) : Digs (xs.take k) := fun y hy => h y (List.mem_of_mem_take hy)
theorem Digs.drop {xs : List Int} (h : Digs xs) (k : Nat) : Digs (xs.drop k) := fun y hy => h y (List.mem_of_mem_drop hy)

/-- The first word from above at which they differ decides. -/
theorem cmp_at {xs ys : List Int} {k : Nat} (hx : Digs xs) (hy : Digs ys) (hk : k < xs.length) (hl : xs.length = ys.length) (h : xs.drop (k + 1) = ys.drop (k + 1)) (hlt : xs.getD k 0 < ys.getD k 0) : val xs < val ys := by
  rw [val_split xs (show k + 1 ≤ xs.length by omega), val_split ys (show k + 1 ≤ ys.length by omega), h, val_take_succ, val_take_succ]
  have a1 := val_lt (hx.take k)
  have a0 := val_nonneg (hy.take k)
  rw [List.length_take, Nat.min_eq_left (by omega)] at a1
  have := Int.mul_le_mul_of_nonneg_left (show xs.getD k 0 + 1 ≤ ys.getD k 0 by omega) (Int.le_of_lt (pw_pos k))
  rw [Int.mul_add] at this
  omega

theorem drop_step {xs ys : List Int} {k : Nat} (hk : k < xs.length) (hl : xs.length = ys.length) (h : xs.drop (k + 1) = ys.drop (k + 1)) (he : xs.getD k 0 = ys.getD k 0) : xs.drop k = ys.drop k := by
  rw [List.drop_eq_getElem_cons hk, List.drop_eq_getElem_cons (show k < ys.length by omega), h]
  have : xs[k] = ys[k] := by simpa [hk, show k < ys.length by omega] using he
  rw [this]

theorem getD_drop (xs : List Int) (n k : Nat) : (xs.drop n).getD k 0 = xs.getD (n + k) 0 := by
  simp [List.getD, List.getElem?_drop]

theorem val_drop_step (xs : List Int) {k : Nat} (h : k < xs.length) : val (xs.drop k) = xs.getD k 0 + 4294967296 * val (xs.drop (k + 1)) := by
  rw [List.drop_eq_getElem_cons h]
  simp [val, h]

end Go.Proofs.YthgpcgijhmgenaaDoor

/- Walks: the leaves: order, trim, copied, toWord, fromWord, bits, cmpSize. -/
namespace Go.Proofs.YthgpcgijhmgenaaDoor
open Go.RowKit

theorem order_any (b : Bool) (w : World) : Calls Tryd.prog 59 #[.bool b] w fun e w' => e = .returned (.int .i64 (if b then -1 else 1)) ∧ w = w' := by
  cases b
  · go_enter Tryd.func59, Tryd.ntmps59
    go_wp2
    go_ret
    exact ⟨rfl, rfl⟩
  · go_enter Tryd.func59, Tryd.ntmps59
    go_wp2
    go_ret
    exact ⟨rfl, rfl⟩

set_option maxHeartbeats 400000 in
theorem trim_any (w : World) (ax : Option Addr) (n c : Nat) (xs : List Int) (hX : Sl w ax n c xs) (hb : n ≤ 4000000) :
    Calls Tryd.prog 57 #[.slice ax n c] w fun e w' => ∃ m, e = .returned (.slice ax m c) ∧ m ≤ n ∧ Sl w ax m c (xs.take m) ∧ val (xs.take m) = val xs ∧ Canon (xs.take m) ∧ w = w' := by
  have hn := hidd hX.len
  have hx := hX.cells
  have hnc := hX.cap
  go_enter Tryd.func57, Tryd.ntmps57
  go_wp2
  go_loop [3] (fun v => ∃ k : Nat, k ≤ n ∧ v = .int .i64 k ∧ val (xs.take k) = val xs) (fun v => (intOf v).toNat)
  case atStart => exact ⟨n, Nat.le_refl _, rfl, val_take_all _ (by rw [hn.out]; omega)⟩
  case round =>
    obtain ⟨k, hk, rfl, ht⟩ := hrel
    have HT := hidd ht
    clear ht
    by_cases h0 : 0 < k
    · obtain ⟨b, off, rfl, hbl, x, hxc, hx0, hx1, HX⟩ := hx.at (k := k - 1) (by rw [hn.out]; omega)
      by_cases hz : x = 0
      · have hz1 : (x == 0) = true := by simp [hz]
        have HZ := hidd hz
        clear hz
        go_wp2
        go_round
        case rel =>
          refine ⟨k - 1, by omega, by go_num, ?_⟩
          have e := val_take_succ xs (k - 1)
          rw [show k - 1 + 1 = k from by omega, HX.out, HZ.out, HT.out] at e
          omega
        case measure => simp [intOf]; omega
      · have hz1 : (x == 0) = false := by simp [hz]
        go_wp2
        go_ret
        refine ⟨k, rfl, hk, hX.take hk, HT.out, ⟨(hX.take hk).digs, .inr ?_⟩, rfl⟩
        have e := val_take_succ xs (k - 1)
        rw [show k - 1 + 1 = k from by omega, HX.out] at e
        have h1 := val_nonneg (hX.take (show k - 1 ≤ n by omega)).digs
        have h2 := Int.mul_le_mul_of_nonneg_left (show (1 : Int) ≤ x by omega) (Int.le_of_lt (pw_pos (k - 1)))
        rw [(hX.take hk).len]
        omega
    · obtain rfl : k = 0 := by omega
      go_wp2
      go_ret
      exact ⟨0, rfl, hk, hX.take hk, HT.out, ⟨(hX.take hk).digs, .inl (by simp)⟩, rfl⟩

/-- How many binary digits a number has. -/
def IsBits (v : Int) (m : Nat) : Prop := (v = 0 ∧ m = 0) ∨ (0 < m ∧ 2 ^ (m - 1) ≤ v ∧ v < 2 ^ m)

theorem bits_end {xs : List Int} {n k : Nat} {x q : Int} (hd : Digs xs) (hl : xs.length = n) (h0 : 0 < n) (hx : xs.getD (n - 1) 0 = x) (hx0 : 0 < x) (hx1 : x < 4294967296)
    (hq : q = 0) (h1 : q * 2 ^ k ≤ x) (h2 : x < (q + 1) * 2 ^ k) (h3 : k = 0 ∨ 2 ^ (k - 1) ≤ x) : IsBits (val xs) (32 * (n - 1) + k) := by
  subst hq
  have e := val_take_succ xs (n - 1)
  rw [show n - 1 + 1 = n from by omega, hx, val_take_all xs (by omega)] at e
  have hd' : Digs (xs.take (n - 1)) := fun y hy => hd y (List.mem_of_mem_take hy)
  have l0 := val_nonneg hd'
  have l1 := val_lt hd'
  rw [List.length_take, hl, Nat.min_eq_left (by omega)] at l1
  have hp := pw_pos (n - 1)
  have hk : 0 < k := by
    rcases Nat.eq_zero_or_pos k with rfl | h
    · simp at h2; omega
    · exact h
  refine .inr ⟨by omega, ?_, ?_⟩
  · have h4 : (2 : Int) ^ (k - 1) ≤ x := by rcases h3 with h | h; omega; exact h
    rw [show 32 * (n - 1) + k - 1 = 32 * (n - 1) + (k - 1) from by omega, Int.pow_add, ← pw_two]
    have := Int.mul_le_mul_of_nonneg_left h4 (Int.le_of_lt hp)
    omega
  · have h5 : x < 2 ^ k := by simpa using h2
    have h4 : x + 1 ≤ 2 ^ k := by omega
    rw [Int.pow_add, ← pw_two]
    have := Int.mul_le_mul_of_nonneg_left h4 (Int.le_of_lt hp)
    rw [Int.mul_add] at this
    omega

set_option maxHeartbeats 400000 in
theorem bits_any (w : World) (ax : Option Addr) (n c : Nat) (xs : List Int) (hX : Sl w ax n c xs) (hc : Canon xs) (hb : n ≤ 4000000) :
    Calls Tryd.prog 58 #[.slice ax n c] w fun e w' => ∃ m : Nat, e = .returned (.int .i64 m) ∧ IsBits (val xs) m ∧ m ≤ 32 * n ∧ w = w' := by
  have hn := hidd hX.len
  have hx := hX.cells
  by_cases h0 : n = 0
  · obtain rfl := h0
    have e : xs = [] := List.eq_nil_of_length_eq_zero hn.out
    go_enter Tryd.func58, Tryd.ntmps58
    go_wp2
    go_ret
    exact ⟨0, rfl, .inl ⟨by subst e; rfl, rfl⟩, by omega, rfl⟩
  · have h1 : ((n : Int) == 0) = false := by simp; omega
    obtain ⟨b, off, rfl, hbl, x, hxc, hx0, hx1, HX⟩ := hx.at (k := n - 1) (by rw [hn.out]; omega)
    have hxp : 0 < x := by
      rcases hc.2 with h | h
      · have := hn.out; omega
      · rcases (by omega : x = 0 ∨ 0 < x) with h2 | h2
        · exfalso
          have e := val_take_succ xs (n - 1)
          rw [show n - 1 + 1 = n from by omega, HX.out, h2, val_take_all xs (by rw [hn.out]; omega)] at e
          have l1 := val_lt (hX.take (show n - 1 ≤ n by omega)).digs
          rw [(hX.take (show n - 1 ≤ n by omega)).len] at l1
          rw [hn.out] at h
          omega
        · exact h2
    go_enter Tryd.func58, Tryd.ntmps58
    go_wp2
    go_loop [3, 4] (fun i u => ∃ (k : Nat) (q : Int), k ≤ 32 ∧ 0 ≤ q ∧ q < 4294967296 ∧ i = .int .i64 (32 * ((n : Int) - 1) + k) ∧ u = .int .u32 q ∧ q * 2 ^ k ≤ x ∧ x < (q + 1) * 2 ^ k ∧ (k = 0 ∨ 2 ^ (k - 1) ≤ x)) (fun _ u => (intOf u).toNat)
    case atStart => exact ⟨0, x, by omega, hx0, hx1, by simp, rfl, by simp, by simp; omega, .inl rfl⟩
    case round =>
      obtain ⟨k, q, hk, hq0, hq1, rfl, rfl, hv⟩ := hrel
      have HV := hidd hv
      clear hv
      by_cases hq : 0 < q
      · go_wp2
        go_round
        case rel =>
          obtain ⟨v1, v2, _⟩ := HV.out
          have hp := pow_two_pos k
          have h5 : (2 : Int) ^ k ≤ x := by
            have := Int.mul_le_mul_of_nonneg_right (show 1 ≤ q by omega) (Int.le_of_lt hp)
            omega
          have hk2 : k < 32 := by
            rcases Nat.lt_or_ge k 32 with h | h
            · exact h
            · have : k = 32 := by omega
              subst this; simp at h5; omega
          refine ⟨k + 1, q / 2, by omega, by omega, by omega, by rw [show ((k + 1 : Nat) : Int) = (k : Int) + 1 from rfl]; congr 1; omega, rfl, ?_, ?_, .inr h5⟩
          · rw [pow_two_succ]
            have : q / 2 * (2 ^ k * 2) = (q / 2 * 2) * 2 ^ k := by rw [Int.mul_comm (2 ^ k), Int.mul_assoc]
            have h6 := Int.mul_le_mul_of_nonneg_right (show q / 2 * 2 ≤ q by omega) (Int.le_of_lt hp)
            omega
          · rw [pow_two_succ]
            have : (q / 2 + 1) * (2 ^ k * 2) = ((q / 2 + 1) * 2) * 2 ^ k := by rw [Int.mul_comm (2 ^ k), Int.mul_assoc]
            have h6 := Int.mul_le_mul_of_nonneg_right (show q + 1 ≤ (q / 2 + 1) * 2 by omega) (Int.le_of_lt hp)
            omega
        case measure => simp [intOf]; omega
      · go_wp2
        go_ret
        obtain ⟨v1, v2, v3⟩ := HV.out
        refine ⟨32 * (n - 1) + k, ?_, bits_end hX.digs hn.out (by omega) HX.out hxp hx1 (by omega) v1 v2 v3, by omega, rfl⟩
        have : ((32 * (n - 1) + k : Nat) : Int) = 32 * ((n : Int) - 1) + k := by omega
        rw [this]; rfl

end Go.Proofs.YthgpcgijhmgenaaDoor

/- Walks: the sum, the difference and the product of sizes. -/
namespace Go.Proofs.YthgpcgijhmgenaaDoor
open Go.RowKit

set_option maxHeartbeats 400000 in
theorem addSize_le (w : World) (ax ay : Option Addr) (n m cx cy : Nat) (xs ys : List Int) (hX : Sl w ax n cx xs) (hY : Sl w ay m cy ys) (hnm : m ≤ n) (hb : n ≤ 1000000) :
    Calls Tryd.prog 75 #[.slice ax n cx, .slice ay m cy] w fun e w' => ∃ ao c zs, e = .returned (.slice ao (n + 1) c) ∧ Sl w' ao (n + 1) c zs ∧ val zs = val xs + val ys ∧ Below w.heap.size w w' := by
  have hn := hidd hX.len
  have hm := hidd hY.len
  have hx := hX.cells
  have hy := hY.cells
  clear hX hY
  go_enter Tryd.func75, Tryd.ntmps75
  have hnm' : ¬ (n < m) := by omega
  go_wp2_with (at_make; refine wpList_make_words _ rfl _ _ 22 rfl 41 Tryd.underlying22 (by kernel_rfl) _ _ _ _ rfl rfl (n+1) rfl rfl (by omega) ?_; intro w1 hrow hb1 hs1)
  go_loopw [6, 23] (fun c i wr => ∃ (k : Nat) (q : Int) (zs : List Int), k ≤ n ∧ i = .int .i64 k ∧ c = .int .u64 q ∧ 0 ≤ q ∧ q ≤ 1 ∧ zs.length = n + 1 ∧ Row wr 41 w.heap.size zs ∧ Below w.heap.size w wr ∧ val (zs.take k) + pw k * q = val (xs.take k) + val (ys.take k)) (fun _ i _ => n - (intOf i).toNat)
  case atStart => exact ⟨0, 0, _, Nat.zero_le _, rfl, rfl, by omega, by omega, by simp, hrow, hb1, by simp [val]⟩
  case round =>
    obtain ⟨k, q, zs, hk, rfl, rfl, hq0, hq1, hzl, hr, hbr, hval⟩ := hrel
    have HV := hidd hval
    have HZ := hidd hzl
    have hkz : k < zs.length := by omega
    have hnz : n < zs.length := by omega
    have hfr := hr.frozen k
    clear hval hzl hrow hb1 hs1
    by_cases hkn : k < n
    · obtain ⟨b, off, rfl, hbl, x, hxc0, hx0, hx1, HX⟩ := hx.at (k := k) (by rw [hn.out]; exact hkn)
      have hxc := (hbr.cell (p := ⟨b, off + k, none⟩) hbl).trans hxc0
      clear hxc0
      obtain ⟨z, hzc, _, _, _⟩ := hr.at hkz
      by_cases hkm : k < m
      · obtain ⟨b2, off2, rfl, hbl2, y, hyc0, hy0, hy1, HY⟩ := hy.at (k := k) (by rw [hm.out]; exact hkm)
        have hyc := (hbr.cell (p := ⟨b2, off2 + k, none⟩) hbl2).trans hyc0
        clear hyc0
        go_wp2
        go_roundw
        case rel => exact ⟨k + 1, _, zs.set k ((x + q + y) % 4294967296), by omega, by go_num, rfl, by omega, by omega, by simp [HZ.out], hr.set ⟨by omega, by omega⟩, hbr.setCell (Nat.le_refl _) _, add_step hkz HV.out HX.out HY.out⟩
        case measure => simp [intOf]; omega
      · go_wp2
        go_roundw
        case rel =>
          have HY : ys.getD k 0 = 0 := getD_out (by rw [hm.out]; omega)
          have := add_step hkz HV.out HX.out HY
          simp only [Int.add_zero] at this
          exact ⟨k + 1, _, zs.set k ((x + q) % 4294967296), by omega, by go_num, rfl, by omega, by omega, by simp [HZ.out], hr.set ⟨by omega, by omega⟩, hbr.setCell (Nat.le_refl _) _, this⟩
        case measure => simp [intOf]; omega
    · obtain rfl : k = n := by omega
      obtain ⟨z, hzc, _, _, _⟩ := hr.at hkz
      go_wp2
      go_ret
      refine ⟨_, _, zs.set k q, rfl, ⟨by simp [HZ.out], Nat.le_refl _, (hr.set ⟨by omega, by omega⟩).cells⟩, ?_, hbr.setCell (Nat.le_refl _) _⟩
      have e1 := val_take_succ (zs.set k q) k
      rw [val_take_all _ (by simp [HZ.out]), val_take_set _ _ _ _ (Nat.le_refl _), getD_set _ _ _ hkz] at e1
      have e2 := HV.out
      rw [val_take_all xs (by rw [hn.out]; omega), val_take_all ys (by rw [hm.out]; omega)] at e2
      omega

set_option maxHeartbeats 400000 in
theorem addSize_gt (w : World) (ax ay : Option Addr) (n m cx cy : Nat) (xs ys : List Int) (hX : Sl w ax n cx xs) (hY : Sl w ay m cy ys) (hnm : n < m) (hb : m ≤ 1000000) :
    Calls Tryd.prog 75 #[.slice ax n cx, .slice ay m cy] w fun e w' => ∃ ao c zs, e = .returned (.slice ao (m + 1) c) ∧ Sl w' ao (m + 1) c zs ∧ val zs = val xs + val ys ∧ Below w.heap.size w w' := by
  have hn := hidd hX.len
  have hm := hidd hY.len
  have hx := hX.cells
  have hy := hY.cells
  clear hX hY
  go_enter Tryd.func75, Tryd.ntmps75
  go_wp2_with (at_make; refine wpList_make_words _ rfl _ _ 22 rfl 41 Tryd.underlying22 (by kernel_rfl) _ _ _ _ rfl rfl (m+1) rfl rfl (by omega) ?_; intro w1 hrow hb1 hs1)
  go_loopw [6, 23] (fun c i wr => ∃ (k : Nat) (q : Int) (zs : List Int), k ≤ m ∧ i = .int .i64 k ∧ c = .int .u64 q ∧ 0 ≤ q ∧ q ≤ 1 ∧ zs.length = m + 1 ∧ Row wr 41 w.heap.size zs ∧ Below w.heap.size w wr ∧ val (zs.take k) + pw k * q = val (ys.take k) + val (xs.take k)) (fun _ i _ => m - (intOf i).toNat)
  case atStart => exact ⟨0, 0, _, Nat.zero_le _, rfl, rfl, by omega, by omega, by simp, hrow, hb1, by simp [val]⟩
  case round =>
    obtain ⟨k, q, zs, hk, rfl, rfl, hq0, hq1, hzl, hr, hbr, hval⟩ := hrel
    have HV := hidd hval
    have HZ := hidd hzl
    have hkz : k < zs.length := by omega
    have hnz : m < zs.length := by omega
    have hfr := hr.frozen k
    clear hval hzl hrow hb1 hs1
    by_cases hkm : k < m
    · obtain ⟨b2, off2, rfl, hbl2, y, hyc0, hy0, hy1, HY⟩ := hy.at (k := k) (by rw [hm.out]; exact hkm)
      have hyc := (hbr.cell (p := ⟨b2, off2 + k, none⟩) hbl2).trans hyc0
      clear hyc0
      obtain ⟨z, hzc, _, _, _⟩ := hr.at hkz
      by_cases hkn : k < n
      · obtain ⟨b, off, rfl, hbl, x, hxc0, hx0, hx1, HX⟩ := hx.at (k := k) (by rw [hn.out]; exact hkn)
        have hxc := (hbr.cell (p := ⟨b, off + k, none⟩) hbl).trans hxc0
        clear hxc0
        go_wp2
        go_roundw
        case rel => exact ⟨k + 1, _, zs.set k ((y + q + x) % 4294967296), by omega, by go_num, rfl, by omega, by omega, by simp [HZ.out], hr.set ⟨by omega, by omega⟩, hbr.setCell (Nat.le_refl _) _, add_step hkz HV.out HY.out HX.out⟩
        case measure => simp [intOf]; omega
      · go_wp2
        go_roundw
        case rel =>
          have HX : xs.getD k 0 = 0 := getD_out (by rw [hn.out]; omega)
          have := add_step hkz HV.out HY.out HX
          simp only [Int.add_zero] at this
          exact ⟨k + 1, _, zs.set k ((y + q) % 4294967296), by omega, by go_num, rfl, by omega, by omega, by simp [HZ.out], hr.set ⟨by omega, by omega⟩, hbr.setCell (Nat.le_refl _) _, this⟩
        case measure => simp [intOf]; omega
    · obtain rfl : k = m := by omega
      obtain ⟨z, hzc, _, _, _⟩ := hr.at hkz
      go_wp2
      go_ret
      refine ⟨_, _, zs.set k q, rfl, ⟨by simp [HZ.out], Nat.le_refl _, (hr.set ⟨by omega, by omega⟩).cells⟩, ?_, hbr.setCell (Nat.le_refl _) _⟩
      have e1 := val_take_succ (zs.set k q) k
      rw [val_take_all _ (by simp [HZ.out]), val_take_set _ _ _ _ (Nat.le_refl _), getD_set _ _ _ hkz] at e1
      have e2 := HV.out
      rw [val_take_all xs (by rw [hn.out]; omega), val_take_all ys (by rw [hm.out]; omega)] at e2
      omega

/-- The sum of two sizes. -/
theorem addSize_any (w : World) (ax ay : Option Addr) (n m cx cy : Nat) (xs ys : List Int) (hX : Sl w ax n cx xs) (hY : Sl w ay m cy ys) (hb1 : n ≤ 1000000) (hb2 : m ≤ 1000000) :
    Calls Tryd.prog 75 #[.slice ax n cx, .slice ay m cy] w fun e w' => ∃ ao k c zs, e = .returned (.slice ao k c) ∧ k ≤ max n m + 1 ∧ Sl w' ao k c zs ∧ val zs = val xs + val ys ∧ Below w.heap.size w w' := by
  by_cases h : m ≤ n
  · refine (addSize_le w ax ay n m cx cy xs ys hX hY h hb1).mono ?_
    rintro e w' ⟨ao, c, zs, he, hs, hv, hB⟩
    exact ⟨ao, _, c, zs, he, by omega, hs, hv, hB⟩
  · refine (addSize_gt w ax ay n m cx cy xs ys hX hY (by omega) hb2).mono ?_
    rintro e w' ⟨ao, c, zs, he, hs, hv, hB⟩
    exact ⟨ao, _, c, zs, he, by omega, hs, hv, hB⟩

set_option maxHeartbeats 400000 in
theorem subSize_any (w : World) (ax ay : Option Addr) (n m cx cy : Nat) (xs ys : List Int) (hX : Sl w ax n cx xs) (hY : Sl w ay m cy ys) (hnm : m ≤ n) (hle : val ys ≤ val xs) (hb : n ≤ 1000000) :
    Calls Tryd.prog 76 #[.slice ax n cx, .slice ay m cy] w fun e w' => ∃ ao c zs, e = .returned (.slice ao n c) ∧ Sl w' ao n c zs ∧ val zs = val xs - val ys ∧ Below w.heap.size w w' := by
  have hn := hidd hX.len
  have hm := hidd hY.len
  have hx := hX.cells
  have hy := hY.cells
  have HLE := hidd hle
  clear hX hY hle
  go_enter Tryd.func76, Tryd.ntmps76
  go_wp2_with (at_make; refine wpList_make_words _ rfl _ _ 22 rfl 41 Tryd.underlying22 (by kernel_rfl) _ _ _ _ rfl rfl n rfl rfl (by omega) ?_; intro w1 hrow hb1 hs1)
  go_loopw [6, 15] (fun c i wr => ∃ (k : Nat) (q : Int) (zs : List Int), k ≤ n ∧ i = .int .i64 k ∧ c = .int .u64 q ∧ 0 ≤ q ∧ q ≤ 1 ∧ zs.length = n ∧ Row wr 41 w.heap.size zs ∧ Below w.heap.size w wr ∧ val (zs.take k) = val (xs.take k) - val (ys.take k) + pw k * q) (fun _ i _ => n - (intOf i).toNat)
  case atStart => exact ⟨0, 0, _, Nat.zero_le _, rfl, rfl, by omega, by omega, by simp, hrow, hb1, by simp [val]⟩
  case round =>
    obtain ⟨k, q, zs, hk, rfl, rfl, hq0, hq1, hzl, hr, hbr, hval⟩ := hrel
    have HV := hidd hval
    have HZ := hidd hzl
    have hfr := hr.frozen k
    by_cases hkn : k < n
    · have hkz : k < zs.length := by omega
      clear hval hzl hrow hb1 hs1
      obtain ⟨b, off, rfl, hbl, x, hxc0, hx0, hx1, HX⟩ := hx.at (k := k) (by rw [hn.out]; exact hkn)
      have hxc := (hbr.cell (p := ⟨b, off + k, none⟩) hbl).trans hxc0
      clear hxc0
      obtain ⟨z, hzc, _, _, _⟩ := hr.at hkz
      by_cases hkm : k < m
      · obtain ⟨b2, off2, rfl, hbl2, y, hyc0, hy0, hy1, HY⟩ := hy.at (k := k) (by rw [hm.out]; exact hkm)
        have hyc := (hbr.cell (p := ⟨b2, off2 + k, none⟩) hbl2).trans hyc0
        clear hyc0
        go_wp2
        go_roundw
        case rel =>
          rw [sub_dig x q y hx0 hx1 hq0 hq1 hy0 hy1, sub_bor x q y hx0 hx1 hq0 hq1 hy0 hy1]
          exact ⟨k + 1, _, zs.set k ((x - q - y) % 4294967296), by omega, by go_num, rfl, by omega, by omega, by simp [HZ.out], hr.set ⟨by omega, by omega⟩, hbr.setCell (Nat.le_refl _) _, sub_step hkz HV.out HX.out HY.out⟩
        case measure => simp [intOf]; omega
      · go_wp2
        go_roundw
        case rel =>
          rw [sub_dig0 x q hx0 hx1 hq0 hq1, sub_bor0 x q hx0 hx1 hq0 hq1]
          have HY : ys.getD k 0 = 0 := getD_out (by rw [hm.out]; omega)
          have := sub_step hkz HV.out HX.out HY
          simp only [Int.sub_zero] at this
          exact ⟨k + 1, _, zs.set k ((x - q) % 4294967296), by omega, by go_num, rfl, by omega, by omega, by simp [HZ.out], hr.set ⟨by omega, by omega⟩, hbr.setCell (Nat.le_refl _) _, this⟩
        case measure => simp [intOf]; omega
    · obtain rfl : k = n := by omega
      clear hval hzl hrow hb1 hs1
      go_wp2
      go_ret
      refine ⟨_, _, zs, rfl, ⟨HZ.out, Nat.le_refl _, hr.cells⟩, ?_, hbr⟩
      have e2 := HV.out
      rw [val_take_all xs (by rw [hn.out]; omega), val_take_all ys (by rw [hm.out]; omega), val_take_all zs (by rw [HZ.out]; omega)] at e2
      have hlt := val_lt hr.1
      rw [HZ.out] at hlt
      have h0 := val_nonneg hr.1
      have hle := HLE.out
      have hp := pw_pos k
      rcases (by omega : q = 0 ∨ q = 1) with rfl | rfl
      · omega
      · omega

end Go.Proofs.YthgpcgijhmgenaaDoor

/- Walk: sizes are compared. -/
namespace Go.Proofs.YthgpcgijhmgenaaDoor
open Go.RowKit

theorem Sl.drewN {w : World} {ao : Option Addr} {n c : Nat} {xs : List Int} (h : Sl w ao n c xs) (d : Nat) : Sl (w.drewN d) ao n c xs := ⟨h.len, h.cap, h.cells⟩

theorem order_same (b : Bool) (w : World) : Calls Tryd.prog 59 #[.bool b] w fun e w' => e = .returned (.int .i64 (if b then -1 else 1)) ∧ w' = w :=
  (order_any b w).mono fun _ _ h => ⟨h.1, h.2.symm⟩

/-- Only draws lie between. -/
def Drawn (w w' : World) : Prop := ∃ d, w' = w.drewN d
theorem Drawn.refl (w : World) : Drawn w w := ⟨0, rfl⟩
theorem Drawn.cell {w w' : World} (h : Drawn w w') (a : Addr) : w'.cell? a = w.cell? a := by obtain ⟨d, rfl⟩ := h; rfl
theorem Drawn.drewN {w w' : World} (h : Drawn w w') (n : Nat) : Drawn w (w'.drewN n) := by
  obtain ⟨d, rfl⟩ := h
  exact ⟨d + n, by rw [World.drewN_drewN]⟩
theorem Drawn.below {w w' : World} (h : Drawn w w') (B : Nat) : Below B w w' := by
  obtain ⟨d, rfl⟩ := h
  exact ⟨rfl, rfl, rfl, Nat.le_refl _, fun _ _ => rfl⟩
theorem Drawn.size {w w' : World} (h : Drawn w w') : w'.heap.size = w.heap.size := by obtain ⟨d, rfl⟩ := h; rfl

set_option maxHeartbeats 400000 in
theorem cmpSize_any (w : World) (ax ay : Option Addr) (n m cx cy : Nat) (xs ys : List Int) (hX : Sl w ax n cx xs) (hY : Sl w ay m cy ys) (hcx : Canon xs) (hcy : Canon ys) (hb1 : n ≤ 4000000) (hb2 : m ≤ 4000000) :
    Calls Tryd.prog 60 #[.slice ax n cx, .slice ay m cy] w fun e w' => e = .returned (.int .i64 (cmpI (val xs) (val ys))) ∧ Drawn w w' := by
  have hn := hidd hX.len
  have hm := hidd hY.len
  have hx := hX.cells
  have hy := hY.cells
  by_cases hnm : n = m
  · subst hnm
    go_enter Tryd.func60, Tryd.ntmps60
    go_wp2
    go_loopw [5] (fun i wr => ∃ (k : Nat), k ≤ n ∧ i = .int .i64 ((k : Int) - 1) ∧ Drawn w wr ∧ xs.drop k = ys.drop k) (fun i _ => (intOf i + 1).toNat)
    case atStart => exact ⟨n, Nat.le_refl _, rfl, ⟨0, rfl⟩, by rw [List.drop_of_length_le (by rw [hn.out]; omega), List.drop_of_length_le (by rw [hm.out]; omega)]⟩
    case round =>
      obtain ⟨k, hk, rfl, hd, hv⟩ := hrel
      have HV := hidd hv
      clear hv
      by_cases h0 : 0 < k
      · obtain ⟨b, off, rfl, hbl, x, hxc, hx0, hx1, HX⟩ := hx.at (k := k - 1) (by rw [hn.out]; omega)
        obtain ⟨b2, off2, rfl, hbl2, y, hyc, hy0, hy1, HY⟩ := hy.at (k := k - 1) (by rw [hm.out]; omega)
        have hxr := (hd.cell _).trans hxc
        have hyr := (hd.cell _).trans hyc
        have hkx : k - 1 < xs.length := by rw [hn.out]; omega
        have hln : xs.length = ys.length := by rw [hn.out, hm.out]
        have HLN := hidd hln
        clear hxc hyc hln
        by_cases he : x = y
        · subst he
          go_wp2
          go_quiet (fail)
          go_wp2
          go_roundw
          case rel =>
            refine ⟨k - 1, by omega, by go_num, hd.drewN _, ?_⟩
            exact drop_step hkx HLN.out (by rw [show k - 1 + 1 = k from by omega]; exact HV.out) (by rw [HX.out, HY.out])
          case measure => simp [intOf]; omega
        · have he1 : (x == y) = false := by simp [he]
          have he2 : (x != y) = true := by simp [he]
          have hk1 : k - 1 + 1 = k := by omega
          rcases Int.lt_or_gt_of_ne he with h | h
          · have HA : Hid (cmpI (val xs) (val ys) = -1) := by
              have := cmp_at hX.digs hY.digs hkx HLN.out (by rw [hk1]; exact HV.out) (by rw [HX.out, HY.out]; exact h)
              exact if_pos this
            clear hk1
            go_wp2
            go_quiet (fail)
            go_wp2
            obtain ⟨w2, hw2⟩ : ∃ w2, w2 = wr.drewN nq := ⟨_, rfl⟩
            rw [← hw2]
            have hd2 : Drawn w w2 := by rw [hw2]; exact hd.drewN _
            have hxr2 := (hd2.cell _).trans ((hd.cell _).symm.trans hxr)
            have hyr2 := (hd2.cell _).trans ((hd.cell _).symm.trans hyr)
            clear hw2 hxr hyr
            go_quiet ((go_at_call 59; exact Calls.quiet_of_same (order_same _ _)))
            go_wp2
            go_ret
            refine ⟨?_, hd2.drewN _⟩
            rw [HA.out]
            rfl
          · have HA : Hid (cmpI (val xs) (val ys) = 1) := by
              have hky : k - 1 < ys.length := by have := HLN.out; omega
              have := cmp_at hY.digs hX.digs hky HLN.out.symm (by rw [hk1]; exact HV.out.symm) (by rw [HX.out, HY.out]; exact h)
              exact (if_neg (by omega)).trans (if_neg (by omega))
            have h' : decide (x < y) = false := by simp; omega
            clear hk1
            go_wp2
            go_quiet (fail)
            go_wp2
            obtain ⟨w2, hw2⟩ : ∃ w2, w2 = wr.drewN nq := ⟨_, rfl⟩
            rw [← hw2]
            have hd2 : Drawn w w2 := by rw [hw2]; exact hd.drewN _
            have hxr2 := (hd2.cell _).trans ((hd.cell _).symm.trans hxr)
            have hyr2 := (hd2.cell _).trans ((hd.cell _).symm.trans hyr)
            clear hw2 hxr hyr
            go_quiet ((go_at_call 59; exact Calls.quiet_of_same (order_same _ _)))
            go_wp2
            go_ret
            refine ⟨?_, hd2.drewN _⟩
            rw [HA.out]
            rfl
      · go_wp2
        go_ret
        obtain rfl : k = 0 := by omega
        refine ⟨?_, hd⟩
        have e : xs = ys := by simpa using HV.out
        subst e
        simp [cmpI]
  · have h1 : ((n : Int) == m) = false := by simp; omega
    have h2 : ((n : Int) != m) = true := by simp; omega
    by_cases hlt : n < m
    · go_enter Tryd.func60, Tryd.ntmps60
      go_wp2_with (go_at_call 59; refine (order_any _ _).mono ?_; rintro e w' ⟨rfl, rfl⟩)
      go_ret
      refine ⟨?_, 0, rfl⟩
      have := Canon.lt_of_length hX.digs hcy (by rw [hn.out, hm.out]; exact hlt)
      simp [cmpI, this]
    · go_enter Tryd.func60, Tryd.ntmps60
      go_wp2_with (go_at_call 59; refine (order_any _ _).mono ?_; rintro e w' ⟨rfl, rfl⟩)
      go_ret
      refine ⟨?_, 0, rfl⟩
      have := Canon.lt_of_length hY.digs hcx (by rw [hn.out, hm.out]; omega)
      simp [cmpI, show ¬ val xs < val ys by omega, show ¬ val xs = val ys by omega]

end Go.Proofs.YthgpcgijhmgenaaDoor

/- Integers in memory; walks: signed, Add. -/
namespace Go.Proofs.YthgpcgijhmgenaaDoor
open Go.RowKit

theorem Sl.drew {w : World} {ao : Option Addr} {n c : Nat} {xs : List Int} (h : Sl w ao n c xs) : Sl w.drew ao n c xs := ⟨h.len, h.cap, h.cells⟩

def sgn (neg : Bool) (v : Int) : Int := if neg then -v else v

/-- A value that is the canonical form of an integer. -/
def IsInt (w : World) (v : Value) (z : Int) : Prop :=
  ∃ (neg : Bool) (ao : Option Addr) (n c : Nat) (xs : List Int), v = .agg #[.bool neg, .slice ao n c] ∧ Sl w ao n c xs ∧ Canon xs ∧ (neg = true → n ≠ 0) ∧ z = sgn neg (val xs)

theorem IsInt.mono {w w' : World} {v : Value} {z : Int} (h : IsInt w v z) (hb : Below w.heap.size w w') : IsInt w' v z := by
  obtain ⟨neg, ao, n, c, xs, hv, hs, hc, hn, hz⟩ := h
  exact ⟨neg, ao, n, c, xs, hv, hs.mono hb, hc, hn, hz⟩

/-- A call's result and what became of memory. -/
def GivesInt (w : World) (z : Int) (e : Ending) (w' : World) : Prop := ∃ v, e = .returned v ∧ IsInt w' v z ∧ Below w.heap.size w w'

set_option maxHeartbeats 1000000 in
theorem signed_any (w : World) (neg : Bool) (ax : Option Addr) (n c : Nat) (xs : List Int) (hX : Sl w ax n c xs) (hb : n ≤ 4000000) :
    Calls Tryd.prog 61 #[.bool neg, .slice ax n c] w (GivesInt w (sgn neg (val xs))) := by
  have hbl : ∀ o, Below w.heap.size w (w.alloc o) := fun o => (Below.refl _ _).alloc (Nat.le_refl _) o
  go_enter Tryd.func61, Tryd.ntmps61
  go_wp2_with (go_at_call 57; refine (trim_any _ _ _ _ _ (hX.mono (hbl _)) (by omega)).mono ?_; rintro e w' ⟨m, rfl, hm, hsm, hvm, hcm, rfl⟩)
  · rename_i h0
    refine bodyPost_ret (v := .agg #[.bool false, .slice none 0 0]) (by simp [results, Tryd.results61, go_sem]) rfl ⟨_, rfl, ⟨false, none, 0, 0, [], rfl, Sl.nil _, ⟨fun _ hx => by simp at hx, .inl rfl⟩, by simp, ?_⟩, hbl _⟩
    have h1 : m = 0 := by simpa using h0
    subst h1
    simp only [List.take_zero, val] at hvm
    cases neg <;> simp [sgn, val, ← hvm]
  · rename_i h0
    have h1 : m ≠ 0 := by simpa using h0
    have hs2 : Sl (w.alloc (.cells #[.bool neg, .slice ax m c] 27)) ax m c (xs.take m) := (hX.take hm).mono (hbl _)
    exact bodyPost_ret (v := .agg #[.bool neg, .slice ax m c]) (by simp [results, Tryd.results61, go_sem]) rfl ⟨_, rfl, ⟨neg, ax, m, c, _, rfl, hs2, hcm, fun _ => h1, by rw [hvm]⟩, hbl _⟩

/-- What lies below block B is as it was at the start. -/
def Kept (B : Nat) (w0 W : World) : Prop := B ≤ W.heap.size ∧ (∀ b o, b < B → W.cell? ⟨b, o, none⟩ = w0.cell? ⟨b, o, none⟩) ∧ ∀ b o, b < B → W.frozen? ⟨b, o, none⟩ = w0.frozen? ⟨b, o, none⟩

theorem Kept.call {B : Nat} {w0 w1 w2 : World} (h : Kept B w0 w1) (hb : Below w1.heap.size w1 w2) : Kept B w0 w2 :=
  ⟨Nat.le_trans h.1 hb.size, fun b o hlt => (hb.cell (p := ⟨b, o, none⟩) (Nat.lt_of_lt_of_le hlt h.1)).trans (h.2.1 b o hlt),
    fun b o hlt => (hb.frozen (p := ⟨b, o, none⟩) (Nat.lt_of_lt_of_le hlt h.1)).trans (h.2.2 b o hlt)⟩

theorem Kept.start {B : Nat} {w : World} (h : B ≤ w.heap.size) : Kept B w w.drew := ⟨h, fun _ _ _ => rfl, fun _ _ _ => rfl⟩

theorem Kept.set {B : Nat} {w0 w1 : World} (h : Kept B w0 w1) {b o : Nat} (hb : B ≤ b) (v : Value) : Kept B w0 (w1.setCell ⟨b, o, none⟩ v) := by
  refine ⟨by rw [World.size_setCell]; exact h.1, fun b' o' hlt => ?_, fun b' o' hlt => ?_⟩
  · rw [World.cell?_setCell_other _ _ _ _ (by intro e; cases e; omega)]; exact h.2.1 b' o' hlt
  · rw [World.frozen?_setCell]; exact h.2.2 b' o' hlt

/-- An integer's two cells, the call's own. -/
def IntBox (W : World) (b : Nat) (p q : Value) : Prop :=
  W.cell? ⟨b, 0, none⟩ = some p ∧ W.cell? ⟨b, 1, none⟩ = some q ∧ W.frozen? ⟨b, 0, none⟩ = false ∧ W.frozen? ⟨b, 1, none⟩ = false

theorem IntBox.mono {W W' : World} {b B : Nat} {p q : Value} (h : IntBox W b p q) (hb : Below B W W') (hlt : b < B) : IntBox W' b p q :=
  ⟨(hb.cell (p := ⟨b, 0, none⟩) hlt).trans h.1, (hb.cell (p := ⟨b, 1, none⟩) hlt).trans h.2.1, (hb.frozen (p := ⟨b, 0, none⟩) hlt).trans h.2.2.1, (hb.frozen (p := ⟨b, 1, none⟩) hlt).trans h.2.2.2⟩

theorem IntBox.new (W : World) (p q : Value) (t : TypeId) : IntBox (W.alloc (.cells #[p, q] t)) W.heap.size p q := by
  refine ⟨?_, ?_, ?_, ?_⟩ <;> simp

theorem IntBox.lt {W : World} {b : Nat} {p q : Value} (h : IntBox W b p q) : b < W.heap.size := World.block_lt_of_cell? W ⟨b, 0, none⟩ h.1

theorem Sl.setOther {w : World} {ao : Option Addr} {n c : Nat} {xs : List Int} (h : Sl w ao n c xs) {a : Addr} {v : Value} (ha : w.cell? a = some v) (hv : ∀ q, v ≠ .int .u32 q) (u : Value) : Sl (w.setCell a u) ao n c xs := by
  refine ⟨h.len, h.cap, h.digs, ?_⟩
  rcases h.cells.2 with h0 | ⟨b, off, hao, hlt, hc⟩
  · exact .inl h0
  · refine .inr ⟨b, off, hao, by rw [World.size_setCell]; exact hlt, fun j hj => ?_⟩
    rw [World.cell?_setCell_other _ _ _ _ (by intro e; rw [e, hc j hj] at ha; cases ha; exact hv _ rfl)]
    exact hc j hj

/-- The result is stored in its box. -/
theorem gives_store {w w3 : World} {r : Nat} {ng : Bool} {ao : Option Addr} {nn cc : Nat} {rs : List Int} {z : Int} (hI : IntBox w3 r (.bool false) (.slice none 0 0)) (hs : Sl w3 ao nn cc rs) (hc : Canon rs) (hn : ng = true → nn ≠ 0) (hz : z = sgn ng (val rs))
    (hb : Below w.heap.size w w3) (hr : w.heap.size ≤ r) :
    GivesInt w z (.returned (.agg #[.bool ng, .slice ao nn cc])) ((w3.setCell ⟨r, 0, none⟩ (.bool ng)).setCell ⟨r, 1, none⟩ (.slice ao nn cc)) := by
  have h1 : (w3.setCell ⟨r, 0, none⟩ (.bool ng)).cell? ⟨r, 1, none⟩ = some (.slice none 0 0) := by
    rw [World.cell?_setCell_other _ _ _ _ (by intro e; cases e)]; exact hI.2.1
  exact ⟨_, rfl, ⟨ng, ao, nn, cc, rs, rfl, (hs.setOther hI.1 (by intro q e; cases e) _).setOther h1 (by intro q e; cases e) _, hc, hn, hz⟩, (hb.setCell hr _).setCell hr _⟩

theorem Sl.drawn' {w w' : World} {ao : Option Addr} {n c : Nat} {xs : List Int} (h : Sl w ao n c xs) (d : Drawn w w') : Sl w' ao n c xs := h.mono (d.below _)

theorem len_le {w : World} {ax ay : Option Addr} {n m cx cy : Nat} {xs ys : List Int} (hc : Canon xs) (hX : Sl w ax n cx xs) (hY : Sl w ay m cy ys) (h : val xs ≤ val ys) : n ≤ m := by
  have h1 := val_lt hY.digs
  have h2 := hc.length_le (k := ys.length) (by omega)
  rw [hX.len, hY.len] at h2
  exact h2

/-- Three boxes: two arguments and the result. -/
theorem boxes3 (w : World) (a1 a2 b1 b2 : Value) (t : TypeId) :
    ∃ w0, w0 = ((w.alloc (.cells #[a1, a2] t)).alloc (.cells #[b1, b2] t)).alloc (.cells #[.bool false, .slice none 0 0] t) ∧ IntBox w0 w.heap.size a1 a2 ∧ IntBox w0 (w.heap.size + 1) b1 b2 ∧ IntBox w0 (w.heap.size + 1 + 1) (.bool false) (.slice none 0 0) ∧
      Below w.heap.size w w0 ∧ Hid (w0.heap.size = w.heap.size + 3) := by
  have l1 := (Below.refl (w.heap.size + 1) (w.alloc (.cells #[a1, a2] t))).alloc (by simp) (.cells #[b1, b2] t)
  have l2 := (Below.refl (w.heap.size + 1 + 1) ((w.alloc (.cells #[a1, a2] t)).alloc (.cells #[b1, b2] t))).alloc (by simp) (.cells #[.bool false, .slice none 0 0] t)
  refine ⟨_, rfl, ?_, ?_, ?_, ?_, ?_⟩
  · exact ((IntBox.new w a1 a2 t).mono l1 (by omega)).mono l2 (by omega)
  · have := IntBox.new (w.alloc (.cells #[a1, a2] t)) b1 b2 t
    rw [World.size_alloc] at this
    exact this.mono l2 (by omega)
  · have := IntBox.new ((w.alloc (.cells #[a1, a2] t)).alloc (.cells #[b1, b2] t)) (.bool false) (.slice none 0 0) t
    rw [World.size_alloc, World.size_alloc] at this
    exact this
  · exact (((Below.refl _ _).alloc (Nat.le_refl _) _).alloc (by simp) _).alloc (by simp; omega) _
  · show _ = _
    simp

end Go.Proofs.YthgpcgijhmgenaaDoor

/- Walk: Add. -/
namespace Go.Proofs.YthgpcgijhmgenaaDoor
open Go.RowKit

set_option maxHeartbeats 1000000 in
theorem Add_any (w : World) (na nb : Bool) (ax ay : Option Addr) (n m cx cy : Nat) (xs ys : List Int) (hX : Sl w ax n cx xs) (hY : Sl w ay m cy ys) (hb1 : n ≤ 1000000) (hb2 : m ≤ 1000000) :
    Calls Tryd.prog 51 #[.agg #[.bool na, .slice ax n cx], .agg #[.bool nb, .slice ay m cy]] w (GivesInt w (sgn na (val xs) + sgn nb (val ys))) := by
  go_enter Tryd.func51, Tryd.ntmps51
  go_wp2
  obtain ⟨w0, hw0, hA, hB, hC, hbl, HS⟩ := boxes3 w (.bool na) (.slice ax n cx) (.bool nb) (.slice ay m cy) 27
  rw [← hw0]
  clear hw0
  have hXd := (hX.mono hbl).drew
  have hYd := (hY.mono hbl).drew
  have hcut : w.heap.size + 2 ≤ w0.heap.size := by have := HS.out; omega
  obtain ⟨ca0, ca1, _, _⟩ := hA
  obtain ⟨cb0, cb1, _, _⟩ := hB
  go_region_held3 (fun W => w.heap.size + 2 ≤ W.heap.size ∧ (∀ b o, b < w.heap.size + 2 → W.cell? ⟨b, o, none⟩ = w0.cell? ⟨b, o, none⟩) ∧ ∀ b o, b < w.heap.size + 2 → W.frozen? ⟨b, o, none⟩ = w0.frozen? ⟨b, o, none⟩)
    (first | exact Kept.start hcut | assumption)
    (first | (go_at_call 57; (with_reducible refine (trim_any _ _ _ _ _ hXd (by omega)).mono ?_); rintro e w' ⟨m1, rfl, hm1, hs1, hv1, hc1, rfl⟩) | (go_at_call 57; (with_reducible refine (trim_any _ _ _ _ _ hYd (by omega)).mono ?_); rintro e w' ⟨m2, rfl, hm2, hs2, hv2, hc2, rfl⟩))
  by_cases hn : na = nb
  · subst hn
    have hnn : (na == na) = true := by simp
    go_wp2
    obtain ⟨w1, hw1⟩ : ∃ w1, w1 = w0.drew := ⟨_, rfl⟩
    rw [← hw1]
    have da0 : w1.cell? ⟨w.heap.size, 0, none⟩ = some (.bool na) := by rw [hw1]; exact ca0
    have hC1 : IntBox w1 (w.heap.size + 1 + 1) (.bool false) (.slice none 0 0) := by rw [hw1]; exact hC
    have hcut1 : w.heap.size + 2 ≤ w1.heap.size := by rw [hw1]; exact hcut
    have hbl1 : Below w.heap.size w w1 := by rw [hw1]; exact hbl.drew
    rw [← hw1] at hs1 hs2
    have hC1d : IntBox w1.drew (w.heap.size + 1 + 1) (.bool false) (.slice none 0 0) := hC1
    have hs1d := hs1.drew
    have hs2d := hs2.drew
    clear hw1 ca0 ca1 cb0 cb1 hXd hYd hcut hbl hC
    go_region_held3 (fun W => w.heap.size + 2 ≤ W.heap.size ∧ (∀ b o, b < w.heap.size + 2 → W.cell? ⟨b, o, none⟩ = w1.cell? ⟨b, o, none⟩) ∧ ∀ b o, b < w.heap.size + 2 → W.frozen? ⟨b, o, none⟩ = w1.frozen? ⟨b, o, none⟩)
      (first | exact Kept.start hcut1 | assumption | exact Kept.call (by assumption) (by assumption) | exact Kept.set (Kept.set (by assumption) (by omega) _) (by omega) _)
      (first | (go_at_call 75; (with_reducible refine (addSize_any _ _ _ _ _ _ _ _ _ hs1d hs2d (by omega) (by omega)).mono ?_); rintro e w2 ⟨az, k, cz, zs, rfl, hk, hsz, hvz, hB2⟩) | (go_at_call 61; (with_reducible refine (signed_any _ _ _ _ _ _ hsz (by omega)).mono ?_); rintro e w3 ⟨v, rfl, ⟨ng, ao, nn, cc, rs, rfl, hrs, hrc, hrn, hrz⟩, hb3⟩; obtain ⟨e0, e1, e2, e3⟩ := (hC1d.mono hB2 hC1d.lt).mono hb3 (Nat.lt_of_lt_of_le hC1d.lt hB2.size)))
    go_wp2
    refine bodyPost_ret (v := .agg #[.bool ng, .slice ao nn cc]) ?_ rfl ?_
    · simp [results, Tryd.results51, go_sem, e0, e1]
    · have hb4 : Below w.heap.size w w3 := (hbl1.drew.trans (hB2.mono (by have := HS.out; simp; omega))).trans (hb3.mono (by have := HS.out; have := hB2.size; simp at this; omega))
      have hz : sgn na (val xs) + sgn na (val ys) = sgn ng (val rs) := by
        rw [← hrz, hvz, hv1, hv2]; cases na <;> simp [sgn]; omega
      exact gives_store ⟨e0, e1, e2, e3⟩ hrs hrc hrn hz hb4 (by omega)
  · have hnn : (na == nb) = false := by simp [hn]
    go_wp2_with fail
    obtain ⟨w1, hw1⟩ : ∃ w1, w1 = w0.drew := ⟨_, rfl⟩
    rw [← hw1]
    have da0 : w1.cell? ⟨w.heap.size, 0, none⟩ = some (.bool na) := by rw [hw1]; exact ca0
    have db0 : w1.cell? ⟨w.heap.size + 1, 0, none⟩ = some (.bool nb) := by rw [hw1]; exact cb0
    have hC1 : IntBox w1 (w.heap.size + 1 + 1) (.bool false) (.slice none 0 0) := by rw [hw1]; exact hC
    have hcut1 : w.heap.size + 2 ≤ w1.heap.size := by rw [hw1]; exact hcut
    have hbl1 : Below w.heap.size w w1 := by rw [hw1]; exact hbl.drew
    have HS1 : Hid (w1.heap.size = w.heap.size + 3) := by rw [hw1]; exact HS
    rw [← hw1] at hs1 hs2
    clear hw1 ca0 ca1 cb0 cb1 hXd hYd hcut hbl hC
    by_cases hlt : val xs < val ys
    · have hcm : cmpI (val xs) (val ys) = -1 := if_pos hlt
      go_wp2_with (go_at_call 60; (with_reducible refine (cmpSize_any _ _ _ _ _ _ _ _ _ hs1 hs2 hc1 hc2 (by omega) (by omega)).mono ?_); rintro e w2 ⟨rfl, hd⟩)
      have hs1d := (hs1.drawn' hd).drew
      have hs2d := (hs2.drawn' hd).drew
      have da0' := (hd.cell _).trans db0
      have hC2 : IntBox w2 (w.heap.size + 1 + 1) (.bool false) (.slice none 0 0) := hC1.mono (hd.below _) (Nat.lt_succ_self _)
      have hC2d : IntBox w2.drew (w.heap.size + 1 + 1) (.bool false) (.slice none 0 0) := hC2
      have hcut2 : w.heap.size + 2 ≤ w2.heap.size := by rw [hd.size]; exact hcut1
      have hbl2 : Below w.heap.size w w2 := hbl1.trans (hd.below _)
      have hsz2 : w2.heap.size = w1.heap.size := hd.size
      have HSZ2 := hidd hsz2
      clear hsz2 hcm da0 db0 hC1
      go_region_held3 (fun W => w.heap.size + 2 ≤ W.heap.size ∧ (∀ b o, b < w.heap.size + 2 → W.cell? ⟨b, o, none⟩ = w2.cell? ⟨b, o, none⟩) ∧ ∀ b o, b < w.heap.size + 2 → W.frozen? ⟨b, o, none⟩ = w2.frozen? ⟨b, o, none⟩)
        (first | exact Kept.start hcut2 | assumption | exact Kept.call (by assumption) (by assumption) | exact Kept.set (Kept.set (by assumption) (by omega) _) (by omega) _)
        (first | (go_at_call 76; (with_reducible refine (subSize_any _ _ _ _ _ _ _ _ _ hs2d hs1d (by exact len_le hc1 hs1 hs2 (by rw [hv1, hv2]; omega)) (by rw [hv1, hv2]; omega) (by omega)).mono ?_); rintro e w3 ⟨az, cz, zs, rfl, hsz, hvz, hB2⟩) | (go_at_call 61; (with_reducible refine (signed_any _ _ _ _ _ _ hsz (by omega)).mono ?_); rintro e w4 ⟨v, rfl, ⟨ng, ao, nn, cc, rs, rfl, hrs, hrc, hrn, hrz⟩, hb3⟩; obtain ⟨e0, e1, e2, e3⟩ := (hC2d.mono hB2 hC2d.lt).mono hb3 (Nat.lt_of_lt_of_le hC2d.lt hB2.size)))
      go_wp2
      refine bodyPost_ret (v := .agg #[.bool ng, .slice ao nn cc]) ?_ rfl ?_
      · simp [results, Tryd.results51, go_sem, e0, e1]
      · have hb4 : Below w.heap.size w w4 := (hbl2.drew.trans (hB2.mono (by simp; omega))).trans (hb3.mono (by have := hB2.size; simp at this; omega))
        have hz : sgn na (val xs) + sgn nb (val ys) = sgn ng (val rs) := by
          rw [← hrz, hvz, hv1, hv2]; cases na <;> cases nb <;> simp [sgn] at hn ⊢ <;> omega
        exact gives_store ⟨e0, e1, e2, e3⟩ hrs hrc hrn hz hb4 (by omega)
    · have hge : 0 ≤ cmpI (val xs) (val ys) := by unfold cmpI; rw [if_neg hlt]; split <;> decide
      go_wp2_with (go_at_call 60; (with_reducible refine (cmpSize_any _ _ _ _ _ _ _ _ _ hs1 hs2 hc1 hc2 (by omega) (by omega)).mono ?_); rintro e w2 ⟨rfl, hd⟩)
      have hs1d := (hs1.drawn' hd).drew
      have hs2d := (hs2.drawn' hd).drew
      have da0' := (hd.cell _).trans da0
      have hC2 : IntBox w2 (w.heap.size + 1 + 1) (.bool false) (.slice none 0 0) := hC1.mono (hd.below _) (Nat.lt_succ_self _)
      have hC2d : IntBox w2.drew (w.heap.size + 1 + 1) (.bool false) (.slice none 0 0) := hC2
      have hcut2 : w.heap.size + 2 ≤ w2.heap.size := by rw [hd.size]; exact hcut1
      have hbl2 : Below w.heap.size w w2 := hbl1.trans (hd.below _)
      have hsz2 : w2.heap.size = w1.heap.size := hd.size
      have HSZ2 := hidd hsz2
      clear hsz2 hge da0 db0 hC1
      go_region_held3 (fun W => w.heap.size + 2 ≤ W.heap.size ∧ (∀ b o, b < w.heap.size + 2 → W.cell? ⟨b, o, none⟩ = w2.cell? ⟨b, o, none⟩) ∧ ∀ b o, b < w.heap.size + 2 → W.frozen? ⟨b, o, none⟩ = w2.frozen? ⟨b, o, none⟩)
        (first | exact Kept.start hcut2 | assumption | exact Kept.call (by assumption) (by assumption) | exact Kept.set (Kept.set (by assumption) (by omega) _) (by omega) _)
        (first | (go_at_call 76; (with_reducible refine (subSize_any _ _ _ _ _ _ _ _ _ hs1d hs2d (by exact len_le hc2 hs2 hs1 (by rw [hv1, hv2]; omega)) (by rw [hv1, hv2]; omega) (by omega)).mono ?_); rintro e w3 ⟨az, cz, zs, rfl, hsz, hvz, hB2⟩) | (go_at_call 61; (with_reducible refine (signed_any _ _ _ _ _ _ hsz (by omega)).mono ?_); rintro e w4 ⟨v, rfl, ⟨ng, ao, nn, cc, rs, rfl, hrs, hrc, hrn, hrz⟩, hb3⟩; obtain ⟨e0, e1, e2, e3⟩ := (hC2d.mono hB2 hC2d.lt).mono hb3 (Nat.lt_of_lt_of_le hC2d.lt hB2.size)))
      go_wp2
      refine bodyPost_ret (v := .agg #[.bool ng, .slice ao nn cc]) ?_ rfl ?_
      · simp [results, Tryd.results51, go_sem, e0, e1]
      · have hb4 : Below w.heap.size w w4 := (hbl2.drew.trans (hB2.mono (by simp; omega))).trans (hb3.mono (by have := hB2.size; simp at this; omega))
        have hz : sgn na (val xs) + sgn nb (val ys) = sgn ng (val rs) := by
          rw [← hrz, hvz, hv1, hv2]; cases na <;> cases nb <;> simp [sgn] at hn ⊢ <;> omega
        exact gives_store ⟨e0, e1, e2, e3⟩ hrs hrc hrn hz hb4 (by omega)

end Go.Proofs.YthgpcgijhmgenaaDoor

/- Walks: a size times a word is added; the product of sizes. -/
namespace Go.Proofs.YthgpcgijhmgenaaDoor
open Go.RowKit

end Go.Proofs.YthgpcgijhmgenaaDoor

/- Walks: Neg, Abs, Mul, Sign, Bits. -/
namespace Go.Proofs.YthgpcgijhmgenaaDoor
open Go.RowKit

theorem sgn_zero {v : Int} (b : Bool) (h : v = 0) : sgn b v = 0 := by subst h; cases b <;> rfl

set_option maxHeartbeats 1000000 in
theorem Sign_any (w : World) (na : Bool) (ax : Option Addr) (n cx : Nat) (xs : List Int) (hX : Sl w ax n cx xs) (hb1 : n ≤ 1000000) :
    Calls Tryd.prog 30 #[.agg #[.bool na, .slice ax n cx]] w fun e w' => e = .returned (.int .i64 (cmpI (sgn na (val xs)) 0)) ∧ Below w.heap.size w w' := by
  have hX0 : ∀ o, Sl (w.alloc o) ax n cx xs := fun o => hX.mono ((Below.refl _ _).alloc (Nat.le_refl _) o)
  go_enter Tryd.func30, Tryd.ntmps30
  go_wp2_with fail
  refine (trim_any _ _ _ _ _ (hX0 _) (by omega)).mono ?_
  rintro e w' ⟨m, rfl, hm, hs, hv, hc, rfl⟩
  have hml := hs.len
  have hz := hc.zero
  rw [hml, hv] at hz
  have h0 := val_nonneg hX.digs
  by_cases hm0 : m = 0
  · have HV : Hid (val xs = 0) := hz.1 hm0
    clear hz hml
    subst hm0
    go_wp2
    go_ret
    exact ⟨by rw [HV.out, sgn_zero _ rfl]; rfl, (Below.refl _ _).alloc (Nat.le_refl _) _⟩
  · have hne : val xs ≠ 0 := fun h => hm0 (hz.2 h)
    have hm1 : ((m : Int) == 0) = false := by simp; omega
    clear hz hml
    cases na
    · have HV : Hid (cmpI (sgn false (val xs)) 0 = 1) := (if_neg (by simp [sgn]; omega)).trans (if_neg (by simp [sgn]; omega))
      go_wp2
      go_ret
      exact ⟨by rw [HV.out]; rfl, (Below.refl _ _).alloc (Nat.le_refl _) _⟩
    · have HV : Hid (cmpI (sgn true (val xs)) 0 = -1) := if_pos (by simp [sgn]; omega)
      go_wp2
      go_ret
      exact ⟨by rw [HV.out]; rfl, (Below.refl _ _).alloc (Nat.le_refl _) _⟩

set_option maxHeartbeats 1000000 in
theorem Bits_any (w : World) (na : Bool) (ax : Option Addr) (n cx : Nat) (xs : List Int) (hX : Sl w ax n cx xs) (hb1 : n ≤ 1000000) :
    Calls Tryd.prog 31 #[.agg #[.bool na, .slice ax n cx]] w fun e w' => ∃ m : Nat, e = .returned (.int .i64 m) ∧ IsBits (val xs) m ∧ m ≤ 32 * n ∧ Below w.heap.size w w' := by
  have hX0 : ∀ o, Sl (w.alloc o) ax n cx xs := fun o => hX.mono ((Below.refl _ _).alloc (Nat.le_refl _) o)
  go_enter Tryd.func31, Tryd.ntmps31
  go_wp2_with (first | (go_at_call 57; (with_reducible refine (trim_any _ _ _ _ _ (hX0 _) (by omega)).mono ?_); rintro e w' ⟨m, rfl, hm, hs, hv, hc, rfl⟩) | (go_at_call 58; (with_reducible refine (bits_any _ _ _ _ _ hs hc (by omega)).mono ?_); rintro e w' ⟨k, rfl, hk, hkb, rfl⟩))
  go_ret
  exact ⟨k, rfl, by rw [← hv]; exact hk, by omega, (Below.refl _ _).alloc (Nat.le_refl _) _⟩

end Go.Proofs.YthgpcgijhmgenaaDoor

/- Walks: a word as a size, and the division of a size by a word in its place. -/
namespace Go.Proofs.YthgpcgijhmgenaaDoor
open Go.RowKit

set_option maxHeartbeats 400000 in
theorem fromWord_any (w : World) (q : Int) (hq0 : 0 ≤ q) (hq1 : q < 18446744073709551616) :
    Calls Tryd.prog 62 #[.int .u64 q] w fun e w' => ∃ ao m c zs, e = .returned (.slice ao m c) ∧ m ≤ 2 ∧ Sl w' ao m c zs ∧ Canon zs ∧ val zs = q ∧ Below w.heap.size w w' := by
  have hr : Row (w.alloc (.cells #[.int .u32 (q % 4294967296), .int .u32 (q / 4294967296)] 41)) 41 w.heap.size [q % 4294967296, q / 4294967296] := by
    refine ⟨fun x hx => ?_, ?_⟩
    · simp at hx
      unfold Dig
      rcases hx with rfl | rfl <;> omega
    · rw [heap_alloc_new]; rfl
  have hs := hr.sl (n := 2) rfl
  have hbl : Below w.heap.size w (w.alloc (.cells #[.int .u32 (q % 4294967296), .int .u32 (q / 4294967296)] 41)) := (Below.refl _ _).alloc (Nat.le_refl _) _
  have hv : val [q % 4294967296, q / 4294967296] = q := by simp only [val]; omega
  have HV := hidd hv
  clear hv hr
  go_enter Tryd.func62, Tryd.ntmps62
  go_wp2_with (go_at_call 57; refine (trim_any _ _ _ _ _ hs (by omega)).mono ?_; rintro e w' ⟨m, rfl, hm, hsm, hvm, hcm, rfl⟩)
  go_ret
  exact ⟨_, m, 2, _, rfl, hm, hsm, hcm, hvm.trans HV.out, hbl⟩

end Go.Proofs.YthgpcgijhmgenaaDoor

/- Walks: Valid, Of, Low, Cmp, Sub. -/
namespace Go.Proofs.YthgpcgijhmgenaaDoor
open Go.RowKit

theorem alloc_below (w : World) (o : Obj) : Below w.heap.size w (w.alloc o) := (Below.refl _ _).alloc (Nat.le_refl _) o

theorem box1 (w : World) (t : TypeId) : IntBox (w.alloc (.cells #[.bool false, .slice none 0 0] t)) w.heap.size (.bool false) (.slice none 0 0) := IntBox.new w _ _ t

set_option maxHeartbeats 1000000 in
theorem Of_any (w : World) (z : Int) (h0 : -9223372036854775808 ≤ z) (h1 : z ≤ 9223372036854775807) :
    Calls Tryd.prog 38 #[.int .i64 z] w (GivesInt w z) := by
  have hC := box1 w 27
  have hCb := alloc_below w (.cells #[.bool false, .slice none 0 0] 27)
  by_cases hz : z < 0
  · have hq : IntKind.u64.wrap (-(IntKind.u64.wrap z)) = -z := by rw [u64_wrap, u64_wrap]; omega
    have hq' : IntKind.u64.wrap (-(z % 18446744073709551616)) = -z := by rw [u64_wrap]; omega
    go_enter Tryd.func38, Tryd.ntmps38
    go_wp2_with fail
    refine (fromWord_any _ (-z) (by omega) (by omega)).mono ?_
    rintro e w2 ⟨a2, n2, c2, zs2, rfl, hn2, hs2, hc2, hv2, hB2⟩
    go_wp2_with fail
    refine (signed_any _ _ _ _ _ _ hs2 (by omega)).mono ?_
    rintro e w3 ⟨v, rfl, ⟨ng, ao, nn, cc, rs, rfl, hrs, hrc, hrn, hrz⟩, hb3⟩
    obtain ⟨e0, e1, e2, e3⟩ := (hC.mono hB2 hC.lt).mono hb3 (Nat.lt_of_lt_of_le hC.lt hB2.size)
    have HZ : Hid (z = sgn ng (val rs)) := by
      show _ = _
      rw [← hrz, hv2]; simp [sgn]
    have hb4 : Below w.heap.size w w3 := (hCb.trans (hB2.mono hCb.size)).trans (hb3.mono (Nat.le_trans hCb.size hB2.size))
    clear hrz hv2 hC hq hq'
    go_wp2
    refine bodyPost_ret (v := .agg #[.bool ng, .slice ao nn cc]) ?_ rfl ?_
    · simp [results, Tryd.results38, go_sem, e0, e1]
    · exact gives_store ⟨e0, e1, e2, e3⟩ hrs hrc hrn HZ.out hb4 (Nat.le_refl _)
  · have hq : IntKind.u64.wrap z = z := by rw [u64_wrap]; omega
    go_enter Tryd.func38, Tryd.ntmps38
    go_wp2_with fail
    refine (fromWord_any _ z (by omega) (by omega)).mono ?_
    rintro e w2 ⟨a2, n2, c2, zs2, rfl, hn2, hs2, hc2, hv2, hB2⟩
    go_wp2_with fail
    refine (signed_any _ _ _ _ _ _ hs2 (by omega)).mono ?_
    rintro e w3 ⟨v, rfl, ⟨ng, ao, nn, cc, rs, rfl, hrs, hrc, hrn, hrz⟩, hb3⟩
    obtain ⟨e0, e1, e2, e3⟩ := (hC.mono hB2 hC.lt).mono hb3 (Nat.lt_of_lt_of_le hC.lt hB2.size)
    have HZ : Hid (z = sgn ng (val rs)) := by
      show _ = _
      rw [← hrz, hv2]; simp [sgn]
    have hb4 : Below w.heap.size w w3 := (hCb.trans (hB2.mono hCb.size)).trans (hb3.mono (Nat.le_trans hCb.size hB2.size))
    clear hrz hv2 hC hq
    go_wp2
    refine bodyPost_ret (v := .agg #[.bool ng, .slice ao nn cc]) ?_ rfl ?_
    · simp [results, Tryd.results38, go_sem, e0, e1]
    · exact gives_store ⟨e0, e1, e2, e3⟩ hrs hrc hrn HZ.out hb4 (Nat.le_refl _)

end Go.Proofs.YthgpcgijhmgenaaDoor

/- Steps of a region that draws its order: load, store, alloc, call, move, assign, extract, build. -/
namespace Go.Proofs.YthgpcgijhmgenaaDoor
open Go Go.RowKit

section
variable {ops : Array Oper} {Q : Exit → Act → World → Prop} {K : Act → World → Prop} {a : Act} {w : World} {i : Nat} {d : Option Tmp} {ty : TypeId} {ps : String} {af : Array Edge}

theorem op_store {x y : Operand} {b : Nat} {p q : Value} {n' : Bool} {a' : Option Addr} {k' c' : Nat} (ho : ops[i]? = some { dst := d, op := .store 27 x y, type := ty, pos := ps, after := af, guard := none }) (hx : a.eval x = .pointer (some ⟨b, 0, none⟩)) (hy : a.eval y = .agg #[.bool n', .slice a' k' c']) (h0 : IntBox w b p q)
    (h : K (a.put d undef) ((w.setCell ⟨b, 0, none⟩ (.bool n')).setCell ⟨b, 1, none⟩ (.slice a' k' c'))) : wpOp Tryd.prog ops Q i K a w := by
  refine wpOp_step ho fun K' hK => ?_
  obtain ⟨e0, e1, e2, e3⟩ := h0
  have e : (execOp a.eval ({ dst := d, op := .store 27 x y, type := ty, pos := ps, after := af, guard := none } : Oper)).run Tryd.prog w = (.ok .skip ((w.setCell ⟨b, 0, none⟩ (.bool n')).setCell ⟨b, 1, none⟩ (.slice a' k' c'))) := by
    generalize a.eval = ρ at hx hy
    simp [execOp, go_sem, hx, hy, e0, e1, e2, e3]
  have hwn : Region.wanted ({ dst := d, op := .store 27 x y, type := ty, pos := ps, after := af, guard := none } : Oper) (yielded ops a.tmps) = true := rfl
  rw [if_pos hwn]
  unfold Oper.wp
  rw [e]
  exact hK _ _ h

theorem op_alloc (ho : ops[i]? = some { dst := d, op := .alloc 27, type := ty, pos := ps, after := af, guard := none })
    (h : K (a.put d (.pointer (some ⟨w.heap.size, 0, none⟩))) (w.alloc (.cells #[.bool false, .slice none 0 0] 27))) : wpOp Tryd.prog ops Q i K a w := by
  refine wpOp_step ho fun K' hK => ?_
  have e : (execOp a.eval ({ dst := d, op := .alloc 27, type := ty, pos := ps, after := af, guard := none } : Oper)).run Tryd.prog w = (.ok (.value (.pointer (some ⟨w.heap.size, 0, none⟩))) (w.alloc (.cells #[.bool false, .slice none 0 0] 27))) := by
    generalize a.eval = ρ
    simp [execOp, go_sem]
  have hwn : Region.wanted ({ dst := d, op := .alloc 27, type := ty, pos := ps, after := af, guard := none } : Oper) (yielded ops a.tmps) = true := rfl
  rw [if_pos hwn]
  unfold Oper.wp
  rw [e]
  exact hK _ _ h

end

theorem enter_of {f : FuncId} {fn : Func} {c : Code} (hf : Tryd.prog.funcs[f]? = some fn) (hname : (fn.name == "runtime.NumGoroutine") = false) (hb : fn.body = some c) (args : Array Value) (w : World) :
    (callFunc f args).run Tryd.prog w = .ok (.enter f args) w := by
  have h1 : ¬ fn.name = "runtime.NumGoroutine" := by simpa using hname
  simp [callFunc, hf, h1, hb, go_sem]

end Go.Proofs.YthgpcgijhmgenaaDoor

/- A region that draws its order, over boxes of integers. -/
namespace Go.Proofs.YthgpcgijhmgenaaDoor
open Go Go.RowKit

/-- A number in its canonical form, of at most 900000 words. -/
def Num (w : World) (v : Value) (z : Int) : Prop :=
  ∃ (neg : Bool) (ao : Option Addr) (n c : Nat) (xs : List Int), v = .agg #[.bool neg, .slice ao n c] ∧ Sl w ao n c xs ∧ n ≤ 900000 ∧ z = sgn neg (val xs) ∧ Canon xs ∧ (neg = true → n ≠ 0)

theorem Num.mono {w w' : World} {v : Value} {z : Int} (h : Num w v z) (hb : Below w.heap.size w w') : Num w' v z := by
  obtain ⟨neg, ao, n, c, xs, hv, hs, hn, hz⟩ := h
  exact ⟨neg, ao, n, c, xs, hv, hs.mono hb, hn, hz⟩

/-- A box that holds a number. -/
def BoxNum (w : World) (b : Nat) (z : Int) : Prop := ∃ (n : Bool) (ao : Option Addr) (k c : Nat), IntBox w b (.bool n) (.slice ao k c) ∧ Num w (.agg #[.bool n, .slice ao k c]) z

theorem BoxNum.lt {w : World} {b : Nat} {z : Int} (h : BoxNum w b z) : b < w.heap.size := by
  obtain ⟨n, ao, k, c, hI, _⟩ := h
  exact hI.lt

theorem BoxNum.mono {w w' : World} {b : Nat} {z : Int} (h : BoxNum w b z) (hb : Below w.heap.size w w') : BoxNum w' b z := by
  have hl := h.lt
  obtain ⟨n, ao, k, c, hI, hN⟩ := h
  exact ⟨n, ao, k, c, hI.mono hb hl, hN.mono hb⟩

/-- An integer is stored in a box. -/
def putBox (w : World) (b : Nat) (n : Bool) (ao : Option Addr) (k c : Nat) : World := (w.setCell ⟨b, 0, none⟩ (.bool n)).setCell ⟨b, 1, none⟩ (.slice ao k c)

theorem putBox_size (w : World) (b : Nat) (n : Bool) (ao : Option Addr) (k c : Nat) : (putBox w b n ao k c).heap.size = w.heap.size := by
  unfold putBox; rw [World.size_setCell, World.size_setCell]

theorem Sl.putBox {w : World} {ao : Option Addr} {n c : Nat} {xs : List Int} (h : Sl w ao n c xs) {b : Nat} {p' : Bool} {q' : Option Addr} {r' s' : Nat} (hI : IntBox w b (.bool p') (.slice q' r' s')) (n' : Bool) (a' : Option Addr) (k' c' : Nat) : Sl (putBox w b n' a' k' c') ao n c xs := by
  have h1 : (w.setCell ⟨b, 0, none⟩ (.bool n')).cell? ⟨b, 1, none⟩ = some (.slice q' r' s') := by
    rw [World.cell?_setCell_other _ _ _ _ (by intro e; cases e)]; exact hI.2.1
  exact (h.setOther hI.1 (by intro q e; cases e) _).setOther h1 (by intro q e; cases e) _

theorem Num.putBox {w : World} {v : Value} {z y : Int} {b : Nat} (h : Num w v z) (hb : BoxNum w b y) (n' : Bool) (a' : Option Addr) (k' c' : Nat) : Num (putBox w b n' a' k' c') v z := by
  obtain ⟨neg, ao, n, c, xs, hv, hs, hn, hz⟩ := h
  obtain ⟨_, _, _, _, hI, _⟩ := hb
  exact ⟨neg, ao, n, c, xs, hv, hs.putBox hI _ _ _ _, hn, hz⟩

theorem IntBox.putOther {w : World} {b b' : Nat} {p q : Value} (h : IntBox w b p q) (hne : b ≠ b') (n' : Bool) (a' : Option Addr) (k' c' : Nat) : IntBox (putBox w b' n' a' k' c') b p q := by
  unfold Go.Proofs.YthgpcgijhmgenaaDoor.putBox
  refine ⟨?_, ?_, ?_, ?_⟩
  · rw [World.cell?_setCell_other _ _ _ _ (by intro e; exact hne (congrArg Addr.block e).symm), World.cell?_setCell_other _ _ _ _ (by intro e; exact hne (congrArg Addr.block e).symm)]; exact h.1
  · rw [World.cell?_setCell_other _ _ _ _ (by intro e; exact hne (congrArg Addr.block e).symm), World.cell?_setCell_other _ _ _ _ (by intro e; exact hne (congrArg Addr.block e).symm)]; exact h.2.1
  · rw [World.frozen?_setCell, World.frozen?_setCell]; exact h.2.2.1
  · rw [World.frozen?_setCell, World.frozen?_setCell]; exact h.2.2.2

theorem BoxNum.putOther {w : World} {b b' : Nat} {z y : Int} (h : BoxNum w b z) (hb : BoxNum w b' y) (hne : b ≠ b') (n' : Bool) (a' : Option Addr) (k' c' : Nat) : BoxNum (putBox w b' n' a' k' c') b z := by
  obtain ⟨n, ao, k, c, hI, hN⟩ := h
  exact ⟨n, ao, k, c, hI.putOther hne _ _ _ _, hN.putBox hb _ _ _ _⟩

theorem BoxNum.putSame {w : World} {b : Nat} {z y : Int} {n' : Bool} {a' : Option Addr} {k' c' : Nat} (h : BoxNum w b y) (hN : Num w (.agg #[.bool n', .slice a' k' c']) z) : BoxNum (putBox w b n' a' k' c') b z := by
  have hN' := hN.putBox h n' a' k' c'
  obtain ⟨n, ao, k, c, hI, _⟩ := h
  refine ⟨n', a', k', c', ⟨?_, ?_, ?_, ?_⟩, hN'⟩
  · unfold Go.Proofs.YthgpcgijhmgenaaDoor.putBox
    rw [World.cell?_setCell_other _ _ _ _ (by intro e; cases e)]
    exact World.cell?_setCell_same' _ _ _ (by rw [hI.1]; rfl)
  · unfold Go.Proofs.YthgpcgijhmgenaaDoor.putBox
    refine World.cell?_setCell_same' _ _ _ ?_
    rw [World.cell?_setCell_other _ _ _ _ (by intro e; cases e), hI.2.1]; rfl
  · unfold Go.Proofs.YthgpcgijhmgenaaDoor.putBox
    rw [World.frozen?_setCell, World.frozen?_setCell]; exact hI.2.2.1
  · unfold Go.Proofs.YthgpcgijhmgenaaDoor.putBox
    rw [World.frozen?_setCell, World.frozen?_setCell]; exact hI.2.2.2

theorem belowPut {B : Nat} {w w' : World} (h : Below B w w') {b : Nat} (hb : B ≤ b) (n' : Bool) (a' : Option Addr) (k' c' : Nat) : Below B w (putBox w' b n' a' k' c') := (h.setCell hb _).setCell hb _

/-- What a region's operations are to give: C: the values; old: boxes from before (block, the store's number, the number before it, and behind it); new: boxes of its own (the allocation's number, the store's, the number stored). -/
structure Plan where
  C : Nat → Value → World → Prop
  old : List (Nat × Nat × Int × Int)
  new : List (Nat × Nat × Int)

/-- What is held at any time. -/
structure Plan.G (p : Plan) (B B0 : Nat) (w0 : World) (L : Nat → Bool) (vs : Nat → Value) (w : World) : Prop where
  below : Below B w0 w
  size : B0 ≤ w.heap.size
  val : ∀ j, L j = true → p.C j (vs j) w
  old : ∀ o ∈ p.old, BoxNum w o.1 (if L o.2.1 then o.2.2.2 else o.2.2.1)
  new : ∀ n ∈ p.new, L n.1 = true → ∃ b, vs n.1 = .pointer (some ⟨b, 0, none⟩) ∧ B0 ≤ b ∧ BoxNum w b (if L n.2.1 then n.2.2 else 0)
  apart : ∀ n ∈ p.new, ∀ m ∈ p.new, n.1 ≠ m.1 → L n.1 = true → L m.1 = true → vs n.1 ≠ vs m.1

/-- What the plan itself must meet. -/
structure Plan.Ok (p : Plan) (B B0 : Nat) : Prop where
  mono : ∀ j v w w', p.C j v w → Below w.heap.size w w' → p.C j v w'
  put : ∀ j v w b y n' a' k' c', p.C j v w → BoxNum w b y → p.C j v (putBox w b n' a' k' c')
  oldlt : ∀ o ∈ p.old, B ≤ o.1 ∧ o.1 < B0
  oldne : ∀ o ∈ p.old, ∀ q ∈ p.old, o.2.1 ≠ q.2.1 → o.1 ≠ q.1
  newinj : ∀ n ∈ p.new, ∀ m ∈ p.new, n.1 = m.1 → n = m
  le : B ≤ B0

/-- An operation that stores nothing in a box, and makes none. -/
theorem Plan.G.plain {p : Plan} {B B0 : Nat} {w0 w w' : World} {L : Nat → Bool} {vs : Nat → Value} (h : p.G B B0 w0 L vs w) (hp : p.Ok B B0) {i : Nat} {v : Value} (hL : L i = false) (hb : Below w.heap.size w w') (hC : p.C i v w')
    (h1 : ∀ o ∈ p.old, o.2.1 ≠ i) (h2 : ∀ n ∈ p.new, n.1 ≠ i ∧ n.2.1 ≠ i) : p.G B B0 w0 (up L i true) (up vs i v) w' where
  below := h.below.trans (hb.mono (Nat.le_trans hp.le h.size))
  size := Nat.le_trans h.size hb.size
  val := fun j hj => by
    by_cases hji : j = i
    · subst hji; rw [up_same]; exact hC
    · rw [up_ne _ _ hji] at hj ⊢; exact hp.mono _ _ _ _ (h.val j hj) hb
  old := fun o ho => by rw [up_ne _ _ (h1 o ho)]; exact (h.old o ho).mono hb
  new := fun n hn hj => by
    rw [up_ne _ _ (h2 n hn).1] at hj ⊢
    rw [up_ne _ _ (h2 n hn).2]
    obtain ⟨b, e1, e2, e3⟩ := h.new n hn hj
    exact ⟨b, e1, e2, e3.mono hb⟩
  apart := fun n hn m hm hne hj hk => by
    rw [up_ne _ _ (h2 n hn).1] at hj ⊢
    rw [up_ne _ _ (h2 m hm).1] at hk ⊢
    exact h.apart n hn m hm hne hj hk

theorem BoxNum.zero {w : World} {b : Nat} (h : IntBox w b (.bool false) (.slice none 0 0)) : BoxNum w b 0 :=
  ⟨false, none, 0, 0, h, false, none, 0, 0, [], rfl, Sl.nil _, by omega, by simp [sgn, Go.Proofs.YthgpcgijhmgenaaDoor.val], ⟨fun _ hx => by simp at hx, .inl rfl⟩, by simp⟩

/-- A box is made. -/
theorem Plan.G.alloc {p : Plan} {B B0 : Nat} {w0 w : World} {L : Nat → Bool} {vs : Nat → Value} (h : p.G B B0 w0 L vs w) (hp : p.Ok B B0) {i k : Nat} {z : Int} (hL : L i = false) (hk : L k = false) (hi : (i, k, z) ∈ p.new)
    (hC : ∀ v w', p.C i v w') (h1 : ∀ o ∈ p.old, o.2.1 ≠ i) (h2 : ∀ n ∈ p.new, n.2.1 ≠ i ∧ (n.1 = i → n = (i, k, z))) (t : TypeId) :
    p.G B B0 w0 (up L i true) (up vs i (.pointer (some ⟨w.heap.size, 0, none⟩))) (w.alloc (.cells #[.bool false, .slice none 0 0] t)) := by
  have hb := alloc_below w (.cells #[.bool false, .slice none 0 0] t)
  refine ⟨h.below.trans (hb.mono (Nat.le_trans hp.le h.size)), Nat.le_trans h.size hb.size, fun j hj => ?_, fun o ho => ?_, fun n hn hj => ?_, fun n hn m hm hne hj hk' => ?_⟩
  · by_cases hji : j = i
    · subst hji; exact hC _ _
    · rw [up_ne _ _ hji] at hj ⊢; exact hp.mono _ _ _ _ (h.val j hj) hb
  · rw [up_ne _ _ (h1 o ho)]; exact (h.old o ho).mono hb
  · rw [up_ne _ _ (h2 n hn).1]
    by_cases hni : n.1 = i
    · have e := (h2 n hn).2 hni
      subst e
      rw [up_same]
      refine ⟨_, rfl, h.size, ?_⟩
      show BoxNum _ _ (if L k then z else 0)
      rw [hk]
      exact BoxNum.zero (IntBox.new w _ _ t)
    · rw [up_ne _ _ hni] at hj ⊢
      obtain ⟨b, e1, e2, e3⟩ := h.new n hn hj
      exact ⟨b, e1, e2, e3.mono hb⟩
  · by_cases hni : n.1 = i
    · have hmi : m.1 ≠ i := fun e => hne (hni.trans e.symm)
      rw [hni, up_same]
      rw [up_ne _ _ hmi] at hk' ⊢
      obtain ⟨b, e1, e2, e3⟩ := h.new m hm hk'
      rw [e1]
      intro e
      have := e3.lt
      injection e with e
      injection e with e
      injection e with e
      omega
    · rw [up_ne _ _ hni] at hj ⊢
      by_cases hmi : m.1 = i
      · rw [hmi, up_same]
        obtain ⟨b, e1, e2, e3⟩ := h.new n hn hj
        rw [e1]
        intro e
        have := e3.lt
        injection e with e
        injection e with e
        injection e with e
        omega
      · rw [up_ne _ _ hmi] at hk' ⊢
        exact h.apart n hn m hm hne hj hk'

/-- A number is stored in a box of the region's own. -/
theorem Plan.G.storeNew {p : Plan} {B B0 : Nat} {w0 w : World} {L : Nat → Bool} {vs : Nat → Value} (h : p.G B B0 w0 L vs w) (hp : p.Ok B B0) {i k : Nat} {z : Int} (hL : L k = false) (hi : (i, k, z) ∈ p.new) (hLi : L i = true)
    {n' : Bool} {a' : Option Addr} {k' c' : Nat} (hN : Num w (.agg #[.bool n', .slice a' k' c']) z) (hC : ∀ v w', p.C k v w') (h1 : ∀ o ∈ p.old, o.2.1 ≠ k) (h2 : ∀ n ∈ p.new, n.1 ≠ k ∧ (n.2.1 = k → n = (i, k, z))) {b : Nat} (hb : vs i = .pointer (some ⟨b, 0, none⟩)) (v : Value) :
    p.G B B0 w0 (up L k true) (up vs k v) (putBox w b n' a' k' c') := by
  obtain ⟨b', hb', hB0, hbox⟩ := h.new _ hi hLi
  have hbb : b' = b := by
    have := hb'.symm.trans hb
    injection this with e
    injection e with e
    injection e with e
  subst hbb
  have hsz : B0 ≤ (putBox w b' n' a' k' c').heap.size := by rw [putBox_size]; exact h.size
  refine ⟨belowPut h.below (Nat.le_trans hp.le hB0) _ _ _ _, hsz, fun j hj => ?_, fun o ho => ?_, fun n hn hj => ?_, fun n hn m hm hne hj hk' => ?_⟩
  · by_cases hji : j = k
    · subst hji; exact hC _ _
    · rw [up_ne _ _ hji] at hj ⊢; exact hp.put _ _ _ _ _ _ _ _ _ (h.val j hj) hbox
  · rw [up_ne _ _ (h1 o ho)]
    exact (h.old o ho).putOther hbox (by have := (hp.oldlt o ho).2; omega) _ _ _ _
  · rw [up_ne _ _ (h2 n hn).1] at hj ⊢
    by_cases hnk : n.2.1 = k
    · have e := (h2 n hn).2 hnk
      subst e
      refine ⟨b', hb', hB0, ?_⟩
      show BoxNum _ _ (if up L k true k then z else 0)
      rw [up_same]
      exact hbox.putSame hN
    · rw [up_ne _ _ hnk]
      obtain ⟨b2, e1, e2, e3⟩ := h.new n hn hj
      refine ⟨b2, e1, e2, e3.putOther hbox (fun e => ?_) _ _ _ _⟩
      have hni : n.1 ≠ i := fun e' => by
        have e2 := hp.newinj n hn _ hi e'
        exact hnk (by rw [e2])
      exact h.apart n hn _ hi hni hj hLi (by rw [e1, hb', e])
  · rw [up_ne _ _ (h2 n hn).1] at hj ⊢
    rw [up_ne _ _ (h2 m hm).1] at hk' ⊢
    exact h.apart n hn m hm hne hj hk'

/-- A number is stored in a box from before. -/
theorem Plan.G.storeOld {p : Plan} {B B0 : Nat} {w0 w : World} {L : Nat → Bool} {vs : Nat → Value} (h : p.G B B0 w0 L vs w) (hp : p.Ok B B0) {b k : Nat} {z z' : Int} (hi : (b, k, z, z') ∈ p.old)
    {n' : Bool} {a' : Option Addr} {k' c' : Nat} (hN : Num w (.agg #[.bool n', .slice a' k' c']) z') (hC : ∀ v w', p.C k v w') (h1 : ∀ o ∈ p.old, o.2.1 = k → o = (b, k, z, z')) (h2 : ∀ n ∈ p.new, n.1 ≠ k ∧ n.2.1 ≠ k) (v : Value) :
    p.G B B0 w0 (up L k true) (up vs k v) (putBox w b n' a' k' c') := by
  have hbox := h.old _ hi
  have hblt := hp.oldlt _ hi
  have hsz : B0 ≤ (putBox w b n' a' k' c').heap.size := by rw [putBox_size]; exact h.size
  refine ⟨belowPut h.below hblt.1 _ _ _ _, hsz, fun j hj => ?_, fun o ho => ?_, fun n hn hj => ?_, fun n hn m hm hne hj hk' => ?_⟩
  · by_cases hji : j = k
    · subst hji; exact hC _ _
    · rw [up_ne _ _ hji] at hj ⊢; exact hp.put _ _ _ _ _ _ _ _ _ (h.val j hj) hbox
  · by_cases hok : o.2.1 = k
    · have e := h1 o ho hok
      subst e
      show BoxNum _ _ (if up L k true k then z' else z)
      rw [up_same]
      exact hbox.putSame hN
    · rw [up_ne _ _ hok]
      exact (h.old o ho).putOther hbox (hp.oldne o ho _ hi hok) _ _ _ _
  · rw [up_ne _ _ (h2 n hn).1] at hj ⊢
    rw [up_ne _ _ (h2 n hn).2]
    obtain ⟨b2, e1, e2, e3⟩ := h.new n hn hj
    exact ⟨b2, e1, e2, e3.putOther hbox (by have := hblt.2; simp at this; omega) _ _ _ _⟩
  · rw [up_ne _ _ (h2 n hn).1] at hj ⊢
    rw [up_ne _ _ (h2 m hm).1] at hk' ⊢
    exact h.apart n hn m hm hne hj hk'

end Go.Proofs.YthgpcgijhmgenaaDoor

/- Inequalities of the guess in the long division: plain numbers. -/
set_option linter.unusedSimpArgs false
namespace Go.Proofs.YthgpcgijhmgenaaDoor

end Go.Proofs.YthgpcgijhmgenaaDoor

/- Walks: the steps of the long division. -/
namespace Go.Proofs.YthgpcgijhmgenaaDoor
open Go.RowKit

theorem Sl.drawn {w w' : World} {ao : Option Addr} {n c : Nat} {xs : List Int} (h : Sl w ao n c xs) (d : Drawn w w') : Sl w' ao n c xs :=
  h.mono (d.below _)

end Go.Proofs.YthgpcgijhmgenaaDoor

/- Walk: the multiple is added back. -/
namespace Go.Proofs.YthgpcgijhmgenaaDoor
open Go.RowKit

end Go.Proofs.YthgpcgijhmgenaaDoor

/- Walks: a size is shifted up and down. -/
namespace Go.Proofs.YthgpcgijhmgenaaDoor
open Go.RowKit

end Go.Proofs.YthgpcgijhmgenaaDoor

/- Walk: a size is shifted down. -/
namespace Go.Proofs.YthgpcgijhmgenaaDoor
open Go.RowKit

theorem Sl.drop {w : World} {ao : Option Addr} {n c : Nat} {xs : List Int} (h : Sl w ao n c xs) {k : Nat} (hk : k ≤ n) : Sl w (if c = k then ao else ao.map (·.add k)) (n - k) (c - k) (xs.drop k) := by
  have hc := h.cap
  refine ⟨by rw [List.length_drop, h.len], by omega, h.digs.drop k, ?_⟩
  by_cases hkn : k < n
  · rw [if_neg (by omega)]
    rcases h.cells.2 with h0 | ⟨b, off, hao, hlt, hcell⟩
    · have := h.len; rw [h0] at this; simp at this; omega
    · have hadd : (⟨b, off, none⟩ : Addr).add k = ⟨b, off + k, none⟩ := by unfold Addr.add; split <;> simp_all
      refine .inr ⟨b, off + k, by rw [hao]; simp [hadd], hlt, fun j hj => ?_⟩
      rw [List.length_drop] at hj
      rw [getD_drop, Nat.add_assoc]
      exact hcell (k + j) (by omega)
  · exact .inl (by rw [List.drop_of_length_le (by rw [h.len]; omega)])

end Go.Proofs.YthgpcgijhmgenaaDoor

/- Walk: the long division. -/
namespace Go.Proofs.YthgpcgijhmgenaaDoor
open Go.RowKit

theorem Row.grown {w w' : World} {e : TypeId} {b b' : Nat} {zs : List Int} (h : Row w e b zs) (hg : w.grownBy w' (some b')) (hne : b ≠ b') : Row w' e b zs :=
  ⟨h.1, by rw [hg.block b h.lt (by simpa using hne)]; exact h.2⟩

theorem Row.drawn {w w' : World} {e : TypeId} {b : Nat} {zs : List Int} (h : Row w e b zs) (d : Drawn w w') : Row w' e b zs := h.mono (d.below (b + 1)) (Nat.lt_succ_self _)

end Go.Proofs.YthgpcgijhmgenaaDoor

/- Walk: sizes are divided. -/
namespace Go.Proofs.YthgpcgijhmgenaaDoor
open Go.RowKit

end Go.Proofs.YthgpcgijhmgenaaDoor

/- Walk: DivMod. -/
namespace Go.Proofs.YthgpcgijhmgenaaDoor
open Go.RowKit

end Go.Proofs.YthgpcgijhmgenaaDoor

/- Walks: Sub, Cmp. -/
namespace Go.Proofs.YthgpcgijhmgenaaDoor
open Go.RowKit

/-- Of two numbers of one sign the sizes decide. -/
theorem cmp_same {a b : Bool} {x y : Int} (hx : 0 ≤ x) (hy : 0 ≤ y) (h : cmpI (sgn a x) 0 = cmpI (sgn b y) 0) : cmpI (sgn a x) 0 * cmpI x y = cmpI (sgn a x) (sgn b y) := by
  unfold cmpI sgn at *
  cases a <;> cases b <;> simp only [Bool.false_eq_true, if_false, if_true] at * <;> (repeat' split at h) <;> (repeat' split) <;> omega

theorem cmp_diff {a b : Int} (h : cmpI a 0 ≠ cmpI b 0) : (if cmpI a 0 < cmpI b 0 then (-1 : Int) else 1) = cmpI a b := by
  unfold cmpI at *
  (repeat' split at h) <;> (repeat' split) <;> omega

theorem cmpI_bd (a b : Int) : -1 ≤ cmpI a b ∧ cmpI a b ≤ 1 := by
  unfold cmpI; split
  · omega
  · split <;> omega

set_option maxHeartbeats 1000000 in
theorem Cmp_any (w : World) (na nb : Bool) (ax ay : Option Addr) (n m cx cy : Nat) (xs ys : List Int) (hX : Sl w ax n cx xs) (hY : Sl w ay m cy ys) (hb1 : n ≤ 1000000) (hb2 : m ≤ 1000000) :
    Calls Tryd.prog 37 #[.agg #[.bool na, .slice ax n cx], .agg #[.bool nb, .slice ay m cy]] w fun e w' => e = .returned (.int .i64 (cmpI (sgn na (val xs)) (sgn nb (val ys)))) ∧ Below w.heap.size w w' := by
  have hx0 := val_nonneg hX.digs
  have hy0 := val_nonneg hY.digs
  obtain ⟨s, hs⟩ : ∃ s, s = cmpI (sgn na (val xs)) 0 := ⟨_, rfl⟩
  obtain ⟨t, ht⟩ : ∃ t, t = cmpI (sgn nb (val ys)) 0 := ⟨_, rfl⟩
  obtain ⟨r, hr⟩ : ∃ r, r = cmpI (sgn na (val xs)) (sgn nb (val ys)) := ⟨_, rfl⟩
  have hsb := cmpI_bd (sgn na (val xs)) 0
  rw [← hs] at hsb
  obtain ⟨hsb1, hsb2⟩ := hsb
  have HS' := hidd hs
  have HT' := hidd ht
  have HR' := hidd hr
  rw [← hr]
  clear hs ht hr
  go_enter Tryd.func37, Tryd.ntmps37
  go_wp2_with fail
  obtain ⟨w0, hw0⟩ : ∃ w0, w0 = (w.alloc (.cells #[.bool na, .slice ax n cx] 27)).alloc (.cells #[.bool nb, .slice ay m cy] 27) := ⟨_, rfl⟩
  rw [← hw0]
  have hA : IntBox w0 w.heap.size (.bool na) (.slice ax n cx) := by rw [hw0]; exact (IntBox.new w _ _ _).mono (alloc_below _ _) (by simp)
  have hB : IntBox w0 (w.heap.size + 1) (.bool nb) (.slice ay m cy) := by
    rw [hw0]
    have := IntBox.new (w.alloc (.cells #[.bool na, .slice ax n cx] 27)) (.bool nb) (.slice ay m cy) 27
    rw [World.size_alloc] at this
    exact this
  have hbl : Below w.heap.size w w0 := by rw [hw0]; exact (alloc_below _ _).trans ((alloc_below _ _).mono (by simp))
  have hsz0 : w0.heap.size = w.heap.size + 2 := by rw [hw0]; simp
  have HSZ := hidd hsz0
  clear hw0 hsz0
  have hXd := (hX.mono hbl).drew
  have hYd := (hY.mono hbl).drew
  have hcut : w.heap.size + 2 ≤ w0.heap.size := by have := HSZ.out; omega
  obtain ⟨ca0, ca1, _, _⟩ := hA
  obtain ⟨cb0, cb1, _, _⟩ := hB
  go_region_held3 (fun W => w.heap.size + 2 ≤ W.heap.size ∧ (∀ b o, b < w.heap.size + 2 → W.cell? ⟨b, o, none⟩ = w0.cell? ⟨b, o, none⟩) ∧ ∀ b o, b < w.heap.size + 2 → W.frozen? ⟨b, o, none⟩ = w0.frozen? ⟨b, o, none⟩)
    (first | exact Kept.start hcut | assumption | exact Kept.call (by assumption) (by assumption))
    (first | (go_at_call 30; (with_reducible refine (Sign_any _ _ _ _ _ _ hXd (by omega)).mono ?_); rw [← HS'.out]; rintro e w2 ⟨rfl, hB2⟩; have hY2 := hYd.mono hB2) | (go_at_call 30; (with_reducible refine (Sign_any _ _ _ _ _ _ hY2 (by omega)).mono ?_); rw [← HT'.out]; rintro e w3 ⟨rfl, hB3⟩))
  have hbl3 : Below w.heap.size w w3 := (hbl.drew.trans (hB2.mono hbl.size)).trans (hB3.mono (Nat.le_trans hbl.size hB2.size))
  by_cases hst : s = t
  · subst hst
    have hsb : (s != s) = false := by simp
    have hX3 : Sl w3 ax n cx xs := (hXd.mono hB2).mono hB3
    have hY3 : Sl w3 ay m cy ys := hY2.mono hB3
    have hX3d := hX3.drew
    have hY3d := hY3.drew
    have da1 : w3.cell? ⟨w.heap.size, 1, none⟩ = some (.slice ax n cx) := ((hB3.cell (p := ⟨w.heap.size, 1, none⟩) (by have := HSZ.out; have := hB2.size; simp at this; show w.heap.size < _; omega)).trans (hB2.cell (p := ⟨w.heap.size, 1, none⟩) (by have := HSZ.out; show w.heap.size < _; simp; omega))).trans ca1
    have db1 : w3.cell? ⟨w.heap.size + 1, 1, none⟩ = some (.slice ay m cy) := ((hB3.cell (p := ⟨w.heap.size + 1, 1, none⟩) (by have := HSZ.out; have := hB2.size; simp at this; show w.heap.size + 1 < _; omega)).trans (hB2.cell (p := ⟨w.heap.size + 1, 1, none⟩) (by have := HSZ.out; show w.heap.size + 1 < _; simp; omega))).trans cb1
    have hcut3 : w.heap.size + 2 ≤ w3.heap.size := by have := hB2.size; have := hB3.size; simp at *; omega
    obtain ⟨c, hc⟩ : ∃ c, c = cmpI (val xs) (val ys) := ⟨_, rfl⟩
    have hcb := cmpI_bd (val xs) (val ys)
    rw [← hc] at hcb
    have hsc : s * c = r := by rw [HS'.out, hc, HR'.out]; exact cmp_same hx0 hy0 (by rw [← HS'.out, ← HT'.out])
    have hsw : IntKind.i64.wrap (s * c) = r := by
      rw [hsc, HR'.out]
      have := cmpI_bd (sgn na (val xs)) (sgn nb (val ys))
      exact IntWalk.i64_in _ (by omega)
    have HC := hidd hc
    clear hc hsc hXd hYd hcut hbl hB2 hB3 hY2
    go_wp2
    go_region_held3 (fun W => w.heap.size + 2 ≤ W.heap.size ∧ (∀ b o, b < w.heap.size + 2 → W.cell? ⟨b, o, none⟩ = w3.cell? ⟨b, o, none⟩) ∧ ∀ b o, b < w.heap.size + 2 → W.frozen? ⟨b, o, none⟩ = w3.frozen? ⟨b, o, none⟩)
      (first | exact Kept.start hcut3 | assumption | exact Kept.call (by assumption) (hd.below _))
      (first | (go_at_call 57; (with_reducible refine (trim_any _ _ _ _ _ hX3d (by omega)).mono ?_); rintro e w' ⟨m1, rfl, hm1, hs1, hv1, hc1, rfl⟩) | (go_at_call 57; (with_reducible refine (trim_any _ _ _ _ _ hY3d (by omega)).mono ?_); rintro e w' ⟨m2, rfl, hm2, hs2, hv2, hc2, rfl⟩) | (go_at_call 60; (with_reducible refine (cmpSize_any _ _ _ _ _ _ _ _ _ hs1 hs2 hc1 hc2 (by omega) (by omega)).mono ?_); rw [hv1, hv2, ← HC.out]; rintro e w5 ⟨rfl, hd⟩))
    go_wp2
    go_ret
    exact ⟨rfl, hbl3.drew.trans (hd.below _)⟩
  · have hsb : (s != t) = true := by simp [hst]
    have hans : (if decide (s < t) then (-1 : Int) else 1) = r := by
      have h := cmp_diff (a := sgn na (val xs)) (b := sgn nb (val ys)) (by rw [← HS'.out, ← HT'.out]; exact hst)
      rw [← HS'.out, ← HT'.out, ← HR'.out] at h
      simpa using h
    have HA := hidd hans
    clear hans
    by_cases hlt : s < t
    · have hr1 : r = -1 := by have := HA.out; simp [hlt] at this; exact this.symm
      have HR1 := hidd hr1
      clear hr1
      go_wp2_with (go_at_call 59; refine (order_any _ _).mono ?_; rintro e w' ⟨rfl, rfl⟩)
      go_ret
      exact ⟨by rw [HR1.out]; rfl, hbl3⟩
    · have hr1 : r = 1 := by have := HA.out; simp [hlt] at this; exact this.symm
      have HR1 := hidd hr1
      have hlt' : decide (s < t) = false := by simp [hlt]
      clear hr1
      go_wp2_with (go_at_call 59; refine (order_any _ _).mono ?_; rintro e w' ⟨rfl, rfl⟩)
      go_ret
      exact ⟨by rw [HR1.out]; rfl, hbl3⟩

end Go.Proofs.YthgpcgijhmgenaaDoor

/- Walks of the reference: trim, made, Valid, Of. -/
namespace Go.Proofs.YthgpcgijhmgenaaDoor
open Go.RowKit

set_option maxHeartbeats 400000 in
theorem rtrim_any (w : World) (ax : Option Addr) (n c : Nat) (xs : List Int) (hX : Sl w ax n c xs) (hb : n ≤ 4000000) :
    Calls Tryd.prog 74 #[.slice ax n c] w fun e w' => ∃ m, e = .returned (.slice ax m c) ∧ m ≤ n ∧ Sl w ax m c (xs.take m) ∧ val (xs.take m) = val xs ∧ Canon (xs.take m) ∧ w = w' := by
  have hn := hidd hX.len
  have hx := hX.cells
  have hnc := hX.cap
  go_enter Tryd.func74, Tryd.ntmps74
  go_wp2
  go_loop [0] (fun v => ∃ k : Nat, k ≤ n ∧ v = .slice ax k c ∧ val (xs.take k) = val xs) (fun v => match v with | .slice _ k _ => k | _ => 0)
  case atStart => exact ⟨n, Nat.le_refl _, rfl, val_take_all _ (by rw [hn.out]; omega)⟩
  case round =>
    obtain ⟨k, hk, rfl, ht⟩ := hrel
    have HT := hidd ht
    clear ht
    by_cases h0 : 0 < k
    · obtain ⟨b, off, rfl, hbl, x, hxc, hx0, hx1, HX⟩ := hx.at (k := k - 1) (by rw [hn.out]; omega)
      have hkc : k - 1 ≤ c := by omega
      by_cases hz : x = 0
      · have hz1 : (x == 0) = true := by simp [hz]
        have HZ := hidd hz
        clear hz
        go_wp2
        go_round
        case rel =>
          refine ⟨k - 1, by omega, by first | rfl | simp, ?_⟩
          have e := val_take_succ xs (k - 1)
          rw [show k - 1 + 1 = k from by omega, HX.out, HZ.out, HT.out] at e
          omega
        case measure => first | omega | (simp; omega)
      · have hz1 : (x == 0) = false := by simp [hz]
        go_wp2
        go_ret
        refine ⟨k, rfl, hk, hX.take hk, HT.out, ⟨(hX.take hk).digs, .inr ?_⟩, rfl⟩
        have e := val_take_succ xs (k - 1)
        rw [show k - 1 + 1 = k from by omega, HX.out] at e
        have h1 := val_nonneg (hX.take (show k - 1 ≤ n by omega)).digs
        have h2 := Int.mul_le_mul_of_nonneg_left (show (1 : Int) ≤ x by omega) (Int.le_of_lt (pw_pos (k - 1)))
        rw [(hX.take hk).len]
        omega
    · obtain rfl : k = 0 := by omega
      go_wp2
      go_ret
      exact ⟨0, rfl, hk, hX.take hk, HT.out, ⟨(hX.take hk).digs, .inl (by simp)⟩, rfl⟩

set_option maxHeartbeats 1000000 in
theorem made_any (w : World) (neg : Bool) (ax : Option Addr) (n c : Nat) (xs : List Int) (hX : Sl w ax n c xs) (hb : n ≤ 4000000) :
    Calls Tryd.prog 50 #[.bool neg, .slice ax n c] w (GivesInt w (sgn neg (val xs))) := by
  obtain ⟨w0, hw0, hC, hCb⟩ : ∃ w0, w0 = w.alloc (.cells #[.bool false, .slice none 0 0] 27) ∧ IntBox w0 w.heap.size (.bool false) (.slice none 0 0) ∧ Below w.heap.size w w0 := ⟨_, rfl, box1 _ _, alloc_below _ _⟩
  go_enter Tryd.func50, Tryd.ntmps50
  go_wp2_with fail
  rw [← hw0]
  clear hw0
  refine (rtrim_any _ _ _ _ _ (hX.mono hCb) (by omega)).mono ?_
  rintro e w' ⟨m, rfl, hm, hsm, hvm, hcm, rfl⟩
  have hml := hsm.len
  have hz := hcm.zero
  rw [hml, hvm] at hz
  have HVM := hidd hvm
  clear hvm hml
  obtain ⟨e0, e1, e2, e3⟩ := hC
  by_cases hm0 : m = 0
  · have HV : Hid (sgn neg (val xs) = 0) := sgn_zero neg (hz.1 hm0)
    clear hz
    subst hm0
    go_wp2
    refine bodyPost_ret (v := .agg #[.bool false, .slice none 0 0]) ?_ rfl ?_
    · simp [results, Tryd.results50, go_sem, e0, e1]
    · exact gives_store ⟨e0, e1, e2, e3⟩ (Sl.nil _) ⟨fun _ hx => by simp at hx, .inl rfl⟩ (fun h => by cases h) HV.out hCb (Nat.le_refl _)
  · have hm1 : ((m : Int) == 0) = false := by simp; omega
    clear hz
    go_wp2
    refine bodyPost_ret (v := .agg #[.bool neg, .slice ax m c]) ?_ rfl ?_
    · simp [results, Tryd.results50, go_sem, e0, e1]
    · exact gives_store ⟨e0, e1, e2, e3⟩ hsm hcm (fun _ => hm0) (by rw [HVM.out]) hCb (Nat.le_refl _)

/-- A word's two halves. -/
theorem halves_sl (w : World) (t : TypeId) (ht : t = 41) (q : Int) (hq0 : 0 ≤ q) (hq1 : q < 18446744073709551616) :
    Sl (w.alloc (.cells #[.int .u32 (q % 4294967296), .int .u32 (q / 4294967296)] t)) (some ⟨w.heap.size, 0, none⟩) 2 2 [q % 4294967296, q / 4294967296] ∧ Hid (val [q % 4294967296, q / 4294967296] = q) := by
  subst ht
  have hr : Row (w.alloc (.cells #[.int .u32 (q % 4294967296), .int .u32 (q / 4294967296)] 41)) 41 w.heap.size [q % 4294967296, q / 4294967296] := by
    refine ⟨fun x hx => ?_, ?_⟩
    · simp at hx
      unfold Dig
      rcases hx with rfl | rfl <;> omega
    · rw [heap_alloc_new]; rfl
  refine ⟨hr.sl (n := 2) rfl, ?_⟩
  show _ = _
  simp only [val]; omega

set_option maxHeartbeats 1000000 in
theorem rOf_any (w : World) (z : Int) (h0 : -9223372036854775808 ≤ z) (h1 : z ≤ 9223372036854775807) :
    Calls Tryd.prog 18 #[.int .i64 z] w (GivesInt w z) := by
  obtain ⟨w0, hw0, hC, hCb⟩ : ∃ w0, w0 = w.alloc (.cells #[.bool false, .slice none 0 0] 27) ∧ IntBox w0 w.heap.size (.bool false) (.slice none 0 0) ∧ Below w.heap.size w w0 := ⟨_, rfl, box1 _ _, alloc_below _ _⟩
  have hs := fun q => halves_sl w0 41 rfl q
  have hab := fun o => alloc_below w0 o
  by_cases hz : z < 0
  · have hq : IntKind.u64.wrap (-(IntKind.u64.wrap z)) = -z := by rw [u64_wrap, u64_wrap]; omega
    have hq' : IntKind.u64.wrap (-(z % 18446744073709551616)) = -z := by rw [u64_wrap]; omega
    obtain ⟨hs, hv⟩ := hs (-z) (by omega) (by omega)
    go_enter Tryd.func18, Tryd.ntmps18
    go_upto_region 1 with (fail)
    rw [← hw0]
    clear hw0
    go_wp2_with fail
    refine (made_any _ _ _ _ _ _ hs (by omega)).mono ?_
    rintro e w3 ⟨v, rfl, ⟨ng, ao, nn, cc, rs, rfl, hrs, hrc, hrn, hrz⟩, hb3⟩
    obtain ⟨e0, e1, e2, e3⟩ := (hC.mono (hab _) hC.lt).mono hb3 (Nat.lt_of_lt_of_le hC.lt (hab _).size)
    have HZ : Hid (z = sgn ng (val rs)) := by
      show _ = _
      rw [← hrz, hv.out]; simp [sgn]
    have hb4 : Below w.heap.size w w3 := (hCb.trans ((hab _).mono hCb.size)).trans (hb3.mono (Nat.le_trans hCb.size (hab _).size))
    clear hrz hv hC hq hq'
    go_wp2
    refine bodyPost_ret (v := .agg #[.bool ng, .slice ao nn cc]) ?_ rfl ?_
    · simp [results, Tryd.results18, go_sem, e0, e1]
    · exact gives_store ⟨e0, e1, e2, e3⟩ hrs hrc hrn HZ.out hb4 (Nat.le_refl _)
  · have hq : IntKind.u64.wrap z = z := by rw [u64_wrap]; omega
    obtain ⟨hs, hv⟩ := hs z (by omega) (by omega)
    go_enter Tryd.func18, Tryd.ntmps18
    go_upto_region 1 with (fail)
    rw [← hw0]
    clear hw0
    go_wp2_with fail
    refine (made_any _ _ _ _ _ _ hs (by omega)).mono ?_
    rintro e w3 ⟨v, rfl, ⟨ng, ao, nn, cc, rs, rfl, hrs, hrc, hrn, hrz⟩, hb3⟩
    obtain ⟨e0, e1, e2, e3⟩ := (hC.mono (hab _) hC.lt).mono hb3 (Nat.lt_of_lt_of_le hC.lt (hab _).size)
    have HZ : Hid (z = sgn ng (val rs)) := by
      show _ = _
      rw [← hrz, hv.out]; simp [sgn]
    have hb4 : Below w.heap.size w w3 := (hCb.trans ((hab _).mono hCb.size)).trans (hb3.mono (Nat.le_trans hCb.size (hab _).size))
    clear hrz hv hC hq
    go_wp2
    refine bodyPost_ret (v := .agg #[.bool ng, .slice ao nn cc]) ?_ rfl ?_
    · simp [results, Tryd.results18, go_sem, e0, e1]
    · exact gives_store ⟨e0, e1, e2, e3⟩ hrs hrc hrn HZ.out hb4 (Nat.le_refl _)

end Go.Proofs.YthgpcgijhmgenaaDoor

/- Checks for a region that draws its order; contracts on values. -/
namespace Go.Proofs.YthgpcgijhmgenaaDoor
open Go Go.RowKit

def AllOps (R : Nat → Oper → Prop) : List Oper → Nat → Prop
  | [], _ => True
  | o :: os, k => R k o ∧ AllOps R os (k + 1)

theorem AllOps.at {R : Nat → Oper → Prop} : ∀ {os : List Oper} {k : Nat}, AllOps R os k → ∀ (i : Nat) (o : Oper), os[i]? = some o → R (k + i) o
  | [], _, _, i, o, h => by simp at h
  | o' :: os, k, hh, 0, o, h => by simp at h; subst h; exact hh.1
  | o' :: os, k, hh, i + 1, o, h => by
    have := AllOps.at hh.2 i o (by simpa using h)
    rw [show k + 1 + i = k + (i + 1) from by omega] at this
    exact this

theorem all_ops {R : Nat → Oper → Prop} {os : List Oper} (h : AllOps R os 0) (i : Nat) (o : Oper) (ho : os.toArray[i]? = some o) : R i o := by
  have := h.at i o (by simpa using ho)
  rwa [Nat.zero_add] at this

/-- No two lay into the same slot, as a check. -/
def apartB (ds : List (Option Tmp)) : Bool := match ds with
  | [] => true
  | none :: r => apartB r
  | some d :: r => !r.contains (some d) && apartB r

theorem apartB_spec : ∀ {ds : List (Option Tmp)}, apartB ds = true → ∀ (j k : Nat) (d : Tmp), j < k → ds[j]? = some (some d) → ds[k]? ≠ some (some d)
  | [], _, j, k, d, _, h => by simp at h
  | none :: r, hb, 0, k, d, _, h => by simp at h
  | none :: r, hb, j + 1, k + 1, d, hjk, h => by
    simp at h ⊢
    exact apartB_spec (by simpa [apartB] using hb) j k d (by omega) h
  | some d' :: r, hb, 0, k + 1, d, _, h => by
    simp at h
    subst h
    simp [apartB] at hb
    simp
    intro e
    exact hb.1 (List.mem_of_getElem? e)
  | some d' :: r, hb, j + 1, k + 1, d, hjk, h => by
    simp [apartB] at hb
    simp at h ⊢
    exact apartB_spec hb.2 j k d (by omega) h

theorem apart_of {os : List Oper} (h : apartB (os.map (·.dst)) = true) : ApartAll os.toArray := by
  have key : ∀ j d, dstOf os.toArray j = some d → (os.map (·.dst))[j]? = some (some d) := fun j d hd => by
    unfold dstOf at hd
    simp at hd ⊢
    cases ho : os[j]? with
    | none => simp [ho] at hd
    | some o => simp [ho] at hd ⊢; exact hd
  intro j k d hne hj hk
  have h1 := key j d hj
  have h2 := key k d hk
  rcases Nat.lt_or_gt_of_ne hne with hlt | hlt
  · exact apartB_spec h j k d hlt h1 h2
  · exact apartB_spec h k j d hlt h2 h1

/-- Binding edges lead back, as a check. -/
def backB : List Oper → Nat → Bool
  | [], _ => true
  | o :: os, k => o.after.toList.all (fun e => !Region.binds .any e || decide (e.on < k)) && backB os (k + 1)

theorem backB_spec : ∀ {os : List Oper} {k : Nat}, backB os k = true → AllOps (fun i o => ∀ e ∈ o.after, Region.binds .any e = true → e.on < i) os k
  | [], _, _ => trivial
  | o :: os, k, h => by
    simp only [backB, Bool.and_eq_true] at h
    refine ⟨fun e he hb => ?_, backB_spec h.2⟩
    have := List.all_eq_true.1 h.1 e (by simpa using he)
    simpa [hb] using this

theorem back_of {os : List Oper} (h : backB os 0 = true) : ∀ i o, os.toArray[i]? = some o → ∀ e ∈ o.after, Region.binds .any e = true → e.on < i := fun i o ho => all_ops (backB_spec h) i o ho

/-- A number's length. -/
theorem IsInt.num {w : World} {v : Value} {z : Int} (h : IsInt w v z) {k : Nat} (hk : k ≤ 900000) (hz : (z.natAbs : Int) < pw k) : Num w v z := by
  obtain ⟨neg, ao, n, c, xs, hv, hs, hc, hn, hz'⟩ := h
  have h0 := val_nonneg hs.digs
  have h1 : val xs < pw k := by
    subst hz'
    cases neg <;> simp [sgn] at hz <;> omega
  have h2 := hc.length_le h1
  rw [hs.len] at h2
  exact ⟨neg, ao, n, c, xs, hv, hs, by omega, hz', hc, hn⟩

theorem Num.lt {w : World} {v : Value} {z : Int} (h : Num w v z) : (z.natAbs : Int) < pw 900000 := by
  obtain ⟨neg, ao, n, c, xs, hv, hs, hn, hz, _⟩ := h
  have h0 := val_nonneg hs.digs
  have h1 := val_lt hs.digs
  have h2 := pw_le (show xs.length ≤ 900000 by rw [hs.len]; exact hn)
  subst hz
  cases neg <;> simp [sgn] <;> omega

theorem SignV {w : World} {v : Value} {z : Int} (h : Num w v z) : Calls Tryd.prog 30 #[v] w fun e w' => e = .returned (.int .i64 (cmpI z 0)) ∧ Below w.heap.size w w' := by
  obtain ⟨neg, ao, n, c, xs, rfl, hs, hn, rfl, _⟩ := h
  exact Sign_any _ _ _ _ _ _ hs (by omega)

end Go.Proofs.YthgpcgijhmgenaaDoor

/- One step of a region that draws its order, over boxes of integers: an obligation for each kind of operation. -/
namespace Go.Proofs.YthgpcgijhmgenaaDoor
open Go Go.RowKit

section
variable {os : List Oper} {Q : Exit → Act → World → Prop} {a : Act} {p : Plan} {B B0 : Nat} {w0 : World}

/-- Operation k waits, in the end, for operation i. -/
def leadsB (os : List Oper) : Nat → Nat → Nat → Bool
  | 0, _, _ => false
  | f + 1, k, i => match os[k]? with
    | none => false
    | some o => o.after.toList.any fun e => Region.binds .any e && (e.on == i || leadsB os f e.on i)

theorem leads_of {L : Nat → Bool} (hc : ClosedL os.toArray L) : ∀ {f k i : Nat}, leadsB os f k i = true → L k = true → L i = true
  | 0, _, _, h, _ => by simp [leadsB] at h
  | f + 1, k, i, h, hk => by
    unfold leadsB at h
    cases ho : os[k]? with
    | none => simp [ho] at h
    | some o =>
      simp only [ho] at h
      obtain ⟨e, he, h1⟩ := List.any_eq_true.1 h
      simp only [Bool.and_eq_true, Bool.or_eq_true, beq_iff_eq] at h1
      have h2 := hc k o (by simpa using ho) hk e (by simpa using he) h1.1
      rcases h1.2 with h3 | h3
      · rw [← h3]; exact h2
      · exact leads_of hc h3 h2

theorem not_yet {L : Nat → Bool} (hc : ClosedL os.toArray L) {f k i : Nat} (h : leadsB os f k i = true) (hi : L i = false) : L k = false := by
  cases hk : L k
  · rfl
  · rw [leads_of hc h hk] at hi; cases hi

theorem lay_out {L : Nat → Bool} {vs : Nat → Value} {s : Tmp} (h : (os.map (·.dst)).contains (some s) = false) (k : Nat) : (lay os.toArray L vs k a).eval (.tmp s) = a.eval (.tmp s) := by
  refine lay_eval_out _ _ fun j _ _ hd => ?_
  have hm : some s ∈ os.map (·.dst) := by
    unfold dstOf at hd
    simp at hd
    cases ho : os[j]? with
    | none => simp [ho] at hd
    | some o =>
      simp [ho] at hd
      exact List.mem_map.2 ⟨o, List.mem_of_getElem? ho, hd⟩
  have := List.contains_iff_mem.2 hm
  rw [h] at this
  cases this

theorem lay_in {L : Nat → Bool} {vs : Nat → Value} {s : Tmp} {j : Nat} (ha : apartB (os.map (·.dst)) = true) (hL : L j = true) (hj : (os.map (·.dst))[j]? = some (some s)) (hs : s < a.tmps.size) : (lay os.toArray L vs os.toArray.size a).eval (.tmp s) = vs j := by
  refine lay_eval_in (apart_of ha) hL ?_ _ _ ?_ hs
  · unfold dstOf
    simp at hj ⊢
    cases ho : os[j]? with
    | none => simp [ho] at hj
    | some o => simp [ho] at hj ⊢; exact hj
  · have := (List.getElem?_eq_some_iff.1 hj).1
    simpa using this

/-- The numbers of the plan's stores and allocations shun i. -/
def Plan.Free (p : Plan) (i : Nat) : Prop := (∀ o ∈ p.old, o.2.1 ≠ i) ∧ ∀ n ∈ p.new, n.1 ≠ i ∧ n.2.1 ≠ i

variable {i s : Nat} {d : Option Tmp} {ty : TypeId} {ps : String} {af : Array Edge}

/-- What a stored number is made of. -/
theorem Num.parts {w : World} {v : Value} {z : Int} (h : Num w v z) : ∃ n ao k c, v = .agg #[.bool n, .slice ao k c] := by
  obtain ⟨neg, ao, n, c, xs, rfl, _⟩ := h
  exact ⟨_, _, _, _, rfl⟩

end

end Go.Proofs.YthgpcgijhmgenaaDoor

/- Walks of the reference: size, Same. -/
namespace Go.Proofs.YthgpcgijhmgenaaDoor
open Go.RowKit

set_option maxHeartbeats 1000000 in
theorem size_any (w : World) (ax ay : Option Addr) (n m cx cy : Nat) (xs ys : List Int) (hX : Sl w ax n cx xs) (hY : Sl w ay m cy ys) (hcx : Canon xs) (hcy : Canon ys) (hb1 : n ≤ 4000000) (hb2 : m ≤ 4000000) :
    Calls Tryd.prog 52 #[.slice ax n cx, .slice ay m cy] w fun e w' => e = .returned (.int .i64 (cmpI (val xs) (val ys))) ∧ Drawn w w' := by
  have hn := hidd hX.len
  have hm := hidd hY.len
  have hx := hX.cells
  have hy := hY.cells
  by_cases hnm : n = m
  · subst hnm
    go_enter Tryd.func52, Tryd.ntmps52
    go_wp2
    go_loopw [5] (fun i wr => ∃ (k : Nat), k ≤ n ∧ i = .int .i64 ((k : Int) - 1) ∧ Drawn w wr ∧ xs.drop k = ys.drop k) (fun i _ => (intOf i + 1).toNat)
    case atStart => exact ⟨n, Nat.le_refl _, rfl, ⟨0, rfl⟩, by rw [List.drop_of_length_le (by rw [hn.out]; omega), List.drop_of_length_le (by rw [hm.out]; omega)]⟩
    case round =>
      obtain ⟨k, hk, rfl, hd, hv⟩ := hrel
      have HV := hidd hv
      clear hv
      by_cases h0 : 0 < k
      · obtain ⟨b, off, rfl, hbl, x, hxc, hx0, hx1, HX⟩ := hx.at (k := k - 1) (by rw [hn.out]; omega)
        obtain ⟨b2, off2, rfl, hbl2, y, hyc, hy0, hy1, HY⟩ := hy.at (k := k - 1) (by rw [hm.out]; omega)
        have hxr := (hd.cell _).trans hxc
        have hyr := (hd.cell _).trans hyc
        have hkx : k - 1 < xs.length := by rw [hn.out]; omega
        have hln : xs.length = ys.length := by rw [hn.out, hm.out]
        have HLN := hidd hln
        clear hxc hyc hln
        by_cases he : x < y
        · have hk1 : k - 1 + 1 = k := by omega
          have HA : Hid (cmpI (val xs) (val ys) = -1) := by
            have := cmp_at hX.digs hY.digs hkx HLN.out (by rw [hk1]; exact HV.out) (by rw [HX.out, HY.out]; exact he)
            exact if_pos this
          clear hk1
          go_wp2
          go_quiet (fail)
          go_wp2
          go_ret
          refine ⟨?_, hd.drewN _⟩
          rw [HA.out]; try rfl
        · have hle : decide (x < y) = false := by simp; omega
          by_cases hg : y < x
          · have hk1 : k - 1 + 1 = k := by omega
            have HA : Hid (cmpI (val xs) (val ys) = 1) := by
              have hky : k - 1 < ys.length := by have := HLN.out; omega
              have := cmp_at hY.digs hX.digs hky HLN.out.symm (by rw [hk1]; exact HV.out.symm) (by rw [HX.out, HY.out]; exact hg)
              exact (if_neg (by omega)).trans (if_neg (by omega))
            clear hk1
            go_wp2
            go_quiet (fail)
            go_wp2
            obtain ⟨w2, hw2⟩ : ∃ w2, w2 = wr.drewN nq := ⟨_, rfl⟩
            rw [← hw2]
            have hd2 : Drawn w w2 := by rw [hw2]; exact hd.drewN _
            have hxr2 := (hd2.cell _).trans ((hd.cell _).symm.trans hxr)
            have hyr2 := (hd2.cell _).trans ((hd.cell _).symm.trans hyr)
            clear hw2 hxr hyr
            go_quiet (fail)
            go_wp2
            go_ret
            refine ⟨?_, hd2.drewN _⟩
            rw [HA.out]; try rfl
          · have hge : decide (y < x) = false := by simp; omega
            have HE : Hid (x = y) := by show _ = _; omega
            go_wp2
            go_quiet (fail)
            go_wp2
            obtain ⟨w2, hw2⟩ : ∃ w2, w2 = wr.drewN nq := ⟨_, rfl⟩
            rw [← hw2]
            have hd2 : Drawn w w2 := by rw [hw2]; exact hd.drewN _
            have hxr2 := (hd2.cell _).trans ((hd.cell _).symm.trans hxr)
            have hyr2 := (hd2.cell _).trans ((hd.cell _).symm.trans hyr)
            clear hw2 hxr hyr
            go_quiet (fail)
            go_wp2
            go_roundw
            case rel =>
              refine ⟨k - 1, by omega, by go_num, hd2.drewN _, ?_⟩
              exact drop_step hkx HLN.out (by rw [show k - 1 + 1 = k from by omega]; exact HV.out) (by rw [HX.out, HY.out]; exact HE.out)
            case measure => simp [intOf]; omega
      · go_wp2
        go_ret
        obtain rfl : k = 0 := by omega
        refine ⟨?_, hd⟩
        have e : xs = ys := by simpa using HV.out
        subst e
        simp [cmpI]
  · have h1 : ((n : Int) == m) = false := by simp; omega
    have h2 : ((n : Int) != m) = true := by simp; omega
    by_cases hlt : n < m
    · have hli : ((n : Int) < (m : Int)) := by omega
      go_enter Tryd.func52, Tryd.ntmps52
      go_wp2
      go_ret
      refine ⟨?_, 0, rfl⟩
      have := Canon.lt_of_length hX.digs hcy (by rw [hn.out, hm.out]; exact hlt)
      simp [cmpI, this]
    · have hli : ¬ ((n : Int) < (m : Int)) := by omega
      go_enter Tryd.func52, Tryd.ntmps52
      go_wp2
      go_ret
      refine ⟨?_, 0, rfl⟩
      have := Canon.lt_of_length hY.digs hcx (by rw [hn.out, hm.out]; omega)
      simp [cmpI, show ¬ val xs < val ys by omega, show ¬ val xs = val ys by omega]

/-- Two canonical forms are the same if and only if the numbers are. -/
theorem sgn_inj {a b : Bool} {xs ys : List Int} {n m : Nat} (hdx : Canon xs) (hdy : Canon ys) (hx : 0 ≤ val xs) (hy : 0 ≤ val ys) (hn : xs.length = n) (hm : ys.length = m) (ha : a = true → n ≠ 0) (hb : b = true → m ≠ 0) :
    (sgn a (val xs) = sgn b (val ys)) ↔ (a = b ∧ val xs = val ys) := by
  have hzx := hdx.zero
  have hzy := hdy.zero
  rw [hn] at hzx
  rw [hm] at hzy
  constructor
  · intro h
    cases a <;> cases b <;> simp [sgn] at h ⊢
    · exact h
    · have := hb rfl
      have : val ys ≠ 0 := fun h => this (hzy.2 h)
      omega
    · have := ha rfl
      have : val xs ≠ 0 := fun h => this (hzx.2 h)
      omega
    · omega
  · rintro ⟨rfl, h⟩
    rw [h]

theorem cmpI_zero {x y : Int} : cmpI x y = 0 ↔ x = y := by
  unfold cmpI
  split
  · constructor <;> intro h <;> omega
  · split
    · constructor <;> intro h <;> omega
    · constructor <;> intro h <;> omega

set_option maxHeartbeats 1000000 in
theorem Same_any (w : World) (na nb : Bool) (ax ay : Option Addr) (n m cx cy : Nat) (xs ys : List Int) (hX : Sl w ax n cx xs) (hY : Sl w ay m cy ys) (hcx : Canon xs) (hcy : Canon ys) (hna : na = true → n ≠ 0) (hnb : nb = true → m ≠ 0) (hb1 : n ≤ 4000000) (hb2 : m ≤ 4000000) :
    Calls Tryd.prog 23 #[.agg #[.bool na, .slice ax n cx], .agg #[.bool nb, .slice ay m cy]] w fun e w' => e = .returned (.bool (decide (sgn na (val xs) = sgn nb (val ys)))) ∧ Below w.heap.size w w' := by
  have hinj := sgn_inj hcx hcy (val_nonneg hX.digs) (val_nonneg hY.digs) hX.len hY.len hna hnb
  obtain ⟨w0, hw0, hA, hB, hbl⟩ : ∃ w0, w0 = (w.alloc (.cells #[.bool na, .slice ax n cx] 27)).alloc (.cells #[.bool nb, .slice ay m cy] 27) ∧ IntBox w0 w.heap.size (.bool na) (.slice ax n cx) ∧ IntBox w0 (w.heap.size + 1) (.bool nb) (.slice ay m cy) ∧ Below w.heap.size w w0 := by
    refine ⟨_, rfl, ?_, ?_, ?_⟩
    · exact (IntBox.new w _ _ _).mono (alloc_below (w.alloc (.cells #[.bool na, .slice ax n cx] 27)) _) (by simp)
    · have := IntBox.new (w.alloc (.cells #[.bool na, .slice ax n cx] 27)) (.bool nb) (.slice ay m cy) 27
      rw [World.size_alloc] at this
      exact this
    · exact ((Below.refl _ _).alloc (Nat.le_refl _) _).alloc (by simp) _
  have hX0 := hX.mono hbl
  have hY0 := hY.mono hbl
  obtain ⟨a0, a1, _, _⟩ := hA
  obtain ⟨b0, b1, _, _⟩ := hB
  by_cases hs : na = nb
  · subst hs
    have hi : Hid (decide (sgn na (val xs) = sgn na (val ys)) = decide (val xs = val ys)) := by
      show _ = _
      rw [decide_eq_decide, hinj]; simp
    clear hinj
    go_enter Tryd.func23, Tryd.ntmps23
    go_upto_region 1 with (fail)
    rw [← hw0]
    clear hw0
    have hbb : (na == na) = true := by cases na <;> rfl
    go_wp2_with fail
    refine (size_any _ _ _ _ _ _ _ _ _ hX0 hY0 hcx hcy (by omega) (by omega)).mono ?_
    rintro e w1 ⟨rfl, hd⟩
    have hbl1 := hbl.trans (hd.below _)
    by_cases he : val xs = val ys
    · have hc : cmpI (val xs) (val ys) = 0 := cmpI_zero.2 he
      have hI : Hid (decide (sgn na (val xs) = sgn na (val ys)) = true) := hi.out.trans (by simp [he])
      rw [hc]
      clear hc he hi
      go_wp2
      go_ret
      exact ⟨by rw [hI.out]; try rfl, hbl1⟩
    · have hc : cmpI (val xs) (val ys) ≠ 0 := fun h => he (cmpI_zero.1 h)
      have hI : Hid (decide (sgn na (val xs) = sgn na (val ys)) = false) := hi.out.trans (by simp [he])
      generalize cmpI (val xs) (val ys) = t at *
      have hcb : (t == 0) = false := by simp [hc]
      clear he hi hc
      go_wp2
      go_ret
      exact ⟨by rw [hI.out]; try rfl, hbl1⟩
  · have hi : Hid (decide (sgn na (val xs) = sgn nb (val ys)) = false) := by
      show _ = _
      simp only [decide_eq_false_iff_not]
      intro h; exact hs (hinj.1 h).1
    have hbb : (na == nb) = false := by simp [hs]
    clear hinj hs
    go_enter Tryd.func23, Tryd.ntmps23
    go_upto_region 1 with (fail)
    rw [← hw0]
    clear hw0
    go_wp2
    go_ret
    exact ⟨by rw [hi.out]; try rfl, hbl⟩

end Go.Proofs.YthgpcgijhmgenaaDoor

/- Facts of values in a region that draws its order. -/
namespace Go.Proofs.YthgpcgijhmgenaaDoor
open Go Go.RowKit

/-- What is known of a value: a number; two numbers and an error; a machine integer; the value itself; nothing. -/
inductive Fact where
  | num (z : Int)
  | tup (z z' : Int)
  | int (z : Int)
  | is (u : Value)
  | any

def Fact.holds : Fact → Value → World → Prop
  | .num z, v, w => Num w v z
  | .tup z z', v, w => ∃ v1 v2 v3, v = .tuple #[v1, v2, v3] ∧ Num w v1 z ∧ Num w v2 z'
  | .int z, v, _ => v = .int .i64 z
  | .is u, v, _ => v = u
  | .any, _, _ => True

theorem Fact.mono {f : Fact} {v : Value} {w w' : World} (h : f.holds v w) (hb : Below w.heap.size w w') : f.holds v w' := by
  cases f with
  | num z => exact Num.mono h hb
  | tup z z' =>
    obtain ⟨v1, v2, v3, e, h1, h2⟩ := h
    exact ⟨v1, v2, v3, e, h1.mono hb, h2.mono hb⟩
  | int z => exact h
  | is u => exact h
  | any => trivial

theorem Fact.put {f : Fact} {v : Value} {w : World} {b : Nat} {y : Int} (h : f.holds v w) (hb : BoxNum w b y) (n' : Bool) (a' : Option Addr) (k' c' : Nat) : f.holds v (putBox w b n' a' k' c') := by
  cases f with
  | num z => exact Num.putBox h hb _ _ _ _
  | tup z z' =>
    obtain ⟨v1, v2, v3, e, h1, h2⟩ := h
    exact ⟨v1, v2, v3, e, h1.putBox hb _ _ _ _, h2.putBox hb _ _ _ _⟩
  | int z => exact h
  | is u => exact h
  | any => trivial

section
variable {os : List Oper} {Q : Exit → Act → World → Prop} {a : Act} {p : Plan} {B B0 : Nat} {w0 : World} {i s : Nat} {d : Option Tmp} {ty : TypeId} {ps : String} {af : Array Edge}

end

end Go.Proofs.YthgpcgijhmgenaaDoor

/- Steps of a region that draws its order, with guards: what an operand holds; one obligation for each kind of operation. -/
namespace Go.Proofs.YthgpcgijhmgenaaDoor
open Go Go.RowKit

/-- What may be known of a value: it stays so in later worlds, and behind a store into a box. -/
structure Fc where
  P : Value → World → Prop
  mono : ∀ {v : Value} {w w' : World}, P v w → Below w.heap.size w w' → P v w'
  put : ∀ {v : Value} {w : World} {b : Nat} {y : Int}, P v w → BoxNum w b y → ∀ (n' : Bool) (a' : Option Addr) (k' c' : Nat), P v (putBox w b n' a' k' c')

/-- A number. -/
def Fc.num (z : Int) : Fc := ⟨fun v w => Num w v z, fun h hb => h.mono hb, fun h hb _ _ _ _ => h.putBox hb _ _ _ _⟩
/-- A property of the value alone. -/
def Fc.pre (P : Value → Prop) : Fc := ⟨fun v _ => P v, fun h _ => h, fun h _ _ _ _ _ => h⟩
/-- The value itself. -/
def Fc.is (u : Value) : Fc := Fc.pre fun v => v = u
def Fc.any : Fc := Fc.pre fun _ => True
/-- Two numbers and no error. -/
def Fc.tup (z z' : Int) : Fc := ⟨fun v w => ∃ v1 v2, v = .tuple #[v1, v2, .int .i64 0] ∧ Num w v1 z ∧ Num w v2 z',
  fun ⟨v1, v2, e, h1, h2⟩ hb => ⟨v1, v2, e, h1.mono hb, h2.mono hb⟩, fun ⟨v1, v2, e, h1, h2⟩ hb _ _ _ _ => ⟨v1, v2, e, h1.putBox hb _ _ _ _, h2.putBox hb _ _ _ _⟩⟩
/-- A slice of these words. -/
def Fc.sl (m : Nat) (ys : List Int) : Fc := ⟨fun v w => ∃ ao c, v = .slice ao m c ∧ Sl w ao m c ys, fun ⟨ao, c, e, h⟩ hb => ⟨ao, c, e, h.mono hb⟩, fun ⟨ao, c, e, h⟩ hb n' a' k' c' => by
  obtain ⟨p, q, r, t, hI, _⟩ := hb
  exact ⟨ao, c, e, h.putBox hI n' a' k' c'⟩⟩

section
variable {os : List Oper} {Q : Exit → Act → World → Prop} {a : Act} {p : Plan} {B B0 : Nat} {w0 : World}
variable {i s : Nat} {d : Option Tmp} {ty : TypeId} {ps : String} {af : Array Edge} {gd : Option (Nat × Bool)}

/-- What a plan without stores must meet. -/
structure PMono (p : Plan) (B B0 : Nat) : Prop where
  mono : ∀ j v w w', p.C j v w → Below w.heap.size w w' → p.C j v w'
  le : B ≤ B0

theorem PMono.of {p : Plan} {B B0 : Nat} (h : p.Ok B B0) : PMono p B B0 := ⟨h.mono, h.le⟩

/-- What may be known of a value where nothing is stored. -/
structure Fm where
  P : Value → World → Prop
  mono : ∀ {v : Value} {w w' : World}, P v w → Below w.heap.size w w' → P v w'
def Fm.of (f : Fc) : Fm := ⟨f.P, f.mono⟩
def Fm.any : Fm := ⟨fun _ _ => True, fun h _ => h⟩
def depA (af : Array Edge) (j : Nat) : Bool := af.toList.any fun e => Region.binds .any e && e.on == j

theorem depA_of {j : Nat} {L : Nat → Bool} (h : depA af j = true) (hd : ∀ e ∈ af, Region.binds .any e = true → L e.on = true) : L j = true := by
  obtain ⟨e, he, h1⟩ := List.any_eq_true.1 h
  simp only [Bool.and_eq_true, beq_iff_eq] at h1
  rw [← h1.2]
  exact hd e (by simpa using he) h1.1

end

end Go.Proofs.YthgpcgijhmgenaaDoor

/- A region, whether it draws its order or not, over boxes of any kind: an invariant, and one obligation for each operation. -/
namespace Go.Proofs.YthgpcgijhmgenaaDoor
open Go Go.RowKit

/-- None of these values is a word of a slice. -/
def Tame (us : List Value) : Prop := ∀ u ∈ us, ∀ q, u ≠ .int .u32 q

/-- Block b begins with these values, and they may be written. -/
def At (w : World) (b : Nat) (us : List Value) : Prop := ∀ j, j < us.length → w.cell? ⟨b, j, none⟩ = some (us.getD j undef) ∧ w.frozen? ⟨b, j, none⟩ = false

/-- Values are stored, one behind the other. -/
def putFrom (w : World) (b : Nat) : Nat → List Value → World
  | _, [] => w
  | j, u :: us => putFrom (w.setCell ⟨b, j, none⟩ u) b (j + 1) us

theorem putFrom_size (b : Nat) : ∀ (us : List Value) (j : Nat) (w : World), (putFrom w b j us).heap.size = w.heap.size
  | [], _, _ => rfl
  | u :: us, j, w => by
    show (putFrom (w.setCell ⟨b, j, none⟩ u) b (j + 1) us).heap.size = _
    rw [putFrom_size b us, World.size_setCell]

theorem putFrom_below {B b : Nat} (hb : B ≤ b) : ∀ (us : List Value) (j : Nat) (w w' : World), Below B w w' → Below B w (putFrom w' b j us)
  | [], _, _, _, h => h
  | u :: us, j, w, _, h => putFrom_below hb us (j + 1) w _ (h.setCell hb u)

theorem putFrom_frozen (b : Nat) (x : Addr) : ∀ (us : List Value) (j : Nat) (w : World), (putFrom w b j us).frozen? x = w.frozen? x
  | [], _, _ => rfl
  | u :: us, j, w => by
    show (putFrom (w.setCell ⟨b, j, none⟩ u) b (j + 1) us).frozen? x = _
    rw [putFrom_frozen b x us, World.frozen?_setCell]

theorem putFrom_other {b : Nat} {x : Addr} (h : x.block ≠ b) : ∀ (us : List Value) (j : Nat) (w : World), (putFrom w b j us).cell? x = w.cell? x
  | [], _, _ => rfl
  | u :: us, j, w => by
    show (putFrom (w.setCell ⟨b, j, none⟩ u) b (j + 1) us).cell? x = _
    rw [putFrom_other h us, World.cell?_setCell_other _ _ _ _ (by intro e; exact h (congrArg Addr.block e).symm)]

theorem putFrom_before {b i : Nat} : ∀ (us : List Value) (j : Nat) (w : World), i < j → (putFrom w b j us).cell? ⟨b, i, none⟩ = w.cell? ⟨b, i, none⟩
  | [], _, _, _ => rfl
  | u :: us, j, w, h => by
    show (putFrom (w.setCell ⟨b, j, none⟩ u) b (j + 1) us).cell? _ = _
    rw [putFrom_before us (j + 1) _ (by omega), World.cell?_setCell_other _ _ _ _ (by intro e; injection e with e1 e2; omega)]

theorem putFrom_cell {b : Nat} : ∀ (us : List Value) (j : Nat) (w : World), (∀ i, i < us.length → (w.cell? ⟨b, j + i, none⟩).isSome) → ∀ i, i < us.length → (putFrom w b j us).cell? ⟨b, j + i, none⟩ = some (us.getD i undef)
  | [], _, _, _, i, h => by simp at h
  | u :: us, j, w, hs, i, h => by
    show (putFrom (w.setCell ⟨b, j, none⟩ u) b (j + 1) us).cell? _ = _
    match i, h with
    | 0, _ =>
      rw [Nat.add_zero, putFrom_before us (j + 1) _ (by omega)]
      refine World.cell?_setCell_same' _ _ _ ?_
      have := hs 0 (by simp)
      simpa using this
    | i + 1, h =>
      rw [show j + (i + 1) = j + 1 + i by omega]
      have hl : i < us.length := by simpa using h
      rw [putFrom_cell us (j + 1) _ (fun k hk => ?_) i hl]
      · simp
      · rw [World.cell?_setCell_other _ _ _ _ (by intro e; injection e with e1 e2; omega)]
        have := hs (k + 1) (by simp; omega)
        rw [show j + 1 + k = j + (k + 1) by omega]
        exact this

theorem At.put {w : World} {b : Nat} {us us' : List Value} (h : At w b us) (hl : us'.length = us.length) : At (putFrom w b 0 us') b us' := by
  intro j hj
  refine ⟨?_, by rw [putFrom_frozen]; exact (h j (by omega)).2⟩
  have := putFrom_cell (b := b) us' 0 w (fun i hi => by rw [Nat.zero_add, (h i (by omega)).1]; rfl) j hj
  rwa [Nat.zero_add] at this

theorem At.other {w : World} {b b' : Nat} {us us' : List Value} (h : At w b us) (hne : b ≠ b') : At (putFrom w b' 0 us') b us := by
  intro j hj
  rw [putFrom_frozen, putFrom_other (by exact hne)]
  exact h j hj

theorem At.lt {w : World} {b : Nat} {us : List Value} (h : At w b us) (h0 : 0 < us.length) : b < w.heap.size := World.block_lt_of_cell? w ⟨b, 0, none⟩ (h 0 h0).1

theorem At.mono {w w' : World} {b B : Nat} {us : List Value} (h : At w b us) (hb : Below B w w') (hlt : b < B) : At w' b us := by
  intro j hj
  obtain ⟨h1, h2⟩ := h j hj
  refine ⟨(hb.cell (p := ⟨b, j, none⟩) hlt).trans h1, ?_⟩
  have := hb.block b hlt
  unfold World.frozen? at h2 ⊢
  simp only [this]
  exact h2

theorem At.new (w : World) (us : List Value) (t : TypeId) : At (w.alloc (.cells us.toArray t)) w.heap.size us := by
  intro j hj
  have h := heap_alloc_new w (.cells us.toArray t)
  refine ⟨?_, ?_⟩
  · rw [cell_of_row _ _ _ _ _ (0, 0) h]
    simp [hj]
  · simp only [World.frozen?]
    rw [h]
    simp

theorem Sl.putFrom {b : Nat} {ao : Option Addr} {n c : Nat} {xs : List Int} : ∀ (us : List Value) (j : Nat) (w : World), (∀ i, i < us.length → ∃ v, w.cell? ⟨b, j + i, none⟩ = some v ∧ ∀ q, v ≠ .int .u32 q) → Sl w ao n c xs → Sl (putFrom w b j us) ao n c xs
  | [], _, _, _, h => h
  | u :: us, j, w, hs, h => by
    show Sl (Go.Proofs.YthgpcgijhmgenaaDoor.putFrom (w.setCell ⟨b, j, none⟩ u) b (j + 1) us) ao n c xs
    obtain ⟨v, hv, hq⟩ := hs 0 (by simp)
    refine Sl.putFrom us (j + 1) _ (fun i hi => ?_) (h.setOther (a := ⟨b, j, none⟩) hv hq u)
    obtain ⟨v2, hv2, hq2⟩ := hs (i + 1) (by simp; omega)
    refine ⟨v2, ?_, hq2⟩
    rw [World.cell?_setCell_other _ _ _ _ (by intro e; injection e with e1 e2; omega), show j + 1 + i = j + (i + 1) by omega]
    exact hv2

theorem Sl.putAt {w : World} {b : Nat} {us us' : List Value} {ao : Option Addr} {n c : Nat} {xs : List Int} (h : Sl w ao n c xs) (ha : At w b us) (ht : Tame us) (hl : us'.length = us.length) : Sl (Go.Proofs.YthgpcgijhmgenaaDoor.putFrom w b 0 us') ao n c xs :=
  Sl.putFrom us' 0 w (fun i hi => ⟨us.getD i undef, by rw [Nat.zero_add]; exact (ha i (by omega)).1, ht _ (by
    have : i < us.length := by omega
    have e : us.getD i undef = us[i] := by simp [List.getD, this]
    rw [e]; exact List.getElem_mem _)⟩) h

theorem Num.putAt {w : World} {b : Nat} {us us' : List Value} {v : Value} {z : Int} (h : Num w v z) (ha : At w b us) (ht : Tame us) (hl : us'.length = us.length) : Num (putFrom w b 0 us') v z := by
  obtain ⟨neg, ao, n, c, xs, hv, hs, hn, hz⟩ := h
  exact ⟨neg, ao, n, c, xs, hv, hs.putAt ha ht hl, hn, hz⟩

/-- What may be known of a value: it stays so in later worlds, and behind a store into a box. -/
structure Fq where
  P : Value → World → Prop
  mono : ∀ {v : Value} {w w' : World}, P v w → Below w.heap.size w w' → P v w'
  put : ∀ {v : Value} {w : World} {b : Nat} {us us' : List Value}, P v w → At w b us → Tame us → us'.length = us.length → P v (putFrom w b 0 us')

def Fq.num (z : Int) : Fq := ⟨fun v w => Num w v z, fun h hb => h.mono hb, fun h ha ht hl => h.putAt ha ht hl⟩
def Fq.pre (P : Value → Prop) : Fq := ⟨fun v _ => P v, fun h _ => h, fun h _ _ _ => h⟩
def Fq.is (u : Value) : Fq := Fq.pre fun v => v = u
def Fq.any : Fq := Fq.pre fun _ => True
/-- Two values and no more. -/
def Fq.tup2 (F G : Fq) : Fq := ⟨fun v w => ∃ v1 v2, v = .tuple #[v1, v2] ∧ F.P v1 w ∧ G.P v2 w, fun ⟨v1, v2, e, h1, h2⟩ hb => ⟨v1, v2, e, F.mono h1 hb, G.mono h2 hb⟩, fun ⟨v1, v2, e, h1, h2⟩ ha ht hl => ⟨v1, v2, e, F.put h1 ha ht hl, G.put h2 ha ht hl⟩⟩
/-- Two numbers, one behind the other. -/
def Pair (w : World) (v : Value) (n d : Int) : Prop := ∃ p q r s, v = .agg #[p, q, r, s] ∧ Num w (.agg #[p, q]) n ∧ Num w (.agg #[r, s]) d
def Fq.pair (n d : Int) : Fq := ⟨fun v w => Pair w v n d, fun ⟨p, q, r, s, e, h1, h2⟩ hb => ⟨p, q, r, s, e, h1.mono hb, h2.mono hb⟩, fun ⟨p, q, r, s, e, h1, h2⟩ ha ht hl => ⟨p, q, r, s, e, h1.putAt ha ht hl, h2.putAt ha ht hl⟩⟩

theorem Pair.mono {w w' : World} {v : Value} {n d : Int} (h : Pair w v n d) (hb : Below w.heap.size w w') : Pair w' v n d := (Fq.pair n d).mono h hb

/-- A box of m cells. -/
def Bq (w : World) (b m : Nat) (F : Fq) : Prop := ∃ us : List Value, us.length = m ∧ 0 < m ∧ At w b us ∧ Tame us ∧ F.P (.agg us.toArray) w

theorem Bq.lt {w : World} {b m : Nat} {F : Fq} (h : Bq w b m F) : b < w.heap.size := by
  obtain ⟨us, h1, h2, h3, _⟩ := h
  exact h3.lt (by omega)
theorem Bq.mono {w w' : World} {b m : Nat} {F : Fq} (h : Bq w b m F) (hb : Below w.heap.size w w') : Bq w' b m F := by
  have hl := h.lt
  obtain ⟨us, h1, h2, h3, h4, h5⟩ := h
  exact ⟨us, h1, h2, h3.mono hb hl, h4, F.mono h5 hb⟩
theorem Bq.other {w : World} {b b' m m' : Nat} {F F' : Fq} (h : Bq w b m F) (h' : Bq w b' m' F') (hne : b ≠ b') {us' : List Value} (hl : us'.length = m') : Bq (putFrom w b' 0 us') b m F := by
  obtain ⟨us, h1, h2, h3, h4, h5⟩ := h
  obtain ⟨vs, g1, g2, g3, g4, g5⟩ := h'
  exact ⟨us, h1, h2, h3.other hne, h4, F.put h5 g3 g4 (by omega)⟩
theorem Bq.same {w : World} {b m : Nat} {F F' : Fq} (h : Bq w b m F) {us' : List Value} (hl : us'.length = m) (ht : Tame us') (hF : F'.P (.agg us'.toArray) w) : Bq (putFrom w b 0 us') b m F' := by
  obtain ⟨us, h1, h2, h3, h4, h5⟩ := h
  exact ⟨us', hl, h2, h3.put (by omega), ht, F'.put hF h3 h4 (by omega)⟩

/-- A box from before: the block, the store's number, its cells, what it holds before and behind it. -/
structure Ob where
  b : Nat
  k : Nat
  m : Nat
  F0 : Fq
  F1 : Fq
/-- What points at a box of the region's own: a slice of so many elements, or a function that holds the box. -/
inductive Knd where
  | sl (l : Nat)
  | clo (f : FuncId)
@[reducible] instance (l : Nat) : OfNat Knd l := ⟨.sl l⟩
instance : Coe Nat Knd := ⟨.sl⟩
/-- A function that holds one box. -/
def cloV (f : FuncId) (b : Nat) : Value := .func (.func f) #[] #[.pointer (some ⟨b, 0, none⟩)]
/-- A box of the region's own: the numbers of the allocation and of the store. -/
structure Nb where
  i : Nat
  k : Nat
  m : Nat
  F0 : Fq
  F1 : Fq
  /-- A slice, a function, or nothing for a pointer. -/
  s : Option Knd
/-- The block that a value points at. -/
def blockOf : Value → Nat
  | .pointer (some x) => x.block
  | .slice (some x) _ _ => x.block
  | .func _ _ ⟨.pointer (some x) :: _⟩ => x.block
  | _ => 0
/-- The value that points at the box. -/
def Nb.ptr (n : Nb) (b : Nat) : Value := match n.s with
  | none => .pointer (some ⟨b, 0, none⟩)
  | some (.sl l) => .slice (some ⟨b, 0, none⟩) l l
  | some (.clo f) => cloV f b
theorem Nb.block_ptr (n : Nb) (b : Nat) : blockOf (n.ptr b) = b := by
  unfold Nb.ptr
  split <;> rfl
/-- What the box holds: a slice is built whole. -/
def Nb.now (n : Nb) (L : Nat → Bool) : Fq := if (n.s.isSome || L n.k) = true then n.F1 else n.F0
theorem Nb.now_up {n : Nb} {L : Nat → Bool} {i : Nat} {t : Bool} (h : n.k ≠ i) : n.now (up L i t) = n.now L := by
  unfold Nb.now
  rw [up_ne _ _ h]
theorem Nb.now_same (n : Nb) (L : Nat → Bool) : n.now (up L n.k true) = n.F1 := by
  unfold Nb.now
  rw [up_same, Bool.or_true, if_pos rfl]
theorem Nb.now_on {n : Nb} {L : Nat → Bool} (h : L n.k = true) : n.now L = n.F1 := by
  unfold Nb.now
  rw [h, Bool.or_true, if_pos rfl]
theorem Nb.now_off {n : Nb} {L : Nat → Bool} (hs : n.s = none) (h : L n.k = false) : n.now L = n.F0 := by
  unfold Nb.now
  rw [h, hs]
  rfl
structure Pq where
  C : List Fq
  old : List Ob
  new : List Nb
def Pq.c (p : Pq) (j : Nat) : Fq := (p.C[j]?).getD Fq.any

/-- What is held at any time. -/
structure Pq.G (p : Pq) (B B0 : Nat) (w0 : World) (L : Nat → Bool) (vs : Nat → Value) (w : World) : Prop where
  below : Below B w0 w
  size : B0 ≤ w.heap.size
  val : ∀ j, L j = true → (p.c j).P (vs j) w
  old : ∀ o ∈ p.old, Bq w o.b o.m (if L o.k then o.F1 else o.F0)
  new : ∀ n ∈ p.new, L n.i = true → ∃ b, vs n.i = n.ptr b ∧ B0 ≤ b ∧ Bq w b n.m (n.now L)
  apart : ∀ n ∈ p.new, ∀ m ∈ p.new, n.i ≠ m.i → L n.i = true → L m.i = true → blockOf (vs n.i) ≠ blockOf (vs m.i)

structure Pq.Ok (p : Pq) (B B0 : Nat) : Prop where
  oldlt : ∀ o ∈ p.old, B ≤ o.b ∧ o.b < B0
  oldne : ∀ o ∈ p.old, ∀ q ∈ p.old, o.k ≠ q.k → o.b ≠ q.b
  oldinj : ∀ o ∈ p.old, ∀ q ∈ p.old, o.k = q.k → o = q
  newinj : ∀ n ∈ p.new, ∀ m ∈ p.new, n.i = m.i → n = m
  newink : ∀ n ∈ p.new, ∀ m ∈ p.new, n.k = m.k → n = m
  le : B ≤ B0

def Pq.Free (p : Pq) (i : Nat) : Prop := (∀ o ∈ p.old, o.k ≠ i) ∧ ∀ n ∈ p.new, n.i ≠ i ∧ n.k ≠ i

theorem Pq.G.plain {p : Pq} {B B0 : Nat} {w0 w w' : World} {L : Nat → Bool} {vs : Nat → Value} (h : p.G B B0 w0 L vs w) (hp : p.Ok B B0) {i : Nat} {v : Value} (hF : p.Free i) (hb : Below w.heap.size w w') (hC : (p.c i).P v w') :
    p.G B B0 w0 (up L i true) (up vs i v) w' where
  below := h.below.trans (hb.mono (Nat.le_trans hp.le h.size))
  size := Nat.le_trans h.size hb.size
  val := fun j hj => by
    by_cases hji : j = i
    · subst hji; rw [up_same]; exact hC
    · rw [up_ne _ _ hji] at hj ⊢; exact (p.c j).mono (h.val j hj) hb
  old := fun o ho => by rw [up_ne _ _ (hF.1 o ho)]; exact (h.old o ho).mono hb
  new := fun n hn hj => by
    rw [up_ne _ _ (hF.2 n hn).1] at hj ⊢
    rw [Nb.now_up (hF.2 n hn).2]
    obtain ⟨b, e1, e2, e3⟩ := h.new n hn hj
    exact ⟨b, e1, e2, e3.mono hb⟩
  apart := fun n hn m hm hne hj hk => by
    rw [up_ne _ _ (hF.2 n hn).1] at hj ⊢
    rw [up_ne _ _ (hF.2 m hm).1] at hk ⊢
    exact h.apart n hn m hm hne hj hk

/-- A new box is laid. -/
theorem Pq.G.lay {p : Pq} {B B0 : Nat} {w0 w : World} {L : Nat → Bool} {vs : Nat → Value} (h : p.G B B0 w0 L vs w) (hp : p.Ok B B0) {n0 : Nb} (hi : n0 ∈ p.new) {F : Fq} (hk : n0.now (up L n0.i true) = F)
    (hC : ∀ v w', (p.c n0.i).P v w') (h1 : ∀ o ∈ p.old, o.k ≠ n0.i) (h2 : ∀ n ∈ p.new, n.i ≠ n0.i → n.k ≠ n0.i) (t : TypeId) {us : List Value} (hl : us.length = n0.m) (h0 : 0 < n0.m) (ht : Tame us) (hF : F.P (.agg us.toArray) (w.alloc (.cells us.toArray t))) :
    p.G B B0 w0 (up L n0.i true) (up vs n0.i (n0.ptr w.heap.size)) (w.alloc (.cells us.toArray t)) := by
  have hb := alloc_below w (.cells us.toArray t)
  have hbx : Bq (w.alloc (.cells us.toArray t)) w.heap.size n0.m F := ⟨us, hl, h0, At.new w us t, ht, hF⟩
  refine ⟨h.below.trans (hb.mono (Nat.le_trans hp.le h.size)), Nat.le_trans h.size hb.size, fun j hj => ?_, fun o ho => ?_, fun n hn hj => ?_, fun n hn m hm hne hj hk' => ?_⟩
  · by_cases hji : j = n0.i
    · subst hji; exact hC _ _
    · rw [up_ne _ _ hji] at hj ⊢; exact (p.c j).mono (h.val j hj) hb
  · rw [up_ne _ _ (h1 o ho)]; exact (h.old o ho).mono hb
  · by_cases hni : n.i = n0.i
    · have e := hp.newinj n hn _ hi hni
      subst e
      rw [up_same, hk]
      exact ⟨_, rfl, h.size, hbx⟩
    · rw [Nb.now_up (h2 n hn hni)]
      rw [up_ne _ _ hni] at hj ⊢
      obtain ⟨b, e1, e2, e3⟩ := h.new n hn hj
      exact ⟨b, e1, e2, e3.mono hb⟩
  · by_cases hni : n.i = n0.i
    · have hmi : m.i ≠ n0.i := fun e => hne (hni.trans e.symm)
      rw [hni, up_same]
      rw [up_ne _ _ hmi] at hk' ⊢
      obtain ⟨b, e1, e2, e3⟩ := h.new m hm hk'
      rw [e1, Nb.block_ptr, Nb.block_ptr]
      have := e3.lt
      omega
    · rw [up_ne _ _ hni] at hj ⊢
      by_cases hmi : m.i = n0.i
      · rw [hmi, up_same]
        obtain ⟨b, e1, e2, e3⟩ := h.new n hn hj
        rw [e1, Nb.block_ptr, Nb.block_ptr]
        have := e3.lt
        omega
      · rw [up_ne _ _ hmi] at hk' ⊢
        exact h.apart n hn m hm hne hj hk'

theorem Pq.G.alloc {p : Pq} {B B0 : Nat} {w0 w : World} {L : Nat → Bool} {vs : Nat → Value} (h : p.G B B0 w0 L vs w) (hp : p.Ok B B0) {n0 : Nb} (hi : n0 ∈ p.new) (hsl : n0.s = none) (hk : L n0.k = false) (hki : n0.k ≠ n0.i)
    (hC : ∀ v w', (p.c n0.i).P v w') (h1 : ∀ o ∈ p.old, o.k ≠ n0.i) (h2 : ∀ n ∈ p.new, n.k ≠ n0.i) (t : TypeId) {us : List Value} (hl : us.length = n0.m) (h0 : 0 < n0.m) (ht : Tame us) (hF : ∀ w', n0.F0.P (.agg us.toArray) w') :
    p.G B B0 w0 (up L n0.i true) (up vs n0.i (.pointer (some ⟨w.heap.size, 0, none⟩))) (w.alloc (.cells us.toArray t)) := by
  have := h.lay hp hi (F := n0.F0) (by rw [Nb.now_up hki]; exact Nb.now_off hsl hk) hC h1 (fun n hn _ => h2 n hn) t hl h0 ht (hF _)
  have e : n0.ptr w.heap.size = .pointer (some ⟨w.heap.size, 0, none⟩) := by unfold Nb.ptr; rw [hsl]
  rwa [e] at this

theorem Pq.G.storeNew {p : Pq} {B B0 : Nat} {w0 w : World} {L : Nat → Bool} {vs : Nat → Value} (h : p.G B B0 w0 L vs w) (hp : p.Ok B B0) {n0 : Nb} (hi : n0 ∈ p.new) (hLi : L n0.i = true)
    {us : List Value} (hl : us.length = n0.m) (ht : Tame us) (hF : n0.F1.P (.agg us.toArray) w) (hC : ∀ v w', (p.c n0.k).P v w') (h1 : ∀ o ∈ p.old, o.k ≠ n0.k) (h2 : ∀ n ∈ p.new, n.i ≠ n0.k) {b : Nat} (hb : vs n0.i = n0.ptr b) (v : Value) :
    p.G B B0 w0 (up L n0.k true) (up vs n0.k v) (putFrom w b 0 us) := by
  obtain ⟨b', hb', hB0, hbox⟩ := h.new _ hi hLi
  have hbb : b' = b := by
    have := congrArg blockOf (hb'.symm.trans hb)
    rwa [Nb.block_ptr, Nb.block_ptr] at this
  subst hbb
  have hsz : B0 ≤ (putFrom w b' 0 us).heap.size := by rw [putFrom_size]; exact h.size
  have hbox0 := hbox
  obtain ⟨us0, g1, g2, g3, g4, g5⟩ := hbox0
  refine ⟨putFrom_below (Nat.le_trans hp.le hB0) us 0 _ _ h.below, hsz, fun j hj => ?_, fun o ho => ?_, fun n hn hj => ?_, fun n hn m hm hne hj hk' => ?_⟩
  · by_cases hji : j = n0.k
    · subst hji; exact hC _ _
    · rw [up_ne _ _ hji] at hj ⊢; exact (p.c j).put (h.val j hj) g3 g4 (by omega)
  · rw [up_ne _ _ (h1 o ho)]
    exact (h.old o ho).other hbox (by have := (hp.oldlt o ho).2; omega) hl
  · rw [up_ne _ _ (h2 n hn)] at hj ⊢
    by_cases hnk : n.k = n0.k
    · have e := hp.newink n hn _ hi hnk
      subst e
      refine ⟨b', hb', hB0, ?_⟩
      rw [Nb.now_same]
      exact hbox.same hl ht hF
    · rw [Nb.now_up hnk]
      obtain ⟨b2, e1, e2, e3⟩ := h.new n hn hj
      refine ⟨b2, e1, e2, e3.other hbox (fun e => ?_) hl⟩
      have hni : n.i ≠ n0.i := fun e' => by
        have e2 := hp.newinj n hn _ hi e'
        exact hnk (by rw [e2])
      exact h.apart n hn _ hi hni hj hLi (by rw [e1, hb', Nb.block_ptr, Nb.block_ptr, e])
  · rw [up_ne _ _ (h2 n hn)] at hj ⊢
    rw [up_ne _ _ (h2 m hm)] at hk' ⊢
    exact h.apart n hn m hm hne hj hk'

theorem Pq.G.storeOld {p : Pq} {B B0 : Nat} {w0 w : World} {L : Nat → Bool} {vs : Nat → Value} (h : p.G B B0 w0 L vs w) (hp : p.Ok B B0) {o0 : Ob} (hi : o0 ∈ p.old)
    {us : List Value} (hl : us.length = o0.m) (ht : Tame us) (hF : o0.F1.P (.agg us.toArray) w) (hC : ∀ v w', (p.c o0.k).P v w') (h2 : ∀ n ∈ p.new, n.i ≠ o0.k ∧ n.k ≠ o0.k) (v : Value) :
    p.G B B0 w0 (up L o0.k true) (up vs o0.k v) (putFrom w o0.b 0 us) := by
  have hbox := h.old _ hi
  have hblt := hp.oldlt _ hi
  have hsz : B0 ≤ (putFrom w o0.b 0 us).heap.size := by rw [putFrom_size]; exact h.size
  have hbox0 := hbox
  obtain ⟨us0, g1, g2, g3, g4, g5⟩ := hbox0
  refine ⟨putFrom_below hblt.1 us 0 _ _ h.below, hsz, fun j hj => ?_, fun o ho => ?_, fun n hn hj => ?_, fun n hn m hm hne hj hk' => ?_⟩
  · by_cases hji : j = o0.k
    · subst hji; exact hC _ _
    · rw [up_ne _ _ hji] at hj ⊢; exact (p.c j).put (h.val j hj) g3 g4 (by omega)
  · by_cases hok : o.k = o0.k
    · have e := hp.oldinj o ho _ hi hok
      subst e
      rw [up_same]
      exact hbox.same hl ht hF
    · rw [up_ne _ _ hok]
      exact (h.old o ho).other hbox (hp.oldne o ho _ hi hok) hl
  · rw [up_ne _ _ (h2 n hn).1] at hj ⊢
    rw [Nb.now_up (h2 n hn).2]
    obtain ⟨b2, e1, e2, e3⟩ := h.new n hn hj
    exact ⟨b2, e1, e2, e3.other hbox (by have := hblt.2; omega) hl⟩
  · rw [up_ne _ _ (h2 n hn).1] at hj ⊢
    rw [up_ne _ _ (h2 m hm).1] at hk' ⊢
    exact h.apart n hn m hm hne hj hk'

/-- A region that does not draw its order, by the same invariant. -/
theorem wp_region_inv_plain {P : Program} {ops : Array Oper} {Q : Exit → Act → World → Prop} {id : Nat} {a : Act} {w : World} (hA : ApartAll ops)
    (hB : ∀ i o, ops[i]? = some o → ∀ e ∈ o.after, Region.binds .any e = true → e.on < i) (G : (Nat → Bool) → (Nat → Value) → World → Prop)
    (h0 : G (fun _ => false) (fun _ => undef) w)
    (hs : ∀ i o, ops[i]? = some o → ∀ L vs w, G L vs w → L i = false → (∀ e ∈ o.after, Region.binds .any e = true → L e.on = true) → ClosedL ops L →
      wpOp P ops Q i (fun a' w' => ∃ v, a' = (lay ops L vs ops.size a).put o.dst v ∧ G (up L i true) (up vs i v) w') (lay ops L vs ops.size a) w)
    (hf : ∀ L vs w, (∀ j, j < ops.size → L j = true) → G L vs w → Q .normal (lay ops L vs ops.size a) w) : (Code.region id ops false).wp P Q a w := by
  refine wp_region ?_
  have hL1 : ∀ i, up (fun j => decide (j < i)) i true = fun j => decide (j < i + 1) := fun i => by
    funext j
    unfold up
    split
    · rename_i h; subst h; simp
    · rename_i h; simp; omega
  have key : ∀ (k i : Nat) (vs : Nat → Value) (w' : World), i + k = ops.size → G (fun j => decide (j < i)) vs w' → wpOps P ops Q (List.range' i k) (lay ops (fun j => decide (j < i)) vs ops.size a) w' := by
    intro k
    induction k with
    | zero =>
      intro i vs w' hi hG
      show Q .normal _ _
      exact hf _ vs w' (fun j hj => by simp; omega) hG
    | succ k ih =>
      intro i vs w' hi hG
      rw [List.range'_succ, wpOps_cons]
      have hlt : i < ops.size := by omega
      have ho : ops[i]? = some ops[i] := by simp [hlt]
      refine wpOp_mono ?_ (hs i _ ho _ vs w' hG (by simp) (fun e he hb => by have := hB i _ ho e he hb; simpa using this) (fun j o hj hl e he hb => by have h1 := hB j o hj e he hb; simp at hl ⊢; omega))
      rintro a2 w2 ⟨v, rfl, hG2⟩
      have hdst : dstOf ops i = ops[i].dst := by simp [dstOf, hlt]
      have h3 := lay_set (L := fun j => decide (j < i)) (vs := vs) (i := i) (v := v) hA (by simp) ops.size a hlt
      rw [hL1] at hG2 h3
      rw [← hdst, ← h3]
      exact ih (i + 1) (up vs i v) w2 (by omega) hG2
  have h := key ops.size 0 (fun _ => undef) w (by omega) (by simpa using h0)
  rw [List.range_eq_range']
  have e : ∀ k, lay ops (fun j => decide (j < 0)) (fun _ => undef) k a = a := fun k => by
    induction k with
    | zero => rfl
    | succ k ih => simp only [lay, ih]; simp
  rw [e] at h
  exact h

/-- What a call has of its own. -/
structure Fr (w0 : World) (bs : List (Nat × Nat × Fq)) (W : World) : Prop where
  below : Below w0.heap.size w0 W
  boxes : ∀ x ∈ bs, w0.heap.size ≤ x.1 ∧ Bq W x.1 x.2.1 x.2.2
  apart : (bs.map (·.1)).Nodup

theorem Fr.mono {w0 W W' : World} {bs : List (Nat × Nat × Fq)} (h : Fr w0 bs W) (hb : Below W.heap.size W W') : Fr w0 bs W' :=
  ⟨h.below.trans (hb.mono h.below.size), fun x hx => ⟨(h.boxes x hx).1, (h.boxes x hx).2.mono hb⟩, h.apart⟩

theorem Fr.start (w0 : World) : Fr w0 [] w0 := ⟨Below.refl _ _, fun _ h => by simp at h, by simp⟩

theorem Fr.push {w0 W : World} {bs : List (Nat × Nat × Fq)} (h : Fr w0 bs W) {m : Nat} {F : Fq} {us : List Value} (t : TypeId) (hl : us.length = m) (h0 : 0 < m) (ht : Tame us) (hF : F.P (.agg us.toArray) W) :
    Fr w0 ((W.heap.size, m, F) :: bs) (W.alloc (.cells us.toArray t)) := by
  have hb := alloc_below W (.cells us.toArray t)
  have h2 := h.mono hb
  refine ⟨h2.below, fun x hx => ?_, ?_⟩
  · rcases List.mem_cons.1 hx with rfl | hx
    · exact ⟨h.below.size, us, hl, h0, At.new W us t, ht, F.mono hF hb⟩
    · exact h2.boxes x hx
  · rw [List.map_cons, List.nodup_cons]
    refine ⟨fun hm => ?_, h.apart⟩
    obtain ⟨x, hx, e⟩ := List.mem_map.1 hm
    have := (h.boxes x hx).2.lt
    omega

/-- The boxes as a region sees them. -/
def oldOf : List (Nat × Nat × Fq) → List (Option (Nat × Fq)) → Nat → List Ob
  | (b, m, F) :: r, none :: ks, d => ⟨b, d, m, F, F⟩ :: oldOf r ks (d + 1)
  | (b, m, F) :: r, some (k, F1) :: ks, d => ⟨b, k, m, F, F1⟩ :: oldOf r ks (d + 1)
  | _, _, _ => []
/-- The boxes behind it. -/
def oldTo : List (Nat × Nat × Fq) → List (Option (Nat × Fq)) → List (Nat × Nat × Fq)
  | (b, m, F) :: r, none :: ks => (b, m, F) :: oldTo r ks
  | (b, m, _) :: r, some (_, F1) :: ks => (b, m, F1) :: oldTo r ks
  | _, _ => []

/-- The stores' numbers of the boxes from before. -/
def keysOf : List (Option (Nat × Fq)) → Nat → List Nat
  | none :: ks, d => d :: keysOf ks (d + 1)
  | some (k, _) :: ks, d => k :: keysOf ks (d + 1)
  | [], _ => []

theorem oldOf_mem {bs : List (Nat × Nat × Fq)} {ks : List (Option (Nat × Fq))} {d : Nat} {o : Ob} (h : o ∈ oldOf bs ks d) : (o.b, o.m, o.F0) ∈ bs := by
  induction bs generalizing ks d with
  | nil => simp [oldOf] at h
  | cons x r ih =>
    obtain ⟨b, m, F⟩ := x
    cases ks with
    | nil => simp [oldOf] at h
    | cons k ks =>
      cases k with
      | none =>
        simp only [oldOf, List.mem_cons] at h
        rcases h with rfl | h
        · simp
        · exact List.mem_cons_of_mem _ (ih h)
      | some kk =>
        obtain ⟨k, F1⟩ := kk
        simp only [oldOf, List.mem_cons] at h
        rcases h with rfl | h
        · simp
        · exact List.mem_cons_of_mem _ (ih h)

theorem oldOf_key {bs : List (Nat × Nat × Fq)} {ks : List (Option (Nat × Fq))} {d : Nat} {o : Ob} (h : o ∈ oldOf bs ks d) : o.k ∈ keysOf ks d := by
  induction bs generalizing ks d with
  | nil => simp [oldOf] at h
  | cons x r ih =>
    obtain ⟨b, m, F⟩ := x
    cases ks with
    | nil => simp [oldOf] at h
    | cons k ks =>
      cases k with
      | none =>
        simp only [oldOf, List.mem_cons] at h
        rcases h with rfl | h
        · simp [keysOf]
        · exact List.mem_cons_of_mem _ (ih h)
      | some kk =>
        obtain ⟨k, F1⟩ := kk
        simp only [oldOf, List.mem_cons] at h
        rcases h with rfl | h
        · simp [keysOf]
        · exact List.mem_cons_of_mem _ (ih h)

theorem oldOf_inj {bs : List (Nat × Nat × Fq)} {ks : List (Option (Nat × Fq))} {d : Nat} (hk : (keysOf ks d).Nodup) : ∀ o ∈ oldOf bs ks d, ∀ q ∈ oldOf bs ks d, o.k = q.k → o = q := by
  induction bs generalizing ks d with
  | nil => intro o ho; simp [oldOf] at ho
  | cons x r ih =>
    obtain ⟨b, m, F⟩ := x
    cases ks with
    | nil => intro o ho; simp [oldOf] at ho
    | cons k ks =>
      cases k with
      | none =>
        simp only [keysOf, List.nodup_cons] at hk
        intro o ho q hq he
        simp only [oldOf, List.mem_cons] at ho hq
        rcases ho with rfl | ho
        · rcases hq with rfl | hq
          · rfl
          · exact absurd (by have h := oldOf_key hq; rwa [← show d = q.k from he] at h) hk.1
        · rcases hq with rfl | hq
          · exact absurd (by have h := oldOf_key ho; rwa [← show d = o.k from he.symm] at h) hk.1
          · exact ih hk.2 o ho q hq he
      | some kk =>
        obtain ⟨k, F1⟩ := kk
        simp only [keysOf, List.nodup_cons] at hk
        intro o ho q hq he
        simp only [oldOf, List.mem_cons] at ho hq
        rcases ho with rfl | ho
        · rcases hq with rfl | hq
          · rfl
          · exact absurd (by have h := oldOf_key hq; rwa [← show k = q.k from he] at h) hk.1
        · rcases hq with rfl | hq
          · exact absurd (by have h := oldOf_key ho; rwa [← show k = o.k from he.symm] at h) hk.1
          · exact ih hk.2 o ho q hq he

theorem oldOf_ne {bs : List (Nat × Nat × Fq)} {ks : List (Option (Nat × Fq))} {d : Nat} (hb : (bs.map (·.1)).Nodup) : ∀ o ∈ oldOf bs ks d, ∀ q ∈ oldOf bs ks d, o.k ≠ q.k → o.b ≠ q.b := by
  induction bs generalizing ks d with
  | nil => intro o ho; simp [oldOf] at ho
  | cons x r ih =>
    obtain ⟨b, m, F⟩ := x
    simp only [List.map_cons, List.nodup_cons] at hb
    have hne : ∀ {ks d} {q : Ob}, q ∈ oldOf r ks d → q.b ≠ b := fun hq e => hb.1 (by rw [← e]; exact List.mem_map.2 ⟨_, oldOf_mem hq, rfl⟩)
    cases ks with
    | nil => intro o ho; simp [oldOf] at ho
    | cons k ks =>
      cases k with
      | none =>
        intro o ho q hq he
        simp only [oldOf, List.mem_cons] at ho hq
        rcases ho with rfl | ho
        · rcases hq with rfl | hq
          · exact absurd rfl he
          · exact Ne.symm (hne hq)
        · rcases hq with rfl | hq
          · exact hne ho
          · exact ih hb.2 o ho q hq he
      | some kk =>
        obtain ⟨k, F1⟩ := kk
        intro o ho q hq he
        simp only [oldOf, List.mem_cons] at ho hq
        rcases ho with rfl | ho
        · rcases hq with rfl | hq
          · exact absurd rfl he
          · exact Ne.symm (hne hq)
        · rcases hq with rfl | hq
          · exact hne ho
          · exact ih hb.2 o ho q hq he

/-- Behind the region every box holds what the stores laid. -/
theorem oldTo_mem {bs : List (Nat × Nat × Fq)} {ks : List (Option (Nat × Fq))} {d len : Nat} {W : World} {L : Nat → Bool} (hL : ∀ j, j < len → L j = true) (hk : ∀ k F, some (k, F) ∈ ks → k < len)
    (h : ∀ o ∈ oldOf bs ks d, Bq W o.b o.m (if L o.k then o.F1 else o.F0)) : ∀ x ∈ oldTo bs ks, Bq W x.1 x.2.1 x.2.2 := by
  induction bs generalizing ks d with
  | nil => intro x hx; simp [oldTo] at hx
  | cons y r ih =>
    obtain ⟨b, m, F⟩ := y
    cases ks with
    | nil => intro x hx; simp [oldTo] at hx
    | cons k ks =>
      have hk' : ∀ k F, some (k, F) ∈ ks → k < len := fun k F hm => hk k F (List.mem_cons_of_mem _ hm)
      cases k with
      | none =>
        intro x hx
        simp only [oldTo, List.mem_cons] at hx
        simp only [oldOf, List.mem_cons, forall_eq_or_imp] at h
        rcases hx with rfl | hx
        · have := h.1; split at this <;> exact this
        · exact ih hk' h.2 x hx
      | some kk =>
        obtain ⟨k, F1⟩ := kk
        intro x hx
        simp only [oldTo, List.mem_cons] at hx
        simp only [oldOf, List.mem_cons, forall_eq_or_imp] at h
        rcases hx with rfl | hx
        · have h1 := h.1
          rw [hL k (hk k F1 (by simp))] at h1
          exact h1
        · exact ih hk' h.2 x hx

theorem oldTo_fst {bs : List (Nat × Nat × Fq)} {ks : List (Option (Nat × Fq))} (hl : ks.length = bs.length) : (oldTo bs ks).map (·.1) = bs.map (·.1) := by
  induction bs generalizing ks with
  | nil => simp [oldTo]
  | cons y r ih =>
    obtain ⟨b, m, F⟩ := y
    cases ks with
    | nil => simp at hl
    | cons k ks =>
      have hl' : ks.length = r.length := by simpa using hl
      cases k with
      | none => simp [oldTo, ih hl']
      | some kk => obtain ⟨k, F1⟩ := kk; simp [oldTo, ih hl']

/-- What the lists of a region must meet: decided by running it. -/
def okB (len nold : Nat) (ks : List (Option (Nat × Fq))) (new : List Nb) : Bool :=
  ks.length == nold && (keysOf ks len).all (fun k => (keysOf ks len).count k == 1) && ks.all (fun x => match x with | none => true | some (k, _) => decide (k < len)) &&
  (new.map (·.i)).all (fun k => (new.map (·.i)).count k == 1) && (new.map (·.k)).all (fun k => (new.map (·.k)).count k == 1) && new.all (fun n => decide (n.i < len) && decide (n.k < len))

theorem nodup_count {l : List Nat} (h : l.all (fun k => l.count k == 1) = true) : l.Nodup := by
  rw [List.nodup_iff_count]
  intro a
  by_cases ha : a ∈ l
  · have := List.all_eq_true.1 h a ha
    simp at this
    omega
  · rw [List.count_eq_zero.2 ha]; omega

theorem new_inj {α : Type} {f : α → Nat} {l : List α} (h : (l.map f).Nodup) : ∀ n ∈ l, ∀ m ∈ l, f n = f m → n = m := by
  induction l with
  | nil => intro n hn; simp at hn
  | cons x r ih =>
    simp only [List.map_cons, List.nodup_cons] at h
    intro n hn m hm he
    rcases List.mem_cons.1 hn with h1 | h1
    · rcases List.mem_cons.1 hm with h2 | h2
      · rw [h1, h2]
      · exact absurd (List.mem_map.2 ⟨m, h2, by rw [← he, h1]⟩) h.1
    · rcases List.mem_cons.1 hm with h2 | h2
      · exact absurd (List.mem_map.2 ⟨n, h1, by rw [he, h2]⟩) h.1
      · exact ih h.2 n h1 m h2 he

def plq (C : List Fq) (bs : List (Nat × Nat × Fq)) (ks : List (Option (Nat × Fq))) (new : List Nb) (len : Nat) : Pq := ⟨C, oldOf bs ks len, new⟩

section
variable {os : List Oper} {Q : Exit → Act → World → Prop} {a : Act} {p : Pq} {B B0 : Nat} {w0 : World}

def StepQ (os : List Oper) (Q : Exit → Act → World → Prop) (a : Act) (p : Pq) (B B0 : Nat) (w0 : World) (i : Nat) (o : Oper) : Prop :=
  os.toArray[i]? = some o → ∀ L vs w, p.G B B0 w0 L vs w → L i = false → (∀ e ∈ o.after, Region.binds .any e = true → L e.on = true) → ClosedL os.toArray L →
    wpOp Tryd.prog os.toArray Q i (fun a' w' => ∃ v, a' = (lay os.toArray L vs os.toArray.size a).put o.dst v ∧ p.G B B0 w0 (up L i true) (up vs i v) w') (lay os.toArray L vs os.toArray.size a) w

/-- The region's invariant, and values that are others of the region. -/
def GS (p : Pq) (B B0 : Nat) (w0 : World) (same : List (Nat × Nat)) (L : Nat → Bool) (vs : Nat → Value) (w : World) : Prop := p.G B B0 w0 L vs w ∧ ∀ x ∈ same, L x.1 = true → L x.2 = true ∧ vs x.1 = vs x.2

def StepS (os : List Oper) (Q : Exit → Act → World → Prop) (a : Act) (p : Pq) (B B0 : Nat) (w0 : World) (same : List (Nat × Nat)) (i : Nat) (o : Oper) : Prop :=
  os.toArray[i]? = some o → ∀ L vs w, GS p B B0 w0 same L vs w → L i = false → (∀ e ∈ o.after, Region.binds .any e = true → L e.on = true) → ClosedL os.toArray L →
    wpOp Tryd.prog os.toArray Q i (fun a' w' => ∃ v, a' = (lay os.toArray L vs os.toArray.size a).put o.dst v ∧ GS p B B0 w0 same (up L i true) (up vs i v) w') (lay os.toArray L vs os.toArray.size a) w

theorem stepS_of {same : List (Nat × Nat)} {i : Nat} {o : Oper} (h : StepQ os Q a p B B0 w0 i o) (hn : same.all (fun x => x.1 != i) = true) : StepS os Q a p B B0 w0 same i o := by
  intro hio L vs w hG hL hd hc
  refine wpOp_mono ?_ (h hio L vs w hG.1 hL hd hc)
  rintro a2 w2 ⟨v, rfl, hG2⟩
  refine ⟨v, rfl, hG2, fun x hx h1 => ?_⟩
  have hx1 : x.1 ≠ i := by
    have := List.all_eq_true.1 hn x hx
    simpa using this
  rw [up_ne _ _ hx1] at h1
  obtain ⟨h2, h3⟩ := hG.2 x hx h1
  have hx2 : x.2 ≠ i := fun e => by rw [e, hL] at h2; cases h2
  rw [up_ne _ _ hx1, up_ne _ _ hx2, up_ne _ _ hx2]
  exact ⟨h2, h3⟩

theorem region_frG {same : List (Nat × Nat)} {id : Nat} {dr : Bool} {C : List Fq} {bs : List (Nat × Nat × Fq)} {ks : List (Option (Nat × Fq))} {new : List Nb} {W : World} (E : Fr w0 bs W) (hok : okB os.length bs.length ks new = true) (hm : Tryd.prog.follows .mixedOrders = true) (ha : apartB (os.map (·.dst)) = true) (hb : backB os 0 = true)
    (hs : (plq C bs ks new os.length).Ok w0.heap.size W.heap.size → ∀ i o, os.toArray[i]? = some o → StepS os Q a (plq C bs ks new os.length) w0.heap.size W.heap.size w0 same i o)
    (hf : ∀ L vs W' (nb : Nat → Nat), (∀ x ∈ same, x.1 < os.length → vs x.1 = vs x.2) → (∀ j, j < os.length → L j = true) → (∀ j, j < os.length → ((C[j]?).getD Fq.any).P (vs j) W') → (∀ n ∈ new, vs n.i = n.ptr (nb n.i)) → Fr w0 (new.map (fun n => (nb n.i, n.m, n.F1)) ++ oldTo bs ks) W' →
      Q .normal (lay os.toArray L vs os.length a) W') : (Code.region id os.toArray dr).wp Tryd.prog Q a W := by
  simp only [okB, Bool.and_eq_true, beq_iff_eq] at hok
  obtain ⟨⟨⟨⟨⟨k1, k2⟩, k3⟩, k4⟩, k5⟩, k6⟩ := hok
  have n2 := nodup_count k2
  have n4 := nodup_count k4
  have n5 := nodup_count k5
  have hp : (plq C bs ks new os.length).Ok w0.heap.size W.heap.size := by
    refine ⟨fun o ho => ?_, oldOf_ne E.apart, oldOf_inj n2, new_inj n4, new_inj n5, E.below.size⟩
    have h := E.boxes _ (oldOf_mem ho)
    exact ⟨h.1, h.2.lt⟩
  have h0 : ∀ W', Below W.heap.size W W' → W'.heap.size = W.heap.size → GS (plq C bs ks new os.length) w0.heap.size W.heap.size w0 same (fun _ => false) (fun _ => undef) W' := fun W' hW hsz =>
    ⟨⟨E.below.trans (hW.mono E.below.size), by omega, fun _ h => (by cases h), fun o ho => by simpa using (E.boxes _ (oldOf_mem ho)).2.mono hW, fun _ _ h => (by cases h), fun _ _ _ _ _ h => (by cases h)⟩, fun _ _ h => (by cases h)⟩
  have hs' := hs hp
  have hend : ∀ L vs w, (∀ j, j < os.toArray.size → L j = true) → GS (plq C bs ks new os.length) w0.heap.size W.heap.size w0 same L vs w → Q .normal (lay os.toArray L vs os.toArray.size a) w := by
    intro L vs w hL hGS
    have hG := hGS.1
    have hL' : ∀ j, j < os.length → L j = true := by simpa using hL
    have hk3 : ∀ k F, some (k, F) ∈ ks → k < os.length := fun k F hm => by
      have := List.all_eq_true.1 k3 _ hm
      simpa using this
    have hk6 : ∀ n ∈ new, n.i < os.length ∧ n.k < os.length := fun n hn => by
      have := List.all_eq_true.1 k6 _ hn
      simpa using this
    have hnb : ∀ n ∈ new, ∃ b, vs n.i = n.ptr b ∧ W.heap.size ≤ b ∧ Bq w b n.m n.F1 := fun n hn => by
      obtain ⟨b, e1, e2, e3⟩ := hG.new n hn (hL' _ (hk6 n hn).1)
      rw [Nb.now_on (hL' _ (hk6 n hn).2)] at e3
      exact ⟨b, e1, e2, e3⟩
    let nb : Nat → Nat := fun i => blockOf (vs i)
    have hv : ∀ n ∈ new, vs n.i = n.ptr (nb n.i) ∧ W.heap.size ≤ nb n.i ∧ Bq w (nb n.i) n.m n.F1 := fun n hn => by
      obtain ⟨b, e1, e2, e3⟩ := hnb n hn
      have e4 : nb n.i = b := by show blockOf (vs n.i) = b; rw [e1, Nb.block_ptr]
      rw [e4]
      exact ⟨e1, e2, e3⟩
    have hold := oldTo_mem hL' hk3 hG.old
    have hfst := oldTo_fst (bs := bs) (ks := ks) k1
    have hlt : ∀ x ∈ oldTo bs ks, w0.heap.size ≤ x.1 ∧ x.1 < W.heap.size := fun x hx => by
      have hm : x.1 ∈ bs.map (·.1) := by rw [← hfst]; exact List.mem_map.2 ⟨x, hx, rfl⟩
      obtain ⟨y, hy, e⟩ := List.mem_map.1 hm
      have := E.boxes y hy
      have h2 := this.2.lt
      rw [← e]
      exact ⟨this.1, h2⟩
    have hE : Fr w0 (new.map (fun n => (nb n.i, n.m, n.F1)) ++ oldTo bs ks) w := by
      refine ⟨hG.below, fun x hx => ?_, ?_⟩
      · rcases List.mem_append.1 hx with hx | hx
        · obtain ⟨n, hn, rfl⟩ := List.mem_map.1 hx
          have := hv n hn
          exact ⟨Nat.le_trans E.below.size this.2.1, this.2.2⟩
        · exact ⟨(hlt x hx).1, hold x hx⟩
      · rw [List.map_append, hfst, List.map_map]
        refine List.nodup_append.2 ⟨?_, E.apart, fun x hx y hy e => ?_⟩
        · rw [List.nodup_iff_pairwise_ne, List.pairwise_map]
          have hpw : List.Pairwise (fun n m : Nb => n.i ≠ m.i) new := by
            have := List.nodup_iff_pairwise_ne.1 n4
            rwa [List.pairwise_map] at this
          refine hpw.imp_of_mem ?_
          intro n m hn hm hne e
          refine hG.apart n hn m hm hne (hL' _ (hk6 n hn).1) (hL' _ (hk6 m hm).1) ?_
          have e' : nb n.i = nb m.i := e
          rw [(hv n hn).1, (hv m hm).1, Nb.block_ptr, Nb.block_ptr, e']
        · obtain ⟨n, hn, rfl⟩ := List.mem_map.1 hx
          obtain ⟨z, hz, rfl⟩ := List.mem_map.1 hy
          have h1 := (hv n hn).2.1
          have h2 := (E.boxes z hz).2.lt
          have e' : nb n.i = z.1 := e
          omega
    have := hf L vs w nb (fun x hx h => (hGS.2 x hx (hL' _ h)).2) hL' (fun j hj => hG.val j (hL' j hj)) (fun n hn => (hv n hn).1) hE
    simpa using this
  cases dr with
  | true => exact wp_region_inv hm (apart_of ha) (back_of hb) (GS (plq C bs ks new os.length) w0.heap.size W.heap.size w0 same) (h0 W.drew (Below.refl _ _).drew rfl) (fun i o ho => hs' i o ho ho) hend
  | false => exact wp_region_inv_plain (apart_of ha) (back_of hb) (GS (plq C bs ks new os.length) w0.heap.size W.heap.size w0 same) (h0 W (Below.refl _ _) rfl) (fun i o ho => hs' i o ho ho) hend

theorem region_fr {id : Nat} {dr : Bool} {C : List Fq} {bs : List (Nat × Nat × Fq)} {ks : List (Option (Nat × Fq))} {new : List Nb} {W : World} (E : Fr w0 bs W) (hok : okB os.length bs.length ks new = true) (hm : Tryd.prog.follows .mixedOrders = true) (ha : apartB (os.map (·.dst)) = true) (hb : backB os 0 = true)
    (hs : (plq C bs ks new os.length).Ok w0.heap.size W.heap.size → AllOps (StepQ os Q a (plq C bs ks new os.length) w0.heap.size W.heap.size w0) os 0)
    (hf : ∀ L vs W' (nb : Nat → Nat), (∀ j, j < os.length → L j = true) → (∀ j, j < os.length → ((C[j]?).getD Fq.any).P (vs j) W') → (∀ n ∈ new, vs n.i = n.ptr (nb n.i)) → Fr w0 (new.map (fun n => (nb n.i, n.m, n.F1)) ++ oldTo bs ks) W' →
      Q .normal (lay os.toArray L vs os.length a) W') : (Code.region id os.toArray dr).wp Tryd.prog Q a W :=
  region_frG (same := []) E hok hm ha hb (fun hp i o ho => stepS_of (all_ops (hs hp) i o ho) rfl) (fun L vs W' nb _ => hf L vs W' nb)

end

end Go.Proofs.YthgpcgijhmgenaaDoor

/- Walk: powers of sizes. -/
namespace Go.Proofs.YthgpcgijhmgenaaDoor
open Go.RowKit

end Go.Proofs.YthgpcgijhmgenaaDoor

/- Walk: a step of Newton's. -/
namespace Go.Proofs.YthgpcgijhmgenaaDoor
open Go.RowKit

end Go.Proofs.YthgpcgijhmgenaaDoor

/- Roots: the arithmetic of Newton's steps. Nothing of the program is used. -/
set_option linter.unusedSimpArgs false
namespace Go.Proofs.YthgpcgijhmgenaaDoor
open Go.RowKit

end Go.Proofs.YthgpcgijhmgenaaDoor

/- Walk: roots of sizes. -/
namespace Go.Proofs.YthgpcgijhmgenaaDoor
open Go.RowKit

theorem two_pow_le {a b : Nat} (h : a ≤ b) : (2 : Int) ^ a ≤ 2 ^ b := by
  have e := Nat.pow_le_pow_right (n := 2) (by decide) h
  have e1 : ((2 ^ a : Nat) : Int) = 2 ^ a := by simp
  have e2 : ((2 ^ b : Nat) : Int) = 2 ^ b := by simp
  rw [← e1, ← e2]; omega

end Go.Proofs.YthgpcgijhmgenaaDoor

/- Walks: Root, Sqrt. -/
namespace Go.Proofs.YthgpcgijhmgenaaDoor
open Go.RowKit

end Go.Proofs.YthgpcgijhmgenaaDoor

/- Walk: Gcd. -/
namespace Go.Proofs.YthgpcgijhmgenaaDoor
open Go.RowKit

end Go.Proofs.YthgpcgijhmgenaaDoor

/- The arithmetic of Bezout's coefficients. -/
namespace Go.Proofs.YthgpcgijhmgenaaDoor

/-- The absolute value. -/
def ab (z : Int) : Int := (z.natAbs : Int)

theorem ab_of {z : Int} (h : 0 ≤ z) : ab z = z := by unfold ab; omega

end Go.Proofs.YthgpcgijhmgenaaDoor

/- Walk: Bezout. -/
namespace Go.Proofs.YthgpcgijhmgenaaDoor
open Go Go.RowKit

/-- All have laid their values. -/
def putAll (ops : Array Oper) (vs : Nat → Value) : Nat → Act → Act
  | 0, a => a
  | k + 1, a => (putAll ops vs k a).put (dstOf ops k) (vs k)

theorem lay_all {ops : Array Oper} {L : Nat → Bool} {vs : Nat → Value} : ∀ {k : Nat} {a : Act}, (∀ j, j < k → L j = true) → lay ops L vs k a = putAll ops vs k a
  | 0, _, _ => rfl
  | k + 1, a, h => by simp only [lay, putAll]; rw [if_pos (h k (by omega)), lay_all fun j hj => h j (by omega)]

theorem num_of {w : World} {v : Value} {z : Int} (h : IsInt w v z) {k : Nat} (hz : ab z < pw k) (hk : k ≤ 900000) : Num w v z := h.num hk hz

theorem Num.zero (w : World) : Num w (.agg #[.bool false, .slice none 0 0]) 0 := ⟨false, none, 0, 0, [], rfl, Sl.nil _, by omega, by simp [sgn, val], ⟨fun _ hx => by simp at hx, .inl rfl⟩, by simp⟩

theorem gives_num {w w' : World} {z : Int} {e : Ending} (h : GivesInt w z e w') {k : Nat} (hz : ab z < pw k) (hk : k ≤ 900000) : ∃ v', e = .returned v' ∧ Below w.heap.size w w' ∧ Num w' v' z := by
  obtain ⟨v, rfl, hi, hb⟩ := h
  exact ⟨v, rfl, hb, num_of hi hz hk⟩

theorem OfV (w : World) (z : Int) (h0 : -9223372036854775808 ≤ z) (h1 : z ≤ 9223372036854775807) : Calls Tryd.prog 38 #[.int .i64 z] w fun e w' => ∃ v', e = .returned v' ∧ Below w.heap.size w w' ∧ Num w' v' z :=
  (Of_any w z h0 h1).mono fun _ _ h => gives_num h (k := 2) (by have e : pw 2 = 18446744073709551616 := rfl; rw [e]; unfold ab; omega) (by omega)

/-- The boxes of the arguments and of the results. -/
structure Bx (s : Nat) (a b : Int) (w W : World) : Prop where
  xA : BoxNum W s a
  xB : BoxNum W (s + 1) b
  x4 : BoxNum W (s + 1 + 1) 0
  x5 : BoxNum W (s + 1 + 1 + 1) 0
  x6 : BoxNum W (s + 1 + 1 + 1 + 1) 0
  below : Below s w W
  lt : s + 5 ≤ W.heap.size

theorem Bx.mono {s : Nat} {a b : Int} {w W W' : World} (h : Bx s a b w W) (hb : Below W.heap.size W W') : Bx s a b w W' :=
  ⟨h.xA.mono hb, h.xB.mono hb, h.x4.mono hb, h.x5.mono hb, h.x6.mono hb, h.below.trans (hb.mono (by have := h.lt; omega)), Nat.le_trans h.lt hb.size⟩

theorem Bx.put {s : Nat} {a b y : Int} {w W : World} {c : Nat} (h : Bx s a b w W) (hb : BoxNum W c y) (hc : s + 5 ≤ c) (n' : Bool) (a' : Option Addr) (k' c' : Nat) : Bx s a b w (putBox W c n' a' k' c') :=
  ⟨h.xA.putOther hb (by omega) _ _ _ _, h.xB.putOther hb (by omega) _ _ _ _, h.x4.putOther hb (by omega) _ _ _ _, h.x5.putOther hb (by omega) _ _ _ _, h.x6.putOther hb (by omega) _ _ _ _, belowPut h.below (by omega) _ _ _ _, by rw [putBox_size]; exact h.lt⟩

/-- The boxes of the loop. -/
structure Bl (b7 b8 b9 b10 : Nat) (r rr u uu : Int) (W : World) : Prop where
  x7 : BoxNum W b7 r
  x8 : BoxNum W b8 rr
  x9 : BoxNum W b9 u
  x10 : BoxNum W b10 uu

theorem Bl.mono {b7 b8 b9 b10 : Nat} {r rr u uu : Int} {W W' : World} (h : Bl b7 b8 b9 b10 r rr u uu W) (hb : Below W.heap.size W W') : Bl b7 b8 b9 b10 r rr u uu W' :=
  ⟨h.x7.mono hb, h.x8.mono hb, h.x9.mono hb, h.x10.mono hb⟩

end Go.Proofs.YthgpcgijhmgenaaDoor

/- Walk of the reference's Made: the integer of a sign and the first words of a list. -/
namespace Go.Proofs.YthgpcgijhmgenaaDoor
open Go Go.RowKit

theorem add_plain' (b j : Nat) : (⟨b, 0, none⟩ : Addr).add j = ⟨b, j, none⟩ := by rw [Go.WideShapes.add_plain, Nat.zero_add]

theorem own_sl {w : World} {base m : Nat} {v : Value} {ys : List Int} (h : w.ownsRow base 41 1 v m (ys.map (Value.int .u32))) (hd : Digs ys) : ∃ ao c, v = .slice ao m c ∧ Sl w ao m c ys := by
  have hl : ys.length = m := by have := h.1; simpa using this
  rcases h.2 with ⟨rfl, h0⟩ | ⟨g, cap, cur, rfl, hb, hg, hn, _⟩
  · subst h0
    obtain rfl : ys = [] := List.eq_nil_of_length_eq_zero hl
    exact ⟨none, 0, rfl, Sl.nil w⟩
  · refine ⟨_, _, rfl, hl, hn, hd, .inr ⟨g, 0, rfl, (Array.getElem?_eq_some_iff.1 hg).1, fun j hj => ?_⟩⟩
    have := World.ownsRow.cells h (g := g) rfl j (.int .u32 (ys.getD j 0)) (by simp [hj])
    rw [add_plain'] at this
    rw [Nat.zero_add]
    exact this

end Go.Proofs.YthgpcgijhmgenaaDoor

/- Walk of the laws' 'is'; contracts of the reference on values. -/
namespace Go.Proofs.YthgpcgijhmgenaaDoor
open Go Go.RowKit

theorem rOfV (w : World) (z : Int) (h0 : -9223372036854775808 ≤ z) (h1 : z ≤ 9223372036854775807) : Calls Tryd.prog 18 #[.int .i64 z] w fun e w' => ∃ v', e = .returned v' ∧ Below w.heap.size w w' ∧ Num w' v' z :=
  (rOf_any w z h0 h1).mono fun _ _ h => gives_num h (k := 2) (by have e : pw 2 = 18446744073709551616 := rfl; rw [e]; unfold ab; omega) (by omega)

theorem SameV {w : World} {v v' : Value} {z z' : Int} (h : Num w v z) (h' : Num w v' z') : Calls Tryd.prog 23 #[v, v'] w fun e w' => e = .returned (.bool (decide (z = z'))) ∧ Below w.heap.size w w' := by
  obtain ⟨neg, ao, n, c, xs, rfl, hs, hn, rfl, hc, hnn⟩ := h
  obtain ⟨neg', ao', n', c', xs', rfl, hs', hn', rfl, hc', hnn'⟩ := h'
  exact Same_any _ _ _ _ _ _ _ _ _ _ _ hs hs' hc hc' hnn hnn' (by omega) (by omega)

end Go.Proofs.YthgpcgijhmgenaaDoor

/- Walk: Sqrt. -/
namespace Go.Proofs.YthgpcgijhmgenaaDoor
open Go.RowKit

/-- Two boxes hold what they held. -/
def Two (n a b : Nat) (p q p' q' : Value) (W : World) : Prop :=
  n ≤ W.heap.size ∧ W.cell? ⟨a, 0, none⟩ = some p ∧ W.cell? ⟨a, 1, none⟩ = some q ∧ W.cell? ⟨b, 0, none⟩ = some p' ∧ W.cell? ⟨b, 1, none⟩ = some q'

theorem Two.call {n a b : Nat} {p q p' q' : Value} {W W' : World} (h : Two n a b p q p' q' W) (hb : Below W.heap.size W W') (ha : a < n) (hb' : b < n) : Two n a b p q p' q' W' :=
  ⟨Nat.le_trans h.1 hb.size, (hb.cell (p := ⟨a, 0, none⟩) (Nat.lt_of_lt_of_le ha h.1)).trans h.2.1, (hb.cell (p := ⟨a, 1, none⟩) (Nat.lt_of_lt_of_le ha h.1)).trans h.2.2.1,
    (hb.cell (p := ⟨b, 0, none⟩) (Nat.lt_of_lt_of_le hb' h.1)).trans h.2.2.2.1, (hb.cell (p := ⟨b, 1, none⟩) (Nat.lt_of_lt_of_le hb' h.1)).trans h.2.2.2.2⟩

theorem Two.set {n a b c o : Nat} {p q p' q' : Value} {W : World} (h : Two n a b p q p' q' W) (ha : c ≠ a) (hb : c ≠ b) (v : Value) : Two n a b p q p' q' (W.setCell ⟨c, o, none⟩ v) := by
  refine ⟨by rw [World.size_setCell]; exact h.1, ?_, ?_, ?_, ?_⟩
  · rw [World.cell?_setCell_other _ _ _ _ (by intro e; cases e; exact ha rfl)]; exact h.2.1
  · rw [World.cell?_setCell_other _ _ _ _ (by intro e; cases e; exact ha rfl)]; exact h.2.2.1
  · rw [World.cell?_setCell_other _ _ _ _ (by intro e; cases e; exact hb rfl)]; exact h.2.2.2.1
  · rw [World.cell?_setCell_other _ _ _ _ (by intro e; cases e; exact hb rfl)]; exact h.2.2.2.2

end Go.Proofs.YthgpcgijhmgenaaDoor

/- Walk: Pow. -/
namespace Go.Proofs.YthgpcgijhmgenaaDoor
open Go.RowKit

end Go.Proofs.YthgpcgijhmgenaaDoor

/- Contracts on values: Add, Neg, Cmp, Low, Gcd, Sqrt, Root, Pow. -/
namespace Go.Proofs.YthgpcgijhmgenaaDoor
open Go Go.RowKit

/-- A number's length, from its size. -/
theorem Num.len {w : World} {v : Value} {z : Int} (h : Num w v z) {k : Nat} (hz : ab z < pw k) : ∃ (neg : Bool) (ao : Option Addr) (n c : Nat) (xs : List Int), v = .agg #[.bool neg, .slice ao n c] ∧ Sl w ao n c xs ∧ n ≤ k ∧ z = sgn neg (val xs) := by
  obtain ⟨neg, ao, n, c, xs, hv, hs, hn, hz', hc, hnn⟩ := h
  have h0 := val_nonneg hs.digs
  have h1 : val xs < pw k := by
    subst hz'
    unfold ab at hz
    cases neg <;> simp [sgn] at hz <;> omega
  have h2 := hc.length_le h1
  rw [hs.len] at h2
  exact ⟨neg, ao, n, c, xs, hv, hs, h2, hz'⟩

theorem AddV {w : World} {v v' : Value} {z z' : Int} (h : Num w v z) (h' : Num w v' z') : Calls Tryd.prog 51 #[v, v'] w (GivesInt w (z + z')) := by
  obtain ⟨neg, ao, n, c, xs, rfl, hs, hn, rfl, _⟩ := h
  obtain ⟨neg', ao', n', c', xs', rfl, hs', hn', rfl, _⟩ := h'
  exact Add_any _ _ _ _ _ _ _ _ _ _ _ hs hs' (by omega) (by omega)

theorem CmpV {w : World} {v v' : Value} {z z' : Int} (h : Num w v z) (h' : Num w v' z') : Calls Tryd.prog 37 #[v, v'] w fun e w' => e = .returned (.int .i64 (cmpI z z')) ∧ Below w.heap.size w w' := by
  obtain ⟨neg, ao, n, c, xs, rfl, hs, hn, rfl, _⟩ := h
  obtain ⟨neg', ao', n', c', xs', rfl, hs', hn', rfl, _⟩ := h'
  exact Cmp_any _ _ _ _ _ _ _ _ _ _ _ hs hs' (by omega) (by omega)

end Go.Proofs.YthgpcgijhmgenaaDoor

/- The decimal digits of a number, the last one first, and rows of bytes in memory. Nothing of the program is used. -/
namespace Go.Proofs.YthgpcgijhmgenaaDoor
open Go Go.RowKit

/-- Block b is a row of bytes of the call's own. -/
def RowB (w : World) (e : TypeId) (b : Nat) (zs : List Int) : Prop := w.heap[b]? = some (.cells (zs.map (Value.int .u8)).toArray e (0, 0))

theorem RowB.lt {w : World} {e : TypeId} {b : Nat} {zs : List Int} (h : RowB w e b zs) : b < w.heap.size := (Array.getElem?_eq_some_iff.1 h).1

theorem RowB.cell {w : World} {e : TypeId} {b : Nat} {zs : List Int} (h : RowB w e b zs) {j : Nat} (hj : j < zs.length) : w.cell? ⟨b, j, none⟩ = some (.int .u8 (zs.getD j 0)) := by
  rw [cell_of_row w b j _ e (0, 0) h]
  simp [hj]

theorem RowB.frozen {w : World} {e : TypeId} {b : Nat} {zs : List Int} (h : RowB w e b zs) (j : Nat) : w.frozen? ⟨b, j, none⟩ = false := by
  have h2 : w.heap[b]? = some (.cells (zs.map (Value.int .u8)).toArray e (0, 0)) := h
  simp [World.frozen?, h2]

theorem RowB.set {w : World} {e : TypeId} {b : Nat} {zs : List Int} (h : RowB w e b zs) {j : Nat} (x : Int) : RowB (w.setCell ⟨b, j, none⟩ (.int .u8 x)) e b (zs.set j x) := by
  have hb := h.lt
  have h2 : w.heap[b]? = some (.cells (zs.map (Value.int .u8)).toArray e (0, 0)) := h
  unfold RowB
  simp only [World.setCell, Array.getElem?_modify, if_true, h2, Option.map_some, Option.isSome_none]
  simp

end Go.Proofs.YthgpcgijhmgenaaDoor

/- Walks: the decimal digits of a size. -/
namespace Go.Proofs.YthgpcgijhmgenaaDoor
open Go Go.RowKit

/-- What 'digits' has gathered: bytes that the call owns. -/
def Back (w : World) (B : Nat) (v : Value) (ds : List Int) : Prop := w.ownsRow B 5 1 v ds.length (ds.map (Value.int .u8))

theorem Back.shape {w : World} {B : Nat} {v : Value} {ds : List Int} (h : Back w B v ds) : ∃ ao cap, v = .slice ao ds.length cap := by
  rcases h.2 with ⟨rfl, h0⟩ | ⟨g, cap, cur, rfl, _⟩
  · exact ⟨none, 0, by rw [h0]⟩
  · exact ⟨_, _, rfl⟩

theorem Back.cells {w : World} {B : Nat} {v : Value} {ds : List Int} (h : Back w B v ds) (h0 : 0 < ds.length) :
    ∃ g cap, v = .slice (some ⟨g, 0, none⟩) ds.length cap ∧ g < w.heap.size ∧ ∀ j, j < ds.length → w.cell? ⟨g, j, none⟩ = some (.int .u8 (ds.getD j 0)) := by
  rcases h.2 with ⟨rfl, h1⟩ | ⟨g, cap, cur, rfl, hb, hg, _⟩
  · omega
  · refine ⟨g, cap, rfl, (Array.getElem?_eq_some_iff.1 hg).1, fun j hj => ?_⟩
    have := World.ownsRow.cells h (g := g) rfl j (.int .u8 (ds.getD j 0)) (by simp [hj])
    have hadd : (⟨g, 0, none⟩ : Addr).add j = ⟨g, j, none⟩ := by unfold Addr.add; split <;> simp_all
    rw [hadd] at this
    exact this

theorem one_at (w : World) (x : Value) (e : TypeId) : ∀ (j : Nat) (u : Value), [x][j]? = some u → (w.alloc (.cells #[x] e)).cell? ((⟨w.heap.size, 0, none⟩ : Addr).add j) = some u := by
  intro j u hj
  match j, hj with
  | 0, hj => simp at hj; subst hj; simp [Addr.add]

end Go.Proofs.YthgpcgijhmgenaaDoor

/- Walk: the text of an integer. -/
namespace Go.Proofs.YthgpcgijhmgenaaDoor
open Go Go.RowKit

end Go.Proofs.YthgpcgijhmgenaaDoor

/- Walk of the laws' examples: the fixed calls whose results the document gives. -/
namespace Go.Proofs.YthgpcgijhmgenaaDoor
open Go Go.RowKit

/-- Boxes that hold these numbers. -/
def Bs (w : World) : List (Nat × Int) → Prop
  | [] => True
  | p :: r => BoxNum w p.1 p.2 ∧ Bs w r

theorem Bs.mono {w w' : World} (hb : Below w.heap.size w w') : ∀ {l : List (Nat × Int)}, Bs w l → Bs w' l
  | [], _ => trivial
  | _ :: _, h => ⟨h.1.mono hb, Bs.mono hb h.2⟩

end Go.Proofs.YthgpcgijhmgenaaDoor

/- Steps of a region that draws its order and only reads old memory: a load of an old box, a call on a constant. -/
namespace Go.Proofs.YthgpcgijhmgenaaDoor
open Go Go.RowKit

section
variable {os : List Oper} {Q : Exit → Act → World → Prop} {a : Act} {p : Plan} {B B0 : Nat} {w0 : World}
variable {i s : Nat} {d : Option Tmp} {ty : TypeId} {ps : String} {af : Array Edge}

end

end Go.Proofs.YthgpcgijhmgenaaDoor

/- What the walks of the laws share: bounds of sizes, contracts on values, the boxes carried along, lengths of sizes. -/
namespace Go.Proofs.YthgpcgijhmgenaaDoor
open Go Go.RowKit

theorem ab_addB {x y : Int} {j k m : Nat} (hx : ab x < pw j) (hy : ab y < pw k) (hj : j < m) (hk : k < m) : ab (x + y) < pw m := by
  have h1 := pw_le (show j ≤ m - 1 by omega)
  have h2 := pw_le (show k ≤ m - 1 by omega)
  have h3 := pw_succ (m - 1)
  rw [show m - 1 + 1 = m by omega] at h3
  have h4 := pw_pos (m - 1)
  unfold ab at *
  omega

theorem exK {w : World} {z : Int} {f : FuncId} {args : Array Value} (h : Calls Tryd.prog f args w (GivesInt w z)) {k : Nat} (hz : ab z < pw k) (hk : k ≤ 900000) :
    Calls Tryd.prog f args w fun e w' => ∃ v', e = .returned v' ∧ Below w.heap.size w w' ∧ Num w' v' z :=
  h.mono fun _ _ hh => gives_num hh hz hk

theorem exSign {w : World} {v : Value} {z : Int} (h : Num w v z) : Calls Tryd.prog 30 #[v] w fun e w' => ∃ v', e = .returned v' ∧ Below w.heap.size w w' ∧ v' = .int .i64 (cmpI z 0) :=
  (SignV h).mono fun _ _ hh => ⟨_, hh.1, hh.2, rfl⟩

theorem exCmp {w : World} {v v' : Value} {z z' : Int} (h : Num w v z) (h' : Num w v' z') : Calls Tryd.prog 37 #[v, v'] w fun e w' => ∃ v', e = .returned v' ∧ Below w.heap.size w w' ∧ v' = .int .i64 (cmpI z z') :=
  (CmpV h h').mono fun _ _ hh => ⟨_, hh.1, hh.2, rfl⟩

/-- The arguments that came in as a sign and words. -/
def Rw (w : World) : List (Nat × Bool × Option Addr × Nat × Nat × List Int) → Prop
  | [] => True
  | (b, neg, ao, n, c, xs) :: r => (IntBox w b (.bool neg) (.slice ao n c) ∧ Sl w ao n c xs) ∧ Rw w r

theorem Rw.mono {w w' : World} (hb : Below w.heap.size w w') : ∀ {l : List (Nat × Bool × Option Addr × Nat × Nat × List Int)}, Rw w l → Rw w' l
  | [], _ => trivial
  | (_, _, _, _, _, _) :: _, h => ⟨⟨h.1.1.mono hb h.1.1.lt, h.1.2.mono hb⟩, Rw.mono hb h.2⟩

/-- What is carried along a law's walk. -/
structure Ev (w0 : World) (rs : List (Nat × Bool × Option Addr × Nat × Nat × List Int)) (l : List (Nat × Int)) (W : World) : Prop where
  below : Below w0.heap.size w0 W
  raws : Rw W rs
  bs : Bs W l

theorem Ev.mono {w0 W W' : World} {rs : List (Nat × Bool × Option Addr × Nat × Nat × List Int)} {l : List (Nat × Int)} (h : Ev w0 rs l W) (hb : Below W.heap.size W W') : Ev w0 rs l W' :=
  ⟨h.below.trans (hb.mono h.below.size), h.raws.mono hb, h.bs.mono hb⟩

theorem Ev.push {w0 W : World} {rs : List (Nat × Bool × Option Addr × Nat × Nat × List Int)} {l : List (Nat × Int)} (h : Ev w0 rs l W) {b : Nat} {z : Int} (hb : BoxNum W b z) : Ev w0 rs ((b, z) :: l) W :=
  ⟨h.below, h.raws, hb, h.bs⟩

section
variable {os : List Oper} {Q : Exit → Act → World → Prop} {a : Act} {p : Plan} {B B0 : Nat} {w0 : World}
variable {i s : Nat} {d : Option Tmp} {ty : TypeId} {ps : String} {af : Array Edge} {gd : Option (Nat × Bool)}

end

end Go.Proofs.YthgpcgijhmgenaaDoor

/- Steps of a region over boxes of any kind: what an operand holds; one obligation for each kind of operation. -/
namespace Go.Proofs.YthgpcgijhmgenaaDoor
open Go Go.RowKit

section
variable {os : List Oper} {Q : Exit → Act → World → Prop} {a : Act} {p : Pq} {B B0 : Nat} {w0 : World}
variable {i s : Nat} {d : Option Tmp} {ty : TypeId} {ps : String} {af : Array Edge} {gd : Option (Nat × Bool)}

/-- What operand x holds when an operation that waits for 'af' is on. -/
def SrcQ (os : List Oper) (a : Act) (p : Pq) (B B0 : Nat) (w0 : World) (af : Array Edge) (x : Operand) (F : Value → World → Prop) : Prop :=
  ∀ L vs w, p.G B B0 w0 L vs w → (∀ e ∈ af, Region.binds .any e = true → L e.on = true) → F ((lay os.toArray L vs os.toArray.size a).eval x) w

theorem sq_in (j : Nat) {F : Value → World → Prop} (ha : apartB (os.map (·.dst)) = true) (hj : (os.map (·.dst))[j]? = some (some s)) (hs : s < a.tmps.size) (hdep : depA af j = true) (hF : ∀ v w, (p.c j).P v w → F v w) : SrcQ os a p B B0 w0 af (.tmp s) F := by
  intro L vs w hG hd
  have hLj := depA_of hdep hd
  rw [lay_in ha hLj hj hs]
  exact hF _ _ (hG.val j hLj)

theorem sq_out {v : Value} {F : Value → World → Prop} (ho : (os.map (·.dst)).contains (some s) = false) (hx : a.eval (.tmp s) = v) (hF : ∀ w, Below B w0 w → F v w) : SrcQ os a p B B0 w0 af (.tmp s) F := by
  intro L vs w hG hd
  rw [(lay_out ho _).trans hx]
  exact hF _ hG.below

theorem sq_const {v : Value} {F : Value → World → Prop} (hF : ∀ w, F v w) : SrcQ os a p B B0 w0 af (.const v) F := fun _ _ _ _ _ => hF _

/-- The guard lets the operation run. -/
def GdQ (os : List Oper) (a : Act) (p : Pq) (B B0 : Nat) (w0 : World) (af : Array Edge) : Option (Nat × Bool) → Prop
  | none => True
  | some (j, b) => ∀ L vs w, p.G B B0 w0 L vs w → (∀ e ∈ af, Region.binds .any e = true → L e.on = true) → yielded os.toArray (lay os.toArray L vs os.toArray.size a).tmps j = some b

theorem gq_some {j : Nat} {b : Bool} (ha : apartB (os.map (·.dst)) = true) (hj : (os.map (·.dst))[j]? = some (some s)) (hs : s < a.tmps.size) (hdep : depA af j = true) (hC : ∀ v w, (p.c j).P v w → v = .bool b) : GdQ os a p B B0 w0 af (some (j, b)) := by
  intro L vs w hG hd
  have hLj := depA_of hdep hd
  have hv := hC _ _ (hG.val j hLj)
  have he := lay_in (vs := vs) ha hLj hj hs
  rw [hv] at he
  have hsz : s < (lay os.toArray L vs os.toArray.size a).tmps.size := by rw [lay_size]; exact hs
  have ht : (lay os.toArray L vs os.toArray.size a).tmps[s]? = some (.bool b) := by
    have h2 : (lay os.toArray L vs os.toArray.size a).eval (.tmp s) = ((lay os.toArray L vs os.toArray.size a).tmps[s]?).getD undef := by simp [Act.eval]
    rw [Array.getElem?_eq_getElem hsz] at h2 ⊢
    rw [he] at h2
    exact congrArg some h2.symm
  have hdst : (os.toArray[j]?).bind (·.dst) = some s := by
    simp at hj ⊢
    cases ho : os[j]? with
    | none => simp [ho] at hj
    | some o => simp [ho] at hj ⊢; exact hj
  unfold yielded
  rw [hdst]
  simp only [Option.bind_some, ht]

theorem wanted_of {o : Oper} {L : Nat → Bool} {vs : Nat → Value} {w : World} (hg : GdQ os a p B B0 w0 o.after o.guard) (hG : p.G B B0 w0 L vs w) (hd : ∀ e ∈ o.after, Region.binds .any e = true → L e.on = true) : Region.wanted o (yielded os.toArray (lay os.toArray L vs os.toArray.size a).tmps) = true := by
  unfold Region.wanted
  cases hgd : o.guard with
  | none => rfl
  | some jb =>
    obtain ⟨j, b⟩ := jb
    rw [hgd] at hg
    have := hg L vs w hG hd
    show (yielded os.toArray (lay os.toArray L vs os.toArray.size a).tmps j == some b) = true
    rw [this]
    cases b <;> rfl

/-- The guard lets the operation be passed over. -/
theorem q_skip {o : Oper} {j : Nat} {b : Bool} (hp : p.Ok B B0) (hF : p.Free i) (hgd : o.guard = some (j, b)) (hg : GdQ os a p B B0 w0 o.after (some (j, !b))) (hC : ∀ w, (p.c i).P undef w) : StepQ os Q a p B B0 w0 i o := by
  intro hio L vs w hG hL hd hc
  refine wpOp_step hio fun K' hK => ?_
  have h1 := hg L vs w hG hd
  have hwn : ¬ Region.wanted o (yielded os.toArray (lay os.toArray L vs os.toArray.size a).tmps) = true := by
    unfold Region.wanted
    rw [hgd]
    show ¬ (yielded os.toArray (lay os.toArray L vs os.toArray.size a).tmps j == some b) = true
    rw [h1]
    cases b <;> simp
  rw [if_neg hwn]
  exact hK _ _ ⟨_, rfl, hG.plain hp hF (Below.refl _ _) (hC _)⟩

theorem stq_run {o : Oper} (hp : p.Ok B B0) (hF : p.Free i) (hg : GdQ os a p B B0 w0 o.after o.guard) (hr : ∀ L vs w, p.G B B0 w0 L vs w → L i = false → ClosedL os.toArray L → (∀ e ∈ o.after, Region.binds .any e = true → L e.on = true) →
      ∃ v w', (execOp (lay os.toArray L vs os.toArray.size a).eval o).run Tryd.prog w = .ok (.value v) w' ∧ Below w.heap.size w w' ∧ (p.c i).P v w') : StepQ os Q a p B B0 w0 i o := by
  intro hio L vs w hG hL hd hc
  refine wpOp_step hio fun K' hK => ?_
  obtain ⟨v, w', hv, hb, hCv⟩ := hr L vs w hG hL hc hd
  rw [if_pos (wanted_of hg hG hd)]
  unfold Oper.wp
  rw [hv]
  exact hK _ _ ⟨_, rfl, hG.plain hp hF hb hCv⟩

theorem stq_val {o : Oper} (hp : p.Ok B B0) (hF : p.Free i) (hg : GdQ os a p B B0 w0 o.after o.guard) (hr : ∀ L vs w, p.G B B0 w0 L vs w → L i = false → ClosedL os.toArray L → (∀ e ∈ o.after, Region.binds .any e = true → L e.on = true) →
      ∃ v, (execOp (lay os.toArray L vs os.toArray.size a).eval o).run Tryd.prog w = .ok (.value v) w ∧ (p.c i).P v w) : StepQ os Q a p B B0 w0 i o :=
  stq_run hp hF hg fun L vs w hG hL hc hd => by
    obtain ⟨v, h1, h2⟩ := hr L vs w hG hL hc hd
    exact ⟨v, w, h1, Below.refl _ _, h2⟩

theorem stq_call {f : FuncId} {xs : Array Operand} {ts : Array TypeId} (hp : p.Ok B B0) (hF : p.Free i) (hg : GdQ os a p B B0 w0 af gd) (hen : ∀ args w, (callFunc f args).run Tryd.prog w = .ok (.enter f args) w)
    (hr : ∀ L vs w, p.G B B0 w0 L vs w → (∀ e ∈ af, Region.binds .any e = true → L e.on = true) → ∃ args, xs.map (lay os.toArray L vs os.toArray.size a).eval = args ∧
      Calls Tryd.prog f args w fun e w' => ∃ v', e = .returned v' ∧ Below w.heap.size w w' ∧ (p.c i).P v' w') :
    StepQ os Q a p B B0 w0 i { dst := d, op := .call { callee := .value (.func f), args := xs, argTypes := ts }, type := ty, pos := ps, after := af, guard := gd } := by
  intro hio L vs w hG hL hd hc
  refine wpOp_step hio fun K' hK => ?_
  obtain ⟨args, hx, hC⟩ := hr L vs w hG hd
  rw [if_pos (wanted_of (o := { dst := d, op := .call { callee := .value (.func f), args := xs, argTypes := ts }, type := ty, pos := ps, after := af, guard := gd }) hg hG hd)]
  have e : (execOp (lay os.toArray L vs os.toArray.size a).eval ({ dst := d, op := .call { callee := .value (.func f), args := xs, argTypes := ts }, type := ty, pos := ps, after := af, guard := gd } : Oper)).run Tryd.prog w = (.ok (.enter f args) w) := by
    have hf : (lay os.toArray L vs os.toArray.size a).eval (.func f) = .func (.func f) #[] #[] := rfl
    generalize (lay os.toArray L vs os.toArray.size a).eval = ρ at hx hf
    simp [execOp, go_sem, hx, hf, hen]
  unfold Oper.wp
  rw [e]
  refine hC.mono ?_
  rintro e' w' ⟨v', rfl, hb, h⟩
  exact hK _ _ ⟨_, rfl, hG.plain hp hF hb h⟩

theorem q_call1 {x : Operand} {F : Value → World → Prop} {f : FuncId} {ts : Array TypeId} (hp : p.Ok B B0) (hF : p.Free i) (hg : GdQ os a p B B0 w0 af gd) (hen : ∀ args w, (callFunc f args).run Tryd.prog w = .ok (.enter f args) w)
    (hx : SrcQ os a p B B0 w0 af x F) (hC : ∀ v w, F v w → Calls Tryd.prog f #[v] w fun e w' => ∃ v', e = .returned v' ∧ Below w.heap.size w w' ∧ (p.c i).P v' w') :
    StepQ os Q a p B B0 w0 i { dst := d, op := .call { callee := .value (.func f), args := #[x], argTypes := ts }, type := ty, pos := ps, after := af, guard := gd } :=
  stq_call hp hF hg hen fun L vs w hG hd => ⟨#[_], by simp, hC _ _ (hx L vs w hG hd)⟩

theorem q_call2 {x y : Operand} {F G : Value → World → Prop} {f : FuncId} {ts : Array TypeId} (hp : p.Ok B B0) (hF : p.Free i) (hg : GdQ os a p B B0 w0 af gd) (hen : ∀ args w, (callFunc f args).run Tryd.prog w = .ok (.enter f args) w)
    (hx : SrcQ os a p B B0 w0 af x F) (hy : SrcQ os a p B B0 w0 af y G) (hC : ∀ v v' w, F v w → G v' w → Calls Tryd.prog f #[v, v'] w fun e w' => ∃ v', e = .returned v' ∧ Below w.heap.size w w' ∧ (p.c i).P v' w') :
    StepQ os Q a p B B0 w0 i { dst := d, op := .call { callee := .value (.func f), args := #[x, y], argTypes := ts }, type := ty, pos := ps, after := af, guard := gd } :=
  stq_call hp hF hg hen fun L vs w hG hd => ⟨#[_, _], by simp, hC _ _ _ (hx L vs w hG hd) (hy L vs w hG hd)⟩

theorem q_one {o : Oper} {x : Operand} {F : Value → World → Prop} (hp : p.Ok B B0) (hF : p.Free i) (hg : GdQ os a p B B0 w0 o.after o.guard) (hx : SrcQ os a p B B0 w0 o.after x F)
    (hr : ∀ (ρ : Operand → Value) (w : World), (∀ c, ρ (.const c) = c) → F (ρ x) w → ∃ r, (execOp ρ o).run Tryd.prog w = .ok (.value r) w ∧ (p.c i).P r w) : StepQ os Q a p B B0 w0 i o :=
  stq_val hp hF hg fun L vs w hG _ _ hd => hr _ _ (fun _ => rfl) (hx L vs w hG hd)

theorem q_two {o : Oper} {x y : Operand} {F G : Value → World → Prop} (hp : p.Ok B B0) (hF : p.Free i) (hg : GdQ os a p B B0 w0 o.after o.guard) (hx : SrcQ os a p B B0 w0 o.after x F) (hy : SrcQ os a p B B0 w0 o.after y G)
    (hr : ∀ (ρ : Operand → Value) (w : World), (∀ c, ρ (.const c) = c) → F (ρ x) w → G (ρ y) w → ∃ r, (execOp ρ o).run Tryd.prog w = .ok (.value r) w ∧ (p.c i).P r w) : StepQ os Q a p B B0 w0 i o :=
  stq_val hp hF hg fun L vs w hG _ _ hd => hr _ _ (fun _ => rfl) (hx L vs w hG hd) (hy L vs w hG hd)

theorem q_move {x : Operand} (hp : p.Ok B B0) (hF : p.Free i) (hg : GdQ os a p B B0 w0 af gd) (hx : SrcQ os a p B B0 w0 af x (p.c i).P) : StepQ os Q a p B B0 w0 i { dst := d, op := .move x, type := ty, pos := ps, after := af, guard := gd } := by
  refine stq_val hp hF hg fun L vs w hG _ _ hd => ⟨_, ?_, hx L vs w hG hd⟩
  simp [execOp, go_sem]

theorem q_assign {x : Operand} (hp : p.Ok B B0) (hF : p.Free i) (hg : GdQ os a p B B0 w0 af gd) (hx : SrcQ os a p B B0 w0 af x (p.c i).P) : StepQ os Q a p B B0 w0 i { dst := d, op := .assign x, type := ty, pos := ps, after := af, guard := gd } := by
  refine stq_val hp hF hg fun L vs w hG _ _ hd => ⟨_, ?_, hx L vs w hG hd⟩
  simp [execOp, go_sem]

theorem q_extract2 {x : Operand} {k : Nat} {F G : Fq} (hp : p.Ok B B0) (hF : p.Free i) (hg : GdQ os a p B B0 w0 af gd) (hx : SrcQ os a p B B0 w0 af x (Fq.tup2 F G).P) (hC : ∀ v1 v2 w, F.P v1 w → G.P v2 w → ∃ u, #[v1, v2][k]? = some u ∧ (p.c i).P u w) : StepQ os Q a p B B0 w0 i { dst := d, op := .extract x k, type := ty, pos := ps, after := af, guard := gd } := by
  refine stq_val hp hF hg fun L vs w hG _ _ hd => ?_
  obtain ⟨v1, v2, e, h1, h2⟩ := hx L vs w hG hd
  obtain ⟨u, hu, h⟩ := hC v1 v2 w h1 h2
  refine ⟨_, ?_, h⟩
  generalize (lay os.toArray L vs os.toArray.size a).eval = ρ at e
  simp only [execOp, go_sem, e]
  simp [go_sem, hu]

/-- What a box from before holds while it is not stored to. -/
theorem box_now {o : Ob} (ho : o ∈ p.old) (hk : o.F1 = o.F0 ∨ leadsB os 9 o.k i = true) {L : Nat → Bool} {vs : Nat → Value} {w : World} (hG : p.G B B0 w0 L vs w) (hL : L i = false) (hc : ClosedL os.toArray L) : Bq w o.b o.m o.F0 := by
  have := hG.old _ ho
  rcases hk with hk | hk
  · rw [hk] at this; simpa using this
  · rw [not_yet hc hk hL] at this; exact this

/-- An integer, loaded out of a box, or out of a part of it. -/
theorem q_loadInt {o : Ob} {off : Nat} {x : Operand} (hp : p.Ok B B0) (hF : p.Free i) (hg : GdQ os a p B B0 w0 af gd) (ho : o ∈ p.old) (hk : o.F1 = o.F0 ∨ leadsB os 9 o.k i = true) (hoff : off + 2 ≤ o.m)
    (hx : SrcQ os a p B B0 w0 af x fun u _ => u = .pointer (some ⟨o.b, off, none⟩)) (hC : ∀ (us : List Value) (w : World), us.length = o.m → o.F0.P (.agg us.toArray) w → (p.c i).P (.agg #[us.getD off undef, us.getD (off + 1) undef]) w) :
    StepQ os Q a p B B0 w0 i { dst := d, op := .load 27 x, type := ty, pos := ps, after := af, guard := gd } := by
  refine stq_val hp hF hg fun L vs w hG hL hc hd => ?_
  obtain ⟨us, hl, h0, hat, ht, hP⟩ := box_now ho hk hG hL hc
  have e := hx L vs w hG hd
  have c0 := (hat off (by omega)).1
  have c1 := (hat (off + 1) (by omega)).1
  refine ⟨_, ?_, hC us w hl hP⟩
  generalize (lay os.toArray L vs os.toArray.size a).eval = ρ at e
  generalize us.getD off undef = u0 at c0 ⊢
  generalize us.getD (off + 1) undef = u1 at c1 ⊢
  simp [execOp, go_sem, e, c0, c1]

theorem ld_num {us : List Value} {w : World} {z : Int} (hl : us.length = 2) (h : (Fq.num z).P (.agg us.toArray) w) : Num w (.agg #[us.getD 0 undef, us.getD (0 + 1) undef]) z := by
  match us, hl with
  | [p, q], _ => exact h
def zeroInt : List Value := [.bool false, .slice none 0 0]
def zeroRat : List Value := [.bool false, .slice none 0 0, .bool false, .slice none 0 0]
theorem tame_int (n : Bool) (ao : Option Addr) (k c : Nat) : Tame [.bool n, .slice ao k c] := by
  intro u hu q e
  simp at hu
  rcases hu with rfl | rfl <;> cases e
theorem q_allocInt {n0 : Nb} (hp : p.Ok B B0) (hi : n0 ∈ p.new) (hii : n0.i = i) (hsl : n0.s = none) (hm : n0.m = 2) (hk : leadsB os 9 n0.k i = true) (hki : n0.k ≠ i) (hC : ∀ v w', (p.c i).P v w') (h1 : ∀ o ∈ p.old, o.k ≠ i) (h2 : ∀ n ∈ p.new, n.k ≠ i) (hF : ∀ w', n0.F0.P (.agg zeroInt.toArray) w') :
    StepQ os Q a p B B0 w0 i { dst := d, op := .alloc 27, type := ty, pos := ps, after := af, guard := none } := by
  subst hii
  intro hio L vs w hG hL hd hc
  exact op_alloc hio ⟨_, rfl, hG.alloc hp hi hsl (not_yet hc hk hL) hki hC h1 h2 _ (us := zeroInt) hm.symm (by omega) (tame_int _ _ _ _) hF⟩

/-- What is stored into a box of an integer. -/
def IntV (F : Fq) (v : Value) (w : World) : Prop := ∃ n ao k c, v = .agg #[.bool n, .slice ao k c] ∧ F.P v w
theorem intV_num {v : Value} {w : World} {z : Int} (h : Num w v z) : IntV (Fq.num z) v w := by
  obtain ⟨n, ao, k, c, e⟩ := h.parts
  exact ⟨n, ao, k, c, e, h⟩
theorem op_storeInt {ops : Array Oper} {K : Act → World → Prop} {w : World} {x y : Operand} {b : Nat} {us : List Value} {n' : Bool} {a' : Option Addr} {k' c' : Nat} (ho : ops[i]? = some { dst := d, op := .store 27 x y, type := ty, pos := ps, after := af, guard := none }) (hx : a.eval x = .pointer (some ⟨b, 0, none⟩)) (hy : a.eval y = .agg #[.bool n', .slice a' k' c']) (hat : At w b us) (hl : us.length = 2)
    (h : K (a.put d undef) (putFrom w b 0 [.bool n', .slice a' k' c'])) : wpOp Tryd.prog ops Q i K a w :=
  op_store (p := us.getD 0 undef) (q := us.getD 1 undef) ho hx hy ⟨(hat 0 (by omega)).1, (hat 1 (by omega)).1, (hat 0 (by omega)).2, (hat 1 (by omega)).2⟩ h

theorem q_storeNewInt {n0 : Nb} {x y : Operand} (hp : p.Ok B B0) (hi : n0 ∈ p.new) (hki : n0.k = i) (hsl : n0.s = none) (hm : n0.m = 2) (hx : ∀ L vs w, p.G B B0 w0 L vs w → (∀ e ∈ af, Region.binds .any e = true → L e.on = true) → L n0.i = true ∧ (lay os.toArray L vs os.toArray.size a).eval x = vs n0.i) (hy : SrcQ os a p B B0 w0 af y (IntV n0.F1))
    (hC : ∀ v w', (p.c i).P v w') (h1 : ∀ o ∈ p.old, o.k ≠ i) (h2 : ∀ n ∈ p.new, n.i ≠ i) : StepQ os Q a p B B0 w0 i { dst := none, op := .store 27 x y, type := ty, pos := ps, after := af, guard := none } := by
  subst hki
  intro hio L vs w hG hL hd hc
  obtain ⟨hLi, hxe⟩ := hx L vs w hG hd
  obtain ⟨n, ao, k, c, e, hP⟩ := hy L vs w hG hd
  obtain ⟨b, e1', e2, us, g1, g2, g3, g4, g5⟩ := hG.new _ hi hLi
  have e1 : vs n0.i = .pointer (some ⟨b, 0, none⟩) := by rw [e1']; unfold Nb.ptr; rw [hsl]
  rw [e] at hP
  exact op_storeInt hio (hxe.trans e1) e g3 (by omega) ⟨undef, rfl, hG.storeNew hp hi hLi (us := [.bool n, .slice ao k c]) hm.symm (tame_int _ _ _ _) hP hC h1 h2 e1' _⟩

/-- The pointer that an allocation of the region gave. -/
theorem own_ptr {i0 : Nat} (ha : apartB (os.map (·.dst)) = true) (hj : (os.map (·.dst))[i0]? = some (some s)) (hs : s < a.tmps.size) (hdep : depA af i0 = true) : ∀ L vs w, p.G B B0 w0 L vs w → (∀ e ∈ af, Region.binds .any e = true → L e.on = true) → L i0 = true ∧ (lay os.toArray L vs os.toArray.size a).eval (.tmp s) = vs i0 := by
  intro L vs w hG hd
  have hLj := depA_of hdep hd
  exact ⟨hLj, lay_in ha hLj hj hs⟩

theorem q_storeOldInt {o0 : Ob} {x y : Operand} (hp : p.Ok B B0) (hi : o0 ∈ p.old) (hki : o0.k = i) (hm : o0.m = 2) (hx : SrcQ os a p B B0 w0 af x fun u _ => u = .pointer (some ⟨o0.b, 0, none⟩)) (hy : SrcQ os a p B B0 w0 af y (IntV o0.F1))
    (hC : ∀ v w', (p.c i).P v w') (h2 : ∀ n ∈ p.new, n.i ≠ i ∧ n.k ≠ i) : StepQ os Q a p B B0 w0 i { dst := none, op := .store 27 x y, type := ty, pos := ps, after := af, guard := none } := by
  subst hki
  intro hio L vs w hG hL hd hc
  obtain ⟨n, ao, k, c, e, hP⟩ := hy L vs w hG hd
  obtain ⟨us, g1, g2, g3, g4, g5⟩ := hG.old _ hi
  rw [e] at hP
  exact op_storeInt hio (hx L vs w hG hd) e g3 (by omega) ⟨undef, rfl, hG.storeOld hp hi (us := [.bool n, .slice ao k c]) hm.symm (tame_int _ _ _ _) hP hC h2 _⟩

end

/-- Operation i neither stores in a box nor makes one. -/
def freeB (len : Nat) (ks : List (Option (Nat × Fq))) (new : List Nb) (i : Nat) : Bool := !(keysOf ks len).contains i && new.all (fun n => n.i != i && n.k != i)

theorem old_ne {C : List Fq} {bs : List (Nat × Nat × Fq)} {ks : List (Option (Nat × Fq))} {new : List Nb} {len i : Nat} (h : (keysOf ks len).contains i = false) : ∀ o ∈ (plq C bs ks new len).old, o.k ≠ i := fun o ho e => by
  have h1 := oldOf_key ho
  rw [e] at h1
  have h2 := List.contains_iff_mem.2 h1
  rw [h] at h2
  cases h2

theorem newk_ne {C : List Fq} {bs : List (Nat × Nat × Fq)} {ks : List (Option (Nat × Fq))} {new : List Nb} {len i : Nat} (h : new.all (fun n => n.k != i) = true) : ∀ n ∈ (plq C bs ks new len).new, n.k ≠ i := fun n hn e => by
  have := List.all_eq_true.1 h n hn
  simp [e] at this

theorem newi_ne {C : List Fq} {bs : List (Nat × Nat × Fq)} {ks : List (Option (Nat × Fq))} {new : List Nb} {len i : Nat} (h : new.all (fun n => n.i != i) = true) : ∀ n ∈ (plq C bs ks new len).new, n.i ≠ i := fun n hn e => by
  have := List.all_eq_true.1 h n hn
  simp [e] at this

theorem newik_ne {C : List Fq} {bs : List (Nat × Nat × Fq)} {ks : List (Option (Nat × Fq))} {new : List Nb} {len i : Nat} (h : new.all (fun n => n.i != i && n.k != i) = true) : ∀ n ∈ (plq C bs ks new len).new, n.i ≠ i ∧ n.k ≠ i := fun n hn => by
  have := List.all_eq_true.1 h n hn
  simpa using this

theorem free_of {C : List Fq} {bs : List (Nat × Nat × Fq)} {ks : List (Option (Nat × Fq))} {new : List Nb} {len i : Nat} (h : freeB len ks new i = true) : (plq C bs ks new len).Free i := by
  simp only [freeB, Bool.and_eq_true, Bool.not_eq_true'] at h
  exact ⟨old_ne h.1, newik_ne h.2⟩

theorem Fr.box {w0 W : World} {bs : List (Nat × Nat × Fq)} (h : Fr w0 bs W) (k : Nat) {b m : Nat} {F : Fq} (hk : bs[k]? = some (b, m, F)) : Bq W b m F := (h.boxes _ (List.mem_of_getElem? hk)).2

theorem box_num {w : World} {b : Nat} {z : Int} (h : Bq w b 2 (Fq.num z)) : ∃ p q, w.cell? ⟨b, 0, none⟩ = some p ∧ w.cell? ⟨b, 1, none⟩ = some q ∧ Num w (.agg #[p, q]) z := by
  obtain ⟨us, hl, _, hat, _, hP⟩ := h
  match us, hl, hat with
  | [p, q], _, hat => exact ⟨p, q, (hat 0 (by simp)).1, (hat 1 (by simp)).1, hP⟩

theorem Pair.zero (w : World) : Pair w (.agg zeroRat.toArray) 0 0 := ⟨_, _, _, _, rfl, Num.zero w, Num.zero w⟩

/-- The boxes that a call lays first. -/
theorem fr_start (w : World) {m : Nat} {F : Fq} {us : List Value} (t : TypeId) (hl : us.length = m) (h0 : 0 < m) (ht : Tame us) (hF : F.P (.agg us.toArray) w) : ∃ w' b, w' = w.alloc (.cells us.toArray t) ∧ b = w.heap.size ∧ w'.heap.size = w.heap.size + 1 ∧ Fr w [(b, m, F)] w' :=
  ⟨_, _, rfl, rfl, World.size_alloc _ _, (Fr.start w).push t hl h0 ht hF⟩
theorem fr_more {w W : World} {bs : List (Nat × Nat × Fq)} (E : Fr w bs W) {k : Nat} (hk : W.heap.size = k) {m : Nat} {F : Fq} {us : List Value} (t : TypeId) (hl : us.length = m) (h0 : 0 < m) (ht : Tame us) (hF : F.P (.agg us.toArray) W) : ∃ w' b, w' = W.alloc (.cells us.toArray t) ∧ b = k ∧ w'.heap.size = k + 1 ∧ Fr w ((b, m, F) :: bs) w' :=
  ⟨_, _, rfl, rfl, by rw [World.size_alloc, hk], by rw [← hk]; exact E.push t hl h0 ht hF⟩

end Go.Proofs.YthgpcgijhmgenaaDoor

/- Fractions in lowest terms: what the steps of a sum, a product, a quotient come to. Nothing of the program is used. -/
namespace Go.Proofs.YthgpcgijhmgenaaDoor
open Go

theorem exact_div {a g : Int} (h : g ∣ a) : a = g * (a / g) := (Int.mul_ediv_cancel' h).symm

theorem div_pos {a g : Int} (h : g ∣ a) (ha : 0 < a) (hg : 0 < g) : 0 < a / g := by
  have h1 := exact_div h
  rcases Int.lt_or_le 0 (a / g) with h2 | h2
  · exact h2
  · have := Int.mul_nonneg (Int.le_of_lt hg) (show 0 ≤ -(a / g) by omega)
    rw [Int.mul_neg] at this
    omega

end Go.Proofs.YthgpcgijhmgenaaDoor

/- Walks of the reference: Neg, Abs, Sign, Cmp. Walks of the reference: word, plus, minus. Walks of the reference: Bits, left. Walks of the reference: reaches, take, half. -/
namespace Go.Proofs.YthgpcgijhmgenaaDoor
open Go Go.RowKit

end Go.Proofs.YthgpcgijhmgenaaDoor

namespace Go.Proofs.YthgpcgijhmgenaaDoor
open Go Go.RowKit

/-- Words that a call has gathered in a row of its own. -/
def Ow (W : World) (B : Nat) (v : Value) (zs : List Int) : Prop := W.ownsRow B 41 1 v zs.length (zs.map (Value.int .u32)) ∧ Digs zs

theorem Ow.shape {W : World} {B : Nat} {v : Value} {zs : List Int} (h : Ow W B v zs) : ∃ ao cap, v = .slice ao zs.length cap := by
  rcases h.1.2 with ⟨rfl, h0⟩ | ⟨g, cap, cur, rfl, _⟩
  · exact ⟨none, 0, by rw [h0]⟩
  · exact ⟨_, _, rfl⟩

theorem Ow.start (w : World) : Ow (w.alloc (.cells #[] 41)) w.heap.size (.slice (some ⟨w.heap.size, 0, none⟩) 0 0) [] :=
  ⟨⟨rfl, .inr ⟨w.heap.size, 0, #[], rfl, Nat.le_refl _, heap_alloc_new _ _, Nat.le_refl _, Nat.zero_le _, rfl, rfl⟩⟩, fun _ h => by simp at h⟩

theorem Ow.sl {W : World} {B : Nat} {v : Value} {zs : List Int} (h : Ow W B v zs) : ∃ ao c, v = .slice ao zs.length c ∧ Sl W ao zs.length c zs := own_sl h.1 h.2

theorem Ow.step {w wr w1 : World} {v v' : Value} {zs : List Int} {d : Int} {o : Obj} (h : Ow wr w.heap.size v zs) (hnx : Below w.heap.size w wr) (hd0 : 0 ≤ d) (hd1 : d < 4294967296)
    (hown' : w1.ownsRow w.heap.size 41 1 v' (zs.length + 1) (zs.map (Value.int .u32) ++ [.int .u32 d])) (hgrow : (wr.alloc o).grownBy w1 v.ownBlock) :
    Ow w1 w.heap.size v' (zs ++ [d]) ∧ Below w.heap.size w w1 := by
  refine ⟨⟨by simpa using hown', fun y hy => ?_⟩, ?_⟩
  · rcases List.mem_append.1 hy with h1 | h1
    · exact h.2 y h1
    · simp at h1; subst h1; exact ⟨hd0, hd1⟩
  · have hs := hnx.size
    exact (hnx.alloc hs o).grown hgrow (by simp; omega) (fun j hj => (World.ownsRow.lt h.1 j hj).1)

end Go.Proofs.YthgpcgijhmgenaaDoor

namespace Go.Proofs.YthgpcgijhmgenaaDoor
open Go Go.RowKit

/-- Block b is a row of the call's own whose first n cells are these words. -/
def Mine (w : World) (b n : Nat) (zs : List Int) : Prop :=
  ∃ cur : Array Value, w.heap[b]? = some (.cells cur 41 (0, 0)) ∧ zs.length = n ∧ Digs zs ∧ n ≤ cur.size ∧ ∀ j, j < n → cur[j]? = some (.int .u32 (zs.getD j 0))

theorem Mine.lt {w : World} {b n : Nat} {zs : List Int} (h : Mine w b n zs) : b < w.heap.size := by
  obtain ⟨cur, h1, _⟩ := h
  exact (Array.getElem?_eq_some_iff.1 h1).1
theorem Mine.len {w : World} {b n : Nat} {zs : List Int} (h : Mine w b n zs) : zs.length = n := by
  obtain ⟨cur, _, h1, _⟩ := h
  exact h1
theorem Mine.digs {w : World} {b n : Nat} {zs : List Int} (h : Mine w b n zs) : Digs zs := by
  obtain ⟨cur, _, _, h1, _⟩ := h
  exact h1
theorem Mine.cell {w : World} {b n : Nat} {zs : List Int} (h : Mine w b n zs) {j : Nat} (hj : j < n) : w.cell? ⟨b, j, none⟩ = some (.int .u32 (zs.getD j 0)) := by
  obtain ⟨cur, h1, h2, h3, h4, h5⟩ := h
  rw [cell_of_row w b j _ _ (0, 0) h1]
  exact h5 j hj
theorem Mine.frozen {w : World} {b n : Nat} {zs : List Int} (h : Mine w b n zs) (j : Nat) : w.frozen? ⟨b, j, none⟩ = false := by
  obtain ⟨cur, h1, _⟩ := h
  simp [World.frozen?, h1]
theorem Mine.mono {w w' : World} {b n : Nat} {zs : List Int} (h : Mine w b n zs) {B : Nat} (hb : Below B w w') (hB : b < B) : Mine w' b n zs := by
  obtain ⟨cur, h1, h2⟩ := h
  exact ⟨cur, by rw [hb.block b hB]; exact h1, h2⟩
theorem Mine.drewN {w : World} {b n : Nat} {zs : List Int} (h : Mine w b n zs) (d : Nat) : Mine (w.drewN d) b n zs := h
theorem Mine.set {w : World} {b n : Nat} {zs : List Int} (h : Mine w b n zs) {j : Nat} (hj : j < n) {x : Int} (hx0 : 0 ≤ x) (hx1 : x < 4294967296) : Mine (w.setCell ⟨b, j, none⟩ (.int .u32 x)) b n (zs.set j x) := by
  obtain ⟨cur, h1, h2, h3, h4, h5⟩ := h
  refine ⟨cur.setIfInBounds j (.int .u32 x), ?_, by rw [List.length_set]; exact h2, h3.set j ⟨hx0, hx1⟩, by simpa using h4, fun k hk => ?_⟩
  · simp only [World.setCell, Array.getElem?_modify, if_true, h1, Option.map_some, Option.isSome_none]
    simp
  · by_cases hjk : j = k
    · subst hjk
      rw [getD_set _ _ _ (by omega), Array.getElem?_setIfInBounds_self_of_lt (by omega)]
    · rw [getD_set_ne _ _ _ _ hjk]
      rw [Array.getElem?_setIfInBounds_ne hjk]
      exact h5 k hk
theorem Mine.sl {w : World} {b n : Nat} {zs : List Int} (h : Mine w b n zs) {c : Nat} (hc : n ≤ c) : Sl w (some ⟨b, 0, none⟩) n c zs :=
  ⟨h.len, hc, h.digs, .inr ⟨b, 0, rfl, h.lt, fun j hj => by rw [Nat.zero_add]; exact h.cell (by have := h.len; omega)⟩⟩
theorem Mine.other {w : World} {b n : Nat} {zs : List Int} (h : Mine w b n zs) {w' : World} {b' : Nat} (hg : w.grownBy w' (some b')) (hne : b ≠ b') : Mine w' b n zs := by
  have hl := h.lt
  obtain ⟨cur, h1, h2⟩ := h
  exact ⟨cur, by rw [hg.block b hl (by simpa using hne)]; exact h1, h2⟩
theorem add_mod {T cc P : Int} (h1 : T % 4294967296 % P = 0) (h2 : (4294967296 : Int) % P = 0) (_ : 0 < P) (hc0 : 0 ≤ cc) (hc : cc < P) : (T + cc) % 4294967296 = T % 4294967296 + cc := by
  have h4 : (4294967296 - T % 4294967296) % P = 0 := by rw [Int.sub_emod, h1, h2]; simp
  have h5 : 0 < 4294967296 - T % 4294967296 := by omega
  have h6 := Int.le_of_dvd h5 (Int.dvd_of_emod_eq_zero h4)
  omega

end Go.Proofs.YthgpcgijhmgenaaDoor

namespace Go.Proofs.YthgpcgijhmgenaaDoor
open Go Go.RowKit

theorem Sl.other {w w' : World} {ay : Option Addr} {m cy b : Nat} {ys : List Int} (h : Sl w ay m cy ys) (hg : w.grownBy w' (some b)) (hne : ∀ b' o, ay = some ⟨b', o, none⟩ → b' ≠ b) : Sl w' ay m cy ys := by
  refine ⟨h.len, h.cap, h.digs, ?_⟩
  rcases h.cells.2 with h1 | ⟨b', off, h1, h2, h3⟩
  · exact .inl h1
  · refine .inr ⟨b', off, h1, Nat.lt_of_lt_of_le h2 hg.size, fun j hj => ?_⟩
    have := hg.block b' h2 (by simpa using hne b' off h1)
    have h4 := h3 j hj
    unfold World.cell? at h4 ⊢
    rw [this]
    exact h4

end Go.Proofs.YthgpcgijhmgenaaDoor

/- Walks of the reference: Add, Sub, Mul. Walks of the reference: divide. Walks of the reference: divide of long sizes. -/
namespace Go.Proofs.YthgpcgijhmgenaaDoor
open Go Go.RowKit

end Go.Proofs.YthgpcgijhmgenaaDoor

namespace Go.Proofs.YthgpcgijhmgenaaDoor
open Go Go.RowKit

end Go.Proofs.YthgpcgijhmgenaaDoor

namespace Go.Proofs.YthgpcgijhmgenaaDoor
open Go Go.RowKit

end Go.Proofs.YthgpcgijhmgenaaDoor

/- Walks of the reference: DivMod, Div, Mod. Walk of the reference: Bezout. -/
namespace Go.Proofs.YthgpcgijhmgenaaDoor
open Go Go.RowKit

theorem ab_sgn (b : Bool) (v : Int) : ab (sgn b v) = ab v := by unfold ab; cases b <;> simp [sgn]

end Go.Proofs.YthgpcgijhmgenaaDoor

namespace Go.Proofs.YthgpcgijhmgenaaDoor
open Go Go.RowKit

end Go.Proofs.YthgpcgijhmgenaaDoor

/- What the walks of stage 2 share: entering a function, contracts in the form that a region wants. -/
namespace Go.Proofs.YthgpcgijhmgenaaDoor
open Go Go.RowKit

theorem enq_Add (args : Array Value) (w : World) : (callFunc 51 args).run Tryd.prog w = .ok (.enter 51 args) w := enter_of Tryd.func51 (by kernel_rfl) rfl args w
theorem enq_Cmp (args : Array Value) (w : World) : (callFunc 37 args).run Tryd.prog w = .ok (.enter 37 args) w := enter_of Tryd.func37 (by kernel_rfl) rfl args w
theorem enq_Sign (args : Array Value) (w : World) : (callFunc 30 args).run Tryd.prog w = .ok (.enter 30 args) w := enter_of Tryd.func30 (by kernel_rfl) rfl args w
theorem enq_Of (args : Array Value) (w : World) : (callFunc 38 args).run Tryd.prog w = .ok (.enter 38 args) w := enter_of Tryd.func38 (by kernel_rfl) rfl args w
theorem enq_R_Same (args : Array Value) (w : World) : (callFunc 23 args).run Tryd.prog w = .ok (.enter 23 args) w := enter_of Tryd.func23 (by kernel_rfl) rfl args w
theorem enq_R_Of (args : Array Value) (w : World) : (callFunc 18 args).run Tryd.prog w = .ok (.enter 18 args) w := enter_of Tryd.func18 (by kernel_rfl) rfl args w
theorem cmpIqgt {x y : Int} : 0 < cmpI x y ↔ y < x := by
  unfold cmpI
  split
  · rename_i h; exact ⟨fun h2 => by omega, fun h2 => by omega⟩
  · split
    · rename_i h; exact ⟨fun h2 => by omega, fun h2 => by omega⟩
    · rename_i h1 h; exact ⟨fun _ => by omega, fun _ => by decide⟩

theorem ab_lit {c : Int} (h : ab c < 4294967296 * 4294967296 * 4294967296) : ab c < pw 3 := h

theorem OfK (w : World) (z : Int) (h0 : -9223372036854775808 ≤ z) (h1 : z ≤ 9223372036854775807) : Calls Tryd.prog 38 #[.int .i64 z] w fun e w' => ∃ v', e = .returned v' ∧ Below w.heap.size w w' ∧ Num w' v' z := OfV w z h0 h1
theorem rOfK (w : World) (z : Int) (h0 : -9223372036854775808 ≤ z) (h1 : z ≤ 9223372036854775807) : Calls Tryd.prog 18 #[.int .i64 z] w fun e w' => ∃ v', e = .returned v' ∧ Below w.heap.size w w' ∧ Num w' v' z := rOfV w z h0 h1

end Go.Proofs.YthgpcgijhmgenaaDoor

/- Walks: package rational and its reference, on fractions. -/
namespace Go.Proofs.YthgpcgijhmgenaaDoor
open Go Go.RowKit

theorem Fr.drop {w0 W : World} {x : Nat × Nat × Fq} {bs : List (Nat × Nat × Fq)} (h : Fr w0 (x :: bs) W) : Fr w0 bs W :=
  ⟨h.below, fun y hy => h.boxes y (List.mem_cons_of_mem _ hy), by have := h.apart; rw [List.map_cons, List.nodup_cons] at this; exact this.2⟩

theorem exRSame {w : World} {v v' : Value} {a b : Int} (h : Num w v a) (h' : Num w v' b) : Calls Tryd.prog 23 #[v, v'] w fun e w' => ∃ v', e = .returned v' ∧ Below w.heap.size w w' ∧ v' = .bool (decide (a = b)) :=
  (SameV h h').mono fun _ _ hh => ⟨_, hh.1, hh.2, rfl⟩

end Go.Proofs.YthgpcgijhmgenaaDoor

/- Walks: the reference's Gcd; its package of fractions. -/
namespace Go.Proofs.YthgpcgijhmgenaaDoor
open Go Go.RowKit

section
variable {n n' : Bool} {a a' : Option Addr} {k c k' c' : Nat} {xs xs' : List Int}
end

section
variable {os : List Oper} {Q : Exit → Act → World → Prop} {a : Act} {p : Pq} {B B0 : Nat} {w0 : World}
variable {i s : Nat} {d : Option Tmp} {ty : TypeId} {ps : String} {af : Array Edge} {gd : Option (Nat × Bool)}
end

theorem exRSameB {w : World} {v v' : Value} {a b : Int} {t : Bool} (h : Num w v a) (h' : Num w v' b) (ht : decide (a = b) = t) : Calls Tryd.prog 23 #[v, v'] w fun e w' => ∃ v', e = .returned v' ∧ Below w.heap.size w w' ∧ v' = .bool t := by
  have := exRSame h h'
  rw [ht] at this
  exact this

end Go.Proofs.YthgpcgijhmgenaaDoor

/- Decimal texts: what a text says, and that it is the only text of its number. Nothing of the program is used. Walk: a size times ten and a digit, in its place. Walks: read, whole. Walk: Parse, whole. -/
namespace Go.Proofs.YthgpcgijhmgenaaDoor
open Go Go.RowKit

end Go.Proofs.YthgpcgijhmgenaaDoor

namespace Go.Proofs.YthgpcgijhmgenaaDoor
open Go Go.RowKit

theorem Ow.set {w : World} {B g n c : Nat} {zs : List Int} (h : Ow w B (.slice (some ⟨g, 0, none⟩) n c) zs) {j : Nat} (hj : j < n) {x : Int} (hx0 : 0 ≤ x) (hx1 : x < 4294967296) : Ow (w.setCell ⟨g, j, none⟩ (.int .u32 x)) B (.slice (some ⟨g, 0, none⟩) n c) (zs.set j x) := by
  obtain ⟨⟨h1, h2⟩, h3⟩ := h
  rcases h2 with ⟨h4, _⟩ | ⟨g', cap, cur, h4, h5, h6, h7, h8, h9, h10⟩
  · cases h4
  · cases h4
    refine ⟨⟨by simp, .inr ⟨g, c, cur.setIfInBounds j (.int .u32 x), by rw [List.length_set], h5, ?_, by rw [List.length_set]; exact h7, h8, by simpa using h9, ?_⟩⟩, h3.set j ⟨hx0, hx1⟩⟩
    · simp only [World.setCell, Array.getElem?_modify, if_true, h6, Option.map_some, Option.isSome_none]
      simp
    · rw [List.length_set, Array.toList_setIfInBounds, List.take_set, h10, List.map_set]

end Go.Proofs.YthgpcgijhmgenaaDoor

namespace Go.Proofs.YthgpcgijhmgenaaDoor
open Go Go.RowKit

theorem Ow.nil (w : World) (B : Nat) : Ow w B (.slice none 0 0) [] := ⟨World.ownsRow_nil _ _ _ _, fun _ h => by simp at h⟩

end Go.Proofs.YthgpcgijhmgenaaDoor

namespace Go.Proofs.YthgpcgijhmgenaaDoor
open Go Go.RowKit

end Go.Proofs.YthgpcgijhmgenaaDoor

/- Walks: fractions made of descriptions; texts; Valid. -/
namespace Go.Proofs.YthgpcgijhmgenaaDoor
open Go Go.RowKit

end Go.Proofs.YthgpcgijhmgenaaDoor

/- Walks: Valid; Parse of "2/4"; the simplest fraction. -/
namespace Go.Proofs.YthgpcgijhmgenaaDoor
open Go Go.RowKit

end Go.Proofs.YthgpcgijhmgenaaDoor

/- Walks: the simplest fraction between two. -/
namespace Go.Proofs.YthgpcgijhmgenaaDoor
open Go Go.RowKit

/-- A box of the call's own is stored to. -/
theorem Fr.put {w0 W : World} {b m : Nat} {F F' : Fq} {bs : List (Nat × Nat × Fq)} (h : Fr w0 ((b, m, F) :: bs) W) {us : List Value} (hl : us.length = m) (ht : Tame us) (hF : F'.P (.agg us.toArray) W) : Fr w0 ((b, m, F') :: bs) (putFrom W b 0 us) := by
  have hb := h.boxes _ List.mem_cons_self
  refine ⟨putFrom_below hb.1 us 0 _ _ h.below, fun x hx => ?_, h.apart⟩
  rcases List.mem_cons.1 hx with rfl | hx
  · exact ⟨hb.1, hb.2.same hl ht hF⟩
  · have hx2 := h.boxes x (List.mem_cons_of_mem _ hx)
    refine ⟨hx2.1, hx2.2.other hb.2 (fun e => ?_) hl⟩
    have hn := h.apart
    rw [List.map_cons, List.nodup_cons] at hn
    exact hn.1 (by rw [show (b, m, F).1 = x.1 from e.symm]; exact List.mem_map.2 ⟨x, hx, rfl⟩)

section
variable {os : List Oper} {Q : Exit → Act → World → Prop} {a : Act} {p : Pq} {B B0 : Nat} {w0 : World}
variable {i s : Nat} {d : Option Tmp} {ty : TypeId} {ps : String} {af : Array Edge} {gd : Option (Nat × Bool)}
end

end Go.Proofs.YthgpcgijhmgenaaDoor

/- Walks: Between; the examples of the laws on fractions. -/
namespace Go.Proofs.YthgpcgijhmgenaaDoor
open Go Go.RowKit

end Go.Proofs.YthgpcgijhmgenaaDoor

/- Steps of a region over slices of fractions. -/
namespace Go.Proofs.YthgpcgijhmgenaaDoor
open Go Go.RowKit

section
variable {os : List Oper} {Q : Exit → Act → World → Prop} {a : Act} {p : Pq} {B B0 : Nat} {w0 : World}
variable {i s : Nat} {d : Option Tmp} {ty : TypeId} {ps : String} {af : Array Edge} {gd : Option (Nat × Bool)}

end

theorem newks_ne {C : List Fq} {bs : List (Nat × Nat × Fq)} {ks : List (Option (Nat × Fq))} {new : List Nb} {len i : Nat} (h : new.all (fun n => n.i == i || n.k != i) = true) : ∀ n ∈ (plq C bs ks new len).new, n.i ≠ i → n.k ≠ i := fun n hn hi e => by
  have := List.all_eq_true.1 h n hn
  simp [e, hi] at this

end Go.Proofs.YthgpcgijhmgenaaDoor

/- Steps of a region over functions that hold a box. -/
namespace Go.Proofs.YthgpcgijhmgenaaDoor
open Go Go.RowKit

section
variable {os : List Oper} {Q : Exit → Act → World → Prop} {a : Act} {p : Pq} {B B0 : Nat} {w0 : World}
variable {i s : Nat} {d : Option Tmp} {ty : TypeId} {ps : String} {af : Array Edge} {gd : Option (Nat × Bool)}

end

end Go.Proofs.YthgpcgijhmgenaaDoor

/- The symbol of Jacobi, by Gauss's count: products, the second law, reciprocity, Euler. -/
namespace Go.Proofs.YthgpcgijhmgenaaDoor
open Go Go.RowKit

/-- A product over a list, a sum over a list. -/
def prodL (f : Nat → Int) (l : List Nat) : Int := l.foldr (fun k z => f k * z) 1
/-- The numbers from 1 to h. -/
def up1 (h : Nat) : List Nat := List.range' 1 h
/-- The sign of the least absolute residue, and its size. -/
def sg (n : Nat) (x : Int) : Int := if 2 * (x % n) < n then 1 else -1
/-- Jacobi's symbol, for odd n. -/
def J (a : Int) (n : Nat) : Int := if Int.gcd a n = 1 then prodL (fun k => sg n (a * k)) (up1 ((n - 1) / 2)) else 0
/-- A prime number. -/
def Pr (p : Nat) : Prop := 2 ≤ p ∧ ∀ d, d ∣ p → d = 1 ∨ d = p
end Go.Proofs.YthgpcgijhmgenaaDoor

/- Residues: the sum that Bezout says, inverses, powers, two congruences. -/
namespace Go.Proofs.YthgpcgijhmgenaaDoor
open Go Go.RowKit

end Go.Proofs.YthgpcgijhmgenaaDoor

/- Walks: package modular: residues, inverses, two congruences. -/
namespace Go.Proofs.YthgpcgijhmgenaaDoor
open Go Go.RowKit

theorem enq_Bits (args : Array Value) (w : World) : (callFunc 31 args).run Tryd.prog w = .ok (.enter 31 args) w := enter_of Tryd.func31 (by kernel_rfl) rfl args w
end Go.Proofs.YthgpcgijhmgenaaDoor

/- Walks of the reference: Power. Walk of the reference: Pow. Walk of the reference: Sqrt. Walk of the reference: Root. -/
namespace Go.Proofs.YthgpcgijhmgenaaDoor
open Go Go.RowKit

end Go.Proofs.YthgpcgijhmgenaaDoor

namespace Go.Proofs.YthgpcgijhmgenaaDoor
open Go Go.RowKit

theorem bits_uniq {v : Int} {m m' : Nat} (h : IsBits v m) (h' : IsBits v m') : m = m' := by
  rcases h with ⟨h1, h2⟩ | ⟨h1, h2, h3⟩ <;> rcases h' with ⟨h4, h5⟩ | ⟨h4, h5, h6⟩
  · omega
  · have := pow_two_pos (m' - 1); omega
  · have := pow_two_pos (m - 1); omega
  · rcases Nat.lt_trichotomy m m' with h | h | h
    · have := two_pow_le (show m ≤ m' - 1 by omega); omega
    · exact h
    · have := two_pow_le (show m' ≤ m - 1 by omega); omega

end Go.Proofs.YthgpcgijhmgenaaDoor

namespace Go.Proofs.YthgpcgijhmgenaaDoor
open Go Go.RowKit

end Go.Proofs.YthgpcgijhmgenaaDoor

namespace Go.Proofs.YthgpcgijhmgenaaDoor
open Go Go.RowKit

end Go.Proofs.YthgpcgijhmgenaaDoor

/- Walk: a binary digit of a number; how many there are. -/
namespace Go.Proofs.YthgpcgijhmgenaaDoor
open Go Go.RowKit

/-- How many binary digits a number has. -/
def nbits (z : Int) : Nat := if z = 0 then 0 else z.natAbs.log2 + 1
theorem nbits_isBits (z : Int) : IsBits (ab z) (nbits z) := by
  unfold nbits IsBits ab
  by_cases h : z = 0
  · rw [if_pos h, h]; exact .inl ⟨rfl, rfl⟩
  · rw [if_neg h]
    right
    have h0 : z.natAbs ≠ 0 := by omega
    have h1 := Nat.log2_self_le h0
    have h2 := Nat.lt_log2_self (n := z.natAbs)
    refine ⟨by omega, ?_, ?_⟩
    · rw [show z.natAbs.log2 + 1 - 1 = z.natAbs.log2 by omega]
      exact_mod_cast h1
    · exact_mod_cast h2
theorem nbits_le {z : Int} {k : Nat} (h : ab z < pw k) : nbits z ≤ 32 * k := by
  rcases nbits_isBits z with ⟨_, h2⟩ | ⟨h1, h2, _⟩
  · omega
  · rw [pw_two] at h
    by_cases hc : nbits z ≤ 32 * k
    · exact hc
    · exfalso
      have h3 : (2 : Int) ^ (32 * k) ≤ 2 ^ (nbits z - 1) := two_pow_le (by omega)
      omega
theorem exBits {w : World} {v : Value} {z : Int} (h : Num w v z) : Calls Tryd.prog 31 #[v] w fun e w' => ∃ v', e = .returned v' ∧ Below w.heap.size w w' ∧ v' = .int .i64 ((nbits z : Nat) : Int) := by
  obtain ⟨neg, ao, n, c, xs, rfl, hs, hn, rfl, hc, _⟩ := h
  refine (Bits_any _ _ _ _ _ _ hs (by omega)).mono fun e w' hh => ?_
  obtain ⟨m, rfl, hm, _, hb⟩ := hh
  refine ⟨_, rfl, hb, ?_⟩
  have h2 := nbits_isBits (sgn neg (val xs))
  rw [ab_sgn, ab_of (val_nonneg hs.digs)] at h2
  rw [bits_uniq hm h2]
end Go.Proofs.YthgpcgijhmgenaaDoor

/- Walk: powers modulo a number. -/
namespace Go.Proofs.YthgpcgijhmgenaaDoor
open Go Go.RowKit

end Go.Proofs.YthgpcgijhmgenaaDoor

/- Walks: trailing zeros, the last word, the symbols of 2 and of the second law, by words. -/
namespace Go.Proofs.YthgpcgijhmgenaaDoor
open Go Go.RowKit

theorem tz64_core (x k idx : Nat) (w : World) (hx0 : ((x : Int) == 0) = false)
    (key : IntKind.u64.wrap (bits BinOp.and IntKind.u64 (x : Int) (IntKind.u64.wrap (-(x : Int))) * 285870213051353865) / 288230376151711744 = (idx : Int))
    (hi : idx < 64) (hk : k < 64) (hcell : w.cell? ⟨1, idx, none⟩ = some (.int .u8 k)) :
    Calls Tryd.prog 63 #[.int .u64 x] w fun e w' => e = .returned (.int .i64 k) ∧ w' = w := by
  go_enter Tryd.func63, Tryd.ntmps63
  go_wp2_with (simp only [key])
  go_ret
  exact ⟨rfl, rfl⟩
end Go.Proofs.YthgpcgijhmgenaaDoor

/- Walk: the symbol of words. -/
namespace Go.Proofs.YthgpcgijhmgenaaDoor
open Go Go.RowKit

end Go.Proofs.YthgpcgijhmgenaaDoor

/- Walk: the odd part of a number. -/
namespace Go.Proofs.YthgpcgijhmgenaaDoor
open Go Go.RowKit

/-- How often 2 divides a number. -/
def v2 (z : Int) : Nat := Lib.ctzFrom (nbits z) z.natAbs
section
variable {os : List Oper} {Q : Exit → Act → World → Prop} {a : Act} {p : Pq} {B B0 : Nat} {w0 : World}
variable {i s : Nat} {d : Option Tmp} {ty : TypeId} {ps : String} {af : Array Edge} {gd : Option (Nat × Bool)}
end
end Go.Proofs.YthgpcgijhmgenaaDoor

/- Walks: the symbol of Jacobi, the symbol of Kronecker. -/
namespace Go.Proofs.YthgpcgijhmgenaaDoor
open Go Go.RowKit

section
variable {os : List Oper} {Q : Exit → Act → World → Prop} {a : Act} {p : Pq} {B B0 : Nat} {w0 : World}
variable {i s : Nat} {d : Option Tmp} {ty : TypeId} {ps : String} {af : Array Edge} {gd : Option (Nat × Bool)}
theorem q_call1W {x : Operand} {F : Value → World → Prop} {f : FuncId} {ts : Array TypeId} (hp : p.Ok B B0) (hF : p.Free i) (hg : GdQ os a p B B0 w0 af gd) (hen : ∀ args w, (callFunc f args).run Tryd.prog w = .ok (.enter f args) w) (hB : B = w0.heap.size)
    (hx : SrcQ os a p B B0 w0 af x F) (hC : ∀ v w, Below w0.heap.size w0 w → F v w → Calls Tryd.prog f #[v] w fun e w' => ∃ v', e = .returned v' ∧ Below w.heap.size w w' ∧ (p.c i).P v' w') :
    StepQ os Q a p B B0 w0 i { dst := d, op := .call { callee := .value (.func f), args := #[x], argTypes := ts }, type := ty, pos := ps, after := af, guard := gd } := by
  subst hB
  exact stq_call hp hF hg hen fun L vs w hG hd => ⟨#[_], by simp, hC _ _ hG.below (hx L vs w hG hd)⟩
theorem q_call2W {x y : Operand} {F G : Value → World → Prop} {f : FuncId} {ts : Array TypeId} (hp : p.Ok B B0) (hF : p.Free i) (hg : GdQ os a p B B0 w0 af gd) (hen : ∀ args w, (callFunc f args).run Tryd.prog w = .ok (.enter f args) w) (hB : B = w0.heap.size)
    (hx : SrcQ os a p B B0 w0 af x F) (hy : SrcQ os a p B B0 w0 af y G) (hC : ∀ v v' w, Below w0.heap.size w0 w → F v w → G v' w → Calls Tryd.prog f #[v, v'] w fun e w' => ∃ v', e = .returned v' ∧ Below w.heap.size w w' ∧ (p.c i).P v' w') :
    StepQ os Q a p B B0 w0 i { dst := d, op := .call { callee := .value (.func f), args := #[x, y], argTypes := ts }, type := ty, pos := ps, after := af, guard := gd } := by
  subst hB
  exact stq_call hp hF hg hen fun L vs w hG hd => ⟨#[_, _], by simp, hC _ _ _ hG.below (hx L vs w hG hd) (hy L vs w hG hd)⟩
theorem q_moveB (m f : Nat) {v : Value} (hp : p.Ok B B0) (hF : p.Free i) (hg : GdQ os a p B B0 w0 af gd) (ha : apartB (os.map (·.dst)) = true) (hj : (os.map (·.dst))[m]? = some (some s)) (hl : leadsB os f m i = true) (hx : a.eval (.tmp s) = v) (hv : ∀ w, (p.c i).P v w) :
    StepQ os Q a p B B0 w0 i { dst := d, op := .move (.tmp s), type := ty, pos := ps, after := af, guard := gd } := by
  refine stq_val hp hF hg fun L vs w hG hL hc hd => ⟨v, ?_, hv _⟩
  have hm := not_yet hc hl hL
  have e : (lay os.toArray L vs os.toArray.size a).eval (.tmp s) = a.eval (.tmp s) := by
    refine lay_eval_out _ _ fun j _ hj2 hd2 => ?_
    have hjm : j = m := Classical.byContradiction fun hne => apart_of ha j m s hne hd2 (by
      unfold dstOf
      simp at hj ⊢
      cases ho : os[m]? with
      | none => simp [ho] at hj
      | some o => simp [ho] at hj ⊢; exact hj)
    rw [hjm, hm] at hj2
    cases hj2
  rw [hx] at e
  have e2 : (lay os.toArray L vs os.toArray.size a).tmps.getD s undef = v := e
  simp only [execOp, go_sem]
  rw [e2]
  rfl
end
end Go.Proofs.YthgpcgijhmgenaaDoor

/- Walk: math/bits.Mul64. -/
namespace Go.Proofs.YthgpcgijhmgenaaDoor
open Go Go.RowKit

set_option maxHeartbeats 1000000 in
theorem mul64_any (x y : Nat) (hx : x < 18446744073709551616) (hy : y < 18446744073709551616) (w : World) :
    Calls Tryd.prog 80 #[.int .u64 x, .int .u64 y] w fun e w' => e = .returned (.tuple #[.int .u64 ((x * y / 18446744073709551616 : Nat) : Int), .int .u64 ((x * y % 18446744073709551616 : Nat) : Int)]) ∧ w' = w := by
  obtain ⟨bd, bt, bw, hhi⟩ := Lib.mul64_hi x y hx hy
  have ba := Lib.half_mul_le (a := x / 4294967296) (b := y / 4294967296) (by omega) (by omega)
  have bb := Lib.half_mul_le (a := x / 4294967296) (b := y % 4294967296) (by omega) (by omega)
  have bc := Lib.half_mul_le (a := x % 4294967296) (b := y / 4294967296) (by omega) (by omega)
  have pa : x / 4294967296 * (y / 4294967296) < 18446744073709551616 := by omega
  have pb : x / 4294967296 * (y % 4294967296) < 18446744073709551616 := by omega
  have pc : x % 4294967296 * (y / 4294967296) < 18446744073709551616 := by omega
  have pd : x / 4294967296 * (y / 4294967296) + (x / 4294967296 * (y % 4294967296) + x % 4294967296 * (y % 4294967296) / 4294967296) / 4294967296 < 18446744073709551616 := by omega
  have pe : x / 4294967296 * (y / 4294967296) + (x / 4294967296 * (y % 4294967296) + x % 4294967296 * (y % 4294967296) / 4294967296) / 4294967296 + ((x / 4294967296 * (y % 4294967296) + x % 4294967296 * (y % 4294967296) / 4294967296) % 4294967296 + x % 4294967296 * (y / 4294967296)) / 4294967296 < 18446744073709551616 := by
    rw [hhi]
    have := Nat.mul_le_mul (show x ≤ 18446744073709551615 by omega) (show y ≤ 18446744073709551615 by omega)
    omega
  go_enter Tryd.func80, Tryd.ntmps80
  go_wp2
  simp only [Mul64.maskN x hx, Mul64.maskN y hy, Mul64.divN, Mul64.mulN, Mul64.addN, Mul64.wrapN _ bd, Mul64.wrapN _ pb, Mul64.wrapN _ bt, Mul64.maskN _ bt, Mul64.wrapN _ pc, Mul64.wrapN _ bw, Mul64.wrapN _ pa, Mul64.wrapN _ pd, Mul64.wrapN _ pe, Mul64.wrapM]
  rw [hhi]
  refine bodyPost_ret (v := .tuple #[.int .u64 ((x * y / 18446744073709551616 : Nat) : Int), .int .u64 ((x * y % 18446744073709551616 : Nat) : Int)]) (by simp [results, Tryd.results80, go_sem]) rfl ⟨rfl, rfl⟩
end Go.Proofs.YthgpcgijhmgenaaDoor
