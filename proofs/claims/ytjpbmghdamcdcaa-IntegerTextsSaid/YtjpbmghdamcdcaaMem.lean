/- Words of memory that the walks share: a slice of words that reads as a list, a row of the call's own, and the value of a list of words. Nothing of the program is used. -/
import Derived.WalkKit
import Derived.Laws.CopyOwn
namespace Go.Proofs.Ytjpbmghdamcdcaa
open Go.RowKit

theorem hidd {p : Prop} (h : p) : Hid p := h

/-- The value of a list of words, the least significant first. -/
def val : List Int → Int
  | [] => 0
  | x :: r => x + 4294967296 * val r

def Dig (x : Int) : Prop := 0 ≤ x ∧ x < 4294967296

def Digs (xs : List Int) : Prop := ∀ x ∈ xs, Dig x

/-- A slice that starts at 'ao' reads as these words in this world. -/
def Cells (w : World) (ao : Option Addr) (xs : List Int) : Prop :=
  Digs xs ∧ (xs = [] ∨ ∃ b off, ao = some ⟨b, off, none⟩ ∧ b < w.heap.size ∧ ∀ j, j < xs.length → w.cell? ⟨b, off + j, none⟩ = some (.int .u32 (xs.getD j 0)))

theorem Digs.getD {xs : List Int} (h : Digs xs) (k : Nat) : 0 ≤ xs.getD k 0 ∧ xs.getD k 0 < 4294967296 := by
  by_cases hk : k < xs.length
  · have : xs.getD k 0 = xs[k] := by simp [hk]
    rw [this]; exact h _ (List.getElem_mem hk)
  · have : xs.getD k 0 = 0 := by simp [Nat.le_of_not_lt hk]
    rw [this]; omega

theorem Cells.mono {w w' : World} {ao : Option Addr} {xs : List Int} (h : Cells w ao xs) (hb : Below w.heap.size w w') : Cells w' ao xs := by
  refine ⟨h.1, ?_⟩
  rcases h.2 with h0 | ⟨b, off, hao, hlt, hc⟩
  · exact .inl h0
  · exact .inr ⟨b, off, hao, Nat.lt_of_lt_of_le hlt hb.size, fun j hj => by rw [hb.cell (p := ⟨b, off + j, none⟩) hlt]; exact hc j hj⟩

/-- One word of it: the slice is not nil, the cell holds the word. -/
theorem Cells.at {w : World} {ao : Option Addr} {xs : List Int} (h : Cells w ao xs) {k : Nat} (hk : k < xs.length) :
    ∃ b off, ao = some ⟨b, off, none⟩ ∧ b < w.heap.size ∧ (∃ x, w.cell? ⟨b, off + k, none⟩ = some (.int .u32 x) ∧ 0 ≤ x ∧ x < 4294967296 ∧ Hid (xs.getD k 0 = x)) := by
  rcases h.2 with h0 | ⟨b, off, hao, hlt, hc⟩
  · subst h0; simp at hk
  · exact ⟨b, off, hao, hlt, _, hc k hk, (h.1.getD k).1, (h.1.getD k).2, rfl⟩

theorem Cells.at' {w : World} {b off : Nat} {xs : List Int} (h : Cells w (some ⟨b, off, none⟩) xs) {k : Nat} (hk : k < xs.length) :
    ∃ x, w.cell? ⟨b, off + k, none⟩ = some (.int .u32 x) ∧ 0 ≤ x ∧ x < 4294967296 ∧ Hid (xs.getD k 0 = x) := by
  obtain ⟨b', off', hao, _, h⟩ := h.at hk
  cases hao
  exact h

theorem Cells.take {w : World} {ao : Option Addr} {xs : List Int} (h : Cells w ao xs) (n : Nat) : Cells w ao (xs.take n) := by
  refine ⟨fun x hx => h.1 x (List.mem_of_mem_take hx), ?_⟩
  rcases h.2 with h0 | ⟨b, off, hao, hlt, hc⟩
  · subst h0; simp
  · refine .inr ⟨b, off, hao, hlt, fun j hj => ?_⟩
    have hj2 : j < n ∧ j < xs.length := by simp only [List.length_take] at hj; omega
    rw [hc j hj2.2]
    simp [List.getD, hj2.1]

/-- Block b is a row of words of the call's own. -/
def Row (w : World) (e : TypeId) (b : Nat) (zs : List Int) : Prop :=
  Digs zs ∧ w.heap[b]? = some (.cells (zs.map (Value.int .u32)).toArray e (0, 0))

theorem Row.lt {w : World} {e : TypeId} {b : Nat} {zs : List Int} (h : Row w e b zs) : b < w.heap.size :=
  (Array.getElem?_eq_some_iff.1 h.2).1

theorem Row.cell {w : World} {e : TypeId} {b : Nat} {zs : List Int} (h : Row w e b zs) {j : Nat} (hj : j < zs.length) : w.cell? ⟨b, j, none⟩ = some (.int .u32 (zs.getD j 0)) := by
  rw [cell_of_row w b j _ e (0, 0) h.2]
  simp [hj]

theorem Row.at {w : World} {e : TypeId} {b : Nat} {zs : List Int} (h : Row w e b zs) {j : Nat} (hj : j < zs.length) :
    ∃ x, w.cell? ⟨b, j, none⟩ = some (.int .u32 x) ∧ 0 ≤ x ∧ x < 4294967296 ∧ Hid (zs.getD j 0 = x) :=
  ⟨_, h.cell hj, (h.1.getD j).1, (h.1.getD j).2, rfl⟩

theorem Row.frozen {w : World} {e : TypeId} {b : Nat} {zs : List Int} (h : Row w e b zs) (j : Nat) : w.frozen? ⟨b, j, none⟩ = false := by
  simp [World.frozen?, h.2]

theorem Row.cells {w : World} {e : TypeId} {b : Nat} {zs : List Int} (h : Row w e b zs) : Cells w (some ⟨b, 0, none⟩) zs :=
  ⟨h.1, .inr ⟨b, 0, rfl, h.lt, fun j hj => by rw [Nat.zero_add]; exact h.cell hj⟩⟩

theorem Digs.set {zs : List Int} (h : Digs zs) (j : Nat) {x : Int} (hx : Dig x) : Digs (zs.set j x) := by
  intro y hy
  rcases List.mem_or_eq_of_mem_set hy with h1 | h1
  · exact h y h1
  · subst h1; exact hx

theorem Row.set {w : World} {e : TypeId} {b : Nat} {zs : List Int} (h : Row w e b zs) {j : Nat} {x : Int} (hx : Dig x) :
    Row (w.setCell ⟨b, j, none⟩ (.int .u32 x)) e b (zs.set j x) := by
  refine ⟨h.1.set j hx, ?_⟩
  have hb := h.lt
  have h2 := h.2
  simp only [World.setCell, Array.getElem?_modify, if_true, h2, Option.map_some, Option.isSome_none]
  simp

theorem Row.mono {w w' : World} {e : TypeId} {b : Nat} {zs : List Int} (h : Row w e b zs) {B : Nat} (hb : Below B w w') (hB : b < B) : Row w' e b zs :=
  ⟨h.1, by rw [hb.block b hB]; exact h.2⟩

/-- A slice of n words with room for c. -/
structure Sl (w : World) (ao : Option Addr) (n c : Nat) (xs : List Int) : Prop where
  len : xs.length = n
  cap : n ≤ c
  cells : Cells w ao xs

theorem Sl.mono {w w' : World} {ao : Option Addr} {n c : Nat} {xs : List Int} (h : Sl w ao n c xs) (hb : Below w.heap.size w w') : Sl w' ao n c xs :=
  ⟨h.len, h.cap, h.cells.mono hb⟩

theorem Sl.digs {w : World} {ao : Option Addr} {n c : Nat} {xs : List Int} (h : Sl w ao n c xs) : Digs xs := h.cells.1

theorem Sl.nil (w : World) : Sl w none 0 0 [] := ⟨rfl, Nat.le_refl _, fun _ hx => by simp at hx, .inl rfl⟩

theorem Sl.take {w : World} {ao : Option Addr} {n c : Nat} {xs : List Int} (h : Sl w ao n c xs) {m : Nat} (hm : m ≤ n) : Sl w ao m c (xs.take m) :=
  ⟨by rw [List.length_take, h.len]; omega, Nat.le_trans hm h.cap, h.cells.take m⟩

theorem Row.sl {w : World} {e : TypeId} {b n : Nat} {zs : List Int} (h : Row w e b zs) (hn : zs.length = n) : Sl w (some ⟨b, 0, none⟩) n n zs :=
  ⟨hn, Nat.le_refl _, h.cells⟩

/-- 'make([]uint32, n)': n zeros. -/
theorem wpList_make_words {P : Program} (w : World) {ops : Array Oper} {rest : List Oper} {o : Oper} {a : Act} {Q : Exit → Act → World → Prop}
    (hg : o.guard = none) (l c : Operand) (t : TypeId) (hop : o.op = Op.makeSlice t l c)
    (e : TypeId) (h1 : P.underlying t = some (.slice e)) (h2 : (P.info? e).map (fun i => (i.zero, i.size, i.bytes)) = some (some (.int .u32 0), 1, 4))
    (kl kc : IntKind) (L C : Int) (hl : a.eval l = .int kl L) (hc : a.eval c = .int kc C) (n : Nat) (hL : L = (n : Int)) (hC : C = (n : Int)) (b2 : n ≤ 70368744177664)
    (hK : ∀ w', Row w' e w.heap.size (List.replicate n 0) → Below w.heap.size w w' → w'.heap.size = w.heap.size + 1 → wpList P ops Q rest (a.put o.dst (.slice (some ⟨w.heap.size, 0, none⟩) n n)) w') :
    wpList P ops Q (o :: rest) a w := by
  obtain ⟨i, hi, hz, hs, hb⟩ := info_parts h2
  refine wpList_plain hg fun K hK' => ?_
  have hrun := run_make (P := P) w t e i _ h1 hi hz kl kc n n (by omega) (by omega) (by rw [hb]; omega) (by omega)
  subst hL
  subst hC
  unfold Oper.wp
  simp [execOp, hop, hl, hc, hrun, Result.andThen]
  refine hK' _ _ (hK _ ?_ ((Below.refl _ _).alloc (Nat.le_refl _) _) (by simp))
  refine ⟨fun x hx => ?_, ?_⟩
  · obtain ⟨_, rfl⟩ := List.mem_replicate.1 hx; exact ⟨by omega, by omega⟩
  · rw [heap_alloc_new]
    have : (madeCells (Value.int IntKind.u32 0).cells (n * i.size)) = ((List.replicate n (0 : Int)).map (Value.int .u32)).toArray := by
      rw [hs, Nat.mul_one]
      apply Array.ext'
      have := toList_madeCells_one (Value.int .u32 0) n
      simpa [Value.cells] using this
    simp [this]

/-- 'copy(z, x)', z a row of the call's own of x's length: it is x then. -/
theorem wpList_copy_words {P : Program} {w : World} {ops : Array Oper} {rest : List Oper} {o : Oper} {a : Act} {Q : Exit → Act → World → Prop} (hgd : o.guard = none) (d s : Operand) (dT sT : TypeId)
    (ho : o.op = .call { callee := .builtin .copy, args := #[d, s], argTypes := #[dT, sT] }) (elem : TypeId) (hu : P.underlying dT = some (.slice elem)) (hsz : (P.info? elem).map (·.size) = some 1)
    (e : TypeId) (b n cd cs : Nat) (zs xs : List Int) (ao : Option Addr) (hd : a.eval d = .slice (some ⟨b, 0, none⟩) n cd) (hs : a.eval s = .slice ao n cs) (hrow : Row w e b zs) (hz : zs.length = n) (hX : Sl w ao n cs xs)
    (B : Nat) (w0 : World) (hb : Below B w0 w) (hB : B ≤ b)
    (h : ∀ w', Row w' e b xs → Below B w0 w' → wpList P ops Q rest (a.put o.dst (goInt n)) w') :
    wpList P ops Q (o :: rest) a w := by
  have hl := hX.len
  refine wpList_copy_splice hgd d s dT sT ho elem hu hsz (some ⟨b, 0, none⟩) ao n cd n cs hd hs b 0 (zs.map (Value.int .u32)) e hrow.2 (xs.map (Value.int .u32)) (by simp [hl]) ?_ (by simp [hl, hz]) (ints_oneCell _ _) B w0 hb hB ?_
  · intro h0
    refine ⟨rfl, ?_⟩
    rcases hX.cells.2 with h1 | ⟨b2, off, hao, hlt, hc⟩
    · subst h1; simp at h0
    · refine ⟨_, hao, fun j v hv => ?_⟩
      have hj : j < xs.length := by have := (List.getElem?_eq_some_iff.1 hv).1; simpa using this
      have hadd : (⟨b2, off, none⟩ : Addr).add j = ⟨b2, off + j, none⟩ := by unfold Addr.add; split <;> simp_all
      rw [hadd, hc j hj, ← hv]
      simp [hj]
  · intro w' hg' hb'
    have hlen : ((xs.map (Value.int .u32)).length : Int) = (n : Int) := by simp [hl]
    rw [hlen]
    refine h w' ⟨hX.digs, ?_⟩ hb'
    have := hg'.out
    rw [this]
    simp [splice, hl, hz]

end Go.Proofs.Ytjpbmghdamcdcaa
