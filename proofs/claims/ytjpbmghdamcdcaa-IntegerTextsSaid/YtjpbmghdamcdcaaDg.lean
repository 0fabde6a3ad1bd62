/- The decimal digits of a number, the last one first, and rows of bytes in memory. Nothing of the program is used. -/
import Derived.Test.YtjpbmghdamcdcaaVal
namespace Go.Proofs.Ytjpbmghdamcdcaa
open Go Go.RowKit

/-- The decimal digits of a number, as bytes, the last one first; none for 0. -/
def decs (n : Nat) : List Int := if n = 0 then [] else (48 + ((n % 10 : Nat) : Int)) :: decs (n / 10)
termination_by n
decreasing_by omega

theorem decs_zero : decs 0 = [] := by rw [decs]; simp
theorem decs_pos {n : Nat} (h : 0 < n) : decs n = (48 + ((n % 10 : Nat) : Int)) :: decs (n / 10) := by
  rw [decs, if_neg (by omega)]

theorem decs_len : ∀ (k n : Nat), n < 10 ^ k → (decs n).length ≤ k
  | 0, n, h => by
    have : n = 0 := by simp at h; omega
    rw [this, decs_zero]; simp
  | k + 1, n, h => by
    by_cases h0 : n = 0
    · rw [h0, decs_zero]; simp
    · rw [decs_pos (by omega), List.length_cons]
      have := decs_len k (n / 10) (by rw [Nat.pow_succ] at h; omega)
      omega

theorem decs_dig : ∀ (k n : Nat), n ≤ k → ∀ d ∈ decs n, 48 ≤ d ∧ d ≤ 57
  | 0, n, h, d, hd => by
    have : n = 0 := by omega
    rw [this, decs_zero] at hd; simp at hd
  | k + 1, n, h, d, hd => by
    by_cases h0 : n = 0
    · rw [h0, decs_zero] at hd; simp at hd
    · rw [decs_pos (by omega), List.mem_cons] at hd
      rcases hd with rfl | hd
      · omega
      · exact decs_dig k (n / 10) (by omega) d hd

theorem decs_ne {n : Nat} : decs n = [] ↔ n = 0 := by
  constructor
  · intro h
    by_cases h0 : n = 0
    · exact h0
    · rw [decs_pos (by omega)] at h; simp at h
  · rintro rfl; exact decs_zero

/-- One more digit is taken. -/
theorem dig_step {N q p k : Nat} {ds : List Int} (hk : k < 9) (h : decs N = ds ++ decs (q * 10 ^ (9 - k) + p)) (hpos : 0 < q ∨ 0 < p) :
    decs N = (ds ++ [48 + ((p % 10 : Nat) : Int)]) ++ decs (q * 10 ^ (9 - (k + 1)) + p / 10) := by
  have e : 9 - k = (9 - (k + 1)) + 1 := by omega
  have e2 : q * 10 ^ (9 - k) + p = 10 * (q * 10 ^ (9 - (k + 1))) + p := by
    rw [e, Nat.pow_succ, ← Nat.mul_assoc, Nat.mul_comm _ 10]
  have hp : 0 < 10 ^ (9 - (k + 1)) := Nat.pow_pos (by omega)
  have hq : 0 < q → 0 < q * 10 ^ (9 - (k + 1)) := fun h => Nat.mul_pos h hp
  rw [h, e2, decs_pos (by omega)]
  rw [show (10 * (q * 10 ^ (9 - (k + 1))) + p) % 10 = p % 10 by omega, show (10 * (q * 10 ^ (9 - (k + 1))) + p) / 10 = q * 10 ^ (9 - (k + 1)) + p / 10 by omega]
  simp

theorem dig_lt {p k : Nat} (hk : k < 9) (h : p < 10 ^ (9 - k)) : p / 10 < 10 ^ (9 - (k + 1)) := by
  have e : 9 - k = (9 - (k + 1)) + 1 := by omega
  rw [e, Nat.pow_succ] at h
  omega

/-- The digits of a part have been taken. -/
theorem dig_last {q p k : Nat} (hk : k ≤ 9) (h : p < 10 ^ (9 - k)) (hl : k = 9 ∨ (q = 0 ∧ p = 0)) : q * 10 ^ (9 - k) + p = q := by
  rcases hl with rfl | ⟨rfl, rfl⟩
  · simp at h; simp [h]
  · simp

theorem dig_len {N R : Nat} {ds : List Int} (h : decs N = ds ++ decs R) {m : Nat} (hN : (decs N).length ≤ m) : ds.length ≤ m := by
  rw [h, List.length_append] at hN; omega

theorem dig_room {N q p k : Nat} {ds : List Int} (h : decs N = ds ++ decs (q * 10 ^ (9 - k) + p)) (hpos : 0 < q ∨ 0 < p) {m : Nat} (hN : (decs N).length ≤ m) : ds.length < m := by
  have hp : 0 < 10 ^ (9 - k) := Nat.pow_pos (by omega)
  have hq : 0 < q → 0 < q * 10 ^ (9 - k) := fun h => Nat.mul_pos h hp
  rw [h, List.length_append, decs_pos (by omega), List.length_cons] at hN; omega

theorem pw_ten : ∀ k : Nat, pw k ≤ ((10 ^ (10 * k) : Nat) : Int)
  | 0 => by simp [pw]
  | k + 1 => by
    have h := pw_ten k
    rw [pw_succ, show 10 * (k + 1) = 10 * k + 10 by omega, Nat.pow_add, Int.natCast_mul]
    have h2 : ((10 ^ 10 : Nat) : Int) = 10000000000 := by decide
    rw [h2]
    have := pw_pos k
    omega

theorem decs_val_len {xs : List Int} (hx : Digs xs) : (decs (val xs).toNat).length ≤ 10 * xs.length := by
  refine decs_len _ _ ?_
  have h1 := val_lt hx
  have h2 := val_nonneg hx
  have h3 := pw_ten xs.length
  omega

/-- The text of a size. -/
def sizeText (n : Nat) : List Int := if n = 0 then [48] else (decs n).reverse

/-- The text of an integer: as bytes. -/
def intText (z : Int) : List Int := if z < 0 then 45 :: sizeText z.natAbs else sizeText z.natAbs

theorem sizeText_dig (n : Nat) : ∀ d ∈ sizeText n, 48 ≤ d ∧ d ≤ 57 := by
  intro d hd
  unfold sizeText at hd
  split at hd
  · simp at hd; omega
  · exact decs_dig n n (Nat.le_refl _) d (by simpa using hd)

theorem sizeText_pos (n : Nat) : 0 < (sizeText n).length := by
  unfold sizeText
  split
  · simp
  · rename_i h
    have := mt decs_ne.1 h
    simp only [List.length_reverse]
    exact List.length_pos_iff.2 this

/-- A list of bytes as a string. -/
def bytesOf (l : List Int) : ByteArray := ⟨(l.map (fun d => UInt8.ofNat d.toNat)).toArray⟩

theorem bytesOf_size (l : List Int) : (bytesOf l).size = l.length := by simp [bytesOf, ByteArray.size]

theorem bytesOf_append (l r : List Int) : bytesOf l ++ bytesOf r = bytesOf (l ++ r) := by
  apply ByteArray.ext
  simp [bytesOf]

/-- Block b is a row of bytes of the call's own. -/
def RowB (w : World) (e : TypeId) (b : Nat) (zs : List Int) : Prop := w.heap[b]? = some (.cells (zs.map (Value.int .u8)).toArray e (0, 0))

theorem RowB.lt {w : World} {e : TypeId} {b : Nat} {zs : List Int} (h : RowB w e b zs) : b < w.heap.size := (Array.getElem?_eq_some_iff.1 h).1

theorem RowB.cell {w : World} {e : TypeId} {b : Nat} {zs : List Int} (h : RowB w e b zs) {j : Nat} (hj : j < zs.length) : w.cell? ⟨b, j, none⟩ = some (.int .u8 (zs.getD j 0)) := by
  rw [cell_of_row w b j _ e (0, 0) h]
  simp [hj]

theorem RowB.frozen {w : World} {e : TypeId} {b : Nat} {zs : List Int} (h : RowB w e b zs) (j : Nat) : w.frozen? ⟨b, j, none⟩ = false := by
  have h2 : w.heap[b]? = some (.cells (zs.map (Value.int .u8)).toArray e (0, 0)) := h
  simp [World.frozen?, h2]

theorem RowB.set {w : World} {e : TypeId} {b : Nat} {zs : List Int} (h : RowB w e b zs) {j : Nat} (x : Int) : RowB (w.setCell ⟨b, j, none⟩ (.int .u8 x)) e b (zs.set j x) := by
  have hb := h.lt
  have h2 : w.heap[b]? = some (.cells (zs.map (Value.int .u8)).toArray e (0, 0)) := h
  unfold RowB
  simp only [World.setCell, Array.getElem?_modify, if_true, h2, Option.map_some, Option.isSome_none]
  simp

/-- 'make([]byte, n)': n zeros. -/
theorem wpList_make_bytes {P : Program} (w : World) {ops : Array Oper} {rest : List Oper} {o : Oper} {a : Act} {Q : Exit → Act → World → Prop}
    (hg : o.guard = none) (l c : Operand) (t : TypeId) (hop : o.op = Op.makeSlice t l c)
    (e : TypeId) (h1 : P.underlying t = some (.slice e)) (h2 : (P.info? e).map (fun i => (i.zero, i.size, i.bytes)) = some (some (.int .u8 0), 1, 1))
    (kl kc : IntKind) (L C : Int) (hl : a.eval l = .int kl L) (hc : a.eval c = .int kc C) (n : Nat) (hL : L = (n : Int)) (hC : C = (n : Int)) (b2 : n ≤ 70368744177664)
    (hK : ∀ w', RowB w' e w.heap.size (List.replicate n 0) → Below w.heap.size w w' → w'.heap.size = w.heap.size + 1 → wpList P ops Q rest (a.put o.dst (.slice (some ⟨w.heap.size, 0, none⟩) n n)) w') :
    wpList P ops Q (o :: rest) a w := by
  obtain ⟨i, hi, hz, hs, hb⟩ := info_parts h2
  refine wpList_plain hg fun K hK' => ?_
  have hrun := run_make (P := P) w t e i _ h1 hi hz kl kc n n (by omega) (by omega) (by rw [hb]; omega) (by omega)
  subst hL
  subst hC
  unfold Oper.wp
  simp [execOp, hop, hl, hc, hrun, Result.andThen]
  refine hK' _ _ (hK _ ?_ ((Below.refl _ _).alloc (Nat.le_refl _) _) (by simp))
  unfold RowB
  rw [heap_alloc_new]
  have : (madeCells (Value.int IntKind.u8 0).cells (n * i.size)) = ((List.replicate n (0 : Int)).map (Value.int .u8)).toArray := by
    rw [hs, Nat.mul_one]
    apply Array.ext'
    have := toList_madeCells_one (Value.int .u8 0) n
    simpa [Value.cells] using this
  simp [this]

/-- 'string(s)' of a row of bytes. -/
theorem run_text_of_row {P : Program} {w : World} {e : TypeId} {b : Nat} {zs : List Int} (h : RowB w e b zs) (hd : ∀ d ∈ zs, 0 ≤ d ∧ d < 256) (src dst el : TypeId) (n cap : Nat) (hn : zs.length = n)
    (hs : P.underlying src = some (.slice el)) (he : P.underlying el = some (.int .u8)) (hdst : P.underlying dst = some .string) :
    (convert src dst (.slice (some ⟨b, 0, none⟩) n cap)).run P w = .ok (.string (bytesOf zs)) w := by
  subst hn
  have := run_convert_bytes_back (P := P) w src dst el ⟨b, 0, none⟩ cap (zs.map (fun d => UInt8.ofNat d.toNat)) hs he hdst (fun j hj => by
    have hj' : j < zs.length := by simpa using hj
    have hadd : (⟨b, 0, none⟩ : Addr).add j = ⟨b, j, none⟩ := by unfold Addr.add; split <;> simp_all
    rw [hadd, h.cell hj']
    have h0 := hd (zs[j]) (List.getElem_mem hj')
    simp [List.getD, hj']
    omega)
  simpa [bytesOf] using this

/-- The row of the digits, half turned round. -/
def turned (ds : List Int) (k : Nat) : List Int := List.replicate (ds.length - k) 0 ++ (ds.take k).reverse

theorem turned_zero (ds : List Int) : turned ds 0 = List.replicate ds.length 0 := by simp [turned]
theorem turned_all (ds : List Int) : turned ds ds.length = ds.reverse := by simp [turned]
theorem turned_len (ds : List Int) {k : Nat} (h : k ≤ ds.length) : (turned ds k).length = ds.length := by simp [turned]; omega
theorem turned_step (ds : List Int) {k : Nat} (h : k < ds.length) : (turned ds k).set (ds.length - 1 - k) (ds.getD k 0) = turned ds (k + 1) := by
  unfold turned
  have e : ds.length - k = (ds.length - 1 - k) + 1 := by omega
  rw [e, show ds.length - (k + 1) = ds.length - 1 - k by omega, List.replicate_succ', List.append_assoc, List.set_append_right _ _ (by simp)]
  simp only [List.length_replicate, Nat.sub_self, List.singleton_append, List.set_cons_zero]
  have e3 : ds.take (k + 1) = ds.take k ++ [ds[k]] := by rw [List.take_add_one, List.getElem?_eq_getElem h]; rfl
  rw [e3, List.reverse_append]
  simp [List.getD, h]

end Go.Proofs.Ytjpbmghdamcdcaa
