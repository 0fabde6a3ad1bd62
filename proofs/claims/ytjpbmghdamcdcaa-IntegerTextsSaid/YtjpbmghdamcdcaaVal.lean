/- The value of a list of words: what the first words of it are worth, and what a step of a sum, a difference or a product does to it. Nothing of the program is used. -/
import Derived.Test.YtjpbmghdamcdcaaMem
namespace Go.Proofs.Ytjpbmghdamcdcaa
open Go.RowKit

/-- 2^(32 k). -/
def pw (k : Nat) : Int := 4294967296 ^ k
theorem pw_zero : pw 0 = 1 := rfl
theorem pw_succ (k : Nat) : pw (k + 1) = pw k * 4294967296 := Int.pow_succ _ _
theorem pw_pos (k : Nat) : 0 < pw k := Int.pow_pos (by decide)
theorem pw_add (j k : Nat) : pw (j + k) = pw j * pw k := Int.pow_add _ _ _

theorem val_append (xs ys : List Int) : val (xs ++ ys) = val xs + pw xs.length * val ys := by
  induction xs with
  | nil => simp [val, pw_zero]
  | cons x r ih =>
    simp only [List.cons_append, val, ih, List.length_cons, pw_succ, Int.mul_add]
    have : pw r.length * 4294967296 * val ys = 4294967296 * (pw r.length * val ys) := by rw [Int.mul_comm (pw r.length), Int.mul_assoc]
    omega

theorem val_take_succ (xs : List Int) (k : Nat) : val (xs.take (k + 1)) = val (xs.take k) + pw k * xs.getD k 0 := by
  by_cases hk : k < xs.length
  · rw [List.take_succ_eq_append_getElem hk, val_append, List.length_take, Nat.min_eq_left (by omega)]
    simp [val, hk]
  · have h1 : xs.take (k + 1) = xs := List.take_of_length_le (by omega)
    have h2 : xs.take k = xs := List.take_of_length_le (by omega)
    simp [h1, h2, Nat.le_of_not_lt hk]

theorem val_take_all (xs : List Int) {k : Nat} (h : xs.length ≤ k) : val (xs.take k) = val xs := by rw [List.take_of_length_le h]

theorem val_take_set (zs : List Int) (k j : Nat) (x : Int) (h : k ≤ j) : val ((zs.set j x).take k) = val (zs.take k) := by
  rw [List.take_set_of_le h]

theorem getD_set (zs : List Int) (j : Nat) (x : Int) (h : j < zs.length) : (zs.set j x).getD j 0 = x := by simp [h]
theorem getD_set_ne (zs : List Int) (i j : Nat) (x : Int) (h : i ≠ j) : (zs.set i x).getD j 0 = zs.getD j 0 := by
  simp [List.getD, List.getElem?_set_ne h]

theorem val_nonneg {xs : List Int} (h : Digs xs) : 0 ≤ val xs := by
  induction xs with
  | nil => exact Int.le_refl _
  | cons x r ih =>
    have h1 := h x (by simp)
    have h2 := ih fun y hy => h y (by simp [hy])
    unfold Dig at h1
    simp only [val]; omega

theorem val_lt {xs : List Int} (h : Digs xs) : val xs < pw xs.length := by
  induction xs with
  | nil => simp [val, pw_zero]
  | cons x r ih =>
    have h1 := h x (by simp)
    have h2 := ih fun y hy => h y (by simp [hy])
    unfold Dig at h1
    simp only [val, List.length_cons, pw_succ]; omega

theorem val_replicate (n : Nat) : val (List.replicate n 0) = 0 := by
  induction n with
  | zero => rfl
  | succ n ih => simp [List.replicate_succ, val, ih]

/-- A digit and a carry are the number that they were split from. -/
theorem pw_split (k : Nat) (t : Int) : pw k * (t % 4294967296) + pw (k + 1) * (t / 4294967296) = pw k * t := by
  rw [pw_succ, Int.mul_assoc, ← Int.mul_add]
  congr 1
  omega

/-- One step of a sum. -/
theorem add_step {k : Nat} {zs xs ys : List Int} {q x y : Int} (hk : k < zs.length) (h : val (zs.take k) + pw k * q = val (xs.take k) + val (ys.take k))
    (hx : xs.getD k 0 = x) (hy : ys.getD k 0 = y) :
    val ((zs.set k ((x + q + y) % 4294967296)).take (k + 1)) + pw (k + 1) * ((x + q + y) / 4294967296) = val (xs.take (k + 1)) + val (ys.take (k + 1)) := by
  rw [val_take_succ, val_take_set _ _ _ _ (Nat.le_refl _), getD_set _ _ _ hk, val_take_succ xs, val_take_succ ys, hx, hy]
  have h1 := pw_split k (x + q + y)
  rw [Int.mul_add, Int.mul_add] at h1
  omega

theorem getD_out {xs : List Int} {k : Nat} (h : xs.length ≤ k) : xs.getD k 0 = 0 := by simp [h]

theorem u64_wrap (e : Int) : IntKind.u64.wrap e = e % 18446744073709551616 := by
  simp [IntKind.wrap, IntKind.bits, IntKind.signed]

/-- One step of a difference. -/
theorem sub_step {k : Nat} {zs xs ys : List Int} {q x y : Int} (hk : k < zs.length) (h : val (zs.take k) = val (xs.take k) - val (ys.take k) + pw k * q)
    (hx : xs.getD k 0 = x) (hy : ys.getD k 0 = y) :
    val ((zs.set k ((x - q - y) % 4294967296)).take (k + 1)) = val (xs.take (k + 1)) - val (ys.take (k + 1)) + pw (k + 1) * (-((x - q - y) / 4294967296)) := by
  rw [val_take_succ, val_take_set _ _ _ _ (Nat.le_refl _), getD_set _ _ _ hk, val_take_succ xs, val_take_succ ys, hx, hy]
  have h1 := pw_split k (x - q - y)
  rw [Int.mul_sub, Int.mul_sub] at h1
  rw [Int.mul_neg]
  omega

theorem sub_dig (x q y : Int) (_ : 0 ≤ x) (_ : x < 4294967296) (_ : 0 ≤ q) (_ : q ≤ 1) (_ : 0 ≤ y) (_ : y < 4294967296) :
    IntKind.u64.wrap (IntKind.u64.wrap (x - q) - y) % 4294967296 = (x - q - y) % 4294967296 := by
  rw [u64_wrap, u64_wrap]; omega
theorem sub_bor (x q y : Int) (_ : 0 ≤ x) (_ : x < 4294967296) (_ : 0 ≤ q) (_ : q ≤ 1) (_ : 0 ≤ y) (_ : y < 4294967296) :
    IntKind.u64.wrap (IntKind.u64.wrap (x - q) - y) / 9223372036854775808 = -((x - q - y) / 4294967296) := by
  rw [u64_wrap, u64_wrap]; omega
theorem sub_dig0 (x q : Int) (_ : 0 ≤ x) (_ : x < 4294967296) (_ : 0 ≤ q) (_ : q ≤ 1) :
    IntKind.u64.wrap (x - q) % 4294967296 = (x - q) % 4294967296 := by
  rw [u64_wrap]; omega
theorem sub_bor0 (x q : Int) (_ : 0 ≤ x) (_ : x < 4294967296) (_ : 0 ≤ q) (_ : q ≤ 1) :
    IntKind.u64.wrap (x - q) / 9223372036854775808 = -((x - q) / 4294967296) := by
  rw [u64_wrap]; omega

/-- No zero word at the end. -/
def Canon (xs : List Int) : Prop := Digs xs ∧ (xs.length = 0 ∨ pw (xs.length - 1) ≤ val xs)

theorem pw_le {j k : Nat} (h : j ≤ k) : pw j ≤ pw k := by
  obtain ⟨d, rfl⟩ := Nat.exists_eq_add_of_le h
  rw [pw_add]
  have := Int.mul_le_mul_of_nonneg_left (show (1 : Int) ≤ pw d from pw_pos d) (Int.le_of_lt (pw_pos j))
  omega

/-- Of two sizes without zeros at the end the shorter one is less. -/
theorem Canon.lt_of_length {xs ys : List Int} (hx : Digs xs) (hy : Canon ys) (h : xs.length < ys.length) : val xs < val ys := by
  have h1 := val_lt hx
  rcases hy.2 with h2 | h2
  · omega
  · have := pw_le (show xs.length ≤ ys.length - 1 by omega)
    omega

theorem Canon.length_eq {xs ys : List Int} (hx : Canon xs) (hy : Canon ys) (h : val xs = val ys) : xs.length = ys.length := by
  rcases Nat.lt_trichotomy xs.length ys.length with h1 | h1 | h1
  · have := Canon.lt_of_length hx.1 hy h1; omega
  · exact h1
  · have := Canon.lt_of_length hy.1 hx h1; omega

theorem val_inj : ∀ {xs ys : List Int}, Digs xs → Digs ys → xs.length = ys.length → val xs = val ys → xs = ys
  | [], [], _, _, _, _ => rfl
  | [], _ :: _, _, _, h, _ => by simp at h
  | _ :: _, [], _, _, h, _ => by simp at h
  | x :: r, y :: s, hx, hy, hl, hv => by
    have h1 := hx x (by simp)
    have h2 := hy y (by simp)
    unfold Dig at h1 h2
    simp only [val] at hv
    have e : x = y := by omega
    subst e
    rw [val_inj (xs := r) (ys := s) (fun z hz => hx z (by simp [hz])) (fun z hz => hy z (by simp [hz])) (by simpa using hl) (by omega)]

theorem Canon.inj {xs ys : List Int} (hx : Canon xs) (hy : Canon ys) (h : val xs = val ys) : xs = ys :=
  val_inj hx.1 hy.1 (hx.length_eq hy h) h

theorem Canon.zero {xs : List Int} (hx : Canon xs) : xs.length = 0 ↔ val xs = 0 := by
  constructor
  · intro h; rw [List.length_eq_zero_iff.1 h]; rfl
  · intro h
    rcases hx.2 with h1 | h1
    · exact h1
    · have := pw_pos (xs.length - 1); omega

/-- How long it is is said by its value. -/
theorem Canon.length_le {xs : List Int} (hx : Canon xs) {k : Nat} (h : val xs < pw k) : xs.length ≤ k := by
  rcases hx.2 with h1 | h1
  · omega
  · by_cases hk : xs.length ≤ k
    · exact hk
    · have := pw_le (show k ≤ xs.length - 1 by omega); omega

theorem or_u64 (i : Nat) (x y : Int) (hx0 : 0 ≤ x) (hx : x < 18446744073709551616) (hy0 : 0 ≤ y) (hy : y < 18446744073709551616) (hyi : y < 2 ^ i) (hxi : x % 2 ^ i = 0) :
    bits .or .u64 x y = x + y ∧ bits .or .u64 y x = x + y := by
  obtain ⟨a, rfl⟩ := Int.eq_ofNat_of_zero_le hx0
  obtain ⟨b, rfl⟩ := Int.eq_ofNat_of_zero_le hy0
  have e : ((2 ^ i : Nat) : Int) = 2 ^ i := by simp
  have h1 : b < 2 ^ i := by rw [← e] at hyi; omega
  have h2 : a % 2 ^ i = 0 := by rw [← e] at hxi; omega
  have h3 := nat_join i a b h2 h1
  constructor
  · rw [u64_or_nat a b (by omega) (by omega), h3]; rfl
  · rw [u64_or_nat b a (by omega) (by omega), Nat.or_comm, h3]; rfl

theorem or_u32 (i : Nat) (x y : Int) (hx0 : 0 ≤ x) (hx : x < 4294967296) (hy0 : 0 ≤ y) (hy : y < 4294967296) (hyi : y < 2 ^ i) (hxi : x % 2 ^ i = 0) :
    bits .or .u32 x y = x + y ∧ bits .or .u32 y x = x + y := by
  obtain ⟨a, rfl⟩ := Int.eq_ofNat_of_zero_le hx0
  obtain ⟨b, rfl⟩ := Int.eq_ofNat_of_zero_le hy0
  have e : ((2 ^ i : Nat) : Int) = 2 ^ i := by simp
  have h1 : b < 2 ^ i := by rw [← e] at hyi; omega
  have h2 : a % 2 ^ i = 0 := by rw [← e] at hxi; omega
  have h3 := nat_join i a b h2 h1
  constructor
  · rw [u32_or_nat a b (by omega) (by omega), h3]; rfl
  · rw [u32_or_nat b a (by omega) (by omega), Nat.or_comm, h3]; rfl

/-- A word of 64 bits out of two halves. -/
theorem or_halves (x y : Int) (hx0 : 0 ≤ x) (hx : x < 4294967296) (hy0 : 0 ≤ y) (hy : y < 4294967296) :
    bits .or .u64 x (y * 4294967296) = x + y * 4294967296 ∧ bits .or .u64 (y * 4294967296) x = x + y * 4294967296 := by
  have h := or_u64 32 (y * 4294967296) x (by omega) (by omega) hx0 (by omega) (by simpa using hx) (by simp)
  exact ⟨by rw [h.2]; omega, by rw [h.1]; omega⟩

theorem or_zero_u64 (x : Int) (hx0 : 0 ≤ x) (hx : x < 18446744073709551616) : bits .or .u64 0 x = x := by
  have h := or_u64 64 0 x (by omega) (by omega) hx0 hx (by simpa using hx) (by simp)
  rw [h.1]; omega

theorem pow_two_succ (k : Nat) : (2 : Int) ^ (k + 1) = 2 ^ k * 2 := Int.pow_succ _ _
theorem pow_two_pos (k : Nat) : (0 : Int) < 2 ^ k := Int.pow_pos (by decide)
theorem pw_two (k : Nat) : pw k = 2 ^ (32 * k) := by
  unfold pw; rw [Int.pow_mul]; rfl

/-- How two numbers compare. -/
def cmpI (x y : Int) : Int := if x < y then -1 else if x = y then 0 else 1

theorem val_split (xs : List Int) {k : Nat} (h : k ≤ xs.length) : val xs = val (xs.take k) + pw k * val (xs.drop k) := by
  have e := val_append (xs.take k) (xs.drop k)
  rw [List.take_append_drop, List.length_take, Nat.min_eq_left h] at e
  exact e

theorem Digs.take {xs : List Int} (h : Digs xs) (k : Nat) : Digs (xs.take k) := fun y hy => h y (List.mem_of_mem_take hy)
theorem Digs.drop {xs : List Int} (h : Digs xs) (k : Nat) : Digs (xs.drop k) := fun y hy => h y (List.mem_of_mem_drop hy)

/-- The first word from above at which they differ decides. -/
theorem cmp_at {xs ys : List Int} {k : Nat} (hx : Digs xs) (hy : Digs ys) (hk : k < xs.length) (hl : xs.length = ys.length) (h : xs.drop (k + 1) = ys.drop (k + 1)) (hlt : xs.getD k 0 < ys.getD k 0) : val xs < val ys := by
  rw [val_split xs (show k + 1 ≤ xs.length by omega), val_split ys (show k + 1 ≤ ys.length by omega), h, val_take_succ, val_take_succ]
  have a1 := val_lt (hx.take k)
  have a0 := val_nonneg (hy.take k)
  rw [List.length_take, Nat.min_eq_left (by omega)] at a1
  have := Int.mul_le_mul_of_nonneg_left (show xs.getD k 0 + 1 ≤ ys.getD k 0 by omega) (Int.le_of_lt (pw_pos k))
  rw [Int.mul_add] at this
  omega

theorem drop_step {xs ys : List Int} {k : Nat} (hk : k < xs.length) (hl : xs.length = ys.length) (h : xs.drop (k + 1) = ys.drop (k + 1)) (he : xs.getD k 0 = ys.getD k 0) : xs.drop k = ys.drop k := by
  rw [List.drop_eq_getElem_cons hk, List.drop_eq_getElem_cons (show k < ys.length by omega), h]
  have : xs[k] = ys[k] := by simpa [hk, show k < ys.length by omega] using he
  rw [this]

theorem getD_take (xs : List Int) (n k : Nat) : (xs.take n).getD k 0 = if k < n then xs.getD k 0 else 0 := by
  simp only [List.getD, List.getElem?_take]
  split <;> simp

theorem getD_drop (xs : List Int) (n k : Nat) : (xs.drop n).getD k 0 = xs.getD (n + k) 0 := by
  simp [List.getD, List.getElem?_drop]

theorem val_drop_step (xs : List Int) {k : Nat} (h : k < xs.length) : val (xs.drop k) = xs.getD k 0 + 4294967296 * val (xs.drop (k + 1)) := by
  rw [List.drop_eq_getElem_cons h]
  simp [val, h]

theorem grownBy_set (w : World) (b j : Nat) (u : Value) : w.grownBy (w.setCell ⟨b, j, none⟩ u) (some b) :=
  ⟨rfl, rfl, rfl, by simp, fun k _ hne => Below.heap_setCell _ _ _ _ (fun e => hne (by rw [e]))⟩

theorem grownBy_trans {a b c : World} {r : Option Nat} (h : a.grownBy b r) (k : b.grownBy c r) : a.grownBy c r :=
  ⟨k.os.trans h.os, k.tape.trans h.tape, k.output.trans h.output, Nat.le_trans h.size k.size, fun i hi hne => (k.block i (Nat.lt_of_lt_of_le hi h.size) hne).trans (h.block i hi hne)⟩

end Go.Proofs.Ytjpbmghdamcdcaa
