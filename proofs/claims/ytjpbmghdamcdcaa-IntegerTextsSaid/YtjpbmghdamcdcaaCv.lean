/- Contracts on values: Add, Neg, Cmp, Low, Gcd, Sqrt, Root, Pow. -/
import Derived.Test.YtjpbmghdamcdcaaPz
import Derived.Test.YtjpbmghdamcdcaaV
import Derived.Test.YtjpbmghdamcdcaaW
namespace Go.Proofs.Ytjpbmghdamcdcaa
open Go Go.RowKit

/-- A number's length, from its size. -/
theorem Num.len {w : World} {v : Value} {z : Int} (h : Num w v z) {k : Nat} (hz : ab z < pw k) : ∃ (neg : Bool) (ao : Option Addr) (n c : Nat) (xs : List Int), v = .agg #[.bool neg, .slice ao n c] ∧ Sl w ao n c xs ∧ n ≤ k ∧ z = sgn neg (val xs) := by
  obtain ⟨neg, ao, n, c, xs, hv, hs, hn, hz', hc, hnn⟩ := h
  have h0 := val_nonneg hs.digs
  have h1 : val xs < pw k := by
    subst hz'
    unfold ab at hz
    cases neg <;> simp [sgn] at hz <;> omega
  have h2 := hc.length_le h1
  rw [hs.len] at h2
  exact ⟨neg, ao, n, c, xs, hv, hs, h2, hz'⟩

theorem AddV {w : World} {v v' : Value} {z z' : Int} (h : Num w v z) (h' : Num w v' z') : Calls Try.prog 19 #[v, v'] w (GivesInt w (z + z')) := by
  obtain ⟨neg, ao, n, c, xs, rfl, hs, hn, rfl, _⟩ := h
  obtain ⟨neg', ao', n', c', xs', rfl, hs', hn', rfl, _⟩ := h'
  exact Add_any _ _ _ _ _ _ _ _ _ _ _ hs hs' (by omega) (by omega)

theorem NegV {w : World} {v : Value} {z : Int} (h : Num w v z) : Calls Try.prog 25 #[v] w (GivesInt w (-z)) := by
  obtain ⟨neg, ao, n, c, xs, rfl, hs, hn, rfl, _⟩ := h
  exact Neg_any _ _ _ _ _ _ hs (by omega)

theorem CmpV {w : World} {v v' : Value} {z z' : Int} (h : Num w v z) (h' : Num w v' z') : Calls Try.prog 29 #[v, v'] w fun e w' => e = .returned (.int .i64 (cmpI z z')) ∧ Below w.heap.size w w' := by
  obtain ⟨neg, ao, n, c, xs, rfl, hs, hn, rfl, _⟩ := h
  obtain ⟨neg', ao', n', c', xs', rfl, hs', hn', rfl, _⟩ := h'
  exact Cmp_any _ _ _ _ _ _ _ _ _ _ _ hs hs' (by omega) (by omega)

theorem LowV {w : World} {v : Value} {z : Int} (h : Num w v z) : Calls Try.prog 50 #[v] w fun e w' => e = .returned (lowV z) ∧ Below w.heap.size w w' := by
  obtain ⟨neg, ao, n, c, xs, rfl, hs, hn, rfl, _⟩ := h
  exact Low_any _ _ _ _ _ _ hs (by omega)

theorem GcdV {w : World} {v v' : Value} {z z' : Int} (h : Num w v z) (h' : Num w v' z') : Calls Try.prog 18 #[v, v'] w (GivesInt w (Int.gcd z z')) := by
  obtain ⟨neg, ao, n, c, xs, rfl, hs, hn, rfl, _⟩ := h
  obtain ⟨neg', ao', n', c', xs', rfl, hs', hn', rfl, _⟩ := h'
  exact Gcd_any _ _ _ _ _ _ _ _ _ _ _ hs hs' (by omega) (by omega)

theorem SqrtV {w : World} {v : Value} {z : Int} (h : Num w v z) (hz : ab z < pw 60000) : Calls Try.prog 35 #[v] w (SqrtGives w z) := by
  obtain ⟨neg, ao, n, c, xs, rfl, hs, hn, rfl⟩ := h.len hz
  exact Sqrt_any _ _ _ _ _ _ hs hn

theorem RootV {w : World} {v : Value} {z : Int} (h : Num w v z) (hz : ab z < pw 60000) (k : Int) (hk1 : -9223372036854775808 ≤ k) (hk2 : k ≤ 9223372036854775807) : Calls Try.prog 37 #[v, .int .i64 k] w (RootGives w z k) := by
  obtain ⟨neg, ao, n, c, xs, rfl, hs, hn, rfl⟩ := h.len hz
  exact Root_any _ _ _ _ _ _ hs hn _ hk1 hk2

theorem PowV {w : World} {v : Value} {z : Int} (h : Num w v z) (hz : ab z < pw 60000) (k : Int) (hk1 : -9223372036854775808 ≤ k) (hk2 : k ≤ 9223372036854775807) : Calls Try.prog 39 #[v, .int .i64 k] w (PowGives w z k) := by
  obtain ⟨neg, ao, n, c, xs, rfl, hs, hn, rfl⟩ := h.len hz
  exact Pow_any _ _ _ _ _ _ hs hn _ hk1 hk2

theorem BezoutV {w : World} {v v' : Value} {z z' : Int} (h : Num w v z) (h' : Num w v' z') {K : Nat} (hz : ab z < pw K) (hz' : ab z' < pw K) (hK : K ≤ 400000) : Calls Try.prog 15 #[v, v'] w (BezGives w z z') := by
  obtain ⟨n, ao, k, c, rfl⟩ := h.parts
  obtain ⟨n', ao', k', c', rfl⟩ := h'.parts
  exact Bezout_any w h h' hz hz' hK

end Go.Proofs.Ytjpbmghdamcdcaa
