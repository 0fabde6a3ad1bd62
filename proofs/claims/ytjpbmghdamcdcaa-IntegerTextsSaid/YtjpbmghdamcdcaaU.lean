/- Walks: Root, Sqrt. -/
import Derived.Test.YtjpbmghdamcdcaaRs
import Derived.Test.YtjpbmghdamcdcaaK
import Derived.Test.YtjpbmghdamcdcaaS
namespace Go.Proofs.Ytjpbmghdamcdcaa
open Go.RowKit

def zeroV : Value := .agg #[.bool false, .slice none 0 0]

/-- What Root leaves. -/
def RootGives (w : World) (z k : Int) (e : Ending) (w' : World) : Prop :=
  Below w.heap.size w w' ∧ (((z < 0 ∨ k < 1) ∧ e = .returned (.tuple #[zeroV, .int .i64 1])) ∨ ((0 ≤ z ∧ 1 ≤ k) ∧ ∃ v r, e = .returned (.tuple #[v, .int .i64 0]) ∧ IsInt w' v r ∧ IsRoot z k.toNat r))

theorem cmpI_neg {z : Int} : cmpI z 0 < 0 ↔ z < 0 := cmpI_lt

theorem sgn_nonneg {b : Bool} {v : Int} (hv : 0 ≤ v) (h : 0 ≤ sgn b v) : sgn b v = v := by
  cases b
  · rfl
  · simp [sgn] at h ⊢; omega

set_option maxHeartbeats 1000000 in
theorem Root_any (w : World) (na : Bool) (ax : Option Addr) (n cx : Nat) (xs : List Int) (hX : Sl w ax n cx xs) (hb1 : n ≤ 60000) (k : Int) (hk1 : -9223372036854775808 ≤ k) (hk2 : k ≤ 9223372036854775807) :
    Calls Try.prog 37 #[.agg #[.bool na, .slice ax n cx], .int .i64 k] w (RootGives w (sgn na (val xs)) k) := by
  have hx0 := val_nonneg hX.digs
  obtain ⟨s, hs⟩ : ∃ s, s = cmpI (sgn na (val xs)) 0 := ⟨_, rfl⟩
  have HS' := hidd hs
  clear hs
  go_enter Try.func37, Try.ntmps37
  go_wp2_with fail
  obtain ⟨w0, hw0, hA, hC, hbl, HSZ⟩ := boxes2 w (.bool na) (.slice ax n cx) 27
  rw [← hw0]
  clear hw0
  refine (Sign_any _ _ _ _ _ _ (hX.mono hbl) (by omega)).mono ?_
  rw [← HS'.out]
  rintro e w2 ⟨rfl, hB2⟩
  have hA2 := hA.mono hB2 hA.lt
  have hC2 := hC.mono hB2 hC.lt
  have hbl2 := hbl.trans (hB2.mono hbl.size)
  have hX2 := (hX.mono hbl).mono hB2
  obtain ⟨a0, a1, _, _⟩ := hA2
  have HC2 := hidd hC2
  obtain ⟨c0, c1, c2, c3⟩ := hC2
  clear hA hC hbl hB2
  by_cases hs0 : s < 0
  · have hneg : sgn na (val xs) < 0 := by rw [← cmpI_neg, ← HS'.out]; exact hs0
    have HN := hidd hneg
    clear hneg
    go_wp2
    refine bodyPost_ret (v := .tuple #[zeroV, .int .i64 1]) ?_ rfl ⟨?_, .inl ⟨.inl HN.out, rfl⟩⟩
    · simp [results, Try.results37, go_sem, c0, c1, zeroV]
    · exact (hbl2.setCell (by show w.heap.size ≤ w.heap.size + 1; omega) _).setCell (by show w.heap.size ≤ w.heap.size + 1; omega) _
  · by_cases hk : k < 1
    · go_wp2
      refine bodyPost_ret (v := .tuple #[zeroV, .int .i64 1]) ?_ rfl ⟨?_, .inl ⟨.inr hk, rfl⟩⟩
      · simp [results, Try.results37, go_sem, c0, c1, zeroV]
      · exact (hbl2.setCell (by show w.heap.size ≤ w.heap.size + 1; omega) _).setCell (by show w.heap.size ≤ w.heap.size + 1; omega) _
    · have hz0 : 0 ≤ sgn na (val xs) := by
        have := (not_congr (cmpI_neg (z := sgn na (val xs)))).1 (by rw [← HS'.out]; exact hs0)
        omega
      have HZ : Hid (sgn na (val xs) = val xs) := sgn_nonneg hx0 hz0
      obtain ⟨K, rfl⟩ := Int.eq_ofNat_of_zero_le (show 0 ≤ k by omega)
      go_wp2_with fail
      refine (trim_any _ _ _ _ _ hX2 (by omega)).mono ?_
      rintro e w' ⟨m, rfl, hm, hsm, hvm, hcm, rfl⟩
      have HVM := hidd hvm
      clear hvm
      go_wp2_with fail
      refine (rootSize_any _ _ _ _ _ hsm hcm (by omega) K (by omega) (by omega)).mono ?_
      rintro e w4 ⟨a4, n4, k4, rs4, rfl, hs4, hc4, hroot, hB4⟩
      rw [HVM.out] at hroot
      have hn4 : n4 ≤ m := by
        have h1 : val rs4 ≤ val xs := by
          rcases (by have := hroot.1; omega : val rs4 = 0 ∨ 1 ≤ val rs4) with h | h
          · omega
          · have h2 := pow_one_le h (show 1 ≤ K by omega)
            have h3 := hroot.2.1
            omega
        exact len_le hc4 hs4 (hsm.mono hB4) (by rw [HVM.out]; exact h1)
      have HR := hidd hroot
      have hC4 := HC2.out.mono hB4 HC2.out.lt
      have hbl4 := hbl2.trans (hB4.mono hbl2.size)
      clear hroot a0 a1 c0 c1 c2 c3 hbl2 hB4 HC2
      go_wp2_with fail
      refine (signed_any _ _ _ _ _ _ hs4 (by omega)).mono ?_
      rintro e w5 ⟨v, rfl, ⟨ng, ao, nn, cc, rs, rfl, hrs, hrc, hrn, hrz⟩, hb5⟩
      have hC5 := hC4.mono hb5 hC4.lt
      have hbl5 := hbl4.trans (hb5.mono hbl4.size)
      have HC5 := hidd hC5
      obtain ⟨e0, e1, e2, e3⟩ := hC5
      have HRZ : Hid (val rs4 = sgn ng (val rs)) := hrz
      clear hrz
      go_wp2
      obtain ⟨v', hv', hi, hb⟩ := gives_store (z := val rs4) HC5.out hrs hrc hrn HRZ.out hbl5 (by omega)
      cases hv'
      refine bodyPost_ret (v := .tuple #[.agg #[.bool ng, .slice ao nn cc], .int .i64 0]) ?_ rfl ⟨hb, .inr ⟨⟨hz0, by omega⟩, _, val rs4, rfl, hi, ?_⟩⟩
      · simp [results, Try.results37, go_sem, e0, e1]
      · rw [HZ.out]; exact HR.out

end Go.Proofs.Ytjpbmghdamcdcaa
