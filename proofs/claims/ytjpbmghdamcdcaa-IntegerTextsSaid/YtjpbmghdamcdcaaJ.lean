/- Walks: Valid, Of, Low, Cmp, Sub. -/
import Derived.Test.YtjpbmghdamcdcaaH
import Derived.Test.YtjpbmghdamcdcaaI
import Derived.Test.YtjpbmghdamcdcaaD
namespace Go.Proofs.Ytjpbmghdamcdcaa
open Go.RowKit

theorem alloc_below (w : World) (o : Obj) : Below w.heap.size w (w.alloc o) := (Below.refl _ _).alloc (Nat.le_refl _) o

/-- Whether a form is canonical. -/
def validB (neg : Bool) (xs : List Int) : Bool := if xs.length = 0 then !neg else (xs.getD (xs.length - 1) 0 != 0)

set_option maxHeartbeats 1000000 in
theorem Valid_any (w : World) (na : Bool) (ax : Option Addr) (n cx : Nat) (xs : List Int) (hX : Sl w ax n cx xs) (hb1 : n ≤ 9223372036854775807) :
    Calls Try.prog 43 #[.agg #[.bool na, .slice ax n cx]] w fun e w' => e = .returned (.bool (validB na xs)) ∧ Below w.heap.size w w' := by
  have hl := hX.len
  by_cases h0 : n = 0
  · have HV : Hid (validB na xs = !na) := if_pos (by omega)
    subst h0
    go_enter Try.func43, Try.ntmps43
    go_wp2
    go_ret
    exact ⟨by rw [HV.out]; rfl, alloc_below _ _⟩
  · obtain ⟨b, off, rfl, hbl, x, hxc, hx0, hx1, HX⟩ := hX.cells.at (k := n - 1) (by omega)
    have HV : Hid (validB na xs = (x != 0)) := (if_neg (by omega)).trans (by rw [hl, HX.out])
    have h1 : ((n : Int) == 0) = false := by simp; omega
    have hxc' : (w.alloc (.cells #[.bool na, .slice (some ⟨b, off, none⟩) n cx] 27)).cell? ⟨b, off + (n - 1), none⟩ = some (.int .u32 x) :=
      ((alloc_below w _).cell (p := ⟨b, off + (n - 1), none⟩) hbl).trans hxc
    clear hl
    go_enter Try.func43, Try.ntmps43
    go_wp2
    go_ret
    exact ⟨by rw [HV.out]; rfl, alloc_below _ _⟩

theorem box1 (w : World) (t : TypeId) : IntBox (w.alloc (.cells #[.bool false, .slice none 0 0] t)) w.heap.size (.bool false) (.slice none 0 0) := IntBox.new w _ _ t

set_option maxHeartbeats 1000000 in
theorem Of_any (w : World) (z : Int) (h0 : -9223372036854775808 ≤ z) (h1 : z ≤ 9223372036854775807) :
    Calls Try.prog 45 #[.int .i64 z] w (GivesInt w z) := by
  have hC := box1 w 27
  have hCb := alloc_below w (.cells #[.bool false, .slice none 0 0] 27)
  by_cases hz : z < 0
  · have hq : IntKind.u64.wrap (-(IntKind.u64.wrap z)) = -z := by rw [u64_wrap, u64_wrap]; omega
    have hq' : IntKind.u64.wrap (-(z % 18446744073709551616)) = -z := by rw [u64_wrap]; omega
    go_enter Try.func45, Try.ntmps45
    go_wp2_with fail
    refine (fromWord_any _ (-z) (by omega) (by omega)).mono ?_
    rintro e w2 ⟨a2, n2, c2, zs2, rfl, hn2, hs2, hc2, hv2, hB2⟩
    go_wp2_with fail
    refine (signed_any _ _ _ _ _ _ hs2 (by omega)).mono ?_
    rintro e w3 ⟨v, rfl, ⟨ng, ao, nn, cc, rs, rfl, hrs, hrc, hrn, hrz⟩, hb3⟩
    obtain ⟨e0, e1, e2, e3⟩ := (hC.mono hB2 hC.lt).mono hb3 (Nat.lt_of_lt_of_le hC.lt hB2.size)
    have HZ : Hid (z = sgn ng (val rs)) := by
      show _ = _
      rw [← hrz, hv2]; simp [sgn]
    have hb4 : Below w.heap.size w w3 := (hCb.trans (hB2.mono hCb.size)).trans (hb3.mono (Nat.le_trans hCb.size hB2.size))
    clear hrz hv2 hC hq hq'
    go_wp2
    refine bodyPost_ret (v := .agg #[.bool ng, .slice ao nn cc]) ?_ rfl ?_
    · simp [results, Try.results45, go_sem, e0, e1]
    · exact gives_store ⟨e0, e1, e2, e3⟩ hrs hrc hrn HZ.out hb4 (Nat.le_refl _)
  · have hq : IntKind.u64.wrap z = z := by rw [u64_wrap]; omega
    go_enter Try.func45, Try.ntmps45
    go_wp2_with fail
    refine (fromWord_any _ z (by omega) (by omega)).mono ?_
    rintro e w2 ⟨a2, n2, c2, zs2, rfl, hn2, hs2, hc2, hv2, hB2⟩
    go_wp2_with fail
    refine (signed_any _ _ _ _ _ _ hs2 (by omega)).mono ?_
    rintro e w3 ⟨v, rfl, ⟨ng, ao, nn, cc, rs, rfl, hrs, hrc, hrn, hrz⟩, hb3⟩
    obtain ⟨e0, e1, e2, e3⟩ := (hC.mono hB2 hC.lt).mono hb3 (Nat.lt_of_lt_of_le hC.lt hB2.size)
    have HZ : Hid (z = sgn ng (val rs)) := by
      show _ = _
      rw [← hrz, hv2]; simp [sgn]
    have hb4 : Below w.heap.size w w3 := (hCb.trans (hB2.mono hCb.size)).trans (hb3.mono (Nat.le_trans hCb.size hB2.size))
    clear hrz hv2 hC hq
    go_wp2
    refine bodyPost_ret (v := .agg #[.bool ng, .slice ao nn cc]) ?_ rfl ?_
    · simp [results, Try.results45, go_sem, e0, e1]
    · exact gives_store ⟨e0, e1, e2, e3⟩ hrs hrc hrn HZ.out hb4 (Nat.le_refl _)

/-- A number of 64 bits, or none. -/
def lowV (z : Int) : Value := if -9223372036854775808 ≤ z ∧ z ≤ 9223372036854775807 then .tuple #[.int .i64 z, .bool true] else .tuple #[.int .i64 0, .bool false]

set_option maxHeartbeats 1000000 in
theorem Low_any (w : World) (na : Bool) (ax : Option Addr) (n cx : Nat) (xs : List Int) (hX : Sl w ax n cx xs) (hb1 : n ≤ 1000000) :
    Calls Try.prog 50 #[.agg #[.bool na, .slice ax n cx]] w fun e w' => e = .returned (lowV (sgn na (val xs))) ∧ Below w.heap.size w w' := by
  have hX0 := hX.mono (alloc_below w (.cells #[.bool na, .slice ax n cx] 27))
  have hnn := val_nonneg hX.digs
  obtain ⟨u, hu⟩ : ∃ u, u = val xs := ⟨_, rfl⟩
  have HU := hidd hu
  rw [← hu]
  rw [← hu] at hnn
  clear hu
  go_enter Try.func50, Try.ntmps50
  go_wp2_with fail
  refine (trim_any _ _ _ _ _ hX0 (by omega)).mono ?_
  rintro e w' ⟨m, rfl, hm, hs, hv, hc, rfl⟩
  have hp2 : pw 2 = 18446744073709551616 := rfl
  rw [← HU.out] at hv
  by_cases hm2 : m ≤ 2
  · have hlt : u < 18446744073709551616 := by
      have := val_lt hs.digs
      rw [hs.len, hv] at this
      have := pw_le hm2
      omega
    have HV := hidd hv
    clear hv hp2
    have hs' := toWord_any _ _ _ _ _ hs hm2
    rw [HV.out] at hs'
    have HS := hidd hs'
    clear hs'
    cases na
    · by_cases hg : u ≤ 9223372036854775807
      · have HL : Hid (lowV (sgn false u) = .tuple #[.int .i64 u, .bool true]) := if_pos ⟨by simp [sgn]; omega, by simp [sgn]; omega⟩
        go_wp2_with (go_at_call 63; (with_reducible refine (Calls.mono HS.out ?_)); rintro e w' ⟨rfl, rfl⟩)
        go_ret2
        exact ⟨by rw [HL.out]; rfl, alloc_below _ _⟩
      · have HL : Hid (lowV (sgn false u) = .tuple #[.int .i64 0, .bool false]) := if_neg (by simp [sgn]; omega)
        go_wp2_with (go_at_call 63; (with_reducible refine (Calls.mono HS.out ?_)); rintro e w' ⟨rfl, rfl⟩)
        go_ret2
        exact ⟨by rw [HL.out]; rfl, alloc_below _ _⟩
    · by_cases hg : u ≤ 9223372036854775808
      · have HL : Hid (lowV (sgn true u) = .tuple #[.int .i64 (-u), .bool true]) := if_pos ⟨by simp [sgn]; omega, by simp [sgn]; omega⟩
        have HW : Hid (wrap64 (IntKind.u64.wrap (-u)) = -u) := by show _ = _; rw [u64_wrap]; unfold wrap64; omega
        go_wp2_with (go_at_call 63; (with_reducible refine (Calls.mono HS.out ?_)); rintro e w' ⟨rfl, rfl⟩)
        go_ret2
        refine ⟨?_, alloc_below _ _⟩
        rw [HL.out]
        first | rfl | (simp [HW.out]; done) | (show Ending.returned (.tuple #[.int .i64 (wrap64 (IntKind.u64.wrap (-u))), .bool true]) = _; rw [HW.out])
      · have HL : Hid (lowV (sgn true u) = .tuple #[.int .i64 0, .bool false]) := if_neg (by simp [sgn]; omega)
        go_wp2_with (go_at_call 63; (with_reducible refine (Calls.mono HS.out ?_)); rintro e w' ⟨rfl, rfl⟩)
        go_ret2
        exact ⟨by rw [HL.out]; rfl, alloc_below _ _⟩
  · have hge : 18446744073709551616 ≤ u := by
      rcases hc.2 with h | h
      · rw [hs.len] at h; omega
      · rw [hs.len, hv] at h
        have := pw_le (show 2 ≤ m - 1 by omega)
        omega
    have HL : Hid (lowV (sgn na u) = .tuple #[.int .i64 0, .bool false]) := if_neg (by cases na <;> simp [sgn] <;> omega)
    clear hp2 hv
    go_wp2
    go_ret2
    exact ⟨by rw [HL.out]; rfl, alloc_below _ _⟩

end Go.Proofs.Ytjpbmghdamcdcaa
