/- Walks of the reference: trim, made, Valid, Of. -/
import Derived.Test.YtjpbmghdamcdcaaJ
import Derived.Deep.Cut
namespace Go.Proofs.Ytjpbmghdamcdcaa
open Go.RowKit

set_option maxHeartbeats 400000 in
theorem rtrim_any (w : World) (ax : Option Addr) (n c : Nat) (xs : List Int) (hX : Sl w ax n c xs) (hb : n ≤ 4000000) :
    Calls Try.prog 75 #[.slice ax n c] w fun e w' => ∃ m, e = .returned (.slice ax m c) ∧ m ≤ n ∧ Sl w ax m c (xs.take m) ∧ val (xs.take m) = val xs ∧ Canon (xs.take m) ∧ w = w' := by
  have hn := hidd hX.len
  have hx := hX.cells
  have hnc := hX.cap
  go_enter Try.func75, Try.ntmps75
  go_wp2
  go_loop [0] (fun v => ∃ k : Nat, k ≤ n ∧ v = .slice ax k c ∧ val (xs.take k) = val xs) (fun v => match v with | .slice _ k _ => k | _ => 0)
  case atStart => exact ⟨n, Nat.le_refl _, rfl, val_take_all _ (by rw [hn.out]; omega)⟩
  case round =>
    obtain ⟨k, hk, rfl, ht⟩ := hrel
    have HT := hidd ht
    clear ht
    by_cases h0 : 0 < k
    · obtain ⟨b, off, rfl, hbl, x, hxc, hx0, hx1, HX⟩ := hx.at (k := k - 1) (by rw [hn.out]; omega)
      have hkc : k - 1 ≤ c := by omega
      by_cases hz : x = 0
      · have hz1 : (x == 0) = true := by simp [hz]
        have HZ := hidd hz
        clear hz
        go_wp2
        go_round
        case rel =>
          refine ⟨k - 1, by omega, by first | rfl | simp, ?_⟩
          have e := val_take_succ xs (k - 1)
          rw [show k - 1 + 1 = k from by omega, HX.out, HZ.out, HT.out] at e
          omega
        case measure => first | omega | (simp; omega)
      · have hz1 : (x == 0) = false := by simp [hz]
        go_wp2
        go_ret
        refine ⟨k, rfl, hk, hX.take hk, HT.out, ⟨(hX.take hk).digs, .inr ?_⟩, rfl⟩
        have e := val_take_succ xs (k - 1)
        rw [show k - 1 + 1 = k from by omega, HX.out] at e
        have h1 := val_nonneg (hX.take (show k - 1 ≤ n by omega)).digs
        have h2 := Int.mul_le_mul_of_nonneg_left (show (1 : Int) ≤ x by omega) (Int.le_of_lt (pw_pos (k - 1)))
        rw [(hX.take hk).len]
        omega
    · obtain rfl : k = 0 := by omega
      go_wp2
      go_ret
      exact ⟨0, rfl, hk, hX.take hk, HT.out, ⟨(hX.take hk).digs, .inl (by simp)⟩, rfl⟩

set_option maxHeartbeats 1000000 in
theorem made_any (w : World) (neg : Bool) (ax : Option Addr) (n c : Nat) (xs : List Int) (hX : Sl w ax n c xs) (hb : n ≤ 4000000) :
    Calls Try.prog 52 #[.bool neg, .slice ax n c] w (GivesInt w (sgn neg (val xs))) := by
  obtain ⟨w0, hw0, hC, hCb⟩ : ∃ w0, w0 = w.alloc (.cells #[.bool false, .slice none 0 0] 27) ∧ IntBox w0 w.heap.size (.bool false) (.slice none 0 0) ∧ Below w.heap.size w w0 := ⟨_, rfl, box1 _ _, alloc_below _ _⟩
  go_enter Try.func52, Try.ntmps52
  go_wp2_with fail
  rw [← hw0]
  clear hw0
  refine (rtrim_any _ _ _ _ _ (hX.mono hCb) (by omega)).mono ?_
  rintro e w' ⟨m, rfl, hm, hsm, hvm, hcm, rfl⟩
  have hml := hsm.len
  have hz := hcm.zero
  rw [hml, hvm] at hz
  have HVM := hidd hvm
  clear hvm hml
  obtain ⟨e0, e1, e2, e3⟩ := hC
  by_cases hm0 : m = 0
  · have HV : Hid (sgn neg (val xs) = 0) := sgn_zero neg (hz.1 hm0)
    clear hz
    subst hm0
    go_wp2
    refine bodyPost_ret (v := .agg #[.bool false, .slice none 0 0]) ?_ rfl ?_
    · simp [results, Try.results52, go_sem, e0, e1]
    · exact gives_store ⟨e0, e1, e2, e3⟩ (Sl.nil _) ⟨fun _ hx => by simp at hx, .inl rfl⟩ (fun h => by cases h) HV.out hCb (Nat.le_refl _)
  · have hm1 : ((m : Int) == 0) = false := by simp; omega
    clear hz
    go_wp2
    refine bodyPost_ret (v := .agg #[.bool neg, .slice ax m c]) ?_ rfl ?_
    · simp [results, Try.results52, go_sem, e0, e1]
    · exact gives_store ⟨e0, e1, e2, e3⟩ hsm hcm (fun _ => hm0) (by rw [HVM.out]) hCb (Nat.le_refl _)

set_option maxHeartbeats 1000000 in
theorem rValid_any (w : World) (na : Bool) (ax : Option Addr) (n cx : Nat) (xs : List Int) (hX : Sl w ax n cx xs) (hb1 : n ≤ 9223372036854775807) :
    Calls Try.prog 44 #[.agg #[.bool na, .slice ax n cx]] w fun e w' => e = .returned (.bool (validB na xs)) ∧ Below w.heap.size w w' := by
  have hl := hX.len
  by_cases h0 : n = 0
  · have HV : Hid (validB na xs = !na) := if_pos (by omega)
    subst h0
    cases na
    · go_enter Try.func44, Try.ntmps44
      go_wp2
      go_ret
      exact ⟨by rw [HV.out]; rfl, alloc_below _ _⟩
    · go_enter Try.func44, Try.ntmps44
      go_wp2
      go_ret
      exact ⟨by rw [HV.out]; rfl, alloc_below _ _⟩
  · obtain ⟨b, off, rfl, hbl, x, hxc, hx0, hx1, HX⟩ := hX.cells.at (k := n - 1) (by omega)
    have HV : Hid (validB na xs = (x != 0)) := (if_neg (by omega)).trans (by rw [hl, HX.out])
    have h1 : ((n : Int) == 0) = false := by simp; omega
    have hxc' : (w.alloc (.cells #[.bool na, .slice (some ⟨b, off, none⟩) n cx] 27)).cell? ⟨b, off + (n - 1), none⟩ = some (.int .u32 x) :=
      ((alloc_below w _).cell (p := ⟨b, off + (n - 1), none⟩) hbl).trans hxc
    have hn0 : 0 < n := by omega
    clear hl
    go_enter Try.func44, Try.ntmps44
    go_wp2
    go_ret
    exact ⟨by rw [HV.out]; rfl, alloc_below _ _⟩

/-- A word's two halves. -/
theorem halves_sl (w : World) (t : TypeId) (ht : t = 63) (q : Int) (hq0 : 0 ≤ q) (hq1 : q < 18446744073709551616) :
    Sl (w.alloc (.cells #[.int .u32 (q % 4294967296), .int .u32 (q / 4294967296)] t)) (some ⟨w.heap.size, 0, none⟩) 2 2 [q % 4294967296, q / 4294967296] ∧ Hid (val [q % 4294967296, q / 4294967296] = q) := by
  subst ht
  have hr : Row (w.alloc (.cells #[.int .u32 (q % 4294967296), .int .u32 (q / 4294967296)] 63)) 63 w.heap.size [q % 4294967296, q / 4294967296] := by
    refine ⟨fun x hx => ?_, ?_⟩
    · simp at hx
      unfold Dig
      rcases hx with rfl | rfl <;> omega
    · rw [heap_alloc_new]; rfl
  refine ⟨hr.sl (n := 2) rfl, ?_⟩
  show _ = _
  simp only [val]; omega

set_option maxHeartbeats 1000000 in
theorem rOf_any (w : World) (z : Int) (h0 : -9223372036854775808 ≤ z) (h1 : z ≤ 9223372036854775807) :
    Calls Try.prog 41 #[.int .i64 z] w (GivesInt w z) := by
  obtain ⟨w0, hw0, hC, hCb⟩ : ∃ w0, w0 = w.alloc (.cells #[.bool false, .slice none 0 0] 27) ∧ IntBox w0 w.heap.size (.bool false) (.slice none 0 0) ∧ Below w.heap.size w w0 := ⟨_, rfl, box1 _ _, alloc_below _ _⟩
  have hs := fun q => halves_sl w0 63 rfl q
  have hab := fun o => alloc_below w0 o
  by_cases hz : z < 0
  · have hq : IntKind.u64.wrap (-(IntKind.u64.wrap z)) = -z := by rw [u64_wrap, u64_wrap]; omega
    have hq' : IntKind.u64.wrap (-(z % 18446744073709551616)) = -z := by rw [u64_wrap]; omega
    obtain ⟨hs, hv⟩ := hs (-z) (by omega) (by omega)
    go_enter Try.func41, Try.ntmps41
    go_upto_region 1 with (fail)
    rw [← hw0]
    clear hw0
    go_wp2_with fail
    refine (made_any _ _ _ _ _ _ hs (by omega)).mono ?_
    rintro e w3 ⟨v, rfl, ⟨ng, ao, nn, cc, rs, rfl, hrs, hrc, hrn, hrz⟩, hb3⟩
    obtain ⟨e0, e1, e2, e3⟩ := (hC.mono (hab _) hC.lt).mono hb3 (Nat.lt_of_lt_of_le hC.lt (hab _).size)
    have HZ : Hid (z = sgn ng (val rs)) := by
      show _ = _
      rw [← hrz, hv.out]; simp [sgn]
    have hb4 : Below w.heap.size w w3 := (hCb.trans ((hab _).mono hCb.size)).trans (hb3.mono (Nat.le_trans hCb.size (hab _).size))
    clear hrz hv hC hq hq'
    go_wp2
    refine bodyPost_ret (v := .agg #[.bool ng, .slice ao nn cc]) ?_ rfl ?_
    · simp [results, Try.results41, go_sem, e0, e1]
    · exact gives_store ⟨e0, e1, e2, e3⟩ hrs hrc hrn HZ.out hb4 (Nat.le_refl _)
  · have hq : IntKind.u64.wrap z = z := by rw [u64_wrap]; omega
    obtain ⟨hs, hv⟩ := hs z (by omega) (by omega)
    go_enter Try.func41, Try.ntmps41
    go_upto_region 1 with (fail)
    rw [← hw0]
    clear hw0
    go_wp2_with fail
    refine (made_any _ _ _ _ _ _ hs (by omega)).mono ?_
    rintro e w3 ⟨v, rfl, ⟨ng, ao, nn, cc, rs, rfl, hrs, hrc, hrn, hrz⟩, hb3⟩
    obtain ⟨e0, e1, e2, e3⟩ := (hC.mono (hab _) hC.lt).mono hb3 (Nat.lt_of_lt_of_le hC.lt (hab _).size)
    have HZ : Hid (z = sgn ng (val rs)) := by
      show _ = _
      rw [← hrz, hv.out]; simp [sgn]
    have hb4 : Below w.heap.size w w3 := (hCb.trans ((hab _).mono hCb.size)).trans (hb3.mono (Nat.le_trans hCb.size (hab _).size))
    clear hrz hv hC hq
    go_wp2
    refine bodyPost_ret (v := .agg #[.bool ng, .slice ao nn cc]) ?_ rfl ?_
    · simp [results, Try.results41, go_sem, e0, e1]
    · exact gives_store ⟨e0, e1, e2, e3⟩ hrs hrc hrn HZ.out hb4 (Nat.le_refl _)

end Go.Proofs.Ytjpbmghdamcdcaa
