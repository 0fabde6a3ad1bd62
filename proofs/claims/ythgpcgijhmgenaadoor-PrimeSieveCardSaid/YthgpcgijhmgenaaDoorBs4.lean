/- Qd. -/
import Derived.Test.YthgpcgijhmgenaaDoorBs3
/- Walk of the law on the sieve. -/
namespace Go.Proofs.YthgpcgijhmgenaaDoor
open Go Go.RowKit

theorem below_prefix {k m : Nat} (h : k ≤ m) : ∃ t, below m = below k ++ t := by
  induction h with
  | refl => exact ⟨[], by simp⟩
  | step _ ih =>
    obtain ⟨t, ht⟩ := ih
    exact ⟨_, by rw [below_succ, ht, List.append_assoc]⟩
theorem below_get {k m i : Nat} (h : k ≤ m) (hi : i < (below k).length) : (below m).getD i 0 = (below k).getD i 0 := by
  obtain ⟨t, ht⟩ := below_prefix h
  rw [ht, List.getD_eq_getElem?_getD, List.getD_eq_getElem?_getD, List.getElem?_append_left hi]
theorem below_le {k m : Nat} (h : k ≤ m) : (below k).length ≤ (below m).length := by
  obtain ⟨t, ht⟩ := below_prefix h
  rw [ht, List.length_append]
  omega
theorem below_at {k m : Nat} (h : k < m) (hp : isP k = true) : (below k).length < (below m).length ∧ (below m).getD (below k).length 0 = k := by
  have e : below (k + 1) = below k ++ [k] := by rw [below_succ, hp]; rfl
  have hl : (below k).length < (below (k + 1)).length := by rw [e]; simp
  refine ⟨Nat.lt_of_lt_of_le hl (below_le h), ?_⟩
  rw [below_get h hl, e]
  simp
theorem below_getP {k i : Nat} (hi : i < (below k).length) : (below k).getD i 0 < k ∧ Pr ((below k).getD i 0) := by
  have : (below k).getD i 0 ∈ below k := by
    rw [List.getD_eq_getElem?_getD, List.getElem?_eq_getElem hi, Option.getD_some]
    exact List.getElem_mem _
  exact below_mem.1 this
theorem below_lt {k i j : Nat} (h : i < j) (hj : j < (below k).length) : (below k).getD i 0 < (below k).getD j 0 := by
  have hp : (below k).Pairwise (· < ·) := List.Pairwise.filter _ List.pairwise_lt_range
  have := List.pairwise_iff_getElem.1 hp i j (by omega) hj h
  rw [List.getD_eq_getElem?_getD, List.getElem?_eq_getElem (by omega), List.getD_eq_getElem?_getD, List.getElem?_eq_getElem hj]
  exact this
/-- One of the first i primes divides. -/
def dvB (k i : Nat) : Bool := ((below k).take i).any (fun q => k % q == 0)
theorem dvB_succ {k i : Nat} (hi : i < (below k).length) : dvB k (i + 1) = (dvB k i || (k % (below k).getD i 0 == 0)) := by
  unfold dvB
  rw [List.take_succ_eq_append_getElem hi, List.any_append]
  simp [hi]
theorem dvB_iff {k i : Nat} : dvB k i = true ↔ ∃ j, j < i ∧ j < (below k).length ∧ k % (below k).getD j 0 = 0 := by
  induction i with
  | zero => simp [dvB]
  | succ i ih =>
    by_cases hi : i < (below k).length
    · rw [dvB_succ hi, Bool.or_eq_true, ih, beq_iff_eq]
      constructor
      · rintro (⟨j, h1, h2, h3⟩ | h)
        · exact ⟨j, by omega, h2, h3⟩
        · exact ⟨i, by omega, hi, h⟩
      · rintro ⟨j, h1, h2, h3⟩
        rcases Nat.lt_or_ge j i with h | h
        · exact .inl ⟨j, h, h2, h3⟩
        · right; rw [show i = j by omega]; exact h3
    · have e : dvB k (i + 1) = dvB k i := by
        unfold dvB
        rw [List.take_of_length_le (by omega), List.take_of_length_le (by omega)]
      rw [e, ih]
      constructor
      · rintro ⟨j, h1, h2, h3⟩; exact ⟨j, by omega, h2, h3⟩
      · rintro ⟨j, h1, h2, h3⟩; exact ⟨j, by omega, h2, h3⟩
theorem dvB_end {k i : Nat} (hk : 2 ≤ k) (h : i = (below k).length ∨ (i < (below k).length ∧ k < (below k).getD i 0 * (below k).getD i 0)) : dvB k i = !isP k := by
  cases hd : dvB k i with
  | true =>
    obtain ⟨j, h1, h2, h3⟩ := dvB_iff.1 hd
    obtain ⟨g1, g2⟩ := below_getP h2
    cases hp : isP k with
    | false => rfl
    | true =>
      exfalso
      rcases (isP_iff.1 hp).2 _ (Nat.dvd_of_mod_eq_zero h3) with e | e
      · have := g2.1; omega
      · omega
  | false =>
    cases hp : isP k with
    | true => rfl
    | false =>
      exfalso
      have hm := mkB_self hk
      rw [hp] at hm
      obtain ⟨q, h1, h2, h3, h4⟩ := mkB_iff.1 hm
      obtain ⟨j, hj, hq⟩ := List.getElem_of_mem (below_mem.2 ⟨h1, isP_iff.1 h2⟩)
      have hq2 : (below k).getD j 0 = q := by rw [List.getD_eq_getElem?_getD, List.getElem?_eq_getElem hj, Option.getD_some, hq]
      rcases Nat.lt_or_ge j i with hji | hji
      · have := dvB_iff.2 ⟨j, hji, hj, by rw [hq2]; exact h4⟩
        rw [hd] at this
        cases this
      · rcases h with h | ⟨g1, g2⟩
        · omega
        · rcases Nat.lt_or_ge i j with h5 | h5
          · have := below_lt h5 hj
            rw [hq2] at this
            have := Nat.mul_le_mul (Nat.le_of_lt this) (Nat.le_of_lt this)
            omega
          · have e : i = j := by omega
            subst e
            rw [hq2] at g2
            omega
theorem Drawn.trans {a b c : World} (h : Drawn a b) (k : Drawn b c) : Drawn a c := by
  obtain ⟨n, rfl⟩ := k
  exact h.drewN n

set_option maxRecDepth 20000 in
set_option maxHeartbeats 4000000 in
theorem PrimeSieve_any (w : World) (hT : TabsP w) (n : Int) (hln : -9223372036854775808 ≤ n) (hhn : n ≤ 9223372036854775807) :
    Calls Tryd.prog 4 #[.int .i64 n] w fun e w' => e = .returned (.bool true) ∧ Below w.heap.size w w' := by
  have HEX := exPExamples hT
  by_cases hbig : 1048576 < n
  · have HS := fun W => exSmallBig n hbig W
    clear hT hln hhn
    go_enter Tryd.func4, Tryd.ntmps4
    go_wp2_with (first | (go_at_call 9; refine HEX.mono ?_; clear HEX; rintro e w1 ⟨_, rfl, hb1, rfl⟩) | (go_at_call 17; refine (HS _).mono ?_; clear HS; rintro e w2 ⟨rfl, hb2⟩))
    go_ret
    exact ⟨rfl, hb1.trans (hb2.mono hb1.size)⟩
  · have hnb : ¬ 1048576 < n := hbig
    have HS := fun W => exSmall n hln (by omega) W
    obtain ⟨N, hN⟩ : ∃ N, N = n.toNat := ⟨_, rfl⟩
    simp only [← hN] at HS
    by_cases h3 : 3000 < n
    · clear hT hln hhn hN
      go_enter Tryd.func4, Tryd.ntmps4
      go_wp2_with (first | (go_at_call 9; refine HEX.mono ?_; clear HEX; rintro e w1 ⟨_, rfl, hb1, rfl⟩) | (go_at_call 17; refine (HS _).mono ?_; clear HS; rintro e w2 ⟨v, rfl, _, hb2⟩))
      go_ret
      exact ⟨rfl, hb1.trans (hb2.mono hb1.size)⟩
    · have HN := hidd (show N ≤ 3000 ∧ (∀ k : Nat, (k : Int) ≤ n → k ≤ N) ∧ (∀ k : Nat, ¬ (k : Int) ≤ n → 1 ≤ k → N < k) from ⟨by omega, fun k _ => by omega, fun k _ _ => by omega⟩)
      clear hT hln hhn hN hnb
      obtain ⟨K, hK⟩ : ∃ K, K = N + 1 := ⟨_, rfl⟩
      simp only [← hK] at HS
      have HK := hidd hK
      clear hK
      obtain ⟨L, hL⟩ : ∃ L, L = (below K).length := ⟨_, rfl⟩
      have HL := hidd hL
      clear hL
      go_enter Tryd.func4, Tryd.ntmps4
      go_wp2_with (first | (go_at_call 9; refine HEX.mono ?_; clear HEX; rintro e w1 ⟨_, rfl, hb1, rfl⟩) | (go_at_call 17; refine (HS _).mono ?_; clear HS; rintro e w2 ⟨v, rfl, hNi, hb2⟩; obtain ⟨ao, cap, hv⟩ := id hNi.shape; rw [← HL.out] at hv; subst hv))
      have HB := hidd (hb1.trans (hb2.mono hb1.size))
      have HNI := hidd hNi
      clear hb1 hb2 hNi
      go_loopw [6, 7] (fun va vk W => ∃ k at' : Nat, va = .int .i64 (at' : Int) ∧ vk = .int .i64 (k : Int) ∧ 2 ≤ k ∧ (k ≤ K ∨ k = 2) ∧ at' = (below k).length ∧ Drawn w2 W) (fun _ vk _ => K - (intOf vk).toNat)
      case atStart => exact ⟨2, 0, rfl, rfl, Nat.le_refl _, .inr rfl, by rw [below_two]; rfl, Drawn.refl _⟩
      case round =>
        obtain ⟨V, rfl⟩ : ∃ V, V = wr := ⟨_, rfl⟩
        obtain ⟨k, at', rfl, rfl, hk2, hkK, hat, hd⟩ := hrel
        have HA := hidd hat
        have HK2 := hidd hk2
        have HKK := hidd hkK
        clear hat hk2 hkK
        by_cases hkn : (k : Int) ≤ n
        · have hkN := HN.out.2.1 k hkn
          have HKN := hidd hkN
          clear hkN
          go_wp2
          go_loopw [8, 9] (fun vd vi W => ∃ i : Nat, vi = .int .i64 (i : Int) ∧ vd = .bool (dvB k i) ∧ i ≤ at' ∧ Drawn w2 W) (fun _ vi _ => at' - (intOf vi).toNat)
          case atStart => exact ⟨0, rfl, by simp [dvB], Nat.zero_le _, hd⟩
          case round =>
            obtain ⟨V2, rfl⟩ : ∃ V2, V2 = wr := ⟨_, rfl⟩
            clear hd
            obtain ⟨i, rfl, rfl, hi, hd⟩ := hrel
            -- ROUNDS
            have HI := hidd hi
            have hD0 := hd
            have hlenK : (below k).length ≤ L := by rw [HL.out]; exact below_le (by have := HK.out; have := HKN.out; omega)
            have HLK := hidd hlenK
            clear hi hlenK
            by_cases hia : i < at'
            · have hil : i < (below k).length := by have := HA.out; omega
              have hiL : i < L := by have := HLK.out; omega
              obtain ⟨g, hao, hcell⟩ := HNI.out.cell (i := i) (by rw [← HL.out]; exact hiL)
              rw [below_get (k := k) (by have := HK.out; have := HKN.out; omega) hil] at hcell
              cases hao
              have hqP := below_getP hil
              obtain ⟨q, hq⟩ : ∃ q, q = (below k).getD i 0 := ⟨_, rfl⟩
              rw [← hq] at hcell hqP
              have hc := (hD0.cell _).trans hcell
              have hq3 : q < 3001 := by have := HKN.out; have := HN.out.1; omega
              obtain ⟨Q2, hQ2⟩ : ∃ Q2, Q2 = q * q := ⟨_, rfl⟩
              have hQb : Q2 ≤ 3001 * 3001 := by rw [hQ2]; exact Nat.mul_le_mul (by omega) (by omega)
              have hmul : IntKind.i64.wrap ((q : Int) * q) = (Q2 : Int) := by rw [show (q : Int) * q = (Q2 : Int) by rw [hQ2]; exact (Int.natCast_mul _ _).symm]; exact IntWalk.i64_in _ (by omega)
              have hii : (i : Int) < (at' : Int) := by omega
              have hiLi : (i : Int) < (L : Int) := by omega
              have HQ := hidd (And.intro hq (And.intro hQ2 (And.intro hqP.2.1 (And.intro hil hq3))))
              have HCE := hidd hcell
              clear hq hQ2 hQb hqP hil hq3 hcell
              by_cases hQk : Q2 ≤ k
              · have hQki : (Q2 : Int) ≤ (k : Int) := by omega
                obtain ⟨r, hr⟩ : ∃ r, r = k % q := ⟨_, rfl⟩
                have htm : Int.tmod (k : Int) q = (r : Int) := by rw [Int.tmod_eq_emod_of_nonneg (by omega), hr]; exact (Int.natCast_emod _ _).symm
                have hqz : ¬ (q : Int) = 0 := by have := HQ.out.2.2.1; omega
                have hqz2 : ¬ q = 0 := by have := HQ.out.2.2.1; omega
                have hwi : IntKind.i64.wrap ((i : Int) + 1) = (i : Int) + 1 := IntWalk.i64_in _ (by have := HA.out; have := below_len k; have := HKN.out; have := HN.out.1; omega)
                have HR := hidd hr
                have HIA := hidd hia
                clear hr hQk hia
                have hds := dvB_succ (k := k) (i := i) HQ.out.2.2.2.1
                rw [← HQ.out.1, ← HR.out] at hds
                obtain ⟨dv, hdv⟩ : ∃ dv, dv = dvB k i := ⟨_, rfl⟩
                rw [← hdv] at hds ⊢
                have HDS := hidd hds
                clear hdv hds
                go_wp2
                go_quiet (fail)
                obtain ⟨V3, hV3⟩ : ∃ V3, V3 = V2.drewN nq := ⟨_, rfl⟩
                rw [← hV3]
                have hD3 : Drawn w2 V3 := by rw [hV3]; exact hD0.drewN _
                have hc3 := (hD3.cell _).trans HCE.out
                have HD3 := hidd hD3
                clear hV3 hD3 hc hmul hD0 hd
                cases dv with
                | true =>
                  go_wp2
                  go_roundw
                  case rel => exact ⟨i + 1, by first | go_num | (rw [hwi]; go_num), by rw [HDS.out]; rfl, by have := HIA.out; omega, HD3.out⟩
                  case measure => have := HIA.out; first | (rw [hwi]; simp [intOf]; omega) | (simp [intOf]; omega)
                | false =>
                  have hbe : ((r : Int) == 0) = (r == 0) := by
                    by_cases h : r = 0
                    · subst h; rfl
                    · rw [show ((r : Int) == 0) = false by simp; omega, show (r == 0) = false by simp; omega]
                  have HBE := hidd hbe
                  clear hbe
                  go_wp2
                  go_roundw
                  case rel => exact ⟨i + 1, by first | go_num | (rw [hwi]; go_num), by rw [HDS.out, ← HBE.out]; rfl, by have := HIA.out; omega, HD3.out⟩
                  case measure => have := HIA.out; first | (rw [hwi]; simp [intOf]; omega) | (simp [intOf]; omega)
              · have hQki : decide (Q2 ≤ k) = false := by simp; omega
                have HDV : Hid (dvB k i = !isP k) := dvB_end HK2.out (.inr ⟨HQ.out.2.2.2.1, by rw [← HQ.out.1, ← HQ.out.2.1]; omega⟩)
                clear hQk hia
                go_wp2
                go_quiet (fail)
                obtain ⟨V3, hV3⟩ : ∃ V3, V3 = V2.drewN nq := ⟨_, rfl⟩
                rw [← hV3]
                have hD3 : Drawn w2 V3 := by rw [hV3]; exact hD0.drewN _
                clear hV3 hc hmul hD0 hd HCE HQ
                obtain ⟨dv, hdv⟩ : ∃ dv, dv = dvB k i := ⟨_, rfl⟩
                rw [← hdv] at HDV ⊢
                clear hdv
                cases hip : isP k with
                | false =>
                  have e : dv = true := by rw [HDV.out, hip]; rfl
                  subst e
                  have HIP := hidd hip
                  clear hip HDV
                  have hwk : IntKind.i64.wrap ((k : Int) + 1) = (k : Int) + 1 := IntWalk.i64_in _ (by have := HKN.out; have := HN.out.1; omega)
                  go_wp2
                  go_roundw
                  case rel => exact ⟨k + 1, at', rfl, by first | go_num | (rw [hwk]; go_num), by have := HK2.out; omega, .inl (by have := HKN.out; have := HK.out; omega), by rw [below_succ, HIP.out]; simpa using HA.out, hD3⟩
                  case measure => have := HKN.out; have := HK.out; first | (rw [hwk]; simp [intOf]; omega) | (simp [intOf]; omega)
                | true =>
                  have e : dv = false := by rw [HDV.out, hip]; rfl
                  subst e
                  have HIP := hidd hip
                  clear hip HDV
                  have hat := below_at (m := K) (k := k) (by have := HK.out; have := HKN.out; omega) HIP.out
                  rw [← HA.out, ← HL.out] at hat
                  have hlt : at' < L := hat.1
                  obtain ⟨g9, hao, hcell⟩ := HNI.out.cell (i := at') (by rw [← HL.out]; exact hlt)
                  rw [hat.2] at hcell
                  cases hao
                  have hcell2 := (hD3.cell _).trans hcell
                  have hlti : (at' : Int) < (L : Int) := by omega
                  have hnlt : ¬ (L : Int) ≤ (at' : Int) := by omega
                  have hnlt2 : ¬ L ≤ at' := by omega
                  have hwk : IntKind.i64.wrap ((k : Int) + 1) = (k : Int) + 1 := IntWalk.i64_in _ (by have := HKN.out; have := HN.out.1; omega)
                  have hwa : IntKind.i64.wrap ((at' : Int) + 1) = (at' : Int) + 1 := IntWalk.i64_in _ (by have := HA.out; have := below_len k; have := HKN.out; have := HN.out.1; omega)
                  have HLT := hidd hlt
                  clear hat hlt hcell
                  go_wp2
                  go_roundw
                  case rel => exact ⟨k + 1, at' + 1, by first | go_num | (rw [hwa]; go_num), by first | go_num | (rw [hwk]; go_num), by have := HK2.out; omega, .inl (by have := HKN.out; have := HK.out; omega), by rw [below_succ, HIP.out, List.length_append, ← HA.out]; rfl, hD3⟩
                  case measure => have := HKN.out; have := HK.out; first | (rw [hwk]; simp [intOf]; omega) | (simp [intOf]; omega)
            · have hin : decide (i < at') = false := by simp; omega
              have HDV : Hid (dvB k i = !isP k) := dvB_end HK2.out (.inl (by have := HI.out; have := HA.out; omega))
              clear hia
              go_wp2
              go_quiet (fail)
              obtain ⟨V3, hV3⟩ : ∃ V3, V3 = V2.drewN nq := ⟨_, rfl⟩
              rw [← hV3]
              have hD3 : Drawn w2 V3 := by rw [hV3]; exact hD0.drewN _
              clear hV3 hD0 hd
              obtain ⟨dv, hdv⟩ : ∃ dv, dv = dvB k i := ⟨_, rfl⟩
              rw [← hdv] at HDV ⊢
              clear hdv
              cases hip : isP k with
              | false =>
                have e : dv = true := by rw [HDV.out, hip]; rfl
                subst e
                have HIP := hidd hip
                clear hip HDV
                have hwk : IntKind.i64.wrap ((k : Int) + 1) = (k : Int) + 1 := IntWalk.i64_in _ (by have := HKN.out; have := HN.out.1; omega)
                go_wp2
                go_roundw
                case rel => exact ⟨k + 1, at', rfl, by first | go_num | (rw [hwk]; go_num), by have := HK2.out; omega, .inl (by have := HKN.out; have := HK.out; omega), by rw [below_succ, HIP.out]; simpa using HA.out, hD3⟩
                case measure => have := HKN.out; have := HK.out; first | (rw [hwk]; simp [intOf]; omega) | (simp [intOf]; omega)
              | true =>
                have e : dv = false := by rw [HDV.out, hip]; rfl
                subst e
                have HIP := hidd hip
                clear hip HDV
                have hat := below_at (m := K) (k := k) (by have := HK.out; have := HKN.out; omega) HIP.out
                rw [← HA.out, ← HL.out] at hat
                have hlt : at' < L := hat.1
                obtain ⟨g9, hao, hcell⟩ := HNI.out.cell (i := at') (by rw [← HL.out]; exact hlt)
                rw [hat.2] at hcell
                cases hao
                have hcell2 := (hD3.cell _).trans hcell
                have hlti : (at' : Int) < (L : Int) := by omega
                have hnlt : ¬ (L : Int) ≤ (at' : Int) := by omega
                have hnlt2 : ¬ L ≤ at' := by omega
                have hwk : IntKind.i64.wrap ((k : Int) + 1) = (k : Int) + 1 := IntWalk.i64_in _ (by have := HKN.out; have := HN.out.1; omega)
                have hwa : IntKind.i64.wrap ((at' : Int) + 1) = (at' : Int) + 1 := IntWalk.i64_in _ (by have := HA.out; have := below_len k; have := HKN.out; have := HN.out.1; omega)
                have HLT := hidd hlt
                clear hat hlt hcell
                go_wp2
                go_roundw
                case rel => exact ⟨k + 1, at' + 1, by first | go_num | (rw [hwa]; go_num), by first | go_num | (rw [hwk]; go_num), by have := HK2.out; omega, .inl (by have := HKN.out; have := HK.out; omega), by rw [below_succ, HIP.out, List.length_append, ← HA.out]; rfl, hD3⟩
                case measure => have := HKN.out; have := HK.out; first | (rw [hwk]; simp [intOf]; omega) | (simp [intOf]; omega)
        · have hlt := HN.out.2.2 k (by omega) (by have := HK2.out; omega)
          have hbe : below k = below K := by
            have hk1 := HK.out
            rcases HKK.out with h | h
            · rw [show k = K by omega]
            · subst h
              rcases (by omega : K = 1 ∨ K = 2) with h | h <;> rw [h] <;> decide
          have hal : at' = L := by rw [HA.out, HL.out, hbe]
          subst hal
          clear hlt hbe
          go_wp2
          go_ret
          exact ⟨rfl, HB.out.trans (hd.below _)⟩
end Go.Proofs.YthgpcgijhmgenaaDoor
