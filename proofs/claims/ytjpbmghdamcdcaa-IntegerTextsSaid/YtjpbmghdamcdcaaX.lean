/- Walk: Gcd. -/
import Derived.Test.YtjpbmghdamcdcaaU
namespace Go.Proofs.Ytjpbmghdamcdcaa
open Go.RowKit

theorem gcd_step {x y : Int} (hx : 0 ≤ x) (hy : 0 ≤ y) : Int.gcd y (x % y) = Int.gcd x y := by
  obtain ⟨a, rfl⟩ := Int.eq_ofNat_of_zero_le hx
  obtain ⟨b, rfl⟩ := Int.eq_ofNat_of_zero_le hy
  show Nat.gcd b (((a : Int) % b).natAbs) = Nat.gcd a b
  have e : ((a : Int) % (b : Int)).natAbs = a % b := by
    rw [← Int.natCast_emod]; rfl
  rw [e, Nat.gcd_comm a b, Nat.gcd_rec b a, Nat.gcd_comm]

theorem gcd_zero {x : Int} (hx : 0 ≤ x) : (Int.gcd x 0 : Int) = x := by
  rw [Int.gcd_zero_right]; omega

theorem gcd_sgn (a b : Bool) (x y : Int) : Int.gcd (sgn a x) (sgn b y) = Int.gcd x y := by
  cases a <;> cases b <;> simp [sgn]

/-- What the first loop holds. -/
def GcdInv (w : World) (L : Nat) (g : Nat) (vx vy : Value) (wr : World) : Prop :=
  ∃ ax nx cx xs ay ny cy ys, vx = .slice ax nx cx ∧ vy = .slice ay ny cy ∧ Sl wr ax nx cx xs ∧ Sl wr ay ny cy ys ∧ Canon xs ∧ Canon ys ∧ nx ≤ L ∧ ny ≤ L ∧ Int.gcd (val xs) (val ys) = g ∧ Below w.heap.size w wr

set_option maxHeartbeats 2000000 in
theorem Gcd_any (w : World) (na nb : Bool) (ax ay : Option Addr) (n m cx cy : Nat) (xs ys : List Int) (hX : Sl w ax n cx xs) (hY : Sl w ay m cy ys) (hb1 : n ≤ 900000) (hb2 : m ≤ 900000) :
    Calls Try.prog 18 #[.agg #[.bool na, .slice ax n cx], .agg #[.bool nb, .slice ay m cy]] w (GivesInt w (Int.gcd (sgn na (val xs)) (sgn nb (val ys)))) := by
  rw [gcd_sgn]
  obtain ⟨g, hg⟩ : ∃ g, g = Int.gcd (val xs) (val ys) := ⟨_, rfl⟩
  have HG := hidd hg
  rw [← hg]
  clear hg
  go_enter Try.func18, Try.ntmps18
  go_wp2
  obtain ⟨w0, hw0, hA, hB, hC, hbl, HS⟩ := boxes3 w (.bool na) (.slice ax n cx) (.bool nb) (.slice ay m cy) 27
  rw [← hw0]
  clear hw0
  have hXd := (hX.mono hbl).drew
  have hYd := (hY.mono hbl).drew
  have hcut : w.heap.size + 2 ≤ w0.heap.size := by have := HS.out; omega
  obtain ⟨ca0, ca1, _, _⟩ := hA
  obtain ⟨cb0, cb1, _, _⟩ := hB
  go_region_held3 (fun W => w.heap.size + 2 ≤ W.heap.size ∧ (∀ b o, b < w.heap.size + 2 → W.cell? ⟨b, o, none⟩ = w0.cell? ⟨b, o, none⟩) ∧ ∀ b o, b < w.heap.size + 2 → W.frozen? ⟨b, o, none⟩ = w0.frozen? ⟨b, o, none⟩)
    (first | exact Kept.start hcut | assumption | exact Kept.call (by assumption) (by assumption))
    (first | (go_at_call 53; (with_reducible refine (trim_any _ _ _ _ _ hXd (by omega)).mono ?_); rintro e w' ⟨m1, rfl, hm1, hs1, hv1, hc1, rfl⟩) | (go_at_call 62; (with_reducible refine (copied_sl _ _ _ _ _ hs1 (by omega)).mono ?_); rintro e w1 ⟨a1, k1, rfl, ht1, hB1⟩; have hY1 := hYd.mono hB1) | (go_at_call 53; (with_reducible refine (trim_any _ _ _ _ _ hY1 (by omega)).mono ?_); rintro e w' ⟨m2, rfl, hm2, hs2, hv2, hc2, rfl⟩) | (go_at_call 62; (with_reducible refine (copied_sl _ _ _ _ _ hs2 (by omega)).mono ?_); rintro e w2 ⟨a2, k2, rfl, ht2, hB2⟩))
  have hbl2 : Below w.heap.size w w2 := (hbl.drew.trans (hB1.mono hbl.size)).trans (hB2.mono (Nat.le_trans hbl.size hB1.size))
  have ht1' := ht1.mono hB2
  have hC2 : IntBox w2 (w.heap.size + 1 + 1) (.bool false) (.slice none 0 0) := by
    have hCd : IntBox w0.drew (w.heap.size + 1 + 1) (.bool false) (.slice none 0 0) := hC
    exact (hCd.mono hB1 hCd.lt).mono hB2 (Nat.lt_of_lt_of_le hCd.lt hB1.size)
  have hgcd : Int.gcd (val (xs.take m1)) (val (ys.take m2)) = g := by rw [hv1, hv2]; exact HG.out.symm
  have HGC := hidd hgcd
  have hr2 : w.heap.size + 1 + 1 < w2.heap.size := hC2.lt
  clear hXd hYd hcut hbl hC ca0 ca1 cb0 cb1 hB1 hB2 hY1 hs1 hs2 hv1 hv2 ht1 hgcd hX hY
  go_wp2
  go_loopw [5, 6] (fun vx vy wr => GcdInv w2 900000 g vx vy wr) (fun _ vy wr => slVal wr vy)
  case atStart => exact ⟨_, _, _, _, _, _, _, _, rfl, rfl, ht1', ht2, hc1, hc2, by omega, by omega, HGC.out, Below.refl _ _⟩
  case round =>
    obtain ⟨px, nx, qx, xs', py, ny, qy, ys', rfl, rfl, hsx, hsy, hcx, hcy, hnx, hny, hgc, hB⟩ := hrel
    have HGC' := hidd hgc
    have hx0 := val_nonneg hsx.digs
    have hy0 := val_nonneg hsy.digs
    have hyz := hcy.zero
    rw [hsy.len] at hyz
    have hbl3 := hbl2.trans (hB.mono hbl2.size)
    have hC3 := hC2.mono hB hr2
    clear hgc ht1' ht2 hc1 hc2 HGC
    by_cases hny0 : ny = 0
    · have hv0 : val ys' = 0 := hyz.1 hny0
      have HGX : Hid ((g : Int) = val xs') := by
        show _ = _
        rw [← HGC'.out, hv0, gcd_zero hx0]
      clear hyz hv0
      subst hny0
      go_wp2_with fail
      refine (signed_any _ _ _ _ _ _ hsx (by omega)).mono ?_
      rintro e w3 ⟨v, rfl, ⟨ng, ao, nn, cc, rs, rfl, hrs, hrc, hrn, hrz⟩, hb3⟩
      have hC4 := hC3.mono hb3 hC3.lt
      have hbl4 := hbl3.trans (hb3.mono hbl3.size)
      have HRZ : Hid ((g : Int) = sgn ng (val rs)) := by show _ = _; rw [← hrz]; exact HGX.out
      have HC4 := hidd hC4
      obtain ⟨e0, e1, e2, e3⟩ := hC4
      clear hrz hC3 hb3
      go_wp2
      refine bodyPost_ret (v := .agg #[.bool ng, .slice ao nn cc]) ?_ rfl ?_
      · simp [results, Try.results18, go_sem, e0, e1]
      · exact gives_store HC4.out hrs hrc hrn HRZ.out hbl4 (by omega)
    · have hyp : 0 < val ys' := by
        have : val ys' ≠ 0 := fun h => hny0 (hyz.2 h)
        omega
      have hnyi : (0 : Int) < (ny : Int) := by omega
      have hnyb : ((ny : Int) == 0) = false := by simp; omega
      clear hyz
      by_cases hbig : 2 < nx ∨ 2 < ny
      · have hdv : ∀ W, W = wr → Calls Try.prog 54 #[.slice px nx qx, .slice py ny qy] W (DivDone W (val xs') (val ys')) := fun W h => by
          subst h; exact divSize_any _ _ _ _ _ _ _ _ _ hsx hsy hcx hcy hyp (by omega) (by omega)
        have HDV := hidd hdv
        clear hdv
        rcases hbig with hbig | hbig
        · have hnx2 : (2 : Int) < (nx : Int) := by omega
          go_wp2_with fail
          refine (HDV.out _ rfl).mono ?_
          rintro e w3 ⟨aq, ar, nq, nr, cq, cr, qs, rs, rfl, hsq, hsr, hcq, hcr, hvq, hvr, hB3⟩
          have hsy3 := hsy.mono hB3
          have hlt := Int.emod_lt_of_pos (val xs') hyp
          have hnr : nr ≤ ny := len_le hcr hsr hsy3 (by omega)
          have HVR := hidd hvr
          clear hvr hvq
          go_wp2
          go_roundw
          case rel => exact ⟨_, _, _, _, _, _, _, _, rfl, rfl, hsy3, hsr, hcy, hcr, hny, by omega, by rw [HVR.out, gcd_step hx0 hy0]; exact HGC'.out, hB.trans (hB3.mono hB.size)⟩
          case measure =>
            rw [slVal_eq hsr, slVal_eq hsy, HVR.out]
            have := Int.emod_nonneg (val xs') (Int.ne_of_gt hyp)
            omega
        · have hny2 : (2 : Int) < (ny : Int) := by omega
          by_cases hnx2 : (2 : Int) < (nx : Int)
          · go_wp2_with fail
            refine (HDV.out _ rfl).mono ?_
            rintro e w3 ⟨aq, ar, nq, nr, cq, cr, qs, rs, rfl, hsq, hsr, hcq, hcr, hvq, hvr, hB3⟩
            have hsy3 := hsy.mono hB3
            have hlt := Int.emod_lt_of_pos (val xs') hyp
            have hnr : nr ≤ ny := len_le hcr hsr hsy3 (by omega)
            have HVR := hidd hvr
            clear hvr hvq
            go_wp2
            go_roundw
            case rel => exact ⟨_, _, _, _, _, _, _, _, rfl, rfl, hsy3, hsr, hcy, hcr, hny, by omega, by rw [HVR.out, gcd_step hx0 hy0]; exact HGC'.out, hB.trans (hB3.mono hB.size)⟩
            case measure =>
              rw [slVal_eq hsr, slVal_eq hsy, HVR.out]
              have := Int.emod_nonneg (val xs') (Int.ne_of_gt hyp)
              omega
          · go_wp2_with fail
            refine (HDV.out _ rfl).mono ?_
            rintro e w3 ⟨aq, ar, nq, nr, cq, cr, qs, rs, rfl, hsq, hsr, hcq, hcr, hvq, hvr, hB3⟩
            have hsy3 := hsy.mono hB3
            have hlt := Int.emod_lt_of_pos (val xs') hyp
            have hnr : nr ≤ ny := len_le hcr hsr hsy3 (by omega)
            have HVR := hidd hvr
            clear hvr hvq
            go_wp2
            go_roundw
            case rel => exact ⟨_, _, _, _, _, _, _, _, rfl, rfl, hsy3, hsr, hcy, hcr, hny, by omega, by rw [HVR.out, gcd_step hx0 hy0]; exact HGC'.out, hB.trans (hB3.mono hB.size)⟩
            case measure =>
              rw [slVal_eq hsr, slVal_eq hsy, HVR.out]
              have := Int.emod_nonneg (val xs') (Int.ne_of_gt hyp)
              omega
      · have hnx2 : ¬ (2 : Int) < (nx : Int) := by omega
        have hny2 : ¬ (2 : Int) < (ny : Int) := by omega
        have hX64 : val xs' < 18446744073709551616 := by
          have h1 := val_lt hsx.digs
          have h2 := pw_le (show xs'.length ≤ 2 by rw [hsx.len]; omega)
          have e : pw 2 = 18446744073709551616 := rfl
          omega
        have hY64 : val ys' < 18446744073709551616 := by
          have h1 := val_lt hsy.digs
          have h2 := pw_le (show ys'.length ≤ 2 by rw [hsy.len]; omega)
          have e : pw 2 = 18446744073709551616 := rfl
          omega
        clear hbig hyp
        go_wp2_with (first | (go_at_call 63; (with_reducible refine (toWord_any _ _ _ _ _ hsx (by omega)).mono ?_); rintro e w3 ⟨rfl, rfl⟩) | (go_at_call 63; (with_reducible refine (toWord_any _ _ _ _ _ hsy (by omega)).mono ?_); rintro e w3 ⟨rfl, rfl⟩))
        generalize val xs' = X at *
        generalize val ys' = Y at *
        clear hsx hsy hcx hcy
        go_loopw [9, 10] (fun vu vv w' => ∃ u v : Int, vu = .int .u64 u ∧ vv = .int .u64 v ∧ 0 ≤ u ∧ u < 18446744073709551616 ∧ 0 ≤ v ∧ v < 18446744073709551616 ∧ Int.gcd u v = g ∧ Drawn wr w') (fun _ vv _ => (intOf vv).toNat)
        case atStart => exact ⟨X, Y, rfl, rfl, hx0, hX64, hy0, hY64, HGC'.out, Drawn.refl _⟩
        case round =>
          obtain ⟨u, v, rfl, rfl, hu0, hu1, hv0, hv1, hgu, hd⟩ := hrel
          have HGU := hidd hgu
          clear hgu
          by_cases hv : 0 < v
          · have hvne : ¬ v = 0 := by omega
            have hvb : (v == 0) = false := by simp; omega
            have hm0 : 0 ≤ u % v := Int.emod_nonneg _ (by omega)
            have hm1 : u % v < v := Int.emod_lt_of_pos _ hv
            have hmv : u.tmod v = u % v := IntWalk.rem_in _ _ hu0
            have hmw : IntKind.u64.wrap (u % v) = u % v := IntWalk.u64_in _ ⟨hm0, by omega⟩
            go_wp2
            go_quiet (fail)
            go_wp2
            go_roundw
            case rel => exact ⟨v, u % v, rfl, rfl, hv0, hv1, hm0, by omega, by rw [gcd_step hu0 hv0]; exact HGU.out, hd.drewN _⟩
            case measure => simp [intOf]; omega
          · have hvz : v = 0 := by omega
            have HGX : Hid ((g : Int) = u) := by
              show _ = _
              rw [← HGU.out, hvz, gcd_zero hu0]
            have hC4 : IntBox _ _ _ _ := hC3.mono (hd.below _) (Nat.lt_succ_self _)
            have hbl4 := hbl3.trans (hd.below _)
            clear hvz hC3
            go_wp2_with fail
            refine (fromWord_any _ u hu0 hu1).mono ?_
            rintro e w5 ⟨a5, n5, c5, zs5, rfl, hn5, hs5, hc5, hv5, hB5⟩
            have hC5 := hC4.mono hB5 hC4.lt
            have hbl5 := hbl4.trans (hB5.mono hbl4.size)
            have HV5 := hidd hv5
            clear hv5 hC4 hbl4 hB5
            go_wp2_with fail
            refine (signed_any _ _ _ _ _ _ hs5 (by omega)).mono ?_
            rintro e w6 ⟨v6, rfl, ⟨ng, ao, nn, cc, rs, rfl, hrs, hrc, hrn, hrz⟩, hb6⟩
            have hC6 := hC5.mono hb6 hC5.lt
            have hbl6 := hbl5.trans (hb6.mono hbl5.size)
            have HRZ : Hid ((g : Int) = sgn ng (val rs)) := by show _ = _; rw [← hrz, HV5.out]; exact HGX.out
            have HC6 := hidd hC6
            obtain ⟨e0, e1, e2, e3⟩ := hC6
            clear hrz hC5 hb6
            go_wp2
            refine bodyPost_ret (v := .agg #[.bool ng, .slice ao nn cc]) ?_ rfl ?_
            · simp [results, Try.results18, go_sem, e0, e1]
            · exact gives_store HC6.out hrs hrc hrn HRZ.out hbl6 (by omega)

end Go.Proofs.Ytjpbmghdamcdcaa
