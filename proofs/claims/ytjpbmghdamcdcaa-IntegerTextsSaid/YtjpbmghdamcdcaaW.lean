/- Walk: Pow. -/
import Derived.Test.YtjpbmghdamcdcaaU
import Derived.Test.YtjpbmghdamcdcaaP
namespace Go.Proofs.Ytjpbmghdamcdcaa
open Go.RowKit

/-- 2^k, not unfolded. -/
def lim (k : Nat) : Int := 2 ^ k

/-- What Pow leaves. -/
def PowGives (w : World) (z k : Int) (e : Ending) (w' : World) : Prop :=
  Below w.heap.size w w' ∧ (((k < 0 ∨ 4096 < k) ∧ e = .returned (.tuple #[zeroV, .int .i64 1])) ∨
    (0 ≤ k ∧ k ≤ 4096 ∧ (lim 4096 ≤ z ^ k.toNat ∨ z ^ k.toNat ≤ -lim 4096) ∧ e = .returned (.tuple #[zeroV, .int .i64 2])) ∨
    (0 ≤ k ∧ k ≤ 4096 ∧ -lim 4096 < z ^ k.toNat ∧ z ^ k.toNat < lim 4096 ∧ ∃ v, e = .returned (.tuple #[v, .int .i64 0]) ∧ IsInt w' v (z ^ k.toNat)))

theorem sgn_pow (b : Bool) (x : Int) (k : Nat) : (sgn b x) ^ k = sgn (b && (k % 2 == 1)) (x ^ k) := by
  cases b
  · rfl
  · induction k with
    | zero => simp [sgn]
    | succ k ih =>
      rw [Int.pow_succ, ih, Int.pow_succ]
      rcases (by omega : k % 2 = 0 ∨ k % 2 = 1) with h | h
      · have h2 : (k + 1) % 2 = 1 := by omega
        simp [h, h2, sgn, Int.mul_neg]
      · have h2 : (k + 1) % 2 = 0 := by omega
        simp [h, h2, sgn, Int.neg_mul_neg]

theorem sgn_abs {a b : Bool} {x y : Int} (hx : 0 ≤ x) (hy : 0 ≤ y) (h : sgn a y = sgn b x) : x = y := by
  cases a <;> cases b <;> simp [sgn] at h <;> omega

theorem sgn_big {b : Bool} {v L : Int} (h : L ≤ v) : L ≤ sgn b v ∨ sgn b v ≤ -L := by
  cases b
  · exact .inl h
  · right; simp [sgn]; omega

theorem sgn_small {b : Bool} {v L : Int} (h0 : 0 ≤ v) (h : v < L) : -L < sgn b v ∧ sgn b v < L := by
  cases b <;> simp [sgn] <;> omega

/-- A power's size, by the bits of its base. -/
theorem pow_big {X : Int} {b K : Nat} (hb : IsBits X b) (h : 4096 ≤ ((b : Int) - 1) * K) : lim 4096 ≤ X ^ K := by
  rcases hb with ⟨_, h2⟩ | ⟨h1, h2, _⟩
  · subst h2; simp at h; omega
  · have h3 := pow_mono (Int.le_of_lt (pow_two_pos (b - 1))) h2 K
    rw [← Int.pow_mul] at h3
    have h4 : 4096 ≤ (b - 1) * K := by
      have e : ((b : Int) - 1) * K = (((b - 1) * K : Nat) : Int) := by
        rw [Int.natCast_mul]; congr 1; omega
      omega
    have h5 := two_pow_le h4
    show (2 : Int) ^ 4096 ≤ _
    exact Int.le_trans h5 h3

theorem pow_small {X : Int} {b K : Nat} (hX : 0 ≤ X) (hb : IsBits X b) (hK : K ≤ 4096) (h : ((b : Int) - 1) * K < 4096) : X ^ K < pw 257 := by
  have h0 : X ^ K ≤ 2 ^ 8192 := by
    rcases hb with ⟨h1, h2⟩ | ⟨h1, _, h3⟩
    · subst h1
      have h5 : (0 : Int) ^ K ≤ 1 := by
        rcases Nat.eq_zero_or_pos K with h | h
        · subst h; decide
        · rw [Int.zero_pow (by omega)]; decide
      have h6 := two_pow_le (show 0 ≤ 8192 by omega)
      rw [Int.pow_zero] at h6
      omega
    · have h4 := pow_mono hX (Int.le_of_lt h3) K
      rw [← Int.pow_mul] at h4
      have h5 : b * K ≤ 8192 := by
        have e : (b : Int) * K = ((b * K : Nat) : Int) := by rw [Int.natCast_mul]
        rw [Int.sub_mul, Int.one_mul] at h
        omega
      exact Int.le_trans h4 (two_pow_le h5)
  have h1 : (2 : Int) ^ 8192 = pw 256 := (pw_two 256).symm
  have h2 : pw 257 = pw 256 * 4294967296 := pw_succ 256
  have h3 := pw_pos 256
  rw [h1] at h0
  omega

theorem bits_lim {V : Int} {m : Nat} (h : IsBits V m) : (4096 < m → lim 4096 ≤ V) ∧ (m ≤ 4096 → V < lim 4096) := by
  refine ⟨fun hm => ?_, fun hm => ?_⟩
  · rcases h with ⟨_, h2⟩ | ⟨_, h2, _⟩
    · omega
    · exact Int.le_trans (two_pow_le (show 4096 ≤ m - 1 by omega)) h2
  · rcases h with ⟨h1, _⟩ | ⟨_, _, h3⟩
    · subst h1; exact pow_two_pos 4096
    · exact Int.lt_of_lt_of_le h3 (two_pow_le hm)

set_option maxHeartbeats 2000000 in
theorem Pow_any (w : World) (na : Bool) (ax : Option Addr) (n cx : Nat) (xs : List Int) (hX : Sl w ax n cx xs) (hb1 : n ≤ 60000) (k : Int) (hk1 : -9223372036854775808 ≤ k) (hk2 : k ≤ 9223372036854775807) :
    Calls Try.prog 39 #[.agg #[.bool na, .slice ax n cx], .int .i64 k] w (PowGives w (sgn na (val xs)) k) := by
  have hx0 := val_nonneg hX.digs
  by_cases hk : k < 0 ∨ 4096 < k
  · have hbx := boxes2 w (.bool na) (.slice ax n cx) 27
    rcases hk with hk' | hk'
    · go_enter Try.func39, Try.ntmps39
      go_wp2
      refine bodyPost_ret (v := .tuple #[zeroV, .int .i64 1]) (by simp [results, Try.results39, go_sem, zeroV]) rfl ⟨?_, .inl ⟨.inl hk', rfl⟩⟩
      repeat (first | exact (alloc_below _ _).trans ((alloc_below _ _).mono (by simp)) | refine Below.setCell ?_ (by simp) _)
    · have hk'' : ¬ k < 0 := by omega
      go_enter Try.func39, Try.ntmps39
      go_wp2
      refine bodyPost_ret (v := .tuple #[zeroV, .int .i64 1]) (by simp [results, Try.results39, go_sem, zeroV]) rfl ⟨?_, .inl ⟨.inr hk', rfl⟩⟩
      repeat (first | exact (alloc_below _ _).trans ((alloc_below _ _).mono (by simp)) | refine Below.setCell ?_ (by simp) _)
  · obtain ⟨K, rfl⟩ := Int.eq_ofNat_of_zero_le (show 0 ≤ k by omega)
    have hK : K ≤ 4096 := by omega
    have hKi : (K : Int) ≤ 4096 := by omega
    clear hk
    go_enter Try.func39, Try.ntmps39
    go_wp2_with fail
    obtain ⟨w0, hw0, hA, hC, hbl, HSZ⟩ := boxes2 w (.bool na) (.slice ax n cx) 27
    rw [← hw0]
    clear hw0
    have hX0 := hX.mono hbl
    have HA := hidd hA
    have HC := hidd hC
    obtain ⟨a0, a1, _, _⟩ := hA
    obtain ⟨c0, c1, c2, c3⟩ := hC
    refine (trim_any _ _ _ _ _ hX0 (by omega)).mono ?_
    rintro e w' ⟨m, rfl, hm, hsm, hvm, hcm, rfl⟩
    have HVM := hidd hvm
    clear hvm
    go_wp2_with fail
    refine (bits_any _ _ _ _ _ hsm hcm (by omega)).mono ?_
    rintro e w' ⟨b, rfl, hb, hbm, rfl⟩
    rw [HVM.out] at hb
    have HB := hidd hb
    clear hb
    obtain ⟨p, hp⟩ : ∃ p, ((b : Int) - 1) * (K : Int) = p := ⟨_, rfl⟩
    have hpb : -4096 ≤ p ∧ p ≤ 8000000000 := by
      rw [← hp, Int.sub_mul, Int.one_mul]
      have h1 := Int.mul_nonneg (show 0 ≤ (b : Int) by omega) (show 0 ≤ (K : Int) by omega)
      have h2 := Int.mul_le_mul_of_nonneg_left hKi (show 0 ≤ (b : Int) by omega)
      omega
    obtain ⟨hp1, hp2⟩ := hpb
    have HP := hidd hp
    by_cases hbig : 4096 ≤ p
    · have HL : Hid (lim 4096 ≤ val xs ^ K) := pow_big HB.out (by rw [HP.out]; exact hbig)
      go_wp2
      refine bodyPost_ret (v := .tuple #[zeroV, .int .i64 2]) ?_ rfl ⟨?_, .inr (.inl ⟨by omega, hKi, ?_, rfl⟩)⟩
      · simp [results, Try.results39, go_sem, c0, c1, zeroV]
      · exact (hbl.setCell (by show w.heap.size ≤ w.heap.size + 1; omega) _).setCell (by show w.heap.size ≤ w.heap.size + 1; omega) _
      · show lim 4096 ≤ (sgn na (val xs)) ^ ((K : Int)).toNat ∨ _
        rw [Int.toNat_natCast, sgn_pow]
        exact sgn_big HL.out
    · have hpw : val (xs.take m) ^ K < pw 257 := by
        rw [HVM.out]
        exact pow_small hx0 HB.out hK (by rw [HP.out]; omega)
      obtain ⟨odd, hodd⟩ : ∃ odd : Bool, odd = (K % 2 == 1) := ⟨_, rfl⟩
      have hmod : ((K : Int) % 2 == 1) = odd := by
        rw [hodd]
        rcases (by omega : K % 2 = 0 ∨ K % 2 = 1) with h | h
        · have : (K : Int) % 2 = 0 := by omega
          simp [h, this]
        · have : (K : Int) % 2 = 1 := by omega
          simp [h, this]
      have HODD := hidd hodd
      have HPW := hidd hpw
      clear hodd hpw
      cases na
      · go_wp2_with fail
        refine (powSize_any _ _ _ _ _ hsm hcm K 257 (by omega) (by omega) (by omega) HPW.out).mono ?_
        rintro e w2 ⟨az, nz, cz, zs, rfl, hsz, hcz, hvz, hB2⟩
        have hnz : nz ≤ 257 := by
          have := hcz.length_le (k := 257) (by rw [hvz]; exact HPW.out)
          rw [hsz.len] at this; exact this
        have hA2 := HA.out.mono hB2 HA.out.lt
        have hC2 := HC.out.mono hB2 HC.out.lt
        have hbl2 := hbl.trans (hB2.mono hbl.size)
        have HVZ : Hid (val zs = val xs ^ K) := by show _ = _; rw [hvz, HVM.out]
        clear hvz a0 a1 c0 c1 c2 c3 hB2 hbl HA HC hsm
        go_wp2_with fail
        refine (signed_any _ _ _ _ _ _ hsz (by omega)).mono ?_
        rintro e w3 ⟨v, rfl, ⟨ng, ao, nn, cc, rs, rfl, hrs, hrc, hrn, hrz⟩, hb3⟩
        have hC3 := hC2.mono hb3 hC2.lt
        have hbl3 := hbl2.trans (hb3.mono hbl2.size)
        have h0r := val_nonneg hrs.digs
        have h0z := val_nonneg hsz.digs
        have hvr : val rs = val zs := sgn_abs h0r h0z hrz
        have hnn : nn ≤ nz := len_le hrc hrs (hsz.mono hb3) (by omega)
        have HVR := hidd hvr
        have HRZ : Hid (sgn false (val xs) ^ K = sgn ng (val rs)) := by
          show _ = _
          rw [← hrz, HVZ.out, sgn_pow]; rfl
        clear hrz hC2 hbl2 hb3 hsz hcz hvr
        go_wp2_with fail
        obtain ⟨w4, hw4⟩ : ∃ w4, w4 = w3.alloc (.cells #[.bool ng, .slice ao nn cc] 27) := ⟨_, rfl⟩
        obtain ⟨b5, hb5⟩ : ∃ b5, b5 = w3.heap.size := ⟨_, rfl⟩
        rw [← hw4]
        have hE : IntBox w4 b5 (.bool ng) (.slice ao nn cc) := by rw [hw4, hb5]; exact IntBox.new w3 _ _ _
        have hba : Below w3.heap.size w3 w4 := by rw [hw4]; exact alloc_below _ _
        have hC4 := hC3.mono hba hC3.lt
        have hbl4 := hbl3.trans (hba.mono hbl3.size)
        have hs4 := hrs.mono hba
        rw [← hb5]
        clear hw4 hb5 hC3 hbl3 hrs hba
        refine (Bits_any _ _ _ _ _ _ hs4 (by omega)).mono ?_
        rintro e w5 ⟨mb, rfl, hmb, hmb2, hB5⟩
        rw [HVR.out, HVZ.out] at hmb
        obtain ⟨l1, l2⟩ := bits_lim hmb
        have hs5 := hs4.mono hB5
        have hE5 := hE.mono hB5 hE.lt
        have hC5 := hC4.mono hB5 hC4.lt
        have hbl5 := hbl4.trans (hB5.mono hbl4.size)
        have HC5 := hidd hC5
        obtain ⟨c0, c1, c2, c3⟩ := hC5
        obtain ⟨f0, f1, _, _⟩ := hE5
        clear hmb hE hC4 hbl4 hs4 hB5
        by_cases hm4 : 4096 < mb
        · have HL := hidd (l1 hm4)
          have hm4i : (4096 : Int) < mb := by omega
          clear l1 l2
          go_wp2
          refine bodyPost_ret (v := .tuple #[zeroV, .int .i64 2]) ?_ rfl ⟨?_, .inr (.inl ⟨by omega, hKi, ?_, rfl⟩)⟩
          · simp [results, Try.results39, go_sem, c0, c1, zeroV]
          · exact (hbl5.setCell (by show w.heap.size ≤ w.heap.size + 1; omega) _).setCell (by show w.heap.size ≤ w.heap.size + 1; omega) _
          · show lim 4096 ≤ (sgn false (val xs)) ^ ((K : Int)).toNat ∨ _
            rw [Int.toNat_natCast, sgn_pow]
            exact sgn_big HL.out
        · have HL := hidd (l2 (by omega))
          have hx0K : 0 ≤ val xs ^ K := Int.pow_nonneg hx0
          clear l1 l2
          go_wp2
          obtain ⟨v', hv', hi, hb⟩ := gives_store (z := sgn false (val xs) ^ K) HC5.out hs5 hrc hrn HRZ.out hbl5 (by omega)
          cases hv'
          have hsm2 : -lim 4096 < sgn false (val xs) ^ K ∧ sgn false (val xs) ^ K < lim 4096 := by rw [sgn_pow]; exact sgn_small hx0K HL.out
          refine bodyPost_ret (v := .tuple #[.agg #[.bool ng, .slice ao nn cc], .int .i64 0]) ?_ rfl ⟨hb, .inr (.inr ⟨by omega, hKi, by rw [Int.toNat_natCast]; exact hsm2.1, by rw [Int.toNat_natCast]; exact hsm2.2, _, rfl, by rw [Int.toNat_natCast]; exact hi⟩)⟩
          simp [results, Try.results39, go_sem, c0, c1]
      · go_wp2_with fail
        refine (powSize_any _ _ _ _ _ hsm hcm K 257 (by omega) (by omega) (by omega) HPW.out).mono ?_
        rintro e w2 ⟨az, nz, cz, zs, rfl, hsz, hcz, hvz, hB2⟩
        have hnz : nz ≤ 257 := by
          have := hcz.length_le (k := 257) (by rw [hvz]; exact HPW.out)
          rw [hsz.len] at this; exact this
        have hA2 := HA.out.mono hB2 HA.out.lt
        have hC2 := HC.out.mono hB2 HC.out.lt
        have hbl2 := hbl.trans (hB2.mono hbl.size)
        have HVZ : Hid (val zs = val xs ^ K) := by show _ = _; rw [hvz, HVM.out]
        clear hvz a0 a1 c0 c1 c2 c3 hB2 hbl HA HC hsm
        go_wp2_with fail
        refine (signed_any _ _ _ _ _ _ hsz (by omega)).mono ?_
        rintro e w3 ⟨v, rfl, ⟨ng, ao, nn, cc, rs, rfl, hrs, hrc, hrn, hrz⟩, hb3⟩
        have hC3 := hC2.mono hb3 hC2.lt
        have hbl3 := hbl2.trans (hb3.mono hbl2.size)
        have h0r := val_nonneg hrs.digs
        have h0z := val_nonneg hsz.digs
        have hvr : val rs = val zs := sgn_abs h0r h0z hrz
        have hnn : nn ≤ nz := len_le hrc hrs (hsz.mono hb3) (by omega)
        have HVR := hidd hvr
        have HRZ : Hid (sgn true (val xs) ^ K = sgn ng (val rs)) := by
          show _ = _
          rw [← hrz, HVZ.out, sgn_pow, HODD.out]; rfl
        clear hrz hC2 hbl2 hb3 hsz hcz hvr
        go_wp2_with fail
        obtain ⟨w4, hw4⟩ : ∃ w4, w4 = w3.alloc (.cells #[.bool ng, .slice ao nn cc] 27) := ⟨_, rfl⟩
        obtain ⟨b5, hb5⟩ : ∃ b5, b5 = w3.heap.size := ⟨_, rfl⟩
        rw [← hw4]
        have hE : IntBox w4 b5 (.bool ng) (.slice ao nn cc) := by rw [hw4, hb5]; exact IntBox.new w3 _ _ _
        have hba : Below w3.heap.size w3 w4 := by rw [hw4]; exact alloc_below _ _
        have hC4 := hC3.mono hba hC3.lt
        have hbl4 := hbl3.trans (hba.mono hbl3.size)
        have hs4 := hrs.mono hba
        rw [← hb5]
        clear hw4 hb5 hC3 hbl3 hrs hba
        refine (Bits_any _ _ _ _ _ _ hs4 (by omega)).mono ?_
        rintro e w5 ⟨mb, rfl, hmb, hmb2, hB5⟩
        rw [HVR.out, HVZ.out] at hmb
        obtain ⟨l1, l2⟩ := bits_lim hmb
        have hs5 := hs4.mono hB5
        have hE5 := hE.mono hB5 hE.lt
        have hC5 := hC4.mono hB5 hC4.lt
        have hbl5 := hbl4.trans (hB5.mono hbl4.size)
        have HC5 := hidd hC5
        obtain ⟨c0, c1, c2, c3⟩ := hC5
        obtain ⟨f0, f1, _, _⟩ := hE5
        clear hmb hE hC4 hbl4 hs4 hB5
        by_cases hm4 : 4096 < mb
        · have HL := hidd (l1 hm4)
          have hm4i : (4096 : Int) < mb := by omega
          clear l1 l2
          go_wp2
          refine bodyPost_ret (v := .tuple #[zeroV, .int .i64 2]) ?_ rfl ⟨?_, .inr (.inl ⟨by omega, hKi, ?_, rfl⟩)⟩
          · simp [results, Try.results39, go_sem, c0, c1, zeroV]
          · exact (hbl5.setCell (by show w.heap.size ≤ w.heap.size + 1; omega) _).setCell (by show w.heap.size ≤ w.heap.size + 1; omega) _
          · show lim 4096 ≤ (sgn true (val xs)) ^ ((K : Int)).toNat ∨ _
            rw [Int.toNat_natCast, sgn_pow]
            exact sgn_big HL.out
        · have HL := hidd (l2 (by omega))
          have hx0K : 0 ≤ val xs ^ K := Int.pow_nonneg hx0
          clear l1 l2
          go_wp2
          obtain ⟨v', hv', hi, hb⟩ := gives_store (z := sgn true (val xs) ^ K) HC5.out hs5 hrc hrn HRZ.out hbl5 (by omega)
          cases hv'
          have hsm2 : -lim 4096 < sgn true (val xs) ^ K ∧ sgn true (val xs) ^ K < lim 4096 := by rw [sgn_pow]; exact sgn_small hx0K HL.out
          refine bodyPost_ret (v := .tuple #[.agg #[.bool ng, .slice ao nn cc], .int .i64 0]) ?_ rfl ⟨hb, .inr (.inr ⟨by omega, hKi, by rw [Int.toNat_natCast]; exact hsm2.1, by rw [Int.toNat_natCast]; exact hsm2.2, _, rfl, by rw [Int.toNat_natCast]; exact hi⟩)⟩
          simp [results, Try.results39, go_sem, c0, c1]

end Go.Proofs.Ytjpbmghdamcdcaa
