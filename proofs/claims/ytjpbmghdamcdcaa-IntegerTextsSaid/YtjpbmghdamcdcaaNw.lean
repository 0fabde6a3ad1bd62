/- Walk: a step of Newton's. -/
import Derived.Test.YtjpbmghdamcdcaaO
import Derived.Test.YtjpbmghdamcdcaaP
namespace Go.Proofs.Ytjpbmghdamcdcaa
open Go.RowKit

/-- One step of Newton's. -/
def newt (X S : Int) (K : Nat) : Int := (((K : Int) - 1) * S + X / S ^ (K - 1)) / K

set_option maxHeartbeats 1000000 in
theorem newton_any (w : World) (ax az : Option Addr) (n m cx cs : Nat) (xs ss : List Int) (hX : Sl w ax n cx xs) (hS : Sl w az m cs ss) (hcx : Canon xs) (hcs : Canon ss) (hs1 : 1 ≤ val ss) (K L : Nat) (hK1 : 1 ≤ K) (hK : K ≤ 9000000)
    (hL1 : 1 ≤ L) (hL : L ≤ 400000) (hn : n ≤ L) (hm : m ≤ L) (hp : val ss ^ (K - 1) < pw L) :
    Calls Try.prog 86 #[.slice ax n cx, .slice az m cs, .int .i64 K] w fun e w' => ∃ at' nt ct ts, e = .returned (.slice at' nt ct) ∧ Sl w' at' nt ct ts ∧ Canon ts ∧ val ts = newt (val xs) (val ss) K ∧ Below w.heap.size w w' := by
  have hKm : ((K : Int) - 1) = ((K - 1 : Nat) : Int) := by omega
  have hpp : 0 < val ss ^ (K - 1) := Int.pow_pos (by omega)
  go_enter Try.func86, Try.ntmps86
  go_wp2_with fail
  refine (powSize_any _ _ _ _ _ hS hcs (K - 1) L (by omega) hL1 (by omega) hp).mono ?_
  rintro e w2 ⟨a2, n2, c2, zs2, rfl, hs2, hc2, hv2, hB2⟩
  have hn2 : n2 ≤ L := by
    have := hc2.length_le (k := L) (by rw [hv2]; exact hp)
    rw [hs2.len] at this; exact this
  have hX2 := hX.mono hB2
  have hS2 := hS.mono hB2
  have HV2 := hidd hv2
  clear hv2 hX hS
  go_wp2_with fail
  refine (divSize_any _ _ _ _ _ _ _ _ _ hX2 hs2 hcx hc2 (by rw [HV2.out]; exact hpp) (by omega) (by omega)).mono ?_
  rintro e w3 ⟨aq, ar, nq, nr, cq, cr, qs, rs, rfl, hsq, _, hcq, _, hvq, _, hB3⟩
  have hnq : nq ≤ n := by
    refine len_le hcq hsq (hX2.mono hB3) ?_
    rw [hvq]
    exact Int.ediv_le_self _ (val_nonneg hX2.digs)
  have hS3 := hS2.mono hB3
  have HVQ := hidd hvq
  have hB23 := hB2.trans (hB3.mono hB2.size)
  clear hvq hX2 hS2 hB2 hB3 hs2 hc2
  go_wp2_with fail
  refine (fromWord_any _ ((K - 1 : Nat) : Int) (by omega) (by omega)).mono ?_
  rintro e w4 ⟨a4, n4, c4, zs4, rfl, hn4, hs4, hc4, hv4, hB4⟩
  have hS4 := hS3.mono hB4
  have hq4 := hsq.mono hB4
  have hB24 := hB23.trans (hB4.mono hB23.size)
  have HV4 := hidd hv4
  clear hv4 hS3 hsq hB23 hB4
  go_wp2_with fail
  refine (mulSize_any _ _ _ _ _ _ _ _ _ hS4 hs4 (by omega) (by omega)).mono ?_
  rintro e w5 ⟨a5, c5, zs5, rfl, hs5, hv5, hB5⟩
  go_wp2_with fail
  refine (trim_any _ _ _ _ _ hs5 (by omega)).mono ?_
  rintro e w6 ⟨m6, rfl, hm6, hs6, hv6, hc6, rfl⟩
  have hq5 := hq4.mono hB5
  have hB25 := hB24.trans (hB5.mono hB24.size)
  have hv56 := hv6.trans hv5
  have HV5 := hidd hv56
  clear hv56 hv5 hv6 hs5 hq4 hS4 hs4 hB24 hB5
  go_wp2_with fail
  refine (addSize_any _ _ _ _ _ _ _ _ _ hs6 hq5 (by omega) (by omega)).mono ?_
  rintro e w7 ⟨a7, n7, c7, zs7, rfl, hn7, hs7, hv7, hB7⟩
  have hB27 := hB25.trans (hB7.mono hB25.size)
  go_wp2_with fail
  refine (trim_any _ _ _ _ _ hs7 (by omega)).mono ?_
  rintro e w8 ⟨m8, rfl, hm8, hs8, hv8, hc8, rfl⟩
  have hv78 := hv8.trans hv7
  have HV7 := hidd hv78
  clear hv78 hv7 hv8 hs7 hB25 hB7 hs6 hq5
  go_wp2_with fail
  refine (fromWord_any _ (K : Int) (by omega) (by omega)).mono ?_
  rintro e w9 ⟨a9, n9, c9, zs9, rfl, hn9, hs9, hc9, hv9, hB9⟩
  have hs89 := hs8.mono hB9
  have hB29 := hB27.trans (hB9.mono hB27.size)
  have HV9 := hidd hv9
  clear hv9 hs8 hB27 hB9
  go_wp2_with fail
  refine (divSize_any _ _ _ _ _ _ _ _ _ hs89 hs9 hc8 hc9 (by rw [HV9.out]; omega) (by omega) (by omega)).mono ?_
  rintro e w10 ⟨b1, b2, k1, k2, d1, d2, q1, r1, rfl, hsq1, _, hcq1, _, hvq1, _, hB10⟩
  have hz : val q1 = newt (val xs) (val ss) K := by
    rw [hvq1, HV7.out, HV5.out, HV9.out, HV4.out, HVQ.out, HV2.out]
    unfold newt
    rw [hKm, Int.mul_comm]
  have HZ := hidd hz
  clear hz hvq1
  go_wp2
  go_ret
  exact ⟨_, _, _, q1, rfl, hsq1, hcq1, HZ.out, hB29.trans (hB10.mono hB29.size)⟩

end Go.Proofs.Ytjpbmghdamcdcaa
