/- Walk: roots of sizes. -/
import Derived.Test.YtjpbmghdamcdcaaRt
import Derived.Test.YtjpbmghdamcdcaaE
import Derived.Test.YtjpbmghdamcdcaaF
namespace Go.Proofs.Ytjpbmghdamcdcaa
open Go.RowKit

theorem Sl.unique {w : World} {ao : Option Addr} {n c : Nat} {xs ys : List Int} (h : Sl w ao n c xs) (h' : Sl w ao n c ys) : xs = ys := by
  apply List.ext_getElem (h.len.trans h'.len.symm)
  intro j hj hj'
  obtain ⟨b, off, hao, _, x, hc, _, _, hx⟩ := h.cells.at hj
  obtain ⟨b', off', hao', _, y, hc', _, _, hy⟩ := h'.cells.at hj'
  rw [hao] at hao'
  cases hao'
  rw [hc] at hc'
  cases hc'
  have e1 := hx.out
  have e2 := hy.out
  have f1 : xs.getD j 0 = xs[j] := by simp [hj]
  have f2 : ys.getD j 0 = ys[j] := by simp [hj']
  omega

open Classical in
/-- The number that a slice's words stand for: for a measure. -/
noncomputable def slVal (w : World) (v : Value) : Nat :=
  if h : ∃ x : Nat, ∃ ao n c xs, v = .slice ao n c ∧ Sl w ao n c xs ∧ x = (val xs).toNat then Classical.choose h else 0

theorem slVal_eq {w : World} {ao : Option Addr} {n c : Nat} {xs : List Int} (h : Sl w ao n c xs) : slVal w (.slice ao n c) = (val xs).toNat := by
  have he : ∃ x : Nat, ∃ ao' n' c' xs', Value.slice ao n c = .slice ao' n' c' ∧ Sl w ao' n' c' xs' ∧ x = (val xs').toNat := ⟨_, ao, n, c, xs, rfl, h, rfl⟩
  unfold slVal
  rw [dif_pos he]
  obtain ⟨ao', n', c', xs', e, h', hx⟩ := Classical.choose_spec he
  cases e
  rw [hx, h.unique h']

theorem pow_pred_le {x : Int} {K : Nat} (hx : 1 ≤ x) (hK : 1 ≤ K) : x ^ (K - 1) ≤ x ^ K := by
  obtain ⟨k, rfl⟩ : ∃ k, K = k + 1 := ⟨K - 1, by omega⟩
  rw [Nat.add_sub_cancel, Int.pow_succ]
  have := Int.mul_le_mul_of_nonneg_left hx (show 0 ≤ x ^ k from Int.pow_nonneg (by omega))
  omega

theorem pow_one_le {x : Int} {K : Nat} (hx : 1 ≤ x) (hK : 1 ≤ K) : x ≤ x ^ K := by
  have := pow_le_of (z := 1) (by omega) hx hK
  omega

theorem newt_le {X S : Int} {K : Nat} (hK : 1 ≤ K) (hS : 1 ≤ S) (hX : 0 ≤ X) : newt X S K ≤ S + X := by
  unfold newt
  have hp : 0 < S ^ (K - 1) := Int.pow_pos (by omega)
  have h1 : X / S ^ (K - 1) ≤ X := Int.ediv_le_self _ hX
  refine Int.le_of_lt_add_one (Int.ediv_lt_of_lt_mul (by omega) ?_)
  have h2 := Int.mul_le_mul_of_nonneg_left (show (1 : Int) ≤ K by omega) (show 0 ≤ S + X + 1 by omega)
  have h3 : ((K : Int) - 1) * S = K * S - S := by rw [Int.sub_mul, Int.one_mul]
  have h4 : (S + X + 1) * (K : Int) = K * S + (X + 1) * K := by rw [Int.add_assoc, Int.add_mul, Int.mul_comm S]
  have h5 := Int.mul_le_mul_of_nonneg_left (show (1 : Int) ≤ K by omega) (show 0 ≤ X + 1 by omega)
  omega

theorem two_pow_le {a b : Nat} (h : a ≤ b) : (2 : Int) ^ a ≤ 2 ^ b := by
  have e := Nat.pow_le_pow_right (n := 2) (by decide) h
  have e1 : ((2 ^ a : Nat) : Int) = 2 ^ a := by simp
  have e2 : ((2 ^ b : Nat) : Int) = 2 ^ b := by simp
  rw [← e1, ← e2]; omega

theorem shiftDown_ex (w : World) (ax : Option Addr) (n c : Nat) (xs : List Int) (hX : Sl w ax n c xs) (hb : n ≤ 1000000) (s : Nat) (hs : s ≤ 32 * n) :
    Calls Try.prog 84 #[.slice ax n c, .int .i64 s] w fun e w' => ∃ a m co zs, e = .returned (.slice a m co) ∧ m ≤ n ∧ Sl w' a m co zs ∧ val zs = val xs / 2 ^ s ∧ Below w.heap.size w w' :=
  (shiftDown_any w ax n c xs hX hb s hs).mono fun _ _ ⟨zs, he, hl, hr, hv, hb⟩ => ⟨_, _, _, zs, he, Nat.sub_le _ _, hr.sl hl, hv, hb⟩

theorem shiftUp_sl (w : World) (ax : Option Addr) (n c : Nat) (xs : List Int) (hX : Sl w ax n c xs) (hb : n ≤ 1000000) (s : Nat) (hs : s ≤ 1000000) :
    Calls Try.prog 85 #[.slice ax n c, .int .i64 s] w fun e w' => ∃ a m co zs, e = .returned (.slice a m co) ∧ m ≤ n + s / 32 + 1 ∧ Sl w' a m co zs ∧ val zs = val xs * 2 ^ s ∧ Below w.heap.size w w' :=
  (shiftUp_any w ax n c xs hX hb s hs).mono fun _ _ ⟨zs, he, hl, hr, hv, hb⟩ => ⟨_, _, _, zs, he, Nat.le_refl _, hr.sl hl, hv, hb⟩

/-- What a root leaves. -/
def RootDone (w : World) (X : Int) (K : Nat) (e : Ending) (w' : World) : Prop :=
  ∃ a n c rs, e = .returned (.slice a n c) ∧ Sl w' a n c rs ∧ Canon rs ∧ IsRoot X K (val rs) ∧ Below w.heap.size w w'

set_option maxHeartbeats 400000 in
theorem rootSize_ind (N : Nat) : ∀ (w : World) (ax : Option Addr) (n c : Nat) (xs : List Int) (_ : Sl w ax n c xs) (_ : Canon xs) (_ : val xs < N) (_ : n ≤ 60000) (K : Nat) (_ : 1 ≤ K) (_ : (K : Int) ≤ 9223372036854775807),
    Calls Try.prog 71 #[.slice ax n c, .int .i64 K] w (RootDone w (val xs) K) := by
  induction N with
  | zero =>
    intro w ax n c xs hX _ hN
    have := val_nonneg hX.digs
    omega
  | succ N ih =>
    intro w ax n c xs hX hcx hN hn K hK hKb
    have hnn := val_nonneg hX.digs
    have hKb2 : (0 : Int) ≤ K := by omega
    have hIH := hidd ih
    clear ih
    by_cases hX0 : val xs = 0
    · go_enter Try.func71, Try.ntmps71
      go_wp2_with fail
      refine (bits_any _ _ _ _ _ hX hcx (by omega)).mono ?_
      rintro e w' ⟨b, rfl, hb, hbn, rfl⟩
      have hb0 : b = 0 := by
        rcases hb with h | h
        · exact h.2
        · have := pow_two_pos (b - 1); omega
      subst hb0
      clear hb
      have HX0 := hidd hX0
      clear hX0
      go_wp2_with (go_at_call 62; (with_reducible refine (copied_sl _ _ _ _ _ hX (by omega)).mono ?_); rintro e w3 ⟨az, cz, rfl, hsz, hB2⟩)
      go_ret
      refine ⟨_, _, _, xs, rfl, hsz, hcx, ?_, hB2⟩
      rw [HX0.out]
      refine ⟨Int.le_refl _, ?_, ?_⟩
      · rw [Int.zero_pow (by omega)]; exact Int.le_refl _
      · rw [Int.zero_add, Int.one_pow]; decide
    have hXpos : 1 ≤ val xs := by omega
    by_cases hK1 : K = 1
    · subst hK1
      go_enter Try.func71, Try.ntmps71
      go_wp2_with fail
      refine (bits_any _ _ _ _ _ hX hcx (by omega)).mono ?_
      rintro e w' ⟨b, rfl, hb, hbn, rfl⟩
      have hb0 : 0 < b := by
        rcases hb with h | h
        · omega
        · exact h.1
      have hbb : ((b : Int) == 0) = false := by simp; omega
      clear hb hX0
      go_wp2_with (go_at_call 62; (with_reducible refine (copied_sl _ _ _ _ _ hX (by omega)).mono ?_); rintro e w3 ⟨az, cz, rfl, hsz, hB2⟩)
      go_ret
      refine ⟨_, _, _, xs, rfl, hsz, hcx, ⟨hnn, ?_, ?_⟩, hB2⟩
      · simp [Int.pow_succ]
      · simp [Int.pow_succ]; omega
    go_enter Try.func71, Try.ntmps71
    go_wp2_with fail
    refine (bits_any _ _ _ _ _ hX hcx (by omega)).mono ?_
    rintro e w' ⟨b, rfl, hb, hbn, rfl⟩
    have hb3 : 0 < b ∧ 2 ^ (b - 1) ≤ val xs ∧ val xs < 2 ^ b := by
      rcases hb with h | h
      · omega
      · exact h
    obtain ⟨hb0, hblo, hbhi⟩ := hb3
    have hbb : ((b : Int) == 0) = false := by simp; omega
    have hKb1 : ((K : Int) == 1) = false := by simp; omega
    have HLO := hidd hblo
    have HHI := hidd hbhi
    clear hb hX0 hK1 hblo hbhi
    by_cases hbK : b ≤ K
    · have hbKi : (b : Int) ≤ K := by omega
      have hone : Row (w.alloc (.cells #[.int .u32 1] 63)) 63 w.heap.size [1] := by
        refine ⟨fun x hx => ?_, ?_⟩
        · simp at hx; subst hx; exact ⟨by omega, by omega⟩
        · rw [heap_alloc_new]; rfl
      have hbl : Below w.heap.size w (w.alloc (.cells #[.int .u32 1] 63)) := (Below.refl _ _).alloc (Nat.le_refl _) _
      go_wp2
      go_ret
      refine ⟨_, _, _, [1], rfl, hone.sl rfl, ⟨hone.1, .inr (by simp [val, pw_zero])⟩, ?_, hbl⟩
      refine ⟨by simp [val], ?_, ?_⟩
      · simp only [val, Int.mul_zero, Int.add_zero, Int.one_pow]; exact hXpos
      · have := two_pow_le hbK
        have h2 := HHI.out
        simp only [val, Int.mul_zero, Int.add_zero]
        show _ < (2 : Int) ^ K
        omega
    have hKbi : (K : Int) < b := by omega
    obtain ⟨hf, hhf⟩ : ∃ hf : Nat, (b : Int) / (2 * (K : Int)) = (hf : Int) := ⟨b / (2 * K), by simp⟩
    have hfv : hf = b / (2 * K) := by
      have : ((b / (2 * K) : Nat) : Int) = (b : Int) / (2 * (K : Int)) := by simp
      omega
    have hfK : 2 * (hf * K) ≤ b := by
      have := Nat.div_mul_le_self b (2 * K)
      rw [← hfv] at this
      have e : hf * (2 * K) = 2 * (hf * K) := by rw [Nat.mul_left_comm]
      omega
    have hfb : (hf : Int) ≤ b := by
      have := Nat.le_mul_of_pos_right hf (show 0 < K by omega)
      omega
    have hfle : hf ≤ hf * K := Nat.le_mul_of_pos_right hf (by omega)
    have hfm : (hf : Int) * K = ((hf * K : Nat) : Int) := by simp
    have hfm0 : 0 ≤ (hf : Int) * K := by omega
    have hfm1 : (hf : Int) * K ≤ 960000 := by omega
    have HFV := hidd hfv
    have HFM := hidd hfm
    have hb64 : (2 : Int) ^ (2 * b) ≤ pw (2 * n) := by rw [pw_two]; exact two_pow_le (by omega)
    have hpws := pw_succ (2 * n)
    have hpwp := pw_pos (2 * n)
    clear hfv hfm
    by_cases hf0 : hf = 0
    · have hfour : Row (w.alloc (.cells #[.int .u32 4] 63)) 63 w.heap.size [4] := by
        refine ⟨fun x hx => ?_, ?_⟩
        · simp at hx; subst hx; exact ⟨by omega, by omega⟩
        · rw [heap_alloc_new]; rfl
      have hbl : Below w.heap.size w (w.alloc (.cells #[.int .u32 4] 63)) := (Below.refl _ _).alloc (Nat.le_refl _) _
      have hb2K : b ≤ 2 * K := by
        have h1 := HFV.out
        rw [hf0] at h1
        have := Nat.lt_mul_of_div_lt (show b / (2 * K) < 1 by omega) (show 0 < 2 * K by omega)
        omega
      obtain ⟨S0, hS0⟩ : ∃ S0 : Int, S0 = 4 := ⟨_, rfl⟩
      have hp4 : (4 : Int) ^ K = 2 ^ (2 * K) := by rw [Int.pow_mul]; rfl
      have hup4 : val xs < 4 ^ K := by
        have h1 := HHI.out
        have h2 := two_pow_le hb2K
        omega
      have hup5 : val xs < (val [4] + 1) ^ K := by
        have := pow_mono (show (0 : Int) ≤ 4 by decide) (show (4 : Int) ≤ val [4] + 1 by simp [val]) K
        omega
      have hS0b : S0 ^ K < pw (2 * n + 1) := by
        rw [hS0, hp4]
        have h1 := two_pow_le (show 2 * K ≤ 2 * b by omega)
        omega
      have HS0 := hidd hS0
      have HUP5 := hidd hup5
      have HP4 := hidd hp4
      subst hf0
      clear hS0 hp4 hup4 hup5
      go_wp2
      have hSL := hidd hS0b
      go_loopw [6] (fun vs wr => ∃ aS ns cs ss, vs = .slice aS ns cs ∧ Sl wr aS ns cs ss ∧ Canon ss ∧ Below w.heap.size w wr ∧ 1 ≤ val ss ∧ val ss ≤ S0 ∧ val xs < (val ss + 1) ^ K) (fun vs wr => slVal wr vs)
      case atStart => exact ⟨_, _, _, [4], rfl, hfour.sl rfl, ⟨hfour.1, .inr (by simp [val, pw_zero])⟩, hbl, by simp [val], by rw [HS0.out]; simp [val], HUP5.out⟩
      case round =>
        obtain ⟨aS, ns, cs, ss, rfl, hss, hcs, hB, hs1, hs2, hup⟩ := hrel
        have hXr := hX.mono hB
        have hpw : val ss ^ K ≤ S0 ^ K := pow_mono (by omega) hs2 K
        have hK1 := pow_pred_le hs1 (show 1 ≤ K by omega)
        have hss1 := pow_one_le hs1 (show 1 ≤ K by omega)
        have hb1 := hSL.out
        have hns : ns ≤ 2 * n + 1 := by
          have := hcs.length_le (k := 2 * n + 1) (by omega)
          rw [hss.len] at this; exact this
        have HUP := hidd hup
        clear hup
        go_wp2_with fail
        refine (newton_any _ _ _ _ _ _ _ _ _ hXr hss hcx hcs hs1 K (2 * n + 1) (by omega) (by omega) (by omega) (by omega) (by omega) hns (by omega)).mono ?_
        rintro e w2 ⟨at2, nt, ct, ts, rfl, hst, hct, hvt, hB2⟩
        have hss2 := hss.mono hB2
        have hB3 := hB.trans (hB2.mono hB.size)
        have hnt : nt ≤ 2 * n + 1 ∨ val ss ≤ val ts := by
          rcases Int.lt_or_le (val ts) (val ss) with h | h
          · refine .inl (Nat.le_trans (len_le hct hst hss2 (by omega)) hns)
          · exact .inr h
        have hge1 : 1 ≤ newt (val xs) (val ss) K := newt_ge (by omega) hs1 (by omega) (by rw [Int.one_pow]; exact hXpos)
        have hntb : nt ≤ 4000000 := by
          have h1 : newt (val xs) (val ss) K ≤ val ss + val xs := newt_le (by omega) hs1 (by omega)
          have h2 := hct.length_le (k := 2 * n + 1 + 1) (by rw [hvt]; have := val_lt hX.digs; rw [hX.len] at this; have h3 := pw_le (show n ≤ 2 * n + 1 by omega); have h4 := pw_succ (2 * n + 1); have := pw_pos (2 * n + 1); omega)
          rw [hst.len] at h2; omega
        have HVT := hidd hvt
        clear hvt
        by_cases hlt : val ts < val ss
        · have hcm : cmpI (val ts) (val ss) = -1 := if_pos hlt
          go_wp2_with (go_at_call 65; (with_reducible refine (cmpSize_any _ _ _ _ _ _ _ _ _ hst hss2 hct hcs (by omega) (by omega)).mono ?_); rintro e w3 ⟨rfl, hd⟩)
          go_roundw
          case rel =>
            refine ⟨_, _, _, ts, rfl, hst.drawn' hd, hct, hB3.trans (hd.below _), by rw [HVT.out]; exact hge1, by omega, ?_⟩
            rw [HVT.out]
            rcases newt_up (X := val xs) (S := val ss) (K := K) (by omega) hs1 with h | h
            · exact h
            · omega
          case measure =>
            rw [slVal_eq (hst.drawn' hd), slVal_eq hss]
            omega
        · have hcm : 0 ≤ cmpI (val ts) (val ss) := by
            have := (not_congr (cmpI_lt (x := val ts) (y := val ss))).2 hlt; omega
          go_wp2_with (go_at_call 65; (with_reducible refine (cmpSize_any _ _ _ _ _ _ _ _ _ hst hss2 hct hcs (by omega) (by omega)).mono ?_); rintro e w3 ⟨rfl, hd⟩)
          go_ret
          exact ⟨_, _, _, ss, rfl, hss2.drawn' hd, hcs, newt_end (by omega) hs1 HUP.out (by rw [← HVT.out]; omega), hB3.trans (hd.below _)⟩

    · have hfi : (0 : Int) < (hf : Int) := by omega
      have hbl : Below w.heap.size w (w.alloc (.cells #[.int .u32 4] 63)) := (Below.refl _ _).alloc (Nat.le_refl _) _
      have hX1 := hX.mono hbl
      go_wp2_with fail
      rw [HFM.out]
      refine (shiftDown_ex _ _ _ _ _ hX1 (by omega) (hf * K) (by omega)).mono ?_
      rintro e w2 ⟨a2, n2, c2, zs2, rfl, hn2, hs2, hv2, hB2⟩
      go_wp2_with fail
      refine (trim_any _ _ _ _ _ hs2 (by omega)).mono ?_
      rintro e w3 ⟨m3, rfl, hm3, hs3, hv3, hc3, rfl⟩
      have hB2' := hbl.trans (hB2.mono hbl.size)
      have hv23 := hv3.trans hv2
      have hKp : 1 ≤ hf * K := Nat.mul_pos (by omega) (by omega)
      have hsmall : val (zs2.take m3) < N := by
        rw [hv23]
        have h1 := Int.mul_ediv_add_emod (val xs) (2 ^ (hf * K))
        have h2 := Int.emod_nonneg (val xs) (Int.ne_of_gt (pow_two_pos (hf * K)))
        have h3 := two_pow_le hKp
        have h4 := Int.ediv_nonneg hnn (Int.le_of_lt (pow_two_pos (hf * K)))
        have h5 := Int.mul_le_mul_of_nonneg_right (show 2 ≤ (2 : Int) ^ (hf * K) by simpa using h3) h4
        omega
      have HV23 := hidd hv23
      clear hs2 hv2 hv3 hv23 hB2 hX1
      go_wp2_with fail
      refine (hIH.out _ _ _ _ _ hs3 hc3 hsmall (by omega) K hK hKb).mono ?_
      rintro e w4 ⟨a4, n4, c4, rs4, rfl, hs4, hc4, hroot, hB4⟩
      have hX'0 := val_nonneg hs3.digs
      rw [HV23.out] at hroot
      have hn4 : n4 ≤ n := by
        have h1 : val rs4 ≤ val xs := by
          rcases (by have := hroot.1; omega : val rs4 = 0 ∨ 1 ≤ val rs4) with h | h
          · omega
          · have h2 := pow_one_le h hK
            have h3 := hroot.2.1
            have h4 : val xs / 2 ^ (hf * K) ≤ val xs := Int.ediv_le_self _ hnn
            omega
        have h2 := hc4.length_le (k := n) (by have := val_lt hX.digs; rw [hX.len] at this; omega)
        rw [hs4.len] at h2; exact h2
      have hB24 := hB2'.trans (hB4.mono hB2'.size)
      have HROOT := hidd hroot
      clear hroot hB2' hB4 hs3 hc3 hsmall
      go_wp2_with fail
      refine (trim_any _ _ _ _ _ hs4 (by omega)).mono ?_
      rintro e w5 ⟨m5, rfl, hm5, hs5, hv5, hc5, rfl⟩
      have HV5 := hidd hv5
      clear hv5
      have hone : Row (w4.alloc (.cells #[.int .u32 1] 63)) 63 w4.heap.size [1] := by
        refine ⟨fun x hx => ?_, ?_⟩
        · simp at hx; subst hx; exact ⟨by omega, by omega⟩
        · rw [heap_alloc_new]; rfl
      have hbl5 : Below w4.heap.size w4 (w4.alloc (.cells #[.int .u32 1] 63)) := (Below.refl _ _).alloc (Nat.le_refl _) _
      have hs51 := hs5.mono hbl5
      have h1s := hone.sl (n := 1) rfl
      go_wp2_with fail
      refine (addSize_any _ _ _ _ _ _ _ _ _ hs51 h1s (by omega) (by omega)).mono ?_
      rintro e w6 ⟨a6, n6, c6, zs6, rfl, hn6, hs6, hv6, hB6⟩
      have hB26 := (hB24.trans (hbl5.mono hB24.size)).trans (hB6.mono (Nat.le_trans hB24.size hbl5.size))
      go_wp2_with fail
      refine (trim_any _ _ _ _ _ hs6 (by omega)).mono ?_
      rintro e w7 ⟨m7, rfl, hm7, hs7, hv7, hc7, rfl⟩
      have hv67 : val (zs6.take m7) = val rs4 + 1 := by rw [hv7, hv6, HV5.out]; simp [val]
      have HV67 := hidd hv67
      clear hv67 hv7 hv6 hs6 hs51 h1s hone hbl5 hs5 hs4 hB24
      go_wp2_with fail
      refine (shiftUp_sl _ _ _ _ _ hs7 (by omega) hf (by omega)).mono ?_
      rintro e w8 ⟨a8, n8, c8, zs8, rfl, hn8, hs8, hv8, hB8⟩
      go_wp2_with fail
      refine (trim_any _ _ _ _ _ hs8 (by omega)).mono ?_
      rintro e w9 ⟨m9, rfl, hm9, hs9, hv9, hc9, rfl⟩
      have hB28 := hB26.trans (hB8.mono hB26.size)
      have hv89 : val (zs8.take m9) = (val rs4 + 1) * 2 ^ hf := by rw [hv9, hv8, HV67.out]
      obtain ⟨S0, hS0⟩ : ∃ S0 : Int, S0 = (val rs4 + 1) * 2 ^ hf := ⟨_, rfl⟩
      have hS89 : val (zs8.take m9) = S0 := hv89.trans hS0.symm
      have hX' : val xs / 2 ^ (hf * K) = val xs / (2 ^ hf) ^ K := by rw [← Int.pow_mul]
      have hup := half_up (K := K) (pow_two_pos hf) hX' HROOT.out
      have hbd := half_bd (K := K) (pow_two_pos hf) hnn hX' HROOT.out
      rw [← hS0] at hup hbd
      have hS1 : 1 ≤ S0 := by
        rw [hS0]
        have := HROOT.out.1
        exact one_mul_le (by omega) (pow_two_pos hf)
      have hup9 : val xs < (val (zs8.take m9) + 1) ^ K := by
        rw [hS89]
        have := pow_mono (show 0 ≤ S0 by omega) (show S0 ≤ S0 + 1 by omega) K
        omega
      have hS0b : S0 ^ K < pw (2 * n + 1) := by
        have h1 : (2 : Int) ^ K * val xs ≤ 2 ^ K * 2 ^ b := Int.mul_le_mul_of_nonneg_left (by have := HHI.out; omega) (Int.le_of_lt (pow_two_pos K))
        rw [← Int.pow_add] at h1
        have h2 := two_pow_le (show K + b ≤ 2 * b by omega)
        have h3 := two_pow_le (show hf * K ≤ 2 * b by omega)
        rw [Int.pow_mul] at h3
        omega
      have HS89 := hidd hS89
      have HUP9 := hidd hup9
      clear hv89 hS0 hS89 hX' hup hbd hup9 hv8 hv9 hs8 hB8 hB26 hs7 hc7
      go_wp2
      have hSL := hidd hS0b
      go_loopw [6] (fun vs wr => ∃ aS ns cs ss, vs = .slice aS ns cs ∧ Sl wr aS ns cs ss ∧ Canon ss ∧ Below w.heap.size w wr ∧ 1 ≤ val ss ∧ val ss ≤ S0 ∧ val xs < (val ss + 1) ^ K) (fun vs wr => slVal wr vs)
      case atStart => exact ⟨_, _, _, _, rfl, hs9, hc9, hB28, by rw [HS89.out]; exact hS1, by rw [HS89.out]; exact Int.le_refl _, HUP9.out⟩
      case round =>
        obtain ⟨aS, ns, cs, ss, rfl, hss, hcs, hB, hs1, hs2, hup⟩ := hrel
        have hXr := hX.mono hB
        have hpw : val ss ^ K ≤ S0 ^ K := pow_mono (by omega) hs2 K
        have hK1 := pow_pred_le hs1 (show 1 ≤ K by omega)
        have hss1 := pow_one_le hs1 (show 1 ≤ K by omega)
        have hb1 := hSL.out
        have hns : ns ≤ 2 * n + 1 := by
          have := hcs.length_le (k := 2 * n + 1) (by omega)
          rw [hss.len] at this; exact this
        have HUP := hidd hup
        clear hup
        go_wp2_with fail
        refine (newton_any _ _ _ _ _ _ _ _ _ hXr hss hcx hcs hs1 K (2 * n + 1) (by omega) (by omega) (by omega) (by omega) (by omega) hns (by omega)).mono ?_
        rintro e w2 ⟨at2, nt, ct, ts, rfl, hst, hct, hvt, hB2⟩
        have hss2 := hss.mono hB2
        have hB3 := hB.trans (hB2.mono hB.size)
        have hnt : nt ≤ 2 * n + 1 ∨ val ss ≤ val ts := by
          rcases Int.lt_or_le (val ts) (val ss) with h | h
          · refine .inl (Nat.le_trans (len_le hct hst hss2 (by omega)) hns)
          · exact .inr h
        have hge1 : 1 ≤ newt (val xs) (val ss) K := newt_ge (by omega) hs1 (by omega) (by rw [Int.one_pow]; exact hXpos)
        have hntb : nt ≤ 4000000 := by
          have h1 : newt (val xs) (val ss) K ≤ val ss + val xs := newt_le (by omega) hs1 (by omega)
          have h2 := hct.length_le (k := 2 * n + 1 + 1) (by rw [hvt]; have := val_lt hX.digs; rw [hX.len] at this; have h3 := pw_le (show n ≤ 2 * n + 1 by omega); have h4 := pw_succ (2 * n + 1); have := pw_pos (2 * n + 1); omega)
          rw [hst.len] at h2; omega
        have HVT := hidd hvt
        clear hvt
        by_cases hlt : val ts < val ss
        · have hcm : cmpI (val ts) (val ss) = -1 := if_pos hlt
          go_wp2_with (go_at_call 65; (with_reducible refine (cmpSize_any _ _ _ _ _ _ _ _ _ hst hss2 hct hcs (by omega) (by omega)).mono ?_); rintro e w3 ⟨rfl, hd⟩)
          go_roundw
          case rel =>
            refine ⟨_, _, _, ts, rfl, hst.drawn' hd, hct, hB3.trans (hd.below _), by rw [HVT.out]; exact hge1, by omega, ?_⟩
            rw [HVT.out]
            rcases newt_up (X := val xs) (S := val ss) (K := K) (by omega) hs1 with h | h
            · exact h
            · omega
          case measure =>
            rw [slVal_eq (hst.drawn' hd), slVal_eq hss]
            omega
        · have hcm : 0 ≤ cmpI (val ts) (val ss) := by
            have := (not_congr (cmpI_lt (x := val ts) (y := val ss))).2 hlt; omega
          go_wp2_with (go_at_call 65; (with_reducible refine (cmpSize_any _ _ _ _ _ _ _ _ _ hst hss2 hct hcs (by omega) (by omega)).mono ?_); rintro e w3 ⟨rfl, hd⟩)
          go_ret
          exact ⟨_, _, _, ss, rfl, hss2.drawn' hd, hcs, newt_end (by omega) hs1 HUP.out (by rw [← HVT.out]; omega), hB3.trans (hd.below _)⟩



/-- The root of a size. -/
theorem rootSize_any (w : World) (ax : Option Addr) (n c : Nat) (xs : List Int) (hX : Sl w ax n c xs) (hcx : Canon xs) (hn : n ≤ 60000) (K : Nat) (hK : 1 ≤ K) (hKb : (K : Int) ≤ 9223372036854775807) :
    Calls Try.prog 71 #[.slice ax n c, .int .i64 K] w (RootDone w (val xs) K) :=
  rootSize_ind ((val xs).toNat + 1) w ax n c xs hX hcx (by have := val_nonneg hX.digs; omega) hn K hK hKb

end Go.Proofs.Ytjpbmghdamcdcaa
