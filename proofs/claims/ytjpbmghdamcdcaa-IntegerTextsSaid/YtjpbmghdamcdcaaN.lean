/- Walk: the long division. -/
import Derived.Test.YtjpbmghdamcdcaaR
import Derived.Test.YtjpbmghdamcdcaaE
import Derived.Test.YtjpbmghdamcdcaaF
namespace Go.Proofs.Ytjpbmghdamcdcaa
open Go.RowKit

theorem Row.grown {w w' : World} {e : TypeId} {b b' : Nat} {zs : List Int} (h : Row w e b zs) (hg : w.grownBy w' (some b')) (hne : b ≠ b') : Row w' e b zs :=
  ⟨h.1, by rw [hg.block b h.lt (by simpa using hne)]; exact h.2⟩

theorem Row.drawn {w w' : World} {e : TypeId} {b : Nat} {zs : List Int} (h : Row w e b zs) (d : Drawn w w') : Row w' e b zs := h.mono (d.below (b + 1)) (Nat.lt_succ_self _)

/-- A window of a row. -/
theorem Row.win {w : World} {e : TypeId} {b : Nat} {zs : List Int} (h : Row w e b zs) (off m c : Nat) (hl : off + m ≤ zs.length) (hc : m ≤ c) : Sl w (some ⟨b, off, none⟩) m c ((zs.drop off).take m) := by
  refine ⟨by rw [List.length_take, List.length_drop]; omega, hc, (h.1.drop off).take m, .inr ⟨b, off, rfl, h.lt, fun j hj => ?_⟩⟩
  rw [List.length_take, List.length_drop] at hj
  rw [getD_take, if_pos (by omega), getD_drop]
  exact h.cell (by omega)

theorem shiftUp_ex (w : World) (ax : Option Addr) (n c : Nat) (xs : List Int) (hX : Sl w ax n c xs) (hb : n ≤ 1000000) (s N : Nat) (hs : s ≤ 1000000) (hN : N = n + s / 32 + 1) :
    Calls Try.prog 85 #[.slice ax n c, .int .i64 s] w fun e w' => ∃ b zs, e = .returned (.slice (some ⟨b, 0, none⟩) N N) ∧ w.heap.size ≤ b ∧ zs.length = N ∧ Row w' 63 b zs ∧ val zs = val xs * 2 ^ s ∧ Below w.heap.size w w' := by
  subst hN
  exact (shiftUp_any w ax n c xs hX hb s hs).mono fun _ _ ⟨zs, he, hl, hr, hv, hb⟩ => ⟨_, zs, he, Nat.le_refl _, hl, hr, hv, hb⟩

theorem wpList_make_row {P : Program} (w : World) {ops : Array Oper} {rest : List Oper} {o : Oper} {a : Act} {Q : Exit → Act → World → Prop}
    (hg : o.guard = none) (l c : Operand) (t : TypeId) (hop : o.op = Op.makeSlice t l c)
    (e : TypeId) (h1 : P.underlying t = some (.slice e)) (h2 : (P.info? e).map (fun i => (i.zero, i.size, i.bytes)) = some (some (.int .u32 0), 1, 4))
    (kl kc : IntKind) (L C : Int) (hl : a.eval l = .int kl L) (hc : a.eval c = .int kc C) (n : Nat) (hL : L = (n : Int)) (hC : C = (n : Int)) (b2 : n ≤ 70368744177664)
    (hK : ∀ b w', w.heap.size ≤ b → Row w' e b (List.replicate n 0) → Below w.heap.size w w' → wpList P ops Q rest (a.put o.dst (.slice (some ⟨b, 0, none⟩) n n)) w') :
    wpList P ops Q (o :: rest) a w :=
  wpList_make_words w hg l c t hop e h1 h2 kl kc L C hl hc n hL hC b2 fun w' hr hb _ => hK _ w' (Nat.le_refl _) hr hb

/-- The long division's start. -/
theorem shift_of {ys : List Int} {m k : Nat} (hc : Canon ys) (hl : ys.length = m) (hm : 2 ≤ m) (hk : IsBits (val ys) k) (hkm : k ≤ 32 * m) : 32 * m - k < 32 ∧ 2 ^ (32 * m - 1) ≤ val ys * 2 ^ (32 * m - k) ∧ val ys * 2 ^ (32 * m - k) < pw m := by
  have h0 : pw (m - 1) ≤ val ys := by
    rcases hc.2 with h | h
    · omega
    · rw [hl] at h; exact h
  have hp := pw_pos (m - 1)
  rcases hk with ⟨h1, h2⟩ | ⟨h1, h2, h3⟩
  · omega
  · have h4 : 32 * (m - 1) < k := by
      refine Nat.lt_of_not_le fun hle => ?_
      have h5 : (2 : Int) ^ k ≤ 2 ^ (32 * (m - 1)) := by
        have e := Nat.pow_le_pow_right (n := 2) (by decide) hle
        have e1 : ((2 ^ k : Nat) : Int) = 2 ^ k := by simp
        have e2 : ((2 ^ (32 * (m - 1)) : Nat) : Int) = 2 ^ (32 * (m - 1)) := by simp
        rw [← e1, ← e2]; omega
      rw [← pw_two] at h5; omega
    refine ⟨by omega, ?_, ?_⟩
    · have := Int.mul_le_mul_of_nonneg_right h2 (Int.le_of_lt (pow_two_pos (32 * m - k)))
      rw [← Int.pow_add, show k - 1 + (32 * m - k) = 32 * m - 1 from by omega] at this
      exact this
    · have := Int.mul_lt_mul_of_pos_right h3 (pow_two_pos (32 * m - k))
      rw [← Int.pow_add, show k + (32 * m - k) = 32 * m from by omega, ← pw_two] at this
      exact this

/-- What lies above a window is zero. -/
theorem win_val {us : List Int} {i m : Nat} (hd : Digs us) (hl : i + m + 1 ≤ us.length) (h : val (us.drop (i + 1)) < pw m) :
    val (us.drop i) = val ((us.drop i).take (m + 1)) ∧ val ((us.drop i).take (m + 1)) = us.getD i 0 + 4294967296 * val (us.drop (i + 1)) := by
  have e1 := val_split (us.drop (i + 1)) (k := m) (by rw [List.length_drop]; omega)
  have h1 := val_nonneg ((hd.drop (i + 1)).take m)
  have h2 := val_nonneg ((hd.drop (i + 1)).drop m)
  have h3 : val ((us.drop (i + 1)).drop m) = 0 := by
    rcases (by omega : val ((us.drop (i + 1)).drop m) = 0 ∨ 1 ≤ val ((us.drop (i + 1)).drop m)) with h3 | h3
    · exact h3
    · have := Int.mul_le_mul_of_nonneg_left h3 (Int.le_of_lt (pw_pos m)); omega
  have e2 := val_split (us.drop i) (k := m + 1) (by rw [List.length_drop]; omega)
  rw [List.drop_drop] at e2 h3
  rw [show i + (m + 1) = i + 1 + m from by omega, h3, Int.mul_zero, Int.add_zero] at e2
  exact ⟨e2, e2.symm.trans (val_drop_step us (by omega))⟩

/-- One word of the quotient. -/
theorem long_step {us us' qs : List Int} {i m : Nat} {W V U g : Int} (hl : i + m + 1 ≤ us.length) (hl' : us'.length = us.length) (htk : us'.take i = us.take i) (hdr : us'.drop (i + m + 1) = us.drop (i + m + 1))
    (hcut : val (us.drop i) = W) (hW : val ((us.drop i).take (m + 1)) = W) (hW' : val ((us'.drop i).take (m + 1)) = W - g * V) (hlt : W - g * V < V) (hq : i < qs.length)
    (hsum : val us + V * pw (i + 1) * val (qs.drop (i + 1)) = U) : val (us'.drop i) < V ∧ val us' + V * pw i * val ((qs.set i g).drop i) = U := by
  have e1 := val_split (us.drop i) (k := m + 1) (by rw [List.length_drop]; omega)
  have e2 := val_split (us'.drop i) (k := m + 1) (by rw [List.length_drop]; omega)
  rw [List.drop_drop, show i + (m + 1) = i + m + 1 from by omega] at e1 e2
  rw [hdr, hW'] at e2
  rw [hcut, hW] at e1
  have e3 : val (us'.drop i) = W - g * V := by omega
  refine ⟨by omega, ?_⟩
  have e4 := val_split us' (k := i) (by omega)
  have e5 := val_split us (k := i) (by omega)
  rw [htk, e3, Int.mul_sub] at e4
  rw [hcut] at e5
  rw [val_drop_step _ (by simpa using hq), getD_set _ _ _ hq, List.drop_set_of_lt (by omega), Int.mul_add]
  rw [pw_succ] at hsum
  have h1 : V * pw i * (4294967296 * val (qs.drop (i + 1))) = V * (pw i * 4294967296) * val (qs.drop (i + 1)) := by ac_rfl
  have h2 : pw i * (g * V) = V * pw i * g := by ac_rfl
  omega

theorem back_once {W V g P κ : Int} (h0 : 0 ≤ W - (g - 1) * V) (h1 : W - (g - 1) * V < V) (hV : V < P) (h2 : 0 ≤ W - g * V + P + V - κ * P) (h3 : W - g * V + P + V - κ * P < P) :
    W - g * V + P + V - κ * P = W - (g - 1) * V := by
  rw [Int.sub_mul] at h0 h1 ⊢
  rcases (by omega : κ = 1 ∨ κ ≤ 0 ∨ 2 ≤ κ) with h | h | h
  · subst h; omega
  · have := Int.mul_le_mul_of_nonneg_right h (show 0 ≤ P by omega); omega
  · have := Int.mul_le_mul_of_nonneg_right h (show 0 ≤ P by omega); omega

theorem long_end {X Y Q R p V : Int} (hV : V = Y * p) (hp : 0 < p) (hsum : R + V * Q = X * p) (h0 : 0 ≤ R) (h1 : R < V) : X = Q * Y + R / p ∧ 0 ≤ R / p ∧ R / p < Y := by
  have e : R = p * (X - Q * Y) := by
    rw [Int.mul_sub, Int.mul_comm p X, ← hsum, hV]
    have : p * (Q * Y) = Y * p * Q := by ac_rfl
    omega
  have e2 : R / p = X - Q * Y := by rw [e, Int.mul_ediv_cancel_left _ (Int.ne_of_gt hp)]
  rw [e2]
  refine ⟨by omega, ?_, ?_⟩
  · rw [← e2]; exact Int.ediv_nonneg h0 (by omega)
  · refine Int.lt_of_mul_lt_mul_left (a := p) ?_ (by omega)
    rw [← e, Int.mul_comm p Y, ← hV]; exact h1

theorem top_lt {us : List Int} {X Y p V : Int} {n m : Nat} (hm : 1 ≤ m) (hmn : m ≤ n) (hd : Digs us) (hl : us.length = n + 1) (hX : X < pw n) (hY : pw (m - 1) ≤ Y) (hp : 0 < p) (hV : V = Y * p) (hu : val us = X * p) : val (us.drop (n - m + 1)) < V := by
  refine Int.not_le.1 fun hle => ?_
  have e := val_split us (k := n - m + 1) (by omega)
  have h1 := val_nonneg (hd.take (n - m + 1))
  have h2 := Int.mul_le_mul_of_nonneg_left hle (Int.le_of_lt (pw_pos (n - m + 1)))
  have h3 := Int.mul_le_mul_of_nonneg_right hY (Int.le_of_lt hp)
  have h4 := Int.mul_le_mul_of_nonneg_left h3 (Int.le_of_lt (pw_pos (n - m + 1)))
  have h5 := Int.mul_lt_mul_of_pos_right hX hp
  have h6 : pw (n - m + 1) * (pw (m - 1) * p) = pw n * p := by rw [← Int.mul_assoc, ← pw_add, show n - m + 1 + (m - 1) = n from by omega]
  rw [← hV] at h4
  omega

set_option maxHeartbeats 4000000 in
theorem divLong_any (w : World) (ax ay : Option Addr) (n m cx cy : Nat) (xs ys : List Int) (hX : Sl w ax n cx xs) (hY : Sl w ay m cy ys) (hcy : Canon ys) (hm2 : 2 ≤ m) (hmn : m ≤ n) (hb : n ≤ 900000) :
    Calls Try.prog 78 #[.slice ax n cx, .slice ay m cy] w fun e w' => ∃ aq ar nq nr cq cr qs rs, e = .returned (.tuple #[.slice aq nq cq, .slice ar nr cr]) ∧ Sl w' aq nq cq qs ∧ Sl w' ar nr cr rs ∧ nq ≤ n ∧ nr ≤ n + 1 ∧
      val xs = val qs * val ys + val rs ∧ 0 ≤ val rs ∧ val rs < val ys ∧ Below w.heap.size w w' := by
  have hxl := hidd hX.len
  have hyl := hidd hY.len
  have hXlt : val xs < pw n := by have := val_lt hX.digs; rw [hX.len] at this; exact this
  have hYge : pw (m - 1) ≤ val ys := by
    rcases hcy.2 with h | h
    · have := hY.len; omega
    · rw [hY.len] at h; exact h
  go_enter Try.func78, Try.ntmps78
  go_wp2_with fail
  refine (bits_any _ _ _ _ _ hY hcy (by omega)).mono ?_
  rintro e w' ⟨k, rfl, hk, hkm, rfl⟩
  obtain ⟨hs1, hs2, hs3⟩ := shift_of hcy hyl.out hm2 hk hkm
  obtain ⟨s, hs⟩ : ∃ s, s = 32 * m - k := ⟨_, rfl⟩
  rw [← hs] at hs1 hs2 hs3
  have hks : (32 : Int) * m - k = (s : Int) := by omega
  have HSV := hidd hs2
  have HSW := hidd hs3
  clear hs hs2 hs3 hk
  go_wp2_with fail
  refine (shiftUp_ex _ _ _ _ _ hX (by omega) s (n + 1) (by omega) (by omega)).mono ?_
  rintro e w1 ⟨bu, us0, rfl, hbu, hul, hru, huv, hB1⟩
  go_wp2_with fail
  refine (shiftUp_ex _ _ _ _ _ (hY.mono hB1) (by omega) s (m + 1) (by omega) (by omega)).mono ?_
  rintro e w2 ⟨bv, vs0, rfl, hbv, hvl, hrv, hvv, hB2⟩
  go_wp2_with fail
  refine (trim_any _ _ _ _ _ (hrv.sl hvl) (by omega)).mono ?_
  rintro e w3 ⟨mv, rfl, hmv, hsv, hvt, hcv, rfl⟩
  -- the divisor has m words, its first bit is 1
  have hV : val (vs0.take mv) = val ys * 2 ^ s := by rw [hvt, hvv]
  have hmvm : mv = m := by
    have h1 := hcv.length_le (k := m) (by rw [hV]; exact HSW.out)
    rw [hsv.len] at h1
    refine Nat.le_antisymm h1 (Nat.le_of_not_lt fun h2 => ?_)
    have h3 := val_lt hsv.digs
    rw [hsv.len, hV] at h3
    have h4 := pw_le (show mv ≤ m - 1 by omega)
    have h5 := HSV.out
    rw [show 32 * m - 1 = 32 * (m - 1) + 31 from by omega, Int.pow_add, ← pw_two] at h5
    have := pw_pos (m - 1)
    omega
  subst hmvm
  obtain ⟨V, hVd⟩ : ∃ V, V = val (vs0.take mv) := ⟨_, rfl⟩
  have htop : 2147483648 ≤ (vs0.take mv).getD (mv - 1) 0 := by
    have h1 := val_take_succ (vs0.take mv) (mv - 1)
    rw [show mv - 1 + 1 = mv from by omega, val_take_all _ (by rw [hsv.len]; omega), hV] at h1
    have h2 := val_lt (hsv.digs.take (mv - 1))
    rw [List.length_take, hsv.len, Nat.min_eq_left (by omega)] at h2
    have h5 := HSV.out
    rw [show 32 * mv - 1 = 32 * (mv - 1) + 31 from by omega, Int.pow_add, ← pw_two] at h5
    refine Int.not_lt.1 fun hn => ?_
    have h6 := Int.mul_le_mul_of_nonneg_left (show (vs0.take mv).getD (mv - 1) 0 + 1 ≤ 2147483648 by omega) (Int.le_of_lt (pw_pos (mv - 1)))
    rw [Int.mul_add] at h6
    omega
  have hVp : 0 < V := by
    have h5 := HSV.out
    rw [← hV, ← hVd] at h5
    have := pow_two_pos (32 * mv - 1)
    omega
  have hVw : V < pw mv := by rw [hVd]; have := val_lt hsv.digs; rw [hsv.len] at this; exact this
  have HVD := hidd hVd
  have HV := hidd hV
  have HT := hidd htop
  have hu0 : val us0 = val xs * 2 ^ s := huv
  have HU := hidd hu0
  have HVP := hidd hVp
  have HVW := hidd hVw
  have HVL := hidd hvl
  have hruB : bu < w1.heap.size := hru.lt
  have hru2 := hru.mono hB2 hruB
  have hbuv : bu ≠ bv := by omega
  have hB12 : Below w.heap.size w w2 := hB1.trans (hB2.mono hB1.size)
  have hbuw : w.heap.size ≤ bu := hbu
  have hbvw : w.heap.size ≤ bv := Nat.le_trans hB1.size hbv
  have hbv2 : bv < w2.heap.size := hrv.lt
  have hbu2 : bu < w2.heap.size := hru2.lt
  clear hV hVd htop huv hu0 hvv hvt hcv hsv hVp hVw hmv hru hB1 hB2 hbu hbv
  go_wp2_with (at_make; refine wpList_make_row _ rfl _ _ 22 rfl 63 Try.underlying22 (by kernel_rfl) _ _ _ _ rfl rfl (n - mv + 1) (by omega) (by omega) (by omega) ?_; intro bq w4 hbq hrq hB4)
  have hbqu : bu ≠ bq := by omega
  have hbqv : bv ≠ bq := by omega
  have hbqw : w.heap.size ≤ bq := by omega
  have hru4 := hru2.mono hB4 hbu2
  have hrv4 := hrv.mono hB4 hbv2
  have hB : Below w.heap.size w w4 := hB12.trans (hB4.mono hB12.size)
  have hUL := hidd hul
  clear hB4 hB12 hru2 hrv hul hvl hbq hbu2 hbv2 hruB hX hY
  go_loopw [11] (fun i wr => ∃ (k : Nat) (us qs : List Int), k ≤ n - mv + 1 ∧ i = .int .i64 ((k : Int) - 1) ∧ Row wr 63 bu us ∧ us.length = n + 1 ∧ Row wr 63 bv vs0 ∧ Row wr 63 bq qs ∧ qs.length = n - mv + 1 ∧ Below w.heap.size w wr ∧
      val (us.drop k) < V ∧ val us + V * pw k * val (qs.drop k) = val us0) (fun i _ => (intOf i + 1).toNat)
  case atStart =>
    refine ⟨n - mv + 1, us0, _, Nat.le_refl _, by congr 1; omega, hru4, hUL.out, hrv4, hrq, by simp, hB, ?_, ?_⟩
    · exact top_lt (by omega) hmn hru4.1 hUL.out hXlt hYge (pow_two_pos s) (HVD.out.trans HV.out) HU.out
    · rw [List.drop_of_length_le (by simp)]; simp [val]
  case round =>
    obtain ⟨k, us, qs, hk, rfl, hru, hul, hrv, hrq, hql, hB, hlt, hsum⟩ := hrel
    have HL := hidd hlt
    have HS := hidd hsum
    clear hlt hsum hru4 hrv4
    by_cases h0 : 0 < k
    · have hwl : k - 1 + (mv + 1) ≤ us.length := by omega
      have hul2 := hidd hul
      have hql2 := hidd hql
      have hcne : ¬ (n + 1 = k - 1) := by omega
      have hwin := hru.win (k - 1) (mv + 1) (n + 1 - (k - 1)) hwl (by omega)
      have hvs := (hrv.sl HVL.out).take (show mv ≤ mv + 1 by omega)
      clear hul hql
      have hcut := win_val (us := us) (i := k - 1) (m := mv) hru.1 (by omega) (by rw [show k - 1 + 1 = k from by omega]; exact Int.lt_trans HL.out HVW.out)
      rw [show k - 1 + 1 = k from by omega] at hcut
      obtain ⟨W, hW⟩ : ∃ W, W = val ((us.drop (k - 1)).take (mv + 1)) := ⟨_, rfl⟩
      have hWlt : val ((us.drop (k - 1)).take (mv + 1)) < val (vs0.take mv) * 4294967296 := by
        rw [hcut.2, ← HVD.out]
        have := (hru.1.getD (k - 1)).2
        have := HL.out
        omega
      have HW := hidd hW
      have HW0 : Hid (0 ≤ W) := by rw [hW]; exact val_nonneg ((hru.1.drop (k - 1)).take (mv + 1))
      have HWLT := hidd hWlt
      have HCUT := hidd hcut
      clear hW hWlt hcut
      go_wp2_with fail
      rw [show k - 1 + mv + 1 - (k - 1) = mv + 1 from by omega]
      refine (guess_any _ _ _ _ _ _ _ _ hwin hvs hm2 (by omega) HT.out HWLT.out).mono ?_
      rintro e w5 ⟨g, rfl, hG, hd⟩
      rw [← HW.out, ← HVD.out] at hG
      obtain ⟨hg1, hg2, hg3, hg4⟩ := hG
      have HG1 := hidd hg1
      have HG2 := hidd hg2
      have hru5 := hru.drawn hd
      have hrv5 := hrv.drawn hd
      have hrq5 := hrq.drawn hd
      have hvs5 := hvs.mono (hd.below _)
      have hB5 := hB.trans (hd.below _)
      have hwB : w.heap.size ≤ w5.heap.size := hB5.size
      have hne : ∀ b' o, (some ⟨bv, 0, none⟩ : Option Addr) = some ⟨b', o, none⟩ → 0 < mv → b' ≠ bu := by intro b' o h; cases h; intro _; exact fun e => hbuv e.symm
      clear hg1 hg2 hru hrv hrq hvs hwin hd hB
      go_wp2_with fail
      refine (subTimes_any _ _ _ _ _ _ _ _ _ _ _ hru5 (by have := hul2.out; omega) (by omega) hvs5 hne (by omega) hg3 hg4).mono ?_
      rintro e w6 ⟨neg, us2, rfl, hru6, hul6, htk6, hdr6, hval6, hgr6⟩
      rw [← HW.out, ← HVD.out] at hval6
      have hrv6 := hrv5.grown hgr6 (fun e => hbuv e.symm)
      have hrq6 := hrq5.grown hgr6 (fun e => hbqu e.symm)
      have hB6 := hB5.grown hgr6 hwB (by intro j hj; cases hj; exact hbuw)
      have hvs6 := (hrv6.sl HVL.out).take (show mv ≤ mv + 1 by omega)
      have HUL6 := hidd hul6
      have HTK6 := hidd htk6
      have HDR6 := hidd hdr6
      have HVAL6 := hidd hval6
      have hwB6 : w.heap.size ≤ w6.heap.size := hB6.size
      clear hul6 htk6 hdr6 hval6 hgr6 hru5 hrv5 hrq5 hvs5 hB5
      cases neg
      · have hkq : k - 1 < qs.length := by have := hql2.out; omega
        have hfq := hrq6.frozen (k - 1)
        obtain ⟨z, hzq, _, _, _⟩ := hrq6.at hkq
        have hkI : ((k : Int) - 1) < ((n - mv + 1 : Nat) : Int) := by omega
        go_wp2
        go_roundw
        case rel =>
          have hv := HVAL6.out
          simp only [Bool.false_eq_true, if_false, Int.add_zero] at hv
          have h1 := long_step (i := k - 1) (m := mv) (qs := qs) (U := val us0) (by have := hul2.out; omega) HUL6.out HTK6.out HDR6.out (by rw [HCUT.out.1]; exact HW.out.symm) HW.out.symm hv (by have := HG1.out; rw [Int.add_mul] at this; omega) hkq (by rw [show k - 1 + 1 = k from by omega]; exact HS.out)
          exact ⟨k - 1, us2, qs.set (k - 1) g, by omega, by go_num, hru6.grown (grownBy_set _ _ _ _) hbqu, HUL6.out.trans hul2.out, hrv6.grown (grownBy_set _ _ _ _) hbqv, hrq6.set ⟨hg3, hg4⟩, by simp [hql2.out], hB6.setCell hbqw _, h1.1, h1.2⟩
        case measure => simp [intOf]; omega
      · have hWlt2 : W < g * V := by
          have h1 := HVAL6.out
          simp only [if_true] at h1
          have h2 := val_lt ((hru6.1.drop (k - 1)).take (mv + 1))
          rw [List.length_take, List.length_drop, HUL6.out, hul2.out, Nat.min_eq_left (by omega)] at h2
          omega
        have hgp : 1 ≤ g := by
          rcases (by omega : g = 0 ∨ 1 ≤ g) with h | h
          · rw [h, Int.zero_mul] at hWlt2
            have := val_nonneg ((hru6.1.drop (k - 1)).take (mv + 1))
            have h3 := HG2.out
            rw [h] at h3
            have := HVP.out
            exact absurd (Int.lt_of_le_of_lt HW0.out hWlt2) (by omega)
          · exact h
        have HWL2 := hidd hWlt2
        clear hWlt2
        go_wp2_with fail
        refine (addBack_any _ _ _ _ _ _ _ _ _ hru6 (by have := hul2.out; have := HUL6.out; omega) (by omega) hvs6 hne (by omega)).mono ?_
        rintro e w7 ⟨us3, rfl, hru7, hul7, htk7, hdr7, hval7, hgr7⟩
        have hrv7 := hrv6.grown hgr7 (fun e => hbuv e.symm)
        have hrq7 := hrq6.grown hgr7 (fun e => hbqu e.symm)
        have hB7 := hB6.grown hgr7 hwB6 (by intro j hj; cases hj; exact hbuw)
        have HUL7 := hidd hul7
        have HTK7 := hidd htk7
        have HDR7 := hidd hdr7
        have HVAL7 := hidd hval7
        have hkq : k - 1 < qs.length := by have := hql2.out; omega
        have hfq := hrq7.frozen (k - 1)
        obtain ⟨z, hzq, _, _, _⟩ := hrq7.at hkq
        have hkI : ((k : Int) - 1) < ((n - mv + 1 : Nat) : Int) := by omega
        clear hul7 htk7 hdr7 hval7 hgr7 hru6 hrv6 hrq6 hvs6 hB6
        go_wp2
        go_roundw
        case rel =>
          have hv := HVAL6.out
          simp only [if_true] at hv
          obtain ⟨κ, hκ⟩ := HVAL7.out
          rw [hv, ← HVD.out] at hκ
          have n0 := val_nonneg ((hru7.1.drop (k - 1)).take (mv + 1))
          have n1 := val_lt ((hru7.1.drop (k - 1)).take (mv + 1))
          rw [List.length_take, List.length_drop, HUL7.out, HUL6.out, hul2.out, Nat.min_eq_left (by omega)] at n1
          rw [hκ] at n0 n1
          have g2 := HG2.out
          have g4 := HWL2.out
          have hVP2 : V < pw (mv + 1) := Int.lt_of_lt_of_le HVW.out (pw_le (by omega))
          have hlt : W - (g - 1) * V < V := by rw [Int.sub_mul]; omega
          have hb := back_once (by omega) hlt hVP2 n0 n1
          rw [hb] at hκ
          have h1 := long_step (i := k - 1) (m := mv) (qs := qs) (U := val us0) (us := us) (us' := us3) (g := g - 1) (by have := hul2.out; omega) (HUL7.out.trans HUL6.out) (HTK7.out.trans HTK6.out) (HDR7.out.trans HDR6.out) (by rw [HCUT.out.1]; exact HW.out.symm) HW.out.symm hκ hlt hkq (by rw [show k - 1 + 1 = k from by omega]; exact HS.out)
          exact ⟨k - 1, us3, qs.set (k - 1) (g - 1), by omega, by go_num, hru7.grown (grownBy_set _ _ _ _) hbqu, (HUL7.out.trans HUL6.out).trans hul2.out, hrv7.grown (grownBy_set _ _ _ _) hbqv, hrq7.set ⟨by omega, by omega⟩, by simp [hql2.out], hB7.setCell hbqw _, h1.1, h1.2⟩
        case measure => simp [intOf]; omega
    · obtain rfl : k = 0 := by omega
      have hsl := hru.sl hul
      have hqs := hrq.sl hql
      have hvr := hsl.digs
      go_wp2_with fail
      refine (shiftDown_any _ _ _ _ _ hsl (by omega) s (by omega)).mono ?_
      rintro e w5 ⟨rs, rfl, hrl, hrr, hrval, hB5⟩
      have hrsl := hrr.sl hrl
      go_wp2
      go_ret2
      have e1 := HS.out
      rw [pw_zero, Int.mul_one, List.drop_zero] at e1
      obtain ⟨f1, f2, f3⟩ := long_end (X := val xs) (Y := val ys) (Q := val qs) (R := val us) (HVD.out.trans HV.out) (pow_two_pos s) (by rw [e1]; exact HU.out) (val_nonneg hvr) (by simpa using HL.out)
      rw [← hrval] at f1 f2 f3
      exact ⟨_, _, _, _, _, _, qs, rs, rfl, hqs.mono hB5, hrsl, by omega, by omega, f1, f2, f3, hB.trans (hB5.mono hB.size)⟩

end Go.Proofs.Ytjpbmghdamcdcaa
