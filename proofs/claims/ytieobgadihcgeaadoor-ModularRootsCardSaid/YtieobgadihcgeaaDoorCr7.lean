/- Oc. -/
import Derived.Test.YtieobgadihcgeaaDoorCr6
/- Square roots modulo a prime: what the function gives; the law. -/
namespace Go.Proofs.YtieobgadihcgeaaDoor
open Go Go.RowKit

theorem enq_R_Power (args : Array Value) (w : World) : (callFunc 25 args).run Tryd.prog w = .ok (.enter 25 args) w := enter_of Tryd.func25 (by kernel_rfl) rfl args w
theorem nbits_small {z : Int} (h0 : 0 ≤ z) (h : nbits z ≤ 1) : z ≤ 1 := by
  rcases nbits_isBits z with ⟨h1, _⟩ | ⟨h1, h2, h3⟩
  · unfold ab at h1; omega
  · have h4 : (2 : Int) ^ nbits z ≤ 2 ^ 1 := two_pow_le h
    rw [ab_of h0] at h3
    omega
theorem nbits_big {z : Int} (h : 1 < nbits z) : 2 ≤ ab z := by
  rcases nbits_isBits z with ⟨h1, h2⟩ | ⟨h1, h2, h3⟩
  · omega
  · have h4 : (2 : Int) ^ 1 ≤ 2 ^ (nbits z - 1) := two_pow_le (by omega)
    omega
theorem neg_res {p z : Int} (h1 : 0 < z) (h2 : z < p) : (-z) % p = p - z := by
  have h : (-z + p) % p = p - z := by rw [Int.emod_eq_of_lt (by omega) (by omega)]; omega
  rwa [Int.add_emod_right] at h
theorem sq_zero {p : Nat} {x a : Int} (hx : (x * x) % p = a % p) : (x * x - a) % p = 0 := Int.emod_eq_zero_of_dvd (dvd_of_emod hx)
theorem root34 {p : Nat} (hp : Pr p) (h4 : p % 4 = 3) {r : Int} (hr : J r p = 1) : (powM r ((p : Int) / (4) + (1)) p * powM r ((p : Int) / (4) + (1)) p) % p = r % p := by
  have h0 : 0 ≤ (p : Int) / (4) + (1) := by omega
  unfold powM
  rw [if_pos h0, ← Int.mul_emod, ← Int.pow_add, show ((p : Int) / (4) + (1)).natAbs + ((p : Int) / (4) + (1)).natAbs = (p - 1) / 2 + 1 by omega, Int.pow_succ]
  have h1 := euler hp (by omega) r
  rw [hr] at h1
  have h2 : (r % (p : Int)) ^ ((p - 1) / 2) % p = 1 % p := (pow_congr (Int.emod_emod _ _) _).trans h1
  rw [mul_modm h2 (Int.emod_emod _ _), Int.one_mul]
/-- What is the case of a square root that is given, or of none. -/
def RootOk (p : Nat) (a z e : Int) : Prop := e = 0 ∧ 0 ≤ z ∧ z < p ∧ (z * z - a) % p = 0 ∧ ((-z) % p = 0 ∨ z ≤ (-z) % p) ∧ (p ≠ 2 → 0 ≤ kron a p) ∨ e = 6 ∧ p ≠ 2 ∧ kron a p < 0
theorem root_pr {p : Nat} (hp : Pr p) (hb : p ≤ 65537 ∨ p % 4 = 3) (hm : ab (p : Int) < pw 90) {a : Int} (ha : ab a < pw 90) :
    ∃ z e : Int, (∀ (w : World) (v v' : Value), Num w v a → Num w v' p → Tabs w → Calls Tryd.prog 26 #[v, v'] w fun e' w' => ∃ v', e' = .returned v' ∧ Below w.heap.size w w' ∧ Got w' v' z e) ∧ RootOk p a z e := by
  have h2 := hp.1
  have hr0 := Int.emod_nonneg a (show (p : Int) ≠ 0 by omega)
  have hr1 := Int.emod_lt_of_pos a (show (0 : Int) < p by omega)
  have e1 : (1 : Int) % p = 1 := Int.emod_eq_of_lt (by decide) (by omega)
  by_cases hn : nbits (a % p) ≤ 1
  · refine ⟨a % p, 0, fun w v v' h h' hT => exVRoot h h' fun _ _ _ _ hx hx' => exMSqrtS hx hx' ha hm (by omega) hn, .inl ⟨rfl, hr0, hr1, ?_, ?_, fun h => ?_⟩⟩
    · refine sq_zero ?_
      have h3 := nbits_small hr0 hn
      rcases show a % p = 0 ∨ a % p = 1 by omega with h | h <;> rw [h]
      · rfl
      · exact e1
    · have h3 := nbits_small hr0 hn
      rcases show a % p = 0 ∨ a % p = 1 by omega with h | h <;> rw [h]
      · left; rfl
      · right; rw [neg_res (by decide) (by omega)]; omega
    · rw [kron_pr (pr_odd hp h), ← J_mod]
      have h3 := nbits_small hr0 hn
      rcases show a % p = 0 ∨ a % p = 1 by omega with h | h <;> rw [h]
      · rw [J_not (hp.not_cop (by simp))]; exact Int.le_refl _
      · rw [J_one]; decide
  · have h3 := nbits_big (show 1 < nbits (a % p) by omega)
    rw [ab_of hr0] at h3
    have ho : p % 2 = 1 := pr_odd hp (by omega)
    have hk : kron (a % p) p = J a p := by rw [kron_pr ho, J_mod]
    have hka : kron a p = J a p := kron_pr ho a
    have hc : Int.gcd a p = 1 := hp.cop (by omega)
    by_cases hj : J a p = 1
    · have key : ∃ x : Int, 0 ≤ x ∧ x < p ∧ (x * x) % p = a % p ∧ ∀ (w : World) (y y' : Value), Num w y (a % p) → Num w y' p → Tabs w → Calls Tryd.prog 77 #[y, y'] w fun e w' => ∃ v', e = .returned v' ∧ Below w.heap.size w w' ∧ Num w' v' x := by
        have hjr : J (a % p) p = 1 := by rw [J_mod]; exact hj
        have hrm : ab (a % p) < pw 90 := ab_modB (by omega) hm
        by_cases h4 : p % 4 = 1
        · obtain ⟨x, x0, x1, x2, x3⟩ := lucasRoot_ex hp h4 (by omega) ⟨hr0, hr1⟩ hjr
          refine ⟨x, x0, x1, by rw [x2, Int.emod_emod], fun w y y' g g' hT => exSomeRoot1 g g' hrm hm (by omega) (decide_eq_true (by omega)) fun _ _ _ w1 hb1 k1 k2 k3 => x3 w1 _ _ _ k1 k2 k3 (hT.mono hb1)⟩
        · have h43 : p % 4 = 3 := by omega
          refine ⟨powM (a % p) (((p : Int) / (4)) + (1)) p, Int.emod_nonneg _ (by omega), Int.emod_lt_of_pos _ (by omega), by rw [root34 hp h43 hjr, Int.emod_emod], fun w y y' g g' hT => exSomeRoot3 g g' hrm hm (by omega) (decide_eq_false (by omega))⟩
      obtain ⟨x, x0, x1, x2, x3⟩ := key
      have xp : 0 < x := by
        rcases Int.lt_or_le 0 x with h | h
        · exact h
        · rw [show x = 0 by omega] at x2; simp at x2; omega
      have hx90 : ab x < pw 90 := by unfold ab at *; omega
      by_cases hl : (p : Int) - x < x
      · refine ⟨p - x, 0, fun w v v' h h' hT => exVRoot h h' fun y y' w1 hb1 hx hx' => exMSqrtXL hx hx' ha hm (hT.mono hb1) (by omega) (by omega) (hk.trans hj) hx90 (fun u u' w2 hb2 g g' => x3 w2 u u' g g' ((hT.mono hb1).mono hb2)) x2 hl, .inl ⟨rfl, by omega, by omega, ?_, .inr ?_, fun _ => by rw [hka, hj]; decide⟩⟩
        · refine sq_zero ?_
          rw [← x2]
          refine emod_of_dvd ⟨p - 2 * x, ?_⟩
          rw [Int.sub_mul, Int.mul_sub, Int.mul_sub, Int.mul_sub, Int.mul_comm x p, Int.two_mul x, Int.mul_add]
          omega
        · rw [neg_res (by omega) (by omega)]; omega
      · refine ⟨x, 0, fun w v v' h h' hT => exVRoot h h' fun y y' w1 hb1 hx hx' => exMSqrtXG hx hx' ha hm (hT.mono hb1) (by omega) (by omega) (hk.trans hj) hx90 (fun u u' w2 hb2 g g' => x3 w2 u u' g g' ((hT.mono hb1).mono hb2)) x2 (by omega), .inl ⟨rfl, x0, x1, sq_zero x2, .inr ?_, fun _ => by rw [hka, hj]; decide⟩⟩
        rw [neg_res xp x1]; omega
    · refine ⟨0, 6, fun w v v' h h' hT => exVRoot h h' fun y y' w1 hb1 hx hx' => exMSqrtN hx hx' ha hm (hT.mono hb1) (by omega) (by omega) (by rw [hk]; exact hj), .inr ⟨rfl, by omega, ?_⟩⟩
      rw [hka]
      rcases J_or hc with h | h
      · exact absurd h hj
      · rw [h]; decide
theorem two127 : ((2 : Int) ^ 127) - (1) = (M127 : Int) := by decide
theorem pow2_ab : ∀ j : Nat, j ≤ 255 → ab ((2 : Int) ^ j) < pw 8 := fun j hj => by
  have h := two_pow_le (show j ≤ 255 by omega)
  have h1 : ((2 : Int) ^ 255) < pw 8 := by decide +kernel
  have h2 : 0 ≤ (2 : Int) ^ j := Int.pow_nonneg (by decide)
  rw [ab_of h2]
  omega
theorem m127_ab : ab (M127 : Int) < pw 90 := Int.lt_of_lt_of_le (show ab (M127 : Int) < pw 5 by decide +kernel) (pw_le (by omega))
theorem m127_43 : M127 % 4 = 3 := by decide +kernel
theorem ld_ints {us : List Value} {w : World} {zs : List Int} {i : Nat} {z : Int} (hz : zs[i]? = some z) (h : (Fq.ints zs).P (.agg us.toArray) w) : Num w (.agg #[us.getD (i * 2) undef, us.getD (i * 2 + 1) undef]) z := by
  obtain ⟨us2, e, _, h⟩ := h
  injection e with e
  have e2 := congrArg Array.toList e
  simp at e2
  subst e2
  obtain ⟨n, ao, k, c, g1, g2, g3⟩ := h i z hz
  rw [g1, g2]
  exact g3
theorem measR {i : Nat} (h : i < 2) : 2 - (intOf (.int .i64 ((i : Int) + 1))).toNat < 2 - (intOf (.int .i64 (i : Int))).toNat := by simp [intOf]; omega
theorem m127_two : 1 < M127 := m127_gt
theorem off_i {i : Nat} (h : i < 2) : i * 2 + 2 ≤ 4 := by omega
set_option maxRecDepth 100000 in
set_option maxHeartbeats 4000000 in
theorem ModularRoots_any (w : World) (hT : Tabs w) (n1 : Bool) (a1 : Option Addr) (k1 c1 : Nat) (xs1 : List Int) (h1 : Sl w a1 k1 c1 xs1) (hk1 : k1 ≤ 9223372036854775807) (n : Int) (hln : 0 ≤ n) (hhn : n ≤ 65535) :
    Calls Tryd.prog 6 #[.agg #[.bool n1, .slice a1 k1 c1], .int .u16 n] w fun e w' => e = .returned (.bool true) ∧ Below w.heap.size w w' := by
  replace hT := hidd hT
  obtain ⟨a, ha⟩ : ∃ a, a = sgn n1 (val (xs1.take 5)) := ⟨_, rfl⟩
  have Ba : Hid (ab a < pw 5) := by rw [ha]; exact Num.ofMade h1.digs
  have Ha := hidd ha
  have K1 := hidd hk1
  clear ha hk1
  obtain ⟨w1, b1, hw1, hb1, hs1, E⟩ := fr_start w (F := Fq.raw n1 a1 k1 c1 xs1) (us := [.bool n1, .slice a1 k1 c1]) 24 rfl (by simp) (tame_int _ _ _ _) (show (Fq.raw n1 a1 k1 c1 xs1).P _ w from ⟨rfl, h1⟩)
  go_enter Tryd.func6, Tryd.ntmps6
  go_upto_region 1 with (fail)
  rw [← hw1]
  rw [← hb1]
  clear hw1 hb1 hs1
  obtain ⟨p, hp, hn, hb, hl⟩ := lp_ex (65537 - n.toNat) n.toNat (by omega)
  have HN := hidd (show 0 ≤ n ∧ n ≤ 65535 from ⟨hln, hhn⟩)
  obtain ⟨P, hP⟩ : ∃ P, P = (p : Int) := ⟨_, rfl⟩
  obtain ⟨G, hG⟩ : ∃ G, G = (M127 : Int) := ⟨_, rfl⟩
  obtain ⟨D, hD⟩ : ∃ D, D = (2 : Int) ^ 127 := ⟨_, rfl⟩
  have RP : Hid (2 ≤ P ∧ P ≤ 65537) := by have := hp.1; show _ ∧ _; omega
  have BP : Hid (ab P < pw 3) := small3 (by have := RP.out; omega)
  have BG : Hid (ab G < pw 90) := by show _ < _; rw [hG]; exact m127_ab
  have BD : Hid (ab D < pw 8) := by show _ < _; rw [hD]; exact pow2_ab 127 (by omega)
  have HGD : Hid (D - (1) = G) := by show _ = _; rw [hD, hG]; exact two127
  have HR1 := hidd (root_pr hp (.inl hb) (by rw [← hP]; exact Int.lt_of_lt_of_le BP.out (pw_le (by omega))) (a := a) (Int.lt_of_lt_of_le Ba.out (pw_le (by omega))))
  have HR2 := hidd (root_pr m127_prime (.inr m127_43) m127_ab (a := a) (Int.lt_of_lt_of_le Ba.out (pw_le (by omega))))
  have HP := hidd hp
  have HPN := hidd hn
  have HPB := hidd hb
  have HPL := hidd hl
  have EP := hidd hP
  have EG := hidd hG
  have ED := hidd hD
  clear hln hhn hp hn hb hl hP hG hD
  refine region_fr (C := [Fq.is (.bool true), Fq.is (.bool true)]) (ks := [none]) (new := []) E rfl (by kernel_rfl) rfl rfl (fun hp => ⟨?_, ?_, trivial⟩) ?_
  · exact q_call0W hp (free_of rfl) trivial (enq_V_examples) rfl (fun w hbw => exVExamples (hT.out.mono hbw))
  · exact q_assign hp (free_of rfl) trivial (sq_in 0 rfl rfl (by simp) rfl (fun v w h => h))
  intro L vs w2 nb hL hC hn E2
  have e0 : vs 0 = .bool true := hC 0 (by simp)
  have e1 : vs 1 = .bool true := hC 1 (by simp)
  have E : Fr w [(b1, 2, Fq.raw n1 a1 k1 c1 xs1)] w2 := E2
  rw [lay_all hL]
  simp only [putAll, dstOf, List.length_cons, List.length_nil, Nat.zero_add, Nat.reduceAdd, List.getElem?_toArray, List.getElem?_cons_zero, List.getElem?_cons_succ, Option.bind_some, Act.put, List.setIfInBounds_toArray, List.set_cons_succ, List.set_cons_zero]
  rw [e0, e1]
  clear e0 e1 hC hn E2 hL vs L nb
  go_upto_region 2 with (fail)
  refine region_fr (C := [Fq.is (.bool true), Fq.is (.bool false)]) (ks := [none]) (new := []) E rfl (by kernel_rfl) rfl rfl (fun hp => ⟨?_, ?_, trivial⟩) ?_
  · exact q_move hp (free_of rfl) trivial (sq_out (s := 5) rfl rfl (fun _ _ => rfl))
  · exact q_one (F := fun v _ => v = .bool true) hp (free_of rfl) trivial (sq_in 0 rfl rfl (by simp) rfl (fun v w h => h)) (fun ρ w _ h => ⟨.bool false, by simp [execOp, go_sem, h], rfl⟩)
  intro L vs w3 nb hL hC hn E3
  have e0 : vs 0 = .bool true := hC 0 (by simp)
  have e1 : vs 1 = .bool false := hC 1 (by simp)
  have E : Fr w [(b1, 2, Fq.raw n1 a1 k1 c1 xs1)] w3 := E3
  rw [lay_all hL]
  simp only [putAll, dstOf, List.length_cons, List.length_nil, Nat.zero_add, Nat.reduceAdd, List.getElem?_toArray, List.getElem?_cons_zero, List.getElem?_cons_succ, Option.bind_some, Act.put, List.setIfInBounds_toArray, List.set_cons_succ, List.set_cons_zero]
  rw [e0, e1]
  clear e0 e1 hC hn E3 hL vs L nb
  go_upto_region 4 with (fail)
  have B4 : Hid (ab ((2)) < pw 3) := ab_lit (by decide)
  have B5 : Hid (ab ((1)) < pw 3) := ab_lit (by decide)
  refine region_fr (C := [Fq.num (2), Fq.num D, Fq.num (1), Fq.num G, Fq.any, Fq.any]) (ks := [none]) (new := [⟨4, 5, 2, Fq.num 0, Fq.num G, none⟩]) E rfl (by kernel_rfl) rfl rfl (fun hp => ⟨?_, ?_, ?_, ?_, ?_, ?_, trivial⟩) ?_
  · exact q_call1 (F := (Fq.is (.int .i64 2)).P) hp (free_of rfl) trivial (enq_V_of) (sq_const (fun _ => rfl)) (fun v w h => (by subst h; exact exVOf (by omega)))
  · exact q_call2 (F := (Fq.num (2)).P) (G := (Fq.is (.int .i64 127)).P) hp (free_of rfl) trivial (enq_R_Power) (sq_in 0 rfl rfl (by simp) rfl (fun v w h => h)) (sq_const (fun _ => rfl)) (fun v v' w h h' => (by subst h'; rw [ED.out]; exact exK (RPowerV h 127 (by omega) (M := 8) (fun j hj => pow2_ab j (by omega)) (by omega)) (pow2_ab 127 (by omega)) (by omega)))
  · exact q_call1 (F := (Fq.is (.int .i64 1)).P) hp (free_of rfl) trivial (enq_V_of) (sq_const (fun _ => rfl)) (fun v w h => (by subst h; exact exVOf (by omega)))
  · exact q_call2 (F := (Fq.num D).P) (G := (Fq.num (1)).P) hp (free_of rfl) trivial (enq_Sub) (sq_in 1 rfl rfl (by simp) rfl (fun v w h => h)) (sq_in 2 rfl rfl (by simp) rfl (fun v w h => h)) (fun v v' w h h' => exK (by rw [← HGD.out]; exact SubV h h') BG.out (by omega))
  · exact q_allocInt hp (List.mem_iff_getElem?.2 ⟨0, rfl⟩) rfl rfl rfl rfl (Nat.ne_of_beq_eq_false rfl) (fun _ _ => trivial) (old_ne rfl) (newk_ne rfl) (fun w => Num.zero w)
  · exact q_storeNewInt hp (List.mem_iff_getElem?.2 ⟨0, rfl⟩) rfl rfl rfl (own_ptr rfl rfl (by simp) rfl) (sq_in 3 rfl rfl (by simp) rfl (fun v w h => intV_num h)) (fun _ _ => trivial) (old_ne rfl) (newi_ne rfl)
  intro L vs w6 nb hL hC hn E6
  have e4 : vs 4 = .pointer (some ⟨nb 4, 0, none⟩) := hn _ (List.mem_iff_getElem?.2 ⟨0, rfl⟩)
  have E : Fr w [(nb 4, 2, Fq.num G), (b1, 2, Fq.raw n1 a1 k1 c1 xs1)] w6 := E6
  rw [lay_all hL]
  simp only [putAll, dstOf, List.length_cons, List.length_nil, Nat.zero_add, Nat.reduceAdd, List.getElem?_toArray, List.getElem?_cons_zero, List.getElem?_cons_succ, Option.bind_some, Act.put, List.setIfInBounds_toArray, List.set_cons_succ, List.set_cons_zero]
  rw [e4]
  generalize nb 4 = b6_4 at E ⊢
  generalize vs 0 = u6_0
  generalize vs 1 = u6_1
  generalize vs 2 = u6_2
  generalize vs 3 = u6_3
  clear e4 hC hn E6 hL vs L nb
  go_upto_region 5 with (fail)
  refine region_frS (same := [(5, 4)]) (C := [Fq.is (.int .u16 n), Fq.is (.int .i64 P), Fq.num P, Fq.num G, Fq.any, Fq.any]) (ks := [none, none]) (new := [⟨4, 4, 4, Fq.ints [P, G], Fq.ints [P, G], (some 2)⟩]) E rfl (by kernel_rfl) rfl rfl (fun hp => ⟨?_, ?_, ?_, ?_, ?_, ?_, trivial⟩) ?_
  · exact stepS_of (q_move hp (free_of rfl) trivial (sq_out (s := 1) rfl rfl (fun _ _ => rfl))) rfl
  · exact stepS_of (q_call1 (F := (Fq.is (.int .u16 n)).P) hp (free_of rfl) trivial (enq_U_Prime) (sq_in 0 rfl rfl (by simp) rfl (fun v w h => h)) (fun v w h => (by subst h; rw [EP.out]; exact exPrime w HN.out.1 HN.out.2 HP.out HPN.out HPB.out HPL.out))) rfl
  · exact stepS_of (q_call1 (F := (Fq.is (.int .i64 P)).P) hp (free_of rfl) trivial (enq_V_of) (sq_in 1 rfl rfl (by simp) rfl (fun v w h => h)) (fun v w h => (by subst h; exact exVOf (by have := RP.out; omega)))) rfl
  · exact stepS_of (q_loadInt (off := 0) hp (free_of rfl) trivial (List.mem_iff_getElem?.2 ⟨0, rfl⟩) (.inl rfl) (Nat.le_of_ble_eq_true rfl) (sq_out (s := 6) rfl rfl (fun _ _ => rfl)) (fun us w hl h => ld_num hl h)) rfl
  · exact stepS_of (q_buildInts2 hp trivial (List.mem_iff_getElem?.2 ⟨0, rfl⟩) rfl rfl rfl rfl rfl (sq_in 2 rfl rfl (by simp) rfl (fun v w h => h)) (sq_in 3 rfl rfl (by simp) rfl (fun v w h => h)) (fun _ _ => trivial) (old_ne rfl) (newks_ne rfl)) rfl
  · exact stepS_assign hp (free_of rfl) rfl (j := 4) rfl (by simp) rfl (fun _ _ => trivial) rfl (Nat.ne_of_beq_eq_false rfl)
  intro L vs w7 nb hsm hL hC hn E7
  have e0 : vs 0 = .int .u16 n := hC 0 (by simp)
  have e1 : vs 1 = .int .i64 P := hC 1 (by simp)
  have e4 : vs 4 = .slice (some ⟨nb 4, 0, none⟩) 2 2 := hn _ (List.mem_iff_getElem?.2 ⟨0, rfl⟩)
  have e5 : vs 5 = .slice (some ⟨nb 4, 0, none⟩) 2 2 := (hsm (5, 4) (by simp) (Nat.lt_of_sub_eq_succ rfl)).trans e4
  have E : Fr w [(nb 4, 4, Fq.ints [P, G]), (b6_4, 2, Fq.num G), (b1, 2, Fq.raw n1 a1 k1 c1 xs1)] w7 := E7
  rw [lay_all hL]
  simp only [putAll, dstOf, List.length_cons, List.length_nil, Nat.zero_add, Nat.reduceAdd, List.getElem?_toArray, List.getElem?_cons_zero, List.getElem?_cons_succ, Option.bind_some, Act.put, List.setIfInBounds_toArray, List.set_cons_succ, List.set_cons_zero]
  rw [e0, e1, e4, e5]
  generalize nb 4 = b7_4 at E ⊢
  generalize vs 2 = u7_2
  generalize vs 3 = u7_3
  clear e0 e1 e4 e5 hsm hC hn E7 hL vs L nb
  go_upto_region 6 with (fail)
  refine region_fr (C := [Fq.raw n1 a1 k1 c1 xs1, Fq.num a, Fq.any, Fq.any]) (ks := [none, none, none]) (new := [⟨2, 3, 2, Fq.num 0, Fq.num a, none⟩]) E rfl (by kernel_rfl) rfl rfl (fun hp => ⟨?_, ?_, ?_, ?_, trivial⟩) ?_
  · exact q_loadRaw (off := 0) hp (free_of rfl) trivial (List.mem_iff_getElem?.2 ⟨2, rfl⟩) (.inl rfl) (Nat.le_of_ble_eq_true rfl) (sq_out (s := 2) rfl rfl (fun _ _ => rfl)) (fun us w hl h => ld_raw hl h)
  · exact q_call2 (F := (Fq.raw n1 a1 k1 c1 xs1).P) (G := (Fq.is (.int .i64 5)).P) hp (free_of rfl) trivial (enq_R_Made) (sq_in 0 rfl rfl (by simp) rfl (fun v w h => h)) (sq_const (fun _ => rfl)) (fun v v' w h h' => (by rw [Ha.out]; exact exRMade (j := 5) h h' K1.out (by omega)))
  · exact q_allocInt hp (List.mem_iff_getElem?.2 ⟨0, rfl⟩) rfl rfl rfl rfl (Nat.ne_of_beq_eq_false rfl) (fun _ _ => trivial) (old_ne rfl) (newk_ne rfl) (fun w => Num.zero w)
  · exact q_storeNewInt hp (List.mem_iff_getElem?.2 ⟨0, rfl⟩) rfl rfl rfl (own_ptr rfl rfl (by simp) rfl) (sq_in 1 rfl rfl (by simp) rfl (fun v w h => intV_num h)) (fun _ _ => trivial) (old_ne rfl) (newi_ne rfl)
  intro L vs w8 nb hL hC hn E8
  have e2 : vs 2 = .pointer (some ⟨nb 2, 0, none⟩) := hn _ (List.mem_iff_getElem?.2 ⟨0, rfl⟩)
  have E : Fr w [(nb 2, 2, Fq.num a), (b7_4, 4, Fq.ints [P, G]), (b6_4, 2, Fq.num G), (b1, 2, Fq.raw n1 a1 k1 c1 xs1)] w8 := E8
  rw [lay_all hL]
  simp only [putAll, dstOf, List.length_cons, List.length_nil, Nat.zero_add, Nat.reduceAdd, List.getElem?_toArray, List.getElem?_cons_zero, List.getElem?_cons_succ, Option.bind_some, Act.put, List.setIfInBounds_toArray, List.set_cons_succ, List.set_cons_zero]
  rw [e2]
  generalize nb 2 = b8_2 at E ⊢
  generalize vs 0 = u8_0
  generalize vs 1 = u8_1
  clear e2 hC hn E8 hL vs L nb
  clear HN HPN HPB HPL HGD ED
  have HS := hidd E
  clear E
  go_upto_region 8 with (fail)
  go_loopw [9] (fun vi W => ∃ i : Nat, vi = .int .i64 (i : Int) ∧ i ≤ 2 ∧ Fr w [(b8_2, 2, Fq.num a), (b7_4, 4, Fq.ints [P, G]), (b6_4, 2, Fq.num G), (b1, 2, Fq.raw n1 a1 k1 c1 xs1)] W) (fun vi _ => 2 - (intOf vi).toNat)
  case atStart => exact ⟨0, rfl, by omega, HS.out⟩
  case round =>
    obtain ⟨i, rfl, hi2, E⟩ := hrel
    clear HS
    by_cases hlt : i < 2
    · have T1 : Hid ((i : Int) < 2) := by show _ < _; omega
      have HI := hidd hlt
      obtain ⟨q, Q, z, e, hQ, hqi, hqp, hq90, hrt, hok⟩ : ∃ (q : Nat) (Q z e : Int), Q = (q : Int) ∧ [P, G][i]? = some Q ∧ 2 ≤ q ∧ ab Q < pw 90 ∧ (∀ (w : World) (v v' : Value), Num w v a → Num w v' Q → Tabs w → Calls Tryd.prog 26 #[v, v'] w fun e' w' => ∃ v', e' = .returned v' ∧ Below w.heap.size w w' ∧ Got w' v' z e) ∧ RootOk q a z e := by
        rcases show i = 0 ∨ i = 1 by omega with rfl | rfl
        · obtain ⟨z, e, h1, h2⟩ := HR1.out
          exact ⟨p, P, z, e, EP.out, rfl, HP.out.1, Int.lt_of_lt_of_le BP.out (pw_le (by omega)), by rw [EP.out]; exact h1, h2⟩
        · obtain ⟨z, e, h1, h2⟩ := HR2.out
          exact ⟨M127, G, z, e, EG.out, rfl, m127_two, BG.out, by rw [EG.out]; exact h1, h2⟩
      have HQI := hidd hqi
      have HRT := hidd hrt
      have BQ : Hid (ab Q < pw 90) := hq90
      have hw : Hid (wrap64 ((i : Int) + 1) = (i : Int) + 1) := by show _ = _; have := HI.out; simp only [wrap64]; omega
      clear hqi hrt hq90 hlt hi2
      go_upto_region 8 with (fail)
      refine region_fr (C := [Fq.is (.int .i64 (i : Int)), Fq.is (.bool true)]) (ks := [none, none, none, none]) (new := []) E rfl (by kernel_rfl) rfl rfl (fun hp => ⟨?_, ?_, trivial⟩) ?_
      · exact q_move hp (free_of rfl) trivial (sq_out (s := 9) rfl rfl (fun _ _ => rfl))
      · exact q_one (F := fun v _ => v = .int .i64 (i : Int)) hp (free_of rfl) trivial (sq_in 0 rfl rfl (by simp) rfl (fun v w h => h)) (fun ρ w hc h => ⟨.bool true, by simp [execOp, go_sem, h, hc, T1.out], rfl⟩)
      intro L vs w9 nb hL hC hn E9
      have e0 : vs 0 = .int .i64 (i : Int) := hC 0 (by simp)
      have e1 : vs 1 = .bool true := hC 1 (by simp)
      have E : Fr w [(b8_2, 2, Fq.num a), (b7_4, 4, Fq.ints [P, G]), (b6_4, 2, Fq.num G), (b1, 2, Fq.raw n1 a1 k1 c1 xs1)] w9 := E9
      rw [lay_all hL]
      simp only [putAll, dstOf, List.length_cons, List.length_nil, Nat.zero_add, Nat.reduceAdd, List.getElem?_toArray, List.getElem?_cons_zero, List.getElem?_cons_succ, Option.bind_some, Act.put, List.setIfInBounds_toArray, List.set_cons_succ, List.set_cons_zero]
      rw [e0, e1]
      clear e0 e1 hC hn E9 hL vs L nb
      clear T1
      go_upto_region 10 with (fail)
      refine region_fr (C := [Fq.is (.slice (some ⟨b7_4, 0, none⟩) 2 2), Fq.is (.int .i64 (i : Int)), Fq.is (.pointer (some ⟨b7_4, i * 2, none⟩)), Fq.num Q, Fq.any, Fq.any]) (ks := [none, none, none, none]) (new := [⟨4, 5, 2, Fq.num 0, Fq.num Q, none⟩]) E rfl (by kernel_rfl) rfl rfl (fun hp => ⟨?_, ?_, ?_, ?_, ?_, ?_, trivial⟩) ?_
      · exact q_move hp (free_of rfl) trivial (sq_out (s := 7) rfl rfl (fun _ _ => rfl))
      · exact q_move hp (free_of rfl) trivial (sq_out (s := 9) rfl rfl (fun _ _ => rfl))
      · exact q_indexN (b := b7_4) (l := 2) (c := 2) (k := i) hp (free_of rfl) trivial (sq_in 0 rfl rfl (by simp) rfl (fun v w h => h)) (sq_in 1 rfl rfl (by simp) rfl (fun v w h => h)) HI.out (fun _ => rfl)
      · exact q_loadInt (off := i * 2) hp (free_of rfl) trivial (List.mem_iff_getElem?.2 ⟨1, rfl⟩) (.inl rfl) (off_i HI.out) (sq_in 2 rfl rfl (by simp) rfl (fun v w h => h)) (fun us w hl h => ld_ints HQI.out h)
      · exact q_allocInt hp (List.mem_iff_getElem?.2 ⟨0, rfl⟩) rfl rfl rfl rfl (Nat.ne_of_beq_eq_false rfl) (fun _ _ => trivial) (old_ne rfl) (newk_ne rfl) (fun w => Num.zero w)
      · exact q_storeNewInt hp (List.mem_iff_getElem?.2 ⟨0, rfl⟩) rfl rfl rfl (own_ptr rfl rfl (by simp) rfl) (sq_in 3 rfl rfl (by simp) rfl (fun v w h => intV_num h)) (fun _ _ => trivial) (old_ne rfl) (newi_ne rfl)
      intro L vs w10 nb hL hC hn E10
      have e0 : vs 0 = .slice (some ⟨b7_4, 0, none⟩) 2 2 := hC 0 (by simp)
      have e1 : vs 1 = .int .i64 (i : Int) := hC 1 (by simp)
      have e2 : vs 2 = .pointer (some ⟨b7_4, i * 2, none⟩) := hC 2 (by simp)
      have e4 : vs 4 = .pointer (some ⟨nb 4, 0, none⟩) := hn _ (List.mem_iff_getElem?.2 ⟨0, rfl⟩)
      have E : Fr w [(nb 4, 2, Fq.num Q), (b8_2, 2, Fq.num a), (b7_4, 4, Fq.ints [P, G]), (b6_4, 2, Fq.num G), (b1, 2, Fq.raw n1 a1 k1 c1 xs1)] w10 := E10
      rw [lay_all hL]
      simp only [putAll, dstOf, List.length_cons, List.length_nil, Nat.zero_add, Nat.reduceAdd, List.getElem?_toArray, List.getElem?_cons_zero, List.getElem?_cons_succ, Option.bind_some, Act.put, List.setIfInBounds_toArray, List.set_cons_succ, List.set_cons_zero]
      rw [e0, e1, e2, e4]
      generalize nb 4 = b10_4 at E ⊢
      generalize vs 3 = u10_3
      clear e0 e1 e2 e4 hC hn E10 hL vs L nb
      rcases hok with hyes | hno
      · by_cases hq2 : q = 2
        · obtain ⟨rfl, hz0, hz1, hz2, hz3, hz4⟩ := hyes
          have Bz : Hid (ab z < pw 90) := by show _ < _; have := BQ.out; unfold ab at *; omega
          have NQ : Hid (Q ≠ 0) := by show _ ≠ _; omega
          have PQ : Hid (0 < Q) := by show _ < _; omega
          rw [← hQ] at hz1 hz2 hz3 hz4
          have U1 : Hid (cmpI (((z * z) - a) % Q) 0 = 0) := cmpIq0.2 hz2
          have U2 : Hid (¬ cmpI z 0 < 0) := fun h => by have := cmpIqlt.1 h; omega
          have U3 : Hid (¬ 0 ≤ cmpI z Q) := fun h => by have := cmpIqlt.2 hz1; omega
          have T2 : Hid (cmpI Q (2) = 0) := by show _ = _; rw [cmpI_eq0]; omega
          have HZ3 := hidd hz3
          clear hz0 hz1 hz2 hz3 hz4 hQ hqp hq2
          go_upto_region 11 with (fail)
          refine region_fr (C := [Fq.num a, Fq.num Q, Fq.got z 0, Fq.any, Fq.any]) (ks := [none, none, none, none, none]) (new := [⟨3, 4, 3, Fq.got 0 0, Fq.got z 0, none⟩]) E rfl (by kernel_rfl) rfl rfl (fun hp => ⟨?_, ?_, ?_, ?_, ?_, trivial⟩) ?_
          · exact q_loadInt (off := 0) hp (free_of rfl) trivial (List.mem_iff_getElem?.2 ⟨1, rfl⟩) (.inl rfl) (Nat.le_of_ble_eq_true rfl) (sq_out (s := 8) rfl rfl (fun _ _ => rfl)) (fun us w hl h => ld_num hl h)
          · exact q_loadInt (off := 0) hp (free_of rfl) trivial (List.mem_iff_getElem?.2 ⟨0, rfl⟩) (.inl rfl) (Nat.le_of_ble_eq_true rfl) (sq_out (s := 10) rfl rfl (fun _ _ => rfl)) (fun us w hl h => ld_num hl h)
          · exact q_call2W (F := (Fq.num a).P) (G := (Fq.num Q).P) hp (free_of rfl) trivial (enq_V_root) rfl (sq_in 0 rfl rfl (by simp) rfl (fun v w h => h)) (sq_in 1 rfl rfl (by simp) rfl (fun v w h => h)) (fun v v' w hbw h h' => HRT.out _ _ _ h h' (hT.out.mono hbw))
          · exact q_allocGot hp (List.mem_iff_getElem?.2 ⟨0, rfl⟩) rfl rfl rfl rfl (Nat.ne_of_beq_eq_false rfl) (fun _ _ => trivial) (old_ne rfl) (newk_ne rfl) (fun w => Got.zero w)
          · exact q_storeNewGot hp (List.mem_iff_getElem?.2 ⟨0, rfl⟩) rfl rfl rfl (own_ptr rfl rfl (by simp) rfl) (sq_in 2 rfl rfl (by simp) rfl (fun v w h => h.partsV)) (fun _ _ => trivial) (old_ne rfl) (newi_ne rfl)
          intro L vs w11 nb hL hC hn E11
          have e3 : vs 3 = .pointer (some ⟨nb 3, 0, none⟩) := hn _ (List.mem_iff_getElem?.2 ⟨0, rfl⟩)
          have E : Fr w [(nb 3, 3, Fq.got z 0), (b10_4, 2, Fq.num Q), (b8_2, 2, Fq.num a), (b7_4, 4, Fq.ints [P, G]), (b6_4, 2, Fq.num G), (b1, 2, Fq.raw n1 a1 k1 c1 xs1)] w11 := E11
          rw [lay_all hL]
          simp only [putAll, dstOf, List.length_cons, List.length_nil, Nat.zero_add, Nat.reduceAdd, List.getElem?_toArray, List.getElem?_cons_zero, List.getElem?_cons_succ, Option.bind_some, Act.put, List.setIfInBounds_toArray, List.set_cons_succ, List.set_cons_zero]
          rw [e3]
          generalize nb 3 = b11_3 at E ⊢
          generalize vs 0 = u11_0
          generalize vs 1 = u11_1
          generalize vs 2 = u11_2
          clear e3 hC hn E11 hL vs L nb
          clear HRT
          go_upto_region 12 with (fail)
          refine region_fr (C := [Fq.num Q, Fq.num (2), Fq.is (.int .i64 (cmpI Q (2))), Fq.is (.bool false), Fq.is (.bool false), Fq.is (undef), Fq.is (undef), Fq.is (undef), Fq.is (undef), Fq.is (undef), Fq.is (undef), Fq.is (undef), Fq.is (undef), Fq.is (.bool false), Fq.is (.bool false), Fq.is (.pointer (some ⟨b11_3, 2, none⟩)), Fq.is (.int .i64 0), Fq.is (.bool false), Fq.is (.bool false), Fq.is (undef), Fq.is (undef), Fq.is (undef), Fq.is (.bool false), Fq.is (.bool false)]) (ks := [none, none, none, none, none, none]) (new := []) E rfl (by kernel_rfl) rfl rfl (fun hp => ⟨?_, ?_, ?_, ?_, ?_, ?_, ?_, ?_, ?_, ?_, ?_, ?_, ?_, ?_, ?_, ?_, ?_, ?_, ?_, ?_, ?_, ?_, ?_, ?_, trivial⟩) ?_
          · exact q_loadInt (off := 0) hp (free_of rfl) trivial (List.mem_iff_getElem?.2 ⟨1, rfl⟩) (.inl rfl) (Nat.le_of_ble_eq_true rfl) (sq_out (s := 10) rfl rfl (fun _ _ => rfl)) (fun us w hl h => ld_num hl h)
          · exact q_call1 (F := (Fq.is (.int .i64 2)).P) hp (free_of rfl) trivial (enq_V_of) (sq_const (fun _ => rfl)) (fun v w h => (by subst h; exact exVOf (by omega)))
          · exact q_call2 (F := (Fq.num Q).P) (G := (Fq.num (2)).P) hp (free_of rfl) trivial (enq_Cmp) (sq_in 0 rfl rfl (by simp) rfl (fun v w h => h)) (sq_in 1 rfl rfl (by simp) rfl (fun v w h => h)) (fun v v' w h h' => exCmp h h')
          · exact q_one (F := fun v _ => v = .int .i64 (cmpI Q (2))) hp (free_of rfl) trivial (sq_in 2 rfl rfl (by simp) rfl (fun v w h => h)) (fun ρ w hc h => ⟨.bool false, by simp [execOp, go_sem, h, hc, T2.out], rfl⟩)
          · exact q_move hp (free_of rfl) trivial (sq_in 3 rfl rfl (by simp) rfl (fun v w h => h))
          · exact q_skip hp (free_of rfl) rfl (gq_some rfl rfl (by simp) rfl (fun v w h => h)) (fun _ => rfl)
          · exact q_skip hp (free_of rfl) rfl (gq_some rfl rfl (by simp) rfl (fun v w h => h)) (fun _ => rfl)
          · exact q_skip hp (free_of rfl) rfl (gq_some rfl rfl (by simp) rfl (fun v w h => h)) (fun _ => rfl)
          · exact q_skip hp (free_of rfl) rfl (gq_some rfl rfl (by simp) rfl (fun v w h => h)) (fun _ => rfl)
          · exact q_skip hp (free_of rfl) rfl (gq_some rfl rfl (by simp) rfl (fun v w h => h)) (fun _ => rfl)
          · exact q_skip hp (free_of rfl) rfl (gq_some rfl rfl (by simp) rfl (fun v w h => h)) (fun _ => rfl)
          · exact q_skip hp (free_of rfl) rfl (gq_some rfl rfl (by simp) rfl (fun v w h => h)) (fun _ => rfl)
          · exact q_skip hp (free_of rfl) rfl (gq_some rfl rfl (by simp) rfl (fun v w h => h)) (fun _ => rfl)
          · exact q_two (F := fun v _ => v = .bool false) (G := fun v _ => v = .bool false) hp (free_of rfl) trivial (sq_in 4 rfl rfl (by simp) rfl (fun v w h => h)) (sq_const (fun _ => rfl)) (fun ρ w hc h h' => ⟨_, by simp [execOp, go_sem, h, h'], rfl⟩)
          · exact q_move hp (free_of rfl) trivial (sq_in 13 rfl rfl (by simp) rfl (fun v w h => h))
          · exact q_addr (b := b11_3) (off := 0) (off' := 2) hp (free_of rfl) (gq_some rfl rfl (by simp) rfl (fun v w h => h)) (sq_out (s := 11) rfl rfl (fun _ _ => rfl)) (fun ρ w h => by simp [execOp, go_sem, h]) (fun _ => rfl)
          · exact q_loadErr (r := 0) hp (free_of rfl) (gq_some rfl rfl (by simp) rfl (fun v w h => h)) (List.mem_iff_getElem?.2 ⟨0, rfl⟩) (.inl rfl) rfl (sq_in 15 rfl rfl (by simp) rfl (fun v w h => h)) (fun us w hl h => ld_got2 hl h) (fun _ => rfl)
          · exact q_one (F := fun v _ => v = .int .i64 0) hp (free_of rfl) (gq_some rfl rfl (by simp) rfl (fun v w h => h)) (sq_in 16 rfl rfl (by simp) rfl (fun v w h => h)) (fun ρ w hc h => ⟨.bool false, by simp [execOp, go_sem, h, hc], rfl⟩)
          · exact q_move hp (free_of rfl) (gq_some rfl rfl (by simp) rfl (fun v w h => h)) (sq_in 17 rfl rfl (by simp) rfl (fun v w h => h))
          · exact q_skip hp (free_of rfl) rfl (gq_some rfl rfl (by simp) rfl (fun v w h => h)) (fun _ => rfl)
          · exact q_skip hp (free_of rfl) rfl (gq_some rfl rfl (by simp) rfl (fun v w h => h)) (fun _ => rfl)
          · exact q_skip hp (free_of rfl) rfl (gq_some rfl rfl (by simp) rfl (fun v w h => h)) (fun _ => rfl)
          · exact q_two (F := fun v _ => v = .bool false) (G := fun v _ => v = .bool false) hp (free_of rfl) (gq_some rfl rfl (by simp) rfl (fun v w h => h)) (sq_in 18 rfl rfl (by simp) rfl (fun v w h => h)) (sq_const (fun _ => rfl)) (fun ρ w hc h h' => ⟨_, by simp [execOp, go_sem, h, h'], rfl⟩)
          · exact q_two (F := fun v _ => v = .bool false) (G := fun v _ => v = .bool false) hp (free_of rfl) trivial (sq_in 14 rfl rfl (by simp) rfl (fun v w h => h)) (sq_in 22 rfl rfl (by simp) rfl (fun v w h => h)) (fun ρ w hc h h' => ⟨_, by simp [execOp, go_sem, h, h'], rfl⟩)
          intro L vs w12 nb hL hC hn E12
          have e2 : vs 2 = .int .i64 (cmpI Q (2)) := hC 2 (by simp)
          have e3 : vs 3 = .bool false := hC 3 (by simp)
          have e4 : vs 4 = .bool false := hC 4 (by simp)
          have e5 : vs 5 = undef := hC 5 (by simp)
          have e6 : vs 6 = undef := hC 6 (by simp)
          have e7 : vs 7 = undef := hC 7 (by simp)
          have e8 : vs 8 = undef := hC 8 (by simp)
          have e9 : vs 9 = undef := hC 9 (by simp)
          have e10 : vs 10 = undef := hC 10 (by simp)
          have e11 : vs 11 = undef := hC 11 (by simp)
          have e12 : vs 12 = undef := hC 12 (by simp)
          have e13 : vs 13 = .bool false := hC 13 (by simp)
          have e14 : vs 14 = .bool false := hC 14 (by simp)
          have e15 : vs 15 = .pointer (some ⟨b11_3, 2, none⟩) := hC 15 (by simp)
          have e16 : vs 16 = .int .i64 0 := hC 16 (by simp)
          have e17 : vs 17 = .bool false := hC 17 (by simp)
          have e18 : vs 18 = .bool false := hC 18 (by simp)
          have e19 : vs 19 = undef := hC 19 (by simp)
          have e20 : vs 20 = undef := hC 20 (by simp)
          have e21 : vs 21 = undef := hC 21 (by simp)
          have e22 : vs 22 = .bool false := hC 22 (by simp)
          have e23 : vs 23 = .bool false := hC 23 (by simp)
          have E : Fr w [(b11_3, 3, Fq.got z 0), (b10_4, 2, Fq.num Q), (b8_2, 2, Fq.num a), (b7_4, 4, Fq.ints [P, G]), (b6_4, 2, Fq.num G), (b1, 2, Fq.raw n1 a1 k1 c1 xs1)] w12 := E12
          rw [lay_all hL]
          simp only [putAll, dstOf, List.length_cons, List.length_nil, Nat.zero_add, Nat.reduceAdd, List.getElem?_toArray, List.getElem?_cons_zero, List.getElem?_cons_succ, Option.bind_some, Act.put, List.setIfInBounds_toArray, List.set_cons_succ, List.set_cons_zero]
          rw [e2, e3, e4, e5, e6, e7, e8, e9, e10, e11, e12, e13, e14, e15, e16, e17, e18, e19, e20, e21, e22, e23]
          generalize vs 0 = u12_0
          generalize vs 1 = u12_1
          clear e2 e3 e4 e5 e6 e7 e8 e9 e10 e11 e12 e13 e14 e15 e16 e17 e18 e19 e20 e21 e22 e23 hC hn E12 hL vs L nb
          clear T2
          go_upto_region 14 with (fail)
          refine region_fr (C := [Fq.is (.pointer (some ⟨b11_3, 2, none⟩)), Fq.is (.int .i64 0), Fq.is (.bool false)]) (ks := [none, none, none, none, none, none]) (new := []) E rfl (by kernel_rfl) rfl rfl (fun hp => ⟨?_, ?_, ?_, trivial⟩) ?_
          · exact q_addr (b := b11_3) (off := 0) (off' := 2) hp (free_of rfl) trivial (sq_out (s := 11) rfl rfl (fun _ _ => rfl)) (fun ρ w h => by simp [execOp, go_sem, h]) (fun _ => rfl)
          · exact q_loadErr (r := 0) hp (free_of rfl) trivial (List.mem_iff_getElem?.2 ⟨0, rfl⟩) (.inl rfl) rfl (sq_in 0 rfl rfl (by simp) rfl (fun v w h => h)) (fun us w hl h => ld_got2 hl h) (fun _ => rfl)
          · exact q_one (F := fun v _ => v = .int .i64 0) hp (free_of rfl) trivial (sq_in 1 rfl rfl (by simp) rfl (fun v w h => h)) (fun ρ w hc h => ⟨.bool false, by simp [execOp, go_sem, h, hc], rfl⟩)
          intro L vs w13 nb hL hC hn E13
          have e0 : vs 0 = .pointer (some ⟨b11_3, 2, none⟩) := hC 0 (by simp)
          have e1 : vs 1 = .int .i64 0 := hC 1 (by simp)
          have e2 : vs 2 = .bool false := hC 2 (by simp)
          have E : Fr w [(b11_3, 3, Fq.got z 0), (b10_4, 2, Fq.num Q), (b8_2, 2, Fq.num a), (b7_4, 4, Fq.ints [P, G]), (b6_4, 2, Fq.num G), (b1, 2, Fq.raw n1 a1 k1 c1 xs1)] w13 := E13
          rw [lay_all hL]
          simp only [putAll, dstOf, List.length_cons, List.length_nil, Nat.zero_add, Nat.reduceAdd, List.getElem?_toArray, List.getElem?_cons_zero, List.getElem?_cons_succ, Option.bind_some, Act.put, List.setIfInBounds_toArray, List.set_cons_succ, List.set_cons_zero]
          rw [e0, e1, e2]
          clear e0 e1 e2 hC hn E13 hL vs L nb
          go_upto_region 15 with (fail)
          have B14 : Hid (ab ((z * z)) < pw 180) := ab_mulM Bz.out Bz.out (by omega)
          have B15 : Hid (ab (((z * z) - a)) < pw 181) := ab_subB B14.out Ba.out (by omega) (by omega)
          have B16 : Hid (ab ((((z * z) - a) % Q)) < pw 90) := ab_modB NQ.out BQ.out
          refine region_fr (C := [Fq.is (.pointer (some ⟨b11_3, 0, none⟩)), Fq.num z, Fq.is (.pointer (some ⟨b11_3, 0, none⟩)), Fq.num z, Fq.num (z * z), Fq.num a, Fq.num ((z * z) - a), Fq.num Q, Fq.tup2 (Fq.num (((z * z) - a) % Q)) (Fq.is (.int .i64 0)), Fq.tup2 (Fq.num (((z * z) - a) % Q)) (Fq.is (.int .i64 0)), Fq.num (((z * z) - a) % Q), Fq.is (.int .i64 0), Fq.any, Fq.any, Fq.is (.int .i64 0)]) (ks := [none, none, none, none, none, none]) (new := [⟨12, 13, 2, Fq.num 0, Fq.num (((z * z) - a) % Q), none⟩]) E rfl (by kernel_rfl) rfl rfl (fun hp => ⟨?_, ?_, ?_, ?_, ?_, ?_, ?_, ?_, ?_, ?_, ?_, ?_, ?_, ?_, ?_, trivial⟩) ?_
          · exact q_addr (b := b11_3) (off := 0) (off' := 0) hp (free_of rfl) trivial (sq_out (s := 11) rfl rfl (fun _ _ => rfl)) (fun ρ w h => by simp [execOp, go_sem, h]) (fun _ => rfl)
          · exact q_loadInt (off := 0) hp (free_of rfl) trivial (List.mem_iff_getElem?.2 ⟨0, rfl⟩) (.inl rfl) (Nat.le_of_ble_eq_true rfl) (sq_in 0 rfl rfl (by simp) rfl (fun v w h => h)) (fun us w hl h => ld_got hl h)
          · exact q_addr (b := b11_3) (off := 0) (off' := 0) hp (free_of rfl) trivial (sq_out (s := 11) rfl rfl (fun _ _ => rfl)) (fun ρ w h => by simp [execOp, go_sem, h]) (fun _ => rfl)
          · exact q_loadInt (off := 0) hp (free_of rfl) trivial (List.mem_iff_getElem?.2 ⟨0, rfl⟩) (.inl rfl) (Nat.le_of_ble_eq_true rfl) (sq_in 2 rfl rfl (by simp) rfl (fun v w h => h)) (fun us w hl h => ld_got hl h)
          · exact q_call2 (F := (Fq.num z).P) (G := (Fq.num z).P) hp (free_of rfl) trivial (enq_Mul) (sq_in 1 rfl rfl (by simp) rfl (fun v w h => h)) (sq_in 3 rfl rfl (by simp) rfl (fun v w h => h)) (fun v v' w h h' => exK (MulV h h') B14.out (by omega))
          · exact q_loadInt (off := 0) hp (free_of rfl) trivial (List.mem_iff_getElem?.2 ⟨2, rfl⟩) (.inl rfl) (Nat.le_of_ble_eq_true rfl) (sq_out (s := 8) rfl rfl (fun _ _ => rfl)) (fun us w hl h => ld_num hl h)
          · exact q_call2 (F := (Fq.num (z * z)).P) (G := (Fq.num a).P) hp (free_of rfl) trivial (enq_Sub) (sq_in 4 rfl rfl (by simp) rfl (fun v w h => h)) (sq_in 5 rfl rfl (by simp) rfl (fun v w h => h)) (fun v v' w h h' => exK (SubV h h') B15.out (by omega))
          · exact q_loadInt (off := 0) hp (free_of rfl) trivial (List.mem_iff_getElem?.2 ⟨1, rfl⟩) (.inl rfl) (Nat.le_of_ble_eq_true rfl) (sq_out (s := 10) rfl rfl (fun _ _ => rfl)) (fun us w hl h => ld_num hl h)
          · exact q_call2 (F := (Fq.num ((z * z) - a)).P) (G := (Fq.num Q).P) hp (free_of rfl) trivial (enq_M_Mod) (sq_in 6 rfl rfl (by simp) rfl (fun v w h => h)) (sq_in 7 rfl rfl (by simp) rfl (fun v w h => h)) (fun v v' w h h' => exModP h h' (Int.lt_of_lt_of_le B15.out (pw_le (by omega))) (Int.lt_of_lt_of_le BQ.out (pw_le (by omega))) PQ.out)
          · exact q_move hp (free_of rfl) trivial (sq_in 8 rfl rfl (by simp) rfl (fun v w h => h))
          · exact q_extract2 hp (free_of rfl) trivial (sq_in 9 rfl rfl (by simp) rfl (fun v w h => h)) (fun v1 v2 w h1 h2 => ⟨_, rfl, h1⟩)
          · exact q_extract2 hp (free_of rfl) trivial (sq_in 9 rfl rfl (by simp) rfl (fun v w h => h)) (fun v1 v2 w h1 h2 => ⟨_, rfl, h2⟩)
          · exact q_allocInt hp (List.mem_iff_getElem?.2 ⟨0, rfl⟩) rfl rfl rfl rfl (Nat.ne_of_beq_eq_false rfl) (fun _ _ => trivial) (old_ne rfl) (newk_ne rfl) (fun w => Num.zero w)
          · exact q_storeNewInt hp (List.mem_iff_getElem?.2 ⟨0, rfl⟩) rfl rfl rfl (own_ptr rfl rfl (by simp) rfl) (sq_in 10 rfl rfl (by simp) rfl (fun v w h => intV_num h)) (fun _ _ => trivial) (old_ne rfl) (newi_ne rfl)
          · exact q_assign hp (free_of rfl) trivial (sq_in 11 rfl rfl (by simp) rfl (fun v w h => h))
          intro L vs w17 nb hL hC hn E17
          have e0 : vs 0 = .pointer (some ⟨b11_3, 0, none⟩) := hC 0 (by simp)
          have e2 : vs 2 = .pointer (some ⟨b11_3, 0, none⟩) := hC 2 (by simp)
          have e11 : vs 11 = .int .i64 0 := hC 11 (by simp)
          have e14 : vs 14 = .int .i64 0 := hC 14 (by simp)
          have e12 : vs 12 = .pointer (some ⟨nb 12, 0, none⟩) := hn _ (List.mem_iff_getElem?.2 ⟨0, rfl⟩)
          have E : Fr w [(nb 12, 2, Fq.num (((z * z) - a) % Q)), (b11_3, 3, Fq.got z 0), (b10_4, 2, Fq.num Q), (b8_2, 2, Fq.num a), (b7_4, 4, Fq.ints [P, G]), (b6_4, 2, Fq.num G), (b1, 2, Fq.raw n1 a1 k1 c1 xs1)] w17 := E17
          rw [lay_all hL]
          simp only [putAll, dstOf, List.length_cons, List.length_nil, Nat.zero_add, Nat.reduceAdd, List.getElem?_toArray, List.getElem?_cons_zero, List.getElem?_cons_succ, Option.bind_some, Act.put, List.setIfInBounds_toArray, List.set_cons_succ, List.set_cons_zero]
          rw [e0, e2, e11, e14, e12]
          generalize nb 12 = b17_12 at E ⊢
          generalize vs 1 = u17_1
          generalize vs 3 = u17_3
          generalize vs 4 = u17_4
          generalize vs 5 = u17_5
          generalize vs 6 = u17_6
          generalize vs 7 = u17_7
          generalize vs 8 = u17_8
          generalize vs 9 = u17_9
          generalize vs 10 = u17_10
          clear e0 e2 e11 e14 e12 hC hn E17 hL vs L nb
          go_upto_region 16 with (fail)
          have B18 : Hid (ab ((-z)) < pw 90) := ab_negB Bz.out
          have B19 : Hid (ab (((-z) % Q)) < pw 90) := ab_modB NQ.out BQ.out
          refine region_fr (C := [Fq.is (.pointer (some ⟨b11_3, 0, none⟩)), Fq.num z, Fq.num (-z), Fq.num Q, Fq.tup2 (Fq.num ((-z) % Q)) (Fq.is (.int .i64 0)), Fq.tup2 (Fq.num ((-z) % Q)) (Fq.is (.int .i64 0)), Fq.num ((-z) % Q), Fq.is (.int .i64 0), Fq.any, Fq.any, Fq.is (.int .i64 0)]) (ks := [none, none, none, none, none, none, none]) (new := [⟨8, 9, 2, Fq.num 0, Fq.num ((-z) % Q), none⟩]) E rfl (by kernel_rfl) rfl rfl (fun hp => ⟨?_, ?_, ?_, ?_, ?_, ?_, ?_, ?_, ?_, ?_, ?_, trivial⟩) ?_
          · exact q_addr (b := b11_3) (off := 0) (off' := 0) hp (free_of rfl) trivial (sq_out (s := 11) rfl rfl (fun _ _ => rfl)) (fun ρ w h => by simp [execOp, go_sem, h]) (fun _ => rfl)
          · exact q_loadInt (off := 0) hp (free_of rfl) trivial (List.mem_iff_getElem?.2 ⟨1, rfl⟩) (.inl rfl) (Nat.le_of_ble_eq_true rfl) (sq_in 0 rfl rfl (by simp) rfl (fun v w h => h)) (fun us w hl h => ld_got hl h)
          · exact q_call1 (F := (Fq.num z).P) hp (free_of rfl) trivial (enq_Neg) (sq_in 1 rfl rfl (by simp) rfl (fun v w h => h)) (fun v w h => exK (NegV h) B18.out (by omega))
          · exact q_loadInt (off := 0) hp (free_of rfl) trivial (List.mem_iff_getElem?.2 ⟨2, rfl⟩) (.inl rfl) (Nat.le_of_ble_eq_true rfl) (sq_out (s := 10) rfl rfl (fun _ _ => rfl)) (fun us w hl h => ld_num hl h)
          · exact q_call2 (F := (Fq.num (-z)).P) (G := (Fq.num Q).P) hp (free_of rfl) trivial (enq_M_Mod) (sq_in 2 rfl rfl (by simp) rfl (fun v w h => h)) (sq_in 3 rfl rfl (by simp) rfl (fun v w h => h)) (fun v v' w h h' => exModP h h' (Int.lt_of_lt_of_le B18.out (pw_le (by omega))) (Int.lt_of_lt_of_le BQ.out (pw_le (by omega))) PQ.out)
          · exact q_move hp (free_of rfl) trivial (sq_in 4 rfl rfl (by simp) rfl (fun v w h => h))
          · exact q_extract2 hp (free_of rfl) trivial (sq_in 5 rfl rfl (by simp) rfl (fun v w h => h)) (fun v1 v2 w h1 h2 => ⟨_, rfl, h1⟩)
          · exact q_extract2 hp (free_of rfl) trivial (sq_in 5 rfl rfl (by simp) rfl (fun v w h => h)) (fun v1 v2 w h1 h2 => ⟨_, rfl, h2⟩)
          · exact q_allocInt hp (List.mem_iff_getElem?.2 ⟨0, rfl⟩) rfl rfl rfl rfl (Nat.ne_of_beq_eq_false rfl) (fun _ _ => trivial) (old_ne rfl) (newk_ne rfl) (fun w => Num.zero w)
          · exact q_storeNewInt hp (List.mem_iff_getElem?.2 ⟨0, rfl⟩) rfl rfl rfl (own_ptr rfl rfl (by simp) rfl) (sq_in 6 rfl rfl (by simp) rfl (fun v w h => intV_num h)) (fun _ _ => trivial) (old_ne rfl) (newi_ne rfl)
          · exact q_assign hp (free_of rfl) trivial (sq_in 7 rfl rfl (by simp) rfl (fun v w h => h))
          intro L vs w20 nb hL hC hn E20
          have e0 : vs 0 = .pointer (some ⟨b11_3, 0, none⟩) := hC 0 (by simp)
          have e7 : vs 7 = .int .i64 0 := hC 7 (by simp)
          have e10 : vs 10 = .int .i64 0 := hC 10 (by simp)
          have e8 : vs 8 = .pointer (some ⟨nb 8, 0, none⟩) := hn _ (List.mem_iff_getElem?.2 ⟨0, rfl⟩)
          have E : Fr w [(nb 8, 2, Fq.num ((-z) % Q)), (b17_12, 2, Fq.num (((z * z) - a) % Q)), (b11_3, 3, Fq.got z 0), (b10_4, 2, Fq.num Q), (b8_2, 2, Fq.num a), (b7_4, 4, Fq.ints [P, G]), (b6_4, 2, Fq.num G), (b1, 2, Fq.raw n1 a1 k1 c1 xs1)] w20 := E20
          rw [lay_all hL]
          simp only [putAll, dstOf, List.length_cons, List.length_nil, Nat.zero_add, Nat.reduceAdd, List.getElem?_toArray, List.getElem?_cons_zero, List.getElem?_cons_succ, Option.bind_some, Act.put, List.setIfInBounds_toArray, List.set_cons_succ, List.set_cons_zero]
          rw [e0, e7, e10, e8]
          generalize nb 8 = b20_8 at E ⊢
          generalize vs 1 = u20_1
          generalize vs 2 = u20_2
          generalize vs 3 = u20_3
          generalize vs 4 = u20_4
          generalize vs 5 = u20_5
          generalize vs 6 = u20_6
          clear e0 e7 e10 e8 hC hn E20 hL vs L nb
          by_cases hzz : (-z) % Q = 0
          · have T5 : Hid (cmpI ((-z) % Q) 0 = 0) := cmpIq0.2 hzz
            clear hzz HZ3
            go_upto_region 17 with (fail)
            refine region_fr (C := [Fq.is (.int .i64 0), Fq.is (.bool false), Fq.is (.bool false), Fq.is (.int .i64 0), Fq.is (.bool false), Fq.is (.bool false), Fq.is (.bool false), Fq.num (((z * z) - a) % Q), Fq.is (.int .i64 (cmpI (((z * z) - a) % Q) 0)), Fq.is (.bool false), Fq.is (.bool false), Fq.is (.bool false), Fq.is (.pointer (some ⟨b11_3, 0, none⟩)), Fq.num z, Fq.is (.int .i64 (cmpI z 0)), Fq.is (.bool false), Fq.is (.bool false), Fq.is (.bool false), Fq.is (.pointer (some ⟨b11_3, 0, none⟩)), Fq.num z, Fq.num Q, Fq.is (.int .i64 (cmpI z Q)), Fq.is (.bool false), Fq.is (.bool false), Fq.is (.bool false), Fq.num ((-z) % Q), Fq.is (.int .i64 (cmpI ((-z) % Q) 0)), Fq.is (.bool false), Fq.is (.bool false), Fq.is (undef), Fq.is (undef), Fq.is (undef), Fq.is (undef), Fq.is (undef), Fq.is (.bool false), Fq.is (.bool false)]) (ks := [none, none, none, none, none, none, none, none]) (new := []) E rfl (by kernel_rfl) rfl rfl (fun hp => ⟨?_, ?_, ?_, ?_, ?_, ?_, ?_, ?_, ?_, ?_, ?_, ?_, ?_, ?_, ?_, ?_, ?_, ?_, ?_, ?_, ?_, ?_, ?_, ?_, ?_, ?_, ?_, ?_, ?_, ?_, ?_, ?_, ?_, ?_, ?_, ?_, trivial⟩) ?_
            · exact q_move hp (free_of rfl) trivial (sq_out (s := 13) rfl rfl (fun _ _ => rfl))
            · exact q_one (F := fun v _ => v = .int .i64 0) hp (free_of rfl) trivial (sq_in 0 rfl rfl (by simp) rfl (fun v w h => h)) (fun ρ w hc h => ⟨.bool false, by simp [execOp, go_sem, h, hc], rfl⟩)
            · exact q_move hp (free_of rfl) trivial (sq_in 1 rfl rfl (by simp) rfl (fun v w h => h))
            · exact q_move hp (free_of rfl) (gq_some rfl rfl (by simp) rfl (fun v w h => h)) (sq_out (s := 15) rfl rfl (fun _ _ => rfl))
            · exact q_one (F := fun v _ => v = .int .i64 0) hp (free_of rfl) (gq_some rfl rfl (by simp) rfl (fun v w h => h)) (sq_in 3 rfl rfl (by simp) rfl (fun v w h => h)) (fun ρ w hc h => ⟨.bool false, by simp [execOp, go_sem, h, hc], rfl⟩)
            · exact q_two (F := fun v _ => v = .bool false) (G := fun v _ => v = .bool false) hp (free_of rfl) trivial (sq_in 2 rfl rfl (by simp) rfl (fun v w h => h)) (sq_in 4 rfl rfl (by simp) rfl (fun v w h => h)) (fun ρ w hc h h' => ⟨_, by simp [execOp, go_sem, h, h'], rfl⟩)
            · exact q_move hp (free_of rfl) trivial (sq_in 5 rfl rfl (by simp) rfl (fun v w h => h))
            · exact q_loadInt (off := 0) hp (free_of rfl) (gq_some rfl rfl (by simp) rfl (fun v w h => h)) (List.mem_iff_getElem?.2 ⟨1, rfl⟩) (.inl rfl) (Nat.le_of_ble_eq_true rfl) (sq_out (s := 12) rfl rfl (fun _ _ => rfl)) (fun us w hl h => ld_num hl h)
            · exact q_call1 (F := (Fq.num (((z * z) - a) % Q)).P) hp (free_of rfl) (gq_some rfl rfl (by simp) rfl (fun v w h => h)) (enq_Sign) (sq_in 7 rfl rfl (by simp) rfl (fun v w h => h)) (fun v w h => exSign h)
            · exact q_one (F := fun v _ => v = .int .i64 (cmpI (((z * z) - a) % Q) 0)) hp (free_of rfl) (gq_some rfl rfl (by simp) rfl (fun v w h => h)) (sq_in 8 rfl rfl (by simp) rfl (fun v w h => h)) (fun ρ w hc h => ⟨.bool false, by simp [execOp, go_sem, h, hc, U1.out], rfl⟩)
            · exact q_two (F := fun v _ => v = .bool false) (G := fun v _ => v = .bool false) hp (free_of rfl) trivial (sq_in 6 rfl rfl (by simp) rfl (fun v w h => h)) (sq_in 9 rfl rfl (by simp) rfl (fun v w h => h)) (fun ρ w hc h h' => ⟨_, by simp [execOp, go_sem, h, h'], rfl⟩)
            · exact q_move hp (free_of rfl) trivial (sq_in 10 rfl rfl (by simp) rfl (fun v w h => h))
            · exact q_addr (b := b11_3) (off := 0) (off' := 0) hp (free_of rfl) (gq_some rfl rfl (by simp) rfl (fun v w h => h)) (sq_out (s := 11) rfl rfl (fun _ _ => rfl)) (fun ρ w h => by simp [execOp, go_sem, h]) (fun _ => rfl)
            · exact q_loadInt (off := 0) hp (free_of rfl) (gq_some rfl rfl (by simp) rfl (fun v w h => h)) (List.mem_iff_getElem?.2 ⟨2, rfl⟩) (.inl rfl) (Nat.le_of_ble_eq_true rfl) (sq_in 12 rfl rfl (by simp) rfl (fun v w h => h)) (fun us w hl h => ld_got hl h)
            · exact q_call1 (F := (Fq.num z).P) hp (free_of rfl) (gq_some rfl rfl (by simp) rfl (fun v w h => h)) (enq_Sign) (sq_in 13 rfl rfl (by simp) rfl (fun v w h => h)) (fun v w h => exSign h)
            · exact q_one (F := fun v _ => v = .int .i64 (cmpI z 0)) hp (free_of rfl) (gq_some rfl rfl (by simp) rfl (fun v w h => h)) (sq_in 14 rfl rfl (by simp) rfl (fun v w h => h)) (fun ρ w hc h => ⟨.bool false, by simp [execOp, go_sem, h, hc, U2.out], rfl⟩)
            · exact q_two (F := fun v _ => v = .bool false) (G := fun v _ => v = .bool false) hp (free_of rfl) trivial (sq_in 11 rfl rfl (by simp) rfl (fun v w h => h)) (sq_in 15 rfl rfl (by simp) rfl (fun v w h => h)) (fun ρ w hc h h' => ⟨_, by simp [execOp, go_sem, h, h'], rfl⟩)
            · exact q_move hp (free_of rfl) trivial (sq_in 16 rfl rfl (by simp) rfl (fun v w h => h))
            · exact q_addr (b := b11_3) (off := 0) (off' := 0) hp (free_of rfl) (gq_some rfl rfl (by simp) rfl (fun v w h => h)) (sq_out (s := 11) rfl rfl (fun _ _ => rfl)) (fun ρ w h => by simp [execOp, go_sem, h]) (fun _ => rfl)
            · exact q_loadInt (off := 0) hp (free_of rfl) (gq_some rfl rfl (by simp) rfl (fun v w h => h)) (List.mem_iff_getElem?.2 ⟨2, rfl⟩) (.inl rfl) (Nat.le_of_ble_eq_true rfl) (sq_in 18 rfl rfl (by simp) rfl (fun v w h => h)) (fun us w hl h => ld_got hl h)
            · exact q_loadInt (off := 0) hp (free_of rfl) (gq_some rfl rfl (by simp) rfl (fun v w h => h)) (List.mem_iff_getElem?.2 ⟨3, rfl⟩) (.inl rfl) (Nat.le_of_ble_eq_true rfl) (sq_out (s := 10) rfl rfl (fun _ _ => rfl)) (fun us w hl h => ld_num hl h)
            · exact q_call2 (F := (Fq.num z).P) (G := (Fq.num Q).P) hp (free_of rfl) (gq_some rfl rfl (by simp) rfl (fun v w h => h)) (enq_Cmp) (sq_in 19 rfl rfl (by simp) rfl (fun v w h => h)) (sq_in 20 rfl rfl (by simp) rfl (fun v w h => h)) (fun v v' w h h' => exCmp h h')
            · exact q_one (F := fun v _ => v = .int .i64 (cmpI z Q)) hp (free_of rfl) (gq_some rfl rfl (by simp) rfl (fun v w h => h)) (sq_in 21 rfl rfl (by simp) rfl (fun v w h => h)) (fun ρ w hc h => ⟨.bool false, by simp [execOp, go_sem, h, hc, U3.out], rfl⟩)
            · exact q_two (F := fun v _ => v = .bool false) (G := fun v _ => v = .bool false) hp (free_of rfl) trivial (sq_in 17 rfl rfl (by simp) rfl (fun v w h => h)) (sq_in 22 rfl rfl (by simp) rfl (fun v w h => h)) (fun ρ w hc h h' => ⟨_, by simp [execOp, go_sem, h, h'], rfl⟩)
            · exact q_move hp (free_of rfl) trivial (sq_in 23 rfl rfl (by simp) rfl (fun v w h => h))
            · exact q_loadInt (off := 0) hp (free_of rfl) (gq_some rfl rfl (by simp) rfl (fun v w h => h)) (List.mem_iff_getElem?.2 ⟨0, rfl⟩) (.inl rfl) (Nat.le_of_ble_eq_true rfl) (sq_out (s := 14) rfl rfl (fun _ _ => rfl)) (fun us w hl h => ld_num hl h)
            · exact q_call1 (F := (Fq.num ((-z) % Q)).P) hp (free_of rfl) (gq_some rfl rfl (by simp) rfl (fun v w h => h)) (enq_Sign) (sq_in 25 rfl rfl (by simp) rfl (fun v w h => h)) (fun v w h => exSign h)
            · exact q_one (F := fun v _ => v = .int .i64 (cmpI ((-z) % Q) 0)) hp (free_of rfl) (gq_some rfl rfl (by simp) rfl (fun v w h => h)) (sq_in 26 rfl rfl (by simp) rfl (fun v w h => h)) (fun ρ w hc h => ⟨.bool false, by simp [execOp, go_sem, h, hc, T5.out], rfl⟩)
            · exact q_move hp (free_of rfl) (gq_some rfl rfl (by simp) rfl (fun v w h => h)) (sq_in 27 rfl rfl (by simp) rfl (fun v w h => h))
            · exact q_skip hp (free_of rfl) rfl (gq_some rfl rfl (by simp) rfl (fun v w h => h)) (fun _ => rfl)
            · exact q_skip hp (free_of rfl) rfl (gq_some rfl rfl (by simp) rfl (fun v w h => h)) (fun _ => rfl)
            · exact q_skip hp (free_of rfl) rfl (gq_some rfl rfl (by simp) rfl (fun v w h => h)) (fun _ => rfl)
            · exact q_skip hp (free_of rfl) rfl (gq_some rfl rfl (by simp) rfl (fun v w h => h)) (fun _ => rfl)
            · exact q_skip hp (free_of rfl) rfl (gq_some rfl rfl (by simp) rfl (fun v w h => h)) (fun _ => rfl)
            · exact q_two (F := fun v _ => v = .bool false) (G := fun v _ => v = .bool false) hp (free_of rfl) (gq_some rfl rfl (by simp) rfl (fun v w h => h)) (sq_in 28 rfl rfl (by simp) rfl (fun v w h => h)) (sq_const (fun _ => rfl)) (fun ρ w hc h h' => ⟨_, by simp [execOp, go_sem, h, h'], rfl⟩)
            · exact q_two (F := fun v _ => v = .bool false) (G := fun v _ => v = .bool false) hp (free_of rfl) trivial (sq_in 24 rfl rfl (by simp) rfl (fun v w h => h)) (sq_in 34 rfl rfl (by simp) rfl (fun v w h => h)) (fun ρ w hc h h' => ⟨_, by simp [execOp, go_sem, h, h'], rfl⟩)
            intro L vs w21 nb hL hC hn E21
            have e0 : vs 0 = .int .i64 0 := hC 0 (by simp)
            have e1 : vs 1 = .bool false := hC 1 (by simp)
            have e2 : vs 2 = .bool false := hC 2 (by simp)
            have e3 : vs 3 = .int .i64 0 := hC 3 (by simp)
            have e4 : vs 4 = .bool false := hC 4 (by simp)
            have e5 : vs 5 = .bool false := hC 5 (by simp)
            have e6 : vs 6 = .bool false := hC 6 (by simp)
            have e8 : vs 8 = .int .i64 (cmpI (((z * z) - a) % Q) 0) := hC 8 (by simp)
            have e9 : vs 9 = .bool false := hC 9 (by simp)
            have e10 : vs 10 = .bool false := hC 10 (by simp)
            have e11 : vs 11 = .bool false := hC 11 (by simp)
            have e12 : vs 12 = .pointer (some ⟨b11_3, 0, none⟩) := hC 12 (by simp)
            have e14 : vs 14 = .int .i64 (cmpI z 0) := hC 14 (by simp)
            have e15 : vs 15 = .bool false := hC 15 (by simp)
            have e16 : vs 16 = .bool false := hC 16 (by simp)
            have e17 : vs 17 = .bool false := hC 17 (by simp)
            have e18 : vs 18 = .pointer (some ⟨b11_3, 0, none⟩) := hC 18 (by simp)
            have e21 : vs 21 = .int .i64 (cmpI z Q) := hC 21 (by simp)
            have e22 : vs 22 = .bool false := hC 22 (by simp)
            have e23 : vs 23 = .bool false := hC 23 (by simp)
            have e24 : vs 24 = .bool false := hC 24 (by simp)
            have e26 : vs 26 = .int .i64 (cmpI ((-z) % Q) 0) := hC 26 (by simp)
            have e27 : vs 27 = .bool false := hC 27 (by simp)
            have e28 : vs 28 = .bool false := hC 28 (by simp)
            have e29 : vs 29 = undef := hC 29 (by simp)
            have e30 : vs 30 = undef := hC 30 (by simp)
            have e31 : vs 31 = undef := hC 31 (by simp)
            have e32 : vs 32 = undef := hC 32 (by simp)
            have e33 : vs 33 = undef := hC 33 (by simp)
            have e34 : vs 34 = .bool false := hC 34 (by simp)
            have e35 : vs 35 = .bool false := hC 35 (by simp)
            have E : Fr w [(b20_8, 2, Fq.num ((-z) % Q)), (b17_12, 2, Fq.num (((z * z) - a) % Q)), (b11_3, 3, Fq.got z 0), (b10_4, 2, Fq.num Q), (b8_2, 2, Fq.num a), (b7_4, 4, Fq.ints [P, G]), (b6_4, 2, Fq.num G), (b1, 2, Fq.raw n1 a1 k1 c1 xs1)] w21 := E21
            rw [lay_all hL]
            simp only [putAll, dstOf, List.length_cons, List.length_nil, Nat.zero_add, Nat.reduceAdd, List.getElem?_toArray, List.getElem?_cons_zero, List.getElem?_cons_succ, Option.bind_some, Act.put, List.setIfInBounds_toArray, List.set_cons_succ, List.set_cons_zero]
            rw [e0, e1, e2, e3, e4, e5, e6, e8, e9, e10, e11, e12, e14, e15, e16, e17, e18, e21, e22, e23, e24, e26, e27, e28, e29, e30, e31, e32, e33, e34, e35]
            generalize vs 7 = u21_7
            generalize vs 13 = u21_13
            generalize vs 19 = u21_19
            generalize vs 20 = u21_20
            generalize vs 25 = u21_25
            clear e0 e1 e2 e3 e4 e5 e6 e8 e9 e10 e11 e12 e14 e15 e16 e17 e18 e21 e22 e23 e24 e26 e27 e28 e29 e30 e31 e32 e33 e34 e35 hC hn E21 hL vs L nb
            go_wp2
            go_roundw
            case rel => exact ⟨i + 1, by rw [hw.out]; rfl, by have := HI.out; omega, Fr.drop (Fr.drop (Fr.drop (Fr.drop (E))))⟩
            case measure => rw [hw.out]; exact measR HI.out
          · have T5 : Hid (¬ cmpI ((-z) % Q) 0 = 0) := fun h => hzz (cmpIq0.1 h)
            have T6 : Hid (¬ 0 < cmpI z ((-z) % Q)) := fun h => by have := HZ3.out; have := cmpIqgt.1 h; omega
            clear hzz HZ3
            go_upto_region 17 with (fail)
            refine region_fr (C := [Fq.is (.int .i64 0), Fq.is (.bool false), Fq.is (.bool false), Fq.is (.int .i64 0), Fq.is (.bool false), Fq.is (.bool false), Fq.is (.bool false), Fq.num (((z * z) - a) % Q), Fq.is (.int .i64 (cmpI (((z * z) - a) % Q) 0)), Fq.is (.bool false), Fq.is (.bool false), Fq.is (.bool false), Fq.is (.pointer (some ⟨b11_3, 0, none⟩)), Fq.num z, Fq.is (.int .i64 (cmpI z 0)), Fq.is (.bool false), Fq.is (.bool false), Fq.is (.bool false), Fq.is (.pointer (some ⟨b11_3, 0, none⟩)), Fq.num z, Fq.num Q, Fq.is (.int .i64 (cmpI z Q)), Fq.is (.bool false), Fq.is (.bool false), Fq.is (.bool false), Fq.num ((-z) % Q), Fq.is (.int .i64 (cmpI ((-z) % Q) 0)), Fq.is (.bool true), Fq.is (.bool true), Fq.is (.pointer (some ⟨b11_3, 0, none⟩)), Fq.num z, Fq.num ((-z) % Q), Fq.is (.int .i64 (cmpI z ((-z) % Q))), Fq.is (.bool false), Fq.is (.bool false), Fq.is (.bool false)]) (ks := [none, none, none, none, none, none, none, none]) (new := []) E rfl (by kernel_rfl) rfl rfl (fun hp => ⟨?_, ?_, ?_, ?_, ?_, ?_, ?_, ?_, ?_, ?_, ?_, ?_, ?_, ?_, ?_, ?_, ?_, ?_, ?_, ?_, ?_, ?_, ?_, ?_, ?_, ?_, ?_, ?_, ?_, ?_, ?_, ?_, ?_, ?_, ?_, ?_, trivial⟩) ?_
            · exact q_move hp (free_of rfl) trivial (sq_out (s := 13) rfl rfl (fun _ _ => rfl))
            · exact q_one (F := fun v _ => v = .int .i64 0) hp (free_of rfl) trivial (sq_in 0 rfl rfl (by simp) rfl (fun v w h => h)) (fun ρ w hc h => ⟨.bool false, by simp [execOp, go_sem, h, hc], rfl⟩)
            · exact q_move hp (free_of rfl) trivial (sq_in 1 rfl rfl (by simp) rfl (fun v w h => h))
            · exact q_move hp (free_of rfl) (gq_some rfl rfl (by simp) rfl (fun v w h => h)) (sq_out (s := 15) rfl rfl (fun _ _ => rfl))
            · exact q_one (F := fun v _ => v = .int .i64 0) hp (free_of rfl) (gq_some rfl rfl (by simp) rfl (fun v w h => h)) (sq_in 3 rfl rfl (by simp) rfl (fun v w h => h)) (fun ρ w hc h => ⟨.bool false, by simp [execOp, go_sem, h, hc], rfl⟩)
            · exact q_two (F := fun v _ => v = .bool false) (G := fun v _ => v = .bool false) hp (free_of rfl) trivial (sq_in 2 rfl rfl (by simp) rfl (fun v w h => h)) (sq_in 4 rfl rfl (by simp) rfl (fun v w h => h)) (fun ρ w hc h h' => ⟨_, by simp [execOp, go_sem, h, h'], rfl⟩)
            · exact q_move hp (free_of rfl) trivial (sq_in 5 rfl rfl (by simp) rfl (fun v w h => h))
            · exact q_loadInt (off := 0) hp (free_of rfl) (gq_some rfl rfl (by simp) rfl (fun v w h => h)) (List.mem_iff_getElem?.2 ⟨1, rfl⟩) (.inl rfl) (Nat.le_of_ble_eq_true rfl) (sq_out (s := 12) rfl rfl (fun _ _ => rfl)) (fun us w hl h => ld_num hl h)
            · exact q_call1 (F := (Fq.num (((z * z) - a) % Q)).P) hp (free_of rfl) (gq_some rfl rfl (by simp) rfl (fun v w h => h)) (enq_Sign) (sq_in 7 rfl rfl (by simp) rfl (fun v w h => h)) (fun v w h => exSign h)
            · exact q_one (F := fun v _ => v = .int .i64 (cmpI (((z * z) - a) % Q) 0)) hp (free_of rfl) (gq_some rfl rfl (by simp) rfl (fun v w h => h)) (sq_in 8 rfl rfl (by simp) rfl (fun v w h => h)) (fun ρ w hc h => ⟨.bool false, by simp [execOp, go_sem, h, hc, U1.out], rfl⟩)
            · exact q_two (F := fun v _ => v = .bool false) (G := fun v _ => v = .bool false) hp (free_of rfl) trivial (sq_in 6 rfl rfl (by simp) rfl (fun v w h => h)) (sq_in 9 rfl rfl (by simp) rfl (fun v w h => h)) (fun ρ w hc h h' => ⟨_, by simp [execOp, go_sem, h, h'], rfl⟩)
            · exact q_move hp (free_of rfl) trivial (sq_in 10 rfl rfl (by simp) rfl (fun v w h => h))
            · exact q_addr (b := b11_3) (off := 0) (off' := 0) hp (free_of rfl) (gq_some rfl rfl (by simp) rfl (fun v w h => h)) (sq_out (s := 11) rfl rfl (fun _ _ => rfl)) (fun ρ w h => by simp [execOp, go_sem, h]) (fun _ => rfl)
            · exact q_loadInt (off := 0) hp (free_of rfl) (gq_some rfl rfl (by simp) rfl (fun v w h => h)) (List.mem_iff_getElem?.2 ⟨2, rfl⟩) (.inl rfl) (Nat.le_of_ble_eq_true rfl) (sq_in 12 rfl rfl (by simp) rfl (fun v w h => h)) (fun us w hl h => ld_got hl h)
            · exact q_call1 (F := (Fq.num z).P) hp (free_of rfl) (gq_some rfl rfl (by simp) rfl (fun v w h => h)) (enq_Sign) (sq_in 13 rfl rfl (by simp) rfl (fun v w h => h)) (fun v w h => exSign h)
            · exact q_one (F := fun v _ => v = .int .i64 (cmpI z 0)) hp (free_of rfl) (gq_some rfl rfl (by simp) rfl (fun v w h => h)) (sq_in 14 rfl rfl (by simp) rfl (fun v w h => h)) (fun ρ w hc h => ⟨.bool false, by simp [execOp, go_sem, h, hc, U2.out], rfl⟩)
            · exact q_two (F := fun v _ => v = .bool false) (G := fun v _ => v = .bool false) hp (free_of rfl) trivial (sq_in 11 rfl rfl (by simp) rfl (fun v w h => h)) (sq_in 15 rfl rfl (by simp) rfl (fun v w h => h)) (fun ρ w hc h h' => ⟨_, by simp [execOp, go_sem, h, h'], rfl⟩)
            · exact q_move hp (free_of rfl) trivial (sq_in 16 rfl rfl (by simp) rfl (fun v w h => h))
            · exact q_addr (b := b11_3) (off := 0) (off' := 0) hp (free_of rfl) (gq_some rfl rfl (by simp) rfl (fun v w h => h)) (sq_out (s := 11) rfl rfl (fun _ _ => rfl)) (fun ρ w h => by simp [execOp, go_sem, h]) (fun _ => rfl)
            · exact q_loadInt (off := 0) hp (free_of rfl) (gq_some rfl rfl (by simp) rfl (fun v w h => h)) (List.mem_iff_getElem?.2 ⟨2, rfl⟩) (.inl rfl) (Nat.le_of_ble_eq_true rfl) (sq_in 18 rfl rfl (by simp) rfl (fun v w h => h)) (fun us w hl h => ld_got hl h)
            · exact q_loadInt (off := 0) hp (free_of rfl) (gq_some rfl rfl (by simp) rfl (fun v w h => h)) (List.mem_iff_getElem?.2 ⟨3, rfl⟩) (.inl rfl) (Nat.le_of_ble_eq_true rfl) (sq_out (s := 10) rfl rfl (fun _ _ => rfl)) (fun us w hl h => ld_num hl h)
            · exact q_call2 (F := (Fq.num z).P) (G := (Fq.num Q).P) hp (free_of rfl) (gq_some rfl rfl (by simp) rfl (fun v w h => h)) (enq_Cmp) (sq_in 19 rfl rfl (by simp) rfl (fun v w h => h)) (sq_in 20 rfl rfl (by simp) rfl (fun v w h => h)) (fun v v' w h h' => exCmp h h')
            · exact q_one (F := fun v _ => v = .int .i64 (cmpI z Q)) hp (free_of rfl) (gq_some rfl rfl (by simp) rfl (fun v w h => h)) (sq_in 21 rfl rfl (by simp) rfl (fun v w h => h)) (fun ρ w hc h => ⟨.bool false, by simp [execOp, go_sem, h, hc, U3.out], rfl⟩)
            · exact q_two (F := fun v _ => v = .bool false) (G := fun v _ => v = .bool false) hp (free_of rfl) trivial (sq_in 17 rfl rfl (by simp) rfl (fun v w h => h)) (sq_in 22 rfl rfl (by simp) rfl (fun v w h => h)) (fun ρ w hc h h' => ⟨_, by simp [execOp, go_sem, h, h'], rfl⟩)
            · exact q_move hp (free_of rfl) trivial (sq_in 23 rfl rfl (by simp) rfl (fun v w h => h))
            · exact q_loadInt (off := 0) hp (free_of rfl) (gq_some rfl rfl (by simp) rfl (fun v w h => h)) (List.mem_iff_getElem?.2 ⟨0, rfl⟩) (.inl rfl) (Nat.le_of_ble_eq_true rfl) (sq_out (s := 14) rfl rfl (fun _ _ => rfl)) (fun us w hl h => ld_num hl h)
            · exact q_call1 (F := (Fq.num ((-z) % Q)).P) hp (free_of rfl) (gq_some rfl rfl (by simp) rfl (fun v w h => h)) (enq_Sign) (sq_in 25 rfl rfl (by simp) rfl (fun v w h => h)) (fun v w h => exSign h)
            · exact q_one (F := fun v _ => v = .int .i64 (cmpI ((-z) % Q) 0)) hp (free_of rfl) (gq_some rfl rfl (by simp) rfl (fun v w h => h)) (sq_in 26 rfl rfl (by simp) rfl (fun v w h => h)) (fun ρ w hc h => ⟨.bool true, by simp [execOp, go_sem, h, hc, T5.out], rfl⟩)
            · exact q_move hp (free_of rfl) (gq_some rfl rfl (by simp) rfl (fun v w h => h)) (sq_in 27 rfl rfl (by simp) rfl (fun v w h => h))
            · exact q_addr (b := b11_3) (off := 0) (off' := 0) hp (free_of rfl) (gq_some rfl rfl (by simp) rfl (fun v w h => h)) (sq_out (s := 11) rfl rfl (fun _ _ => rfl)) (fun ρ w h => by simp [execOp, go_sem, h]) (fun _ => rfl)
            · exact q_loadInt (off := 0) hp (free_of rfl) (gq_some rfl rfl (by simp) rfl (fun v w h => h)) (List.mem_iff_getElem?.2 ⟨2, rfl⟩) (.inl rfl) (Nat.le_of_ble_eq_true rfl) (sq_in 29 rfl rfl (by simp) rfl (fun v w h => h)) (fun us w hl h => ld_got hl h)
            · exact q_loadInt (off := 0) hp (free_of rfl) (gq_some rfl rfl (by simp) rfl (fun v w h => h)) (List.mem_iff_getElem?.2 ⟨0, rfl⟩) (.inl rfl) (Nat.le_of_ble_eq_true rfl) (sq_out (s := 14) rfl rfl (fun _ _ => rfl)) (fun us w hl h => ld_num hl h)
            · exact q_call2 (F := (Fq.num z).P) (G := (Fq.num ((-z) % Q)).P) hp (free_of rfl) (gq_some rfl rfl (by simp) rfl (fun v w h => h)) (enq_Cmp) (sq_in 30 rfl rfl (by simp) rfl (fun v w h => h)) (sq_in 31 rfl rfl (by simp) rfl (fun v w h => h)) (fun v v' w h h' => exCmp h h')
            · exact q_one (F := fun v _ => v = .int .i64 (cmpI z ((-z) % Q))) hp (free_of rfl) (gq_some rfl rfl (by simp) rfl (fun v w h => h)) (sq_in 32 rfl rfl (by simp) rfl (fun v w h => h)) (fun ρ w hc h => ⟨.bool false, by simp [execOp, go_sem, h, hc, T6.out], rfl⟩)
            · exact q_two (F := fun v _ => v = .bool true) (G := fun v _ => v = .bool false) hp (free_of rfl) (gq_some rfl rfl (by simp) rfl (fun v w h => h)) (sq_in 28 rfl rfl (by simp) rfl (fun v w h => h)) (sq_in 33 rfl rfl (by simp) rfl (fun v w h => h)) (fun ρ w hc h h' => ⟨_, by simp [execOp, go_sem, h, h'], rfl⟩)
            · exact q_two (F := fun v _ => v = .bool false) (G := fun v _ => v = .bool false) hp (free_of rfl) trivial (sq_in 24 rfl rfl (by simp) rfl (fun v w h => h)) (sq_in 34 rfl rfl (by simp) rfl (fun v w h => h)) (fun ρ w hc h h' => ⟨_, by simp [execOp, go_sem, h, h'], rfl⟩)
            intro L vs w22 nb hL hC hn E22
            have e0 : vs 0 = .int .i64 0 := hC 0 (by simp)
            have e1 : vs 1 = .bool false := hC 1 (by simp)
            have e2 : vs 2 = .bool false := hC 2 (by simp)
            have e3 : vs 3 = .int .i64 0 := hC 3 (by simp)
            have e4 : vs 4 = .bool false := hC 4 (by simp)
            have e5 : vs 5 = .bool false := hC 5 (by simp)
            have e6 : vs 6 = .bool false := hC 6 (by simp)
            have e8 : vs 8 = .int .i64 (cmpI (((z * z) - a) % Q) 0) := hC 8 (by simp)
            have e9 : vs 9 = .bool false := hC 9 (by simp)
            have e10 : vs 10 = .bool false := hC 10 (by simp)
            have e11 : vs 11 = .bool false := hC 11 (by simp)
            have e12 : vs 12 = .pointer (some ⟨b11_3, 0, none⟩) := hC 12 (by simp)
            have e14 : vs 14 = .int .i64 (cmpI z 0) := hC 14 (by simp)
            have e15 : vs 15 = .bool false := hC 15 (by simp)
            have e16 : vs 16 = .bool false := hC 16 (by simp)
            have e17 : vs 17 = .bool false := hC 17 (by simp)
            have e18 : vs 18 = .pointer (some ⟨b11_3, 0, none⟩) := hC 18 (by simp)
            have e21 : vs 21 = .int .i64 (cmpI z Q) := hC 21 (by simp)
            have e22 : vs 22 = .bool false := hC 22 (by simp)
            have e23 : vs 23 = .bool false := hC 23 (by simp)
            have e24 : vs 24 = .bool false := hC 24 (by simp)
            have e26 : vs 26 = .int .i64 (cmpI ((-z) % Q) 0) := hC 26 (by simp)
            have e27 : vs 27 = .bool true := hC 27 (by simp)
            have e28 : vs 28 = .bool true := hC 28 (by simp)
            have e29 : vs 29 = .pointer (some ⟨b11_3, 0, none⟩) := hC 29 (by simp)
            have e32 : vs 32 = .int .i64 (cmpI z ((-z) % Q)) := hC 32 (by simp)
            have e33 : vs 33 = .bool false := hC 33 (by simp)
            have e34 : vs 34 = .bool false := hC 34 (by simp)
            have e35 : vs 35 = .bool false := hC 35 (by simp)
            have E : Fr w [(b20_8, 2, Fq.num ((-z) % Q)), (b17_12, 2, Fq.num (((z * z) - a) % Q)), (b11_3, 3, Fq.got z 0), (b10_4, 2, Fq.num Q), (b8_2, 2, Fq.num a), (b7_4, 4, Fq.ints [P, G]), (b6_4, 2, Fq.num G), (b1, 2, Fq.raw n1 a1 k1 c1 xs1)] w22 := E22
            rw [lay_all hL]
            simp only [putAll, dstOf, List.length_cons, List.length_nil, Nat.zero_add, Nat.reduceAdd, List.getElem?_toArray, List.getElem?_cons_zero, List.getElem?_cons_succ, Option.bind_some, Act.put, List.setIfInBounds_toArray, List.set_cons_succ, List.set_cons_zero]
            rw [e0, e1, e2, e3, e4, e5, e6, e8, e9, e10, e11, e12, e14, e15, e16, e17, e18, e21, e22, e23, e24, e26, e27, e28, e29, e32, e33, e34, e35]
            generalize vs 7 = u22_7
            generalize vs 13 = u22_13
            generalize vs 19 = u22_19
            generalize vs 20 = u22_20
            generalize vs 25 = u22_25
            generalize vs 30 = u22_30
            generalize vs 31 = u22_31
            clear e0 e1 e2 e3 e4 e5 e6 e8 e9 e10 e11 e12 e14 e15 e16 e17 e18 e21 e22 e23 e24 e26 e27 e28 e29 e32 e33 e34 e35 hC hn E22 hL vs L nb
            go_wp2
            go_roundw
            case rel => exact ⟨i + 1, by rw [hw.out]; rfl, by have := HI.out; omega, Fr.drop (Fr.drop (Fr.drop (Fr.drop (E))))⟩
            case measure => rw [hw.out]; exact measR HI.out
        · obtain ⟨rfl, hz0, hz1, hz2, hz3, hz4⟩ := hyes
          have Bz : Hid (ab z < pw 90) := by show _ < _; have := BQ.out; unfold ab at *; omega
          have NQ : Hid (Q ≠ 0) := by show _ ≠ _; omega
          have PQ : Hid (0 < Q) := by show _ < _; omega
          rw [← hQ] at hz1 hz2 hz3 hz4
          have U1 : Hid (cmpI (((z * z) - a) % Q) 0 = 0) := cmpIq0.2 hz2
          have U2 : Hid (¬ cmpI z 0 < 0) := fun h => by have := cmpIqlt.1 h; omega
          have U3 : Hid (¬ 0 ≤ cmpI z Q) := fun h => by have := cmpIqlt.2 hz1; omega
          have T2 : Hid (¬ cmpI Q (2) = 0) := fun h => hq2 (by have := cmpI_eq0.1 h; omega)
          obtain ⟨K, hK⟩ : ∃ K, kron a Q = K := ⟨_, rfl⟩
          have HK := hidd hK
          have T3 : Hid (0 ≤ K) := by have := hz4 hq2; show _ ≤ _; omega
          clear hK
          have HZ3 := hidd hz3
          clear hz0 hz1 hz2 hz3 hz4 hQ hqp hq2
          go_upto_region 11 with (fail)
          refine region_fr (C := [Fq.num a, Fq.num Q, Fq.got z 0, Fq.any, Fq.any]) (ks := [none, none, none, none, none]) (new := [⟨3, 4, 3, Fq.got 0 0, Fq.got z 0, none⟩]) E rfl (by kernel_rfl) rfl rfl (fun hp => ⟨?_, ?_, ?_, ?_, ?_, trivial⟩) ?_
          · exact q_loadInt (off := 0) hp (free_of rfl) trivial (List.mem_iff_getElem?.2 ⟨1, rfl⟩) (.inl rfl) (Nat.le_of_ble_eq_true rfl) (sq_out (s := 8) rfl rfl (fun _ _ => rfl)) (fun us w hl h => ld_num hl h)
          · exact q_loadInt (off := 0) hp (free_of rfl) trivial (List.mem_iff_getElem?.2 ⟨0, rfl⟩) (.inl rfl) (Nat.le_of_ble_eq_true rfl) (sq_out (s := 10) rfl rfl (fun _ _ => rfl)) (fun us w hl h => ld_num hl h)
          · exact q_call2W (F := (Fq.num a).P) (G := (Fq.num Q).P) hp (free_of rfl) trivial (enq_V_root) rfl (sq_in 0 rfl rfl (by simp) rfl (fun v w h => h)) (sq_in 1 rfl rfl (by simp) rfl (fun v w h => h)) (fun v v' w hbw h h' => HRT.out _ _ _ h h' (hT.out.mono hbw))
          · exact q_allocGot hp (List.mem_iff_getElem?.2 ⟨0, rfl⟩) rfl rfl rfl rfl (Nat.ne_of_beq_eq_false rfl) (fun _ _ => trivial) (old_ne rfl) (newk_ne rfl) (fun w => Got.zero w)
          · exact q_storeNewGot hp (List.mem_iff_getElem?.2 ⟨0, rfl⟩) rfl rfl rfl (own_ptr rfl rfl (by simp) rfl) (sq_in 2 rfl rfl (by simp) rfl (fun v w h => h.partsV)) (fun _ _ => trivial) (old_ne rfl) (newi_ne rfl)
          intro L vs w23 nb hL hC hn E23
          have e3 : vs 3 = .pointer (some ⟨nb 3, 0, none⟩) := hn _ (List.mem_iff_getElem?.2 ⟨0, rfl⟩)
          have E : Fr w [(nb 3, 3, Fq.got z 0), (b10_4, 2, Fq.num Q), (b8_2, 2, Fq.num a), (b7_4, 4, Fq.ints [P, G]), (b6_4, 2, Fq.num G), (b1, 2, Fq.raw n1 a1 k1 c1 xs1)] w23 := E23
          rw [lay_all hL]
          simp only [putAll, dstOf, List.length_cons, List.length_nil, Nat.zero_add, Nat.reduceAdd, List.getElem?_toArray, List.getElem?_cons_zero, List.getElem?_cons_succ, Option.bind_some, Act.put, List.setIfInBounds_toArray, List.set_cons_succ, List.set_cons_zero]
          rw [e3]
          generalize nb 3 = b23_3 at E ⊢
          generalize vs 0 = u23_0
          generalize vs 1 = u23_1
          generalize vs 2 = u23_2
          clear e3 hC hn E23 hL vs L nb
          clear HRT
          go_upto_region 12 with (fail)
          refine region_fr (C := [Fq.num Q, Fq.num (2), Fq.is (.int .i64 (cmpI Q (2))), Fq.is (.bool true), Fq.is (.bool true), Fq.is (.pointer (some ⟨b23_3, 2, none⟩)), Fq.is (.int .i64 0), Fq.is (.bool true), Fq.num a, Fq.num Q, Fq.is (.int .i64 K), Fq.is (.bool true), Fq.is (.bool false), Fq.is (.bool false), Fq.is (.bool false), Fq.is (.pointer (some ⟨b23_3, 2, none⟩)), Fq.is (.int .i64 0), Fq.is (.bool false), Fq.is (.bool false), Fq.is (undef), Fq.is (undef), Fq.is (undef), Fq.is (.bool false), Fq.is (.bool false)]) (ks := [none, none, none, none, none, none]) (new := []) E rfl (by kernel_rfl) rfl rfl (fun hp => ⟨?_, ?_, ?_, ?_, ?_, ?_, ?_, ?_, ?_, ?_, ?_, ?_, ?_, ?_, ?_, ?_, ?_, ?_, ?_, ?_, ?_, ?_, ?_, ?_, trivial⟩) ?_
          · exact q_loadInt (off := 0) hp (free_of rfl) trivial (List.mem_iff_getElem?.2 ⟨1, rfl⟩) (.inl rfl) (Nat.le_of_ble_eq_true rfl) (sq_out (s := 10) rfl rfl (fun _ _ => rfl)) (fun us w hl h => ld_num hl h)
          · exact q_call1 (F := (Fq.is (.int .i64 2)).P) hp (free_of rfl) trivial (enq_V_of) (sq_const (fun _ => rfl)) (fun v w h => (by subst h; exact exVOf (by omega)))
          · exact q_call2 (F := (Fq.num Q).P) (G := (Fq.num (2)).P) hp (free_of rfl) trivial (enq_Cmp) (sq_in 0 rfl rfl (by simp) rfl (fun v w h => h)) (sq_in 1 rfl rfl (by simp) rfl (fun v w h => h)) (fun v v' w h h' => exCmp h h')
          · exact q_one (F := fun v _ => v = .int .i64 (cmpI Q (2))) hp (free_of rfl) trivial (sq_in 2 rfl rfl (by simp) rfl (fun v w h => h)) (fun ρ w hc h => ⟨.bool true, by simp [execOp, go_sem, h, hc, T2.out], rfl⟩)
          · exact q_move hp (free_of rfl) trivial (sq_in 3 rfl rfl (by simp) rfl (fun v w h => h))
          · exact q_addr (b := b23_3) (off := 0) (off' := 2) hp (free_of rfl) (gq_some rfl rfl (by simp) rfl (fun v w h => h)) (sq_out (s := 11) rfl rfl (fun _ _ => rfl)) (fun ρ w h => by simp [execOp, go_sem, h]) (fun _ => rfl)
          · exact q_loadErr (r := 0) hp (free_of rfl) (gq_some rfl rfl (by simp) rfl (fun v w h => h)) (List.mem_iff_getElem?.2 ⟨0, rfl⟩) (.inl rfl) rfl (sq_in 5 rfl rfl (by simp) rfl (fun v w h => h)) (fun us w hl h => ld_got2 hl h) (fun _ => rfl)
          · exact q_one (F := fun v _ => v = .int .i64 0) hp (free_of rfl) (gq_some rfl rfl (by simp) rfl (fun v w h => h)) (sq_in 6 rfl rfl (by simp) rfl (fun v w h => h)) (fun ρ w hc h => ⟨.bool true, by simp [execOp, go_sem, h, hc], rfl⟩)
          · exact q_loadInt (off := 0) hp (free_of rfl) (gq_some rfl rfl (by simp) rfl (fun v w h => h)) (List.mem_iff_getElem?.2 ⟨2, rfl⟩) (.inl rfl) (Nat.le_of_ble_eq_true rfl) (sq_out (s := 8) rfl rfl (fun _ _ => rfl)) (fun us w hl h => ld_num hl h)
          · exact q_loadInt (off := 0) hp (free_of rfl) (gq_some rfl rfl (by simp) rfl (fun v w h => h)) (List.mem_iff_getElem?.2 ⟨1, rfl⟩) (.inl rfl) (Nat.le_of_ble_eq_true rfl) (sq_out (s := 10) rfl rfl (fun _ _ => rfl)) (fun us w hl h => ld_num hl h)
          · exact q_call2W (F := (Fq.num a).P) (G := (Fq.num Q).P) hp (free_of rfl) (gq_some rfl rfl (by simp) rfl (fun v w h => h)) (enq_M_Kronecker) rfl (sq_in 8 rfl rfl (by simp) rfl (fun v w h => h)) (sq_in 9 rfl rfl (by simp) rfl (fun v w h => h)) (fun v v' w hbw h h' => exKronR h h' (hT.out.mono hbw) (Int.lt_of_lt_of_le Ba.out (pw_le (by omega))) (Int.lt_of_lt_of_le BQ.out (pw_le (by omega))) HK.out)
          · exact q_one (F := fun v _ => v = .int .i64 K) hp (free_of rfl) (gq_some rfl rfl (by simp) rfl (fun v w h => h)) (sq_in 10 rfl rfl (by simp) rfl (fun v w h => h)) (fun ρ w hc h => ⟨.bool true, by simp [execOp, go_sem, h, hc, T3.out], rfl⟩)
          · exact q_two (F := fun v _ => v = .bool true) (G := fun v _ => v = .bool true) hp (free_of rfl) (gq_some rfl rfl (by simp) rfl (fun v w h => h)) (sq_in 7 rfl rfl (by simp) rfl (fun v w h => h)) (sq_in 11 rfl rfl (by simp) rfl (fun v w h => h)) (fun ρ w hc h h' => ⟨.bool false, by simp [execOp, go_sem, h, h'], rfl⟩)
          · exact q_two (F := fun v _ => v = .bool true) (G := fun v _ => v = .bool false) hp (free_of rfl) trivial (sq_in 4 rfl rfl (by simp) rfl (fun v w h => h)) (sq_in 12 rfl rfl (by simp) rfl (fun v w h => h)) (fun ρ w hc h h' => ⟨_, by simp [execOp, go_sem, h, h'], rfl⟩)
          · exact q_move hp (free_of rfl) trivial (sq_in 13 rfl rfl (by simp) rfl (fun v w h => h))
          · exact q_addr (b := b23_3) (off := 0) (off' := 2) hp (free_of rfl) (gq_some rfl rfl (by simp) rfl (fun v w h => h)) (sq_out (s := 11) rfl rfl (fun _ _ => rfl)) (fun ρ w h => by simp [execOp, go_sem, h]) (fun _ => rfl)
          · exact q_loadErr (r := 0) hp (free_of rfl) (gq_some rfl rfl (by simp) rfl (fun v w h => h)) (List.mem_iff_getElem?.2 ⟨0, rfl⟩) (.inl rfl) rfl (sq_in 15 rfl rfl (by simp) rfl (fun v w h => h)) (fun us w hl h => ld_got2 hl h) (fun _ => rfl)
          · exact q_one (F := fun v _ => v = .int .i64 0) hp (free_of rfl) (gq_some rfl rfl (by simp) rfl (fun v w h => h)) (sq_in 16 rfl rfl (by simp) rfl (fun v w h => h)) (fun ρ w hc h => ⟨.bool false, by simp [execOp, go_sem, h, hc], rfl⟩)
          · exact q_move hp (free_of rfl) (gq_some rfl rfl (by simp) rfl (fun v w h => h)) (sq_in 17 rfl rfl (by simp) rfl (fun v w h => h))
          · exact q_skip hp (free_of rfl) rfl (gq_some rfl rfl (by simp) rfl (fun v w h => h)) (fun _ => rfl)
          · exact q_skip hp (free_of rfl) rfl (gq_some rfl rfl (by simp) rfl (fun v w h => h)) (fun _ => rfl)
          · exact q_skip hp (free_of rfl) rfl (gq_some rfl rfl (by simp) rfl (fun v w h => h)) (fun _ => rfl)
          · exact q_two (F := fun v _ => v = .bool false) (G := fun v _ => v = .bool false) hp (free_of rfl) (gq_some rfl rfl (by simp) rfl (fun v w h => h)) (sq_in 18 rfl rfl (by simp) rfl (fun v w h => h)) (sq_const (fun _ => rfl)) (fun ρ w hc h h' => ⟨_, by simp [execOp, go_sem, h, h'], rfl⟩)
          · exact q_two (F := fun v _ => v = .bool false) (G := fun v _ => v = .bool false) hp (free_of rfl) trivial (sq_in 14 rfl rfl (by simp) rfl (fun v w h => h)) (sq_in 22 rfl rfl (by simp) rfl (fun v w h => h)) (fun ρ w hc h h' => ⟨_, by simp [execOp, go_sem, h, h'], rfl⟩)
          intro L vs w24 nb hL hC hn E24
          have e2 : vs 2 = .int .i64 (cmpI Q (2)) := hC 2 (by simp)
          have e3 : vs 3 = .bool true := hC 3 (by simp)
          have e4 : vs 4 = .bool true := hC 4 (by simp)
          have e5 : vs 5 = .pointer (some ⟨b23_3, 2, none⟩) := hC 5 (by simp)
          have e6 : vs 6 = .int .i64 0 := hC 6 (by simp)
          have e7 : vs 7 = .bool true := hC 7 (by simp)
          have e10 : vs 10 = .int .i64 K := hC 10 (by simp)
          have e11 : vs 11 = .bool true := hC 11 (by simp)
          have e12 : vs 12 = .bool false := hC 12 (by simp)
          have e13 : vs 13 = .bool false := hC 13 (by simp)
          have e14 : vs 14 = .bool false := hC 14 (by simp)
          have e15 : vs 15 = .pointer (some ⟨b23_3, 2, none⟩) := hC 15 (by simp)
          have e16 : vs 16 = .int .i64 0 := hC 16 (by simp)
          have e17 : vs 17 = .bool false := hC 17 (by simp)
          have e18 : vs 18 = .bool false := hC 18 (by simp)
          have e19 : vs 19 = undef := hC 19 (by simp)
          have e20 : vs 20 = undef := hC 20 (by simp)
          have e21 : vs 21 = undef := hC 21 (by simp)
          have e22 : vs 22 = .bool false := hC 22 (by simp)
          have e23 : vs 23 = .bool false := hC 23 (by simp)
          have E : Fr w [(b23_3, 3, Fq.got z 0), (b10_4, 2, Fq.num Q), (b8_2, 2, Fq.num a), (b7_4, 4, Fq.ints [P, G]), (b6_4, 2, Fq.num G), (b1, 2, Fq.raw n1 a1 k1 c1 xs1)] w24 := E24
          rw [lay_all hL]
          simp only [putAll, dstOf, List.length_cons, List.length_nil, Nat.zero_add, Nat.reduceAdd, List.getElem?_toArray, List.getElem?_cons_zero, List.getElem?_cons_succ, Option.bind_some, Act.put, List.setIfInBounds_toArray, List.set_cons_succ, List.set_cons_zero]
          rw [e2, e3, e4, e5, e6, e7, e10, e11, e12, e13, e14, e15, e16, e17, e18, e19, e20, e21, e22, e23]
          generalize vs 0 = u24_0
          generalize vs 1 = u24_1
          generalize vs 8 = u24_8
          generalize vs 9 = u24_9
          clear e2 e3 e4 e5 e6 e7 e10 e11 e12 e13 e14 e15 e16 e17 e18 e19 e20 e21 e22 e23 hC hn E24 hL vs L nb
          clear T2 T3 HK
          go_upto_region 14 with (fail)
          refine region_fr (C := [Fq.is (.pointer (some ⟨b23_3, 2, none⟩)), Fq.is (.int .i64 0), Fq.is (.bool false)]) (ks := [none, none, none, none, none, none]) (new := []) E rfl (by kernel_rfl) rfl rfl (fun hp => ⟨?_, ?_, ?_, trivial⟩) ?_
          · exact q_addr (b := b23_3) (off := 0) (off' := 2) hp (free_of rfl) trivial (sq_out (s := 11) rfl rfl (fun _ _ => rfl)) (fun ρ w h => by simp [execOp, go_sem, h]) (fun _ => rfl)
          · exact q_loadErr (r := 0) hp (free_of rfl) trivial (List.mem_iff_getElem?.2 ⟨0, rfl⟩) (.inl rfl) rfl (sq_in 0 rfl rfl (by simp) rfl (fun v w h => h)) (fun us w hl h => ld_got2 hl h) (fun _ => rfl)
          · exact q_one (F := fun v _ => v = .int .i64 0) hp (free_of rfl) trivial (sq_in 1 rfl rfl (by simp) rfl (fun v w h => h)) (fun ρ w hc h => ⟨.bool false, by simp [execOp, go_sem, h, hc], rfl⟩)
          intro L vs w25 nb hL hC hn E25
          have e0 : vs 0 = .pointer (some ⟨b23_3, 2, none⟩) := hC 0 (by simp)
          have e1 : vs 1 = .int .i64 0 := hC 1 (by simp)
          have e2 : vs 2 = .bool false := hC 2 (by simp)
          have E : Fr w [(b23_3, 3, Fq.got z 0), (b10_4, 2, Fq.num Q), (b8_2, 2, Fq.num a), (b7_4, 4, Fq.ints [P, G]), (b6_4, 2, Fq.num G), (b1, 2, Fq.raw n1 a1 k1 c1 xs1)] w25 := E25
          rw [lay_all hL]
          simp only [putAll, dstOf, List.length_cons, List.length_nil, Nat.zero_add, Nat.reduceAdd, List.getElem?_toArray, List.getElem?_cons_zero, List.getElem?_cons_succ, Option.bind_some, Act.put, List.setIfInBounds_toArray, List.set_cons_succ, List.set_cons_zero]
          rw [e0, e1, e2]
          clear e0 e1 e2 hC hn E25 hL vs L nb
          go_upto_region 15 with (fail)
          have B26 : Hid (ab ((z * z)) < pw 180) := ab_mulM Bz.out Bz.out (by omega)
          have B27 : Hid (ab (((z * z) - a)) < pw 181) := ab_subB B26.out Ba.out (by omega) (by omega)
          have B28 : Hid (ab ((((z * z) - a) % Q)) < pw 90) := ab_modB NQ.out BQ.out
          refine region_fr (C := [Fq.is (.pointer (some ⟨b23_3, 0, none⟩)), Fq.num z, Fq.is (.pointer (some ⟨b23_3, 0, none⟩)), Fq.num z, Fq.num (z * z), Fq.num a, Fq.num ((z * z) - a), Fq.num Q, Fq.tup2 (Fq.num (((z * z) - a) % Q)) (Fq.is (.int .i64 0)), Fq.tup2 (Fq.num (((z * z) - a) % Q)) (Fq.is (.int .i64 0)), Fq.num (((z * z) - a) % Q), Fq.is (.int .i64 0), Fq.any, Fq.any, Fq.is (.int .i64 0)]) (ks := [none, none, none, none, none, none]) (new := [⟨12, 13, 2, Fq.num 0, Fq.num (((z * z) - a) % Q), none⟩]) E rfl (by kernel_rfl) rfl rfl (fun hp => ⟨?_, ?_, ?_, ?_, ?_, ?_, ?_, ?_, ?_, ?_, ?_, ?_, ?_, ?_, ?_, trivial⟩) ?_
          · exact q_addr (b := b23_3) (off := 0) (off' := 0) hp (free_of rfl) trivial (sq_out (s := 11) rfl rfl (fun _ _ => rfl)) (fun ρ w h => by simp [execOp, go_sem, h]) (fun _ => rfl)
          · exact q_loadInt (off := 0) hp (free_of rfl) trivial (List.mem_iff_getElem?.2 ⟨0, rfl⟩) (.inl rfl) (Nat.le_of_ble_eq_true rfl) (sq_in 0 rfl rfl (by simp) rfl (fun v w h => h)) (fun us w hl h => ld_got hl h)
          · exact q_addr (b := b23_3) (off := 0) (off' := 0) hp (free_of rfl) trivial (sq_out (s := 11) rfl rfl (fun _ _ => rfl)) (fun ρ w h => by simp [execOp, go_sem, h]) (fun _ => rfl)
          · exact q_loadInt (off := 0) hp (free_of rfl) trivial (List.mem_iff_getElem?.2 ⟨0, rfl⟩) (.inl rfl) (Nat.le_of_ble_eq_true rfl) (sq_in 2 rfl rfl (by simp) rfl (fun v w h => h)) (fun us w hl h => ld_got hl h)
          · exact q_call2 (F := (Fq.num z).P) (G := (Fq.num z).P) hp (free_of rfl) trivial (enq_Mul) (sq_in 1 rfl rfl (by simp) rfl (fun v w h => h)) (sq_in 3 rfl rfl (by simp) rfl (fun v w h => h)) (fun v v' w h h' => exK (MulV h h') B26.out (by omega))
          · exact q_loadInt (off := 0) hp (free_of rfl) trivial (List.mem_iff_getElem?.2 ⟨2, rfl⟩) (.inl rfl) (Nat.le_of_ble_eq_true rfl) (sq_out (s := 8) rfl rfl (fun _ _ => rfl)) (fun us w hl h => ld_num hl h)
          · exact q_call2 (F := (Fq.num (z * z)).P) (G := (Fq.num a).P) hp (free_of rfl) trivial (enq_Sub) (sq_in 4 rfl rfl (by simp) rfl (fun v w h => h)) (sq_in 5 rfl rfl (by simp) rfl (fun v w h => h)) (fun v v' w h h' => exK (SubV h h') B27.out (by omega))
          · exact q_loadInt (off := 0) hp (free_of rfl) trivial (List.mem_iff_getElem?.2 ⟨1, rfl⟩) (.inl rfl) (Nat.le_of_ble_eq_true rfl) (sq_out (s := 10) rfl rfl (fun _ _ => rfl)) (fun us w hl h => ld_num hl h)
          · exact q_call2 (F := (Fq.num ((z * z) - a)).P) (G := (Fq.num Q).P) hp (free_of rfl) trivial (enq_M_Mod) (sq_in 6 rfl rfl (by simp) rfl (fun v w h => h)) (sq_in 7 rfl rfl (by simp) rfl (fun v w h => h)) (fun v v' w h h' => exModP h h' (Int.lt_of_lt_of_le B27.out (pw_le (by omega))) (Int.lt_of_lt_of_le BQ.out (pw_le (by omega))) PQ.out)
          · exact q_move hp (free_of rfl) trivial (sq_in 8 rfl rfl (by simp) rfl (fun v w h => h))
          · exact q_extract2 hp (free_of rfl) trivial (sq_in 9 rfl rfl (by simp) rfl (fun v w h => h)) (fun v1 v2 w h1 h2 => ⟨_, rfl, h1⟩)
          · exact q_extract2 hp (free_of rfl) trivial (sq_in 9 rfl rfl (by simp) rfl (fun v w h => h)) (fun v1 v2 w h1 h2 => ⟨_, rfl, h2⟩)
          · exact q_allocInt hp (List.mem_iff_getElem?.2 ⟨0, rfl⟩) rfl rfl rfl rfl (Nat.ne_of_beq_eq_false rfl) (fun _ _ => trivial) (old_ne rfl) (newk_ne rfl) (fun w => Num.zero w)
          · exact q_storeNewInt hp (List.mem_iff_getElem?.2 ⟨0, rfl⟩) rfl rfl rfl (own_ptr rfl rfl (by simp) rfl) (sq_in 10 rfl rfl (by simp) rfl (fun v w h => intV_num h)) (fun _ _ => trivial) (old_ne rfl) (newi_ne rfl)
          · exact q_assign hp (free_of rfl) trivial (sq_in 11 rfl rfl (by simp) rfl (fun v w h => h))
          intro L vs w29 nb hL hC hn E29
          have e0 : vs 0 = .pointer (some ⟨b23_3, 0, none⟩) := hC 0 (by simp)
          have e2 : vs 2 = .pointer (some ⟨b23_3, 0, none⟩) := hC 2 (by simp)
          have e11 : vs 11 = .int .i64 0 := hC 11 (by simp)
          have e14 : vs 14 = .int .i64 0 := hC 14 (by simp)
          have e12 : vs 12 = .pointer (some ⟨nb 12, 0, none⟩) := hn _ (List.mem_iff_getElem?.2 ⟨0, rfl⟩)
          have E : Fr w [(nb 12, 2, Fq.num (((z * z) - a) % Q)), (b23_3, 3, Fq.got z 0), (b10_4, 2, Fq.num Q), (b8_2, 2, Fq.num a), (b7_4, 4, Fq.ints [P, G]), (b6_4, 2, Fq.num G), (b1, 2, Fq.raw n1 a1 k1 c1 xs1)] w29 := E29
          rw [lay_all hL]
          simp only [putAll, dstOf, List.length_cons, List.length_nil, Nat.zero_add, Nat.reduceAdd, List.getElem?_toArray, List.getElem?_cons_zero, List.getElem?_cons_succ, Option.bind_some, Act.put, List.setIfInBounds_toArray, List.set_cons_succ, List.set_cons_zero]
          rw [e0, e2, e11, e14, e12]
          generalize nb 12 = b29_12 at E ⊢
          generalize vs 1 = u29_1
          generalize vs 3 = u29_3
          generalize vs 4 = u29_4
          generalize vs 5 = u29_5
          generalize vs 6 = u29_6
          generalize vs 7 = u29_7
          generalize vs 8 = u29_8
          generalize vs 9 = u29_9
          generalize vs 10 = u29_10
          clear e0 e2 e11 e14 e12 hC hn E29 hL vs L nb
          go_upto_region 16 with (fail)
          have B30 : Hid (ab ((-z)) < pw 90) := ab_negB Bz.out
          have B31 : Hid (ab (((-z) % Q)) < pw 90) := ab_modB NQ.out BQ.out
          refine region_fr (C := [Fq.is (.pointer (some ⟨b23_3, 0, none⟩)), Fq.num z, Fq.num (-z), Fq.num Q, Fq.tup2 (Fq.num ((-z) % Q)) (Fq.is (.int .i64 0)), Fq.tup2 (Fq.num ((-z) % Q)) (Fq.is (.int .i64 0)), Fq.num ((-z) % Q), Fq.is (.int .i64 0), Fq.any, Fq.any, Fq.is (.int .i64 0)]) (ks := [none, none, none, none, none, none, none]) (new := [⟨8, 9, 2, Fq.num 0, Fq.num ((-z) % Q), none⟩]) E rfl (by kernel_rfl) rfl rfl (fun hp => ⟨?_, ?_, ?_, ?_, ?_, ?_, ?_, ?_, ?_, ?_, ?_, trivial⟩) ?_
          · exact q_addr (b := b23_3) (off := 0) (off' := 0) hp (free_of rfl) trivial (sq_out (s := 11) rfl rfl (fun _ _ => rfl)) (fun ρ w h => by simp [execOp, go_sem, h]) (fun _ => rfl)
          · exact q_loadInt (off := 0) hp (free_of rfl) trivial (List.mem_iff_getElem?.2 ⟨1, rfl⟩) (.inl rfl) (Nat.le_of_ble_eq_true rfl) (sq_in 0 rfl rfl (by simp) rfl (fun v w h => h)) (fun us w hl h => ld_got hl h)
          · exact q_call1 (F := (Fq.num z).P) hp (free_of rfl) trivial (enq_Neg) (sq_in 1 rfl rfl (by simp) rfl (fun v w h => h)) (fun v w h => exK (NegV h) B30.out (by omega))
          · exact q_loadInt (off := 0) hp (free_of rfl) trivial (List.mem_iff_getElem?.2 ⟨2, rfl⟩) (.inl rfl) (Nat.le_of_ble_eq_true rfl) (sq_out (s := 10) rfl rfl (fun _ _ => rfl)) (fun us w hl h => ld_num hl h)
          · exact q_call2 (F := (Fq.num (-z)).P) (G := (Fq.num Q).P) hp (free_of rfl) trivial (enq_M_Mod) (sq_in 2 rfl rfl (by simp) rfl (fun v w h => h)) (sq_in 3 rfl rfl (by simp) rfl (fun v w h => h)) (fun v v' w h h' => exModP h h' (Int.lt_of_lt_of_le B30.out (pw_le (by omega))) (Int.lt_of_lt_of_le BQ.out (pw_le (by omega))) PQ.out)
          · exact q_move hp (free_of rfl) trivial (sq_in 4 rfl rfl (by simp) rfl (fun v w h => h))
          · exact q_extract2 hp (free_of rfl) trivial (sq_in 5 rfl rfl (by simp) rfl (fun v w h => h)) (fun v1 v2 w h1 h2 => ⟨_, rfl, h1⟩)
          · exact q_extract2 hp (free_of rfl) trivial (sq_in 5 rfl rfl (by simp) rfl (fun v w h => h)) (fun v1 v2 w h1 h2 => ⟨_, rfl, h2⟩)
          · exact q_allocInt hp (List.mem_iff_getElem?.2 ⟨0, rfl⟩) rfl rfl rfl rfl (Nat.ne_of_beq_eq_false rfl) (fun _ _ => trivial) (old_ne rfl) (newk_ne rfl) (fun w => Num.zero w)
          · exact q_storeNewInt hp (List.mem_iff_getElem?.2 ⟨0, rfl⟩) rfl rfl rfl (own_ptr rfl rfl (by simp) rfl) (sq_in 6 rfl rfl (by simp) rfl (fun v w h => intV_num h)) (fun _ _ => trivial) (old_ne rfl) (newi_ne rfl)
          · exact q_assign hp (free_of rfl) trivial (sq_in 7 rfl rfl (by simp) rfl (fun v w h => h))
          intro L vs w32 nb hL hC hn E32
          have e0 : vs 0 = .pointer (some ⟨b23_3, 0, none⟩) := hC 0 (by simp)
          have e7 : vs 7 = .int .i64 0 := hC 7 (by simp)
          have e10 : vs 10 = .int .i64 0 := hC 10 (by simp)
          have e8 : vs 8 = .pointer (some ⟨nb 8, 0, none⟩) := hn _ (List.mem_iff_getElem?.2 ⟨0, rfl⟩)
          have E : Fr w [(nb 8, 2, Fq.num ((-z) % Q)), (b29_12, 2, Fq.num (((z * z) - a) % Q)), (b23_3, 3, Fq.got z 0), (b10_4, 2, Fq.num Q), (b8_2, 2, Fq.num a), (b7_4, 4, Fq.ints [P, G]), (b6_4, 2, Fq.num G), (b1, 2, Fq.raw n1 a1 k1 c1 xs1)] w32 := E32
          rw [lay_all hL]
          simp only [putAll, dstOf, List.length_cons, List.length_nil, Nat.zero_add, Nat.reduceAdd, List.getElem?_toArray, List.getElem?_cons_zero, List.getElem?_cons_succ, Option.bind_some, Act.put, List.setIfInBounds_toArray, List.set_cons_succ, List.set_cons_zero]
          rw [e0, e7, e10, e8]
          generalize nb 8 = b32_8 at E ⊢
          generalize vs 1 = u32_1
          generalize vs 2 = u32_2
          generalize vs 3 = u32_3
          generalize vs 4 = u32_4
          generalize vs 5 = u32_5
          generalize vs 6 = u32_6
          clear e0 e7 e10 e8 hC hn E32 hL vs L nb
          by_cases hzz : (-z) % Q = 0
          · have T5 : Hid (cmpI ((-z) % Q) 0 = 0) := cmpIq0.2 hzz
            clear hzz HZ3
            go_upto_region 17 with (fail)
            refine region_fr (C := [Fq.is (.int .i64 0), Fq.is (.bool false), Fq.is (.bool false), Fq.is (.int .i64 0), Fq.is (.bool false), Fq.is (.bool false), Fq.is (.bool false), Fq.num (((z * z) - a) % Q), Fq.is (.int .i64 (cmpI (((z * z) - a) % Q) 0)), Fq.is (.bool false), Fq.is (.bool false), Fq.is (.bool false), Fq.is (.pointer (some ⟨b23_3, 0, none⟩)), Fq.num z, Fq.is (.int .i64 (cmpI z 0)), Fq.is (.bool false), Fq.is (.bool false), Fq.is (.bool false), Fq.is (.pointer (some ⟨b23_3, 0, none⟩)), Fq.num z, Fq.num Q, Fq.is (.int .i64 (cmpI z Q)), Fq.is (.bool false), Fq.is (.bool false), Fq.is (.bool false), Fq.num ((-z) % Q), Fq.is (.int .i64 (cmpI ((-z) % Q) 0)), Fq.is (.bool false), Fq.is (.bool false), Fq.is (undef), Fq.is (undef), Fq.is (undef), Fq.is (undef), Fq.is (undef), Fq.is (.bool false), Fq.is (.bool false)]) (ks := [none, none, none, none, none, none, none, none]) (new := []) E rfl (by kernel_rfl) rfl rfl (fun hp => ⟨?_, ?_, ?_, ?_, ?_, ?_, ?_, ?_, ?_, ?_, ?_, ?_, ?_, ?_, ?_, ?_, ?_, ?_, ?_, ?_, ?_, ?_, ?_, ?_, ?_, ?_, ?_, ?_, ?_, ?_, ?_, ?_, ?_, ?_, ?_, ?_, trivial⟩) ?_
            · exact q_move hp (free_of rfl) trivial (sq_out (s := 13) rfl rfl (fun _ _ => rfl))
            · exact q_one (F := fun v _ => v = .int .i64 0) hp (free_of rfl) trivial (sq_in 0 rfl rfl (by simp) rfl (fun v w h => h)) (fun ρ w hc h => ⟨.bool false, by simp [execOp, go_sem, h, hc], rfl⟩)
            · exact q_move hp (free_of rfl) trivial (sq_in 1 rfl rfl (by simp) rfl (fun v w h => h))
            · exact q_move hp (free_of rfl) (gq_some rfl rfl (by simp) rfl (fun v w h => h)) (sq_out (s := 15) rfl rfl (fun _ _ => rfl))
            · exact q_one (F := fun v _ => v = .int .i64 0) hp (free_of rfl) (gq_some rfl rfl (by simp) rfl (fun v w h => h)) (sq_in 3 rfl rfl (by simp) rfl (fun v w h => h)) (fun ρ w hc h => ⟨.bool false, by simp [execOp, go_sem, h, hc], rfl⟩)
            · exact q_two (F := fun v _ => v = .bool false) (G := fun v _ => v = .bool false) hp (free_of rfl) trivial (sq_in 2 rfl rfl (by simp) rfl (fun v w h => h)) (sq_in 4 rfl rfl (by simp) rfl (fun v w h => h)) (fun ρ w hc h h' => ⟨_, by simp [execOp, go_sem, h, h'], rfl⟩)
            · exact q_move hp (free_of rfl) trivial (sq_in 5 rfl rfl (by simp) rfl (fun v w h => h))
            · exact q_loadInt (off := 0) hp (free_of rfl) (gq_some rfl rfl (by simp) rfl (fun v w h => h)) (List.mem_iff_getElem?.2 ⟨1, rfl⟩) (.inl rfl) (Nat.le_of_ble_eq_true rfl) (sq_out (s := 12) rfl rfl (fun _ _ => rfl)) (fun us w hl h => ld_num hl h)
            · exact q_call1 (F := (Fq.num (((z * z) - a) % Q)).P) hp (free_of rfl) (gq_some rfl rfl (by simp) rfl (fun v w h => h)) (enq_Sign) (sq_in 7 rfl rfl (by simp) rfl (fun v w h => h)) (fun v w h => exSign h)
            · exact q_one (F := fun v _ => v = .int .i64 (cmpI (((z * z) - a) % Q) 0)) hp (free_of rfl) (gq_some rfl rfl (by simp) rfl (fun v w h => h)) (sq_in 8 rfl rfl (by simp) rfl (fun v w h => h)) (fun ρ w hc h => ⟨.bool false, by simp [execOp, go_sem, h, hc, U1.out], rfl⟩)
            · exact q_two (F := fun v _ => v = .bool false) (G := fun v _ => v = .bool false) hp (free_of rfl) trivial (sq_in 6 rfl rfl (by simp) rfl (fun v w h => h)) (sq_in 9 rfl rfl (by simp) rfl (fun v w h => h)) (fun ρ w hc h h' => ⟨_, by simp [execOp, go_sem, h, h'], rfl⟩)
            · exact q_move hp (free_of rfl) trivial (sq_in 10 rfl rfl (by simp) rfl (fun v w h => h))
            · exact q_addr (b := b23_3) (off := 0) (off' := 0) hp (free_of rfl) (gq_some rfl rfl (by simp) rfl (fun v w h => h)) (sq_out (s := 11) rfl rfl (fun _ _ => rfl)) (fun ρ w h => by simp [execOp, go_sem, h]) (fun _ => rfl)
            · exact q_loadInt (off := 0) hp (free_of rfl) (gq_some rfl rfl (by simp) rfl (fun v w h => h)) (List.mem_iff_getElem?.2 ⟨2, rfl⟩) (.inl rfl) (Nat.le_of_ble_eq_true rfl) (sq_in 12 rfl rfl (by simp) rfl (fun v w h => h)) (fun us w hl h => ld_got hl h)
            · exact q_call1 (F := (Fq.num z).P) hp (free_of rfl) (gq_some rfl rfl (by simp) rfl (fun v w h => h)) (enq_Sign) (sq_in 13 rfl rfl (by simp) rfl (fun v w h => h)) (fun v w h => exSign h)
            · exact q_one (F := fun v _ => v = .int .i64 (cmpI z 0)) hp (free_of rfl) (gq_some rfl rfl (by simp) rfl (fun v w h => h)) (sq_in 14 rfl rfl (by simp) rfl (fun v w h => h)) (fun ρ w hc h => ⟨.bool false, by simp [execOp, go_sem, h, hc, U2.out], rfl⟩)
            · exact q_two (F := fun v _ => v = .bool false) (G := fun v _ => v = .bool false) hp (free_of rfl) trivial (sq_in 11 rfl rfl (by simp) rfl (fun v w h => h)) (sq_in 15 rfl rfl (by simp) rfl (fun v w h => h)) (fun ρ w hc h h' => ⟨_, by simp [execOp, go_sem, h, h'], rfl⟩)
            · exact q_move hp (free_of rfl) trivial (sq_in 16 rfl rfl (by simp) rfl (fun v w h => h))
            · exact q_addr (b := b23_3) (off := 0) (off' := 0) hp (free_of rfl) (gq_some rfl rfl (by simp) rfl (fun v w h => h)) (sq_out (s := 11) rfl rfl (fun _ _ => rfl)) (fun ρ w h => by simp [execOp, go_sem, h]) (fun _ => rfl)
            · exact q_loadInt (off := 0) hp (free_of rfl) (gq_some rfl rfl (by simp) rfl (fun v w h => h)) (List.mem_iff_getElem?.2 ⟨2, rfl⟩) (.inl rfl) (Nat.le_of_ble_eq_true rfl) (sq_in 18 rfl rfl (by simp) rfl (fun v w h => h)) (fun us w hl h => ld_got hl h)
            · exact q_loadInt (off := 0) hp (free_of rfl) (gq_some rfl rfl (by simp) rfl (fun v w h => h)) (List.mem_iff_getElem?.2 ⟨3, rfl⟩) (.inl rfl) (Nat.le_of_ble_eq_true rfl) (sq_out (s := 10) rfl rfl (fun _ _ => rfl)) (fun us w hl h => ld_num hl h)
            · exact q_call2 (F := (Fq.num z).P) (G := (Fq.num Q).P) hp (free_of rfl) (gq_some rfl rfl (by simp) rfl (fun v w h => h)) (enq_Cmp) (sq_in 19 rfl rfl (by simp) rfl (fun v w h => h)) (sq_in 20 rfl rfl (by simp) rfl (fun v w h => h)) (fun v v' w h h' => exCmp h h')
            · exact q_one (F := fun v _ => v = .int .i64 (cmpI z Q)) hp (free_of rfl) (gq_some rfl rfl (by simp) rfl (fun v w h => h)) (sq_in 21 rfl rfl (by simp) rfl (fun v w h => h)) (fun ρ w hc h => ⟨.bool false, by simp [execOp, go_sem, h, hc, U3.out], rfl⟩)
            · exact q_two (F := fun v _ => v = .bool false) (G := fun v _ => v = .bool false) hp (free_of rfl) trivial (sq_in 17 rfl rfl (by simp) rfl (fun v w h => h)) (sq_in 22 rfl rfl (by simp) rfl (fun v w h => h)) (fun ρ w hc h h' => ⟨_, by simp [execOp, go_sem, h, h'], rfl⟩)
            · exact q_move hp (free_of rfl) trivial (sq_in 23 rfl rfl (by simp) rfl (fun v w h => h))
            · exact q_loadInt (off := 0) hp (free_of rfl) (gq_some rfl rfl (by simp) rfl (fun v w h => h)) (List.mem_iff_getElem?.2 ⟨0, rfl⟩) (.inl rfl) (Nat.le_of_ble_eq_true rfl) (sq_out (s := 14) rfl rfl (fun _ _ => rfl)) (fun us w hl h => ld_num hl h)
            · exact q_call1 (F := (Fq.num ((-z) % Q)).P) hp (free_of rfl) (gq_some rfl rfl (by simp) rfl (fun v w h => h)) (enq_Sign) (sq_in 25 rfl rfl (by simp) rfl (fun v w h => h)) (fun v w h => exSign h)
            · exact q_one (F := fun v _ => v = .int .i64 (cmpI ((-z) % Q) 0)) hp (free_of rfl) (gq_some rfl rfl (by simp) rfl (fun v w h => h)) (sq_in 26 rfl rfl (by simp) rfl (fun v w h => h)) (fun ρ w hc h => ⟨.bool false, by simp [execOp, go_sem, h, hc, T5.out], rfl⟩)
            · exact q_move hp (free_of rfl) (gq_some rfl rfl (by simp) rfl (fun v w h => h)) (sq_in 27 rfl rfl (by simp) rfl (fun v w h => h))
            · exact q_skip hp (free_of rfl) rfl (gq_some rfl rfl (by simp) rfl (fun v w h => h)) (fun _ => rfl)
            · exact q_skip hp (free_of rfl) rfl (gq_some rfl rfl (by simp) rfl (fun v w h => h)) (fun _ => rfl)
            · exact q_skip hp (free_of rfl) rfl (gq_some rfl rfl (by simp) rfl (fun v w h => h)) (fun _ => rfl)
            · exact q_skip hp (free_of rfl) rfl (gq_some rfl rfl (by simp) rfl (fun v w h => h)) (fun _ => rfl)
            · exact q_skip hp (free_of rfl) rfl (gq_some rfl rfl (by simp) rfl (fun v w h => h)) (fun _ => rfl)
            · exact q_two (F := fun v _ => v = .bool false) (G := fun v _ => v = .bool false) hp (free_of rfl) (gq_some rfl rfl (by simp) rfl (fun v w h => h)) (sq_in 28 rfl rfl (by simp) rfl (fun v w h => h)) (sq_const (fun _ => rfl)) (fun ρ w hc h h' => ⟨_, by simp [execOp, go_sem, h, h'], rfl⟩)
            · exact q_two (F := fun v _ => v = .bool false) (G := fun v _ => v = .bool false) hp (free_of rfl) trivial (sq_in 24 rfl rfl (by simp) rfl (fun v w h => h)) (sq_in 34 rfl rfl (by simp) rfl (fun v w h => h)) (fun ρ w hc h h' => ⟨_, by simp [execOp, go_sem, h, h'], rfl⟩)
            intro L vs w33 nb hL hC hn E33
            have e0 : vs 0 = .int .i64 0 := hC 0 (by simp)
            have e1 : vs 1 = .bool false := hC 1 (by simp)
            have e2 : vs 2 = .bool false := hC 2 (by simp)
            have e3 : vs 3 = .int .i64 0 := hC 3 (by simp)
            have e4 : vs 4 = .bool false := hC 4 (by simp)
            have e5 : vs 5 = .bool false := hC 5 (by simp)
            have e6 : vs 6 = .bool false := hC 6 (by simp)
            have e8 : vs 8 = .int .i64 (cmpI (((z * z) - a) % Q) 0) := hC 8 (by simp)
            have e9 : vs 9 = .bool false := hC 9 (by simp)
            have e10 : vs 10 = .bool false := hC 10 (by simp)
            have e11 : vs 11 = .bool false := hC 11 (by simp)
            have e12 : vs 12 = .pointer (some ⟨b23_3, 0, none⟩) := hC 12 (by simp)
            have e14 : vs 14 = .int .i64 (cmpI z 0) := hC 14 (by simp)
            have e15 : vs 15 = .bool false := hC 15 (by simp)
            have e16 : vs 16 = .bool false := hC 16 (by simp)
            have e17 : vs 17 = .bool false := hC 17 (by simp)
            have e18 : vs 18 = .pointer (some ⟨b23_3, 0, none⟩) := hC 18 (by simp)
            have e21 : vs 21 = .int .i64 (cmpI z Q) := hC 21 (by simp)
            have e22 : vs 22 = .bool false := hC 22 (by simp)
            have e23 : vs 23 = .bool false := hC 23 (by simp)
            have e24 : vs 24 = .bool false := hC 24 (by simp)
            have e26 : vs 26 = .int .i64 (cmpI ((-z) % Q) 0) := hC 26 (by simp)
            have e27 : vs 27 = .bool false := hC 27 (by simp)
            have e28 : vs 28 = .bool false := hC 28 (by simp)
            have e29 : vs 29 = undef := hC 29 (by simp)
            have e30 : vs 30 = undef := hC 30 (by simp)
            have e31 : vs 31 = undef := hC 31 (by simp)
            have e32 : vs 32 = undef := hC 32 (by simp)
            have e33 : vs 33 = undef := hC 33 (by simp)
            have e34 : vs 34 = .bool false := hC 34 (by simp)
            have e35 : vs 35 = .bool false := hC 35 (by simp)
            have E : Fr w [(b32_8, 2, Fq.num ((-z) % Q)), (b29_12, 2, Fq.num (((z * z) - a) % Q)), (b23_3, 3, Fq.got z 0), (b10_4, 2, Fq.num Q), (b8_2, 2, Fq.num a), (b7_4, 4, Fq.ints [P, G]), (b6_4, 2, Fq.num G), (b1, 2, Fq.raw n1 a1 k1 c1 xs1)] w33 := E33
            rw [lay_all hL]
            simp only [putAll, dstOf, List.length_cons, List.length_nil, Nat.zero_add, Nat.reduceAdd, List.getElem?_toArray, List.getElem?_cons_zero, List.getElem?_cons_succ, Option.bind_some, Act.put, List.setIfInBounds_toArray, List.set_cons_succ, List.set_cons_zero]
            rw [e0, e1, e2, e3, e4, e5, e6, e8, e9, e10, e11, e12, e14, e15, e16, e17, e18, e21, e22, e23, e24, e26, e27, e28, e29, e30, e31, e32, e33, e34, e35]
            generalize vs 7 = u33_7
            generalize vs 13 = u33_13
            generalize vs 19 = u33_19
            generalize vs 20 = u33_20
            generalize vs 25 = u33_25
            clear e0 e1 e2 e3 e4 e5 e6 e8 e9 e10 e11 e12 e14 e15 e16 e17 e18 e21 e22 e23 e24 e26 e27 e28 e29 e30 e31 e32 e33 e34 e35 hC hn E33 hL vs L nb
            go_wp2
            go_roundw
            case rel => exact ⟨i + 1, by rw [hw.out]; rfl, by have := HI.out; omega, Fr.drop (Fr.drop (Fr.drop (Fr.drop (E))))⟩
            case measure => rw [hw.out]; exact measR HI.out
          · have T5 : Hid (¬ cmpI ((-z) % Q) 0 = 0) := fun h => hzz (cmpIq0.1 h)
            have T6 : Hid (¬ 0 < cmpI z ((-z) % Q)) := fun h => by have := HZ3.out; have := cmpIqgt.1 h; omega
            clear hzz HZ3
            go_upto_region 17 with (fail)
            refine region_fr (C := [Fq.is (.int .i64 0), Fq.is (.bool false), Fq.is (.bool false), Fq.is (.int .i64 0), Fq.is (.bool false), Fq.is (.bool false), Fq.is (.bool false), Fq.num (((z * z) - a) % Q), Fq.is (.int .i64 (cmpI (((z * z) - a) % Q) 0)), Fq.is (.bool false), Fq.is (.bool false), Fq.is (.bool false), Fq.is (.pointer (some ⟨b23_3, 0, none⟩)), Fq.num z, Fq.is (.int .i64 (cmpI z 0)), Fq.is (.bool false), Fq.is (.bool false), Fq.is (.bool false), Fq.is (.pointer (some ⟨b23_3, 0, none⟩)), Fq.num z, Fq.num Q, Fq.is (.int .i64 (cmpI z Q)), Fq.is (.bool false), Fq.is (.bool false), Fq.is (.bool false), Fq.num ((-z) % Q), Fq.is (.int .i64 (cmpI ((-z) % Q) 0)), Fq.is (.bool true), Fq.is (.bool true), Fq.is (.pointer (some ⟨b23_3, 0, none⟩)), Fq.num z, Fq.num ((-z) % Q), Fq.is (.int .i64 (cmpI z ((-z) % Q))), Fq.is (.bool false), Fq.is (.bool false), Fq.is (.bool false)]) (ks := [none, none, none, none, none, none, none, none]) (new := []) E rfl (by kernel_rfl) rfl rfl (fun hp => ⟨?_, ?_, ?_, ?_, ?_, ?_, ?_, ?_, ?_, ?_, ?_, ?_, ?_, ?_, ?_, ?_, ?_, ?_, ?_, ?_, ?_, ?_, ?_, ?_, ?_, ?_, ?_, ?_, ?_, ?_, ?_, ?_, ?_, ?_, ?_, ?_, trivial⟩) ?_
            · exact q_move hp (free_of rfl) trivial (sq_out (s := 13) rfl rfl (fun _ _ => rfl))
            · exact q_one (F := fun v _ => v = .int .i64 0) hp (free_of rfl) trivial (sq_in 0 rfl rfl (by simp) rfl (fun v w h => h)) (fun ρ w hc h => ⟨.bool false, by simp [execOp, go_sem, h, hc], rfl⟩)
            · exact q_move hp (free_of rfl) trivial (sq_in 1 rfl rfl (by simp) rfl (fun v w h => h))
            · exact q_move hp (free_of rfl) (gq_some rfl rfl (by simp) rfl (fun v w h => h)) (sq_out (s := 15) rfl rfl (fun _ _ => rfl))
            · exact q_one (F := fun v _ => v = .int .i64 0) hp (free_of rfl) (gq_some rfl rfl (by simp) rfl (fun v w h => h)) (sq_in 3 rfl rfl (by simp) rfl (fun v w h => h)) (fun ρ w hc h => ⟨.bool false, by simp [execOp, go_sem, h, hc], rfl⟩)
            · exact q_two (F := fun v _ => v = .bool false) (G := fun v _ => v = .bool false) hp (free_of rfl) trivial (sq_in 2 rfl rfl (by simp) rfl (fun v w h => h)) (sq_in 4 rfl rfl (by simp) rfl (fun v w h => h)) (fun ρ w hc h h' => ⟨_, by simp [execOp, go_sem, h, h'], rfl⟩)
            · exact q_move hp (free_of rfl) trivial (sq_in 5 rfl rfl (by simp) rfl (fun v w h => h))
            · exact q_loadInt (off := 0) hp (free_of rfl) (gq_some rfl rfl (by simp) rfl (fun v w h => h)) (List.mem_iff_getElem?.2 ⟨1, rfl⟩) (.inl rfl) (Nat.le_of_ble_eq_true rfl) (sq_out (s := 12) rfl rfl (fun _ _ => rfl)) (fun us w hl h => ld_num hl h)
            · exact q_call1 (F := (Fq.num (((z * z) - a) % Q)).P) hp (free_of rfl) (gq_some rfl rfl (by simp) rfl (fun v w h => h)) (enq_Sign) (sq_in 7 rfl rfl (by simp) rfl (fun v w h => h)) (fun v w h => exSign h)
            · exact q_one (F := fun v _ => v = .int .i64 (cmpI (((z * z) - a) % Q) 0)) hp (free_of rfl) (gq_some rfl rfl (by simp) rfl (fun v w h => h)) (sq_in 8 rfl rfl (by simp) rfl (fun v w h => h)) (fun ρ w hc h => ⟨.bool false, by simp [execOp, go_sem, h, hc, U1.out], rfl⟩)
            · exact q_two (F := fun v _ => v = .bool false) (G := fun v _ => v = .bool false) hp (free_of rfl) trivial (sq_in 6 rfl rfl (by simp) rfl (fun v w h => h)) (sq_in 9 rfl rfl (by simp) rfl (fun v w h => h)) (fun ρ w hc h h' => ⟨_, by simp [execOp, go_sem, h, h'], rfl⟩)
            · exact q_move hp (free_of rfl) trivial (sq_in 10 rfl rfl (by simp) rfl (fun v w h => h))
            · exact q_addr (b := b23_3) (off := 0) (off' := 0) hp (free_of rfl) (gq_some rfl rfl (by simp) rfl (fun v w h => h)) (sq_out (s := 11) rfl rfl (fun _ _ => rfl)) (fun ρ w h => by simp [execOp, go_sem, h]) (fun _ => rfl)
            · exact q_loadInt (off := 0) hp (free_of rfl) (gq_some rfl rfl (by simp) rfl (fun v w h => h)) (List.mem_iff_getElem?.2 ⟨2, rfl⟩) (.inl rfl) (Nat.le_of_ble_eq_true rfl) (sq_in 12 rfl rfl (by simp) rfl (fun v w h => h)) (fun us w hl h => ld_got hl h)
            · exact q_call1 (F := (Fq.num z).P) hp (free_of rfl) (gq_some rfl rfl (by simp) rfl (fun v w h => h)) (enq_Sign) (sq_in 13 rfl rfl (by simp) rfl (fun v w h => h)) (fun v w h => exSign h)
            · exact q_one (F := fun v _ => v = .int .i64 (cmpI z 0)) hp (free_of rfl) (gq_some rfl rfl (by simp) rfl (fun v w h => h)) (sq_in 14 rfl rfl (by simp) rfl (fun v w h => h)) (fun ρ w hc h => ⟨.bool false, by simp [execOp, go_sem, h, hc, U2.out], rfl⟩)
            · exact q_two (F := fun v _ => v = .bool false) (G := fun v _ => v = .bool false) hp (free_of rfl) trivial (sq_in 11 rfl rfl (by simp) rfl (fun v w h => h)) (sq_in 15 rfl rfl (by simp) rfl (fun v w h => h)) (fun ρ w hc h h' => ⟨_, by simp [execOp, go_sem, h, h'], rfl⟩)
            · exact q_move hp (free_of rfl) trivial (sq_in 16 rfl rfl (by simp) rfl (fun v w h => h))
            · exact q_addr (b := b23_3) (off := 0) (off' := 0) hp (free_of rfl) (gq_some rfl rfl (by simp) rfl (fun v w h => h)) (sq_out (s := 11) rfl rfl (fun _ _ => rfl)) (fun ρ w h => by simp [execOp, go_sem, h]) (fun _ => rfl)
            · exact q_loadInt (off := 0) hp (free_of rfl) (gq_some rfl rfl (by simp) rfl (fun v w h => h)) (List.mem_iff_getElem?.2 ⟨2, rfl⟩) (.inl rfl) (Nat.le_of_ble_eq_true rfl) (sq_in 18 rfl rfl (by simp) rfl (fun v w h => h)) (fun us w hl h => ld_got hl h)
            · exact q_loadInt (off := 0) hp (free_of rfl) (gq_some rfl rfl (by simp) rfl (fun v w h => h)) (List.mem_iff_getElem?.2 ⟨3, rfl⟩) (.inl rfl) (Nat.le_of_ble_eq_true rfl) (sq_out (s := 10) rfl rfl (fun _ _ => rfl)) (fun us w hl h => ld_num hl h)
            · exact q_call2 (F := (Fq.num z).P) (G := (Fq.num Q).P) hp (free_of rfl) (gq_some rfl rfl (by simp) rfl (fun v w h => h)) (enq_Cmp) (sq_in 19 rfl rfl (by simp) rfl (fun v w h => h)) (sq_in 20 rfl rfl (by simp) rfl (fun v w h => h)) (fun v v' w h h' => exCmp h h')
            · exact q_one (F := fun v _ => v = .int .i64 (cmpI z Q)) hp (free_of rfl) (gq_some rfl rfl (by simp) rfl (fun v w h => h)) (sq_in 21 rfl rfl (by simp) rfl (fun v w h => h)) (fun ρ w hc h => ⟨.bool false, by simp [execOp, go_sem, h, hc, U3.out], rfl⟩)
            · exact q_two (F := fun v _ => v = .bool false) (G := fun v _ => v = .bool false) hp (free_of rfl) trivial (sq_in 17 rfl rfl (by simp) rfl (fun v w h => h)) (sq_in 22 rfl rfl (by simp) rfl (fun v w h => h)) (fun ρ w hc h h' => ⟨_, by simp [execOp, go_sem, h, h'], rfl⟩)
            · exact q_move hp (free_of rfl) trivial (sq_in 23 rfl rfl (by simp) rfl (fun v w h => h))
            · exact q_loadInt (off := 0) hp (free_of rfl) (gq_some rfl rfl (by simp) rfl (fun v w h => h)) (List.mem_iff_getElem?.2 ⟨0, rfl⟩) (.inl rfl) (Nat.le_of_ble_eq_true rfl) (sq_out (s := 14) rfl rfl (fun _ _ => rfl)) (fun us w hl h => ld_num hl h)
            · exact q_call1 (F := (Fq.num ((-z) % Q)).P) hp (free_of rfl) (gq_some rfl rfl (by simp) rfl (fun v w h => h)) (enq_Sign) (sq_in 25 rfl rfl (by simp) rfl (fun v w h => h)) (fun v w h => exSign h)
            · exact q_one (F := fun v _ => v = .int .i64 (cmpI ((-z) % Q) 0)) hp (free_of rfl) (gq_some rfl rfl (by simp) rfl (fun v w h => h)) (sq_in 26 rfl rfl (by simp) rfl (fun v w h => h)) (fun ρ w hc h => ⟨.bool true, by simp [execOp, go_sem, h, hc, T5.out], rfl⟩)
            · exact q_move hp (free_of rfl) (gq_some rfl rfl (by simp) rfl (fun v w h => h)) (sq_in 27 rfl rfl (by simp) rfl (fun v w h => h))
            · exact q_addr (b := b23_3) (off := 0) (off' := 0) hp (free_of rfl) (gq_some rfl rfl (by simp) rfl (fun v w h => h)) (sq_out (s := 11) rfl rfl (fun _ _ => rfl)) (fun ρ w h => by simp [execOp, go_sem, h]) (fun _ => rfl)
            · exact q_loadInt (off := 0) hp (free_of rfl) (gq_some rfl rfl (by simp) rfl (fun v w h => h)) (List.mem_iff_getElem?.2 ⟨2, rfl⟩) (.inl rfl) (Nat.le_of_ble_eq_true rfl) (sq_in 29 rfl rfl (by simp) rfl (fun v w h => h)) (fun us w hl h => ld_got hl h)
            · exact q_loadInt (off := 0) hp (free_of rfl) (gq_some rfl rfl (by simp) rfl (fun v w h => h)) (List.mem_iff_getElem?.2 ⟨0, rfl⟩) (.inl rfl) (Nat.le_of_ble_eq_true rfl) (sq_out (s := 14) rfl rfl (fun _ _ => rfl)) (fun us w hl h => ld_num hl h)
            · exact q_call2 (F := (Fq.num z).P) (G := (Fq.num ((-z) % Q)).P) hp (free_of rfl) (gq_some rfl rfl (by simp) rfl (fun v w h => h)) (enq_Cmp) (sq_in 30 rfl rfl (by simp) rfl (fun v w h => h)) (sq_in 31 rfl rfl (by simp) rfl (fun v w h => h)) (fun v v' w h h' => exCmp h h')
            · exact q_one (F := fun v _ => v = .int .i64 (cmpI z ((-z) % Q))) hp (free_of rfl) (gq_some rfl rfl (by simp) rfl (fun v w h => h)) (sq_in 32 rfl rfl (by simp) rfl (fun v w h => h)) (fun ρ w hc h => ⟨.bool false, by simp [execOp, go_sem, h, hc, T6.out], rfl⟩)
            · exact q_two (F := fun v _ => v = .bool true) (G := fun v _ => v = .bool false) hp (free_of rfl) (gq_some rfl rfl (by simp) rfl (fun v w h => h)) (sq_in 28 rfl rfl (by simp) rfl (fun v w h => h)) (sq_in 33 rfl rfl (by simp) rfl (fun v w h => h)) (fun ρ w hc h h' => ⟨_, by simp [execOp, go_sem, h, h'], rfl⟩)
            · exact q_two (F := fun v _ => v = .bool false) (G := fun v _ => v = .bool false) hp (free_of rfl) trivial (sq_in 24 rfl rfl (by simp) rfl (fun v w h => h)) (sq_in 34 rfl rfl (by simp) rfl (fun v w h => h)) (fun ρ w hc h h' => ⟨_, by simp [execOp, go_sem, h, h'], rfl⟩)
            intro L vs w34 nb hL hC hn E34
            have e0 : vs 0 = .int .i64 0 := hC 0 (by simp)
            have e1 : vs 1 = .bool false := hC 1 (by simp)
            have e2 : vs 2 = .bool false := hC 2 (by simp)
            have e3 : vs 3 = .int .i64 0 := hC 3 (by simp)
            have e4 : vs 4 = .bool false := hC 4 (by simp)
            have e5 : vs 5 = .bool false := hC 5 (by simp)
            have e6 : vs 6 = .bool false := hC 6 (by simp)
            have e8 : vs 8 = .int .i64 (cmpI (((z * z) - a) % Q) 0) := hC 8 (by simp)
            have e9 : vs 9 = .bool false := hC 9 (by simp)
            have e10 : vs 10 = .bool false := hC 10 (by simp)
            have e11 : vs 11 = .bool false := hC 11 (by simp)
            have e12 : vs 12 = .pointer (some ⟨b23_3, 0, none⟩) := hC 12 (by simp)
            have e14 : vs 14 = .int .i64 (cmpI z 0) := hC 14 (by simp)
            have e15 : vs 15 = .bool false := hC 15 (by simp)
            have e16 : vs 16 = .bool false := hC 16 (by simp)
            have e17 : vs 17 = .bool false := hC 17 (by simp)
            have e18 : vs 18 = .pointer (some ⟨b23_3, 0, none⟩) := hC 18 (by simp)
            have e21 : vs 21 = .int .i64 (cmpI z Q) := hC 21 (by simp)
            have e22 : vs 22 = .bool false := hC 22 (by simp)
            have e23 : vs 23 = .bool false := hC 23 (by simp)
            have e24 : vs 24 = .bool false := hC 24 (by simp)
            have e26 : vs 26 = .int .i64 (cmpI ((-z) % Q) 0) := hC 26 (by simp)
            have e27 : vs 27 = .bool true := hC 27 (by simp)
            have e28 : vs 28 = .bool true := hC 28 (by simp)
            have e29 : vs 29 = .pointer (some ⟨b23_3, 0, none⟩) := hC 29 (by simp)
            have e32 : vs 32 = .int .i64 (cmpI z ((-z) % Q)) := hC 32 (by simp)
            have e33 : vs 33 = .bool false := hC 33 (by simp)
            have e34 : vs 34 = .bool false := hC 34 (by simp)
            have e35 : vs 35 = .bool false := hC 35 (by simp)
            have E : Fr w [(b32_8, 2, Fq.num ((-z) % Q)), (b29_12, 2, Fq.num (((z * z) - a) % Q)), (b23_3, 3, Fq.got z 0), (b10_4, 2, Fq.num Q), (b8_2, 2, Fq.num a), (b7_4, 4, Fq.ints [P, G]), (b6_4, 2, Fq.num G), (b1, 2, Fq.raw n1 a1 k1 c1 xs1)] w34 := E34
            rw [lay_all hL]
            simp only [putAll, dstOf, List.length_cons, List.length_nil, Nat.zero_add, Nat.reduceAdd, List.getElem?_toArray, List.getElem?_cons_zero, List.getElem?_cons_succ, Option.bind_some, Act.put, List.setIfInBounds_toArray, List.set_cons_succ, List.set_cons_zero]
            rw [e0, e1, e2, e3, e4, e5, e6, e8, e9, e10, e11, e12, e14, e15, e16, e17, e18, e21, e22, e23, e24, e26, e27, e28, e29, e32, e33, e34, e35]
            generalize vs 7 = u34_7
            generalize vs 13 = u34_13
            generalize vs 19 = u34_19
            generalize vs 20 = u34_20
            generalize vs 25 = u34_25
            generalize vs 30 = u34_30
            generalize vs 31 = u34_31
            clear e0 e1 e2 e3 e4 e5 e6 e8 e9 e10 e11 e12 e14 e15 e16 e17 e18 e21 e22 e23 e24 e26 e27 e28 e29 e32 e33 e34 e35 hC hn E34 hL vs L nb
            go_wp2
            go_roundw
            case rel => exact ⟨i + 1, by rw [hw.out]; rfl, by have := HI.out; omega, Fr.drop (Fr.drop (Fr.drop (Fr.drop (E))))⟩
            case measure => rw [hw.out]; exact measR HI.out
      · obtain ⟨rfl, hq2, hkr⟩ := hno
        have T2 : Hid (¬ cmpI Q (2) = 0) := fun h => hq2 (by have := cmpI_eq0.1 h; omega)
        obtain ⟨K, hK⟩ : ∃ K, kron a Q = K := ⟨_, rfl⟩
        have HK := hidd hK
        have T3 : Hid (¬ 0 ≤ K) := by rw [hQ] at hK; show ¬ _; omega
        have NE : Hid (¬ (6 : Int) = 0) := by show ¬ _; decide
        clear hq2 hkr hK hQ hqp
        go_upto_region 11 with (fail)
        refine region_fr (C := [Fq.num a, Fq.num Q, Fq.got z 6, Fq.any, Fq.any]) (ks := [none, none, none, none, none]) (new := [⟨3, 4, 3, Fq.got 0 0, Fq.got z 6, none⟩]) E rfl (by kernel_rfl) rfl rfl (fun hp => ⟨?_, ?_, ?_, ?_, ?_, trivial⟩) ?_
        · exact q_loadInt (off := 0) hp (free_of rfl) trivial (List.mem_iff_getElem?.2 ⟨1, rfl⟩) (.inl rfl) (Nat.le_of_ble_eq_true rfl) (sq_out (s := 8) rfl rfl (fun _ _ => rfl)) (fun us w hl h => ld_num hl h)
        · exact q_loadInt (off := 0) hp (free_of rfl) trivial (List.mem_iff_getElem?.2 ⟨0, rfl⟩) (.inl rfl) (Nat.le_of_ble_eq_true rfl) (sq_out (s := 10) rfl rfl (fun _ _ => rfl)) (fun us w hl h => ld_num hl h)
        · exact q_call2W (F := (Fq.num a).P) (G := (Fq.num Q).P) hp (free_of rfl) trivial (enq_V_root) rfl (sq_in 0 rfl rfl (by simp) rfl (fun v w h => h)) (sq_in 1 rfl rfl (by simp) rfl (fun v w h => h)) (fun v v' w hbw h h' => HRT.out _ _ _ h h' (hT.out.mono hbw))
        · exact q_allocGot hp (List.mem_iff_getElem?.2 ⟨0, rfl⟩) rfl rfl rfl rfl (Nat.ne_of_beq_eq_false rfl) (fun _ _ => trivial) (old_ne rfl) (newk_ne rfl) (fun w => Got.zero w)
        · exact q_storeNewGot hp (List.mem_iff_getElem?.2 ⟨0, rfl⟩) rfl rfl rfl (own_ptr rfl rfl (by simp) rfl) (sq_in 2 rfl rfl (by simp) rfl (fun v w h => h.partsV)) (fun _ _ => trivial) (old_ne rfl) (newi_ne rfl)
        intro L vs w35 nb hL hC hn E35
        have e3 : vs 3 = .pointer (some ⟨nb 3, 0, none⟩) := hn _ (List.mem_iff_getElem?.2 ⟨0, rfl⟩)
        have E : Fr w [(nb 3, 3, Fq.got z 6), (b10_4, 2, Fq.num Q), (b8_2, 2, Fq.num a), (b7_4, 4, Fq.ints [P, G]), (b6_4, 2, Fq.num G), (b1, 2, Fq.raw n1 a1 k1 c1 xs1)] w35 := E35
        rw [lay_all hL]
        simp only [putAll, dstOf, List.length_cons, List.length_nil, Nat.zero_add, Nat.reduceAdd, List.getElem?_toArray, List.getElem?_cons_zero, List.getElem?_cons_succ, Option.bind_some, Act.put, List.setIfInBounds_toArray, List.set_cons_succ, List.set_cons_zero]
        rw [e3]
        generalize nb 3 = b35_3 at E ⊢
        generalize vs 0 = u35_0
        generalize vs 1 = u35_1
        generalize vs 2 = u35_2
        clear e3 hC hn E35 hL vs L nb
        clear HRT
        go_upto_region 12 with (fail)
        refine region_fr (C := [Fq.num Q, Fq.num (2), Fq.is (.int .i64 (cmpI Q (2))), Fq.is (.bool true), Fq.is (.bool true), Fq.is (.pointer (some ⟨b35_3, 2, none⟩)), Fq.is (.int .i64 6), Fq.is (.bool false), Fq.num a, Fq.num Q, Fq.is (.int .i64 K), Fq.is (.bool false), Fq.is (.bool false), Fq.is (.bool false), Fq.is (.bool false), Fq.is (.pointer (some ⟨b35_3, 2, none⟩)), Fq.is (.int .i64 6), Fq.is (.bool true), Fq.is (.bool true), Fq.is (.pointer (some ⟨b35_3, 2, none⟩)), Fq.is (.int .i64 6), Fq.is (.bool false), Fq.is (.bool false), Fq.is (.bool false)]) (ks := [none, none, none, none, none, none]) (new := []) E rfl (by kernel_rfl) rfl rfl (fun hp => ⟨?_, ?_, ?_, ?_, ?_, ?_, ?_, ?_, ?_, ?_, ?_, ?_, ?_, ?_, ?_, ?_, ?_, ?_, ?_, ?_, ?_, ?_, ?_, ?_, trivial⟩) ?_
        · exact q_loadInt (off := 0) hp (free_of rfl) trivial (List.mem_iff_getElem?.2 ⟨1, rfl⟩) (.inl rfl) (Nat.le_of_ble_eq_true rfl) (sq_out (s := 10) rfl rfl (fun _ _ => rfl)) (fun us w hl h => ld_num hl h)
        · exact q_call1 (F := (Fq.is (.int .i64 2)).P) hp (free_of rfl) trivial (enq_V_of) (sq_const (fun _ => rfl)) (fun v w h => (by subst h; exact exVOf (by omega)))
        · exact q_call2 (F := (Fq.num Q).P) (G := (Fq.num (2)).P) hp (free_of rfl) trivial (enq_Cmp) (sq_in 0 rfl rfl (by simp) rfl (fun v w h => h)) (sq_in 1 rfl rfl (by simp) rfl (fun v w h => h)) (fun v v' w h h' => exCmp h h')
        · exact q_one (F := fun v _ => v = .int .i64 (cmpI Q (2))) hp (free_of rfl) trivial (sq_in 2 rfl rfl (by simp) rfl (fun v w h => h)) (fun ρ w hc h => ⟨.bool true, by simp [execOp, go_sem, h, hc, T2.out], rfl⟩)
        · exact q_move hp (free_of rfl) trivial (sq_in 3 rfl rfl (by simp) rfl (fun v w h => h))
        · exact q_addr (b := b35_3) (off := 0) (off' := 2) hp (free_of rfl) (gq_some rfl rfl (by simp) rfl (fun v w h => h)) (sq_out (s := 11) rfl rfl (fun _ _ => rfl)) (fun ρ w h => by simp [execOp, go_sem, h]) (fun _ => rfl)
        · exact q_loadErr (r := 6) hp (free_of rfl) (gq_some rfl rfl (by simp) rfl (fun v w h => h)) (List.mem_iff_getElem?.2 ⟨0, rfl⟩) (.inl rfl) rfl (sq_in 5 rfl rfl (by simp) rfl (fun v w h => h)) (fun us w hl h => ld_got2 hl h) (fun _ => rfl)
        · exact q_one (F := fun v _ => v = .int .i64 6) hp (free_of rfl) (gq_some rfl rfl (by simp) rfl (fun v w h => h)) (sq_in 6 rfl rfl (by simp) rfl (fun v w h => h)) (fun ρ w hc h => ⟨.bool false, by simp [execOp, go_sem, h, hc], rfl⟩)
        · exact q_loadInt (off := 0) hp (free_of rfl) (gq_some rfl rfl (by simp) rfl (fun v w h => h)) (List.mem_iff_getElem?.2 ⟨2, rfl⟩) (.inl rfl) (Nat.le_of_ble_eq_true rfl) (sq_out (s := 8) rfl rfl (fun _ _ => rfl)) (fun us w hl h => ld_num hl h)
        · exact q_loadInt (off := 0) hp (free_of rfl) (gq_some rfl rfl (by simp) rfl (fun v w h => h)) (List.mem_iff_getElem?.2 ⟨1, rfl⟩) (.inl rfl) (Nat.le_of_ble_eq_true rfl) (sq_out (s := 10) rfl rfl (fun _ _ => rfl)) (fun us w hl h => ld_num hl h)
        · exact q_call2W (F := (Fq.num a).P) (G := (Fq.num Q).P) hp (free_of rfl) (gq_some rfl rfl (by simp) rfl (fun v w h => h)) (enq_M_Kronecker) rfl (sq_in 8 rfl rfl (by simp) rfl (fun v w h => h)) (sq_in 9 rfl rfl (by simp) rfl (fun v w h => h)) (fun v v' w hbw h h' => exKronR h h' (hT.out.mono hbw) (Int.lt_of_lt_of_le Ba.out (pw_le (by omega))) (Int.lt_of_lt_of_le BQ.out (pw_le (by omega))) HK.out)
        · exact q_one (F := fun v _ => v = .int .i64 K) hp (free_of rfl) (gq_some rfl rfl (by simp) rfl (fun v w h => h)) (sq_in 10 rfl rfl (by simp) rfl (fun v w h => h)) (fun ρ w hc h => ⟨.bool false, by simp [execOp, go_sem, h, hc, T3.out], rfl⟩)
        · exact q_two (F := fun v _ => v = .bool false) (G := fun v _ => v = .bool false) hp (free_of rfl) (gq_some rfl rfl (by simp) rfl (fun v w h => h)) (sq_in 7 rfl rfl (by simp) rfl (fun v w h => h)) (sq_in 11 rfl rfl (by simp) rfl (fun v w h => h)) (fun ρ w hc h h' => ⟨.bool false, by simp [execOp, go_sem, h, h'], rfl⟩)
        · exact q_two (F := fun v _ => v = .bool true) (G := fun v _ => v = .bool false) hp (free_of rfl) trivial (sq_in 4 rfl rfl (by simp) rfl (fun v w h => h)) (sq_in 12 rfl rfl (by simp) rfl (fun v w h => h)) (fun ρ w hc h h' => ⟨_, by simp [execOp, go_sem, h, h'], rfl⟩)
        · exact q_move hp (free_of rfl) trivial (sq_in 13 rfl rfl (by simp) rfl (fun v w h => h))
        · exact q_addr (b := b35_3) (off := 0) (off' := 2) hp (free_of rfl) (gq_some rfl rfl (by simp) rfl (fun v w h => h)) (sq_out (s := 11) rfl rfl (fun _ _ => rfl)) (fun ρ w h => by simp [execOp, go_sem, h]) (fun _ => rfl)
        · exact q_loadErr (r := 6) hp (free_of rfl) (gq_some rfl rfl (by simp) rfl (fun v w h => h)) (List.mem_iff_getElem?.2 ⟨0, rfl⟩) (.inl rfl) rfl (sq_in 15 rfl rfl (by simp) rfl (fun v w h => h)) (fun us w hl h => ld_got2 hl h) (fun _ => rfl)
        · exact q_one (F := fun v _ => v = .int .i64 6) hp (free_of rfl) (gq_some rfl rfl (by simp) rfl (fun v w h => h)) (sq_in 16 rfl rfl (by simp) rfl (fun v w h => h)) (fun ρ w hc h => ⟨.bool true, by simp [execOp, go_sem, h, hc], rfl⟩)
        · exact q_move hp (free_of rfl) (gq_some rfl rfl (by simp) rfl (fun v w h => h)) (sq_in 17 rfl rfl (by simp) rfl (fun v w h => h))
        · exact q_addr (b := b35_3) (off := 0) (off' := 2) hp (free_of rfl) (gq_some rfl rfl (by simp) rfl (fun v w h => h)) (sq_out (s := 11) rfl rfl (fun _ _ => rfl)) (fun ρ w h => by simp [execOp, go_sem, h]) (fun _ => rfl)
        · exact q_loadErr (r := 6) hp (free_of rfl) (gq_some rfl rfl (by simp) rfl (fun v w h => h)) (List.mem_iff_getElem?.2 ⟨0, rfl⟩) (.inl rfl) rfl (sq_in 19 rfl rfl (by simp) rfl (fun v w h => h)) (fun us w hl h => ld_got2 hl h) (fun _ => rfl)
        · exact q_one (F := fun v _ => v = .int .i64 6) hp (free_of rfl) (gq_some rfl rfl (by simp) rfl (fun v w h => h)) (sq_in 20 rfl rfl (by simp) rfl (fun v w h => h)) (fun ρ w hc h => ⟨.bool false, by simp [execOp, go_sem, h, hc], rfl⟩)
        · exact q_two (F := fun v _ => v = .bool true) (G := fun v _ => v = .bool false) hp (free_of rfl) (gq_some rfl rfl (by simp) rfl (fun v w h => h)) (sq_in 18 rfl rfl (by simp) rfl (fun v w h => h)) (sq_in 21 rfl rfl (by simp) rfl (fun v w h => h)) (fun ρ w hc h h' => ⟨_, by simp [execOp, go_sem, h, h'], rfl⟩)
        · exact q_two (F := fun v _ => v = .bool false) (G := fun v _ => v = .bool false) hp (free_of rfl) trivial (sq_in 14 rfl rfl (by simp) rfl (fun v w h => h)) (sq_in 22 rfl rfl (by simp) rfl (fun v w h => h)) (fun ρ w hc h h' => ⟨_, by simp [execOp, go_sem, h, h'], rfl⟩)
        intro L vs w36 nb hL hC hn E36
        have e2 : vs 2 = .int .i64 (cmpI Q (2)) := hC 2 (by simp)
        have e3 : vs 3 = .bool true := hC 3 (by simp)
        have e4 : vs 4 = .bool true := hC 4 (by simp)
        have e5 : vs 5 = .pointer (some ⟨b35_3, 2, none⟩) := hC 5 (by simp)
        have e6 : vs 6 = .int .i64 6 := hC 6 (by simp)
        have e7 : vs 7 = .bool false := hC 7 (by simp)
        have e10 : vs 10 = .int .i64 K := hC 10 (by simp)
        have e11 : vs 11 = .bool false := hC 11 (by simp)
        have e12 : vs 12 = .bool false := hC 12 (by simp)
        have e13 : vs 13 = .bool false := hC 13 (by simp)
        have e14 : vs 14 = .bool false := hC 14 (by simp)
        have e15 : vs 15 = .pointer (some ⟨b35_3, 2, none⟩) := hC 15 (by simp)
        have e16 : vs 16 = .int .i64 6 := hC 16 (by simp)
        have e17 : vs 17 = .bool true := hC 17 (by simp)
        have e18 : vs 18 = .bool true := hC 18 (by simp)
        have e19 : vs 19 = .pointer (some ⟨b35_3, 2, none⟩) := hC 19 (by simp)
        have e20 : vs 20 = .int .i64 6 := hC 20 (by simp)
        have e21 : vs 21 = .bool false := hC 21 (by simp)
        have e22 : vs 22 = .bool false := hC 22 (by simp)
        have e23 : vs 23 = .bool false := hC 23 (by simp)
        have E : Fr w [(b35_3, 3, Fq.got z 6), (b10_4, 2, Fq.num Q), (b8_2, 2, Fq.num a), (b7_4, 4, Fq.ints [P, G]), (b6_4, 2, Fq.num G), (b1, 2, Fq.raw n1 a1 k1 c1 xs1)] w36 := E36
        rw [lay_all hL]
        simp only [putAll, dstOf, List.length_cons, List.length_nil, Nat.zero_add, Nat.reduceAdd, List.getElem?_toArray, List.getElem?_cons_zero, List.getElem?_cons_succ, Option.bind_some, Act.put, List.setIfInBounds_toArray, List.set_cons_succ, List.set_cons_zero]
        rw [e2, e3, e4, e5, e6, e7, e10, e11, e12, e13, e14, e15, e16, e17, e18, e19, e20, e21, e22, e23]
        generalize vs 0 = u36_0
        generalize vs 1 = u36_1
        generalize vs 8 = u36_8
        generalize vs 9 = u36_9
        clear e2 e3 e4 e5 e6 e7 e10 e11 e12 e13 e14 e15 e16 e17 e18 e19 e20 e21 e22 e23 hC hn E36 hL vs L nb
        clear T2 T3 HK
        go_upto_region 14 with (fail)
        refine region_fr (C := [Fq.is (.pointer (some ⟨b35_3, 2, none⟩)), Fq.is (.int .i64 6), Fq.is (.bool true)]) (ks := [none, none, none, none, none, none]) (new := []) E rfl (by kernel_rfl) rfl rfl (fun hp => ⟨?_, ?_, ?_, trivial⟩) ?_
        · exact q_addr (b := b35_3) (off := 0) (off' := 2) hp (free_of rfl) trivial (sq_out (s := 11) rfl rfl (fun _ _ => rfl)) (fun ρ w h => by simp [execOp, go_sem, h]) (fun _ => rfl)
        · exact q_loadErr (r := 6) hp (free_of rfl) trivial (List.mem_iff_getElem?.2 ⟨0, rfl⟩) (.inl rfl) rfl (sq_in 0 rfl rfl (by simp) rfl (fun v w h => h)) (fun us w hl h => ld_got2 hl h) (fun _ => rfl)
        · exact q_one (F := fun v _ => v = .int .i64 6) hp (free_of rfl) trivial (sq_in 1 rfl rfl (by simp) rfl (fun v w h => h)) (fun ρ w hc h => ⟨.bool true, by simp [execOp, go_sem, h, hc], rfl⟩)
        intro L vs w37 nb hL hC hn E37
        have e0 : vs 0 = .pointer (some ⟨b35_3, 2, none⟩) := hC 0 (by simp)
        have e1 : vs 1 = .int .i64 6 := hC 1 (by simp)
        have e2 : vs 2 = .bool true := hC 2 (by simp)
        have E : Fr w [(b35_3, 3, Fq.got z 6), (b10_4, 2, Fq.num Q), (b8_2, 2, Fq.num a), (b7_4, 4, Fq.ints [P, G]), (b6_4, 2, Fq.num G), (b1, 2, Fq.raw n1 a1 k1 c1 xs1)] w37 := E37
        rw [lay_all hL]
        simp only [putAll, dstOf, List.length_cons, List.length_nil, Nat.zero_add, Nat.reduceAdd, List.getElem?_toArray, List.getElem?_cons_zero, List.getElem?_cons_succ, Option.bind_some, Act.put, List.setIfInBounds_toArray, List.set_cons_succ, List.set_cons_zero]
        rw [e0, e1, e2]
        clear e0 e1 e2 hC hn E37 hL vs L nb
        go_wp2
        go_roundw
        case rel => exact ⟨i + 1, by rw [hw.out]; rfl, by have := HI.out; omega, Fr.drop (Fr.drop (E))⟩
        case measure => rw [hw.out]; exact measR HI.out
    · have T1 : Hid (¬ (i : Int) < 2) := by show ¬ _; omega
      clear hlt hi2 HR1 HR2 RP HP EP EG
      go_upto_region 8 with (fail)
      refine region_fr (C := [Fq.is (.int .i64 (i : Int)), Fq.is (.bool false)]) (ks := [none, none, none, none]) (new := []) E rfl (by kernel_rfl) rfl rfl (fun hp => ⟨?_, ?_, trivial⟩) ?_
      · exact q_move hp (free_of rfl) trivial (sq_out (s := 9) rfl rfl (fun _ _ => rfl))
      · exact q_one (F := fun v _ => v = .int .i64 (i : Int)) hp (free_of rfl) trivial (sq_in 0 rfl rfl (by simp) rfl (fun v w h => h)) (fun ρ w hc h => ⟨.bool false, by simp [execOp, go_sem, h, hc, T1.out], rfl⟩)
      intro L vs w38 nb hL hC hn E38
      have e0 : vs 0 = .int .i64 (i : Int) := hC 0 (by simp)
      have e1 : vs 1 = .bool false := hC 1 (by simp)
      have E : Fr w [(b8_2, 2, Fq.num a), (b7_4, 4, Fq.ints [P, G]), (b6_4, 2, Fq.num G), (b1, 2, Fq.raw n1 a1 k1 c1 xs1)] w38 := E38
      rw [lay_all hL]
      simp only [putAll, dstOf, List.length_cons, List.length_nil, Nat.zero_add, Nat.reduceAdd, List.getElem?_toArray, List.getElem?_cons_zero, List.getElem?_cons_succ, Option.bind_some, Act.put, List.setIfInBounds_toArray, List.set_cons_succ, List.set_cons_zero]
      rw [e0, e1]
      clear e0 e1 hC hn E38 hL vs L nb
      clear T1
      go_upto_region 19 with (fail)
      refine region_fr (C := [Fq.is (.bool true), Fq.is (.bool true)]) (ks := [none, none, none, none]) (new := []) E rfl (by kernel_rfl) rfl rfl (fun hp => ⟨?_, ?_, trivial⟩) ?_
      · exact q_move hp (free_of rfl) trivial (sq_out (s := 5) rfl rfl (fun _ _ => rfl))
      · exact q_assign hp (free_of rfl) trivial (sq_in 0 rfl rfl (by simp) rfl (fun v w h => h))
      intro L vs w39 nb hL hC hn E39
      have e0 : vs 0 = .bool true := hC 0 (by simp)
      have e1 : vs 1 = .bool true := hC 1 (by simp)
      have E : Fr w [(b8_2, 2, Fq.num a), (b7_4, 4, Fq.ints [P, G]), (b6_4, 2, Fq.num G), (b1, 2, Fq.raw n1 a1 k1 c1 xs1)] w39 := E39
      rw [lay_all hL]
      simp only [putAll, dstOf, List.length_cons, List.length_nil, Nat.zero_add, Nat.reduceAdd, List.getElem?_toArray, List.getElem?_cons_zero, List.getElem?_cons_succ, Option.bind_some, Act.put, List.setIfInBounds_toArray, List.set_cons_succ, List.set_cons_zero]
      rw [e0, e1]
      clear e0 e1 hC hn E39 hL vs L nb
      clear B4 B5 Ba hT BP BG BD
      go_wp2
      refine bodyPost_ret (v := .bool true) ?_ rfl ⟨rfl, E.below⟩
      simp [results, Tryd.results6, go_sem]

end Go.Proofs.YtieobgadihcgeaaDoor
