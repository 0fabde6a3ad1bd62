/- Ni. -/
import Derived.Test.YtieobgadihcgeaaDoorCs5
/- Walk of the law on the symbol of Kronecker. -/
namespace Go.Proofs.YtieobgadihcgeaaDoor
open Go Go.RowKit

def Tri (x : Int) : Prop := x = -1 ∨ x = 0 ∨ x = 1
theorem Tri.mul {x y : Int} (h : Tri x) (h' : Tri y) : Tri (x * y) := by
  unfold Tri at *
  rcases h with rfl | rfl | rfl <;> rcases h' with rfl | rfl | rfl <;> decide
theorem two_tri (a : Int) : Tri (two a) := by unfold two Tri; split; exact .inr (.inl rfl); split; exact .inl rfl; exact .inr (.inr rfl)
theorem J_tri (a : Int) (n : Nat) : Tri (J a n) := by
  unfold Tri
  by_cases h : Int.gcd a n = 1
  · rcases J_or h with h | h <;> rw [h] <;> simp
  · rw [J_not h]; simp
theorem kro_tri (a : Int) : ∀ n : Nat, n ≠ 0 → Tri (kro a n) := by
  intro n
  induction n using Nat.strongRecOn with
  | _ n ih =>
    intro h0
    rcases Nat.mod_two_eq_zero_or_one n with h | h
    · obtain ⟨m, rfl⟩ : ∃ m, n = 2 * m := ⟨n / 2, by omega⟩
      rw [kro_even (by omega)]
      exact (two_tri a).mul (ih m (by omega) (by omega))
    · rw [kro_odd h]; exact J_tri a n
theorem kron_tri (a n : Int) : Tri (kron a n) := by
  unfold kron
  by_cases h : n = 0
  · rw [if_pos h]; unfold Tri; split <;> simp
  · rw [if_neg h]
    refine Tri.mul ?_ (kro_tri a _ (by omega))
    unfold Tri; split <;> simp
theorem sgn2_mul (a b n : Int) (ha : a ≠ 0) (hb : b ≠ 0) : (if a * b < 0 ∧ n < 0 then (-1 : Int) else 1) = (if a < 0 ∧ n < 0 then -1 else 1) * (if b < 0 ∧ n < 0 then -1 else 1) := by
  by_cases hn : n < 0
  · rcases Int.lt_or_le a 0 with h1 | h1 <;> rcases Int.lt_or_le b 0 with h2 | h2
    · have := Int.mul_pos_of_neg_of_neg h1 h2
      rw [if_neg (by omega), if_pos ⟨h1, hn⟩, if_pos ⟨h2, hn⟩]; rfl
    · have := Int.mul_neg_of_neg_of_pos h1 (show 0 < b by omega)
      rw [if_pos ⟨this, hn⟩, if_pos ⟨h1, hn⟩, if_neg (by omega)]; rfl
    · have := Int.mul_neg_of_pos_of_neg (show 0 < a by omega) h2
      rw [if_pos ⟨this, hn⟩, if_neg (by omega), if_pos ⟨h2, hn⟩]; rfl
    · have := Int.mul_nonneg h1 h2
      rw [if_neg (by omega), if_neg (by omega), if_neg (by omega)]; rfl
  · rw [if_neg (by omega), if_neg (by omega), if_neg (by omega)]; rfl
theorem kron_mulL (a b n : Int) (ha : a ≠ 0) (hb : b ≠ 0) : kron (a * b) n = kron a n * kron b n := by
  unfold kron
  by_cases h : n = 0
  · rw [if_pos h, if_pos h, if_pos h, Int.natAbs_mul]
    by_cases h1 : a.natAbs = 1
    · rw [if_pos h1, h1, Nat.one_mul, Int.one_mul]
    · rw [if_neg h1, Int.zero_mul, if_neg]
      intro e
      exact h1 (Nat.eq_one_of_mul_eq_one_right e)
  · rw [if_neg h, if_neg h, if_neg h, kro_mul _ _ _ (by omega), sgn2_mul a b n ha hb]
    ac_rfl
theorem kron_mulR (n a b : Int) (ha : a ≠ 0) (hb : b ≠ 0) : kron n (a * b) = kron n a * kron n b := by
  unfold kron
  rw [if_neg (Int.mul_ne_zero ha hb), if_neg ha, if_neg hb, Int.natAbs_mul, kro_mul_below _ _ _ (by omega) (by omega)]
  have h := sgn2_mul a b n ha hb
  simp only [and_comm (b := n < 0)] at h
  rw [h]
  ac_rfl
theorem kron_zero (a n : Int) : kron a n = 0 ↔ Int.gcd a n ≠ 1 := by
  unfold kron
  by_cases h : n = 0
  · subst h
    rw [if_pos rfl, Int.gcd_zero_right]
    split <;> simp [*]
  · rw [if_neg h]
    have h1 := kro_zero (a := a) n.natAbs (by omega)
    have e : Int.gcd a (n.natAbs : Int) = Int.gcd a n := by show Nat.gcd _ _ = Nat.gcd _ _; rw [Int.natAbs_natCast]
    rw [e] at h1
    rw [← h1]
    by_cases h2 : a < 0 ∧ n < 0
    · rw [if_pos h2]; omega
    · rw [if_neg h2]; omega
theorem kron_rec {c d : Int} (hc : 0 ≤ c) (hd : 0 ≤ d) (hc2 : c % 2 = 1) (hd2 : d % 2 = 1) : kron c d * kron d c = 0 ∨ kron c d * kron d c = (if c % 4 = 3 ∧ d % 4 = 3 then -1 else 1) := by
  obtain ⟨m, rfl⟩ := Int.eq_ofNat_of_zero_le hc
  obtain ⟨n, rfl⟩ := Int.eq_ofNat_of_zero_le hd
  have e : ∀ x y : Nat, y % 2 = 1 → kron (x : Int) (y : Int) = J x y := fun x y hy => by
    unfold kron
    rw [if_neg (by omega), if_neg (by omega), Int.one_mul, Int.natAbs_natCast, kro_odd hy]
  rw [e m n (by omega), e n m (by omega)]
  have h := J_rec (m := m) (n := n) (by omega) (by omega)
  have e2 : (if (m : Int) % 4 = 3 ∧ (n : Int) % 4 = 3 then (-1 : Int) else 1) = if m % 4 = 3 ∧ n % 4 = 3 then -1 else 1 := by
    by_cases h1 : m % 4 = 3 ∧ n % 4 = 3
    · rw [if_pos h1, if_pos (by omega)]
    · rw [if_neg h1, if_neg (by omega)]
  rw [e2, h]
  rcases J_tri n m with h1 | h1 | h1 <;> rw [h1]
  · right; rw [Int.mul_assoc]; exact Int.mul_one _
  · left; rw [Int.mul_zero]
  · right; rw [Int.mul_one, Int.mul_one]
theorem tri_wrap {x : Int} (h : Tri x) : IntKind.i64.wrap x = x := IntWalk.i64_in _ (by unfold Tri at h; omega)
theorem exKronR {w : World} {v v' : Value} {a n r : Int} (h : Num w v a) (h' : Num w v' n) (hT : Tabs w) (ha : ab a < pw 100) (hn : ab n < pw 100) (hr : kron a n = r) :
    Calls Tryd.prog 20 #[v, v'] w fun e w' => ∃ v', e = .returned v' ∧ Below w.heap.size w w' ∧ v' = .int .i64 r := by
  subst hr
  exact exKronecker h h' hT ha hn
theorem gcd_two (x : Int) (h : 0 ≤ x) : ((Int.gcd x (2) : Nat) : Int) = 1 ↔ x % 2 = 1 := by
  obtain ⟨m, rfl⟩ := Int.eq_ofNat_of_zero_le h
  have e : Int.gcd (m : Int) 2 = Nat.gcd m 2 := rfl
  rw [e, Nat.gcd_comm, Nat.gcd_rec]
  rcases Nat.mod_two_eq_zero_or_one m with h | h <;> rw [h]
  · simp; omega
  · simp; omega
set_option maxRecDepth 100000 in
set_option maxHeartbeats 4000000 in
theorem ModularSymbols_any (w : World) (hT : Tabs w) (n1 : Bool) (a1 : Option Addr) (k1 c1 : Nat) (xs1 : List Int) (h1 : Sl w a1 k1 c1 xs1) (hk1 : k1 ≤ 9223372036854775807) (n2 : Bool) (a2 : Option Addr) (k2 c2 : Nat) (xs2 : List Int) (h2 : Sl w a2 k2 c2 xs2) (hk2 : k2 ≤ 9223372036854775807) (n3 : Bool) (a3 : Option Addr) (k3 c3 : Nat) (xs3 : List Int) (h3 : Sl w a3 k3 c3 xs3) (hk3 : k3 ≤ 9223372036854775807) :
    Calls Tryd.prog 4 #[.agg #[.bool n1, .slice a1 k1 c1, .bool n2, .slice a2 k2 c2, .bool n3, .slice a3 k3 c3]] w fun e w' => e = .returned (.bool true) ∧ Below w.heap.size w w' := by
  replace hT := hidd hT
  obtain ⟨a, ha⟩ : ∃ a, a = sgn n1 (val (xs1.take 2)) := ⟨_, rfl⟩
  have Ba : Hid (ab a < pw 2) := by rw [ha]; exact Num.ofMade h1.digs
  have Ha := hidd ha
  have K1 := hidd hk1
  clear ha hk1
  obtain ⟨b, hb⟩ : ∃ b, b = sgn n2 (val (xs2.take 2)) := ⟨_, rfl⟩
  have Bb : Hid (ab b < pw 2) := by rw [hb]; exact Num.ofMade h2.digs
  have Hb := hidd hb
  have K2 := hidd hk2
  clear hb hk2
  obtain ⟨n, hn⟩ : ∃ n, n = sgn n3 (val (xs3.take 2)) := ⟨_, rfl⟩
  have Bn : Hid (ab n < pw 2) := by rw [hn]; exact Num.ofMade h3.digs
  have Hn := hidd hn
  have K3 := hidd hk3
  clear hn hk3
  obtain ⟨w1, b1, hw1, hb1, hs1, E⟩ := fr_start w (F := Fq.three n1 a1 k1 c1 xs1 n2 a2 k2 c2 xs2 n3 a3 k3 c3 xs3) (us := [.bool n1, .slice a1 k1 c1, .bool n2, .slice a2 k2 c2, .bool n3, .slice a3 k3 c3]) 44 rfl (by simp) (tame_three _ _ _ _ _ _ _ _ _ _ _ _) (show (Fq.three n1 a1 k1 c1 xs1 n2 a2 k2 c2 xs2 n3 a3 k3 c3 xs3).P _ w from ⟨rfl, h1, h2, h3⟩)
  go_enter Tryd.func4, Tryd.ntmps4
  go_upto_region 1 with (fail)
  rw [← hw1]
  rw [← hb1]
  clear hw1 hb1 hs1
  obtain ⟨k, hk⟩ : ∃ k, kron a n = k := ⟨_, rfl⟩
  obtain ⟨l, hl⟩ : ∃ l, kron b n = l := ⟨_, rfl⟩
  obtain ⟨x, hx⟩ : ∃ x, kron (a * b) n = x := ⟨_, rfl⟩
  obtain ⟨y, hy⟩ : ∃ y, kron n (a * b) = y := ⟨_, rfl⟩
  obtain ⟨p, hp⟩ : ∃ p, kron n a = p := ⟨_, rfl⟩
  obtain ⟨q, hq⟩ : ∃ q, kron n b = q := ⟨_, rfl⟩
  obtain ⟨c, hc⟩ : ∃ c, c = (Int.natAbs a : Int) := ⟨_, rfl⟩
  obtain ⟨d, hd⟩ : ∃ d, d = (Int.natAbs b : Int) := ⟨_, rfl⟩
  obtain ⟨r, hr⟩ : ∃ r, kron c d = r := ⟨_, rfl⟩
  obtain ⟨t, ht⟩ : ∃ t, kron d c = t := ⟨_, rfl⟩
  have BC : Hid (ab c < pw 2) := by show _ < _; rw [hc]; exact ab_absB Ba.out
  have BD : Hid (ab d < pw 2) := by show _ < _; rw [hd]; exact ab_absB Bb.out
  have PC : Hid (0 ≤ c) := by show _ ≤ _; omega
  have PD : Hid (0 ≤ d) := by show _ ≤ _; omega
  have WKL : Hid (IntKind.i64.wrap (k * l) = k * l) := tri_wrap (by rw [← hk, ← hl]; exact (kron_tri _ _).mul (kron_tri _ _))
  have WPQ : Hid (IntKind.i64.wrap (p * q) = p * q) := tri_wrap (by rw [← hp, ← hq]; exact (kron_tri _ _).mul (kron_tri _ _))
  have WRT : Hid (IntKind.i64.wrap (r * t) = r * t) := tri_wrap (by rw [← hr, ← ht]; exact (kron_tri _ _).mul (kron_tri _ _))
  have EX : Hid (a ≠ 0 → b ≠ 0 → x = k * l) := fun h1 h2 => by rw [← hx, ← hk, ← hl]; exact kron_mulL a b n h1 h2
  have EY : Hid (a ≠ 0 → b ≠ 0 → y = p * q) := fun h1 h2 => by rw [← hy, ← hp, ← hq]; exact kron_mulR n a b h1 h2
  have EZ : Hid (k = 0 ↔ Int.gcd a n ≠ 1) := by show _ ↔ _; rw [← hk]; exact kron_zero a n
  have ER : Hid (c % 2 = 1 → d % 2 = 1 → r * t = 0 ∨ r * t = (if c % 4 = 3 ∧ d % 4 = 3 then -1 else 1)) := fun h1 h2 => by rw [← hr, ← ht]; exact kron_rec PC.out PD.out h1 h2
  have EC := hidd hc
  have ED := hidd hd
  have EK := hidd hk
  have EL := hidd hl
  have EP := hidd hp
  have EQ := hidd hq
  have ERR := hidd hr
  have ET := hidd ht
  have EXX := hidd hx
  have EYY := hidd hy
  obtain ⟨fb, hfb⟩ : ∃ fb, fb = decide (a ≠ 0 ∧ b ≠ 0) := ⟨_, rfl⟩
  have FB := hidd hfb
  obtain ⟨th, hth⟩ : ∃ th, th = decide (c % 4 = 3 ∧ d % 4 = 3) := ⟨_, rfl⟩
  have TH := hidd hth
  obtain ⟨od, hod⟩ : ∃ od, od = decide (c % 2 = 1 ∧ d % 2 = 1) := ⟨_, rfl⟩
  have OD := hidd hod
  clear hc hd hk hl hx hy hp hq hr ht hfb hth hod
  have N4 : Hid ((4 : Int) ≠ 0) := by show _ ≠ _; decide
  refine region_fr (C := [Fq.is (.bool true), Fq.is (.bool true)]) (ks := [none]) (new := []) E rfl (by kernel_rfl) rfl rfl (fun hp => ⟨?_, ?_, trivial⟩) ?_
  · exact q_call0W hp (free_of rfl) trivial (enq_V_examples) rfl (fun w hbw => exVExamples (hT.out.mono hbw))
  · exact q_assign hp (free_of rfl) trivial (sq_in 0 rfl rfl (by simp) rfl (fun v w h => h))
  intro L vs w2 nb hL hC hn E2
  have e0 : vs 0 = .bool true := hC 0 (by simp)
  have e1 : vs 1 = .bool true := hC 1 (by simp)
  have E : Fr w [(b1, 6, Fq.three n1 a1 k1 c1 xs1 n2 a2 k2 c2 xs2 n3 a3 k3 c3 xs3)] w2 := E2
  rw [lay_all hL]
  simp only [putAll, dstOf, List.length_cons, List.length_nil, Nat.zero_add, Nat.reduceAdd, List.getElem?_toArray, List.getElem?_cons_zero, List.getElem?_cons_succ, Option.bind_some, Act.put, List.setIfInBounds_toArray, List.set_cons_succ, List.set_cons_zero]
  rw [e0, e1]
  clear e0 e1 hC hn E2 hL vs L nb
  go_upto_region 2 with (fail)
  refine region_fr (C := [Fq.is (.bool true), Fq.is (.bool false)]) (ks := [none]) (new := []) E rfl (by kernel_rfl) rfl rfl (fun hp => ⟨?_, ?_, trivial⟩) ?_
  · exact q_move hp (free_of rfl) trivial (sq_out rfl rfl (fun _ _ => rfl))
  · exact q_one (F := fun v _ => v = .bool true) hp (free_of rfl) trivial (sq_in 0 rfl rfl (by simp) rfl (fun v w h => h)) (fun ρ w _ h => ⟨.bool false, by simp [execOp, go_sem, h], rfl⟩)
  intro L vs w3 nb hL hC hn E3
  have e0 : vs 0 = .bool true := hC 0 (by simp)
  have e1 : vs 1 = .bool false := hC 1 (by simp)
  have E : Fr w [(b1, 6, Fq.three n1 a1 k1 c1 xs1 n2 a2 k2 c2 xs2 n3 a3 k3 c3 xs3)] w3 := E3
  rw [lay_all hL]
  simp only [putAll, dstOf, List.length_cons, List.length_nil, Nat.zero_add, Nat.reduceAdd, List.getElem?_toArray, List.getElem?_cons_zero, List.getElem?_cons_succ, Option.bind_some, Act.put, List.setIfInBounds_toArray, List.set_cons_succ, List.set_cons_zero]
  rw [e0, e1]
  clear e0 e1 hC hn E3 hL vs L nb
  go_upto_region 4 with (fail)
  refine region_fr (C := [Fq.is (.pointer (some ⟨b1, 0, none⟩)), Fq.raw n1 a1 k1 c1 xs1, Fq.num a, Fq.is (.pointer (some ⟨b1, 2, none⟩)), Fq.raw n2 a2 k2 c2 xs2, Fq.num b, Fq.is (.pointer (some ⟨b1, 4, none⟩)), Fq.raw n3 a3 k3 c3 xs3, Fq.num n, Fq.any, Fq.any, Fq.any, Fq.any, Fq.any, Fq.any]) (ks := [none]) (new := [⟨9, 12, 2, Fq.num 0, Fq.num a, none⟩, ⟨10, 13, 2, Fq.num 0, Fq.num b, none⟩, ⟨11, 14, 2, Fq.num 0, Fq.num n, none⟩]) E rfl (by kernel_rfl) rfl rfl (fun hp => ⟨?_, ?_, ?_, ?_, ?_, ?_, ?_, ?_, ?_, ?_, ?_, ?_, ?_, ?_, ?_, trivial⟩) ?_
  · exact q_addr (b := b1) (off := 0) (off' := 0) hp (free_of rfl) trivial (sq_out rfl rfl (fun _ _ => rfl)) (fun ρ w h => by simp [execOp, go_sem, h]) (fun _ => rfl)
  · exact q_loadRaw (off := 0) hp (free_of rfl) trivial (List.mem_iff_getElem?.2 ⟨0, rfl⟩) (.inl rfl) (Nat.le_of_ble_eq_true rfl) (sq_in 0 rfl rfl (by simp) rfl (fun v w h => h)) (fun us w hl h => ld_three0 hl h)
  · exact q_call2 (F := (Fq.raw n1 a1 k1 c1 xs1).P) (G := (Fq.is (.int .i64 2)).P) hp (free_of rfl) trivial (enq_R_Made) (sq_in 1 rfl rfl (by simp) rfl (fun v w h => h)) (sq_const (fun _ => rfl)) (fun v v' w h h' => (by rw [Ha.out]; exact exRMade (j := 2) h h' K1.out (by omega)))
  · exact q_addr (b := b1) (off := 0) (off' := 2) hp (free_of rfl) trivial (sq_out rfl rfl (fun _ _ => rfl)) (fun ρ w h => by simp [execOp, go_sem, h]) (fun _ => rfl)
  · exact q_loadRaw (off := 2) hp (free_of rfl) trivial (List.mem_iff_getElem?.2 ⟨0, rfl⟩) (.inl rfl) (Nat.le_of_ble_eq_true rfl) (sq_in 3 rfl rfl (by simp) rfl (fun v w h => h)) (fun us w hl h => ld_three1 hl h)
  · exact q_call2 (F := (Fq.raw n2 a2 k2 c2 xs2).P) (G := (Fq.is (.int .i64 2)).P) hp (free_of rfl) trivial (enq_R_Made) (sq_in 4 rfl rfl (by simp) rfl (fun v w h => h)) (sq_const (fun _ => rfl)) (fun v v' w h h' => (by rw [Hb.out]; exact exRMade (j := 2) h h' K2.out (by omega)))
  · exact q_addr (b := b1) (off := 0) (off' := 4) hp (free_of rfl) trivial (sq_out rfl rfl (fun _ _ => rfl)) (fun ρ w h => by simp [execOp, go_sem, h]) (fun _ => rfl)
  · exact q_loadRaw (off := 4) hp (free_of rfl) trivial (List.mem_iff_getElem?.2 ⟨0, rfl⟩) (.inl rfl) (Nat.le_of_ble_eq_true rfl) (sq_in 6 rfl rfl (by simp) rfl (fun v w h => h)) (fun us w hl h => ld_three2 hl h)
  · exact q_call2 (F := (Fq.raw n3 a3 k3 c3 xs3).P) (G := (Fq.is (.int .i64 2)).P) hp (free_of rfl) trivial (enq_R_Made) (sq_in 7 rfl rfl (by simp) rfl (fun v w h => h)) (sq_const (fun _ => rfl)) (fun v v' w h h' => (by rw [Hn.out]; exact exRMade (j := 2) h h' K3.out (by omega)))
  · exact q_allocInt hp (List.mem_iff_getElem?.2 ⟨0, rfl⟩) rfl rfl rfl rfl (Nat.ne_of_beq_eq_false rfl) (fun _ _ => trivial) (old_ne rfl) (newk_ne rfl) (fun w => Num.zero w)
  · exact q_allocInt hp (List.mem_iff_getElem?.2 ⟨1, rfl⟩) rfl rfl rfl rfl (Nat.ne_of_beq_eq_false rfl) (fun _ _ => trivial) (old_ne rfl) (newk_ne rfl) (fun w => Num.zero w)
  · exact q_allocInt hp (List.mem_iff_getElem?.2 ⟨2, rfl⟩) rfl rfl rfl rfl (Nat.ne_of_beq_eq_false rfl) (fun _ _ => trivial) (old_ne rfl) (newk_ne rfl) (fun w => Num.zero w)
  · exact q_storeNewInt hp (List.mem_iff_getElem?.2 ⟨0, rfl⟩) rfl rfl rfl (own_ptr rfl rfl (by simp) rfl) (sq_in 2 rfl rfl (by simp) rfl (fun v w h => intV_num h)) (fun _ _ => trivial) (old_ne rfl) (newi_ne rfl)
  · exact q_storeNewInt hp (List.mem_iff_getElem?.2 ⟨1, rfl⟩) rfl rfl rfl (own_ptr rfl rfl (by simp) rfl) (sq_in 5 rfl rfl (by simp) rfl (fun v w h => intV_num h)) (fun _ _ => trivial) (old_ne rfl) (newi_ne rfl)
  · exact q_storeNewInt hp (List.mem_iff_getElem?.2 ⟨2, rfl⟩) rfl rfl rfl (own_ptr rfl rfl (by simp) rfl) (sq_in 8 rfl rfl (by simp) rfl (fun v w h => intV_num h)) (fun _ _ => trivial) (old_ne rfl) (newi_ne rfl)
  intro L vs w4 nb hL hC hn E4
  have e0 : vs 0 = .pointer (some ⟨b1, 0, none⟩) := hC 0 (by simp)
  have e3 : vs 3 = .pointer (some ⟨b1, 2, none⟩) := hC 3 (by simp)
  have e6 : vs 6 = .pointer (some ⟨b1, 4, none⟩) := hC 6 (by simp)
  have e9 : vs 9 = .pointer (some ⟨nb 9, 0, none⟩) := hn _ (List.mem_iff_getElem?.2 ⟨0, rfl⟩)
  have e10 : vs 10 = .pointer (some ⟨nb 10, 0, none⟩) := hn _ (List.mem_iff_getElem?.2 ⟨1, rfl⟩)
  have e11 : vs 11 = .pointer (some ⟨nb 11, 0, none⟩) := hn _ (List.mem_iff_getElem?.2 ⟨2, rfl⟩)
  have E : Fr w [(nb 9, 2, Fq.num a), (nb 10, 2, Fq.num b), (nb 11, 2, Fq.num n), (b1, 6, Fq.three n1 a1 k1 c1 xs1 n2 a2 k2 c2 xs2 n3 a3 k3 c3 xs3)] w4 := E4
  rw [lay_all hL]
  simp only [putAll, dstOf, List.length_cons, List.length_nil, Nat.zero_add, Nat.reduceAdd, List.getElem?_toArray, List.getElem?_cons_zero, List.getElem?_cons_succ, Option.bind_some, Act.put, List.setIfInBounds_toArray, List.set_cons_succ, List.set_cons_zero]
  rw [e0, e3, e6, e9, e10, e11]
  generalize nb 9 = b4_9 at E ⊢
  generalize nb 10 = b4_10 at E ⊢
  generalize nb 11 = b4_11 at E ⊢
  generalize vs 1 = u4_1
  generalize vs 2 = u4_2
  generalize vs 4 = u4_4
  generalize vs 5 = u4_5
  generalize vs 7 = u4_7
  generalize vs 8 = u4_8
  clear e0 e3 e6 e9 e10 e11 hC hn E4 hL vs L nb
  go_upto_region 5 with (fail)
  refine region_fr (C := [Fq.num a, Fq.num n, Fq.is (.int .i64 k), Fq.num b, Fq.num n, Fq.is (.int .i64 l), Fq.is (.int .i64 k), Fq.is (.int .i64 l)]) (ks := [none, none, none, none]) (new := []) E rfl (by kernel_rfl) rfl rfl (fun hp => ⟨?_, ?_, ?_, ?_, ?_, ?_, ?_, ?_, trivial⟩) ?_
  · exact q_loadInt (off := 0) hp (free_of rfl) trivial (List.mem_iff_getElem?.2 ⟨0, rfl⟩) (.inl rfl) (Nat.le_of_ble_eq_true rfl) (sq_out rfl rfl (fun _ _ => rfl)) (fun us w hl h => ld_num hl h)
  · exact q_loadInt (off := 0) hp (free_of rfl) trivial (List.mem_iff_getElem?.2 ⟨2, rfl⟩) (.inl rfl) (Nat.le_of_ble_eq_true rfl) (sq_out rfl rfl (fun _ _ => rfl)) (fun us w hl h => ld_num hl h)
  · exact q_call2W (F := (Fq.num a).P) (G := (Fq.num n).P) hp (free_of rfl) trivial (enq_M_Kronecker) rfl (sq_in 0 rfl rfl (by simp) rfl (fun v w h => h)) (sq_in 1 rfl rfl (by simp) rfl (fun v w h => h)) (fun v v' w hbw h h' => exKronR h h' (hT.out.mono hbw) (Int.lt_of_lt_of_le Ba.out (pw_le (by omega))) (Int.lt_of_lt_of_le Bn.out (pw_le (by omega))) EK.out)
  · exact q_loadInt (off := 0) hp (free_of rfl) trivial (List.mem_iff_getElem?.2 ⟨1, rfl⟩) (.inl rfl) (Nat.le_of_ble_eq_true rfl) (sq_out rfl rfl (fun _ _ => rfl)) (fun us w hl h => ld_num hl h)
  · exact q_loadInt (off := 0) hp (free_of rfl) trivial (List.mem_iff_getElem?.2 ⟨2, rfl⟩) (.inl rfl) (Nat.le_of_ble_eq_true rfl) (sq_out rfl rfl (fun _ _ => rfl)) (fun us w hl h => ld_num hl h)
  · exact q_call2W (F := (Fq.num b).P) (G := (Fq.num n).P) hp (free_of rfl) trivial (enq_M_Kronecker) rfl (sq_in 3 rfl rfl (by simp) rfl (fun v w h => h)) (sq_in 4 rfl rfl (by simp) rfl (fun v w h => h)) (fun v v' w hbw h h' => exKronR h h' (hT.out.mono hbw) (Int.lt_of_lt_of_le Bb.out (pw_le (by omega))) (Int.lt_of_lt_of_le Bn.out (pw_le (by omega))) EL.out)
  · exact q_assign hp (free_of rfl) trivial (sq_in 2 rfl rfl (by simp) rfl (fun v w h => h))
  · exact q_assign hp (free_of rfl) trivial (sq_in 5 rfl rfl (by simp) rfl (fun v w h => h))
  intro L vs w5 nb hL hC hn E5
  have e2 : vs 2 = .int .i64 k := hC 2 (by simp)
  have e5 : vs 5 = .int .i64 l := hC 5 (by simp)
  have e6 : vs 6 = .int .i64 k := hC 6 (by simp)
  have e7 : vs 7 = .int .i64 l := hC 7 (by simp)
  have E : Fr w [(b4_9, 2, Fq.num a), (b4_10, 2, Fq.num b), (b4_11, 2, Fq.num n), (b1, 6, Fq.three n1 a1 k1 c1 xs1 n2 a2 k2 c2 xs2 n3 a3 k3 c3 xs3)] w5 := E5
  rw [lay_all hL]
  simp only [putAll, dstOf, List.length_cons, List.length_nil, Nat.zero_add, Nat.reduceAdd, List.getElem?_toArray, List.getElem?_cons_zero, List.getElem?_cons_succ, Option.bind_some, Act.put, List.setIfInBounds_toArray, List.set_cons_succ, List.set_cons_zero]
  rw [e2, e5, e6, e7]
  generalize vs 0 = u5_0
  generalize vs 1 = u5_1
  generalize vs 3 = u5_3
  generalize vs 4 = u5_4
  clear e2 e5 e6 e7 hC hn E5 hL vs L nb
  go_upto_region 6 with (fail)
  go_cut [9] from 37 (fun s W => s = .bool fb ∧ Fr w [(b4_9, 2, Fq.num a), (b4_10, 2, Fq.num b), (b4_11, 2, Fq.num n), (b1, 6, Fq.three n1 a1 k1 c1 xs1 n2 a2 k2 c2 xs2 n3 a3 k3 c3 xs3)] W)
  case first =>
    by_cases ha0 : a = 0
    · have T1 : Hid (cmpI a 0 = 0) := cmpIq0.2 ha0
      have e9 : fb = false := by rw [FB.out]; exact decide_eq_false (fun h => h.1 ha0)
      have HE9 := hidd e9
      clear e9 ha0
      refine region_fr (C := [Fq.num a, Fq.is (.int .i64 (cmpI a 0)), Fq.is (.bool false), Fq.is (.bool false), Fq.is (undef), Fq.is (undef), Fq.is (undef), Fq.is (.bool false), Fq.is (.bool false)]) (ks := [none, none, none, none]) (new := []) E rfl (by kernel_rfl) rfl rfl (fun hp => ⟨?_, ?_, ?_, ?_, ?_, ?_, ?_, ?_, ?_, trivial⟩) ?_
      · exact q_loadInt (off := 0) hp (free_of rfl) trivial (List.mem_iff_getElem?.2 ⟨0, rfl⟩) (.inl rfl) (Nat.le_of_ble_eq_true rfl) (sq_out rfl rfl (fun _ _ => rfl)) (fun us w hl h => ld_num hl h)
      · exact q_call1 (F := (Fq.num a).P) hp (free_of rfl) trivial (enq_Sign) (sq_in 0 rfl rfl (by simp) rfl (fun v w h => h)) (fun v w h => exSign h)
      · exact q_one (F := fun v _ => v = .int .i64 (cmpI a 0)) hp (free_of rfl) trivial (sq_in 1 rfl rfl (by simp) rfl (fun v w h => h)) (fun ρ w hc h => ⟨.bool false, by simp [execOp, go_sem, h, hc, T1.out], rfl⟩)
      · exact q_move hp (free_of rfl) trivial (sq_in 2 rfl rfl (by simp) rfl (fun v w h => h))
      · exact q_skip hp (free_of rfl) rfl (gq_some rfl rfl (by simp) rfl (fun v w h => h)) (fun _ => rfl)
      · exact q_skip hp (free_of rfl) rfl (gq_some rfl rfl (by simp) rfl (fun v w h => h)) (fun _ => rfl)
      · exact q_skip hp (free_of rfl) rfl (gq_some rfl rfl (by simp) rfl (fun v w h => h)) (fun _ => rfl)
      · exact q_two (F := fun v _ => v = .bool false) (G := fun v _ => v = .bool false) hp (free_of rfl) trivial (sq_in 3 rfl rfl (by simp) rfl (fun v w h => h)) (sq_const (fun _ => rfl)) (fun ρ w hc h h' => ⟨_, by simp [execOp, go_sem, h, h'], rfl⟩)
      · exact q_assign hp (free_of rfl) trivial (sq_in 7 rfl rfl (by simp) rfl (fun v w h => h))
      intro L vs w6 nb hL hC hn E6
      have e1 : vs 1 = .int .i64 (cmpI a 0) := hC 1 (by simp)
      have e2 : vs 2 = .bool false := hC 2 (by simp)
      have e3 : vs 3 = .bool false := hC 3 (by simp)
      have e4 : vs 4 = undef := hC 4 (by simp)
      have e5 : vs 5 = undef := hC 5 (by simp)
      have e6 : vs 6 = undef := hC 6 (by simp)
      have e7 : vs 7 = .bool false := hC 7 (by simp)
      have e8 : vs 8 = .bool false := hC 8 (by simp)
      have E : Fr w [(b4_9, 2, Fq.num a), (b4_10, 2, Fq.num b), (b4_11, 2, Fq.num n), (b1, 6, Fq.three n1 a1 k1 c1 xs1 n2 a2 k2 c2 xs2 n3 a3 k3 c3 xs3)] w6 := E6
      rw [lay_all hL]
      simp only [putAll, dstOf, List.length_cons, List.length_nil, Nat.zero_add, Nat.reduceAdd, List.getElem?_toArray, List.getElem?_cons_zero, List.getElem?_cons_succ, Option.bind_some, Act.put, List.setIfInBounds_toArray, List.set_cons_succ, List.set_cons_zero]
      rw [e1, e2, e3, e4, e5, e6, e7, e8]
      generalize vs 0 = u6_0
      clear e1 e2 e3 e4 e5 e6 e7 e8 hC hn E6 hL vs L nb
      go_wp2_with (fail)
      go_meet
      case rel => exact ⟨by rw [HE9.out], E⟩
    · by_cases hb0 : b = 0
      · have T1 : Hid (¬ cmpI a 0 = 0) := fun e => ha0 (cmpIq0.1 e)
        have T2 : Hid (cmpI b 0 = 0) := cmpIq0.2 hb0
        have HE9 : Hid (fb = false) := by show _ = _; rw [FB.out]; exact decide_eq_false (fun h => h.2 hb0)
        clear ha0 hb0
        refine region_fr (C := [Fq.num a, Fq.is (.int .i64 (cmpI a 0)), Fq.is (.bool true), Fq.is (.bool true), Fq.num b, Fq.is (.int .i64 (cmpI b 0)), Fq.is (.bool false), Fq.is (.bool false), Fq.is (.bool false)]) (ks := [none, none, none, none]) (new := []) E rfl (by kernel_rfl) rfl rfl (fun hp => ⟨?_, ?_, ?_, ?_, ?_, ?_, ?_, ?_, ?_, trivial⟩) ?_
        · exact q_loadInt (off := 0) hp (free_of rfl) trivial (List.mem_iff_getElem?.2 ⟨0, rfl⟩) (.inl rfl) (Nat.le_of_ble_eq_true rfl) (sq_out rfl rfl (fun _ _ => rfl)) (fun us w hl h => ld_num hl h)
        · exact q_call1 (F := (Fq.num a).P) hp (free_of rfl) trivial (enq_Sign) (sq_in 0 rfl rfl (by simp) rfl (fun v w h => h)) (fun v w h => exSign h)
        · exact q_one (F := fun v _ => v = .int .i64 (cmpI a 0)) hp (free_of rfl) trivial (sq_in 1 rfl rfl (by simp) rfl (fun v w h => h)) (fun ρ w hc h => ⟨.bool true, by simp [execOp, go_sem, h, hc, T1.out], rfl⟩)
        · exact q_move hp (free_of rfl) trivial (sq_in 2 rfl rfl (by simp) rfl (fun v w h => h))
        · exact q_loadInt (off := 0) hp (free_of rfl) (gq_some rfl rfl (by simp) rfl (fun v w h => h)) (List.mem_iff_getElem?.2 ⟨1, rfl⟩) (.inl rfl) (Nat.le_of_ble_eq_true rfl) (sq_out rfl rfl (fun _ _ => rfl)) (fun us w hl h => ld_num hl h)
        · exact q_call1 (F := (Fq.num b).P) hp (free_of rfl) (gq_some rfl rfl (by simp) rfl (fun v w h => h)) (enq_Sign) (sq_in 4 rfl rfl (by simp) rfl (fun v w h => h)) (fun v w h => exSign h)
        · exact q_one (F := fun v _ => v = .int .i64 (cmpI b 0)) hp (free_of rfl) (gq_some rfl rfl (by simp) rfl (fun v w h => h)) (sq_in 5 rfl rfl (by simp) rfl (fun v w h => h)) (fun ρ w hc h => ⟨.bool false, by simp [execOp, go_sem, h, hc, T2.out], rfl⟩)
        · exact q_two (F := fun v _ => v = .bool true) (G := fun v _ => v = .bool false) hp (free_of rfl) trivial (sq_in 3 rfl rfl (by simp) rfl (fun v w h => h)) (sq_in 6 rfl rfl (by simp) rfl (fun v w h => h)) (fun ρ w hc h h' => ⟨_, by simp [execOp, go_sem, h, h'], rfl⟩)
        · exact q_assign hp (free_of rfl) trivial (sq_in 7 rfl rfl (by simp) rfl (fun v w h => h))
        intro L vs w7 nb hL hC hn E7
        have e1 : vs 1 = .int .i64 (cmpI a 0) := hC 1 (by simp)
        have e2 : vs 2 = .bool true := hC 2 (by simp)
        have e3 : vs 3 = .bool true := hC 3 (by simp)
        have e5 : vs 5 = .int .i64 (cmpI b 0) := hC 5 (by simp)
        have e6 : vs 6 = .bool false := hC 6 (by simp)
        have e7 : vs 7 = .bool false := hC 7 (by simp)
        have e8 : vs 8 = .bool false := hC 8 (by simp)
        have E : Fr w [(b4_9, 2, Fq.num a), (b4_10, 2, Fq.num b), (b4_11, 2, Fq.num n), (b1, 6, Fq.three n1 a1 k1 c1 xs1 n2 a2 k2 c2 xs2 n3 a3 k3 c3 xs3)] w7 := E7
        rw [lay_all hL]
        simp only [putAll, dstOf, List.length_cons, List.length_nil, Nat.zero_add, Nat.reduceAdd, List.getElem?_toArray, List.getElem?_cons_zero, List.getElem?_cons_succ, Option.bind_some, Act.put, List.setIfInBounds_toArray, List.set_cons_succ, List.set_cons_zero]
        rw [e1, e2, e3, e5, e6, e7, e8]
        generalize vs 0 = u7_0
        generalize vs 4 = u7_4
        clear e1 e2 e3 e5 e6 e7 e8 hC hn E7 hL vs L nb
        go_wp2_with (fail)
        go_meet
        case rel => exact ⟨by rw [HE9.out], E⟩
      · have T1 : Hid (¬ cmpI a 0 = 0) := fun e => ha0 (cmpIq0.1 e)
        have T2 : Hid (¬ cmpI b 0 = 0) := fun e => hb0 (cmpIq0.1 e)
        have HE9 : Hid (fb = true) := by show _ = _; rw [FB.out]; exact decide_eq_true ⟨ha0, hb0⟩
        clear ha0 hb0
        refine region_fr (C := [Fq.num a, Fq.is (.int .i64 (cmpI a 0)), Fq.is (.bool true), Fq.is (.bool true), Fq.num b, Fq.is (.int .i64 (cmpI b 0)), Fq.is (.bool true), Fq.is (.bool true), Fq.is (.bool true)]) (ks := [none, none, none, none]) (new := []) E rfl (by kernel_rfl) rfl rfl (fun hp => ⟨?_, ?_, ?_, ?_, ?_, ?_, ?_, ?_, ?_, trivial⟩) ?_
        · exact q_loadInt (off := 0) hp (free_of rfl) trivial (List.mem_iff_getElem?.2 ⟨0, rfl⟩) (.inl rfl) (Nat.le_of_ble_eq_true rfl) (sq_out rfl rfl (fun _ _ => rfl)) (fun us w hl h => ld_num hl h)
        · exact q_call1 (F := (Fq.num a).P) hp (free_of rfl) trivial (enq_Sign) (sq_in 0 rfl rfl (by simp) rfl (fun v w h => h)) (fun v w h => exSign h)
        · exact q_one (F := fun v _ => v = .int .i64 (cmpI a 0)) hp (free_of rfl) trivial (sq_in 1 rfl rfl (by simp) rfl (fun v w h => h)) (fun ρ w hc h => ⟨.bool true, by simp [execOp, go_sem, h, hc, T1.out], rfl⟩)
        · exact q_move hp (free_of rfl) trivial (sq_in 2 rfl rfl (by simp) rfl (fun v w h => h))
        · exact q_loadInt (off := 0) hp (free_of rfl) (gq_some rfl rfl (by simp) rfl (fun v w h => h)) (List.mem_iff_getElem?.2 ⟨1, rfl⟩) (.inl rfl) (Nat.le_of_ble_eq_true rfl) (sq_out rfl rfl (fun _ _ => rfl)) (fun us w hl h => ld_num hl h)
        · exact q_call1 (F := (Fq.num b).P) hp (free_of rfl) (gq_some rfl rfl (by simp) rfl (fun v w h => h)) (enq_Sign) (sq_in 4 rfl rfl (by simp) rfl (fun v w h => h)) (fun v w h => exSign h)
        · exact q_one (F := fun v _ => v = .int .i64 (cmpI b 0)) hp (free_of rfl) (gq_some rfl rfl (by simp) rfl (fun v w h => h)) (sq_in 5 rfl rfl (by simp) rfl (fun v w h => h)) (fun ρ w hc h => ⟨.bool true, by simp [execOp, go_sem, h, hc, T2.out], rfl⟩)
        · exact q_two (F := fun v _ => v = .bool true) (G := fun v _ => v = .bool true) hp (free_of rfl) trivial (sq_in 3 rfl rfl (by simp) rfl (fun v w h => h)) (sq_in 6 rfl rfl (by simp) rfl (fun v w h => h)) (fun ρ w hc h h' => ⟨_, by simp [execOp, go_sem, h, h'], rfl⟩)
        · exact q_assign hp (free_of rfl) trivial (sq_in 7 rfl rfl (by simp) rfl (fun v w h => h))
        intro L vs w8 nb hL hC hn E8
        have e1 : vs 1 = .int .i64 (cmpI a 0) := hC 1 (by simp)
        have e2 : vs 2 = .bool true := hC 2 (by simp)
        have e3 : vs 3 = .bool true := hC 3 (by simp)
        have e5 : vs 5 = .int .i64 (cmpI b 0) := hC 5 (by simp)
        have e6 : vs 6 = .bool true := hC 6 (by simp)
        have e7 : vs 7 = .bool true := hC 7 (by simp)
        have e8 : vs 8 = .bool true := hC 8 (by simp)
        have E : Fr w [(b4_9, 2, Fq.num a), (b4_10, 2, Fq.num b), (b4_11, 2, Fq.num n), (b1, 6, Fq.three n1 a1 k1 c1 xs1 n2 a2 k2 c2 xs2 n3 a3 k3 c3 xs3)] w8 := E8
        rw [lay_all hL]
        simp only [putAll, dstOf, List.length_cons, List.length_nil, Nat.zero_add, Nat.reduceAdd, List.getElem?_toArray, List.getElem?_cons_zero, List.getElem?_cons_succ, Option.bind_some, Act.put, List.setIfInBounds_toArray, List.set_cons_succ, List.set_cons_zero]
        rw [e1, e2, e3, e5, e6, e7, e8]
        generalize vs 0 = u8_0
        generalize vs 4 = u8_4
        clear e1 e2 e3 e5 e6 e7 e8 hC hn E8 hL vs L nb
        go_wp2_with (fail)
        go_meet
        case rel => exact ⟨by rw [HE9.out], E⟩
  case rest =>
    clear E
    obtain ⟨rfl, E⟩ := hcut
    go_upto_region 7 with (fail)
    go_cut [56] from 45 (fun s W => s = .bool false ∧ Fr w [(b4_9, 2, Fq.num a), (b4_10, 2, Fq.num b), (b4_11, 2, Fq.num n), (b1, 6, Fq.three n1 a1 k1 c1 xs1 n2 a2 k2 c2 xs2 n3 a3 k3 c3 xs3)] W)
    case first =>
      by_cases hf : a ≠ 0 ∧ b ≠ 0
      · have HE9 : Hid (fb = true) := by show _ = _; rw [FB.out]; exact decide_eq_true hf
        have T1 : Hid (x = k * l) := EX.out hf.1 hf.2
        clear hf
        have B9 : Hid (ab ((a * b)) < pw 4) := ab_mulM Ba.out Bb.out (by omega)
        refine region_fr (C := [Fq.is (.bool true), Fq.is (.bool true), Fq.num a, Fq.num b, Fq.num (a * b), Fq.num n, Fq.is (.int .i64 x), Fq.is (.int .i64 k), Fq.is (.int .i64 l), Fq.is (.int .i64 (k * l)), Fq.is (.bool false), Fq.is (.bool false)]) (ks := [none, none, none, none]) (new := []) E rfl (by kernel_rfl) rfl rfl (fun hp => ⟨?_, ?_, ?_, ?_, ?_, ?_, ?_, ?_, ?_, ?_, ?_, ?_, trivial⟩) ?_
        · exact q_move hp (free_of rfl) trivial (sq_out rfl rfl (fun _ _ => congrArg Value.bool HE9.out))
        · exact q_move hp (free_of rfl) trivial (sq_in 0 rfl rfl (by simp) rfl (fun v w h => h))
        · exact q_loadInt (off := 0) hp (free_of rfl) (gq_some rfl rfl (by simp) rfl (fun v w h => h)) (List.mem_iff_getElem?.2 ⟨0, rfl⟩) (.inl rfl) (Nat.le_of_ble_eq_true rfl) (sq_out rfl rfl (fun _ _ => rfl)) (fun us w hl h => ld_num hl h)
        · exact q_loadInt (off := 0) hp (free_of rfl) (gq_some rfl rfl (by simp) rfl (fun v w h => h)) (List.mem_iff_getElem?.2 ⟨1, rfl⟩) (.inl rfl) (Nat.le_of_ble_eq_true rfl) (sq_out rfl rfl (fun _ _ => rfl)) (fun us w hl h => ld_num hl h)
        · exact q_call2 (F := (Fq.num a).P) (G := (Fq.num b).P) hp (free_of rfl) (gq_some rfl rfl (by simp) rfl (fun v w h => h)) (enq_Mul) (sq_in 2 rfl rfl (by simp) rfl (fun v w h => h)) (sq_in 3 rfl rfl (by simp) rfl (fun v w h => h)) (fun v v' w h h' => exK (MulV h h') B9.out (by omega))
        · exact q_loadInt (off := 0) hp (free_of rfl) (gq_some rfl rfl (by simp) rfl (fun v w h => h)) (List.mem_iff_getElem?.2 ⟨2, rfl⟩) (.inl rfl) (Nat.le_of_ble_eq_true rfl) (sq_out rfl rfl (fun _ _ => rfl)) (fun us w hl h => ld_num hl h)
        · exact q_call2W (F := (Fq.num (a * b)).P) (G := (Fq.num n).P) hp (free_of rfl) (gq_some rfl rfl (by simp) rfl (fun v w h => h)) (enq_M_Kronecker) rfl (sq_in 4 rfl rfl (by simp) rfl (fun v w h => h)) (sq_in 5 rfl rfl (by simp) rfl (fun v w h => h)) (fun v v' w hbw h h' => exKronR h h' (hT.out.mono hbw) (Int.lt_of_lt_of_le B9.out (pw_le (by omega))) (Int.lt_of_lt_of_le Bn.out (pw_le (by omega))) EXX.out)
        · exact q_move hp (free_of rfl) (gq_some rfl rfl (by simp) rfl (fun v w h => h)) (sq_out rfl rfl (fun _ _ => rfl))
        · exact q_move hp (free_of rfl) (gq_some rfl rfl (by simp) rfl (fun v w h => h)) (sq_out rfl rfl (fun _ _ => rfl))
        · exact q_two (F := fun v _ => v = .int .i64 k) (G := fun v _ => v = .int .i64 l) hp (free_of rfl) (gq_some rfl rfl (by simp) rfl (fun v w h => h)) (sq_in 7 rfl rfl (by simp) rfl (fun v w h => h)) (sq_in 8 rfl rfl (by simp) rfl (fun v w h => h)) (fun ρ w hc h h' => ⟨.int .i64 (k * l), by simp [execOp, go_sem, h, h', WKL.out], rfl⟩)
        · exact q_two (F := fun v _ => v = .int .i64 x) (G := fun v _ => v = .int .i64 (k * l)) hp (free_of rfl) (gq_some rfl rfl (by simp) rfl (fun v w h => h)) (sq_in 6 rfl rfl (by simp) rfl (fun v w h => h)) (sq_in 9 rfl rfl (by simp) rfl (fun v w h => h)) (fun ρ w hc h h' => ⟨.bool false, by simp [execOp, go_sem, h, h', T1.out], rfl⟩)
        · exact q_two (F := fun v _ => v = .bool true) (G := fun v _ => v = .bool false) hp (free_of rfl) trivial (sq_in 1 rfl rfl (by simp) rfl (fun v w h => h)) (sq_in 10 rfl rfl (by simp) rfl (fun v w h => h)) (fun ρ w hc h h' => ⟨_, by simp [execOp, go_sem, h, h'], rfl⟩)
        intro L vs w10 nb hL hC hn E10
        have e0 : vs 0 = .bool true := hC 0 (by simp)
        have e1 : vs 1 = .bool true := hC 1 (by simp)
        have e6 : vs 6 = .int .i64 x := hC 6 (by simp)
        have e7 : vs 7 = .int .i64 k := hC 7 (by simp)
        have e8 : vs 8 = .int .i64 l := hC 8 (by simp)
        have e9 : vs 9 = .int .i64 (k * l) := hC 9 (by simp)
        have e10 : vs 10 = .bool false := hC 10 (by simp)
        have e11 : vs 11 = .bool false := hC 11 (by simp)
        have E : Fr w [(b4_9, 2, Fq.num a), (b4_10, 2, Fq.num b), (b4_11, 2, Fq.num n), (b1, 6, Fq.three n1 a1 k1 c1 xs1 n2 a2 k2 c2 xs2 n3 a3 k3 c3 xs3)] w10 := E10
        rw [lay_all hL]
        simp only [putAll, dstOf, List.length_cons, List.length_nil, Nat.zero_add, Nat.reduceAdd, List.getElem?_toArray, List.getElem?_cons_zero, List.getElem?_cons_succ, Option.bind_some, Act.put, List.setIfInBounds_toArray, List.set_cons_succ, List.set_cons_zero]
        rw [e0, e1, e6, e7, e8, e9, e10, e11]
        generalize vs 2 = u10_2
        generalize vs 3 = u10_3
        generalize vs 4 = u10_4
        generalize vs 5 = u10_5
        clear e0 e1 e6 e7 e8 e9 e10 e11 hC hn E10 hL vs L nb
        go_wp2_with (fail)
        go_meet
        case rel => exact ⟨rfl, E⟩
      · have HE9 : Hid (fb = false) := by show _ = _; rw [FB.out]; exact decide_eq_false hf
        clear hf
        refine region_fr (C := [Fq.is (.bool false), Fq.is (.bool false), Fq.is (undef), Fq.is (undef), Fq.is (undef), Fq.is (undef), Fq.is (undef), Fq.is (undef), Fq.is (undef), Fq.is (undef), Fq.is (undef), Fq.is (.bool false)]) (ks := [none, none, none, none]) (new := []) E rfl (by kernel_rfl) rfl rfl (fun hp => ⟨?_, ?_, ?_, ?_, ?_, ?_, ?_, ?_, ?_, ?_, ?_, ?_, trivial⟩) ?_
        · exact q_move hp (free_of rfl) trivial (sq_out rfl rfl (fun _ _ => congrArg Value.bool HE9.out))
        · exact q_move hp (free_of rfl) trivial (sq_in 0 rfl rfl (by simp) rfl (fun v w h => h))
        · exact q_skip hp (free_of rfl) rfl (gq_some rfl rfl (by simp) rfl (fun v w h => h)) (fun _ => rfl)
        · exact q_skip hp (free_of rfl) rfl (gq_some rfl rfl (by simp) rfl (fun v w h => h)) (fun _ => rfl)
        · exact q_skip hp (free_of rfl) rfl (gq_some rfl rfl (by simp) rfl (fun v w h => h)) (fun _ => rfl)
        · exact q_skip hp (free_of rfl) rfl (gq_some rfl rfl (by simp) rfl (fun v w h => h)) (fun _ => rfl)
        · exact q_skip hp (free_of rfl) rfl (gq_some rfl rfl (by simp) rfl (fun v w h => h)) (fun _ => rfl)
        · exact q_skip hp (free_of rfl) rfl (gq_some rfl rfl (by simp) rfl (fun v w h => h)) (fun _ => rfl)
        · exact q_skip hp (free_of rfl) rfl (gq_some rfl rfl (by simp) rfl (fun v w h => h)) (fun _ => rfl)
        · exact q_skip hp (free_of rfl) rfl (gq_some rfl rfl (by simp) rfl (fun v w h => h)) (fun _ => rfl)
        · exact q_skip hp (free_of rfl) rfl (gq_some rfl rfl (by simp) rfl (fun v w h => h)) (fun _ => rfl)
        · exact q_two (F := fun v _ => v = .bool false) (G := fun v _ => v = .bool false) hp (free_of rfl) trivial (sq_in 1 rfl rfl (by simp) rfl (fun v w h => h)) (sq_const (fun _ => rfl)) (fun ρ w hc h h' => ⟨_, by simp [execOp, go_sem, h, h'], rfl⟩)
        intro L vs w11 nb hL hC hn E11
        have e0 : vs 0 = .bool false := hC 0 (by simp)
        have e1 : vs 1 = .bool false := hC 1 (by simp)
        have e2 : vs 2 = undef := hC 2 (by simp)
        have e3 : vs 3 = undef := hC 3 (by simp)
        have e4 : vs 4 = undef := hC 4 (by simp)
        have e5 : vs 5 = undef := hC 5 (by simp)
        have e6 : vs 6 = undef := hC 6 (by simp)
        have e7 : vs 7 = undef := hC 7 (by simp)
        have e8 : vs 8 = undef := hC 8 (by simp)
        have e9 : vs 9 = undef := hC 9 (by simp)
        have e10 : vs 10 = undef := hC 10 (by simp)
        have e11 : vs 11 = .bool false := hC 11 (by simp)
        have E : Fr w [(b4_9, 2, Fq.num a), (b4_10, 2, Fq.num b), (b4_11, 2, Fq.num n), (b1, 6, Fq.three n1 a1 k1 c1 xs1 n2 a2 k2 c2 xs2 n3 a3 k3 c3 xs3)] w11 := E11
        rw [lay_all hL]
        simp only [putAll, dstOf, List.length_cons, List.length_nil, Nat.zero_add, Nat.reduceAdd, List.getElem?_toArray, List.getElem?_cons_zero, List.getElem?_cons_succ, Option.bind_some, Act.put, List.setIfInBounds_toArray, List.set_cons_succ, List.set_cons_zero]
        rw [e0, e1, e2, e3, e4, e5, e6, e7, e8, e9, e10, e11]
        clear e0 e1 e2 e3 e4 e5 e6 e7 e8 e9 e10 e11 hC hn E11 hL vs L nb
        go_wp2_with (fail)
        go_meet
        case rel => exact ⟨rfl, E⟩
    case rest =>
      clear E
      obtain ⟨rfl, E⟩ := hcut
      go_upto_region 9 with (fail)
      go_cut [72] from 57 (fun s W => s = .bool false ∧ Fr w [(b4_9, 2, Fq.num a), (b4_10, 2, Fq.num b), (b4_11, 2, Fq.num n), (b1, 6, Fq.three n1 a1 k1 c1 xs1 n2 a2 k2 c2 xs2 n3 a3 k3 c3 xs3)] W)
      case first =>
        by_cases hf : a ≠ 0 ∧ b ≠ 0
        · have HE9 : Hid (fb = true) := by show _ = _; rw [FB.out]; exact decide_eq_true hf
          have T1 : Hid (y = p * q) := EY.out hf.1 hf.2
          clear hf
          have B12 : Hid (ab ((a * b)) < pw 4) := ab_mulM Ba.out Bb.out (by omega)
          refine region_fr (C := [Fq.is (.bool true), Fq.is (.bool true), Fq.num n, Fq.num a, Fq.num b, Fq.num (a * b), Fq.is (.int .i64 y), Fq.num n, Fq.num a, Fq.is (.int .i64 p), Fq.num n, Fq.num b, Fq.is (.int .i64 q), Fq.is (.int .i64 (p * q)), Fq.is (.bool false), Fq.is (.bool false)]) (ks := [none, none, none, none]) (new := []) E rfl (by kernel_rfl) rfl rfl (fun hp => ⟨?_, ?_, ?_, ?_, ?_, ?_, ?_, ?_, ?_, ?_, ?_, ?_, ?_, ?_, ?_, ?_, trivial⟩) ?_
          · exact q_move hp (free_of rfl) trivial (sq_out rfl rfl (fun _ _ => congrArg Value.bool HE9.out))
          · exact q_move hp (free_of rfl) trivial (sq_in 0 rfl rfl (by simp) rfl (fun v w h => h))
          · exact q_loadInt (off := 0) hp (free_of rfl) (gq_some rfl rfl (by simp) rfl (fun v w h => h)) (List.mem_iff_getElem?.2 ⟨2, rfl⟩) (.inl rfl) (Nat.le_of_ble_eq_true rfl) (sq_out rfl rfl (fun _ _ => rfl)) (fun us w hl h => ld_num hl h)
          · exact q_loadInt (off := 0) hp (free_of rfl) (gq_some rfl rfl (by simp) rfl (fun v w h => h)) (List.mem_iff_getElem?.2 ⟨0, rfl⟩) (.inl rfl) (Nat.le_of_ble_eq_true rfl) (sq_out rfl rfl (fun _ _ => rfl)) (fun us w hl h => ld_num hl h)
          · exact q_loadInt (off := 0) hp (free_of rfl) (gq_some rfl rfl (by simp) rfl (fun v w h => h)) (List.mem_iff_getElem?.2 ⟨1, rfl⟩) (.inl rfl) (Nat.le_of_ble_eq_true rfl) (sq_out rfl rfl (fun _ _ => rfl)) (fun us w hl h => ld_num hl h)
          · exact q_call2 (F := (Fq.num a).P) (G := (Fq.num b).P) hp (free_of rfl) (gq_some rfl rfl (by simp) rfl (fun v w h => h)) (enq_Mul) (sq_in 3 rfl rfl (by simp) rfl (fun v w h => h)) (sq_in 4 rfl rfl (by simp) rfl (fun v w h => h)) (fun v v' w h h' => exK (MulV h h') B12.out (by omega))
          · exact q_call2W (F := (Fq.num n).P) (G := (Fq.num (a * b)).P) hp (free_of rfl) (gq_some rfl rfl (by simp) rfl (fun v w h => h)) (enq_M_Kronecker) rfl (sq_in 2 rfl rfl (by simp) rfl (fun v w h => h)) (sq_in 5 rfl rfl (by simp) rfl (fun v w h => h)) (fun v v' w hbw h h' => exKronR h h' (hT.out.mono hbw) (Int.lt_of_lt_of_le Bn.out (pw_le (by omega))) (Int.lt_of_lt_of_le B12.out (pw_le (by omega))) EYY.out)
          · exact q_loadInt (off := 0) hp (free_of rfl) (gq_some rfl rfl (by simp) rfl (fun v w h => h)) (List.mem_iff_getElem?.2 ⟨2, rfl⟩) (.inl rfl) (Nat.le_of_ble_eq_true rfl) (sq_out rfl rfl (fun _ _ => rfl)) (fun us w hl h => ld_num hl h)
          · exact q_loadInt (off := 0) hp (free_of rfl) (gq_some rfl rfl (by simp) rfl (fun v w h => h)) (List.mem_iff_getElem?.2 ⟨0, rfl⟩) (.inl rfl) (Nat.le_of_ble_eq_true rfl) (sq_out rfl rfl (fun _ _ => rfl)) (fun us w hl h => ld_num hl h)
          · exact q_call2W (F := (Fq.num n).P) (G := (Fq.num a).P) hp (free_of rfl) (gq_some rfl rfl (by simp) rfl (fun v w h => h)) (enq_M_Kronecker) rfl (sq_in 7 rfl rfl (by simp) rfl (fun v w h => h)) (sq_in 8 rfl rfl (by simp) rfl (fun v w h => h)) (fun v v' w hbw h h' => exKronR h h' (hT.out.mono hbw) (Int.lt_of_lt_of_le Bn.out (pw_le (by omega))) (Int.lt_of_lt_of_le Ba.out (pw_le (by omega))) EP.out)
          · exact q_loadInt (off := 0) hp (free_of rfl) (gq_some rfl rfl (by simp) rfl (fun v w h => h)) (List.mem_iff_getElem?.2 ⟨2, rfl⟩) (.inl rfl) (Nat.le_of_ble_eq_true rfl) (sq_out rfl rfl (fun _ _ => rfl)) (fun us w hl h => ld_num hl h)
          · exact q_loadInt (off := 0) hp (free_of rfl) (gq_some rfl rfl (by simp) rfl (fun v w h => h)) (List.mem_iff_getElem?.2 ⟨1, rfl⟩) (.inl rfl) (Nat.le_of_ble_eq_true rfl) (sq_out rfl rfl (fun _ _ => rfl)) (fun us w hl h => ld_num hl h)
          · exact q_call2W (F := (Fq.num n).P) (G := (Fq.num b).P) hp (free_of rfl) (gq_some rfl rfl (by simp) rfl (fun v w h => h)) (enq_M_Kronecker) rfl (sq_in 10 rfl rfl (by simp) rfl (fun v w h => h)) (sq_in 11 rfl rfl (by simp) rfl (fun v w h => h)) (fun v v' w hbw h h' => exKronR h h' (hT.out.mono hbw) (Int.lt_of_lt_of_le Bn.out (pw_le (by omega))) (Int.lt_of_lt_of_le Bb.out (pw_le (by omega))) EQ.out)
          · exact q_two (F := fun v _ => v = .int .i64 p) (G := fun v _ => v = .int .i64 q) hp (free_of rfl) (gq_some rfl rfl (by simp) rfl (fun v w h => h)) (sq_in 9 rfl rfl (by simp) rfl (fun v w h => h)) (sq_in 12 rfl rfl (by simp) rfl (fun v w h => h)) (fun ρ w hc h h' => ⟨.int .i64 (p * q), by simp [execOp, go_sem, h, h', WPQ.out], rfl⟩)
          · exact q_two (F := fun v _ => v = .int .i64 y) (G := fun v _ => v = .int .i64 (p * q)) hp (free_of rfl) (gq_some rfl rfl (by simp) rfl (fun v w h => h)) (sq_in 6 rfl rfl (by simp) rfl (fun v w h => h)) (sq_in 13 rfl rfl (by simp) rfl (fun v w h => h)) (fun ρ w hc h h' => ⟨.bool false, by simp [execOp, go_sem, h, h', T1.out], rfl⟩)
          · exact q_two (F := fun v _ => v = .bool true) (G := fun v _ => v = .bool false) hp (free_of rfl) trivial (sq_in 1 rfl rfl (by simp) rfl (fun v w h => h)) (sq_in 14 rfl rfl (by simp) rfl (fun v w h => h)) (fun ρ w hc h h' => ⟨_, by simp [execOp, go_sem, h, h'], rfl⟩)
          intro L vs w13 nb hL hC hn E13
          have e0 : vs 0 = .bool true := hC 0 (by simp)
          have e1 : vs 1 = .bool true := hC 1 (by simp)
          have e6 : vs 6 = .int .i64 y := hC 6 (by simp)
          have e9 : vs 9 = .int .i64 p := hC 9 (by simp)
          have e12 : vs 12 = .int .i64 q := hC 12 (by simp)
          have e13 : vs 13 = .int .i64 (p * q) := hC 13 (by simp)
          have e14 : vs 14 = .bool false := hC 14 (by simp)
          have e15 : vs 15 = .bool false := hC 15 (by simp)
          have E : Fr w [(b4_9, 2, Fq.num a), (b4_10, 2, Fq.num b), (b4_11, 2, Fq.num n), (b1, 6, Fq.three n1 a1 k1 c1 xs1 n2 a2 k2 c2 xs2 n3 a3 k3 c3 xs3)] w13 := E13
          rw [lay_all hL]
          simp only [putAll, dstOf, List.length_cons, List.length_nil, Nat.zero_add, Nat.reduceAdd, List.getElem?_toArray, List.getElem?_cons_zero, List.getElem?_cons_succ, Option.bind_some, Act.put, List.setIfInBounds_toArray, List.set_cons_succ, List.set_cons_zero]
          rw [e0, e1, e6, e9, e12, e13, e14, e15]
          generalize vs 2 = u13_2
          generalize vs 3 = u13_3
          generalize vs 4 = u13_4
          generalize vs 5 = u13_5
          generalize vs 7 = u13_7
          generalize vs 8 = u13_8
          generalize vs 10 = u13_10
          generalize vs 11 = u13_11
          clear e0 e1 e6 e9 e12 e13 e14 e15 hC hn E13 hL vs L nb
          go_wp2_with (fail)
          go_meet
          case rel => exact ⟨rfl, E⟩
        · have HE9 : Hid (fb = false) := by show _ = _; rw [FB.out]; exact decide_eq_false hf
          clear hf
          refine region_fr (C := [Fq.is (.bool false), Fq.is (.bool false), Fq.is (undef), Fq.is (undef), Fq.is (undef), Fq.is (undef), Fq.is (undef), Fq.is (undef), Fq.is (undef), Fq.is (undef), Fq.is (undef), Fq.is (undef), Fq.is (undef), Fq.is (undef), Fq.is (undef), Fq.is (.bool false)]) (ks := [none, none, none, none]) (new := []) E rfl (by kernel_rfl) rfl rfl (fun hp => ⟨?_, ?_, ?_, ?_, ?_, ?_, ?_, ?_, ?_, ?_, ?_, ?_, ?_, ?_, ?_, ?_, trivial⟩) ?_
          · exact q_move hp (free_of rfl) trivial (sq_out rfl rfl (fun _ _ => congrArg Value.bool HE9.out))
          · exact q_move hp (free_of rfl) trivial (sq_in 0 rfl rfl (by simp) rfl (fun v w h => h))
          · exact q_skip hp (free_of rfl) rfl (gq_some rfl rfl (by simp) rfl (fun v w h => h)) (fun _ => rfl)
          · exact q_skip hp (free_of rfl) rfl (gq_some rfl rfl (by simp) rfl (fun v w h => h)) (fun _ => rfl)
          · exact q_skip hp (free_of rfl) rfl (gq_some rfl rfl (by simp) rfl (fun v w h => h)) (fun _ => rfl)
          · exact q_skip hp (free_of rfl) rfl (gq_some rfl rfl (by simp) rfl (fun v w h => h)) (fun _ => rfl)
          · exact q_skip hp (free_of rfl) rfl (gq_some rfl rfl (by simp) rfl (fun v w h => h)) (fun _ => rfl)
          · exact q_skip hp (free_of rfl) rfl (gq_some rfl rfl (by simp) rfl (fun v w h => h)) (fun _ => rfl)
          · exact q_skip hp (free_of rfl) rfl (gq_some rfl rfl (by simp) rfl (fun v w h => h)) (fun _ => rfl)
          · exact q_skip hp (free_of rfl) rfl (gq_some rfl rfl (by simp) rfl (fun v w h => h)) (fun _ => rfl)
          · exact q_skip hp (free_of rfl) rfl (gq_some rfl rfl (by simp) rfl (fun v w h => h)) (fun _ => rfl)
          · exact q_skip hp (free_of rfl) rfl (gq_some rfl rfl (by simp) rfl (fun v w h => h)) (fun _ => rfl)
          · exact q_skip hp (free_of rfl) rfl (gq_some rfl rfl (by simp) rfl (fun v w h => h)) (fun _ => rfl)
          · exact q_skip hp (free_of rfl) rfl (gq_some rfl rfl (by simp) rfl (fun v w h => h)) (fun _ => rfl)
          · exact q_skip hp (free_of rfl) rfl (gq_some rfl rfl (by simp) rfl (fun v w h => h)) (fun _ => rfl)
          · exact q_two (F := fun v _ => v = .bool false) (G := fun v _ => v = .bool false) hp (free_of rfl) trivial (sq_in 1 rfl rfl (by simp) rfl (fun v w h => h)) (sq_const (fun _ => rfl)) (fun ρ w hc h h' => ⟨_, by simp [execOp, go_sem, h, h'], rfl⟩)
          intro L vs w14 nb hL hC hn E14
          have e0 : vs 0 = .bool false := hC 0 (by simp)
          have e1 : vs 1 = .bool false := hC 1 (by simp)
          have e2 : vs 2 = undef := hC 2 (by simp)
          have e3 : vs 3 = undef := hC 3 (by simp)
          have e4 : vs 4 = undef := hC 4 (by simp)
          have e5 : vs 5 = undef := hC 5 (by simp)
          have e6 : vs 6 = undef := hC 6 (by simp)
          have e7 : vs 7 = undef := hC 7 (by simp)
          have e8 : vs 8 = undef := hC 8 (by simp)
          have e9 : vs 9 = undef := hC 9 (by simp)
          have e10 : vs 10 = undef := hC 10 (by simp)
          have e11 : vs 11 = undef := hC 11 (by simp)
          have e12 : vs 12 = undef := hC 12 (by simp)
          have e13 : vs 13 = undef := hC 13 (by simp)
          have e14 : vs 14 = undef := hC 14 (by simp)
          have e15 : vs 15 = .bool false := hC 15 (by simp)
          have E : Fr w [(b4_9, 2, Fq.num a), (b4_10, 2, Fq.num b), (b4_11, 2, Fq.num n), (b1, 6, Fq.three n1 a1 k1 c1 xs1 n2 a2 k2 c2 xs2 n3 a3 k3 c3 xs3)] w14 := E14
          rw [lay_all hL]
          simp only [putAll, dstOf, List.length_cons, List.length_nil, Nat.zero_add, Nat.reduceAdd, List.getElem?_toArray, List.getElem?_cons_zero, List.getElem?_cons_succ, Option.bind_some, Act.put, List.setIfInBounds_toArray, List.set_cons_succ, List.set_cons_zero]
          rw [e0, e1, e2, e3, e4, e5, e6, e7, e8, e9, e10, e11, e12, e13, e14, e15]
          clear e0 e1 e2 e3 e4 e5 e6 e7 e8 e9 e10 e11 e12 e13 e14 e15 hC hn E14 hL vs L nb
          go_wp2_with (fail)
          go_meet
          case rel => exact ⟨rfl, E⟩
      case rest =>
        clear E
        obtain ⟨rfl, E⟩ := hcut
        go_upto_region 11 with (fail)
        go_cut [81] from 73 (fun s W => s = .bool false ∧ Fr w [(b4_9, 2, Fq.num a), (b4_10, 2, Fq.num b), (b4_11, 2, Fq.num n), (b1, 6, Fq.three n1 a1 k1 c1 xs1 n2 a2 k2 c2 xs2 n3 a3 k3 c3 xs3)] W)
        case first =>
          by_cases hz : k = 0
          · have T1 := hidd hz
            have T2 : Hid (¬ cmpI (Int.gcd a n : Int) (1) = 0) := by have := EZ.out.1 hz; show ¬ _; rw [cmpI_eq0]; omega
            clear hz
            have B15 : Hid (ab ((Int.gcd a n : Int)) < pw 2) := ab_gcdB Ba.out Bn.out (by omega) (by omega)
            have B16 : Hid (ab ((1)) < pw 3) := ab_lit (by decide)
            refine region_fr (C := [Fq.is (.int .i64 k), Fq.is (.bool true), Fq.num a, Fq.num n, Fq.num (Int.gcd a n : Int), Fq.num (1), Fq.is (.int .i64 (cmpI (Int.gcd a n : Int) (1))), Fq.is (.bool true), Fq.is (.bool false)]) (ks := [none, none, none, none]) (new := []) E rfl (by kernel_rfl) rfl rfl (fun hp => ⟨?_, ?_, ?_, ?_, ?_, ?_, ?_, ?_, ?_, trivial⟩) ?_
            · exact q_move hp (free_of rfl) trivial (sq_out rfl rfl (fun _ _ => rfl))
            · exact q_one (F := fun v _ => v = .int .i64 k) hp (free_of rfl) trivial (sq_in 0 rfl rfl (by simp) rfl (fun v w h => h)) (fun ρ w hc h => ⟨.bool true, by simp [execOp, go_sem, h, hc, T1.out], rfl⟩)
            · exact q_loadInt (off := 0) hp (free_of rfl) trivial (List.mem_iff_getElem?.2 ⟨0, rfl⟩) (.inl rfl) (Nat.le_of_ble_eq_true rfl) (sq_out rfl rfl (fun _ _ => rfl)) (fun us w hl h => ld_num hl h)
            · exact q_loadInt (off := 0) hp (free_of rfl) trivial (List.mem_iff_getElem?.2 ⟨2, rfl⟩) (.inl rfl) (Nat.le_of_ble_eq_true rfl) (sq_out rfl rfl (fun _ _ => rfl)) (fun us w hl h => ld_num hl h)
            · exact q_call2 (F := (Fq.num a).P) (G := (Fq.num n).P) hp (free_of rfl) trivial (enq_Gcd) (sq_in 2 rfl rfl (by simp) rfl (fun v w h => h)) (sq_in 3 rfl rfl (by simp) rfl (fun v w h => h)) (fun v v' w h h' => exK (GcdV h h') B15.out (by omega))
            · exact q_call1 (F := (Fq.is (.int .i64 1)).P) hp (free_of rfl) trivial (enq_V_of) (sq_const (fun _ => rfl)) (fun v w h => (by subst h; exact exVOf (by omega)))
            · exact q_call2 (F := (Fq.num (Int.gcd a n : Int)).P) (G := (Fq.num (1)).P) hp (free_of rfl) trivial (enq_Cmp) (sq_in 4 rfl rfl (by simp) rfl (fun v w h => h)) (sq_in 5 rfl rfl (by simp) rfl (fun v w h => h)) (fun v v' w h h' => exCmp h h')
            · exact q_one (F := fun v _ => v = .int .i64 (cmpI (Int.gcd a n : Int) (1))) hp (free_of rfl) trivial (sq_in 6 rfl rfl (by simp) rfl (fun v w h => h)) (fun ρ w hc h => ⟨.bool true, by simp [execOp, go_sem, h, hc, T2.out], rfl⟩)
            · exact q_two (F := fun v _ => v = .bool true) (G := fun v _ => v = .bool true) hp (free_of rfl) trivial (sq_in 1 rfl rfl (by simp) rfl (fun v w h => h)) (sq_in 7 rfl rfl (by simp) rfl (fun v w h => h)) (fun ρ w hc h h' => ⟨.bool false, by simp [execOp, go_sem, h, h'], rfl⟩)
            intro L vs w17 nb hL hC hn E17
            have e0 : vs 0 = .int .i64 k := hC 0 (by simp)
            have e1 : vs 1 = .bool true := hC 1 (by simp)
            have e6 : vs 6 = .int .i64 (cmpI (Int.gcd a n : Int) (1)) := hC 6 (by simp)
            have e7 : vs 7 = .bool true := hC 7 (by simp)
            have e8 : vs 8 = .bool false := hC 8 (by simp)
            have E : Fr w [(b4_9, 2, Fq.num a), (b4_10, 2, Fq.num b), (b4_11, 2, Fq.num n), (b1, 6, Fq.three n1 a1 k1 c1 xs1 n2 a2 k2 c2 xs2 n3 a3 k3 c3 xs3)] w17 := E17
            rw [lay_all hL]
            simp only [putAll, dstOf, List.length_cons, List.length_nil, Nat.zero_add, Nat.reduceAdd, List.getElem?_toArray, List.getElem?_cons_zero, List.getElem?_cons_succ, Option.bind_some, Act.put, List.setIfInBounds_toArray, List.set_cons_succ, List.set_cons_zero]
            rw [e0, e1, e6, e7, e8]
            generalize vs 2 = u17_2
            generalize vs 3 = u17_3
            generalize vs 4 = u17_4
            generalize vs 5 = u17_5
            clear e0 e1 e6 e7 e8 hC hn E17 hL vs L nb
            go_wp2_with (fail)
            go_meet
            case rel => exact ⟨rfl, E⟩
          · have T1 := hidd hz
            have T2 : Hid (cmpI (Int.gcd a n : Int) (1) = 0) := by show _ = _; rw [cmpI_eq0]; have h : Int.gcd a n = 1 := Classical.byContradiction fun h => hz (EZ.out.2 h); omega
            clear hz
            have B18 : Hid (ab ((Int.gcd a n : Int)) < pw 2) := ab_gcdB Ba.out Bn.out (by omega) (by omega)
            have B19 : Hid (ab ((1)) < pw 3) := ab_lit (by decide)
            refine region_fr (C := [Fq.is (.int .i64 k), Fq.is (.bool false), Fq.num a, Fq.num n, Fq.num (Int.gcd a n : Int), Fq.num (1), Fq.is (.int .i64 (cmpI (Int.gcd a n : Int) (1))), Fq.is (.bool false), Fq.is (.bool false)]) (ks := [none, none, none, none]) (new := []) E rfl (by kernel_rfl) rfl rfl (fun hp => ⟨?_, ?_, ?_, ?_, ?_, ?_, ?_, ?_, ?_, trivial⟩) ?_
            · exact q_move hp (free_of rfl) trivial (sq_out rfl rfl (fun _ _ => rfl))
            · exact q_one (F := fun v _ => v = .int .i64 k) hp (free_of rfl) trivial (sq_in 0 rfl rfl (by simp) rfl (fun v w h => h)) (fun ρ w hc h => ⟨.bool false, by simp [execOp, go_sem, h, hc, T1.out], rfl⟩)
            · exact q_loadInt (off := 0) hp (free_of rfl) trivial (List.mem_iff_getElem?.2 ⟨0, rfl⟩) (.inl rfl) (Nat.le_of_ble_eq_true rfl) (sq_out rfl rfl (fun _ _ => rfl)) (fun us w hl h => ld_num hl h)
            · exact q_loadInt (off := 0) hp (free_of rfl) trivial (List.mem_iff_getElem?.2 ⟨2, rfl⟩) (.inl rfl) (Nat.le_of_ble_eq_true rfl) (sq_out rfl rfl (fun _ _ => rfl)) (fun us w hl h => ld_num hl h)
            · exact q_call2 (F := (Fq.num a).P) (G := (Fq.num n).P) hp (free_of rfl) trivial (enq_Gcd) (sq_in 2 rfl rfl (by simp) rfl (fun v w h => h)) (sq_in 3 rfl rfl (by simp) rfl (fun v w h => h)) (fun v v' w h h' => exK (GcdV h h') B18.out (by omega))
            · exact q_call1 (F := (Fq.is (.int .i64 1)).P) hp (free_of rfl) trivial (enq_V_of) (sq_const (fun _ => rfl)) (fun v w h => (by subst h; exact exVOf (by omega)))
            · exact q_call2 (F := (Fq.num (Int.gcd a n : Int)).P) (G := (Fq.num (1)).P) hp (free_of rfl) trivial (enq_Cmp) (sq_in 4 rfl rfl (by simp) rfl (fun v w h => h)) (sq_in 5 rfl rfl (by simp) rfl (fun v w h => h)) (fun v v' w h h' => exCmp h h')
            · exact q_one (F := fun v _ => v = .int .i64 (cmpI (Int.gcd a n : Int) (1))) hp (free_of rfl) trivial (sq_in 6 rfl rfl (by simp) rfl (fun v w h => h)) (fun ρ w hc h => ⟨.bool false, by simp [execOp, go_sem, h, hc, T2.out], rfl⟩)
            · exact q_two (F := fun v _ => v = .bool false) (G := fun v _ => v = .bool false) hp (free_of rfl) trivial (sq_in 1 rfl rfl (by simp) rfl (fun v w h => h)) (sq_in 7 rfl rfl (by simp) rfl (fun v w h => h)) (fun ρ w hc h h' => ⟨.bool false, by simp [execOp, go_sem, h, h'], rfl⟩)
            intro L vs w20 nb hL hC hn E20
            have e0 : vs 0 = .int .i64 k := hC 0 (by simp)
            have e1 : vs 1 = .bool false := hC 1 (by simp)
            have e6 : vs 6 = .int .i64 (cmpI (Int.gcd a n : Int) (1)) := hC 6 (by simp)
            have e7 : vs 7 = .bool false := hC 7 (by simp)
            have e8 : vs 8 = .bool false := hC 8 (by simp)
            have E : Fr w [(b4_9, 2, Fq.num a), (b4_10, 2, Fq.num b), (b4_11, 2, Fq.num n), (b1, 6, Fq.three n1 a1 k1 c1 xs1 n2 a2 k2 c2 xs2 n3 a3 k3 c3 xs3)] w20 := E20
            rw [lay_all hL]
            simp only [putAll, dstOf, List.length_cons, List.length_nil, Nat.zero_add, Nat.reduceAdd, List.getElem?_toArray, List.getElem?_cons_zero, List.getElem?_cons_succ, Option.bind_some, Act.put, List.setIfInBounds_toArray, List.set_cons_succ, List.set_cons_zero]
            rw [e0, e1, e6, e7, e8]
            generalize vs 2 = u20_2
            generalize vs 3 = u20_3
            generalize vs 4 = u20_4
            generalize vs 5 = u20_5
            clear e0 e1 e6 e7 e8 hC hn E20 hL vs L nb
            go_wp2_with (fail)
            go_meet
            case rel => exact ⟨rfl, E⟩
        case rest =>
          clear E
          obtain ⟨rfl, E⟩ := hcut
          clear EX EY EZ FB EK EL EXX EYY EP EQ WKL WPQ
          go_upto_region 13 with (fail)
          refine region_fr (C := [Fq.num a, Fq.num c, Fq.num b, Fq.num d, Fq.any, Fq.any, Fq.any, Fq.any]) (ks := [none, none, none, none]) (new := [⟨4, 6, 2, Fq.num 0, Fq.num c, none⟩, ⟨5, 7, 2, Fq.num 0, Fq.num d, none⟩]) E rfl (by kernel_rfl) rfl rfl (fun hp => ⟨?_, ?_, ?_, ?_, ?_, ?_, ?_, ?_, trivial⟩) ?_
          · exact q_loadInt (off := 0) hp (free_of rfl) trivial (List.mem_iff_getElem?.2 ⟨0, rfl⟩) (.inl rfl) (Nat.le_of_ble_eq_true rfl) (sq_out rfl rfl (fun _ _ => rfl)) (fun us w hl h => ld_num hl h)
          · exact q_call1 (F := (Fq.num a).P) hp (free_of rfl) trivial (enq_Abs) (sq_in 0 rfl rfl (by simp) rfl (fun v w h => h)) (fun v w h => exK (by rw [EC.out]; exact AbsV h) BC.out (by omega))
          · exact q_loadInt (off := 0) hp (free_of rfl) trivial (List.mem_iff_getElem?.2 ⟨1, rfl⟩) (.inl rfl) (Nat.le_of_ble_eq_true rfl) (sq_out rfl rfl (fun _ _ => rfl)) (fun us w hl h => ld_num hl h)
          · exact q_call1 (F := (Fq.num b).P) hp (free_of rfl) trivial (enq_Abs) (sq_in 2 rfl rfl (by simp) rfl (fun v w h => h)) (fun v w h => exK (by rw [ED.out]; exact AbsV h) BD.out (by omega))
          · exact q_allocInt hp (List.mem_iff_getElem?.2 ⟨0, rfl⟩) rfl rfl rfl rfl (Nat.ne_of_beq_eq_false rfl) (fun _ _ => trivial) (old_ne rfl) (newk_ne rfl) (fun w => Num.zero w)
          · exact q_allocInt hp (List.mem_iff_getElem?.2 ⟨1, rfl⟩) rfl rfl rfl rfl (Nat.ne_of_beq_eq_false rfl) (fun _ _ => trivial) (old_ne rfl) (newk_ne rfl) (fun w => Num.zero w)
          · exact q_storeNewInt hp (List.mem_iff_getElem?.2 ⟨0, rfl⟩) rfl rfl rfl (own_ptr rfl rfl (by simp) rfl) (sq_in 1 rfl rfl (by simp) rfl (fun v w h => intV_num h)) (fun _ _ => trivial) (old_ne rfl) (newi_ne rfl)
          · exact q_storeNewInt hp (List.mem_iff_getElem?.2 ⟨1, rfl⟩) rfl rfl rfl (own_ptr rfl rfl (by simp) rfl) (sq_in 3 rfl rfl (by simp) rfl (fun v w h => intV_num h)) (fun _ _ => trivial) (old_ne rfl) (newi_ne rfl)
          intro L vs w21 nb hL hC hn E21
          have e4 : vs 4 = .pointer (some ⟨nb 4, 0, none⟩) := hn _ (List.mem_iff_getElem?.2 ⟨0, rfl⟩)
          have e5 : vs 5 = .pointer (some ⟨nb 5, 0, none⟩) := hn _ (List.mem_iff_getElem?.2 ⟨1, rfl⟩)
          have E : Fr w [(nb 4, 2, Fq.num c), (nb 5, 2, Fq.num d), (b4_9, 2, Fq.num a), (b4_10, 2, Fq.num b), (b4_11, 2, Fq.num n), (b1, 6, Fq.three n1 a1 k1 c1 xs1 n2 a2 k2 c2 xs2 n3 a3 k3 c3 xs3)] w21 := E21
          rw [lay_all hL]
          simp only [putAll, dstOf, List.length_cons, List.length_nil, Nat.zero_add, Nat.reduceAdd, List.getElem?_toArray, List.getElem?_cons_zero, List.getElem?_cons_succ, Option.bind_some, Act.put, List.setIfInBounds_toArray, List.set_cons_succ, List.set_cons_zero]
          rw [e4, e5]
          generalize nb 4 = b21_4 at E ⊢
          generalize nb 5 = b21_5 at E ⊢
          generalize vs 0 = u21_0
          generalize vs 1 = u21_1
          generalize vs 2 = u21_2
          generalize vs 3 = u21_3
          clear e4 e5 hC hn E21 hL vs L nb
          go_upto_region 14 with (fail)
          refine region_fr (C := [Fq.num c, Fq.num d, Fq.is (.int .i64 r), Fq.num d, Fq.num c, Fq.is (.int .i64 t), Fq.is (.int .i64 (r * t)), Fq.is (.int .i64 (r * t))]) (ks := [none, none, none, none, none, none]) (new := []) E rfl (by kernel_rfl) rfl rfl (fun hp => ⟨?_, ?_, ?_, ?_, ?_, ?_, ?_, ?_, trivial⟩) ?_
          · exact q_loadInt (off := 0) hp (free_of rfl) trivial (List.mem_iff_getElem?.2 ⟨0, rfl⟩) (.inl rfl) (Nat.le_of_ble_eq_true rfl) (sq_out rfl rfl (fun _ _ => rfl)) (fun us w hl h => ld_num hl h)
          · exact q_loadInt (off := 0) hp (free_of rfl) trivial (List.mem_iff_getElem?.2 ⟨1, rfl⟩) (.inl rfl) (Nat.le_of_ble_eq_true rfl) (sq_out rfl rfl (fun _ _ => rfl)) (fun us w hl h => ld_num hl h)
          · exact q_call2W (F := (Fq.num c).P) (G := (Fq.num d).P) hp (free_of rfl) trivial (enq_M_Kronecker) rfl (sq_in 0 rfl rfl (by simp) rfl (fun v w h => h)) (sq_in 1 rfl rfl (by simp) rfl (fun v w h => h)) (fun v v' w hbw h h' => exKronR h h' (hT.out.mono hbw) (Int.lt_of_lt_of_le BC.out (pw_le (by omega))) (Int.lt_of_lt_of_le BD.out (pw_le (by omega))) ERR.out)
          · exact q_loadInt (off := 0) hp (free_of rfl) trivial (List.mem_iff_getElem?.2 ⟨1, rfl⟩) (.inl rfl) (Nat.le_of_ble_eq_true rfl) (sq_out rfl rfl (fun _ _ => rfl)) (fun us w hl h => ld_num hl h)
          · exact q_loadInt (off := 0) hp (free_of rfl) trivial (List.mem_iff_getElem?.2 ⟨0, rfl⟩) (.inl rfl) (Nat.le_of_ble_eq_true rfl) (sq_out rfl rfl (fun _ _ => rfl)) (fun us w hl h => ld_num hl h)
          · exact q_call2W (F := (Fq.num d).P) (G := (Fq.num c).P) hp (free_of rfl) trivial (enq_M_Kronecker) rfl (sq_in 3 rfl rfl (by simp) rfl (fun v w h => h)) (sq_in 4 rfl rfl (by simp) rfl (fun v w h => h)) (fun v v' w hbw h h' => exKronR h h' (hT.out.mono hbw) (Int.lt_of_lt_of_le BD.out (pw_le (by omega))) (Int.lt_of_lt_of_le BC.out (pw_le (by omega))) ET.out)
          · exact q_two (F := fun v _ => v = .int .i64 r) (G := fun v _ => v = .int .i64 t) hp (free_of rfl) trivial (sq_in 2 rfl rfl (by simp) rfl (fun v w h => h)) (sq_in 5 rfl rfl (by simp) rfl (fun v w h => h)) (fun ρ w hc h h' => ⟨.int .i64 (r * t), by simp [execOp, go_sem, h, h', WRT.out], rfl⟩)
          · exact q_assign hp (free_of rfl) trivial (sq_in 6 rfl rfl (by simp) rfl (fun v w h => h))
          intro L vs w22 nb hL hC hn E22
          have e2 : vs 2 = .int .i64 r := hC 2 (by simp)
          have e5 : vs 5 = .int .i64 t := hC 5 (by simp)
          have e6 : vs 6 = .int .i64 (r * t) := hC 6 (by simp)
          have e7 : vs 7 = .int .i64 (r * t) := hC 7 (by simp)
          have E : Fr w [(b21_4, 2, Fq.num c), (b21_5, 2, Fq.num d), (b4_9, 2, Fq.num a), (b4_10, 2, Fq.num b), (b4_11, 2, Fq.num n), (b1, 6, Fq.three n1 a1 k1 c1 xs1 n2 a2 k2 c2 xs2 n3 a3 k3 c3 xs3)] w22 := E22
          rw [lay_all hL]
          simp only [putAll, dstOf, List.length_cons, List.length_nil, Nat.zero_add, Nat.reduceAdd, List.getElem?_toArray, List.getElem?_cons_zero, List.getElem?_cons_succ, Option.bind_some, Act.put, List.setIfInBounds_toArray, List.set_cons_succ, List.set_cons_zero]
          rw [e2, e5, e6, e7]
          generalize vs 0 = u22_0
          generalize vs 1 = u22_1
          generalize vs 3 = u22_3
          generalize vs 4 = u22_4
          clear e2 e5 e6 e7 hC hn E22 hL vs L nb
          clear WRT ERR ET EC ED
          go_upto_region 15 with (fail)
          have B23 : Hid (ab ((4)) < pw 3) := ab_lit (by decide)
          have B24 : Hid (ab ((c % (4))) < pw 3) := ab_modB N4.out B23.out
          refine region_fr (C := [Fq.num c, Fq.num (4), Fq.tup2 (Fq.num (c % (4))) (Fq.is (.int .i64 0)), Fq.tup2 (Fq.num (c % (4))) (Fq.is (.int .i64 0)), Fq.num (c % (4)), Fq.is (.int .i64 0), Fq.any, Fq.any, Fq.is (.int .i64 0)]) (ks := [none, none, none, none, none, none]) (new := [⟨6, 7, 2, Fq.num 0, Fq.num (c % (4)), none⟩]) E rfl (by kernel_rfl) rfl rfl (fun hp => ⟨?_, ?_, ?_, ?_, ?_, ?_, ?_, ?_, ?_, trivial⟩) ?_
          · exact q_loadInt (off := 0) hp (free_of rfl) trivial (List.mem_iff_getElem?.2 ⟨0, rfl⟩) (.inl rfl) (Nat.le_of_ble_eq_true rfl) (sq_out rfl rfl (fun _ _ => rfl)) (fun us w hl h => ld_num hl h)
          · exact q_call1 (F := (Fq.is (.int .i64 4)).P) hp (free_of rfl) trivial (enq_V_of) (sq_const (fun _ => rfl)) (fun v w h => (by subst h; exact exVOf (by omega)))
          · exact q_call2 (F := (Fq.num c).P) (G := (Fq.num (4)).P) hp (free_of rfl) trivial (enq_M_Mod) (sq_in 0 rfl rfl (by simp) rfl (fun v w h => h)) (sq_in 1 rfl rfl (by simp) rfl (fun v w h => h)) (fun v v' w h h' => exModP h h' (Int.lt_of_lt_of_le BC.out (pw_le (by omega))) (Int.lt_of_lt_of_le B23.out (pw_le (by omega))) (by decide))
          · exact q_move hp (free_of rfl) trivial (sq_in 2 rfl rfl (by simp) rfl (fun v w h => h))
          · exact q_extract2 hp (free_of rfl) trivial (sq_in 3 rfl rfl (by simp) rfl (fun v w h => h)) (fun v1 v2 w h1 h2 => ⟨_, rfl, h1⟩)
          · exact q_extract2 hp (free_of rfl) trivial (sq_in 3 rfl rfl (by simp) rfl (fun v w h => h)) (fun v1 v2 w h1 h2 => ⟨_, rfl, h2⟩)
          · exact q_allocInt hp (List.mem_iff_getElem?.2 ⟨0, rfl⟩) rfl rfl rfl rfl (Nat.ne_of_beq_eq_false rfl) (fun _ _ => trivial) (old_ne rfl) (newk_ne rfl) (fun w => Num.zero w)
          · exact q_storeNewInt hp (List.mem_iff_getElem?.2 ⟨0, rfl⟩) rfl rfl rfl (own_ptr rfl rfl (by simp) rfl) (sq_in 4 rfl rfl (by simp) rfl (fun v w h => intV_num h)) (fun _ _ => trivial) (old_ne rfl) (newi_ne rfl)
          · exact q_assign hp (free_of rfl) trivial (sq_in 5 rfl rfl (by simp) rfl (fun v w h => h))
          intro L vs w25 nb hL hC hn E25
          have e5 : vs 5 = .int .i64 0 := hC 5 (by simp)
          have e8 : vs 8 = .int .i64 0 := hC 8 (by simp)
          have e6 : vs 6 = .pointer (some ⟨nb 6, 0, none⟩) := hn _ (List.mem_iff_getElem?.2 ⟨0, rfl⟩)
          have E : Fr w [(nb 6, 2, Fq.num (c % (4))), (b21_4, 2, Fq.num c), (b21_5, 2, Fq.num d), (b4_9, 2, Fq.num a), (b4_10, 2, Fq.num b), (b4_11, 2, Fq.num n), (b1, 6, Fq.three n1 a1 k1 c1 xs1 n2 a2 k2 c2 xs2 n3 a3 k3 c3 xs3)] w25 := E25
          rw [lay_all hL]
          simp only [putAll, dstOf, List.length_cons, List.length_nil, Nat.zero_add, Nat.reduceAdd, List.getElem?_toArray, List.getElem?_cons_zero, List.getElem?_cons_succ, Option.bind_some, Act.put, List.setIfInBounds_toArray, List.set_cons_succ, List.set_cons_zero]
          rw [e5, e8, e6]
          generalize nb 6 = b25_6 at E ⊢
          generalize vs 0 = u25_0
          generalize vs 1 = u25_1
          generalize vs 2 = u25_2
          generalize vs 3 = u25_3
          generalize vs 4 = u25_4
          clear e5 e8 e6 hC hn E25 hL vs L nb
          go_upto_region 16 with (fail)
          have B26 : Hid (ab ((d % (4))) < pw 3) := ab_modB N4.out B23.out
          refine region_fr (C := [Fq.num d, Fq.num (4), Fq.tup2 (Fq.num (d % (4))) (Fq.is (.int .i64 0)), Fq.tup2 (Fq.num (d % (4))) (Fq.is (.int .i64 0)), Fq.num (d % (4)), Fq.is (.int .i64 0), Fq.any, Fq.any, Fq.is (.int .i64 0)]) (ks := [none, none, none, none, none, none, none]) (new := [⟨6, 7, 2, Fq.num 0, Fq.num (d % (4)), none⟩]) E rfl (by kernel_rfl) rfl rfl (fun hp => ⟨?_, ?_, ?_, ?_, ?_, ?_, ?_, ?_, ?_, trivial⟩) ?_
          · exact q_loadInt (off := 0) hp (free_of rfl) trivial (List.mem_iff_getElem?.2 ⟨2, rfl⟩) (.inl rfl) (Nat.le_of_ble_eq_true rfl) (sq_out rfl rfl (fun _ _ => rfl)) (fun us w hl h => ld_num hl h)
          · exact q_call1 (F := (Fq.is (.int .i64 4)).P) hp (free_of rfl) trivial (enq_V_of) (sq_const (fun _ => rfl)) (fun v w h => (by subst h; exact exVOf (by omega)))
          · exact q_call2 (F := (Fq.num d).P) (G := (Fq.num (4)).P) hp (free_of rfl) trivial (enq_M_Mod) (sq_in 0 rfl rfl (by simp) rfl (fun v w h => h)) (sq_in 1 rfl rfl (by simp) rfl (fun v w h => h)) (fun v v' w h h' => exModP h h' (Int.lt_of_lt_of_le BD.out (pw_le (by omega))) (Int.lt_of_lt_of_le B23.out (pw_le (by omega))) (by decide))
          · exact q_move hp (free_of rfl) trivial (sq_in 2 rfl rfl (by simp) rfl (fun v w h => h))
          · exact q_extract2 hp (free_of rfl) trivial (sq_in 3 rfl rfl (by simp) rfl (fun v w h => h)) (fun v1 v2 w h1 h2 => ⟨_, rfl, h1⟩)
          · exact q_extract2 hp (free_of rfl) trivial (sq_in 3 rfl rfl (by simp) rfl (fun v w h => h)) (fun v1 v2 w h1 h2 => ⟨_, rfl, h2⟩)
          · exact q_allocInt hp (List.mem_iff_getElem?.2 ⟨0, rfl⟩) rfl rfl rfl rfl (Nat.ne_of_beq_eq_false rfl) (fun _ _ => trivial) (old_ne rfl) (newk_ne rfl) (fun w => Num.zero w)
          · exact q_storeNewInt hp (List.mem_iff_getElem?.2 ⟨0, rfl⟩) rfl rfl rfl (own_ptr rfl rfl (by simp) rfl) (sq_in 4 rfl rfl (by simp) rfl (fun v w h => intV_num h)) (fun _ _ => trivial) (old_ne rfl) (newi_ne rfl)
          · exact q_assign hp (free_of rfl) trivial (sq_in 5 rfl rfl (by simp) rfl (fun v w h => h))
          intro L vs w27 nb hL hC hn E27
          have e5 : vs 5 = .int .i64 0 := hC 5 (by simp)
          have e8 : vs 8 = .int .i64 0 := hC 8 (by simp)
          have e6 : vs 6 = .pointer (some ⟨nb 6, 0, none⟩) := hn _ (List.mem_iff_getElem?.2 ⟨0, rfl⟩)
          have E : Fr w [(nb 6, 2, Fq.num (d % (4))), (b25_6, 2, Fq.num (c % (4))), (b21_4, 2, Fq.num c), (b21_5, 2, Fq.num d), (b4_9, 2, Fq.num a), (b4_10, 2, Fq.num b), (b4_11, 2, Fq.num n), (b1, 6, Fq.three n1 a1 k1 c1 xs1 n2 a2 k2 c2 xs2 n3 a3 k3 c3 xs3)] w27 := E27
          rw [lay_all hL]
          simp only [putAll, dstOf, List.length_cons, List.length_nil, Nat.zero_add, Nat.reduceAdd, List.getElem?_toArray, List.getElem?_cons_zero, List.getElem?_cons_succ, Option.bind_some, Act.put, List.setIfInBounds_toArray, List.set_cons_succ, List.set_cons_zero]
          rw [e5, e8, e6]
          generalize nb 6 = b27_6 at E ⊢
          generalize vs 0 = u27_0
          generalize vs 1 = u27_1
          generalize vs 2 = u27_2
          generalize vs 3 = u27_3
          generalize vs 4 = u27_4
          clear e5 e8 e6 hC hn E27 hL vs L nb
          go_upto_region 17 with (fail)
          refine region_fr (C := [Fq.is (.int .i64 0), Fq.is (.bool false), Fq.is (.bool false), Fq.is (.int .i64 0), Fq.is (.bool false), Fq.is (.bool false)]) (ks := [none, none, none, none, none, none, none, none]) (new := []) E rfl (by kernel_rfl) rfl rfl (fun hp => ⟨?_, ?_, ?_, ?_, ?_, ?_, trivial⟩) ?_
          · exact q_move hp (free_of rfl) trivial (sq_out rfl rfl (fun _ _ => rfl))
          · exact q_one (F := fun v _ => v = .int .i64 0) hp (free_of rfl) trivial (sq_in 0 rfl rfl (by simp) rfl (fun v w h => h)) (fun ρ w hc h => ⟨.bool false, by simp [execOp, go_sem, h, hc], rfl⟩)
          · exact q_move hp (free_of rfl) trivial (sq_in 1 rfl rfl (by simp) rfl (fun v w h => h))
          · exact q_move hp (free_of rfl) (gq_some rfl rfl (by simp) rfl (fun v w h => h)) (sq_out rfl rfl (fun _ _ => rfl))
          · exact q_one (F := fun v _ => v = .int .i64 0) hp (free_of rfl) (gq_some rfl rfl (by simp) rfl (fun v w h => h)) (sq_in 3 rfl rfl (by simp) rfl (fun v w h => h)) (fun ρ w hc h => ⟨.bool false, by simp [execOp, go_sem, h, hc], rfl⟩)
          · exact q_two (F := fun v _ => v = .bool false) (G := fun v _ => v = .bool false) hp (free_of rfl) trivial (sq_in 2 rfl rfl (by simp) rfl (fun v w h => h)) (sq_in 4 rfl rfl (by simp) rfl (fun v w h => h)) (fun ρ w hc h h' => ⟨_, by simp [execOp, go_sem, h, h'], rfl⟩)
          intro L vs w28 nb hL hC hn E28
          have e0 : vs 0 = .int .i64 0 := hC 0 (by simp)
          have e1 : vs 1 = .bool false := hC 1 (by simp)
          have e2 : vs 2 = .bool false := hC 2 (by simp)
          have e3 : vs 3 = .int .i64 0 := hC 3 (by simp)
          have e4 : vs 4 = .bool false := hC 4 (by simp)
          have e5 : vs 5 = .bool false := hC 5 (by simp)
          have E : Fr w [(b27_6, 2, Fq.num (d % (4))), (b25_6, 2, Fq.num (c % (4))), (b21_4, 2, Fq.num c), (b21_5, 2, Fq.num d), (b4_9, 2, Fq.num a), (b4_10, 2, Fq.num b), (b4_11, 2, Fq.num n), (b1, 6, Fq.three n1 a1 k1 c1 xs1 n2 a2 k2 c2 xs2 n3 a3 k3 c3 xs3)] w28 := E28
          rw [lay_all hL]
          simp only [putAll, dstOf, List.length_cons, List.length_nil, Nat.zero_add, Nat.reduceAdd, List.getElem?_toArray, List.getElem?_cons_zero, List.getElem?_cons_succ, Option.bind_some, Act.put, List.setIfInBounds_toArray, List.set_cons_succ, List.set_cons_zero]
          rw [e0, e1, e2, e3, e4, e5]
          clear e0 e1 e2 e3 e4 e5 hC hn E28 hL vs L nb
          go_upto_region 19 with (fail)
          go_cut [17] from 111 (fun s W => s = .bool th ∧ Fr w [(b27_6, 2, Fq.num (d % (4))), (b25_6, 2, Fq.num (c % (4))), (b21_4, 2, Fq.num c), (b21_5, 2, Fq.num d), (b4_9, 2, Fq.num a), (b4_10, 2, Fq.num b), (b4_11, 2, Fq.num n), (b1, 6, Fq.three n1 a1 k1 c1 xs1 n2 a2 k2 c2 xs2 n3 a3 k3 c3 xs3)] W)
          case first =>
            by_cases h3 : c % 4 = 3
            · have T1 : Hid (cmpI (c % (4)) (3) = 0) := cmpI_eq0.2 h3
              by_cases h4 : d % 4 = 3
              · have T2 : Hid (cmpI (d % (4)) (3) = 0) := cmpI_eq0.2 h4
                have HE9 : Hid (th = true) := by show _ = _; rw [TH.out]; exact decide_eq_true ⟨h3, h4⟩
                clear h3 h4
                have B29 : Hid (ab ((3)) < pw 3) := ab_lit (by decide)
                refine region_fr (C := [Fq.num (c % (4)), Fq.num (3), Fq.is (.int .i64 (cmpI (c % (4)) (3))), Fq.is (.bool true), Fq.is (.bool true), Fq.num (d % (4)), Fq.num (3), Fq.is (.int .i64 (cmpI (d % (4)) (3))), Fq.is (.bool true), Fq.is (.bool true), Fq.is (.bool true)]) (ks := [none, none, none, none, none, none, none, none]) (new := []) E rfl (by kernel_rfl) rfl rfl (fun hp => ⟨?_, ?_, ?_, ?_, ?_, ?_, ?_, ?_, ?_, ?_, ?_, trivial⟩) ?_
                · exact q_loadInt (off := 0) hp (free_of rfl) trivial (List.mem_iff_getElem?.2 ⟨1, rfl⟩) (.inl rfl) (Nat.le_of_ble_eq_true rfl) (sq_out rfl rfl (fun _ _ => rfl)) (fun us w hl h => ld_num hl h)
                · exact q_call1 (F := (Fq.is (.int .i64 3)).P) hp (free_of rfl) trivial (enq_V_of) (sq_const (fun _ => rfl)) (fun v w h => (by subst h; exact exVOf (by omega)))
                · exact q_call2 (F := (Fq.num (c % (4))).P) (G := (Fq.num (3)).P) hp (free_of rfl) trivial (enq_Cmp) (sq_in 0 rfl rfl (by simp) rfl (fun v w h => h)) (sq_in 1 rfl rfl (by simp) rfl (fun v w h => h)) (fun v v' w h h' => exCmp h h')
                · exact q_one (F := fun v _ => v = .int .i64 (cmpI (c % (4)) (3))) hp (free_of rfl) trivial (sq_in 2 rfl rfl (by simp) rfl (fun v w h => h)) (fun ρ w hc h => ⟨.bool true, by simp [execOp, go_sem, h, hc, T1.out], rfl⟩)
                · exact q_move hp (free_of rfl) trivial (sq_in 3 rfl rfl (by simp) rfl (fun v w h => h))
                · exact q_loadInt (off := 0) hp (free_of rfl) (gq_some rfl rfl (by simp) rfl (fun v w h => h)) (List.mem_iff_getElem?.2 ⟨0, rfl⟩) (.inl rfl) (Nat.le_of_ble_eq_true rfl) (sq_out rfl rfl (fun _ _ => rfl)) (fun us w hl h => ld_num hl h)
                · exact q_call1 (F := (Fq.is (.int .i64 3)).P) hp (free_of rfl) (gq_some rfl rfl (by simp) rfl (fun v w h => h)) (enq_V_of) (sq_const (fun _ => rfl)) (fun v w h => (by subst h; exact exVOf (by omega)))
                · exact q_call2 (F := (Fq.num (d % (4))).P) (G := (Fq.num (3)).P) hp (free_of rfl) (gq_some rfl rfl (by simp) rfl (fun v w h => h)) (enq_Cmp) (sq_in 5 rfl rfl (by simp) rfl (fun v w h => h)) (sq_in 6 rfl rfl (by simp) rfl (fun v w h => h)) (fun v v' w h h' => exCmp h h')
                · exact q_one (F := fun v _ => v = .int .i64 (cmpI (d % (4)) (3))) hp (free_of rfl) (gq_some rfl rfl (by simp) rfl (fun v w h => h)) (sq_in 7 rfl rfl (by simp) rfl (fun v w h => h)) (fun ρ w hc h => ⟨.bool true, by simp [execOp, go_sem, h, hc, T2.out], rfl⟩)
                · exact q_two (F := fun v _ => v = .bool true) (G := fun v _ => v = .bool true) hp (free_of rfl) trivial (sq_in 4 rfl rfl (by simp) rfl (fun v w h => h)) (sq_in 8 rfl rfl (by simp) rfl (fun v w h => h)) (fun ρ w hc h h' => ⟨_, by simp [execOp, go_sem, h, h'], rfl⟩)
                · exact q_assign hp (free_of rfl) trivial (sq_in 9 rfl rfl (by simp) rfl (fun v w h => h))
                intro L vs w30 nb hL hC hn E30
                have e2 : vs 2 = .int .i64 (cmpI (c % (4)) (3)) := hC 2 (by simp)
                have e3 : vs 3 = .bool true := hC 3 (by simp)
                have e4 : vs 4 = .bool true := hC 4 (by simp)
                have e7 : vs 7 = .int .i64 (cmpI (d % (4)) (3)) := hC 7 (by simp)
                have e8 : vs 8 = .bool true := hC 8 (by simp)
                have e9 : vs 9 = .bool true := hC 9 (by simp)
                have e10 : vs 10 = .bool true := hC 10 (by simp)
                have E : Fr w [(b27_6, 2, Fq.num (d % (4))), (b25_6, 2, Fq.num (c % (4))), (b21_4, 2, Fq.num c), (b21_5, 2, Fq.num d), (b4_9, 2, Fq.num a), (b4_10, 2, Fq.num b), (b4_11, 2, Fq.num n), (b1, 6, Fq.three n1 a1 k1 c1 xs1 n2 a2 k2 c2 xs2 n3 a3 k3 c3 xs3)] w30 := E30
                rw [lay_all hL]
                simp only [putAll, dstOf, List.length_cons, List.length_nil, Nat.zero_add, Nat.reduceAdd, List.getElem?_toArray, List.getElem?_cons_zero, List.getElem?_cons_succ, Option.bind_some, Act.put, List.setIfInBounds_toArray, List.set_cons_succ, List.set_cons_zero]
                rw [e2, e3, e4, e7, e8, e9, e10]
                generalize vs 0 = u30_0
                generalize vs 1 = u30_1
                generalize vs 5 = u30_5
                generalize vs 6 = u30_6
                clear e2 e3 e4 e7 e8 e9 e10 hC hn E30 hL vs L nb
                go_wp2_with (fail)
                go_meet
                case rel => exact ⟨by rw [HE9.out], E⟩
              · have T2 : Hid (¬ cmpI (d % (4)) (3) = 0) := fun e => h4 (cmpI_eq0.1 e)
                have HE9 : Hid (th = false) := by show _ = _; rw [TH.out]; exact decide_eq_false (fun h => h4 h.2)
                clear h3 h4
                have B31 : Hid (ab ((3)) < pw 3) := ab_lit (by decide)
                refine region_fr (C := [Fq.num (c % (4)), Fq.num (3), Fq.is (.int .i64 (cmpI (c % (4)) (3))), Fq.is (.bool true), Fq.is (.bool true), Fq.num (d % (4)), Fq.num (3), Fq.is (.int .i64 (cmpI (d % (4)) (3))), Fq.is (.bool false), Fq.is (.bool false), Fq.is (.bool false)]) (ks := [none, none, none, none, none, none, none, none]) (new := []) E rfl (by kernel_rfl) rfl rfl (fun hp => ⟨?_, ?_, ?_, ?_, ?_, ?_, ?_, ?_, ?_, ?_, ?_, trivial⟩) ?_
                · exact q_loadInt (off := 0) hp (free_of rfl) trivial (List.mem_iff_getElem?.2 ⟨1, rfl⟩) (.inl rfl) (Nat.le_of_ble_eq_true rfl) (sq_out rfl rfl (fun _ _ => rfl)) (fun us w hl h => ld_num hl h)
                · exact q_call1 (F := (Fq.is (.int .i64 3)).P) hp (free_of rfl) trivial (enq_V_of) (sq_const (fun _ => rfl)) (fun v w h => (by subst h; exact exVOf (by omega)))
                · exact q_call2 (F := (Fq.num (c % (4))).P) (G := (Fq.num (3)).P) hp (free_of rfl) trivial (enq_Cmp) (sq_in 0 rfl rfl (by simp) rfl (fun v w h => h)) (sq_in 1 rfl rfl (by simp) rfl (fun v w h => h)) (fun v v' w h h' => exCmp h h')
                · exact q_one (F := fun v _ => v = .int .i64 (cmpI (c % (4)) (3))) hp (free_of rfl) trivial (sq_in 2 rfl rfl (by simp) rfl (fun v w h => h)) (fun ρ w hc h => ⟨.bool true, by simp [execOp, go_sem, h, hc, T1.out], rfl⟩)
                · exact q_move hp (free_of rfl) trivial (sq_in 3 rfl rfl (by simp) rfl (fun v w h => h))
                · exact q_loadInt (off := 0) hp (free_of rfl) (gq_some rfl rfl (by simp) rfl (fun v w h => h)) (List.mem_iff_getElem?.2 ⟨0, rfl⟩) (.inl rfl) (Nat.le_of_ble_eq_true rfl) (sq_out rfl rfl (fun _ _ => rfl)) (fun us w hl h => ld_num hl h)
                · exact q_call1 (F := (Fq.is (.int .i64 3)).P) hp (free_of rfl) (gq_some rfl rfl (by simp) rfl (fun v w h => h)) (enq_V_of) (sq_const (fun _ => rfl)) (fun v w h => (by subst h; exact exVOf (by omega)))
                · exact q_call2 (F := (Fq.num (d % (4))).P) (G := (Fq.num (3)).P) hp (free_of rfl) (gq_some rfl rfl (by simp) rfl (fun v w h => h)) (enq_Cmp) (sq_in 5 rfl rfl (by simp) rfl (fun v w h => h)) (sq_in 6 rfl rfl (by simp) rfl (fun v w h => h)) (fun v v' w h h' => exCmp h h')
                · exact q_one (F := fun v _ => v = .int .i64 (cmpI (d % (4)) (3))) hp (free_of rfl) (gq_some rfl rfl (by simp) rfl (fun v w h => h)) (sq_in 7 rfl rfl (by simp) rfl (fun v w h => h)) (fun ρ w hc h => ⟨.bool false, by simp [execOp, go_sem, h, hc, T2.out], rfl⟩)
                · exact q_two (F := fun v _ => v = .bool true) (G := fun v _ => v = .bool false) hp (free_of rfl) trivial (sq_in 4 rfl rfl (by simp) rfl (fun v w h => h)) (sq_in 8 rfl rfl (by simp) rfl (fun v w h => h)) (fun ρ w hc h h' => ⟨_, by simp [execOp, go_sem, h, h'], rfl⟩)
                · exact q_assign hp (free_of rfl) trivial (sq_in 9 rfl rfl (by simp) rfl (fun v w h => h))
                intro L vs w32 nb hL hC hn E32
                have e2 : vs 2 = .int .i64 (cmpI (c % (4)) (3)) := hC 2 (by simp)
                have e3 : vs 3 = .bool true := hC 3 (by simp)
                have e4 : vs 4 = .bool true := hC 4 (by simp)
                have e7 : vs 7 = .int .i64 (cmpI (d % (4)) (3)) := hC 7 (by simp)
                have e8 : vs 8 = .bool false := hC 8 (by simp)
                have e9 : vs 9 = .bool false := hC 9 (by simp)
                have e10 : vs 10 = .bool false := hC 10 (by simp)
                have E : Fr w [(b27_6, 2, Fq.num (d % (4))), (b25_6, 2, Fq.num (c % (4))), (b21_4, 2, Fq.num c), (b21_5, 2, Fq.num d), (b4_9, 2, Fq.num a), (b4_10, 2, Fq.num b), (b4_11, 2, Fq.num n), (b1, 6, Fq.three n1 a1 k1 c1 xs1 n2 a2 k2 c2 xs2 n3 a3 k3 c3 xs3)] w32 := E32
                rw [lay_all hL]
                simp only [putAll, dstOf, List.length_cons, List.length_nil, Nat.zero_add, Nat.reduceAdd, List.getElem?_toArray, List.getElem?_cons_zero, List.getElem?_cons_succ, Option.bind_some, Act.put, List.setIfInBounds_toArray, List.set_cons_succ, List.set_cons_zero]
                rw [e2, e3, e4, e7, e8, e9, e10]
                generalize vs 0 = u32_0
                generalize vs 1 = u32_1
                generalize vs 5 = u32_5
                generalize vs 6 = u32_6
                clear e2 e3 e4 e7 e8 e9 e10 hC hn E32 hL vs L nb
                go_wp2_with (fail)
                go_meet
                case rel => exact ⟨by rw [HE9.out], E⟩
            · have T1 : Hid (¬ cmpI (c % (4)) (3) = 0) := fun e => h3 (cmpI_eq0.1 e)
              have HE9 : Hid (th = false) := by show _ = _; rw [TH.out]; exact decide_eq_false (fun h => h3 h.1)
              clear h3
              have B33 : Hid (ab ((3)) < pw 3) := ab_lit (by decide)
              refine region_fr (C := [Fq.num (c % (4)), Fq.num (3), Fq.is (.int .i64 (cmpI (c % (4)) (3))), Fq.is (.bool false), Fq.is (.bool false), Fq.is (undef), Fq.is (undef), Fq.is (undef), Fq.is (undef), Fq.is (.bool false), Fq.is (.bool false)]) (ks := [none, none, none, none, none, none, none, none]) (new := []) E rfl (by kernel_rfl) rfl rfl (fun hp => ⟨?_, ?_, ?_, ?_, ?_, ?_, ?_, ?_, ?_, ?_, ?_, trivial⟩) ?_
              · exact q_loadInt (off := 0) hp (free_of rfl) trivial (List.mem_iff_getElem?.2 ⟨1, rfl⟩) (.inl rfl) (Nat.le_of_ble_eq_true rfl) (sq_out rfl rfl (fun _ _ => rfl)) (fun us w hl h => ld_num hl h)
              · exact q_call1 (F := (Fq.is (.int .i64 3)).P) hp (free_of rfl) trivial (enq_V_of) (sq_const (fun _ => rfl)) (fun v w h => (by subst h; exact exVOf (by omega)))
              · exact q_call2 (F := (Fq.num (c % (4))).P) (G := (Fq.num (3)).P) hp (free_of rfl) trivial (enq_Cmp) (sq_in 0 rfl rfl (by simp) rfl (fun v w h => h)) (sq_in 1 rfl rfl (by simp) rfl (fun v w h => h)) (fun v v' w h h' => exCmp h h')
              · exact q_one (F := fun v _ => v = .int .i64 (cmpI (c % (4)) (3))) hp (free_of rfl) trivial (sq_in 2 rfl rfl (by simp) rfl (fun v w h => h)) (fun ρ w hc h => ⟨.bool false, by simp [execOp, go_sem, h, hc, T1.out], rfl⟩)
              · exact q_move hp (free_of rfl) trivial (sq_in 3 rfl rfl (by simp) rfl (fun v w h => h))
              · exact q_skip hp (free_of rfl) rfl (gq_some rfl rfl (by simp) rfl (fun v w h => h)) (fun _ => rfl)
              · exact q_skip hp (free_of rfl) rfl (gq_some rfl rfl (by simp) rfl (fun v w h => h)) (fun _ => rfl)
              · exact q_skip hp (free_of rfl) rfl (gq_some rfl rfl (by simp) rfl (fun v w h => h)) (fun _ => rfl)
              · exact q_skip hp (free_of rfl) rfl (gq_some rfl rfl (by simp) rfl (fun v w h => h)) (fun _ => rfl)
              · exact q_two (F := fun v _ => v = .bool false) (G := fun v _ => v = .bool false) hp (free_of rfl) trivial (sq_in 4 rfl rfl (by simp) rfl (fun v w h => h)) (sq_const (fun _ => rfl)) (fun ρ w hc h h' => ⟨_, by simp [execOp, go_sem, h, h'], rfl⟩)
              · exact q_assign hp (free_of rfl) trivial (sq_in 9 rfl rfl (by simp) rfl (fun v w h => h))
              intro L vs w34 nb hL hC hn E34
              have e2 : vs 2 = .int .i64 (cmpI (c % (4)) (3)) := hC 2 (by simp)
              have e3 : vs 3 = .bool false := hC 3 (by simp)
              have e4 : vs 4 = .bool false := hC 4 (by simp)
              have e5 : vs 5 = undef := hC 5 (by simp)
              have e6 : vs 6 = undef := hC 6 (by simp)
              have e7 : vs 7 = undef := hC 7 (by simp)
              have e8 : vs 8 = undef := hC 8 (by simp)
              have e9 : vs 9 = .bool false := hC 9 (by simp)
              have e10 : vs 10 = .bool false := hC 10 (by simp)
              have E : Fr w [(b27_6, 2, Fq.num (d % (4))), (b25_6, 2, Fq.num (c % (4))), (b21_4, 2, Fq.num c), (b21_5, 2, Fq.num d), (b4_9, 2, Fq.num a), (b4_10, 2, Fq.num b), (b4_11, 2, Fq.num n), (b1, 6, Fq.three n1 a1 k1 c1 xs1 n2 a2 k2 c2 xs2 n3 a3 k3 c3 xs3)] w34 := E34
              rw [lay_all hL]
              simp only [putAll, dstOf, List.length_cons, List.length_nil, Nat.zero_add, Nat.reduceAdd, List.getElem?_toArray, List.getElem?_cons_zero, List.getElem?_cons_succ, Option.bind_some, Act.put, List.setIfInBounds_toArray, List.set_cons_succ, List.set_cons_zero]
              rw [e2, e3, e4, e5, e6, e7, e8, e9, e10]
              generalize vs 0 = u34_0
              generalize vs 1 = u34_1
              clear e2 e3 e4 e5 e6 e7 e8 e9 e10 hC hn E34 hL vs L nb
              go_wp2_with (fail)
              go_meet
              case rel => exact ⟨by rw [HE9.out], E⟩
          case rest =>
            clear E
            obtain ⟨rfl, E⟩ := hcut
            go_upto_region 20 with (fail)
            go_cut [18] from 121 (fun s W => s = .bool od ∧ Fr w [(b27_6, 2, Fq.num (d % (4))), (b25_6, 2, Fq.num (c % (4))), (b21_4, 2, Fq.num c), (b21_5, 2, Fq.num d), (b4_9, 2, Fq.num a), (b4_10, 2, Fq.num b), (b4_11, 2, Fq.num n), (b1, 6, Fq.three n1 a1 k1 c1 xs1 n2 a2 k2 c2 xs2 n3 a3 k3 c3 xs3)] W)
            case first =>
              by_cases h3 : c % 2 = 1
              · have T1 : Hid (cmpI (Int.gcd c (2) : Int) (1) = 0) := cmpI_eq0.2 ((gcd_two c PC.out).2 h3)
                by_cases h4 : d % 2 = 1
                · have T2 : Hid (cmpI (Int.gcd d (2) : Int) (1) = 0) := cmpI_eq0.2 ((gcd_two d PD.out).2 h4)
                  have HE9 : Hid (od = true) := by show _ = _; rw [OD.out]; exact decide_eq_true ⟨h3, h4⟩
                  clear h3 h4
                  have B35 : Hid (ab ((2)) < pw 3) := ab_lit (by decide)
                  have B36 : Hid (ab ((Int.gcd c (2) : Int)) < pw 3) := ab_gcdB BC.out B35.out (by omega) (by omega)
                  have B37 : Hid (ab ((1)) < pw 3) := ab_lit (by decide)
                  have B38 : Hid (ab ((Int.gcd d (2) : Int)) < pw 3) := ab_gcdB BD.out B35.out (by omega) (by omega)
                  refine region_fr (C := [Fq.num c, Fq.num (2), Fq.num (Int.gcd c (2) : Int), Fq.num (1), Fq.is (.int .i64 (cmpI (Int.gcd c (2) : Int) (1))), Fq.is (.bool true), Fq.is (.bool true), Fq.num d, Fq.num (2), Fq.num (Int.gcd d (2) : Int), Fq.num (1), Fq.is (.int .i64 (cmpI (Int.gcd d (2) : Int) (1))), Fq.is (.bool true), Fq.is (.bool true), Fq.is (.bool true)]) (ks := [none, none, none, none, none, none, none, none]) (new := []) E rfl (by kernel_rfl) rfl rfl (fun hp => ⟨?_, ?_, ?_, ?_, ?_, ?_, ?_, ?_, ?_, ?_, ?_, ?_, ?_, ?_, ?_, trivial⟩) ?_
                  · exact q_loadInt (off := 0) hp (free_of rfl) trivial (List.mem_iff_getElem?.2 ⟨2, rfl⟩) (.inl rfl) (Nat.le_of_ble_eq_true rfl) (sq_out rfl rfl (fun _ _ => rfl)) (fun us w hl h => ld_num hl h)
                  · exact q_call1 (F := (Fq.is (.int .i64 2)).P) hp (free_of rfl) trivial (enq_V_of) (sq_const (fun _ => rfl)) (fun v w h => (by subst h; exact exVOf (by omega)))
                  · exact q_call2 (F := (Fq.num c).P) (G := (Fq.num (2)).P) hp (free_of rfl) trivial (enq_Gcd) (sq_in 0 rfl rfl (by simp) rfl (fun v w h => h)) (sq_in 1 rfl rfl (by simp) rfl (fun v w h => h)) (fun v v' w h h' => exK (GcdV h h') B36.out (by omega))
                  · exact q_call1 (F := (Fq.is (.int .i64 1)).P) hp (free_of rfl) trivial (enq_V_of) (sq_const (fun _ => rfl)) (fun v w h => (by subst h; exact exVOf (by omega)))
                  · exact q_call2 (F := (Fq.num (Int.gcd c (2) : Int)).P) (G := (Fq.num (1)).P) hp (free_of rfl) trivial (enq_Cmp) (sq_in 2 rfl rfl (by simp) rfl (fun v w h => h)) (sq_in 3 rfl rfl (by simp) rfl (fun v w h => h)) (fun v v' w h h' => exCmp h h')
                  · exact q_one (F := fun v _ => v = .int .i64 (cmpI (Int.gcd c (2) : Int) (1))) hp (free_of rfl) trivial (sq_in 4 rfl rfl (by simp) rfl (fun v w h => h)) (fun ρ w hc h => ⟨.bool true, by simp [execOp, go_sem, h, hc, T1.out], rfl⟩)
                  · exact q_move hp (free_of rfl) trivial (sq_in 5 rfl rfl (by simp) rfl (fun v w h => h))
                  · exact q_loadInt (off := 0) hp (free_of rfl) (gq_some rfl rfl (by simp) rfl (fun v w h => h)) (List.mem_iff_getElem?.2 ⟨3, rfl⟩) (.inl rfl) (Nat.le_of_ble_eq_true rfl) (sq_out rfl rfl (fun _ _ => rfl)) (fun us w hl h => ld_num hl h)
                  · exact q_call1 (F := (Fq.is (.int .i64 2)).P) hp (free_of rfl) (gq_some rfl rfl (by simp) rfl (fun v w h => h)) (enq_V_of) (sq_const (fun _ => rfl)) (fun v w h => (by subst h; exact exVOf (by omega)))
                  · exact q_call2 (F := (Fq.num d).P) (G := (Fq.num (2)).P) hp (free_of rfl) (gq_some rfl rfl (by simp) rfl (fun v w h => h)) (enq_Gcd) (sq_in 7 rfl rfl (by simp) rfl (fun v w h => h)) (sq_in 8 rfl rfl (by simp) rfl (fun v w h => h)) (fun v v' w h h' => exK (GcdV h h') B38.out (by omega))
                  · exact q_call1 (F := (Fq.is (.int .i64 1)).P) hp (free_of rfl) (gq_some rfl rfl (by simp) rfl (fun v w h => h)) (enq_V_of) (sq_const (fun _ => rfl)) (fun v w h => (by subst h; exact exVOf (by omega)))
                  · exact q_call2 (F := (Fq.num (Int.gcd d (2) : Int)).P) (G := (Fq.num (1)).P) hp (free_of rfl) (gq_some rfl rfl (by simp) rfl (fun v w h => h)) (enq_Cmp) (sq_in 9 rfl rfl (by simp) rfl (fun v w h => h)) (sq_in 10 rfl rfl (by simp) rfl (fun v w h => h)) (fun v v' w h h' => exCmp h h')
                  · exact q_one (F := fun v _ => v = .int .i64 (cmpI (Int.gcd d (2) : Int) (1))) hp (free_of rfl) (gq_some rfl rfl (by simp) rfl (fun v w h => h)) (sq_in 11 rfl rfl (by simp) rfl (fun v w h => h)) (fun ρ w hc h => ⟨.bool true, by simp [execOp, go_sem, h, hc, T2.out], rfl⟩)
                  · exact q_two (F := fun v _ => v = .bool true) (G := fun v _ => v = .bool true) hp (free_of rfl) trivial (sq_in 6 rfl rfl (by simp) rfl (fun v w h => h)) (sq_in 12 rfl rfl (by simp) rfl (fun v w h => h)) (fun ρ w hc h h' => ⟨_, by simp [execOp, go_sem, h, h'], rfl⟩)
                  · exact q_assign hp (free_of rfl) trivial (sq_in 13 rfl rfl (by simp) rfl (fun v w h => h))
                  intro L vs w39 nb hL hC hn E39
                  have e4 : vs 4 = .int .i64 (cmpI (Int.gcd c (2) : Int) (1)) := hC 4 (by simp)
                  have e5 : vs 5 = .bool true := hC 5 (by simp)
                  have e6 : vs 6 = .bool true := hC 6 (by simp)
                  have e11 : vs 11 = .int .i64 (cmpI (Int.gcd d (2) : Int) (1)) := hC 11 (by simp)
                  have e12 : vs 12 = .bool true := hC 12 (by simp)
                  have e13 : vs 13 = .bool true := hC 13 (by simp)
                  have e14 : vs 14 = .bool true := hC 14 (by simp)
                  have E : Fr w [(b27_6, 2, Fq.num (d % (4))), (b25_6, 2, Fq.num (c % (4))), (b21_4, 2, Fq.num c), (b21_5, 2, Fq.num d), (b4_9, 2, Fq.num a), (b4_10, 2, Fq.num b), (b4_11, 2, Fq.num n), (b1, 6, Fq.three n1 a1 k1 c1 xs1 n2 a2 k2 c2 xs2 n3 a3 k3 c3 xs3)] w39 := E39
                  rw [lay_all hL]
                  simp only [putAll, dstOf, List.length_cons, List.length_nil, Nat.zero_add, Nat.reduceAdd, List.getElem?_toArray, List.getElem?_cons_zero, List.getElem?_cons_succ, Option.bind_some, Act.put, List.setIfInBounds_toArray, List.set_cons_succ, List.set_cons_zero]
                  rw [e4, e5, e6, e11, e12, e13, e14]
                  generalize vs 0 = u39_0
                  generalize vs 1 = u39_1
                  generalize vs 2 = u39_2
                  generalize vs 3 = u39_3
                  generalize vs 7 = u39_7
                  generalize vs 8 = u39_8
                  generalize vs 9 = u39_9
                  generalize vs 10 = u39_10
                  clear e4 e5 e6 e11 e12 e13 e14 hC hn E39 hL vs L nb
                  go_wp2_with (fail)
                  go_meet
                  case rel => exact ⟨by rw [HE9.out], E⟩
                · have T2 : Hid (¬ cmpI (Int.gcd d (2) : Int) (1) = 0) := fun e => h4 ((gcd_two d PD.out).1 (cmpI_eq0.1 e))
                  have HE9 : Hid (od = false) := by show _ = _; rw [OD.out]; exact decide_eq_false (fun h => h4 h.2)
                  clear h3 h4
                  have B40 : Hid (ab ((2)) < pw 3) := ab_lit (by decide)
                  have B41 : Hid (ab ((Int.gcd c (2) : Int)) < pw 3) := ab_gcdB BC.out B40.out (by omega) (by omega)
                  have B42 : Hid (ab ((1)) < pw 3) := ab_lit (by decide)
                  have B43 : Hid (ab ((Int.gcd d (2) : Int)) < pw 3) := ab_gcdB BD.out B40.out (by omega) (by omega)
                  refine region_fr (C := [Fq.num c, Fq.num (2), Fq.num (Int.gcd c (2) : Int), Fq.num (1), Fq.is (.int .i64 (cmpI (Int.gcd c (2) : Int) (1))), Fq.is (.bool true), Fq.is (.bool true), Fq.num d, Fq.num (2), Fq.num (Int.gcd d (2) : Int), Fq.num (1), Fq.is (.int .i64 (cmpI (Int.gcd d (2) : Int) (1))), Fq.is (.bool false), Fq.is (.bool false), Fq.is (.bool false)]) (ks := [none, none, none, none, none, none, none, none]) (new := []) E rfl (by kernel_rfl) rfl rfl (fun hp => ⟨?_, ?_, ?_, ?_, ?_, ?_, ?_, ?_, ?_, ?_, ?_, ?_, ?_, ?_, ?_, trivial⟩) ?_
                  · exact q_loadInt (off := 0) hp (free_of rfl) trivial (List.mem_iff_getElem?.2 ⟨2, rfl⟩) (.inl rfl) (Nat.le_of_ble_eq_true rfl) (sq_out rfl rfl (fun _ _ => rfl)) (fun us w hl h => ld_num hl h)
                  · exact q_call1 (F := (Fq.is (.int .i64 2)).P) hp (free_of rfl) trivial (enq_V_of) (sq_const (fun _ => rfl)) (fun v w h => (by subst h; exact exVOf (by omega)))
                  · exact q_call2 (F := (Fq.num c).P) (G := (Fq.num (2)).P) hp (free_of rfl) trivial (enq_Gcd) (sq_in 0 rfl rfl (by simp) rfl (fun v w h => h)) (sq_in 1 rfl rfl (by simp) rfl (fun v w h => h)) (fun v v' w h h' => exK (GcdV h h') B41.out (by omega))
                  · exact q_call1 (F := (Fq.is (.int .i64 1)).P) hp (free_of rfl) trivial (enq_V_of) (sq_const (fun _ => rfl)) (fun v w h => (by subst h; exact exVOf (by omega)))
                  · exact q_call2 (F := (Fq.num (Int.gcd c (2) : Int)).P) (G := (Fq.num (1)).P) hp (free_of rfl) trivial (enq_Cmp) (sq_in 2 rfl rfl (by simp) rfl (fun v w h => h)) (sq_in 3 rfl rfl (by simp) rfl (fun v w h => h)) (fun v v' w h h' => exCmp h h')
                  · exact q_one (F := fun v _ => v = .int .i64 (cmpI (Int.gcd c (2) : Int) (1))) hp (free_of rfl) trivial (sq_in 4 rfl rfl (by simp) rfl (fun v w h => h)) (fun ρ w hc h => ⟨.bool true, by simp [execOp, go_sem, h, hc, T1.out], rfl⟩)
                  · exact q_move hp (free_of rfl) trivial (sq_in 5 rfl rfl (by simp) rfl (fun v w h => h))
                  · exact q_loadInt (off := 0) hp (free_of rfl) (gq_some rfl rfl (by simp) rfl (fun v w h => h)) (List.mem_iff_getElem?.2 ⟨3, rfl⟩) (.inl rfl) (Nat.le_of_ble_eq_true rfl) (sq_out rfl rfl (fun _ _ => rfl)) (fun us w hl h => ld_num hl h)
                  · exact q_call1 (F := (Fq.is (.int .i64 2)).P) hp (free_of rfl) (gq_some rfl rfl (by simp) rfl (fun v w h => h)) (enq_V_of) (sq_const (fun _ => rfl)) (fun v w h => (by subst h; exact exVOf (by omega)))
                  · exact q_call2 (F := (Fq.num d).P) (G := (Fq.num (2)).P) hp (free_of rfl) (gq_some rfl rfl (by simp) rfl (fun v w h => h)) (enq_Gcd) (sq_in 7 rfl rfl (by simp) rfl (fun v w h => h)) (sq_in 8 rfl rfl (by simp) rfl (fun v w h => h)) (fun v v' w h h' => exK (GcdV h h') B43.out (by omega))
                  · exact q_call1 (F := (Fq.is (.int .i64 1)).P) hp (free_of rfl) (gq_some rfl rfl (by simp) rfl (fun v w h => h)) (enq_V_of) (sq_const (fun _ => rfl)) (fun v w h => (by subst h; exact exVOf (by omega)))
                  · exact q_call2 (F := (Fq.num (Int.gcd d (2) : Int)).P) (G := (Fq.num (1)).P) hp (free_of rfl) (gq_some rfl rfl (by simp) rfl (fun v w h => h)) (enq_Cmp) (sq_in 9 rfl rfl (by simp) rfl (fun v w h => h)) (sq_in 10 rfl rfl (by simp) rfl (fun v w h => h)) (fun v v' w h h' => exCmp h h')
                  · exact q_one (F := fun v _ => v = .int .i64 (cmpI (Int.gcd d (2) : Int) (1))) hp (free_of rfl) (gq_some rfl rfl (by simp) rfl (fun v w h => h)) (sq_in 11 rfl rfl (by simp) rfl (fun v w h => h)) (fun ρ w hc h => ⟨.bool false, by simp [execOp, go_sem, h, hc, T2.out], rfl⟩)
                  · exact q_two (F := fun v _ => v = .bool true) (G := fun v _ => v = .bool false) hp (free_of rfl) trivial (sq_in 6 rfl rfl (by simp) rfl (fun v w h => h)) (sq_in 12 rfl rfl (by simp) rfl (fun v w h => h)) (fun ρ w hc h h' => ⟨_, by simp [execOp, go_sem, h, h'], rfl⟩)
                  · exact q_assign hp (free_of rfl) trivial (sq_in 13 rfl rfl (by simp) rfl (fun v w h => h))
                  intro L vs w44 nb hL hC hn E44
                  have e4 : vs 4 = .int .i64 (cmpI (Int.gcd c (2) : Int) (1)) := hC 4 (by simp)
                  have e5 : vs 5 = .bool true := hC 5 (by simp)
                  have e6 : vs 6 = .bool true := hC 6 (by simp)
                  have e11 : vs 11 = .int .i64 (cmpI (Int.gcd d (2) : Int) (1)) := hC 11 (by simp)
                  have e12 : vs 12 = .bool false := hC 12 (by simp)
                  have e13 : vs 13 = .bool false := hC 13 (by simp)
                  have e14 : vs 14 = .bool false := hC 14 (by simp)
                  have E : Fr w [(b27_6, 2, Fq.num (d % (4))), (b25_6, 2, Fq.num (c % (4))), (b21_4, 2, Fq.num c), (b21_5, 2, Fq.num d), (b4_9, 2, Fq.num a), (b4_10, 2, Fq.num b), (b4_11, 2, Fq.num n), (b1, 6, Fq.three n1 a1 k1 c1 xs1 n2 a2 k2 c2 xs2 n3 a3 k3 c3 xs3)] w44 := E44
                  rw [lay_all hL]
                  simp only [putAll, dstOf, List.length_cons, List.length_nil, Nat.zero_add, Nat.reduceAdd, List.getElem?_toArray, List.getElem?_cons_zero, List.getElem?_cons_succ, Option.bind_some, Act.put, List.setIfInBounds_toArray, List.set_cons_succ, List.set_cons_zero]
                  rw [e4, e5, e6, e11, e12, e13, e14]
                  generalize vs 0 = u44_0
                  generalize vs 1 = u44_1
                  generalize vs 2 = u44_2
                  generalize vs 3 = u44_3
                  generalize vs 7 = u44_7
                  generalize vs 8 = u44_8
                  generalize vs 9 = u44_9
                  generalize vs 10 = u44_10
                  clear e4 e5 e6 e11 e12 e13 e14 hC hn E44 hL vs L nb
                  go_wp2_with (fail)
                  go_meet
                  case rel => exact ⟨by rw [HE9.out], E⟩
              · have T1 : Hid (¬ cmpI (Int.gcd c (2) : Int) (1) = 0) := fun e => h3 ((gcd_two c PC.out).1 (cmpI_eq0.1 e))
                have HE9 : Hid (od = false) := by show _ = _; rw [OD.out]; exact decide_eq_false (fun h => h3 h.1)
                clear h3
                have B45 : Hid (ab ((2)) < pw 3) := ab_lit (by decide)
                have B46 : Hid (ab ((Int.gcd c (2) : Int)) < pw 3) := ab_gcdB BC.out B45.out (by omega) (by omega)
                have B47 : Hid (ab ((1)) < pw 3) := ab_lit (by decide)
                refine region_fr (C := [Fq.num c, Fq.num (2), Fq.num (Int.gcd c (2) : Int), Fq.num (1), Fq.is (.int .i64 (cmpI (Int.gcd c (2) : Int) (1))), Fq.is (.bool false), Fq.is (.bool false), Fq.is (undef), Fq.is (undef), Fq.is (undef), Fq.is (undef), Fq.is (undef), Fq.is (undef), Fq.is (.bool false), Fq.is (.bool false)]) (ks := [none, none, none, none, none, none, none, none]) (new := []) E rfl (by kernel_rfl) rfl rfl (fun hp => ⟨?_, ?_, ?_, ?_, ?_, ?_, ?_, ?_, ?_, ?_, ?_, ?_, ?_, ?_, ?_, trivial⟩) ?_
                · exact q_loadInt (off := 0) hp (free_of rfl) trivial (List.mem_iff_getElem?.2 ⟨2, rfl⟩) (.inl rfl) (Nat.le_of_ble_eq_true rfl) (sq_out rfl rfl (fun _ _ => rfl)) (fun us w hl h => ld_num hl h)
                · exact q_call1 (F := (Fq.is (.int .i64 2)).P) hp (free_of rfl) trivial (enq_V_of) (sq_const (fun _ => rfl)) (fun v w h => (by subst h; exact exVOf (by omega)))
                · exact q_call2 (F := (Fq.num c).P) (G := (Fq.num (2)).P) hp (free_of rfl) trivial (enq_Gcd) (sq_in 0 rfl rfl (by simp) rfl (fun v w h => h)) (sq_in 1 rfl rfl (by simp) rfl (fun v w h => h)) (fun v v' w h h' => exK (GcdV h h') B46.out (by omega))
                · exact q_call1 (F := (Fq.is (.int .i64 1)).P) hp (free_of rfl) trivial (enq_V_of) (sq_const (fun _ => rfl)) (fun v w h => (by subst h; exact exVOf (by omega)))
                · exact q_call2 (F := (Fq.num (Int.gcd c (2) : Int)).P) (G := (Fq.num (1)).P) hp (free_of rfl) trivial (enq_Cmp) (sq_in 2 rfl rfl (by simp) rfl (fun v w h => h)) (sq_in 3 rfl rfl (by simp) rfl (fun v w h => h)) (fun v v' w h h' => exCmp h h')
                · exact q_one (F := fun v _ => v = .int .i64 (cmpI (Int.gcd c (2) : Int) (1))) hp (free_of rfl) trivial (sq_in 4 rfl rfl (by simp) rfl (fun v w h => h)) (fun ρ w hc h => ⟨.bool false, by simp [execOp, go_sem, h, hc, T1.out], rfl⟩)
                · exact q_move hp (free_of rfl) trivial (sq_in 5 rfl rfl (by simp) rfl (fun v w h => h))
                · exact q_skip hp (free_of rfl) rfl (gq_some rfl rfl (by simp) rfl (fun v w h => h)) (fun _ => rfl)
                · exact q_skip hp (free_of rfl) rfl (gq_some rfl rfl (by simp) rfl (fun v w h => h)) (fun _ => rfl)
                · exact q_skip hp (free_of rfl) rfl (gq_some rfl rfl (by simp) rfl (fun v w h => h)) (fun _ => rfl)
                · exact q_skip hp (free_of rfl) rfl (gq_some rfl rfl (by simp) rfl (fun v w h => h)) (fun _ => rfl)
                · exact q_skip hp (free_of rfl) rfl (gq_some rfl rfl (by simp) rfl (fun v w h => h)) (fun _ => rfl)
                · exact q_skip hp (free_of rfl) rfl (gq_some rfl rfl (by simp) rfl (fun v w h => h)) (fun _ => rfl)
                · exact q_two (F := fun v _ => v = .bool false) (G := fun v _ => v = .bool false) hp (free_of rfl) trivial (sq_in 6 rfl rfl (by simp) rfl (fun v w h => h)) (sq_const (fun _ => rfl)) (fun ρ w hc h h' => ⟨_, by simp [execOp, go_sem, h, h'], rfl⟩)
                · exact q_assign hp (free_of rfl) trivial (sq_in 13 rfl rfl (by simp) rfl (fun v w h => h))
                intro L vs w48 nb hL hC hn E48
                have e4 : vs 4 = .int .i64 (cmpI (Int.gcd c (2) : Int) (1)) := hC 4 (by simp)
                have e5 : vs 5 = .bool false := hC 5 (by simp)
                have e6 : vs 6 = .bool false := hC 6 (by simp)
                have e7 : vs 7 = undef := hC 7 (by simp)
                have e8 : vs 8 = undef := hC 8 (by simp)
                have e9 : vs 9 = undef := hC 9 (by simp)
                have e10 : vs 10 = undef := hC 10 (by simp)
                have e11 : vs 11 = undef := hC 11 (by simp)
                have e12 : vs 12 = undef := hC 12 (by simp)
                have e13 : vs 13 = .bool false := hC 13 (by simp)
                have e14 : vs 14 = .bool false := hC 14 (by simp)
                have E : Fr w [(b27_6, 2, Fq.num (d % (4))), (b25_6, 2, Fq.num (c % (4))), (b21_4, 2, Fq.num c), (b21_5, 2, Fq.num d), (b4_9, 2, Fq.num a), (b4_10, 2, Fq.num b), (b4_11, 2, Fq.num n), (b1, 6, Fq.three n1 a1 k1 c1 xs1 n2 a2 k2 c2 xs2 n3 a3 k3 c3 xs3)] w48 := E48
                rw [lay_all hL]
                simp only [putAll, dstOf, List.length_cons, List.length_nil, Nat.zero_add, Nat.reduceAdd, List.getElem?_toArray, List.getElem?_cons_zero, List.getElem?_cons_succ, Option.bind_some, Act.put, List.setIfInBounds_toArray, List.set_cons_succ, List.set_cons_zero]
                rw [e4, e5, e6, e7, e8, e9, e10, e11, e12, e13, e14]
                generalize vs 0 = u48_0
                generalize vs 1 = u48_1
                generalize vs 2 = u48_2
                generalize vs 3 = u48_3
                clear e4 e5 e6 e7 e8 e9 e10 e11 e12 e13 e14 hC hn E48 hL vs L nb
                go_wp2_with (fail)
                go_meet
                case rel => exact ⟨by rw [HE9.out], E⟩
            case rest =>
              clear E
              obtain ⟨rfl, E⟩ := hcut
              clear N4
              by_cases h3 : c % 2 = 1 ∧ d % 2 = 1
              · have HO : Hid (od = true) := by show _ = _; rw [OD.out]; exact decide_eq_true h3
                have HS := ER.out h3.1 h3.2
                clear h3 ER OD PC PD
                by_cases hs : r * t = 0
                · have T1 := hidd hs
                  clear hs HS TH
                  go_upto_region 21 with (fail)
                  refine region_fr (C := [Fq.is (.bool true), Fq.is (.bool false), Fq.is (.bool false), Fq.is (.int .i64 (r * t)), Fq.is (.bool true), Fq.is (.bool true), Fq.is (.bool true), Fq.is (undef), Fq.is (undef), Fq.is (undef), Fq.is (undef), Fq.is (.bool true), Fq.is (.bool true), Fq.is (.bool true), Fq.is (.bool true), Fq.is (.bool true)]) (ks := [none, none, none, none, none, none, none, none]) (new := []) E rfl (by kernel_rfl) rfl rfl (fun hp => ⟨?_, ?_, ?_, ?_, ?_, ?_, ?_, ?_, ?_, ?_, ?_, ?_, ?_, ?_, ?_, ?_, trivial⟩) ?_
                  · exact q_move hp (free_of rfl) trivial (sq_out rfl rfl (fun _ _ => congrArg Value.bool HO.out))
                  · exact q_one (F := fun v _ => v = .bool true) hp (free_of rfl) trivial (sq_in 0 rfl rfl (by simp) rfl (fun v w h => h)) (fun ρ w _ h => ⟨.bool false, by simp [execOp, go_sem, h], rfl⟩)
                  · exact q_move hp (free_of rfl) trivial (sq_in 1 rfl rfl (by simp) rfl (fun v w h => h))
                  · exact q_move hp (free_of rfl) (gq_some rfl rfl (by simp) rfl (fun v w h => h)) (sq_out rfl rfl (fun _ _ => rfl))
                  · exact q_one (F := fun v _ => v = .int .i64 (r * t)) hp (free_of rfl) (gq_some rfl rfl (by simp) rfl (fun v w h => h)) (sq_in 3 rfl rfl (by simp) rfl (fun v w h => h)) (fun ρ w hc h => ⟨.bool true, by simp [execOp, go_sem, h, hc, T1.out], rfl⟩)
                  · exact q_two (F := fun v _ => v = .bool false) (G := fun v _ => v = .bool true) hp (free_of rfl) trivial (sq_in 2 rfl rfl (by simp) rfl (fun v w h => h)) (sq_in 4 rfl rfl (by simp) rfl (fun v w h => h)) (fun ρ w hc h h' => ⟨_, by simp [execOp, go_sem, h, h'], rfl⟩)
                  · exact q_move hp (free_of rfl) trivial (sq_in 5 rfl rfl (by simp) rfl (fun v w h => h))
                  · exact q_skip hp (free_of rfl) rfl (gq_some rfl rfl (by simp) rfl (fun v w h => h)) (fun _ => rfl)
                  · exact q_skip hp (free_of rfl) rfl (gq_some rfl rfl (by simp) rfl (fun v w h => h)) (fun _ => rfl)
                  · exact q_skip hp (free_of rfl) rfl (gq_some rfl rfl (by simp) rfl (fun v w h => h)) (fun _ => rfl)
                  · exact q_skip hp (free_of rfl) rfl (gq_some rfl rfl (by simp) rfl (fun v w h => h)) (fun _ => rfl)
                  · exact q_two (F := fun v _ => v = .bool true) (G := fun v _ => v = .bool true) hp (free_of rfl) trivial (sq_in 6 rfl rfl (by simp) rfl (fun v w h => h)) (sq_const (fun _ => rfl)) (fun ρ w hc h h' => ⟨_, by simp [execOp, go_sem, h, h'], rfl⟩)
                  · exact q_move hp (free_of rfl) trivial (sq_in 11 rfl rfl (by simp) rfl (fun v w h => h))
                  · exact q_move hp (free_of rfl) (gq_some rfl rfl (by simp) rfl (fun v w h => h)) (sq_out rfl rfl (fun _ _ => rfl))
                  · exact q_two (F := fun v _ => v = .bool true) (G := fun v _ => v = .bool true) hp (free_of rfl) trivial (sq_in 12 rfl rfl (by simp) rfl (fun v w h => h)) (sq_in 13 rfl rfl (by simp) rfl (fun v w h => h)) (fun ρ w hc h h' => ⟨_, by simp [execOp, go_sem, h, h'], rfl⟩)
                  · exact q_assign hp (free_of rfl) trivial (sq_in 14 rfl rfl (by simp) rfl (fun v w h => h))
                  intro L vs w49 nb hL hC hn E49
                  have e0 : vs 0 = .bool true := hC 0 (by simp)
                  have e1 : vs 1 = .bool false := hC 1 (by simp)
                  have e2 : vs 2 = .bool false := hC 2 (by simp)
                  have e3 : vs 3 = .int .i64 (r * t) := hC 3 (by simp)
                  have e4 : vs 4 = .bool true := hC 4 (by simp)
                  have e5 : vs 5 = .bool true := hC 5 (by simp)
                  have e6 : vs 6 = .bool true := hC 6 (by simp)
                  have e7 : vs 7 = undef := hC 7 (by simp)
                  have e8 : vs 8 = undef := hC 8 (by simp)
                  have e9 : vs 9 = undef := hC 9 (by simp)
                  have e10 : vs 10 = undef := hC 10 (by simp)
                  have e11 : vs 11 = .bool true := hC 11 (by simp)
                  have e12 : vs 12 = .bool true := hC 12 (by simp)
                  have e13 : vs 13 = .bool true := hC 13 (by simp)
                  have e14 : vs 14 = .bool true := hC 14 (by simp)
                  have e15 : vs 15 = .bool true := hC 15 (by simp)
                  have E : Fr w [(b27_6, 2, Fq.num (d % (4))), (b25_6, 2, Fq.num (c % (4))), (b21_4, 2, Fq.num c), (b21_5, 2, Fq.num d), (b4_9, 2, Fq.num a), (b4_10, 2, Fq.num b), (b4_11, 2, Fq.num n), (b1, 6, Fq.three n1 a1 k1 c1 xs1 n2 a2 k2 c2 xs2 n3 a3 k3 c3 xs3)] w49 := E49
                  rw [lay_all hL]
                  simp only [putAll, dstOf, List.length_cons, List.length_nil, Nat.zero_add, Nat.reduceAdd, List.getElem?_toArray, List.getElem?_cons_zero, List.getElem?_cons_succ, Option.bind_some, Act.put, List.setIfInBounds_toArray, List.set_cons_succ, List.set_cons_zero]
                  rw [e0, e1, e2, e3, e4, e5, e6, e7, e8, e9, e10, e11, e12, e13, e14, e15]
                  clear e0 e1 e2 e3 e4 e5 e6 e7 e8 e9 e10 e11 e12 e13 e14 e15 hC hn E49 hL vs L nb
                  clear B23 B24 B26 Ba Bb Bn hT BC BD
                  go_wp2
                  refine bodyPost_ret (v := .bool true) ?_ rfl ⟨rfl, E.below⟩
                  simp [results, Tryd.results4, go_sem]
                · by_cases h4 : c % 4 = 3 ∧ d % 4 = 3
                  · have HE9 : Hid (th = true) := by show _ = _; rw [TH.out]; exact decide_eq_true h4
                    rw [if_pos h4] at HS
                    have T1 := hidd hs
                    have T2 : Hid (r * t = -1) := by show _ = _; omega
                    clear h4 HS hs TH
                    go_upto_region 21 with (fail)
                    refine region_fr (C := [Fq.is (.bool true), Fq.is (.bool false), Fq.is (.bool false), Fq.is (.int .i64 (r * t)), Fq.is (.bool false), Fq.is (.bool false), Fq.is (.bool false), Fq.is (.int .i64 (r * t)), Fq.is (.bool true), Fq.is (.bool true), Fq.is (.bool true), Fq.is (.bool true), Fq.is (.bool true), Fq.is (.bool true), Fq.is (.bool true), Fq.is (.bool true)]) (ks := [none, none, none, none, none, none, none, none]) (new := []) E rfl (by kernel_rfl) rfl rfl (fun hp => ⟨?_, ?_, ?_, ?_, ?_, ?_, ?_, ?_, ?_, ?_, ?_, ?_, ?_, ?_, ?_, ?_, trivial⟩) ?_
                    · exact q_move hp (free_of rfl) trivial (sq_out rfl rfl (fun _ _ => congrArg Value.bool HO.out))
                    · exact q_one (F := fun v _ => v = .bool true) hp (free_of rfl) trivial (sq_in 0 rfl rfl (by simp) rfl (fun v w h => h)) (fun ρ w _ h => ⟨.bool false, by simp [execOp, go_sem, h], rfl⟩)
                    · exact q_move hp (free_of rfl) trivial (sq_in 1 rfl rfl (by simp) rfl (fun v w h => h))
                    · exact q_move hp (free_of rfl) (gq_some rfl rfl (by simp) rfl (fun v w h => h)) (sq_out rfl rfl (fun _ _ => rfl))
                    · exact q_one (F := fun v _ => v = .int .i64 (r * t)) hp (free_of rfl) (gq_some rfl rfl (by simp) rfl (fun v w h => h)) (sq_in 3 rfl rfl (by simp) rfl (fun v w h => h)) (fun ρ w hc h => ⟨.bool false, by simp [execOp, go_sem, h, hc, T1.out], rfl⟩)
                    · exact q_two (F := fun v _ => v = .bool false) (G := fun v _ => v = .bool false) hp (free_of rfl) trivial (sq_in 2 rfl rfl (by simp) rfl (fun v w h => h)) (sq_in 4 rfl rfl (by simp) rfl (fun v w h => h)) (fun ρ w hc h h' => ⟨_, by simp [execOp, go_sem, h, h'], rfl⟩)
                    · exact q_move hp (free_of rfl) trivial (sq_in 5 rfl rfl (by simp) rfl (fun v w h => h))
                    · exact q_move hp (free_of rfl) (gq_some rfl rfl (by simp) rfl (fun v w h => h)) (sq_out rfl rfl (fun _ _ => rfl))
                    · exact q_one (F := fun v _ => v = .int .i64 (r * t)) hp (free_of rfl) (gq_some rfl rfl (by simp) rfl (fun v w h => h)) (sq_in 7 rfl rfl (by simp) rfl (fun v w h => h)) (fun ρ w hc h => ⟨.bool true, by simp [execOp, go_sem, h, hc, T2.out], rfl⟩)
                    · exact q_move hp (free_of rfl) (gq_some rfl rfl (by simp) rfl (fun v w h => h)) (sq_out rfl rfl (fun _ _ => congrArg Value.bool HE9.out))
                    · exact q_two (F := fun v _ => v = .bool true) (G := fun v _ => v = .bool true) hp (free_of rfl) (gq_some rfl rfl (by simp) rfl (fun v w h => h)) (sq_in 8 rfl rfl (by simp) rfl (fun v w h => h)) (sq_in 9 rfl rfl (by simp) rfl (fun v w h => h)) (fun ρ w hc h h' => ⟨.bool true, by simp [execOp, go_sem, h, h'], rfl⟩)
                    · exact q_two (F := fun v _ => v = .bool false) (G := fun v _ => v = .bool true) hp (free_of rfl) trivial (sq_in 6 rfl rfl (by simp) rfl (fun v w h => h)) (sq_in 10 rfl rfl (by simp) rfl (fun v w h => h)) (fun ρ w hc h h' => ⟨_, by simp [execOp, go_sem, h, h'], rfl⟩)
                    · exact q_move hp (free_of rfl) trivial (sq_in 11 rfl rfl (by simp) rfl (fun v w h => h))
                    · exact q_move hp (free_of rfl) (gq_some rfl rfl (by simp) rfl (fun v w h => h)) (sq_out rfl rfl (fun _ _ => rfl))
                    · exact q_two (F := fun v _ => v = .bool true) (G := fun v _ => v = .bool true) hp (free_of rfl) trivial (sq_in 12 rfl rfl (by simp) rfl (fun v w h => h)) (sq_in 13 rfl rfl (by simp) rfl (fun v w h => h)) (fun ρ w hc h h' => ⟨_, by simp [execOp, go_sem, h, h'], rfl⟩)
                    · exact q_assign hp (free_of rfl) trivial (sq_in 14 rfl rfl (by simp) rfl (fun v w h => h))
                    intro L vs w50 nb hL hC hn E50
                    have e0 : vs 0 = .bool true := hC 0 (by simp)
                    have e1 : vs 1 = .bool false := hC 1 (by simp)
                    have e2 : vs 2 = .bool false := hC 2 (by simp)
                    have e3 : vs 3 = .int .i64 (r * t) := hC 3 (by simp)
                    have e4 : vs 4 = .bool false := hC 4 (by simp)
                    have e5 : vs 5 = .bool false := hC 5 (by simp)
                    have e6 : vs 6 = .bool false := hC 6 (by simp)
                    have e7 : vs 7 = .int .i64 (r * t) := hC 7 (by simp)
                    have e8 : vs 8 = .bool true := hC 8 (by simp)
                    have e9 : vs 9 = .bool true := hC 9 (by simp)
                    have e10 : vs 10 = .bool true := hC 10 (by simp)
                    have e11 : vs 11 = .bool true := hC 11 (by simp)
                    have e12 : vs 12 = .bool true := hC 12 (by simp)
                    have e13 : vs 13 = .bool true := hC 13 (by simp)
                    have e14 : vs 14 = .bool true := hC 14 (by simp)
                    have e15 : vs 15 = .bool true := hC 15 (by simp)
                    have E : Fr w [(b27_6, 2, Fq.num (d % (4))), (b25_6, 2, Fq.num (c % (4))), (b21_4, 2, Fq.num c), (b21_5, 2, Fq.num d), (b4_9, 2, Fq.num a), (b4_10, 2, Fq.num b), (b4_11, 2, Fq.num n), (b1, 6, Fq.three n1 a1 k1 c1 xs1 n2 a2 k2 c2 xs2 n3 a3 k3 c3 xs3)] w50 := E50
                    rw [lay_all hL]
                    simp only [putAll, dstOf, List.length_cons, List.length_nil, Nat.zero_add, Nat.reduceAdd, List.getElem?_toArray, List.getElem?_cons_zero, List.getElem?_cons_succ, Option.bind_some, Act.put, List.setIfInBounds_toArray, List.set_cons_succ, List.set_cons_zero]
                    rw [e0, e1, e2, e3, e4, e5, e6, e7, e8, e9, e10, e11, e12, e13, e14, e15]
                    clear e0 e1 e2 e3 e4 e5 e6 e7 e8 e9 e10 e11 e12 e13 e14 e15 hC hn E50 hL vs L nb
                    clear B23 B24 B26 Ba Bb Bn hT BC BD
                    go_wp2
                    refine bodyPost_ret (v := .bool true) ?_ rfl ⟨rfl, E.below⟩
                    simp [results, Tryd.results4, go_sem]
                  · have HE9 : Hid (th = false) := by show _ = _; rw [TH.out]; exact decide_eq_false h4
                    rw [if_neg h4] at HS
                    have T1 := hidd hs
                    have T2 : Hid (¬ r * t = -1) := by show ¬ _; omega
                    clear h4 HS hs TH
                    go_upto_region 21 with (fail)
                    refine region_fr (C := [Fq.is (.bool true), Fq.is (.bool false), Fq.is (.bool false), Fq.is (.int .i64 (r * t)), Fq.is (.bool false), Fq.is (.bool false), Fq.is (.bool false), Fq.is (.int .i64 (r * t)), Fq.is (.bool false), Fq.is (.bool false), Fq.is (.bool true), Fq.is (.bool true), Fq.is (.bool true), Fq.is (.bool true), Fq.is (.bool true), Fq.is (.bool true)]) (ks := [none, none, none, none, none, none, none, none]) (new := []) E rfl (by kernel_rfl) rfl rfl (fun hp => ⟨?_, ?_, ?_, ?_, ?_, ?_, ?_, ?_, ?_, ?_, ?_, ?_, ?_, ?_, ?_, ?_, trivial⟩) ?_
                    · exact q_move hp (free_of rfl) trivial (sq_out rfl rfl (fun _ _ => congrArg Value.bool HO.out))
                    · exact q_one (F := fun v _ => v = .bool true) hp (free_of rfl) trivial (sq_in 0 rfl rfl (by simp) rfl (fun v w h => h)) (fun ρ w _ h => ⟨.bool false, by simp [execOp, go_sem, h], rfl⟩)
                    · exact q_move hp (free_of rfl) trivial (sq_in 1 rfl rfl (by simp) rfl (fun v w h => h))
                    · exact q_move hp (free_of rfl) (gq_some rfl rfl (by simp) rfl (fun v w h => h)) (sq_out rfl rfl (fun _ _ => rfl))
                    · exact q_one (F := fun v _ => v = .int .i64 (r * t)) hp (free_of rfl) (gq_some rfl rfl (by simp) rfl (fun v w h => h)) (sq_in 3 rfl rfl (by simp) rfl (fun v w h => h)) (fun ρ w hc h => ⟨.bool false, by simp [execOp, go_sem, h, hc, T1.out], rfl⟩)
                    · exact q_two (F := fun v _ => v = .bool false) (G := fun v _ => v = .bool false) hp (free_of rfl) trivial (sq_in 2 rfl rfl (by simp) rfl (fun v w h => h)) (sq_in 4 rfl rfl (by simp) rfl (fun v w h => h)) (fun ρ w hc h h' => ⟨_, by simp [execOp, go_sem, h, h'], rfl⟩)
                    · exact q_move hp (free_of rfl) trivial (sq_in 5 rfl rfl (by simp) rfl (fun v w h => h))
                    · exact q_move hp (free_of rfl) (gq_some rfl rfl (by simp) rfl (fun v w h => h)) (sq_out rfl rfl (fun _ _ => rfl))
                    · exact q_one (F := fun v _ => v = .int .i64 (r * t)) hp (free_of rfl) (gq_some rfl rfl (by simp) rfl (fun v w h => h)) (sq_in 7 rfl rfl (by simp) rfl (fun v w h => h)) (fun ρ w hc h => ⟨.bool false, by simp [execOp, go_sem, h, hc, T2.out], rfl⟩)
                    · exact q_move hp (free_of rfl) (gq_some rfl rfl (by simp) rfl (fun v w h => h)) (sq_out rfl rfl (fun _ _ => congrArg Value.bool HE9.out))
                    · exact q_two (F := fun v _ => v = .bool false) (G := fun v _ => v = .bool false) hp (free_of rfl) (gq_some rfl rfl (by simp) rfl (fun v w h => h)) (sq_in 8 rfl rfl (by simp) rfl (fun v w h => h)) (sq_in 9 rfl rfl (by simp) rfl (fun v w h => h)) (fun ρ w hc h h' => ⟨.bool true, by simp [execOp, go_sem, h, h'], rfl⟩)
                    · exact q_two (F := fun v _ => v = .bool false) (G := fun v _ => v = .bool true) hp (free_of rfl) trivial (sq_in 6 rfl rfl (by simp) rfl (fun v w h => h)) (sq_in 10 rfl rfl (by simp) rfl (fun v w h => h)) (fun ρ w hc h h' => ⟨_, by simp [execOp, go_sem, h, h'], rfl⟩)
                    · exact q_move hp (free_of rfl) trivial (sq_in 11 rfl rfl (by simp) rfl (fun v w h => h))
                    · exact q_move hp (free_of rfl) (gq_some rfl rfl (by simp) rfl (fun v w h => h)) (sq_out rfl rfl (fun _ _ => rfl))
                    · exact q_two (F := fun v _ => v = .bool true) (G := fun v _ => v = .bool true) hp (free_of rfl) trivial (sq_in 12 rfl rfl (by simp) rfl (fun v w h => h)) (sq_in 13 rfl rfl (by simp) rfl (fun v w h => h)) (fun ρ w hc h h' => ⟨_, by simp [execOp, go_sem, h, h'], rfl⟩)
                    · exact q_assign hp (free_of rfl) trivial (sq_in 14 rfl rfl (by simp) rfl (fun v w h => h))
                    intro L vs w51 nb hL hC hn E51
                    have e0 : vs 0 = .bool true := hC 0 (by simp)
                    have e1 : vs 1 = .bool false := hC 1 (by simp)
                    have e2 : vs 2 = .bool false := hC 2 (by simp)
                    have e3 : vs 3 = .int .i64 (r * t) := hC 3 (by simp)
                    have e4 : vs 4 = .bool false := hC 4 (by simp)
                    have e5 : vs 5 = .bool false := hC 5 (by simp)
                    have e6 : vs 6 = .bool false := hC 6 (by simp)
                    have e7 : vs 7 = .int .i64 (r * t) := hC 7 (by simp)
                    have e8 : vs 8 = .bool false := hC 8 (by simp)
                    have e9 : vs 9 = .bool false := hC 9 (by simp)
                    have e10 : vs 10 = .bool true := hC 10 (by simp)
                    have e11 : vs 11 = .bool true := hC 11 (by simp)
                    have e12 : vs 12 = .bool true := hC 12 (by simp)
                    have e13 : vs 13 = .bool true := hC 13 (by simp)
                    have e14 : vs 14 = .bool true := hC 14 (by simp)
                    have e15 : vs 15 = .bool true := hC 15 (by simp)
                    have E : Fr w [(b27_6, 2, Fq.num (d % (4))), (b25_6, 2, Fq.num (c % (4))), (b21_4, 2, Fq.num c), (b21_5, 2, Fq.num d), (b4_9, 2, Fq.num a), (b4_10, 2, Fq.num b), (b4_11, 2, Fq.num n), (b1, 6, Fq.three n1 a1 k1 c1 xs1 n2 a2 k2 c2 xs2 n3 a3 k3 c3 xs3)] w51 := E51
                    rw [lay_all hL]
                    simp only [putAll, dstOf, List.length_cons, List.length_nil, Nat.zero_add, Nat.reduceAdd, List.getElem?_toArray, List.getElem?_cons_zero, List.getElem?_cons_succ, Option.bind_some, Act.put, List.setIfInBounds_toArray, List.set_cons_succ, List.set_cons_zero]
                    rw [e0, e1, e2, e3, e4, e5, e6, e7, e8, e9, e10, e11, e12, e13, e14, e15]
                    clear e0 e1 e2 e3 e4 e5 e6 e7 e8 e9 e10 e11 e12 e13 e14 e15 hC hn E51 hL vs L nb
                    clear B23 B24 B26 Ba Bb Bn hT BC BD
                    go_wp2
                    refine bodyPost_ret (v := .bool true) ?_ rfl ⟨rfl, E.below⟩
                    simp [results, Tryd.results4, go_sem]
              · have HO : Hid (od = false) := by show _ = _; rw [OD.out]; exact decide_eq_false h3
                clear h3 ER OD TH PC PD
                go_upto_region 21 with (fail)
                refine region_fr (C := [Fq.is (.bool false), Fq.is (.bool true), Fq.is (.bool true), Fq.is (undef), Fq.is (undef), Fq.is (.bool true), Fq.is (.bool true), Fq.is (undef), Fq.is (undef), Fq.is (undef), Fq.is (undef), Fq.is (.bool true), Fq.is (.bool true), Fq.is (.bool true), Fq.is (.bool true), Fq.is (.bool true)]) (ks := [none, none, none, none, none, none, none, none]) (new := []) E rfl (by kernel_rfl) rfl rfl (fun hp => ⟨?_, ?_, ?_, ?_, ?_, ?_, ?_, ?_, ?_, ?_, ?_, ?_, ?_, ?_, ?_, ?_, trivial⟩) ?_
                · exact q_move hp (free_of rfl) trivial (sq_out rfl rfl (fun _ _ => congrArg Value.bool HO.out))
                · exact q_one (F := fun v _ => v = .bool false) hp (free_of rfl) trivial (sq_in 0 rfl rfl (by simp) rfl (fun v w h => h)) (fun ρ w _ h => ⟨.bool true, by simp [execOp, go_sem, h], rfl⟩)
                · exact q_move hp (free_of rfl) trivial (sq_in 1 rfl rfl (by simp) rfl (fun v w h => h))
                · exact q_skip hp (free_of rfl) rfl (gq_some rfl rfl (by simp) rfl (fun v w h => h)) (fun _ => rfl)
                · exact q_skip hp (free_of rfl) rfl (gq_some rfl rfl (by simp) rfl (fun v w h => h)) (fun _ => rfl)
                · exact q_two (F := fun v _ => v = .bool true) (G := fun v _ => v = .bool true) hp (free_of rfl) trivial (sq_in 2 rfl rfl (by simp) rfl (fun v w h => h)) (sq_const (fun _ => rfl)) (fun ρ w hc h h' => ⟨_, by simp [execOp, go_sem, h, h'], rfl⟩)
                · exact q_move hp (free_of rfl) trivial (sq_in 5 rfl rfl (by simp) rfl (fun v w h => h))
                · exact q_skip hp (free_of rfl) rfl (gq_some rfl rfl (by simp) rfl (fun v w h => h)) (fun _ => rfl)
                · exact q_skip hp (free_of rfl) rfl (gq_some rfl rfl (by simp) rfl (fun v w h => h)) (fun _ => rfl)
                · exact q_skip hp (free_of rfl) rfl (gq_some rfl rfl (by simp) rfl (fun v w h => h)) (fun _ => rfl)
                · exact q_skip hp (free_of rfl) rfl (gq_some rfl rfl (by simp) rfl (fun v w h => h)) (fun _ => rfl)
                · exact q_two (F := fun v _ => v = .bool true) (G := fun v _ => v = .bool true) hp (free_of rfl) trivial (sq_in 6 rfl rfl (by simp) rfl (fun v w h => h)) (sq_const (fun _ => rfl)) (fun ρ w hc h h' => ⟨_, by simp [execOp, go_sem, h, h'], rfl⟩)
                · exact q_move hp (free_of rfl) trivial (sq_in 11 rfl rfl (by simp) rfl (fun v w h => h))
                · exact q_move hp (free_of rfl) (gq_some rfl rfl (by simp) rfl (fun v w h => h)) (sq_out rfl rfl (fun _ _ => rfl))
                · exact q_two (F := fun v _ => v = .bool true) (G := fun v _ => v = .bool true) hp (free_of rfl) trivial (sq_in 12 rfl rfl (by simp) rfl (fun v w h => h)) (sq_in 13 rfl rfl (by simp) rfl (fun v w h => h)) (fun ρ w hc h h' => ⟨_, by simp [execOp, go_sem, h, h'], rfl⟩)
                · exact q_assign hp (free_of rfl) trivial (sq_in 14 rfl rfl (by simp) rfl (fun v w h => h))
                intro L vs w52 nb hL hC hn E52
                have e0 : vs 0 = .bool false := hC 0 (by simp)
                have e1 : vs 1 = .bool true := hC 1 (by simp)
                have e2 : vs 2 = .bool true := hC 2 (by simp)
                have e3 : vs 3 = undef := hC 3 (by simp)
                have e4 : vs 4 = undef := hC 4 (by simp)
                have e5 : vs 5 = .bool true := hC 5 (by simp)
                have e6 : vs 6 = .bool true := hC 6 (by simp)
                have e7 : vs 7 = undef := hC 7 (by simp)
                have e8 : vs 8 = undef := hC 8 (by simp)
                have e9 : vs 9 = undef := hC 9 (by simp)
                have e10 : vs 10 = undef := hC 10 (by simp)
                have e11 : vs 11 = .bool true := hC 11 (by simp)
                have e12 : vs 12 = .bool true := hC 12 (by simp)
                have e13 : vs 13 = .bool true := hC 13 (by simp)
                have e14 : vs 14 = .bool true := hC 14 (by simp)
                have e15 : vs 15 = .bool true := hC 15 (by simp)
                have E : Fr w [(b27_6, 2, Fq.num (d % (4))), (b25_6, 2, Fq.num (c % (4))), (b21_4, 2, Fq.num c), (b21_5, 2, Fq.num d), (b4_9, 2, Fq.num a), (b4_10, 2, Fq.num b), (b4_11, 2, Fq.num n), (b1, 6, Fq.three n1 a1 k1 c1 xs1 n2 a2 k2 c2 xs2 n3 a3 k3 c3 xs3)] w52 := E52
                rw [lay_all hL]
                simp only [putAll, dstOf, List.length_cons, List.length_nil, Nat.zero_add, Nat.reduceAdd, List.getElem?_toArray, List.getElem?_cons_zero, List.getElem?_cons_succ, Option.bind_some, Act.put, List.setIfInBounds_toArray, List.set_cons_succ, List.set_cons_zero]
                rw [e0, e1, e2, e3, e4, e5, e6, e7, e8, e9, e10, e11, e12, e13, e14, e15]
                clear e0 e1 e2 e3 e4 e5 e6 e7 e8 e9 e10 e11 e12 e13 e14 e15 hC hn E52 hL vs L nb
                clear B23 B24 B26 Ba Bb Bn hT BC BD
                go_wp2
                refine bodyPost_ret (v := .bool true) ?_ rfl ⟨rfl, E.below⟩
                simp [results, Tryd.results4, go_sem]

end Go.Proofs.YtieobgadihcgeaaDoor
