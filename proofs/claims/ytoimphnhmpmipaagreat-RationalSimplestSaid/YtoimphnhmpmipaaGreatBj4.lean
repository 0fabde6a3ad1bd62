/- Ye, Yf, Pa, Yg, Ycut, Yh, Yi. -/
import Derived.Test.YtoimphnhmpmipaaGreatBj3
import Derived.Laws.RangeAny
import Derived.Lib.OthersKept
import Derived.BigQuiet
import Derived.Laws.StandIn
import Derived.Laws.EntriesVeiled
/- Walks: package rational and its reference, on fractions. -/
namespace Go.Proofs.YtoimphnhmpmipaaGreat
open Go Go.RowKit

/-- Both parts of a fraction are below so many words. -/
def Rb (q : Rat) (k : Nat) : Prop := ab q.num < pw k ∧ ab (q.den : Int) < pw k

theorem rb_le {q : Rat} {j k : Nat} (h : Rb q j) (hk : j ≤ k) : Rb q k := ⟨Int.lt_of_lt_of_le h.1 (pw_le hk), Int.lt_of_lt_of_le h.2 (pw_le hk)⟩

theorem ab_ediv_dvd {a g : Int} (h : g ∣ a) (hg : g ≠ 0) : ab (a / g) ≤ ab a := by
  have h1 := exact_div h
  have h2 : a.natAbs = g.natAbs * (a / g).natAbs := by rw [← Int.natAbs_mul, ← h1]
  have h3 : 1 ≤ g.natAbs := by omega
  have h4 := Nat.mul_le_mul_right (a / g).natAbs h3
  unfold ab
  omega

theorem rb_divInt {n d : Int} {k : Nat} (hd : d ≠ 0) (hn : ab n < pw k) (hd' : ab d < pw k) : Rb (Rat.divInt n d) k := by
  have hp : (0 : Int) < (Int.gcd n d : Int) := by have := Int.gcd_pos_of_ne_zero_right n hd; omega
  have d1 : (Int.gcd n d : Int) ∣ n := Int.gcd_dvd_left _ _
  have d2 : (Int.gcd n d : Int) ∣ d := Int.gcd_dvd_right _ _
  obtain ⟨g, hg⟩ : ∃ g : Int, g = if d < 0 then -(Int.gcd n d : Int) else (Int.gcd n d : Int) := ⟨_, rfl⟩
  obtain ⟨e1, e2⟩ := new_frac hd hg
  have g0 : g ≠ 0 := by rw [hg]; split <;> omega
  have g1 : g ∣ n := by rw [hg]; split; exact (Int.neg_dvd).2 d1; exact d1
  have g2 : g ∣ d := by rw [hg]; split; exact (Int.neg_dvd).2 d2; exact d2
  unfold Rb
  rw [← e1, ← e2]
  have h1 := ab_ediv_dvd g1 g0
  have h2 := ab_ediv_dvd g2 g0
  omega

theorem rb_neg {q : Rat} {k : Nat} (h : Rb q k) : Rb (-q) k := ⟨by rw [Rat.neg_num]; exact ab_negB h.1, h.2⟩

theorem den_ne (q : Rat) : (q.den : Int) ≠ 0 := by have := den_pos q; omega

theorem den_mul_ne (a b : Rat) : (a.den : Int) * b.den ≠ 0 := by
  have := Int.mul_pos (den_pos a) (den_pos b)
  omega

theorem rb_add {a b : Rat} {j k : Nat} (ha : Rb a j) (hb : Rb b k) : Rb (a + b) (j + k + 1) := by
  rw [add_div]
  refine rb_divInt (den_mul_ne a b) (ab_addB (j := j + k) (k := j + k) (ab_mulB ha.1 hb.2) (by rw [Nat.add_comm]; exact ab_mulB hb.1 ha.2) (by omega) (by omega)) (Int.lt_of_lt_of_le (ab_mulB ha.2 hb.2) (pw_le (by omega)))
theorem rb_sub {a b : Rat} {j k : Nat} (ha : Rb a j) (hb : Rb b k) : Rb (a - b) (j + k + 1) := by
  rw [Rat.sub_eq_add_neg]; exact rb_add ha (rb_neg hb)
theorem rb_mul {a b : Rat} {j k : Nat} (ha : Rb a j) (hb : Rb b k) : Rb (a * b) (j + k) := by
  rw [mul_div]
  exact rb_divInt (den_mul_ne a b) (ab_mulB ha.1 hb.1) (ab_mulB ha.2 hb.2)
theorem rb_floor {q : Rat} {k : Nat} (h : Rb q k) : ab q.floor < pw (k + 1) := by rw [Rat.floor_def]; exact ab_divB h.1 (by omega)
theorem rb_int {z : Int} {k : Nat} (h : ab z < pw k) (hk : 1 ≤ k) : Rb (z : Rat) k := by
  refine ⟨by rw [Rat.num_intCast]; exact h, ?_⟩
  rw [Rat.den_intCast]
  have := pw_le hk
  have h1 : pw 1 = 4294967296 := rfl
  show ((1 : Nat) : Int) < _
  omega

/-- Fractions are compared as their cross products. -/
def cmpQ (a b : Rat) : Int := cmpI (a.num * b.den) (b.num * a.den)
theorem cmpQ_lt {a b : Rat} : cmpQ a b < 0 ↔ a < b := by unfold cmpQ; rw [cmpIqlt, Rat.lt_iff]
theorem cmpQ_eq {a b : Rat} : cmpQ a b = 0 ↔ a = b := by unfold cmpQ; rw [cmpIq0, Rat.eq_iff_mul_eq_mul]
theorem cmpQ_gt {a b : Rat} : 0 < cmpQ a b ↔ b < a := by unfold cmpQ; rw [cmpIqgt, Rat.lt_iff]

theorem exOppQ {w : World} {v : Value} {a : Rat} (h : Pair w v a.num a.den) (ha : Rb a 1000) : Calls Tryz.prog 68 #[v] w fun e w' => ∃ v', e = .returned v' ∧ Below w.heap.size w w' ∧ Pair w' v' (-a).num ((-a).den : Int) := exOpp h ha.1
theorem exAddQ {w : World} {v v' : Value} {a b : Rat} (h : Pair w v a.num a.den) (h' : Pair w v' b.num b.den) (ha : Rb a 1000) (hb : Rb b 1000) : Calls Tryz.prog 14 #[v, v'] w fun e w' => ∃ v', e = .returned v' ∧ Below w.heap.size w w' ∧ Pair w' v' (a + b).num ((a + b).den : Int) := exAddQ0 h h' ha.1 ha.2 hb.1 hb.2
theorem exNewP {w : World} {v v' : Value} {n d : Int} (h : Num w v n) (h' : Num w v' d) (h0 : d ≠ 0) (hn : ab n < pw 1000) (hd : ab d < pw 1000) : Calls Tryz.prog 11 #[v, v'] w fun e w' => ∃ v', e = .returned v' ∧ Below w.heap.size w w' ∧ (Fq.tup2 (Fq.pair (Rat.divInt n d).num ((Rat.divInt n d).den : Int)) (Fq.is (.int .i64 0))).P v' w' := by
  have := exNew h h' hn hd
  rw [if_neg h0] at this
  exact this
theorem exNewZ {w : World} {v v' : Value} {n d : Int} (h : Num w v n) (h' : Num w v' d) (h0 : d = 0) (hn : ab n < pw 1000) (hd : ab d < pw 1000) : Calls Tryz.prog 11 #[v, v'] w fun e w' => ∃ v', e = .returned v' ∧ Below w.heap.size w w' ∧ (Fq.tup2 (Fq.pair 0 0) (Fq.is (.int .i64 4))).P v' w' := by
  have := exNew h h' hn hd
  rw [if_pos h0] at this
  exact this

theorem bq_box {w : World} {b : Nat} {z : Int} (h : Bq w b 2 (Fq.num z)) : BoxNum w b z := by
  obtain ⟨us, hl, _, hat, _, hP⟩ := h
  match us, hl, hat, hP with
  | [p, q], _, hat, hP =>
    have hN : Num w (.agg #[p, q]) z := hP
    obtain ⟨n, ao, k, c, e⟩ := hN.parts
    have e1 := congrArg (fun v => match v with | Value.agg us => us.toList | _ => []) e
    simp at e1
    obtain ⟨rfl, rfl⟩ := e1
    exact ⟨n, ao, k, c, ⟨(hat 0 (by simp)).1, (hat 1 (by simp)).1, (hat 0 (by simp)).2, (hat 1 (by simp)).2⟩, hN⟩

theorem Fr.drop {w0 W : World} {x : Nat × Nat × Fq} {bs : List (Nat × Nat × Fq)} (h : Fr w0 (x :: bs) W) : Fr w0 bs W :=
  ⟨h.below, fun y hy => h.boxes y (List.mem_cons_of_mem _ hy), by have := h.apart; rw [List.map_cons, List.nodup_cons] at this; exact this.2⟩

theorem exRDiv {w : World} {v v' : Value} {a b : Int} (h : Num w v a) (h' : Num w v' b) (h0 : b ≠ 0) (ha : ab a < pw 900) (hb : ab b < pw 900) : Calls Tryz.prog 64 #[v, v'] w fun e w' => ∃ v', e = .returned v' ∧ Below w.heap.size w w' ∧ Num w' v' (a / b) :=
  exK (k := 901) (RDivV h h' (Int.lt_of_lt_of_le ha (pw_le (by omega))) (Int.lt_of_lt_of_le hb (pw_le (by omega))) h0) (ab_divB ha (by omega)) (by omega)
theorem exRMod {w : World} {v v' : Value} {a b : Int} (h : Num w v a) (h' : Num w v' b) (h0 : b ≠ 0) (ha : ab a < pw 900) (hb : ab b < pw 900) : Calls Tryz.prog 90 #[v, v'] w fun e w' => ∃ v', e = .returned v' ∧ Below w.heap.size w w' ∧ Num w' v' (a % b) :=
  exK (k := 900) (RModV h h' (Int.lt_of_lt_of_le ha (pw_le (by omega))) (Int.lt_of_lt_of_le hb (pw_le (by omega))) h0) (ab_modB h0 hb) (by omega)
theorem exRSame {w : World} {v v' : Value} {a b : Int} (h : Num w v a) (h' : Num w v' b) : Calls Tryz.prog 24 #[v, v'] w fun e w' => ∃ v', e = .returned v' ∧ Below w.heap.size w w' ∧ v' = .bool (decide (a = b)) :=
  (SameV h h').mono fun _ _ hh => ⟨_, hh.1, hh.2, rfl⟩

theorem gcd_stepQ (x y : Int) : Int.gcd y (x % y) = Int.gcd x y := by
  have e : x % y = x - y * (x / y) := by have := Int.mul_ediv_add_emod x y; omega
  rw [e, Int.gcd_sub_mul_left_right, Int.gcd_comm]

set_option maxRecDepth 100000 in
set_option maxHeartbeats 4000000 in
theorem exSignQ {w : World} {v : Value} {n d : Int} (h : Pair w v n d) :
    Calls Tryz.prog 22 #[v] w fun e w' => ∃ v', e = .returned v' ∧ Below w.heap.size w w' ∧ v' = .int .i64 (cmpI n 0) := by
  obtain ⟨n0, ao0, k0, c0, n0', ao0', k0', c0', rfl, _⟩ := ratV_pair h
  obtain ⟨w1, b1, hw1, hb1, hs1, E⟩ := fr_start w (F := Fq.pair n d) (us := [.bool n0, .slice ao0 k0 c0, .bool n0', .slice ao0' k0' c0']) 31 rfl (by simp) (tame_rat _ _ _ _ _ _ _ _) h
  go_enter Tryz.func22, Tryz.ntmps22
  go_upto_region 1 with (fail)
  rw [← hw1]
  rw [← hb1]
  clear hw1 hb1 hs1
  refine region_fr (C := [Fq.is (.pointer (some ⟨b1, 0, none⟩)), Fq.num n, Fq.is (.int .i64 (cmpI n 0)), Fq.is (.int .i64 (cmpI n 0))]) (ks := [none]) (new := []) E rfl (by kernel_rfl) rfl rfl (fun hp => ⟨?_, ?_, ?_, ?_, trivial⟩) ?_
  · exact q_addr (b := b1) (off := 0) (off' := 0) hp (free_of rfl) trivial (sq_out rfl rfl (fun _ _ => rfl)) (fun ρ w h => by simp [execOp, go_sem, h]) (fun _ => rfl)
  · exact q_loadInt (off := 0) hp (free_of rfl) trivial (List.mem_iff_getElem?.2 ⟨0, rfl⟩) (.inl rfl) (Nat.le_of_ble_eq_true rfl) (sq_in 0 rfl rfl (by simp) rfl (fun v w h => h)) (fun us w hl h => ld_pn hl h)
  · exact q_call1 (F := (Fq.num n).P) hp (free_of rfl) trivial (enq_Sign) (sq_in 1 rfl rfl (by simp) rfl (fun v w h => h)) (fun v w h => exSign h)
  · exact q_assign hp (free_of rfl) trivial (sq_in 2 rfl rfl (by simp) rfl (fun v w h => h))
  intro L vs w2 nb hL hC hn E2
  have e0 : vs 0 = .pointer (some ⟨b1, 0, none⟩) := hC 0 (by simp)
  have e2 : vs 2 = .int .i64 (cmpI n 0) := hC 2 (by simp)
  have e3 : vs 3 = .int .i64 (cmpI n 0) := hC 3 (by simp)
  have E : Fr w [(b1, 4, Fq.pair n d)] w2 := E2
  rw [lay_all hL]
  simp only [putAll, dstOf, List.length_cons, List.length_nil, Nat.zero_add, Nat.reduceAdd, List.getElem?_toArray, List.getElem?_cons_zero, List.getElem?_cons_succ, Option.bind_some, Act.put, List.setIfInBounds_toArray, List.set_cons_succ, List.set_cons_zero]
  rw [e0, e2, e3]
  generalize vs 1 = u2_1
  clear e0 e2 e3 hC hn E2 hL vs L nb
  go_wp2
  refine bodyPost_ret (v := .int .i64 (cmpI n 0)) ?_ rfl (by first | exact ⟨_, rfl, E.below, rfl⟩ | exact ⟨_, rfl, E.below⟩ | exact ⟨rfl, E.below⟩)
  simp [results, Tryz.results22, go_sem]

set_option maxRecDepth 100000 in
set_option maxHeartbeats 4000000 in
theorem exCmpQ {w : World} {v v' : Value} {a b : Rat} (h : Pair w v a.num a.den) (h' : Pair w v' b.num b.den) (ha : Rb a 1000) (hb : Rb b 1000) :
    Calls Tryz.prog 20 #[v, v'] w fun e w' => ∃ v', e = .returned v' ∧ Below w.heap.size w w' ∧ v' = .int .i64 (cmpQ a b) := by
  replace ha := hidd ha
  replace hb := hidd hb
  obtain ⟨n0, ao0, k0, c0, n0', ao0', k0', c0', rfl, _⟩ := ratV_pair h
  obtain ⟨n1, ao1, k1, c1, n1', ao1', k1', c1', rfl, _⟩ := ratV_pair h'
  obtain ⟨w1, b1, hw1, hb1, hs1, E⟩ := fr_start w (F := Fq.pair a.num (a.den : Int)) (us := [.bool n0, .slice ao0 k0 c0, .bool n0', .slice ao0' k0' c0']) 31 rfl (by simp) (tame_rat _ _ _ _ _ _ _ _) h
  obtain ⟨w2, b2, hw2, hb2, hs2, E⟩ := fr_more E hs1 (F := Fq.pair b.num (b.den : Int)) (us := [.bool n1, .slice ao1 k1 c1, .bool n1', .slice ao1' k1' c1']) 31 rfl (by simp) (tame_rat _ _ _ _ _ _ _ _) (h'.mono E.below)
  go_enter Tryz.func20, Tryz.ntmps20
  go_upto_region 1 with (fail)
  rw [← hw1]
  rw [← hw2]
  rw [← hb2]
  rw [← hb1]
  clear hw1 hw2 hb1 hb2 hs2 hs1
  have B3 : Hid (ab ((a.num * (b.den : Int))) < pw 2000) := ab_mulM ha.out.1 hb.out.2 (by omega)
  have B4 : Hid (ab ((b.num * (a.den : Int))) < pw 2000) := ab_mulM hb.out.1 ha.out.2 (by omega)
  refine region_fr (C := [Fq.is (.pointer (some ⟨b1, 0, none⟩)), Fq.num a.num, Fq.is (.pointer (some ⟨b2, 2, none⟩)), Fq.num (b.den : Int), Fq.num (a.num * (b.den : Int)), Fq.is (.pointer (some ⟨b2, 0, none⟩)), Fq.num b.num, Fq.is (.pointer (some ⟨b1, 2, none⟩)), Fq.num (a.den : Int), Fq.num (b.num * (a.den : Int)), Fq.is (.int .i64 (cmpI (a.num * (b.den : Int)) (b.num * (a.den : Int)))), Fq.is (.int .i64 (cmpI (a.num * (b.den : Int)) (b.num * (a.den : Int))))]) (ks := [none, none]) (new := []) E rfl (by kernel_rfl) rfl rfl (fun hp => ⟨?_, ?_, ?_, ?_, ?_, ?_, ?_, ?_, ?_, ?_, ?_, ?_, trivial⟩) ?_
  · exact q_addr (b := b1) (off := 0) (off' := 0) hp (free_of rfl) trivial (sq_out rfl rfl (fun _ _ => rfl)) (fun ρ w h => by simp [execOp, go_sem, h]) (fun _ => rfl)
  · exact q_loadInt (off := 0) hp (free_of rfl) trivial (List.mem_iff_getElem?.2 ⟨1, rfl⟩) (.inl rfl) (Nat.le_of_ble_eq_true rfl) (sq_in 0 rfl rfl (by simp) rfl (fun v w h => h)) (fun us w hl h => ld_pn hl h)
  · exact q_addr (b := b2) (off := 0) (off' := 2) hp (free_of rfl) trivial (sq_out rfl rfl (fun _ _ => rfl)) (fun ρ w h => by simp [execOp, go_sem, h]) (fun _ => rfl)
  · exact q_loadInt (off := 2) hp (free_of rfl) trivial (List.mem_iff_getElem?.2 ⟨0, rfl⟩) (.inl rfl) (Nat.le_of_ble_eq_true rfl) (sq_in 2 rfl rfl (by simp) rfl (fun v w h => h)) (fun us w hl h => ld_pd hl h)
  · exact q_call2 (F := (Fq.num a.num).P) (G := (Fq.num (b.den : Int)).P) hp (free_of rfl) trivial (enq_Mul) (sq_in 1 rfl rfl (by simp) rfl (fun v w h => h)) (sq_in 3 rfl rfl (by simp) rfl (fun v w h => h)) (fun v v' w h h' => exK (MulV h h') B3.out (by omega))
  · exact q_addr (b := b2) (off := 0) (off' := 0) hp (free_of rfl) trivial (sq_out rfl rfl (fun _ _ => rfl)) (fun ρ w h => by simp [execOp, go_sem, h]) (fun _ => rfl)
  · exact q_loadInt (off := 0) hp (free_of rfl) trivial (List.mem_iff_getElem?.2 ⟨0, rfl⟩) (.inl rfl) (Nat.le_of_ble_eq_true rfl) (sq_in 5 rfl rfl (by simp) rfl (fun v w h => h)) (fun us w hl h => ld_pn hl h)
  · exact q_addr (b := b1) (off := 0) (off' := 2) hp (free_of rfl) trivial (sq_out rfl rfl (fun _ _ => rfl)) (fun ρ w h => by simp [execOp, go_sem, h]) (fun _ => rfl)
  · exact q_loadInt (off := 2) hp (free_of rfl) trivial (List.mem_iff_getElem?.2 ⟨1, rfl⟩) (.inl rfl) (Nat.le_of_ble_eq_true rfl) (sq_in 7 rfl rfl (by simp) rfl (fun v w h => h)) (fun us w hl h => ld_pd hl h)
  · exact q_call2 (F := (Fq.num b.num).P) (G := (Fq.num (a.den : Int)).P) hp (free_of rfl) trivial (enq_Mul) (sq_in 6 rfl rfl (by simp) rfl (fun v w h => h)) (sq_in 8 rfl rfl (by simp) rfl (fun v w h => h)) (fun v v' w h h' => exK (MulV h h') B4.out (by omega))
  · exact q_call2 (F := (Fq.num (a.num * (b.den : Int))).P) (G := (Fq.num (b.num * (a.den : Int))).P) hp (free_of rfl) trivial (enq_Cmp) (sq_in 4 rfl rfl (by simp) rfl (fun v w h => h)) (sq_in 9 rfl rfl (by simp) rfl (fun v w h => h)) (fun v v' w h h' => exCmp h h')
  · exact q_assign hp (free_of rfl) trivial (sq_in 10 rfl rfl (by simp) rfl (fun v w h => h))
  intro L vs w5 nb hL hC hn E5
  have e0 : vs 0 = .pointer (some ⟨b1, 0, none⟩) := hC 0 (by simp)
  have e2 : vs 2 = .pointer (some ⟨b2, 2, none⟩) := hC 2 (by simp)
  have e5 : vs 5 = .pointer (some ⟨b2, 0, none⟩) := hC 5 (by simp)
  have e7 : vs 7 = .pointer (some ⟨b1, 2, none⟩) := hC 7 (by simp)
  have e10 : vs 10 = .int .i64 (cmpI (a.num * (b.den : Int)) (b.num * (a.den : Int))) := hC 10 (by simp)
  have e11 : vs 11 = .int .i64 (cmpI (a.num * (b.den : Int)) (b.num * (a.den : Int))) := hC 11 (by simp)
  have E : Fr w [(b2, 4, Fq.pair b.num (b.den : Int)), (b1, 4, Fq.pair a.num (a.den : Int))] w5 := E5
  rw [lay_all hL]
  simp only [putAll, dstOf, List.length_cons, List.length_nil, Nat.zero_add, Nat.reduceAdd, List.getElem?_toArray, List.getElem?_cons_zero, List.getElem?_cons_succ, Option.bind_some, Act.put, List.setIfInBounds_toArray, List.set_cons_succ, List.set_cons_zero]
  rw [e0, e2, e5, e7, e10, e11]
  generalize vs 1 = u5_1
  generalize vs 3 = u5_3
  generalize vs 4 = u5_4
  generalize vs 6 = u5_6
  generalize vs 8 = u5_8
  generalize vs 9 = u5_9
  clear e0 e2 e5 e7 e10 e11 hC hn E5 hL vs L nb
  clear B3 B4 ha hb
  go_wp2
  refine bodyPost_ret (v := .int .i64 (cmpQ a b)) ?_ rfl (by first | exact ⟨_, rfl, E.below, rfl⟩ | exact ⟨_, rfl, E.below⟩ | exact ⟨rfl, E.below⟩)
  simp [results, Tryz.results20, go_sem, cmpQ]

set_option maxRecDepth 100000 in
set_option maxHeartbeats 4000000 in
theorem exFloorQ {w : World} {v : Value} {a : Rat} (h : Pair w v a.num a.den) (ha : Rb a 1000) :
    Calls Tryz.prog 25 #[v] w fun e w' => ∃ v', e = .returned v' ∧ Below w.heap.size w w' ∧ Num w' v' a.floor := by
  replace ha := hidd ha
  obtain ⟨n0, ao0, k0, c0, n0', ao0', k0', c0', rfl, _⟩ := ratV_pair h
  obtain ⟨w1, b1, hw1, hb1, hs1, E⟩ := fr_start w (F := Fq.pair a.num (a.den : Int)) (us := [.bool n0, .slice ao0 k0 c0, .bool n0', .slice ao0' k0' c0']) 31 rfl (by simp) (tame_rat _ _ _ _ _ _ _ _) h
  obtain ⟨w2, b2, hw2, hb2, hs2, E⟩ := fr_more E hs1 (F := Fq.num 0) (us := [.bool false, .slice none 0 0]) 29 rfl (by simp) (tame_int _ _ _ _) (Num.zero _)
  go_enter Tryz.func25, Tryz.ntmps25
  go_upto_region 1 with (fail)
  rw [← hw1]
  rw [← hw2]
  rw [← hb2]
  rw [← hb1]
  clear hw1 hw2 hb1 hb2 hs2 hs1
  have B3 : Hid (ab ((a.num / (a.den : Int))) < pw 1001) := ab_divB ha.out.1 (by omega)
  refine region_fr (C := [Fq.is (.pointer (some ⟨b1, 0, none⟩)), Fq.num a.num, Fq.is (.pointer (some ⟨b1, 2, none⟩)), Fq.num (a.den : Int), Fq.num (a.num / (a.den : Int)), Fq.any]) (ks := [some (5, Fq.num (a.num / (a.den : Int))), none]) (new := []) E rfl (by kernel_rfl) rfl rfl (fun hp => ⟨?_, ?_, ?_, ?_, ?_, ?_, trivial⟩) ?_
  · exact q_addr (b := b1) (off := 0) (off' := 0) hp (free_of rfl) trivial (sq_out rfl rfl (fun _ _ => rfl)) (fun ρ w h => by simp [execOp, go_sem, h]) (fun _ => rfl)
  · exact q_loadInt (off := 0) hp (free_of rfl) trivial (List.mem_iff_getElem?.2 ⟨1, rfl⟩) (.inl rfl) (Nat.le_of_ble_eq_true rfl) (sq_in 0 rfl rfl (by simp) rfl (fun v w h => h)) (fun us w hl h => ld_pn hl h)
  · exact q_addr (b := b1) (off := 0) (off' := 2) hp (free_of rfl) trivial (sq_out rfl rfl (fun _ _ => rfl)) (fun ρ w h => by simp [execOp, go_sem, h]) (fun _ => rfl)
  · exact q_loadInt (off := 2) hp (free_of rfl) trivial (List.mem_iff_getElem?.2 ⟨1, rfl⟩) (.inl rfl) (Nat.le_of_ble_eq_true rfl) (sq_in 2 rfl rfl (by simp) rfl (fun v w h => h)) (fun us w hl h => ld_pd hl h)
  · exact q_call2 (F := (Fq.num a.num).P) (G := (Fq.num (a.den : Int)).P) hp (free_of rfl) trivial (enq_Q_quotient) (sq_in 1 rfl rfl (by simp) rfl (fun v w h => h)) (sq_in 3 rfl rfl (by simp) rfl (fun v w h => h)) (fun v v' w h h' => exQuot h h' (den_ne a) ha.out.1 ha.out.2 (by omega) (by omega))
  · exact q_storeOldInt hp (List.mem_iff_getElem?.2 ⟨0, rfl⟩) rfl rfl (sq_out rfl rfl (fun _ _ => rfl)) (sq_in 4 rfl rfl (by simp) rfl (fun v w h => intV_num h)) (fun _ _ => trivial) (newik_ne rfl)
  intro L vs w4 nb hL hC hn E4
  have e0 : vs 0 = .pointer (some ⟨b1, 0, none⟩) := hC 0 (by simp)
  have e2 : vs 2 = .pointer (some ⟨b1, 2, none⟩) := hC 2 (by simp)
  have E : Fr w [(b2, 2, Fq.num (a.num / (a.den : Int))), (b1, 4, Fq.pair a.num (a.den : Int))] w4 := E4
  rw [lay_all hL]
  simp only [putAll, dstOf, List.length_cons, List.length_nil, Nat.zero_add, Nat.reduceAdd, List.getElem?_toArray, List.getElem?_cons_zero, List.getElem?_cons_succ, Option.bind_some, Act.put, List.setIfInBounds_toArray, List.set_cons_succ, List.set_cons_zero]
  rw [e0, e2]
  generalize vs 1 = u4_1
  generalize vs 3 = u4_3
  generalize vs 4 = u4_4
  clear e0 e2 hC hn E4 hL vs L nb
  obtain ⟨p0, p1, c0, c1, hP⟩ := box_num (E.box 0 rfl)
  clear B3 ha
  go_wp2
  refine bodyPost_ret (v := .agg #[p0, p1]) ?_ rfl ⟨_, rfl, E.below, by rw [Rat.floor_def]; exact hP⟩
  simp [results, Tryz.results25, go_sem, c0, c1]

end Go.Proofs.YtoimphnhmpmipaaGreat

/- Walks: the reference's Gcd; its package of fractions. -/
namespace Go.Proofs.YtoimphnhmpmipaaGreat
open Go Go.RowKit

/-- A sign and words. -/
def Fq.raw (n : Bool) (a : Option Addr) (k c : Nat) (xs : List Int) : Fq := ⟨fun v w => v = .agg #[.bool n, .slice a k c] ∧ Sl w a k c xs, fun h hb => ⟨h.1, h.2.mono hb⟩, fun h ha ht hl => ⟨h.1, h.2.putAt ha ht hl⟩⟩
/-- Two signs and words. -/
def Fq.raw2 (n : Bool) (a : Option Addr) (k c : Nat) (xs : List Int) (n' : Bool) (a' : Option Addr) (k' c' : Nat) (xs' : List Int) : Fq :=
  ⟨fun v w => v = .agg #[.bool n, .slice a k c, .bool n', .slice a' k' c'] ∧ Sl w a k c xs ∧ Sl w a' k' c' xs', fun h hb => ⟨h.1, h.2.1.mono hb, h.2.2.mono hb⟩, fun h ha ht hl => ⟨h.1, h.2.1.putAt ha ht hl, h.2.2.putAt ha ht hl⟩⟩

section
variable {n n' : Bool} {a a' : Option Addr} {k c k' c' : Nat} {xs xs' : List Int}
theorem ld_raw1 {us : List Value} {w : World} (hl : us.length = 4) (h : (Fq.raw2 n a k c xs n' a' k' c' xs').P (.agg us.toArray) w) : (Fq.raw n a k c xs).P (.agg #[us.getD 0 undef, us.getD (0 + 1) undef]) w := by
  match us, hl with
  | [p, q, r, s], _ =>
    obtain ⟨e, h1, h2⟩ := h
    injection e with e
    have e2 := congrArg Array.toList e
    simp at e2
    obtain ⟨rfl, rfl, rfl, rfl⟩ := e2
    exact ⟨rfl, h1⟩
theorem ld_raw2 {us : List Value} {w : World} (hl : us.length = 4) (h : (Fq.raw2 n a k c xs n' a' k' c' xs').P (.agg us.toArray) w) : (Fq.raw n' a' k' c' xs').P (.agg #[us.getD 2 undef, us.getD (2 + 1) undef]) w := by
  match us, hl with
  | [p, q, r, s], _ =>
    obtain ⟨e, h1, h2⟩ := h
    injection e with e
    have e2 := congrArg Array.toList e
    simp at e2
    obtain ⟨rfl, rfl, rfl, rfl⟩ := e2
    exact ⟨rfl, h2⟩
end

section
variable {os : List Oper} {Q : Exit → Act → World → Prop} {a : Act} {p : Pq} {B B0 : Nat} {w0 : World}
variable {i s : Nat} {d : Option Tmp} {ty : TypeId} {ps : String} {af : Array Edge} {gd : Option (Nat × Bool)}
theorem q_loadRaw {o : Ob} {off : Nat} {x : Operand} (hp : p.Ok B B0) (hF : p.Free i) (hg : GdQ os a p B B0 w0 af gd) (ho : o ∈ p.old) (hk : o.F1 = o.F0 ∨ leadsB os 9 o.k i = true) (hoff : off + 2 ≤ o.m)
    (hx : SrcQ os a p B B0 w0 af x fun u _ => u = .pointer (some ⟨o.b, off, none⟩)) (hC : ∀ (us : List Value) (w : World), us.length = o.m → o.F0.P (.agg us.toArray) w → (p.c i).P (.agg #[us.getD off undef, us.getD (off + 1) undef]) w) :
    StepQ os Q a p B B0 w0 i { dst := d, op := .load 24 x, type := ty, pos := ps, after := af, guard := gd } := by
  refine stq_val hp hF hg fun L vs w hG hL hc hd => ?_
  obtain ⟨us, hl, h0, hat, ht, hP⟩ := box_now ho hk hG hL hc
  have e := hx L vs w hG hd
  have c0 := (hat off (by omega)).1
  have c1 := (hat (off + 1) (by omega)).1
  refine ⟨_, ?_, hC us w hl hP⟩
  generalize (lay os.toArray L vs os.toArray.size a).eval = ρ at e
  generalize us.getD off undef = u0 at c0 ⊢
  generalize us.getD (off + 1) undef = u1 at c1 ⊢
  simp [execOp, go_sem, e, c0, c1]
end

theorem exRMade {w : World} {v v' : Value} {n : Bool} {a : Option Addr} {k c : Nat} {xs : List Int} {j : Nat} (h : (Fq.raw n a k c xs).P v w) (h' : v' = .int .i64 j) (hk : k ≤ 9223372036854775807) (hj : j ≤ 900000) :
    Calls Tryz.prog 55 #[v, v'] w fun e w' => ∃ v', e = .returned v' ∧ Below w.heap.size w w' ∧ Num w' v' (sgn n (val (xs.take j))) := by
  obtain ⟨rfl, hs⟩ := h
  subst h'
  exact exK (Made_any _ _ _ _ _ _ hs hk j hj) (Num.ofMade hs.digs) hj

set_option maxRecDepth 100000 in
set_option maxHeartbeats 4000000 in
theorem exRGcd {w : World} {v v' : Value} {a b : Int} (h : Num w v a) (h' : Num w v' b) (ha : ab a < pw 900) (hb : ab b < pw 900) :
    Calls Tryz.prog 62 #[v, v'] w fun e w' => ∃ v', e = .returned v' ∧ Below w.heap.size w w' ∧ Num w' v' (Int.gcd a b : Int) := by
  replace ha := hidd ha
  replace hb := hidd hb
  obtain ⟨n0, ao0, k0, c0, rfl⟩ := h.parts
  obtain ⟨n1, ao1, k1, c1, rfl⟩ := h'.parts
  obtain ⟨w1, b1, hw1, hb1, hs1, E⟩ := fr_start w (F := Fq.num a) (us := [.bool n0, .slice ao0 k0 c0]) 29 rfl (by simp) (tame_int _ _ _ _) h
  obtain ⟨w2, b2, hw2, hb2, hs2, E⟩ := fr_more E hs1 (F := Fq.num b) (us := [.bool n1, .slice ao1 k1 c1]) 29 rfl (by simp) (tame_int _ _ _ _) (h'.mono E.below)
  obtain ⟨w3, b3, hw3, hb3, hs3, E⟩ := fr_more E hs2 (F := Fq.num 0) (us := [.bool false, .slice none 0 0]) 29 rfl (by simp) (tame_int _ _ _ _) (Num.zero _)
  go_enter Tryz.func62, Tryz.ntmps62
  go_upto_region 1 with (fail)
  rw [← hw1]
  rw [← hw2]
  rw [← hw3]
  rw [← hb3]
  rw [← hb2]
  rw [← hb1]
  clear hw1 hw2 hw3 hb1 hb2 hb3 hs3 hs1 hs2
  have B4 : Hid (ab ((Int.natAbs a : Int)) < pw 900) := ab_absB ha.out
  refine region_fr (C := [Fq.num a, Fq.num (Int.natAbs a : Int), Fq.any]) (ks := [none, none, some (2, Fq.num (Int.natAbs a : Int))]) (new := []) E rfl (by kernel_rfl) rfl rfl (fun hp => ⟨?_, ?_, ?_, trivial⟩) ?_
  · exact q_loadInt (off := 0) hp (free_of rfl) trivial (List.mem_iff_getElem?.2 ⟨2, rfl⟩) (.inr rfl) (Nat.le_of_ble_eq_true rfl) (sq_out rfl rfl (fun _ _ => rfl)) (fun us w hl h => ld_num hl h)
  · exact q_call1 (F := (Fq.num a).P) hp (free_of rfl) trivial (enq_R_Abs) (sq_in 0 rfl rfl (by simp) rfl (fun v w h => h)) (fun v w h => exK (RAbsV h) B4.out (by omega))
  · exact q_storeOldInt hp (List.mem_iff_getElem?.2 ⟨2, rfl⟩) rfl rfl (sq_out rfl rfl (fun _ _ => rfl)) (sq_in 1 rfl rfl (by simp) rfl (fun v w h => intV_num h)) (fun _ _ => trivial) (newik_ne rfl)
  intro L vs w5 nb hL hC hn E5
  have E : Fr w [(b3, 2, Fq.num 0), (b2, 2, Fq.num b), (b1, 2, Fq.num (Int.natAbs a : Int))] w5 := E5
  rw [lay_all hL]
  simp only [putAll, dstOf, List.length_cons, List.length_nil, Nat.zero_add, Nat.reduceAdd, List.getElem?_toArray, List.getElem?_cons_zero, List.getElem?_cons_succ, Option.bind_some, Act.put, List.setIfInBounds_toArray, List.set_cons_succ, List.set_cons_zero]
  generalize vs 0 = u5_0
  generalize vs 1 = u5_1
  clear  hC hn E5 hL vs L nb
  go_upto_region 2 with (fail)
  have B6 : Hid (ab ((Int.natAbs b : Int)) < pw 900) := ab_absB hb.out
  refine region_fr (C := [Fq.num b, Fq.num (Int.natAbs b : Int), Fq.any]) (ks := [none, some (2, Fq.num (Int.natAbs b : Int)), none]) (new := []) E rfl (by kernel_rfl) rfl rfl (fun hp => ⟨?_, ?_, ?_, trivial⟩) ?_
  · exact q_loadInt (off := 0) hp (free_of rfl) trivial (List.mem_iff_getElem?.2 ⟨1, rfl⟩) (.inr rfl) (Nat.le_of_ble_eq_true rfl) (sq_out rfl rfl (fun _ _ => rfl)) (fun us w hl h => ld_num hl h)
  · exact q_call1 (F := (Fq.num b).P) hp (free_of rfl) trivial (enq_R_Abs) (sq_in 0 rfl rfl (by simp) rfl (fun v w h => h)) (fun v w h => exK (RAbsV h) B6.out (by omega))
  · exact q_storeOldInt hp (List.mem_iff_getElem?.2 ⟨1, rfl⟩) rfl rfl (sq_out rfl rfl (fun _ _ => rfl)) (sq_in 1 rfl rfl (by simp) rfl (fun v w h => intV_num h)) (fun _ _ => trivial) (newik_ne rfl)
  intro L vs w7 nb hL hC hn E7
  have E : Fr w [(b3, 2, Fq.num 0), (b2, 2, Fq.num (Int.natAbs b : Int)), (b1, 2, Fq.num (Int.natAbs a : Int))] w7 := E7
  rw [lay_all hL]
  simp only [putAll, dstOf, List.length_cons, List.length_nil, Nat.zero_add, Nat.reduceAdd, List.getElem?_toArray, List.getElem?_cons_zero, List.getElem?_cons_succ, Option.bind_some, Act.put, List.setIfInBounds_toArray, List.set_cons_succ, List.set_cons_zero]
  generalize vs 0 = u7_0
  generalize vs 1 = u7_1
  clear  hC hn E7 hL vs L nb
  have HS := hidd E
  go_upto_region 3 with (fail)
  go_loopw [5] (fun _ W => ∃ x y : Int, 0 ≤ x ∧ 0 ≤ y ∧ Hid (ab x < pw 900 ∧ ab y < pw 900 ∧ Int.gcd x y = Int.gcd a b) ∧ Fr w [(b3, 2, Fq.num 0), (b2, 2, Fq.num y), (b1, 2, Fq.num x)] W) (fun _ W => boxVal W b2)
  case atStart => exact ⟨_, _, Int.natCast_nonneg _, Int.natCast_nonneg _, ⟨ab_absB ha.out, ab_absB hb.out, by rw [Int.gcd_eq_natAbs_gcd_natAbs, Int.gcd_eq_natAbs_gcd_natAbs, Int.natAbs_natCast, Int.natAbs_natCast]⟩, HS.out⟩
  case round =>
    obtain ⟨x, y, hx0, hy0, HI, E⟩ := hrel
    have HX := hidd hx0
    have HY := hidd hy0
    clear hx0 hy0 HS
    obtain ⟨n2, ao2, k2, c2, ⟨d0, d1, _, _⟩, hN2⟩ := bq_box (E.box 1 rfl)
    have hz := hN2.len_zero.1
    by_cases hy : y = 0
    · obtain rfl := hz.2 hy
      subst hy
      clear hz hN2
      go_upto_region 7 with (fail)
      refine region_fr (C := [Fq.num x, Fq.any]) (ks := [some (1, Fq.num x), none, none]) (new := []) E rfl (by kernel_rfl) rfl rfl (fun hp => ⟨?_, ?_, trivial⟩) ?_
      · exact q_loadInt (off := 0) hp (free_of rfl) trivial (List.mem_iff_getElem?.2 ⟨2, rfl⟩) (.inl rfl) (Nat.le_of_ble_eq_true rfl) (sq_out rfl rfl (fun _ _ => rfl)) (fun us w hl h => ld_num hl h)
      · exact q_storeOldInt hp (List.mem_iff_getElem?.2 ⟨0, rfl⟩) rfl rfl (sq_out rfl rfl (fun _ _ => rfl)) (sq_in 0 rfl rfl (by simp) rfl (fun v w h => intV_num h)) (fun _ _ => trivial) (newik_ne rfl)
      intro L vs w8 nb hL hC hn E8
      have E : Fr w [(b3, 2, Fq.num x), (b2, 2, Fq.num 0), (b1, 2, Fq.num x)] w8 := E8
      rw [lay_all hL]
      simp only [putAll, dstOf, List.length_cons, List.length_nil, Nat.zero_add, Nat.reduceAdd, List.getElem?_toArray, List.getElem?_cons_zero, List.getElem?_cons_succ, Option.bind_some, Act.put, List.setIfInBounds_toArray, List.set_cons_succ, List.set_cons_zero]
      generalize vs 0 = u8_0
      clear  hC hn E8 hL vs L nb
      obtain ⟨p0, p1, c0, c1, hP⟩ := box_num (E.box 0 rfl)
      clear d0 d1
      have hg : x = (Int.gcd a b : Int) := by rw [← HI.out.2.2, Int.gcd_zero]; have := HX.out; omega
      have HG := hidd hg
      clear hg ha hb
      go_wp2
      refine bodyPost_ret (v := .agg #[p0, p1]) ?_ rfl ⟨_, rfl, E.below, by rw [← HG.out]; exact hP⟩
      simp [results, Tryz.results62, go_sem, c0, c1]
    · have hk2 : 0 < k2 := by have := mt hz.1 hy; omega
      have HNZ := hidd hy
      clear hy hz hN2
      have HBV := hidd (boxVal_eq (bq_box (E.box 1 rfl)))
      go_upto_region 4 with (fail)
      have B9 : Hid (ab ((x % y)) < pw 900) := ab_modB HNZ.out HI.out.2.1
      refine region_fr (C := [Fq.num x, Fq.num y, Fq.num (x % y), Fq.any, Fq.any]) (ks := [none, none, none]) (new := [⟨3, 4, 2, Fq.num 0, Fq.num (x % y), none⟩]) E rfl (by kernel_rfl) rfl rfl (fun hp => ⟨?_, ?_, ?_, ?_, ?_, trivial⟩) ?_
      · exact q_loadInt (off := 0) hp (free_of rfl) trivial (List.mem_iff_getElem?.2 ⟨2, rfl⟩) (.inl rfl) (Nat.le_of_ble_eq_true rfl) (sq_out rfl rfl (fun _ _ => rfl)) (fun us w hl h => ld_num hl h)
      · exact q_loadInt (off := 0) hp (free_of rfl) trivial (List.mem_iff_getElem?.2 ⟨1, rfl⟩) (.inl rfl) (Nat.le_of_ble_eq_true rfl) (sq_out rfl rfl (fun _ _ => rfl)) (fun us w hl h => ld_num hl h)
      · exact q_call2 (F := (Fq.num x).P) (G := (Fq.num y).P) hp (free_of rfl) trivial (enq_R_Mod) (sq_in 0 rfl rfl (by simp) rfl (fun v w h => h)) (sq_in 1 rfl rfl (by simp) rfl (fun v w h => h)) (fun v v' w h h' => exRMod h h' HNZ.out (Int.lt_of_lt_of_le HI.out.1 (pw_le (by omega))) (Int.lt_of_lt_of_le HI.out.2.1 (pw_le (by omega))))
      · exact q_allocInt hp (List.mem_iff_getElem?.2 ⟨0, rfl⟩) rfl rfl rfl rfl (Nat.ne_of_beq_eq_false rfl) (fun _ _ => trivial) (old_ne rfl) (newk_ne rfl) (fun w => Num.zero w)
      · exact q_storeNewInt hp (List.mem_iff_getElem?.2 ⟨0, rfl⟩) rfl rfl rfl (own_ptr rfl rfl (by simp) rfl) (sq_in 2 rfl rfl (by simp) rfl (fun v w h => intV_num h)) (fun _ _ => trivial) (old_ne rfl) (newi_ne rfl)
      intro L vs w10 nb hL hC hn E10
      have e3 : vs 3 = .pointer (some ⟨nb 3, 0, none⟩) := hn _ (List.mem_iff_getElem?.2 ⟨0, rfl⟩)
      have E : Fr w [(nb 3, 2, Fq.num (x % y)), (b3, 2, Fq.num 0), (b2, 2, Fq.num y), (b1, 2, Fq.num x)] w10 := E10
      rw [lay_all hL]
      simp only [putAll, dstOf, List.length_cons, List.length_nil, Nat.zero_add, Nat.reduceAdd, List.getElem?_toArray, List.getElem?_cons_zero, List.getElem?_cons_succ, Option.bind_some, Act.put, List.setIfInBounds_toArray, List.set_cons_succ, List.set_cons_zero]
      rw [e3]
      generalize nb 3 = b10_3 at E ⊢
      generalize vs 0 = u10_0
      generalize vs 1 = u10_1
      generalize vs 2 = u10_2
      clear e3 hC hn E10 hL vs L nb
      clear d0 d1
      go_upto_region 5 with (fail)
      refine region_fr (C := [Fq.num y, Fq.any]) (ks := [none, none, none, some (1, Fq.num y)]) (new := []) E rfl (by kernel_rfl) rfl rfl (fun hp => ⟨?_, ?_, trivial⟩) ?_
      · exact q_loadInt (off := 0) hp (free_of rfl) trivial (List.mem_iff_getElem?.2 ⟨2, rfl⟩) (.inl rfl) (Nat.le_of_ble_eq_true rfl) (sq_out rfl rfl (fun _ _ => rfl)) (fun us w hl h => ld_num hl h)
      · exact q_storeOldInt hp (List.mem_iff_getElem?.2 ⟨3, rfl⟩) rfl rfl (sq_out rfl rfl (fun _ _ => rfl)) (sq_in 0 rfl rfl (by simp) rfl (fun v w h => intV_num h)) (fun _ _ => trivial) (newik_ne rfl)
      intro L vs w11 nb hL hC hn E11
      have E : Fr w [(b10_3, 2, Fq.num (x % y)), (b3, 2, Fq.num 0), (b2, 2, Fq.num y), (b1, 2, Fq.num y)] w11 := E11
      rw [lay_all hL]
      simp only [putAll, dstOf, List.length_cons, List.length_nil, Nat.zero_add, Nat.reduceAdd, List.getElem?_toArray, List.getElem?_cons_zero, List.getElem?_cons_succ, Option.bind_some, Act.put, List.setIfInBounds_toArray, List.set_cons_succ, List.set_cons_zero]
      generalize vs 0 = u11_0
      clear  hC hn E11 hL vs L nb
      go_upto_region 6 with (fail)
      refine region_fr (C := [Fq.num (x % y), Fq.any]) (ks := [none, none, some (1, Fq.num (x % y)), none]) (new := []) E rfl (by kernel_rfl) rfl rfl (fun hp => ⟨?_, ?_, trivial⟩) ?_
      · exact q_loadInt (off := 0) hp (free_of rfl) trivial (List.mem_iff_getElem?.2 ⟨0, rfl⟩) (.inl rfl) (Nat.le_of_ble_eq_true rfl) (sq_out rfl rfl (fun _ _ => rfl)) (fun us w hl h => ld_num hl h)
      · exact q_storeOldInt hp (List.mem_iff_getElem?.2 ⟨2, rfl⟩) rfl rfl (sq_out rfl rfl (fun _ _ => rfl)) (sq_in 0 rfl rfl (by simp) rfl (fun v w h => intV_num h)) (fun _ _ => trivial) (newik_ne rfl)
      intro L vs w12 nb hL hC hn E12
      have E : Fr w [(b10_3, 2, Fq.num (x % y)), (b3, 2, Fq.num 0), (b2, 2, Fq.num (x % y)), (b1, 2, Fq.num y)] w12 := E12
      rw [lay_all hL]
      simp only [putAll, dstOf, List.length_cons, List.length_nil, Nat.zero_add, Nat.reduceAdd, List.getElem?_toArray, List.getElem?_cons_zero, List.getElem?_cons_succ, Option.bind_some, Act.put, List.setIfInBounds_toArray, List.set_cons_succ, List.set_cons_zero]
      generalize vs 0 = u12_0
      clear  hC hn E12 hL vs L nb
      go_roundw
      case rel => exact ⟨_, _, _, _, _, _, _, _, _, _, ⟨y, x % y, HY.out, Int.emod_nonneg _ HNZ.out, ⟨HI.out.2.1, ab_modB HNZ.out HI.out.2.1, by rw [gcd_stepQ]; exact HI.out.2.2⟩, E.drop⟩, rfl⟩
      case measure => rw [boxVal_eq (bq_box (E.box 2 rfl)), HBV.out]; have h1 := Int.emod_nonneg x HNZ.out; have h2 := Int.emod_lt_of_pos x (show 0 < y by have := HNZ.out; have := HY.out; omega); omega

set_option maxRecDepth 100000 in
set_option maxHeartbeats 4000000 in
theorem exSNew {w : World} {v v' : Value} {n d : Int} (h : Num w v n) (h' : Num w v' d) (hn : ab n < pw 800) (hd : ab d < pw 800) :
    Calls Tryz.prog 12 #[v, v'] w fun e w' => ∃ v', e = .returned v' ∧ Below w.heap.size w w' ∧ (if d = 0 then Fq.tup2 (Fq.pair 0 0) (Fq.is (.int .i64 4)) else Fq.tup2 (Fq.pair (Rat.divInt n d).num ((Rat.divInt n d).den : Int)) (Fq.is (.int .i64 0))).P v' w' := by
  replace hn := hidd hn
  replace hd := hidd hd
  obtain ⟨n0, ao0, k0, c0, rfl⟩ := h.parts
  obtain ⟨n1, ao1, k1, c1, rfl⟩ := h'.parts
  obtain ⟨w1, b1, hw1, hb1, hs1, E⟩ := fr_start w (F := Fq.num n) (us := [.bool n0, .slice ao0 k0 c0]) 29 rfl (by simp) (tame_int _ _ _ _) h
  obtain ⟨w2, b2, hw2, hb2, hs2, E⟩ := fr_more E hs1 (F := Fq.num d) (us := [.bool n1, .slice ao1 k1 c1]) 29 rfl (by simp) (tame_int _ _ _ _) (h'.mono E.below)
  obtain ⟨w3, b3, hw3, hb3, hs3, E⟩ := fr_more E hs2 (F := Fq.pair 0 0) (us := [.bool false, .slice none 0 0, .bool false, .slice none 0 0]) 31 rfl (by simp) (tame_rat _ _ _ _ _ _ _ _) (Pair.zero _)
  go_enter Tryz.func12, Tryz.ntmps12
  go_upto_region 1 with (fail)
  rw [← hw1]
  rw [← hw2]
  rw [← hw3]
  rw [← hb3]
  rw [← hb2]
  rw [← hb1]
  clear hw1 hw2 hw3 hb1 hb2 hb3 hs3 hs1 hs2
  by_cases h0 : d = 0
  · subst h0
    refine region_fr (C := [Fq.num 0, Fq.is (.int .i64 (cmpI 0 0)), Fq.is (.bool true)]) (ks := [none, none, none]) (new := []) E rfl (by kernel_rfl) rfl rfl (fun hp => ⟨?_, ?_, ?_, trivial⟩) ?_
    · exact q_loadInt (off := 0) hp (free_of rfl) trivial (List.mem_iff_getElem?.2 ⟨1, rfl⟩) (.inl rfl) (Nat.le_of_ble_eq_true rfl) (sq_out rfl rfl (fun _ _ => rfl)) (fun us w hl h => ld_num hl h)
    · exact q_call1 (F := (Fq.num 0).P) hp (free_of rfl) trivial (enq_R_Sign) (sq_in 0 rfl rfl (by simp) rfl (fun v w h => h)) (fun v w h => exRSign h)
    · exact q_one (F := fun v _ => v = .int .i64 (cmpI 0 0)) hp (free_of rfl) trivial (sq_in 1 rfl rfl (by simp) rfl (fun v w h => h)) (fun ρ w hc h => ⟨.bool true, by simp [execOp, go_sem, h, hc, cmpI], rfl⟩)
    intro L vs w4 nb hL hC hn E4
    have e1 : vs 1 = .int .i64 (cmpI 0 0) := hC 1 (by simp)
    have e2 : vs 2 = .bool true := hC 2 (by simp)
    have E : Fr w [(b3, 4, Fq.pair 0 0), (b2, 2, Fq.num 0), (b1, 2, Fq.num n)] w4 := E4
    rw [lay_all hL]
    simp only [putAll, dstOf, List.length_cons, List.length_nil, Nat.zero_add, Nat.reduceAdd, List.getElem?_toArray, List.getElem?_cons_zero, List.getElem?_cons_succ, Option.bind_some, Act.put, List.setIfInBounds_toArray, List.set_cons_succ, List.set_cons_zero]
    rw [e1, e2]
    generalize vs 0 = u4_0
    clear e1 e2 hC hn E4 hL vs L nb
    go_upto_region 2 with (fail)
    refine region_fr (C := [Fq.pair 0 0, Fq.any, Fq.is (.int .i64 4)]) (ks := [some (1, Fq.pair 0 0), none, none]) (new := []) E rfl (by kernel_rfl) rfl rfl (fun hp => ⟨?_, ?_, ?_, trivial⟩) ?_
    · exact q_zeroRat hp (free_of rfl) trivial (fun v w h => h)
    · exact q_storeOldRat hp (List.mem_iff_getElem?.2 ⟨0, rfl⟩) rfl rfl (sq_out rfl rfl (fun _ _ => rfl)) (sq_in 0 rfl rfl (by simp) rfl (fun v w h => ratV_pair h)) (fun _ _ => trivial) (newik_ne rfl)
    · exact q_assign hp (free_of rfl) trivial (sq_const (fun _ => rfl))
    intro L vs w5 nb hL hC hn E5
    have e2 : vs 2 = .int .i64 4 := hC 2 (by simp)
    have E : Fr w [(b3, 4, Fq.pair 0 0), (b2, 2, Fq.num 0), (b1, 2, Fq.num n)] w5 := E5
    rw [lay_all hL]
    simp only [putAll, dstOf, List.length_cons, List.length_nil, Nat.zero_add, Nat.reduceAdd, List.getElem?_toArray, List.getElem?_cons_zero, List.getElem?_cons_succ, Option.bind_some, Act.put, List.setIfInBounds_toArray, List.set_cons_succ, List.set_cons_zero]
    rw [e2]
    generalize vs 0 = u5_0
    clear e2 hC hn E5 hL vs L nb
    obtain ⟨p0, p1, p2, p3, c0, c1, c2, c3, hP⟩ := box_pair (E.box 0 rfl)
    clear hn hd
    go_wp2
    refine bodyPost_ret (v := .tuple #[.agg #[p0, p1, p2, p3], .int .i64 4]) ?_ rfl ⟨_, rfl, E.below, by first | exact ⟨_, _, rfl, hP, rfl⟩ | (rw [if_pos rfl]; exact ⟨_, _, rfl, hP, rfl⟩)⟩
    simp [results, Tryz.results12, go_sem, c0, c1, c2, c3]
  · have T1 : Hid (¬ cmpI d 0 = 0) := fun e => h0 (cmpIq0.1 e)
    have hgp : (0 : Int) < (Int.gcd n d : Int) := by have := Int.gcd_pos_of_ne_zero_right n h0; omega
    refine region_fr (C := [Fq.num d, Fq.is (.int .i64 (cmpI d 0)), Fq.is (.bool false)]) (ks := [none, none, none]) (new := []) E rfl (by kernel_rfl) rfl rfl (fun hp => ⟨?_, ?_, ?_, trivial⟩) ?_
    · exact q_loadInt (off := 0) hp (free_of rfl) trivial (List.mem_iff_getElem?.2 ⟨1, rfl⟩) (.inl rfl) (Nat.le_of_ble_eq_true rfl) (sq_out rfl rfl (fun _ _ => rfl)) (fun us w hl h => ld_num hl h)
    · exact q_call1 (F := (Fq.num d).P) hp (free_of rfl) trivial (enq_R_Sign) (sq_in 0 rfl rfl (by simp) rfl (fun v w h => h)) (fun v w h => exRSign h)
    · exact q_one (F := fun v _ => v = .int .i64 (cmpI d 0)) hp (free_of rfl) trivial (sq_in 1 rfl rfl (by simp) rfl (fun v w h => h)) (fun ρ w hc h => ⟨.bool false, by simp [execOp, go_sem, h, hc, T1.out], rfl⟩)
    intro L vs w6 nb hL hC hn E6
    have e1 : vs 1 = .int .i64 (cmpI d 0) := hC 1 (by simp)
    have e2 : vs 2 = .bool false := hC 2 (by simp)
    have E : Fr w [(b3, 4, Fq.pair 0 0), (b2, 2, Fq.num d), (b1, 2, Fq.num n)] w6 := E6
    rw [lay_all hL]
    simp only [putAll, dstOf, List.length_cons, List.length_nil, Nat.zero_add, Nat.reduceAdd, List.getElem?_toArray, List.getElem?_cons_zero, List.getElem?_cons_succ, Option.bind_some, Act.put, List.setIfInBounds_toArray, List.set_cons_succ, List.set_cons_zero]
    rw [e1, e2]
    generalize vs 0 = u6_0
    clear e1 e2 hC hn E6 hL vs L nb
    go_upto_region 3 with (fail)
    have B7 : Hid (ab ((Int.gcd n d : Int)) < pw 800) := ab_gcdB hn.out hd.out (by omega) (by omega)
    refine region_fr (C := [Fq.num n, Fq.num d, Fq.num (Int.gcd n d : Int), Fq.any, Fq.any]) (ks := [none, none, none]) (new := [⟨3, 4, 2, Fq.num 0, Fq.num (Int.gcd n d : Int), none⟩]) E rfl (by kernel_rfl) rfl rfl (fun hp => ⟨?_, ?_, ?_, ?_, ?_, trivial⟩) ?_
    · exact q_loadInt (off := 0) hp (free_of rfl) trivial (List.mem_iff_getElem?.2 ⟨2, rfl⟩) (.inl rfl) (Nat.le_of_ble_eq_true rfl) (sq_out rfl rfl (fun _ _ => rfl)) (fun us w hl h => ld_num hl h)
    · exact q_loadInt (off := 0) hp (free_of rfl) trivial (List.mem_iff_getElem?.2 ⟨1, rfl⟩) (.inl rfl) (Nat.le_of_ble_eq_true rfl) (sq_out rfl rfl (fun _ _ => rfl)) (fun us w hl h => ld_num hl h)
    · exact q_call2 (F := (Fq.num n).P) (G := (Fq.num d).P) hp (free_of rfl) trivial (enq_R_Gcd) (sq_in 0 rfl rfl (by simp) rfl (fun v w h => h)) (sq_in 1 rfl rfl (by simp) rfl (fun v w h => h)) (fun v v' w h h' => exRGcd h h' (Int.lt_of_lt_of_le hn.out (pw_le (by omega))) (Int.lt_of_lt_of_le hd.out (pw_le (by omega))))
    · exact q_allocInt hp (List.mem_iff_getElem?.2 ⟨0, rfl⟩) rfl rfl rfl rfl (Nat.ne_of_beq_eq_false rfl) (fun _ _ => trivial) (old_ne rfl) (newk_ne rfl) (fun w => Num.zero w)
    · exact q_storeNewInt hp (List.mem_iff_getElem?.2 ⟨0, rfl⟩) rfl rfl rfl (own_ptr rfl rfl (by simp) rfl) (sq_in 2 rfl rfl (by simp) rfl (fun v w h => intV_num h)) (fun _ _ => trivial) (old_ne rfl) (newi_ne rfl)
    intro L vs w8 nb hL hC hn E8
    have e3 : vs 3 = .pointer (some ⟨nb 3, 0, none⟩) := hn _ (List.mem_iff_getElem?.2 ⟨0, rfl⟩)
    have E : Fr w [(nb 3, 2, Fq.num (Int.gcd n d : Int)), (b3, 4, Fq.pair 0 0), (b2, 2, Fq.num d), (b1, 2, Fq.num n)] w8 := E8
    rw [lay_all hL]
    simp only [putAll, dstOf, List.length_cons, List.length_nil, Nat.zero_add, Nat.reduceAdd, List.getElem?_toArray, List.getElem?_cons_zero, List.getElem?_cons_succ, Option.bind_some, Act.put, List.setIfInBounds_toArray, List.set_cons_succ, List.set_cons_zero]
    rw [e3]
    generalize nb 3 = b8_3 at E ⊢
    generalize vs 0 = u8_0
    generalize vs 1 = u8_1
    generalize vs 2 = u8_2
    clear e3 hC hn E8 hL vs L nb
    by_cases hs : d < 0
    · have T2 : Hid (cmpI d 0 < 0) := cmpIqlt.2 hs
      go_upto_region 4 with (fail)
      refine region_fr (C := [Fq.num d, Fq.is (.int .i64 (cmpI d 0)), Fq.is (.bool true)]) (ks := [none, none, none, none]) (new := []) E rfl (by kernel_rfl) rfl rfl (fun hp => ⟨?_, ?_, ?_, trivial⟩) ?_
      · exact q_loadInt (off := 0) hp (free_of rfl) trivial (List.mem_iff_getElem?.2 ⟨2, rfl⟩) (.inl rfl) (Nat.le_of_ble_eq_true rfl) (sq_out rfl rfl (fun _ _ => rfl)) (fun us w hl h => ld_num hl h)
      · exact q_call1 (F := (Fq.num d).P) hp (free_of rfl) trivial (enq_R_Sign) (sq_in 0 rfl rfl (by simp) rfl (fun v w h => h)) (fun v w h => exRSign h)
      · exact q_one (F := fun v _ => v = .int .i64 (cmpI d 0)) hp (free_of rfl) trivial (sq_in 1 rfl rfl (by simp) rfl (fun v w h => h)) (fun ρ w hc h => ⟨.bool true, by simp [execOp, go_sem, h, hc, T2.out], rfl⟩)
      intro L vs w9 nb hL hC hn E9
      have e1 : vs 1 = .int .i64 (cmpI d 0) := hC 1 (by simp)
      have e2 : vs 2 = .bool true := hC 2 (by simp)
      have E : Fr w [(b8_3, 2, Fq.num (Int.gcd n d : Int)), (b3, 4, Fq.pair 0 0), (b2, 2, Fq.num d), (b1, 2, Fq.num n)] w9 := E9
      rw [lay_all hL]
      simp only [putAll, dstOf, List.length_cons, List.length_nil, Nat.zero_add, Nat.reduceAdd, List.getElem?_toArray, List.getElem?_cons_zero, List.getElem?_cons_succ, Option.bind_some, Act.put, List.setIfInBounds_toArray, List.set_cons_succ, List.set_cons_zero]
      rw [e1, e2]
      generalize vs 0 = u9_0
      clear e1 e2 hC hn E9 hL vs L nb
      go_upto_region 5 with (fail)
      have B10 : Hid (ab ((-(Int.gcd n d : Int))) < pw 800) := ab_negB B7.out
      refine region_fr (C := [Fq.num (Int.gcd n d : Int), Fq.num (-(Int.gcd n d : Int)), Fq.any]) (ks := [some (2, Fq.num (-(Int.gcd n d : Int))), none, none, none]) (new := []) E rfl (by kernel_rfl) rfl rfl (fun hp => ⟨?_, ?_, ?_, trivial⟩) ?_
      · exact q_loadInt (off := 0) hp (free_of rfl) trivial (List.mem_iff_getElem?.2 ⟨0, rfl⟩) (.inr rfl) (Nat.le_of_ble_eq_true rfl) (sq_out rfl rfl (fun _ _ => rfl)) (fun us w hl h => ld_num hl h)
      · exact q_call1 (F := (Fq.num (Int.gcd n d : Int)).P) hp (free_of rfl) trivial (enq_R_Neg) (sq_in 0 rfl rfl (by simp) rfl (fun v w h => h)) (fun v w h => exK (RNegV h) B10.out (by omega))
      · exact q_storeOldInt hp (List.mem_iff_getElem?.2 ⟨0, rfl⟩) rfl rfl (sq_out rfl rfl (fun _ _ => rfl)) (sq_in 1 rfl rfl (by simp) rfl (fun v w h => intV_num h)) (fun _ _ => trivial) (newik_ne rfl)
      intro L vs w11 nb hL hC hn E11
      have E : Fr w [(b8_3, 2, Fq.num (-(Int.gcd n d : Int))), (b3, 4, Fq.pair 0 0), (b2, 2, Fq.num d), (b1, 2, Fq.num n)] w11 := E11
      rw [lay_all hL]
      simp only [putAll, dstOf, List.length_cons, List.length_nil, Nat.zero_add, Nat.reduceAdd, List.getElem?_toArray, List.getElem?_cons_zero, List.getElem?_cons_succ, Option.bind_some, Act.put, List.setIfInBounds_toArray, List.set_cons_succ, List.set_cons_zero]
      generalize vs 0 = u11_0
      generalize vs 1 = u11_1
      clear  hC hn E11 hL vs L nb
      go_upto_region 6 with (fail)
      have B12 : Hid (ab ((n / (-(Int.gcd n d : Int)))) < pw 801) := ab_divB hn.out (by omega)
      have B13 : Hid (ab ((d / (-(Int.gcd n d : Int)))) < pw 801) := ab_divB hd.out (by omega)
      refine region_fr (C := [Fq.num n, Fq.num (-(Int.gcd n d : Int)), Fq.num (n / (-(Int.gcd n d : Int))), Fq.num d, Fq.num (-(Int.gcd n d : Int)), Fq.num (d / (-(Int.gcd n d : Int))), Fq.pair (n / (-(Int.gcd n d : Int))) (d / (-(Int.gcd n d : Int))), Fq.any, Fq.is (.int .i64 0)]) (ks := [none, some (7, Fq.pair (n / (-(Int.gcd n d : Int))) (d / (-(Int.gcd n d : Int)))), none, none]) (new := []) E rfl (by kernel_rfl) rfl rfl (fun hp => ⟨?_, ?_, ?_, ?_, ?_, ?_, ?_, ?_, ?_, trivial⟩) ?_
      · exact q_loadInt (off := 0) hp (free_of rfl) trivial (List.mem_iff_getElem?.2 ⟨3, rfl⟩) (.inl rfl) (Nat.le_of_ble_eq_true rfl) (sq_out rfl rfl (fun _ _ => rfl)) (fun us w hl h => ld_num hl h)
      · exact q_loadInt (off := 0) hp (free_of rfl) trivial (List.mem_iff_getElem?.2 ⟨0, rfl⟩) (.inl rfl) (Nat.le_of_ble_eq_true rfl) (sq_out rfl rfl (fun _ _ => rfl)) (fun us w hl h => ld_num hl h)
      · exact q_call2 (F := (Fq.num n).P) (G := (Fq.num (-(Int.gcd n d : Int))).P) hp (free_of rfl) trivial (enq_R_Div) (sq_in 0 rfl rfl (by simp) rfl (fun v w h => h)) (sq_in 1 rfl rfl (by simp) rfl (fun v w h => h)) (fun v v' w h h' => exRDiv h h' (by omega) (Int.lt_of_lt_of_le hn.out (pw_le (by omega))) (Int.lt_of_lt_of_le B10.out (pw_le (by omega))))
      · exact q_loadInt (off := 0) hp (free_of rfl) trivial (List.mem_iff_getElem?.2 ⟨2, rfl⟩) (.inl rfl) (Nat.le_of_ble_eq_true rfl) (sq_out rfl rfl (fun _ _ => rfl)) (fun us w hl h => ld_num hl h)
      · exact q_loadInt (off := 0) hp (free_of rfl) trivial (List.mem_iff_getElem?.2 ⟨0, rfl⟩) (.inl rfl) (Nat.le_of_ble_eq_true rfl) (sq_out rfl rfl (fun _ _ => rfl)) (fun us w hl h => ld_num hl h)
      · exact q_call2 (F := (Fq.num d).P) (G := (Fq.num (-(Int.gcd n d : Int))).P) hp (free_of rfl) trivial (enq_R_Div) (sq_in 3 rfl rfl (by simp) rfl (fun v w h => h)) (sq_in 4 rfl rfl (by simp) rfl (fun v w h => h)) (fun v v' w h h' => exRDiv h h' (by omega) (Int.lt_of_lt_of_le hd.out (pw_le (by omega))) (Int.lt_of_lt_of_le B10.out (pw_le (by omega))))
      · exact q_buildRat (n := (n / (-(Int.gcd n d : Int)))) (d0 := (d / (-(Int.gcd n d : Int)))) hp (free_of rfl) trivial (sq_in 2 rfl rfl (by simp) rfl (fun v w h => h)) (sq_in 5 rfl rfl (by simp) rfl (fun v w h => h)) (fun v w h => h)
      · exact q_storeOldRat hp (List.mem_iff_getElem?.2 ⟨1, rfl⟩) rfl rfl (sq_out rfl rfl (fun _ _ => rfl)) (sq_in 6 rfl rfl (by simp) rfl (fun v w h => ratV_pair h)) (fun _ _ => trivial) (newik_ne rfl)
      · exact q_assign hp (free_of rfl) trivial (sq_const (fun _ => rfl))
      intro L vs w14 nb hL hC hn E14
      have e8 : vs 8 = .int .i64 0 := hC 8 (by simp)
      have E : Fr w [(b8_3, 2, Fq.num (-(Int.gcd n d : Int))), (b3, 4, Fq.pair (n / (-(Int.gcd n d : Int))) (d / (-(Int.gcd n d : Int)))), (b2, 2, Fq.num d), (b1, 2, Fq.num n)] w14 := E14
      rw [lay_all hL]
      simp only [putAll, dstOf, List.length_cons, List.length_nil, Nat.zero_add, Nat.reduceAdd, List.getElem?_toArray, List.getElem?_cons_zero, List.getElem?_cons_succ, Option.bind_some, Act.put, List.setIfInBounds_toArray, List.set_cons_succ, List.set_cons_zero]
      rw [e8]
      generalize vs 0 = u14_0
      generalize vs 1 = u14_1
      generalize vs 2 = u14_2
      generalize vs 3 = u14_3
      generalize vs 4 = u14_4
      generalize vs 5 = u14_5
      generalize vs 6 = u14_6
      clear e8 hC hn E14 hL vs L nb
      clear T2
      have F := hidd (new_frac (n := n) h0 (if_pos hs).symm)
      clear hs
      obtain ⟨p0, p1, p2, p3, c0, c1, c2, c3, hP⟩ := box_pair (E.box 1 rfl)
      clear B7 B10 B12 B13 hn hd
      go_wp2
      refine bodyPost_ret (v := .tuple #[.agg #[p0, p1, p2, p3], .int .i64 0]) ?_ rfl ⟨_, rfl, E.below, by have hQ := hP; rw [F.out.1, F.out.2] at hQ; first | exact ⟨_, _, rfl, hQ, rfl⟩ | (rw [if_neg h0]; exact ⟨_, _, rfl, hQ, rfl⟩)⟩
      simp [results, Tryz.results12, go_sem, c0, c1, c2, c3]
    · have T2 : Hid (¬ cmpI d 0 < 0) := fun e => hs (cmpIqlt.1 e)
      go_upto_region 4 with (fail)
      refine region_fr (C := [Fq.num d, Fq.is (.int .i64 (cmpI d 0)), Fq.is (.bool false)]) (ks := [none, none, none, none]) (new := []) E rfl (by kernel_rfl) rfl rfl (fun hp => ⟨?_, ?_, ?_, trivial⟩) ?_
      · exact q_loadInt (off := 0) hp (free_of rfl) trivial (List.mem_iff_getElem?.2 ⟨2, rfl⟩) (.inl rfl) (Nat.le_of_ble_eq_true rfl) (sq_out rfl rfl (fun _ _ => rfl)) (fun us w hl h => ld_num hl h)
      · exact q_call1 (F := (Fq.num d).P) hp (free_of rfl) trivial (enq_R_Sign) (sq_in 0 rfl rfl (by simp) rfl (fun v w h => h)) (fun v w h => exRSign h)
      · exact q_one (F := fun v _ => v = .int .i64 (cmpI d 0)) hp (free_of rfl) trivial (sq_in 1 rfl rfl (by simp) rfl (fun v w h => h)) (fun ρ w hc h => ⟨.bool false, by simp [execOp, go_sem, h, hc, T2.out], rfl⟩)
      intro L vs w15 nb hL hC hn E15
      have e1 : vs 1 = .int .i64 (cmpI d 0) := hC 1 (by simp)
      have e2 : vs 2 = .bool false := hC 2 (by simp)
      have E : Fr w [(b8_3, 2, Fq.num (Int.gcd n d : Int)), (b3, 4, Fq.pair 0 0), (b2, 2, Fq.num d), (b1, 2, Fq.num n)] w15 := E15
      rw [lay_all hL]
      simp only [putAll, dstOf, List.length_cons, List.length_nil, Nat.zero_add, Nat.reduceAdd, List.getElem?_toArray, List.getElem?_cons_zero, List.getElem?_cons_succ, Option.bind_some, Act.put, List.setIfInBounds_toArray, List.set_cons_succ, List.set_cons_zero]
      rw [e1, e2]
      generalize vs 0 = u15_0
      clear e1 e2 hC hn E15 hL vs L nb
      go_upto_region 6 with (fail)
      have B16 : Hid (ab ((n / (Int.gcd n d : Int))) < pw 801) := ab_divB hn.out (by omega)
      have B17 : Hid (ab ((d / (Int.gcd n d : Int))) < pw 801) := ab_divB hd.out (by omega)
      refine region_fr (C := [Fq.num n, Fq.num (Int.gcd n d : Int), Fq.num (n / (Int.gcd n d : Int)), Fq.num d, Fq.num (Int.gcd n d : Int), Fq.num (d / (Int.gcd n d : Int)), Fq.pair (n / (Int.gcd n d : Int)) (d / (Int.gcd n d : Int)), Fq.any, Fq.is (.int .i64 0)]) (ks := [none, some (7, Fq.pair (n / (Int.gcd n d : Int)) (d / (Int.gcd n d : Int))), none, none]) (new := []) E rfl (by kernel_rfl) rfl rfl (fun hp => ⟨?_, ?_, ?_, ?_, ?_, ?_, ?_, ?_, ?_, trivial⟩) ?_
      · exact q_loadInt (off := 0) hp (free_of rfl) trivial (List.mem_iff_getElem?.2 ⟨3, rfl⟩) (.inl rfl) (Nat.le_of_ble_eq_true rfl) (sq_out rfl rfl (fun _ _ => rfl)) (fun us w hl h => ld_num hl h)
      · exact q_loadInt (off := 0) hp (free_of rfl) trivial (List.mem_iff_getElem?.2 ⟨0, rfl⟩) (.inl rfl) (Nat.le_of_ble_eq_true rfl) (sq_out rfl rfl (fun _ _ => rfl)) (fun us w hl h => ld_num hl h)
      · exact q_call2 (F := (Fq.num n).P) (G := (Fq.num (Int.gcd n d : Int)).P) hp (free_of rfl) trivial (enq_R_Div) (sq_in 0 rfl rfl (by simp) rfl (fun v w h => h)) (sq_in 1 rfl rfl (by simp) rfl (fun v w h => h)) (fun v v' w h h' => exRDiv h h' (by omega) (Int.lt_of_lt_of_le hn.out (pw_le (by omega))) (Int.lt_of_lt_of_le B7.out (pw_le (by omega))))
      · exact q_loadInt (off := 0) hp (free_of rfl) trivial (List.mem_iff_getElem?.2 ⟨2, rfl⟩) (.inl rfl) (Nat.le_of_ble_eq_true rfl) (sq_out rfl rfl (fun _ _ => rfl)) (fun us w hl h => ld_num hl h)
      · exact q_loadInt (off := 0) hp (free_of rfl) trivial (List.mem_iff_getElem?.2 ⟨0, rfl⟩) (.inl rfl) (Nat.le_of_ble_eq_true rfl) (sq_out rfl rfl (fun _ _ => rfl)) (fun us w hl h => ld_num hl h)
      · exact q_call2 (F := (Fq.num d).P) (G := (Fq.num (Int.gcd n d : Int)).P) hp (free_of rfl) trivial (enq_R_Div) (sq_in 3 rfl rfl (by simp) rfl (fun v w h => h)) (sq_in 4 rfl rfl (by simp) rfl (fun v w h => h)) (fun v v' w h h' => exRDiv h h' (by omega) (Int.lt_of_lt_of_le hd.out (pw_le (by omega))) (Int.lt_of_lt_of_le B7.out (pw_le (by omega))))
      · exact q_buildRat (n := (n / (Int.gcd n d : Int))) (d0 := (d / (Int.gcd n d : Int))) hp (free_of rfl) trivial (sq_in 2 rfl rfl (by simp) rfl (fun v w h => h)) (sq_in 5 rfl rfl (by simp) rfl (fun v w h => h)) (fun v w h => h)
      · exact q_storeOldRat hp (List.mem_iff_getElem?.2 ⟨1, rfl⟩) rfl rfl (sq_out rfl rfl (fun _ _ => rfl)) (sq_in 6 rfl rfl (by simp) rfl (fun v w h => ratV_pair h)) (fun _ _ => trivial) (newik_ne rfl)
      · exact q_assign hp (free_of rfl) trivial (sq_const (fun _ => rfl))
      intro L vs w18 nb hL hC hn E18
      have e8 : vs 8 = .int .i64 0 := hC 8 (by simp)
      have E : Fr w [(b8_3, 2, Fq.num (Int.gcd n d : Int)), (b3, 4, Fq.pair (n / (Int.gcd n d : Int)) (d / (Int.gcd n d : Int))), (b2, 2, Fq.num d), (b1, 2, Fq.num n)] w18 := E18
      rw [lay_all hL]
      simp only [putAll, dstOf, List.length_cons, List.length_nil, Nat.zero_add, Nat.reduceAdd, List.getElem?_toArray, List.getElem?_cons_zero, List.getElem?_cons_succ, Option.bind_some, Act.put, List.setIfInBounds_toArray, List.set_cons_succ, List.set_cons_zero]
      rw [e8]
      generalize vs 0 = u18_0
      generalize vs 1 = u18_1
      generalize vs 2 = u18_2
      generalize vs 3 = u18_3
      generalize vs 4 = u18_4
      generalize vs 5 = u18_5
      generalize vs 6 = u18_6
      clear e8 hC hn E18 hL vs L nb
      clear T2
      have F := hidd (new_frac (n := n) h0 (if_neg hs).symm)
      obtain ⟨p0, p1, p2, p3, c0, c1, c2, c3, hP⟩ := box_pair (E.box 1 rfl)
      clear B7 B16 B17 hn hd
      go_wp2
      refine bodyPost_ret (v := .tuple #[.agg #[p0, p1, p2, p3], .int .i64 0]) ?_ rfl ⟨_, rfl, E.below, by have hQ := hP; rw [F.out.1, F.out.2] at hQ; first | exact ⟨_, _, rfl, hQ, rfl⟩ | (rw [if_neg h0]; exact ⟨_, _, rfl, hQ, rfl⟩)⟩
      simp [results, Tryz.results12, go_sem, c0, c1, c2, c3]

theorem exSNewP {w : World} {v v' : Value} {n d : Int} (h : Num w v n) (h' : Num w v' d) (h0 : d ≠ 0) (hn : ab n < pw 800) (hd : ab d < pw 800) : Calls Tryz.prog 12 #[v, v'] w fun e w' => ∃ v', e = .returned v' ∧ Below w.heap.size w w' ∧ (Fq.tup2 (Fq.pair (Rat.divInt n d).num ((Rat.divInt n d).den : Int)) (Fq.is (.int .i64 0))).P v' w' := by
  have := exSNew h h' hn hd
  rw [if_neg h0] at this
  exact this
set_option maxRecDepth 100000 in
set_option maxHeartbeats 4000000 in
theorem exSOver {w : World} {v v' : Value} {n d : Int} (h : Num w v n) (h' : Num w v' d) (h0 : d ≠ 0) (hn : ab n < pw 800) (hd : ab d < pw 800) :
    Calls Tryz.prog 56 #[v, v'] w fun e w' => ∃ v', e = .returned v' ∧ Below w.heap.size w w' ∧ Pair w' v' (Rat.divInt n d).num ((Rat.divInt n d).den : Int) := by
  replace hn := hidd hn
  replace hd := hidd hd
  obtain ⟨n0, ao0, k0, c0, rfl⟩ := h.parts
  obtain ⟨n1, ao1, k1, c1, rfl⟩ := h'.parts
  obtain ⟨w1, b1, hw1, hb1, hs1, E⟩ := fr_start w (F := Fq.num n) (us := [.bool n0, .slice ao0 k0 c0]) 29 rfl (by simp) (tame_int _ _ _ _) h
  obtain ⟨w2, b2, hw2, hb2, hs2, E⟩ := fr_more E hs1 (F := Fq.num d) (us := [.bool n1, .slice ao1 k1 c1]) 29 rfl (by simp) (tame_int _ _ _ _) (h'.mono E.below)
  obtain ⟨w3, b3, hw3, hb3, hs3, E⟩ := fr_more E hs2 (F := Fq.pair 0 0) (us := [.bool false, .slice none 0 0, .bool false, .slice none 0 0]) 31 rfl (by simp) (tame_rat _ _ _ _ _ _ _ _) (Pair.zero _)
  go_enter Tryz.func56, Tryz.ntmps56
  go_upto_region 1 with (fail)
  rw [← hw1]
  rw [← hw2]
  rw [← hw3]
  rw [← hb3]
  rw [← hb2]
  rw [← hb1]
  clear hw1 hw2 hw3 hb1 hb2 hb3 hs3 hs1 hs2
  have B4 : Hid (Rb (Rat.divInt n d) 800) := rb_divInt h0 (Int.lt_of_lt_of_le hn.out (pw_le (by omega))) (Int.lt_of_lt_of_le hd.out (pw_le (by omega)))
  refine region_fr (C := [Fq.num n, Fq.num d, Fq.tup2 (Fq.pair (Rat.divInt n d).num ((Rat.divInt n d).den : Int)) (Fq.is (.int .i64 0)), Fq.tup2 (Fq.pair (Rat.divInt n d).num ((Rat.divInt n d).den : Int)) (Fq.is (.int .i64 0)), Fq.pair (Rat.divInt n d).num ((Rat.divInt n d).den : Int), Fq.is (.int .i64 0), Fq.any, Fq.any, Fq.is (.int .i64 0)]) (ks := [none, none, none]) (new := [⟨6, 7, 4, Fq.pair 0 0, Fq.pair (Rat.divInt n d).num ((Rat.divInt n d).den : Int), none⟩]) E rfl (by kernel_rfl) rfl rfl (fun hp => ⟨?_, ?_, ?_, ?_, ?_, ?_, ?_, ?_, ?_, trivial⟩) ?_
  · exact q_loadInt (off := 0) hp (free_of rfl) trivial (List.mem_iff_getElem?.2 ⟨2, rfl⟩) (.inl rfl) (Nat.le_of_ble_eq_true rfl) (sq_out rfl rfl (fun _ _ => rfl)) (fun us w hl h => ld_num hl h)
  · exact q_loadInt (off := 0) hp (free_of rfl) trivial (List.mem_iff_getElem?.2 ⟨1, rfl⟩) (.inl rfl) (Nat.le_of_ble_eq_true rfl) (sq_out rfl rfl (fun _ _ => rfl)) (fun us w hl h => ld_num hl h)
  · exact q_call2 (F := (Fq.num n).P) (G := (Fq.num d).P) hp (free_of rfl) trivial (enq_S_New) (sq_in 0 rfl rfl (by simp) rfl (fun v w h => h)) (sq_in 1 rfl rfl (by simp) rfl (fun v w h => h)) (fun v v' w h h' => exSNewP h h' h0 (Int.lt_of_lt_of_le hn.out (pw_le (by omega))) (Int.lt_of_lt_of_le hd.out (pw_le (by omega))))
  · exact q_move hp (free_of rfl) trivial (sq_in 2 rfl rfl (by simp) rfl (fun v w h => h))
  · exact q_extract2 hp (free_of rfl) trivial (sq_in 3 rfl rfl (by simp) rfl (fun v w h => h)) (fun v1 v2 w h1 h2 => ⟨_, rfl, h1⟩)
  · exact q_extract2 hp (free_of rfl) trivial (sq_in 3 rfl rfl (by simp) rfl (fun v w h => h)) (fun v1 v2 w h1 h2 => ⟨_, rfl, h2⟩)
  · exact q_allocRat hp (List.mem_iff_getElem?.2 ⟨0, rfl⟩) rfl rfl rfl rfl (Nat.ne_of_beq_eq_false rfl) (fun _ _ => trivial) (old_ne rfl) (newk_ne rfl) (fun w => Pair.zero w)
  · exact q_storeNewRat hp (List.mem_iff_getElem?.2 ⟨0, rfl⟩) rfl rfl rfl (own_ptr rfl rfl (by simp) rfl) (sq_in 4 rfl rfl (by simp) rfl (fun v w h => ratV_pair h)) (fun _ _ => trivial) (old_ne rfl) (newi_ne rfl)
  · exact q_assign hp (free_of rfl) trivial (sq_in 5 rfl rfl (by simp) rfl (fun v w h => h))
  intro L vs w5 nb hL hC hn E5
  have e5 : vs 5 = .int .i64 0 := hC 5 (by simp)
  have e8 : vs 8 = .int .i64 0 := hC 8 (by simp)
  have e6 : vs 6 = .pointer (some ⟨nb 6, 0, none⟩) := hn _ (List.mem_iff_getElem?.2 ⟨0, rfl⟩)
  have E : Fr w [(nb 6, 4, Fq.pair (Rat.divInt n d).num ((Rat.divInt n d).den : Int)), (b3, 4, Fq.pair 0 0), (b2, 2, Fq.num d), (b1, 2, Fq.num n)] w5 := E5
  rw [lay_all hL]
  simp only [putAll, dstOf, List.length_cons, List.length_nil, Nat.zero_add, Nat.reduceAdd, List.getElem?_toArray, List.getElem?_cons_zero, List.getElem?_cons_succ, Option.bind_some, Act.put, List.setIfInBounds_toArray, List.set_cons_succ, List.set_cons_zero]
  rw [e5, e8, e6]
  generalize nb 6 = b5_6 at E ⊢
  generalize vs 0 = u5_0
  generalize vs 1 = u5_1
  generalize vs 2 = u5_2
  generalize vs 3 = u5_3
  generalize vs 4 = u5_4
  clear e5 e8 e6 hC hn E5 hL vs L nb
  go_upto_region 2 with (fail)
  refine region_fr (C := [Fq.pair (Rat.divInt n d).num ((Rat.divInt n d).den : Int), Fq.any]) (ks := [none, some (1, Fq.pair (Rat.divInt n d).num ((Rat.divInt n d).den : Int)), none, none]) (new := []) E rfl (by kernel_rfl) rfl rfl (fun hp => ⟨?_, ?_, trivial⟩) ?_
  · exact q_loadRat hp (free_of rfl) trivial (List.mem_iff_getElem?.2 ⟨0, rfl⟩) (.inl rfl) rfl (sq_out rfl rfl (fun _ _ => rfl)) (fun us w hl h => h)
  · exact q_storeOldRat hp (List.mem_iff_getElem?.2 ⟨1, rfl⟩) rfl rfl (sq_out rfl rfl (fun _ _ => rfl)) (sq_in 0 rfl rfl (by simp) rfl (fun v w h => ratV_pair h)) (fun _ _ => trivial) (newik_ne rfl)
  intro L vs w6 nb hL hC hn E6
  have E : Fr w [(b5_6, 4, Fq.pair (Rat.divInt n d).num ((Rat.divInt n d).den : Int)), (b3, 4, Fq.pair (Rat.divInt n d).num ((Rat.divInt n d).den : Int)), (b2, 2, Fq.num d), (b1, 2, Fq.num n)] w6 := E6
  rw [lay_all hL]
  simp only [putAll, dstOf, List.length_cons, List.length_nil, Nat.zero_add, Nat.reduceAdd, List.getElem?_toArray, List.getElem?_cons_zero, List.getElem?_cons_succ, Option.bind_some, Act.put, List.setIfInBounds_toArray, List.set_cons_succ, List.set_cons_zero]
  generalize vs 0 = u6_0
  clear  hC hn E6 hL vs L nb
  obtain ⟨p0, p1, p2, p3, c0, c1, c2, c3, hP⟩ := box_pair (E.box 1 rfl)
  clear B4 hn hd
  go_wp2
  refine bodyPost_ret (v := .agg #[p0, p1, p2, p3]) ?_ rfl ⟨_, rfl, E.below, hP⟩
  simp [results, Tryz.results56, go_sem, c0, c1, c2, c3]

set_option maxRecDepth 100000 in
set_option maxHeartbeats 4000000 in
theorem exSOf {w : World} {n d : Int} (h0 : d ≠ 0) (hn : Hid (ab n < pw 3 ∧ -9223372036854775808 ≤ n ∧ n ≤ 9223372036854775807)) (hd : Hid (ab d < pw 3 ∧ -9223372036854775808 ≤ d ∧ d ≤ 9223372036854775807)) :
    Calls Tryz.prog 46 #[.int .i64 n, .int .i64 d] w fun e w' => ∃ v', e = .returned v' ∧ Below w.heap.size w w' ∧ Pair w' v' (Rat.divInt n d).num ((Rat.divInt n d).den : Int) := by
  obtain ⟨w1, b1, hw1, hb1, hs1, E⟩ := fr_start w (F := Fq.pair 0 0) (us := [.bool false, .slice none 0 0, .bool false, .slice none 0 0]) 31 rfl (by simp) (tame_rat _ _ _ _ _ _ _ _) (Pair.zero _)
  go_enter Tryz.func46, Tryz.ntmps46
  go_upto_region 1 with (fail)
  rw [← hw1]
  rw [← hb1]
  clear hw1 hb1 hs1
  have B2 : Hid (Rb (Rat.divInt n d) 3) := rb_divInt h0 (Int.lt_of_lt_of_le hn.out.1 (pw_le (by omega))) (Int.lt_of_lt_of_le hd.out.1 (pw_le (by omega)))
  refine region_fr (C := [Fq.is (.int .i64 n), Fq.num n, Fq.is (.int .i64 d), Fq.num d, Fq.pair (Rat.divInt n d).num ((Rat.divInt n d).den : Int), Fq.any]) (ks := [some (5, Fq.pair (Rat.divInt n d).num ((Rat.divInt n d).den : Int))]) (new := []) E rfl (by kernel_rfl) rfl rfl (fun hp => ⟨?_, ?_, ?_, ?_, ?_, ?_, trivial⟩) ?_
  · exact q_move hp (free_of rfl) trivial (sq_out rfl rfl (fun _ _ => rfl))
  · exact q_call1 (F := (Fq.is (.int .i64 n)).P) hp (free_of rfl) trivial (enq_R_Of) (sq_in 0 rfl rfl (by simp) rfl (fun v w h => h)) (fun v w h => (by subst h; exact rOfK w n hn.out.2.1 hn.out.2.2))
  · exact q_move hp (free_of rfl) trivial (sq_out rfl rfl (fun _ _ => rfl))
  · exact q_call1 (F := (Fq.is (.int .i64 d)).P) hp (free_of rfl) trivial (enq_R_Of) (sq_in 2 rfl rfl (by simp) rfl (fun v w h => h)) (fun v w h => (by subst h; exact rOfK w d hd.out.2.1 hd.out.2.2))
  · exact q_call2 (F := (Fq.num n).P) (G := (Fq.num d).P) hp (free_of rfl) trivial (enq_S_over) (sq_in 1 rfl rfl (by simp) rfl (fun v w h => h)) (sq_in 3 rfl rfl (by simp) rfl (fun v w h => h)) (fun v v' w h h' => exSOver h h' h0 (Int.lt_of_lt_of_le hn.out.1 (pw_le (by omega))) (Int.lt_of_lt_of_le hd.out.1 (pw_le (by omega))))
  · exact q_storeOldRat hp (List.mem_iff_getElem?.2 ⟨0, rfl⟩) rfl rfl (sq_out rfl rfl (fun _ _ => rfl)) (sq_in 4 rfl rfl (by simp) rfl (fun v w h => ratV_pair h)) (fun _ _ => trivial) (newik_ne rfl)
  intro L vs w3 nb hL hC hn E3
  have e0 : vs 0 = .int .i64 n := hC 0 (by simp)
  have e2 : vs 2 = .int .i64 d := hC 2 (by simp)
  have E : Fr w [(b1, 4, Fq.pair (Rat.divInt n d).num ((Rat.divInt n d).den : Int))] w3 := E3
  rw [lay_all hL]
  simp only [putAll, dstOf, List.length_cons, List.length_nil, Nat.zero_add, Nat.reduceAdd, List.getElem?_toArray, List.getElem?_cons_zero, List.getElem?_cons_succ, Option.bind_some, Act.put, List.setIfInBounds_toArray, List.set_cons_succ, List.set_cons_zero]
  rw [e0, e2]
  generalize vs 1 = u3_1
  generalize vs 3 = u3_3
  generalize vs 4 = u3_4
  clear e0 e2 hC hn E3 hL vs L nb
  obtain ⟨p0, p1, p2, p3, c0, c1, c2, c3, hP⟩ := box_pair (E.box 0 rfl)
  clear B2
  go_wp2
  refine bodyPost_ret (v := .agg #[p0, p1, p2, p3]) ?_ rfl ⟨_, rfl, E.below, hP⟩
  simp [results, Tryz.results46, go_sem, c0, c1, c2, c3]

set_option maxRecDepth 100000 in
set_option maxHeartbeats 4000000 in
theorem exSWhole {w : World} {v : Value} {z : Int} (h : Num w v z) (hz : ab z < pw 800) :
    Calls Tryz.prog 47 #[v] w fun e w' => ∃ v', e = .returned v' ∧ Below w.heap.size w w' ∧ Pair w' v' (z : Rat).num ((z : Rat).den : Int) := by
  replace hz := hidd hz
  obtain ⟨n0, ao0, k0, c0, rfl⟩ := h.parts
  obtain ⟨w1, b1, hw1, hb1, hs1, E⟩ := fr_start w (F := Fq.num z) (us := [.bool n0, .slice ao0 k0 c0]) 29 rfl (by simp) (tame_int _ _ _ _) h
  obtain ⟨w2, b2, hw2, hb2, hs2, E⟩ := fr_more E hs1 (F := Fq.pair 0 0) (us := [.bool false, .slice none 0 0, .bool false, .slice none 0 0]) 31 rfl (by simp) (tame_rat _ _ _ _ _ _ _ _) (Pair.zero _)
  go_enter Tryz.func47, Tryz.ntmps47
  go_upto_region 1 with (fail)
  rw [← hw1]
  rw [← hw2]
  rw [← hb2]
  rw [← hb1]
  clear hw1 hw2 hb1 hb2 hs2 hs1
  have B3 : Hid (ab ((1)) < pw 3) := ab_lit (by decide)
  refine region_fr (C := [Fq.num z, Fq.num (1), Fq.pair z (1), Fq.any]) (ks := [some (3, Fq.pair z (1)), none]) (new := []) E rfl (by kernel_rfl) rfl rfl (fun hp => ⟨?_, ?_, ?_, ?_, trivial⟩) ?_
  · exact q_loadInt (off := 0) hp (free_of rfl) trivial (List.mem_iff_getElem?.2 ⟨1, rfl⟩) (.inl rfl) (Nat.le_of_ble_eq_true rfl) (sq_out rfl rfl (fun _ _ => rfl)) (fun us w hl h => ld_num hl h)
  · exact q_call1 (F := (Fq.is (.int .i64 1)).P) hp (free_of rfl) trivial (enq_R_Of) (sq_const (fun _ => rfl)) (fun v w h => (by subst h; exact rOfK w (1) (by omega) (by omega)))
  · exact q_buildRat (n := z) (d0 := (1)) hp (free_of rfl) trivial (sq_in 0 rfl rfl (by simp) rfl (fun v w h => h)) (sq_in 1 rfl rfl (by simp) rfl (fun v w h => h)) (fun v w h => h)
  · exact q_storeOldRat hp (List.mem_iff_getElem?.2 ⟨0, rfl⟩) rfl rfl (sq_out rfl rfl (fun _ _ => rfl)) (sq_in 2 rfl rfl (by simp) rfl (fun v w h => ratV_pair h)) (fun _ _ => trivial) (newik_ne rfl)
  intro L vs w4 nb hL hC hn E4
  have E : Fr w [(b2, 4, Fq.pair z (1)), (b1, 2, Fq.num z)] w4 := E4
  rw [lay_all hL]
  simp only [putAll, dstOf, List.length_cons, List.length_nil, Nat.zero_add, Nat.reduceAdd, List.getElem?_toArray, List.getElem?_cons_zero, List.getElem?_cons_succ, Option.bind_some, Act.put, List.setIfInBounds_toArray, List.set_cons_succ, List.set_cons_zero]
  generalize vs 0 = u4_0
  generalize vs 1 = u4_1
  generalize vs 2 = u4_2
  clear  hC hn E4 hL vs L nb
  obtain ⟨p0, p1, p2, p3, c0, c1, c2, c3, hP⟩ := box_pair (E.box 0 rfl)
  clear B3 hz
  go_wp2
  refine bodyPost_ret (v := .agg #[p0, p1, p2, p3]) ?_ rfl ⟨_, rfl, E.below, hP⟩
  simp [results, Tryz.results47, go_sem, c0, c1, c2, c3]

theorem exRSameB {w : World} {v v' : Value} {a b : Int} {t : Bool} (h : Num w v a) (h' : Num w v' b) (ht : decide (a = b) = t) : Calls Tryz.prog 24 #[v, v'] w fun e w' => ∃ v', e = .returned v' ∧ Below w.heap.size w w' ∧ v' = .bool t := by
  have := exRSame h h'
  rw [ht] at this
  exact this

set_option maxRecDepth 100000 in
set_option maxHeartbeats 4000000 in
theorem exSSame {w : World} {v v' : Value} {n d n' d' : Int} (h : Pair w v n d) (h' : Pair w v' n' d') :
    Calls Tryz.prog 13 #[v, v'] w fun e w' => ∃ v', e = .returned v' ∧ Below w.heap.size w w' ∧ v' = .bool (decide (n = n' ∧ d = d')) := by
  obtain ⟨n0, ao0, k0, c0, n0', ao0', k0', c0', rfl, _⟩ := ratV_pair h
  obtain ⟨n1, ao1, k1, c1, n1', ao1', k1', c1', rfl, _⟩ := ratV_pair h'
  obtain ⟨w1, b1, hw1, hb1, hs1, E⟩ := fr_start w (F := Fq.pair n d) (us := [.bool n0, .slice ao0 k0 c0, .bool n0', .slice ao0' k0' c0']) 31 rfl (by simp) (tame_rat _ _ _ _ _ _ _ _) h
  obtain ⟨w2, b2, hw2, hb2, hs2, E⟩ := fr_more E hs1 (F := Fq.pair (n') (d')) (us := [.bool n1, .slice ao1 k1 c1, .bool n1', .slice ao1' k1' c1']) 31 rfl (by simp) (tame_rat _ _ _ _ _ _ _ _) (h'.mono E.below)
  go_enter Tryz.func13, Tryz.ntmps13
  go_upto_region 1 with (fail)
  rw [← hw1]
  rw [← hw2]
  rw [← hb2]
  rw [← hb1]
  clear hw1 hw2 hb1 hb2 hs2 hs1
  by_cases hc : n = n'
  · subst hc
    by_cases hd : d = d'
    · subst hd
      refine region_fr (C := [Fq.is (.pointer (some ⟨b1, 0, none⟩)), Fq.num n, Fq.is (.pointer (some ⟨b2, 0, none⟩)), Fq.num n, Fq.is (.bool true), Fq.is (.bool true), Fq.is (.pointer (some ⟨b1, 2, none⟩)), Fq.num d, Fq.is (.pointer (some ⟨b2, 2, none⟩)), Fq.num d, Fq.is (.bool true), Fq.is (.bool true), Fq.is (.bool true)]) (ks := [none, none]) (new := []) E rfl (by kernel_rfl) rfl rfl (fun hp => ⟨?_, ?_, ?_, ?_, ?_, ?_, ?_, ?_, ?_, ?_, ?_, ?_, ?_, trivial⟩) ?_
      · exact q_addr (b := b1) (off := 0) (off' := 0) hp (free_of rfl) trivial (sq_out rfl rfl (fun _ _ => rfl)) (fun ρ w h => by simp [execOp, go_sem, h]) (fun _ => rfl)
      · exact q_loadInt (off := 0) hp (free_of rfl) trivial (List.mem_iff_getElem?.2 ⟨1, rfl⟩) (.inl rfl) (Nat.le_of_ble_eq_true rfl) (sq_in 0 rfl rfl (by simp) rfl (fun v w h => h)) (fun us w hl h => ld_pn hl h)
      · exact q_addr (b := b2) (off := 0) (off' := 0) hp (free_of rfl) trivial (sq_out rfl rfl (fun _ _ => rfl)) (fun ρ w h => by simp [execOp, go_sem, h]) (fun _ => rfl)
      · exact q_loadInt (off := 0) hp (free_of rfl) trivial (List.mem_iff_getElem?.2 ⟨0, rfl⟩) (.inl rfl) (Nat.le_of_ble_eq_true rfl) (sq_in 2 rfl rfl (by simp) rfl (fun v w h => h)) (fun us w hl h => ld_pn hl h)
      · exact q_call2 (F := (Fq.num n).P) (G := (Fq.num n).P) hp (free_of rfl) trivial (enq_R_Same) (sq_in 1 rfl rfl (by simp) rfl (fun v w h => h)) (sq_in 3 rfl rfl (by simp) rfl (fun v w h => h)) (fun v v' w h h' => exRSameB h h' (by simp))
      · exact q_move hp (free_of rfl) trivial (sq_in 4 rfl rfl (by simp) rfl (fun v w h => h))
      · exact q_addr (b := b1) (off := 0) (off' := 2) hp (free_of rfl) (gq_some rfl rfl (by simp) rfl (fun v w h => h)) (sq_out rfl rfl (fun _ _ => rfl)) (fun ρ w h => by simp [execOp, go_sem, h]) (fun _ => rfl)
      · exact q_loadInt (off := 2) hp (free_of rfl) (gq_some rfl rfl (by simp) rfl (fun v w h => h)) (List.mem_iff_getElem?.2 ⟨1, rfl⟩) (.inl rfl) (Nat.le_of_ble_eq_true rfl) (sq_in 6 rfl rfl (by simp) rfl (fun v w h => h)) (fun us w hl h => ld_pd hl h)
      · exact q_addr (b := b2) (off := 0) (off' := 2) hp (free_of rfl) (gq_some rfl rfl (by simp) rfl (fun v w h => h)) (sq_out rfl rfl (fun _ _ => rfl)) (fun ρ w h => by simp [execOp, go_sem, h]) (fun _ => rfl)
      · exact q_loadInt (off := 2) hp (free_of rfl) (gq_some rfl rfl (by simp) rfl (fun v w h => h)) (List.mem_iff_getElem?.2 ⟨0, rfl⟩) (.inl rfl) (Nat.le_of_ble_eq_true rfl) (sq_in 8 rfl rfl (by simp) rfl (fun v w h => h)) (fun us w hl h => ld_pd hl h)
      · exact q_call2 (F := (Fq.num d).P) (G := (Fq.num d).P) hp (free_of rfl) (gq_some rfl rfl (by simp) rfl (fun v w h => h)) (enq_R_Same) (sq_in 7 rfl rfl (by simp) rfl (fun v w h => h)) (sq_in 9 rfl rfl (by simp) rfl (fun v w h => h)) (fun v v' w h h' => exRSameB h h' (by simp))
      · exact q_two (F := fun v _ => v = .bool true) (G := fun v _ => v = .bool true) hp (free_of rfl) trivial (sq_in 5 rfl rfl (by simp) rfl (fun v w h => h)) (sq_in 10 rfl rfl (by simp) rfl (fun v w h => h)) (fun ρ w hc h h' => ⟨_, by simp [execOp, go_sem, h, h'], rfl⟩)
      · exact q_assign hp (free_of rfl) trivial (sq_in 11 rfl rfl (by simp) rfl (fun v w h => h))
      intro L vs w3 nb hL hC hn E3
      have e0 : vs 0 = .pointer (some ⟨b1, 0, none⟩) := hC 0 (by simp)
      have e2 : vs 2 = .pointer (some ⟨b2, 0, none⟩) := hC 2 (by simp)
      have e4 : vs 4 = .bool true := hC 4 (by simp)
      have e5 : vs 5 = .bool true := hC 5 (by simp)
      have e6 : vs 6 = .pointer (some ⟨b1, 2, none⟩) := hC 6 (by simp)
      have e8 : vs 8 = .pointer (some ⟨b2, 2, none⟩) := hC 8 (by simp)
      have e10 : vs 10 = .bool true := hC 10 (by simp)
      have e11 : vs 11 = .bool true := hC 11 (by simp)
      have e12 : vs 12 = .bool true := hC 12 (by simp)
      have E : Fr w [(b2, 4, Fq.pair n d), (b1, 4, Fq.pair n d)] w3 := E3
      rw [lay_all hL]
      simp only [putAll, dstOf, List.length_cons, List.length_nil, Nat.zero_add, Nat.reduceAdd, List.getElem?_toArray, List.getElem?_cons_zero, List.getElem?_cons_succ, Option.bind_some, Act.put, List.setIfInBounds_toArray, List.set_cons_succ, List.set_cons_zero]
      rw [e0, e2, e4, e5, e6, e8, e10, e11, e12]
      generalize vs 1 = u3_1
      generalize vs 3 = u3_3
      generalize vs 7 = u3_7
      generalize vs 9 = u3_9
      clear e0 e2 e4 e5 e6 e8 e10 e11 e12 hC hn E3 hL vs L nb
      go_wp2
      refine bodyPost_ret (v := .bool true) ?_ rfl (by first | exact ⟨_, rfl, E.below, by simp⟩ | exact ⟨_, rfl, E.below⟩ | exact ⟨rfl, E.below⟩)
      simp [results, Tryz.results13, go_sem]
    · refine region_fr (C := [Fq.is (.pointer (some ⟨b1, 0, none⟩)), Fq.num n, Fq.is (.pointer (some ⟨b2, 0, none⟩)), Fq.num n, Fq.is (.bool true), Fq.is (.bool true), Fq.is (.pointer (some ⟨b1, 2, none⟩)), Fq.num d, Fq.is (.pointer (some ⟨b2, 2, none⟩)), Fq.num (d'), Fq.is (.bool false), Fq.is (.bool false), Fq.is (.bool false)]) (ks := [none, none]) (new := []) E rfl (by kernel_rfl) rfl rfl (fun hp => ⟨?_, ?_, ?_, ?_, ?_, ?_, ?_, ?_, ?_, ?_, ?_, ?_, ?_, trivial⟩) ?_
      · exact q_addr (b := b1) (off := 0) (off' := 0) hp (free_of rfl) trivial (sq_out rfl rfl (fun _ _ => rfl)) (fun ρ w h => by simp [execOp, go_sem, h]) (fun _ => rfl)
      · exact q_loadInt (off := 0) hp (free_of rfl) trivial (List.mem_iff_getElem?.2 ⟨1, rfl⟩) (.inl rfl) (Nat.le_of_ble_eq_true rfl) (sq_in 0 rfl rfl (by simp) rfl (fun v w h => h)) (fun us w hl h => ld_pn hl h)
      · exact q_addr (b := b2) (off := 0) (off' := 0) hp (free_of rfl) trivial (sq_out rfl rfl (fun _ _ => rfl)) (fun ρ w h => by simp [execOp, go_sem, h]) (fun _ => rfl)
      · exact q_loadInt (off := 0) hp (free_of rfl) trivial (List.mem_iff_getElem?.2 ⟨0, rfl⟩) (.inl rfl) (Nat.le_of_ble_eq_true rfl) (sq_in 2 rfl rfl (by simp) rfl (fun v w h => h)) (fun us w hl h => ld_pn hl h)
      · exact q_call2 (F := (Fq.num n).P) (G := (Fq.num n).P) hp (free_of rfl) trivial (enq_R_Same) (sq_in 1 rfl rfl (by simp) rfl (fun v w h => h)) (sq_in 3 rfl rfl (by simp) rfl (fun v w h => h)) (fun v v' w h h' => exRSameB h h' (by simp))
      · exact q_move hp (free_of rfl) trivial (sq_in 4 rfl rfl (by simp) rfl (fun v w h => h))
      · exact q_addr (b := b1) (off := 0) (off' := 2) hp (free_of rfl) (gq_some rfl rfl (by simp) rfl (fun v w h => h)) (sq_out rfl rfl (fun _ _ => rfl)) (fun ρ w h => by simp [execOp, go_sem, h]) (fun _ => rfl)
      · exact q_loadInt (off := 2) hp (free_of rfl) (gq_some rfl rfl (by simp) rfl (fun v w h => h)) (List.mem_iff_getElem?.2 ⟨1, rfl⟩) (.inl rfl) (Nat.le_of_ble_eq_true rfl) (sq_in 6 rfl rfl (by simp) rfl (fun v w h => h)) (fun us w hl h => ld_pd hl h)
      · exact q_addr (b := b2) (off := 0) (off' := 2) hp (free_of rfl) (gq_some rfl rfl (by simp) rfl (fun v w h => h)) (sq_out rfl rfl (fun _ _ => rfl)) (fun ρ w h => by simp [execOp, go_sem, h]) (fun _ => rfl)
      · exact q_loadInt (off := 2) hp (free_of rfl) (gq_some rfl rfl (by simp) rfl (fun v w h => h)) (List.mem_iff_getElem?.2 ⟨0, rfl⟩) (.inl rfl) (Nat.le_of_ble_eq_true rfl) (sq_in 8 rfl rfl (by simp) rfl (fun v w h => h)) (fun us w hl h => ld_pd hl h)
      · exact q_call2 (F := (Fq.num d).P) (G := (Fq.num (d')).P) hp (free_of rfl) (gq_some rfl rfl (by simp) rfl (fun v w h => h)) (enq_R_Same) (sq_in 7 rfl rfl (by simp) rfl (fun v w h => h)) (sq_in 9 rfl rfl (by simp) rfl (fun v w h => h)) (fun v v' w h h' => exRSameB h h' (by rw [decide_eq_false hd]))
      · exact q_two (F := fun v _ => v = .bool true) (G := fun v _ => v = .bool false) hp (free_of rfl) trivial (sq_in 5 rfl rfl (by simp) rfl (fun v w h => h)) (sq_in 10 rfl rfl (by simp) rfl (fun v w h => h)) (fun ρ w hc h h' => ⟨_, by simp [execOp, go_sem, h, h'], rfl⟩)
      · exact q_assign hp (free_of rfl) trivial (sq_in 11 rfl rfl (by simp) rfl (fun v w h => h))
      intro L vs w4 nb hL hC hn E4
      have e0 : vs 0 = .pointer (some ⟨b1, 0, none⟩) := hC 0 (by simp)
      have e2 : vs 2 = .pointer (some ⟨b2, 0, none⟩) := hC 2 (by simp)
      have e4 : vs 4 = .bool true := hC 4 (by simp)
      have e5 : vs 5 = .bool true := hC 5 (by simp)
      have e6 : vs 6 = .pointer (some ⟨b1, 2, none⟩) := hC 6 (by simp)
      have e8 : vs 8 = .pointer (some ⟨b2, 2, none⟩) := hC 8 (by simp)
      have e10 : vs 10 = .bool false := hC 10 (by simp)
      have e11 : vs 11 = .bool false := hC 11 (by simp)
      have e12 : vs 12 = .bool false := hC 12 (by simp)
      have E : Fr w [(b2, 4, Fq.pair n (d')), (b1, 4, Fq.pair n d)] w4 := E4
      rw [lay_all hL]
      simp only [putAll, dstOf, List.length_cons, List.length_nil, Nat.zero_add, Nat.reduceAdd, List.getElem?_toArray, List.getElem?_cons_zero, List.getElem?_cons_succ, Option.bind_some, Act.put, List.setIfInBounds_toArray, List.set_cons_succ, List.set_cons_zero]
      rw [e0, e2, e4, e5, e6, e8, e10, e11, e12]
      generalize vs 1 = u4_1
      generalize vs 3 = u4_3
      generalize vs 7 = u4_7
      generalize vs 9 = u4_9
      clear e0 e2 e4 e5 e6 e8 e10 e11 e12 hC hn E4 hL vs L nb
      go_wp2
      refine bodyPost_ret (v := .bool false) ?_ rfl (by first | exact ⟨_, rfl, E.below, by simp [hd]⟩ | exact ⟨_, rfl, E.below⟩ | exact ⟨rfl, E.below⟩)
      simp [results, Tryz.results13, go_sem]
  · refine region_fr (C := [Fq.is (.pointer (some ⟨b1, 0, none⟩)), Fq.num n, Fq.is (.pointer (some ⟨b2, 0, none⟩)), Fq.num (n'), Fq.is (.bool false), Fq.is (.bool false), Fq.is (undef), Fq.is (undef), Fq.is (undef), Fq.is (undef), Fq.is (undef), Fq.is (.bool false), Fq.is (.bool false)]) (ks := [none, none]) (new := []) E rfl (by kernel_rfl) rfl rfl (fun hp => ⟨?_, ?_, ?_, ?_, ?_, ?_, ?_, ?_, ?_, ?_, ?_, ?_, ?_, trivial⟩) ?_
    · exact q_addr (b := b1) (off := 0) (off' := 0) hp (free_of rfl) trivial (sq_out rfl rfl (fun _ _ => rfl)) (fun ρ w h => by simp [execOp, go_sem, h]) (fun _ => rfl)
    · exact q_loadInt (off := 0) hp (free_of rfl) trivial (List.mem_iff_getElem?.2 ⟨1, rfl⟩) (.inl rfl) (Nat.le_of_ble_eq_true rfl) (sq_in 0 rfl rfl (by simp) rfl (fun v w h => h)) (fun us w hl h => ld_pn hl h)
    · exact q_addr (b := b2) (off := 0) (off' := 0) hp (free_of rfl) trivial (sq_out rfl rfl (fun _ _ => rfl)) (fun ρ w h => by simp [execOp, go_sem, h]) (fun _ => rfl)
    · exact q_loadInt (off := 0) hp (free_of rfl) trivial (List.mem_iff_getElem?.2 ⟨0, rfl⟩) (.inl rfl) (Nat.le_of_ble_eq_true rfl) (sq_in 2 rfl rfl (by simp) rfl (fun v w h => h)) (fun us w hl h => ld_pn hl h)
    · exact q_call2 (F := (Fq.num n).P) (G := (Fq.num (n')).P) hp (free_of rfl) trivial (enq_R_Same) (sq_in 1 rfl rfl (by simp) rfl (fun v w h => h)) (sq_in 3 rfl rfl (by simp) rfl (fun v w h => h)) (fun v v' w h h' => exRSameB h h' (by rw [decide_eq_false hc]))
    · exact q_move hp (free_of rfl) trivial (sq_in 4 rfl rfl (by simp) rfl (fun v w h => h))
    · exact q_skip hp (free_of rfl) rfl (gq_some rfl rfl (by simp) rfl (fun v w h => h)) (fun _ => rfl)
    · exact q_skip hp (free_of rfl) rfl (gq_some rfl rfl (by simp) rfl (fun v w h => h)) (fun _ => rfl)
    · exact q_skip hp (free_of rfl) rfl (gq_some rfl rfl (by simp) rfl (fun v w h => h)) (fun _ => rfl)
    · exact q_skip hp (free_of rfl) rfl (gq_some rfl rfl (by simp) rfl (fun v w h => h)) (fun _ => rfl)
    · exact q_skip hp (free_of rfl) rfl (gq_some rfl rfl (by simp) rfl (fun v w h => h)) (fun _ => rfl)
    · exact q_two (F := fun v _ => v = .bool false) (G := fun v _ => v = .bool false) hp (free_of rfl) trivial (sq_in 5 rfl rfl (by simp) rfl (fun v w h => h)) (sq_const (fun _ => rfl)) (fun ρ w hc h h' => ⟨_, by simp [execOp, go_sem, h, h'], rfl⟩)
    · exact q_assign hp (free_of rfl) trivial (sq_in 11 rfl rfl (by simp) rfl (fun v w h => h))
    intro L vs w5 nb hL hC hn E5
    have e0 : vs 0 = .pointer (some ⟨b1, 0, none⟩) := hC 0 (by simp)
    have e2 : vs 2 = .pointer (some ⟨b2, 0, none⟩) := hC 2 (by simp)
    have e4 : vs 4 = .bool false := hC 4 (by simp)
    have e5 : vs 5 = .bool false := hC 5 (by simp)
    have e6 : vs 6 = undef := hC 6 (by simp)
    have e7 : vs 7 = undef := hC 7 (by simp)
    have e8 : vs 8 = undef := hC 8 (by simp)
    have e9 : vs 9 = undef := hC 9 (by simp)
    have e10 : vs 10 = undef := hC 10 (by simp)
    have e11 : vs 11 = .bool false := hC 11 (by simp)
    have e12 : vs 12 = .bool false := hC 12 (by simp)
    have E : Fr w [(b2, 4, Fq.pair (n') (d')), (b1, 4, Fq.pair n d)] w5 := E5
    rw [lay_all hL]
    simp only [putAll, dstOf, List.length_cons, List.length_nil, Nat.zero_add, Nat.reduceAdd, List.getElem?_toArray, List.getElem?_cons_zero, List.getElem?_cons_succ, Option.bind_some, Act.put, List.setIfInBounds_toArray, List.set_cons_succ, List.set_cons_zero]
    rw [e0, e2, e4, e5, e6, e7, e8, e9, e10, e11, e12]
    generalize vs 1 = u5_1
    generalize vs 3 = u5_3
    clear e0 e2 e4 e5 e6 e7 e8 e9 e10 e11 e12 hC hn E5 hL vs L nb
    go_wp2
    refine bodyPost_ret (v := .bool false) ?_ rfl (by first | exact ⟨_, rfl, E.below, by simp [hc]⟩ | exact ⟨_, rfl, E.below⟩ | exact ⟨rfl, E.below⟩)
    simp [results, Tryz.results13, go_sem]

end Go.Proofs.YtoimphnhmpmipaaGreat

/- Decimal texts: what a text says, and that it is the only text of its number. Nothing of the program is used. Walk: a size times ten and a digit, in its place. Walks: read, whole. Walk: Parse, whole. -/
namespace Go.Proofs.YtoimphnhmpmipaaGreat
open Go Go.RowKit

/-- The bytes of a string. -/
def bys (s : ByteArray) : List Int := s.data.toList.map (fun b => (b.toNat : Int))

theorem bys_len (s : ByteArray) : (bys s).length = s.size := by unfold bys; rw [List.length_map]; rfl
theorem bys_at (s : ByteArray) {j : Nat} (h : j < s.size) : (bys s).getD j 0 = ((s[j]'h).toNat : Int) := by
  have h2 : j < s.data.size := h
  unfold bys List.getD
  rw [List.getElem?_map, Array.getElem?_toList, Array.getElem?_eq_getElem h2]
  rfl
theorem bys_tail (s : ByteArray) : bys (s.extract 1 s.size) = (bys s).drop 1 := by
  unfold bys
  rw [ByteArray.data_extract, Array.toList_extract, List.extract_eq_take_drop, List.map_take, List.map_drop, List.take_of_length_le]
  rw [List.length_drop, List.length_map, Array.length_toList]
  exact Nat.le_refl _

/-- The number that decimal digits say, the first one being the greatest. -/
def dval (ds : List Int) : Int := ds.foldl (fun a d => 10 * a + (d - 48)) 0

theorem dval_snoc (ds : List Int) (d : Int) : dval (ds ++ [d]) = 10 * dval ds + (d - 48) := by simp [dval]
theorem dval_take {ds : List Int} {k : Nat} (h : k < ds.length) : dval (ds.take (k + 1)) = 10 * dval (ds.take k) + (ds.getD k 0 - 48) := by
  rw [List.take_add_one, List.getElem?_eq_getElem h]
  show dval (ds.take k ++ [ds[k]]) = _
  rw [dval_snoc]
  simp [List.getD, h]

/-- These bytes are all digits. -/
def Dgs (l : List Int) : Prop := ∀ d ∈ l, 48 ≤ d ∧ d ≤ 57

theorem dval_nonneg {l : List Int} (h : Dgs l) : ∀ k, k ≤ l.length → 0 ≤ dval (l.take k)
  | 0, _ => by simp [dval]
  | k + 1, hk => by
    rw [dval_take (by omega)]
    have h1 := dval_nonneg h k (by omega)
    have h2 := h (l[k]'(by omega)) (List.getElem_mem _)
    have h3 : l.getD k 0 = l[k]'(by omega) := by simp [List.getD, show k < l.length by omega]
    omega

theorem dval_decs : ∀ (k n : Nat), n ≤ k → dval (decs n).reverse = n
  | 0, n, h => by
    have : n = 0 := by omega
    rw [this, decs_zero]; rfl
  | k + 1, n, h => by
    by_cases h0 : n = 0
    · rw [h0, decs_zero]; rfl
    · rw [decs_pos (by omega), List.reverse_cons, dval_snoc, dval_decs k (n / 10) (by omega)]
      omega

theorem dval_size (n : Nat) : dval (sizeText n) = n := by
  unfold sizeText
  split
  · rename_i h; rw [h]; rfl
  · exact dval_decs n n (Nat.le_refl _)

theorem decs_last : ∀ (k n : Nat), n ≤ k → 0 < n → (decs n).reverse.getD 0 0 ≠ 48
  | 0, n, h, h0 => by omega
  | k + 1, n, h, h0 => by
    rw [decs_pos h0, List.reverse_cons]
    by_cases h1 : n / 10 = 0
    · rw [h1, decs_zero]
      simp
      omega
    · have h2 := decs_last k (n / 10) (by omega) (by omega)
      have h3 := mt decs_ne.1 h1
      have h4 : 0 < (decs (n / 10)).reverse.length := by
        rw [List.length_reverse]; exact List.length_pos_iff.2 h3
      have h5 : ((decs (n / 10)).reverse ++ [48 + ((n % 10 : Nat) : Int)]).getD 0 0 = (decs (n / 10)).reverse.getD 0 0 := by
        simp only [List.getD, List.getElem?_append_left h4]
      rw [h5]
      exact h2

/-- Digits without a zero in front, or the zero. -/
def Dec (t : List Int) : Prop := t ≠ [] ∧ Dgs t ∧ (t.getD 0 0 = 48 → t.length = 1)

theorem dec_size (n : Nat) : Dec (sizeText n) := by
  refine ⟨fun h => ?_, sizeText_dig n, fun h => ?_⟩
  · have := sizeText_pos n
    rw [h] at this; simp at this
  · unfold sizeText at h ⊢
    split
    · rfl
    · rename_i h0
      rw [if_neg h0] at h
      exact absurd h (decs_last n n (Nat.le_refl _) (by omega))

theorem decs_dval : ∀ (r : List Int), Dgs r.reverse → r ≠ [] → r.reverse.getD 0 0 ≠ 48 → 0 < dval r.reverse ∧ decs (dval r.reverse).toNat = r
  | [], _, h, _ => absurd rfl h
  | [d], hd, _, h => by
    have h1 := hd d (by simp)
    have h2 : d ≠ 48 := by simpa using h
    have e : dval [d].reverse = d - 48 := by simp [dval]
    rw [e]
    refine ⟨by omega, ?_⟩
    rw [decs_pos (by omega), show (d - 48).toNat / 10 = 0 by omega, decs_zero]
    congr 1
    omega
  | d :: x :: r, hd, _, h => by
    have h1 := hd d (by simp)
    have hd2 : Dgs (x :: r).reverse := fun y hy => hd y (by rw [List.reverse_cons]; exact List.mem_append_left _ hy)
    have hl : 0 < (x :: r).reverse.length := by simp
    have h5 : (d :: x :: r).reverse.getD 0 0 = (x :: r).reverse.getD 0 0 := by
      rw [List.reverse_cons]
      simp only [List.getD, List.getElem?_append_left hl]
    rw [h5] at h
    obtain ⟨i1, i2⟩ := decs_dval (x :: r) hd2 (by simp) h
    have e : dval (d :: x :: r).reverse = 10 * dval (x :: r).reverse + (d - 48) := by
      rw [List.reverse_cons, dval_snoc]
    rw [e]
    refine ⟨by omega, ?_⟩
    rw [decs_pos (by omega), show (10 * dval (x :: r).reverse + (d - 48)).toNat / 10 = (dval (x :: r).reverse).toNat by omega, i2]
    congr 1
    omega

/-- Without a zero in front, the number is not 0. -/
theorem dec_posv {t : List Int} (h : Dec t) (h0 : t.getD 0 0 ≠ 48) : 0 < dval t := by
  have := (decs_dval t.reverse (by simpa using h.2.1) (by simpa using h.1) (by simpa using h0)).1
  simpa using this

/-- A number has one text. -/
theorem dec_text {t : List Int} (h : Dec t) : sizeText (dval t).toNat = t := by
  by_cases h0 : t.getD 0 0 = 48
  · have hl := h.2.2 h0
    match t, hl with
    | [d], _ =>
      have : d = 48 := by simpa using h0
      subst this
      simp [dval, sizeText]
  · obtain ⟨i1, i2⟩ := decs_dval t.reverse (by simpa using h.2.1) (by simpa using h.1) (by simpa using h0)
    simp only [List.reverse_reverse] at i1 i2
    unfold sizeText
    rw [if_neg (by omega), i2, List.reverse_reverse]

theorem dec_head {t : List Int} (h : Dec t) : t.getD 0 0 ≠ 45 := by
  match t, h.1 with
  | d :: r, _ =>
    have := h.2.1 d (by simp)
    simp
    omega

/-- The number that a text says. -/
def tval (s : List Int) : Int := if s.getD 0 0 = 45 then -dval (s.drop 1) else dval s

theorem tval_text (z : Int) : tval (intText z) = z := by
  unfold intText
  split
  · unfold tval
    rw [if_pos (by simp)]
    simp only [List.drop_succ_cons, List.drop_zero]
    rw [dval_size]
    omega
  · unfold tval
    rw [if_neg (dec_head (dec_size _)), dval_size]
    omega

/-- A string is the text of a number. -/
def IsText (s : List Int) : Prop := ∃ z, intText z = s

theorem isText_plain {s : List Int} (h : s.getD 0 0 ≠ 45) : IsText s ↔ Dec s := by
  constructor
  · rintro ⟨z, rfl⟩
    unfold intText at h ⊢
    split
    · rename_i h0
      rw [if_pos h0] at h
      exact absurd (by simp) h
    · exact dec_size _
  · intro hd
    have h0 := dval_nonneg hd.2.1 s.length (Nat.le_refl _)
    rw [List.take_length] at h0
    refine ⟨dval s, ?_⟩
    unfold intText
    rw [if_neg (by omega), show (dval s).natAbs = (dval s).toNat by omega]
    exact dec_text hd

theorem isText_minus {s : List Int} (h : s.getD 0 0 = 45) : IsText s ↔ Dec (s.drop 1) ∧ (s.drop 1).getD 0 0 ≠ 48 := by
  obtain ⟨t, rfl⟩ : ∃ t, s = 45 :: t := by
    match s, h with
    | [], h => simp at h
    | d :: t, h => exact ⟨t, by simp at h; rw [h]⟩
  simp only [List.drop_succ_cons, List.drop_zero]
  constructor
  · rintro ⟨z, hz⟩
    unfold intText at hz
    split at hz
    · rename_i h0
      injection hz with _ h2
      rw [← h2]
      refine ⟨dec_size _, ?_⟩
      unfold sizeText
      rw [if_neg (by omega)]
      exact decs_last _ _ (Nat.le_refl _) (by omega)
    · exfalso
      have := dec_head (dec_size z.natAbs)
      rw [hz] at this
      simp at this
  · rintro ⟨hd, h0⟩
    have h1 := dec_posv hd h0
    refine ⟨-dval t, ?_⟩
    unfold intText
    rw [if_pos (by omega), show (-dval t).natAbs = (dval t).toNat by omega, dec_text hd]

theorem tval_plain {s : List Int} (h : s.getD 0 0 ≠ 45) : tval s = dval s := if_neg h
theorem tval_minus {s : List Int} (h : s.getD 0 0 = 45) : tval s = -dval (s.drop 1) := if_pos h

end Go.Proofs.YtoimphnhmpmipaaGreat

namespace Go.Proofs.YtoimphnhmpmipaaGreat
open Go Go.RowKit

theorem Ow.set {w : World} {B g n c : Nat} {zs : List Int} (h : Ow w B (.slice (some ⟨g, 0, none⟩) n c) zs) {j : Nat} (hj : j < n) {x : Int} (hx0 : 0 ≤ x) (hx1 : x < 4294967296) : Ow (w.setCell ⟨g, j, none⟩ (.int .u32 x)) B (.slice (some ⟨g, 0, none⟩) n c) (zs.set j x) := by
  obtain ⟨⟨h1, h2⟩, h3⟩ := h
  rcases h2 with ⟨h4, _⟩ | ⟨g', cap, cur, h4, h5, h6, h7, h8, h9, h10⟩
  · cases h4
  · cases h4
    refine ⟨⟨by simp, .inr ⟨g, c, cur.setIfInBounds j (.int .u32 x), by rw [List.length_set], h5, ?_, by rw [List.length_set]; exact h7, h8, by simpa using h9, ?_⟩⟩, h3.set j ⟨hx0, hx1⟩⟩
    · simp only [World.setCell, Array.getElem?_modify, if_true, h6, Option.map_some, Option.isSome_none]
      simp
    · rw [List.length_set, Array.toList_setIfInBounds, List.take_set, h10, List.map_set]

theorem Ow.stepB {w wr w1 : World} {B : Nat} {v v' : Value} {zs : List Int} {d : Int} {o : Obj} (h : Ow wr B v zs) (hnx : Below B w wr) (hs : B ≤ wr.heap.size) (hd0 : 0 ≤ d) (hd1 : d < 4294967296)
    (hown' : w1.ownsRow B 79 1 v' (zs.length + 1) (zs.map (Value.int .u32) ++ [.int .u32 d])) (hgrow : (wr.alloc o).grownBy w1 v.ownBlock) :
    Ow w1 B v' (zs ++ [d]) ∧ Below B w w1 := by
  refine ⟨⟨by simpa using hown', fun y hy => ?_⟩, ?_⟩
  · rcases List.mem_append.1 hy with h1 | h1
    · exact h.2 y h1
    · simp at h1; subst h1; exact ⟨hd0, hd1⟩
  · exact (hnx.alloc hs o).grown hgrow (by simp; omega) (fun j hj => (World.ownsRow.lt h.1 j hj).1)

theorem ten_step {k : Nat} {us zs : List Int} {q d x : Int} (hk : k < us.length) (h : val (us.take k) + pw k * q = 10 * val (zs.take k) + d) (hx : zs.getD k 0 = x) :
    val ((us.set k ((10 * x + q) % 4294967296)).take (k + 1)) + pw (k + 1) * ((10 * x + q) / 4294967296) = 10 * val (zs.take (k + 1)) + d := by
  rw [val_take_succ, val_take_set _ _ _ _ (Nat.le_refl _), getD_set _ _ _ hk, val_take_succ, hx]
  have h1 := pw_split k (10 * x + q)
  rw [Int.mul_add] at h1
  have h2 : pw k * (10 * x) = 10 * (pw k * x) := by ac_rfl
  rw [Int.mul_add]
  omega

set_option maxRecDepth 20000 in
set_option maxHeartbeats 1000000 in
theorem tenTimes_any (w : World) (B : Nat) (ao : Option Addr) (c : Nat) (zs : List Int) (hO : Ow w B (.slice ao zs.length c) zs) (hBs : B ≤ w.heap.size) (hn : zs.length ≤ 4000000) (d : Int) (hd0 : 0 ≤ d) (hd1 : d ≤ 9) :
    Calls Tryz.prog 129 #[.slice ao zs.length c, .int .u32 d] w fun e w' => ∃ ao' c' zs', e = .returned (.slice ao' zs'.length c') ∧ Ow w' B (.slice ao' zs'.length c') zs' ∧ val zs' = 10 * val zs + d ∧ zs'.length ≤ zs.length + 1 ∧ (zs'.length = zs.length ∨ 0 < val zs') ∧ Below B w w' := by
  obtain ⟨i0, hi, hz0, hz1, hz2⟩ := info_parts info_word
  have hdd := hidd hO.2
  go_enter Tryz.func129, Tryz.ntmps129
  go_wp2
  go_loopw [5, 13] (fun vc vi wr => ∃ (k : Nat) (q : Int) (us : List Int), k ≤ zs.length ∧ vi = .int .i64 k ∧ vc = .int .u64 q ∧ 0 ≤ q ∧ q ≤ 9 ∧ Ow wr B (.slice ao zs.length c) us ∧ us.length = zs.length ∧ us.drop k = zs.drop k ∧ val (us.take k) + pw k * q = 10 * val (zs.take k) + d ∧ Below B w wr) (fun _ vi _ => zs.length - (intOf vi).toNat)
  case atStart => exact ⟨0, d, zs, Nat.zero_le _, rfl, rfl, hd0, hd1, hO, rfl, rfl, by simp [val, pw_zero], Below.refl _ _⟩
  case round =>
    obtain ⟨k, q, us, hk, rfl, rfl, hq0, hq1, hU, hul, hdr, hv, hB⟩ := hrel
    have HUL := hidd hul
    have HDR := hidd hdr
    have HV := hidd hv
    clear hul hdr hv
    by_cases hkn : k < zs.length
    · obtain ⟨g, rfl⟩ : ∃ g, ao = some ⟨g, 0, none⟩ := by
        rcases hU.1.2 with ⟨h1, h2⟩ | ⟨g, cap', cur, h1, _⟩
        · have := HUL.out; omega
        · injection h1 with h2 h3 h4; exact ⟨g, h2⟩
      obtain ⟨hM, hg, _⟩ := hU.mine
      obtain ⟨x, hx⟩ : ∃ x, us.getD k 0 = x := ⟨_, rfl⟩
      have hcell := hM.cell hkn
      have hxd := hM.digs.getD k
      rw [hx] at hcell hxd
      have hfr := hM.frozen k
      have Hx := hidd hx
      clear hx
      go_wp2
      go_roundw
      case rel =>
        have e1 : zs.getD k 0 = x := by
          have := congrArg (fun l => l.getD 0 0) HDR.out
          simp only [getD_drop, Nat.add_zero] at this
          rw [← this]; exact Hx.out
        refine ⟨k + 1, (10 * x + q) / 4294967296, us.set k ((10 * x + q) % 4294967296), by omega, by go_num, by go_num, by omega, by omega, hU.set hkn (by omega) (by omega), by rw [List.length_set]; exact HUL.out, ?_, ten_step (by rw [HUL.out]; exact hkn) HV.out e1, hB.setCell hg _⟩
        rw [List.drop_set_of_lt (by omega), ← List.drop_drop, HDR.out, List.drop_drop]
      case measure => simp [intOf]; omega
    · have hkl : k = zs.length := by omega
      have HE : Hid (val us + pw zs.length * q = 10 * val zs + d) := by
        have h1 := HV.out
        rw [hkl, val_take_all us (by rw [HUL.out]; omega), List.take_length] at h1
        exact h1
      have HO := hU.1
      have hsz := hB.size
      have hBw : B ≤ wr.heap.size := by omega
      have hulb : us.length ≤ 4000000 := by have := HUL.out; omega
      clear hsz
      rcases (by omega : q = 0 ∨ 0 < q) with hq | hq
      · have HQ := hidd hq
        have hq2 : ¬ (0 < q) := by omega
        clear hq hkl
        go_wp2
        go_ret
        refine ⟨ao, c, us, by rw [HUL.out]; rfl, by rw [HUL.out]; exact hU, ?_, by rw [HUL.out]; omega, .inl HUL.out, hB⟩
        have h1 := HE.out
        rw [HQ.out, Int.mul_zero, Int.add_zero] at h1
        exact h1
      · have hqm : q % 4294967296 = q := by omega
        clear hkl
        go_wp2_with (first | (at_builtin; refine wpList_append_own _ rfl _ _ 22 rfl B 79 i0 (.int .u32 0) 1 4 Tryz.underlying22 hi hz0 hz1 hz2 rfl (by decide) _ _ _ rfl (World.ownsRow.alloc HO _) ⟨_, 0, none⟩ 1 1 [.int .u32 q] rfl rfl (one_at _ _ _) (by intro u hu; simp at hu; subst hu; rfl) (by unfold maxLen; omega) (by omega) (by simp; omega) ?_; intro v' w5 hown' hgrow _) | go_in)
        obtain ⟨hO2, hB2⟩ := hU.stepB hB hBw hq0 (by omega) hown' hgrow
        have HPOS : Hid (0 < val (us ++ [q])) := by
          have h1 := val_nonneg hU.2
          have h2 := Int.mul_pos (pw_pos us.length) hq
          show 0 < _
          rw [val_snoc]
          omega
        clear hown' hgrow hU hB HO
        obtain ⟨ao2, c2, rfl⟩ := hO2.shape
        go_wp2
        go_ret
        refine ⟨ao2, c2, us ++ [q], rfl, hO2, ?_, by rw [List.length_append, HUL.out]; simp, .inr HPOS.out, hB2⟩
        rw [val_snoc, HUL.out]
        exact HE.out

end Go.Proofs.YtoimphnhmpmipaaGreat

namespace Go.Proofs.YtoimphnhmpmipaaGreat
open Go Go.RowKit

theorem Ow.iterAt {w : World} {B : Nat} {v : Value} {zs : List Int} (h : Ow w B v zs) {k : Nat} (hk : k < B) (s : ByteArray) (p : Nat) : Ow (w.iterAt k s p) B v zs := by
  obtain ⟨⟨h1, h2⟩, h3⟩ := h
  refine ⟨⟨h1, ?_⟩, h3⟩
  rcases h2 with ⟨h4, h5⟩ | ⟨g, cap, cur, h4, h5, h6, h7⟩
  · exact .inl ⟨h4, h5⟩
  · exact .inr ⟨g, cap, cur, h4, h5, (Go.Lib.iterAt_other w k g s p (by omega)).trans h6, h7⟩

theorem Ow.nil (w : World) (B : Nat) : Ow w B (.slice none 0 0) [] := ⟨World.ownsRow_nil _ _ _ _, fun _ h => by simp at h⟩

/-- What 'read' returns. -/
def ReadGives (w : World) (t : List Int) (e : Ending) (w' : World) : Prop :=
  Below w.heap.size w w' ∧ ((¬ Dec t ∧ e = .returned (.tuple #[.slice none 0 0, .bool false])) ∨
    (Dec t ∧ ∃ ao c zs, e = .returned (.tuple #[.slice ao zs.length c, .bool true]) ∧ Sl w' ao zs.length c zs ∧ zs.length ≤ 1300 ∧ val zs = dval t ∧ (dval t = 0 → zs.length = 0)))

/-- The rune that a range over a string comes to. -/
theorem rune_at (s : ByteArray) {k : Nat} (h : k < s.size) (B : Nat) : ∃ (x : Int) (p : Nat), (∀ (W : World) (_ : W.heap[B]? = some (.stringIter s k)) (ty : TypeId), (Instr.next (.pointer (some ⟨B, 0, none⟩)) true ty).run Tryz.prog W = .ok (.tuple #[.bool true, .int .i64 k, .int .i32 x]) (W.iterAt B s p)) ∧
    ((48 ≤ x ∧ x ≤ 57 ∧ (bys s).getD k 0 = x ∧ p = k + 1) ∨ ((x < 48 ∨ (¬ x < 48 ∧ 57 < x)) ∧ ¬ (48 ≤ (bys s).getD k 0 ∧ (bys s).getD k 0 ≤ 57))) := by
  by_cases ha : (s[k]'h).toNat < 128
  · refine ⟨((s[k]'h).toNat : Nat), k + 1, fun W hk ty => Go.Lib.run_next_ascii_at W B s k ty hk h ha, ?_⟩
    rw [bys_at s h]
    omega
  · refine ⟨((Utf8.decode s k).1 : Nat), k + (Utf8.decode s k).2, fun W hk ty => Go.Lib.run_next_any_at W B s k ty hk h, .inr ?_⟩
    have h1 := (decode_high s k h (by omega)).1
    rw [bys_at s h]
    omega

theorem not_dec {s : ByteArray} {k : Nat} (h : k < s.size) (hn : ¬ (48 ≤ (bys s).getD k 0 ∧ (bys s).getD k 0 ≤ 57)) : ¬ Dec (bys s) := by
  intro hd
  have hl := bys_len s
  refine hn (hd.2.1 _ ?_)
  have : (bys s).getD k 0 = (bys s)[k]'(by omega) := by simp [List.getD, show k < (bys s).length by omega]
  rw [this]
  exact List.getElem_mem _

theorem dgs_step {l : List Int} {k : Nat} (h : Dgs (l.take k)) (hk : k < l.length) (h0 : 48 ≤ l.getD k 0) (h1 : l.getD k 0 ≤ 57) : Dgs (l.take (k + 1)) := by
  intro d hd
  rw [List.take_add_one, List.getElem?_eq_getElem hk] at hd
  rcases List.mem_append.1 hd with h2 | h2
  · exact h d h2
  · have e : l.getD k 0 = l[k] := by simp [List.getD, hk]
    have : d = l[k] := by simpa using h2
    omega

set_option maxRecDepth 20000 in
set_option maxHeartbeats 2000000 in
theorem read_any (w : World) (s : ByteArray) (hs : s.size ≤ 1300) : Calls Tryz.prog 114 #[.string s] w (ReadGives w (bys s)) := by
  by_cases h0 : s.size = 0
  · have he : s = { data := #[] } := by
      apply ByteArray.ext
      exact Array.eq_empty_of_size_eq_zero h0
    subst he
    go_enter Tryz.func114, Tryz.ntmps114
    go_wp2
    refine bodyPost_ret (v := .tuple #[.slice none 0 0, .bool false]) ?_ rfl ⟨Below.refl _ _, .inl ⟨fun h => h.1 rfl, rfl⟩⟩
    simp [results, Tryz.results114, go_sem]
  · have hsz : 0 < s.size := by omega
    have hat := bys_at s hsz
    have hll := bys_len s
    have hne0 : ¬ s.toList = [] := by
      rw [ByteArray.toList_eq]
      intro h
      have h2 : s.data.toList.length = 0 := by rw [h]; rfl
      rw [Array.length_toList] at h2
      exact h0 h2
    have hne : (s.toList = []) = False := eq_false hne0
    have hie : s.toList.isEmpty = false := List.isEmpty_eq_false_iff.2 hne0
    clear hne0
    obtain ⟨x0, hx0⟩ : ∃ x0 : Int, ((s[0]'hsz).toNat : Int) = x0 := ⟨_, rfl⟩
    rw [hx0] at hat
    have HAT := hidd hat
    have HLL := hidd hll
    clear hat hll
    have hcase : (x0 = 48 ∧ 1 < s.size) ∨ (x0 = 48 ∧ ¬ 1 < s.size) ∨ x0 ≠ 48 := by omega
    rcases hcase with ⟨h48, h1⟩ | hcase
    · subst h48
      have h1i : ((1 : Int) < (s.size : Int)) = True := by simp; omega
      go_enter Tryz.func114, Tryz.ntmps114
      go_wp2
      refine bodyPost_ret (v := .tuple #[.slice none 0 0, .bool false]) ?_ rfl ⟨Below.refl _ _, .inl ⟨fun h => ?_, rfl⟩⟩
      · simp [results, Tryz.results114, go_sem]
      · have := h.2.2 HAT.out
        rw [HLL.out] at this; omega
    · have HCASE : Hid ((bys s).getD 0 0 = 48 → (bys s).length = 1) := by
        intro h
        rw [HAT.out] at h
        rw [HLL.out]; omega
      obtain ⟨W0, hW0, hit, hb0, hB0⟩ : ∃ W0, W0 = w.iter s 0 ∧ W0.heap[w.heap.size]? = some (.stringIter s 0) ∧ Below w.heap.size w W0 ∧ w.heap.size + 1 ≤ W0.heap.size := ⟨_, rfl, World.iter_heap w s 0, alloc_below w _, by simp [World.iter]⟩
      rcases hcase with ⟨h48, h1⟩ | h48
      case' inl =>
        subst h48
        have h1i : ((1 : Int) < (s.size : Int)) = False := by simp; omega
      case' inr =>
        have h1i : (x0 = 48) = False := eq_false h48
      all_goals
        go_enter Tryz.func114, Tryz.ntmps114
        go_upto_region 5 with (fail)
        rw [← hW0]
        clear hW0 h1i hx0 hne hie
        go_loopw [4] (fun v wr => ∃ (k : Nat) (zs : List Int), k ≤ s.size ∧ Ow wr (w.heap.size + 1) v zs ∧ wr.heap[w.heap.size]? = some (.stringIter s k) ∧ zs.length ≤ k ∧ val zs = dval ((bys s).take k) ∧ Dgs ((bys s).take k) ∧ (val zs = 0 → zs.length = 0) ∧ Below w.heap.size w wr ∧ w.heap.size + 1 ≤ wr.heap.size) (fun _ wr => s.size - wr.iterPos w.heap.size)
        case atStart => exact ⟨0, [], by omega, Ow.nil _ _, hit, by simp, rfl, fun _ h => by simp at h, fun _ => rfl, hb0, hB0⟩
        case round =>
          obtain ⟨k, zs, hk, hO, hit, hzk, hv, hD, hZ, hB, hBs⟩ := hrel
          have HZ := hidd hZ
          have hvn := val_nonneg hO.2
          have HVN := hidd hvn
          clear hZ hvn
          have HV := hidd hv
          have HD := hidd hD
          have HIT := hidd hit
          clear hv hD
          obtain ⟨az, cz, rfl⟩ := hO.shape
          by_cases hkl : k < s.size
          · obtain ⟨x, p, hrun, hx⟩ := rune_at s hkl w.heap.size
            have hn := hrun wr hit
            clear hrun
            have hO1 := hO.iterAt (Nat.lt_succ_self _) s p
            have hB1 := Go.Lib.below_iterAt hB (Nat.le_refl _) s p
            have hS1 : w.heap.size + 1 ≤ (wr.iterAt w.heap.size s p).heap.size := by rw [Go.Lib.iterAt_size]; exact hBs
            have hI1 := Go.Lib.iterAt_heap wr w.heap.size s k p hit
            obtain ⟨W1, hW1⟩ : ∃ W1, W1 = wr.iterAt w.heap.size s p := ⟨_, rfl⟩
            rw [← hW1] at hn hO1 hB1 hS1 hI1
            clear hW1 hit hO hB hBs
            rcases hx with ⟨hx0, hx1, hxb, hp⟩ | ⟨hx, hnd⟩
            · have HXB := hidd hxb
              have HP := hidd hp
              have hxm : (x - 48) % 4294967296 = x - 48 := by omega
              have hzl : zs.length ≤ 4000000 := by omega
              clear hxb hp
              go_wp2_with fail
              refine (tenTimes_any _ (w.heap.size + 1) az cz zs hO1 hS1 hzl (x - 48) (by omega) (by omega)).mono ?_
              rintro e w2 ⟨a2, c2, zs2, rfl, hO2, hv2, hl2, hl3, hB2⟩
              have HL3 := hidd hl3
              clear hl3
              go_wp2
              go_roundw
              case rel =>
                have hI2 : w2.heap[w.heap.size]? = some (.stringIter s p) := by rw [hB2.block _ (Nat.lt_succ_self _)]; exact hI1
                rw [HP.out] at hI2
                refine ⟨k + 1, zs2, by omega, hO2, hI2, by omega, ?_, dgs_step HD.out (by rw [HLL.out]; exact hkl) (by rw [HXB.out]; exact hx0) (by rw [HXB.out]; exact hx1), ?_, ?_, ?_⟩
                · rw [hv2, HV.out, dval_take (by rw [HLL.out]; exact hkl), HXB.out]
                · intro h
                  have h1 := HVN.out
                  have h2 := HZ.out
                  have h3 := HL3.out
                  omega
                · exact hB1.trans (hB2.mono (Nat.le_succ _))
                · have := hB2.size; omega
              case measure =>
                have hI2 : w2.heap[w.heap.size]? = some (.stringIter s p) := by rw [hB2.block _ (Nat.lt_succ_self _)]; exact hI1
                simp only [World.iterPos, hI2, HIT.out]
                have := HP.out
                omega
            · have hN := not_dec hkl hnd
              clear hnd
              rcases hx with hx | ⟨hx, hx2⟩
              all_goals
                go_wp2
                refine bodyPost_ret (v := .tuple #[.slice none 0 0, .bool false]) ?_ rfl ⟨hB1, .inl ⟨hN, rfl⟩⟩
                simp [results, Tryz.results114, go_sem]
          · have hn := fun ty => Go.Lib.run_next_end_at (P := Tryz.prog) wr w.heap.size s k ty hit hkl
            obtain ⟨ao, c, he, hS⟩ := hO.sl
            cases he
            have HKL := hidd hkl
            have hkl2 : k = s.size := by omega
            have HK := hidd hkl2
            clear hkl2 hkl
            go_wp2
            refine bodyPost_ret (v := .tuple #[.slice az zs.length cz, .bool true]) ?_ rfl ⟨hB, .inr ⟨⟨?_, ?_, HCASE.out⟩, az, cz, zs, rfl, hS, by omega, ?_, ?_⟩⟩
            · simp [results, Tryz.results114, go_sem]
            · intro h
              have h2 := HLL.out
              rw [h] at h2; simp at h2; omega
            · have := HD.out
              rw [HK.out, ← HLL.out, List.take_length] at this
              exact this
            · rw [HV.out, HK.out, ← HLL.out, List.take_length]
            · intro h
              refine HZ.out ?_
              rw [HV.out, HK.out, ← HLL.out, List.take_length]
              exact h

end Go.Proofs.YtoimphnhmpmipaaGreat

namespace Go.Proofs.YtoimphnhmpmipaaGreat
open Go Go.RowKit

/-- What Parse returns. -/
def ParseGives (w : World) (t : List Int) (e : Ending) (w' : World) : Prop :=
  Below w.heap.size w w' ∧ ((1300 < t.length ∧ e = .returned (.tuple #[zeroV, .int .i64 2])) ∨ (t.length ≤ 1300 ∧ ¬ IsText t ∧ e = .returned (.tuple #[zeroV, .int .i64 3])) ∨
    (t.length ≤ 1300 ∧ IsText t ∧ ∃ v, e = .returned (.tuple #[v, .int .i64 0]) ∧ IsInt w' v (tval t)))

theorem not_text_nil : ¬ IsText [] := fun h => ((isText_plain (by simp)).1 h).1 rfl

set_option maxRecDepth 20000 in
set_option maxHeartbeats 2000000 in
theorem Parse_any (w : World) (s : ByteArray) : Calls Tryz.prog 106 #[.string s] w (ParseGives w (bys s)) := by
  have hll := bys_len s
  obtain ⟨w0, hw0, hC, hCb⟩ : ∃ w0, w0 = w.alloc (.cells #[.bool false, .slice none 0 0] 29) ∧ IntBox w0 w.heap.size (.bool false) (.slice none 0 0) ∧ Below w.heap.size w w0 := ⟨_, rfl, box1 _ _, alloc_below _ _⟩
  have HI := hidd hC
  by_cases hbig : 1300 < s.size
  · have hbi : ((1300 : Int) < (s.size : Int)) = True := by simp; omega
    have HBIG := hidd hbig
    clear hbig
    obtain ⟨c0, c1, c2, c3⟩ := hC
    go_enter Tryz.func106, Tryz.ntmps106
    go_upto_region 1 with (fail)
    rw [← hw0]
    clear hw0
    go_wp2
    refine bodyPost_ret (v := .tuple #[zeroV, .int .i64 2]) ?_ rfl ⟨(hCb.setCell (Nat.le_refl _) _).setCell (Nat.le_refl _) _, .inl ⟨by rw [hll]; exact HBIG.out, rfl⟩⟩
    simp [results, Tryz.results106, go_sem, c0, c1, zeroV]
  · have hbi : ((1300 : Int) < (s.size : Int)) = False := by simp; omega
    have HS := hidd (show s.size ≤ 1300 by omega)
    clear hbig
    by_cases h0 : s.size = 0
    · have he : s = { data := #[] } := by
        apply ByteArray.ext
        exact Array.eq_empty_of_size_eq_zero h0
      subst he
      obtain ⟨c0, c1, c2, c3⟩ := hC
      go_enter Tryz.func106, Tryz.ntmps106
      go_upto_region 1 with (fail)
      rw [← hw0]
      clear hw0
      go_wp2_with fail
      refine (read_any _ _ (by show (0 : Nat) ≤ 1300; omega)).mono ?_
      rintro e w1 ⟨hbr, ⟨hnd, rfl⟩ | ⟨hd, _⟩⟩
      · have hb1 := hCb.trans (hbr.mono hCb.size)
        have hC1 := HI.out.mono hbr HI.out.lt
        clear c0 c1 c2 c3
        obtain ⟨c0, c1, c2, c3⟩ := hC1
        go_wp2
        refine bodyPost_ret (v := .tuple #[zeroV, .int .i64 3]) ?_ rfl ⟨(hb1.setCell (Nat.le_refl _) _).setCell (Nat.le_refl _) _, .inr (.inl ⟨by rw [hll]; exact HS.out, not_text_nil, rfl⟩)⟩
        simp [results, Tryz.results106, go_sem, c0, c1, zeroV]

      · exact absurd rfl hd.1
    · have hsz : 0 < s.size := by omega
      have hszi : ((0 : Int) < (s.size : Int)) = True := by simp; omega
      have hat := bys_at s hsz
      obtain ⟨x0, hx0⟩ : ∃ x0 : Int, ((s[0]'hsz).toNat : Int) = x0 := ⟨_, rfl⟩
      rw [hx0] at hat
      have HAT := hidd hat
      clear hat
      by_cases h45 : x0 = 45
      · subst h45
        have HT := hidd (isText_minus HAT.out)
        have HV := hidd (tval_minus HAT.out)
        have htl := bys_tail s
        obtain ⟨t, ht⟩ : ∃ t, t = s.extract 1 s.size := ⟨_, rfl⟩
        rw [← ht] at htl
        have hts : t.size ≤ 1300 := by
          have h1 := bys_len t
          rw [htl, List.length_drop, hll] at h1
          have := HS.out
          omega
        rw [← htl] at HT HV
        obtain ⟨c0, c1, c2, c3⟩ := hC
        go_enter Tryz.func106, Tryz.ntmps106
        go_upto_region 1 with (fail)
        rw [← hw0]
        clear hw0
        go_upto_region 6 with (fail)
        rw [← ht]
        clear ht htl
        go_wp2_with fail
        refine (read_any _ _ hts).mono ?_
        rintro e w1 ⟨hbr, ⟨hnd, rfl⟩ | ⟨hd, ax, cx, zs, rfl, hsl, hzl, hzv, hz0⟩⟩
        all_goals
          have hb1 := hCb.trans (hbr.mono hCb.size)
          have hC1 := HI.out.mono hbr HI.out.lt
          clear c0 c1 c2 c3
          have HCX := hidd hC1
          obtain ⟨c0, c1, c2, c3⟩ := hC1
        · have HN := hidd hnd
          clear hnd
          go_wp2
          refine bodyPost_ret (v := .tuple #[zeroV, .int .i64 3]) ?_ rfl ⟨(hb1.setCell (Nat.le_refl _) _).setCell (Nat.le_refl _) _, .inr (.inl ⟨by rw [hll]; exact HS.out, fun h => HN.out (HT.out.1 h).1, rfl⟩)⟩
          simp [results, Tryz.results106, go_sem, c0, c1, zeroV]

        · have HD := hidd hd
          have HZV := hidd hzv
          have HZ0 := hidd hz0
          clear hd hzv hz0
          have hv0 := val_nonneg hsl.digs
          have HV0 := hidd hv0
          clear hv0
          by_cases hzz : zs.length = 0
          · have HN : Hid ((bys t).getD 0 0 = 48) := by
              show _ = _
              have h1 : val zs = 0 := by rw [List.eq_nil_of_length_eq_zero hzz]; rfl
              by_cases h2 : (bys t).getD 0 0 = 48
              · exact h2
              · have := dec_posv HD.out h2
                rw [← HZV.out, h1] at this; omega
            rw [hzz] at hsl ⊢
            go_wp2
            refine bodyPost_ret (v := .tuple #[zeroV, .int .i64 3]) ?_ rfl ⟨(hb1.setCell (Nat.le_refl _) _).setCell (Nat.le_refl _) _, .inr (.inl ⟨by rw [hll]; exact HS.out, fun h => (HT.out.1 h).2 HN.out, rfl⟩)⟩
            simp [results, Tryz.results106, go_sem, c0, c1, zeroV]

          · have hzb : ((zs.length : Int) == 0) = false := beq_eq_false_iff_ne.2 (by omega)
            have HN : Hid (¬ (bys t).getD 0 0 = 48) := by
              intro h2
              have h3 := HD.out.2.2 h2
              have h4 : bys t = [48] := by
                match hbt : bys t, h3 with
                | [d], _ => rw [hbt] at h2; simp at h2; rw [h2]
              have h5 : dval (bys t) = 0 := by rw [h4]; rfl
              exact hzz (HZ0.out h5)
            clear hzz
            go_wp2_with fail
            refine (signed_any _ true _ _ _ _ hsl (by omega)).mono ?_
            rintro e w3 ⟨v, rfl, ⟨ng, ao, nn, cc, rs, rfl, hrs, hrc, hrn, hrz⟩, hb3⟩
            have hbl3 := hb1.trans (hb3.mono hb1.size)
            have hC3 := HCX.out.mono hb3 HCX.out.lt
            have HC3 := hidd hC3
            have HRZ := hidd hrz
            clear hrz c0 c1 c2 c3
            obtain ⟨c0, c1, c2, c3⟩ := hC3
            go_wp2
            obtain ⟨v', hv', hi, hb⟩ := gives_store (z := sgn true (val zs)) HC3.out hrs hrc hrn HRZ.out hbl3 (Nat.le_refl _)
            cases hv'
            refine bodyPost_ret (v := .tuple #[.agg #[.bool ng, .slice ao nn cc], .int .i64 0]) ?_ rfl ⟨hb, .inr (.inr ⟨by rw [hll]; exact HS.out, HT.out.2 ⟨HD.out, HN.out⟩, _, rfl, by rw [HV.out, ← HZV.out]; exact hi⟩)⟩
            simp [results, Tryz.results106, go_sem, c0, c1]

      · have HT := hidd (isText_plain (s := bys s) (by rw [HAT.out]; exact h45))
        have HV := hidd (tval_plain (s := bys s) (by rw [HAT.out]; exact h45))
        have h45f : (x0 = 45) = False := eq_false h45
        have h45b : (x0 == 45) = false := beq_eq_false_iff_ne.2 h45
        clear h45
        obtain ⟨c0, c1, c2, c3⟩ := hC
        go_enter Tryz.func106, Tryz.ntmps106
        go_upto_region 1 with (fail)
        rw [← hw0]
        clear hw0
        go_wp2_with fail
        refine (read_any _ _ HS.out).mono ?_
        rintro e w1 ⟨hbr, ⟨hnd, rfl⟩ | ⟨hd, ax, cx, zs, rfl, hsl, hzl, hzv, hz0⟩⟩
        all_goals
          have hb1 := hCb.trans (hbr.mono hCb.size)
          have hC1 := HI.out.mono hbr HI.out.lt
          clear c0 c1 c2 c3
          have HCX := hidd hC1
          obtain ⟨c0, c1, c2, c3⟩ := hC1
        · have HN := hidd hnd
          clear hnd
          go_wp2
          refine bodyPost_ret (v := .tuple #[zeroV, .int .i64 3]) ?_ rfl ⟨(hb1.setCell (Nat.le_refl _) _).setCell (Nat.le_refl _) _, .inr (.inl ⟨by rw [hll]; exact HS.out, fun h => HN.out (HT.out.1 h), rfl⟩)⟩
          simp [results, Tryz.results106, go_sem, c0, c1, zeroV]

        · have HD := hidd hd
          have HZV := hidd hzv
          clear hd hzv hz0
          go_wp2_with fail
          refine (signed_any _ false _ _ _ _ hsl (by omega)).mono ?_
          rintro e w3 ⟨v, rfl, ⟨ng, ao, nn, cc, rs, rfl, hrs, hrc, hrn, hrz⟩, hb3⟩
          have hbl3 := hb1.trans (hb3.mono hb1.size)
          have hC3 := HCX.out.mono hb3 HCX.out.lt
          have HC3 := hidd hC3
          have HRZ := hidd hrz
          clear hrz c0 c1 c2 c3
          obtain ⟨c0, c1, c2, c3⟩ := hC3
          go_wp2
          obtain ⟨v', hv', hi, hb⟩ := gives_store (z := sgn false (val zs)) HC3.out hrs hrc hrn HRZ.out hbl3 (Nat.le_refl _)
          cases hv'
          refine bodyPost_ret (v := .tuple #[.agg #[.bool ng, .slice ao nn cc], .int .i64 0]) ?_ rfl ⟨hb, .inr (.inr ⟨by rw [hll]; exact HS.out, HT.out.2 HD.out, _, rfl, by rw [HV.out, ← HZV.out]; exact hi⟩)⟩
          simp [results, Tryz.results106, go_sem, c0, c1]

end Go.Proofs.YtoimphnhmpmipaaGreat

/- Walks: fractions made of descriptions; texts; Valid. -/
namespace Go.Proofs.YtoimphnhmpmipaaGreat
open Go Go.RowKit

/-- The fraction of a description. -/
def madeQ (n : Bool) (xs : List Int) (xs' : List Int) (n' : Bool) (j : Nat) : Rat :=
  Rat.divInt (sgn n (val (xs.take j))) (if ((sgn n' (val (xs'.take j))).natAbs : Int) = 0 then 1 else ((sgn n' (val (xs'.take j))).natAbs : Int))

theorem made_rb {n n' : Bool} {xs xs' : List Int} {j : Nat} (h : Digs xs) (h' : Digs xs') (hj : 1 ≤ j) : Rb (madeQ n xs xs' n' j) j := by
  have h1 := Num.ofMade (neg := n) (m := j) h
  have h2 := Num.ofMade (neg := n') (m := j) h'
  refine rb_divInt ?_ h1 ?_
  · split <;> omega
  · split
    · have := pw_le hj
      have e : pw 1 = 4294967296 := rfl
      unfold ab
      omega
    · unfold ab at *
      omega

theorem text_len {z : Int} {k : Nat} (hz : ab z < pw k) : (intText z).length ≤ 10 * k + 2 := by
  have h1 := pw_ten k
  have h2 : z.natAbs < 10 ^ (10 * k) := by unfold ab at hz; omega
  have h3 := decs_len _ _ h2
  have h4 := sizeText_le z.natAbs (10 * k + 1) (by omega) (by omega)
  unfold intText
  split
  · rw [List.length_cons]; omega
  · omega

theorem exTextI {w : World} {v : Value} {z : Int} (h : Num w v z) (hz : ab z < pw 100) : Calls Tryz.prog 78 #[v] w fun e w' => ∃ v', e = .returned v' ∧ Below w.heap.size w w' ∧ (Fq.tup2 (Fq.is (.string (bytesOf (intText z)))) (Fq.is (.int .i64 0))).P v' w' := by
  have hl := text_len hz
  refine (TextV w h).mono fun e w' hh => ?_
  rw [textOf_ok (by omega)] at hh
  exact ⟨_, hh.1, hh.2, _, _, rfl, rfl, rfl⟩

set_option maxRecDepth 100000 in
set_option maxHeartbeats 4000000 in
theorem exSMade {w : World} {n : Bool} {a : Option Addr} {k c : Nat} {xs : List Int} {n' : Bool} {a' : Option Addr} {k' c' : Nat} {xs' : List Int} {j : Nat} (hs : Sl w a k c xs) (hs' : Sl w a' k' c' xs') (hk : k ≤ 9223372036854775807) (hk' : k' ≤ 9223372036854775807) (hj : j ≤ 800) :
    Calls Tryz.prog 8 #[.agg #[.bool n, .slice a k c, .bool n', .slice a' k' c'], .int .i64 j] w fun e w' => ∃ v', e = .returned v' ∧ Below w.heap.size w w' ∧ Pair w' v' (madeQ n xs xs' n' j).num ((madeQ n xs xs' n' j).den : Int) := by
  have HJ := hidd hj
  have hk0 := hidd hk
  have hk1 := hidd hk'
  clear hk hk'
  obtain ⟨w1, b1, hw1, hb1, hs1, E⟩ := fr_start w (F := Fq.raw2 n a k c xs n' a' k' c' xs') (us := [.bool n, .slice a k c, .bool n', .slice a' k' c']) 26 rfl (by simp) (tame_rat _ _ _ _ _ _ _ _) (show (Fq.raw2 n a k c xs n' a' k' c' xs').P _ w from ⟨rfl, hs, hs'⟩)
  obtain ⟨w2, b2, hw2, hb2, hs2, E⟩ := fr_more E hs1 (F := Fq.pair 0 0) (us := [.bool false, .slice none 0 0, .bool false, .slice none 0 0]) 31 rfl (by simp) (tame_rat _ _ _ _ _ _ _ _) (Pair.zero _)
  go_enter Tryz.func8, Tryz.ntmps8
  go_upto_region 1 with (fail)
  rw [← hw1]
  rw [← hw2]
  rw [← hb2]
  rw [← hb1]
  clear hw1 hw2 hb1 hb2 hs2 hs1
  have B3 : Hid (ab ((Int.natAbs (sgn n' (val (xs'.take j))) : Int)) < pw 800) := ab_absB (Int.lt_of_lt_of_le (Num.ofMade hs'.digs) (pw_le HJ.out))
  refine region_fr (C := [Fq.is (.pointer (some ⟨b1, 2, none⟩)), Fq.raw n' a' k' c' xs', Fq.is (.int .i64 j), Fq.num (sgn n' (val (xs'.take j))), Fq.num (Int.natAbs (sgn n' (val (xs'.take j))) : Int), Fq.any, Fq.any]) (ks := [none, none]) (new := [⟨5, 6, 2, Fq.num 0, Fq.num (Int.natAbs (sgn n' (val (xs'.take j))) : Int), none⟩]) E rfl (by kernel_rfl) rfl rfl (fun hp => ⟨?_, ?_, ?_, ?_, ?_, ?_, ?_, trivial⟩) ?_
  · exact q_addr (b := b1) (off := 0) (off' := 2) hp (free_of rfl) trivial (sq_out rfl rfl (fun _ _ => rfl)) (fun ρ w h => by simp [execOp, go_sem, h]) (fun _ => rfl)
  · exact q_loadRaw (off := 2) hp (free_of rfl) trivial (List.mem_iff_getElem?.2 ⟨1, rfl⟩) (.inl rfl) (Nat.le_of_ble_eq_true rfl) (sq_in 0 rfl rfl (by simp) rfl (fun v w h => h)) (fun us w hl h => ld_raw2 hl h)
  · exact q_move hp (free_of rfl) trivial (sq_out rfl rfl (fun _ _ => rfl))
  · exact q_call2 (F := (Fq.raw n' a' k' c' xs').P) (G := (Fq.is (.int .i64 j)).P) hp (free_of rfl) trivial (enq_R_Made) (sq_in 1 rfl rfl (by simp) rfl (fun v w h => h)) (sq_in 2 rfl rfl (by simp) rfl (fun v w h => h)) (fun v v' w h h' => exRMade h h' hk1.out (by have := HJ.out; omega))
  · exact q_call1 (F := (Fq.num (sgn n' (val (xs'.take j)))).P) hp (free_of rfl) trivial (enq_R_Abs) (sq_in 3 rfl rfl (by simp) rfl (fun v w h => h)) (fun v w h => exK (RAbsV h) B3.out (by omega))
  · exact q_allocInt hp (List.mem_iff_getElem?.2 ⟨0, rfl⟩) rfl rfl rfl rfl (Nat.ne_of_beq_eq_false rfl) (fun _ _ => trivial) (old_ne rfl) (newk_ne rfl) (fun w => Num.zero w)
  · exact q_storeNewInt hp (List.mem_iff_getElem?.2 ⟨0, rfl⟩) rfl rfl rfl (own_ptr rfl rfl (by simp) rfl) (sq_in 4 rfl rfl (by simp) rfl (fun v w h => intV_num h)) (fun _ _ => trivial) (old_ne rfl) (newi_ne rfl)
  intro L vs w4 nb hL hC hn E4
  have e0 : vs 0 = .pointer (some ⟨b1, 2, none⟩) := hC 0 (by simp)
  have e2 : vs 2 = .int .i64 j := hC 2 (by simp)
  have e5 : vs 5 = .pointer (some ⟨nb 5, 0, none⟩) := hn _ (List.mem_iff_getElem?.2 ⟨0, rfl⟩)
  have E : Fr w [(nb 5, 2, Fq.num (Int.natAbs (sgn n' (val (xs'.take j))) : Int)), (b2, 4, Fq.pair 0 0), (b1, 4, Fq.raw2 n a k c xs n' a' k' c' xs')] w4 := E4
  rw [lay_all hL]
  simp only [putAll, dstOf, List.length_cons, List.length_nil, Nat.zero_add, Nat.reduceAdd, List.getElem?_toArray, List.getElem?_cons_zero, List.getElem?_cons_succ, Option.bind_some, Act.put, List.setIfInBounds_toArray, List.set_cons_succ, List.set_cons_zero]
  rw [e0, e2, e5]
  generalize nb 5 = b4_5 at E ⊢
  generalize vs 1 = u4_1
  generalize vs 3 = u4_3
  generalize vs 4 = u4_4
  clear e0 e2 e5 hC hn E4 hL vs L nb
  by_cases hc : (Int.natAbs (sgn n' (val (xs'.take j))) : Int) = 0
  · have T : Hid (cmpI (Int.natAbs (sgn n' (val (xs'.take j))) : Int) 0 = 0) := cmpIq0.2 hc
    go_upto_region 2 with (fail)
    refine region_fr (C := [Fq.num (Int.natAbs (sgn n' (val (xs'.take j))) : Int), Fq.is (.int .i64 (cmpI (Int.natAbs (sgn n' (val (xs'.take j))) : Int) 0)), Fq.is (.bool true)]) (ks := [none, none, none]) (new := []) E rfl (by kernel_rfl) rfl rfl (fun hp => ⟨?_, ?_, ?_, trivial⟩) ?_
    · exact q_loadInt (off := 0) hp (free_of rfl) trivial (List.mem_iff_getElem?.2 ⟨0, rfl⟩) (.inl rfl) (Nat.le_of_ble_eq_true rfl) (sq_out rfl rfl (fun _ _ => rfl)) (fun us w hl h => ld_num hl h)
    · exact q_call1 (F := (Fq.num (Int.natAbs (sgn n' (val (xs'.take j))) : Int)).P) hp (free_of rfl) trivial (enq_R_Sign) (sq_in 0 rfl rfl (by simp) rfl (fun v w h => h)) (fun v w h => exRSign h)
    · exact q_one (F := fun v _ => v = .int .i64 (cmpI (Int.natAbs (sgn n' (val (xs'.take j))) : Int) 0)) hp (free_of rfl) trivial (sq_in 1 rfl rfl (by simp) rfl (fun v w h => h)) (fun ρ w hc h => ⟨.bool true, by simp [execOp, go_sem, h, hc, T.out], rfl⟩)
    intro L vs w5 nb hL hC hn E5
    have e1 : vs 1 = .int .i64 (cmpI (Int.natAbs (sgn n' (val (xs'.take j))) : Int) 0) := hC 1 (by simp)
    have e2 : vs 2 = .bool true := hC 2 (by simp)
    have E : Fr w [(b4_5, 2, Fq.num (Int.natAbs (sgn n' (val (xs'.take j))) : Int)), (b2, 4, Fq.pair 0 0), (b1, 4, Fq.raw2 n a k c xs n' a' k' c' xs')] w5 := E5
    rw [lay_all hL]
    simp only [putAll, dstOf, List.length_cons, List.length_nil, Nat.zero_add, Nat.reduceAdd, List.getElem?_toArray, List.getElem?_cons_zero, List.getElem?_cons_succ, Option.bind_some, Act.put, List.setIfInBounds_toArray, List.set_cons_succ, List.set_cons_zero]
    rw [e1, e2]
    generalize vs 0 = u5_0
    clear e1 e2 hC hn E5 hL vs L nb
    clear T
    go_upto_region 3 with (fail)
    have B6 : Hid (ab ((1)) < pw 3) := ab_lit (by decide)
    refine region_fr (C := [Fq.num (1), Fq.any]) (ks := [some (1, Fq.num (1)), none, none]) (new := []) E rfl (by kernel_rfl) rfl rfl (fun hp => ⟨?_, ?_, trivial⟩) ?_
    · exact q_call1 (F := (Fq.is (.int .i64 1)).P) hp (free_of rfl) trivial (enq_R_Of) (sq_const (fun _ => rfl)) (fun v w h => (by subst h; exact rOfK w (1) (by omega) (by omega)))
    · exact q_storeOldInt hp (List.mem_iff_getElem?.2 ⟨0, rfl⟩) rfl rfl (sq_out rfl rfl (fun _ _ => rfl)) (sq_in 0 rfl rfl (by simp) rfl (fun v w h => intV_num h)) (fun _ _ => trivial) (newik_ne rfl)
    intro L vs w7 nb hL hC hn E7
    have E : Fr w [(b4_5, 2, Fq.num (1)), (b2, 4, Fq.pair 0 0), (b1, 4, Fq.raw2 n a k c xs n' a' k' c' xs')] w7 := E7
    rw [lay_all hL]
    simp only [putAll, dstOf, List.length_cons, List.length_nil, Nat.zero_add, Nat.reduceAdd, List.getElem?_toArray, List.getElem?_cons_zero, List.getElem?_cons_succ, Option.bind_some, Act.put, List.setIfInBounds_toArray, List.set_cons_succ, List.set_cons_zero]
    generalize vs 0 = u7_0
    clear  hC hn E7 hL vs L nb
    go_upto_region 4 with (fail)
    have B8 : Hid (Rb (Rat.divInt (sgn n (val (xs.take j))) (1)) 800) := rb_divInt (by decide) (Int.lt_of_lt_of_le (Int.lt_of_lt_of_le (Num.ofMade hs.digs) (pw_le HJ.out)) (pw_le (by omega))) (Int.lt_of_lt_of_le B6.out (pw_le (by omega)))
    refine region_fr (C := [Fq.is (.pointer (some ⟨b1, 0, none⟩)), Fq.raw n a k c xs, Fq.is (.int .i64 j), Fq.num (sgn n (val (xs.take j))), Fq.num (1), Fq.pair (Rat.divInt (sgn n (val (xs.take j))) (1)).num ((Rat.divInt (sgn n (val (xs.take j))) (1)).den : Int), Fq.any]) (ks := [none, some (6, Fq.pair (Rat.divInt (sgn n (val (xs.take j))) (1)).num ((Rat.divInt (sgn n (val (xs.take j))) (1)).den : Int)), none]) (new := []) E rfl (by kernel_rfl) rfl rfl (fun hp => ⟨?_, ?_, ?_, ?_, ?_, ?_, ?_, trivial⟩) ?_
    · exact q_addr (b := b1) (off := 0) (off' := 0) hp (free_of rfl) trivial (sq_out rfl rfl (fun _ _ => rfl)) (fun ρ w h => by simp [execOp, go_sem, h]) (fun _ => rfl)
    · exact q_loadRaw (off := 0) hp (free_of rfl) trivial (List.mem_iff_getElem?.2 ⟨2, rfl⟩) (.inl rfl) (Nat.le_of_ble_eq_true rfl) (sq_in 0 rfl rfl (by simp) rfl (fun v w h => h)) (fun us w hl h => ld_raw1 hl h)
    · exact q_move hp (free_of rfl) trivial (sq_out rfl rfl (fun _ _ => rfl))
    · exact q_call2 (F := (Fq.raw n a k c xs).P) (G := (Fq.is (.int .i64 j)).P) hp (free_of rfl) trivial (enq_R_Made) (sq_in 1 rfl rfl (by simp) rfl (fun v w h => h)) (sq_in 2 rfl rfl (by simp) rfl (fun v w h => h)) (fun v v' w h h' => exRMade h h' hk0.out (by have := HJ.out; omega))
    · exact q_loadInt (off := 0) hp (free_of rfl) trivial (List.mem_iff_getElem?.2 ⟨0, rfl⟩) (.inl rfl) (Nat.le_of_ble_eq_true rfl) (sq_out rfl rfl (fun _ _ => rfl)) (fun us w hl h => ld_num hl h)
    · exact q_call2 (F := (Fq.num (sgn n (val (xs.take j)))).P) (G := (Fq.num (1)).P) hp (free_of rfl) trivial (enq_S_over) (sq_in 3 rfl rfl (by simp) rfl (fun v w h => h)) (sq_in 4 rfl rfl (by simp) rfl (fun v w h => h)) (fun v v' w h h' => exSOver h h' (by decide) (Int.lt_of_lt_of_le (Int.lt_of_lt_of_le (Num.ofMade hs.digs) (pw_le HJ.out)) (pw_le (by omega))) (Int.lt_of_lt_of_le B6.out (pw_le (by omega))))
    · exact q_storeOldRat hp (List.mem_iff_getElem?.2 ⟨1, rfl⟩) rfl rfl (sq_out rfl rfl (fun _ _ => rfl)) (sq_in 5 rfl rfl (by simp) rfl (fun v w h => ratV_pair h)) (fun _ _ => trivial) (newik_ne rfl)
    intro L vs w9 nb hL hC hn E9
    have e0 : vs 0 = .pointer (some ⟨b1, 0, none⟩) := hC 0 (by simp)
    have e2 : vs 2 = .int .i64 j := hC 2 (by simp)
    have E : Fr w [(b4_5, 2, Fq.num (1)), (b2, 4, Fq.pair (Rat.divInt (sgn n (val (xs.take j))) (1)).num ((Rat.divInt (sgn n (val (xs.take j))) (1)).den : Int)), (b1, 4, Fq.raw2 n a k c xs n' a' k' c' xs')] w9 := E9
    rw [lay_all hL]
    simp only [putAll, dstOf, List.length_cons, List.length_nil, Nat.zero_add, Nat.reduceAdd, List.getElem?_toArray, List.getElem?_cons_zero, List.getElem?_cons_succ, Option.bind_some, Act.put, List.setIfInBounds_toArray, List.set_cons_succ, List.set_cons_zero]
    rw [e0, e2]
    generalize vs 1 = u9_1
    generalize vs 3 = u9_3
    generalize vs 4 = u9_4
    generalize vs 5 = u9_5
    clear e0 e2 hC hn E9 hL vs L nb
    obtain ⟨p0, p1, p2, p3, c0, c1, c2, c3, hP⟩ := box_pair (E.box 1 rfl)
    clear B3 B6 B8
    go_wp2
    refine bodyPost_ret (v := .agg #[p0, p1, p2, p3]) ?_ rfl ⟨_, rfl, E.below, by unfold madeQ; rw [if_pos hc]; exact hP⟩
    simp [results, Tryz.results8, go_sem, c0, c1, c2, c3]
  · have T : Hid (¬ cmpI (Int.natAbs (sgn n' (val (xs'.take j))) : Int) 0 = 0) := fun e => hc (cmpIq0.1 e)
    go_upto_region 2 with (fail)
    refine region_fr (C := [Fq.num (Int.natAbs (sgn n' (val (xs'.take j))) : Int), Fq.is (.int .i64 (cmpI (Int.natAbs (sgn n' (val (xs'.take j))) : Int) 0)), Fq.is (.bool false)]) (ks := [none, none, none]) (new := []) E rfl (by kernel_rfl) rfl rfl (fun hp => ⟨?_, ?_, ?_, trivial⟩) ?_
    · exact q_loadInt (off := 0) hp (free_of rfl) trivial (List.mem_iff_getElem?.2 ⟨0, rfl⟩) (.inl rfl) (Nat.le_of_ble_eq_true rfl) (sq_out rfl rfl (fun _ _ => rfl)) (fun us w hl h => ld_num hl h)
    · exact q_call1 (F := (Fq.num (Int.natAbs (sgn n' (val (xs'.take j))) : Int)).P) hp (free_of rfl) trivial (enq_R_Sign) (sq_in 0 rfl rfl (by simp) rfl (fun v w h => h)) (fun v w h => exRSign h)
    · exact q_one (F := fun v _ => v = .int .i64 (cmpI (Int.natAbs (sgn n' (val (xs'.take j))) : Int) 0)) hp (free_of rfl) trivial (sq_in 1 rfl rfl (by simp) rfl (fun v w h => h)) (fun ρ w hc h => ⟨.bool false, by simp [execOp, go_sem, h, hc, T.out], rfl⟩)
    intro L vs w10 nb hL hC hn E10
    have e1 : vs 1 = .int .i64 (cmpI (Int.natAbs (sgn n' (val (xs'.take j))) : Int) 0) := hC 1 (by simp)
    have e2 : vs 2 = .bool false := hC 2 (by simp)
    have E : Fr w [(b4_5, 2, Fq.num (Int.natAbs (sgn n' (val (xs'.take j))) : Int)), (b2, 4, Fq.pair 0 0), (b1, 4, Fq.raw2 n a k c xs n' a' k' c' xs')] w10 := E10
    rw [lay_all hL]
    simp only [putAll, dstOf, List.length_cons, List.length_nil, Nat.zero_add, Nat.reduceAdd, List.getElem?_toArray, List.getElem?_cons_zero, List.getElem?_cons_succ, Option.bind_some, Act.put, List.setIfInBounds_toArray, List.set_cons_succ, List.set_cons_zero]
    rw [e1, e2]
    generalize vs 0 = u10_0
    clear e1 e2 hC hn E10 hL vs L nb
    clear T
    go_upto_region 4 with (fail)
    have B11 : Hid (Rb (Rat.divInt (sgn n (val (xs.take j))) (Int.natAbs (sgn n' (val (xs'.take j))) : Int)) 800) := rb_divInt hc (Int.lt_of_lt_of_le (Int.lt_of_lt_of_le (Num.ofMade hs.digs) (pw_le HJ.out)) (pw_le (by omega))) (Int.lt_of_lt_of_le B3.out (pw_le (by omega)))
    refine region_fr (C := [Fq.is (.pointer (some ⟨b1, 0, none⟩)), Fq.raw n a k c xs, Fq.is (.int .i64 j), Fq.num (sgn n (val (xs.take j))), Fq.num (Int.natAbs (sgn n' (val (xs'.take j))) : Int), Fq.pair (Rat.divInt (sgn n (val (xs.take j))) (Int.natAbs (sgn n' (val (xs'.take j))) : Int)).num ((Rat.divInt (sgn n (val (xs.take j))) (Int.natAbs (sgn n' (val (xs'.take j))) : Int)).den : Int), Fq.any]) (ks := [none, some (6, Fq.pair (Rat.divInt (sgn n (val (xs.take j))) (Int.natAbs (sgn n' (val (xs'.take j))) : Int)).num ((Rat.divInt (sgn n (val (xs.take j))) (Int.natAbs (sgn n' (val (xs'.take j))) : Int)).den : Int)), none]) (new := []) E rfl (by kernel_rfl) rfl rfl (fun hp => ⟨?_, ?_, ?_, ?_, ?_, ?_, ?_, trivial⟩) ?_
    · exact q_addr (b := b1) (off := 0) (off' := 0) hp (free_of rfl) trivial (sq_out rfl rfl (fun _ _ => rfl)) (fun ρ w h => by simp [execOp, go_sem, h]) (fun _ => rfl)
    · exact q_loadRaw (off := 0) hp (free_of rfl) trivial (List.mem_iff_getElem?.2 ⟨2, rfl⟩) (.inl rfl) (Nat.le_of_ble_eq_true rfl) (sq_in 0 rfl rfl (by simp) rfl (fun v w h => h)) (fun us w hl h => ld_raw1 hl h)
    · exact q_move hp (free_of rfl) trivial (sq_out rfl rfl (fun _ _ => rfl))
    · exact q_call2 (F := (Fq.raw n a k c xs).P) (G := (Fq.is (.int .i64 j)).P) hp (free_of rfl) trivial (enq_R_Made) (sq_in 1 rfl rfl (by simp) rfl (fun v w h => h)) (sq_in 2 rfl rfl (by simp) rfl (fun v w h => h)) (fun v v' w h h' => exRMade h h' hk0.out (by have := HJ.out; omega))
    · exact q_loadInt (off := 0) hp (free_of rfl) trivial (List.mem_iff_getElem?.2 ⟨0, rfl⟩) (.inl rfl) (Nat.le_of_ble_eq_true rfl) (sq_out rfl rfl (fun _ _ => rfl)) (fun us w hl h => ld_num hl h)
    · exact q_call2 (F := (Fq.num (sgn n (val (xs.take j)))).P) (G := (Fq.num (Int.natAbs (sgn n' (val (xs'.take j))) : Int)).P) hp (free_of rfl) trivial (enq_S_over) (sq_in 3 rfl rfl (by simp) rfl (fun v w h => h)) (sq_in 4 rfl rfl (by simp) rfl (fun v w h => h)) (fun v v' w h h' => exSOver h h' hc (Int.lt_of_lt_of_le (Int.lt_of_lt_of_le (Num.ofMade hs.digs) (pw_le HJ.out)) (pw_le (by omega))) (Int.lt_of_lt_of_le B3.out (pw_le (by omega))))
    · exact q_storeOldRat hp (List.mem_iff_getElem?.2 ⟨1, rfl⟩) rfl rfl (sq_out rfl rfl (fun _ _ => rfl)) (sq_in 5 rfl rfl (by simp) rfl (fun v w h => ratV_pair h)) (fun _ _ => trivial) (newik_ne rfl)
    intro L vs w12 nb hL hC hn E12
    have e0 : vs 0 = .pointer (some ⟨b1, 0, none⟩) := hC 0 (by simp)
    have e2 : vs 2 = .int .i64 j := hC 2 (by simp)
    have E : Fr w [(b4_5, 2, Fq.num (Int.natAbs (sgn n' (val (xs'.take j))) : Int)), (b2, 4, Fq.pair (Rat.divInt (sgn n (val (xs.take j))) (Int.natAbs (sgn n' (val (xs'.take j))) : Int)).num ((Rat.divInt (sgn n (val (xs.take j))) (Int.natAbs (sgn n' (val (xs'.take j))) : Int)).den : Int)), (b1, 4, Fq.raw2 n a k c xs n' a' k' c' xs')] w12 := E12
    rw [lay_all hL]
    simp only [putAll, dstOf, List.length_cons, List.length_nil, Nat.zero_add, Nat.reduceAdd, List.getElem?_toArray, List.getElem?_cons_zero, List.getElem?_cons_succ, Option.bind_some, Act.put, List.setIfInBounds_toArray, List.set_cons_succ, List.set_cons_zero]
    rw [e0, e2]
    generalize vs 1 = u12_1
    generalize vs 3 = u12_3
    generalize vs 4 = u12_4
    generalize vs 5 = u12_5
    clear e0 e2 hC hn E12 hL vs L nb
    obtain ⟨p0, p1, p2, p3, c0, c1, c2, c3, hP⟩ := box_pair (E.box 1 rfl)
    clear B3 B11
    go_wp2
    refine bodyPost_ret (v := .agg #[p0, p1, p2, p3]) ?_ rfl ⟨_, rfl, E.below, by unfold madeQ; rw [if_neg hc]; exact hP⟩
    simp [results, Tryz.results8, go_sem, c0, c1, c2, c3]

/-- The text of a fraction. -/
def ratText (q : Rat) : List Int := if (q.den : Int) = 1 then intText q.num else intText q.num ++ 47 :: intText (q.den : Int)

theorem rat_bytes (q : Rat) : bytesOf (intText q.num) ++ (⟨#[47]⟩ : ByteArray) ++ bytesOf (intText (q.den : Int)) = bytesOf (intText q.num ++ 47 :: intText (q.den : Int)) := by
  rw [show (⟨#[47]⟩ : ByteArray) = bytesOf [47] from rfl, bytesOf_append, bytesOf_append, List.append_assoc]
  rfl

theorem exIsOneB {w : World} {v : Value} {z : Int} {t : Bool} (h : Num w v z) (ht : decide (z = 1) = t) : Calls Tryz.prog 79 #[v] w fun e w' => ∃ v', e = .returned v' ∧ Below w.heap.size w w' ∧ v' = .bool t := by
  have := exIsOne h
  rw [ht] at this
  exact this

set_option maxRecDepth 100000 in
set_option maxHeartbeats 4000000 in
theorem exTextQ {w : World} {v : Value} {a : Rat} (h : Pair w v a.num a.den) (ha : Rb a 100) :
    Calls Tryz.prog 52 #[v] w fun e w' => ∃ v', e = .returned v' ∧ Below w.heap.size w w' ∧ (Fq.tup2 (Fq.is (.string (bytesOf (ratText a)))) (Fq.is (.int .i64 0))).P v' w' := by
  replace ha := hidd ha
  obtain ⟨n0, ao0, k0, c0, n0', ao0', k0', c0', rfl, _⟩ := ratV_pair h
  obtain ⟨w1, b1, hw1, hb1, hs1, E⟩ := fr_start w (F := Fq.pair a.num (a.den : Int)) (us := [.bool n0, .slice ao0 k0 c0, .bool n0', .slice ao0' k0' c0']) 31 rfl (by simp) (tame_rat _ _ _ _ _ _ _ _) h
  go_enter Tryz.func52, Tryz.ntmps52
  go_upto_region 1 with (fail)
  rw [← hw1]
  rw [← hb1]
  clear hw1 hb1 hs1
  have l1 := text_len ha.out.1
  have l2 := text_len ha.out.2
  refine region_fr (C := [Fq.is (.pointer (some ⟨b1, 0, none⟩)), Fq.num a.num, Fq.tup2 (Fq.is (.string (bytesOf (intText a.num)))) (Fq.is (.int .i64 0)), Fq.tup2 (Fq.is (.string (bytesOf (intText a.num)))) (Fq.is (.int .i64 0)), Fq.is (.string (bytesOf (intText a.num))), Fq.is (.int .i64 0), Fq.is (.string (bytesOf (intText a.num))), Fq.is (.int .i64 0)]) (ks := [none]) (new := []) E rfl (by kernel_rfl) rfl rfl (fun hp => ⟨?_, ?_, ?_, ?_, ?_, ?_, ?_, ?_, trivial⟩) ?_
  · exact q_addr (b := b1) (off := 0) (off' := 0) hp (free_of rfl) trivial (sq_out rfl rfl (fun _ _ => rfl)) (fun ρ w h => by simp [execOp, go_sem, h]) (fun _ => rfl)
  · exact q_loadInt (off := 0) hp (free_of rfl) trivial (List.mem_iff_getElem?.2 ⟨0, rfl⟩) (.inl rfl) (Nat.le_of_ble_eq_true rfl) (sq_in 0 rfl rfl (by simp) rfl (fun v w h => h)) (fun us w hl h => ld_pn hl h)
  · exact q_call1 (F := (Fq.num a.num).P) hp (free_of rfl) trivial (enq_Text) (sq_in 1 rfl rfl (by simp) rfl (fun v w h => h)) (fun v w h => exTextI h (Int.lt_of_lt_of_le ha.out.1 (pw_le (by omega))))
  · exact q_move hp (free_of rfl) trivial (sq_in 2 rfl rfl (by simp) rfl (fun v w h => h))
  · exact q_extract2 hp (free_of rfl) trivial (sq_in 3 rfl rfl (by simp) rfl (fun v w h => h)) (fun v1 v2 w h1 h2 => ⟨_, rfl, h1⟩)
  · exact q_extract2 hp (free_of rfl) trivial (sq_in 3 rfl rfl (by simp) rfl (fun v w h => h)) (fun v1 v2 w h1 h2 => ⟨_, rfl, h2⟩)
  · exact q_assign hp (free_of rfl) trivial (sq_in 4 rfl rfl (by simp) rfl (fun v w h => h))
  · exact q_assign hp (free_of rfl) trivial (sq_in 5 rfl rfl (by simp) rfl (fun v w h => h))
  intro L vs w2 nb hL hC hn E2
  have e0 : vs 0 = .pointer (some ⟨b1, 0, none⟩) := hC 0 (by simp)
  have e4 : vs 4 = .string (bytesOf (intText a.num)) := hC 4 (by simp)
  have e5 : vs 5 = .int .i64 0 := hC 5 (by simp)
  have e6 : vs 6 = .string (bytesOf (intText a.num)) := hC 6 (by simp)
  have e7 : vs 7 = .int .i64 0 := hC 7 (by simp)
  have E : Fr w [(b1, 4, Fq.pair a.num (a.den : Int))] w2 := E2
  rw [lay_all hL]
  simp only [putAll, dstOf, List.length_cons, List.length_nil, Nat.zero_add, Nat.reduceAdd, List.getElem?_toArray, List.getElem?_cons_zero, List.getElem?_cons_succ, Option.bind_some, Act.put, List.setIfInBounds_toArray, List.set_cons_succ, List.set_cons_zero]
  rw [e0, e4, e5, e6, e7]
  generalize vs 1 = u2_1
  generalize vs 2 = u2_2
  generalize vs 3 = u2_3
  clear e0 e4 e5 e6 e7 hC hn E2 hL vs L nb
  go_upto_region 2 with (fail)
  refine region_fr (C := [Fq.is (.int .i64 0), Fq.is (.bool false)]) (ks := [none]) (new := []) E rfl (by kernel_rfl) rfl rfl (fun hp => ⟨?_, ?_, trivial⟩) ?_
  · exact q_move hp (free_of rfl) trivial (sq_out rfl rfl (fun _ _ => rfl))
  · exact q_one (F := fun v _ => v = .int .i64 0) hp (free_of rfl) trivial (sq_in 0 rfl rfl (by simp) rfl (fun v w h => h)) (fun ρ w hc h => ⟨.bool false, by simp [execOp, go_sem, h, hc], rfl⟩)
  intro L vs w3 nb hL hC hn E3
  have e0 : vs 0 = .int .i64 0 := hC 0 (by simp)
  have e1 : vs 1 = .bool false := hC 1 (by simp)
  have E : Fr w [(b1, 4, Fq.pair a.num (a.den : Int))] w3 := E3
  rw [lay_all hL]
  simp only [putAll, dstOf, List.length_cons, List.length_nil, Nat.zero_add, Nat.reduceAdd, List.getElem?_toArray, List.getElem?_cons_zero, List.getElem?_cons_succ, Option.bind_some, Act.put, List.setIfInBounds_toArray, List.set_cons_succ, List.set_cons_zero]
  rw [e0, e1]
  clear e0 e1 hC hn E3 hL vs L nb
  by_cases hc : (a.den : Int) = 1
  · go_upto_region 4 with (fail)
    refine region_fr (C := [Fq.is (.pointer (some ⟨b1, 2, none⟩)), Fq.num (a.den : Int), Fq.is (.bool true)]) (ks := [none]) (new := []) E rfl (by kernel_rfl) rfl rfl (fun hp => ⟨?_, ?_, ?_, trivial⟩) ?_
    · exact q_addr (b := b1) (off := 0) (off' := 2) hp (free_of rfl) trivial (sq_out rfl rfl (fun _ _ => rfl)) (fun ρ w h => by simp [execOp, go_sem, h]) (fun _ => rfl)
    · exact q_loadInt (off := 2) hp (free_of rfl) trivial (List.mem_iff_getElem?.2 ⟨0, rfl⟩) (.inl rfl) (Nat.le_of_ble_eq_true rfl) (sq_in 0 rfl rfl (by simp) rfl (fun v w h => h)) (fun us w hl h => ld_pd hl h)
    · exact q_call1 (F := (Fq.num (a.den : Int)).P) hp (free_of rfl) trivial (enq_Q_isOne) (sq_in 1 rfl rfl (by simp) rfl (fun v w h => h)) (fun v w h => exIsOneB h (by simp [hc]))
    intro L vs w4 nb hL hC hn E4
    have e0 : vs 0 = .pointer (some ⟨b1, 2, none⟩) := hC 0 (by simp)
    have e2 : vs 2 = .bool true := hC 2 (by simp)
    have E : Fr w [(b1, 4, Fq.pair a.num (a.den : Int))] w4 := E4
    rw [lay_all hL]
    simp only [putAll, dstOf, List.length_cons, List.length_nil, Nat.zero_add, Nat.reduceAdd, List.getElem?_toArray, List.getElem?_cons_zero, List.getElem?_cons_succ, Option.bind_some, Act.put, List.setIfInBounds_toArray, List.set_cons_succ, List.set_cons_zero]
    rw [e0, e2]
    generalize vs 1 = u4_1
    clear e0 e2 hC hn E4 hL vs L nb
    go_upto_region 5 with (fail)
    refine region_fr (C := [Fq.is (.string (bytesOf (intText a.num))), Fq.is (.string (bytesOf (intText a.num))), Fq.is (.int .i64 0)]) (ks := [none]) (new := []) E rfl (by kernel_rfl) rfl rfl (fun hp => ⟨?_, ?_, ?_, trivial⟩) ?_
    · exact q_move hp (free_of rfl) trivial (sq_out rfl rfl (fun _ _ => rfl))
    · exact q_assign hp (free_of rfl) trivial (sq_in 0 rfl rfl (by simp) rfl (fun v w h => h))
    · exact q_assign hp (free_of rfl) trivial (sq_const (fun _ => rfl))
    intro L vs w5 nb hL hC hn E5
    have e0 : vs 0 = .string (bytesOf (intText a.num)) := hC 0 (by simp)
    have e1 : vs 1 = .string (bytesOf (intText a.num)) := hC 1 (by simp)
    have e2 : vs 2 = .int .i64 0 := hC 2 (by simp)
    have E : Fr w [(b1, 4, Fq.pair a.num (a.den : Int))] w5 := E5
    rw [lay_all hL]
    simp only [putAll, dstOf, List.length_cons, List.length_nil, Nat.zero_add, Nat.reduceAdd, List.getElem?_toArray, List.getElem?_cons_zero, List.getElem?_cons_succ, Option.bind_some, Act.put, List.setIfInBounds_toArray, List.set_cons_succ, List.set_cons_zero]
    rw [e0, e1, e2]
    clear e0 e1 e2 hC hn E5 hL vs L nb
    clear ha
    go_wp2
    refine bodyPost_ret (v := .tuple #[.string (bytesOf (intText a.num)), .int .i64 0]) ?_ rfl ⟨_, rfl, E.below, _, _, rfl, by show _ = _; unfold ratText; rw [if_pos hc], rfl⟩
    simp [results, Tryz.results52, go_sem]
  · go_upto_region 4 with (fail)
    refine region_fr (C := [Fq.is (.pointer (some ⟨b1, 2, none⟩)), Fq.num (a.den : Int), Fq.is (.bool false)]) (ks := [none]) (new := []) E rfl (by kernel_rfl) rfl rfl (fun hp => ⟨?_, ?_, ?_, trivial⟩) ?_
    · exact q_addr (b := b1) (off := 0) (off' := 2) hp (free_of rfl) trivial (sq_out rfl rfl (fun _ _ => rfl)) (fun ρ w h => by simp [execOp, go_sem, h]) (fun _ => rfl)
    · exact q_loadInt (off := 2) hp (free_of rfl) trivial (List.mem_iff_getElem?.2 ⟨0, rfl⟩) (.inl rfl) (Nat.le_of_ble_eq_true rfl) (sq_in 0 rfl rfl (by simp) rfl (fun v w h => h)) (fun us w hl h => ld_pd hl h)
    · exact q_call1 (F := (Fq.num (a.den : Int)).P) hp (free_of rfl) trivial (enq_Q_isOne) (sq_in 1 rfl rfl (by simp) rfl (fun v w h => h)) (fun v w h => exIsOneB h (by simp [hc]))
    intro L vs w6 nb hL hC hn E6
    have e0 : vs 0 = .pointer (some ⟨b1, 2, none⟩) := hC 0 (by simp)
    have e2 : vs 2 = .bool false := hC 2 (by simp)
    have E : Fr w [(b1, 4, Fq.pair a.num (a.den : Int))] w6 := E6
    rw [lay_all hL]
    simp only [putAll, dstOf, List.length_cons, List.length_nil, Nat.zero_add, Nat.reduceAdd, List.getElem?_toArray, List.getElem?_cons_zero, List.getElem?_cons_succ, Option.bind_some, Act.put, List.setIfInBounds_toArray, List.set_cons_succ, List.set_cons_zero]
    rw [e0, e2]
    generalize vs 1 = u6_1
    clear e0 e2 hC hn E6 hL vs L nb
    go_upto_region 6 with (fail)
    refine region_fr (C := [Fq.is (.pointer (some ⟨b1, 2, none⟩)), Fq.num (a.den : Int), Fq.tup2 (Fq.is (.string (bytesOf (intText (a.den : Int))))) (Fq.is (.int .i64 0)), Fq.tup2 (Fq.is (.string (bytesOf (intText (a.den : Int))))) (Fq.is (.int .i64 0)), Fq.is (.string (bytesOf (intText (a.den : Int)))), Fq.is (.int .i64 0), Fq.is (.string (bytesOf (intText (a.den : Int)))), Fq.is (.int .i64 0)]) (ks := [none]) (new := []) E rfl (by kernel_rfl) rfl rfl (fun hp => ⟨?_, ?_, ?_, ?_, ?_, ?_, ?_, ?_, trivial⟩) ?_
    · exact q_addr (b := b1) (off := 0) (off' := 2) hp (free_of rfl) trivial (sq_out rfl rfl (fun _ _ => rfl)) (fun ρ w h => by simp [execOp, go_sem, h]) (fun _ => rfl)
    · exact q_loadInt (off := 2) hp (free_of rfl) trivial (List.mem_iff_getElem?.2 ⟨0, rfl⟩) (.inl rfl) (Nat.le_of_ble_eq_true rfl) (sq_in 0 rfl rfl (by simp) rfl (fun v w h => h)) (fun us w hl h => ld_pd hl h)
    · exact q_call1 (F := (Fq.num (a.den : Int)).P) hp (free_of rfl) trivial (enq_Text) (sq_in 1 rfl rfl (by simp) rfl (fun v w h => h)) (fun v w h => exTextI h (Int.lt_of_lt_of_le ha.out.2 (pw_le (by omega))))
    · exact q_move hp (free_of rfl) trivial (sq_in 2 rfl rfl (by simp) rfl (fun v w h => h))
    · exact q_extract2 hp (free_of rfl) trivial (sq_in 3 rfl rfl (by simp) rfl (fun v w h => h)) (fun v1 v2 w h1 h2 => ⟨_, rfl, h1⟩)
    · exact q_extract2 hp (free_of rfl) trivial (sq_in 3 rfl rfl (by simp) rfl (fun v w h => h)) (fun v1 v2 w h1 h2 => ⟨_, rfl, h2⟩)
    · exact q_assign hp (free_of rfl) trivial (sq_in 4 rfl rfl (by simp) rfl (fun v w h => h))
    · exact q_assign hp (free_of rfl) trivial (sq_in 5 rfl rfl (by simp) rfl (fun v w h => h))
    intro L vs w7 nb hL hC hn E7
    have e0 : vs 0 = .pointer (some ⟨b1, 2, none⟩) := hC 0 (by simp)
    have e4 : vs 4 = .string (bytesOf (intText (a.den : Int))) := hC 4 (by simp)
    have e5 : vs 5 = .int .i64 0 := hC 5 (by simp)
    have e6 : vs 6 = .string (bytesOf (intText (a.den : Int))) := hC 6 (by simp)
    have e7 : vs 7 = .int .i64 0 := hC 7 (by simp)
    have E : Fr w [(b1, 4, Fq.pair a.num (a.den : Int))] w7 := E7
    rw [lay_all hL]
    simp only [putAll, dstOf, List.length_cons, List.length_nil, Nat.zero_add, Nat.reduceAdd, List.getElem?_toArray, List.getElem?_cons_zero, List.getElem?_cons_succ, Option.bind_some, Act.put, List.setIfInBounds_toArray, List.set_cons_succ, List.set_cons_zero]
    rw [e0, e4, e5, e6, e7]
    generalize vs 1 = u7_1
    generalize vs 2 = u7_2
    generalize vs 3 = u7_3
    clear e0 e4 e5 e6 e7 hC hn E7 hL vs L nb
    go_upto_region 7 with (fail)
    refine region_fr (C := [Fq.is (.int .i64 0), Fq.is (.bool false)]) (ks := [none]) (new := []) E rfl (by kernel_rfl) rfl rfl (fun hp => ⟨?_, ?_, trivial⟩) ?_
    · exact q_move hp (free_of rfl) trivial (sq_out rfl rfl (fun _ _ => rfl))
    · exact q_one (F := fun v _ => v = .int .i64 0) hp (free_of rfl) trivial (sq_in 0 rfl rfl (by simp) rfl (fun v w h => h)) (fun ρ w hc h => ⟨.bool false, by simp [execOp, go_sem, h, hc], rfl⟩)
    intro L vs w8 nb hL hC hn E8
    have e0 : vs 0 = .int .i64 0 := hC 0 (by simp)
    have e1 : vs 1 = .bool false := hC 1 (by simp)
    have E : Fr w [(b1, 4, Fq.pair a.num (a.den : Int))] w8 := E8
    rw [lay_all hL]
    simp only [putAll, dstOf, List.length_cons, List.length_nil, Nat.zero_add, Nat.reduceAdd, List.getElem?_toArray, List.getElem?_cons_zero, List.getElem?_cons_succ, Option.bind_some, Act.put, List.setIfInBounds_toArray, List.set_cons_succ, List.set_cons_zero]
    rw [e0, e1]
    clear e0 e1 hC hn E8 hL vs L nb
    have s1 : Hid ((bytesOf (intText a.num)).size ≤ 1002) := by show _ ≤ _; rw [bytesOf_size]; omega
    have s2 : Hid ((bytesOf (intText (a.den : Int))).size ≤ 1002) := by show _ ≤ _; rw [bytesOf_size]; omega
    have s3 : (bytesOf (intText a.num)).size + 1 ≤ 9223372036854775807 := by have := s1.out; omega
    have s4 : (bytesOf (intText a.num)).size + 1 + (bytesOf (intText (a.den : Int))).size ≤ 9223372036854775807 := by have := s1.out; have := s2.out; omega
    have hcc := hidd hc
    clear ha
    clear hc l1 l2
    go_wp2
    refine bodyPost_ret (v := .tuple #[.string (bytesOf (intText a.num) ++ (⟨#[47]⟩ : ByteArray) ++ bytesOf (intText (a.den : Int))), .int .i64 0]) ?_ rfl ⟨_, rfl, E.below, _, _, rfl, by show _ = _; unfold ratText; rw [if_neg hcc.out, rat_bytes], rfl⟩
    simp [results, Tryz.results52, go_sem]

end Go.Proofs.YtoimphnhmpmipaaGreat

/- Walk: strings.Cut at one string. -/
namespace Go.Proofs.YtoimphnhmpmipaaGreat
open Go Go.RowKit

theorem idx_run (w : World) : (callFunc 130 #[.string { data := #[50, 47, 52] }, .int .u8 47]).run Tryz.prog w = .ok (.value (.int .i64 1)) w := by
  rw [run_callFunc_indexByte Tryz.func130 (by kernel_rfl) (by kernel_rfl) (by kernel_rfl) (by kernel_rfl), run_indexByte_string]
  rfl

set_option maxRecDepth 100000 in
set_option maxHeartbeats 1000000 in
theorem exIndexByte (w : World) : Calls Tryz.prog 125 #[.string { data := #[50, 47, 52] }, .int .u8 47] w fun e w' => e = .returned (.int .i64 1) ∧ w = w' := by
  have hx := idx_run w
  go_enter Tryz.func125, Tryz.ntmps125
  go_wp2
  go_ret
  exact ⟨rfl, rfl⟩

set_option maxRecDepth 100000 in
set_option maxHeartbeats 1000000 in
theorem exIndex (w : World) : Calls Tryz.prog 113 #[.string { data := #[50, 47, 52] }, .string { data := #[47] }] w fun e w' => e = .returned (.int .i64 1) ∧ w = w' := by
  go_enter Tryz.func113, Tryz.ntmps113
  go_wp2_with fail
  refine (exIndexByte w).mono ?_
  rintro e w1 ⟨rfl, rfl⟩
  go_wp2
  go_ret
  exact ⟨rfl, rfl⟩

set_option maxRecDepth 100000 in
set_option maxHeartbeats 1000000 in
theorem exCut0 (w : World) : Calls Tryz.prog 105 #[.string { data := #[50, 47, 52] }, .string { data := #[47] }] w fun e w' => e = .returned (.tuple #[.string { data := #[50] }, .string { data := #[52] }, .bool true]) ∧ Below w.heap.size w w' := by
  go_enter Tryz.func105, Tryz.ntmps105
  go_wp2_with fail
  refine (exIndex w).mono ?_
  rintro e w1 ⟨rfl, rfl⟩
  go_wp2
  go_quiet (fail)
  go_wp2
  refine bodyPost_ret (v := .tuple #[.string { data := #[50] }, .string { data := #[52] }, .bool true]) ?_ rfl ⟨rfl, ⟨rfl, rfl, rfl, Nat.le_refl _, fun _ _ => rfl⟩⟩
  simp [results, Tryz.results105, go_sem]
  exact ⟨by rfl, by rfl⟩

set_option maxRecDepth 100000 in
set_option maxHeartbeats 1000000 in
theorem exCut (w : World) : Calls Tryz.prog 80 #[.string { data := #[50, 47, 52] }, .string { data := #[47] }] w fun e w' => e = .returned (.tuple #[.string { data := #[50] }, .string { data := #[52] }, .bool true]) ∧ Below w.heap.size w w' := by
  go_enter Tryz.func80, Tryz.ntmps80
  go_wp2_with fail
  refine (exCut0 w).mono ?_
  rintro e w1 ⟨rfl, hb⟩
  go_wp2
  refine bodyPost_ret (v := .tuple #[.string { data := #[50] }, .string { data := #[52] }, .bool true]) ?_ rfl ⟨rfl, hb⟩
  simp [results, Tryz.results80, go_sem]

end Go.Proofs.YtoimphnhmpmipaaGreat

/- Walks: Valid; Parse of "2/4"; the simplest fraction. -/
namespace Go.Proofs.YtoimphnhmpmipaaGreat
open Go Go.RowKit

theorem num_valid {w : World} {v : Value} {z : Int} (h : Num w v z) : ∃ n ao k c xs, v = .agg #[.bool n, .slice ao k c] ∧ Sl w ao k c xs ∧ k ≤ 900000 ∧ validB n xs = true := by
  obtain ⟨neg, ao, n, c, xs, rfl, hs, hn, _, hc, hnn⟩ := h
  refine ⟨neg, ao, n, c, xs, rfl, hs, hn, ?_⟩
  unfold validB
  split
  · rename_i h0
    have h1 : n = 0 := by rw [← hs.len]; exact h0
    cases neg
    · rfl
    · exact absurd h1 (hnn rfl)
  · rename_i h0
    have h1 : pw (xs.length - 1) ≤ val xs := by
      rcases hc.2 with h | h
      · exact absurd h h0
      · exact h
    rw [bne_iff_ne]
    intro h2
    have h3 := val_take_succ xs (xs.length - 1)
    rw [show xs.length - 1 + 1 = xs.length by omega, List.take_length, h2, Int.mul_zero, Int.add_zero] at h3
    have h4 := val_lt (hs.digs.take (xs.length - 1))
    have h5 := pw_le (show (xs.take (xs.length - 1)).length ≤ xs.length - 1 by rw [List.length_take]; omega)
    omega

theorem exIsValid {w : World} {v : Value} {z : Int} (h : Num w v z) : Calls Tryz.prog 82 #[v] w fun e w' => ∃ v', e = .returned v' ∧ Below w.heap.size w w' ∧ v' = .bool true := by
  obtain ⟨n, ao, k, c, xs, rfl, hs, hk, hv⟩ := num_valid h
  refine (Valid_any w n ao k c xs hs (by omega)).mono fun e w' hh => ⟨_, hh.1, hh.2, ?_⟩
  rw [hv]
theorem exParseI {w : World} {s : ByteArray} {z : Int} (h : bys s = intText z) (hl : (intText z).length ≤ 1300) : Calls Tryz.prog 106 #[.string s] w fun e w' => ∃ v', e = .returned v' ∧ Below w.heap.size w w' ∧ (Fq.tup2 (Fq.num z) (Fq.is (.int .i64 0))).P v' w' := by
  refine (Parse_any w s).mono fun e w' hh => ?_
  rw [h] at hh
  obtain ⟨hb, ⟨h1, _⟩ | ⟨_, h2, _⟩ | ⟨h1, h2, v, rfl, hi⟩⟩ := hh
  · omega
  · exact absurd ⟨z, rfl⟩ h2
  · rw [tval_text] at hi
    obtain ⟨K, hK⟩ : ∃ K : Nat, K = 1301 := ⟨_, rfl⟩
    have hz : ab z < pw K := by
      by_cases hzz : ab z < pw K
      · exact hzz
      · exfalso
        have h3 : 10 ^ K ≤ z.natAbs := by
          have : ∀ k : Nat, ((10 ^ k : Nat) : Int) ≤ pw k := fun k => by
            induction k with
            | zero => simp [pw]
            | succ k ih => rw [Nat.pow_succ, pw_succ, Int.natCast_mul]; have := pw_pos k; omega
          have h4 := this K
          unfold ab at hzz
          omega
        have h5 := decs_long K z.natAbs h3
        have h6 : K < (intText z).length := by
          unfold intText sizeText
          have h7 : z.natAbs ≠ 0 := by
            have : 0 < 10 ^ K := Nat.pow_pos (by omega)
            omega
          rw [if_neg h7]
          split
          · rw [List.length_cons, List.length_reverse]; omega
          · rw [List.length_reverse]; omega
        omega
    exact ⟨_, rfl, hb, _, _, rfl, num_of hi hz (by omega), rfl⟩

set_option maxRecDepth 100000 in
set_option maxHeartbeats 4000000 in
theorem exValidQ {w : World} {v : Value} {a : Rat} (h : Pair w v a.num a.den) (ha : Rb a 100) :
    Calls Tryz.prog 54 #[v] w fun e w' => ∃ v', e = .returned v' ∧ Below w.heap.size w w' ∧ v' = .bool true := by
  replace ha := hidd ha
  obtain ⟨n0, ao0, k0, c0, n0', ao0', k0', c0', rfl, _⟩ := ratV_pair h
  obtain ⟨w1, b1, hw1, hb1, hs1, E⟩ := fr_start w (F := Fq.pair a.num (a.den : Int)) (us := [.bool n0, .slice ao0 k0 c0, .bool n0', .slice ao0' k0' c0']) 31 rfl (by simp) (tame_rat _ _ _ _ _ _ _ _) h
  go_enter Tryz.func54, Tryz.ntmps54
  go_upto_region 1 with (fail)
  rw [← hw1]
  rw [← hb1]
  clear hw1 hb1 hs1
  have T : Hid (0 < cmpI (a.den : Int) 0) := cmpIqgt.2 (den_pos a)
  have B2 : Hid (ab ((Int.gcd a.num (a.den : Int) : Int)) < pw 100) := ab_gcdB ha.out.1 ha.out.2 (by omega) (by omega)
  refine region_fr (C := [Fq.is (.pointer (some ⟨b1, 0, none⟩)), Fq.num a.num, Fq.is (.bool true), Fq.is (.bool true), Fq.is (.pointer (some ⟨b1, 2, none⟩)), Fq.num (a.den : Int), Fq.is (.bool true), Fq.is (.bool true), Fq.is (.bool true), Fq.is (.pointer (some ⟨b1, 2, none⟩)), Fq.num (a.den : Int), Fq.is (.int .i64 (cmpI (a.den : Int) 0)), Fq.is (.bool true), Fq.is (.bool true), Fq.is (.bool true), Fq.is (.pointer (some ⟨b1, 0, none⟩)), Fq.num a.num, Fq.is (.pointer (some ⟨b1, 2, none⟩)), Fq.num (a.den : Int), Fq.num (Int.gcd a.num (a.den : Int) : Int), Fq.is (.bool true), Fq.is (.bool true), Fq.is (.bool true)]) (ks := [none]) (new := []) E rfl (by kernel_rfl) rfl rfl (fun hp => ⟨?_, ?_, ?_, ?_, ?_, ?_, ?_, ?_, ?_, ?_, ?_, ?_, ?_, ?_, ?_, ?_, ?_, ?_, ?_, ?_, ?_, ?_, ?_, trivial⟩) ?_
  · exact q_addr (b := b1) (off := 0) (off' := 0) hp (free_of rfl) trivial (sq_out rfl rfl (fun _ _ => rfl)) (fun ρ w h => by simp [execOp, go_sem, h]) (fun _ => rfl)
  · exact q_loadInt (off := 0) hp (free_of rfl) trivial (List.mem_iff_getElem?.2 ⟨0, rfl⟩) (.inl rfl) (Nat.le_of_ble_eq_true rfl) (sq_in 0 rfl rfl (by simp) rfl (fun v w h => h)) (fun us w hl h => ld_pn hl h)
  · exact q_call1 (F := (Fq.num a.num).P) hp (free_of rfl) trivial (enq_Valid) (sq_in 1 rfl rfl (by simp) rfl (fun v w h => h)) (fun v w h => exIsValid h)
  · exact q_move hp (free_of rfl) trivial (sq_in 2 rfl rfl (by simp) rfl (fun v w h => h))
  · exact q_addr (b := b1) (off := 0) (off' := 2) hp (free_of rfl) (gq_some rfl rfl (by simp) rfl (fun v w h => h)) (sq_out rfl rfl (fun _ _ => rfl)) (fun ρ w h => by simp [execOp, go_sem, h]) (fun _ => rfl)
  · exact q_loadInt (off := 2) hp (free_of rfl) (gq_some rfl rfl (by simp) rfl (fun v w h => h)) (List.mem_iff_getElem?.2 ⟨0, rfl⟩) (.inl rfl) (Nat.le_of_ble_eq_true rfl) (sq_in 4 rfl rfl (by simp) rfl (fun v w h => h)) (fun us w hl h => ld_pd hl h)
  · exact q_call1 (F := (Fq.num (a.den : Int)).P) hp (free_of rfl) (gq_some rfl rfl (by simp) rfl (fun v w h => h)) (enq_Valid) (sq_in 5 rfl rfl (by simp) rfl (fun v w h => h)) (fun v w h => exIsValid h)
  · exact q_two (F := fun v _ => v = .bool true) (G := fun v _ => v = .bool true) hp (free_of rfl) trivial (sq_in 3 rfl rfl (by simp) rfl (fun v w h => h)) (sq_in 6 rfl rfl (by simp) rfl (fun v w h => h)) (fun ρ w hc h h' => ⟨_, by simp [execOp, go_sem, h, h'], rfl⟩)
  · exact q_move hp (free_of rfl) trivial (sq_in 7 rfl rfl (by simp) rfl (fun v w h => h))
  · exact q_addr (b := b1) (off := 0) (off' := 2) hp (free_of rfl) (gq_some rfl rfl (by simp) rfl (fun v w h => h)) (sq_out rfl rfl (fun _ _ => rfl)) (fun ρ w h => by simp [execOp, go_sem, h]) (fun _ => rfl)
  · exact q_loadInt (off := 2) hp (free_of rfl) (gq_some rfl rfl (by simp) rfl (fun v w h => h)) (List.mem_iff_getElem?.2 ⟨0, rfl⟩) (.inl rfl) (Nat.le_of_ble_eq_true rfl) (sq_in 9 rfl rfl (by simp) rfl (fun v w h => h)) (fun us w hl h => ld_pd hl h)
  · exact q_call1 (F := (Fq.num (a.den : Int)).P) hp (free_of rfl) (gq_some rfl rfl (by simp) rfl (fun v w h => h)) (enq_Sign) (sq_in 10 rfl rfl (by simp) rfl (fun v w h => h)) (fun v w h => exSign h)
  · exact q_one (F := fun v _ => v = .int .i64 (cmpI (a.den : Int) 0)) hp (free_of rfl) (gq_some rfl rfl (by simp) rfl (fun v w h => h)) (sq_in 11 rfl rfl (by simp) rfl (fun v w h => h)) (fun ρ w hc h => ⟨.bool true, by simp [execOp, go_sem, h, hc, T.out], rfl⟩)
  · exact q_two (F := fun v _ => v = .bool true) (G := fun v _ => v = .bool true) hp (free_of rfl) trivial (sq_in 8 rfl rfl (by simp) rfl (fun v w h => h)) (sq_in 12 rfl rfl (by simp) rfl (fun v w h => h)) (fun ρ w hc h h' => ⟨_, by simp [execOp, go_sem, h, h'], rfl⟩)
  · exact q_move hp (free_of rfl) trivial (sq_in 13 rfl rfl (by simp) rfl (fun v w h => h))
  · exact q_addr (b := b1) (off := 0) (off' := 0) hp (free_of rfl) (gq_some rfl rfl (by simp) rfl (fun v w h => h)) (sq_out rfl rfl (fun _ _ => rfl)) (fun ρ w h => by simp [execOp, go_sem, h]) (fun _ => rfl)
  · exact q_loadInt (off := 0) hp (free_of rfl) (gq_some rfl rfl (by simp) rfl (fun v w h => h)) (List.mem_iff_getElem?.2 ⟨0, rfl⟩) (.inl rfl) (Nat.le_of_ble_eq_true rfl) (sq_in 15 rfl rfl (by simp) rfl (fun v w h => h)) (fun us w hl h => ld_pn hl h)
  · exact q_addr (b := b1) (off := 0) (off' := 2) hp (free_of rfl) (gq_some rfl rfl (by simp) rfl (fun v w h => h)) (sq_out rfl rfl (fun _ _ => rfl)) (fun ρ w h => by simp [execOp, go_sem, h]) (fun _ => rfl)
  · exact q_loadInt (off := 2) hp (free_of rfl) (gq_some rfl rfl (by simp) rfl (fun v w h => h)) (List.mem_iff_getElem?.2 ⟨0, rfl⟩) (.inl rfl) (Nat.le_of_ble_eq_true rfl) (sq_in 17 rfl rfl (by simp) rfl (fun v w h => h)) (fun us w hl h => ld_pd hl h)
  · exact q_call2 (F := (Fq.num a.num).P) (G := (Fq.num (a.den : Int)).P) hp (free_of rfl) (gq_some rfl rfl (by simp) rfl (fun v w h => h)) (enq_Gcd) (sq_in 16 rfl rfl (by simp) rfl (fun v w h => h)) (sq_in 18 rfl rfl (by simp) rfl (fun v w h => h)) (fun v v' w h h' => exK (GcdV h h') B2.out (by omega))
  · exact q_call1 (F := (Fq.num (Int.gcd a.num (a.den : Int) : Int)).P) hp (free_of rfl) (gq_some rfl rfl (by simp) rfl (fun v w h => h)) (enq_Q_isOne) (sq_in 19 rfl rfl (by simp) rfl (fun v w h => h)) (fun v w h => exIsOneB h (by rw [rat_cop]; rfl))
  · exact q_two (F := fun v _ => v = .bool true) (G := fun v _ => v = .bool true) hp (free_of rfl) trivial (sq_in 14 rfl rfl (by simp) rfl (fun v w h => h)) (sq_in 20 rfl rfl (by simp) rfl (fun v w h => h)) (fun ρ w hc h h' => ⟨_, by simp [execOp, go_sem, h, h'], rfl⟩)
  · exact q_assign hp (free_of rfl) trivial (sq_in 21 rfl rfl (by simp) rfl (fun v w h => h))
  intro L vs w3 nb hL hC hn E3
  have e0 : vs 0 = .pointer (some ⟨b1, 0, none⟩) := hC 0 (by simp)
  have e2 : vs 2 = .bool true := hC 2 (by simp)
  have e3 : vs 3 = .bool true := hC 3 (by simp)
  have e4 : vs 4 = .pointer (some ⟨b1, 2, none⟩) := hC 4 (by simp)
  have e6 : vs 6 = .bool true := hC 6 (by simp)
  have e7 : vs 7 = .bool true := hC 7 (by simp)
  have e8 : vs 8 = .bool true := hC 8 (by simp)
  have e9 : vs 9 = .pointer (some ⟨b1, 2, none⟩) := hC 9 (by simp)
  have e11 : vs 11 = .int .i64 (cmpI (a.den : Int) 0) := hC 11 (by simp)
  have e12 : vs 12 = .bool true := hC 12 (by simp)
  have e13 : vs 13 = .bool true := hC 13 (by simp)
  have e14 : vs 14 = .bool true := hC 14 (by simp)
  have e15 : vs 15 = .pointer (some ⟨b1, 0, none⟩) := hC 15 (by simp)
  have e17 : vs 17 = .pointer (some ⟨b1, 2, none⟩) := hC 17 (by simp)
  have e20 : vs 20 = .bool true := hC 20 (by simp)
  have e21 : vs 21 = .bool true := hC 21 (by simp)
  have e22 : vs 22 = .bool true := hC 22 (by simp)
  have E : Fr w [(b1, 4, Fq.pair a.num (a.den : Int))] w3 := E3
  rw [lay_all hL]
  simp only [putAll, dstOf, List.length_cons, List.length_nil, Nat.zero_add, Nat.reduceAdd, List.getElem?_toArray, List.getElem?_cons_zero, List.getElem?_cons_succ, Option.bind_some, Act.put, List.setIfInBounds_toArray, List.set_cons_succ, List.set_cons_zero]
  rw [e0, e2, e3, e4, e6, e7, e8, e9, e11, e12, e13, e14, e15, e17, e20, e21, e22]
  generalize vs 1 = u3_1
  generalize vs 5 = u3_5
  generalize vs 10 = u3_10
  generalize vs 16 = u3_16
  generalize vs 18 = u3_18
  generalize vs 19 = u3_19
  clear e0 e2 e3 e4 e6 e7 e8 e9 e11 e12 e13 e14 e15 e17 e20 e21 e22 hC hn E3 hL vs L nb
  clear B2 ha
  go_wp2
  refine bodyPost_ret (v := .bool true) ?_ rfl (by first | exact ⟨_, rfl, E.below, rfl⟩ | exact ⟨_, rfl, E.below⟩ | exact ⟨rfl, E.below⟩)
  simp [results, Tryz.results54, go_sem]

set_option maxRecDepth 100000 in
set_option maxHeartbeats 4000000 in
theorem exValidN {w : World} {v : Value} {n d : Int} (h : Pair w v n d) (hd0 : ¬ 0 < d) :
    Calls Tryz.prog 54 #[v] w fun e w' => ∃ v', e = .returned v' ∧ Below w.heap.size w w' ∧ v' = .bool false := by
  obtain ⟨n0, ao0, k0, c0, n0', ao0', k0', c0', rfl, _⟩ := ratV_pair h
  obtain ⟨w1, b1, hw1, hb1, hs1, E⟩ := fr_start w (F := Fq.pair n d) (us := [.bool n0, .slice ao0 k0 c0, .bool n0', .slice ao0' k0' c0']) 31 rfl (by simp) (tame_rat _ _ _ _ _ _ _ _) h
  go_enter Tryz.func54, Tryz.ntmps54
  go_upto_region 1 with (fail)
  rw [← hw1]
  rw [← hb1]
  clear hw1 hb1 hs1
  have T : Hid (¬ 0 < cmpI d 0) := fun e => hd0 (cmpIqgt.1 e)
  refine region_fr (C := [Fq.is (.pointer (some ⟨b1, 0, none⟩)), Fq.num n, Fq.is (.bool true), Fq.is (.bool true), Fq.is (.pointer (some ⟨b1, 2, none⟩)), Fq.num d, Fq.is (.bool true), Fq.is (.bool true), Fq.is (.bool true), Fq.is (.pointer (some ⟨b1, 2, none⟩)), Fq.num d, Fq.is (.int .i64 (cmpI d 0)), Fq.is (.bool false), Fq.is (.bool false), Fq.is (.bool false), Fq.is (undef), Fq.is (undef), Fq.is (undef), Fq.is (undef), Fq.is (undef), Fq.is (undef), Fq.is (.bool false), Fq.is (.bool false)]) (ks := [none]) (new := []) E rfl (by kernel_rfl) rfl rfl (fun hp => ⟨?_, ?_, ?_, ?_, ?_, ?_, ?_, ?_, ?_, ?_, ?_, ?_, ?_, ?_, ?_, ?_, ?_, ?_, ?_, ?_, ?_, ?_, ?_, trivial⟩) ?_
  · exact q_addr (b := b1) (off := 0) (off' := 0) hp (free_of rfl) trivial (sq_out rfl rfl (fun _ _ => rfl)) (fun ρ w h => by simp [execOp, go_sem, h]) (fun _ => rfl)
  · exact q_loadInt (off := 0) hp (free_of rfl) trivial (List.mem_iff_getElem?.2 ⟨0, rfl⟩) (.inl rfl) (Nat.le_of_ble_eq_true rfl) (sq_in 0 rfl rfl (by simp) rfl (fun v w h => h)) (fun us w hl h => ld_pn hl h)
  · exact q_call1 (F := (Fq.num n).P) hp (free_of rfl) trivial (enq_Valid) (sq_in 1 rfl rfl (by simp) rfl (fun v w h => h)) (fun v w h => exIsValid h)
  · exact q_move hp (free_of rfl) trivial (sq_in 2 rfl rfl (by simp) rfl (fun v w h => h))
  · exact q_addr (b := b1) (off := 0) (off' := 2) hp (free_of rfl) (gq_some rfl rfl (by simp) rfl (fun v w h => h)) (sq_out rfl rfl (fun _ _ => rfl)) (fun ρ w h => by simp [execOp, go_sem, h]) (fun _ => rfl)
  · exact q_loadInt (off := 2) hp (free_of rfl) (gq_some rfl rfl (by simp) rfl (fun v w h => h)) (List.mem_iff_getElem?.2 ⟨0, rfl⟩) (.inl rfl) (Nat.le_of_ble_eq_true rfl) (sq_in 4 rfl rfl (by simp) rfl (fun v w h => h)) (fun us w hl h => ld_pd hl h)
  · exact q_call1 (F := (Fq.num d).P) hp (free_of rfl) (gq_some rfl rfl (by simp) rfl (fun v w h => h)) (enq_Valid) (sq_in 5 rfl rfl (by simp) rfl (fun v w h => h)) (fun v w h => exIsValid h)
  · exact q_two (F := fun v _ => v = .bool true) (G := fun v _ => v = .bool true) hp (free_of rfl) trivial (sq_in 3 rfl rfl (by simp) rfl (fun v w h => h)) (sq_in 6 rfl rfl (by simp) rfl (fun v w h => h)) (fun ρ w hc h h' => ⟨_, by simp [execOp, go_sem, h, h'], rfl⟩)
  · exact q_move hp (free_of rfl) trivial (sq_in 7 rfl rfl (by simp) rfl (fun v w h => h))
  · exact q_addr (b := b1) (off := 0) (off' := 2) hp (free_of rfl) (gq_some rfl rfl (by simp) rfl (fun v w h => h)) (sq_out rfl rfl (fun _ _ => rfl)) (fun ρ w h => by simp [execOp, go_sem, h]) (fun _ => rfl)
  · exact q_loadInt (off := 2) hp (free_of rfl) (gq_some rfl rfl (by simp) rfl (fun v w h => h)) (List.mem_iff_getElem?.2 ⟨0, rfl⟩) (.inl rfl) (Nat.le_of_ble_eq_true rfl) (sq_in 9 rfl rfl (by simp) rfl (fun v w h => h)) (fun us w hl h => ld_pd hl h)
  · exact q_call1 (F := (Fq.num d).P) hp (free_of rfl) (gq_some rfl rfl (by simp) rfl (fun v w h => h)) (enq_Sign) (sq_in 10 rfl rfl (by simp) rfl (fun v w h => h)) (fun v w h => exSign h)
  · exact q_one (F := fun v _ => v = .int .i64 (cmpI d 0)) hp (free_of rfl) (gq_some rfl rfl (by simp) rfl (fun v w h => h)) (sq_in 11 rfl rfl (by simp) rfl (fun v w h => h)) (fun ρ w hc h => ⟨.bool false, by simp [execOp, go_sem, h, hc, T.out], rfl⟩)
  · exact q_two (F := fun v _ => v = .bool true) (G := fun v _ => v = .bool false) hp (free_of rfl) trivial (sq_in 8 rfl rfl (by simp) rfl (fun v w h => h)) (sq_in 12 rfl rfl (by simp) rfl (fun v w h => h)) (fun ρ w hc h h' => ⟨_, by simp [execOp, go_sem, h, h'], rfl⟩)
  · exact q_move hp (free_of rfl) trivial (sq_in 13 rfl rfl (by simp) rfl (fun v w h => h))
  · exact q_skip hp (free_of rfl) rfl (gq_some rfl rfl (by simp) rfl (fun v w h => h)) (fun _ => rfl)
  · exact q_skip hp (free_of rfl) rfl (gq_some rfl rfl (by simp) rfl (fun v w h => h)) (fun _ => rfl)
  · exact q_skip hp (free_of rfl) rfl (gq_some rfl rfl (by simp) rfl (fun v w h => h)) (fun _ => rfl)
  · exact q_skip hp (free_of rfl) rfl (gq_some rfl rfl (by simp) rfl (fun v w h => h)) (fun _ => rfl)
  · exact q_skip hp (free_of rfl) rfl (gq_some rfl rfl (by simp) rfl (fun v w h => h)) (fun _ => rfl)
  · exact q_skip hp (free_of rfl) rfl (gq_some rfl rfl (by simp) rfl (fun v w h => h)) (fun _ => rfl)
  · exact q_two (F := fun v _ => v = .bool false) (G := fun v _ => v = .bool false) hp (free_of rfl) trivial (sq_in 14 rfl rfl (by simp) rfl (fun v w h => h)) (sq_const (fun _ => rfl)) (fun ρ w hc h h' => ⟨_, by simp [execOp, go_sem, h, h'], rfl⟩)
  · exact q_assign hp (free_of rfl) trivial (sq_in 21 rfl rfl (by simp) rfl (fun v w h => h))
  intro L vs w2 nb hL hC hn E2
  have e0 : vs 0 = .pointer (some ⟨b1, 0, none⟩) := hC 0 (by simp)
  have e2 : vs 2 = .bool true := hC 2 (by simp)
  have e3 : vs 3 = .bool true := hC 3 (by simp)
  have e4 : vs 4 = .pointer (some ⟨b1, 2, none⟩) := hC 4 (by simp)
  have e6 : vs 6 = .bool true := hC 6 (by simp)
  have e7 : vs 7 = .bool true := hC 7 (by simp)
  have e8 : vs 8 = .bool true := hC 8 (by simp)
  have e9 : vs 9 = .pointer (some ⟨b1, 2, none⟩) := hC 9 (by simp)
  have e11 : vs 11 = .int .i64 (cmpI d 0) := hC 11 (by simp)
  have e12 : vs 12 = .bool false := hC 12 (by simp)
  have e13 : vs 13 = .bool false := hC 13 (by simp)
  have e14 : vs 14 = .bool false := hC 14 (by simp)
  have e15 : vs 15 = undef := hC 15 (by simp)
  have e16 : vs 16 = undef := hC 16 (by simp)
  have e17 : vs 17 = undef := hC 17 (by simp)
  have e18 : vs 18 = undef := hC 18 (by simp)
  have e19 : vs 19 = undef := hC 19 (by simp)
  have e20 : vs 20 = undef := hC 20 (by simp)
  have e21 : vs 21 = .bool false := hC 21 (by simp)
  have e22 : vs 22 = .bool false := hC 22 (by simp)
  have E : Fr w [(b1, 4, Fq.pair n d)] w2 := E2
  rw [lay_all hL]
  simp only [putAll, dstOf, List.length_cons, List.length_nil, Nat.zero_add, Nat.reduceAdd, List.getElem?_toArray, List.getElem?_cons_zero, List.getElem?_cons_succ, Option.bind_some, Act.put, List.setIfInBounds_toArray, List.set_cons_succ, List.set_cons_zero]
  rw [e0, e2, e3, e4, e6, e7, e8, e9, e11, e12, e13, e14, e15, e16, e17, e18, e19, e20, e21, e22]
  generalize vs 1 = u2_1
  generalize vs 5 = u2_5
  generalize vs 10 = u2_10
  clear e0 e2 e3 e4 e6 e7 e8 e9 e11 e12 e13 e14 e15 e16 e17 e18 e19 e20 e21 e22 hC hn E2 hL vs L nb
  go_wp2
  refine bodyPost_ret (v := .bool false) ?_ rfl (by first | exact ⟨_, rfl, E.below, rfl⟩ | exact ⟨_, rfl, E.below⟩ | exact ⟨rfl, E.below⟩)
  simp [results, Tryz.results54, go_sem]

set_option maxRecDepth 100000 in
set_option maxHeartbeats 4000000 in
theorem exValidG {w : World} {v : Value} {n d : Int} (h : Pair w v n d) (hn : ab n < pw 200) (hd : ab d < pw 200) (hd0 : 0 < d) (hg : Int.gcd n d ≠ 1) :
    Calls Tryz.prog 54 #[v] w fun e w' => ∃ v', e = .returned v' ∧ Below w.heap.size w w' ∧ v' = .bool false := by
  replace hn := hidd hn
  replace hd := hidd hd
  obtain ⟨n0, ao0, k0, c0, n0', ao0', k0', c0', rfl, _⟩ := ratV_pair h
  obtain ⟨w1, b1, hw1, hb1, hs1, E⟩ := fr_start w (F := Fq.pair n d) (us := [.bool n0, .slice ao0 k0 c0, .bool n0', .slice ao0' k0' c0']) 31 rfl (by simp) (tame_rat _ _ _ _ _ _ _ _) h
  go_enter Tryz.func54, Tryz.ntmps54
  go_upto_region 1 with (fail)
  rw [← hw1]
  rw [← hb1]
  clear hw1 hb1 hs1
  have T : Hid (0 < cmpI d 0) := cmpIqgt.2 hd0
  have B2 : Hid (ab ((Int.gcd n d : Int)) < pw 200) := ab_gcdB hn.out hd.out (by omega) (by omega)
  refine region_fr (C := [Fq.is (.pointer (some ⟨b1, 0, none⟩)), Fq.num n, Fq.is (.bool true), Fq.is (.bool true), Fq.is (.pointer (some ⟨b1, 2, none⟩)), Fq.num d, Fq.is (.bool true), Fq.is (.bool true), Fq.is (.bool true), Fq.is (.pointer (some ⟨b1, 2, none⟩)), Fq.num d, Fq.is (.int .i64 (cmpI d 0)), Fq.is (.bool true), Fq.is (.bool true), Fq.is (.bool true), Fq.is (.pointer (some ⟨b1, 0, none⟩)), Fq.num n, Fq.is (.pointer (some ⟨b1, 2, none⟩)), Fq.num d, Fq.num (Int.gcd n d : Int), Fq.is (.bool false), Fq.is (.bool false), Fq.is (.bool false)]) (ks := [none]) (new := []) E rfl (by kernel_rfl) rfl rfl (fun hp => ⟨?_, ?_, ?_, ?_, ?_, ?_, ?_, ?_, ?_, ?_, ?_, ?_, ?_, ?_, ?_, ?_, ?_, ?_, ?_, ?_, ?_, ?_, ?_, trivial⟩) ?_
  · exact q_addr (b := b1) (off := 0) (off' := 0) hp (free_of rfl) trivial (sq_out rfl rfl (fun _ _ => rfl)) (fun ρ w h => by simp [execOp, go_sem, h]) (fun _ => rfl)
  · exact q_loadInt (off := 0) hp (free_of rfl) trivial (List.mem_iff_getElem?.2 ⟨0, rfl⟩) (.inl rfl) (Nat.le_of_ble_eq_true rfl) (sq_in 0 rfl rfl (by simp) rfl (fun v w h => h)) (fun us w hl h => ld_pn hl h)
  · exact q_call1 (F := (Fq.num n).P) hp (free_of rfl) trivial (enq_Valid) (sq_in 1 rfl rfl (by simp) rfl (fun v w h => h)) (fun v w h => exIsValid h)
  · exact q_move hp (free_of rfl) trivial (sq_in 2 rfl rfl (by simp) rfl (fun v w h => h))
  · exact q_addr (b := b1) (off := 0) (off' := 2) hp (free_of rfl) (gq_some rfl rfl (by simp) rfl (fun v w h => h)) (sq_out rfl rfl (fun _ _ => rfl)) (fun ρ w h => by simp [execOp, go_sem, h]) (fun _ => rfl)
  · exact q_loadInt (off := 2) hp (free_of rfl) (gq_some rfl rfl (by simp) rfl (fun v w h => h)) (List.mem_iff_getElem?.2 ⟨0, rfl⟩) (.inl rfl) (Nat.le_of_ble_eq_true rfl) (sq_in 4 rfl rfl (by simp) rfl (fun v w h => h)) (fun us w hl h => ld_pd hl h)
  · exact q_call1 (F := (Fq.num d).P) hp (free_of rfl) (gq_some rfl rfl (by simp) rfl (fun v w h => h)) (enq_Valid) (sq_in 5 rfl rfl (by simp) rfl (fun v w h => h)) (fun v w h => exIsValid h)
  · exact q_two (F := fun v _ => v = .bool true) (G := fun v _ => v = .bool true) hp (free_of rfl) trivial (sq_in 3 rfl rfl (by simp) rfl (fun v w h => h)) (sq_in 6 rfl rfl (by simp) rfl (fun v w h => h)) (fun ρ w hc h h' => ⟨_, by simp [execOp, go_sem, h, h'], rfl⟩)
  · exact q_move hp (free_of rfl) trivial (sq_in 7 rfl rfl (by simp) rfl (fun v w h => h))
  · exact q_addr (b := b1) (off := 0) (off' := 2) hp (free_of rfl) (gq_some rfl rfl (by simp) rfl (fun v w h => h)) (sq_out rfl rfl (fun _ _ => rfl)) (fun ρ w h => by simp [execOp, go_sem, h]) (fun _ => rfl)
  · exact q_loadInt (off := 2) hp (free_of rfl) (gq_some rfl rfl (by simp) rfl (fun v w h => h)) (List.mem_iff_getElem?.2 ⟨0, rfl⟩) (.inl rfl) (Nat.le_of_ble_eq_true rfl) (sq_in 9 rfl rfl (by simp) rfl (fun v w h => h)) (fun us w hl h => ld_pd hl h)
  · exact q_call1 (F := (Fq.num d).P) hp (free_of rfl) (gq_some rfl rfl (by simp) rfl (fun v w h => h)) (enq_Sign) (sq_in 10 rfl rfl (by simp) rfl (fun v w h => h)) (fun v w h => exSign h)
  · exact q_one (F := fun v _ => v = .int .i64 (cmpI d 0)) hp (free_of rfl) (gq_some rfl rfl (by simp) rfl (fun v w h => h)) (sq_in 11 rfl rfl (by simp) rfl (fun v w h => h)) (fun ρ w hc h => ⟨.bool true, by simp [execOp, go_sem, h, hc, T.out], rfl⟩)
  · exact q_two (F := fun v _ => v = .bool true) (G := fun v _ => v = .bool true) hp (free_of rfl) trivial (sq_in 8 rfl rfl (by simp) rfl (fun v w h => h)) (sq_in 12 rfl rfl (by simp) rfl (fun v w h => h)) (fun ρ w hc h h' => ⟨_, by simp [execOp, go_sem, h, h'], rfl⟩)
  · exact q_move hp (free_of rfl) trivial (sq_in 13 rfl rfl (by simp) rfl (fun v w h => h))
  · exact q_addr (b := b1) (off := 0) (off' := 0) hp (free_of rfl) (gq_some rfl rfl (by simp) rfl (fun v w h => h)) (sq_out rfl rfl (fun _ _ => rfl)) (fun ρ w h => by simp [execOp, go_sem, h]) (fun _ => rfl)
  · exact q_loadInt (off := 0) hp (free_of rfl) (gq_some rfl rfl (by simp) rfl (fun v w h => h)) (List.mem_iff_getElem?.2 ⟨0, rfl⟩) (.inl rfl) (Nat.le_of_ble_eq_true rfl) (sq_in 15 rfl rfl (by simp) rfl (fun v w h => h)) (fun us w hl h => ld_pn hl h)
  · exact q_addr (b := b1) (off := 0) (off' := 2) hp (free_of rfl) (gq_some rfl rfl (by simp) rfl (fun v w h => h)) (sq_out rfl rfl (fun _ _ => rfl)) (fun ρ w h => by simp [execOp, go_sem, h]) (fun _ => rfl)
  · exact q_loadInt (off := 2) hp (free_of rfl) (gq_some rfl rfl (by simp) rfl (fun v w h => h)) (List.mem_iff_getElem?.2 ⟨0, rfl⟩) (.inl rfl) (Nat.le_of_ble_eq_true rfl) (sq_in 17 rfl rfl (by simp) rfl (fun v w h => h)) (fun us w hl h => ld_pd hl h)
  · exact q_call2 (F := (Fq.num n).P) (G := (Fq.num d).P) hp (free_of rfl) (gq_some rfl rfl (by simp) rfl (fun v w h => h)) (enq_Gcd) (sq_in 16 rfl rfl (by simp) rfl (fun v w h => h)) (sq_in 18 rfl rfl (by simp) rfl (fun v w h => h)) (fun v v' w h h' => exK (GcdV h h') B2.out (by omega))
  · exact q_call1 (F := (Fq.num (Int.gcd n d : Int)).P) hp (free_of rfl) (gq_some rfl rfl (by simp) rfl (fun v w h => h)) (enq_Q_isOne) (sq_in 19 rfl rfl (by simp) rfl (fun v w h => h)) (fun v w h => exIsOneB h (by rw [decide_eq_false]; intro e; exact hg (by omega)))
  · exact q_two (F := fun v _ => v = .bool true) (G := fun v _ => v = .bool false) hp (free_of rfl) trivial (sq_in 14 rfl rfl (by simp) rfl (fun v w h => h)) (sq_in 20 rfl rfl (by simp) rfl (fun v w h => h)) (fun ρ w hc h h' => ⟨_, by simp [execOp, go_sem, h, h'], rfl⟩)
  · exact q_assign hp (free_of rfl) trivial (sq_in 21 rfl rfl (by simp) rfl (fun v w h => h))
  intro L vs w3 nb hL hC hn E3
  have e0 : vs 0 = .pointer (some ⟨b1, 0, none⟩) := hC 0 (by simp)
  have e2 : vs 2 = .bool true := hC 2 (by simp)
  have e3 : vs 3 = .bool true := hC 3 (by simp)
  have e4 : vs 4 = .pointer (some ⟨b1, 2, none⟩) := hC 4 (by simp)
  have e6 : vs 6 = .bool true := hC 6 (by simp)
  have e7 : vs 7 = .bool true := hC 7 (by simp)
  have e8 : vs 8 = .bool true := hC 8 (by simp)
  have e9 : vs 9 = .pointer (some ⟨b1, 2, none⟩) := hC 9 (by simp)
  have e11 : vs 11 = .int .i64 (cmpI d 0) := hC 11 (by simp)
  have e12 : vs 12 = .bool true := hC 12 (by simp)
  have e13 : vs 13 = .bool true := hC 13 (by simp)
  have e14 : vs 14 = .bool true := hC 14 (by simp)
  have e15 : vs 15 = .pointer (some ⟨b1, 0, none⟩) := hC 15 (by simp)
  have e17 : vs 17 = .pointer (some ⟨b1, 2, none⟩) := hC 17 (by simp)
  have e20 : vs 20 = .bool false := hC 20 (by simp)
  have e21 : vs 21 = .bool false := hC 21 (by simp)
  have e22 : vs 22 = .bool false := hC 22 (by simp)
  have E : Fr w [(b1, 4, Fq.pair n d)] w3 := E3
  rw [lay_all hL]
  simp only [putAll, dstOf, List.length_cons, List.length_nil, Nat.zero_add, Nat.reduceAdd, List.getElem?_toArray, List.getElem?_cons_zero, List.getElem?_cons_succ, Option.bind_some, Act.put, List.setIfInBounds_toArray, List.set_cons_succ, List.set_cons_zero]
  rw [e0, e2, e3, e4, e6, e7, e8, e9, e11, e12, e13, e14, e15, e17, e20, e21, e22]
  generalize vs 1 = u3_1
  generalize vs 5 = u3_5
  generalize vs 10 = u3_10
  generalize vs 16 = u3_16
  generalize vs 18 = u3_18
  generalize vs 19 = u3_19
  clear e0 e2 e3 e4 e6 e7 e8 e9 e11 e12 e13 e14 e15 e17 e20 e21 e22 hC hn E3 hL vs L nb
  clear B2 hn hd
  go_wp2
  refine bodyPost_ret (v := .bool false) ?_ rfl (by first | exact ⟨_, rfl, E.below, rfl⟩ | exact ⟨_, rfl, E.below⟩ | exact ⟨rfl, E.below⟩)
  simp [results, Tryz.results54, go_sem]

theorem txt2 : bys { data := #[50] } = intText 2 := by
  have h : sizeText 2 = [50] := by unfold sizeText; rw [if_neg (by decide), decs_pos (by decide), show (2 : Nat) / 10 = 0 by rfl, decs_zero]; rfl
  show _ = if (2 : Int) < 0 then _ else sizeText (2 : Int).natAbs
  rw [if_neg (by decide)]
  show _ = sizeText 2
  rw [h]; rfl
theorem txt4 : bys { data := #[52] } = intText 4 := by
  have h : sizeText 4 = [52] := by unfold sizeText; rw [if_neg (by decide), decs_pos (by decide), show (4 : Nat) / 10 = 0 by rfl, decs_zero]; rfl
  show _ = if (4 : Int) < 0 then _ else sizeText (4 : Int).natAbs
  rw [if_neg (by decide)]
  show _ = sizeText 4
  rw [h]; rfl
theorem len2 : (intText 2).length ≤ 1300 := by rw [← txt2]; decide
theorem len4 : (intText 4).length ≤ 1300 := by rw [← txt4]; decide

set_option maxRecDepth 100000 in
set_option maxHeartbeats 4000000 in
theorem exRead24 (w : World) :
    Calls Tryz.prog 81 #[.string { data := #[50] }, .string { data := #[52] }] w fun e w' => ∃ v', e = .returned v' ∧ Below w.heap.size w w' ∧ (Fq.tup2 (Fq.pair (2) (4)) (Fq.is (.bool false))).P v' w' := by
  obtain ⟨w1, b1, hw1, hb1, hs1, E⟩ := fr_start w (F := Fq.pair 0 0) (us := [.bool false, .slice none 0 0, .bool false, .slice none 0 0]) 31 rfl (by simp) (tame_rat _ _ _ _ _ _ _ _) (Pair.zero _)
  go_enter Tryz.func81, Tryz.ntmps81
  go_upto_region 1 with (fail)
  rw [← hw1]
  rw [← hb1]
  clear hw1 hb1 hs1
  have B2 : Hid (ab ((2)) < pw 3) := ab_lit (by decide)
  refine region_fr (C := [Fq.is (.string { data := #[50] }), Fq.tup2 (Fq.num (2)) (Fq.is (.int .i64 0)), Fq.tup2 (Fq.num (2)) (Fq.is (.int .i64 0)), Fq.num (2), Fq.is (.int .i64 0), Fq.any, Fq.any, Fq.is (.int .i64 0)]) (ks := [none]) (new := [⟨5, 6, 2, Fq.num 0, Fq.num (2), none⟩]) E rfl (by kernel_rfl) rfl rfl (fun hp => ⟨?_, ?_, ?_, ?_, ?_, ?_, ?_, ?_, trivial⟩) ?_
  · exact q_move hp (free_of rfl) trivial (sq_out rfl rfl (fun _ _ => rfl))
  · exact q_call1 (F := (Fq.is (.string { data := #[50] })).P) hp (free_of rfl) trivial (enq_Parse) (sq_in 0 rfl rfl (by simp) rfl (fun v w h => h)) (fun v w h => (by subst h; exact exParseI txt2 len2))
  · exact q_move hp (free_of rfl) trivial (sq_in 1 rfl rfl (by simp) rfl (fun v w h => h))
  · exact q_extract2 hp (free_of rfl) trivial (sq_in 2 rfl rfl (by simp) rfl (fun v w h => h)) (fun v1 v2 w h1 h2 => ⟨_, rfl, h1⟩)
  · exact q_extract2 hp (free_of rfl) trivial (sq_in 2 rfl rfl (by simp) rfl (fun v w h => h)) (fun v1 v2 w h1 h2 => ⟨_, rfl, h2⟩)
  · exact q_allocInt hp (List.mem_iff_getElem?.2 ⟨0, rfl⟩) rfl rfl rfl rfl (Nat.ne_of_beq_eq_false rfl) (fun _ _ => trivial) (old_ne rfl) (newk_ne rfl) (fun w => Num.zero w)
  · exact q_storeNewInt hp (List.mem_iff_getElem?.2 ⟨0, rfl⟩) rfl rfl rfl (own_ptr rfl rfl (by simp) rfl) (sq_in 3 rfl rfl (by simp) rfl (fun v w h => intV_num h)) (fun _ _ => trivial) (old_ne rfl) (newi_ne rfl)
  · exact q_assign hp (free_of rfl) trivial (sq_in 4 rfl rfl (by simp) rfl (fun v w h => h))
  intro L vs w3 nb hL hC hn E3
  have e0 : vs 0 = .string { data := #[50] } := hC 0 (by simp)
  have e4 : vs 4 = .int .i64 0 := hC 4 (by simp)
  have e7 : vs 7 = .int .i64 0 := hC 7 (by simp)
  have e5 : vs 5 = .pointer (some ⟨nb 5, 0, none⟩) := hn _ (List.mem_iff_getElem?.2 ⟨0, rfl⟩)
  have E : Fr w [(nb 5, 2, Fq.num (2)), (b1, 4, Fq.pair 0 0)] w3 := E3
  rw [lay_all hL]
  simp only [putAll, dstOf, List.length_cons, List.length_nil, Nat.zero_add, Nat.reduceAdd, List.getElem?_toArray, List.getElem?_cons_zero, List.getElem?_cons_succ, Option.bind_some, Act.put, List.setIfInBounds_toArray, List.set_cons_succ, List.set_cons_zero]
  rw [e0, e4, e7, e5]
  generalize nb 5 = b3_5 at E ⊢
  generalize vs 1 = u3_1
  generalize vs 2 = u3_2
  generalize vs 3 = u3_3
  clear e0 e4 e7 e5 hC hn E3 hL vs L nb
  go_upto_region 2 with (fail)
  refine region_fr (C := [Fq.is (.int .i64 0), Fq.is (.bool false)]) (ks := [none, none]) (new := []) E rfl (by kernel_rfl) rfl rfl (fun hp => ⟨?_, ?_, trivial⟩) ?_
  · exact q_move hp (free_of rfl) trivial (sq_out rfl rfl (fun _ _ => rfl))
  · exact q_one (F := fun v _ => v = .int .i64 0) hp (free_of rfl) trivial (sq_in 0 rfl rfl (by simp) rfl (fun v w h => h)) (fun ρ w hc h => ⟨.bool false, by simp [execOp, go_sem, h, hc], rfl⟩)
  intro L vs w4 nb hL hC hn E4
  have e0 : vs 0 = .int .i64 0 := hC 0 (by simp)
  have e1 : vs 1 = .bool false := hC 1 (by simp)
  have E : Fr w [(b3_5, 2, Fq.num (2)), (b1, 4, Fq.pair 0 0)] w4 := E4
  rw [lay_all hL]
  simp only [putAll, dstOf, List.length_cons, List.length_nil, Nat.zero_add, Nat.reduceAdd, List.getElem?_toArray, List.getElem?_cons_zero, List.getElem?_cons_succ, Option.bind_some, Act.put, List.setIfInBounds_toArray, List.set_cons_succ, List.set_cons_zero]
  rw [e0, e1]
  clear e0 e1 hC hn E4 hL vs L nb
  go_upto_region 4 with (fail)
  have B5 : Hid (ab ((4)) < pw 3) := ab_lit (by decide)
  refine region_fr (C := [Fq.is (.string { data := #[52] }), Fq.tup2 (Fq.num (4)) (Fq.is (.int .i64 0)), Fq.tup2 (Fq.num (4)) (Fq.is (.int .i64 0)), Fq.num (4), Fq.is (.int .i64 0), Fq.any, Fq.any, Fq.is (.int .i64 0)]) (ks := [none, none]) (new := [⟨5, 6, 2, Fq.num 0, Fq.num (4), none⟩]) E rfl (by kernel_rfl) rfl rfl (fun hp => ⟨?_, ?_, ?_, ?_, ?_, ?_, ?_, ?_, trivial⟩) ?_
  · exact q_move hp (free_of rfl) trivial (sq_out rfl rfl (fun _ _ => rfl))
  · exact q_call1 (F := (Fq.is (.string { data := #[52] })).P) hp (free_of rfl) trivial (enq_Parse) (sq_in 0 rfl rfl (by simp) rfl (fun v w h => h)) (fun v w h => (by subst h; exact exParseI txt4 len4))
  · exact q_move hp (free_of rfl) trivial (sq_in 1 rfl rfl (by simp) rfl (fun v w h => h))
  · exact q_extract2 hp (free_of rfl) trivial (sq_in 2 rfl rfl (by simp) rfl (fun v w h => h)) (fun v1 v2 w h1 h2 => ⟨_, rfl, h1⟩)
  · exact q_extract2 hp (free_of rfl) trivial (sq_in 2 rfl rfl (by simp) rfl (fun v w h => h)) (fun v1 v2 w h1 h2 => ⟨_, rfl, h2⟩)
  · exact q_allocInt hp (List.mem_iff_getElem?.2 ⟨0, rfl⟩) rfl rfl rfl rfl (Nat.ne_of_beq_eq_false rfl) (fun _ _ => trivial) (old_ne rfl) (newk_ne rfl) (fun w => Num.zero w)
  · exact q_storeNewInt hp (List.mem_iff_getElem?.2 ⟨0, rfl⟩) rfl rfl rfl (own_ptr rfl rfl (by simp) rfl) (sq_in 3 rfl rfl (by simp) rfl (fun v w h => intV_num h)) (fun _ _ => trivial) (old_ne rfl) (newi_ne rfl)
  · exact q_assign hp (free_of rfl) trivial (sq_in 4 rfl rfl (by simp) rfl (fun v w h => h))
  intro L vs w6 nb hL hC hn E6
  have e0 : vs 0 = .string { data := #[52] } := hC 0 (by simp)
  have e4 : vs 4 = .int .i64 0 := hC 4 (by simp)
  have e7 : vs 7 = .int .i64 0 := hC 7 (by simp)
  have e5 : vs 5 = .pointer (some ⟨nb 5, 0, none⟩) := hn _ (List.mem_iff_getElem?.2 ⟨0, rfl⟩)
  have E : Fr w [(nb 5, 2, Fq.num (4)), (b3_5, 2, Fq.num (2)), (b1, 4, Fq.pair 0 0)] w6 := E6
  rw [lay_all hL]
  simp only [putAll, dstOf, List.length_cons, List.length_nil, Nat.zero_add, Nat.reduceAdd, List.getElem?_toArray, List.getElem?_cons_zero, List.getElem?_cons_succ, Option.bind_some, Act.put, List.setIfInBounds_toArray, List.set_cons_succ, List.set_cons_zero]
  rw [e0, e4, e7, e5]
  generalize nb 5 = b6_5 at E ⊢
  generalize vs 1 = u6_1
  generalize vs 2 = u6_2
  generalize vs 3 = u6_3
  clear e0 e4 e7 e5 hC hn E6 hL vs L nb
  go_upto_region 5 with (fail)
  refine region_fr (C := [Fq.is (.int .i64 0), Fq.is (.bool false)]) (ks := [none, none, none]) (new := []) E rfl (by kernel_rfl) rfl rfl (fun hp => ⟨?_, ?_, trivial⟩) ?_
  · exact q_move hp (free_of rfl) trivial (sq_out rfl rfl (fun _ _ => rfl))
  · exact q_one (F := fun v _ => v = .int .i64 0) hp (free_of rfl) trivial (sq_in 0 rfl rfl (by simp) rfl (fun v w h => h)) (fun ρ w hc h => ⟨.bool false, by simp [execOp, go_sem, h, hc], rfl⟩)
  intro L vs w7 nb hL hC hn E7
  have e0 : vs 0 = .int .i64 0 := hC 0 (by simp)
  have e1 : vs 1 = .bool false := hC 1 (by simp)
  have E : Fr w [(b6_5, 2, Fq.num (4)), (b3_5, 2, Fq.num (2)), (b1, 4, Fq.pair 0 0)] w7 := E7
  rw [lay_all hL]
  simp only [putAll, dstOf, List.length_cons, List.length_nil, Nat.zero_add, Nat.reduceAdd, List.getElem?_toArray, List.getElem?_cons_zero, List.getElem?_cons_succ, Option.bind_some, Act.put, List.setIfInBounds_toArray, List.set_cons_succ, List.set_cons_zero]
  rw [e0, e1]
  clear e0 e1 hC hn E7 hL vs L nb
  go_upto_region 7 with (fail)
  refine region_fr (C := [Fq.num (2), Fq.num (4), Fq.pair (2) (4), Fq.any, Fq.any]) (ks := [none, none, none]) (new := [⟨3, 4, 4, Fq.pair 0 0, Fq.pair (2) (4), none⟩]) E rfl (by kernel_rfl) rfl rfl (fun hp => ⟨?_, ?_, ?_, ?_, ?_, trivial⟩) ?_
  · exact q_loadInt (off := 0) hp (free_of rfl) trivial (List.mem_iff_getElem?.2 ⟨1, rfl⟩) (.inl rfl) (Nat.le_of_ble_eq_true rfl) (sq_out rfl rfl (fun _ _ => rfl)) (fun us w hl h => ld_num hl h)
  · exact q_loadInt (off := 0) hp (free_of rfl) trivial (List.mem_iff_getElem?.2 ⟨0, rfl⟩) (.inl rfl) (Nat.le_of_ble_eq_true rfl) (sq_out rfl rfl (fun _ _ => rfl)) (fun us w hl h => ld_num hl h)
  · exact q_buildRat (n := (2)) (d0 := (4)) hp (free_of rfl) trivial (sq_in 0 rfl rfl (by simp) rfl (fun v w h => h)) (sq_in 1 rfl rfl (by simp) rfl (fun v w h => h)) (fun v w h => h)
  · exact q_allocRat hp (List.mem_iff_getElem?.2 ⟨0, rfl⟩) rfl rfl rfl rfl (Nat.ne_of_beq_eq_false rfl) (fun _ _ => trivial) (old_ne rfl) (newk_ne rfl) (fun w => Pair.zero w)
  · exact q_storeNewRat hp (List.mem_iff_getElem?.2 ⟨0, rfl⟩) rfl rfl rfl (own_ptr rfl rfl (by simp) rfl) (sq_in 2 rfl rfl (by simp) rfl (fun v w h => ratV_pair h)) (fun _ _ => trivial) (old_ne rfl) (newi_ne rfl)
  intro L vs w8 nb hL hC hn E8
  have e3 : vs 3 = .pointer (some ⟨nb 3, 0, none⟩) := hn _ (List.mem_iff_getElem?.2 ⟨0, rfl⟩)
  have E : Fr w [(nb 3, 4, Fq.pair (2) (4)), (b6_5, 2, Fq.num (4)), (b3_5, 2, Fq.num (2)), (b1, 4, Fq.pair 0 0)] w8 := E8
  rw [lay_all hL]
  simp only [putAll, dstOf, List.length_cons, List.length_nil, Nat.zero_add, Nat.reduceAdd, List.getElem?_toArray, List.getElem?_cons_zero, List.getElem?_cons_succ, Option.bind_some, Act.put, List.setIfInBounds_toArray, List.set_cons_succ, List.set_cons_zero]
  rw [e3]
  generalize nb 3 = b8_3 at E ⊢
  generalize vs 0 = u8_0
  generalize vs 1 = u8_1
  generalize vs 2 = u8_2
  clear e3 hC hn E8 hL vs L nb
  go_upto_region 8 with (fail)
  refine region_fr (C := [Fq.pair (2) (4), Fq.pair (2) (4), Fq.is (.bool false), Fq.any, Fq.is (.bool false)]) (ks := [none, none, none, some (3, Fq.pair (2) (4))]) (new := []) E rfl (by kernel_rfl) rfl rfl (fun hp => ⟨?_, ?_, ?_, ?_, ?_, trivial⟩) ?_
  · exact q_loadRat hp (free_of rfl) trivial (List.mem_iff_getElem?.2 ⟨0, rfl⟩) (.inl rfl) rfl (sq_out rfl rfl (fun _ _ => rfl)) (fun us w hl h => h)
  · exact q_loadRat hp (free_of rfl) trivial (List.mem_iff_getElem?.2 ⟨0, rfl⟩) (.inl rfl) rfl (sq_out rfl rfl (fun _ _ => rfl)) (fun us w hl h => h)
  · exact q_call1 (F := (Fq.pair (2) (4)).P) hp (free_of rfl) trivial (enq_Q_Valid) (sq_in 1 rfl rfl (by simp) rfl (fun v w h => h)) (fun v w h => exValidG h (Int.lt_of_lt_of_le B2.out (pw_le (by omega))) (Int.lt_of_lt_of_le B5.out (pw_le (by omega))) (by decide) (by decide))
  · exact q_storeOldRat hp (List.mem_iff_getElem?.2 ⟨3, rfl⟩) rfl rfl (sq_out rfl rfl (fun _ _ => rfl)) (sq_in 0 rfl rfl (by simp) rfl (fun v w h => ratV_pair h)) (fun _ _ => trivial) (newik_ne rfl)
  · exact q_assign hp (free_of rfl) trivial (sq_in 2 rfl rfl (by simp) rfl (fun v w h => h))
  intro L vs w9 nb hL hC hn E9
  have e2 : vs 2 = .bool false := hC 2 (by simp)
  have e4 : vs 4 = .bool false := hC 4 (by simp)
  have E : Fr w [(b8_3, 4, Fq.pair (2) (4)), (b6_5, 2, Fq.num (4)), (b3_5, 2, Fq.num (2)), (b1, 4, Fq.pair (2) (4))] w9 := E9
  rw [lay_all hL]
  simp only [putAll, dstOf, List.length_cons, List.length_nil, Nat.zero_add, Nat.reduceAdd, List.getElem?_toArray, List.getElem?_cons_zero, List.getElem?_cons_succ, Option.bind_some, Act.put, List.setIfInBounds_toArray, List.set_cons_succ, List.set_cons_zero]
  rw [e2, e4]
  generalize vs 0 = u9_0
  generalize vs 1 = u9_1
  clear e2 e4 hC hn E9 hL vs L nb
  obtain ⟨p0, p1, p2, p3, c0, c1, c2, c3, hP⟩ := box_pair (E.box 3 rfl)
  clear B2 B5
  go_wp2
  refine bodyPost_ret (v := .tuple #[.agg #[p0, p1, p2, p3], .bool false]) ?_ rfl ⟨_, rfl, E.below, ⟨_, _, rfl, hP, rfl⟩⟩
  simp [results, Tryz.results81, go_sem, c0, c1, c2, c3]

set_option maxRecDepth 100000 in
set_option maxHeartbeats 4000000 in
theorem exParse24 (w : World) :
    Calls Tryz.prog 53 #[.string { data := #[50, 47, 52] }] w fun e w' => ∃ v', e = .returned v' ∧ Below w.heap.size w w' ∧ (Fq.tup2 (Fq.pair 0 0) (Fq.is (.int .i64 3))).P v' w' := by
  obtain ⟨w1, b1, hw1, hb1, hs1, E⟩ := fr_start w (F := Fq.pair 0 0) (us := [.bool false, .slice none 0 0, .bool false, .slice none 0 0]) 31 rfl (by simp) (tame_rat _ _ _ _ _ _ _ _) (Pair.zero _)
  go_enter Tryz.func53, Tryz.ntmps53
  go_upto_region 3 with (fail)
  rw [← hw1]
  rw [← hb1]
  clear hw1 hb1 hs1
  go_wp2_with fail
  refine (exCut _).mono ?_
  rintro e wq ⟨rfl, hb⟩
  replace E := E.mono hb
  clear hb
  go_upto_region 6 with (fail)
  refine region_fr (C := [Fq.is (.string { data := #[50] }), Fq.is (.string { data := #[52] }), Fq.tup2 (Fq.pair 2 4) (Fq.is (.bool false)), Fq.tup2 (Fq.pair 2 4) (Fq.is (.bool false)), Fq.pair 2 4, Fq.is (.bool false), Fq.any, Fq.any, Fq.is (.bool false)]) (ks := [none]) (new := [⟨6, 7, 4, Fq.pair 0 0, Fq.pair 2 4, none⟩]) E rfl (by kernel_rfl) rfl rfl (fun hp => ⟨?_, ?_, ?_, ?_, ?_, ?_, ?_, ?_, ?_, trivial⟩) ?_
  · exact q_move hp (free_of rfl) trivial (sq_out rfl rfl (fun _ _ => rfl))
  · exact q_move hp (free_of rfl) trivial (sq_out rfl rfl (fun _ _ => rfl))
  · exact q_call2 (F := (Fq.is (.string { data := #[50] })).P) (G := (Fq.is (.string { data := #[52] })).P) hp (free_of rfl) trivial (enq_Q_read) (sq_in 0 rfl rfl (by simp) rfl (fun v w h => h)) (sq_in 1 rfl rfl (by simp) rfl (fun v w h => h)) (fun v v' w h h' => (by subst h; subst h'; exact exRead24 w))
  · exact q_move hp (free_of rfl) trivial (sq_in 2 rfl rfl (by simp) rfl (fun v w h => h))
  · exact q_extract2 hp (free_of rfl) trivial (sq_in 3 rfl rfl (by simp) rfl (fun v w h => h)) (fun v1 v2 w h1 h2 => ⟨_, rfl, h1⟩)
  · exact q_extract2 hp (free_of rfl) trivial (sq_in 3 rfl rfl (by simp) rfl (fun v w h => h)) (fun v1 v2 w h1 h2 => ⟨_, rfl, h2⟩)
  · exact q_allocRat hp (List.mem_iff_getElem?.2 ⟨0, rfl⟩) rfl rfl rfl rfl (Nat.ne_of_beq_eq_false rfl) (fun _ _ => trivial) (old_ne rfl) (newk_ne rfl) (fun w => Pair.zero w)
  · exact q_storeNewRat hp (List.mem_iff_getElem?.2 ⟨0, rfl⟩) rfl rfl rfl (own_ptr rfl rfl (by simp) rfl) (sq_in 4 rfl rfl (by simp) rfl (fun v w h => ratV_pair h)) (fun _ _ => trivial) (old_ne rfl) (newi_ne rfl)
  · exact q_assign hp (free_of rfl) trivial (sq_in 5 rfl rfl (by simp) rfl (fun v w h => h))
  intro L vs w2 nb hL hC hn E2
  have e0 : vs 0 = .string { data := #[50] } := hC 0 (by simp)
  have e1 : vs 1 = .string { data := #[52] } := hC 1 (by simp)
  have e5 : vs 5 = .bool false := hC 5 (by simp)
  have e8 : vs 8 = .bool false := hC 8 (by simp)
  have e6 : vs 6 = .pointer (some ⟨nb 6, 0, none⟩) := hn _ (List.mem_iff_getElem?.2 ⟨0, rfl⟩)
  have E : Fr w [(nb 6, 4, Fq.pair 2 4), (b1, 4, Fq.pair 0 0)] w2 := E2
  rw [lay_all hL]
  simp only [putAll, dstOf, List.length_cons, List.length_nil, Nat.zero_add, Nat.reduceAdd, List.getElem?_toArray, List.getElem?_cons_zero, List.getElem?_cons_succ, Option.bind_some, Act.put, List.setIfInBounds_toArray, List.set_cons_succ, List.set_cons_zero]
  rw [e0, e1, e5, e8, e6]
  generalize nb 6 = b2_6 at E ⊢
  generalize vs 2 = u2_2
  generalize vs 3 = u2_3
  generalize vs 4 = u2_4
  clear e0 e1 e5 e8 e6 hC hn E2 hL vs L nb
  go_upto_region 7 with (fail)
  refine region_fr (C := [Fq.is (.bool false), Fq.is (.bool true), Fq.is (.bool true), Fq.is (undef), Fq.is (undef), Fq.is (undef), Fq.is (undef), Fq.is (undef), Fq.is (undef), Fq.is (.bool true)]) (ks := [none, none]) (new := []) E rfl (by kernel_rfl) rfl rfl (fun hp => ⟨?_, ?_, ?_, ?_, ?_, ?_, ?_, ?_, ?_, ?_, trivial⟩) ?_
  · exact q_move hp (free_of rfl) trivial (sq_out rfl rfl (fun _ _ => rfl))
  · exact q_one (F := fun v _ => v = .bool false) hp (free_of rfl) trivial (sq_in 0 rfl rfl (by simp) rfl (fun v w h => h)) (fun ρ w _ h => ⟨.bool true, by simp [execOp, go_sem, h], rfl⟩)
  · exact q_move hp (free_of rfl) trivial (sq_in 1 rfl rfl (by simp) rfl (fun v w h => h))
  · exact q_skip hp (free_of rfl) rfl (gq_some rfl rfl (by simp) rfl (fun v w h => h)) (fun _ => rfl)
  · exact q_skip hp (free_of rfl) rfl (gq_some rfl rfl (by simp) rfl (fun v w h => h)) (fun _ => rfl)
  · exact q_skipU hp (free_of rfl) rfl rfl rfl (by simp) rfl (fun v w h => h) (fun _ => rfl)
  · exact q_skipU hp (free_of rfl) rfl rfl rfl (by simp) rfl (fun v w h => h) (fun _ => rfl)
  · exact q_skipU hp (free_of rfl) rfl rfl rfl (by simp) rfl (fun v w h => h) (fun _ => rfl)
  · exact q_skip hp (free_of rfl) rfl (gq_some rfl rfl (by simp) rfl (fun v w h => h)) (fun _ => rfl)
  · exact q_two (F := fun v _ => v = .bool true) (G := fun v _ => v = .bool true) hp (free_of rfl) trivial (sq_in 2 rfl rfl (by simp) rfl (fun v w h => h)) (sq_const (fun _ => rfl)) (fun ρ w hc h h' => ⟨_, by simp [execOp, go_sem, h, h'], rfl⟩)
  intro L vs w3 nb hL hC hn E3
  have e0 : vs 0 = .bool false := hC 0 (by simp)
  have e1 : vs 1 = .bool true := hC 1 (by simp)
  have e2 : vs 2 = .bool true := hC 2 (by simp)
  have e3 : vs 3 = undef := hC 3 (by simp)
  have e4 : vs 4 = undef := hC 4 (by simp)
  have e5 : vs 5 = undef := hC 5 (by simp)
  have e6 : vs 6 = undef := hC 6 (by simp)
  have e7 : vs 7 = undef := hC 7 (by simp)
  have e8 : vs 8 = undef := hC 8 (by simp)
  have e9 : vs 9 = .bool true := hC 9 (by simp)
  have E : Fr w [(b2_6, 4, Fq.pair 2 4), (b1, 4, Fq.pair 0 0)] w3 := E3
  rw [lay_all hL]
  simp only [putAll, dstOf, List.length_cons, List.length_nil, Nat.zero_add, Nat.reduceAdd, List.getElem?_toArray, List.getElem?_cons_zero, List.getElem?_cons_succ, Option.bind_some, Act.put, List.setIfInBounds_toArray, List.set_cons_succ, List.set_cons_zero]
  rw [e0, e1, e2, e3, e4, e5, e6, e7, e8, e9]
  clear e0 e1 e2 e3 e4 e5 e6 e7 e8 e9 hC hn E3 hL vs L nb
  go_upto_region 8 with (fail)
  refine region_fr (C := [Fq.pair 0 0, Fq.any, Fq.is (.int .i64 3)]) (ks := [none, some (1, Fq.pair 0 0)]) (new := []) E rfl (by kernel_rfl) rfl rfl (fun hp => ⟨?_, ?_, ?_, trivial⟩) ?_
  · exact q_zeroRat hp (free_of rfl) trivial (fun v w h => h)
  · exact q_storeOldRat hp (List.mem_iff_getElem?.2 ⟨1, rfl⟩) rfl rfl (sq_out rfl rfl (fun _ _ => rfl)) (sq_in 0 rfl rfl (by simp) rfl (fun v w h => ratV_pair h)) (fun _ _ => trivial) (newik_ne rfl)
  · exact q_assign hp (free_of rfl) trivial (sq_const (fun _ => rfl))
  intro L vs w4 nb hL hC hn E4
  have e2 : vs 2 = .int .i64 3 := hC 2 (by simp)
  have E : Fr w [(b2_6, 4, Fq.pair 2 4), (b1, 4, Fq.pair 0 0)] w4 := E4
  rw [lay_all hL]
  simp only [putAll, dstOf, List.length_cons, List.length_nil, Nat.zero_add, Nat.reduceAdd, List.getElem?_toArray, List.getElem?_cons_zero, List.getElem?_cons_succ, Option.bind_some, Act.put, List.setIfInBounds_toArray, List.set_cons_succ, List.set_cons_zero]
  rw [e2]
  generalize vs 0 = u4_0
  clear e2 hC hn E4 hL vs L nb
  obtain ⟨p0, p1, p2, p3, c0, c1, c2, c3, hP⟩ := box_pair (E.box 1 rfl)
  go_wp2
  refine bodyPost_ret (v := .tuple #[.agg #[p0, p1, p2, p3], .int .i64 3]) ?_ rfl ⟨_, rfl, E.below, ⟨_, _, rfl, hP, rfl⟩⟩
  simp [results, Tryz.results53, go_sem, c0, c1, c2, c3]

end Go.Proofs.YtoimphnhmpmipaaGreat

/- Walks: the simplest fraction between two. -/
namespace Go.Proofs.YtoimphnhmpmipaaGreat
open Go Go.RowKit

/-- A box of the call's own is stored to. -/
theorem Fr.put {w0 W : World} {b m : Nat} {F F' : Fq} {bs : List (Nat × Nat × Fq)} (h : Fr w0 ((b, m, F) :: bs) W) {us : List Value} (hl : us.length = m) (ht : Tame us) (hF : F'.P (.agg us.toArray) W) : Fr w0 ((b, m, F') :: bs) (putFrom W b 0 us) := by
  have hb := h.boxes _ List.mem_cons_self
  refine ⟨putFrom_below hb.1 us 0 _ _ h.below, fun x hx => ?_, h.apart⟩
  rcases List.mem_cons.1 hx with rfl | hx
  · exact ⟨hb.1, hb.2.same hl ht hF⟩
  · have hx2 := h.boxes x (List.mem_cons_of_mem _ hx)
    refine ⟨hx2.1, hx2.2.other hb.2 (fun e => ?_) hl⟩
    have hn := h.apart
    rw [List.map_cons, List.nodup_cons] at hn
    exact hn.1 (by rw [show (b, m, F).1 = x.1 from e.symm]; exact List.mem_map.2 ⟨x, hx, rfl⟩)

section
variable {os : List Oper} {Q : Exit → Act → World → Prop} {a : Act} {p : Pq} {B B0 : Nat} {w0 : World}
variable {i s : Nat} {d : Option Tmp} {ty : TypeId} {ps : String} {af : Array Edge} {gd : Option (Nat × Bool)}
/-- An integer out of a box that was there before the call. -/
theorem q_loadIntOut {b : Nat} {F : Fq} {x : Operand} (hp : p.Ok B B0) (hF : p.Free i) (hg : GdQ os a p B B0 w0 af gd) (hb : Bq w0 b 2 F) (hB : B = w0.heap.size) (hx : SrcQ os a p B B0 w0 af x fun u _ => u = .pointer (some ⟨b, 0, none⟩)) (hC : ∀ v w, F.P v w → (p.c i).P v w) :
    StepQ os Q a p B B0 w0 i { dst := d, op := .load 29 x, type := ty, pos := ps, after := af, guard := gd } := by
  subst hB
  refine stq_val hp hF hg fun L vs w hG hL hc hd => ?_
  obtain ⟨us, hl, h0, hat, ht, hP⟩ := hb.mono hG.below
  have e := hx L vs w hG hd
  match us, hl, hat, hP with
  | [u0, u1], _, hat, hP =>
    have c0 := (hat 0 (by simp)).1
    have c1 := (hat 1 (by simp)).1
    simp at c0 c1
    refine ⟨_, ?_, hC _ w hP⟩
    generalize (lay os.toArray L vs os.toArray.size a).eval = ρ at e
    simp [execOp, go_sem, e, c0, c1]
end

/-- The simplest fraction from a/b to c/d. -/
def simF : Nat → Int → Int → Int → Int → Int × Int
  | 0, _, _, _, _ => (0, 1)
  | f + 1, an, ad, bn, bd => if an % ad = 0 then (an / ad, 1) else if bd ≤ bn - an / ad * bd then (an / ad + 1, 1) else
      (an / ad * (simF f bd (bn - an / ad * bd) ad (an % ad)).1 + (simF f bd (bn - an / ad * bd) ad (an % ad)).2, (simF f bd (bn - an / ad * bd) ad (an % ad)).1)

theorem sim_rest {an ad bn bd : Int} (hd : 0 < ad) (hbd : 0 < bd) (hle : an * bd ≤ bn * ad) (hr : an % ad ≠ 0) : 0 < bn - an / ad * bd := by
  have h1 := Int.mul_ediv_add_emod an ad
  have h2 := Int.emod_nonneg an (show ad ≠ 0 by omega)
  have h3 : an = ad * (an / ad) + an % ad := by omega
  rcases Int.lt_or_le 0 (bn - an / ad * bd) with h | h
  · exact h
  · exfalso
    have h4 : bn * ad ≤ (an / ad * bd) * ad := Int.mul_le_mul_of_nonneg_right (by omega) (by omega)
    have h5 : an * bd = (an / ad * bd) * ad + an % ad * bd := by
      have : (ad * (an / ad) + an % ad) * bd = (an / ad * bd) * ad + an % ad * bd := by
        rw [Int.add_mul]; congr 1; ac_rfl
      rw [← h3] at this; exact this
    have h6 := Int.mul_pos (show 0 < an % ad by omega) hbd
    omega

/-- The next pair is in its order, too. -/
theorem sim_next {an ad bn bd : Int} (hle : an * bd ≤ bn * ad) : bd * (an % ad) ≤ ad * (bn - an / ad * bd) := by
  have h1 := Int.mul_ediv_add_emod an ad
  have h3 : an % ad = an - ad * (an / ad) := by omega
  rw [h3, Int.mul_sub, Int.mul_sub]
  have h4 : bd * an = an * bd := Int.mul_comm _ _
  have h5 : ad * bn = bn * ad := Int.mul_comm _ _
  have h6 : bd * (ad * (an / ad)) = ad * (an / ad * bd) := by ac_rfl
  omega

theorem sim_le : ∀ (f : Nat) (an ad bn bd : Int), 0 < an → 0 < ad → 0 < bd → an * bd ≤ bn * ad → (ad + bd).toNat ≤ f →
    let r := simF f an ad bn bd
    0 < r.1 ∧ 0 < r.2 ∧ ((r.1 ≤ an ∧ r.2 ≤ ad) ∨ (r.1 ≤ bn ∧ r.2 ≤ bd))
  | 0, an, ad, bn, bd, _, h2, h3, _, h5 => by omega
  | f + 1, an, ad, bn, bd, h1, h2, h3, h4, h5 => by
    have e1 := Int.mul_ediv_add_emod an ad
    have e2 := Int.emod_nonneg an (show ad ≠ 0 by omega)
    have e3 := Int.emod_lt_of_pos an h2
    have e4 : 0 ≤ an / ad := Int.ediv_nonneg (by omega) (by omega)
    have e6 : an / ad ≤ ad * (an / ad) := by
      have := Int.mul_le_mul_of_nonneg_right (show 1 ≤ ad by omega) e4
      omega
    simp only [simF]
    split
    · rename_i hr
      have : 0 < an / ad := by
        rcases Int.lt_or_le 0 (an / ad) with h | h
        · exact h
        · have h0 : an / ad = 0 := by omega
          rw [h0, Int.mul_zero] at e1; omega
      exact ⟨this, by omega, .inl ⟨by omega, by omega⟩⟩
    · rename_i hr
      split
      · refine ⟨by omega, by omega, .inl ⟨?_, by omega⟩⟩
        omega
      · rename_i hb
        have r1 := sim_rest h2 h3 h4 hr
        have ih := sim_le f bd (bn - an / ad * bd) ad (an % ad) h3 r1 (by omega) (sim_next h4) (by omega)
        simp only at ih
        obtain ⟨i1, i2, i3⟩ := ih
        generalize simF f bd (bn - an / ad * bd) ad (an % ad) = r at *
        have p0 := Int.mul_nonneg e4 (show 0 ≤ r.1 by omega)
        refine ⟨by omega, i1, ?_⟩
        rcases i3 with ⟨j1, j2⟩ | ⟨j1, j2⟩
        · refine .inr ⟨?_, j1⟩
          have := Int.mul_le_mul_of_nonneg_left j1 e4
          omega
        · refine .inl ⟨?_, j1⟩
          have := Int.mul_le_mul_of_nonneg_left j1 e4
          have e7 : an / ad * ad = ad * (an / ad) := Int.mul_comm _ _
          omega

/-- The function that looks for it, as a value. -/
def findV (o f : Nat) : Value := .func (.func 100) #[] #[.pointer (some ⟨o, 0, none⟩), .pointer (some ⟨f, 0, none⟩)]

set_option maxRecDepth 100000 in
set_option maxHeartbeats 4000000 in
theorem exFind {N : Nat} {w : World} {v1 v2 v3 v4 : Value} {o f : Nat} {an ad bn bd : Int} (h1 : Num w v1 an) (h2 : Num w v2 ad) (h3 : Num w v3 bn) (h4 : Num w v4 bd) (p1 : 0 < an) (p2 : 0 < ad) (p3 : 0 < bd) (ha : ab an < pw 300) (hb : ab ad < pw 300) (hc : ab bn < pw 300) (hd : ab bd < pw 300) (hle : an * bd ≤ bn * ad) (hN : (ad + bd).toNat ≤ N) (ho : Bq w o 2 (Fq.num 1)) (hf : w.cell? ⟨f, 0, none⟩ = some (findV o f)) (hfl : f < w.heap.size) :
    Calls Tryz.prog 100 #[v1, v2, v3, v4, .pointer (some ⟨o, 0, none⟩), .pointer (some ⟨f, 0, none⟩)] w fun e w' => ∃ v', e = .returned v' ∧ Below w.heap.size w w' ∧ (Fq.tup2 (Fq.num (simF N an ad bn bd).1) (Fq.num (simF N an ad bn bd).2)).P v' w' := by
  induction N generalizing w v1 v2 v3 v4 an ad bn bd with
  | zero => omega
  | succ N ih =>
    have Han := hidd ha
    have Had := hidd hb
    have Hbn := hidd hc
    have Hbd := hidd hd
    have HN := hidd hN
    have HLE := hidd hle
    have Hp := hidd (show 0 < an ∧ 0 < ad ∧ 0 < bd from ⟨p1, p2, p3⟩)
    clear ha hb hc hd hN hle p1 p2 p3
    obtain ⟨n0, ao0, k0, c0, rfl⟩ := h1.parts
    obtain ⟨n1, ao1, k1, c1, rfl⟩ := h2.parts
    obtain ⟨n2, ao2, k2, c2, rfl⟩ := h3.parts
    obtain ⟨n3, ao3, k3, c3, rfl⟩ := h4.parts
    obtain ⟨w1, b1, hw1, hb1, hs1, E⟩ := fr_start w (F := Fq.num an) (us := [.bool n0, .slice ao0 k0 c0]) 29 rfl (by simp) (tame_int _ _ _ _) h1
    obtain ⟨w2, b2, hw2, hb2, hs2, E⟩ := fr_more E hs1 (F := Fq.num ad) (us := [.bool n1, .slice ao1 k1 c1]) 29 rfl (by simp) (tame_int _ _ _ _) (h2.mono E.below)
    obtain ⟨w3, b3, hw3, hb3, hs3, E⟩ := fr_more E hs2 (F := Fq.num bn) (us := [.bool n2, .slice ao2 k2 c2]) 29 rfl (by simp) (tame_int _ _ _ _) (h3.mono E.below)
    obtain ⟨w4, b4, hw4, hb4, hs4, E⟩ := fr_more E hs3 (F := Fq.num bd) (us := [.bool n3, .slice ao3 k3 c3]) 29 rfl (by simp) (tame_int _ _ _ _) (h4.mono E.below)
    obtain ⟨w5, b5, hw5, hb5, hs5, E⟩ := fr_more E hs4 (F := Fq.num 0) (us := [.bool false, .slice none 0 0]) 29 rfl (by simp) (tame_int _ _ _ _) (Num.zero _)
    obtain ⟨w6, b6, hw6, hb6, hs6, E⟩ := fr_more E hs5 (F := Fq.num 0) (us := [.bool false, .slice none 0 0]) 29 rfl (by simp) (tame_int _ _ _ _) (Num.zero _)
    go_enter Tryz.func100, Tryz.ntmps100
    go_upto_region 1 with (fail)
    rw [← hw1]
    rw [← hw2]
    rw [← hw3]
    rw [← hw4]
    rw [← hw5]
    rw [← hw6]
    rw [← hb6]
    rw [← hb5]
    rw [← hb4]
    rw [← hb3]
    rw [← hb2]
    rw [← hb1]
    clear hw1 hw2 hw3 hw4 hw5 hw6 hb1 hb2 hb3 hb4 hb5 hb6 hs6 hs1 hs2 hs3 hs4 hs5
    have B7 : Hid (ab ((an / ad)) < pw 301) := ab_divB Han.out (by omega)
    have B8 : Hid (ab ((an % ad)) < pw 300) := ab_modB (by have := Hp.out.2.1; omega) Had.out
    refine region_fr (C := [Fq.num an, Fq.num ad, Fq.tup3 (Fq.num (an / ad)) (Fq.num (an % ad)) (Fq.is (.int .i64 0)), Fq.tup3 (Fq.num (an / ad)) (Fq.num (an % ad)) (Fq.is (.int .i64 0)), Fq.num (an / ad), Fq.num (an % ad), Fq.is (.int .i64 0), Fq.any, Fq.any, Fq.any, Fq.any, Fq.is (.int .i64 0)]) (ks := [none, none, none, none, none, none]) (new := [⟨7, 9, 2, Fq.num 0, Fq.num (an / ad), none⟩, ⟨8, 10, 2, Fq.num 0, Fq.num (an % ad), none⟩]) E rfl (by kernel_rfl) rfl rfl (fun hp => ⟨?_, ?_, ?_, ?_, ?_, ?_, ?_, ?_, ?_, ?_, ?_, ?_, trivial⟩) ?_
    · exact q_loadInt (off := 0) hp (free_of rfl) trivial (List.mem_iff_getElem?.2 ⟨5, rfl⟩) (.inl rfl) (Nat.le_of_ble_eq_true rfl) (sq_out rfl rfl (fun _ _ => rfl)) (fun us w hl h => ld_num hl h)
    · exact q_loadInt (off := 0) hp (free_of rfl) trivial (List.mem_iff_getElem?.2 ⟨4, rfl⟩) (.inl rfl) (Nat.le_of_ble_eq_true rfl) (sq_out rfl rfl (fun _ _ => rfl)) (fun us w hl h => ld_num hl h)
    · exact q_call2 (F := (Fq.num an).P) (G := (Fq.num ad).P) hp (free_of rfl) trivial (enq_DivMod) (sq_in 0 rfl rfl (by simp) rfl (fun v w h => h)) (sq_in 1 rfl rfl (by simp) rfl (fun v w h => h)) (fun v v' w h h' => exDMq h h' (by have := Hp.out.2.1; omega) B7.out B8.out (by omega) (by omega))
    · exact q_move hp (free_of rfl) trivial (sq_in 2 rfl rfl (by simp) rfl (fun v w h => h))
    · exact q_extract3 hp (free_of rfl) trivial (sq_in 3 rfl rfl (by simp) rfl (fun v w h => h)) (fun v1 v2 v3 w h1 h2 h3 => ⟨_, rfl, h1⟩)
    · exact q_extract3 hp (free_of rfl) trivial (sq_in 3 rfl rfl (by simp) rfl (fun v w h => h)) (fun v1 v2 v3 w h1 h2 h3 => ⟨_, rfl, h2⟩)
    · exact q_extract3 hp (free_of rfl) trivial (sq_in 3 rfl rfl (by simp) rfl (fun v w h => h)) (fun v1 v2 v3 w h1 h2 h3 => ⟨_, rfl, h3⟩)
    · exact q_allocInt hp (List.mem_iff_getElem?.2 ⟨0, rfl⟩) rfl rfl rfl rfl (Nat.ne_of_beq_eq_false rfl) (fun _ _ => trivial) (old_ne rfl) (newk_ne rfl) (fun w => Num.zero w)
    · exact q_allocInt hp (List.mem_iff_getElem?.2 ⟨1, rfl⟩) rfl rfl rfl rfl (Nat.ne_of_beq_eq_false rfl) (fun _ _ => trivial) (old_ne rfl) (newk_ne rfl) (fun w => Num.zero w)
    · exact q_storeNewInt hp (List.mem_iff_getElem?.2 ⟨0, rfl⟩) rfl rfl rfl (own_ptr rfl rfl (by simp) rfl) (sq_in 4 rfl rfl (by simp) rfl (fun v w h => intV_num h)) (fun _ _ => trivial) (old_ne rfl) (newi_ne rfl)
    · exact q_storeNewInt hp (List.mem_iff_getElem?.2 ⟨1, rfl⟩) rfl rfl rfl (own_ptr rfl rfl (by simp) rfl) (sq_in 5 rfl rfl (by simp) rfl (fun v w h => intV_num h)) (fun _ _ => trivial) (old_ne rfl) (newi_ne rfl)
    · exact q_assign hp (free_of rfl) trivial (sq_in 6 rfl rfl (by simp) rfl (fun v w h => h))
    intro L vs w9 nb hL hC hn E9
    have e6 : vs 6 = .int .i64 0 := hC 6 (by simp)
    have e11 : vs 11 = .int .i64 0 := hC 11 (by simp)
    have e7 : vs 7 = .pointer (some ⟨nb 7, 0, none⟩) := hn _ (List.mem_iff_getElem?.2 ⟨0, rfl⟩)
    have e8 : vs 8 = .pointer (some ⟨nb 8, 0, none⟩) := hn _ (List.mem_iff_getElem?.2 ⟨1, rfl⟩)
    have E : Fr w [(nb 7, 2, Fq.num (an / ad)), (nb 8, 2, Fq.num (an % ad)), (b6, 2, Fq.num 0), (b5, 2, Fq.num 0), (b4, 2, Fq.num bd), (b3, 2, Fq.num bn), (b2, 2, Fq.num ad), (b1, 2, Fq.num an)] w9 := E9
    rw [lay_all hL]
    simp only [putAll, dstOf, List.length_cons, List.length_nil, Nat.zero_add, Nat.reduceAdd, List.getElem?_toArray, List.getElem?_cons_zero, List.getElem?_cons_succ, Option.bind_some, Act.put, List.setIfInBounds_toArray, List.set_cons_succ, List.set_cons_zero]
    rw [e6, e11, e7, e8]
    generalize nb 7 = b9_7 at E ⊢
    generalize nb 8 = b9_8 at E ⊢
    generalize vs 0 = u9_0
    generalize vs 1 = u9_1
    generalize vs 2 = u9_2
    generalize vs 3 = u9_3
    generalize vs 4 = u9_4
    generalize vs 5 = u9_5
    clear e6 e11 e7 e8 hC hn E9 hL vs L nb
    by_cases hr : an % ad = 0
    · have T : Hid (cmpI (an % ad) 0 = 0) := cmpIq0.2 hr
      go_upto_region 2 with (fail)
      refine region_fr (C := [Fq.num (an % ad), Fq.is (.int .i64 (cmpI (an % ad) 0)), Fq.is (.bool true)]) (ks := [none, none, none, none, none, none, none, none]) (new := []) E rfl (by kernel_rfl) rfl rfl (fun hp => ⟨?_, ?_, ?_, trivial⟩) ?_
      · exact q_loadInt (off := 0) hp (free_of rfl) trivial (List.mem_iff_getElem?.2 ⟨1, rfl⟩) (.inl rfl) (Nat.le_of_ble_eq_true rfl) (sq_out rfl rfl (fun _ _ => rfl)) (fun us w hl h => ld_num hl h)
      · exact q_call1 (F := (Fq.num (an % ad)).P) hp (free_of rfl) trivial (enq_Sign) (sq_in 0 rfl rfl (by simp) rfl (fun v w h => h)) (fun v w h => exSign h)
      · exact q_one (F := fun v _ => v = .int .i64 (cmpI (an % ad) 0)) hp (free_of rfl) trivial (sq_in 1 rfl rfl (by simp) rfl (fun v w h => h)) (fun ρ w hc h => ⟨.bool true, by simp [execOp, go_sem, h, hc, T.out], rfl⟩)
      intro L vs w10 nb hL hC hn E10
      have e1 : vs 1 = .int .i64 (cmpI (an % ad) 0) := hC 1 (by simp)
      have e2 : vs 2 = .bool true := hC 2 (by simp)
      have E : Fr w [(b9_7, 2, Fq.num (an / ad)), (b9_8, 2, Fq.num (an % ad)), (b6, 2, Fq.num 0), (b5, 2, Fq.num 0), (b4, 2, Fq.num bd), (b3, 2, Fq.num bn), (b2, 2, Fq.num ad), (b1, 2, Fq.num an)] w10 := E10
      rw [lay_all hL]
      simp only [putAll, dstOf, List.length_cons, List.length_nil, Nat.zero_add, Nat.reduceAdd, List.getElem?_toArray, List.getElem?_cons_zero, List.getElem?_cons_succ, Option.bind_some, Act.put, List.setIfInBounds_toArray, List.set_cons_succ, List.set_cons_zero]
      rw [e1, e2]
      generalize vs 0 = u10_0
      clear e1 e2 hC hn E10 hL vs L nb
      clear T
      go_upto_region 3 with (fail)
      refine region_fr (C := [Fq.num (an / ad), Fq.num 1, Fq.any, Fq.any]) (ks := [none, none, some (3, Fq.num 1), some (2, Fq.num (an / ad)), none, none, none, none]) (new := []) E rfl (by kernel_rfl) rfl rfl (fun hp => ⟨?_, ?_, ?_, ?_, trivial⟩) ?_
      · exact q_loadInt (off := 0) hp (free_of rfl) trivial (List.mem_iff_getElem?.2 ⟨0, rfl⟩) (.inl rfl) (Nat.le_of_ble_eq_true rfl) (sq_out rfl rfl (fun _ _ => rfl)) (fun us w hl h => ld_num hl h)
      · exact q_loadIntOut hp (free_of rfl) trivial ho rfl (sq_out rfl rfl (fun _ _ => rfl)) (fun v w h => h)
      · exact q_storeOldInt hp (List.mem_iff_getElem?.2 ⟨3, rfl⟩) rfl rfl (sq_out rfl rfl (fun _ _ => rfl)) (sq_in 0 rfl rfl (by simp) rfl (fun v w h => intV_num h)) (fun _ _ => trivial) (newik_ne rfl)
      · exact q_storeOldInt hp (List.mem_iff_getElem?.2 ⟨2, rfl⟩) rfl rfl (sq_out rfl rfl (fun _ _ => rfl)) (sq_in 1 rfl rfl (by simp) rfl (fun v w h => intV_num h)) (fun _ _ => trivial) (newik_ne rfl)
      intro L vs w11 nb hL hC hn E11
      have E : Fr w [(b9_7, 2, Fq.num (an / ad)), (b9_8, 2, Fq.num (an % ad)), (b6, 2, Fq.num 1), (b5, 2, Fq.num (an / ad)), (b4, 2, Fq.num bd), (b3, 2, Fq.num bn), (b2, 2, Fq.num ad), (b1, 2, Fq.num an)] w11 := E11
      rw [lay_all hL]
      simp only [putAll, dstOf, List.length_cons, List.length_nil, Nat.zero_add, Nat.reduceAdd, List.getElem?_toArray, List.getElem?_cons_zero, List.getElem?_cons_succ, Option.bind_some, Act.put, List.setIfInBounds_toArray, List.set_cons_succ, List.set_cons_zero]
      generalize vs 0 = u11_0
      generalize vs 1 = u11_1
      clear  hC hn E11 hL vs L nb
      have hs : Hid (simF (N + 1) an ad bn bd = (an / ad, 1)) := by show _ = _; simp only [simF]; rw [if_pos hr]
      clear hr
      obtain ⟨p0, p1, c0, c1, hP⟩ := box_num (E.box 3 rfl)
      obtain ⟨q0, q1, d0, d1, hQ⟩ := box_num (E.box 2 rfl)
      clear B7 B8
      go_wp2
      refine bodyPost_ret (v := .tuple #[.agg #[p0, p1], .agg #[q0, q1]]) ?_ rfl ⟨_, rfl, E.below, _, _, rfl, by show Num _ _ _; rw [hs.out]; exact hP, by show Num _ _ _; rw [hs.out]; exact hQ⟩
      simp [results, Tryz.results100, go_sem, c0, c1, d0, d1]
    · have T : Hid (¬ cmpI (an % ad) 0 = 0) := fun e => hr (cmpIq0.1 e)
      go_upto_region 2 with (fail)
      refine region_fr (C := [Fq.num (an % ad), Fq.is (.int .i64 (cmpI (an % ad) 0)), Fq.is (.bool false)]) (ks := [none, none, none, none, none, none, none, none]) (new := []) E rfl (by kernel_rfl) rfl rfl (fun hp => ⟨?_, ?_, ?_, trivial⟩) ?_
      · exact q_loadInt (off := 0) hp (free_of rfl) trivial (List.mem_iff_getElem?.2 ⟨1, rfl⟩) (.inl rfl) (Nat.le_of_ble_eq_true rfl) (sq_out rfl rfl (fun _ _ => rfl)) (fun us w hl h => ld_num hl h)
      · exact q_call1 (F := (Fq.num (an % ad)).P) hp (free_of rfl) trivial (enq_Sign) (sq_in 0 rfl rfl (by simp) rfl (fun v w h => h)) (fun v w h => exSign h)
      · exact q_one (F := fun v _ => v = .int .i64 (cmpI (an % ad) 0)) hp (free_of rfl) trivial (sq_in 1 rfl rfl (by simp) rfl (fun v w h => h)) (fun ρ w hc h => ⟨.bool false, by simp [execOp, go_sem, h, hc, T.out], rfl⟩)
      intro L vs w12 nb hL hC hn E12
      have e1 : vs 1 = .int .i64 (cmpI (an % ad) 0) := hC 1 (by simp)
      have e2 : vs 2 = .bool false := hC 2 (by simp)
      have E : Fr w [(b9_7, 2, Fq.num (an / ad)), (b9_8, 2, Fq.num (an % ad)), (b6, 2, Fq.num 0), (b5, 2, Fq.num 0), (b4, 2, Fq.num bd), (b3, 2, Fq.num bn), (b2, 2, Fq.num ad), (b1, 2, Fq.num an)] w12 := E12
      rw [lay_all hL]
      simp only [putAll, dstOf, List.length_cons, List.length_nil, Nat.zero_add, Nat.reduceAdd, List.getElem?_toArray, List.getElem?_cons_zero, List.getElem?_cons_succ, Option.bind_some, Act.put, List.setIfInBounds_toArray, List.set_cons_succ, List.set_cons_zero]
      rw [e1, e2]
      generalize vs 0 = u12_0
      clear e1 e2 hC hn E12 hL vs L nb
      clear T
      go_upto_region 4 with (fail)
      have B13 : Hid (ab (((an / ad) * bd)) < pw 601) := ab_mulM B7.out Hbd.out (by omega)
      have B14 : Hid (ab ((bn - ((an / ad) * bd))) < pw 602) := ab_subB Hbn.out B13.out (by omega) (by omega)
      refine region_fr (C := [Fq.num bn, Fq.num (an / ad), Fq.num bd, Fq.num ((an / ad) * bd), Fq.num (bn - ((an / ad) * bd)), Fq.any, Fq.any]) (ks := [none, none, none, none, none, none, none, none]) (new := [⟨5, 6, 2, Fq.num 0, Fq.num (bn - ((an / ad) * bd)), none⟩]) E rfl (by kernel_rfl) rfl rfl (fun hp => ⟨?_, ?_, ?_, ?_, ?_, ?_, ?_, trivial⟩) ?_
      · exact q_loadInt (off := 0) hp (free_of rfl) trivial (List.mem_iff_getElem?.2 ⟨5, rfl⟩) (.inl rfl) (Nat.le_of_ble_eq_true rfl) (sq_out rfl rfl (fun _ _ => rfl)) (fun us w hl h => ld_num hl h)
      · exact q_loadInt (off := 0) hp (free_of rfl) trivial (List.mem_iff_getElem?.2 ⟨0, rfl⟩) (.inl rfl) (Nat.le_of_ble_eq_true rfl) (sq_out rfl rfl (fun _ _ => rfl)) (fun us w hl h => ld_num hl h)
      · exact q_loadInt (off := 0) hp (free_of rfl) trivial (List.mem_iff_getElem?.2 ⟨4, rfl⟩) (.inl rfl) (Nat.le_of_ble_eq_true rfl) (sq_out rfl rfl (fun _ _ => rfl)) (fun us w hl h => ld_num hl h)
      · exact q_call2 (F := (Fq.num (an / ad)).P) (G := (Fq.num bd).P) hp (free_of rfl) trivial (enq_Mul) (sq_in 1 rfl rfl (by simp) rfl (fun v w h => h)) (sq_in 2 rfl rfl (by simp) rfl (fun v w h => h)) (fun v v' w h h' => exK (MulV h h') B13.out (by omega))
      · exact q_call2 (F := (Fq.num bn).P) (G := (Fq.num ((an / ad) * bd)).P) hp (free_of rfl) trivial (enq_Sub) (sq_in 0 rfl rfl (by simp) rfl (fun v w h => h)) (sq_in 3 rfl rfl (by simp) rfl (fun v w h => h)) (fun v v' w h h' => exK (SubV h h') B14.out (by omega))
      · exact q_allocInt hp (List.mem_iff_getElem?.2 ⟨0, rfl⟩) rfl rfl rfl rfl (Nat.ne_of_beq_eq_false rfl) (fun _ _ => trivial) (old_ne rfl) (newk_ne rfl) (fun w => Num.zero w)
      · exact q_storeNewInt hp (List.mem_iff_getElem?.2 ⟨0, rfl⟩) rfl rfl rfl (own_ptr rfl rfl (by simp) rfl) (sq_in 4 rfl rfl (by simp) rfl (fun v w h => intV_num h)) (fun _ _ => trivial) (old_ne rfl) (newi_ne rfl)
      intro L vs w15 nb hL hC hn E15
      have e5 : vs 5 = .pointer (some ⟨nb 5, 0, none⟩) := hn _ (List.mem_iff_getElem?.2 ⟨0, rfl⟩)
      have E : Fr w [(nb 5, 2, Fq.num (bn - ((an / ad) * bd))), (b9_7, 2, Fq.num (an / ad)), (b9_8, 2, Fq.num (an % ad)), (b6, 2, Fq.num 0), (b5, 2, Fq.num 0), (b4, 2, Fq.num bd), (b3, 2, Fq.num bn), (b2, 2, Fq.num ad), (b1, 2, Fq.num an)] w15 := E15
      rw [lay_all hL]
      simp only [putAll, dstOf, List.length_cons, List.length_nil, Nat.zero_add, Nat.reduceAdd, List.getElem?_toArray, List.getElem?_cons_zero, List.getElem?_cons_succ, Option.bind_some, Act.put, List.setIfInBounds_toArray, List.set_cons_succ, List.set_cons_zero]
      rw [e5]
      generalize nb 5 = b15_5 at E ⊢
      generalize vs 0 = u15_0
      generalize vs 1 = u15_1
      generalize vs 2 = u15_2
      generalize vs 3 = u15_3
      generalize vs 4 = u15_4
      clear e5 hC hn E15 hL vs L nb
      by_cases hbr : bd ≤ (bn - ((an / ad) * bd))
      · have T : Hid (0 ≤ cmpI (bn - ((an / ad) * bd)) bd) := by show 0 ≤ _; have h := (mt cmpIqlt.1 (show ¬ (bn - ((an / ad) * bd)) < bd by omega)); omega
        go_upto_region 5 with (fail)
        refine region_fr (C := [Fq.num (bn - ((an / ad) * bd)), Fq.num bd, Fq.is (.int .i64 (cmpI (bn - ((an / ad) * bd)) bd)), Fq.is (.bool true)]) (ks := [none, none, none, none, none, none, none, none, none]) (new := []) E rfl (by kernel_rfl) rfl rfl (fun hp => ⟨?_, ?_, ?_, ?_, trivial⟩) ?_
        · exact q_loadInt (off := 0) hp (free_of rfl) trivial (List.mem_iff_getElem?.2 ⟨0, rfl⟩) (.inl rfl) (Nat.le_of_ble_eq_true rfl) (sq_out rfl rfl (fun _ _ => rfl)) (fun us w hl h => ld_num hl h)
        · exact q_loadInt (off := 0) hp (free_of rfl) trivial (List.mem_iff_getElem?.2 ⟨5, rfl⟩) (.inl rfl) (Nat.le_of_ble_eq_true rfl) (sq_out rfl rfl (fun _ _ => rfl)) (fun us w hl h => ld_num hl h)
        · exact q_call2 (F := (Fq.num (bn - ((an / ad) * bd))).P) (G := (Fq.num bd).P) hp (free_of rfl) trivial (enq_Cmp) (sq_in 0 rfl rfl (by simp) rfl (fun v w h => h)) (sq_in 1 rfl rfl (by simp) rfl (fun v w h => h)) (fun v v' w h h' => exCmp h h')
        · exact q_one (F := fun v _ => v = .int .i64 (cmpI (bn - ((an / ad) * bd)) bd)) hp (free_of rfl) trivial (sq_in 2 rfl rfl (by simp) rfl (fun v w h => h)) (fun ρ w hc h => ⟨.bool true, by simp [execOp, go_sem, h, hc, T.out], rfl⟩)
        intro L vs w16 nb hL hC hn E16
        have e2 : vs 2 = .int .i64 (cmpI (bn - ((an / ad) * bd)) bd) := hC 2 (by simp)
        have e3 : vs 3 = .bool true := hC 3 (by simp)
        have E : Fr w [(b15_5, 2, Fq.num (bn - ((an / ad) * bd))), (b9_7, 2, Fq.num (an / ad)), (b9_8, 2, Fq.num (an % ad)), (b6, 2, Fq.num 0), (b5, 2, Fq.num 0), (b4, 2, Fq.num bd), (b3, 2, Fq.num bn), (b2, 2, Fq.num ad), (b1, 2, Fq.num an)] w16 := E16
        rw [lay_all hL]
        simp only [putAll, dstOf, List.length_cons, List.length_nil, Nat.zero_add, Nat.reduceAdd, List.getElem?_toArray, List.getElem?_cons_zero, List.getElem?_cons_succ, Option.bind_some, Act.put, List.setIfInBounds_toArray, List.set_cons_succ, List.set_cons_zero]
        rw [e2, e3]
        generalize vs 0 = u16_0
        generalize vs 1 = u16_1
        clear e2 e3 hC hn E16 hL vs L nb
        clear T
        go_upto_region 6 with (fail)
        have B17 : Hid (ab (((an / ad) + 1)) < pw 302) := ab_addB B7.out (ab_lit (by decide)) (by omega) (by omega)
        refine region_fr (C := [Fq.num (an / ad), Fq.num 1, Fq.num ((an / ad) + 1), Fq.num 1, Fq.any, Fq.any]) (ks := [none, none, none, some (5, Fq.num 1), some (4, Fq.num ((an / ad) + 1)), none, none, none, none]) (new := []) E rfl (by kernel_rfl) rfl rfl (fun hp => ⟨?_, ?_, ?_, ?_, ?_, ?_, trivial⟩) ?_
        · exact q_loadInt (off := 0) hp (free_of rfl) trivial (List.mem_iff_getElem?.2 ⟨1, rfl⟩) (.inl rfl) (Nat.le_of_ble_eq_true rfl) (sq_out rfl rfl (fun _ _ => rfl)) (fun us w hl h => ld_num hl h)
        · exact q_loadIntOut hp (free_of rfl) trivial ho rfl (sq_out rfl rfl (fun _ _ => rfl)) (fun v w h => h)
        · exact q_call2 (F := (Fq.num (an / ad)).P) (G := (Fq.num 1).P) hp (free_of rfl) trivial (enq_Add) (sq_in 0 rfl rfl (by simp) rfl (fun v w h => h)) (sq_in 1 rfl rfl (by simp) rfl (fun v w h => h)) (fun v v' w h h' => exK (AddV h h') B17.out (by omega))
        · exact q_loadIntOut hp (free_of rfl) trivial ho rfl (sq_out rfl rfl (fun _ _ => rfl)) (fun v w h => h)
        · exact q_storeOldInt hp (List.mem_iff_getElem?.2 ⟨4, rfl⟩) rfl rfl (sq_out rfl rfl (fun _ _ => rfl)) (sq_in 2 rfl rfl (by simp) rfl (fun v w h => intV_num h)) (fun _ _ => trivial) (newik_ne rfl)
        · exact q_storeOldInt hp (List.mem_iff_getElem?.2 ⟨3, rfl⟩) rfl rfl (sq_out rfl rfl (fun _ _ => rfl)) (sq_in 3 rfl rfl (by simp) rfl (fun v w h => intV_num h)) (fun _ _ => trivial) (newik_ne rfl)
        intro L vs w18 nb hL hC hn E18
        have E : Fr w [(b15_5, 2, Fq.num (bn - ((an / ad) * bd))), (b9_7, 2, Fq.num (an / ad)), (b9_8, 2, Fq.num (an % ad)), (b6, 2, Fq.num 1), (b5, 2, Fq.num ((an / ad) + 1)), (b4, 2, Fq.num bd), (b3, 2, Fq.num bn), (b2, 2, Fq.num ad), (b1, 2, Fq.num an)] w18 := E18
        rw [lay_all hL]
        simp only [putAll, dstOf, List.length_cons, List.length_nil, Nat.zero_add, Nat.reduceAdd, List.getElem?_toArray, List.getElem?_cons_zero, List.getElem?_cons_succ, Option.bind_some, Act.put, List.setIfInBounds_toArray, List.set_cons_succ, List.set_cons_zero]
        generalize vs 0 = u18_0
        generalize vs 1 = u18_1
        generalize vs 2 = u18_2
        generalize vs 3 = u18_3
        clear  hC hn E18 hL vs L nb
        have hs : Hid (simF (N + 1) an ad bn bd = (an / ad + 1, 1)) := by show _ = _; simp only [simF]; rw [if_neg hr, if_pos hbr]
        clear hr hbr
        obtain ⟨p0, p1, c0, c1, hP⟩ := box_num (E.box 4 rfl)
        obtain ⟨q0, q1, d0, d1, hQ⟩ := box_num (E.box 3 rfl)
        clear B7 B8 B13 B14 B17
        go_wp2
        refine bodyPost_ret (v := .tuple #[.agg #[p0, p1], .agg #[q0, q1]]) ?_ rfl ⟨_, rfl, E.below, _, _, rfl, by show Num _ _ _; rw [hs.out]; exact hP, by show Num _ _ _; rw [hs.out]; exact hQ⟩
        simp [results, Tryz.results100, go_sem, c0, c1, d0, d1]
      · have T : Hid (¬ 0 ≤ cmpI (bn - ((an / ad) * bd)) bd) := by show ¬ 0 ≤ _; have h := cmpIqlt.2 (show (bn - ((an / ad) * bd)) < bd by omega); omega
        go_upto_region 5 with (fail)
        refine region_fr (C := [Fq.num (bn - ((an / ad) * bd)), Fq.num bd, Fq.is (.int .i64 (cmpI (bn - ((an / ad) * bd)) bd)), Fq.is (.bool false)]) (ks := [none, none, none, none, none, none, none, none, none]) (new := []) E rfl (by kernel_rfl) rfl rfl (fun hp => ⟨?_, ?_, ?_, ?_, trivial⟩) ?_
        · exact q_loadInt (off := 0) hp (free_of rfl) trivial (List.mem_iff_getElem?.2 ⟨0, rfl⟩) (.inl rfl) (Nat.le_of_ble_eq_true rfl) (sq_out rfl rfl (fun _ _ => rfl)) (fun us w hl h => ld_num hl h)
        · exact q_loadInt (off := 0) hp (free_of rfl) trivial (List.mem_iff_getElem?.2 ⟨5, rfl⟩) (.inl rfl) (Nat.le_of_ble_eq_true rfl) (sq_out rfl rfl (fun _ _ => rfl)) (fun us w hl h => ld_num hl h)
        · exact q_call2 (F := (Fq.num (bn - ((an / ad) * bd))).P) (G := (Fq.num bd).P) hp (free_of rfl) trivial (enq_Cmp) (sq_in 0 rfl rfl (by simp) rfl (fun v w h => h)) (sq_in 1 rfl rfl (by simp) rfl (fun v w h => h)) (fun v v' w h h' => exCmp h h')
        · exact q_one (F := fun v _ => v = .int .i64 (cmpI (bn - ((an / ad) * bd)) bd)) hp (free_of rfl) trivial (sq_in 2 rfl rfl (by simp) rfl (fun v w h => h)) (fun ρ w hc h => ⟨.bool false, by simp [execOp, go_sem, h, hc, T.out], rfl⟩)
        intro L vs w19 nb hL hC hn E19
        have e2 : vs 2 = .int .i64 (cmpI (bn - ((an / ad) * bd)) bd) := hC 2 (by simp)
        have e3 : vs 3 = .bool false := hC 3 (by simp)
        have E : Fr w [(b15_5, 2, Fq.num (bn - ((an / ad) * bd))), (b9_7, 2, Fq.num (an / ad)), (b9_8, 2, Fq.num (an % ad)), (b6, 2, Fq.num 0), (b5, 2, Fq.num 0), (b4, 2, Fq.num bd), (b3, 2, Fq.num bn), (b2, 2, Fq.num ad), (b1, 2, Fq.num an)] w19 := E19
        rw [lay_all hL]
        simp only [putAll, dstOf, List.length_cons, List.length_nil, Nat.zero_add, Nat.reduceAdd, List.getElem?_toArray, List.getElem?_cons_zero, List.getElem?_cons_succ, Option.bind_some, Act.put, List.setIfInBounds_toArray, List.set_cons_succ, List.set_cons_zero]
        rw [e2, e3]
        generalize vs 0 = u19_0
        generalize vs 1 = u19_1
        clear e2 e3 hC hn E19 hL vs L nb
        clear T
        have HRb := hidd (show ¬ an % ad = 0 ∧ ¬ bd ≤ (bn - ((an / ad) * bd)) from ⟨hr, hbr⟩)
        clear hr hbr
        have e5 := sim_rest Hp.out.2.1 Hp.out.2.2 HLE.out HRb.out.1
        have e6 := Int.emod_nonneg an (show ad ≠ 0 by have := Hp.out.2.1; omega)
        have e7 := Int.emod_lt_of_pos an Hp.out.2.1
        have HE := hidd (show 0 < (bn - ((an / ad) * bd)) ∧ (bn - ((an / ad) * bd)) < bd ∧ 0 < an % ad ∧ an % ad < ad from ⟨e5, by have := HRb.out.2; omega, by have := HRb.out.1; omega, e7⟩)
        clear e5 e6 e7
        have hf2 := (E.below.cell (p := ⟨f, 0, none⟩) hfl).trans hf
        have ho2 := ho.mono E.below
        obtain ⟨r0, r1, cr0, cr1, hPr⟩ := box_num (E.box 5 rfl)
        obtain ⟨s0, s1, cs0, cs1, hPs⟩ := box_num (E.box 0 rfl)
        obtain ⟨t0, t1, ct0, ct1, hPt⟩ := box_num (E.box 7 rfl)
        obtain ⟨u0, u1, cu0, cu1, hPu⟩ := box_num (E.box 2 rfl)
        have hf3 := hidd hf2
        unfold findV at hf2
        go_upto_region 7 with (fail)
        go_wp2_with fail
        refine (ih hPr hPs hPt hPu (Hp.out.2.2) HE.out.1 HE.out.2.2.1 Hbd.out (by have h1 := HE.out; have h2 := Hbd.out; unfold ab at *; omega) Had.out (ab_modB (by have := Hp.out.2.1; omega) Had.out) (sim_next HLE.out) (by have := HN.out; have := HE.out; omega) ho2 hf3.out (Nat.lt_of_lt_of_le hfl E.below.size)).mono ?_
        rintro e wr ⟨_, rfl, hb, v1, v2, rfl, hN1, hN2⟩
        have hsl := sim_le N bd (bn - ((an / ad) * bd)) ad (an % ad) Hp.out.2.2 HE.out.1 HE.out.2.2.1 (sim_next HLE.out) (by have := HN.out; have := HE.out; omega)
        simp only at hsl
        replace E := E.mono hb
        clear hb hf2 ho2 cr0 cr1 cs0 cs1 ct0 ct1 cu0 cu1 hPr hPs hPt hPu
        obtain ⟨R, hR⟩ : ∃ R, R = simF N bd (bn - ((an / ad) * bd)) ad (an % ad) := ⟨_, rfl⟩
        rw [← hR] at hsl hN1 hN2
        have HR := hidd hR
        clear hR
        have BN : Hid (ab R.1 < pw 300) := by show _ < _; have h2 := Hbd.out; have h3 := Had.out; unfold ab at *; omega
        have BD : Hid (ab R.2 < pw 300) := by show _ < _; have h1 := HE.out; have h2 := Hbd.out; have h3 := Had.out; unfold ab at *; omega
        clear hsl
        obtain ⟨n5, ao5, k5, c5, rfl⟩ := hN1.parts
        obtain ⟨n6, ao6, k6, c6, rfl⟩ := hN2.parts
        go_upto_region 8 with (fail)
        obtain ⟨wA, bA, hwA, hbA, hsA, E⟩ := fr_more E rfl (F := Fq.num R.1) (us := [.bool n5, .slice ao5 k5 c5]) 29 rfl (by simp) (tame_int _ _ _ _) hN1
        obtain ⟨wB, bB, hwB, hbB, hsB, E⟩ := fr_more E hsA (F := Fq.num R.2) (us := [.bool n6, .slice ao6 k6 c6]) 29 rfl (by simp) (tame_int _ _ _ _) (hN2.mono (by rw [hwA]; exact alloc_below _ _))
        rw [← hwA, ← hwB, ← hbB, ← hbA]
        clear hwA hwB hbA hbB hsA hsB hN1 hN2
        have B20 : Hid (ab (((an / ad) * R.1)) < pw 601) := ab_mulM B7.out BN.out (by omega)
        have B21 : Hid (ab ((((an / ad) * R.1) + R.2)) < pw 602) := ab_addB B20.out BD.out (by omega) (by omega)
        refine region_fr (C := [Fq.num (an / ad), Fq.num R.1, Fq.num ((an / ad) * R.1), Fq.num R.2, Fq.num (((an / ad) * R.1) + R.2), Fq.num R.1, Fq.any, Fq.any]) (ks := [none, none, none, none, none, some (7, Fq.num R.1), some (6, Fq.num (((an / ad) * R.1) + R.2)), none, none, none, none]) (new := []) E rfl (by kernel_rfl) rfl rfl (fun hp => ⟨?_, ?_, ?_, ?_, ?_, ?_, ?_, ?_, trivial⟩) ?_
        · exact q_loadInt (off := 0) hp (free_of rfl) trivial (List.mem_iff_getElem?.2 ⟨3, rfl⟩) (.inl rfl) (Nat.le_of_ble_eq_true rfl) (sq_out rfl rfl (fun _ _ => rfl)) (fun us w hl h => ld_num hl h)
        · exact q_loadInt (off := 0) hp (free_of rfl) trivial (List.mem_iff_getElem?.2 ⟨1, rfl⟩) (.inl rfl) (Nat.le_of_ble_eq_true rfl) (sq_out rfl rfl (fun _ _ => rfl)) (fun us w hl h => ld_num hl h)
        · exact q_call2 (F := (Fq.num (an / ad)).P) (G := (Fq.num R.1).P) hp (free_of rfl) trivial (enq_Mul) (sq_in 0 rfl rfl (by simp) rfl (fun v w h => h)) (sq_in 1 rfl rfl (by simp) rfl (fun v w h => h)) (fun v v' w h h' => exK (MulV h h') B20.out (by omega))
        · exact q_loadInt (off := 0) hp (free_of rfl) trivial (List.mem_iff_getElem?.2 ⟨0, rfl⟩) (.inl rfl) (Nat.le_of_ble_eq_true rfl) (sq_out rfl rfl (fun _ _ => rfl)) (fun us w hl h => ld_num hl h)
        · exact q_call2 (F := (Fq.num ((an / ad) * R.1)).P) (G := (Fq.num R.2).P) hp (free_of rfl) trivial (enq_Add) (sq_in 2 rfl rfl (by simp) rfl (fun v w h => h)) (sq_in 3 rfl rfl (by simp) rfl (fun v w h => h)) (fun v v' w h h' => exK (AddV h h') B21.out (by omega))
        · exact q_loadInt (off := 0) hp (free_of rfl) trivial (List.mem_iff_getElem?.2 ⟨1, rfl⟩) (.inl rfl) (Nat.le_of_ble_eq_true rfl) (sq_out rfl rfl (fun _ _ => rfl)) (fun us w hl h => ld_num hl h)
        · exact q_storeOldInt hp (List.mem_iff_getElem?.2 ⟨6, rfl⟩) rfl rfl (sq_out rfl rfl (fun _ _ => rfl)) (sq_in 4 rfl rfl (by simp) rfl (fun v w h => intV_num h)) (fun _ _ => trivial) (newik_ne rfl)
        · exact q_storeOldInt hp (List.mem_iff_getElem?.2 ⟨5, rfl⟩) rfl rfl (sq_out rfl rfl (fun _ _ => rfl)) (sq_in 5 rfl rfl (by simp) rfl (fun v w h => intV_num h)) (fun _ _ => trivial) (newik_ne rfl)
        intro L vs w22 nb hL hC hn E22
        have E : Fr w [(bB, 2, Fq.num R.2), (bA, 2, Fq.num R.1), (b15_5, 2, Fq.num (bn - ((an / ad) * bd))), (b9_7, 2, Fq.num (an / ad)), (b9_8, 2, Fq.num (an % ad)), (b6, 2, Fq.num R.1), (b5, 2, Fq.num (((an / ad) * R.1) + R.2)), (b4, 2, Fq.num bd), (b3, 2, Fq.num bn), (b2, 2, Fq.num ad), (b1, 2, Fq.num an)] w22 := E22
        rw [lay_all hL]
        simp only [putAll, dstOf, List.length_cons, List.length_nil, Nat.zero_add, Nat.reduceAdd, List.getElem?_toArray, List.getElem?_cons_zero, List.getElem?_cons_succ, Option.bind_some, Act.put, List.setIfInBounds_toArray, List.set_cons_succ, List.set_cons_zero]
        generalize vs 0 = u22_0
        generalize vs 1 = u22_1
        generalize vs 2 = u22_2
        generalize vs 3 = u22_3
        generalize vs 4 = u22_4
        generalize vs 5 = u22_5
        clear  hC hn E22 hL vs L nb
        have hs : Hid (simF (N + 1) an ad bn bd = (an / ad * R.1 + R.2, R.1)) := by show _ = _; simp only [simF]; rw [if_neg HRb.out.1, if_neg (by have := HRb.out.2; omega), ← HR.out]
        obtain ⟨p0, p1, c0, c1, hP⟩ := box_num (E.box 6 rfl)
        obtain ⟨q0, q1, d0, d1, hQ⟩ := box_num (E.box 5 rfl)
        clear B7 B8 B13 B14 B20 B21
        go_wp2
        refine bodyPost_ret (v := .tuple #[.agg #[p0, p1], .agg #[q0, q1]]) ?_ rfl ⟨_, rfl, E.below, _, _, rfl, by show Num _ _ _; rw [hs.out]; exact hP, by show Num _ _ _; rw [hs.out]; exact hQ⟩
        simp [results, Tryz.results100, go_sem, c0, c1, d0, d1]

set_option maxRecDepth 100000 in
set_option maxHeartbeats 4000000 in
theorem exSimplest {w : World} {v v' : Value} {a b : Rat} (h : Pair w v a.num a.den) (h' : Pair w v' b.num b.den) (ha : Rb a 300) (hb : Rb b 300) (ho2 : Hid (0 < a.num ∧ a.num * b.den ≤ b.num * a.den)) :
    Calls Tryz.prog 74 #[v, v'] w fun e w' => ∃ v', e = .returned v' ∧ Below w.heap.size w w' ∧ Pair w' v' (simF ((a.den : Int) + (b.den : Int)).toNat a.num a.den b.num b.den).1 (simF ((a.den : Int) + (b.den : Int)).toNat a.num a.den b.num b.den).2 := by
  replace ha := hidd ha
  replace hb := hidd hb
  obtain ⟨n0, ao0, k0, c0, n0', ao0', k0', c0', rfl, _⟩ := ratV_pair h
  obtain ⟨n1, ao1, k1, c1, n1', ao1', k1', c1', rfl, _⟩ := ratV_pair h'
  obtain ⟨w1, b1, hw1, hb1, hs1, E⟩ := fr_start w (F := Fq.pair a.num (a.den : Int)) (us := [.bool n0, .slice ao0 k0 c0, .bool n0', .slice ao0' k0' c0']) 31 rfl (by simp) (tame_rat _ _ _ _ _ _ _ _) h
  obtain ⟨w2, b2, hw2, hb2, hs2, E⟩ := fr_more E hs1 (F := Fq.pair b.num (b.den : Int)) (us := [.bool n1, .slice ao1 k1 c1, .bool n1', .slice ao1' k1' c1']) 31 rfl (by simp) (tame_rat _ _ _ _ _ _ _ _) (h'.mono E.below)
  obtain ⟨w3, b3, hw3, hb3, hs3, E⟩ := fr_more E hs2 (F := Fq.pair 0 0) (us := [.bool false, .slice none 0 0, .bool false, .slice none 0 0]) 31 rfl (by simp) (tame_rat _ _ _ _ _ _ _ _) (Pair.zero _)
  go_enter Tryz.func74, Tryz.ntmps74
  go_upto_region 1 with (fail)
  rw [← hw1]
  rw [← hw2]
  rw [← hw3]
  rw [← hb3]
  rw [← hb2]
  rw [← hb1]
  clear hw1 hw2 hw3 hb1 hb2 hb3 hs3 hs1 hs2
  have B4 : Hid (ab ((1)) < pw 3) := ab_lit (by decide)
  refine region_fr (C := [Fq.num (1), Fq.any, Fq.any]) (ks := [none, none, none]) (new := [⟨1, 2, 2, Fq.num 0, Fq.num (1), none⟩]) E rfl (by kernel_rfl) rfl rfl (fun hp => ⟨?_, ?_, ?_, trivial⟩) ?_
  · exact q_call1 (F := (Fq.is (.int .i64 1)).P) hp (free_of rfl) trivial (enq_Of) (sq_const (fun _ => rfl)) (fun v w h => (by subst h; exact OfK w (1) (by omega) (by omega)))
  · exact q_allocInt hp (List.mem_iff_getElem?.2 ⟨0, rfl⟩) rfl rfl rfl rfl (Nat.ne_of_beq_eq_false rfl) (fun _ _ => trivial) (old_ne rfl) (newk_ne rfl) (fun w => Num.zero w)
  · exact q_storeNewInt hp (List.mem_iff_getElem?.2 ⟨0, rfl⟩) rfl rfl rfl (own_ptr rfl rfl (by simp) rfl) (sq_in 0 rfl rfl (by simp) rfl (fun v w h => intV_num h)) (fun _ _ => trivial) (old_ne rfl) (newi_ne rfl)
  intro L vs w5 nb hL hC hn E5
  have e1 : vs 1 = .pointer (some ⟨nb 1, 0, none⟩) := hn _ (List.mem_iff_getElem?.2 ⟨0, rfl⟩)
  have E : Fr w [(nb 1, 2, Fq.num (1)), (b3, 4, Fq.pair 0 0), (b2, 4, Fq.pair b.num (b.den : Int)), (b1, 4, Fq.pair a.num (a.den : Int))] w5 := E5
  rw [lay_all hL]
  simp only [putAll, dstOf, List.length_cons, List.length_nil, Nat.zero_add, Nat.reduceAdd, List.getElem?_toArray, List.getElem?_cons_zero, List.getElem?_cons_succ, Option.bind_some, Act.put, List.setIfInBounds_toArray, List.set_cons_succ, List.set_cons_zero]
  rw [e1]
  generalize nb 1 = b5_1 at E ⊢
  generalize vs 0 = u5_0
  clear e1 hC hn E5 hL vs L nb
  go_upto_region 3 with (fail)
  obtain ⟨wF, bF, hwF, hbF, hsF, E⟩ := fr_more E rfl (F := Fq.is (.agg #[.nilFunc])) (us := [.nilFunc]) 96 rfl (by simp) (fun u hu q e => by simp at hu; subst hu; cases e) rfl
  rw [← hwF, ← hbF]
  clear hwF hbF hsF
  obtain ⟨us, hl, _, hat, _, hP⟩ := E.box 0 rfl
  match us, hl, hat, hP with
  | [u0], _, hat, hP =>
    have hu0 : u0 = .nilFunc := by have e : (Value.agg #[u0]) = .agg #[.nilFunc] := hP; injection e with e; have e2 := congrArg Array.toList e; simpa using e2
    subst hu0
    obtain ⟨d0, d1⟩ := hat 0 (by simp)
    simp at d0
    go_upto_region 4 with (fail)
    replace E := E.put (F' := Fq.is (.agg #[findV b5_1 bF])) (us := [findV b5_1 bF]) rfl (fun u hu q e => by simp at hu; subst hu; cases e) rfl
    clear d0 d1 hP hat
    obtain ⟨wG, hwG⟩ : ∃ wG, wG = putFrom wF bF 0 [findV b5_1 bF] := ⟨_, rfl⟩
    rw [← hwG] at E
    have hwG2 : wG = wF.setCell ⟨bF, 0, none⟩ (findV b5_1 bF) := hwG
    unfold findV at hwG2
    rw [← hwG2]
    clear hwG hwG2
    have ho := E.box 1 rfl
    obtain ⟨us, hl, _, hat, _, hP⟩ := E.box 0 rfl
    have hf : wG.cell? ⟨bF, 0, none⟩ = some (findV b5_1 bF) := by
      match us, hl, hat, hP with
      | [u0], _, hat, hP =>
        have e : (Value.agg #[u0]) = .agg #[findV b5_1 bF] := hP
        injection e with e
        have e2 := congrArg Array.toList e
        simp at e2
        have h0 := (hat 0 (by simp)).1
        simp at h0
        rw [h0, e2]
    clear hat hP hl
    have hfl := (E.boxes _ List.mem_cons_self).2.lt
    have hff := hidd hf
    unfold findV at hf
    obtain ⟨r0, r1, r2, r3, cr0, cr1, cr2, cr3, hPr⟩ := box_pair (E.box 4 rfl)
    have hQr := hPr
    obtain ⟨_, _, _, _, er, hNr, hDr⟩ := hPr
    injection er with er
    have fr := congrArg Array.toList er
    simp at fr
    obtain ⟨rfl, rfl, rfl, rfl⟩ := fr
    clear er hQr
    obtain ⟨s0, s1, s2, s3, cs0, cs1, cs2, cs3, hPs⟩ := box_pair (E.box 3 rfl)
    have hQs := hPs
    obtain ⟨_, _, _, _, es, hNs, hDs⟩ := hPs
    injection es with es
    have fs := congrArg Array.toList es
    simp at fs
    obtain ⟨rfl, rfl, rfl, rfl⟩ := fs
    clear es hQs
    go_wp2_with fail
    refine (exFind (N := ((a.den : Int) + (b.den : Int)).toNat) hNr hDr hNs hDs ho2.out.1 (den_pos a) (den_pos b) ha.out.1 ha.out.2 hb.out.1 hb.out.2 ho2.out.2 (Nat.le_refl _) ho hff.out hfl).mono ?_
    rintro e wr ⟨_, rfl, hbw, v1, v2, rfl, hN1, hN2⟩
    have hsl := sim_le ((a.den : Int) + (b.den : Int)).toNat a.num a.den b.num b.den ho2.out.1 (den_pos a) (den_pos b) ho2.out.2 (Nat.le_refl _)
    simp only at hsl
    replace E := E.mono hbw
    clear hbw hf hff ho hfl cr0 cr1 cr2 cr3 cs0 cs1 cs2 cs3 hNr hDr hNs hDs
    obtain ⟨R, hR⟩ : ∃ R, R = simF ((a.den : Int) + (b.den : Int)).toNat a.num a.den b.num b.den := ⟨_, rfl⟩
    rw [← hR] at hsl hN1 hN2
    have HR := hidd hR
    clear hR
    obtain ⟨n5, ao5, k5, c5, rfl⟩ := hN1.parts
    obtain ⟨n6, ao6, k6, c6, rfl⟩ := hN2.parts
    clear hsl
    go_upto_region 5 with (fail)
    obtain ⟨wA, bA, hwA, hbA, hsA, E⟩ := fr_more E rfl (F := Fq.num R.1) (us := [.bool n5, .slice ao5 k5 c5]) 29 rfl (by simp) (tame_int _ _ _ _) hN1
    obtain ⟨wB, bB, hwB, hbB, hsB, E⟩ := fr_more E hsA (F := Fq.num R.2) (us := [.bool n6, .slice ao6 k6 c6]) 29 rfl (by simp) (tame_int _ _ _ _) (hN2.mono (by rw [hwA]; exact alloc_below _ _))
    rw [← hwA, ← hwB, ← hbB, ← hbA]
    clear hwA hwB hbA hbB hsA hsB hN1 hN2
    refine region_fr (C := [Fq.num R.1, Fq.num R.2, Fq.pair R.1 R.2, Fq.any]) (ks := [none, none, none, none, some (3, Fq.pair R.1 R.2), none, none]) (new := []) E rfl (by kernel_rfl) rfl rfl (fun hp => ⟨?_, ?_, ?_, ?_, trivial⟩) ?_
    · exact q_loadInt (off := 0) hp (free_of rfl) trivial (List.mem_iff_getElem?.2 ⟨1, rfl⟩) (.inl rfl) (Nat.le_of_ble_eq_true rfl) (sq_out rfl rfl (fun _ _ => rfl)) (fun us w hl h => ld_num hl h)
    · exact q_loadInt (off := 0) hp (free_of rfl) trivial (List.mem_iff_getElem?.2 ⟨0, rfl⟩) (.inl rfl) (Nat.le_of_ble_eq_true rfl) (sq_out rfl rfl (fun _ _ => rfl)) (fun us w hl h => ld_num hl h)
    · exact q_buildRat (n := R.1) (d0 := R.2) hp (free_of rfl) trivial (sq_in 0 rfl rfl (by simp) rfl (fun v w h => h)) (sq_in 1 rfl rfl (by simp) rfl (fun v w h => h)) (fun v w h => h)
    · exact q_storeOldRat hp (List.mem_iff_getElem?.2 ⟨4, rfl⟩) rfl rfl (sq_out rfl rfl (fun _ _ => rfl)) (sq_in 2 rfl rfl (by simp) rfl (fun v w h => ratV_pair h)) (fun _ _ => trivial) (newik_ne rfl)
    intro L vs w6 nb hL hC hn E6
    have E : Fr w [(bB, 2, Fq.num R.2), (bA, 2, Fq.num R.1), (bF, 1, Fq.is (.agg #[findV b5_1 bF])), (b5_1, 2, Fq.num (1)), (b3, 4, Fq.pair R.1 R.2), (b2, 4, Fq.pair b.num (b.den : Int)), (b1, 4, Fq.pair a.num (a.den : Int))] w6 := E6
    rw [lay_all hL]
    simp only [putAll, dstOf, List.length_cons, List.length_nil, Nat.zero_add, Nat.reduceAdd, List.getElem?_toArray, List.getElem?_cons_zero, List.getElem?_cons_succ, Option.bind_some, Act.put, List.setIfInBounds_toArray, List.set_cons_succ, List.set_cons_zero]
    generalize vs 0 = u6_0
    generalize vs 1 = u6_1
    generalize vs 2 = u6_2
    clear  hC hn E6 hL vs L nb
    clear ha hb ho2
    obtain ⟨p0, p1, p2, p3, c0, c1, c2, c3, hP⟩ := box_pair (E.box 4 rfl)
    clear B4
    go_wp2
    refine bodyPost_ret (v := .agg #[p0, p1, p2, p3]) ?_ rfl ⟨_, rfl, E.below, by rw [← HR.out]; exact hP⟩
    simp [results, Tryz.results74, go_sem, c0, c1, c2, c3]

end Go.Proofs.YtoimphnhmpmipaaGreat
