/- Ng. -/
import Derived.Test.YtieobgadihcgeaaDoorCp5
/- Walk of the law on powers and inverses. -/
namespace Go.Proofs.YtieobgadihcgeaaDoor
open Go Go.RowKit

theorem tame_i16s (s t : Int) : Tame [.int .i16 s, .int .i16 t] := by
  intro u hu q e
  simp at hu
  rcases hu with rfl | rfl <;> cases e
theorem ld_i16s0 {s t : Int} {us : List Value} {w : World} (hl : us.length = 2) (h : (Fq.is (.agg #[.int .i16 s, .int .i16 t])).P (.agg us.toArray) w) : us.getD 0 undef = .int .i16 s := by
  match us, hl with
  | [u0, u1], _ =>
    injection (show (Value.agg _ = _) from h) with e
    have e2 := congrArg Array.toList e
    simp at e2
    exact e2.1
theorem ld_i16s1 {s t : Int} {us : List Value} {w : World} (hl : us.length = 2) (h : (Fq.is (.agg #[.int .i16 s, .int .i16 t])).P (.agg us.toArray) w) : us.getD 1 undef = .int .i16 t := by
  match us, hl with
  | [u0, u1], _ =>
    injection (show (Value.agg _ = _) from h) with e
    have e2 := congrArg Array.toList e
    simp at e2
    exact e2.2
section
variable {os : List Oper} {Q : Exit → Act → World → Prop} {a : Act} {p : Pq} {B B0 : Nat} {w0 : World}
variable {i s : Nat} {d : Option Tmp} {ty : TypeId} {ps : String} {af : Array Edge} {gd : Option (Nat × Bool)}
theorem q_loadI16 {o : Ob} {off : Nat} {x : Operand} {v : Value} (hp : p.Ok B B0) (hF : p.Free i) (hg : GdQ os a p B B0 w0 af gd) (ho : o ∈ p.old) (hk : o.F1 = o.F0 ∨ leadsB os 9 o.k i = true) (hoff : off + 1 ≤ o.m)
    (hx : SrcQ os a p B B0 w0 af x fun u _ => u = .pointer (some ⟨o.b, off, none⟩)) (hC : ∀ (us : List Value) (w : World), us.length = o.m → o.F0.P (.agg us.toArray) w → us.getD off undef = v ∧ (p.c i).P v w) :
    StepQ os Q a p B B0 w0 i { dst := d, op := .load 25 x, type := ty, pos := ps, after := af, guard := gd } := by
  refine stq_val hp hF hg fun L vs w hG hL hc hd => ?_
  obtain ⟨us, hl, h0, hat, ht, hP⟩ := box_now ho hk hG hL hc
  have e := hx L vs w hG hd
  have c0 := (hat off (by omega)).1
  obtain ⟨e2, hP2⟩ := hC us w hl hP
  refine ⟨_, ?_, hP2⟩
  rw [e2] at c0
  generalize (lay os.toArray L vs os.toArray.size a).eval = ρ at e
  simp [execOp, go_sem, e, c0]
end
theorem gcd_modI {a m : Int} (hm : 0 < m) : Int.gcd (a % m) m = Int.gcd a m := by
  obtain ⟨n, rfl⟩ := Int.eq_ofNat_of_zero_le (Int.le_of_lt hm)
  exact gcd_emod
theorem pow_inv {b u m : Int} (h : b * u % m = 1 % m) : ∀ t : Nat, (b ^ t * u ^ t) % m = 1 % m
  | 0 => by rw [Int.pow_zero, Int.pow_zero]; rfl
  | t + 1 => by
    have e : b ^ (t + 1) * u ^ (t + 1) = (b ^ t * u ^ t) * (b * u) := by rw [Int.pow_succ, Int.pow_succ]; ac_rfl
    rw [e, mul_modm (pow_inv h t) h]; rfl
theorem pow_mix {b u m : Int} (h : b * u % m = 1 % m) {s t : Nat} (hst : t ≤ s) : (b ^ s * u ^ t) % m = b ^ (s - t) % m := by
  have e : b ^ s * u ^ t = b ^ (s - t) * (b ^ t * u ^ t) := by rw [show s = s - t + t by omega, Int.pow_add, Nat.add_sub_cancel]; ac_rfl
  rw [e, mul_modm rfl (pow_inv h t), Int.mul_one]
theorem powM_add {a i j m : Int} (hm : 0 < m) (h : Int.gcd a m = 1 ∨ 0 ≤ i ∧ 0 ≤ j) : (powM a i m * powM a j m) % m = powM a (i + j) m := by
  have hmm : ∀ x y : Int, (x % m * (y % m)) % m = (x * y) % m := fun x y => by rw [← Int.mul_emod]
  by_cases hi : 0 ≤ i
  · by_cases hj : 0 ≤ j
    · unfold powM
      rw [if_pos hi, if_pos hj, if_pos (by omega), hmm, ← Int.pow_add, show (i + j).natAbs = i.natAbs + j.natAbs by omega]
    · have hg : Int.gcd a m = 1 := by rcases h with h | h; exact h; omega
      have hu := bez_inv (a := a % m) hm (by rw [gcd_modI hm]; exact hg)
      unfold powM
      rw [if_pos hi, if_neg hj, hmm]
      generalize bezU (a % m) m = u at *
      generalize a % m = b at *
      by_cases hs : 0 ≤ i + j
      · rw [if_pos hs, pow_mix hu (by omega), show (i + j).natAbs = i.natAbs - j.natAbs by omega]
      · rw [if_neg hs, Int.mul_comm, pow_mix (b := u) (u := b) (by rw [Int.mul_comm]; exact hu) (by omega), show (i + j).natAbs = j.natAbs - i.natAbs by omega]
  · have hg : Int.gcd a m = 1 := by rcases h with h | h; exact h; omega
    have hu := bez_inv (a := a % m) hm (by rw [gcd_modI hm]; exact hg)
    by_cases hj : 0 ≤ j
    · unfold powM
      rw [if_neg hi, if_pos hj, hmm]
      generalize bezU (a % m) m = u at *
      generalize a % m = b at *
      by_cases hs : 0 ≤ i + j
      · rw [if_pos hs, Int.mul_comm, pow_mix hu (by omega), show (i + j).natAbs = j.natAbs - i.natAbs by omega]
      · rw [if_neg hs, pow_mix (b := u) (u := b) (by rw [Int.mul_comm]; exact hu) (by omega), show (i + j).natAbs = i.natAbs - j.natAbs by omega]
    · unfold powM
      rw [if_neg hi, if_neg hj, if_neg (by omega), hmm, ← Int.pow_add, show (i + j).natAbs = i.natAbs + j.natAbs by omega]
theorem exVPowOk {w : World} {v v' u : Value} {a n m : Int} (h : Num w v a) (h' : Num w v' n) (g : Num w u m) (ha : ab a < pw 100) (hn : ab n < pw 100) (hm : ab m < pw 100) (h0 : 0 < m) (h1 : Int.gcd a m = 1 ∨ 0 ≤ n) :
    Calls Tryd.prog 17 #[v, v', u] w fun e w' => ∃ v', e = .returned v' ∧ Below w.heap.size w w' ∧ Got w' v' (powM a n m) 0 :=
  exVPow h h' g fun _ _ _ _ hx hx' hy => by
    rcases Int.lt_or_le n 0 with hn0 | hn0
    · exact exPowN hx hx' hy ha hn hm h0 hn0 (by rw [gcd_modI h0]; rcases h1 with h | h; exact h; omega)
    · exact exPowP hx hx' hy ha hn hm h0 hn0
theorem exVPowNo {w : World} {v v' u : Value} {a n m : Int} (h : Num w v a) (h' : Num w v' n) (g : Num w u m) (ha : ab a < pw 100) (hn : ab n < pw 100) (hm : ab m < pw 100) (h0 : 0 < m) (h1 : Int.gcd a m ≠ 1) (h2 : n < 0) :
    Calls Tryd.prog 17 #[v, v', u] w fun e w' => ∃ v', e = .returned v' ∧ Below w.heap.size w w' ∧ Got w' v' 0 4 :=
  exVPow h h' g fun _ _ _ _ hx hx' hy => exPowE hx hx' hy ha hn hm h0 h2 (by rw [gcd_modI h0]; exact h1)
theorem exVPowAny {w : World} {v v' u : Value} {a n m Z R : Int} (h : Num w v a) (h' : Num w v' n) (g : Num w u m) (ha : ab a < pw 100) (hn : ab n < pw 100) (hm : ab m < pw 100) (h0 : 0 < m) (h1 : Int.gcd a m ≠ 1) (hZ : Z = if 0 ≤ n then powM a n m else 0) (hR : R = if 0 ≤ n then 0 else 4) :
    Calls Tryd.prog 17 #[v, v', u] w fun e w' => ∃ v', e = .returned v' ∧ Below w.heap.size w w' ∧ Got w' v' Z R := by
  subst hZ hR
  by_cases h2 : 0 ≤ n
  · rw [if_pos h2, if_pos h2]; exact exVPowOk h h' g ha hn hm h0 (.inr h2)
  · rw [if_neg h2, if_neg h2]; exact exVPowNo h h' g ha hn hm h0 h1 (by omega)
theorem exVInvP {w : World} {v v' : Value} {a m : Int} (h : Num w v a) (h' : Num w v' m) (ha : ab a < pw 300) (hm : ab m < pw 300) (h0 : 0 < m) (hg : Int.gcd a m = 1) :
    Calls Tryd.prog 14 #[v, v'] w fun e w' => ∃ v', e = .returned v' ∧ Below w.heap.size w w' ∧ Got w' v' (bezU a m) 0 := exVInv h h' fun _ _ _ _ hx hx' => exInvP hx hx' ha hm h0 hg
theorem exVInvN {w : World} {v v' : Value} {a m : Int} (h : Num w v a) (h' : Num w v' m) (ha : ab a < pw 300) (hm : ab m < pw 300) (h0 : 0 < m) (hg : Int.gcd a m ≠ 1) :
    Calls Tryd.prog 14 #[v, v'] w fun e w' => ∃ v', e = .returned v' ∧ Below w.heap.size w w' ∧ Got w' v' 0 4 := exVInv h h' fun _ _ _ _ hx hx' => exInvN hx hx' ha hm h0 hg
theorem ab_small {x : Int} (h : -4294967296 < x ∧ x < 4294967296) : ab x < pw 3 := by
  have h3 : pw 1 ≤ pw 3 := pw_le (by omega)
  have h4 : pw 1 = 4294967296 := by decide
  unfold ab
  omega
theorem cmpI_eq0 {x y : Int} : cmpI x y = 0 ↔ x = y := by
  unfold cmpI
  split
  · constructor <;> intro h <;> omega
  · split
    · simp [*]
    · constructor
      · intro h; omega
      · intro h; contradiction
set_option maxRecDepth 100000 in
set_option maxHeartbeats 4000000 in
theorem ModularPowers_any (w : World) (hT : Tabs w) (n1 : Bool) (a1 : Option Addr) (k1 c1 : Nat) (xs1 : List Int) (h1 : Sl w a1 k1 c1 xs1) (hk1 : k1 ≤ 9223372036854775807) (n2 : Bool) (a2 : Option Addr) (k2 c2 : Nat) (xs2 : List Int) (h2 : Sl w a2 k2 c2 xs2) (hk2 : k2 ≤ 9223372036854775807) (i j : Int) (hbi : -32768 ≤ i ∧ i ≤ 32767) (hbj : -32768 ≤ j ∧ j ≤ 32767) :
    Calls Tryd.prog 3 #[.agg #[.bool n1, .slice a1 k1 c1], .agg #[.bool n2, .slice a2 k2 c2], .agg #[.int .i16 i, .int .i16 j]] w fun e w' => e = .returned (.bool true) ∧ Below w.heap.size w w' := by
  replace hT := hidd hT
  obtain ⟨a, ha⟩ : ∃ a, a = sgn n1 (val (xs1.take 3)) := ⟨_, rfl⟩
  have Ba : Hid (ab a < pw 3) := by rw [ha]; exact Num.ofMade h1.digs
  have Ha := hidd ha
  have K1 := hidd hk1
  clear ha hk1
  obtain ⟨b, hb⟩ : ∃ b, b = sgn n2 (val (xs2.take 3)) := ⟨_, rfl⟩
  have Bb : Hid (ab b < pw 3) := by rw [hb]; exact Num.ofMade h2.digs
  have Hb := hidd hb
  have K2 := hidd hk2
  clear hb hk2
  obtain ⟨w1, b1, hw1, hb1, hs1, E⟩ := fr_start w (F := Fq.raw n1 a1 k1 c1 xs1) (us := [.bool n1, .slice a1 k1 c1]) 24 rfl (by simp) (tame_int _ _ _ _) (show (Fq.raw n1 a1 k1 c1 xs1).P _ w from ⟨rfl, h1⟩)
  obtain ⟨w2, b2, hw2, hb2, hs2, E⟩ := fr_more E hs1 (F := Fq.raw n2 a2 k2 c2 xs2) (us := [.bool n2, .slice a2 k2 c2]) 24 rfl (by simp) (tame_int _ _ _ _) ((Fq.raw n2 a2 k2 c2 xs2).mono (show (Fq.raw n2 a2 k2 c2 xs2).P _ w from ⟨rfl, h2⟩) E.below)
  obtain ⟨w3, b3, hw3, hb3, hs3, E⟩ := fr_more E hs2 (F := Fq.is (.agg #[.int .i16 i, .int .i16 j])) (us := [.int .i16 i, .int .i16 j]) 26 rfl (by simp) (tame_i16s _ _) ((Fq.is (.agg #[.int .i16 i, .int .i16 j])).mono (show (Fq.is (.agg #[.int .i16 i, .int .i16 j])).P _ w from rfl) E.below)
  go_enter Tryd.func3, Tryd.ntmps3
  go_upto_region 1 with (fail)
  rw [← hw1]
  rw [← hw2]
  rw [← hw3]
  rw [← hb3]
  rw [← hb2]
  rw [← hb1]
  clear hw1 hw2 hw3 hb1 hb2 hb3 hs3 hs1 hs2
  obtain ⟨m, hm⟩ : ∃ m, m = (Int.natAbs b : Int) + (1) := ⟨_, rfl⟩
  have BM : Hid (ab m < pw 4) := by show _ < _; rw [hm]; exact ab_addB (ab_absB Bb.out) (ab_lit (by decide)) (by omega) (by omega)
  have PM : Hid (0 < m) := by show _ < _; omega
  have NM : Hid (m ≠ 0) := by show _ ≠ _; omega
  have HM := hidd hm
  clear hm
  have BI : Hid (ab i < pw 3) := ab_small (by omega)
  have BJ : Hid (ab j < pw 3) := ab_small (by omega)
  have RI : Hid (-9223372036854775808 ≤ i ∧ i ≤ 9223372036854775807) := by show _ ∧ _; omega
  have RJ : Hid (-9223372036854775808 ≤ j ∧ j ≤ 9223372036854775807) := by show _ ∧ _; omega
  have WI : Hid (IntKind.i64.wrap i = i) := IntWalk.i64_in _ (by omega)
  have WJ : Hid (IntKind.i64.wrap j = j) := IntWalk.i64_in _ (by omega)
  clear hbi hbj
  refine region_fr (C := [Fq.is (.bool true), Fq.is (.bool true)]) (ks := [none, none, none]) (new := []) E rfl (by kernel_rfl) rfl rfl (fun hp => ⟨?_, ?_, trivial⟩) ?_
  · exact q_call0W hp (free_of rfl) trivial (enq_V_examples) rfl (fun w hbw => exVExamples (hT.out.mono hbw))
  · exact q_assign hp (free_of rfl) trivial (sq_in 0 rfl rfl (by simp) rfl (fun v w h => h))
  intro L vs w4 nb hL hC hn E4
  have e0 : vs 0 = .bool true := hC 0 (by simp)
  have e1 : vs 1 = .bool true := hC 1 (by simp)
  have E : Fr w [(b3, 2, Fq.is (.agg #[.int .i16 i, .int .i16 j])), (b2, 2, Fq.raw n2 a2 k2 c2 xs2), (b1, 2, Fq.raw n1 a1 k1 c1 xs1)] w4 := E4
  rw [lay_all hL]
  simp only [putAll, dstOf, List.length_cons, List.length_nil, Nat.zero_add, Nat.reduceAdd, List.getElem?_toArray, List.getElem?_cons_zero, List.getElem?_cons_succ, Option.bind_some, Act.put, List.setIfInBounds_toArray, List.set_cons_succ, List.set_cons_zero]
  rw [e0, e1]
  clear e0 e1 hC hn E4 hL vs L nb
  go_upto_region 2 with (fail)
  refine region_fr (C := [Fq.is (.bool true), Fq.is (.bool false)]) (ks := [none, none, none]) (new := []) E rfl (by kernel_rfl) rfl rfl (fun hp => ⟨?_, ?_, trivial⟩) ?_
  · exact q_move hp (free_of rfl) trivial (sq_out rfl rfl (fun _ _ => rfl))
  · exact q_one (F := fun v _ => v = .bool true) hp (free_of rfl) trivial (sq_in 0 rfl rfl (by simp) rfl (fun v w h => h)) (fun ρ w _ h => ⟨.bool false, by simp [execOp, go_sem, h], rfl⟩)
  intro L vs w5 nb hL hC hn E5
  have e0 : vs 0 = .bool true := hC 0 (by simp)
  have e1 : vs 1 = .bool false := hC 1 (by simp)
  have E : Fr w [(b3, 2, Fq.is (.agg #[.int .i16 i, .int .i16 j])), (b2, 2, Fq.raw n2 a2 k2 c2 xs2), (b1, 2, Fq.raw n1 a1 k1 c1 xs1)] w5 := E5
  rw [lay_all hL]
  simp only [putAll, dstOf, List.length_cons, List.length_nil, Nat.zero_add, Nat.reduceAdd, List.getElem?_toArray, List.getElem?_cons_zero, List.getElem?_cons_succ, Option.bind_some, Act.put, List.setIfInBounds_toArray, List.set_cons_succ, List.set_cons_zero]
  rw [e0, e1]
  clear e0 e1 hC hn E5 hL vs L nb
  go_upto_region 4 with (fail)
  have B6 : Hid (ab ((Int.natAbs b : Int)) < pw 3) := ab_absB Bb.out
  have B7 : Hid (ab ((1)) < pw 3) := ab_lit (by decide)
  refine region_fr (C := [Fq.raw n1 a1 k1 c1 xs1, Fq.num a, Fq.raw n2 a2 k2 c2 xs2, Fq.num b, Fq.num (Int.natAbs b : Int), Fq.num (1), Fq.num m, Fq.any, Fq.any, Fq.any, Fq.any]) (ks := [none, none, none]) (new := [⟨7, 9, 2, Fq.num 0, Fq.num a, none⟩, ⟨8, 10, 2, Fq.num 0, Fq.num m, none⟩]) E rfl (by kernel_rfl) rfl rfl (fun hp => ⟨?_, ?_, ?_, ?_, ?_, ?_, ?_, ?_, ?_, ?_, ?_, trivial⟩) ?_
  · exact q_loadRaw (off := 0) hp (free_of rfl) trivial (List.mem_iff_getElem?.2 ⟨2, rfl⟩) (.inl rfl) (Nat.le_of_ble_eq_true rfl) (sq_out rfl rfl (fun _ _ => rfl)) (fun us w hl h => ld_raw hl h)
  · exact q_call2 (F := (Fq.raw n1 a1 k1 c1 xs1).P) (G := (Fq.is (.int .i64 3)).P) hp (free_of rfl) trivial (enq_R_Made) (sq_in 0 rfl rfl (by simp) rfl (fun v w h => h)) (sq_const (fun _ => rfl)) (fun v v' w h h' => (by rw [Ha.out]; exact exRMade (j := 3) h h' K1.out (by omega)))
  · exact q_loadRaw (off := 0) hp (free_of rfl) trivial (List.mem_iff_getElem?.2 ⟨1, rfl⟩) (.inl rfl) (Nat.le_of_ble_eq_true rfl) (sq_out rfl rfl (fun _ _ => rfl)) (fun us w hl h => ld_raw hl h)
  · exact q_call2 (F := (Fq.raw n2 a2 k2 c2 xs2).P) (G := (Fq.is (.int .i64 3)).P) hp (free_of rfl) trivial (enq_R_Made) (sq_in 2 rfl rfl (by simp) rfl (fun v w h => h)) (sq_const (fun _ => rfl)) (fun v v' w h h' => (by rw [Hb.out]; exact exRMade (j := 3) h h' K2.out (by omega)))
  · exact q_call1 (F := (Fq.num b).P) hp (free_of rfl) trivial (enq_Abs) (sq_in 3 rfl rfl (by simp) rfl (fun v w h => h)) (fun v w h => exK (AbsV h) B6.out (by omega))
  · exact q_call1 (F := (Fq.is (.int .i64 1)).P) hp (free_of rfl) trivial (enq_V_of) (sq_const (fun _ => rfl)) (fun v w h => (by subst h; exact exVOf (by omega)))
  · exact q_call2 (F := (Fq.num (Int.natAbs b : Int)).P) (G := (Fq.num (1)).P) hp (free_of rfl) trivial (enq_Add) (sq_in 4 rfl rfl (by simp) rfl (fun v w h => h)) (sq_in 5 rfl rfl (by simp) rfl (fun v w h => h)) (fun v v' w h h' => exK (by rw [HM.out]; exact AddV h h') BM.out (by omega))
  · exact q_allocInt hp (List.mem_iff_getElem?.2 ⟨0, rfl⟩) rfl rfl rfl rfl (Nat.ne_of_beq_eq_false rfl) (fun _ _ => trivial) (old_ne rfl) (newk_ne rfl) (fun w => Num.zero w)
  · exact q_allocInt hp (List.mem_iff_getElem?.2 ⟨1, rfl⟩) rfl rfl rfl rfl (Nat.ne_of_beq_eq_false rfl) (fun _ _ => trivial) (old_ne rfl) (newk_ne rfl) (fun w => Num.zero w)
  · exact q_storeNewInt hp (List.mem_iff_getElem?.2 ⟨0, rfl⟩) rfl rfl rfl (own_ptr rfl rfl (by simp) rfl) (sq_in 1 rfl rfl (by simp) rfl (fun v w h => intV_num h)) (fun _ _ => trivial) (old_ne rfl) (newi_ne rfl)
  · exact q_storeNewInt hp (List.mem_iff_getElem?.2 ⟨1, rfl⟩) rfl rfl rfl (own_ptr rfl rfl (by simp) rfl) (sq_in 6 rfl rfl (by simp) rfl (fun v w h => intV_num h)) (fun _ _ => trivial) (old_ne rfl) (newi_ne rfl)
  intro L vs w8 nb hL hC hn E8
  have e7 : vs 7 = .pointer (some ⟨nb 7, 0, none⟩) := hn _ (List.mem_iff_getElem?.2 ⟨0, rfl⟩)
  have e8 : vs 8 = .pointer (some ⟨nb 8, 0, none⟩) := hn _ (List.mem_iff_getElem?.2 ⟨1, rfl⟩)
  have E : Fr w [(nb 7, 2, Fq.num a), (nb 8, 2, Fq.num m), (b3, 2, Fq.is (.agg #[.int .i16 i, .int .i16 j])), (b2, 2, Fq.raw n2 a2 k2 c2 xs2), (b1, 2, Fq.raw n1 a1 k1 c1 xs1)] w8 := E8
  rw [lay_all hL]
  simp only [putAll, dstOf, List.length_cons, List.length_nil, Nat.zero_add, Nat.reduceAdd, List.getElem?_toArray, List.getElem?_cons_zero, List.getElem?_cons_succ, Option.bind_some, Act.put, List.setIfInBounds_toArray, List.set_cons_succ, List.set_cons_zero]
  rw [e7, e8]
  generalize nb 7 = b8_7 at E ⊢
  generalize nb 8 = b8_8 at E ⊢
  generalize vs 0 = u8_0
  generalize vs 1 = u8_1
  generalize vs 2 = u8_2
  generalize vs 3 = u8_3
  generalize vs 4 = u8_4
  generalize vs 5 = u8_5
  generalize vs 6 = u8_6
  clear e7 e8 hC hn E8 hL vs L nb
  by_cases hg : Int.gcd a m = 1
  · have TR : Hid (cmpI (((powM a i m) * (powM a j m)) % m) (powM a (i + j) m) = 0) := by show _ = _; rw [cmpI_eq0]; exact powM_add PM.out (.inl hg)
    have TI : Hid (cmpI ((a * (bezU a m)) % m) ((1) % m) = 0) := by show _ = _; rw [cmpI_eq0]; exact bez_inv PM.out hg
    have TG : Hid (cmpI (Int.gcd a m : Int) (1) = 0) := by
      show _ = _
      rw [cmpI_eq0]; omega
    have HG := hidd hg
    clear hg
    go_upto_region 5 with (fail)
    have B9 : Hid (ab ((bezU a m)) < pw 4) := bezU_ab PM.out BM.out
    refine region_fr (C := [Fq.num a, Fq.num m, Fq.got (bezU a m) 0, Fq.any, Fq.any]) (ks := [none, none, none, none, none]) (new := [⟨3, 4, 3, Fq.got 0 0, Fq.got (bezU a m) 0, none⟩]) E rfl (by kernel_rfl) rfl rfl (fun hp => ⟨?_, ?_, ?_, ?_, ?_, trivial⟩) ?_
    · exact q_loadInt (off := 0) hp (free_of rfl) trivial (List.mem_iff_getElem?.2 ⟨0, rfl⟩) (.inl rfl) (Nat.le_of_ble_eq_true rfl) (sq_out rfl rfl (fun _ _ => rfl)) (fun us w hl h => ld_num hl h)
    · exact q_loadInt (off := 0) hp (free_of rfl) trivial (List.mem_iff_getElem?.2 ⟨1, rfl⟩) (.inl rfl) (Nat.le_of_ble_eq_true rfl) (sq_out rfl rfl (fun _ _ => rfl)) (fun us w hl h => ld_num hl h)
    · exact q_call2 (F := (Fq.num a).P) (G := (Fq.num m).P) hp (free_of rfl) trivial (enq_V_inv) (sq_in 0 rfl rfl (by simp) rfl (fun v w h => h)) (sq_in 1 rfl rfl (by simp) rfl (fun v w h => h)) (fun v v' w h h' => exVInvP h h' (Int.lt_of_lt_of_le Ba.out (pw_le (by omega))) (Int.lt_of_lt_of_le BM.out (pw_le (by omega))) PM.out HG.out)
    · exact q_allocGot hp (List.mem_iff_getElem?.2 ⟨0, rfl⟩) rfl rfl rfl rfl (Nat.ne_of_beq_eq_false rfl) (fun _ _ => trivial) (old_ne rfl) (newk_ne rfl) (fun w => Got.zero w)
    · exact q_storeNewGot hp (List.mem_iff_getElem?.2 ⟨0, rfl⟩) rfl rfl rfl (own_ptr rfl rfl (by simp) rfl) (sq_in 2 rfl rfl (by simp) rfl (fun v w h => h.partsV)) (fun _ _ => trivial) (old_ne rfl) (newi_ne rfl)
    intro L vs w10 nb hL hC hn E10
    have e3 : vs 3 = .pointer (some ⟨nb 3, 0, none⟩) := hn _ (List.mem_iff_getElem?.2 ⟨0, rfl⟩)
    have E : Fr w [(nb 3, 3, Fq.got (bezU a m) 0), (b8_7, 2, Fq.num a), (b8_8, 2, Fq.num m), (b3, 2, Fq.is (.agg #[.int .i16 i, .int .i16 j])), (b2, 2, Fq.raw n2 a2 k2 c2 xs2), (b1, 2, Fq.raw n1 a1 k1 c1 xs1)] w10 := E10
    rw [lay_all hL]
    simp only [putAll, dstOf, List.length_cons, List.length_nil, Nat.zero_add, Nat.reduceAdd, List.getElem?_toArray, List.getElem?_cons_zero, List.getElem?_cons_succ, Option.bind_some, Act.put, List.setIfInBounds_toArray, List.set_cons_succ, List.set_cons_zero]
    rw [e3]
    generalize nb 3 = b10_3 at E ⊢
    generalize vs 0 = u10_0
    generalize vs 1 = u10_1
    generalize vs 2 = u10_2
    clear e3 hC hn E10 hL vs L nb
    go_upto_region 6 with (fail)
    have B11 : Hid (ab ((Int.gcd a m : Int)) < pw 4) := ab_gcdB Ba.out BM.out (by omega) (by omega)
    refine region_fr (C := [Fq.num a, Fq.num m, Fq.num (Int.gcd a m : Int), Fq.num (1), Fq.is (.int .i64 (cmpI (Int.gcd a m : Int) (1))), Fq.is (.bool true), Fq.is (.bool true)]) (ks := [none, none, none, none, none, none]) (new := []) E rfl (by kernel_rfl) rfl rfl (fun hp => ⟨?_, ?_, ?_, ?_, ?_, ?_, ?_, trivial⟩) ?_
    · exact q_loadInt (off := 0) hp (free_of rfl) trivial (List.mem_iff_getElem?.2 ⟨1, rfl⟩) (.inl rfl) (Nat.le_of_ble_eq_true rfl) (sq_out rfl rfl (fun _ _ => rfl)) (fun us w hl h => ld_num hl h)
    · exact q_loadInt (off := 0) hp (free_of rfl) trivial (List.mem_iff_getElem?.2 ⟨2, rfl⟩) (.inl rfl) (Nat.le_of_ble_eq_true rfl) (sq_out rfl rfl (fun _ _ => rfl)) (fun us w hl h => ld_num hl h)
    · exact q_call2 (F := (Fq.num a).P) (G := (Fq.num m).P) hp (free_of rfl) trivial (enq_Gcd) (sq_in 0 rfl rfl (by simp) rfl (fun v w h => h)) (sq_in 1 rfl rfl (by simp) rfl (fun v w h => h)) (fun v v' w h h' => exK (GcdV h h') B11.out (by omega))
    · exact q_call1 (F := (Fq.is (.int .i64 1)).P) hp (free_of rfl) trivial (enq_V_of) (sq_const (fun _ => rfl)) (fun v w h => (by subst h; exact exVOf (by omega)))
    · exact q_call2 (F := (Fq.num (Int.gcd a m : Int)).P) (G := (Fq.num (1)).P) hp (free_of rfl) trivial (enq_Cmp) (sq_in 2 rfl rfl (by simp) rfl (fun v w h => h)) (sq_in 3 rfl rfl (by simp) rfl (fun v w h => h)) (fun v v' w h h' => exCmp h h')
    · exact q_one (F := fun v _ => v = .int .i64 (cmpI (Int.gcd a m : Int) (1))) hp (free_of rfl) trivial (sq_in 4 rfl rfl (by simp) rfl (fun v w h => h)) (fun ρ w hc h => ⟨.bool true, by simp [execOp, go_sem, h, hc, TG.out], rfl⟩)
    · exact q_assign hp (free_of rfl) trivial (sq_in 5 rfl rfl (by simp) rfl (fun v w h => h))
    intro L vs w12 nb hL hC hn E12
    have e4 : vs 4 = .int .i64 (cmpI (Int.gcd a m : Int) (1)) := hC 4 (by simp)
    have e5 : vs 5 = .bool true := hC 5 (by simp)
    have e6 : vs 6 = .bool true := hC 6 (by simp)
    have E : Fr w [(b10_3, 3, Fq.got (bezU a m) 0), (b8_7, 2, Fq.num a), (b8_8, 2, Fq.num m), (b3, 2, Fq.is (.agg #[.int .i16 i, .int .i16 j])), (b2, 2, Fq.raw n2 a2 k2 c2 xs2), (b1, 2, Fq.raw n1 a1 k1 c1 xs1)] w12 := E12
    rw [lay_all hL]
    simp only [putAll, dstOf, List.length_cons, List.length_nil, Nat.zero_add, Nat.reduceAdd, List.getElem?_toArray, List.getElem?_cons_zero, List.getElem?_cons_succ, Option.bind_some, Act.put, List.setIfInBounds_toArray, List.set_cons_succ, List.set_cons_zero]
    rw [e4, e5, e6]
    generalize vs 0 = u12_0
    generalize vs 1 = u12_1
    generalize vs 2 = u12_2
    generalize vs 3 = u12_3
    clear e4 e5 e6 hC hn E12 hL vs L nb
    clear TG
    go_upto_region 7 with (fail)
    refine region_fr (C := [Fq.is (.pointer (some ⟨b10_3, 2, none⟩)), Fq.is (.int .i64 0), Fq.is (.bool true), Fq.is (.bool true), Fq.is (.bool false)]) (ks := [none, none, none, none, none, none]) (new := []) E rfl (by kernel_rfl) rfl rfl (fun hp => ⟨?_, ?_, ?_, ?_, ?_, trivial⟩) ?_
    · exact q_addr (b := b10_3) (off := 0) (off' := 2) hp (free_of rfl) trivial (sq_out rfl rfl (fun _ _ => rfl)) (fun ρ w h => by simp [execOp, go_sem, h]) (fun _ => rfl)
    · exact q_loadErr (r := 0) hp (free_of rfl) trivial (List.mem_iff_getElem?.2 ⟨0, rfl⟩) (.inl rfl) rfl (sq_in 0 rfl rfl (by simp) rfl (fun v w h => h)) (fun us w hl h => ld_got2 hl h) (fun _ => rfl)
    · exact q_one (F := fun v _ => v = .int .i64 0) hp (free_of rfl) trivial (sq_in 1 rfl rfl (by simp) rfl (fun v w h => h)) (fun ρ w hc h => ⟨.bool true, by simp [execOp, go_sem, h, hc], rfl⟩)
    · exact q_move hp (free_of rfl) trivial (sq_out rfl rfl (fun _ _ => rfl))
    · exact q_two (F := fun v _ => v = .bool true) (G := fun v _ => v = .bool true) hp (free_of rfl) trivial (sq_in 2 rfl rfl (by simp) rfl (fun v w h => h)) (sq_in 3 rfl rfl (by simp) rfl (fun v w h => h)) (fun ρ w hc h h' => ⟨.bool false, by simp [execOp, go_sem, h, h'], rfl⟩)
    intro L vs w13 nb hL hC hn E13
    have e0 : vs 0 = .pointer (some ⟨b10_3, 2, none⟩) := hC 0 (by simp)
    have e1 : vs 1 = .int .i64 0 := hC 1 (by simp)
    have e2 : vs 2 = .bool true := hC 2 (by simp)
    have e3 : vs 3 = .bool true := hC 3 (by simp)
    have e4 : vs 4 = .bool false := hC 4 (by simp)
    have E : Fr w [(b10_3, 3, Fq.got (bezU a m) 0), (b8_7, 2, Fq.num a), (b8_8, 2, Fq.num m), (b3, 2, Fq.is (.agg #[.int .i16 i, .int .i16 j])), (b2, 2, Fq.raw n2 a2 k2 c2 xs2), (b1, 2, Fq.raw n1 a1 k1 c1 xs1)] w13 := E13
    rw [lay_all hL]
    simp only [putAll, dstOf, List.length_cons, List.length_nil, Nat.zero_add, Nat.reduceAdd, List.getElem?_toArray, List.getElem?_cons_zero, List.getElem?_cons_succ, Option.bind_some, Act.put, List.setIfInBounds_toArray, List.set_cons_succ, List.set_cons_zero]
    rw [e0, e1, e2, e3, e4]
    clear e0 e1 e2 e3 e4 hC hn E13 hL vs L nb
    go_upto_region 9 with (fail)
    refine region_fr (C := [Fq.is (.pointer (some ⟨b3, 0, none⟩)), Fq.is (.int .i16 i), Fq.is (.int .i64 i), Fq.num i, Fq.is (.pointer (some ⟨b3, 1, none⟩)), Fq.is (.int .i16 j), Fq.is (.int .i64 j), Fq.num j, Fq.any, Fq.any, Fq.any, Fq.any]) (ks := [none, none, none, none, none, none]) (new := [⟨8, 10, 2, Fq.num 0, Fq.num i, none⟩, ⟨9, 11, 2, Fq.num 0, Fq.num j, none⟩]) E rfl (by kernel_rfl) rfl rfl (fun hp => ⟨?_, ?_, ?_, ?_, ?_, ?_, ?_, ?_, ?_, ?_, ?_, ?_, trivial⟩) ?_
    · exact q_one (F := fun v _ => v = .pointer (some ⟨b3, 0, none⟩)) hp (free_of rfl) trivial (sq_out (s := 5) rfl rfl (fun _ _ => rfl)) (fun ρ w hc h => ⟨.pointer (some ⟨b3, 0, none⟩), by simp [execOp, go_sem, h, hc], rfl⟩)
    · exact q_loadI16 (off := 0) (v := .int .i16 i) hp (free_of rfl) trivial (List.mem_iff_getElem?.2 ⟨3, rfl⟩) (.inl rfl) (Nat.le_of_ble_eq_true rfl) (sq_in 0 rfl rfl (by simp) rfl (fun v w h => h)) (fun us w hl h => ⟨ld_i16s0 hl h, rfl⟩)
    · exact q_one (F := fun v _ => v = .int .i16 i) hp (free_of rfl) trivial (sq_in 1 rfl rfl (by simp) rfl (fun v w h => h)) (fun ρ w hc h => ⟨.int .i64 i, by simp [execOp, go_sem, h, WI.out], rfl⟩)
    · exact q_call1 (F := (Fq.is (.int .i64 i)).P) hp (free_of rfl) trivial (enq_V_of) (sq_in 2 rfl rfl (by simp) rfl (fun v w h => h)) (fun v w h => (by subst h; exact exVOf RI.out))
    · exact q_one (F := fun v _ => v = .pointer (some ⟨b3, 0, none⟩)) hp (free_of rfl) trivial (sq_out (s := 5) rfl rfl (fun _ _ => rfl)) (fun ρ w hc h => ⟨.pointer (some ⟨b3, 1, none⟩), by simp [execOp, go_sem, h, hc], rfl⟩)
    · exact q_loadI16 (off := 1) (v := .int .i16 j) hp (free_of rfl) trivial (List.mem_iff_getElem?.2 ⟨3, rfl⟩) (.inl rfl) (Nat.le_of_ble_eq_true rfl) (sq_in 4 rfl rfl (by simp) rfl (fun v w h => h)) (fun us w hl h => ⟨ld_i16s1 hl h, rfl⟩)
    · exact q_one (F := fun v _ => v = .int .i16 j) hp (free_of rfl) trivial (sq_in 5 rfl rfl (by simp) rfl (fun v w h => h)) (fun ρ w hc h => ⟨.int .i64 j, by simp [execOp, go_sem, h, WJ.out], rfl⟩)
    · exact q_call1 (F := (Fq.is (.int .i64 j)).P) hp (free_of rfl) trivial (enq_V_of) (sq_in 6 rfl rfl (by simp) rfl (fun v w h => h)) (fun v w h => (by subst h; exact exVOf RJ.out))
    · exact q_allocInt hp (List.mem_iff_getElem?.2 ⟨0, rfl⟩) rfl rfl rfl rfl (Nat.ne_of_beq_eq_false rfl) (fun _ _ => trivial) (old_ne rfl) (newk_ne rfl) (fun w => Num.zero w)
    · exact q_allocInt hp (List.mem_iff_getElem?.2 ⟨1, rfl⟩) rfl rfl rfl rfl (Nat.ne_of_beq_eq_false rfl) (fun _ _ => trivial) (old_ne rfl) (newk_ne rfl) (fun w => Num.zero w)
    · exact q_storeNewInt hp (List.mem_iff_getElem?.2 ⟨0, rfl⟩) rfl rfl rfl (own_ptr rfl rfl (by simp) rfl) (sq_in 3 rfl rfl (by simp) rfl (fun v w h => intV_num h)) (fun _ _ => trivial) (old_ne rfl) (newi_ne rfl)
    · exact q_storeNewInt hp (List.mem_iff_getElem?.2 ⟨1, rfl⟩) rfl rfl rfl (own_ptr rfl rfl (by simp) rfl) (sq_in 7 rfl rfl (by simp) rfl (fun v w h => intV_num h)) (fun _ _ => trivial) (old_ne rfl) (newi_ne rfl)
    intro L vs w14 nb hL hC hn E14
    have e0 : vs 0 = .pointer (some ⟨b3, 0, none⟩) := hC 0 (by simp)
    have e1 : vs 1 = .int .i16 i := hC 1 (by simp)
    have e2 : vs 2 = .int .i64 i := hC 2 (by simp)
    have e4 : vs 4 = .pointer (some ⟨b3, 1, none⟩) := hC 4 (by simp)
    have e5 : vs 5 = .int .i16 j := hC 5 (by simp)
    have e6 : vs 6 = .int .i64 j := hC 6 (by simp)
    have e8 : vs 8 = .pointer (some ⟨nb 8, 0, none⟩) := hn _ (List.mem_iff_getElem?.2 ⟨0, rfl⟩)
    have e9 : vs 9 = .pointer (some ⟨nb 9, 0, none⟩) := hn _ (List.mem_iff_getElem?.2 ⟨1, rfl⟩)
    have E : Fr w [(nb 8, 2, Fq.num i), (nb 9, 2, Fq.num j), (b10_3, 3, Fq.got (bezU a m) 0), (b8_7, 2, Fq.num a), (b8_8, 2, Fq.num m), (b3, 2, Fq.is (.agg #[.int .i16 i, .int .i16 j])), (b2, 2, Fq.raw n2 a2 k2 c2 xs2), (b1, 2, Fq.raw n1 a1 k1 c1 xs1)] w14 := E14
    rw [lay_all hL]
    simp only [putAll, dstOf, List.length_cons, List.length_nil, Nat.zero_add, Nat.reduceAdd, List.getElem?_toArray, List.getElem?_cons_zero, List.getElem?_cons_succ, Option.bind_some, Act.put, List.setIfInBounds_toArray, List.set_cons_succ, List.set_cons_zero]
    rw [e0, e1, e2, e4, e5, e6, e8, e9]
    generalize nb 8 = b14_8 at E ⊢
    generalize nb 9 = b14_9 at E ⊢
    generalize vs 3 = u14_3
    generalize vs 7 = u14_7
    clear e0 e1 e2 e4 e5 e6 e8 e9 hC hn E14 hL vs L nb
    clear WI WJ RI RJ
    go_upto_region 10 with (fail)
    have B15 : Hid (ab ((powM a i m)) < pw 4) := powM_ab PM.out BM.out
    have B16 : Hid (ab ((powM a j m)) < pw 4) := powM_ab PM.out BM.out
    have B17 : Hid (ab ((powM a (i + j) m)) < pw 4) := powM_ab PM.out BM.out
    refine region_fr (C := [Fq.num a, Fq.num i, Fq.num m, Fq.got (powM a i m) 0, Fq.num a, Fq.num j, Fq.num m, Fq.got (powM a j m) 0, Fq.num a, Fq.num i, Fq.num j, Fq.num (i + j), Fq.num m, Fq.got (powM a (i + j) m) 0, Fq.any, Fq.any, Fq.any, Fq.any, Fq.any, Fq.any]) (ks := [none, none, none, none, none, none, none, none]) (new := [⟨14, 17, 3, Fq.got 0 0, Fq.got (powM a i m) 0, none⟩, ⟨15, 18, 3, Fq.got 0 0, Fq.got (powM a j m) 0, none⟩, ⟨16, 19, 3, Fq.got 0 0, Fq.got (powM a (i + j) m) 0, none⟩]) E rfl (by kernel_rfl) rfl rfl (fun hp => ⟨?_, ?_, ?_, ?_, ?_, ?_, ?_, ?_, ?_, ?_, ?_, ?_, ?_, ?_, ?_, ?_, ?_, ?_, ?_, ?_, trivial⟩) ?_
    · exact q_loadInt (off := 0) hp (free_of rfl) trivial (List.mem_iff_getElem?.2 ⟨3, rfl⟩) (.inl rfl) (Nat.le_of_ble_eq_true rfl) (sq_out rfl rfl (fun _ _ => rfl)) (fun us w hl h => ld_num hl h)
    · exact q_loadInt (off := 0) hp (free_of rfl) trivial (List.mem_iff_getElem?.2 ⟨0, rfl⟩) (.inl rfl) (Nat.le_of_ble_eq_true rfl) (sq_out rfl rfl (fun _ _ => rfl)) (fun us w hl h => ld_num hl h)
    · exact q_loadInt (off := 0) hp (free_of rfl) trivial (List.mem_iff_getElem?.2 ⟨4, rfl⟩) (.inl rfl) (Nat.le_of_ble_eq_true rfl) (sq_out rfl rfl (fun _ _ => rfl)) (fun us w hl h => ld_num hl h)
    · exact q_call3 (F := (Fq.num a).P) (G := (Fq.num i).P) (F3 := (Fq.num m).P) hp (free_of rfl) trivial (enq_V_pow) (sq_in 0 rfl rfl (by simp) rfl (fun v w h => h)) (sq_in 1 rfl rfl (by simp) rfl (fun v w h => h)) (sq_in 2 rfl rfl (by simp) rfl (fun v w h => h)) (fun v v' u w h h' g => exVPowOk h h' g (Int.lt_of_lt_of_le Ba.out (pw_le (by omega))) (Int.lt_of_lt_of_le BI.out (pw_le (by omega))) (Int.lt_of_lt_of_le BM.out (pw_le (by omega))) PM.out (.inl HG.out))
    · exact q_loadInt (off := 0) hp (free_of rfl) trivial (List.mem_iff_getElem?.2 ⟨3, rfl⟩) (.inl rfl) (Nat.le_of_ble_eq_true rfl) (sq_out rfl rfl (fun _ _ => rfl)) (fun us w hl h => ld_num hl h)
    · exact q_loadInt (off := 0) hp (free_of rfl) trivial (List.mem_iff_getElem?.2 ⟨1, rfl⟩) (.inl rfl) (Nat.le_of_ble_eq_true rfl) (sq_out rfl rfl (fun _ _ => rfl)) (fun us w hl h => ld_num hl h)
    · exact q_loadInt (off := 0) hp (free_of rfl) trivial (List.mem_iff_getElem?.2 ⟨4, rfl⟩) (.inl rfl) (Nat.le_of_ble_eq_true rfl) (sq_out rfl rfl (fun _ _ => rfl)) (fun us w hl h => ld_num hl h)
    · exact q_call3 (F := (Fq.num a).P) (G := (Fq.num j).P) (F3 := (Fq.num m).P) hp (free_of rfl) trivial (enq_V_pow) (sq_in 4 rfl rfl (by simp) rfl (fun v w h => h)) (sq_in 5 rfl rfl (by simp) rfl (fun v w h => h)) (sq_in 6 rfl rfl (by simp) rfl (fun v w h => h)) (fun v v' u w h h' g => exVPowOk h h' g (Int.lt_of_lt_of_le Ba.out (pw_le (by omega))) (Int.lt_of_lt_of_le BJ.out (pw_le (by omega))) (Int.lt_of_lt_of_le BM.out (pw_le (by omega))) PM.out (.inl HG.out))
    · exact q_loadInt (off := 0) hp (free_of rfl) trivial (List.mem_iff_getElem?.2 ⟨3, rfl⟩) (.inl rfl) (Nat.le_of_ble_eq_true rfl) (sq_out rfl rfl (fun _ _ => rfl)) (fun us w hl h => ld_num hl h)
    · exact q_loadInt (off := 0) hp (free_of rfl) trivial (List.mem_iff_getElem?.2 ⟨0, rfl⟩) (.inl rfl) (Nat.le_of_ble_eq_true rfl) (sq_out rfl rfl (fun _ _ => rfl)) (fun us w hl h => ld_num hl h)
    · exact q_loadInt (off := 0) hp (free_of rfl) trivial (List.mem_iff_getElem?.2 ⟨1, rfl⟩) (.inl rfl) (Nat.le_of_ble_eq_true rfl) (sq_out rfl rfl (fun _ _ => rfl)) (fun us w hl h => ld_num hl h)
    · exact q_call2 (F := (Fq.num i).P) (G := (Fq.num j).P) hp (free_of rfl) trivial (enq_Add) (sq_in 9 rfl rfl (by simp) rfl (fun v w h => h)) (sq_in 10 rfl rfl (by simp) rfl (fun v w h => h)) (fun v v' w h h' => exK (AddV h h') (ab_addB (m := 4) BI.out BJ.out (by omega) (by omega)) (by omega))
    · exact q_loadInt (off := 0) hp (free_of rfl) trivial (List.mem_iff_getElem?.2 ⟨4, rfl⟩) (.inl rfl) (Nat.le_of_ble_eq_true rfl) (sq_out rfl rfl (fun _ _ => rfl)) (fun us w hl h => ld_num hl h)
    · exact q_call3 (F := (Fq.num a).P) (G := (Fq.num (i + j)).P) (F3 := (Fq.num m).P) hp (free_of rfl) trivial (enq_V_pow) (sq_in 8 rfl rfl (by simp) rfl (fun v w h => h)) (sq_in 11 rfl rfl (by simp) rfl (fun v w h => h)) (sq_in 12 rfl rfl (by simp) rfl (fun v w h => h)) (fun v v' u w h h' g => exVPowOk h h' g (Int.lt_of_lt_of_le Ba.out (pw_le (by omega))) (Int.lt_of_lt_of_le (ab_addB (m := 4) BI.out BJ.out (by omega) (by omega)) (pw_le (by omega))) (Int.lt_of_lt_of_le BM.out (pw_le (by omega))) PM.out (.inl HG.out))
    · exact q_allocGot hp (List.mem_iff_getElem?.2 ⟨0, rfl⟩) rfl rfl rfl rfl (Nat.ne_of_beq_eq_false rfl) (fun _ _ => trivial) (old_ne rfl) (newk_ne rfl) (fun w => Got.zero w)
    · exact q_allocGot hp (List.mem_iff_getElem?.2 ⟨1, rfl⟩) rfl rfl rfl rfl (Nat.ne_of_beq_eq_false rfl) (fun _ _ => trivial) (old_ne rfl) (newk_ne rfl) (fun w => Got.zero w)
    · exact q_allocGot hp (List.mem_iff_getElem?.2 ⟨2, rfl⟩) rfl rfl rfl rfl (Nat.ne_of_beq_eq_false rfl) (fun _ _ => trivial) (old_ne rfl) (newk_ne rfl) (fun w => Got.zero w)
    · exact q_storeNewGot hp (List.mem_iff_getElem?.2 ⟨0, rfl⟩) rfl rfl rfl (own_ptr rfl rfl (by simp) rfl) (sq_in 3 rfl rfl (by simp) rfl (fun v w h => h.partsV)) (fun _ _ => trivial) (old_ne rfl) (newi_ne rfl)
    · exact q_storeNewGot hp (List.mem_iff_getElem?.2 ⟨1, rfl⟩) rfl rfl rfl (own_ptr rfl rfl (by simp) rfl) (sq_in 7 rfl rfl (by simp) rfl (fun v w h => h.partsV)) (fun _ _ => trivial) (old_ne rfl) (newi_ne rfl)
    · exact q_storeNewGot hp (List.mem_iff_getElem?.2 ⟨2, rfl⟩) rfl rfl rfl (own_ptr rfl rfl (by simp) rfl) (sq_in 13 rfl rfl (by simp) rfl (fun v w h => h.partsV)) (fun _ _ => trivial) (old_ne rfl) (newi_ne rfl)
    intro L vs w18 nb hL hC hn E18
    have e14 : vs 14 = .pointer (some ⟨nb 14, 0, none⟩) := hn _ (List.mem_iff_getElem?.2 ⟨0, rfl⟩)
    have e15 : vs 15 = .pointer (some ⟨nb 15, 0, none⟩) := hn _ (List.mem_iff_getElem?.2 ⟨1, rfl⟩)
    have e16 : vs 16 = .pointer (some ⟨nb 16, 0, none⟩) := hn _ (List.mem_iff_getElem?.2 ⟨2, rfl⟩)
    have E : Fr w [(nb 14, 3, Fq.got (powM a i m) 0), (nb 15, 3, Fq.got (powM a j m) 0), (nb 16, 3, Fq.got (powM a (i + j) m) 0), (b14_8, 2, Fq.num i), (b14_9, 2, Fq.num j), (b10_3, 3, Fq.got (bezU a m) 0), (b8_7, 2, Fq.num a), (b8_8, 2, Fq.num m), (b3, 2, Fq.is (.agg #[.int .i16 i, .int .i16 j])), (b2, 2, Fq.raw n2 a2 k2 c2 xs2), (b1, 2, Fq.raw n1 a1 k1 c1 xs1)] w18 := E18
    rw [lay_all hL]
    simp only [putAll, dstOf, List.length_cons, List.length_nil, Nat.zero_add, Nat.reduceAdd, List.getElem?_toArray, List.getElem?_cons_zero, List.getElem?_cons_succ, Option.bind_some, Act.put, List.setIfInBounds_toArray, List.set_cons_succ, List.set_cons_zero]
    rw [e14, e15, e16]
    generalize nb 14 = b18_14 at E ⊢
    generalize nb 15 = b18_15 at E ⊢
    generalize nb 16 = b18_16 at E ⊢
    generalize vs 0 = u18_0
    generalize vs 1 = u18_1
    generalize vs 2 = u18_2
    generalize vs 3 = u18_3
    generalize vs 4 = u18_4
    generalize vs 5 = u18_5
    generalize vs 6 = u18_6
    generalize vs 7 = u18_7
    generalize vs 8 = u18_8
    generalize vs 9 = u18_9
    generalize vs 10 = u18_10
    generalize vs 11 = u18_11
    generalize vs 12 = u18_12
    generalize vs 13 = u18_13
    clear e14 e15 e16 hC hn E18 hL vs L nb
    go_upto_region 11 with (fail)
    refine region_fr (C := [Fq.is (.bool true)]) (ks := [none, none, none, none, none, none, none, none, none, none, none]) (new := []) E rfl (by kernel_rfl) rfl rfl (fun hp => ⟨?_, trivial⟩) ?_
    · exact q_move hp (free_of rfl) trivial (sq_out rfl rfl (fun _ _ => rfl))
    intro L vs w19 nb hL hC hn E19
    have e0 : vs 0 = .bool true := hC 0 (by simp)
    have E : Fr w [(b18_14, 3, Fq.got (powM a i m) 0), (b18_15, 3, Fq.got (powM a j m) 0), (b18_16, 3, Fq.got (powM a (i + j) m) 0), (b14_8, 2, Fq.num i), (b14_9, 2, Fq.num j), (b10_3, 3, Fq.got (bezU a m) 0), (b8_7, 2, Fq.num a), (b8_8, 2, Fq.num m), (b3, 2, Fq.is (.agg #[.int .i16 i, .int .i16 j])), (b2, 2, Fq.raw n2 a2 k2 c2 xs2), (b1, 2, Fq.raw n1 a1 k1 c1 xs1)] w19 := E19
    rw [lay_all hL]
    simp only [putAll, dstOf, List.length_cons, List.length_nil, Nat.zero_add, List.getElem?_toArray, List.getElem?_cons_zero, Option.bind_some, Act.put, List.setIfInBounds_toArray, List.set_cons_succ, List.set_cons_zero]
    rw [e0]
    clear e0 hC hn E19 hL vs L nb
    go_upto_region 12 with (fail)
    have B20 : Hid (ab ((a * (bezU a m))) < pw 7) := ab_mulM Ba.out B9.out (by omega)
    have B21 : Hid (ab (((a * (bezU a m)) % m)) < pw 4) := ab_modB NM.out BM.out
    refine region_fr (C := [Fq.num a, Fq.is (.pointer (some ⟨b10_3, 0, none⟩)), Fq.num (bezU a m), Fq.num (a * (bezU a m)), Fq.num m, Fq.tup2 (Fq.num ((a * (bezU a m)) % m)) (Fq.is (.int .i64 0)), Fq.tup2 (Fq.num ((a * (bezU a m)) % m)) (Fq.is (.int .i64 0)), Fq.num ((a * (bezU a m)) % m), Fq.is (.int .i64 0), Fq.any, Fq.any, Fq.is (.int .i64 0)]) (ks := [none, none, none, none, none, none, none, none, none, none, none]) (new := [⟨9, 10, 2, Fq.num 0, Fq.num ((a * (bezU a m)) % m), none⟩]) E rfl (by kernel_rfl) rfl rfl (fun hp => ⟨?_, ?_, ?_, ?_, ?_, ?_, ?_, ?_, ?_, ?_, ?_, ?_, trivial⟩) ?_
    · exact q_loadInt (off := 0) hp (free_of rfl) trivial (List.mem_iff_getElem?.2 ⟨6, rfl⟩) (.inl rfl) (Nat.le_of_ble_eq_true rfl) (sq_out rfl rfl (fun _ _ => rfl)) (fun us w hl h => ld_num hl h)
    · exact q_addr (b := b10_3) (off := 0) (off' := 0) hp (free_of rfl) trivial (sq_out rfl rfl (fun _ _ => rfl)) (fun ρ w h => by simp [execOp, go_sem, h]) (fun _ => rfl)
    · exact q_loadInt (off := 0) hp (free_of rfl) trivial (List.mem_iff_getElem?.2 ⟨5, rfl⟩) (.inl rfl) (Nat.le_of_ble_eq_true rfl) (sq_in 1 rfl rfl (by simp) rfl (fun v w h => h)) (fun us w hl h => ld_got hl h)
    · exact q_call2 (F := (Fq.num a).P) (G := (Fq.num (bezU a m)).P) hp (free_of rfl) trivial (enq_Mul) (sq_in 0 rfl rfl (by simp) rfl (fun v w h => h)) (sq_in 2 rfl rfl (by simp) rfl (fun v w h => h)) (fun v v' w h h' => exK (MulV h h') B20.out (by omega))
    · exact q_loadInt (off := 0) hp (free_of rfl) trivial (List.mem_iff_getElem?.2 ⟨7, rfl⟩) (.inl rfl) (Nat.le_of_ble_eq_true rfl) (sq_out rfl rfl (fun _ _ => rfl)) (fun us w hl h => ld_num hl h)
    · exact q_call2 (F := (Fq.num (a * (bezU a m))).P) (G := (Fq.num m).P) hp (free_of rfl) trivial (enq_M_Mod) (sq_in 3 rfl rfl (by simp) rfl (fun v w h => h)) (sq_in 4 rfl rfl (by simp) rfl (fun v w h => h)) (fun v v' w h h' => exModP h h' (Int.lt_of_lt_of_le B20.out (pw_le (by omega))) (Int.lt_of_lt_of_le BM.out (pw_le (by omega))) PM.out)
    · exact q_move hp (free_of rfl) trivial (sq_in 5 rfl rfl (by simp) rfl (fun v w h => h))
    · exact q_extract2 hp (free_of rfl) trivial (sq_in 6 rfl rfl (by simp) rfl (fun v w h => h)) (fun v1 v2 w h1 h2 => ⟨_, rfl, h1⟩)
    · exact q_extract2 hp (free_of rfl) trivial (sq_in 6 rfl rfl (by simp) rfl (fun v w h => h)) (fun v1 v2 w h1 h2 => ⟨_, rfl, h2⟩)
    · exact q_allocInt hp (List.mem_iff_getElem?.2 ⟨0, rfl⟩) rfl rfl rfl rfl (Nat.ne_of_beq_eq_false rfl) (fun _ _ => trivial) (old_ne rfl) (newk_ne rfl) (fun w => Num.zero w)
    · exact q_storeNewInt hp (List.mem_iff_getElem?.2 ⟨0, rfl⟩) rfl rfl rfl (own_ptr rfl rfl (by simp) rfl) (sq_in 7 rfl rfl (by simp) rfl (fun v w h => intV_num h)) (fun _ _ => trivial) (old_ne rfl) (newi_ne rfl)
    · exact q_assign hp (free_of rfl) trivial (sq_in 8 rfl rfl (by simp) rfl (fun v w h => h))
    intro L vs w22 nb hL hC hn E22
    have e1 : vs 1 = .pointer (some ⟨b10_3, 0, none⟩) := hC 1 (by simp)
    have e8 : vs 8 = .int .i64 0 := hC 8 (by simp)
    have e11 : vs 11 = .int .i64 0 := hC 11 (by simp)
    have e9 : vs 9 = .pointer (some ⟨nb 9, 0, none⟩) := hn _ (List.mem_iff_getElem?.2 ⟨0, rfl⟩)
    have E : Fr w [(nb 9, 2, Fq.num ((a * (bezU a m)) % m)), (b18_14, 3, Fq.got (powM a i m) 0), (b18_15, 3, Fq.got (powM a j m) 0), (b18_16, 3, Fq.got (powM a (i + j) m) 0), (b14_8, 2, Fq.num i), (b14_9, 2, Fq.num j), (b10_3, 3, Fq.got (bezU a m) 0), (b8_7, 2, Fq.num a), (b8_8, 2, Fq.num m), (b3, 2, Fq.is (.agg #[.int .i16 i, .int .i16 j])), (b2, 2, Fq.raw n2 a2 k2 c2 xs2), (b1, 2, Fq.raw n1 a1 k1 c1 xs1)] w22 := E22
    rw [lay_all hL]
    simp only [putAll, dstOf, List.length_cons, List.length_nil, Nat.zero_add, Nat.reduceAdd, List.getElem?_toArray, List.getElem?_cons_zero, List.getElem?_cons_succ, Option.bind_some, Act.put, List.setIfInBounds_toArray, List.set_cons_succ, List.set_cons_zero]
    rw [e1, e8, e11, e9]
    generalize nb 9 = b22_9 at E ⊢
    generalize vs 0 = u22_0
    generalize vs 2 = u22_2
    generalize vs 3 = u22_3
    generalize vs 4 = u22_4
    generalize vs 5 = u22_5
    generalize vs 6 = u22_6
    generalize vs 7 = u22_7
    clear e1 e8 e11 e9 hC hn E22 hL vs L nb
    go_upto_region 13 with (fail)
    have B23 : Hid (ab (((1) % m)) < pw 4) := ab_modB NM.out BM.out
    refine region_fr (C := [Fq.num (1), Fq.num m, Fq.tup2 (Fq.num ((1) % m)) (Fq.is (.int .i64 0)), Fq.tup2 (Fq.num ((1) % m)) (Fq.is (.int .i64 0)), Fq.num ((1) % m), Fq.is (.int .i64 0), Fq.any, Fq.any, Fq.is (.int .i64 0)]) (ks := [none, none, none, none, none, none, none, none, none, none, none, none]) (new := [⟨6, 7, 2, Fq.num 0, Fq.num ((1) % m), none⟩]) E rfl (by kernel_rfl) rfl rfl (fun hp => ⟨?_, ?_, ?_, ?_, ?_, ?_, ?_, ?_, ?_, trivial⟩) ?_
    · exact q_call1 (F := (Fq.is (.int .i64 1)).P) hp (free_of rfl) trivial (enq_V_of) (sq_const (fun _ => rfl)) (fun v w h => (by subst h; exact exVOf (by omega)))
    · exact q_loadInt (off := 0) hp (free_of rfl) trivial (List.mem_iff_getElem?.2 ⟨8, rfl⟩) (.inl rfl) (Nat.le_of_ble_eq_true rfl) (sq_out rfl rfl (fun _ _ => rfl)) (fun us w hl h => ld_num hl h)
    · exact q_call2 (F := (Fq.num (1)).P) (G := (Fq.num m).P) hp (free_of rfl) trivial (enq_M_Mod) (sq_in 0 rfl rfl (by simp) rfl (fun v w h => h)) (sq_in 1 rfl rfl (by simp) rfl (fun v w h => h)) (fun v v' w h h' => exModP h h' (Int.lt_of_lt_of_le B7.out (pw_le (by omega))) (Int.lt_of_lt_of_le BM.out (pw_le (by omega))) PM.out)
    · exact q_move hp (free_of rfl) trivial (sq_in 2 rfl rfl (by simp) rfl (fun v w h => h))
    · exact q_extract2 hp (free_of rfl) trivial (sq_in 3 rfl rfl (by simp) rfl (fun v w h => h)) (fun v1 v2 w h1 h2 => ⟨_, rfl, h1⟩)
    · exact q_extract2 hp (free_of rfl) trivial (sq_in 3 rfl rfl (by simp) rfl (fun v w h => h)) (fun v1 v2 w h1 h2 => ⟨_, rfl, h2⟩)
    · exact q_allocInt hp (List.mem_iff_getElem?.2 ⟨0, rfl⟩) rfl rfl rfl rfl (Nat.ne_of_beq_eq_false rfl) (fun _ _ => trivial) (old_ne rfl) (newk_ne rfl) (fun w => Num.zero w)
    · exact q_storeNewInt hp (List.mem_iff_getElem?.2 ⟨0, rfl⟩) rfl rfl rfl (own_ptr rfl rfl (by simp) rfl) (sq_in 4 rfl rfl (by simp) rfl (fun v w h => intV_num h)) (fun _ _ => trivial) (old_ne rfl) (newi_ne rfl)
    · exact q_assign hp (free_of rfl) trivial (sq_in 5 rfl rfl (by simp) rfl (fun v w h => h))
    intro L vs w24 nb hL hC hn E24
    have e5 : vs 5 = .int .i64 0 := hC 5 (by simp)
    have e8 : vs 8 = .int .i64 0 := hC 8 (by simp)
    have e6 : vs 6 = .pointer (some ⟨nb 6, 0, none⟩) := hn _ (List.mem_iff_getElem?.2 ⟨0, rfl⟩)
    have E : Fr w [(nb 6, 2, Fq.num ((1) % m)), (b22_9, 2, Fq.num ((a * (bezU a m)) % m)), (b18_14, 3, Fq.got (powM a i m) 0), (b18_15, 3, Fq.got (powM a j m) 0), (b18_16, 3, Fq.got (powM a (i + j) m) 0), (b14_8, 2, Fq.num i), (b14_9, 2, Fq.num j), (b10_3, 3, Fq.got (bezU a m) 0), (b8_7, 2, Fq.num a), (b8_8, 2, Fq.num m), (b3, 2, Fq.is (.agg #[.int .i16 i, .int .i16 j])), (b2, 2, Fq.raw n2 a2 k2 c2 xs2), (b1, 2, Fq.raw n1 a1 k1 c1 xs1)] w24 := E24
    rw [lay_all hL]
    simp only [putAll, dstOf, List.length_cons, List.length_nil, Nat.zero_add, Nat.reduceAdd, List.getElem?_toArray, List.getElem?_cons_zero, List.getElem?_cons_succ, Option.bind_some, Act.put, List.setIfInBounds_toArray, List.set_cons_succ, List.set_cons_zero]
    rw [e5, e8, e6]
    generalize nb 6 = b24_6 at E ⊢
    generalize vs 0 = u24_0
    generalize vs 1 = u24_1
    generalize vs 2 = u24_2
    generalize vs 3 = u24_3
    generalize vs 4 = u24_4
    clear e5 e8 e6 hC hn E24 hL vs L nb
    go_upto_region 14 with (fail)
    refine region_fr (C := [Fq.is (.int .i64 0), Fq.is (.bool false), Fq.is (.bool false), Fq.is (.int .i64 0), Fq.is (.bool false), Fq.is (.bool false), Fq.is (.bool false), Fq.num ((a * (bezU a m)) % m), Fq.num ((1) % m), Fq.is (.int .i64 (cmpI ((a * (bezU a m)) % m) ((1) % m))), Fq.is (.bool false), Fq.is (.bool false)]) (ks := [none, none, none, none, none, none, none, none, none, none, none, none, none]) (new := []) E rfl (by kernel_rfl) rfl rfl (fun hp => ⟨?_, ?_, ?_, ?_, ?_, ?_, ?_, ?_, ?_, ?_, ?_, ?_, trivial⟩) ?_
    · exact q_move hp (free_of rfl) trivial (sq_out rfl rfl (fun _ _ => rfl))
    · exact q_one (F := fun v _ => v = .int .i64 0) hp (free_of rfl) trivial (sq_in 0 rfl rfl (by simp) rfl (fun v w h => h)) (fun ρ w hc h => ⟨.bool false, by simp [execOp, go_sem, h, hc], rfl⟩)
    · exact q_move hp (free_of rfl) trivial (sq_in 1 rfl rfl (by simp) rfl (fun v w h => h))
    · exact q_move hp (free_of rfl) (gq_some rfl rfl (by simp) rfl (fun v w h => h)) (sq_out rfl rfl (fun _ _ => rfl))
    · exact q_one (F := fun v _ => v = .int .i64 0) hp (free_of rfl) (gq_some rfl rfl (by simp) rfl (fun v w h => h)) (sq_in 3 rfl rfl (by simp) rfl (fun v w h => h)) (fun ρ w hc h => ⟨.bool false, by simp [execOp, go_sem, h, hc], rfl⟩)
    · exact q_two (F := fun v _ => v = .bool false) (G := fun v _ => v = .bool false) hp (free_of rfl) trivial (sq_in 2 rfl rfl (by simp) rfl (fun v w h => h)) (sq_in 4 rfl rfl (by simp) rfl (fun v w h => h)) (fun ρ w hc h h' => ⟨_, by simp [execOp, go_sem, h, h'], rfl⟩)
    · exact q_move hp (free_of rfl) trivial (sq_in 5 rfl rfl (by simp) rfl (fun v w h => h))
    · exact q_loadInt (off := 0) hp (free_of rfl) (gq_some rfl rfl (by simp) rfl (fun v w h => h)) (List.mem_iff_getElem?.2 ⟨1, rfl⟩) (.inl rfl) (Nat.le_of_ble_eq_true rfl) (sq_out rfl rfl (fun _ _ => rfl)) (fun us w hl h => ld_num hl h)
    · exact q_loadInt (off := 0) hp (free_of rfl) (gq_some rfl rfl (by simp) rfl (fun v w h => h)) (List.mem_iff_getElem?.2 ⟨0, rfl⟩) (.inl rfl) (Nat.le_of_ble_eq_true rfl) (sq_out rfl rfl (fun _ _ => rfl)) (fun us w hl h => ld_num hl h)
    · exact q_call2 (F := (Fq.num ((a * (bezU a m)) % m)).P) (G := (Fq.num ((1) % m)).P) hp (free_of rfl) (gq_some rfl rfl (by simp) rfl (fun v w h => h)) (enq_Cmp) (sq_in 7 rfl rfl (by simp) rfl (fun v w h => h)) (sq_in 8 rfl rfl (by simp) rfl (fun v w h => h)) (fun v v' w h h' => exCmp h h')
    · exact q_one (F := fun v _ => v = .int .i64 (cmpI ((a * (bezU a m)) % m) ((1) % m))) hp (free_of rfl) (gq_some rfl rfl (by simp) rfl (fun v w h => h)) (sq_in 9 rfl rfl (by simp) rfl (fun v w h => h)) (fun ρ w hc h => ⟨.bool false, by simp [execOp, go_sem, h, hc, TI.out], rfl⟩)
    · exact q_two (F := fun v _ => v = .bool false) (G := fun v _ => v = .bool false) hp (free_of rfl) trivial (sq_in 6 rfl rfl (by simp) rfl (fun v w h => h)) (sq_in 10 rfl rfl (by simp) rfl (fun v w h => h)) (fun ρ w hc h h' => ⟨_, by simp [execOp, go_sem, h, h'], rfl⟩)
    intro L vs w25 nb hL hC hn E25
    have e0 : vs 0 = .int .i64 0 := hC 0 (by simp)
    have e1 : vs 1 = .bool false := hC 1 (by simp)
    have e2 : vs 2 = .bool false := hC 2 (by simp)
    have e3 : vs 3 = .int .i64 0 := hC 3 (by simp)
    have e4 : vs 4 = .bool false := hC 4 (by simp)
    have e5 : vs 5 = .bool false := hC 5 (by simp)
    have e6 : vs 6 = .bool false := hC 6 (by simp)
    have e9 : vs 9 = .int .i64 (cmpI ((a * (bezU a m)) % m) ((1) % m)) := hC 9 (by simp)
    have e10 : vs 10 = .bool false := hC 10 (by simp)
    have e11 : vs 11 = .bool false := hC 11 (by simp)
    have E : Fr w [(b24_6, 2, Fq.num ((1) % m)), (b22_9, 2, Fq.num ((a * (bezU a m)) % m)), (b18_14, 3, Fq.got (powM a i m) 0), (b18_15, 3, Fq.got (powM a j m) 0), (b18_16, 3, Fq.got (powM a (i + j) m) 0), (b14_8, 2, Fq.num i), (b14_9, 2, Fq.num j), (b10_3, 3, Fq.got (bezU a m) 0), (b8_7, 2, Fq.num a), (b8_8, 2, Fq.num m), (b3, 2, Fq.is (.agg #[.int .i16 i, .int .i16 j])), (b2, 2, Fq.raw n2 a2 k2 c2 xs2), (b1, 2, Fq.raw n1 a1 k1 c1 xs1)] w25 := E25
    rw [lay_all hL]
    simp only [putAll, dstOf, List.length_cons, List.length_nil, Nat.zero_add, Nat.reduceAdd, List.getElem?_toArray, List.getElem?_cons_zero, List.getElem?_cons_succ, Option.bind_some, Act.put, List.setIfInBounds_toArray, List.set_cons_succ, List.set_cons_zero]
    rw [e0, e1, e2, e3, e4, e5, e6, e9, e10, e11]
    generalize vs 7 = u25_7
    generalize vs 8 = u25_8
    clear e0 e1 e2 e3 e4 e5 e6 e9 e10 e11 hC hn E25 hL vs L nb
    clear TI
    go_upto_region 16 with (fail)
    refine region_fr (C := [Fq.is (.pointer (some ⟨b18_14, 2, none⟩)), Fq.is (.int .i64 0), Fq.is (.bool false), Fq.is (.bool false), Fq.is (.pointer (some ⟨b18_15, 2, none⟩)), Fq.is (.int .i64 0), Fq.is (.bool false), Fq.is (.bool false)]) (ks := [none, none, none, none, none, none, none, none, none, none, none, none, none]) (new := []) E rfl (by kernel_rfl) rfl rfl (fun hp => ⟨?_, ?_, ?_, ?_, ?_, ?_, ?_, ?_, trivial⟩) ?_
    · exact q_addr (b := b18_14) (off := 0) (off' := 2) hp (free_of rfl) trivial (sq_out rfl rfl (fun _ _ => rfl)) (fun ρ w h => by simp [execOp, go_sem, h]) (fun _ => rfl)
    · exact q_loadErr (r := 0) hp (free_of rfl) trivial (List.mem_iff_getElem?.2 ⟨2, rfl⟩) (.inl rfl) rfl (sq_in 0 rfl rfl (by simp) rfl (fun v w h => h)) (fun us w hl h => ld_got2 hl h) (fun _ => rfl)
    · exact q_one (F := fun v _ => v = .int .i64 0) hp (free_of rfl) trivial (sq_in 1 rfl rfl (by simp) rfl (fun v w h => h)) (fun ρ w hc h => ⟨.bool false, by simp [execOp, go_sem, h, hc], rfl⟩)
    · exact q_move hp (free_of rfl) trivial (sq_in 2 rfl rfl (by simp) rfl (fun v w h => h))
    · exact q_addr (b := b18_15) (off := 0) (off' := 2) hp (free_of rfl) (gq_some rfl rfl (by simp) rfl (fun v w h => h)) (sq_out rfl rfl (fun _ _ => rfl)) (fun ρ w h => by simp [execOp, go_sem, h]) (fun _ => rfl)
    · exact q_loadErr (r := 0) hp (free_of rfl) (gq_some rfl rfl (by simp) rfl (fun v w h => h)) (List.mem_iff_getElem?.2 ⟨3, rfl⟩) (.inl rfl) rfl (sq_in 4 rfl rfl (by simp) rfl (fun v w h => h)) (fun us w hl h => ld_got2 hl h) (fun _ => rfl)
    · exact q_one (F := fun v _ => v = .int .i64 0) hp (free_of rfl) (gq_some rfl rfl (by simp) rfl (fun v w h => h)) (sq_in 5 rfl rfl (by simp) rfl (fun v w h => h)) (fun ρ w hc h => ⟨.bool false, by simp [execOp, go_sem, h, hc], rfl⟩)
    · exact q_two (F := fun v _ => v = .bool false) (G := fun v _ => v = .bool false) hp (free_of rfl) trivial (sq_in 3 rfl rfl (by simp) rfl (fun v w h => h)) (sq_in 6 rfl rfl (by simp) rfl (fun v w h => h)) (fun ρ w hc h h' => ⟨_, by simp [execOp, go_sem, h, h'], rfl⟩)
    intro L vs w26 nb hL hC hn E26
    have e0 : vs 0 = .pointer (some ⟨b18_14, 2, none⟩) := hC 0 (by simp)
    have e1 : vs 1 = .int .i64 0 := hC 1 (by simp)
    have e2 : vs 2 = .bool false := hC 2 (by simp)
    have e3 : vs 3 = .bool false := hC 3 (by simp)
    have e4 : vs 4 = .pointer (some ⟨b18_15, 2, none⟩) := hC 4 (by simp)
    have e5 : vs 5 = .int .i64 0 := hC 5 (by simp)
    have e6 : vs 6 = .bool false := hC 6 (by simp)
    have e7 : vs 7 = .bool false := hC 7 (by simp)
    have E : Fr w [(b24_6, 2, Fq.num ((1) % m)), (b22_9, 2, Fq.num ((a * (bezU a m)) % m)), (b18_14, 3, Fq.got (powM a i m) 0), (b18_15, 3, Fq.got (powM a j m) 0), (b18_16, 3, Fq.got (powM a (i + j) m) 0), (b14_8, 2, Fq.num i), (b14_9, 2, Fq.num j), (b10_3, 3, Fq.got (bezU a m) 0), (b8_7, 2, Fq.num a), (b8_8, 2, Fq.num m), (b3, 2, Fq.is (.agg #[.int .i16 i, .int .i16 j])), (b2, 2, Fq.raw n2 a2 k2 c2 xs2), (b1, 2, Fq.raw n1 a1 k1 c1 xs1)] w26 := E26
    rw [lay_all hL]
    simp only [putAll, dstOf, List.length_cons, List.length_nil, Nat.zero_add, Nat.reduceAdd, List.getElem?_toArray, List.getElem?_cons_zero, List.getElem?_cons_succ, Option.bind_some, Act.put, List.setIfInBounds_toArray, List.set_cons_succ, List.set_cons_zero]
    rw [e0, e1, e2, e3, e4, e5, e6, e7]
    clear e0 e1 e2 e3 e4 e5 e6 e7 hC hn E26 hL vs L nb
    go_upto_region 18 with (fail)
    have B27 : Hid (ab (((powM a i m) * (powM a j m))) < pw 8) := ab_mulM B15.out B16.out (by omega)
    have B28 : Hid (ab ((((powM a i m) * (powM a j m)) % m)) < pw 4) := ab_modB NM.out BM.out
    refine region_fr (C := [Fq.is (.pointer (some ⟨b18_14, 0, none⟩)), Fq.num (powM a i m), Fq.is (.pointer (some ⟨b18_15, 0, none⟩)), Fq.num (powM a j m), Fq.num ((powM a i m) * (powM a j m)), Fq.num m, Fq.tup2 (Fq.num (((powM a i m) * (powM a j m)) % m)) (Fq.is (.int .i64 0)), Fq.tup2 (Fq.num (((powM a i m) * (powM a j m)) % m)) (Fq.is (.int .i64 0)), Fq.num (((powM a i m) * (powM a j m)) % m), Fq.is (.int .i64 0), Fq.any, Fq.any, Fq.is (.int .i64 0)]) (ks := [none, none, none, none, none, none, none, none, none, none, none, none, none]) (new := [⟨10, 11, 2, Fq.num 0, Fq.num (((powM a i m) * (powM a j m)) % m), none⟩]) E rfl (by kernel_rfl) rfl rfl (fun hp => ⟨?_, ?_, ?_, ?_, ?_, ?_, ?_, ?_, ?_, ?_, ?_, ?_, ?_, trivial⟩) ?_
    · exact q_addr (b := b18_14) (off := 0) (off' := 0) hp (free_of rfl) trivial (sq_out rfl rfl (fun _ _ => rfl)) (fun ρ w h => by simp [execOp, go_sem, h]) (fun _ => rfl)
    · exact q_loadInt (off := 0) hp (free_of rfl) trivial (List.mem_iff_getElem?.2 ⟨2, rfl⟩) (.inl rfl) (Nat.le_of_ble_eq_true rfl) (sq_in 0 rfl rfl (by simp) rfl (fun v w h => h)) (fun us w hl h => ld_got hl h)
    · exact q_addr (b := b18_15) (off := 0) (off' := 0) hp (free_of rfl) trivial (sq_out rfl rfl (fun _ _ => rfl)) (fun ρ w h => by simp [execOp, go_sem, h]) (fun _ => rfl)
    · exact q_loadInt (off := 0) hp (free_of rfl) trivial (List.mem_iff_getElem?.2 ⟨3, rfl⟩) (.inl rfl) (Nat.le_of_ble_eq_true rfl) (sq_in 2 rfl rfl (by simp) rfl (fun v w h => h)) (fun us w hl h => ld_got hl h)
    · exact q_call2 (F := (Fq.num (powM a i m)).P) (G := (Fq.num (powM a j m)).P) hp (free_of rfl) trivial (enq_Mul) (sq_in 1 rfl rfl (by simp) rfl (fun v w h => h)) (sq_in 3 rfl rfl (by simp) rfl (fun v w h => h)) (fun v v' w h h' => exK (MulV h h') B27.out (by omega))
    · exact q_loadInt (off := 0) hp (free_of rfl) trivial (List.mem_iff_getElem?.2 ⟨9, rfl⟩) (.inl rfl) (Nat.le_of_ble_eq_true rfl) (sq_out rfl rfl (fun _ _ => rfl)) (fun us w hl h => ld_num hl h)
    · exact q_call2 (F := (Fq.num ((powM a i m) * (powM a j m))).P) (G := (Fq.num m).P) hp (free_of rfl) trivial (enq_M_Mod) (sq_in 4 rfl rfl (by simp) rfl (fun v w h => h)) (sq_in 5 rfl rfl (by simp) rfl (fun v w h => h)) (fun v v' w h h' => exModP h h' (Int.lt_of_lt_of_le B27.out (pw_le (by omega))) (Int.lt_of_lt_of_le BM.out (pw_le (by omega))) PM.out)
    · exact q_move hp (free_of rfl) trivial (sq_in 6 rfl rfl (by simp) rfl (fun v w h => h))
    · exact q_extract2 hp (free_of rfl) trivial (sq_in 7 rfl rfl (by simp) rfl (fun v w h => h)) (fun v1 v2 w h1 h2 => ⟨_, rfl, h1⟩)
    · exact q_extract2 hp (free_of rfl) trivial (sq_in 7 rfl rfl (by simp) rfl (fun v w h => h)) (fun v1 v2 w h1 h2 => ⟨_, rfl, h2⟩)
    · exact q_allocInt hp (List.mem_iff_getElem?.2 ⟨0, rfl⟩) rfl rfl rfl rfl (Nat.ne_of_beq_eq_false rfl) (fun _ _ => trivial) (old_ne rfl) (newk_ne rfl) (fun w => Num.zero w)
    · exact q_storeNewInt hp (List.mem_iff_getElem?.2 ⟨0, rfl⟩) rfl rfl rfl (own_ptr rfl rfl (by simp) rfl) (sq_in 8 rfl rfl (by simp) rfl (fun v w h => intV_num h)) (fun _ _ => trivial) (old_ne rfl) (newi_ne rfl)
    · exact q_assign hp (free_of rfl) trivial (sq_in 9 rfl rfl (by simp) rfl (fun v w h => h))
    intro L vs w29 nb hL hC hn E29
    have e0 : vs 0 = .pointer (some ⟨b18_14, 0, none⟩) := hC 0 (by simp)
    have e2 : vs 2 = .pointer (some ⟨b18_15, 0, none⟩) := hC 2 (by simp)
    have e9 : vs 9 = .int .i64 0 := hC 9 (by simp)
    have e12 : vs 12 = .int .i64 0 := hC 12 (by simp)
    have e10 : vs 10 = .pointer (some ⟨nb 10, 0, none⟩) := hn _ (List.mem_iff_getElem?.2 ⟨0, rfl⟩)
    have E : Fr w [(nb 10, 2, Fq.num (((powM a i m) * (powM a j m)) % m)), (b24_6, 2, Fq.num ((1) % m)), (b22_9, 2, Fq.num ((a * (bezU a m)) % m)), (b18_14, 3, Fq.got (powM a i m) 0), (b18_15, 3, Fq.got (powM a j m) 0), (b18_16, 3, Fq.got (powM a (i + j) m) 0), (b14_8, 2, Fq.num i), (b14_9, 2, Fq.num j), (b10_3, 3, Fq.got (bezU a m) 0), (b8_7, 2, Fq.num a), (b8_8, 2, Fq.num m), (b3, 2, Fq.is (.agg #[.int .i16 i, .int .i16 j])), (b2, 2, Fq.raw n2 a2 k2 c2 xs2), (b1, 2, Fq.raw n1 a1 k1 c1 xs1)] w29 := E29
    rw [lay_all hL]
    simp only [putAll, dstOf, List.length_cons, List.length_nil, Nat.zero_add, Nat.reduceAdd, List.getElem?_toArray, List.getElem?_cons_zero, List.getElem?_cons_succ, Option.bind_some, Act.put, List.setIfInBounds_toArray, List.set_cons_succ, List.set_cons_zero]
    rw [e0, e2, e9, e12, e10]
    generalize nb 10 = b29_10 at E ⊢
    generalize vs 1 = u29_1
    generalize vs 3 = u29_3
    generalize vs 4 = u29_4
    generalize vs 5 = u29_5
    generalize vs 6 = u29_6
    generalize vs 7 = u29_7
    generalize vs 8 = u29_8
    clear e0 e2 e9 e12 e10 hC hn E29 hL vs L nb
    go_upto_region 19 with (fail)
    refine region_fr (C := [Fq.is (.pointer (some ⟨b18_16, 2, none⟩)), Fq.is (.int .i64 0), Fq.is (.bool true), Fq.is (.bool true), Fq.is (.int .i64 0), Fq.is (.bool true), Fq.is (.bool true), Fq.is (.bool true), Fq.num (((powM a i m) * (powM a j m)) % m), Fq.is (.pointer (some ⟨b18_16, 0, none⟩)), Fq.num (powM a (i + j) m), Fq.is (.int .i64 (cmpI (((powM a i m) * (powM a j m)) % m) (powM a (i + j) m))), Fq.is (.bool true), Fq.is (.bool true), Fq.is (.bool true), Fq.is (.bool true), Fq.is (.bool true), Fq.is (.bool true)]) (ks := [none, none, none, none, none, none, none, none, none, none, none, none, none, none]) (new := []) E rfl (by kernel_rfl) rfl rfl (fun hp => ⟨?_, ?_, ?_, ?_, ?_, ?_, ?_, ?_, ?_, ?_, ?_, ?_, ?_, ?_, ?_, ?_, ?_, ?_, trivial⟩) ?_
    · exact q_addr (b := b18_16) (off := 0) (off' := 2) hp (free_of rfl) trivial (sq_out rfl rfl (fun _ _ => rfl)) (fun ρ w h => by simp [execOp, go_sem, h]) (fun _ => rfl)
    · exact q_loadErr (r := 0) hp (free_of rfl) trivial (List.mem_iff_getElem?.2 ⟨5, rfl⟩) (.inl rfl) rfl (sq_in 0 rfl rfl (by simp) rfl (fun v w h => h)) (fun us w hl h => ld_got2 hl h) (fun _ => rfl)
    · exact q_one (F := fun v _ => v = .int .i64 0) hp (free_of rfl) trivial (sq_in 1 rfl rfl (by simp) rfl (fun v w h => h)) (fun ρ w hc h => ⟨.bool true, by simp [execOp, go_sem, h, hc], rfl⟩)
    · exact q_move hp (free_of rfl) trivial (sq_in 2 rfl rfl (by simp) rfl (fun v w h => h))
    · exact q_move hp (free_of rfl) (gq_some rfl rfl (by simp) rfl (fun v w h => h)) (sq_out rfl rfl (fun _ _ => rfl))
    · exact q_one (F := fun v _ => v = .int .i64 0) hp (free_of rfl) (gq_some rfl rfl (by simp) rfl (fun v w h => h)) (sq_in 4 rfl rfl (by simp) rfl (fun v w h => h)) (fun ρ w hc h => ⟨.bool true, by simp [execOp, go_sem, h, hc], rfl⟩)
    · exact q_two (F := fun v _ => v = .bool true) (G := fun v _ => v = .bool true) hp (free_of rfl) trivial (sq_in 3 rfl rfl (by simp) rfl (fun v w h => h)) (sq_in 5 rfl rfl (by simp) rfl (fun v w h => h)) (fun ρ w hc h h' => ⟨_, by simp [execOp, go_sem, h, h'], rfl⟩)
    · exact q_move hp (free_of rfl) trivial (sq_in 6 rfl rfl (by simp) rfl (fun v w h => h))
    · exact q_loadInt (off := 0) hp (free_of rfl) (gq_some rfl rfl (by simp) rfl (fun v w h => h)) (List.mem_iff_getElem?.2 ⟨0, rfl⟩) (.inl rfl) (Nat.le_of_ble_eq_true rfl) (sq_out rfl rfl (fun _ _ => rfl)) (fun us w hl h => ld_num hl h)
    · exact q_addr (b := b18_16) (off := 0) (off' := 0) hp (free_of rfl) (gq_some rfl rfl (by simp) rfl (fun v w h => h)) (sq_out rfl rfl (fun _ _ => rfl)) (fun ρ w h => by simp [execOp, go_sem, h]) (fun _ => rfl)
    · exact q_loadInt (off := 0) hp (free_of rfl) (gq_some rfl rfl (by simp) rfl (fun v w h => h)) (List.mem_iff_getElem?.2 ⟨5, rfl⟩) (.inl rfl) (Nat.le_of_ble_eq_true rfl) (sq_in 9 rfl rfl (by simp) rfl (fun v w h => h)) (fun us w hl h => ld_got hl h)
    · exact q_call2 (F := (Fq.num (((powM a i m) * (powM a j m)) % m)).P) (G := (Fq.num (powM a (i + j) m)).P) hp (free_of rfl) (gq_some rfl rfl (by simp) rfl (fun v w h => h)) (enq_Cmp) (sq_in 8 rfl rfl (by simp) rfl (fun v w h => h)) (sq_in 10 rfl rfl (by simp) rfl (fun v w h => h)) (fun v v' w h h' => exCmp h h')
    · exact q_one (F := fun v _ => v = .int .i64 (cmpI (((powM a i m) * (powM a j m)) % m) (powM a (i + j) m))) hp (free_of rfl) (gq_some rfl rfl (by simp) rfl (fun v w h => h)) (sq_in 11 rfl rfl (by simp) rfl (fun v w h => h)) (fun ρ w hc h => ⟨.bool true, by simp [execOp, go_sem, h, hc, TR.out], rfl⟩)
    · exact q_two (F := fun v _ => v = .bool true) (G := fun v _ => v = .bool true) hp (free_of rfl) trivial (sq_in 7 rfl rfl (by simp) rfl (fun v w h => h)) (sq_in 12 rfl rfl (by simp) rfl (fun v w h => h)) (fun ρ w hc h h' => ⟨_, by simp [execOp, go_sem, h, h'], rfl⟩)
    · exact q_move hp (free_of rfl) trivial (sq_in 13 rfl rfl (by simp) rfl (fun v w h => h))
    · exact q_move hp (free_of rfl) (gq_some rfl rfl (by simp) rfl (fun v w h => h)) (sq_out rfl rfl (fun _ _ => rfl))
    · exact q_two (F := fun v _ => v = .bool true) (G := fun v _ => v = .bool true) hp (free_of rfl) trivial (sq_in 14 rfl rfl (by simp) rfl (fun v w h => h)) (sq_in 15 rfl rfl (by simp) rfl (fun v w h => h)) (fun ρ w hc h h' => ⟨_, by simp [execOp, go_sem, h, h'], rfl⟩)
    · exact q_assign hp (free_of rfl) trivial (sq_in 16 rfl rfl (by simp) rfl (fun v w h => h))
    intro L vs w30 nb hL hC hn E30
    have e0 : vs 0 = .pointer (some ⟨b18_16, 2, none⟩) := hC 0 (by simp)
    have e1 : vs 1 = .int .i64 0 := hC 1 (by simp)
    have e2 : vs 2 = .bool true := hC 2 (by simp)
    have e3 : vs 3 = .bool true := hC 3 (by simp)
    have e4 : vs 4 = .int .i64 0 := hC 4 (by simp)
    have e5 : vs 5 = .bool true := hC 5 (by simp)
    have e6 : vs 6 = .bool true := hC 6 (by simp)
    have e7 : vs 7 = .bool true := hC 7 (by simp)
    have e9 : vs 9 = .pointer (some ⟨b18_16, 0, none⟩) := hC 9 (by simp)
    have e11 : vs 11 = .int .i64 (cmpI (((powM a i m) * (powM a j m)) % m) (powM a (i + j) m)) := hC 11 (by simp)
    have e12 : vs 12 = .bool true := hC 12 (by simp)
    have e13 : vs 13 = .bool true := hC 13 (by simp)
    have e14 : vs 14 = .bool true := hC 14 (by simp)
    have e15 : vs 15 = .bool true := hC 15 (by simp)
    have e16 : vs 16 = .bool true := hC 16 (by simp)
    have e17 : vs 17 = .bool true := hC 17 (by simp)
    have E : Fr w [(b29_10, 2, Fq.num (((powM a i m) * (powM a j m)) % m)), (b24_6, 2, Fq.num ((1) % m)), (b22_9, 2, Fq.num ((a * (bezU a m)) % m)), (b18_14, 3, Fq.got (powM a i m) 0), (b18_15, 3, Fq.got (powM a j m) 0), (b18_16, 3, Fq.got (powM a (i + j) m) 0), (b14_8, 2, Fq.num i), (b14_9, 2, Fq.num j), (b10_3, 3, Fq.got (bezU a m) 0), (b8_7, 2, Fq.num a), (b8_8, 2, Fq.num m), (b3, 2, Fq.is (.agg #[.int .i16 i, .int .i16 j])), (b2, 2, Fq.raw n2 a2 k2 c2 xs2), (b1, 2, Fq.raw n1 a1 k1 c1 xs1)] w30 := E30
    rw [lay_all hL]
    simp only [putAll, dstOf, List.length_cons, List.length_nil, Nat.zero_add, Nat.reduceAdd, List.getElem?_toArray, List.getElem?_cons_zero, List.getElem?_cons_succ, Option.bind_some, Act.put, List.setIfInBounds_toArray, List.set_cons_succ, List.set_cons_zero]
    rw [e0, e1, e2, e3, e4, e5, e6, e7, e9, e11, e12, e13, e14, e15, e16, e17]
    generalize vs 8 = u30_8
    generalize vs 10 = u30_10
    clear e0 e1 e2 e3 e4 e5 e6 e7 e9 e11 e12 e13 e14 e15 e16 e17 hC hn E30 hL vs L nb
    clear TR PM NM HM HG
    clear B6 B7 B9 B11 B15 B16 B17 B20 B21 B23 B27 B28 Ba Bb hT BM BI BJ
    go_wp2
    refine bodyPost_ret (v := .bool true) ?_ rfl ⟨rfl, E.below⟩
    simp [results, Tryd.results3, go_sem]
  · by_cases hij : 0 ≤ i ∧ 0 ≤ j
    · have TR : Hid (cmpI (((powM a i m) * (powM a j m)) % m) (powM a (i + j) m) = 0) := by show _ = _; rw [cmpI_eq0]; exact powM_add PM.out (.inr hij)
      have OI := hidd hij.1
      have OJ := hidd hij.2
      have OS : Hid (0 ≤ i + j) := by show _ ≤ _; omega
      clear hij
      have TG : Hid (¬ cmpI (Int.gcd a m : Int) (1) = 0) := by
        show ¬ _ = _
        rw [cmpI_eq0]; omega
      have HG := hidd hg
      clear hg
      go_upto_region 5 with (fail)
      refine region_fr (C := [Fq.num a, Fq.num m, Fq.got 0 4, Fq.any, Fq.any]) (ks := [none, none, none, none, none]) (new := [⟨3, 4, 3, Fq.got 0 0, Fq.got 0 4, none⟩]) E rfl (by kernel_rfl) rfl rfl (fun hp => ⟨?_, ?_, ?_, ?_, ?_, trivial⟩) ?_
      · exact q_loadInt (off := 0) hp (free_of rfl) trivial (List.mem_iff_getElem?.2 ⟨0, rfl⟩) (.inl rfl) (Nat.le_of_ble_eq_true rfl) (sq_out rfl rfl (fun _ _ => rfl)) (fun us w hl h => ld_num hl h)
      · exact q_loadInt (off := 0) hp (free_of rfl) trivial (List.mem_iff_getElem?.2 ⟨1, rfl⟩) (.inl rfl) (Nat.le_of_ble_eq_true rfl) (sq_out rfl rfl (fun _ _ => rfl)) (fun us w hl h => ld_num hl h)
      · exact q_call2 (F := (Fq.num a).P) (G := (Fq.num m).P) hp (free_of rfl) trivial (enq_V_inv) (sq_in 0 rfl rfl (by simp) rfl (fun v w h => h)) (sq_in 1 rfl rfl (by simp) rfl (fun v w h => h)) (fun v v' w h h' => exVInvN h h' (Int.lt_of_lt_of_le Ba.out (pw_le (by omega))) (Int.lt_of_lt_of_le BM.out (pw_le (by omega))) PM.out HG.out)
      · exact q_allocGot hp (List.mem_iff_getElem?.2 ⟨0, rfl⟩) rfl rfl rfl rfl (Nat.ne_of_beq_eq_false rfl) (fun _ _ => trivial) (old_ne rfl) (newk_ne rfl) (fun w => Got.zero w)
      · exact q_storeNewGot hp (List.mem_iff_getElem?.2 ⟨0, rfl⟩) rfl rfl rfl (own_ptr rfl rfl (by simp) rfl) (sq_in 2 rfl rfl (by simp) rfl (fun v w h => h.partsV)) (fun _ _ => trivial) (old_ne rfl) (newi_ne rfl)
      intro L vs w31 nb hL hC hn E31
      have e3 : vs 3 = .pointer (some ⟨nb 3, 0, none⟩) := hn _ (List.mem_iff_getElem?.2 ⟨0, rfl⟩)
      have E : Fr w [(nb 3, 3, Fq.got 0 4), (b8_7, 2, Fq.num a), (b8_8, 2, Fq.num m), (b3, 2, Fq.is (.agg #[.int .i16 i, .int .i16 j])), (b2, 2, Fq.raw n2 a2 k2 c2 xs2), (b1, 2, Fq.raw n1 a1 k1 c1 xs1)] w31 := E31
      rw [lay_all hL]
      simp only [putAll, dstOf, List.length_cons, List.length_nil, Nat.zero_add, Nat.reduceAdd, List.getElem?_toArray, List.getElem?_cons_zero, List.getElem?_cons_succ, Option.bind_some, Act.put, List.setIfInBounds_toArray, List.set_cons_succ, List.set_cons_zero]
      rw [e3]
      generalize nb 3 = b31_3 at E ⊢
      generalize vs 0 = u31_0
      generalize vs 1 = u31_1
      generalize vs 2 = u31_2
      clear e3 hC hn E31 hL vs L nb
      go_upto_region 6 with (fail)
      have B32 : Hid (ab ((Int.gcd a m : Int)) < pw 4) := ab_gcdB Ba.out BM.out (by omega) (by omega)
      refine region_fr (C := [Fq.num a, Fq.num m, Fq.num (Int.gcd a m : Int), Fq.num (1), Fq.is (.int .i64 (cmpI (Int.gcd a m : Int) (1))), Fq.is (.bool false), Fq.is (.bool false)]) (ks := [none, none, none, none, none, none]) (new := []) E rfl (by kernel_rfl) rfl rfl (fun hp => ⟨?_, ?_, ?_, ?_, ?_, ?_, ?_, trivial⟩) ?_
      · exact q_loadInt (off := 0) hp (free_of rfl) trivial (List.mem_iff_getElem?.2 ⟨1, rfl⟩) (.inl rfl) (Nat.le_of_ble_eq_true rfl) (sq_out rfl rfl (fun _ _ => rfl)) (fun us w hl h => ld_num hl h)
      · exact q_loadInt (off := 0) hp (free_of rfl) trivial (List.mem_iff_getElem?.2 ⟨2, rfl⟩) (.inl rfl) (Nat.le_of_ble_eq_true rfl) (sq_out rfl rfl (fun _ _ => rfl)) (fun us w hl h => ld_num hl h)
      · exact q_call2 (F := (Fq.num a).P) (G := (Fq.num m).P) hp (free_of rfl) trivial (enq_Gcd) (sq_in 0 rfl rfl (by simp) rfl (fun v w h => h)) (sq_in 1 rfl rfl (by simp) rfl (fun v w h => h)) (fun v v' w h h' => exK (GcdV h h') B32.out (by omega))
      · exact q_call1 (F := (Fq.is (.int .i64 1)).P) hp (free_of rfl) trivial (enq_V_of) (sq_const (fun _ => rfl)) (fun v w h => (by subst h; exact exVOf (by omega)))
      · exact q_call2 (F := (Fq.num (Int.gcd a m : Int)).P) (G := (Fq.num (1)).P) hp (free_of rfl) trivial (enq_Cmp) (sq_in 2 rfl rfl (by simp) rfl (fun v w h => h)) (sq_in 3 rfl rfl (by simp) rfl (fun v w h => h)) (fun v v' w h h' => exCmp h h')
      · exact q_one (F := fun v _ => v = .int .i64 (cmpI (Int.gcd a m : Int) (1))) hp (free_of rfl) trivial (sq_in 4 rfl rfl (by simp) rfl (fun v w h => h)) (fun ρ w hc h => ⟨.bool false, by simp [execOp, go_sem, h, hc, TG.out], rfl⟩)
      · exact q_assign hp (free_of rfl) trivial (sq_in 5 rfl rfl (by simp) rfl (fun v w h => h))
      intro L vs w33 nb hL hC hn E33
      have e4 : vs 4 = .int .i64 (cmpI (Int.gcd a m : Int) (1)) := hC 4 (by simp)
      have e5 : vs 5 = .bool false := hC 5 (by simp)
      have e6 : vs 6 = .bool false := hC 6 (by simp)
      have E : Fr w [(b31_3, 3, Fq.got 0 4), (b8_7, 2, Fq.num a), (b8_8, 2, Fq.num m), (b3, 2, Fq.is (.agg #[.int .i16 i, .int .i16 j])), (b2, 2, Fq.raw n2 a2 k2 c2 xs2), (b1, 2, Fq.raw n1 a1 k1 c1 xs1)] w33 := E33
      rw [lay_all hL]
      simp only [putAll, dstOf, List.length_cons, List.length_nil, Nat.zero_add, Nat.reduceAdd, List.getElem?_toArray, List.getElem?_cons_zero, List.getElem?_cons_succ, Option.bind_some, Act.put, List.setIfInBounds_toArray, List.set_cons_succ, List.set_cons_zero]
      rw [e4, e5, e6]
      generalize vs 0 = u33_0
      generalize vs 1 = u33_1
      generalize vs 2 = u33_2
      generalize vs 3 = u33_3
      clear e4 e5 e6 hC hn E33 hL vs L nb
      clear TG
      go_upto_region 7 with (fail)
      refine region_fr (C := [Fq.is (.pointer (some ⟨b31_3, 2, none⟩)), Fq.is (.int .i64 4), Fq.is (.bool false), Fq.is (.bool false), Fq.is (.bool false)]) (ks := [none, none, none, none, none, none]) (new := []) E rfl (by kernel_rfl) rfl rfl (fun hp => ⟨?_, ?_, ?_, ?_, ?_, trivial⟩) ?_
      · exact q_addr (b := b31_3) (off := 0) (off' := 2) hp (free_of rfl) trivial (sq_out rfl rfl (fun _ _ => rfl)) (fun ρ w h => by simp [execOp, go_sem, h]) (fun _ => rfl)
      · exact q_loadErr (r := 4) hp (free_of rfl) trivial (List.mem_iff_getElem?.2 ⟨0, rfl⟩) (.inl rfl) rfl (sq_in 0 rfl rfl (by simp) rfl (fun v w h => h)) (fun us w hl h => ld_got2 hl h) (fun _ => rfl)
      · exact q_one (F := fun v _ => v = .int .i64 4) hp (free_of rfl) trivial (sq_in 1 rfl rfl (by simp) rfl (fun v w h => h)) (fun ρ w hc h => ⟨.bool false, by simp [execOp, go_sem, h, hc], rfl⟩)
      · exact q_move hp (free_of rfl) trivial (sq_out rfl rfl (fun _ _ => rfl))
      · exact q_two (F := fun v _ => v = .bool false) (G := fun v _ => v = .bool false) hp (free_of rfl) trivial (sq_in 2 rfl rfl (by simp) rfl (fun v w h => h)) (sq_in 3 rfl rfl (by simp) rfl (fun v w h => h)) (fun ρ w hc h h' => ⟨.bool false, by simp [execOp, go_sem, h, h'], rfl⟩)
      intro L vs w34 nb hL hC hn E34
      have e0 : vs 0 = .pointer (some ⟨b31_3, 2, none⟩) := hC 0 (by simp)
      have e1 : vs 1 = .int .i64 4 := hC 1 (by simp)
      have e2 : vs 2 = .bool false := hC 2 (by simp)
      have e3 : vs 3 = .bool false := hC 3 (by simp)
      have e4 : vs 4 = .bool false := hC 4 (by simp)
      have E : Fr w [(b31_3, 3, Fq.got 0 4), (b8_7, 2, Fq.num a), (b8_8, 2, Fq.num m), (b3, 2, Fq.is (.agg #[.int .i16 i, .int .i16 j])), (b2, 2, Fq.raw n2 a2 k2 c2 xs2), (b1, 2, Fq.raw n1 a1 k1 c1 xs1)] w34 := E34
      rw [lay_all hL]
      simp only [putAll, dstOf, List.length_cons, List.length_nil, Nat.zero_add, Nat.reduceAdd, List.getElem?_toArray, List.getElem?_cons_zero, List.getElem?_cons_succ, Option.bind_some, Act.put, List.setIfInBounds_toArray, List.set_cons_succ, List.set_cons_zero]
      rw [e0, e1, e2, e3, e4]
      clear e0 e1 e2 e3 e4 hC hn E34 hL vs L nb
      go_upto_region 9 with (fail)
      refine region_fr (C := [Fq.is (.pointer (some ⟨b3, 0, none⟩)), Fq.is (.int .i16 i), Fq.is (.int .i64 i), Fq.num i, Fq.is (.pointer (some ⟨b3, 1, none⟩)), Fq.is (.int .i16 j), Fq.is (.int .i64 j), Fq.num j, Fq.any, Fq.any, Fq.any, Fq.any]) (ks := [none, none, none, none, none, none]) (new := [⟨8, 10, 2, Fq.num 0, Fq.num i, none⟩, ⟨9, 11, 2, Fq.num 0, Fq.num j, none⟩]) E rfl (by kernel_rfl) rfl rfl (fun hp => ⟨?_, ?_, ?_, ?_, ?_, ?_, ?_, ?_, ?_, ?_, ?_, ?_, trivial⟩) ?_
      · exact q_one (F := fun v _ => v = .pointer (some ⟨b3, 0, none⟩)) hp (free_of rfl) trivial (sq_out (s := 5) rfl rfl (fun _ _ => rfl)) (fun ρ w hc h => ⟨.pointer (some ⟨b3, 0, none⟩), by simp [execOp, go_sem, h, hc], rfl⟩)
      · exact q_loadI16 (off := 0) (v := .int .i16 i) hp (free_of rfl) trivial (List.mem_iff_getElem?.2 ⟨3, rfl⟩) (.inl rfl) (Nat.le_of_ble_eq_true rfl) (sq_in 0 rfl rfl (by simp) rfl (fun v w h => h)) (fun us w hl h => ⟨ld_i16s0 hl h, rfl⟩)
      · exact q_one (F := fun v _ => v = .int .i16 i) hp (free_of rfl) trivial (sq_in 1 rfl rfl (by simp) rfl (fun v w h => h)) (fun ρ w hc h => ⟨.int .i64 i, by simp [execOp, go_sem, h, WI.out], rfl⟩)
      · exact q_call1 (F := (Fq.is (.int .i64 i)).P) hp (free_of rfl) trivial (enq_V_of) (sq_in 2 rfl rfl (by simp) rfl (fun v w h => h)) (fun v w h => (by subst h; exact exVOf RI.out))
      · exact q_one (F := fun v _ => v = .pointer (some ⟨b3, 0, none⟩)) hp (free_of rfl) trivial (sq_out (s := 5) rfl rfl (fun _ _ => rfl)) (fun ρ w hc h => ⟨.pointer (some ⟨b3, 1, none⟩), by simp [execOp, go_sem, h, hc], rfl⟩)
      · exact q_loadI16 (off := 1) (v := .int .i16 j) hp (free_of rfl) trivial (List.mem_iff_getElem?.2 ⟨3, rfl⟩) (.inl rfl) (Nat.le_of_ble_eq_true rfl) (sq_in 4 rfl rfl (by simp) rfl (fun v w h => h)) (fun us w hl h => ⟨ld_i16s1 hl h, rfl⟩)
      · exact q_one (F := fun v _ => v = .int .i16 j) hp (free_of rfl) trivial (sq_in 5 rfl rfl (by simp) rfl (fun v w h => h)) (fun ρ w hc h => ⟨.int .i64 j, by simp [execOp, go_sem, h, WJ.out], rfl⟩)
      · exact q_call1 (F := (Fq.is (.int .i64 j)).P) hp (free_of rfl) trivial (enq_V_of) (sq_in 6 rfl rfl (by simp) rfl (fun v w h => h)) (fun v w h => (by subst h; exact exVOf RJ.out))
      · exact q_allocInt hp (List.mem_iff_getElem?.2 ⟨0, rfl⟩) rfl rfl rfl rfl (Nat.ne_of_beq_eq_false rfl) (fun _ _ => trivial) (old_ne rfl) (newk_ne rfl) (fun w => Num.zero w)
      · exact q_allocInt hp (List.mem_iff_getElem?.2 ⟨1, rfl⟩) rfl rfl rfl rfl (Nat.ne_of_beq_eq_false rfl) (fun _ _ => trivial) (old_ne rfl) (newk_ne rfl) (fun w => Num.zero w)
      · exact q_storeNewInt hp (List.mem_iff_getElem?.2 ⟨0, rfl⟩) rfl rfl rfl (own_ptr rfl rfl (by simp) rfl) (sq_in 3 rfl rfl (by simp) rfl (fun v w h => intV_num h)) (fun _ _ => trivial) (old_ne rfl) (newi_ne rfl)
      · exact q_storeNewInt hp (List.mem_iff_getElem?.2 ⟨1, rfl⟩) rfl rfl rfl (own_ptr rfl rfl (by simp) rfl) (sq_in 7 rfl rfl (by simp) rfl (fun v w h => intV_num h)) (fun _ _ => trivial) (old_ne rfl) (newi_ne rfl)
      intro L vs w35 nb hL hC hn E35
      have e0 : vs 0 = .pointer (some ⟨b3, 0, none⟩) := hC 0 (by simp)
      have e1 : vs 1 = .int .i16 i := hC 1 (by simp)
      have e2 : vs 2 = .int .i64 i := hC 2 (by simp)
      have e4 : vs 4 = .pointer (some ⟨b3, 1, none⟩) := hC 4 (by simp)
      have e5 : vs 5 = .int .i16 j := hC 5 (by simp)
      have e6 : vs 6 = .int .i64 j := hC 6 (by simp)
      have e8 : vs 8 = .pointer (some ⟨nb 8, 0, none⟩) := hn _ (List.mem_iff_getElem?.2 ⟨0, rfl⟩)
      have e9 : vs 9 = .pointer (some ⟨nb 9, 0, none⟩) := hn _ (List.mem_iff_getElem?.2 ⟨1, rfl⟩)
      have E : Fr w [(nb 8, 2, Fq.num i), (nb 9, 2, Fq.num j), (b31_3, 3, Fq.got 0 4), (b8_7, 2, Fq.num a), (b8_8, 2, Fq.num m), (b3, 2, Fq.is (.agg #[.int .i16 i, .int .i16 j])), (b2, 2, Fq.raw n2 a2 k2 c2 xs2), (b1, 2, Fq.raw n1 a1 k1 c1 xs1)] w35 := E35
      rw [lay_all hL]
      simp only [putAll, dstOf, List.length_cons, List.length_nil, Nat.zero_add, Nat.reduceAdd, List.getElem?_toArray, List.getElem?_cons_zero, List.getElem?_cons_succ, Option.bind_some, Act.put, List.setIfInBounds_toArray, List.set_cons_succ, List.set_cons_zero]
      rw [e0, e1, e2, e4, e5, e6, e8, e9]
      generalize nb 8 = b35_8 at E ⊢
      generalize nb 9 = b35_9 at E ⊢
      generalize vs 3 = u35_3
      generalize vs 7 = u35_7
      clear e0 e1 e2 e4 e5 e6 e8 e9 hC hn E35 hL vs L nb
      clear WI WJ RI RJ
      go_upto_region 10 with (fail)
      have B36 : Hid (ab ((powM a i m)) < pw 4) := powM_ab PM.out BM.out
      have B37 : Hid (ab ((powM a j m)) < pw 4) := powM_ab PM.out BM.out
      have B38 : Hid (ab ((powM a (i + j) m)) < pw 4) := powM_ab PM.out BM.out
      refine region_fr (C := [Fq.num a, Fq.num i, Fq.num m, Fq.got (powM a i m) 0, Fq.num a, Fq.num j, Fq.num m, Fq.got (powM a j m) 0, Fq.num a, Fq.num i, Fq.num j, Fq.num (i + j), Fq.num m, Fq.got (powM a (i + j) m) 0, Fq.any, Fq.any, Fq.any, Fq.any, Fq.any, Fq.any]) (ks := [none, none, none, none, none, none, none, none]) (new := [⟨14, 17, 3, Fq.got 0 0, Fq.got (powM a i m) 0, none⟩, ⟨15, 18, 3, Fq.got 0 0, Fq.got (powM a j m) 0, none⟩, ⟨16, 19, 3, Fq.got 0 0, Fq.got (powM a (i + j) m) 0, none⟩]) E rfl (by kernel_rfl) rfl rfl (fun hp => ⟨?_, ?_, ?_, ?_, ?_, ?_, ?_, ?_, ?_, ?_, ?_, ?_, ?_, ?_, ?_, ?_, ?_, ?_, ?_, ?_, trivial⟩) ?_
      · exact q_loadInt (off := 0) hp (free_of rfl) trivial (List.mem_iff_getElem?.2 ⟨3, rfl⟩) (.inl rfl) (Nat.le_of_ble_eq_true rfl) (sq_out rfl rfl (fun _ _ => rfl)) (fun us w hl h => ld_num hl h)
      · exact q_loadInt (off := 0) hp (free_of rfl) trivial (List.mem_iff_getElem?.2 ⟨0, rfl⟩) (.inl rfl) (Nat.le_of_ble_eq_true rfl) (sq_out rfl rfl (fun _ _ => rfl)) (fun us w hl h => ld_num hl h)
      · exact q_loadInt (off := 0) hp (free_of rfl) trivial (List.mem_iff_getElem?.2 ⟨4, rfl⟩) (.inl rfl) (Nat.le_of_ble_eq_true rfl) (sq_out rfl rfl (fun _ _ => rfl)) (fun us w hl h => ld_num hl h)
      · exact q_call3 (F := (Fq.num a).P) (G := (Fq.num i).P) (F3 := (Fq.num m).P) hp (free_of rfl) trivial (enq_V_pow) (sq_in 0 rfl rfl (by simp) rfl (fun v w h => h)) (sq_in 1 rfl rfl (by simp) rfl (fun v w h => h)) (sq_in 2 rfl rfl (by simp) rfl (fun v w h => h)) (fun v v' u w h h' g => exVPowOk h h' g (Int.lt_of_lt_of_le Ba.out (pw_le (by omega))) (Int.lt_of_lt_of_le BI.out (pw_le (by omega))) (Int.lt_of_lt_of_le BM.out (pw_le (by omega))) PM.out (.inr OI.out))
      · exact q_loadInt (off := 0) hp (free_of rfl) trivial (List.mem_iff_getElem?.2 ⟨3, rfl⟩) (.inl rfl) (Nat.le_of_ble_eq_true rfl) (sq_out rfl rfl (fun _ _ => rfl)) (fun us w hl h => ld_num hl h)
      · exact q_loadInt (off := 0) hp (free_of rfl) trivial (List.mem_iff_getElem?.2 ⟨1, rfl⟩) (.inl rfl) (Nat.le_of_ble_eq_true rfl) (sq_out rfl rfl (fun _ _ => rfl)) (fun us w hl h => ld_num hl h)
      · exact q_loadInt (off := 0) hp (free_of rfl) trivial (List.mem_iff_getElem?.2 ⟨4, rfl⟩) (.inl rfl) (Nat.le_of_ble_eq_true rfl) (sq_out rfl rfl (fun _ _ => rfl)) (fun us w hl h => ld_num hl h)
      · exact q_call3 (F := (Fq.num a).P) (G := (Fq.num j).P) (F3 := (Fq.num m).P) hp (free_of rfl) trivial (enq_V_pow) (sq_in 4 rfl rfl (by simp) rfl (fun v w h => h)) (sq_in 5 rfl rfl (by simp) rfl (fun v w h => h)) (sq_in 6 rfl rfl (by simp) rfl (fun v w h => h)) (fun v v' u w h h' g => exVPowOk h h' g (Int.lt_of_lt_of_le Ba.out (pw_le (by omega))) (Int.lt_of_lt_of_le BJ.out (pw_le (by omega))) (Int.lt_of_lt_of_le BM.out (pw_le (by omega))) PM.out (.inr OJ.out))
      · exact q_loadInt (off := 0) hp (free_of rfl) trivial (List.mem_iff_getElem?.2 ⟨3, rfl⟩) (.inl rfl) (Nat.le_of_ble_eq_true rfl) (sq_out rfl rfl (fun _ _ => rfl)) (fun us w hl h => ld_num hl h)
      · exact q_loadInt (off := 0) hp (free_of rfl) trivial (List.mem_iff_getElem?.2 ⟨0, rfl⟩) (.inl rfl) (Nat.le_of_ble_eq_true rfl) (sq_out rfl rfl (fun _ _ => rfl)) (fun us w hl h => ld_num hl h)
      · exact q_loadInt (off := 0) hp (free_of rfl) trivial (List.mem_iff_getElem?.2 ⟨1, rfl⟩) (.inl rfl) (Nat.le_of_ble_eq_true rfl) (sq_out rfl rfl (fun _ _ => rfl)) (fun us w hl h => ld_num hl h)
      · exact q_call2 (F := (Fq.num i).P) (G := (Fq.num j).P) hp (free_of rfl) trivial (enq_Add) (sq_in 9 rfl rfl (by simp) rfl (fun v w h => h)) (sq_in 10 rfl rfl (by simp) rfl (fun v w h => h)) (fun v v' w h h' => exK (AddV h h') (ab_addB (m := 4) BI.out BJ.out (by omega) (by omega)) (by omega))
      · exact q_loadInt (off := 0) hp (free_of rfl) trivial (List.mem_iff_getElem?.2 ⟨4, rfl⟩) (.inl rfl) (Nat.le_of_ble_eq_true rfl) (sq_out rfl rfl (fun _ _ => rfl)) (fun us w hl h => ld_num hl h)
      · exact q_call3 (F := (Fq.num a).P) (G := (Fq.num (i + j)).P) (F3 := (Fq.num m).P) hp (free_of rfl) trivial (enq_V_pow) (sq_in 8 rfl rfl (by simp) rfl (fun v w h => h)) (sq_in 11 rfl rfl (by simp) rfl (fun v w h => h)) (sq_in 12 rfl rfl (by simp) rfl (fun v w h => h)) (fun v v' u w h h' g => exVPowOk h h' g (Int.lt_of_lt_of_le Ba.out (pw_le (by omega))) (Int.lt_of_lt_of_le (ab_addB (m := 4) BI.out BJ.out (by omega) (by omega)) (pw_le (by omega))) (Int.lt_of_lt_of_le BM.out (pw_le (by omega))) PM.out (.inr OS.out))
      · exact q_allocGot hp (List.mem_iff_getElem?.2 ⟨0, rfl⟩) rfl rfl rfl rfl (Nat.ne_of_beq_eq_false rfl) (fun _ _ => trivial) (old_ne rfl) (newk_ne rfl) (fun w => Got.zero w)
      · exact q_allocGot hp (List.mem_iff_getElem?.2 ⟨1, rfl⟩) rfl rfl rfl rfl (Nat.ne_of_beq_eq_false rfl) (fun _ _ => trivial) (old_ne rfl) (newk_ne rfl) (fun w => Got.zero w)
      · exact q_allocGot hp (List.mem_iff_getElem?.2 ⟨2, rfl⟩) rfl rfl rfl rfl (Nat.ne_of_beq_eq_false rfl) (fun _ _ => trivial) (old_ne rfl) (newk_ne rfl) (fun w => Got.zero w)
      · exact q_storeNewGot hp (List.mem_iff_getElem?.2 ⟨0, rfl⟩) rfl rfl rfl (own_ptr rfl rfl (by simp) rfl) (sq_in 3 rfl rfl (by simp) rfl (fun v w h => h.partsV)) (fun _ _ => trivial) (old_ne rfl) (newi_ne rfl)
      · exact q_storeNewGot hp (List.mem_iff_getElem?.2 ⟨1, rfl⟩) rfl rfl rfl (own_ptr rfl rfl (by simp) rfl) (sq_in 7 rfl rfl (by simp) rfl (fun v w h => h.partsV)) (fun _ _ => trivial) (old_ne rfl) (newi_ne rfl)
      · exact q_storeNewGot hp (List.mem_iff_getElem?.2 ⟨2, rfl⟩) rfl rfl rfl (own_ptr rfl rfl (by simp) rfl) (sq_in 13 rfl rfl (by simp) rfl (fun v w h => h.partsV)) (fun _ _ => trivial) (old_ne rfl) (newi_ne rfl)
      intro L vs w39 nb hL hC hn E39
      have e14 : vs 14 = .pointer (some ⟨nb 14, 0, none⟩) := hn _ (List.mem_iff_getElem?.2 ⟨0, rfl⟩)
      have e15 : vs 15 = .pointer (some ⟨nb 15, 0, none⟩) := hn _ (List.mem_iff_getElem?.2 ⟨1, rfl⟩)
      have e16 : vs 16 = .pointer (some ⟨nb 16, 0, none⟩) := hn _ (List.mem_iff_getElem?.2 ⟨2, rfl⟩)
      have E : Fr w [(nb 14, 3, Fq.got (powM a i m) 0), (nb 15, 3, Fq.got (powM a j m) 0), (nb 16, 3, Fq.got (powM a (i + j) m) 0), (b35_8, 2, Fq.num i), (b35_9, 2, Fq.num j), (b31_3, 3, Fq.got 0 4), (b8_7, 2, Fq.num a), (b8_8, 2, Fq.num m), (b3, 2, Fq.is (.agg #[.int .i16 i, .int .i16 j])), (b2, 2, Fq.raw n2 a2 k2 c2 xs2), (b1, 2, Fq.raw n1 a1 k1 c1 xs1)] w39 := E39
      rw [lay_all hL]
      simp only [putAll, dstOf, List.length_cons, List.length_nil, Nat.zero_add, Nat.reduceAdd, List.getElem?_toArray, List.getElem?_cons_zero, List.getElem?_cons_succ, Option.bind_some, Act.put, List.setIfInBounds_toArray, List.set_cons_succ, List.set_cons_zero]
      rw [e14, e15, e16]
      generalize nb 14 = b39_14 at E ⊢
      generalize nb 15 = b39_15 at E ⊢
      generalize nb 16 = b39_16 at E ⊢
      generalize vs 0 = u39_0
      generalize vs 1 = u39_1
      generalize vs 2 = u39_2
      generalize vs 3 = u39_3
      generalize vs 4 = u39_4
      generalize vs 5 = u39_5
      generalize vs 6 = u39_6
      generalize vs 7 = u39_7
      generalize vs 8 = u39_8
      generalize vs 9 = u39_9
      generalize vs 10 = u39_10
      generalize vs 11 = u39_11
      generalize vs 12 = u39_12
      generalize vs 13 = u39_13
      clear e14 e15 e16 hC hn E39 hL vs L nb
      go_upto_region 11 with (fail)
      refine region_fr (C := [Fq.is (.bool false)]) (ks := [none, none, none, none, none, none, none, none, none, none, none]) (new := []) E rfl (by kernel_rfl) rfl rfl (fun hp => ⟨?_, trivial⟩) ?_
      · exact q_move hp (free_of rfl) trivial (sq_out rfl rfl (fun _ _ => rfl))
      intro L vs w40 nb hL hC hn E40
      have e0 : vs 0 = .bool false := hC 0 (by simp)
      have E : Fr w [(b39_14, 3, Fq.got (powM a i m) 0), (b39_15, 3, Fq.got (powM a j m) 0), (b39_16, 3, Fq.got (powM a (i + j) m) 0), (b35_8, 2, Fq.num i), (b35_9, 2, Fq.num j), (b31_3, 3, Fq.got 0 4), (b8_7, 2, Fq.num a), (b8_8, 2, Fq.num m), (b3, 2, Fq.is (.agg #[.int .i16 i, .int .i16 j])), (b2, 2, Fq.raw n2 a2 k2 c2 xs2), (b1, 2, Fq.raw n1 a1 k1 c1 xs1)] w40 := E40
      rw [lay_all hL]
      simp only [putAll, dstOf, List.length_cons, List.length_nil, Nat.zero_add, List.getElem?_toArray, List.getElem?_cons_zero, Option.bind_some, Act.put, List.setIfInBounds_toArray, List.set_cons_succ, List.set_cons_zero]
      rw [e0]
      clear e0 hC hn E40 hL vs L nb
      clear OI OJ OS
      go_upto_region 16 with (fail)
      refine region_fr (C := [Fq.is (.pointer (some ⟨b39_14, 2, none⟩)), Fq.is (.int .i64 0), Fq.is (.bool false), Fq.is (.bool false), Fq.is (.pointer (some ⟨b39_15, 2, none⟩)), Fq.is (.int .i64 0), Fq.is (.bool false), Fq.is (.bool false)]) (ks := [none, none, none, none, none, none, none, none, none, none, none]) (new := []) E rfl (by kernel_rfl) rfl rfl (fun hp => ⟨?_, ?_, ?_, ?_, ?_, ?_, ?_, ?_, trivial⟩) ?_
      · exact q_addr (b := b39_14) (off := 0) (off' := 2) hp (free_of rfl) trivial (sq_out rfl rfl (fun _ _ => rfl)) (fun ρ w h => by simp [execOp, go_sem, h]) (fun _ => rfl)
      · exact q_loadErr (r := 0) hp (free_of rfl) trivial (List.mem_iff_getElem?.2 ⟨0, rfl⟩) (.inl rfl) rfl (sq_in 0 rfl rfl (by simp) rfl (fun v w h => h)) (fun us w hl h => ld_got2 hl h) (fun _ => rfl)
      · exact q_one (F := fun v _ => v = .int .i64 0) hp (free_of rfl) trivial (sq_in 1 rfl rfl (by simp) rfl (fun v w h => h)) (fun ρ w hc h => ⟨.bool false, by simp [execOp, go_sem, h, hc], rfl⟩)
      · exact q_move hp (free_of rfl) trivial (sq_in 2 rfl rfl (by simp) rfl (fun v w h => h))
      · exact q_addr (b := b39_15) (off := 0) (off' := 2) hp (free_of rfl) (gq_some rfl rfl (by simp) rfl (fun v w h => h)) (sq_out rfl rfl (fun _ _ => rfl)) (fun ρ w h => by simp [execOp, go_sem, h]) (fun _ => rfl)
      · exact q_loadErr (r := 0) hp (free_of rfl) (gq_some rfl rfl (by simp) rfl (fun v w h => h)) (List.mem_iff_getElem?.2 ⟨1, rfl⟩) (.inl rfl) rfl (sq_in 4 rfl rfl (by simp) rfl (fun v w h => h)) (fun us w hl h => ld_got2 hl h) (fun _ => rfl)
      · exact q_one (F := fun v _ => v = .int .i64 0) hp (free_of rfl) (gq_some rfl rfl (by simp) rfl (fun v w h => h)) (sq_in 5 rfl rfl (by simp) rfl (fun v w h => h)) (fun ρ w hc h => ⟨.bool false, by simp [execOp, go_sem, h, hc], rfl⟩)
      · exact q_two (F := fun v _ => v = .bool false) (G := fun v _ => v = .bool false) hp (free_of rfl) trivial (sq_in 3 rfl rfl (by simp) rfl (fun v w h => h)) (sq_in 6 rfl rfl (by simp) rfl (fun v w h => h)) (fun ρ w hc h h' => ⟨_, by simp [execOp, go_sem, h, h'], rfl⟩)
      intro L vs w41 nb hL hC hn E41
      have e0 : vs 0 = .pointer (some ⟨b39_14, 2, none⟩) := hC 0 (by simp)
      have e1 : vs 1 = .int .i64 0 := hC 1 (by simp)
      have e2 : vs 2 = .bool false := hC 2 (by simp)
      have e3 : vs 3 = .bool false := hC 3 (by simp)
      have e4 : vs 4 = .pointer (some ⟨b39_15, 2, none⟩) := hC 4 (by simp)
      have e5 : vs 5 = .int .i64 0 := hC 5 (by simp)
      have e6 : vs 6 = .bool false := hC 6 (by simp)
      have e7 : vs 7 = .bool false := hC 7 (by simp)
      have E : Fr w [(b39_14, 3, Fq.got (powM a i m) 0), (b39_15, 3, Fq.got (powM a j m) 0), (b39_16, 3, Fq.got (powM a (i + j) m) 0), (b35_8, 2, Fq.num i), (b35_9, 2, Fq.num j), (b31_3, 3, Fq.got 0 4), (b8_7, 2, Fq.num a), (b8_8, 2, Fq.num m), (b3, 2, Fq.is (.agg #[.int .i16 i, .int .i16 j])), (b2, 2, Fq.raw n2 a2 k2 c2 xs2), (b1, 2, Fq.raw n1 a1 k1 c1 xs1)] w41 := E41
      rw [lay_all hL]
      simp only [putAll, dstOf, List.length_cons, List.length_nil, Nat.zero_add, Nat.reduceAdd, List.getElem?_toArray, List.getElem?_cons_zero, List.getElem?_cons_succ, Option.bind_some, Act.put, List.setIfInBounds_toArray, List.set_cons_succ, List.set_cons_zero]
      rw [e0, e1, e2, e3, e4, e5, e6, e7]
      clear e0 e1 e2 e3 e4 e5 e6 e7 hC hn E41 hL vs L nb
      go_upto_region 18 with (fail)
      have B42 : Hid (ab (((powM a i m) * (powM a j m))) < pw 8) := ab_mulM B36.out B37.out (by omega)
      have B43 : Hid (ab ((((powM a i m) * (powM a j m)) % m)) < pw 4) := ab_modB NM.out BM.out
      refine region_fr (C := [Fq.is (.pointer (some ⟨b39_14, 0, none⟩)), Fq.num (powM a i m), Fq.is (.pointer (some ⟨b39_15, 0, none⟩)), Fq.num (powM a j m), Fq.num ((powM a i m) * (powM a j m)), Fq.num m, Fq.tup2 (Fq.num (((powM a i m) * (powM a j m)) % m)) (Fq.is (.int .i64 0)), Fq.tup2 (Fq.num (((powM a i m) * (powM a j m)) % m)) (Fq.is (.int .i64 0)), Fq.num (((powM a i m) * (powM a j m)) % m), Fq.is (.int .i64 0), Fq.any, Fq.any, Fq.is (.int .i64 0)]) (ks := [none, none, none, none, none, none, none, none, none, none, none]) (new := [⟨10, 11, 2, Fq.num 0, Fq.num (((powM a i m) * (powM a j m)) % m), none⟩]) E rfl (by kernel_rfl) rfl rfl (fun hp => ⟨?_, ?_, ?_, ?_, ?_, ?_, ?_, ?_, ?_, ?_, ?_, ?_, ?_, trivial⟩) ?_
      · exact q_addr (b := b39_14) (off := 0) (off' := 0) hp (free_of rfl) trivial (sq_out rfl rfl (fun _ _ => rfl)) (fun ρ w h => by simp [execOp, go_sem, h]) (fun _ => rfl)
      · exact q_loadInt (off := 0) hp (free_of rfl) trivial (List.mem_iff_getElem?.2 ⟨0, rfl⟩) (.inl rfl) (Nat.le_of_ble_eq_true rfl) (sq_in 0 rfl rfl (by simp) rfl (fun v w h => h)) (fun us w hl h => ld_got hl h)
      · exact q_addr (b := b39_15) (off := 0) (off' := 0) hp (free_of rfl) trivial (sq_out rfl rfl (fun _ _ => rfl)) (fun ρ w h => by simp [execOp, go_sem, h]) (fun _ => rfl)
      · exact q_loadInt (off := 0) hp (free_of rfl) trivial (List.mem_iff_getElem?.2 ⟨1, rfl⟩) (.inl rfl) (Nat.le_of_ble_eq_true rfl) (sq_in 2 rfl rfl (by simp) rfl (fun v w h => h)) (fun us w hl h => ld_got hl h)
      · exact q_call2 (F := (Fq.num (powM a i m)).P) (G := (Fq.num (powM a j m)).P) hp (free_of rfl) trivial (enq_Mul) (sq_in 1 rfl rfl (by simp) rfl (fun v w h => h)) (sq_in 3 rfl rfl (by simp) rfl (fun v w h => h)) (fun v v' w h h' => exK (MulV h h') B42.out (by omega))
      · exact q_loadInt (off := 0) hp (free_of rfl) trivial (List.mem_iff_getElem?.2 ⟨7, rfl⟩) (.inl rfl) (Nat.le_of_ble_eq_true rfl) (sq_out rfl rfl (fun _ _ => rfl)) (fun us w hl h => ld_num hl h)
      · exact q_call2 (F := (Fq.num ((powM a i m) * (powM a j m))).P) (G := (Fq.num m).P) hp (free_of rfl) trivial (enq_M_Mod) (sq_in 4 rfl rfl (by simp) rfl (fun v w h => h)) (sq_in 5 rfl rfl (by simp) rfl (fun v w h => h)) (fun v v' w h h' => exModP h h' (Int.lt_of_lt_of_le B42.out (pw_le (by omega))) (Int.lt_of_lt_of_le BM.out (pw_le (by omega))) PM.out)
      · exact q_move hp (free_of rfl) trivial (sq_in 6 rfl rfl (by simp) rfl (fun v w h => h))
      · exact q_extract2 hp (free_of rfl) trivial (sq_in 7 rfl rfl (by simp) rfl (fun v w h => h)) (fun v1 v2 w h1 h2 => ⟨_, rfl, h1⟩)
      · exact q_extract2 hp (free_of rfl) trivial (sq_in 7 rfl rfl (by simp) rfl (fun v w h => h)) (fun v1 v2 w h1 h2 => ⟨_, rfl, h2⟩)
      · exact q_allocInt hp (List.mem_iff_getElem?.2 ⟨0, rfl⟩) rfl rfl rfl rfl (Nat.ne_of_beq_eq_false rfl) (fun _ _ => trivial) (old_ne rfl) (newk_ne rfl) (fun w => Num.zero w)
      · exact q_storeNewInt hp (List.mem_iff_getElem?.2 ⟨0, rfl⟩) rfl rfl rfl (own_ptr rfl rfl (by simp) rfl) (sq_in 8 rfl rfl (by simp) rfl (fun v w h => intV_num h)) (fun _ _ => trivial) (old_ne rfl) (newi_ne rfl)
      · exact q_assign hp (free_of rfl) trivial (sq_in 9 rfl rfl (by simp) rfl (fun v w h => h))
      intro L vs w44 nb hL hC hn E44
      have e0 : vs 0 = .pointer (some ⟨b39_14, 0, none⟩) := hC 0 (by simp)
      have e2 : vs 2 = .pointer (some ⟨b39_15, 0, none⟩) := hC 2 (by simp)
      have e9 : vs 9 = .int .i64 0 := hC 9 (by simp)
      have e12 : vs 12 = .int .i64 0 := hC 12 (by simp)
      have e10 : vs 10 = .pointer (some ⟨nb 10, 0, none⟩) := hn _ (List.mem_iff_getElem?.2 ⟨0, rfl⟩)
      have E : Fr w [(nb 10, 2, Fq.num (((powM a i m) * (powM a j m)) % m)), (b39_14, 3, Fq.got (powM a i m) 0), (b39_15, 3, Fq.got (powM a j m) 0), (b39_16, 3, Fq.got (powM a (i + j) m) 0), (b35_8, 2, Fq.num i), (b35_9, 2, Fq.num j), (b31_3, 3, Fq.got 0 4), (b8_7, 2, Fq.num a), (b8_8, 2, Fq.num m), (b3, 2, Fq.is (.agg #[.int .i16 i, .int .i16 j])), (b2, 2, Fq.raw n2 a2 k2 c2 xs2), (b1, 2, Fq.raw n1 a1 k1 c1 xs1)] w44 := E44
      rw [lay_all hL]
      simp only [putAll, dstOf, List.length_cons, List.length_nil, Nat.zero_add, Nat.reduceAdd, List.getElem?_toArray, List.getElem?_cons_zero, List.getElem?_cons_succ, Option.bind_some, Act.put, List.setIfInBounds_toArray, List.set_cons_succ, List.set_cons_zero]
      rw [e0, e2, e9, e12, e10]
      generalize nb 10 = b44_10 at E ⊢
      generalize vs 1 = u44_1
      generalize vs 3 = u44_3
      generalize vs 4 = u44_4
      generalize vs 5 = u44_5
      generalize vs 6 = u44_6
      generalize vs 7 = u44_7
      generalize vs 8 = u44_8
      clear e0 e2 e9 e12 e10 hC hn E44 hL vs L nb
      go_upto_region 19 with (fail)
      refine region_fr (C := [Fq.is (.pointer (some ⟨b39_16, 2, none⟩)), Fq.is (.int .i64 0), Fq.is (.bool true), Fq.is (.bool true), Fq.is (.int .i64 0), Fq.is (.bool true), Fq.is (.bool true), Fq.is (.bool true), Fq.num (((powM a i m) * (powM a j m)) % m), Fq.is (.pointer (some ⟨b39_16, 0, none⟩)), Fq.num (powM a (i + j) m), Fq.is (.int .i64 (cmpI (((powM a i m) * (powM a j m)) % m) (powM a (i + j) m))), Fq.is (.bool true), Fq.is (.bool true), Fq.is (.bool true), Fq.is (.bool true), Fq.is (.bool true), Fq.is (.bool true)]) (ks := [none, none, none, none, none, none, none, none, none, none, none, none]) (new := []) E rfl (by kernel_rfl) rfl rfl (fun hp => ⟨?_, ?_, ?_, ?_, ?_, ?_, ?_, ?_, ?_, ?_, ?_, ?_, ?_, ?_, ?_, ?_, ?_, ?_, trivial⟩) ?_
      · exact q_addr (b := b39_16) (off := 0) (off' := 2) hp (free_of rfl) trivial (sq_out rfl rfl (fun _ _ => rfl)) (fun ρ w h => by simp [execOp, go_sem, h]) (fun _ => rfl)
      · exact q_loadErr (r := 0) hp (free_of rfl) trivial (List.mem_iff_getElem?.2 ⟨3, rfl⟩) (.inl rfl) rfl (sq_in 0 rfl rfl (by simp) rfl (fun v w h => h)) (fun us w hl h => ld_got2 hl h) (fun _ => rfl)
      · exact q_one (F := fun v _ => v = .int .i64 0) hp (free_of rfl) trivial (sq_in 1 rfl rfl (by simp) rfl (fun v w h => h)) (fun ρ w hc h => ⟨.bool true, by simp [execOp, go_sem, h, hc], rfl⟩)
      · exact q_move hp (free_of rfl) trivial (sq_in 2 rfl rfl (by simp) rfl (fun v w h => h))
      · exact q_move hp (free_of rfl) (gq_some rfl rfl (by simp) rfl (fun v w h => h)) (sq_out rfl rfl (fun _ _ => rfl))
      · exact q_one (F := fun v _ => v = .int .i64 0) hp (free_of rfl) (gq_some rfl rfl (by simp) rfl (fun v w h => h)) (sq_in 4 rfl rfl (by simp) rfl (fun v w h => h)) (fun ρ w hc h => ⟨.bool true, by simp [execOp, go_sem, h, hc], rfl⟩)
      · exact q_two (F := fun v _ => v = .bool true) (G := fun v _ => v = .bool true) hp (free_of rfl) trivial (sq_in 3 rfl rfl (by simp) rfl (fun v w h => h)) (sq_in 5 rfl rfl (by simp) rfl (fun v w h => h)) (fun ρ w hc h h' => ⟨_, by simp [execOp, go_sem, h, h'], rfl⟩)
      · exact q_move hp (free_of rfl) trivial (sq_in 6 rfl rfl (by simp) rfl (fun v w h => h))
      · exact q_loadInt (off := 0) hp (free_of rfl) (gq_some rfl rfl (by simp) rfl (fun v w h => h)) (List.mem_iff_getElem?.2 ⟨0, rfl⟩) (.inl rfl) (Nat.le_of_ble_eq_true rfl) (sq_out rfl rfl (fun _ _ => rfl)) (fun us w hl h => ld_num hl h)
      · exact q_addr (b := b39_16) (off := 0) (off' := 0) hp (free_of rfl) (gq_some rfl rfl (by simp) rfl (fun v w h => h)) (sq_out rfl rfl (fun _ _ => rfl)) (fun ρ w h => by simp [execOp, go_sem, h]) (fun _ => rfl)
      · exact q_loadInt (off := 0) hp (free_of rfl) (gq_some rfl rfl (by simp) rfl (fun v w h => h)) (List.mem_iff_getElem?.2 ⟨3, rfl⟩) (.inl rfl) (Nat.le_of_ble_eq_true rfl) (sq_in 9 rfl rfl (by simp) rfl (fun v w h => h)) (fun us w hl h => ld_got hl h)
      · exact q_call2 (F := (Fq.num (((powM a i m) * (powM a j m)) % m)).P) (G := (Fq.num (powM a (i + j) m)).P) hp (free_of rfl) (gq_some rfl rfl (by simp) rfl (fun v w h => h)) (enq_Cmp) (sq_in 8 rfl rfl (by simp) rfl (fun v w h => h)) (sq_in 10 rfl rfl (by simp) rfl (fun v w h => h)) (fun v v' w h h' => exCmp h h')
      · exact q_one (F := fun v _ => v = .int .i64 (cmpI (((powM a i m) * (powM a j m)) % m) (powM a (i + j) m))) hp (free_of rfl) (gq_some rfl rfl (by simp) rfl (fun v w h => h)) (sq_in 11 rfl rfl (by simp) rfl (fun v w h => h)) (fun ρ w hc h => ⟨.bool true, by simp [execOp, go_sem, h, hc, TR.out], rfl⟩)
      · exact q_two (F := fun v _ => v = .bool true) (G := fun v _ => v = .bool true) hp (free_of rfl) trivial (sq_in 7 rfl rfl (by simp) rfl (fun v w h => h)) (sq_in 12 rfl rfl (by simp) rfl (fun v w h => h)) (fun ρ w hc h h' => ⟨_, by simp [execOp, go_sem, h, h'], rfl⟩)
      · exact q_move hp (free_of rfl) trivial (sq_in 13 rfl rfl (by simp) rfl (fun v w h => h))
      · exact q_move hp (free_of rfl) (gq_some rfl rfl (by simp) rfl (fun v w h => h)) (sq_out rfl rfl (fun _ _ => rfl))
      · exact q_two (F := fun v _ => v = .bool true) (G := fun v _ => v = .bool true) hp (free_of rfl) trivial (sq_in 14 rfl rfl (by simp) rfl (fun v w h => h)) (sq_in 15 rfl rfl (by simp) rfl (fun v w h => h)) (fun ρ w hc h h' => ⟨_, by simp [execOp, go_sem, h, h'], rfl⟩)
      · exact q_assign hp (free_of rfl) trivial (sq_in 16 rfl rfl (by simp) rfl (fun v w h => h))
      intro L vs w45 nb hL hC hn E45
      have e0 : vs 0 = .pointer (some ⟨b39_16, 2, none⟩) := hC 0 (by simp)
      have e1 : vs 1 = .int .i64 0 := hC 1 (by simp)
      have e2 : vs 2 = .bool true := hC 2 (by simp)
      have e3 : vs 3 = .bool true := hC 3 (by simp)
      have e4 : vs 4 = .int .i64 0 := hC 4 (by simp)
      have e5 : vs 5 = .bool true := hC 5 (by simp)
      have e6 : vs 6 = .bool true := hC 6 (by simp)
      have e7 : vs 7 = .bool true := hC 7 (by simp)
      have e9 : vs 9 = .pointer (some ⟨b39_16, 0, none⟩) := hC 9 (by simp)
      have e11 : vs 11 = .int .i64 (cmpI (((powM a i m) * (powM a j m)) % m) (powM a (i + j) m)) := hC 11 (by simp)
      have e12 : vs 12 = .bool true := hC 12 (by simp)
      have e13 : vs 13 = .bool true := hC 13 (by simp)
      have e14 : vs 14 = .bool true := hC 14 (by simp)
      have e15 : vs 15 = .bool true := hC 15 (by simp)
      have e16 : vs 16 = .bool true := hC 16 (by simp)
      have e17 : vs 17 = .bool true := hC 17 (by simp)
      have E : Fr w [(b44_10, 2, Fq.num (((powM a i m) * (powM a j m)) % m)), (b39_14, 3, Fq.got (powM a i m) 0), (b39_15, 3, Fq.got (powM a j m) 0), (b39_16, 3, Fq.got (powM a (i + j) m) 0), (b35_8, 2, Fq.num i), (b35_9, 2, Fq.num j), (b31_3, 3, Fq.got 0 4), (b8_7, 2, Fq.num a), (b8_8, 2, Fq.num m), (b3, 2, Fq.is (.agg #[.int .i16 i, .int .i16 j])), (b2, 2, Fq.raw n2 a2 k2 c2 xs2), (b1, 2, Fq.raw n1 a1 k1 c1 xs1)] w45 := E45
      rw [lay_all hL]
      simp only [putAll, dstOf, List.length_cons, List.length_nil, Nat.zero_add, Nat.reduceAdd, List.getElem?_toArray, List.getElem?_cons_zero, List.getElem?_cons_succ, Option.bind_some, Act.put, List.setIfInBounds_toArray, List.set_cons_succ, List.set_cons_zero]
      rw [e0, e1, e2, e3, e4, e5, e6, e7, e9, e11, e12, e13, e14, e15, e16, e17]
      generalize vs 8 = u45_8
      generalize vs 10 = u45_10
      clear e0 e1 e2 e3 e4 e5 e6 e7 e9 e11 e12 e13 e14 e15 e16 e17 hC hn E45 hL vs L nb
      clear TR PM NM HM HG
      clear B6 B7 B32 B36 B37 B38 B42 B43 Ba Bb hT BM BI BJ
      go_wp2
      refine bodyPost_ret (v := .bool true) ?_ rfl ⟨rfl, E.below⟩
      simp [results, Tryd.results3, go_sem]
    · by_cases hi : i < 0
      · by_cases hj : j < 0
        · obtain ⟨Z, hZ⟩ : ∃ Z, Z = if 0 ≤ i + j then powM a (i + j) m else 0 := ⟨_, rfl⟩
          obtain ⟨R, hR⟩ : ∃ R : Int, R = if 0 ≤ i + j then 0 else 4 := ⟨_, rfl⟩
          have HZ := hidd hZ
          have HR := hidd hR
          clear hZ hR
          have OI : Hid (i < 0) := by show _ < _; omega
          have OJ : Hid (j < 0) := by show _ < _; omega
          clear hij hi hj
          have TG : Hid (¬ cmpI (Int.gcd a m : Int) (1) = 0) := by
            show ¬ _ = _
            rw [cmpI_eq0]; omega
          have HG := hidd hg
          clear hg
          go_upto_region 5 with (fail)
          refine region_fr (C := [Fq.num a, Fq.num m, Fq.got 0 4, Fq.any, Fq.any]) (ks := [none, none, none, none, none]) (new := [⟨3, 4, 3, Fq.got 0 0, Fq.got 0 4, none⟩]) E rfl (by kernel_rfl) rfl rfl (fun hp => ⟨?_, ?_, ?_, ?_, ?_, trivial⟩) ?_
          · exact q_loadInt (off := 0) hp (free_of rfl) trivial (List.mem_iff_getElem?.2 ⟨0, rfl⟩) (.inl rfl) (Nat.le_of_ble_eq_true rfl) (sq_out rfl rfl (fun _ _ => rfl)) (fun us w hl h => ld_num hl h)
          · exact q_loadInt (off := 0) hp (free_of rfl) trivial (List.mem_iff_getElem?.2 ⟨1, rfl⟩) (.inl rfl) (Nat.le_of_ble_eq_true rfl) (sq_out rfl rfl (fun _ _ => rfl)) (fun us w hl h => ld_num hl h)
          · exact q_call2 (F := (Fq.num a).P) (G := (Fq.num m).P) hp (free_of rfl) trivial (enq_V_inv) (sq_in 0 rfl rfl (by simp) rfl (fun v w h => h)) (sq_in 1 rfl rfl (by simp) rfl (fun v w h => h)) (fun v v' w h h' => exVInvN h h' (Int.lt_of_lt_of_le Ba.out (pw_le (by omega))) (Int.lt_of_lt_of_le BM.out (pw_le (by omega))) PM.out HG.out)
          · exact q_allocGot hp (List.mem_iff_getElem?.2 ⟨0, rfl⟩) rfl rfl rfl rfl (Nat.ne_of_beq_eq_false rfl) (fun _ _ => trivial) (old_ne rfl) (newk_ne rfl) (fun w => Got.zero w)
          · exact q_storeNewGot hp (List.mem_iff_getElem?.2 ⟨0, rfl⟩) rfl rfl rfl (own_ptr rfl rfl (by simp) rfl) (sq_in 2 rfl rfl (by simp) rfl (fun v w h => h.partsV)) (fun _ _ => trivial) (old_ne rfl) (newi_ne rfl)
          intro L vs w46 nb hL hC hn E46
          have e3 : vs 3 = .pointer (some ⟨nb 3, 0, none⟩) := hn _ (List.mem_iff_getElem?.2 ⟨0, rfl⟩)
          have E : Fr w [(nb 3, 3, Fq.got 0 4), (b8_7, 2, Fq.num a), (b8_8, 2, Fq.num m), (b3, 2, Fq.is (.agg #[.int .i16 i, .int .i16 j])), (b2, 2, Fq.raw n2 a2 k2 c2 xs2), (b1, 2, Fq.raw n1 a1 k1 c1 xs1)] w46 := E46
          rw [lay_all hL]
          simp only [putAll, dstOf, List.length_cons, List.length_nil, Nat.zero_add, Nat.reduceAdd, List.getElem?_toArray, List.getElem?_cons_zero, List.getElem?_cons_succ, Option.bind_some, Act.put, List.setIfInBounds_toArray, List.set_cons_succ, List.set_cons_zero]
          rw [e3]
          generalize nb 3 = b46_3 at E ⊢
          generalize vs 0 = u46_0
          generalize vs 1 = u46_1
          generalize vs 2 = u46_2
          clear e3 hC hn E46 hL vs L nb
          go_upto_region 6 with (fail)
          have B47 : Hid (ab ((Int.gcd a m : Int)) < pw 4) := ab_gcdB Ba.out BM.out (by omega) (by omega)
          refine region_fr (C := [Fq.num a, Fq.num m, Fq.num (Int.gcd a m : Int), Fq.num (1), Fq.is (.int .i64 (cmpI (Int.gcd a m : Int) (1))), Fq.is (.bool false), Fq.is (.bool false)]) (ks := [none, none, none, none, none, none]) (new := []) E rfl (by kernel_rfl) rfl rfl (fun hp => ⟨?_, ?_, ?_, ?_, ?_, ?_, ?_, trivial⟩) ?_
          · exact q_loadInt (off := 0) hp (free_of rfl) trivial (List.mem_iff_getElem?.2 ⟨1, rfl⟩) (.inl rfl) (Nat.le_of_ble_eq_true rfl) (sq_out rfl rfl (fun _ _ => rfl)) (fun us w hl h => ld_num hl h)
          · exact q_loadInt (off := 0) hp (free_of rfl) trivial (List.mem_iff_getElem?.2 ⟨2, rfl⟩) (.inl rfl) (Nat.le_of_ble_eq_true rfl) (sq_out rfl rfl (fun _ _ => rfl)) (fun us w hl h => ld_num hl h)
          · exact q_call2 (F := (Fq.num a).P) (G := (Fq.num m).P) hp (free_of rfl) trivial (enq_Gcd) (sq_in 0 rfl rfl (by simp) rfl (fun v w h => h)) (sq_in 1 rfl rfl (by simp) rfl (fun v w h => h)) (fun v v' w h h' => exK (GcdV h h') B47.out (by omega))
          · exact q_call1 (F := (Fq.is (.int .i64 1)).P) hp (free_of rfl) trivial (enq_V_of) (sq_const (fun _ => rfl)) (fun v w h => (by subst h; exact exVOf (by omega)))
          · exact q_call2 (F := (Fq.num (Int.gcd a m : Int)).P) (G := (Fq.num (1)).P) hp (free_of rfl) trivial (enq_Cmp) (sq_in 2 rfl rfl (by simp) rfl (fun v w h => h)) (sq_in 3 rfl rfl (by simp) rfl (fun v w h => h)) (fun v v' w h h' => exCmp h h')
          · exact q_one (F := fun v _ => v = .int .i64 (cmpI (Int.gcd a m : Int) (1))) hp (free_of rfl) trivial (sq_in 4 rfl rfl (by simp) rfl (fun v w h => h)) (fun ρ w hc h => ⟨.bool false, by simp [execOp, go_sem, h, hc, TG.out], rfl⟩)
          · exact q_assign hp (free_of rfl) trivial (sq_in 5 rfl rfl (by simp) rfl (fun v w h => h))
          intro L vs w48 nb hL hC hn E48
          have e4 : vs 4 = .int .i64 (cmpI (Int.gcd a m : Int) (1)) := hC 4 (by simp)
          have e5 : vs 5 = .bool false := hC 5 (by simp)
          have e6 : vs 6 = .bool false := hC 6 (by simp)
          have E : Fr w [(b46_3, 3, Fq.got 0 4), (b8_7, 2, Fq.num a), (b8_8, 2, Fq.num m), (b3, 2, Fq.is (.agg #[.int .i16 i, .int .i16 j])), (b2, 2, Fq.raw n2 a2 k2 c2 xs2), (b1, 2, Fq.raw n1 a1 k1 c1 xs1)] w48 := E48
          rw [lay_all hL]
          simp only [putAll, dstOf, List.length_cons, List.length_nil, Nat.zero_add, Nat.reduceAdd, List.getElem?_toArray, List.getElem?_cons_zero, List.getElem?_cons_succ, Option.bind_some, Act.put, List.setIfInBounds_toArray, List.set_cons_succ, List.set_cons_zero]
          rw [e4, e5, e6]
          generalize vs 0 = u48_0
          generalize vs 1 = u48_1
          generalize vs 2 = u48_2
          generalize vs 3 = u48_3
          clear e4 e5 e6 hC hn E48 hL vs L nb
          clear TG
          go_upto_region 7 with (fail)
          refine region_fr (C := [Fq.is (.pointer (some ⟨b46_3, 2, none⟩)), Fq.is (.int .i64 4), Fq.is (.bool false), Fq.is (.bool false), Fq.is (.bool false)]) (ks := [none, none, none, none, none, none]) (new := []) E rfl (by kernel_rfl) rfl rfl (fun hp => ⟨?_, ?_, ?_, ?_, ?_, trivial⟩) ?_
          · exact q_addr (b := b46_3) (off := 0) (off' := 2) hp (free_of rfl) trivial (sq_out rfl rfl (fun _ _ => rfl)) (fun ρ w h => by simp [execOp, go_sem, h]) (fun _ => rfl)
          · exact q_loadErr (r := 4) hp (free_of rfl) trivial (List.mem_iff_getElem?.2 ⟨0, rfl⟩) (.inl rfl) rfl (sq_in 0 rfl rfl (by simp) rfl (fun v w h => h)) (fun us w hl h => ld_got2 hl h) (fun _ => rfl)
          · exact q_one (F := fun v _ => v = .int .i64 4) hp (free_of rfl) trivial (sq_in 1 rfl rfl (by simp) rfl (fun v w h => h)) (fun ρ w hc h => ⟨.bool false, by simp [execOp, go_sem, h, hc], rfl⟩)
          · exact q_move hp (free_of rfl) trivial (sq_out rfl rfl (fun _ _ => rfl))
          · exact q_two (F := fun v _ => v = .bool false) (G := fun v _ => v = .bool false) hp (free_of rfl) trivial (sq_in 2 rfl rfl (by simp) rfl (fun v w h => h)) (sq_in 3 rfl rfl (by simp) rfl (fun v w h => h)) (fun ρ w hc h h' => ⟨.bool false, by simp [execOp, go_sem, h, h'], rfl⟩)
          intro L vs w49 nb hL hC hn E49
          have e0 : vs 0 = .pointer (some ⟨b46_3, 2, none⟩) := hC 0 (by simp)
          have e1 : vs 1 = .int .i64 4 := hC 1 (by simp)
          have e2 : vs 2 = .bool false := hC 2 (by simp)
          have e3 : vs 3 = .bool false := hC 3 (by simp)
          have e4 : vs 4 = .bool false := hC 4 (by simp)
          have E : Fr w [(b46_3, 3, Fq.got 0 4), (b8_7, 2, Fq.num a), (b8_8, 2, Fq.num m), (b3, 2, Fq.is (.agg #[.int .i16 i, .int .i16 j])), (b2, 2, Fq.raw n2 a2 k2 c2 xs2), (b1, 2, Fq.raw n1 a1 k1 c1 xs1)] w49 := E49
          rw [lay_all hL]
          simp only [putAll, dstOf, List.length_cons, List.length_nil, Nat.zero_add, Nat.reduceAdd, List.getElem?_toArray, List.getElem?_cons_zero, List.getElem?_cons_succ, Option.bind_some, Act.put, List.setIfInBounds_toArray, List.set_cons_succ, List.set_cons_zero]
          rw [e0, e1, e2, e3, e4]
          clear e0 e1 e2 e3 e4 hC hn E49 hL vs L nb
          go_upto_region 9 with (fail)
          refine region_fr (C := [Fq.is (.pointer (some ⟨b3, 0, none⟩)), Fq.is (.int .i16 i), Fq.is (.int .i64 i), Fq.num i, Fq.is (.pointer (some ⟨b3, 1, none⟩)), Fq.is (.int .i16 j), Fq.is (.int .i64 j), Fq.num j, Fq.any, Fq.any, Fq.any, Fq.any]) (ks := [none, none, none, none, none, none]) (new := [⟨8, 10, 2, Fq.num 0, Fq.num i, none⟩, ⟨9, 11, 2, Fq.num 0, Fq.num j, none⟩]) E rfl (by kernel_rfl) rfl rfl (fun hp => ⟨?_, ?_, ?_, ?_, ?_, ?_, ?_, ?_, ?_, ?_, ?_, ?_, trivial⟩) ?_
          · exact q_one (F := fun v _ => v = .pointer (some ⟨b3, 0, none⟩)) hp (free_of rfl) trivial (sq_out (s := 5) rfl rfl (fun _ _ => rfl)) (fun ρ w hc h => ⟨.pointer (some ⟨b3, 0, none⟩), by simp [execOp, go_sem, h, hc], rfl⟩)
          · exact q_loadI16 (off := 0) (v := .int .i16 i) hp (free_of rfl) trivial (List.mem_iff_getElem?.2 ⟨3, rfl⟩) (.inl rfl) (Nat.le_of_ble_eq_true rfl) (sq_in 0 rfl rfl (by simp) rfl (fun v w h => h)) (fun us w hl h => ⟨ld_i16s0 hl h, rfl⟩)
          · exact q_one (F := fun v _ => v = .int .i16 i) hp (free_of rfl) trivial (sq_in 1 rfl rfl (by simp) rfl (fun v w h => h)) (fun ρ w hc h => ⟨.int .i64 i, by simp [execOp, go_sem, h, WI.out], rfl⟩)
          · exact q_call1 (F := (Fq.is (.int .i64 i)).P) hp (free_of rfl) trivial (enq_V_of) (sq_in 2 rfl rfl (by simp) rfl (fun v w h => h)) (fun v w h => (by subst h; exact exVOf RI.out))
          · exact q_one (F := fun v _ => v = .pointer (some ⟨b3, 0, none⟩)) hp (free_of rfl) trivial (sq_out (s := 5) rfl rfl (fun _ _ => rfl)) (fun ρ w hc h => ⟨.pointer (some ⟨b3, 1, none⟩), by simp [execOp, go_sem, h, hc], rfl⟩)
          · exact q_loadI16 (off := 1) (v := .int .i16 j) hp (free_of rfl) trivial (List.mem_iff_getElem?.2 ⟨3, rfl⟩) (.inl rfl) (Nat.le_of_ble_eq_true rfl) (sq_in 4 rfl rfl (by simp) rfl (fun v w h => h)) (fun us w hl h => ⟨ld_i16s1 hl h, rfl⟩)
          · exact q_one (F := fun v _ => v = .int .i16 j) hp (free_of rfl) trivial (sq_in 5 rfl rfl (by simp) rfl (fun v w h => h)) (fun ρ w hc h => ⟨.int .i64 j, by simp [execOp, go_sem, h, WJ.out], rfl⟩)
          · exact q_call1 (F := (Fq.is (.int .i64 j)).P) hp (free_of rfl) trivial (enq_V_of) (sq_in 6 rfl rfl (by simp) rfl (fun v w h => h)) (fun v w h => (by subst h; exact exVOf RJ.out))
          · exact q_allocInt hp (List.mem_iff_getElem?.2 ⟨0, rfl⟩) rfl rfl rfl rfl (Nat.ne_of_beq_eq_false rfl) (fun _ _ => trivial) (old_ne rfl) (newk_ne rfl) (fun w => Num.zero w)
          · exact q_allocInt hp (List.mem_iff_getElem?.2 ⟨1, rfl⟩) rfl rfl rfl rfl (Nat.ne_of_beq_eq_false rfl) (fun _ _ => trivial) (old_ne rfl) (newk_ne rfl) (fun w => Num.zero w)
          · exact q_storeNewInt hp (List.mem_iff_getElem?.2 ⟨0, rfl⟩) rfl rfl rfl (own_ptr rfl rfl (by simp) rfl) (sq_in 3 rfl rfl (by simp) rfl (fun v w h => intV_num h)) (fun _ _ => trivial) (old_ne rfl) (newi_ne rfl)
          · exact q_storeNewInt hp (List.mem_iff_getElem?.2 ⟨1, rfl⟩) rfl rfl rfl (own_ptr rfl rfl (by simp) rfl) (sq_in 7 rfl rfl (by simp) rfl (fun v w h => intV_num h)) (fun _ _ => trivial) (old_ne rfl) (newi_ne rfl)
          intro L vs w50 nb hL hC hn E50
          have e0 : vs 0 = .pointer (some ⟨b3, 0, none⟩) := hC 0 (by simp)
          have e1 : vs 1 = .int .i16 i := hC 1 (by simp)
          have e2 : vs 2 = .int .i64 i := hC 2 (by simp)
          have e4 : vs 4 = .pointer (some ⟨b3, 1, none⟩) := hC 4 (by simp)
          have e5 : vs 5 = .int .i16 j := hC 5 (by simp)
          have e6 : vs 6 = .int .i64 j := hC 6 (by simp)
          have e8 : vs 8 = .pointer (some ⟨nb 8, 0, none⟩) := hn _ (List.mem_iff_getElem?.2 ⟨0, rfl⟩)
          have e9 : vs 9 = .pointer (some ⟨nb 9, 0, none⟩) := hn _ (List.mem_iff_getElem?.2 ⟨1, rfl⟩)
          have E : Fr w [(nb 8, 2, Fq.num i), (nb 9, 2, Fq.num j), (b46_3, 3, Fq.got 0 4), (b8_7, 2, Fq.num a), (b8_8, 2, Fq.num m), (b3, 2, Fq.is (.agg #[.int .i16 i, .int .i16 j])), (b2, 2, Fq.raw n2 a2 k2 c2 xs2), (b1, 2, Fq.raw n1 a1 k1 c1 xs1)] w50 := E50
          rw [lay_all hL]
          simp only [putAll, dstOf, List.length_cons, List.length_nil, Nat.zero_add, Nat.reduceAdd, List.getElem?_toArray, List.getElem?_cons_zero, List.getElem?_cons_succ, Option.bind_some, Act.put, List.setIfInBounds_toArray, List.set_cons_succ, List.set_cons_zero]
          rw [e0, e1, e2, e4, e5, e6, e8, e9]
          generalize nb 8 = b50_8 at E ⊢
          generalize nb 9 = b50_9 at E ⊢
          generalize vs 3 = u50_3
          generalize vs 7 = u50_7
          clear e0 e1 e2 e4 e5 e6 e8 e9 hC hn E50 hL vs L nb
          clear WI WJ RI RJ
          go_upto_region 10 with (fail)
          refine region_fr (C := [Fq.num a, Fq.num i, Fq.num m, Fq.got 0 4, Fq.num a, Fq.num j, Fq.num m, Fq.got 0 4, Fq.num a, Fq.num i, Fq.num j, Fq.num (i + j), Fq.num m, Fq.got Z R, Fq.any, Fq.any, Fq.any, Fq.any, Fq.any, Fq.any]) (ks := [none, none, none, none, none, none, none, none]) (new := [⟨14, 17, 3, Fq.got 0 0, Fq.got 0 4, none⟩, ⟨15, 18, 3, Fq.got 0 0, Fq.got 0 4, none⟩, ⟨16, 19, 3, Fq.got 0 0, Fq.got Z R, none⟩]) E rfl (by kernel_rfl) rfl rfl (fun hp => ⟨?_, ?_, ?_, ?_, ?_, ?_, ?_, ?_, ?_, ?_, ?_, ?_, ?_, ?_, ?_, ?_, ?_, ?_, ?_, ?_, trivial⟩) ?_
          · exact q_loadInt (off := 0) hp (free_of rfl) trivial (List.mem_iff_getElem?.2 ⟨3, rfl⟩) (.inl rfl) (Nat.le_of_ble_eq_true rfl) (sq_out rfl rfl (fun _ _ => rfl)) (fun us w hl h => ld_num hl h)
          · exact q_loadInt (off := 0) hp (free_of rfl) trivial (List.mem_iff_getElem?.2 ⟨0, rfl⟩) (.inl rfl) (Nat.le_of_ble_eq_true rfl) (sq_out rfl rfl (fun _ _ => rfl)) (fun us w hl h => ld_num hl h)
          · exact q_loadInt (off := 0) hp (free_of rfl) trivial (List.mem_iff_getElem?.2 ⟨4, rfl⟩) (.inl rfl) (Nat.le_of_ble_eq_true rfl) (sq_out rfl rfl (fun _ _ => rfl)) (fun us w hl h => ld_num hl h)
          · exact q_call3 (F := (Fq.num a).P) (G := (Fq.num i).P) (F3 := (Fq.num m).P) hp (free_of rfl) trivial (enq_V_pow) (sq_in 0 rfl rfl (by simp) rfl (fun v w h => h)) (sq_in 1 rfl rfl (by simp) rfl (fun v w h => h)) (sq_in 2 rfl rfl (by simp) rfl (fun v w h => h)) (fun v v' u w h h' g => exVPowNo h h' g (Int.lt_of_lt_of_le Ba.out (pw_le (by omega))) (Int.lt_of_lt_of_le BI.out (pw_le (by omega))) (Int.lt_of_lt_of_le BM.out (pw_le (by omega))) PM.out HG.out OI.out)
          · exact q_loadInt (off := 0) hp (free_of rfl) trivial (List.mem_iff_getElem?.2 ⟨3, rfl⟩) (.inl rfl) (Nat.le_of_ble_eq_true rfl) (sq_out rfl rfl (fun _ _ => rfl)) (fun us w hl h => ld_num hl h)
          · exact q_loadInt (off := 0) hp (free_of rfl) trivial (List.mem_iff_getElem?.2 ⟨1, rfl⟩) (.inl rfl) (Nat.le_of_ble_eq_true rfl) (sq_out rfl rfl (fun _ _ => rfl)) (fun us w hl h => ld_num hl h)
          · exact q_loadInt (off := 0) hp (free_of rfl) trivial (List.mem_iff_getElem?.2 ⟨4, rfl⟩) (.inl rfl) (Nat.le_of_ble_eq_true rfl) (sq_out rfl rfl (fun _ _ => rfl)) (fun us w hl h => ld_num hl h)
          · exact q_call3 (F := (Fq.num a).P) (G := (Fq.num j).P) (F3 := (Fq.num m).P) hp (free_of rfl) trivial (enq_V_pow) (sq_in 4 rfl rfl (by simp) rfl (fun v w h => h)) (sq_in 5 rfl rfl (by simp) rfl (fun v w h => h)) (sq_in 6 rfl rfl (by simp) rfl (fun v w h => h)) (fun v v' u w h h' g => exVPowNo h h' g (Int.lt_of_lt_of_le Ba.out (pw_le (by omega))) (Int.lt_of_lt_of_le BJ.out (pw_le (by omega))) (Int.lt_of_lt_of_le BM.out (pw_le (by omega))) PM.out HG.out OJ.out)
          · exact q_loadInt (off := 0) hp (free_of rfl) trivial (List.mem_iff_getElem?.2 ⟨3, rfl⟩) (.inl rfl) (Nat.le_of_ble_eq_true rfl) (sq_out rfl rfl (fun _ _ => rfl)) (fun us w hl h => ld_num hl h)
          · exact q_loadInt (off := 0) hp (free_of rfl) trivial (List.mem_iff_getElem?.2 ⟨0, rfl⟩) (.inl rfl) (Nat.le_of_ble_eq_true rfl) (sq_out rfl rfl (fun _ _ => rfl)) (fun us w hl h => ld_num hl h)
          · exact q_loadInt (off := 0) hp (free_of rfl) trivial (List.mem_iff_getElem?.2 ⟨1, rfl⟩) (.inl rfl) (Nat.le_of_ble_eq_true rfl) (sq_out rfl rfl (fun _ _ => rfl)) (fun us w hl h => ld_num hl h)
          · exact q_call2 (F := (Fq.num i).P) (G := (Fq.num j).P) hp (free_of rfl) trivial (enq_Add) (sq_in 9 rfl rfl (by simp) rfl (fun v w h => h)) (sq_in 10 rfl rfl (by simp) rfl (fun v w h => h)) (fun v v' w h h' => exK (AddV h h') (ab_addB (m := 4) BI.out BJ.out (by omega) (by omega)) (by omega))
          · exact q_loadInt (off := 0) hp (free_of rfl) trivial (List.mem_iff_getElem?.2 ⟨4, rfl⟩) (.inl rfl) (Nat.le_of_ble_eq_true rfl) (sq_out rfl rfl (fun _ _ => rfl)) (fun us w hl h => ld_num hl h)
          · exact q_call3 (F := (Fq.num a).P) (G := (Fq.num (i + j)).P) (F3 := (Fq.num m).P) hp (free_of rfl) trivial (enq_V_pow) (sq_in 8 rfl rfl (by simp) rfl (fun v w h => h)) (sq_in 11 rfl rfl (by simp) rfl (fun v w h => h)) (sq_in 12 rfl rfl (by simp) rfl (fun v w h => h)) (fun v v' u w h h' g => exVPowAny h h' g (Int.lt_of_lt_of_le Ba.out (pw_le (by omega))) (Int.lt_of_lt_of_le (ab_addB (m := 4) BI.out BJ.out (by omega) (by omega)) (pw_le (by omega))) (Int.lt_of_lt_of_le BM.out (pw_le (by omega))) PM.out HG.out HZ.out HR.out)
          · exact q_allocGot hp (List.mem_iff_getElem?.2 ⟨0, rfl⟩) rfl rfl rfl rfl (Nat.ne_of_beq_eq_false rfl) (fun _ _ => trivial) (old_ne rfl) (newk_ne rfl) (fun w => Got.zero w)
          · exact q_allocGot hp (List.mem_iff_getElem?.2 ⟨1, rfl⟩) rfl rfl rfl rfl (Nat.ne_of_beq_eq_false rfl) (fun _ _ => trivial) (old_ne rfl) (newk_ne rfl) (fun w => Got.zero w)
          · exact q_allocGot hp (List.mem_iff_getElem?.2 ⟨2, rfl⟩) rfl rfl rfl rfl (Nat.ne_of_beq_eq_false rfl) (fun _ _ => trivial) (old_ne rfl) (newk_ne rfl) (fun w => Got.zero w)
          · exact q_storeNewGot hp (List.mem_iff_getElem?.2 ⟨0, rfl⟩) rfl rfl rfl (own_ptr rfl rfl (by simp) rfl) (sq_in 3 rfl rfl (by simp) rfl (fun v w h => h.partsV)) (fun _ _ => trivial) (old_ne rfl) (newi_ne rfl)
          · exact q_storeNewGot hp (List.mem_iff_getElem?.2 ⟨1, rfl⟩) rfl rfl rfl (own_ptr rfl rfl (by simp) rfl) (sq_in 7 rfl rfl (by simp) rfl (fun v w h => h.partsV)) (fun _ _ => trivial) (old_ne rfl) (newi_ne rfl)
          · exact q_storeNewGot hp (List.mem_iff_getElem?.2 ⟨2, rfl⟩) rfl rfl rfl (own_ptr rfl rfl (by simp) rfl) (sq_in 13 rfl rfl (by simp) rfl (fun v w h => h.partsV)) (fun _ _ => trivial) (old_ne rfl) (newi_ne rfl)
          intro L vs w51 nb hL hC hn E51
          have e14 : vs 14 = .pointer (some ⟨nb 14, 0, none⟩) := hn _ (List.mem_iff_getElem?.2 ⟨0, rfl⟩)
          have e15 : vs 15 = .pointer (some ⟨nb 15, 0, none⟩) := hn _ (List.mem_iff_getElem?.2 ⟨1, rfl⟩)
          have e16 : vs 16 = .pointer (some ⟨nb 16, 0, none⟩) := hn _ (List.mem_iff_getElem?.2 ⟨2, rfl⟩)
          have E : Fr w [(nb 14, 3, Fq.got 0 4), (nb 15, 3, Fq.got 0 4), (nb 16, 3, Fq.got Z R), (b50_8, 2, Fq.num i), (b50_9, 2, Fq.num j), (b46_3, 3, Fq.got 0 4), (b8_7, 2, Fq.num a), (b8_8, 2, Fq.num m), (b3, 2, Fq.is (.agg #[.int .i16 i, .int .i16 j])), (b2, 2, Fq.raw n2 a2 k2 c2 xs2), (b1, 2, Fq.raw n1 a1 k1 c1 xs1)] w51 := E51
          rw [lay_all hL]
          simp only [putAll, dstOf, List.length_cons, List.length_nil, Nat.zero_add, Nat.reduceAdd, List.getElem?_toArray, List.getElem?_cons_zero, List.getElem?_cons_succ, Option.bind_some, Act.put, List.setIfInBounds_toArray, List.set_cons_succ, List.set_cons_zero]
          rw [e14, e15, e16]
          generalize nb 14 = b51_14 at E ⊢
          generalize nb 15 = b51_15 at E ⊢
          generalize nb 16 = b51_16 at E ⊢
          generalize vs 0 = u51_0
          generalize vs 1 = u51_1
          generalize vs 2 = u51_2
          generalize vs 3 = u51_3
          generalize vs 4 = u51_4
          generalize vs 5 = u51_5
          generalize vs 6 = u51_6
          generalize vs 7 = u51_7
          generalize vs 8 = u51_8
          generalize vs 9 = u51_9
          generalize vs 10 = u51_10
          generalize vs 11 = u51_11
          generalize vs 12 = u51_12
          generalize vs 13 = u51_13
          clear e14 e15 e16 hC hn E51 hL vs L nb
          go_upto_region 11 with (fail)
          refine region_fr (C := [Fq.is (.bool false)]) (ks := [none, none, none, none, none, none, none, none, none, none, none]) (new := []) E rfl (by kernel_rfl) rfl rfl (fun hp => ⟨?_, trivial⟩) ?_
          · exact q_move hp (free_of rfl) trivial (sq_out rfl rfl (fun _ _ => rfl))
          intro L vs w52 nb hL hC hn E52
          have e0 : vs 0 = .bool false := hC 0 (by simp)
          have E : Fr w [(b51_14, 3, Fq.got 0 4), (b51_15, 3, Fq.got 0 4), (b51_16, 3, Fq.got Z R), (b50_8, 2, Fq.num i), (b50_9, 2, Fq.num j), (b46_3, 3, Fq.got 0 4), (b8_7, 2, Fq.num a), (b8_8, 2, Fq.num m), (b3, 2, Fq.is (.agg #[.int .i16 i, .int .i16 j])), (b2, 2, Fq.raw n2 a2 k2 c2 xs2), (b1, 2, Fq.raw n1 a1 k1 c1 xs1)] w52 := E52
          rw [lay_all hL]
          simp only [putAll, dstOf, List.length_cons, List.length_nil, Nat.zero_add, List.getElem?_toArray, List.getElem?_cons_zero, Option.bind_some, Act.put, List.setIfInBounds_toArray, List.set_cons_succ, List.set_cons_zero]
          rw [e0]
          clear e0 hC hn E52 hL vs L nb
          go_upto_region 16 with (fail)
          refine region_fr (C := [Fq.is (.pointer (some ⟨b51_14, 2, none⟩)), Fq.is (.int .i64 4), Fq.is (.bool true), Fq.is (.bool true), Fq.is (undef), Fq.is (undef), Fq.is (undef), Fq.is (.bool true)]) (ks := [none, none, none, none, none, none, none, none, none, none, none]) (new := []) E rfl (by kernel_rfl) rfl rfl (fun hp => ⟨?_, ?_, ?_, ?_, ?_, ?_, ?_, ?_, trivial⟩) ?_
          · exact q_addr (b := b51_14) (off := 0) (off' := 2) hp (free_of rfl) trivial (sq_out rfl rfl (fun _ _ => rfl)) (fun ρ w h => by simp [execOp, go_sem, h]) (fun _ => rfl)
          · exact q_loadErr (r := 4) hp (free_of rfl) trivial (List.mem_iff_getElem?.2 ⟨0, rfl⟩) (.inl rfl) rfl (sq_in 0 rfl rfl (by simp) rfl (fun v w h => h)) (fun us w hl h => ld_got2 hl h) (fun _ => rfl)
          · exact q_one (F := fun v _ => v = .int .i64 4) hp (free_of rfl) trivial (sq_in 1 rfl rfl (by simp) rfl (fun v w h => h)) (fun ρ w hc h => ⟨.bool true, by simp [execOp, go_sem, h, hc], rfl⟩)
          · exact q_move hp (free_of rfl) trivial (sq_in 2 rfl rfl (by simp) rfl (fun v w h => h))
          · exact q_skip hp (free_of rfl) rfl (gq_some rfl rfl (by simp) rfl (fun v w h => h)) (fun _ => rfl)
          · exact q_skip hp (free_of rfl) rfl (gq_some rfl rfl (by simp) rfl (fun v w h => h)) (fun _ => rfl)
          · exact q_skip hp (free_of rfl) rfl (gq_some rfl rfl (by simp) rfl (fun v w h => h)) (fun _ => rfl)
          · exact q_two (F := fun v _ => v = .bool true) (G := fun v _ => v = .bool true) hp (free_of rfl) trivial (sq_in 3 rfl rfl (by simp) rfl (fun v w h => h)) (sq_const (fun _ => rfl)) (fun ρ w hc h h' => ⟨_, by simp [execOp, go_sem, h, h'], rfl⟩)
          intro L vs w53 nb hL hC hn E53
          have e0 : vs 0 = .pointer (some ⟨b51_14, 2, none⟩) := hC 0 (by simp)
          have e1 : vs 1 = .int .i64 4 := hC 1 (by simp)
          have e2 : vs 2 = .bool true := hC 2 (by simp)
          have e3 : vs 3 = .bool true := hC 3 (by simp)
          have e4 : vs 4 = undef := hC 4 (by simp)
          have e5 : vs 5 = undef := hC 5 (by simp)
          have e6 : vs 6 = undef := hC 6 (by simp)
          have e7 : vs 7 = .bool true := hC 7 (by simp)
          have E : Fr w [(b51_14, 3, Fq.got 0 4), (b51_15, 3, Fq.got 0 4), (b51_16, 3, Fq.got Z R), (b50_8, 2, Fq.num i), (b50_9, 2, Fq.num j), (b46_3, 3, Fq.got 0 4), (b8_7, 2, Fq.num a), (b8_8, 2, Fq.num m), (b3, 2, Fq.is (.agg #[.int .i16 i, .int .i16 j])), (b2, 2, Fq.raw n2 a2 k2 c2 xs2), (b1, 2, Fq.raw n1 a1 k1 c1 xs1)] w53 := E53
          rw [lay_all hL]
          simp only [putAll, dstOf, List.length_cons, List.length_nil, Nat.zero_add, Nat.reduceAdd, List.getElem?_toArray, List.getElem?_cons_zero, List.getElem?_cons_succ, Option.bind_some, Act.put, List.setIfInBounds_toArray, List.set_cons_succ, List.set_cons_zero]
          rw [e0, e1, e2, e3, e4, e5, e6, e7]
          clear e0 e1 e2 e3 e4 e5 e6 e7 hC hn E53 hL vs L nb
          go_upto_region 17 with (fail)
          refine region_fr (C := [Fq.is (.pointer (some ⟨b51_14, 2, none⟩)), Fq.is (.int .i64 4), Fq.is (.bool false), Fq.is (.bool false), Fq.is (.pointer (some ⟨b51_14, 2, none⟩)), Fq.is (.int .i64 4), Fq.is (.bool true), Fq.is (.bool true), Fq.is (.pointer (some ⟨b3, 0, none⟩)), Fq.is (.int .i16 i), Fq.is (.bool true), Fq.is (.bool true), Fq.is (.bool true), Fq.is (.bool true), Fq.is (.pointer (some ⟨b51_15, 2, none⟩)), Fq.is (.int .i64 4), Fq.is (.bool false), Fq.is (.bool false), Fq.is (.pointer (some ⟨b51_15, 2, none⟩)), Fq.is (.int .i64 4), Fq.is (.bool true), Fq.is (.bool true), Fq.is (.pointer (some ⟨b3, 1, none⟩)), Fq.is (.int .i16 j), Fq.is (.bool true), Fq.is (.bool true), Fq.is (.bool true), Fq.is (.bool true), Fq.is (.bool true), Fq.is (.bool false), Fq.is (.bool true), Fq.is (.bool true), Fq.is (.bool true), Fq.is (.bool true), Fq.is (.bool true), Fq.is (.bool true)]) (ks := [none, none, none, none, none, none, none, none, none, none, none]) (new := []) E rfl (by kernel_rfl) rfl rfl (fun hp => ⟨?_, ?_, ?_, ?_, ?_, ?_, ?_, ?_, ?_, ?_, ?_, ?_, ?_, ?_, ?_, ?_, ?_, ?_, ?_, ?_, ?_, ?_, ?_, ?_, ?_, ?_, ?_, ?_, ?_, ?_, ?_, ?_, ?_, ?_, ?_, ?_, trivial⟩) ?_
          · exact q_addr (b := b51_14) (off := 0) (off' := 2) hp (free_of rfl) trivial (sq_out rfl rfl (fun _ _ => rfl)) (fun ρ w h => by simp [execOp, go_sem, h]) (fun _ => rfl)
          · exact q_loadErr (r := 4) hp (free_of rfl) trivial (List.mem_iff_getElem?.2 ⟨0, rfl⟩) (.inl rfl) rfl (sq_in 0 rfl rfl (by simp) rfl (fun v w h => h)) (fun us w hl h => ld_got2 hl h) (fun _ => rfl)
          · exact q_one (F := fun v _ => v = .int .i64 4) hp (free_of rfl) trivial (sq_in 1 rfl rfl (by simp) rfl (fun v w h => h)) (fun ρ w hc h => ⟨.bool false, by simp [execOp, go_sem, h, hc], rfl⟩)
          · exact q_move hp (free_of rfl) trivial (sq_in 2 rfl rfl (by simp) rfl (fun v w h => h))
          · exact q_addr (b := b51_14) (off := 0) (off' := 2) hp (free_of rfl) (gq_some rfl rfl (by simp) rfl (fun v w h => h)) (sq_out rfl rfl (fun _ _ => rfl)) (fun ρ w h => by simp [execOp, go_sem, h]) (fun _ => rfl)
          · exact q_loadErr (r := 4) hp (free_of rfl) (gq_some rfl rfl (by simp) rfl (fun v w h => h)) (List.mem_iff_getElem?.2 ⟨0, rfl⟩) (.inl rfl) rfl (sq_in 4 rfl rfl (by simp) rfl (fun v w h => h)) (fun us w hl h => ld_got2 hl h) (fun _ => rfl)
          · exact q_one (F := fun v _ => v = .int .i64 4) hp (free_of rfl) (gq_some rfl rfl (by simp) rfl (fun v w h => h)) (sq_in 5 rfl rfl (by simp) rfl (fun v w h => h)) (fun ρ w hc h => ⟨.bool true, by simp [execOp, go_sem, h, hc], rfl⟩)
          · exact q_move hp (free_of rfl) (gq_some rfl rfl (by simp) rfl (fun v w h => h)) (sq_in 6 rfl rfl (by simp) rfl (fun v w h => h))
          · exact q_one (F := fun v _ => v = .pointer (some ⟨b3, 0, none⟩)) hp (free_of rfl) (gq_some rfl rfl (by simp) rfl (fun v w h => h)) (sq_out (s := 5) rfl rfl (fun _ _ => rfl)) (fun ρ w hc h => ⟨.pointer (some ⟨b3, 0, none⟩), by simp [execOp, go_sem, h, hc], rfl⟩)
          · exact q_loadI16 (off := 0) (v := .int .i16 i) hp (free_of rfl) (gq_some rfl rfl (by simp) rfl (fun v w h => h)) (List.mem_iff_getElem?.2 ⟨8, rfl⟩) (.inl rfl) (Nat.le_of_ble_eq_true rfl) (sq_in 8 rfl rfl (by simp) rfl (fun v w h => h)) (fun us w hl h => ⟨ld_i16s0 hl h, rfl⟩)
          · exact q_one (F := fun v _ => v = .int .i16 i) hp (free_of rfl) (gq_some rfl rfl (by simp) rfl (fun v w h => h)) (sq_in 9 rfl rfl (by simp) rfl (fun v w h => h)) (fun ρ w hc h => ⟨.bool true, by simp [execOp, go_sem, h, hc, OI.out], rfl⟩)
          · exact q_two (F := fun v _ => v = .bool true) (G := fun v _ => v = .bool true) hp (free_of rfl) (gq_some rfl rfl (by simp) rfl (fun v w h => h)) (sq_in 7 rfl rfl (by simp) rfl (fun v w h => h)) (sq_in 10 rfl rfl (by simp) rfl (fun v w h => h)) (fun ρ w hc h h' => ⟨_, by simp [execOp, go_sem, h, h'], rfl⟩)
          · exact q_two (F := fun v _ => v = .bool false) (G := fun v _ => v = .bool true) hp (free_of rfl) trivial (sq_in 3 rfl rfl (by simp) rfl (fun v w h => h)) (sq_in 11 rfl rfl (by simp) rfl (fun v w h => h)) (fun ρ w hc h h' => ⟨_, by simp [execOp, go_sem, h, h'], rfl⟩)
          · exact q_move hp (free_of rfl) trivial (sq_in 12 rfl rfl (by simp) rfl (fun v w h => h))
          · exact q_addr (b := b51_15) (off := 0) (off' := 2) hp (free_of rfl) (gq_some rfl rfl (by simp) rfl (fun v w h => h)) (sq_out rfl rfl (fun _ _ => rfl)) (fun ρ w h => by simp [execOp, go_sem, h]) (fun _ => rfl)
          · exact q_loadErr (r := 4) hp (free_of rfl) (gq_some rfl rfl (by simp) rfl (fun v w h => h)) (List.mem_iff_getElem?.2 ⟨1, rfl⟩) (.inl rfl) rfl (sq_in 14 rfl rfl (by simp) rfl (fun v w h => h)) (fun us w hl h => ld_got2 hl h) (fun _ => rfl)
          · exact q_one (F := fun v _ => v = .int .i64 4) hp (free_of rfl) (gq_some rfl rfl (by simp) rfl (fun v w h => h)) (sq_in 15 rfl rfl (by simp) rfl (fun v w h => h)) (fun ρ w hc h => ⟨.bool false, by simp [execOp, go_sem, h, hc], rfl⟩)
          · exact q_move hp (free_of rfl) (gq_some rfl rfl (by simp) rfl (fun v w h => h)) (sq_in 16 rfl rfl (by simp) rfl (fun v w h => h))
          · exact q_addr (b := b51_15) (off := 0) (off' := 2) hp (free_of rfl) (gq_some rfl rfl (by simp) rfl (fun v w h => h)) (sq_out rfl rfl (fun _ _ => rfl)) (fun ρ w h => by simp [execOp, go_sem, h]) (fun _ => rfl)
          · exact q_loadErr (r := 4) hp (free_of rfl) (gq_some rfl rfl (by simp) rfl (fun v w h => h)) (List.mem_iff_getElem?.2 ⟨1, rfl⟩) (.inl rfl) rfl (sq_in 18 rfl rfl (by simp) rfl (fun v w h => h)) (fun us w hl h => ld_got2 hl h) (fun _ => rfl)
          · exact q_one (F := fun v _ => v = .int .i64 4) hp (free_of rfl) (gq_some rfl rfl (by simp) rfl (fun v w h => h)) (sq_in 19 rfl rfl (by simp) rfl (fun v w h => h)) (fun ρ w hc h => ⟨.bool true, by simp [execOp, go_sem, h, hc], rfl⟩)
          · exact q_move hp (free_of rfl) (gq_some rfl rfl (by simp) rfl (fun v w h => h)) (sq_in 20 rfl rfl (by simp) rfl (fun v w h => h))
          · exact q_one (F := fun v _ => v = .pointer (some ⟨b3, 0, none⟩)) hp (free_of rfl) (gq_some rfl rfl (by simp) rfl (fun v w h => h)) (sq_out (s := 5) rfl rfl (fun _ _ => rfl)) (fun ρ w hc h => ⟨.pointer (some ⟨b3, 1, none⟩), by simp [execOp, go_sem, h, hc], rfl⟩)
          · exact q_loadI16 (off := 1) (v := .int .i16 j) hp (free_of rfl) (gq_some rfl rfl (by simp) rfl (fun v w h => h)) (List.mem_iff_getElem?.2 ⟨8, rfl⟩) (.inl rfl) (Nat.le_of_ble_eq_true rfl) (sq_in 22 rfl rfl (by simp) rfl (fun v w h => h)) (fun us w hl h => ⟨ld_i16s1 hl h, rfl⟩)
          · exact q_one (F := fun v _ => v = .int .i16 j) hp (free_of rfl) (gq_some rfl rfl (by simp) rfl (fun v w h => h)) (sq_in 23 rfl rfl (by simp) rfl (fun v w h => h)) (fun ρ w hc h => ⟨.bool true, by simp [execOp, go_sem, h, hc, OJ.out], rfl⟩)
          · exact q_two (F := fun v _ => v = .bool true) (G := fun v _ => v = .bool true) hp (free_of rfl) (gq_some rfl rfl (by simp) rfl (fun v w h => h)) (sq_in 21 rfl rfl (by simp) rfl (fun v w h => h)) (sq_in 24 rfl rfl (by simp) rfl (fun v w h => h)) (fun ρ w hc h h' => ⟨_, by simp [execOp, go_sem, h, h'], rfl⟩)
          · exact q_two (F := fun v _ => v = .bool false) (G := fun v _ => v = .bool true) hp (free_of rfl) (gq_some rfl rfl (by simp) rfl (fun v w h => h)) (sq_in 17 rfl rfl (by simp) rfl (fun v w h => h)) (sq_in 25 rfl rfl (by simp) rfl (fun v w h => h)) (fun ρ w hc h h' => ⟨_, by simp [execOp, go_sem, h, h'], rfl⟩)
          · exact q_two (F := fun v _ => v = .bool true) (G := fun v _ => v = .bool true) hp (free_of rfl) trivial (sq_in 13 rfl rfl (by simp) rfl (fun v w h => h)) (sq_in 26 rfl rfl (by simp) rfl (fun v w h => h)) (fun ρ w hc h h' => ⟨_, by simp [execOp, go_sem, h, h'], rfl⟩)
          · exact q_move hp (free_of rfl) trivial (sq_in 27 rfl rfl (by simp) rfl (fun v w h => h))
          · exact q_move hp (free_of rfl) (gq_some rfl rfl (by simp) rfl (fun v w h => h)) (sq_out rfl rfl (fun _ _ => rfl))
          · exact q_one (F := fun v _ => v = .bool false) hp (free_of rfl) (gq_some rfl rfl (by simp) rfl (fun v w h => h)) (sq_in 29 rfl rfl (by simp) rfl (fun v w h => h)) (fun ρ w _ h => ⟨.bool true, by simp [execOp, go_sem, h], rfl⟩)
          · exact q_two (F := fun v _ => v = .bool true) (G := fun v _ => v = .bool true) hp (free_of rfl) trivial (sq_in 28 rfl rfl (by simp) rfl (fun v w h => h)) (sq_in 30 rfl rfl (by simp) rfl (fun v w h => h)) (fun ρ w hc h h' => ⟨_, by simp [execOp, go_sem, h, h'], rfl⟩)
          · exact q_move hp (free_of rfl) trivial (sq_in 31 rfl rfl (by simp) rfl (fun v w h => h))
          · exact q_move hp (free_of rfl) (gq_some rfl rfl (by simp) rfl (fun v w h => h)) (sq_out rfl rfl (fun _ _ => rfl))
          · exact q_two (F := fun v _ => v = .bool true) (G := fun v _ => v = .bool true) hp (free_of rfl) trivial (sq_in 32 rfl rfl (by simp) rfl (fun v w h => h)) (sq_in 33 rfl rfl (by simp) rfl (fun v w h => h)) (fun ρ w hc h h' => ⟨_, by simp [execOp, go_sem, h, h'], rfl⟩)
          · exact q_assign hp (free_of rfl) trivial (sq_in 34 rfl rfl (by simp) rfl (fun v w h => h))
          intro L vs w54 nb hL hC hn E54
          have e0 : vs 0 = .pointer (some ⟨b51_14, 2, none⟩) := hC 0 (by simp)
          have e1 : vs 1 = .int .i64 4 := hC 1 (by simp)
          have e2 : vs 2 = .bool false := hC 2 (by simp)
          have e3 : vs 3 = .bool false := hC 3 (by simp)
          have e4 : vs 4 = .pointer (some ⟨b51_14, 2, none⟩) := hC 4 (by simp)
          have e5 : vs 5 = .int .i64 4 := hC 5 (by simp)
          have e6 : vs 6 = .bool true := hC 6 (by simp)
          have e7 : vs 7 = .bool true := hC 7 (by simp)
          have e8 : vs 8 = .pointer (some ⟨b3, 0, none⟩) := hC 8 (by simp)
          have e9 : vs 9 = .int .i16 i := hC 9 (by simp)
          have e10 : vs 10 = .bool true := hC 10 (by simp)
          have e11 : vs 11 = .bool true := hC 11 (by simp)
          have e12 : vs 12 = .bool true := hC 12 (by simp)
          have e13 : vs 13 = .bool true := hC 13 (by simp)
          have e14 : vs 14 = .pointer (some ⟨b51_15, 2, none⟩) := hC 14 (by simp)
          have e15 : vs 15 = .int .i64 4 := hC 15 (by simp)
          have e16 : vs 16 = .bool false := hC 16 (by simp)
          have e17 : vs 17 = .bool false := hC 17 (by simp)
          have e18 : vs 18 = .pointer (some ⟨b51_15, 2, none⟩) := hC 18 (by simp)
          have e19 : vs 19 = .int .i64 4 := hC 19 (by simp)
          have e20 : vs 20 = .bool true := hC 20 (by simp)
          have e21 : vs 21 = .bool true := hC 21 (by simp)
          have e22 : vs 22 = .pointer (some ⟨b3, 1, none⟩) := hC 22 (by simp)
          have e23 : vs 23 = .int .i16 j := hC 23 (by simp)
          have e24 : vs 24 = .bool true := hC 24 (by simp)
          have e25 : vs 25 = .bool true := hC 25 (by simp)
          have e26 : vs 26 = .bool true := hC 26 (by simp)
          have e27 : vs 27 = .bool true := hC 27 (by simp)
          have e28 : vs 28 = .bool true := hC 28 (by simp)
          have e29 : vs 29 = .bool false := hC 29 (by simp)
          have e30 : vs 30 = .bool true := hC 30 (by simp)
          have e31 : vs 31 = .bool true := hC 31 (by simp)
          have e32 : vs 32 = .bool true := hC 32 (by simp)
          have e33 : vs 33 = .bool true := hC 33 (by simp)
          have e34 : vs 34 = .bool true := hC 34 (by simp)
          have e35 : vs 35 = .bool true := hC 35 (by simp)
          have E : Fr w [(b51_14, 3, Fq.got 0 4), (b51_15, 3, Fq.got 0 4), (b51_16, 3, Fq.got Z R), (b50_8, 2, Fq.num i), (b50_9, 2, Fq.num j), (b46_3, 3, Fq.got 0 4), (b8_7, 2, Fq.num a), (b8_8, 2, Fq.num m), (b3, 2, Fq.is (.agg #[.int .i16 i, .int .i16 j])), (b2, 2, Fq.raw n2 a2 k2 c2 xs2), (b1, 2, Fq.raw n1 a1 k1 c1 xs1)] w54 := E54
          rw [lay_all hL]
          simp only [putAll, dstOf, List.length_cons, List.length_nil, Nat.zero_add, Nat.reduceAdd, List.getElem?_toArray, List.getElem?_cons_zero, List.getElem?_cons_succ, Option.bind_some, Act.put, List.setIfInBounds_toArray, List.set_cons_succ, List.set_cons_zero]
          rw [e0, e1, e2, e3, e4, e5, e6, e7, e8, e9, e10, e11, e12, e13, e14, e15, e16, e17, e18, e19, e20, e21, e22, e23, e24, e25, e26, e27, e28, e29, e30, e31, e32, e33, e34, e35]
          clear e0 e1 e2 e3 e4 e5 e6 e7 e8 e9 e10 e11 e12 e13 e14 e15 e16 e17 e18 e19 e20 e21 e22 e23 e24 e25 e26 e27 e28 e29 e30 e31 e32 e33 e34 e35 hC hn E54 hL vs L nb
          clear OI OJ HZ HR HG PM NM HM
          clear B6 B7 B47 Ba Bb hT BM BI BJ
          go_wp2
          refine bodyPost_ret (v := .bool true) ?_ rfl ⟨rfl, E.below⟩
          simp [results, Tryd.results3, go_sem]
        · obtain ⟨Z, hZ⟩ : ∃ Z, Z = if 0 ≤ i + j then powM a (i + j) m else 0 := ⟨_, rfl⟩
          obtain ⟨R, hR⟩ : ∃ R : Int, R = if 0 ≤ i + j then 0 else 4 := ⟨_, rfl⟩
          have HZ := hidd hZ
          have HR := hidd hR
          clear hZ hR
          have OI : Hid (i < 0) := by show _ < _; omega
          have OJ : Hid (0 ≤ j) := by show _ ≤ _; omega
          clear hij hi hj
          have TG : Hid (¬ cmpI (Int.gcd a m : Int) (1) = 0) := by
            show ¬ _ = _
            rw [cmpI_eq0]; omega
          have HG := hidd hg
          clear hg
          go_upto_region 5 with (fail)
          refine region_fr (C := [Fq.num a, Fq.num m, Fq.got 0 4, Fq.any, Fq.any]) (ks := [none, none, none, none, none]) (new := [⟨3, 4, 3, Fq.got 0 0, Fq.got 0 4, none⟩]) E rfl (by kernel_rfl) rfl rfl (fun hp => ⟨?_, ?_, ?_, ?_, ?_, trivial⟩) ?_
          · exact q_loadInt (off := 0) hp (free_of rfl) trivial (List.mem_iff_getElem?.2 ⟨0, rfl⟩) (.inl rfl) (Nat.le_of_ble_eq_true rfl) (sq_out rfl rfl (fun _ _ => rfl)) (fun us w hl h => ld_num hl h)
          · exact q_loadInt (off := 0) hp (free_of rfl) trivial (List.mem_iff_getElem?.2 ⟨1, rfl⟩) (.inl rfl) (Nat.le_of_ble_eq_true rfl) (sq_out rfl rfl (fun _ _ => rfl)) (fun us w hl h => ld_num hl h)
          · exact q_call2 (F := (Fq.num a).P) (G := (Fq.num m).P) hp (free_of rfl) trivial (enq_V_inv) (sq_in 0 rfl rfl (by simp) rfl (fun v w h => h)) (sq_in 1 rfl rfl (by simp) rfl (fun v w h => h)) (fun v v' w h h' => exVInvN h h' (Int.lt_of_lt_of_le Ba.out (pw_le (by omega))) (Int.lt_of_lt_of_le BM.out (pw_le (by omega))) PM.out HG.out)
          · exact q_allocGot hp (List.mem_iff_getElem?.2 ⟨0, rfl⟩) rfl rfl rfl rfl (Nat.ne_of_beq_eq_false rfl) (fun _ _ => trivial) (old_ne rfl) (newk_ne rfl) (fun w => Got.zero w)
          · exact q_storeNewGot hp (List.mem_iff_getElem?.2 ⟨0, rfl⟩) rfl rfl rfl (own_ptr rfl rfl (by simp) rfl) (sq_in 2 rfl rfl (by simp) rfl (fun v w h => h.partsV)) (fun _ _ => trivial) (old_ne rfl) (newi_ne rfl)
          intro L vs w55 nb hL hC hn E55
          have e3 : vs 3 = .pointer (some ⟨nb 3, 0, none⟩) := hn _ (List.mem_iff_getElem?.2 ⟨0, rfl⟩)
          have E : Fr w [(nb 3, 3, Fq.got 0 4), (b8_7, 2, Fq.num a), (b8_8, 2, Fq.num m), (b3, 2, Fq.is (.agg #[.int .i16 i, .int .i16 j])), (b2, 2, Fq.raw n2 a2 k2 c2 xs2), (b1, 2, Fq.raw n1 a1 k1 c1 xs1)] w55 := E55
          rw [lay_all hL]
          simp only [putAll, dstOf, List.length_cons, List.length_nil, Nat.zero_add, Nat.reduceAdd, List.getElem?_toArray, List.getElem?_cons_zero, List.getElem?_cons_succ, Option.bind_some, Act.put, List.setIfInBounds_toArray, List.set_cons_succ, List.set_cons_zero]
          rw [e3]
          generalize nb 3 = b55_3 at E ⊢
          generalize vs 0 = u55_0
          generalize vs 1 = u55_1
          generalize vs 2 = u55_2
          clear e3 hC hn E55 hL vs L nb
          go_upto_region 6 with (fail)
          have B56 : Hid (ab ((Int.gcd a m : Int)) < pw 4) := ab_gcdB Ba.out BM.out (by omega) (by omega)
          refine region_fr (C := [Fq.num a, Fq.num m, Fq.num (Int.gcd a m : Int), Fq.num (1), Fq.is (.int .i64 (cmpI (Int.gcd a m : Int) (1))), Fq.is (.bool false), Fq.is (.bool false)]) (ks := [none, none, none, none, none, none]) (new := []) E rfl (by kernel_rfl) rfl rfl (fun hp => ⟨?_, ?_, ?_, ?_, ?_, ?_, ?_, trivial⟩) ?_
          · exact q_loadInt (off := 0) hp (free_of rfl) trivial (List.mem_iff_getElem?.2 ⟨1, rfl⟩) (.inl rfl) (Nat.le_of_ble_eq_true rfl) (sq_out rfl rfl (fun _ _ => rfl)) (fun us w hl h => ld_num hl h)
          · exact q_loadInt (off := 0) hp (free_of rfl) trivial (List.mem_iff_getElem?.2 ⟨2, rfl⟩) (.inl rfl) (Nat.le_of_ble_eq_true rfl) (sq_out rfl rfl (fun _ _ => rfl)) (fun us w hl h => ld_num hl h)
          · exact q_call2 (F := (Fq.num a).P) (G := (Fq.num m).P) hp (free_of rfl) trivial (enq_Gcd) (sq_in 0 rfl rfl (by simp) rfl (fun v w h => h)) (sq_in 1 rfl rfl (by simp) rfl (fun v w h => h)) (fun v v' w h h' => exK (GcdV h h') B56.out (by omega))
          · exact q_call1 (F := (Fq.is (.int .i64 1)).P) hp (free_of rfl) trivial (enq_V_of) (sq_const (fun _ => rfl)) (fun v w h => (by subst h; exact exVOf (by omega)))
          · exact q_call2 (F := (Fq.num (Int.gcd a m : Int)).P) (G := (Fq.num (1)).P) hp (free_of rfl) trivial (enq_Cmp) (sq_in 2 rfl rfl (by simp) rfl (fun v w h => h)) (sq_in 3 rfl rfl (by simp) rfl (fun v w h => h)) (fun v v' w h h' => exCmp h h')
          · exact q_one (F := fun v _ => v = .int .i64 (cmpI (Int.gcd a m : Int) (1))) hp (free_of rfl) trivial (sq_in 4 rfl rfl (by simp) rfl (fun v w h => h)) (fun ρ w hc h => ⟨.bool false, by simp [execOp, go_sem, h, hc, TG.out], rfl⟩)
          · exact q_assign hp (free_of rfl) trivial (sq_in 5 rfl rfl (by simp) rfl (fun v w h => h))
          intro L vs w57 nb hL hC hn E57
          have e4 : vs 4 = .int .i64 (cmpI (Int.gcd a m : Int) (1)) := hC 4 (by simp)
          have e5 : vs 5 = .bool false := hC 5 (by simp)
          have e6 : vs 6 = .bool false := hC 6 (by simp)
          have E : Fr w [(b55_3, 3, Fq.got 0 4), (b8_7, 2, Fq.num a), (b8_8, 2, Fq.num m), (b3, 2, Fq.is (.agg #[.int .i16 i, .int .i16 j])), (b2, 2, Fq.raw n2 a2 k2 c2 xs2), (b1, 2, Fq.raw n1 a1 k1 c1 xs1)] w57 := E57
          rw [lay_all hL]
          simp only [putAll, dstOf, List.length_cons, List.length_nil, Nat.zero_add, Nat.reduceAdd, List.getElem?_toArray, List.getElem?_cons_zero, List.getElem?_cons_succ, Option.bind_some, Act.put, List.setIfInBounds_toArray, List.set_cons_succ, List.set_cons_zero]
          rw [e4, e5, e6]
          generalize vs 0 = u57_0
          generalize vs 1 = u57_1
          generalize vs 2 = u57_2
          generalize vs 3 = u57_3
          clear e4 e5 e6 hC hn E57 hL vs L nb
          clear TG
          go_upto_region 7 with (fail)
          refine region_fr (C := [Fq.is (.pointer (some ⟨b55_3, 2, none⟩)), Fq.is (.int .i64 4), Fq.is (.bool false), Fq.is (.bool false), Fq.is (.bool false)]) (ks := [none, none, none, none, none, none]) (new := []) E rfl (by kernel_rfl) rfl rfl (fun hp => ⟨?_, ?_, ?_, ?_, ?_, trivial⟩) ?_
          · exact q_addr (b := b55_3) (off := 0) (off' := 2) hp (free_of rfl) trivial (sq_out rfl rfl (fun _ _ => rfl)) (fun ρ w h => by simp [execOp, go_sem, h]) (fun _ => rfl)
          · exact q_loadErr (r := 4) hp (free_of rfl) trivial (List.mem_iff_getElem?.2 ⟨0, rfl⟩) (.inl rfl) rfl (sq_in 0 rfl rfl (by simp) rfl (fun v w h => h)) (fun us w hl h => ld_got2 hl h) (fun _ => rfl)
          · exact q_one (F := fun v _ => v = .int .i64 4) hp (free_of rfl) trivial (sq_in 1 rfl rfl (by simp) rfl (fun v w h => h)) (fun ρ w hc h => ⟨.bool false, by simp [execOp, go_sem, h, hc], rfl⟩)
          · exact q_move hp (free_of rfl) trivial (sq_out rfl rfl (fun _ _ => rfl))
          · exact q_two (F := fun v _ => v = .bool false) (G := fun v _ => v = .bool false) hp (free_of rfl) trivial (sq_in 2 rfl rfl (by simp) rfl (fun v w h => h)) (sq_in 3 rfl rfl (by simp) rfl (fun v w h => h)) (fun ρ w hc h h' => ⟨.bool false, by simp [execOp, go_sem, h, h'], rfl⟩)
          intro L vs w58 nb hL hC hn E58
          have e0 : vs 0 = .pointer (some ⟨b55_3, 2, none⟩) := hC 0 (by simp)
          have e1 : vs 1 = .int .i64 4 := hC 1 (by simp)
          have e2 : vs 2 = .bool false := hC 2 (by simp)
          have e3 : vs 3 = .bool false := hC 3 (by simp)
          have e4 : vs 4 = .bool false := hC 4 (by simp)
          have E : Fr w [(b55_3, 3, Fq.got 0 4), (b8_7, 2, Fq.num a), (b8_8, 2, Fq.num m), (b3, 2, Fq.is (.agg #[.int .i16 i, .int .i16 j])), (b2, 2, Fq.raw n2 a2 k2 c2 xs2), (b1, 2, Fq.raw n1 a1 k1 c1 xs1)] w58 := E58
          rw [lay_all hL]
          simp only [putAll, dstOf, List.length_cons, List.length_nil, Nat.zero_add, Nat.reduceAdd, List.getElem?_toArray, List.getElem?_cons_zero, List.getElem?_cons_succ, Option.bind_some, Act.put, List.setIfInBounds_toArray, List.set_cons_succ, List.set_cons_zero]
          rw [e0, e1, e2, e3, e4]
          clear e0 e1 e2 e3 e4 hC hn E58 hL vs L nb
          go_upto_region 9 with (fail)
          refine region_fr (C := [Fq.is (.pointer (some ⟨b3, 0, none⟩)), Fq.is (.int .i16 i), Fq.is (.int .i64 i), Fq.num i, Fq.is (.pointer (some ⟨b3, 1, none⟩)), Fq.is (.int .i16 j), Fq.is (.int .i64 j), Fq.num j, Fq.any, Fq.any, Fq.any, Fq.any]) (ks := [none, none, none, none, none, none]) (new := [⟨8, 10, 2, Fq.num 0, Fq.num i, none⟩, ⟨9, 11, 2, Fq.num 0, Fq.num j, none⟩]) E rfl (by kernel_rfl) rfl rfl (fun hp => ⟨?_, ?_, ?_, ?_, ?_, ?_, ?_, ?_, ?_, ?_, ?_, ?_, trivial⟩) ?_
          · exact q_one (F := fun v _ => v = .pointer (some ⟨b3, 0, none⟩)) hp (free_of rfl) trivial (sq_out (s := 5) rfl rfl (fun _ _ => rfl)) (fun ρ w hc h => ⟨.pointer (some ⟨b3, 0, none⟩), by simp [execOp, go_sem, h, hc], rfl⟩)
          · exact q_loadI16 (off := 0) (v := .int .i16 i) hp (free_of rfl) trivial (List.mem_iff_getElem?.2 ⟨3, rfl⟩) (.inl rfl) (Nat.le_of_ble_eq_true rfl) (sq_in 0 rfl rfl (by simp) rfl (fun v w h => h)) (fun us w hl h => ⟨ld_i16s0 hl h, rfl⟩)
          · exact q_one (F := fun v _ => v = .int .i16 i) hp (free_of rfl) trivial (sq_in 1 rfl rfl (by simp) rfl (fun v w h => h)) (fun ρ w hc h => ⟨.int .i64 i, by simp [execOp, go_sem, h, WI.out], rfl⟩)
          · exact q_call1 (F := (Fq.is (.int .i64 i)).P) hp (free_of rfl) trivial (enq_V_of) (sq_in 2 rfl rfl (by simp) rfl (fun v w h => h)) (fun v w h => (by subst h; exact exVOf RI.out))
          · exact q_one (F := fun v _ => v = .pointer (some ⟨b3, 0, none⟩)) hp (free_of rfl) trivial (sq_out (s := 5) rfl rfl (fun _ _ => rfl)) (fun ρ w hc h => ⟨.pointer (some ⟨b3, 1, none⟩), by simp [execOp, go_sem, h, hc], rfl⟩)
          · exact q_loadI16 (off := 1) (v := .int .i16 j) hp (free_of rfl) trivial (List.mem_iff_getElem?.2 ⟨3, rfl⟩) (.inl rfl) (Nat.le_of_ble_eq_true rfl) (sq_in 4 rfl rfl (by simp) rfl (fun v w h => h)) (fun us w hl h => ⟨ld_i16s1 hl h, rfl⟩)
          · exact q_one (F := fun v _ => v = .int .i16 j) hp (free_of rfl) trivial (sq_in 5 rfl rfl (by simp) rfl (fun v w h => h)) (fun ρ w hc h => ⟨.int .i64 j, by simp [execOp, go_sem, h, WJ.out], rfl⟩)
          · exact q_call1 (F := (Fq.is (.int .i64 j)).P) hp (free_of rfl) trivial (enq_V_of) (sq_in 6 rfl rfl (by simp) rfl (fun v w h => h)) (fun v w h => (by subst h; exact exVOf RJ.out))
          · exact q_allocInt hp (List.mem_iff_getElem?.2 ⟨0, rfl⟩) rfl rfl rfl rfl (Nat.ne_of_beq_eq_false rfl) (fun _ _ => trivial) (old_ne rfl) (newk_ne rfl) (fun w => Num.zero w)
          · exact q_allocInt hp (List.mem_iff_getElem?.2 ⟨1, rfl⟩) rfl rfl rfl rfl (Nat.ne_of_beq_eq_false rfl) (fun _ _ => trivial) (old_ne rfl) (newk_ne rfl) (fun w => Num.zero w)
          · exact q_storeNewInt hp (List.mem_iff_getElem?.2 ⟨0, rfl⟩) rfl rfl rfl (own_ptr rfl rfl (by simp) rfl) (sq_in 3 rfl rfl (by simp) rfl (fun v w h => intV_num h)) (fun _ _ => trivial) (old_ne rfl) (newi_ne rfl)
          · exact q_storeNewInt hp (List.mem_iff_getElem?.2 ⟨1, rfl⟩) rfl rfl rfl (own_ptr rfl rfl (by simp) rfl) (sq_in 7 rfl rfl (by simp) rfl (fun v w h => intV_num h)) (fun _ _ => trivial) (old_ne rfl) (newi_ne rfl)
          intro L vs w59 nb hL hC hn E59
          have e0 : vs 0 = .pointer (some ⟨b3, 0, none⟩) := hC 0 (by simp)
          have e1 : vs 1 = .int .i16 i := hC 1 (by simp)
          have e2 : vs 2 = .int .i64 i := hC 2 (by simp)
          have e4 : vs 4 = .pointer (some ⟨b3, 1, none⟩) := hC 4 (by simp)
          have e5 : vs 5 = .int .i16 j := hC 5 (by simp)
          have e6 : vs 6 = .int .i64 j := hC 6 (by simp)
          have e8 : vs 8 = .pointer (some ⟨nb 8, 0, none⟩) := hn _ (List.mem_iff_getElem?.2 ⟨0, rfl⟩)
          have e9 : vs 9 = .pointer (some ⟨nb 9, 0, none⟩) := hn _ (List.mem_iff_getElem?.2 ⟨1, rfl⟩)
          have E : Fr w [(nb 8, 2, Fq.num i), (nb 9, 2, Fq.num j), (b55_3, 3, Fq.got 0 4), (b8_7, 2, Fq.num a), (b8_8, 2, Fq.num m), (b3, 2, Fq.is (.agg #[.int .i16 i, .int .i16 j])), (b2, 2, Fq.raw n2 a2 k2 c2 xs2), (b1, 2, Fq.raw n1 a1 k1 c1 xs1)] w59 := E59
          rw [lay_all hL]
          simp only [putAll, dstOf, List.length_cons, List.length_nil, Nat.zero_add, Nat.reduceAdd, List.getElem?_toArray, List.getElem?_cons_zero, List.getElem?_cons_succ, Option.bind_some, Act.put, List.setIfInBounds_toArray, List.set_cons_succ, List.set_cons_zero]
          rw [e0, e1, e2, e4, e5, e6, e8, e9]
          generalize nb 8 = b59_8 at E ⊢
          generalize nb 9 = b59_9 at E ⊢
          generalize vs 3 = u59_3
          generalize vs 7 = u59_7
          clear e0 e1 e2 e4 e5 e6 e8 e9 hC hn E59 hL vs L nb
          clear WI WJ RI RJ
          go_upto_region 10 with (fail)
          have B60 : Hid (ab ((powM a j m)) < pw 4) := powM_ab PM.out BM.out
          refine region_fr (C := [Fq.num a, Fq.num i, Fq.num m, Fq.got 0 4, Fq.num a, Fq.num j, Fq.num m, Fq.got (powM a j m) 0, Fq.num a, Fq.num i, Fq.num j, Fq.num (i + j), Fq.num m, Fq.got Z R, Fq.any, Fq.any, Fq.any, Fq.any, Fq.any, Fq.any]) (ks := [none, none, none, none, none, none, none, none]) (new := [⟨14, 17, 3, Fq.got 0 0, Fq.got 0 4, none⟩, ⟨15, 18, 3, Fq.got 0 0, Fq.got (powM a j m) 0, none⟩, ⟨16, 19, 3, Fq.got 0 0, Fq.got Z R, none⟩]) E rfl (by kernel_rfl) rfl rfl (fun hp => ⟨?_, ?_, ?_, ?_, ?_, ?_, ?_, ?_, ?_, ?_, ?_, ?_, ?_, ?_, ?_, ?_, ?_, ?_, ?_, ?_, trivial⟩) ?_
          · exact q_loadInt (off := 0) hp (free_of rfl) trivial (List.mem_iff_getElem?.2 ⟨3, rfl⟩) (.inl rfl) (Nat.le_of_ble_eq_true rfl) (sq_out rfl rfl (fun _ _ => rfl)) (fun us w hl h => ld_num hl h)
          · exact q_loadInt (off := 0) hp (free_of rfl) trivial (List.mem_iff_getElem?.2 ⟨0, rfl⟩) (.inl rfl) (Nat.le_of_ble_eq_true rfl) (sq_out rfl rfl (fun _ _ => rfl)) (fun us w hl h => ld_num hl h)
          · exact q_loadInt (off := 0) hp (free_of rfl) trivial (List.mem_iff_getElem?.2 ⟨4, rfl⟩) (.inl rfl) (Nat.le_of_ble_eq_true rfl) (sq_out rfl rfl (fun _ _ => rfl)) (fun us w hl h => ld_num hl h)
          · exact q_call3 (F := (Fq.num a).P) (G := (Fq.num i).P) (F3 := (Fq.num m).P) hp (free_of rfl) trivial (enq_V_pow) (sq_in 0 rfl rfl (by simp) rfl (fun v w h => h)) (sq_in 1 rfl rfl (by simp) rfl (fun v w h => h)) (sq_in 2 rfl rfl (by simp) rfl (fun v w h => h)) (fun v v' u w h h' g => exVPowNo h h' g (Int.lt_of_lt_of_le Ba.out (pw_le (by omega))) (Int.lt_of_lt_of_le BI.out (pw_le (by omega))) (Int.lt_of_lt_of_le BM.out (pw_le (by omega))) PM.out HG.out OI.out)
          · exact q_loadInt (off := 0) hp (free_of rfl) trivial (List.mem_iff_getElem?.2 ⟨3, rfl⟩) (.inl rfl) (Nat.le_of_ble_eq_true rfl) (sq_out rfl rfl (fun _ _ => rfl)) (fun us w hl h => ld_num hl h)
          · exact q_loadInt (off := 0) hp (free_of rfl) trivial (List.mem_iff_getElem?.2 ⟨1, rfl⟩) (.inl rfl) (Nat.le_of_ble_eq_true rfl) (sq_out rfl rfl (fun _ _ => rfl)) (fun us w hl h => ld_num hl h)
          · exact q_loadInt (off := 0) hp (free_of rfl) trivial (List.mem_iff_getElem?.2 ⟨4, rfl⟩) (.inl rfl) (Nat.le_of_ble_eq_true rfl) (sq_out rfl rfl (fun _ _ => rfl)) (fun us w hl h => ld_num hl h)
          · exact q_call3 (F := (Fq.num a).P) (G := (Fq.num j).P) (F3 := (Fq.num m).P) hp (free_of rfl) trivial (enq_V_pow) (sq_in 4 rfl rfl (by simp) rfl (fun v w h => h)) (sq_in 5 rfl rfl (by simp) rfl (fun v w h => h)) (sq_in 6 rfl rfl (by simp) rfl (fun v w h => h)) (fun v v' u w h h' g => exVPowOk h h' g (Int.lt_of_lt_of_le Ba.out (pw_le (by omega))) (Int.lt_of_lt_of_le BJ.out (pw_le (by omega))) (Int.lt_of_lt_of_le BM.out (pw_le (by omega))) PM.out (.inr OJ.out))
          · exact q_loadInt (off := 0) hp (free_of rfl) trivial (List.mem_iff_getElem?.2 ⟨3, rfl⟩) (.inl rfl) (Nat.le_of_ble_eq_true rfl) (sq_out rfl rfl (fun _ _ => rfl)) (fun us w hl h => ld_num hl h)
          · exact q_loadInt (off := 0) hp (free_of rfl) trivial (List.mem_iff_getElem?.2 ⟨0, rfl⟩) (.inl rfl) (Nat.le_of_ble_eq_true rfl) (sq_out rfl rfl (fun _ _ => rfl)) (fun us w hl h => ld_num hl h)
          · exact q_loadInt (off := 0) hp (free_of rfl) trivial (List.mem_iff_getElem?.2 ⟨1, rfl⟩) (.inl rfl) (Nat.le_of_ble_eq_true rfl) (sq_out rfl rfl (fun _ _ => rfl)) (fun us w hl h => ld_num hl h)
          · exact q_call2 (F := (Fq.num i).P) (G := (Fq.num j).P) hp (free_of rfl) trivial (enq_Add) (sq_in 9 rfl rfl (by simp) rfl (fun v w h => h)) (sq_in 10 rfl rfl (by simp) rfl (fun v w h => h)) (fun v v' w h h' => exK (AddV h h') (ab_addB (m := 4) BI.out BJ.out (by omega) (by omega)) (by omega))
          · exact q_loadInt (off := 0) hp (free_of rfl) trivial (List.mem_iff_getElem?.2 ⟨4, rfl⟩) (.inl rfl) (Nat.le_of_ble_eq_true rfl) (sq_out rfl rfl (fun _ _ => rfl)) (fun us w hl h => ld_num hl h)
          · exact q_call3 (F := (Fq.num a).P) (G := (Fq.num (i + j)).P) (F3 := (Fq.num m).P) hp (free_of rfl) trivial (enq_V_pow) (sq_in 8 rfl rfl (by simp) rfl (fun v w h => h)) (sq_in 11 rfl rfl (by simp) rfl (fun v w h => h)) (sq_in 12 rfl rfl (by simp) rfl (fun v w h => h)) (fun v v' u w h h' g => exVPowAny h h' g (Int.lt_of_lt_of_le Ba.out (pw_le (by omega))) (Int.lt_of_lt_of_le (ab_addB (m := 4) BI.out BJ.out (by omega) (by omega)) (pw_le (by omega))) (Int.lt_of_lt_of_le BM.out (pw_le (by omega))) PM.out HG.out HZ.out HR.out)
          · exact q_allocGot hp (List.mem_iff_getElem?.2 ⟨0, rfl⟩) rfl rfl rfl rfl (Nat.ne_of_beq_eq_false rfl) (fun _ _ => trivial) (old_ne rfl) (newk_ne rfl) (fun w => Got.zero w)
          · exact q_allocGot hp (List.mem_iff_getElem?.2 ⟨1, rfl⟩) rfl rfl rfl rfl (Nat.ne_of_beq_eq_false rfl) (fun _ _ => trivial) (old_ne rfl) (newk_ne rfl) (fun w => Got.zero w)
          · exact q_allocGot hp (List.mem_iff_getElem?.2 ⟨2, rfl⟩) rfl rfl rfl rfl (Nat.ne_of_beq_eq_false rfl) (fun _ _ => trivial) (old_ne rfl) (newk_ne rfl) (fun w => Got.zero w)
          · exact q_storeNewGot hp (List.mem_iff_getElem?.2 ⟨0, rfl⟩) rfl rfl rfl (own_ptr rfl rfl (by simp) rfl) (sq_in 3 rfl rfl (by simp) rfl (fun v w h => h.partsV)) (fun _ _ => trivial) (old_ne rfl) (newi_ne rfl)
          · exact q_storeNewGot hp (List.mem_iff_getElem?.2 ⟨1, rfl⟩) rfl rfl rfl (own_ptr rfl rfl (by simp) rfl) (sq_in 7 rfl rfl (by simp) rfl (fun v w h => h.partsV)) (fun _ _ => trivial) (old_ne rfl) (newi_ne rfl)
          · exact q_storeNewGot hp (List.mem_iff_getElem?.2 ⟨2, rfl⟩) rfl rfl rfl (own_ptr rfl rfl (by simp) rfl) (sq_in 13 rfl rfl (by simp) rfl (fun v w h => h.partsV)) (fun _ _ => trivial) (old_ne rfl) (newi_ne rfl)
          intro L vs w61 nb hL hC hn E61
          have e14 : vs 14 = .pointer (some ⟨nb 14, 0, none⟩) := hn _ (List.mem_iff_getElem?.2 ⟨0, rfl⟩)
          have e15 : vs 15 = .pointer (some ⟨nb 15, 0, none⟩) := hn _ (List.mem_iff_getElem?.2 ⟨1, rfl⟩)
          have e16 : vs 16 = .pointer (some ⟨nb 16, 0, none⟩) := hn _ (List.mem_iff_getElem?.2 ⟨2, rfl⟩)
          have E : Fr w [(nb 14, 3, Fq.got 0 4), (nb 15, 3, Fq.got (powM a j m) 0), (nb 16, 3, Fq.got Z R), (b59_8, 2, Fq.num i), (b59_9, 2, Fq.num j), (b55_3, 3, Fq.got 0 4), (b8_7, 2, Fq.num a), (b8_8, 2, Fq.num m), (b3, 2, Fq.is (.agg #[.int .i16 i, .int .i16 j])), (b2, 2, Fq.raw n2 a2 k2 c2 xs2), (b1, 2, Fq.raw n1 a1 k1 c1 xs1)] w61 := E61
          rw [lay_all hL]
          simp only [putAll, dstOf, List.length_cons, List.length_nil, Nat.zero_add, Nat.reduceAdd, List.getElem?_toArray, List.getElem?_cons_zero, List.getElem?_cons_succ, Option.bind_some, Act.put, List.setIfInBounds_toArray, List.set_cons_succ, List.set_cons_zero]
          rw [e14, e15, e16]
          generalize nb 14 = b61_14 at E ⊢
          generalize nb 15 = b61_15 at E ⊢
          generalize nb 16 = b61_16 at E ⊢
          generalize vs 0 = u61_0
          generalize vs 1 = u61_1
          generalize vs 2 = u61_2
          generalize vs 3 = u61_3
          generalize vs 4 = u61_4
          generalize vs 5 = u61_5
          generalize vs 6 = u61_6
          generalize vs 7 = u61_7
          generalize vs 8 = u61_8
          generalize vs 9 = u61_9
          generalize vs 10 = u61_10
          generalize vs 11 = u61_11
          generalize vs 12 = u61_12
          generalize vs 13 = u61_13
          clear e14 e15 e16 hC hn E61 hL vs L nb
          go_upto_region 11 with (fail)
          refine region_fr (C := [Fq.is (.bool false)]) (ks := [none, none, none, none, none, none, none, none, none, none, none]) (new := []) E rfl (by kernel_rfl) rfl rfl (fun hp => ⟨?_, trivial⟩) ?_
          · exact q_move hp (free_of rfl) trivial (sq_out rfl rfl (fun _ _ => rfl))
          intro L vs w62 nb hL hC hn E62
          have e0 : vs 0 = .bool false := hC 0 (by simp)
          have E : Fr w [(b61_14, 3, Fq.got 0 4), (b61_15, 3, Fq.got (powM a j m) 0), (b61_16, 3, Fq.got Z R), (b59_8, 2, Fq.num i), (b59_9, 2, Fq.num j), (b55_3, 3, Fq.got 0 4), (b8_7, 2, Fq.num a), (b8_8, 2, Fq.num m), (b3, 2, Fq.is (.agg #[.int .i16 i, .int .i16 j])), (b2, 2, Fq.raw n2 a2 k2 c2 xs2), (b1, 2, Fq.raw n1 a1 k1 c1 xs1)] w62 := E62
          rw [lay_all hL]
          simp only [putAll, dstOf, List.length_cons, List.length_nil, Nat.zero_add, List.getElem?_toArray, List.getElem?_cons_zero, Option.bind_some, Act.put, List.setIfInBounds_toArray, List.set_cons_succ, List.set_cons_zero]
          rw [e0]
          clear e0 hC hn E62 hL vs L nb
          go_upto_region 16 with (fail)
          refine region_fr (C := [Fq.is (.pointer (some ⟨b61_14, 2, none⟩)), Fq.is (.int .i64 4), Fq.is (.bool true), Fq.is (.bool true), Fq.is (undef), Fq.is (undef), Fq.is (undef), Fq.is (.bool true)]) (ks := [none, none, none, none, none, none, none, none, none, none, none]) (new := []) E rfl (by kernel_rfl) rfl rfl (fun hp => ⟨?_, ?_, ?_, ?_, ?_, ?_, ?_, ?_, trivial⟩) ?_
          · exact q_addr (b := b61_14) (off := 0) (off' := 2) hp (free_of rfl) trivial (sq_out rfl rfl (fun _ _ => rfl)) (fun ρ w h => by simp [execOp, go_sem, h]) (fun _ => rfl)
          · exact q_loadErr (r := 4) hp (free_of rfl) trivial (List.mem_iff_getElem?.2 ⟨0, rfl⟩) (.inl rfl) rfl (sq_in 0 rfl rfl (by simp) rfl (fun v w h => h)) (fun us w hl h => ld_got2 hl h) (fun _ => rfl)
          · exact q_one (F := fun v _ => v = .int .i64 4) hp (free_of rfl) trivial (sq_in 1 rfl rfl (by simp) rfl (fun v w h => h)) (fun ρ w hc h => ⟨.bool true, by simp [execOp, go_sem, h, hc], rfl⟩)
          · exact q_move hp (free_of rfl) trivial (sq_in 2 rfl rfl (by simp) rfl (fun v w h => h))
          · exact q_skip hp (free_of rfl) rfl (gq_some rfl rfl (by simp) rfl (fun v w h => h)) (fun _ => rfl)
          · exact q_skip hp (free_of rfl) rfl (gq_some rfl rfl (by simp) rfl (fun v w h => h)) (fun _ => rfl)
          · exact q_skip hp (free_of rfl) rfl (gq_some rfl rfl (by simp) rfl (fun v w h => h)) (fun _ => rfl)
          · exact q_two (F := fun v _ => v = .bool true) (G := fun v _ => v = .bool true) hp (free_of rfl) trivial (sq_in 3 rfl rfl (by simp) rfl (fun v w h => h)) (sq_const (fun _ => rfl)) (fun ρ w hc h h' => ⟨_, by simp [execOp, go_sem, h, h'], rfl⟩)
          intro L vs w63 nb hL hC hn E63
          have e0 : vs 0 = .pointer (some ⟨b61_14, 2, none⟩) := hC 0 (by simp)
          have e1 : vs 1 = .int .i64 4 := hC 1 (by simp)
          have e2 : vs 2 = .bool true := hC 2 (by simp)
          have e3 : vs 3 = .bool true := hC 3 (by simp)
          have e4 : vs 4 = undef := hC 4 (by simp)
          have e5 : vs 5 = undef := hC 5 (by simp)
          have e6 : vs 6 = undef := hC 6 (by simp)
          have e7 : vs 7 = .bool true := hC 7 (by simp)
          have E : Fr w [(b61_14, 3, Fq.got 0 4), (b61_15, 3, Fq.got (powM a j m) 0), (b61_16, 3, Fq.got Z R), (b59_8, 2, Fq.num i), (b59_9, 2, Fq.num j), (b55_3, 3, Fq.got 0 4), (b8_7, 2, Fq.num a), (b8_8, 2, Fq.num m), (b3, 2, Fq.is (.agg #[.int .i16 i, .int .i16 j])), (b2, 2, Fq.raw n2 a2 k2 c2 xs2), (b1, 2, Fq.raw n1 a1 k1 c1 xs1)] w63 := E63
          rw [lay_all hL]
          simp only [putAll, dstOf, List.length_cons, List.length_nil, Nat.zero_add, Nat.reduceAdd, List.getElem?_toArray, List.getElem?_cons_zero, List.getElem?_cons_succ, Option.bind_some, Act.put, List.setIfInBounds_toArray, List.set_cons_succ, List.set_cons_zero]
          rw [e0, e1, e2, e3, e4, e5, e6, e7]
          clear e0 e1 e2 e3 e4 e5 e6 e7 hC hn E63 hL vs L nb
          go_upto_region 17 with (fail)
          refine region_fr (C := [Fq.is (.pointer (some ⟨b61_14, 2, none⟩)), Fq.is (.int .i64 4), Fq.is (.bool false), Fq.is (.bool false), Fq.is (.pointer (some ⟨b61_14, 2, none⟩)), Fq.is (.int .i64 4), Fq.is (.bool true), Fq.is (.bool true), Fq.is (.pointer (some ⟨b3, 0, none⟩)), Fq.is (.int .i16 i), Fq.is (.bool true), Fq.is (.bool true), Fq.is (.bool true), Fq.is (.bool true), Fq.is (.pointer (some ⟨b61_15, 2, none⟩)), Fq.is (.int .i64 0), Fq.is (.bool true), Fq.is (.bool true), Fq.is (undef), Fq.is (undef), Fq.is (undef), Fq.is (undef), Fq.is (undef), Fq.is (undef), Fq.is (undef), Fq.is (undef), Fq.is (.bool true), Fq.is (.bool true), Fq.is (.bool true), Fq.is (.bool false), Fq.is (.bool true), Fq.is (.bool true), Fq.is (.bool true), Fq.is (.bool true), Fq.is (.bool true), Fq.is (.bool true)]) (ks := [none, none, none, none, none, none, none, none, none, none, none]) (new := []) E rfl (by kernel_rfl) rfl rfl (fun hp => ⟨?_, ?_, ?_, ?_, ?_, ?_, ?_, ?_, ?_, ?_, ?_, ?_, ?_, ?_, ?_, ?_, ?_, ?_, ?_, ?_, ?_, ?_, ?_, ?_, ?_, ?_, ?_, ?_, ?_, ?_, ?_, ?_, ?_, ?_, ?_, ?_, trivial⟩) ?_
          · exact q_addr (b := b61_14) (off := 0) (off' := 2) hp (free_of rfl) trivial (sq_out rfl rfl (fun _ _ => rfl)) (fun ρ w h => by simp [execOp, go_sem, h]) (fun _ => rfl)
          · exact q_loadErr (r := 4) hp (free_of rfl) trivial (List.mem_iff_getElem?.2 ⟨0, rfl⟩) (.inl rfl) rfl (sq_in 0 rfl rfl (by simp) rfl (fun v w h => h)) (fun us w hl h => ld_got2 hl h) (fun _ => rfl)
          · exact q_one (F := fun v _ => v = .int .i64 4) hp (free_of rfl) trivial (sq_in 1 rfl rfl (by simp) rfl (fun v w h => h)) (fun ρ w hc h => ⟨.bool false, by simp [execOp, go_sem, h, hc], rfl⟩)
          · exact q_move hp (free_of rfl) trivial (sq_in 2 rfl rfl (by simp) rfl (fun v w h => h))
          · exact q_addr (b := b61_14) (off := 0) (off' := 2) hp (free_of rfl) (gq_some rfl rfl (by simp) rfl (fun v w h => h)) (sq_out rfl rfl (fun _ _ => rfl)) (fun ρ w h => by simp [execOp, go_sem, h]) (fun _ => rfl)
          · exact q_loadErr (r := 4) hp (free_of rfl) (gq_some rfl rfl (by simp) rfl (fun v w h => h)) (List.mem_iff_getElem?.2 ⟨0, rfl⟩) (.inl rfl) rfl (sq_in 4 rfl rfl (by simp) rfl (fun v w h => h)) (fun us w hl h => ld_got2 hl h) (fun _ => rfl)
          · exact q_one (F := fun v _ => v = .int .i64 4) hp (free_of rfl) (gq_some rfl rfl (by simp) rfl (fun v w h => h)) (sq_in 5 rfl rfl (by simp) rfl (fun v w h => h)) (fun ρ w hc h => ⟨.bool true, by simp [execOp, go_sem, h, hc], rfl⟩)
          · exact q_move hp (free_of rfl) (gq_some rfl rfl (by simp) rfl (fun v w h => h)) (sq_in 6 rfl rfl (by simp) rfl (fun v w h => h))
          · exact q_one (F := fun v _ => v = .pointer (some ⟨b3, 0, none⟩)) hp (free_of rfl) (gq_some rfl rfl (by simp) rfl (fun v w h => h)) (sq_out (s := 5) rfl rfl (fun _ _ => rfl)) (fun ρ w hc h => ⟨.pointer (some ⟨b3, 0, none⟩), by simp [execOp, go_sem, h, hc], rfl⟩)
          · exact q_loadI16 (off := 0) (v := .int .i16 i) hp (free_of rfl) (gq_some rfl rfl (by simp) rfl (fun v w h => h)) (List.mem_iff_getElem?.2 ⟨8, rfl⟩) (.inl rfl) (Nat.le_of_ble_eq_true rfl) (sq_in 8 rfl rfl (by simp) rfl (fun v w h => h)) (fun us w hl h => ⟨ld_i16s0 hl h, rfl⟩)
          · exact q_one (F := fun v _ => v = .int .i16 i) hp (free_of rfl) (gq_some rfl rfl (by simp) rfl (fun v w h => h)) (sq_in 9 rfl rfl (by simp) rfl (fun v w h => h)) (fun ρ w hc h => ⟨.bool true, by simp [execOp, go_sem, h, hc, OI.out], rfl⟩)
          · exact q_two (F := fun v _ => v = .bool true) (G := fun v _ => v = .bool true) hp (free_of rfl) (gq_some rfl rfl (by simp) rfl (fun v w h => h)) (sq_in 7 rfl rfl (by simp) rfl (fun v w h => h)) (sq_in 10 rfl rfl (by simp) rfl (fun v w h => h)) (fun ρ w hc h h' => ⟨_, by simp [execOp, go_sem, h, h'], rfl⟩)
          · exact q_two (F := fun v _ => v = .bool false) (G := fun v _ => v = .bool true) hp (free_of rfl) trivial (sq_in 3 rfl rfl (by simp) rfl (fun v w h => h)) (sq_in 11 rfl rfl (by simp) rfl (fun v w h => h)) (fun ρ w hc h h' => ⟨_, by simp [execOp, go_sem, h, h'], rfl⟩)
          · exact q_move hp (free_of rfl) trivial (sq_in 12 rfl rfl (by simp) rfl (fun v w h => h))
          · exact q_addr (b := b61_15) (off := 0) (off' := 2) hp (free_of rfl) (gq_some rfl rfl (by simp) rfl (fun v w h => h)) (sq_out rfl rfl (fun _ _ => rfl)) (fun ρ w h => by simp [execOp, go_sem, h]) (fun _ => rfl)
          · exact q_loadErr (r := 0) hp (free_of rfl) (gq_some rfl rfl (by simp) rfl (fun v w h => h)) (List.mem_iff_getElem?.2 ⟨1, rfl⟩) (.inl rfl) rfl (sq_in 14 rfl rfl (by simp) rfl (fun v w h => h)) (fun us w hl h => ld_got2 hl h) (fun _ => rfl)
          · exact q_one (F := fun v _ => v = .int .i64 0) hp (free_of rfl) (gq_some rfl rfl (by simp) rfl (fun v w h => h)) (sq_in 15 rfl rfl (by simp) rfl (fun v w h => h)) (fun ρ w hc h => ⟨.bool true, by simp [execOp, go_sem, h, hc], rfl⟩)
          · exact q_move hp (free_of rfl) (gq_some rfl rfl (by simp) rfl (fun v w h => h)) (sq_in 16 rfl rfl (by simp) rfl (fun v w h => h))
          · exact q_skip hp (free_of rfl) rfl (gq_some rfl rfl (by simp) rfl (fun v w h => h)) (fun _ => rfl)
          · exact q_skip hp (free_of rfl) rfl (gq_some rfl rfl (by simp) rfl (fun v w h => h)) (fun _ => rfl)
          · exact q_skip hp (free_of rfl) rfl (gq_some rfl rfl (by simp) rfl (fun v w h => h)) (fun _ => rfl)
          · exact q_skip hp (free_of rfl) rfl (gq_some rfl rfl (by simp) rfl (fun v w h => h)) (fun _ => rfl)
          · exact q_skipU hp (free_of rfl) rfl rfl rfl (by simp) rfl (fun v w h => h) (fun _ => rfl)
          · exact q_skipU hp (free_of rfl) rfl rfl rfl (by simp) rfl (fun v w h => h) (fun _ => rfl)
          · exact q_skipU hp (free_of rfl) rfl rfl rfl (by simp) rfl (fun v w h => h) (fun _ => rfl)
          · exact q_skip hp (free_of rfl) rfl (gq_some rfl rfl (by simp) rfl (fun v w h => h)) (fun _ => rfl)
          · exact q_two (F := fun v _ => v = .bool true) (G := fun v _ => v = .bool true) hp (free_of rfl) (gq_some rfl rfl (by simp) rfl (fun v w h => h)) (sq_in 17 rfl rfl (by simp) rfl (fun v w h => h)) (sq_const (fun _ => rfl)) (fun ρ w hc h h' => ⟨_, by simp [execOp, go_sem, h, h'], rfl⟩)
          · exact q_two (F := fun v _ => v = .bool true) (G := fun v _ => v = .bool true) hp (free_of rfl) trivial (sq_in 13 rfl rfl (by simp) rfl (fun v w h => h)) (sq_in 26 rfl rfl (by simp) rfl (fun v w h => h)) (fun ρ w hc h h' => ⟨_, by simp [execOp, go_sem, h, h'], rfl⟩)
          · exact q_move hp (free_of rfl) trivial (sq_in 27 rfl rfl (by simp) rfl (fun v w h => h))
          · exact q_move hp (free_of rfl) (gq_some rfl rfl (by simp) rfl (fun v w h => h)) (sq_out rfl rfl (fun _ _ => rfl))
          · exact q_one (F := fun v _ => v = .bool false) hp (free_of rfl) (gq_some rfl rfl (by simp) rfl (fun v w h => h)) (sq_in 29 rfl rfl (by simp) rfl (fun v w h => h)) (fun ρ w _ h => ⟨.bool true, by simp [execOp, go_sem, h], rfl⟩)
          · exact q_two (F := fun v _ => v = .bool true) (G := fun v _ => v = .bool true) hp (free_of rfl) trivial (sq_in 28 rfl rfl (by simp) rfl (fun v w h => h)) (sq_in 30 rfl rfl (by simp) rfl (fun v w h => h)) (fun ρ w hc h h' => ⟨_, by simp [execOp, go_sem, h, h'], rfl⟩)
          · exact q_move hp (free_of rfl) trivial (sq_in 31 rfl rfl (by simp) rfl (fun v w h => h))
          · exact q_move hp (free_of rfl) (gq_some rfl rfl (by simp) rfl (fun v w h => h)) (sq_out rfl rfl (fun _ _ => rfl))
          · exact q_two (F := fun v _ => v = .bool true) (G := fun v _ => v = .bool true) hp (free_of rfl) trivial (sq_in 32 rfl rfl (by simp) rfl (fun v w h => h)) (sq_in 33 rfl rfl (by simp) rfl (fun v w h => h)) (fun ρ w hc h h' => ⟨_, by simp [execOp, go_sem, h, h'], rfl⟩)
          · exact q_assign hp (free_of rfl) trivial (sq_in 34 rfl rfl (by simp) rfl (fun v w h => h))
          intro L vs w64 nb hL hC hn E64
          have e0 : vs 0 = .pointer (some ⟨b61_14, 2, none⟩) := hC 0 (by simp)
          have e1 : vs 1 = .int .i64 4 := hC 1 (by simp)
          have e2 : vs 2 = .bool false := hC 2 (by simp)
          have e3 : vs 3 = .bool false := hC 3 (by simp)
          have e4 : vs 4 = .pointer (some ⟨b61_14, 2, none⟩) := hC 4 (by simp)
          have e5 : vs 5 = .int .i64 4 := hC 5 (by simp)
          have e6 : vs 6 = .bool true := hC 6 (by simp)
          have e7 : vs 7 = .bool true := hC 7 (by simp)
          have e8 : vs 8 = .pointer (some ⟨b3, 0, none⟩) := hC 8 (by simp)
          have e9 : vs 9 = .int .i16 i := hC 9 (by simp)
          have e10 : vs 10 = .bool true := hC 10 (by simp)
          have e11 : vs 11 = .bool true := hC 11 (by simp)
          have e12 : vs 12 = .bool true := hC 12 (by simp)
          have e13 : vs 13 = .bool true := hC 13 (by simp)
          have e14 : vs 14 = .pointer (some ⟨b61_15, 2, none⟩) := hC 14 (by simp)
          have e15 : vs 15 = .int .i64 0 := hC 15 (by simp)
          have e16 : vs 16 = .bool true := hC 16 (by simp)
          have e17 : vs 17 = .bool true := hC 17 (by simp)
          have e18 : vs 18 = undef := hC 18 (by simp)
          have e19 : vs 19 = undef := hC 19 (by simp)
          have e20 : vs 20 = undef := hC 20 (by simp)
          have e21 : vs 21 = undef := hC 21 (by simp)
          have e22 : vs 22 = undef := hC 22 (by simp)
          have e23 : vs 23 = undef := hC 23 (by simp)
          have e24 : vs 24 = undef := hC 24 (by simp)
          have e25 : vs 25 = undef := hC 25 (by simp)
          have e26 : vs 26 = .bool true := hC 26 (by simp)
          have e27 : vs 27 = .bool true := hC 27 (by simp)
          have e28 : vs 28 = .bool true := hC 28 (by simp)
          have e29 : vs 29 = .bool false := hC 29 (by simp)
          have e30 : vs 30 = .bool true := hC 30 (by simp)
          have e31 : vs 31 = .bool true := hC 31 (by simp)
          have e32 : vs 32 = .bool true := hC 32 (by simp)
          have e33 : vs 33 = .bool true := hC 33 (by simp)
          have e34 : vs 34 = .bool true := hC 34 (by simp)
          have e35 : vs 35 = .bool true := hC 35 (by simp)
          have E : Fr w [(b61_14, 3, Fq.got 0 4), (b61_15, 3, Fq.got (powM a j m) 0), (b61_16, 3, Fq.got Z R), (b59_8, 2, Fq.num i), (b59_9, 2, Fq.num j), (b55_3, 3, Fq.got 0 4), (b8_7, 2, Fq.num a), (b8_8, 2, Fq.num m), (b3, 2, Fq.is (.agg #[.int .i16 i, .int .i16 j])), (b2, 2, Fq.raw n2 a2 k2 c2 xs2), (b1, 2, Fq.raw n1 a1 k1 c1 xs1)] w64 := E64
          rw [lay_all hL]
          simp only [putAll, dstOf, List.length_cons, List.length_nil, Nat.zero_add, Nat.reduceAdd, List.getElem?_toArray, List.getElem?_cons_zero, List.getElem?_cons_succ, Option.bind_some, Act.put, List.setIfInBounds_toArray, List.set_cons_succ, List.set_cons_zero]
          rw [e0, e1, e2, e3, e4, e5, e6, e7, e8, e9, e10, e11, e12, e13, e14, e15, e16, e17, e18, e19, e20, e21, e22, e23, e24, e25, e26, e27, e28, e29, e30, e31, e32, e33, e34, e35]
          clear e0 e1 e2 e3 e4 e5 e6 e7 e8 e9 e10 e11 e12 e13 e14 e15 e16 e17 e18 e19 e20 e21 e22 e23 e24 e25 e26 e27 e28 e29 e30 e31 e32 e33 e34 e35 hC hn E64 hL vs L nb
          clear OI OJ HZ HR HG PM NM HM
          clear B6 B7 B56 B60 Ba Bb hT BM BI BJ
          go_wp2
          refine bodyPost_ret (v := .bool true) ?_ rfl ⟨rfl, E.below⟩
          simp [results, Tryd.results3, go_sem]
      · obtain ⟨Z, hZ⟩ : ∃ Z, Z = if 0 ≤ i + j then powM a (i + j) m else 0 := ⟨_, rfl⟩
        obtain ⟨R, hR⟩ : ∃ R : Int, R = if 0 ≤ i + j then 0 else 4 := ⟨_, rfl⟩
        have HZ := hidd hZ
        have HR := hidd hR
        clear hZ hR
        have OI : Hid (0 ≤ i) := by show _ ≤ _; omega
        have OJ : Hid (j < 0) := by show _ < _; omega
        clear hij hi
        have TG : Hid (¬ cmpI (Int.gcd a m : Int) (1) = 0) := by
          show ¬ _ = _
          rw [cmpI_eq0]; omega
        have HG := hidd hg
        clear hg
        go_upto_region 5 with (fail)
        refine region_fr (C := [Fq.num a, Fq.num m, Fq.got 0 4, Fq.any, Fq.any]) (ks := [none, none, none, none, none]) (new := [⟨3, 4, 3, Fq.got 0 0, Fq.got 0 4, none⟩]) E rfl (by kernel_rfl) rfl rfl (fun hp => ⟨?_, ?_, ?_, ?_, ?_, trivial⟩) ?_
        · exact q_loadInt (off := 0) hp (free_of rfl) trivial (List.mem_iff_getElem?.2 ⟨0, rfl⟩) (.inl rfl) (Nat.le_of_ble_eq_true rfl) (sq_out rfl rfl (fun _ _ => rfl)) (fun us w hl h => ld_num hl h)
        · exact q_loadInt (off := 0) hp (free_of rfl) trivial (List.mem_iff_getElem?.2 ⟨1, rfl⟩) (.inl rfl) (Nat.le_of_ble_eq_true rfl) (sq_out rfl rfl (fun _ _ => rfl)) (fun us w hl h => ld_num hl h)
        · exact q_call2 (F := (Fq.num a).P) (G := (Fq.num m).P) hp (free_of rfl) trivial (enq_V_inv) (sq_in 0 rfl rfl (by simp) rfl (fun v w h => h)) (sq_in 1 rfl rfl (by simp) rfl (fun v w h => h)) (fun v v' w h h' => exVInvN h h' (Int.lt_of_lt_of_le Ba.out (pw_le (by omega))) (Int.lt_of_lt_of_le BM.out (pw_le (by omega))) PM.out HG.out)
        · exact q_allocGot hp (List.mem_iff_getElem?.2 ⟨0, rfl⟩) rfl rfl rfl rfl (Nat.ne_of_beq_eq_false rfl) (fun _ _ => trivial) (old_ne rfl) (newk_ne rfl) (fun w => Got.zero w)
        · exact q_storeNewGot hp (List.mem_iff_getElem?.2 ⟨0, rfl⟩) rfl rfl rfl (own_ptr rfl rfl (by simp) rfl) (sq_in 2 rfl rfl (by simp) rfl (fun v w h => h.partsV)) (fun _ _ => trivial) (old_ne rfl) (newi_ne rfl)
        intro L vs w65 nb hL hC hn E65
        have e3 : vs 3 = .pointer (some ⟨nb 3, 0, none⟩) := hn _ (List.mem_iff_getElem?.2 ⟨0, rfl⟩)
        have E : Fr w [(nb 3, 3, Fq.got 0 4), (b8_7, 2, Fq.num a), (b8_8, 2, Fq.num m), (b3, 2, Fq.is (.agg #[.int .i16 i, .int .i16 j])), (b2, 2, Fq.raw n2 a2 k2 c2 xs2), (b1, 2, Fq.raw n1 a1 k1 c1 xs1)] w65 := E65
        rw [lay_all hL]
        simp only [putAll, dstOf, List.length_cons, List.length_nil, Nat.zero_add, Nat.reduceAdd, List.getElem?_toArray, List.getElem?_cons_zero, List.getElem?_cons_succ, Option.bind_some, Act.put, List.setIfInBounds_toArray, List.set_cons_succ, List.set_cons_zero]
        rw [e3]
        generalize nb 3 = b65_3 at E ⊢
        generalize vs 0 = u65_0
        generalize vs 1 = u65_1
        generalize vs 2 = u65_2
        clear e3 hC hn E65 hL vs L nb
        go_upto_region 6 with (fail)
        have B66 : Hid (ab ((Int.gcd a m : Int)) < pw 4) := ab_gcdB Ba.out BM.out (by omega) (by omega)
        refine region_fr (C := [Fq.num a, Fq.num m, Fq.num (Int.gcd a m : Int), Fq.num (1), Fq.is (.int .i64 (cmpI (Int.gcd a m : Int) (1))), Fq.is (.bool false), Fq.is (.bool false)]) (ks := [none, none, none, none, none, none]) (new := []) E rfl (by kernel_rfl) rfl rfl (fun hp => ⟨?_, ?_, ?_, ?_, ?_, ?_, ?_, trivial⟩) ?_
        · exact q_loadInt (off := 0) hp (free_of rfl) trivial (List.mem_iff_getElem?.2 ⟨1, rfl⟩) (.inl rfl) (Nat.le_of_ble_eq_true rfl) (sq_out rfl rfl (fun _ _ => rfl)) (fun us w hl h => ld_num hl h)
        · exact q_loadInt (off := 0) hp (free_of rfl) trivial (List.mem_iff_getElem?.2 ⟨2, rfl⟩) (.inl rfl) (Nat.le_of_ble_eq_true rfl) (sq_out rfl rfl (fun _ _ => rfl)) (fun us w hl h => ld_num hl h)
        · exact q_call2 (F := (Fq.num a).P) (G := (Fq.num m).P) hp (free_of rfl) trivial (enq_Gcd) (sq_in 0 rfl rfl (by simp) rfl (fun v w h => h)) (sq_in 1 rfl rfl (by simp) rfl (fun v w h => h)) (fun v v' w h h' => exK (GcdV h h') B66.out (by omega))
        · exact q_call1 (F := (Fq.is (.int .i64 1)).P) hp (free_of rfl) trivial (enq_V_of) (sq_const (fun _ => rfl)) (fun v w h => (by subst h; exact exVOf (by omega)))
        · exact q_call2 (F := (Fq.num (Int.gcd a m : Int)).P) (G := (Fq.num (1)).P) hp (free_of rfl) trivial (enq_Cmp) (sq_in 2 rfl rfl (by simp) rfl (fun v w h => h)) (sq_in 3 rfl rfl (by simp) rfl (fun v w h => h)) (fun v v' w h h' => exCmp h h')
        · exact q_one (F := fun v _ => v = .int .i64 (cmpI (Int.gcd a m : Int) (1))) hp (free_of rfl) trivial (sq_in 4 rfl rfl (by simp) rfl (fun v w h => h)) (fun ρ w hc h => ⟨.bool false, by simp [execOp, go_sem, h, hc, TG.out], rfl⟩)
        · exact q_assign hp (free_of rfl) trivial (sq_in 5 rfl rfl (by simp) rfl (fun v w h => h))
        intro L vs w67 nb hL hC hn E67
        have e4 : vs 4 = .int .i64 (cmpI (Int.gcd a m : Int) (1)) := hC 4 (by simp)
        have e5 : vs 5 = .bool false := hC 5 (by simp)
        have e6 : vs 6 = .bool false := hC 6 (by simp)
        have E : Fr w [(b65_3, 3, Fq.got 0 4), (b8_7, 2, Fq.num a), (b8_8, 2, Fq.num m), (b3, 2, Fq.is (.agg #[.int .i16 i, .int .i16 j])), (b2, 2, Fq.raw n2 a2 k2 c2 xs2), (b1, 2, Fq.raw n1 a1 k1 c1 xs1)] w67 := E67
        rw [lay_all hL]
        simp only [putAll, dstOf, List.length_cons, List.length_nil, Nat.zero_add, Nat.reduceAdd, List.getElem?_toArray, List.getElem?_cons_zero, List.getElem?_cons_succ, Option.bind_some, Act.put, List.setIfInBounds_toArray, List.set_cons_succ, List.set_cons_zero]
        rw [e4, e5, e6]
        generalize vs 0 = u67_0
        generalize vs 1 = u67_1
        generalize vs 2 = u67_2
        generalize vs 3 = u67_3
        clear e4 e5 e6 hC hn E67 hL vs L nb
        clear TG
        go_upto_region 7 with (fail)
        refine region_fr (C := [Fq.is (.pointer (some ⟨b65_3, 2, none⟩)), Fq.is (.int .i64 4), Fq.is (.bool false), Fq.is (.bool false), Fq.is (.bool false)]) (ks := [none, none, none, none, none, none]) (new := []) E rfl (by kernel_rfl) rfl rfl (fun hp => ⟨?_, ?_, ?_, ?_, ?_, trivial⟩) ?_
        · exact q_addr (b := b65_3) (off := 0) (off' := 2) hp (free_of rfl) trivial (sq_out rfl rfl (fun _ _ => rfl)) (fun ρ w h => by simp [execOp, go_sem, h]) (fun _ => rfl)
        · exact q_loadErr (r := 4) hp (free_of rfl) trivial (List.mem_iff_getElem?.2 ⟨0, rfl⟩) (.inl rfl) rfl (sq_in 0 rfl rfl (by simp) rfl (fun v w h => h)) (fun us w hl h => ld_got2 hl h) (fun _ => rfl)
        · exact q_one (F := fun v _ => v = .int .i64 4) hp (free_of rfl) trivial (sq_in 1 rfl rfl (by simp) rfl (fun v w h => h)) (fun ρ w hc h => ⟨.bool false, by simp [execOp, go_sem, h, hc], rfl⟩)
        · exact q_move hp (free_of rfl) trivial (sq_out rfl rfl (fun _ _ => rfl))
        · exact q_two (F := fun v _ => v = .bool false) (G := fun v _ => v = .bool false) hp (free_of rfl) trivial (sq_in 2 rfl rfl (by simp) rfl (fun v w h => h)) (sq_in 3 rfl rfl (by simp) rfl (fun v w h => h)) (fun ρ w hc h h' => ⟨.bool false, by simp [execOp, go_sem, h, h'], rfl⟩)
        intro L vs w68 nb hL hC hn E68
        have e0 : vs 0 = .pointer (some ⟨b65_3, 2, none⟩) := hC 0 (by simp)
        have e1 : vs 1 = .int .i64 4 := hC 1 (by simp)
        have e2 : vs 2 = .bool false := hC 2 (by simp)
        have e3 : vs 3 = .bool false := hC 3 (by simp)
        have e4 : vs 4 = .bool false := hC 4 (by simp)
        have E : Fr w [(b65_3, 3, Fq.got 0 4), (b8_7, 2, Fq.num a), (b8_8, 2, Fq.num m), (b3, 2, Fq.is (.agg #[.int .i16 i, .int .i16 j])), (b2, 2, Fq.raw n2 a2 k2 c2 xs2), (b1, 2, Fq.raw n1 a1 k1 c1 xs1)] w68 := E68
        rw [lay_all hL]
        simp only [putAll, dstOf, List.length_cons, List.length_nil, Nat.zero_add, Nat.reduceAdd, List.getElem?_toArray, List.getElem?_cons_zero, List.getElem?_cons_succ, Option.bind_some, Act.put, List.setIfInBounds_toArray, List.set_cons_succ, List.set_cons_zero]
        rw [e0, e1, e2, e3, e4]
        clear e0 e1 e2 e3 e4 hC hn E68 hL vs L nb
        go_upto_region 9 with (fail)
        refine region_fr (C := [Fq.is (.pointer (some ⟨b3, 0, none⟩)), Fq.is (.int .i16 i), Fq.is (.int .i64 i), Fq.num i, Fq.is (.pointer (some ⟨b3, 1, none⟩)), Fq.is (.int .i16 j), Fq.is (.int .i64 j), Fq.num j, Fq.any, Fq.any, Fq.any, Fq.any]) (ks := [none, none, none, none, none, none]) (new := [⟨8, 10, 2, Fq.num 0, Fq.num i, none⟩, ⟨9, 11, 2, Fq.num 0, Fq.num j, none⟩]) E rfl (by kernel_rfl) rfl rfl (fun hp => ⟨?_, ?_, ?_, ?_, ?_, ?_, ?_, ?_, ?_, ?_, ?_, ?_, trivial⟩) ?_
        · exact q_one (F := fun v _ => v = .pointer (some ⟨b3, 0, none⟩)) hp (free_of rfl) trivial (sq_out (s := 5) rfl rfl (fun _ _ => rfl)) (fun ρ w hc h => ⟨.pointer (some ⟨b3, 0, none⟩), by simp [execOp, go_sem, h, hc], rfl⟩)
        · exact q_loadI16 (off := 0) (v := .int .i16 i) hp (free_of rfl) trivial (List.mem_iff_getElem?.2 ⟨3, rfl⟩) (.inl rfl) (Nat.le_of_ble_eq_true rfl) (sq_in 0 rfl rfl (by simp) rfl (fun v w h => h)) (fun us w hl h => ⟨ld_i16s0 hl h, rfl⟩)
        · exact q_one (F := fun v _ => v = .int .i16 i) hp (free_of rfl) trivial (sq_in 1 rfl rfl (by simp) rfl (fun v w h => h)) (fun ρ w hc h => ⟨.int .i64 i, by simp [execOp, go_sem, h, WI.out], rfl⟩)
        · exact q_call1 (F := (Fq.is (.int .i64 i)).P) hp (free_of rfl) trivial (enq_V_of) (sq_in 2 rfl rfl (by simp) rfl (fun v w h => h)) (fun v w h => (by subst h; exact exVOf RI.out))
        · exact q_one (F := fun v _ => v = .pointer (some ⟨b3, 0, none⟩)) hp (free_of rfl) trivial (sq_out (s := 5) rfl rfl (fun _ _ => rfl)) (fun ρ w hc h => ⟨.pointer (some ⟨b3, 1, none⟩), by simp [execOp, go_sem, h, hc], rfl⟩)
        · exact q_loadI16 (off := 1) (v := .int .i16 j) hp (free_of rfl) trivial (List.mem_iff_getElem?.2 ⟨3, rfl⟩) (.inl rfl) (Nat.le_of_ble_eq_true rfl) (sq_in 4 rfl rfl (by simp) rfl (fun v w h => h)) (fun us w hl h => ⟨ld_i16s1 hl h, rfl⟩)
        · exact q_one (F := fun v _ => v = .int .i16 j) hp (free_of rfl) trivial (sq_in 5 rfl rfl (by simp) rfl (fun v w h => h)) (fun ρ w hc h => ⟨.int .i64 j, by simp [execOp, go_sem, h, WJ.out], rfl⟩)
        · exact q_call1 (F := (Fq.is (.int .i64 j)).P) hp (free_of rfl) trivial (enq_V_of) (sq_in 6 rfl rfl (by simp) rfl (fun v w h => h)) (fun v w h => (by subst h; exact exVOf RJ.out))
        · exact q_allocInt hp (List.mem_iff_getElem?.2 ⟨0, rfl⟩) rfl rfl rfl rfl (Nat.ne_of_beq_eq_false rfl) (fun _ _ => trivial) (old_ne rfl) (newk_ne rfl) (fun w => Num.zero w)
        · exact q_allocInt hp (List.mem_iff_getElem?.2 ⟨1, rfl⟩) rfl rfl rfl rfl (Nat.ne_of_beq_eq_false rfl) (fun _ _ => trivial) (old_ne rfl) (newk_ne rfl) (fun w => Num.zero w)
        · exact q_storeNewInt hp (List.mem_iff_getElem?.2 ⟨0, rfl⟩) rfl rfl rfl (own_ptr rfl rfl (by simp) rfl) (sq_in 3 rfl rfl (by simp) rfl (fun v w h => intV_num h)) (fun _ _ => trivial) (old_ne rfl) (newi_ne rfl)
        · exact q_storeNewInt hp (List.mem_iff_getElem?.2 ⟨1, rfl⟩) rfl rfl rfl (own_ptr rfl rfl (by simp) rfl) (sq_in 7 rfl rfl (by simp) rfl (fun v w h => intV_num h)) (fun _ _ => trivial) (old_ne rfl) (newi_ne rfl)
        intro L vs w69 nb hL hC hn E69
        have e0 : vs 0 = .pointer (some ⟨b3, 0, none⟩) := hC 0 (by simp)
        have e1 : vs 1 = .int .i16 i := hC 1 (by simp)
        have e2 : vs 2 = .int .i64 i := hC 2 (by simp)
        have e4 : vs 4 = .pointer (some ⟨b3, 1, none⟩) := hC 4 (by simp)
        have e5 : vs 5 = .int .i16 j := hC 5 (by simp)
        have e6 : vs 6 = .int .i64 j := hC 6 (by simp)
        have e8 : vs 8 = .pointer (some ⟨nb 8, 0, none⟩) := hn _ (List.mem_iff_getElem?.2 ⟨0, rfl⟩)
        have e9 : vs 9 = .pointer (some ⟨nb 9, 0, none⟩) := hn _ (List.mem_iff_getElem?.2 ⟨1, rfl⟩)
        have E : Fr w [(nb 8, 2, Fq.num i), (nb 9, 2, Fq.num j), (b65_3, 3, Fq.got 0 4), (b8_7, 2, Fq.num a), (b8_8, 2, Fq.num m), (b3, 2, Fq.is (.agg #[.int .i16 i, .int .i16 j])), (b2, 2, Fq.raw n2 a2 k2 c2 xs2), (b1, 2, Fq.raw n1 a1 k1 c1 xs1)] w69 := E69
        rw [lay_all hL]
        simp only [putAll, dstOf, List.length_cons, List.length_nil, Nat.zero_add, Nat.reduceAdd, List.getElem?_toArray, List.getElem?_cons_zero, List.getElem?_cons_succ, Option.bind_some, Act.put, List.setIfInBounds_toArray, List.set_cons_succ, List.set_cons_zero]
        rw [e0, e1, e2, e4, e5, e6, e8, e9]
        generalize nb 8 = b69_8 at E ⊢
        generalize nb 9 = b69_9 at E ⊢
        generalize vs 3 = u69_3
        generalize vs 7 = u69_7
        clear e0 e1 e2 e4 e5 e6 e8 e9 hC hn E69 hL vs L nb
        clear WI WJ RI RJ
        go_upto_region 10 with (fail)
        have B70 : Hid (ab ((powM a i m)) < pw 4) := powM_ab PM.out BM.out
        refine region_fr (C := [Fq.num a, Fq.num i, Fq.num m, Fq.got (powM a i m) 0, Fq.num a, Fq.num j, Fq.num m, Fq.got 0 4, Fq.num a, Fq.num i, Fq.num j, Fq.num (i + j), Fq.num m, Fq.got Z R, Fq.any, Fq.any, Fq.any, Fq.any, Fq.any, Fq.any]) (ks := [none, none, none, none, none, none, none, none]) (new := [⟨14, 17, 3, Fq.got 0 0, Fq.got (powM a i m) 0, none⟩, ⟨15, 18, 3, Fq.got 0 0, Fq.got 0 4, none⟩, ⟨16, 19, 3, Fq.got 0 0, Fq.got Z R, none⟩]) E rfl (by kernel_rfl) rfl rfl (fun hp => ⟨?_, ?_, ?_, ?_, ?_, ?_, ?_, ?_, ?_, ?_, ?_, ?_, ?_, ?_, ?_, ?_, ?_, ?_, ?_, ?_, trivial⟩) ?_
        · exact q_loadInt (off := 0) hp (free_of rfl) trivial (List.mem_iff_getElem?.2 ⟨3, rfl⟩) (.inl rfl) (Nat.le_of_ble_eq_true rfl) (sq_out rfl rfl (fun _ _ => rfl)) (fun us w hl h => ld_num hl h)
        · exact q_loadInt (off := 0) hp (free_of rfl) trivial (List.mem_iff_getElem?.2 ⟨0, rfl⟩) (.inl rfl) (Nat.le_of_ble_eq_true rfl) (sq_out rfl rfl (fun _ _ => rfl)) (fun us w hl h => ld_num hl h)
        · exact q_loadInt (off := 0) hp (free_of rfl) trivial (List.mem_iff_getElem?.2 ⟨4, rfl⟩) (.inl rfl) (Nat.le_of_ble_eq_true rfl) (sq_out rfl rfl (fun _ _ => rfl)) (fun us w hl h => ld_num hl h)
        · exact q_call3 (F := (Fq.num a).P) (G := (Fq.num i).P) (F3 := (Fq.num m).P) hp (free_of rfl) trivial (enq_V_pow) (sq_in 0 rfl rfl (by simp) rfl (fun v w h => h)) (sq_in 1 rfl rfl (by simp) rfl (fun v w h => h)) (sq_in 2 rfl rfl (by simp) rfl (fun v w h => h)) (fun v v' u w h h' g => exVPowOk h h' g (Int.lt_of_lt_of_le Ba.out (pw_le (by omega))) (Int.lt_of_lt_of_le BI.out (pw_le (by omega))) (Int.lt_of_lt_of_le BM.out (pw_le (by omega))) PM.out (.inr OI.out))
        · exact q_loadInt (off := 0) hp (free_of rfl) trivial (List.mem_iff_getElem?.2 ⟨3, rfl⟩) (.inl rfl) (Nat.le_of_ble_eq_true rfl) (sq_out rfl rfl (fun _ _ => rfl)) (fun us w hl h => ld_num hl h)
        · exact q_loadInt (off := 0) hp (free_of rfl) trivial (List.mem_iff_getElem?.2 ⟨1, rfl⟩) (.inl rfl) (Nat.le_of_ble_eq_true rfl) (sq_out rfl rfl (fun _ _ => rfl)) (fun us w hl h => ld_num hl h)
        · exact q_loadInt (off := 0) hp (free_of rfl) trivial (List.mem_iff_getElem?.2 ⟨4, rfl⟩) (.inl rfl) (Nat.le_of_ble_eq_true rfl) (sq_out rfl rfl (fun _ _ => rfl)) (fun us w hl h => ld_num hl h)
        · exact q_call3 (F := (Fq.num a).P) (G := (Fq.num j).P) (F3 := (Fq.num m).P) hp (free_of rfl) trivial (enq_V_pow) (sq_in 4 rfl rfl (by simp) rfl (fun v w h => h)) (sq_in 5 rfl rfl (by simp) rfl (fun v w h => h)) (sq_in 6 rfl rfl (by simp) rfl (fun v w h => h)) (fun v v' u w h h' g => exVPowNo h h' g (Int.lt_of_lt_of_le Ba.out (pw_le (by omega))) (Int.lt_of_lt_of_le BJ.out (pw_le (by omega))) (Int.lt_of_lt_of_le BM.out (pw_le (by omega))) PM.out HG.out OJ.out)
        · exact q_loadInt (off := 0) hp (free_of rfl) trivial (List.mem_iff_getElem?.2 ⟨3, rfl⟩) (.inl rfl) (Nat.le_of_ble_eq_true rfl) (sq_out rfl rfl (fun _ _ => rfl)) (fun us w hl h => ld_num hl h)
        · exact q_loadInt (off := 0) hp (free_of rfl) trivial (List.mem_iff_getElem?.2 ⟨0, rfl⟩) (.inl rfl) (Nat.le_of_ble_eq_true rfl) (sq_out rfl rfl (fun _ _ => rfl)) (fun us w hl h => ld_num hl h)
        · exact q_loadInt (off := 0) hp (free_of rfl) trivial (List.mem_iff_getElem?.2 ⟨1, rfl⟩) (.inl rfl) (Nat.le_of_ble_eq_true rfl) (sq_out rfl rfl (fun _ _ => rfl)) (fun us w hl h => ld_num hl h)
        · exact q_call2 (F := (Fq.num i).P) (G := (Fq.num j).P) hp (free_of rfl) trivial (enq_Add) (sq_in 9 rfl rfl (by simp) rfl (fun v w h => h)) (sq_in 10 rfl rfl (by simp) rfl (fun v w h => h)) (fun v v' w h h' => exK (AddV h h') (ab_addB (m := 4) BI.out BJ.out (by omega) (by omega)) (by omega))
        · exact q_loadInt (off := 0) hp (free_of rfl) trivial (List.mem_iff_getElem?.2 ⟨4, rfl⟩) (.inl rfl) (Nat.le_of_ble_eq_true rfl) (sq_out rfl rfl (fun _ _ => rfl)) (fun us w hl h => ld_num hl h)
        · exact q_call3 (F := (Fq.num a).P) (G := (Fq.num (i + j)).P) (F3 := (Fq.num m).P) hp (free_of rfl) trivial (enq_V_pow) (sq_in 8 rfl rfl (by simp) rfl (fun v w h => h)) (sq_in 11 rfl rfl (by simp) rfl (fun v w h => h)) (sq_in 12 rfl rfl (by simp) rfl (fun v w h => h)) (fun v v' u w h h' g => exVPowAny h h' g (Int.lt_of_lt_of_le Ba.out (pw_le (by omega))) (Int.lt_of_lt_of_le (ab_addB (m := 4) BI.out BJ.out (by omega) (by omega)) (pw_le (by omega))) (Int.lt_of_lt_of_le BM.out (pw_le (by omega))) PM.out HG.out HZ.out HR.out)
        · exact q_allocGot hp (List.mem_iff_getElem?.2 ⟨0, rfl⟩) rfl rfl rfl rfl (Nat.ne_of_beq_eq_false rfl) (fun _ _ => trivial) (old_ne rfl) (newk_ne rfl) (fun w => Got.zero w)
        · exact q_allocGot hp (List.mem_iff_getElem?.2 ⟨1, rfl⟩) rfl rfl rfl rfl (Nat.ne_of_beq_eq_false rfl) (fun _ _ => trivial) (old_ne rfl) (newk_ne rfl) (fun w => Got.zero w)
        · exact q_allocGot hp (List.mem_iff_getElem?.2 ⟨2, rfl⟩) rfl rfl rfl rfl (Nat.ne_of_beq_eq_false rfl) (fun _ _ => trivial) (old_ne rfl) (newk_ne rfl) (fun w => Got.zero w)
        · exact q_storeNewGot hp (List.mem_iff_getElem?.2 ⟨0, rfl⟩) rfl rfl rfl (own_ptr rfl rfl (by simp) rfl) (sq_in 3 rfl rfl (by simp) rfl (fun v w h => h.partsV)) (fun _ _ => trivial) (old_ne rfl) (newi_ne rfl)
        · exact q_storeNewGot hp (List.mem_iff_getElem?.2 ⟨1, rfl⟩) rfl rfl rfl (own_ptr rfl rfl (by simp) rfl) (sq_in 7 rfl rfl (by simp) rfl (fun v w h => h.partsV)) (fun _ _ => trivial) (old_ne rfl) (newi_ne rfl)
        · exact q_storeNewGot hp (List.mem_iff_getElem?.2 ⟨2, rfl⟩) rfl rfl rfl (own_ptr rfl rfl (by simp) rfl) (sq_in 13 rfl rfl (by simp) rfl (fun v w h => h.partsV)) (fun _ _ => trivial) (old_ne rfl) (newi_ne rfl)
        intro L vs w71 nb hL hC hn E71
        have e14 : vs 14 = .pointer (some ⟨nb 14, 0, none⟩) := hn _ (List.mem_iff_getElem?.2 ⟨0, rfl⟩)
        have e15 : vs 15 = .pointer (some ⟨nb 15, 0, none⟩) := hn _ (List.mem_iff_getElem?.2 ⟨1, rfl⟩)
        have e16 : vs 16 = .pointer (some ⟨nb 16, 0, none⟩) := hn _ (List.mem_iff_getElem?.2 ⟨2, rfl⟩)
        have E : Fr w [(nb 14, 3, Fq.got (powM a i m) 0), (nb 15, 3, Fq.got 0 4), (nb 16, 3, Fq.got Z R), (b69_8, 2, Fq.num i), (b69_9, 2, Fq.num j), (b65_3, 3, Fq.got 0 4), (b8_7, 2, Fq.num a), (b8_8, 2, Fq.num m), (b3, 2, Fq.is (.agg #[.int .i16 i, .int .i16 j])), (b2, 2, Fq.raw n2 a2 k2 c2 xs2), (b1, 2, Fq.raw n1 a1 k1 c1 xs1)] w71 := E71
        rw [lay_all hL]
        simp only [putAll, dstOf, List.length_cons, List.length_nil, Nat.zero_add, Nat.reduceAdd, List.getElem?_toArray, List.getElem?_cons_zero, List.getElem?_cons_succ, Option.bind_some, Act.put, List.setIfInBounds_toArray, List.set_cons_succ, List.set_cons_zero]
        rw [e14, e15, e16]
        generalize nb 14 = b71_14 at E ⊢
        generalize nb 15 = b71_15 at E ⊢
        generalize nb 16 = b71_16 at E ⊢
        generalize vs 0 = u71_0
        generalize vs 1 = u71_1
        generalize vs 2 = u71_2
        generalize vs 3 = u71_3
        generalize vs 4 = u71_4
        generalize vs 5 = u71_5
        generalize vs 6 = u71_6
        generalize vs 7 = u71_7
        generalize vs 8 = u71_8
        generalize vs 9 = u71_9
        generalize vs 10 = u71_10
        generalize vs 11 = u71_11
        generalize vs 12 = u71_12
        generalize vs 13 = u71_13
        clear e14 e15 e16 hC hn E71 hL vs L nb
        go_upto_region 11 with (fail)
        refine region_fr (C := [Fq.is (.bool false)]) (ks := [none, none, none, none, none, none, none, none, none, none, none]) (new := []) E rfl (by kernel_rfl) rfl rfl (fun hp => ⟨?_, trivial⟩) ?_
        · exact q_move hp (free_of rfl) trivial (sq_out rfl rfl (fun _ _ => rfl))
        intro L vs w72 nb hL hC hn E72
        have e0 : vs 0 = .bool false := hC 0 (by simp)
        have E : Fr w [(b71_14, 3, Fq.got (powM a i m) 0), (b71_15, 3, Fq.got 0 4), (b71_16, 3, Fq.got Z R), (b69_8, 2, Fq.num i), (b69_9, 2, Fq.num j), (b65_3, 3, Fq.got 0 4), (b8_7, 2, Fq.num a), (b8_8, 2, Fq.num m), (b3, 2, Fq.is (.agg #[.int .i16 i, .int .i16 j])), (b2, 2, Fq.raw n2 a2 k2 c2 xs2), (b1, 2, Fq.raw n1 a1 k1 c1 xs1)] w72 := E72
        rw [lay_all hL]
        simp only [putAll, dstOf, List.length_cons, List.length_nil, Nat.zero_add, List.getElem?_toArray, List.getElem?_cons_zero, Option.bind_some, Act.put, List.setIfInBounds_toArray, List.set_cons_succ, List.set_cons_zero]
        rw [e0]
        clear e0 hC hn E72 hL vs L nb
        go_upto_region 16 with (fail)
        refine region_fr (C := [Fq.is (.pointer (some ⟨b71_14, 2, none⟩)), Fq.is (.int .i64 0), Fq.is (.bool false), Fq.is (.bool false), Fq.is (.pointer (some ⟨b71_15, 2, none⟩)), Fq.is (.int .i64 4), Fq.is (.bool true), Fq.is (.bool true)]) (ks := [none, none, none, none, none, none, none, none, none, none, none]) (new := []) E rfl (by kernel_rfl) rfl rfl (fun hp => ⟨?_, ?_, ?_, ?_, ?_, ?_, ?_, ?_, trivial⟩) ?_
        · exact q_addr (b := b71_14) (off := 0) (off' := 2) hp (free_of rfl) trivial (sq_out rfl rfl (fun _ _ => rfl)) (fun ρ w h => by simp [execOp, go_sem, h]) (fun _ => rfl)
        · exact q_loadErr (r := 0) hp (free_of rfl) trivial (List.mem_iff_getElem?.2 ⟨0, rfl⟩) (.inl rfl) rfl (sq_in 0 rfl rfl (by simp) rfl (fun v w h => h)) (fun us w hl h => ld_got2 hl h) (fun _ => rfl)
        · exact q_one (F := fun v _ => v = .int .i64 0) hp (free_of rfl) trivial (sq_in 1 rfl rfl (by simp) rfl (fun v w h => h)) (fun ρ w hc h => ⟨.bool false, by simp [execOp, go_sem, h, hc], rfl⟩)
        · exact q_move hp (free_of rfl) trivial (sq_in 2 rfl rfl (by simp) rfl (fun v w h => h))
        · exact q_addr (b := b71_15) (off := 0) (off' := 2) hp (free_of rfl) (gq_some rfl rfl (by simp) rfl (fun v w h => h)) (sq_out rfl rfl (fun _ _ => rfl)) (fun ρ w h => by simp [execOp, go_sem, h]) (fun _ => rfl)
        · exact q_loadErr (r := 4) hp (free_of rfl) (gq_some rfl rfl (by simp) rfl (fun v w h => h)) (List.mem_iff_getElem?.2 ⟨1, rfl⟩) (.inl rfl) rfl (sq_in 4 rfl rfl (by simp) rfl (fun v w h => h)) (fun us w hl h => ld_got2 hl h) (fun _ => rfl)
        · exact q_one (F := fun v _ => v = .int .i64 4) hp (free_of rfl) (gq_some rfl rfl (by simp) rfl (fun v w h => h)) (sq_in 5 rfl rfl (by simp) rfl (fun v w h => h)) (fun ρ w hc h => ⟨.bool true, by simp [execOp, go_sem, h, hc], rfl⟩)
        · exact q_two (F := fun v _ => v = .bool false) (G := fun v _ => v = .bool true) hp (free_of rfl) trivial (sq_in 3 rfl rfl (by simp) rfl (fun v w h => h)) (sq_in 6 rfl rfl (by simp) rfl (fun v w h => h)) (fun ρ w hc h h' => ⟨_, by simp [execOp, go_sem, h, h'], rfl⟩)
        intro L vs w73 nb hL hC hn E73
        have e0 : vs 0 = .pointer (some ⟨b71_14, 2, none⟩) := hC 0 (by simp)
        have e1 : vs 1 = .int .i64 0 := hC 1 (by simp)
        have e2 : vs 2 = .bool false := hC 2 (by simp)
        have e3 : vs 3 = .bool false := hC 3 (by simp)
        have e4 : vs 4 = .pointer (some ⟨b71_15, 2, none⟩) := hC 4 (by simp)
        have e5 : vs 5 = .int .i64 4 := hC 5 (by simp)
        have e6 : vs 6 = .bool true := hC 6 (by simp)
        have e7 : vs 7 = .bool true := hC 7 (by simp)
        have E : Fr w [(b71_14, 3, Fq.got (powM a i m) 0), (b71_15, 3, Fq.got 0 4), (b71_16, 3, Fq.got Z R), (b69_8, 2, Fq.num i), (b69_9, 2, Fq.num j), (b65_3, 3, Fq.got 0 4), (b8_7, 2, Fq.num a), (b8_8, 2, Fq.num m), (b3, 2, Fq.is (.agg #[.int .i16 i, .int .i16 j])), (b2, 2, Fq.raw n2 a2 k2 c2 xs2), (b1, 2, Fq.raw n1 a1 k1 c1 xs1)] w73 := E73
        rw [lay_all hL]
        simp only [putAll, dstOf, List.length_cons, List.length_nil, Nat.zero_add, Nat.reduceAdd, List.getElem?_toArray, List.getElem?_cons_zero, List.getElem?_cons_succ, Option.bind_some, Act.put, List.setIfInBounds_toArray, List.set_cons_succ, List.set_cons_zero]
        rw [e0, e1, e2, e3, e4, e5, e6, e7]
        clear e0 e1 e2 e3 e4 e5 e6 e7 hC hn E73 hL vs L nb
        go_upto_region 17 with (fail)
        refine region_fr (C := [Fq.is (.pointer (some ⟨b71_14, 2, none⟩)), Fq.is (.int .i64 0), Fq.is (.bool true), Fq.is (.bool true), Fq.is (undef), Fq.is (undef), Fq.is (undef), Fq.is (undef), Fq.is (undef), Fq.is (undef), Fq.is (undef), Fq.is (undef), Fq.is (.bool true), Fq.is (.bool true), Fq.is (.pointer (some ⟨b71_15, 2, none⟩)), Fq.is (.int .i64 4), Fq.is (.bool false), Fq.is (.bool false), Fq.is (.pointer (some ⟨b71_15, 2, none⟩)), Fq.is (.int .i64 4), Fq.is (.bool true), Fq.is (.bool true), Fq.is (.pointer (some ⟨b3, 1, none⟩)), Fq.is (.int .i16 j), Fq.is (.bool true), Fq.is (.bool true), Fq.is (.bool true), Fq.is (.bool true), Fq.is (.bool true), Fq.is (.bool false), Fq.is (.bool true), Fq.is (.bool true), Fq.is (.bool true), Fq.is (.bool true), Fq.is (.bool true), Fq.is (.bool true)]) (ks := [none, none, none, none, none, none, none, none, none, none, none]) (new := []) E rfl (by kernel_rfl) rfl rfl (fun hp => ⟨?_, ?_, ?_, ?_, ?_, ?_, ?_, ?_, ?_, ?_, ?_, ?_, ?_, ?_, ?_, ?_, ?_, ?_, ?_, ?_, ?_, ?_, ?_, ?_, ?_, ?_, ?_, ?_, ?_, ?_, ?_, ?_, ?_, ?_, ?_, ?_, trivial⟩) ?_
        · exact q_addr (b := b71_14) (off := 0) (off' := 2) hp (free_of rfl) trivial (sq_out rfl rfl (fun _ _ => rfl)) (fun ρ w h => by simp [execOp, go_sem, h]) (fun _ => rfl)
        · exact q_loadErr (r := 0) hp (free_of rfl) trivial (List.mem_iff_getElem?.2 ⟨0, rfl⟩) (.inl rfl) rfl (sq_in 0 rfl rfl (by simp) rfl (fun v w h => h)) (fun us w hl h => ld_got2 hl h) (fun _ => rfl)
        · exact q_one (F := fun v _ => v = .int .i64 0) hp (free_of rfl) trivial (sq_in 1 rfl rfl (by simp) rfl (fun v w h => h)) (fun ρ w hc h => ⟨.bool true, by simp [execOp, go_sem, h, hc], rfl⟩)
        · exact q_move hp (free_of rfl) trivial (sq_in 2 rfl rfl (by simp) rfl (fun v w h => h))
        · exact q_skip hp (free_of rfl) rfl (gq_some rfl rfl (by simp) rfl (fun v w h => h)) (fun _ => rfl)
        · exact q_skip hp (free_of rfl) rfl (gq_some rfl rfl (by simp) rfl (fun v w h => h)) (fun _ => rfl)
        · exact q_skip hp (free_of rfl) rfl (gq_some rfl rfl (by simp) rfl (fun v w h => h)) (fun _ => rfl)
        · exact q_skip hp (free_of rfl) rfl (gq_some rfl rfl (by simp) rfl (fun v w h => h)) (fun _ => rfl)
        · exact q_skipU hp (free_of rfl) rfl rfl rfl (by simp) rfl (fun v w h => h) (fun _ => rfl)
        · exact q_skipU hp (free_of rfl) rfl rfl rfl (by simp) rfl (fun v w h => h) (fun _ => rfl)
        · exact q_skipU hp (free_of rfl) rfl rfl rfl (by simp) rfl (fun v w h => h) (fun _ => rfl)
        · exact q_skip hp (free_of rfl) rfl (gq_some rfl rfl (by simp) rfl (fun v w h => h)) (fun _ => rfl)
        · exact q_two (F := fun v _ => v = .bool true) (G := fun v _ => v = .bool true) hp (free_of rfl) trivial (sq_in 3 rfl rfl (by simp) rfl (fun v w h => h)) (sq_const (fun _ => rfl)) (fun ρ w hc h h' => ⟨_, by simp [execOp, go_sem, h, h'], rfl⟩)
        · exact q_move hp (free_of rfl) trivial (sq_in 12 rfl rfl (by simp) rfl (fun v w h => h))
        · exact q_addr (b := b71_15) (off := 0) (off' := 2) hp (free_of rfl) (gq_some rfl rfl (by simp) rfl (fun v w h => h)) (sq_out rfl rfl (fun _ _ => rfl)) (fun ρ w h => by simp [execOp, go_sem, h]) (fun _ => rfl)
        · exact q_loadErr (r := 4) hp (free_of rfl) (gq_some rfl rfl (by simp) rfl (fun v w h => h)) (List.mem_iff_getElem?.2 ⟨1, rfl⟩) (.inl rfl) rfl (sq_in 14 rfl rfl (by simp) rfl (fun v w h => h)) (fun us w hl h => ld_got2 hl h) (fun _ => rfl)
        · exact q_one (F := fun v _ => v = .int .i64 4) hp (free_of rfl) (gq_some rfl rfl (by simp) rfl (fun v w h => h)) (sq_in 15 rfl rfl (by simp) rfl (fun v w h => h)) (fun ρ w hc h => ⟨.bool false, by simp [execOp, go_sem, h, hc], rfl⟩)
        · exact q_move hp (free_of rfl) (gq_some rfl rfl (by simp) rfl (fun v w h => h)) (sq_in 16 rfl rfl (by simp) rfl (fun v w h => h))
        · exact q_addr (b := b71_15) (off := 0) (off' := 2) hp (free_of rfl) (gq_some rfl rfl (by simp) rfl (fun v w h => h)) (sq_out rfl rfl (fun _ _ => rfl)) (fun ρ w h => by simp [execOp, go_sem, h]) (fun _ => rfl)
        · exact q_loadErr (r := 4) hp (free_of rfl) (gq_some rfl rfl (by simp) rfl (fun v w h => h)) (List.mem_iff_getElem?.2 ⟨1, rfl⟩) (.inl rfl) rfl (sq_in 18 rfl rfl (by simp) rfl (fun v w h => h)) (fun us w hl h => ld_got2 hl h) (fun _ => rfl)
        · exact q_one (F := fun v _ => v = .int .i64 4) hp (free_of rfl) (gq_some rfl rfl (by simp) rfl (fun v w h => h)) (sq_in 19 rfl rfl (by simp) rfl (fun v w h => h)) (fun ρ w hc h => ⟨.bool true, by simp [execOp, go_sem, h, hc], rfl⟩)
        · exact q_move hp (free_of rfl) (gq_some rfl rfl (by simp) rfl (fun v w h => h)) (sq_in 20 rfl rfl (by simp) rfl (fun v w h => h))
        · exact q_one (F := fun v _ => v = .pointer (some ⟨b3, 0, none⟩)) hp (free_of rfl) (gq_some rfl rfl (by simp) rfl (fun v w h => h)) (sq_out (s := 5) rfl rfl (fun _ _ => rfl)) (fun ρ w hc h => ⟨.pointer (some ⟨b3, 1, none⟩), by simp [execOp, go_sem, h, hc], rfl⟩)
        · exact q_loadI16 (off := 1) (v := .int .i16 j) hp (free_of rfl) (gq_some rfl rfl (by simp) rfl (fun v w h => h)) (List.mem_iff_getElem?.2 ⟨8, rfl⟩) (.inl rfl) (Nat.le_of_ble_eq_true rfl) (sq_in 22 rfl rfl (by simp) rfl (fun v w h => h)) (fun us w hl h => ⟨ld_i16s1 hl h, rfl⟩)
        · exact q_one (F := fun v _ => v = .int .i16 j) hp (free_of rfl) (gq_some rfl rfl (by simp) rfl (fun v w h => h)) (sq_in 23 rfl rfl (by simp) rfl (fun v w h => h)) (fun ρ w hc h => ⟨.bool true, by simp [execOp, go_sem, h, hc, OJ.out], rfl⟩)
        · exact q_two (F := fun v _ => v = .bool true) (G := fun v _ => v = .bool true) hp (free_of rfl) (gq_some rfl rfl (by simp) rfl (fun v w h => h)) (sq_in 21 rfl rfl (by simp) rfl (fun v w h => h)) (sq_in 24 rfl rfl (by simp) rfl (fun v w h => h)) (fun ρ w hc h h' => ⟨_, by simp [execOp, go_sem, h, h'], rfl⟩)
        · exact q_two (F := fun v _ => v = .bool false) (G := fun v _ => v = .bool true) hp (free_of rfl) (gq_some rfl rfl (by simp) rfl (fun v w h => h)) (sq_in 17 rfl rfl (by simp) rfl (fun v w h => h)) (sq_in 25 rfl rfl (by simp) rfl (fun v w h => h)) (fun ρ w hc h h' => ⟨_, by simp [execOp, go_sem, h, h'], rfl⟩)
        · exact q_two (F := fun v _ => v = .bool true) (G := fun v _ => v = .bool true) hp (free_of rfl) trivial (sq_in 13 rfl rfl (by simp) rfl (fun v w h => h)) (sq_in 26 rfl rfl (by simp) rfl (fun v w h => h)) (fun ρ w hc h h' => ⟨_, by simp [execOp, go_sem, h, h'], rfl⟩)
        · exact q_move hp (free_of rfl) trivial (sq_in 27 rfl rfl (by simp) rfl (fun v w h => h))
        · exact q_move hp (free_of rfl) (gq_some rfl rfl (by simp) rfl (fun v w h => h)) (sq_out rfl rfl (fun _ _ => rfl))
        · exact q_one (F := fun v _ => v = .bool false) hp (free_of rfl) (gq_some rfl rfl (by simp) rfl (fun v w h => h)) (sq_in 29 rfl rfl (by simp) rfl (fun v w h => h)) (fun ρ w _ h => ⟨.bool true, by simp [execOp, go_sem, h], rfl⟩)
        · exact q_two (F := fun v _ => v = .bool true) (G := fun v _ => v = .bool true) hp (free_of rfl) trivial (sq_in 28 rfl rfl (by simp) rfl (fun v w h => h)) (sq_in 30 rfl rfl (by simp) rfl (fun v w h => h)) (fun ρ w hc h h' => ⟨_, by simp [execOp, go_sem, h, h'], rfl⟩)
        · exact q_move hp (free_of rfl) trivial (sq_in 31 rfl rfl (by simp) rfl (fun v w h => h))
        · exact q_move hp (free_of rfl) (gq_some rfl rfl (by simp) rfl (fun v w h => h)) (sq_out rfl rfl (fun _ _ => rfl))
        · exact q_two (F := fun v _ => v = .bool true) (G := fun v _ => v = .bool true) hp (free_of rfl) trivial (sq_in 32 rfl rfl (by simp) rfl (fun v w h => h)) (sq_in 33 rfl rfl (by simp) rfl (fun v w h => h)) (fun ρ w hc h h' => ⟨_, by simp [execOp, go_sem, h, h'], rfl⟩)
        · exact q_assign hp (free_of rfl) trivial (sq_in 34 rfl rfl (by simp) rfl (fun v w h => h))
        intro L vs w74 nb hL hC hn E74
        have e0 : vs 0 = .pointer (some ⟨b71_14, 2, none⟩) := hC 0 (by simp)
        have e1 : vs 1 = .int .i64 0 := hC 1 (by simp)
        have e2 : vs 2 = .bool true := hC 2 (by simp)
        have e3 : vs 3 = .bool true := hC 3 (by simp)
        have e4 : vs 4 = undef := hC 4 (by simp)
        have e5 : vs 5 = undef := hC 5 (by simp)
        have e6 : vs 6 = undef := hC 6 (by simp)
        have e7 : vs 7 = undef := hC 7 (by simp)
        have e8 : vs 8 = undef := hC 8 (by simp)
        have e9 : vs 9 = undef := hC 9 (by simp)
        have e10 : vs 10 = undef := hC 10 (by simp)
        have e11 : vs 11 = undef := hC 11 (by simp)
        have e12 : vs 12 = .bool true := hC 12 (by simp)
        have e13 : vs 13 = .bool true := hC 13 (by simp)
        have e14 : vs 14 = .pointer (some ⟨b71_15, 2, none⟩) := hC 14 (by simp)
        have e15 : vs 15 = .int .i64 4 := hC 15 (by simp)
        have e16 : vs 16 = .bool false := hC 16 (by simp)
        have e17 : vs 17 = .bool false := hC 17 (by simp)
        have e18 : vs 18 = .pointer (some ⟨b71_15, 2, none⟩) := hC 18 (by simp)
        have e19 : vs 19 = .int .i64 4 := hC 19 (by simp)
        have e20 : vs 20 = .bool true := hC 20 (by simp)
        have e21 : vs 21 = .bool true := hC 21 (by simp)
        have e22 : vs 22 = .pointer (some ⟨b3, 1, none⟩) := hC 22 (by simp)
        have e23 : vs 23 = .int .i16 j := hC 23 (by simp)
        have e24 : vs 24 = .bool true := hC 24 (by simp)
        have e25 : vs 25 = .bool true := hC 25 (by simp)
        have e26 : vs 26 = .bool true := hC 26 (by simp)
        have e27 : vs 27 = .bool true := hC 27 (by simp)
        have e28 : vs 28 = .bool true := hC 28 (by simp)
        have e29 : vs 29 = .bool false := hC 29 (by simp)
        have e30 : vs 30 = .bool true := hC 30 (by simp)
        have e31 : vs 31 = .bool true := hC 31 (by simp)
        have e32 : vs 32 = .bool true := hC 32 (by simp)
        have e33 : vs 33 = .bool true := hC 33 (by simp)
        have e34 : vs 34 = .bool true := hC 34 (by simp)
        have e35 : vs 35 = .bool true := hC 35 (by simp)
        have E : Fr w [(b71_14, 3, Fq.got (powM a i m) 0), (b71_15, 3, Fq.got 0 4), (b71_16, 3, Fq.got Z R), (b69_8, 2, Fq.num i), (b69_9, 2, Fq.num j), (b65_3, 3, Fq.got 0 4), (b8_7, 2, Fq.num a), (b8_8, 2, Fq.num m), (b3, 2, Fq.is (.agg #[.int .i16 i, .int .i16 j])), (b2, 2, Fq.raw n2 a2 k2 c2 xs2), (b1, 2, Fq.raw n1 a1 k1 c1 xs1)] w74 := E74
        rw [lay_all hL]
        simp only [putAll, dstOf, List.length_cons, List.length_nil, Nat.zero_add, Nat.reduceAdd, List.getElem?_toArray, List.getElem?_cons_zero, List.getElem?_cons_succ, Option.bind_some, Act.put, List.setIfInBounds_toArray, List.set_cons_succ, List.set_cons_zero]
        rw [e0, e1, e2, e3, e4, e5, e6, e7, e8, e9, e10, e11, e12, e13, e14, e15, e16, e17, e18, e19, e20, e21, e22, e23, e24, e25, e26, e27, e28, e29, e30, e31, e32, e33, e34, e35]
        clear e0 e1 e2 e3 e4 e5 e6 e7 e8 e9 e10 e11 e12 e13 e14 e15 e16 e17 e18 e19 e20 e21 e22 e23 e24 e25 e26 e27 e28 e29 e30 e31 e32 e33 e34 e35 hC hn E74 hL vs L nb
        clear OI OJ HZ HR HG PM NM HM
        clear B6 B7 B66 B70 Ba Bb hT BM BI BJ
        go_wp2
        refine bodyPost_ret (v := .bool true) ?_ rfl ⟨rfl, E.below⟩
        simp [results, Tryd.results3, go_sem]

end Go.Proofs.YtieobgadihcgeaaDoor
