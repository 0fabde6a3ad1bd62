/- Mk, Ml, Mm, Mo, Mq, Ms, Mu, Mw, Mx, Na. -/
import Derived.Test.YtieobgadihcgeaaDoorCu4
import Derived.Laws.OwnMore
import Derived.Deep.AppendLies
/- Walks: the symbol of Jacobi, the symbol of Kronecker. -/
namespace Go.Proofs.YtieobgadihcgeaaDoor
open Go Go.RowKit

section
variable {os : List Oper} {Q : Exit → Act → World → Prop} {a : Act} {p : Pq} {B B0 : Nat} {w0 : World}
variable {i s : Nat} {d : Option Tmp} {ty : TypeId} {ps : String} {af : Array Edge} {gd : Option (Nat × Bool)}
theorem q_call1W {x : Operand} {F : Value → World → Prop} {f : FuncId} {ts : Array TypeId} (hp : p.Ok B B0) (hF : p.Free i) (hg : GdQ os a p B B0 w0 af gd) (hen : ∀ args w, (callFunc f args).run Tryd.prog w = .ok (.enter f args) w) (hB : B = w0.heap.size)
    (hx : SrcQ os a p B B0 w0 af x F) (hC : ∀ v w, Below w0.heap.size w0 w → F v w → Calls Tryd.prog f #[v] w fun e w' => ∃ v', e = .returned v' ∧ Below w.heap.size w w' ∧ (p.c i).P v' w') :
    StepQ os Q a p B B0 w0 i { dst := d, op := .call { callee := .value (.func f), args := #[x], argTypes := ts }, type := ty, pos := ps, after := af, guard := gd } := by
  subst hB
  exact stq_call hp hF hg hen fun L vs w hG hd => ⟨#[_], by simp, hC _ _ hG.below (hx L vs w hG hd)⟩
theorem q_call2W {x y : Operand} {F G : Value → World → Prop} {f : FuncId} {ts : Array TypeId} (hp : p.Ok B B0) (hF : p.Free i) (hg : GdQ os a p B B0 w0 af gd) (hen : ∀ args w, (callFunc f args).run Tryd.prog w = .ok (.enter f args) w) (hB : B = w0.heap.size)
    (hx : SrcQ os a p B B0 w0 af x F) (hy : SrcQ os a p B B0 w0 af y G) (hC : ∀ v v' w, Below w0.heap.size w0 w → F v w → G v' w → Calls Tryd.prog f #[v, v'] w fun e w' => ∃ v', e = .returned v' ∧ Below w.heap.size w w' ∧ (p.c i).P v' w') :
    StepQ os Q a p B B0 w0 i { dst := d, op := .call { callee := .value (.func f), args := #[x, y], argTypes := ts }, type := ty, pos := ps, after := af, guard := gd } := by
  subst hB
  exact stq_call hp hF hg hen fun L vs w hG hd => ⟨#[_, _], by simp, hC _ _ _ hG.below (hx L vs w hG hd) (hy L vs w hG hd)⟩
theorem q_moveB (m f : Nat) {v : Value} (hp : p.Ok B B0) (hF : p.Free i) (hg : GdQ os a p B B0 w0 af gd) (ha : apartB (os.map (·.dst)) = true) (hj : (os.map (·.dst))[m]? = some (some s)) (hl : leadsB os f m i = true) (hx : a.eval (.tmp s) = v) (hv : ∀ w, (p.c i).P v w) :
    StepQ os Q a p B B0 w0 i { dst := d, op := .move (.tmp s), type := ty, pos := ps, after := af, guard := gd } := by
  refine stq_val hp hF hg fun L vs w hG hL hc hd => ⟨v, ?_, hv _⟩
  have hm := not_yet hc hl hL
  have e : (lay os.toArray L vs os.toArray.size a).eval (.tmp s) = a.eval (.tmp s) := by
    refine lay_eval_out _ _ fun j _ hj2 hd2 => ?_
    have hjm : j = m := Classical.byContradiction fun hne => apart_of ha j m s hne hd2 (by
      unfold dstOf
      simp at hj ⊢
      cases ho : os[m]? with
      | none => simp [ho] at hj
      | some o => simp [ho] at hj ⊢; exact hj)
    rw [hjm, hm] at hj2
    cases hj2
  rw [hx] at e
  have e2 : (lay os.toArray L vs os.toArray.size a).tmps.getD s undef = v := e
  simp only [execOp, go_sem]
  rw [e2]
  rfl
end
theorem exOddPart {w : World} {v : Value} {z : Int} (h : Num w v z) (hT : Tabs w) (hz : z ≠ 0) (hb : ab z < pw 300) :
    Calls Tryd.prog 51 #[v] w fun e w' => ∃ v', e = .returned v' ∧ Below w.heap.size w w' ∧ (Fq.tup2 (Fq.num (z / 2 ^ v2 z)) (Fq.is (.int .i64 (v2 z : Int)))).P v' w' := exOddPartK h hT hz hb (Nat.le_refl _)
theorem exOfTwos {w : World} {v v' : Value} {k n r : Int} (h : v = .int .i64 k) (h' : v' = .int .u32 n) (k0 : 0 ≤ k ∧ k < 9223372036854775808) (n0 : 0 ≤ n ∧ n < 4294967296) (hr : twosZ k n = r) :
    Calls Tryd.prog 52 #[v, v'] w fun e w' => ∃ v', e = .returned v' ∧ Below w.heap.size w w' ∧ v' = .int .i64 r := by
  subst h h' hr
  exact (ofTwosZ w k0.1 k0.2 n0.1 n0.2).mono fun e w' ⟨he, hw⟩ => ⟨_, he, by rw [hw]; exact Below.refl _ _, rfl⟩
theorem exTurned {w : World} {v v' : Value} {k n r : Int} (h : v = .int .u32 k) (h' : v' = .int .u32 n) (k0 : 0 ≤ k ∧ k < 4294967296) (n0 : 0 ≤ n ∧ n < 4294967296) (hr : turnZ k n = r) :
    Calls Tryd.prog 75 #[v, v'] w fun e w' => ∃ v', e = .returned v' ∧ Below w.heap.size w w' ∧ v' = .int .i64 r := by
  subst h h' hr
  exact (turnedZ w k0.1 k0.2 n0.1 n0.2).mono fun e w' ⟨he, hw⟩ => ⟨_, he, by rw [hw]; exact Below.refl _ _, rfl⟩
theorem exJacWords {w : World} {v v' : Value} {a n : Int} (hT : Tabs w) (h : v = .int .u64 a) (h' : v' = .int .u64 n) (a0 : 0 ≤ a ∧ a < 18446744073709551616) (n0 : 0 ≤ n ∧ n < 18446744073709551616) (ho : n % 2 = 1) :
    Calls Tryd.prog 76 #[v, v'] w fun e w' => ∃ v', e = .returned v' ∧ Below w.heap.size w w' ∧ v' = .int .i64 (J a n.toNat) := by
  subst h h'
  obtain ⟨a', rfl⟩ := Int.eq_ofNat_of_zero_le a0.1
  obtain ⟨n', rfl⟩ := Int.eq_ofNat_of_zero_le n0.1
  exact (jacobiWords_any w hT a' n' (by omega) (by omega) (by omega)).mono fun e w' ⟨he, hw⟩ => ⟨_, he, by rw [hw]; exact Below.refl _ _, by rw [Int.toNat_natCast]⟩
theorem v2_lt {z : Int} (hz : z ≠ 0) (h : ab z < pw 100) : (v2 z : Int) < 9223372036854775808 := by
  obtain ⟨m, _, h1⟩ := v2_spec hz
  have := nbits_le h
  omega
theorem word_range (z : Int) : 0 ≤ ab z % 4294967296 ∧ ab z % 4294967296 < 4294967296 := by omega
theorem sgnp_mul {s t : Int} (hs : s = 1 ∨ s = -1) (ht : t = 1 ∨ t = -1) : s * t = 1 ∨ s * t = -1 := by rcases hs with rfl | rfl <;> rcases ht with rfl | rfl <;> simp
theorem sgn_wrap {s t : Int} (hs : s = 1 ∨ s = -1) (ht : t = 1 ∨ t = -1) : IntKind.i64.wrap (s * t) = s * t := IntWalk.i64_in _ (by rcases sgnp_mul hs ht with h | h <;> rw [h] <;> decide)
theorem J_range (a : Int) (n : Nat) : J a n = 0 ∨ J a n = 1 ∨ J a n = -1 := by
  by_cases h : Int.gcd a n = 1
  · exact .inr (J_or h)
  · exact .inl (J_not h)
theorem sgn_wrapJ {s t : Int} (hs : s = 1 ∨ s = -1) (ht : t = 0 ∨ t = 1 ∨ t = -1) : IntKind.i64.wrap (s * t) = s * t := IntWalk.i64_in _ (by rcases hs with rfl | rfl <;> rcases ht with rfl | rfl | rfl <;> decide)
/-- A round of the symbol. -/
theorem J_round {x y : Int} (hx : 0 < x) (hy : 0 < y) (ho : y % 2 = 1) :
    (0 < x / 2 ^ v2 x ∧ (x / 2 ^ v2 x) % 2 = 1 ∧ x / 2 ^ v2 x ≤ x) ∧
    J x y.toNat = (twosZ (v2 x : Int) (ab y % 4294967296) * turnZ (ab (x / 2 ^ v2 x) % 4294967296) (ab y % 4294967296)) * J (y % (x / 2 ^ v2 x)) (x / 2 ^ v2 x).toNat := by
  obtain ⟨h1, h2⟩ := v2_div (z := x) (by omega)
  have hp := pow_two_pos (v2 x)
  rw [twosZ_mod, turnZ_mod]
  generalize hO : x / 2 ^ v2 x = o at *
  have ho0 : 0 < o := by
    rcases Int.lt_or_le 0 o with h | h
    · exact h
    · have := Int.mul_le_mul_of_nonneg_left h (show (0 : Int) ≤ 2 ^ v2 x by omega)
      omega
  have hle : o ≤ x := by
    have := Int.mul_le_mul_of_nonneg_right (show (1 : Int) ≤ 2 ^ v2 x by omega) (show 0 ≤ o by omega)
    omega
  refine ⟨⟨ho0, h2, hle⟩, ?_⟩
  obtain ⟨O, rfl⟩ := Int.eq_ofNat_of_zero_le (show 0 ≤ o by omega)
  obtain ⟨Y, rfl⟩ := Int.eq_ofNat_of_zero_le (show 0 ≤ y by omega)
  have hs := J_step (t := v2 x) (o := O) (n := Y) (by omega) (by omega)
  have e : ((2 ^ v2 x * O : Nat) : Int) = x := by
    rw [Int.natCast_mul, Int.natCast_pow]
    exact h1.symm
  rw [e] at hs
  rw [Int.toNat_natCast, Int.toNat_natCast, ab_of (by omega), ab_of (by omega)]
  exact hs
theorem nbits_gt {y : Int} (hy : 0 < y) (h : 63 < nbits y) : y.toNat ≠ 1 := by
  rcases nbits_isBits y with ⟨h1, h2⟩ | ⟨_, h2, _⟩
  · omega
  · have h3 : (2 : Int) ^ 63 ≤ 2 ^ (nbits y - 1) := two_pow_le (by omega)
    rw [ab_of (by omega)] at h2
    have : (2 : Int) ^ 63 = 9223372036854775808 := by decide
    omega
theorem nbits_le63 {y : Int} (hy : 0 < y) (h : ¬ 63 < nbits y) : y ≤ 9223372036854775807 := by
  rcases nbits_isBits y with ⟨h1, h2⟩ | ⟨_, _, h2⟩
  · rw [ab_of (by omega)] at h1; omega
  · have h3 : (2 : Int) ^ nbits y ≤ 2 ^ 63 := two_pow_le (by omega)
    rw [ab_of (by omega)] at h2
    have : (2 : Int) ^ 63 = 9223372036854775808 := by decide
    omega

set_option maxRecDepth 100000 in
set_option maxHeartbeats 4000000 in
theorem exJacobi {w : World} {v v' : Value} {a n : Int} (h : Num w v a) (h' : Num w v' n) (hT : Tabs w) (ha : ab a < pw 100) (hn : ab n < pw 100) (hi : 0 ≤ a ∧ a < n ∧ n % 2 = 1) :
    Calls Tryd.prog 53 #[v, v'] w fun e w' => ∃ v', e = .returned v' ∧ Below w.heap.size w w' ∧ v' = .int .i64 (J a n.toNat) := by
  replace ha := hidd ha
  replace hn := hidd hn
  have HT := hidd hT
  have HI0 := hidd hi
  clear hT hi
  obtain ⟨n0, ao0, k0, c0, rfl⟩ := h.parts
  obtain ⟨n1, ao1, k1, c1, rfl⟩ := h'.parts
  obtain ⟨w1, b1, hw1, hb1, hs1, E⟩ := fr_start w (F := Fq.num a) (us := [.bool n0, .slice ao0 k0 c0]) 29 rfl (by simp) (tame_int _ _ _ _) h
  obtain ⟨w2, b2, hw2, hb2, hs2, E⟩ := fr_more E hs1 (F := Fq.num n) (us := [.bool n1, .slice ao1 k1 c1]) 29 rfl (by simp) (tame_int _ _ _ _) (h'.mono E.below)
  go_enter Tryd.func53, Tryd.ntmps53
  go_upto_region 1 with (fail)
  rw [← hw1]
  rw [← hw2]
  rw [← hb2]
  rw [← hb1]
  clear hw1 hw2 hb1 hb2 hs2 hs1
  refine region_fr (C := [Fq.is (.int .i64 1)]) (ks := [none, none]) (new := []) E rfl (by kernel_rfl) rfl rfl (fun hp => ⟨?_, trivial⟩) ?_
  · exact q_assign hp (free_of rfl) trivial (sq_const (fun _ => rfl))
  intro L vs w3 nb hL hC hn E3
  have e0 : vs 0 = .int .i64 1 := hC 0 (by simp)
  have E : Fr w [(b2, 2, Fq.num n), (b1, 2, Fq.num a)] w3 := E3
  rw [lay_all hL]
  simp only [putAll, dstOf, List.length_cons, List.length_nil, Nat.zero_add, List.getElem?_toArray, List.getElem?_cons_zero, Option.bind_some, Act.put, List.setIfInBounds_toArray, List.set_cons_succ, List.set_cons_zero]
  rw [e0]
  clear e0 hC hn E3 hL vs L nb
  have HS := hidd E
  go_upto_region 2 with (fail)
  go_loopw [5] (fun vs W => ∃ x y s : Int, vs = .int .i64 s ∧ Hid (ab x < pw 100 ∧ ab y < pw 100) ∧ Hid (0 ≤ x ∧ x < y ∧ y % 2 = 1 ∧ (s = 1 ∨ s = -1) ∧ J a n.toNat = s * J x y.toNat) ∧ Fr w [(b2, 2, Fq.num y), (b1, 2, Fq.num x)] W) (fun _ W => boxVal W b1)
  case atStart => exact ⟨a, n, 1, rfl, ⟨ha.out, hn.out⟩, ⟨HI0.out.1, HI0.out.2.1, HI0.out.2.2, .inl rfl, by rw [Int.one_mul]⟩, HS.out⟩
  case round =>
    obtain ⟨x, y, s, rfl, HB, HI, E⟩ := hrel
    clear HS HI0 ha hn
    by_cases hb : 63 < nbits y
    · have TB : Hid ((63 : Int) < ((nbits y : Nat) : Int)) := by show _ < _; omega
      by_cases hx : x = 0
      · subst hx
        have T0 : Hid (cmpI (0 : Int) 0 = 0) := cmpIq0.2 rfl
        have HJ : Hid (J a n.toNat = 0) := by have := HI.out; show _ = _; rw [this.2.2.2.2, J_zero, if_neg (nbits_gt (by omega) hb), Int.mul_zero]
        clear hb
        go_upto_region 2 with (fail)
        refine region_fr (C := [Fq.num y, Fq.is (.int .i64 ((nbits y : Nat) : Int)), Fq.is (.bool true)]) (ks := [none, none]) (new := []) E rfl (by kernel_rfl) rfl rfl (fun hp => ⟨?_, ?_, ?_, trivial⟩) ?_
        · exact q_loadInt (off := 0) hp (free_of rfl) trivial (List.mem_iff_getElem?.2 ⟨0, rfl⟩) (.inl rfl) (Nat.le_of_ble_eq_true rfl) (sq_out rfl rfl (fun _ _ => rfl)) (fun us w hl h => ld_num hl h)
        · exact q_call1 (F := (Fq.num y).P) hp (free_of rfl) trivial (enq_Bits) (sq_in 0 rfl rfl (by simp) rfl (fun v w h => h)) (fun v w h => exBits h)
        · exact q_one (F := fun v _ => v = .int .i64 ((nbits y : Nat) : Int)) hp (free_of rfl) trivial (sq_in 1 rfl rfl (by simp) rfl (fun v w h => h)) (fun ρ w hc h => ⟨.bool true, by simp [execOp, go_sem, h, hc, TB.out], rfl⟩)
        intro L vs w4 nb hL hC hn E4
        have e1 : vs 1 = .int .i64 ((nbits y : Nat) : Int) := hC 1 (by simp)
        have e2 : vs 2 = .bool true := hC 2 (by simp)
        have E : Fr w [(b2, 2, Fq.num y), (b1, 2, Fq.num 0)] w4 := E4
        rw [lay_all hL]
        simp only [putAll, dstOf, List.length_cons, List.length_nil, Nat.zero_add, Nat.reduceAdd, List.getElem?_toArray, List.getElem?_cons_zero, List.getElem?_cons_succ, Option.bind_some, Act.put, List.setIfInBounds_toArray, List.set_cons_succ, List.set_cons_zero]
        rw [e1, e2]
        generalize vs 0 = u4_0
        clear e1 e2 hC hn E4 hL vs L nb
        go_upto_region 3 with (fail)
        refine region_fr (C := [Fq.num 0, Fq.is (.int .i64 (cmpI 0 0)), Fq.is (.bool true)]) (ks := [none, none]) (new := []) E rfl (by kernel_rfl) rfl rfl (fun hp => ⟨?_, ?_, ?_, trivial⟩) ?_
        · exact q_loadInt (off := 0) hp (free_of rfl) trivial (List.mem_iff_getElem?.2 ⟨1, rfl⟩) (.inl rfl) (Nat.le_of_ble_eq_true rfl) (sq_out rfl rfl (fun _ _ => rfl)) (fun us w hl h => ld_num hl h)
        · exact q_call1 (F := (Fq.num 0).P) hp (free_of rfl) trivial (enq_Sign) (sq_in 0 rfl rfl (by simp) rfl (fun v w h => h)) (fun v w h => exSign h)
        · exact q_one (F := fun v _ => v = .int .i64 (cmpI 0 0)) hp (free_of rfl) trivial (sq_in 1 rfl rfl (by simp) rfl (fun v w h => h)) (fun ρ w hc h => ⟨.bool true, by simp [execOp, go_sem, h, hc, T0.out], rfl⟩)
        intro L vs w5 nb hL hC hn E5
        have e1 : vs 1 = .int .i64 (cmpI 0 0) := hC 1 (by simp)
        have e2 : vs 2 = .bool true := hC 2 (by simp)
        have E : Fr w [(b2, 2, Fq.num y), (b1, 2, Fq.num 0)] w5 := E5
        rw [lay_all hL]
        simp only [putAll, dstOf, List.length_cons, List.length_nil, Nat.zero_add, Nat.reduceAdd, List.getElem?_toArray, List.getElem?_cons_zero, List.getElem?_cons_succ, Option.bind_some, Act.put, List.setIfInBounds_toArray, List.set_cons_succ, List.set_cons_zero]
        rw [e1, e2]
        generalize vs 0 = u5_0
        clear e1 e2 hC hn E5 hL vs L nb
        clear TB T0 HB HI HT
        go_wp2
        refine bodyPost_ret (v := .int .i64 0) ?_ rfl (by first | exact ⟨_, rfl, E.below, by rw [HJ.out]⟩ | exact ⟨_, rfl, E.below⟩ | exact ⟨rfl, E.below⟩)
        simp [results, Tryd.results53, go_sem]
      · have T0 : Hid (¬ cmpI x 0 = 0) := fun e => hx (cmpIq0.1 e)
        have HX : Hid (x ≠ 0) := hx
        obtain ⟨⟨o1, o2, o3⟩, hJ⟩ := J_round (x := x) (y := y) (by have := HI.out; omega) (by have := HI.out; omega) HI.out.2.2.1
        have hA := twosZ_or (v2 x : Int) (ab y % 4294967296)
        have hC := turnZ_or (ab (x / 2 ^ v2 x) % 4294967296) (ab y % 4294967296)
        obtain ⟨A, eA⟩ : ∃ A, twosZ (v2 x : Int) (ab y % 4294967296) = A := ⟨_, rfl⟩
        obtain ⟨C, eC⟩ : ∃ C, turnZ (ab (x / 2 ^ v2 x) % 4294967296) (ab y % 4294967296) = C := ⟨_, rfl⟩
        rw [eA] at hA hJ
        rw [eC] at hC hJ
        have HA := hidd eA
        have HC := hidd eC
        have G1 := hidd (sgn_wrap hA hC)
        have G2 := hidd (sgn_wrap HI.out.2.2.2.1 (sgnp_mul hA hC))
        have HO : Hid (0 < x / 2 ^ v2 x ∧ (x / 2 ^ v2 x) % 2 = 1 ∧ x / 2 ^ v2 x ≤ x) := ⟨o1, o2, o3⟩
        have HOZ : Hid (x / 2 ^ v2 x ≠ 0) := by show _ ≠ _; omega
        have HJ : Hid ((s * (A * C) = 1 ∨ s * (A * C) = -1) ∧ J a n.toNat = s * (A * C) * J (y % (x / 2 ^ v2 x)) (x / 2 ^ v2 x).toNat) := ⟨sgnp_mul HI.out.2.2.2.1 (sgnp_mul hA hC), by rw [HI.out.2.2.2.2, hJ]; ac_rfl⟩
        have BO : Hid (ab (x / 2 ^ v2 x) < pw 100) := by have h1 := HB.out.1; have h2 := HI.out; show _ < _; unfold ab at *; omega
        have HK : Hid ((v2 x : Int) < 9223372036854775808) := v2_lt (by have := HX.out; exact this) HB.out.1
        clear hx hb o1 o2 o3 hJ hA hC eA eC
        have HBV := hidd (boxVal_eq (bq_box (E.box 1 rfl)))
        go_upto_region 2 with (fail)
        refine region_fr (C := [Fq.num y, Fq.is (.int .i64 ((nbits y : Nat) : Int)), Fq.is (.bool true)]) (ks := [none, none]) (new := []) E rfl (by kernel_rfl) rfl rfl (fun hp => ⟨?_, ?_, ?_, trivial⟩) ?_
        · exact q_loadInt (off := 0) hp (free_of rfl) trivial (List.mem_iff_getElem?.2 ⟨0, rfl⟩) (.inl rfl) (Nat.le_of_ble_eq_true rfl) (sq_out rfl rfl (fun _ _ => rfl)) (fun us w hl h => ld_num hl h)
        · exact q_call1 (F := (Fq.num y).P) hp (free_of rfl) trivial (enq_Bits) (sq_in 0 rfl rfl (by simp) rfl (fun v w h => h)) (fun v w h => exBits h)
        · exact q_one (F := fun v _ => v = .int .i64 ((nbits y : Nat) : Int)) hp (free_of rfl) trivial (sq_in 1 rfl rfl (by simp) rfl (fun v w h => h)) (fun ρ w hc h => ⟨.bool true, by simp [execOp, go_sem, h, hc, TB.out], rfl⟩)
        intro L vs w6 nb hL hC hn E6
        have e1 : vs 1 = .int .i64 ((nbits y : Nat) : Int) := hC 1 (by simp)
        have e2 : vs 2 = .bool true := hC 2 (by simp)
        have E : Fr w [(b2, 2, Fq.num y), (b1, 2, Fq.num x)] w6 := E6
        rw [lay_all hL]
        simp only [putAll, dstOf, List.length_cons, List.length_nil, Nat.zero_add, Nat.reduceAdd, List.getElem?_toArray, List.getElem?_cons_zero, List.getElem?_cons_succ, Option.bind_some, Act.put, List.setIfInBounds_toArray, List.set_cons_succ, List.set_cons_zero]
        rw [e1, e2]
        generalize vs 0 = u6_0
        clear e1 e2 hC hn E6 hL vs L nb
        go_upto_region 3 with (fail)
        refine region_fr (C := [Fq.num x, Fq.is (.int .i64 (cmpI x 0)), Fq.is (.bool false)]) (ks := [none, none]) (new := []) E rfl (by kernel_rfl) rfl rfl (fun hp => ⟨?_, ?_, ?_, trivial⟩) ?_
        · exact q_loadInt (off := 0) hp (free_of rfl) trivial (List.mem_iff_getElem?.2 ⟨1, rfl⟩) (.inl rfl) (Nat.le_of_ble_eq_true rfl) (sq_out rfl rfl (fun _ _ => rfl)) (fun us w hl h => ld_num hl h)
        · exact q_call1 (F := (Fq.num x).P) hp (free_of rfl) trivial (enq_Sign) (sq_in 0 rfl rfl (by simp) rfl (fun v w h => h)) (fun v w h => exSign h)
        · exact q_one (F := fun v _ => v = .int .i64 (cmpI x 0)) hp (free_of rfl) trivial (sq_in 1 rfl rfl (by simp) rfl (fun v w h => h)) (fun ρ w hc h => ⟨.bool false, by simp [execOp, go_sem, h, hc, T0.out], rfl⟩)
        intro L vs w7 nb hL hC hn E7
        have e1 : vs 1 = .int .i64 (cmpI x 0) := hC 1 (by simp)
        have e2 : vs 2 = .bool false := hC 2 (by simp)
        have E : Fr w [(b2, 2, Fq.num y), (b1, 2, Fq.num x)] w7 := E7
        rw [lay_all hL]
        simp only [putAll, dstOf, List.length_cons, List.length_nil, Nat.zero_add, Nat.reduceAdd, List.getElem?_toArray, List.getElem?_cons_zero, List.getElem?_cons_succ, Option.bind_some, Act.put, List.setIfInBounds_toArray, List.set_cons_succ, List.set_cons_zero]
        rw [e1, e2]
        generalize vs 0 = u7_0
        clear e1 e2 hC hn E7 hL vs L nb
        clear TB T0
        go_upto_region 5 with (fail)
        refine region_fr (C := [Fq.num x, Fq.tup2 (Fq.num (x / 2 ^ v2 x)) (Fq.is (.int .i64 (v2 x : Int))), Fq.tup2 (Fq.num (x / 2 ^ v2 x)) (Fq.is (.int .i64 (v2 x : Int))), Fq.num (x / 2 ^ v2 x), Fq.is (.int .i64 (v2 x : Int)), Fq.any, Fq.any, Fq.is (.int .i64 (v2 x : Int))]) (ks := [none, none]) (new := [⟨5, 6, 2, Fq.num 0, Fq.num (x / 2 ^ v2 x), none⟩]) E rfl (by kernel_rfl) rfl rfl (fun hp => ⟨?_, ?_, ?_, ?_, ?_, ?_, ?_, ?_, trivial⟩) ?_
        · exact q_loadInt (off := 0) hp (free_of rfl) trivial (List.mem_iff_getElem?.2 ⟨1, rfl⟩) (.inl rfl) (Nat.le_of_ble_eq_true rfl) (sq_out rfl rfl (fun _ _ => rfl)) (fun us w hl h => ld_num hl h)
        · exact q_call1W (F := (Fq.num x).P) hp (free_of rfl) trivial (enq_M_oddPart) rfl (sq_in 0 rfl rfl (by simp) rfl (fun v w h => h)) (fun v w hbw h => exOddPart h (HT.out.mono hbw) HX.out (Int.lt_of_lt_of_le HB.out.1 (pw_le (by omega))))
        · exact q_move hp (free_of rfl) trivial (sq_in 1 rfl rfl (by simp) rfl (fun v w h => h))
        · exact q_extract2 hp (free_of rfl) trivial (sq_in 2 rfl rfl (by simp) rfl (fun v w h => h)) (fun v1 v2 w h1 h2 => ⟨_, rfl, h1⟩)
        · exact q_extract2 hp (free_of rfl) trivial (sq_in 2 rfl rfl (by simp) rfl (fun v w h => h)) (fun v1 v2 w h1 h2 => ⟨_, rfl, h2⟩)
        · exact q_allocInt hp (List.mem_iff_getElem?.2 ⟨0, rfl⟩) rfl rfl rfl rfl (Nat.ne_of_beq_eq_false rfl) (fun _ _ => trivial) (old_ne rfl) (newk_ne rfl) (fun w => Num.zero w)
        · exact q_storeNewInt hp (List.mem_iff_getElem?.2 ⟨0, rfl⟩) rfl rfl rfl (own_ptr rfl rfl (by simp) rfl) (sq_in 3 rfl rfl (by simp) rfl (fun v w h => intV_num h)) (fun _ _ => trivial) (old_ne rfl) (newi_ne rfl)
        · exact q_assign hp (free_of rfl) trivial (sq_in 4 rfl rfl (by simp) rfl (fun v w h => h))
        intro L vs w8 nb hL hC hn E8
        have e4 : vs 4 = .int .i64 (v2 x : Int) := hC 4 (by simp)
        have e7 : vs 7 = .int .i64 (v2 x : Int) := hC 7 (by simp)
        have e5 : vs 5 = .pointer (some ⟨nb 5, 0, none⟩) := hn _ (List.mem_iff_getElem?.2 ⟨0, rfl⟩)
        have E : Fr w [(nb 5, 2, Fq.num (x / 2 ^ v2 x)), (b2, 2, Fq.num y), (b1, 2, Fq.num x)] w8 := E8
        rw [lay_all hL]
        simp only [putAll, dstOf, List.length_cons, List.length_nil, Nat.zero_add, Nat.reduceAdd, List.getElem?_toArray, List.getElem?_cons_zero, List.getElem?_cons_succ, Option.bind_some, Act.put, List.setIfInBounds_toArray, List.set_cons_succ, List.set_cons_zero]
        rw [e4, e7, e5]
        generalize nb 5 = b8_5 at E ⊢
        generalize vs 0 = u8_0
        generalize vs 1 = u8_1
        generalize vs 2 = u8_2
        generalize vs 3 = u8_3
        clear e4 e7 e5 hC hn E8 hL vs L nb
        go_upto_region 6 with (fail)
        refine region_fr (C := [Fq.is (.int .i64 s), Fq.is (.int .i64 (v2 x : Int)), Fq.num y, Fq.is (.int .u32 (ab y % 4294967296)), Fq.is (.int .i64 A), Fq.num (x / 2 ^ v2 x), Fq.is (.int .u32 (ab (x / 2 ^ v2 x) % 4294967296)), Fq.num y, Fq.is (.int .u32 (ab y % 4294967296)), Fq.is (.int .i64 C), Fq.is (.int .i64 (A * C)), Fq.is (.int .i64 (s * (A * C))), Fq.is (.int .i64 (s * (A * C)))]) (ks := [none, none, none]) (new := []) E rfl (by kernel_rfl) rfl rfl (fun hp => ⟨?_, ?_, ?_, ?_, ?_, ?_, ?_, ?_, ?_, ?_, ?_, ?_, ?_, trivial⟩) ?_
        · exact q_moveB 12 3 hp (free_of rfl) trivial rfl rfl rfl rfl (fun _ => rfl)
        · exact q_move hp (free_of rfl) trivial (sq_out rfl rfl (fun _ _ => rfl))
        · exact q_loadInt (off := 0) hp (free_of rfl) trivial (List.mem_iff_getElem?.2 ⟨1, rfl⟩) (.inl rfl) (Nat.le_of_ble_eq_true rfl) (sq_out rfl rfl (fun _ _ => rfl)) (fun us w hl h => ld_num hl h)
        · exact q_call1 (F := (Fq.num y).P) hp (free_of rfl) trivial (enq_M_low) (sq_in 2 rfl rfl (by simp) rfl (fun v w h => h)) (fun v w h => exLow h)
        · exact q_call2 (F := (Fq.is (.int .i64 (v2 x : Int))).P) (G := (Fq.is (.int .u32 (ab y % 4294967296))).P) hp (free_of rfl) trivial (enq_M_ofTwos) (sq_in 1 rfl rfl (by simp) rfl (fun v w h => h)) (sq_in 3 rfl rfl (by simp) rfl (fun v w h => h)) (fun v v' w h h' => exOfTwos h h' ⟨by omega, HK.out⟩ (word_range _) HA.out)
        · exact q_loadInt (off := 0) hp (free_of rfl) trivial (List.mem_iff_getElem?.2 ⟨0, rfl⟩) (.inl rfl) (Nat.le_of_ble_eq_true rfl) (sq_out rfl rfl (fun _ _ => rfl)) (fun us w hl h => ld_num hl h)
        · exact q_call1 (F := (Fq.num (x / 2 ^ v2 x)).P) hp (free_of rfl) trivial (enq_M_low) (sq_in 5 rfl rfl (by simp) rfl (fun v w h => h)) (fun v w h => exLow h)
        · exact q_loadInt (off := 0) hp (free_of rfl) trivial (List.mem_iff_getElem?.2 ⟨1, rfl⟩) (.inl rfl) (Nat.le_of_ble_eq_true rfl) (sq_out rfl rfl (fun _ _ => rfl)) (fun us w hl h => ld_num hl h)
        · exact q_call1 (F := (Fq.num y).P) hp (free_of rfl) trivial (enq_M_low) (sq_in 7 rfl rfl (by simp) rfl (fun v w h => h)) (fun v w h => exLow h)
        · exact q_call2 (F := (Fq.is (.int .u32 (ab (x / 2 ^ v2 x) % 4294967296))).P) (G := (Fq.is (.int .u32 (ab y % 4294967296))).P) hp (free_of rfl) trivial (enq_M_turned) (sq_in 6 rfl rfl (by simp) rfl (fun v w h => h)) (sq_in 8 rfl rfl (by simp) rfl (fun v w h => h)) (fun v v' w h h' => exTurned h h' (word_range _) (word_range _) HC.out)
        · exact q_two (F := fun v _ => v = .int .i64 A) (G := fun v _ => v = .int .i64 C) hp (free_of rfl) trivial (sq_in 4 rfl rfl (by simp) rfl (fun v w h => h)) (sq_in 9 rfl rfl (by simp) rfl (fun v w h => h)) (fun ρ w hc h h' => ⟨.int .i64 (A * C), by simp [execOp, go_sem, h, h', G1.out], rfl⟩)
        · exact q_two (F := fun v _ => v = .int .i64 s) (G := fun v _ => v = .int .i64 (A * C)) hp (free_of rfl) trivial (sq_in 0 rfl rfl (by simp) rfl (fun v w h => h)) (sq_in 10 rfl rfl (by simp) rfl (fun v w h => h)) (fun ρ w hc h h' => ⟨.int .i64 (s * (A * C)), by simp [execOp, go_sem, h, h', G2.out], rfl⟩)
        · exact q_assign hp (free_of rfl) trivial (sq_in 11 rfl rfl (by simp) rfl (fun v w h => h))
        intro L vs w9 nb hL hC hn E9
        have e0 : vs 0 = .int .i64 s := hC 0 (by simp)
        have e1 : vs 1 = .int .i64 (v2 x : Int) := hC 1 (by simp)
        have e3 : vs 3 = .int .u32 (ab y % 4294967296) := hC 3 (by simp)
        have e4 : vs 4 = .int .i64 A := hC 4 (by simp)
        have e6 : vs 6 = .int .u32 (ab (x / 2 ^ v2 x) % 4294967296) := hC 6 (by simp)
        have e8 : vs 8 = .int .u32 (ab y % 4294967296) := hC 8 (by simp)
        have e9 : vs 9 = .int .i64 C := hC 9 (by simp)
        have e10 : vs 10 = .int .i64 (A * C) := hC 10 (by simp)
        have e11 : vs 11 = .int .i64 (s * (A * C)) := hC 11 (by simp)
        have e12 : vs 12 = .int .i64 (s * (A * C)) := hC 12 (by simp)
        have E : Fr w [(b8_5, 2, Fq.num (x / 2 ^ v2 x)), (b2, 2, Fq.num y), (b1, 2, Fq.num x)] w9 := E9
        rw [lay_all hL]
        simp only [putAll, dstOf, List.length_cons, List.length_nil, Nat.zero_add, Nat.reduceAdd, List.getElem?_toArray, List.getElem?_cons_zero, List.getElem?_cons_succ, Option.bind_some, Act.put, List.setIfInBounds_toArray, List.set_cons_succ, List.set_cons_zero]
        rw [e0, e1, e3, e4, e6, e8, e9, e10, e11, e12]
        generalize vs 2 = u9_2
        generalize vs 5 = u9_5
        generalize vs 7 = u9_7
        clear e0 e1 e3 e4 e6 e8 e9 e10 e11 e12 hC hn E9 hL vs L nb
        clear G1 G2
        go_upto_region 7 with (fail)
        have B10 : Hid (ab ((y % (x / 2 ^ v2 x))) < pw 100) := ab_modB HOZ.out BO.out
        refine region_fr (C := [Fq.num (x / 2 ^ v2 x), Fq.any, Fq.num y, Fq.num (y % (x / 2 ^ v2 x)), Fq.num (x / 2 ^ v2 x), Fq.any, Fq.any]) (ks := [none, some (6, Fq.num (x / 2 ^ v2 x)), some (5, Fq.num (y % (x / 2 ^ v2 x)))]) (new := [⟨1, 1, 2, Fq.num (x / 2 ^ v2 x), Fq.num (x / 2 ^ v2 x), (some (.clo 72))⟩]) E rfl (by kernel_rfl) rfl rfl (fun hp => ⟨?_, ?_, ?_, ?_, ?_, ?_, ?_, trivial⟩) ?_
        · exact q_loadInt (off := 0) hp (free_of rfl) trivial (List.mem_iff_getElem?.2 ⟨0, rfl⟩) (.inl rfl) (Nat.le_of_ble_eq_true rfl) (sq_out rfl rfl (fun _ _ => rfl)) (fun us w hl h => ld_num hl h)
        · exact q_callMake (F := (Fq.num (x / 2 ^ v2 x)).P) hp enq_M_within (List.mem_iff_getElem?.2 ⟨0, rfl⟩) rfl rfl rfl (sq_in 0 rfl rfl (by simp) rfl (fun v w h => h)) (fun v w h => exWithin h) (fun _ _ => trivial) (old_ne rfl) (newks_ne rfl)
        · exact q_loadInt (off := 0) hp (free_of rfl) trivial (List.mem_iff_getElem?.2 ⟨1, rfl⟩) (.inr rfl) (Nat.le_of_ble_eq_true rfl) (sq_out rfl rfl (fun _ _ => rfl)) (fun us w hl h => ld_num hl h)
        · exact q_callCloIn (F := (Fq.num y).P) hp (free_of rfl) trivial enq_M_within1 (List.mem_iff_getElem?.2 ⟨0, rfl⟩) rfl (own_ptr rfl rfl (by simp) rfl) (sq_in 2 rfl rfl (by simp) rfl (fun v w h => h)) (fun v b w h hb => exResidue h hb HOZ.out (Int.lt_of_lt_of_le HB.out.2 (pw_le (by omega))) (Int.lt_of_lt_of_le BO.out (pw_le (by omega))))
        · exact q_loadInt (off := 0) hp (free_of rfl) trivial (List.mem_iff_getElem?.2 ⟨0, rfl⟩) (.inl rfl) (Nat.le_of_ble_eq_true rfl) (sq_out rfl rfl (fun _ _ => rfl)) (fun us w hl h => ld_num hl h)
        · exact q_storeOldInt hp (List.mem_iff_getElem?.2 ⟨2, rfl⟩) rfl rfl (sq_out rfl rfl (fun _ _ => rfl)) (sq_in 3 rfl rfl (by simp) rfl (fun v w h => intV_num h)) (fun _ _ => trivial) (newik_ne rfl)
        · exact q_storeOldInt hp (List.mem_iff_getElem?.2 ⟨1, rfl⟩) rfl rfl (sq_out rfl rfl (fun _ _ => rfl)) (sq_in 4 rfl rfl (by simp) rfl (fun v w h => intV_num h)) (fun _ _ => trivial) (newik_ne rfl)
        intro L vs w11 nb hL hC hn E11
        have e1 : vs 1 = cloV 72 (nb 1) := hn _ (List.mem_iff_getElem?.2 ⟨0, rfl⟩)
        have E : Fr w [(nb 1, 2, Fq.num (x / 2 ^ v2 x)), (b8_5, 2, Fq.num (x / 2 ^ v2 x)), (b2, 2, Fq.num (x / 2 ^ v2 x)), (b1, 2, Fq.num (y % (x / 2 ^ v2 x)))] w11 := E11
        rw [lay_all hL]
        simp only [putAll, dstOf, List.length_cons, List.length_nil, Nat.zero_add, Nat.reduceAdd, List.getElem?_toArray, List.getElem?_cons_zero, List.getElem?_cons_succ, Option.bind_some, Act.put, List.setIfInBounds_toArray, List.set_cons_succ, List.set_cons_zero]
        rw [e1]
        generalize nb 1 = b11_1 at E ⊢
        generalize vs 0 = u11_0
        generalize vs 2 = u11_2
        generalize vs 3 = u11_3
        generalize vs 4 = u11_4
        clear e1 hC hn E11 hL vs L nb
        go_roundw
        case rel => (repeat apply Exists.intro); exact ⟨⟨y % (x / 2 ^ v2 x), x / 2 ^ v2 x, s * (A * C), rfl, ⟨ab_modB HOZ.out BO.out, BO.out⟩, ⟨Int.emod_nonneg _ HOZ.out, Int.emod_lt_of_pos _ HO.out.1, HO.out.2.1, HJ.out.1, HJ.out.2⟩, E.drop.drop⟩, rfl⟩
        case measure => rw [boxVal_eq (bq_box (E.box 3 rfl)), HBV.out]; have h1 := HO.out; have h2 := Int.emod_lt_of_pos y h1.1; have h3 := Int.emod_nonneg y HOZ.out; have h4 := HI.out.1; omega
    · have TB : Hid (¬ (63 : Int) < ((nbits y : Nat) : Int)) := by show ¬ _; omega
      have hy := nbits_le63 (y := y) (by have := HI.out; omega) hb
      have HL1 := hidd (lowV_in (z := x) (by have := HI.out; omega) (by have := HI.out; omega))
      have HL2 := hidd (lowV_in (z := y) (by have := HI.out; omega) hy)
      have W1 : Hid (IntKind.u64.wrap x = x) := by have := HI.out; show _ = _; rw [u64_wrap]; omega
      have W2 : Hid (IntKind.u64.wrap y = y) := by have := HI.out; show _ = _; rw [u64_wrap]; omega
      have HR : Hid (0 ≤ x ∧ x < 18446744073709551616 ∧ 0 ≤ y ∧ y < 18446744073709551616) := by have := HI.out; show _ ∧ _; omega
      have G1 := hidd (sgn_wrapJ HI.out.2.2.2.1 (J_range x y.toNat))
      clear hb hy
      go_upto_region 2 with (fail)
      refine region_fr (C := [Fq.num y, Fq.is (.int .i64 ((nbits y : Nat) : Int)), Fq.is (.bool false)]) (ks := [none, none]) (new := []) E rfl (by kernel_rfl) rfl rfl (fun hp => ⟨?_, ?_, ?_, trivial⟩) ?_
      · exact q_loadInt (off := 0) hp (free_of rfl) trivial (List.mem_iff_getElem?.2 ⟨0, rfl⟩) (.inl rfl) (Nat.le_of_ble_eq_true rfl) (sq_out rfl rfl (fun _ _ => rfl)) (fun us w hl h => ld_num hl h)
      · exact q_call1 (F := (Fq.num y).P) hp (free_of rfl) trivial (enq_Bits) (sq_in 0 rfl rfl (by simp) rfl (fun v w h => h)) (fun v w h => exBits h)
      · exact q_one (F := fun v _ => v = .int .i64 ((nbits y : Nat) : Int)) hp (free_of rfl) trivial (sq_in 1 rfl rfl (by simp) rfl (fun v w h => h)) (fun ρ w hc h => ⟨.bool false, by simp [execOp, go_sem, h, hc, TB.out], rfl⟩)
      intro L vs w12 nb hL hC hn E12
      have e1 : vs 1 = .int .i64 ((nbits y : Nat) : Int) := hC 1 (by simp)
      have e2 : vs 2 = .bool false := hC 2 (by simp)
      have E : Fr w [(b2, 2, Fq.num y), (b1, 2, Fq.num x)] w12 := E12
      rw [lay_all hL]
      simp only [putAll, dstOf, List.length_cons, List.length_nil, Nat.zero_add, Nat.reduceAdd, List.getElem?_toArray, List.getElem?_cons_zero, List.getElem?_cons_succ, Option.bind_some, Act.put, List.setIfInBounds_toArray, List.set_cons_succ, List.set_cons_zero]
      rw [e1, e2]
      generalize vs 0 = u12_0
      clear e1 e2 hC hn E12 hL vs L nb
      clear TB
      go_upto_region 8 with (fail)
      refine region_fr (C := [Fq.num x, Fq.tup2 (Fq.is (.int .i64 x)) (Fq.is (.bool true)), Fq.tup2 (Fq.is (.int .i64 x)) (Fq.is (.bool true)), Fq.is (.int .i64 x), Fq.is (.bool true), Fq.is (.int .i64 x), Fq.is (.bool true)]) (ks := [none, none]) (new := []) E rfl (by kernel_rfl) rfl rfl (fun hp => ⟨?_, ?_, ?_, ?_, ?_, ?_, ?_, trivial⟩) ?_
      · exact q_loadInt (off := 0) hp (free_of rfl) trivial (List.mem_iff_getElem?.2 ⟨1, rfl⟩) (.inl rfl) (Nat.le_of_ble_eq_true rfl) (sq_out rfl rfl (fun _ _ => rfl)) (fun us w hl h => ld_num hl h)
      · exact q_call1 (F := (Fq.num x).P) hp (free_of rfl) trivial (enq_Low) (sq_in 0 rfl rfl (by simp) rfl (fun v w h => h)) (fun v w h => exLowQ h HL1.out)
      · exact q_move hp (free_of rfl) trivial (sq_in 1 rfl rfl (by simp) rfl (fun v w h => h))
      · exact q_extract2 hp (free_of rfl) trivial (sq_in 2 rfl rfl (by simp) rfl (fun v w h => h)) (fun v1 v2 w h1 h2 => ⟨_, rfl, h1⟩)
      · exact q_extract2 hp (free_of rfl) trivial (sq_in 2 rfl rfl (by simp) rfl (fun v w h => h)) (fun v1 v2 w h1 h2 => ⟨_, rfl, h2⟩)
      · exact q_assign hp (free_of rfl) trivial (sq_in 3 rfl rfl (by simp) rfl (fun v w h => h))
      · exact q_assign hp (free_of rfl) trivial (sq_in 4 rfl rfl (by simp) rfl (fun v w h => h))
      intro L vs w13 nb hL hC hn E13
      have e3 : vs 3 = .int .i64 x := hC 3 (by simp)
      have e4 : vs 4 = .bool true := hC 4 (by simp)
      have e5 : vs 5 = .int .i64 x := hC 5 (by simp)
      have e6 : vs 6 = .bool true := hC 6 (by simp)
      have E : Fr w [(b2, 2, Fq.num y), (b1, 2, Fq.num x)] w13 := E13
      rw [lay_all hL]
      simp only [putAll, dstOf, List.length_cons, List.length_nil, Nat.zero_add, Nat.reduceAdd, List.getElem?_toArray, List.getElem?_cons_zero, List.getElem?_cons_succ, Option.bind_some, Act.put, List.setIfInBounds_toArray, List.set_cons_succ, List.set_cons_zero]
      rw [e3, e4, e5, e6]
      generalize vs 0 = u13_0
      generalize vs 1 = u13_1
      generalize vs 2 = u13_2
      clear e3 e4 e5 e6 hC hn E13 hL vs L nb
      go_upto_region 9 with (fail)
      refine region_fr (C := [Fq.num y, Fq.tup2 (Fq.is (.int .i64 y)) (Fq.is (.bool true)), Fq.tup2 (Fq.is (.int .i64 y)) (Fq.is (.bool true)), Fq.is (.int .i64 y), Fq.is (.bool true), Fq.is (.int .i64 y), Fq.is (.bool true)]) (ks := [none, none]) (new := []) E rfl (by kernel_rfl) rfl rfl (fun hp => ⟨?_, ?_, ?_, ?_, ?_, ?_, ?_, trivial⟩) ?_
      · exact q_loadInt (off := 0) hp (free_of rfl) trivial (List.mem_iff_getElem?.2 ⟨0, rfl⟩) (.inl rfl) (Nat.le_of_ble_eq_true rfl) (sq_out rfl rfl (fun _ _ => rfl)) (fun us w hl h => ld_num hl h)
      · exact q_call1 (F := (Fq.num y).P) hp (free_of rfl) trivial (enq_Low) (sq_in 0 rfl rfl (by simp) rfl (fun v w h => h)) (fun v w h => exLowQ h HL2.out)
      · exact q_move hp (free_of rfl) trivial (sq_in 1 rfl rfl (by simp) rfl (fun v w h => h))
      · exact q_extract2 hp (free_of rfl) trivial (sq_in 2 rfl rfl (by simp) rfl (fun v w h => h)) (fun v1 v2 w h1 h2 => ⟨_, rfl, h1⟩)
      · exact q_extract2 hp (free_of rfl) trivial (sq_in 2 rfl rfl (by simp) rfl (fun v w h => h)) (fun v1 v2 w h1 h2 => ⟨_, rfl, h2⟩)
      · exact q_assign hp (free_of rfl) trivial (sq_in 3 rfl rfl (by simp) rfl (fun v w h => h))
      · exact q_assign hp (free_of rfl) trivial (sq_in 4 rfl rfl (by simp) rfl (fun v w h => h))
      intro L vs w14 nb hL hC hn E14
      have e3 : vs 3 = .int .i64 y := hC 3 (by simp)
      have e4 : vs 4 = .bool true := hC 4 (by simp)
      have e5 : vs 5 = .int .i64 y := hC 5 (by simp)
      have e6 : vs 6 = .bool true := hC 6 (by simp)
      have E : Fr w [(b2, 2, Fq.num y), (b1, 2, Fq.num x)] w14 := E14
      rw [lay_all hL]
      simp only [putAll, dstOf, List.length_cons, List.length_nil, Nat.zero_add, Nat.reduceAdd, List.getElem?_toArray, List.getElem?_cons_zero, List.getElem?_cons_succ, Option.bind_some, Act.put, List.setIfInBounds_toArray, List.set_cons_succ, List.set_cons_zero]
      rw [e3, e4, e5, e6]
      generalize vs 0 = u14_0
      generalize vs 1 = u14_1
      generalize vs 2 = u14_2
      clear e3 e4 e5 e6 hC hn E14 hL vs L nb
      go_upto_region 10 with (fail)
      refine region_fr (C := [Fq.is (.int .i64 s), Fq.is (.int .i64 x), Fq.is (.int .u64 x), Fq.is (.int .i64 y), Fq.is (.int .u64 y), Fq.is (.int .i64 (J x y.toNat)), Fq.is (.int .i64 (s * J x y.toNat)), Fq.is (.int .i64 (s * J x y.toNat))]) (ks := [none, none]) (new := []) E rfl (by kernel_rfl) rfl rfl (fun hp => ⟨?_, ?_, ?_, ?_, ?_, ?_, ?_, ?_, trivial⟩) ?_
      · exact q_move hp (free_of rfl) trivial (sq_out rfl rfl (fun _ _ => rfl))
      · exact q_move hp (free_of rfl) trivial (sq_out rfl rfl (fun _ _ => rfl))
      · exact q_one (F := fun v _ => v = .int .i64 x) hp (free_of rfl) trivial (sq_in 1 rfl rfl (by simp) rfl (fun v w h => h)) (fun ρ w hc h => ⟨.int .u64 x, by simp [execOp, go_sem, h, W1.out], rfl⟩)
      · exact q_move hp (free_of rfl) trivial (sq_out rfl rfl (fun _ _ => rfl))
      · exact q_one (F := fun v _ => v = .int .i64 y) hp (free_of rfl) trivial (sq_in 3 rfl rfl (by simp) rfl (fun v w h => h)) (fun ρ w hc h => ⟨.int .u64 y, by simp [execOp, go_sem, h, W2.out], rfl⟩)
      · exact q_call2W (F := (Fq.is (.int .u64 x)).P) (G := (Fq.is (.int .u64 y)).P) hp (free_of rfl) trivial (enq_M_jacobiWords) rfl (sq_in 2 rfl rfl (by simp) rfl (fun v w h => h)) (sq_in 4 rfl rfl (by simp) rfl (fun v w h => h)) (fun v v' w hbw h h' => exJacWords (HT.out.mono hbw) h h' ⟨HR.out.1, HR.out.2.1⟩ HR.out.2.2 HI.out.2.2.1)
      · exact q_two (F := fun v _ => v = .int .i64 s) (G := fun v _ => v = .int .i64 (J x y.toNat)) hp (free_of rfl) trivial (sq_in 0 rfl rfl (by simp) rfl (fun v w h => h)) (sq_in 5 rfl rfl (by simp) rfl (fun v w h => h)) (fun ρ w hc h h' => ⟨.int .i64 (s * J x y.toNat), by simp [execOp, go_sem, h, h', G1.out], rfl⟩)
      · exact q_assign hp (free_of rfl) trivial (sq_in 6 rfl rfl (by simp) rfl (fun v w h => h))
      intro L vs w15 nb hL hC hn E15
      have e0 : vs 0 = .int .i64 s := hC 0 (by simp)
      have e1 : vs 1 = .int .i64 x := hC 1 (by simp)
      have e2 : vs 2 = .int .u64 x := hC 2 (by simp)
      have e3 : vs 3 = .int .i64 y := hC 3 (by simp)
      have e4 : vs 4 = .int .u64 y := hC 4 (by simp)
      have e5 : vs 5 = .int .i64 (J x y.toNat) := hC 5 (by simp)
      have e6 : vs 6 = .int .i64 (s * J x y.toNat) := hC 6 (by simp)
      have e7 : vs 7 = .int .i64 (s * J x y.toNat) := hC 7 (by simp)
      have E : Fr w [(b2, 2, Fq.num y), (b1, 2, Fq.num x)] w15 := E15
      rw [lay_all hL]
      simp only [putAll, dstOf, List.length_cons, List.length_nil, Nat.zero_add, Nat.reduceAdd, List.getElem?_toArray, List.getElem?_cons_zero, List.getElem?_cons_succ, Option.bind_some, Act.put, List.setIfInBounds_toArray, List.set_cons_succ, List.set_cons_zero]
      rw [e0, e1, e2, e3, e4, e5, e6, e7]
      clear e0 e1 e2 e3 e4 e5 e6 e7 hC hn E15 hL vs L nb
      have HJ := hidd HI.out.2.2.2.2
      clear HL1 HL2 W1 W2 HR G1 HI HB HT
      go_wp2
      refine bodyPost_ret (v := .int .i64 (s * J x y.toNat)) ?_ rfl (by first | exact ⟨_, rfl, E.below, by rw [HJ.out]⟩ | exact ⟨_, rfl, E.below⟩ | exact ⟨rfl, E.below⟩)
      simp [results, Tryd.results53, go_sem]

end Go.Proofs.YtieobgadihcgeaaDoor

/- Walk: the symbol of Kronecker. -/
namespace Go.Proofs.YtieobgadihcgeaaDoor
open Go Go.RowKit

theorem neg_pow : ∀ t : Nat, (-1 : Int) ^ t = if t % 2 = 1 then -1 else 1
  | 0 => rfl
  | t + 1 => by
    rw [Int.pow_succ, neg_pow t]
    by_cases h : t % 2 = 1
    · rw [if_pos h, if_neg (by omega)]; rfl
    · rw [if_neg h, if_pos (by omega)]; rfl
theorem one_powI : ∀ t : Nat, (1 : Int) ^ t = 1
  | 0 => rfl
  | t + 1 => by rw [Int.pow_succ, one_powI t]; rfl
theorem kro_twos (a : Int) {N : Nat} (hN : N ≠ 0) : ∀ t : Nat, kro a (2 ^ t * N) = two a ^ t * kro a N
  | 0 => by rw [Nat.pow_zero, Nat.one_mul, Int.pow_zero, Int.one_mul]
  | t + 1 => by
    have h : 2 ^ t * N ≠ 0 := Nat.mul_ne_zero (by have := Nat.two_pow_pos t; omega) hN
    rw [Nat.pow_succ, Nat.mul_comm (2 ^ t) 2, Nat.mul_assoc, kro_even h, kro_twos a hN t, Int.pow_succ]
    ac_rfl
theorem two_twosZ {a : Int} {t : Nat} (h : a % 2 = 1 ∨ t = 0) : two a ^ t = twosZ (t : Int) (ab a % 4294967296) := by
  rcases Nat.eq_zero_or_pos t with rfl | ht
  · rw [Int.pow_zero]; unfold twosZ; rw [if_neg (by omega)]
  · have ha : a % 2 = 1 := by omega
    unfold twosZ two ab
    rw [if_neg (by omega)]
    by_cases h3 : a % 8 = 3 ∨ a % 8 = 5
    · rw [if_pos h3, neg_pow]
      by_cases h2 : t % 2 = 1
      · rw [if_pos h2, if_pos (by omega)]
      · rw [if_neg h2, if_neg (by omega)]
    · rw [if_neg h3, if_neg (by omega), one_powI]
def sg2 (a n : Int) : Int := if a < 0 ∧ n < 0 then -1 else 1
theorem sg2_or (a n : Int) : sg2 a n = 1 ∨ sg2 a n = -1 := by unfold sg2; split <;> simp
theorem kron_split {a n : Int} (hn : n ≠ 0) (hp : ¬ (a % 2 = 0 ∧ n % 2 = 0)) :
    (0 < (Int.natAbs (n / 2 ^ v2 n) : Int) ∧ (Int.natAbs (n / 2 ^ v2 n) : Int) % 2 = 1 ∧ ab (n / 2 ^ v2 n) ≤ ab n) ∧
    kron a n = sg2 a n * twosZ (v2 n : Int) (ab a % 4294967296) * J (a % (Int.natAbs (n / 2 ^ v2 n) : Int)) (Int.natAbs (n / 2 ^ v2 n) : Int).toNat := by
  obtain ⟨h1, h2⟩ := v2_div (z := n) hn
  generalize ht : v2 n = t at *
  generalize hO : n / 2 ^ t = o at *
  have hn2 : n.natAbs = 2 ^ t * o.natAbs := by
    have := congrArg Int.natAbs h1
    rw [Int.natAbs_mul, Int.natAbs_pow] at this
    exact this
  have ho : o.natAbs % 2 = 1 := by omega
  have hle : o.natAbs ≤ n.natAbs := by
    rw [hn2]
    exact Nat.le_mul_of_pos_left _ (Nat.two_pow_pos t)
  refine ⟨⟨by omega, by omega, by unfold ab; omega⟩, ?_⟩
  have hodd : a % 2 = 1 ∨ t = 0 := by
    rcases Nat.eq_zero_or_pos t with h | h
    · exact .inr h
    · obtain ⟨s, rfl⟩ : ∃ s, t = s + 1 := ⟨t - 1, by omega⟩
      rw [Nat.pow_succ, Nat.mul_comm (2 ^ s) 2, Nat.mul_assoc] at hn2
      generalize 2 ^ s * o.natAbs = q at hn2
      omega
  rw [Int.toNat_natCast, J_mod]
  unfold kron sg2
  rw [if_neg hn, hn2, kro_twos a (by omega), two_twosZ hodd, kro_odd ho]
  ac_rfl
theorem kron_even {a n : Int} (hn : n ≠ 0) (hp : a % 2 = 0 ∧ n % 2 = 0) : kron a n = 0 := by
  have h : kro a n.natAbs = 0 := by
    refine (kro_zero n.natAbs (by omega)).2 fun e => ?_
    have h2 : ((2 : Nat) : Int) ∣ (Int.gcd a n.natAbs : Nat) := Int.ofNat_dvd.2 (Int.dvd_gcd (Int.dvd_of_emod_eq_zero hp.1) (by omega))
    rw [e] at h2
    omega
  unfold kron
  rw [if_neg hn, h, Int.mul_zero]
theorem and_oneM {z : Int} : bits .and .u32 (ab z % 4294967296) 1 = ab z % 2 := by
  obtain ⟨x, hx⟩ := Int.eq_ofNat_of_zero_le (show 0 ≤ ab z by unfold ab; omega)
  have h := and_u32 (x % 4294967296) 1 (by omega) (by decide)
  have e : (x % 4294967296) &&& 1 = x % 2 := by rw [Nat.and_one_is_mod]; omega
  rw [e] at h
  rw [hx]
  have e2 : ((x % 4294967296 : Nat) : Int) = (x : Int) % 4294967296 := by omega
  rw [e2] at h
  exact h.trans (by omega)
theorem exJacobiR {w : World} {v v' : Value} {a n r : Int} (h : Num w v a) (h' : Num w v' n) (hT : Tabs w) (ha : ab a < pw 100) (hn : ab n < pw 100) (hi : 0 ≤ a ∧ a < n ∧ n % 2 = 1) (hr : J a n.toNat = r) :
    Calls Tryd.prog 53 #[v, v'] w fun e w' => ∃ v', e = .returned v' ∧ Below w.heap.size w w' ∧ v' = .int .i64 r := by
  subst hr
  exact exJacobi h h' hT ha hn hi
set_option maxRecDepth 100000 in
set_option maxHeartbeats 4000000 in
theorem exKronecker {w : World} {v v' : Value} {a n : Int} (h : Num w v a) (h' : Num w v' n) (hT : Tabs w) (ha : ab a < pw 100) (hn : ab n < pw 100) :
    Calls Tryd.prog 20 #[v, v'] w fun e w' => ∃ v', e = .returned v' ∧ Below w.heap.size w w' ∧ v' = .int .i64 (kron a n) := by
  replace ha := hidd ha
  replace hn := hidd hn
  have HT := hidd hT
  clear hT
  obtain ⟨n0, ao0, k0, c0, rfl⟩ := h.parts
  obtain ⟨n1, ao1, k1, c1, rfl⟩ := h'.parts
  obtain ⟨w1, b1, hw1, hb1, hs1, E⟩ := fr_start w (F := Fq.num a) (us := [.bool n0, .slice ao0 k0 c0]) 29 rfl (by simp) (tame_int _ _ _ _) h
  obtain ⟨w2, b2, hw2, hb2, hs2, E⟩ := fr_more E hs1 (F := Fq.num n) (us := [.bool n1, .slice ao1 k1 c1]) 29 rfl (by simp) (tame_int _ _ _ _) (h'.mono E.below)
  go_enter Tryd.func20, Tryd.ntmps20
  go_upto_region 1 with (fail)
  rw [← hw1]
  rw [← hw2]
  rw [← hb2]
  rw [← hb1]
  clear hw1 hw2 hb1 hb2 hs2 hs1
  have HA1 := hidd (and_oneM (z := a))
  have HN1 := hidd (and_oneM (z := n))
  by_cases h0 : n = 0
  · subst h0
    have T0 : Hid (cmpI (0 : Int) 0 = 0) := cmpIq0.2 rfl
    refine region_fr (C := [Fq.num 0, Fq.is (.int .i64 (cmpI 0 0)), Fq.is (.bool true)]) (ks := [none, none]) (new := []) E rfl (by kernel_rfl) rfl rfl (fun hp => ⟨?_, ?_, ?_, trivial⟩) ?_
    · exact q_loadInt (off := 0) hp (free_of rfl) trivial (List.mem_iff_getElem?.2 ⟨0, rfl⟩) (.inl rfl) (Nat.le_of_ble_eq_true rfl) (sq_out rfl rfl (fun _ _ => rfl)) (fun us w hl h => ld_num hl h)
    · exact q_call1 (F := (Fq.num 0).P) hp (free_of rfl) trivial (enq_Sign) (sq_in 0 rfl rfl (by simp) rfl (fun v w h => h)) (fun v w h => exSign h)
    · exact q_one (F := fun v _ => v = .int .i64 (cmpI 0 0)) hp (free_of rfl) trivial (sq_in 1 rfl rfl (by simp) rfl (fun v w h => h)) (fun ρ w hc h => ⟨.bool true, by simp [execOp, go_sem, h, hc, T0.out], rfl⟩)
    intro L vs w3 nb hL hC hn E3
    have e1 : vs 1 = .int .i64 (cmpI 0 0) := hC 1 (by simp)
    have e2 : vs 2 = .bool true := hC 2 (by simp)
    have E : Fr w [(b2, 2, Fq.num 0), (b1, 2, Fq.num a)] w3 := E3
    rw [lay_all hL]
    simp only [putAll, dstOf, List.length_cons, List.length_nil, Nat.zero_add, Nat.reduceAdd, List.getElem?_toArray, List.getElem?_cons_zero, List.getElem?_cons_succ, Option.bind_some, Act.put, List.setIfInBounds_toArray, List.set_cons_succ, List.set_cons_zero]
    rw [e1, e2]
    generalize vs 0 = u3_0
    clear e1 e2 hC hn E3 hL vs L nb
    clear T0
    by_cases h1 : a.natAbs = 1
    · have T2 : Hid (decide ((Int.natAbs a : Int) = 1) = true) := decide_eq_true (by omega)
      have HK : Hid (kron a 0 = 1) := by show _ = _; unfold kron; rw [if_pos rfl, if_pos h1]
      clear h1
      go_upto_region 2 with (fail)
      have B4 : Hid (ab ((Int.natAbs a : Int)) < pw 100) := ab_absB ha.out
      refine region_fr (C := [Fq.num a, Fq.num (Int.natAbs a : Int), Fq.is (.bool true)]) (ks := [none, none]) (new := []) E rfl (by kernel_rfl) rfl rfl (fun hp => ⟨?_, ?_, ?_, trivial⟩) ?_
      · exact q_loadInt (off := 0) hp (free_of rfl) trivial (List.mem_iff_getElem?.2 ⟨1, rfl⟩) (.inl rfl) (Nat.le_of_ble_eq_true rfl) (sq_out rfl rfl (fun _ _ => rfl)) (fun us w hl h => ld_num hl h)
      · exact q_call1 (F := (Fq.num a).P) hp (free_of rfl) trivial (enq_Abs) (sq_in 0 rfl rfl (by simp) rfl (fun v w h => h)) (fun v w h => exK (AbsV h) B4.out (by omega))
      · exact q_call1 (F := (Fq.num (Int.natAbs a : Int)).P) hp (free_of rfl) trivial (enq_M_isOne) (sq_in 1 rfl rfl (by simp) rfl (fun v w h => h)) (fun v w h => exIsOneMB h T2.out)
      intro L vs w5 nb hL hC hn E5
      have e2 : vs 2 = .bool true := hC 2 (by simp)
      have E : Fr w [(b2, 2, Fq.num 0), (b1, 2, Fq.num a)] w5 := E5
      rw [lay_all hL]
      simp only [putAll, dstOf, List.length_cons, List.length_nil, Nat.zero_add, Nat.reduceAdd, List.getElem?_toArray, List.getElem?_cons_zero, List.getElem?_cons_succ, Option.bind_some, Act.put, List.setIfInBounds_toArray, List.set_cons_succ, List.set_cons_zero]
      rw [e2]
      generalize vs 0 = u5_0
      generalize vs 1 = u5_1
      clear e2 hC hn E5 hL vs L nb
      clear T2 HT HA1 HN1
      go_upto_region 3 with (fail)
      refine region_fr (C := [Fq.is (.int .i64 1)]) (ks := [none, none]) (new := []) E rfl (by kernel_rfl) rfl rfl (fun hp => ⟨?_, trivial⟩) ?_
      · exact q_assign hp (free_of rfl) trivial (sq_const (fun _ => rfl))
      intro L vs w6 nb hL hC hn E6
      have e0 : vs 0 = .int .i64 1 := hC 0 (by simp)
      have E : Fr w [(b2, 2, Fq.num 0), (b1, 2, Fq.num a)] w6 := E6
      rw [lay_all hL]
      simp only [putAll, dstOf, List.length_cons, List.length_nil, Nat.zero_add, List.getElem?_toArray, List.getElem?_cons_zero, Option.bind_some, Act.put, List.setIfInBounds_toArray, List.set_cons_succ, List.set_cons_zero]
      rw [e0]
      clear e0 hC hn E6 hL vs L nb
      clear B4 ha hn
      go_wp2
      refine bodyPost_ret (v := .int .i64 1) ?_ rfl (by first | exact ⟨_, rfl, E.below, by rw [HK.out]⟩ | exact ⟨_, rfl, E.below⟩ | exact ⟨rfl, E.below⟩)
      simp [results, Tryd.results20, go_sem]
    · have T2 : Hid (decide ((Int.natAbs a : Int) = 1) = false) := decide_eq_false (by omega)
      have HK : Hid (kron a 0 = 0) := by show _ = _; unfold kron; rw [if_pos rfl, if_neg h1]
      clear h1
      go_upto_region 2 with (fail)
      have B7 : Hid (ab ((Int.natAbs a : Int)) < pw 100) := ab_absB ha.out
      refine region_fr (C := [Fq.num a, Fq.num (Int.natAbs a : Int), Fq.is (.bool false)]) (ks := [none, none]) (new := []) E rfl (by kernel_rfl) rfl rfl (fun hp => ⟨?_, ?_, ?_, trivial⟩) ?_
      · exact q_loadInt (off := 0) hp (free_of rfl) trivial (List.mem_iff_getElem?.2 ⟨1, rfl⟩) (.inl rfl) (Nat.le_of_ble_eq_true rfl) (sq_out rfl rfl (fun _ _ => rfl)) (fun us w hl h => ld_num hl h)
      · exact q_call1 (F := (Fq.num a).P) hp (free_of rfl) trivial (enq_Abs) (sq_in 0 rfl rfl (by simp) rfl (fun v w h => h)) (fun v w h => exK (AbsV h) B7.out (by omega))
      · exact q_call1 (F := (Fq.num (Int.natAbs a : Int)).P) hp (free_of rfl) trivial (enq_M_isOne) (sq_in 1 rfl rfl (by simp) rfl (fun v w h => h)) (fun v w h => exIsOneMB h T2.out)
      intro L vs w8 nb hL hC hn E8
      have e2 : vs 2 = .bool false := hC 2 (by simp)
      have E : Fr w [(b2, 2, Fq.num 0), (b1, 2, Fq.num a)] w8 := E8
      rw [lay_all hL]
      simp only [putAll, dstOf, List.length_cons, List.length_nil, Nat.zero_add, Nat.reduceAdd, List.getElem?_toArray, List.getElem?_cons_zero, List.getElem?_cons_succ, Option.bind_some, Act.put, List.setIfInBounds_toArray, List.set_cons_succ, List.set_cons_zero]
      rw [e2]
      generalize vs 0 = u8_0
      generalize vs 1 = u8_1
      clear e2 hC hn E8 hL vs L nb
      clear T2 HT HA1 HN1
      go_upto_region 4 with (fail)
      refine region_fr (C := [Fq.is (.int .i64 0)]) (ks := [none, none]) (new := []) E rfl (by kernel_rfl) rfl rfl (fun hp => ⟨?_, trivial⟩) ?_
      · exact q_assign hp (free_of rfl) trivial (sq_const (fun _ => rfl))
      intro L vs w9 nb hL hC hn E9
      have e0 : vs 0 = .int .i64 0 := hC 0 (by simp)
      have E : Fr w [(b2, 2, Fq.num 0), (b1, 2, Fq.num a)] w9 := E9
      rw [lay_all hL]
      simp only [putAll, dstOf, List.length_cons, List.length_nil, Nat.zero_add, List.getElem?_toArray, List.getElem?_cons_zero, Option.bind_some, Act.put, List.setIfInBounds_toArray, List.set_cons_succ, List.set_cons_zero]
      rw [e0]
      clear e0 hC hn E9 hL vs L nb
      clear B7 ha hn
      go_wp2
      refine bodyPost_ret (v := .int .i64 0) ?_ rfl (by first | exact ⟨_, rfl, E.below, by rw [HK.out]⟩ | exact ⟨_, rfl, E.below⟩ | exact ⟨rfl, E.below⟩)
      simp [results, Tryd.results20, go_sem]
  · have HNZ := hidd h0
    have T0 : Hid (¬ cmpI n 0 = 0) := fun e => h0 (cmpIq0.1 e)
    clear h0
    refine region_fr (C := [Fq.num n, Fq.is (.int .i64 (cmpI n 0)), Fq.is (.bool false)]) (ks := [none, none]) (new := []) E rfl (by kernel_rfl) rfl rfl (fun hp => ⟨?_, ?_, ?_, trivial⟩) ?_
    · exact q_loadInt (off := 0) hp (free_of rfl) trivial (List.mem_iff_getElem?.2 ⟨0, rfl⟩) (.inl rfl) (Nat.le_of_ble_eq_true rfl) (sq_out rfl rfl (fun _ _ => rfl)) (fun us w hl h => ld_num hl h)
    · exact q_call1 (F := (Fq.num n).P) hp (free_of rfl) trivial (enq_Sign) (sq_in 0 rfl rfl (by simp) rfl (fun v w h => h)) (fun v w h => exSign h)
    · exact q_one (F := fun v _ => v = .int .i64 (cmpI n 0)) hp (free_of rfl) trivial (sq_in 1 rfl rfl (by simp) rfl (fun v w h => h)) (fun ρ w hc h => ⟨.bool false, by simp [execOp, go_sem, h, hc, T0.out], rfl⟩)
    intro L vs w10 nb hL hC hn E10
    have e1 : vs 1 = .int .i64 (cmpI n 0) := hC 1 (by simp)
    have e2 : vs 2 = .bool false := hC 2 (by simp)
    have E : Fr w [(b2, 2, Fq.num n), (b1, 2, Fq.num a)] w10 := E10
    rw [lay_all hL]
    simp only [putAll, dstOf, List.length_cons, List.length_nil, Nat.zero_add, Nat.reduceAdd, List.getElem?_toArray, List.getElem?_cons_zero, List.getElem?_cons_succ, Option.bind_some, Act.put, List.setIfInBounds_toArray, List.set_cons_succ, List.set_cons_zero]
    rw [e1, e2]
    generalize vs 0 = u10_0
    clear e1 e2 hC hn E10 hL vs L nb
    clear T0
    by_cases hb : a % 2 = 0 ∧ n % 2 = 0
    · have HK := hidd (kron_even HNZ.out hb)
      have P1 : Hid (ab a % 2 = 0) := by show _ = _; unfold ab; omega
      have P2 : Hid (ab n % 2 = 0) := by show _ = _; unfold ab; omega
      clear hb
      go_upto_region 5 with (fail)
      refine region_fr (C := [Fq.num a, Fq.is (.int .u32 (ab a % 4294967296)), Fq.is (.int .u32 (ab a % 2)), Fq.is (.bool true), Fq.is (.bool true), Fq.num n, Fq.is (.int .u32 (ab n % 4294967296)), Fq.is (.int .u32 (ab n % 2)), Fq.is (.bool true), Fq.is (.bool true)]) (ks := [none, none]) (new := []) E rfl (by kernel_rfl) rfl rfl (fun hp => ⟨?_, ?_, ?_, ?_, ?_, ?_, ?_, ?_, ?_, ?_, trivial⟩) ?_
      · exact q_loadInt (off := 0) hp (free_of rfl) trivial (List.mem_iff_getElem?.2 ⟨1, rfl⟩) (.inl rfl) (Nat.le_of_ble_eq_true rfl) (sq_out rfl rfl (fun _ _ => rfl)) (fun us w hl h => ld_num hl h)
      · exact q_call1 (F := (Fq.num a).P) hp (free_of rfl) trivial (enq_M_low) (sq_in 0 rfl rfl (by simp) rfl (fun v w h => h)) (fun v w h => exLow h)
      · exact q_one (F := fun v _ => v = .int .u32 (ab a % 4294967296)) hp (free_of rfl) trivial (sq_in 1 rfl rfl (by simp) rfl (fun v w h => h)) (fun ρ w hc h => ⟨.int .u32 (ab a % 2), by simp [execOp, go_sem, h, hc, HA1.out], rfl⟩)
      · exact q_one (F := fun v _ => v = .int .u32 (ab a % 2)) hp (free_of rfl) trivial (sq_in 2 rfl rfl (by simp) rfl (fun v w h => h)) (fun ρ w hc h => ⟨.bool true, by simp [execOp, go_sem, h, hc, P1.out], rfl⟩)
      · exact q_move hp (free_of rfl) trivial (sq_in 3 rfl rfl (by simp) rfl (fun v w h => h))
      · exact q_loadInt (off := 0) hp (free_of rfl) (gq_some rfl rfl (by simp) rfl (fun v w h => h)) (List.mem_iff_getElem?.2 ⟨0, rfl⟩) (.inl rfl) (Nat.le_of_ble_eq_true rfl) (sq_out rfl rfl (fun _ _ => rfl)) (fun us w hl h => ld_num hl h)
      · exact q_call1 (F := (Fq.num n).P) hp (free_of rfl) (gq_some rfl rfl (by simp) rfl (fun v w h => h)) (enq_M_low) (sq_in 5 rfl rfl (by simp) rfl (fun v w h => h)) (fun v w h => exLow h)
      · exact q_one (F := fun v _ => v = .int .u32 (ab n % 4294967296)) hp (free_of rfl) (gq_some rfl rfl (by simp) rfl (fun v w h => h)) (sq_in 6 rfl rfl (by simp) rfl (fun v w h => h)) (fun ρ w hc h => ⟨.int .u32 (ab n % 2), by simp [execOp, go_sem, h, hc, HN1.out], rfl⟩)
      · exact q_one (F := fun v _ => v = .int .u32 (ab n % 2)) hp (free_of rfl) (gq_some rfl rfl (by simp) rfl (fun v w h => h)) (sq_in 7 rfl rfl (by simp) rfl (fun v w h => h)) (fun ρ w hc h => ⟨.bool true, by simp [execOp, go_sem, h, hc, P2.out], rfl⟩)
      · exact q_two (F := fun v _ => v = .bool true) (G := fun v _ => v = .bool true) hp (free_of rfl) trivial (sq_in 4 rfl rfl (by simp) rfl (fun v w h => h)) (sq_in 8 rfl rfl (by simp) rfl (fun v w h => h)) (fun ρ w hc h h' => ⟨_, by simp [execOp, go_sem, h, h'], rfl⟩)
      intro L vs w11 nb hL hC hn E11
      have e1 : vs 1 = .int .u32 (ab a % 4294967296) := hC 1 (by simp)
      have e2 : vs 2 = .int .u32 (ab a % 2) := hC 2 (by simp)
      have e3 : vs 3 = .bool true := hC 3 (by simp)
      have e4 : vs 4 = .bool true := hC 4 (by simp)
      have e6 : vs 6 = .int .u32 (ab n % 4294967296) := hC 6 (by simp)
      have e7 : vs 7 = .int .u32 (ab n % 2) := hC 7 (by simp)
      have e8 : vs 8 = .bool true := hC 8 (by simp)
      have e9 : vs 9 = .bool true := hC 9 (by simp)
      have E : Fr w [(b2, 2, Fq.num n), (b1, 2, Fq.num a)] w11 := E11
      rw [lay_all hL]
      simp only [putAll, dstOf, List.length_cons, List.length_nil, Nat.zero_add, Nat.reduceAdd, List.getElem?_toArray, List.getElem?_cons_zero, List.getElem?_cons_succ, Option.bind_some, Act.put, List.setIfInBounds_toArray, List.set_cons_succ, List.set_cons_zero]
      rw [e1, e2, e3, e4, e6, e7, e8, e9]
      generalize vs 0 = u11_0
      generalize vs 5 = u11_5
      clear e1 e2 e3 e4 e6 e7 e8 e9 hC hn E11 hL vs L nb
      clear P1 P2 HA1 HN1 HT
      go_upto_region 6 with (fail)
      refine region_fr (C := [Fq.is (.int .i64 0)]) (ks := [none, none]) (new := []) E rfl (by kernel_rfl) rfl rfl (fun hp => ⟨?_, trivial⟩) ?_
      · exact q_assign hp (free_of rfl) trivial (sq_const (fun _ => rfl))
      intro L vs w12 nb hL hC hn E12
      have e0 : vs 0 = .int .i64 0 := hC 0 (by simp)
      have E : Fr w [(b2, 2, Fq.num n), (b1, 2, Fq.num a)] w12 := E12
      rw [lay_all hL]
      simp only [putAll, dstOf, List.length_cons, List.length_nil, Nat.zero_add, List.getElem?_toArray, List.getElem?_cons_zero, Option.bind_some, Act.put, List.setIfInBounds_toArray, List.set_cons_succ, List.set_cons_zero]
      rw [e0]
      clear e0 hC hn E12 hL vs L nb
      clear ha hn
      go_wp2
      refine bodyPost_ret (v := .int .i64 0) ?_ rfl (by first | exact ⟨_, rfl, E.below, by rw [HK.out]⟩ | exact ⟨_, rfl, E.below⟩ | exact ⟨rfl, E.below⟩)
      simp [results, Tryd.results20, go_sem]
    · go_upto_region 5 with (fail)
      go_cut [22] from 13 (fun s W => s = .bool false ∧ Fr w [(b2, 2, Fq.num n), (b1, 2, Fq.num a)] W)
      case first =>
        by_cases ho : a % 2 = 1
        · have P1 : Hid (¬ ab a % 2 = 0) := by show ¬ _; unfold ab; omega
          clear ho hb
          refine region_fr (C := [Fq.num a, Fq.is (.int .u32 (ab a % 4294967296)), Fq.is (.int .u32 (ab a % 2)), Fq.is (.bool false), Fq.is (.bool false), Fq.is (undef), Fq.is (undef), Fq.is (undef), Fq.is (undef), Fq.is (.bool false)]) (ks := [none, none]) (new := []) E rfl (by kernel_rfl) rfl rfl (fun hp => ⟨?_, ?_, ?_, ?_, ?_, ?_, ?_, ?_, ?_, ?_, trivial⟩) ?_
          · exact q_loadInt (off := 0) hp (free_of rfl) trivial (List.mem_iff_getElem?.2 ⟨1, rfl⟩) (.inl rfl) (Nat.le_of_ble_eq_true rfl) (sq_out rfl rfl (fun _ _ => rfl)) (fun us w hl h => ld_num hl h)
          · exact q_call1 (F := (Fq.num a).P) hp (free_of rfl) trivial (enq_M_low) (sq_in 0 rfl rfl (by simp) rfl (fun v w h => h)) (fun v w h => exLow h)
          · exact q_one (F := fun v _ => v = .int .u32 (ab a % 4294967296)) hp (free_of rfl) trivial (sq_in 1 rfl rfl (by simp) rfl (fun v w h => h)) (fun ρ w hc h => ⟨.int .u32 (ab a % 2), by simp [execOp, go_sem, h, hc, HA1.out], rfl⟩)
          · exact q_one (F := fun v _ => v = .int .u32 (ab a % 2)) hp (free_of rfl) trivial (sq_in 2 rfl rfl (by simp) rfl (fun v w h => h)) (fun ρ w hc h => ⟨.bool false, by simp [execOp, go_sem, h, hc, P1.out], rfl⟩)
          · exact q_move hp (free_of rfl) trivial (sq_in 3 rfl rfl (by simp) rfl (fun v w h => h))
          · exact q_skip hp (free_of rfl) rfl (gq_some rfl rfl (by simp) rfl (fun v w h => h)) (fun _ => rfl)
          · exact q_skip hp (free_of rfl) rfl (gq_some rfl rfl (by simp) rfl (fun v w h => h)) (fun _ => rfl)
          · exact q_skip hp (free_of rfl) rfl (gq_some rfl rfl (by simp) rfl (fun v w h => h)) (fun _ => rfl)
          · exact q_skip hp (free_of rfl) rfl (gq_some rfl rfl (by simp) rfl (fun v w h => h)) (fun _ => rfl)
          · exact q_two (F := fun v _ => v = .bool false) (G := fun v _ => v = .bool false) hp (free_of rfl) trivial (sq_in 4 rfl rfl (by simp) rfl (fun v w h => h)) (sq_const (fun _ => rfl)) (fun ρ w hc h h' => ⟨_, by simp [execOp, go_sem, h, h'], rfl⟩)
          intro L vs w13 nb hL hC hn E13
          have e1 : vs 1 = .int .u32 (ab a % 4294967296) := hC 1 (by simp)
          have e2 : vs 2 = .int .u32 (ab a % 2) := hC 2 (by simp)
          have e3 : vs 3 = .bool false := hC 3 (by simp)
          have e4 : vs 4 = .bool false := hC 4 (by simp)
          have e5 : vs 5 = undef := hC 5 (by simp)
          have e6 : vs 6 = undef := hC 6 (by simp)
          have e7 : vs 7 = undef := hC 7 (by simp)
          have e8 : vs 8 = undef := hC 8 (by simp)
          have e9 : vs 9 = .bool false := hC 9 (by simp)
          have E : Fr w [(b2, 2, Fq.num n), (b1, 2, Fq.num a)] w13 := E13
          rw [lay_all hL]
          simp only [putAll, dstOf, List.length_cons, List.length_nil, Nat.zero_add, Nat.reduceAdd, List.getElem?_toArray, List.getElem?_cons_zero, List.getElem?_cons_succ, Option.bind_some, Act.put, List.setIfInBounds_toArray, List.set_cons_succ, List.set_cons_zero]
          rw [e1, e2, e3, e4, e5, e6, e7, e8, e9]
          generalize vs 0 = u13_0
          clear e1 e2 e3 e4 e5 e6 e7 e8 e9 hC hn E13 hL vs L nb
          go_wp2_with (fail)
          go_meet
          case rel => exact ⟨rfl, E⟩
        · have P1 : Hid (ab a % 2 = 0) := by show _ = _; unfold ab; omega
          have P2 : Hid (¬ ab n % 2 = 0) := by show ¬ _; unfold ab; omega
          clear ho hb
          refine region_fr (C := [Fq.num a, Fq.is (.int .u32 (ab a % 4294967296)), Fq.is (.int .u32 (ab a % 2)), Fq.is (.bool true), Fq.is (.bool true), Fq.num n, Fq.is (.int .u32 (ab n % 4294967296)), Fq.is (.int .u32 (ab n % 2)), Fq.is (.bool false), Fq.is (.bool false)]) (ks := [none, none]) (new := []) E rfl (by kernel_rfl) rfl rfl (fun hp => ⟨?_, ?_, ?_, ?_, ?_, ?_, ?_, ?_, ?_, ?_, trivial⟩) ?_
          · exact q_loadInt (off := 0) hp (free_of rfl) trivial (List.mem_iff_getElem?.2 ⟨1, rfl⟩) (.inl rfl) (Nat.le_of_ble_eq_true rfl) (sq_out rfl rfl (fun _ _ => rfl)) (fun us w hl h => ld_num hl h)
          · exact q_call1 (F := (Fq.num a).P) hp (free_of rfl) trivial (enq_M_low) (sq_in 0 rfl rfl (by simp) rfl (fun v w h => h)) (fun v w h => exLow h)
          · exact q_one (F := fun v _ => v = .int .u32 (ab a % 4294967296)) hp (free_of rfl) trivial (sq_in 1 rfl rfl (by simp) rfl (fun v w h => h)) (fun ρ w hc h => ⟨.int .u32 (ab a % 2), by simp [execOp, go_sem, h, hc, HA1.out], rfl⟩)
          · exact q_one (F := fun v _ => v = .int .u32 (ab a % 2)) hp (free_of rfl) trivial (sq_in 2 rfl rfl (by simp) rfl (fun v w h => h)) (fun ρ w hc h => ⟨.bool true, by simp [execOp, go_sem, h, hc, P1.out], rfl⟩)
          · exact q_move hp (free_of rfl) trivial (sq_in 3 rfl rfl (by simp) rfl (fun v w h => h))
          · exact q_loadInt (off := 0) hp (free_of rfl) (gq_some rfl rfl (by simp) rfl (fun v w h => h)) (List.mem_iff_getElem?.2 ⟨0, rfl⟩) (.inl rfl) (Nat.le_of_ble_eq_true rfl) (sq_out rfl rfl (fun _ _ => rfl)) (fun us w hl h => ld_num hl h)
          · exact q_call1 (F := (Fq.num n).P) hp (free_of rfl) (gq_some rfl rfl (by simp) rfl (fun v w h => h)) (enq_M_low) (sq_in 5 rfl rfl (by simp) rfl (fun v w h => h)) (fun v w h => exLow h)
          · exact q_one (F := fun v _ => v = .int .u32 (ab n % 4294967296)) hp (free_of rfl) (gq_some rfl rfl (by simp) rfl (fun v w h => h)) (sq_in 6 rfl rfl (by simp) rfl (fun v w h => h)) (fun ρ w hc h => ⟨.int .u32 (ab n % 2), by simp [execOp, go_sem, h, hc, HN1.out], rfl⟩)
          · exact q_one (F := fun v _ => v = .int .u32 (ab n % 2)) hp (free_of rfl) (gq_some rfl rfl (by simp) rfl (fun v w h => h)) (sq_in 7 rfl rfl (by simp) rfl (fun v w h => h)) (fun ρ w hc h => ⟨.bool false, by simp [execOp, go_sem, h, hc, P2.out], rfl⟩)
          · exact q_two (F := fun v _ => v = .bool true) (G := fun v _ => v = .bool false) hp (free_of rfl) trivial (sq_in 4 rfl rfl (by simp) rfl (fun v w h => h)) (sq_in 8 rfl rfl (by simp) rfl (fun v w h => h)) (fun ρ w hc h h' => ⟨_, by simp [execOp, go_sem, h, h'], rfl⟩)
          intro L vs w14 nb hL hC hn E14
          have e1 : vs 1 = .int .u32 (ab a % 4294967296) := hC 1 (by simp)
          have e2 : vs 2 = .int .u32 (ab a % 2) := hC 2 (by simp)
          have e3 : vs 3 = .bool true := hC 3 (by simp)
          have e4 : vs 4 = .bool true := hC 4 (by simp)
          have e6 : vs 6 = .int .u32 (ab n % 4294967296) := hC 6 (by simp)
          have e7 : vs 7 = .int .u32 (ab n % 2) := hC 7 (by simp)
          have e8 : vs 8 = .bool false := hC 8 (by simp)
          have e9 : vs 9 = .bool false := hC 9 (by simp)
          have E : Fr w [(b2, 2, Fq.num n), (b1, 2, Fq.num a)] w14 := E14
          rw [lay_all hL]
          simp only [putAll, dstOf, List.length_cons, List.length_nil, Nat.zero_add, Nat.reduceAdd, List.getElem?_toArray, List.getElem?_cons_zero, List.getElem?_cons_succ, Option.bind_some, Act.put, List.setIfInBounds_toArray, List.set_cons_succ, List.set_cons_zero]
          rw [e1, e2, e3, e4, e6, e7, e8, e9]
          generalize vs 0 = u14_0
          generalize vs 5 = u14_5
          clear e1 e2 e3 e4 e6 e7 e8 e9 hC hn E14 hL vs L nb
          go_wp2_with (fail)
          go_meet
          case rel => exact ⟨rfl, E⟩
      case rest =>
        clear E
        obtain ⟨rfl, E⟩ := hcut
        clear HA1 HN1
        obtain ⟨⟨k1, k2, k3⟩, hk⟩ := kron_split HNZ.out hb
        clear hb
        have hS := sg2_or a n
        have hA := twosZ_or (v2 n : Int) (ab a % 4294967296)
        have hR := J_range (a % (Int.natAbs (n / 2 ^ v2 n) : Int)) (Int.natAbs (n / 2 ^ v2 n) : Int).toNat
        obtain ⟨S, eS⟩ : ∃ S, sg2 a n = S := ⟨_, rfl⟩
        obtain ⟨A, eA⟩ : ∃ A, twosZ (v2 n : Int) (ab a % 4294967296) = A := ⟨_, rfl⟩
        obtain ⟨R, eR⟩ : ∃ R, J (a % (Int.natAbs (n / 2 ^ v2 n) : Int)) (Int.natAbs (n / 2 ^ v2 n) : Int).toNat = R := ⟨_, rfl⟩
        rw [eS, eA, eR] at hk
        rw [eS] at hS
        rw [eA] at hA
        rw [eR] at hR
        have HS := hidd eS
        have HA := hidd eA
        have HR := hidd eR
        have HK := hidd hk
        have G1 := hidd (sgn_wrap hS hA)
        have G2 := hidd (sgn_wrapJ (sgnp_mul hS hA) hR)
        clear hS hA hR eS eA eR hk
        have BO : Hid (ab (n / 2 ^ v2 n) < pw 100) := Int.lt_of_le_of_lt k3 hn.out
        have HM0 : Hid ((Int.natAbs (n / 2 ^ v2 n) : Int) ≠ 0) := by show _ ≠ _; omega
        have HI : Hid (0 ≤ a % (Int.natAbs (n / 2 ^ v2 n) : Int) ∧ a % (Int.natAbs (n / 2 ^ v2 n) : Int) < (Int.natAbs (n / 2 ^ v2 n) : Int) ∧ (Int.natAbs (n / 2 ^ v2 n) : Int) % 2 = 1) := ⟨Int.emod_nonneg _ (by omega), Int.emod_lt_of_pos _ k1, k2⟩
        have HK2 : Hid ((v2 n : Int) < 9223372036854775808) := v2_lt HNZ.out hn.out
        clear k1 k2 k3
        go_upto_region 7 with (fail)
        refine region_fr (C := [Fq.is (.int .i64 1)]) (ks := [none, none]) (new := []) E rfl (by kernel_rfl) rfl rfl (fun hp => ⟨?_, trivial⟩) ?_
        · exact q_assign hp (free_of rfl) trivial (sq_const (fun _ => rfl))
        intro L vs w15 nb hL hC hn E15
        have e0 : vs 0 = .int .i64 1 := hC 0 (by simp)
        have E : Fr w [(b2, 2, Fq.num n), (b1, 2, Fq.num a)] w15 := E15
        rw [lay_all hL]
        simp only [putAll, dstOf, List.length_cons, List.length_nil, Nat.zero_add, List.getElem?_toArray, List.getElem?_cons_zero, Option.bind_some, Act.put, List.setIfInBounds_toArray, List.set_cons_succ, List.set_cons_zero]
        rw [e0]
        clear e0 hC hn E15 hL vs L nb
        by_cases h1 : a < 0
        · have P1 : Hid (cmpI a 0 < 0) := cmpIqlt.2 h1
          by_cases h2 : n < 0
          · have P2 : Hid (cmpI n 0 < 0) := cmpIqlt.2 h2
            have P3 : Hid (S = -1) := by show _ = _; rw [← HS.out]; unfold sg2; rw [if_pos ⟨h1, h2⟩]
            clear h1 h2
            go_upto_region 8 with (fail)
            refine region_fr (C := [Fq.num a, Fq.is (.int .i64 (cmpI a 0)), Fq.is (.bool true), Fq.is (.bool true), Fq.num n, Fq.is (.int .i64 (cmpI n 0)), Fq.is (.bool true), Fq.is (.bool true)]) (ks := [none, none]) (new := []) E rfl (by kernel_rfl) rfl rfl (fun hp => ⟨?_, ?_, ?_, ?_, ?_, ?_, ?_, ?_, trivial⟩) ?_
            · exact q_loadInt (off := 0) hp (free_of rfl) trivial (List.mem_iff_getElem?.2 ⟨1, rfl⟩) (.inl rfl) (Nat.le_of_ble_eq_true rfl) (sq_out rfl rfl (fun _ _ => rfl)) (fun us w hl h => ld_num hl h)
            · exact q_call1 (F := (Fq.num a).P) hp (free_of rfl) trivial (enq_Sign) (sq_in 0 rfl rfl (by simp) rfl (fun v w h => h)) (fun v w h => exSign h)
            · exact q_one (F := fun v _ => v = .int .i64 (cmpI a 0)) hp (free_of rfl) trivial (sq_in 1 rfl rfl (by simp) rfl (fun v w h => h)) (fun ρ w hc h => ⟨.bool true, by simp [execOp, go_sem, h, hc, P1.out], rfl⟩)
            · exact q_move hp (free_of rfl) trivial (sq_in 2 rfl rfl (by simp) rfl (fun v w h => h))
            · exact q_loadInt (off := 0) hp (free_of rfl) (gq_some rfl rfl (by simp) rfl (fun v w h => h)) (List.mem_iff_getElem?.2 ⟨0, rfl⟩) (.inl rfl) (Nat.le_of_ble_eq_true rfl) (sq_out rfl rfl (fun _ _ => rfl)) (fun us w hl h => ld_num hl h)
            · exact q_call1 (F := (Fq.num n).P) hp (free_of rfl) (gq_some rfl rfl (by simp) rfl (fun v w h => h)) (enq_Sign) (sq_in 4 rfl rfl (by simp) rfl (fun v w h => h)) (fun v w h => exSign h)
            · exact q_one (F := fun v _ => v = .int .i64 (cmpI n 0)) hp (free_of rfl) (gq_some rfl rfl (by simp) rfl (fun v w h => h)) (sq_in 5 rfl rfl (by simp) rfl (fun v w h => h)) (fun ρ w hc h => ⟨.bool true, by simp [execOp, go_sem, h, hc, P2.out], rfl⟩)
            · exact q_two (F := fun v _ => v = .bool true) (G := fun v _ => v = .bool true) hp (free_of rfl) trivial (sq_in 3 rfl rfl (by simp) rfl (fun v w h => h)) (sq_in 6 rfl rfl (by simp) rfl (fun v w h => h)) (fun ρ w hc h h' => ⟨_, by simp [execOp, go_sem, h, h'], rfl⟩)
            intro L vs w16 nb hL hC hn E16
            have e1 : vs 1 = .int .i64 (cmpI a 0) := hC 1 (by simp)
            have e2 : vs 2 = .bool true := hC 2 (by simp)
            have e3 : vs 3 = .bool true := hC 3 (by simp)
            have e5 : vs 5 = .int .i64 (cmpI n 0) := hC 5 (by simp)
            have e6 : vs 6 = .bool true := hC 6 (by simp)
            have e7 : vs 7 = .bool true := hC 7 (by simp)
            have E : Fr w [(b2, 2, Fq.num n), (b1, 2, Fq.num a)] w16 := E16
            rw [lay_all hL]
            simp only [putAll, dstOf, List.length_cons, List.length_nil, Nat.zero_add, Nat.reduceAdd, List.getElem?_toArray, List.getElem?_cons_zero, List.getElem?_cons_succ, Option.bind_some, Act.put, List.setIfInBounds_toArray, List.set_cons_succ, List.set_cons_zero]
            rw [e1, e2, e3, e5, e6, e7]
            generalize vs 0 = u16_0
            generalize vs 4 = u16_4
            clear e1 e2 e3 e5 e6 e7 hC hn E16 hL vs L nb
            clear P1 P2
            go_upto_region 9 with (fail)
            refine region_fr (C := [Fq.is (.int .i64 (-1))]) (ks := [none, none]) (new := []) E rfl (by kernel_rfl) rfl rfl (fun hp => ⟨?_, trivial⟩) ?_
            · exact q_assign hp (free_of rfl) trivial (sq_const (fun _ => rfl))
            intro L vs w17 nb hL hC hn E17
            have e0 : vs 0 = .int .i64 (-1) := hC 0 (by simp)
            have E : Fr w [(b2, 2, Fq.num n), (b1, 2, Fq.num a)] w17 := E17
            rw [lay_all hL]
            simp only [putAll, dstOf, List.length_cons, List.length_nil, Nat.zero_add, List.getElem?_toArray, List.getElem?_cons_zero, Option.bind_some, Act.put, List.setIfInBounds_toArray, List.set_cons_succ, List.set_cons_zero]
            rw [e0]
            clear e0 hC hn E17 hL vs L nb
            replace G1 := hidd (show IntKind.i64.wrap (-A) = S * A by have := G1.out; rw [P3.out] at this ⊢; rw [show -A = -1 * A by omega]; exact this)
            clear HS P3
            go_upto_region 10 with (fail)
            refine region_fr (C := [Fq.num n, Fq.tup2 (Fq.num (n / 2 ^ v2 n)) (Fq.is (.int .i64 (v2 n : Int))), Fq.tup2 (Fq.num (n / 2 ^ v2 n)) (Fq.is (.int .i64 (v2 n : Int))), Fq.num (n / 2 ^ v2 n), Fq.is (.int .i64 (v2 n : Int)), Fq.any, Fq.is (.int .i64 (v2 n : Int))]) (ks := [some (5, Fq.num (n / 2 ^ v2 n)), none]) (new := []) E rfl (by kernel_rfl) rfl rfl (fun hp => ⟨?_, ?_, ?_, ?_, ?_, ?_, ?_, trivial⟩) ?_
            · exact q_loadInt (off := 0) hp (free_of rfl) trivial (List.mem_iff_getElem?.2 ⟨0, rfl⟩) (.inr rfl) (Nat.le_of_ble_eq_true rfl) (sq_out rfl rfl (fun _ _ => rfl)) (fun us w hl h => ld_num hl h)
            · exact q_call1W (F := (Fq.num n).P) hp (free_of rfl) trivial (enq_M_oddPart) rfl (sq_in 0 rfl rfl (by simp) rfl (fun v w h => h)) (fun v w hbw h => exOddPart h (HT.out.mono hbw) HNZ.out (Int.lt_of_lt_of_le hn.out (pw_le (by omega))))
            · exact q_move hp (free_of rfl) trivial (sq_in 1 rfl rfl (by simp) rfl (fun v w h => h))
            · exact q_extract2 hp (free_of rfl) trivial (sq_in 2 rfl rfl (by simp) rfl (fun v w h => h)) (fun v1 v2 w h1 h2 => ⟨_, rfl, h1⟩)
            · exact q_extract2 hp (free_of rfl) trivial (sq_in 2 rfl rfl (by simp) rfl (fun v w h => h)) (fun v1 v2 w h1 h2 => ⟨_, rfl, h2⟩)
            · exact q_storeOldInt hp (List.mem_iff_getElem?.2 ⟨0, rfl⟩) rfl rfl (sq_out rfl rfl (fun _ _ => rfl)) (sq_in 3 rfl rfl (by simp) rfl (fun v w h => intV_num h)) (fun _ _ => trivial) (newik_ne rfl)
            · exact q_assign hp (free_of rfl) trivial (sq_in 4 rfl rfl (by simp) rfl (fun v w h => h))
            intro L vs w18 nb hL hC hn E18
            have e4 : vs 4 = .int .i64 (v2 n : Int) := hC 4 (by simp)
            have e6 : vs 6 = .int .i64 (v2 n : Int) := hC 6 (by simp)
            have E : Fr w [(b2, 2, Fq.num (n / 2 ^ v2 n)), (b1, 2, Fq.num a)] w18 := E18
            rw [lay_all hL]
            simp only [putAll, dstOf, List.length_cons, List.length_nil, Nat.zero_add, Nat.reduceAdd, List.getElem?_toArray, List.getElem?_cons_zero, List.getElem?_cons_succ, Option.bind_some, Act.put, List.setIfInBounds_toArray, List.set_cons_succ, List.set_cons_zero]
            rw [e4, e6]
            generalize vs 0 = u18_0
            generalize vs 1 = u18_1
            generalize vs 2 = u18_2
            generalize vs 3 = u18_3
            clear e4 e6 hC hn E18 hL vs L nb
            go_upto_region 11 with (fail)
            refine region_fr (C := [Fq.is (.int .i64 (-1)), Fq.is (.int .i64 (v2 n : Int)), Fq.num a, Fq.is (.int .u32 (ab a % 4294967296)), Fq.is (.int .i64 A), Fq.is (.int .i64 (S * A)), Fq.is (.int .i64 (S * A))]) (ks := [none, none]) (new := []) E rfl (by kernel_rfl) rfl rfl (fun hp => ⟨?_, ?_, ?_, ?_, ?_, ?_, ?_, trivial⟩) ?_
            · exact q_moveB 6 3 hp (free_of rfl) trivial rfl rfl rfl rfl (fun _ => rfl)
            · exact q_move hp (free_of rfl) trivial (sq_out rfl rfl (fun _ _ => rfl))
            · exact q_loadInt (off := 0) hp (free_of rfl) trivial (List.mem_iff_getElem?.2 ⟨1, rfl⟩) (.inl rfl) (Nat.le_of_ble_eq_true rfl) (sq_out rfl rfl (fun _ _ => rfl)) (fun us w hl h => ld_num hl h)
            · exact q_call1 (F := (Fq.num a).P) hp (free_of rfl) trivial (enq_M_low) (sq_in 2 rfl rfl (by simp) rfl (fun v w h => h)) (fun v w h => exLow h)
            · exact q_call2 (F := (Fq.is (.int .i64 (v2 n : Int))).P) (G := (Fq.is (.int .u32 (ab a % 4294967296))).P) hp (free_of rfl) trivial (enq_M_ofTwos) (sq_in 1 rfl rfl (by simp) rfl (fun v w h => h)) (sq_in 3 rfl rfl (by simp) rfl (fun v w h => h)) (fun v v' w h h' => exOfTwos h h' ⟨by omega, HK2.out⟩ (word_range _) HA.out)
            · exact q_two (F := fun v _ => v = .int .i64 (-1)) (G := fun v _ => v = .int .i64 A) hp (free_of rfl) trivial (sq_in 0 rfl rfl (by simp) rfl (fun v w h => h)) (sq_in 4 rfl rfl (by simp) rfl (fun v w h => h)) (fun ρ w hc h h' => ⟨.int .i64 (S * A), by simp [execOp, go_sem, h, h', G1.out], rfl⟩)
            · exact q_assign hp (free_of rfl) trivial (sq_in 5 rfl rfl (by simp) rfl (fun v w h => h))
            intro L vs w19 nb hL hC hn E19
            have e0 : vs 0 = .int .i64 (-1) := hC 0 (by simp)
            have e1 : vs 1 = .int .i64 (v2 n : Int) := hC 1 (by simp)
            have e3 : vs 3 = .int .u32 (ab a % 4294967296) := hC 3 (by simp)
            have e4 : vs 4 = .int .i64 A := hC 4 (by simp)
            have e5 : vs 5 = .int .i64 (S * A) := hC 5 (by simp)
            have e6 : vs 6 = .int .i64 (S * A) := hC 6 (by simp)
            have E : Fr w [(b2, 2, Fq.num (n / 2 ^ v2 n)), (b1, 2, Fq.num a)] w19 := E19
            rw [lay_all hL]
            simp only [putAll, dstOf, List.length_cons, List.length_nil, Nat.zero_add, Nat.reduceAdd, List.getElem?_toArray, List.getElem?_cons_zero, List.getElem?_cons_succ, Option.bind_some, Act.put, List.setIfInBounds_toArray, List.set_cons_succ, List.set_cons_zero]
            rw [e0, e1, e3, e4, e5, e6]
            generalize vs 2 = u19_2
            clear e0 e1 e3 e4 e5 e6 hC hn E19 hL vs L nb
            go_upto_region 12 with (fail)
            have B20 : Hid (ab ((Int.natAbs (n / 2 ^ v2 n) : Int)) < pw 100) := ab_absB BO.out
            refine region_fr (C := [Fq.num (n / 2 ^ v2 n), Fq.num (Int.natAbs (n / 2 ^ v2 n) : Int), Fq.any]) (ks := [some (2, Fq.num (Int.natAbs (n / 2 ^ v2 n) : Int)), none]) (new := []) E rfl (by kernel_rfl) rfl rfl (fun hp => ⟨?_, ?_, ?_, trivial⟩) ?_
            · exact q_loadInt (off := 0) hp (free_of rfl) trivial (List.mem_iff_getElem?.2 ⟨0, rfl⟩) (.inr rfl) (Nat.le_of_ble_eq_true rfl) (sq_out rfl rfl (fun _ _ => rfl)) (fun us w hl h => ld_num hl h)
            · exact q_call1 (F := (Fq.num (n / 2 ^ v2 n)).P) hp (free_of rfl) trivial (enq_Abs) (sq_in 0 rfl rfl (by simp) rfl (fun v w h => h)) (fun v w h => exK (AbsV h) B20.out (by omega))
            · exact q_storeOldInt hp (List.mem_iff_getElem?.2 ⟨0, rfl⟩) rfl rfl (sq_out rfl rfl (fun _ _ => rfl)) (sq_in 1 rfl rfl (by simp) rfl (fun v w h => intV_num h)) (fun _ _ => trivial) (newik_ne rfl)
            intro L vs w21 nb hL hC hn E21
            have E : Fr w [(b2, 2, Fq.num (Int.natAbs (n / 2 ^ v2 n) : Int)), (b1, 2, Fq.num a)] w21 := E21
            rw [lay_all hL]
            simp only [putAll, dstOf, List.length_cons, List.length_nil, Nat.zero_add, Nat.reduceAdd, List.getElem?_toArray, List.getElem?_cons_zero, List.getElem?_cons_succ, Option.bind_some, Act.put, List.setIfInBounds_toArray, List.set_cons_succ, List.set_cons_zero]
            generalize vs 0 = u21_0
            generalize vs 1 = u21_1
            clear  hC hn E21 hL vs L nb
            go_upto_region 13 with (fail)
            have B22 : Hid (ab ((a % (Int.natAbs (n / 2 ^ v2 n) : Int))) < pw 100) := ab_modB HM0.out B20.out
            refine region_fr (C := [Fq.is (.int .i64 (S * A)), Fq.num (Int.natAbs (n / 2 ^ v2 n) : Int), Fq.any, Fq.num a, Fq.num (a % (Int.natAbs (n / 2 ^ v2 n) : Int)), Fq.num (Int.natAbs (n / 2 ^ v2 n) : Int), Fq.is (.int .i64 R), Fq.is (.int .i64 (S * A * R)), Fq.is (.int .i64 (S * A * R))]) (ks := [none, none]) (new := [⟨2, 2, 2, Fq.num (Int.natAbs (n / 2 ^ v2 n) : Int), Fq.num (Int.natAbs (n / 2 ^ v2 n) : Int), (some (.clo 72))⟩]) E rfl (by kernel_rfl) rfl rfl (fun hp => ⟨?_, ?_, ?_, ?_, ?_, ?_, ?_, ?_, ?_, trivial⟩) ?_
            · exact q_move hp (free_of rfl) trivial (sq_out rfl rfl (fun _ _ => rfl))
            · exact q_loadInt (off := 0) hp (free_of rfl) trivial (List.mem_iff_getElem?.2 ⟨0, rfl⟩) (.inl rfl) (Nat.le_of_ble_eq_true rfl) (sq_out rfl rfl (fun _ _ => rfl)) (fun us w hl h => ld_num hl h)
            · exact q_callMake (F := (Fq.num (Int.natAbs (n / 2 ^ v2 n) : Int)).P) hp enq_M_within (List.mem_iff_getElem?.2 ⟨0, rfl⟩) rfl rfl rfl (sq_in 1 rfl rfl (by simp) rfl (fun v w h => h)) (fun v w h => exWithin h) (fun _ _ => trivial) (old_ne rfl) (newks_ne rfl)
            · exact q_loadInt (off := 0) hp (free_of rfl) trivial (List.mem_iff_getElem?.2 ⟨1, rfl⟩) (.inl rfl) (Nat.le_of_ble_eq_true rfl) (sq_out rfl rfl (fun _ _ => rfl)) (fun us w hl h => ld_num hl h)
            · exact q_callCloIn (F := (Fq.num a).P) hp (free_of rfl) trivial enq_M_within1 (List.mem_iff_getElem?.2 ⟨0, rfl⟩) rfl (own_ptr rfl rfl (by simp) rfl) (sq_in 3 rfl rfl (by simp) rfl (fun v w h => h)) (fun v b w h hb => exResidue h hb HM0.out (Int.lt_of_lt_of_le ha.out (pw_le (by omega))) (Int.lt_of_lt_of_le B20.out (pw_le (by omega))))
            · exact q_loadInt (off := 0) hp (free_of rfl) trivial (List.mem_iff_getElem?.2 ⟨0, rfl⟩) (.inl rfl) (Nat.le_of_ble_eq_true rfl) (sq_out rfl rfl (fun _ _ => rfl)) (fun us w hl h => ld_num hl h)
            · exact q_call2W (F := (Fq.num (a % (Int.natAbs (n / 2 ^ v2 n) : Int))).P) (G := (Fq.num (Int.natAbs (n / 2 ^ v2 n) : Int)).P) hp (free_of rfl) trivial (enq_M_jacobi) rfl (sq_in 4 rfl rfl (by simp) rfl (fun v w h => h)) (sq_in 5 rfl rfl (by simp) rfl (fun v w h => h)) (fun v v' w hbw h h' => exJacobiR h h' (HT.out.mono hbw) (Int.lt_of_lt_of_le B22.out (pw_le (by omega))) (Int.lt_of_lt_of_le B20.out (pw_le (by omega))) HI.out HR.out)
            · exact q_two (F := fun v _ => v = .int .i64 (S * A)) (G := fun v _ => v = .int .i64 R) hp (free_of rfl) trivial (sq_in 0 rfl rfl (by simp) rfl (fun v w h => h)) (sq_in 6 rfl rfl (by simp) rfl (fun v w h => h)) (fun ρ w hc h h' => ⟨.int .i64 (S * A * R), by simp [execOp, go_sem, h, h', G2.out], rfl⟩)
            · exact q_assign hp (free_of rfl) trivial (sq_in 7 rfl rfl (by simp) rfl (fun v w h => h))
            intro L vs w23 nb hL hC hn E23
            have e0 : vs 0 = .int .i64 (S * A) := hC 0 (by simp)
            have e6 : vs 6 = .int .i64 R := hC 6 (by simp)
            have e7 : vs 7 = .int .i64 (S * A * R) := hC 7 (by simp)
            have e8 : vs 8 = .int .i64 (S * A * R) := hC 8 (by simp)
            have e2 : vs 2 = cloV 72 (nb 2) := hn _ (List.mem_iff_getElem?.2 ⟨0, rfl⟩)
            have E : Fr w [(nb 2, 2, Fq.num (Int.natAbs (n / 2 ^ v2 n) : Int)), (b2, 2, Fq.num (Int.natAbs (n / 2 ^ v2 n) : Int)), (b1, 2, Fq.num a)] w23 := E23
            rw [lay_all hL]
            simp only [putAll, dstOf, List.length_cons, List.length_nil, Nat.zero_add, Nat.reduceAdd, List.getElem?_toArray, List.getElem?_cons_zero, List.getElem?_cons_succ, Option.bind_some, Act.put, List.setIfInBounds_toArray, List.set_cons_succ, List.set_cons_zero]
            rw [e0, e6, e7, e8, e2]
            generalize nb 2 = b23_2 at E ⊢
            generalize vs 1 = u23_1
            generalize vs 3 = u23_3
            generalize vs 4 = u23_4
            generalize vs 5 = u23_5
            clear e0 e6 e7 e8 e2 hC hn E23 hL vs L nb
            clear HT HA HR G1 G2 HI HK2 HM0 HNZ BO
            clear B20 B22 ha hn
            go_wp2
            refine bodyPost_ret (v := .int .i64 (S * A * R)) ?_ rfl (by first | exact ⟨_, rfl, E.below, by rw [HK.out]⟩ | exact ⟨_, rfl, E.below⟩ | exact ⟨rfl, E.below⟩)
            simp [results, Tryd.results20, go_sem]
          · have P2 : Hid (¬ cmpI n 0 < 0) := mt cmpIqlt.1 h2
            have P3 : Hid (S = 1) := by show _ = _; rw [← HS.out]; unfold sg2; rw [if_neg (fun h => h2 h.2)]
            clear h1 h2
            go_upto_region 8 with (fail)
            refine region_fr (C := [Fq.num a, Fq.is (.int .i64 (cmpI a 0)), Fq.is (.bool true), Fq.is (.bool true), Fq.num n, Fq.is (.int .i64 (cmpI n 0)), Fq.is (.bool false), Fq.is (.bool false)]) (ks := [none, none]) (new := []) E rfl (by kernel_rfl) rfl rfl (fun hp => ⟨?_, ?_, ?_, ?_, ?_, ?_, ?_, ?_, trivial⟩) ?_
            · exact q_loadInt (off := 0) hp (free_of rfl) trivial (List.mem_iff_getElem?.2 ⟨1, rfl⟩) (.inl rfl) (Nat.le_of_ble_eq_true rfl) (sq_out rfl rfl (fun _ _ => rfl)) (fun us w hl h => ld_num hl h)
            · exact q_call1 (F := (Fq.num a).P) hp (free_of rfl) trivial (enq_Sign) (sq_in 0 rfl rfl (by simp) rfl (fun v w h => h)) (fun v w h => exSign h)
            · exact q_one (F := fun v _ => v = .int .i64 (cmpI a 0)) hp (free_of rfl) trivial (sq_in 1 rfl rfl (by simp) rfl (fun v w h => h)) (fun ρ w hc h => ⟨.bool true, by simp [execOp, go_sem, h, hc, P1.out], rfl⟩)
            · exact q_move hp (free_of rfl) trivial (sq_in 2 rfl rfl (by simp) rfl (fun v w h => h))
            · exact q_loadInt (off := 0) hp (free_of rfl) (gq_some rfl rfl (by simp) rfl (fun v w h => h)) (List.mem_iff_getElem?.2 ⟨0, rfl⟩) (.inl rfl) (Nat.le_of_ble_eq_true rfl) (sq_out rfl rfl (fun _ _ => rfl)) (fun us w hl h => ld_num hl h)
            · exact q_call1 (F := (Fq.num n).P) hp (free_of rfl) (gq_some rfl rfl (by simp) rfl (fun v w h => h)) (enq_Sign) (sq_in 4 rfl rfl (by simp) rfl (fun v w h => h)) (fun v w h => exSign h)
            · exact q_one (F := fun v _ => v = .int .i64 (cmpI n 0)) hp (free_of rfl) (gq_some rfl rfl (by simp) rfl (fun v w h => h)) (sq_in 5 rfl rfl (by simp) rfl (fun v w h => h)) (fun ρ w hc h => ⟨.bool false, by simp [execOp, go_sem, h, hc, P2.out], rfl⟩)
            · exact q_two (F := fun v _ => v = .bool true) (G := fun v _ => v = .bool false) hp (free_of rfl) trivial (sq_in 3 rfl rfl (by simp) rfl (fun v w h => h)) (sq_in 6 rfl rfl (by simp) rfl (fun v w h => h)) (fun ρ w hc h h' => ⟨_, by simp [execOp, go_sem, h, h'], rfl⟩)
            intro L vs w24 nb hL hC hn E24
            have e1 : vs 1 = .int .i64 (cmpI a 0) := hC 1 (by simp)
            have e2 : vs 2 = .bool true := hC 2 (by simp)
            have e3 : vs 3 = .bool true := hC 3 (by simp)
            have e5 : vs 5 = .int .i64 (cmpI n 0) := hC 5 (by simp)
            have e6 : vs 6 = .bool false := hC 6 (by simp)
            have e7 : vs 7 = .bool false := hC 7 (by simp)
            have E : Fr w [(b2, 2, Fq.num n), (b1, 2, Fq.num a)] w24 := E24
            rw [lay_all hL]
            simp only [putAll, dstOf, List.length_cons, List.length_nil, Nat.zero_add, Nat.reduceAdd, List.getElem?_toArray, List.getElem?_cons_zero, List.getElem?_cons_succ, Option.bind_some, Act.put, List.setIfInBounds_toArray, List.set_cons_succ, List.set_cons_zero]
            rw [e1, e2, e3, e5, e6, e7]
            generalize vs 0 = u24_0
            generalize vs 4 = u24_4
            clear e1 e2 e3 e5 e6 e7 hC hn E24 hL vs L nb
            clear P1 P2
            replace G1 := hidd (show IntKind.i64.wrap A = S * A by have := G1.out; rw [P3.out] at this ⊢; rw [Int.one_mul] at this ⊢; exact this)
            clear HS P3
            go_upto_region 10 with (fail)
            refine region_fr (C := [Fq.num n, Fq.tup2 (Fq.num (n / 2 ^ v2 n)) (Fq.is (.int .i64 (v2 n : Int))), Fq.tup2 (Fq.num (n / 2 ^ v2 n)) (Fq.is (.int .i64 (v2 n : Int))), Fq.num (n / 2 ^ v2 n), Fq.is (.int .i64 (v2 n : Int)), Fq.any, Fq.is (.int .i64 (v2 n : Int))]) (ks := [some (5, Fq.num (n / 2 ^ v2 n)), none]) (new := []) E rfl (by kernel_rfl) rfl rfl (fun hp => ⟨?_, ?_, ?_, ?_, ?_, ?_, ?_, trivial⟩) ?_
            · exact q_loadInt (off := 0) hp (free_of rfl) trivial (List.mem_iff_getElem?.2 ⟨0, rfl⟩) (.inr rfl) (Nat.le_of_ble_eq_true rfl) (sq_out rfl rfl (fun _ _ => rfl)) (fun us w hl h => ld_num hl h)
            · exact q_call1W (F := (Fq.num n).P) hp (free_of rfl) trivial (enq_M_oddPart) rfl (sq_in 0 rfl rfl (by simp) rfl (fun v w h => h)) (fun v w hbw h => exOddPart h (HT.out.mono hbw) HNZ.out (Int.lt_of_lt_of_le hn.out (pw_le (by omega))))
            · exact q_move hp (free_of rfl) trivial (sq_in 1 rfl rfl (by simp) rfl (fun v w h => h))
            · exact q_extract2 hp (free_of rfl) trivial (sq_in 2 rfl rfl (by simp) rfl (fun v w h => h)) (fun v1 v2 w h1 h2 => ⟨_, rfl, h1⟩)
            · exact q_extract2 hp (free_of rfl) trivial (sq_in 2 rfl rfl (by simp) rfl (fun v w h => h)) (fun v1 v2 w h1 h2 => ⟨_, rfl, h2⟩)
            · exact q_storeOldInt hp (List.mem_iff_getElem?.2 ⟨0, rfl⟩) rfl rfl (sq_out rfl rfl (fun _ _ => rfl)) (sq_in 3 rfl rfl (by simp) rfl (fun v w h => intV_num h)) (fun _ _ => trivial) (newik_ne rfl)
            · exact q_assign hp (free_of rfl) trivial (sq_in 4 rfl rfl (by simp) rfl (fun v w h => h))
            intro L vs w25 nb hL hC hn E25
            have e4 : vs 4 = .int .i64 (v2 n : Int) := hC 4 (by simp)
            have e6 : vs 6 = .int .i64 (v2 n : Int) := hC 6 (by simp)
            have E : Fr w [(b2, 2, Fq.num (n / 2 ^ v2 n)), (b1, 2, Fq.num a)] w25 := E25
            rw [lay_all hL]
            simp only [putAll, dstOf, List.length_cons, List.length_nil, Nat.zero_add, Nat.reduceAdd, List.getElem?_toArray, List.getElem?_cons_zero, List.getElem?_cons_succ, Option.bind_some, Act.put, List.setIfInBounds_toArray, List.set_cons_succ, List.set_cons_zero]
            rw [e4, e6]
            generalize vs 0 = u25_0
            generalize vs 1 = u25_1
            generalize vs 2 = u25_2
            generalize vs 3 = u25_3
            clear e4 e6 hC hn E25 hL vs L nb
            go_upto_region 11 with (fail)
            refine region_fr (C := [Fq.is (.int .i64 1), Fq.is (.int .i64 (v2 n : Int)), Fq.num a, Fq.is (.int .u32 (ab a % 4294967296)), Fq.is (.int .i64 A), Fq.is (.int .i64 (S * A)), Fq.is (.int .i64 (S * A))]) (ks := [none, none]) (new := []) E rfl (by kernel_rfl) rfl rfl (fun hp => ⟨?_, ?_, ?_, ?_, ?_, ?_, ?_, trivial⟩) ?_
            · exact q_moveB 6 3 hp (free_of rfl) trivial rfl rfl rfl rfl (fun _ => rfl)
            · exact q_move hp (free_of rfl) trivial (sq_out rfl rfl (fun _ _ => rfl))
            · exact q_loadInt (off := 0) hp (free_of rfl) trivial (List.mem_iff_getElem?.2 ⟨1, rfl⟩) (.inl rfl) (Nat.le_of_ble_eq_true rfl) (sq_out rfl rfl (fun _ _ => rfl)) (fun us w hl h => ld_num hl h)
            · exact q_call1 (F := (Fq.num a).P) hp (free_of rfl) trivial (enq_M_low) (sq_in 2 rfl rfl (by simp) rfl (fun v w h => h)) (fun v w h => exLow h)
            · exact q_call2 (F := (Fq.is (.int .i64 (v2 n : Int))).P) (G := (Fq.is (.int .u32 (ab a % 4294967296))).P) hp (free_of rfl) trivial (enq_M_ofTwos) (sq_in 1 rfl rfl (by simp) rfl (fun v w h => h)) (sq_in 3 rfl rfl (by simp) rfl (fun v w h => h)) (fun v v' w h h' => exOfTwos h h' ⟨by omega, HK2.out⟩ (word_range _) HA.out)
            · exact q_two (F := fun v _ => v = .int .i64 1) (G := fun v _ => v = .int .i64 A) hp (free_of rfl) trivial (sq_in 0 rfl rfl (by simp) rfl (fun v w h => h)) (sq_in 4 rfl rfl (by simp) rfl (fun v w h => h)) (fun ρ w hc h h' => ⟨.int .i64 (S * A), by simp [execOp, go_sem, h, h', G1.out], rfl⟩)
            · exact q_assign hp (free_of rfl) trivial (sq_in 5 rfl rfl (by simp) rfl (fun v w h => h))
            intro L vs w26 nb hL hC hn E26
            have e0 : vs 0 = .int .i64 1 := hC 0 (by simp)
            have e1 : vs 1 = .int .i64 (v2 n : Int) := hC 1 (by simp)
            have e3 : vs 3 = .int .u32 (ab a % 4294967296) := hC 3 (by simp)
            have e4 : vs 4 = .int .i64 A := hC 4 (by simp)
            have e5 : vs 5 = .int .i64 (S * A) := hC 5 (by simp)
            have e6 : vs 6 = .int .i64 (S * A) := hC 6 (by simp)
            have E : Fr w [(b2, 2, Fq.num (n / 2 ^ v2 n)), (b1, 2, Fq.num a)] w26 := E26
            rw [lay_all hL]
            simp only [putAll, dstOf, List.length_cons, List.length_nil, Nat.zero_add, Nat.reduceAdd, List.getElem?_toArray, List.getElem?_cons_zero, List.getElem?_cons_succ, Option.bind_some, Act.put, List.setIfInBounds_toArray, List.set_cons_succ, List.set_cons_zero]
            rw [e0, e1, e3, e4, e5, e6]
            generalize vs 2 = u26_2
            clear e0 e1 e3 e4 e5 e6 hC hn E26 hL vs L nb
            go_upto_region 12 with (fail)
            have B27 : Hid (ab ((Int.natAbs (n / 2 ^ v2 n) : Int)) < pw 100) := ab_absB BO.out
            refine region_fr (C := [Fq.num (n / 2 ^ v2 n), Fq.num (Int.natAbs (n / 2 ^ v2 n) : Int), Fq.any]) (ks := [some (2, Fq.num (Int.natAbs (n / 2 ^ v2 n) : Int)), none]) (new := []) E rfl (by kernel_rfl) rfl rfl (fun hp => ⟨?_, ?_, ?_, trivial⟩) ?_
            · exact q_loadInt (off := 0) hp (free_of rfl) trivial (List.mem_iff_getElem?.2 ⟨0, rfl⟩) (.inr rfl) (Nat.le_of_ble_eq_true rfl) (sq_out rfl rfl (fun _ _ => rfl)) (fun us w hl h => ld_num hl h)
            · exact q_call1 (F := (Fq.num (n / 2 ^ v2 n)).P) hp (free_of rfl) trivial (enq_Abs) (sq_in 0 rfl rfl (by simp) rfl (fun v w h => h)) (fun v w h => exK (AbsV h) B27.out (by omega))
            · exact q_storeOldInt hp (List.mem_iff_getElem?.2 ⟨0, rfl⟩) rfl rfl (sq_out rfl rfl (fun _ _ => rfl)) (sq_in 1 rfl rfl (by simp) rfl (fun v w h => intV_num h)) (fun _ _ => trivial) (newik_ne rfl)
            intro L vs w28 nb hL hC hn E28
            have E : Fr w [(b2, 2, Fq.num (Int.natAbs (n / 2 ^ v2 n) : Int)), (b1, 2, Fq.num a)] w28 := E28
            rw [lay_all hL]
            simp only [putAll, dstOf, List.length_cons, List.length_nil, Nat.zero_add, Nat.reduceAdd, List.getElem?_toArray, List.getElem?_cons_zero, List.getElem?_cons_succ, Option.bind_some, Act.put, List.setIfInBounds_toArray, List.set_cons_succ, List.set_cons_zero]
            generalize vs 0 = u28_0
            generalize vs 1 = u28_1
            clear  hC hn E28 hL vs L nb
            go_upto_region 13 with (fail)
            have B29 : Hid (ab ((a % (Int.natAbs (n / 2 ^ v2 n) : Int))) < pw 100) := ab_modB HM0.out B27.out
            refine region_fr (C := [Fq.is (.int .i64 (S * A)), Fq.num (Int.natAbs (n / 2 ^ v2 n) : Int), Fq.any, Fq.num a, Fq.num (a % (Int.natAbs (n / 2 ^ v2 n) : Int)), Fq.num (Int.natAbs (n / 2 ^ v2 n) : Int), Fq.is (.int .i64 R), Fq.is (.int .i64 (S * A * R)), Fq.is (.int .i64 (S * A * R))]) (ks := [none, none]) (new := [⟨2, 2, 2, Fq.num (Int.natAbs (n / 2 ^ v2 n) : Int), Fq.num (Int.natAbs (n / 2 ^ v2 n) : Int), (some (.clo 72))⟩]) E rfl (by kernel_rfl) rfl rfl (fun hp => ⟨?_, ?_, ?_, ?_, ?_, ?_, ?_, ?_, ?_, trivial⟩) ?_
            · exact q_move hp (free_of rfl) trivial (sq_out rfl rfl (fun _ _ => rfl))
            · exact q_loadInt (off := 0) hp (free_of rfl) trivial (List.mem_iff_getElem?.2 ⟨0, rfl⟩) (.inl rfl) (Nat.le_of_ble_eq_true rfl) (sq_out rfl rfl (fun _ _ => rfl)) (fun us w hl h => ld_num hl h)
            · exact q_callMake (F := (Fq.num (Int.natAbs (n / 2 ^ v2 n) : Int)).P) hp enq_M_within (List.mem_iff_getElem?.2 ⟨0, rfl⟩) rfl rfl rfl (sq_in 1 rfl rfl (by simp) rfl (fun v w h => h)) (fun v w h => exWithin h) (fun _ _ => trivial) (old_ne rfl) (newks_ne rfl)
            · exact q_loadInt (off := 0) hp (free_of rfl) trivial (List.mem_iff_getElem?.2 ⟨1, rfl⟩) (.inl rfl) (Nat.le_of_ble_eq_true rfl) (sq_out rfl rfl (fun _ _ => rfl)) (fun us w hl h => ld_num hl h)
            · exact q_callCloIn (F := (Fq.num a).P) hp (free_of rfl) trivial enq_M_within1 (List.mem_iff_getElem?.2 ⟨0, rfl⟩) rfl (own_ptr rfl rfl (by simp) rfl) (sq_in 3 rfl rfl (by simp) rfl (fun v w h => h)) (fun v b w h hb => exResidue h hb HM0.out (Int.lt_of_lt_of_le ha.out (pw_le (by omega))) (Int.lt_of_lt_of_le B27.out (pw_le (by omega))))
            · exact q_loadInt (off := 0) hp (free_of rfl) trivial (List.mem_iff_getElem?.2 ⟨0, rfl⟩) (.inl rfl) (Nat.le_of_ble_eq_true rfl) (sq_out rfl rfl (fun _ _ => rfl)) (fun us w hl h => ld_num hl h)
            · exact q_call2W (F := (Fq.num (a % (Int.natAbs (n / 2 ^ v2 n) : Int))).P) (G := (Fq.num (Int.natAbs (n / 2 ^ v2 n) : Int)).P) hp (free_of rfl) trivial (enq_M_jacobi) rfl (sq_in 4 rfl rfl (by simp) rfl (fun v w h => h)) (sq_in 5 rfl rfl (by simp) rfl (fun v w h => h)) (fun v v' w hbw h h' => exJacobiR h h' (HT.out.mono hbw) (Int.lt_of_lt_of_le B29.out (pw_le (by omega))) (Int.lt_of_lt_of_le B27.out (pw_le (by omega))) HI.out HR.out)
            · exact q_two (F := fun v _ => v = .int .i64 (S * A)) (G := fun v _ => v = .int .i64 R) hp (free_of rfl) trivial (sq_in 0 rfl rfl (by simp) rfl (fun v w h => h)) (sq_in 6 rfl rfl (by simp) rfl (fun v w h => h)) (fun ρ w hc h h' => ⟨.int .i64 (S * A * R), by simp [execOp, go_sem, h, h', G2.out], rfl⟩)
            · exact q_assign hp (free_of rfl) trivial (sq_in 7 rfl rfl (by simp) rfl (fun v w h => h))
            intro L vs w30 nb hL hC hn E30
            have e0 : vs 0 = .int .i64 (S * A) := hC 0 (by simp)
            have e6 : vs 6 = .int .i64 R := hC 6 (by simp)
            have e7 : vs 7 = .int .i64 (S * A * R) := hC 7 (by simp)
            have e8 : vs 8 = .int .i64 (S * A * R) := hC 8 (by simp)
            have e2 : vs 2 = cloV 72 (nb 2) := hn _ (List.mem_iff_getElem?.2 ⟨0, rfl⟩)
            have E : Fr w [(nb 2, 2, Fq.num (Int.natAbs (n / 2 ^ v2 n) : Int)), (b2, 2, Fq.num (Int.natAbs (n / 2 ^ v2 n) : Int)), (b1, 2, Fq.num a)] w30 := E30
            rw [lay_all hL]
            simp only [putAll, dstOf, List.length_cons, List.length_nil, Nat.zero_add, Nat.reduceAdd, List.getElem?_toArray, List.getElem?_cons_zero, List.getElem?_cons_succ, Option.bind_some, Act.put, List.setIfInBounds_toArray, List.set_cons_succ, List.set_cons_zero]
            rw [e0, e6, e7, e8, e2]
            generalize nb 2 = b30_2 at E ⊢
            generalize vs 1 = u30_1
            generalize vs 3 = u30_3
            generalize vs 4 = u30_4
            generalize vs 5 = u30_5
            clear e0 e6 e7 e8 e2 hC hn E30 hL vs L nb
            clear HT HA HR G1 G2 HI HK2 HM0 HNZ BO
            clear B27 B29 ha hn
            go_wp2
            refine bodyPost_ret (v := .int .i64 (S * A * R)) ?_ rfl (by first | exact ⟨_, rfl, E.below, by rw [HK.out]⟩ | exact ⟨_, rfl, E.below⟩ | exact ⟨rfl, E.below⟩)
            simp [results, Tryd.results20, go_sem]
        · have P1 : Hid (¬ cmpI a 0 < 0) := mt cmpIqlt.1 h1
          have P3 : Hid (S = 1) := by show _ = _; rw [← HS.out]; unfold sg2; rw [if_neg (fun h => h1 h.1)]
          clear h1
          go_upto_region 8 with (fail)
          refine region_fr (C := [Fq.num a, Fq.is (.int .i64 (cmpI a 0)), Fq.is (.bool false), Fq.is (.bool false), Fq.is (undef), Fq.is (undef), Fq.is (undef), Fq.is (.bool false)]) (ks := [none, none]) (new := []) E rfl (by kernel_rfl) rfl rfl (fun hp => ⟨?_, ?_, ?_, ?_, ?_, ?_, ?_, ?_, trivial⟩) ?_
          · exact q_loadInt (off := 0) hp (free_of rfl) trivial (List.mem_iff_getElem?.2 ⟨1, rfl⟩) (.inl rfl) (Nat.le_of_ble_eq_true rfl) (sq_out rfl rfl (fun _ _ => rfl)) (fun us w hl h => ld_num hl h)
          · exact q_call1 (F := (Fq.num a).P) hp (free_of rfl) trivial (enq_Sign) (sq_in 0 rfl rfl (by simp) rfl (fun v w h => h)) (fun v w h => exSign h)
          · exact q_one (F := fun v _ => v = .int .i64 (cmpI a 0)) hp (free_of rfl) trivial (sq_in 1 rfl rfl (by simp) rfl (fun v w h => h)) (fun ρ w hc h => ⟨.bool false, by simp [execOp, go_sem, h, hc, P1.out], rfl⟩)
          · exact q_move hp (free_of rfl) trivial (sq_in 2 rfl rfl (by simp) rfl (fun v w h => h))
          · exact q_skip hp (free_of rfl) rfl (gq_some rfl rfl (by simp) rfl (fun v w h => h)) (fun _ => rfl)
          · exact q_skip hp (free_of rfl) rfl (gq_some rfl rfl (by simp) rfl (fun v w h => h)) (fun _ => rfl)
          · exact q_skip hp (free_of rfl) rfl (gq_some rfl rfl (by simp) rfl (fun v w h => h)) (fun _ => rfl)
          · exact q_two (F := fun v _ => v = .bool false) (G := fun v _ => v = .bool false) hp (free_of rfl) trivial (sq_in 3 rfl rfl (by simp) rfl (fun v w h => h)) (sq_const (fun _ => rfl)) (fun ρ w hc h h' => ⟨_, by simp [execOp, go_sem, h, h'], rfl⟩)
          intro L vs w31 nb hL hC hn E31
          have e1 : vs 1 = .int .i64 (cmpI a 0) := hC 1 (by simp)
          have e2 : vs 2 = .bool false := hC 2 (by simp)
          have e3 : vs 3 = .bool false := hC 3 (by simp)
          have e4 : vs 4 = undef := hC 4 (by simp)
          have e5 : vs 5 = undef := hC 5 (by simp)
          have e6 : vs 6 = undef := hC 6 (by simp)
          have e7 : vs 7 = .bool false := hC 7 (by simp)
          have E : Fr w [(b2, 2, Fq.num n), (b1, 2, Fq.num a)] w31 := E31
          rw [lay_all hL]
          simp only [putAll, dstOf, List.length_cons, List.length_nil, Nat.zero_add, Nat.reduceAdd, List.getElem?_toArray, List.getElem?_cons_zero, List.getElem?_cons_succ, Option.bind_some, Act.put, List.setIfInBounds_toArray, List.set_cons_succ, List.set_cons_zero]
          rw [e1, e2, e3, e4, e5, e6, e7]
          generalize vs 0 = u31_0
          clear e1 e2 e3 e4 e5 e6 e7 hC hn E31 hL vs L nb
          clear P1
          replace G1 := hidd (show IntKind.i64.wrap A = S * A by have := G1.out; rw [P3.out] at this ⊢; rw [Int.one_mul] at this ⊢; exact this)
          clear HS P3
          go_upto_region 10 with (fail)
          refine region_fr (C := [Fq.num n, Fq.tup2 (Fq.num (n / 2 ^ v2 n)) (Fq.is (.int .i64 (v2 n : Int))), Fq.tup2 (Fq.num (n / 2 ^ v2 n)) (Fq.is (.int .i64 (v2 n : Int))), Fq.num (n / 2 ^ v2 n), Fq.is (.int .i64 (v2 n : Int)), Fq.any, Fq.is (.int .i64 (v2 n : Int))]) (ks := [some (5, Fq.num (n / 2 ^ v2 n)), none]) (new := []) E rfl (by kernel_rfl) rfl rfl (fun hp => ⟨?_, ?_, ?_, ?_, ?_, ?_, ?_, trivial⟩) ?_
          · exact q_loadInt (off := 0) hp (free_of rfl) trivial (List.mem_iff_getElem?.2 ⟨0, rfl⟩) (.inr rfl) (Nat.le_of_ble_eq_true rfl) (sq_out rfl rfl (fun _ _ => rfl)) (fun us w hl h => ld_num hl h)
          · exact q_call1W (F := (Fq.num n).P) hp (free_of rfl) trivial (enq_M_oddPart) rfl (sq_in 0 rfl rfl (by simp) rfl (fun v w h => h)) (fun v w hbw h => exOddPart h (HT.out.mono hbw) HNZ.out (Int.lt_of_lt_of_le hn.out (pw_le (by omega))))
          · exact q_move hp (free_of rfl) trivial (sq_in 1 rfl rfl (by simp) rfl (fun v w h => h))
          · exact q_extract2 hp (free_of rfl) trivial (sq_in 2 rfl rfl (by simp) rfl (fun v w h => h)) (fun v1 v2 w h1 h2 => ⟨_, rfl, h1⟩)
          · exact q_extract2 hp (free_of rfl) trivial (sq_in 2 rfl rfl (by simp) rfl (fun v w h => h)) (fun v1 v2 w h1 h2 => ⟨_, rfl, h2⟩)
          · exact q_storeOldInt hp (List.mem_iff_getElem?.2 ⟨0, rfl⟩) rfl rfl (sq_out rfl rfl (fun _ _ => rfl)) (sq_in 3 rfl rfl (by simp) rfl (fun v w h => intV_num h)) (fun _ _ => trivial) (newik_ne rfl)
          · exact q_assign hp (free_of rfl) trivial (sq_in 4 rfl rfl (by simp) rfl (fun v w h => h))
          intro L vs w32 nb hL hC hn E32
          have e4 : vs 4 = .int .i64 (v2 n : Int) := hC 4 (by simp)
          have e6 : vs 6 = .int .i64 (v2 n : Int) := hC 6 (by simp)
          have E : Fr w [(b2, 2, Fq.num (n / 2 ^ v2 n)), (b1, 2, Fq.num a)] w32 := E32
          rw [lay_all hL]
          simp only [putAll, dstOf, List.length_cons, List.length_nil, Nat.zero_add, Nat.reduceAdd, List.getElem?_toArray, List.getElem?_cons_zero, List.getElem?_cons_succ, Option.bind_some, Act.put, List.setIfInBounds_toArray, List.set_cons_succ, List.set_cons_zero]
          rw [e4, e6]
          generalize vs 0 = u32_0
          generalize vs 1 = u32_1
          generalize vs 2 = u32_2
          generalize vs 3 = u32_3
          clear e4 e6 hC hn E32 hL vs L nb
          go_upto_region 11 with (fail)
          refine region_fr (C := [Fq.is (.int .i64 1), Fq.is (.int .i64 (v2 n : Int)), Fq.num a, Fq.is (.int .u32 (ab a % 4294967296)), Fq.is (.int .i64 A), Fq.is (.int .i64 (S * A)), Fq.is (.int .i64 (S * A))]) (ks := [none, none]) (new := []) E rfl (by kernel_rfl) rfl rfl (fun hp => ⟨?_, ?_, ?_, ?_, ?_, ?_, ?_, trivial⟩) ?_
          · exact q_moveB 6 3 hp (free_of rfl) trivial rfl rfl rfl rfl (fun _ => rfl)
          · exact q_move hp (free_of rfl) trivial (sq_out rfl rfl (fun _ _ => rfl))
          · exact q_loadInt (off := 0) hp (free_of rfl) trivial (List.mem_iff_getElem?.2 ⟨1, rfl⟩) (.inl rfl) (Nat.le_of_ble_eq_true rfl) (sq_out rfl rfl (fun _ _ => rfl)) (fun us w hl h => ld_num hl h)
          · exact q_call1 (F := (Fq.num a).P) hp (free_of rfl) trivial (enq_M_low) (sq_in 2 rfl rfl (by simp) rfl (fun v w h => h)) (fun v w h => exLow h)
          · exact q_call2 (F := (Fq.is (.int .i64 (v2 n : Int))).P) (G := (Fq.is (.int .u32 (ab a % 4294967296))).P) hp (free_of rfl) trivial (enq_M_ofTwos) (sq_in 1 rfl rfl (by simp) rfl (fun v w h => h)) (sq_in 3 rfl rfl (by simp) rfl (fun v w h => h)) (fun v v' w h h' => exOfTwos h h' ⟨by omega, HK2.out⟩ (word_range _) HA.out)
          · exact q_two (F := fun v _ => v = .int .i64 1) (G := fun v _ => v = .int .i64 A) hp (free_of rfl) trivial (sq_in 0 rfl rfl (by simp) rfl (fun v w h => h)) (sq_in 4 rfl rfl (by simp) rfl (fun v w h => h)) (fun ρ w hc h h' => ⟨.int .i64 (S * A), by simp [execOp, go_sem, h, h', G1.out], rfl⟩)
          · exact q_assign hp (free_of rfl) trivial (sq_in 5 rfl rfl (by simp) rfl (fun v w h => h))
          intro L vs w33 nb hL hC hn E33
          have e0 : vs 0 = .int .i64 1 := hC 0 (by simp)
          have e1 : vs 1 = .int .i64 (v2 n : Int) := hC 1 (by simp)
          have e3 : vs 3 = .int .u32 (ab a % 4294967296) := hC 3 (by simp)
          have e4 : vs 4 = .int .i64 A := hC 4 (by simp)
          have e5 : vs 5 = .int .i64 (S * A) := hC 5 (by simp)
          have e6 : vs 6 = .int .i64 (S * A) := hC 6 (by simp)
          have E : Fr w [(b2, 2, Fq.num (n / 2 ^ v2 n)), (b1, 2, Fq.num a)] w33 := E33
          rw [lay_all hL]
          simp only [putAll, dstOf, List.length_cons, List.length_nil, Nat.zero_add, Nat.reduceAdd, List.getElem?_toArray, List.getElem?_cons_zero, List.getElem?_cons_succ, Option.bind_some, Act.put, List.setIfInBounds_toArray, List.set_cons_succ, List.set_cons_zero]
          rw [e0, e1, e3, e4, e5, e6]
          generalize vs 2 = u33_2
          clear e0 e1 e3 e4 e5 e6 hC hn E33 hL vs L nb
          go_upto_region 12 with (fail)
          have B34 : Hid (ab ((Int.natAbs (n / 2 ^ v2 n) : Int)) < pw 100) := ab_absB BO.out
          refine region_fr (C := [Fq.num (n / 2 ^ v2 n), Fq.num (Int.natAbs (n / 2 ^ v2 n) : Int), Fq.any]) (ks := [some (2, Fq.num (Int.natAbs (n / 2 ^ v2 n) : Int)), none]) (new := []) E rfl (by kernel_rfl) rfl rfl (fun hp => ⟨?_, ?_, ?_, trivial⟩) ?_
          · exact q_loadInt (off := 0) hp (free_of rfl) trivial (List.mem_iff_getElem?.2 ⟨0, rfl⟩) (.inr rfl) (Nat.le_of_ble_eq_true rfl) (sq_out rfl rfl (fun _ _ => rfl)) (fun us w hl h => ld_num hl h)
          · exact q_call1 (F := (Fq.num (n / 2 ^ v2 n)).P) hp (free_of rfl) trivial (enq_Abs) (sq_in 0 rfl rfl (by simp) rfl (fun v w h => h)) (fun v w h => exK (AbsV h) B34.out (by omega))
          · exact q_storeOldInt hp (List.mem_iff_getElem?.2 ⟨0, rfl⟩) rfl rfl (sq_out rfl rfl (fun _ _ => rfl)) (sq_in 1 rfl rfl (by simp) rfl (fun v w h => intV_num h)) (fun _ _ => trivial) (newik_ne rfl)
          intro L vs w35 nb hL hC hn E35
          have E : Fr w [(b2, 2, Fq.num (Int.natAbs (n / 2 ^ v2 n) : Int)), (b1, 2, Fq.num a)] w35 := E35
          rw [lay_all hL]
          simp only [putAll, dstOf, List.length_cons, List.length_nil, Nat.zero_add, Nat.reduceAdd, List.getElem?_toArray, List.getElem?_cons_zero, List.getElem?_cons_succ, Option.bind_some, Act.put, List.setIfInBounds_toArray, List.set_cons_succ, List.set_cons_zero]
          generalize vs 0 = u35_0
          generalize vs 1 = u35_1
          clear  hC hn E35 hL vs L nb
          go_upto_region 13 with (fail)
          have B36 : Hid (ab ((a % (Int.natAbs (n / 2 ^ v2 n) : Int))) < pw 100) := ab_modB HM0.out B34.out
          refine region_fr (C := [Fq.is (.int .i64 (S * A)), Fq.num (Int.natAbs (n / 2 ^ v2 n) : Int), Fq.any, Fq.num a, Fq.num (a % (Int.natAbs (n / 2 ^ v2 n) : Int)), Fq.num (Int.natAbs (n / 2 ^ v2 n) : Int), Fq.is (.int .i64 R), Fq.is (.int .i64 (S * A * R)), Fq.is (.int .i64 (S * A * R))]) (ks := [none, none]) (new := [⟨2, 2, 2, Fq.num (Int.natAbs (n / 2 ^ v2 n) : Int), Fq.num (Int.natAbs (n / 2 ^ v2 n) : Int), (some (.clo 72))⟩]) E rfl (by kernel_rfl) rfl rfl (fun hp => ⟨?_, ?_, ?_, ?_, ?_, ?_, ?_, ?_, ?_, trivial⟩) ?_
          · exact q_move hp (free_of rfl) trivial (sq_out rfl rfl (fun _ _ => rfl))
          · exact q_loadInt (off := 0) hp (free_of rfl) trivial (List.mem_iff_getElem?.2 ⟨0, rfl⟩) (.inl rfl) (Nat.le_of_ble_eq_true rfl) (sq_out rfl rfl (fun _ _ => rfl)) (fun us w hl h => ld_num hl h)
          · exact q_callMake (F := (Fq.num (Int.natAbs (n / 2 ^ v2 n) : Int)).P) hp enq_M_within (List.mem_iff_getElem?.2 ⟨0, rfl⟩) rfl rfl rfl (sq_in 1 rfl rfl (by simp) rfl (fun v w h => h)) (fun v w h => exWithin h) (fun _ _ => trivial) (old_ne rfl) (newks_ne rfl)
          · exact q_loadInt (off := 0) hp (free_of rfl) trivial (List.mem_iff_getElem?.2 ⟨1, rfl⟩) (.inl rfl) (Nat.le_of_ble_eq_true rfl) (sq_out rfl rfl (fun _ _ => rfl)) (fun us w hl h => ld_num hl h)
          · exact q_callCloIn (F := (Fq.num a).P) hp (free_of rfl) trivial enq_M_within1 (List.mem_iff_getElem?.2 ⟨0, rfl⟩) rfl (own_ptr rfl rfl (by simp) rfl) (sq_in 3 rfl rfl (by simp) rfl (fun v w h => h)) (fun v b w h hb => exResidue h hb HM0.out (Int.lt_of_lt_of_le ha.out (pw_le (by omega))) (Int.lt_of_lt_of_le B34.out (pw_le (by omega))))
          · exact q_loadInt (off := 0) hp (free_of rfl) trivial (List.mem_iff_getElem?.2 ⟨0, rfl⟩) (.inl rfl) (Nat.le_of_ble_eq_true rfl) (sq_out rfl rfl (fun _ _ => rfl)) (fun us w hl h => ld_num hl h)
          · exact q_call2W (F := (Fq.num (a % (Int.natAbs (n / 2 ^ v2 n) : Int))).P) (G := (Fq.num (Int.natAbs (n / 2 ^ v2 n) : Int)).P) hp (free_of rfl) trivial (enq_M_jacobi) rfl (sq_in 4 rfl rfl (by simp) rfl (fun v w h => h)) (sq_in 5 rfl rfl (by simp) rfl (fun v w h => h)) (fun v v' w hbw h h' => exJacobiR h h' (HT.out.mono hbw) (Int.lt_of_lt_of_le B36.out (pw_le (by omega))) (Int.lt_of_lt_of_le B34.out (pw_le (by omega))) HI.out HR.out)
          · exact q_two (F := fun v _ => v = .int .i64 (S * A)) (G := fun v _ => v = .int .i64 R) hp (free_of rfl) trivial (sq_in 0 rfl rfl (by simp) rfl (fun v w h => h)) (sq_in 6 rfl rfl (by simp) rfl (fun v w h => h)) (fun ρ w hc h h' => ⟨.int .i64 (S * A * R), by simp [execOp, go_sem, h, h', G2.out], rfl⟩)
          · exact q_assign hp (free_of rfl) trivial (sq_in 7 rfl rfl (by simp) rfl (fun v w h => h))
          intro L vs w37 nb hL hC hn E37
          have e0 : vs 0 = .int .i64 (S * A) := hC 0 (by simp)
          have e6 : vs 6 = .int .i64 R := hC 6 (by simp)
          have e7 : vs 7 = .int .i64 (S * A * R) := hC 7 (by simp)
          have e8 : vs 8 = .int .i64 (S * A * R) := hC 8 (by simp)
          have e2 : vs 2 = cloV 72 (nb 2) := hn _ (List.mem_iff_getElem?.2 ⟨0, rfl⟩)
          have E : Fr w [(nb 2, 2, Fq.num (Int.natAbs (n / 2 ^ v2 n) : Int)), (b2, 2, Fq.num (Int.natAbs (n / 2 ^ v2 n) : Int)), (b1, 2, Fq.num a)] w37 := E37
          rw [lay_all hL]
          simp only [putAll, dstOf, List.length_cons, List.length_nil, Nat.zero_add, Nat.reduceAdd, List.getElem?_toArray, List.getElem?_cons_zero, List.getElem?_cons_succ, Option.bind_some, Act.put, List.setIfInBounds_toArray, List.set_cons_succ, List.set_cons_zero]
          rw [e0, e6, e7, e8, e2]
          generalize nb 2 = b37_2 at E ⊢
          generalize vs 1 = u37_1
          generalize vs 3 = u37_3
          generalize vs 4 = u37_4
          generalize vs 5 = u37_5
          clear e0 e6 e7 e8 e2 hC hn E37 hL vs L nb
          clear HT HA HR G1 G2 HI HK2 HM0 HNZ BO
          clear B34 B36 ha hn
          go_wp2
          refine bodyPost_ret (v := .int .i64 (S * A * R)) ?_ rfl (by first | exact ⟨_, rfl, E.below, by rw [HK.out]⟩ | exact ⟨_, rfl, E.below⟩ | exact ⟨rfl, E.below⟩)
          simp [results, Tryd.results20, go_sem]

end Go.Proofs.YtieobgadihcgeaaDoor

/- Steps of a region over numbers with errors; small functions of the law. -/
namespace Go.Proofs.YtieobgadihcgeaaDoor
open Go Go.RowKit

/-- A number and an error. -/
def Got (w : World) (v : Value) (z r : Int) : Prop := ∃ n ao k c, v = .agg #[.bool n, .slice ao k c, .int .i64 r] ∧ Num w (.agg #[.bool n, .slice ao k c]) z
def Fq.got (z r : Int) : Fq := ⟨fun v w => Got w v z r, fun ⟨n, ao, k, c, e, h⟩ hb => ⟨n, ao, k, c, e, h.mono hb⟩, fun ⟨n, ao, k, c, e, h⟩ ha ht hl => ⟨n, ao, k, c, e, (Fq.num z).put h ha ht hl⟩⟩
def GotV (F : Fq) (v : Value) (w : World) : Prop := ∃ n ao k c r, v = .agg #[.bool n, .slice ao k c, .int .i64 r] ∧ F.P v w
theorem Got.partsV {w : World} {v : Value} {z r : Int} (h : Got w v z r) : GotV (Fq.got z r) v w := by
  have h0 := h
  obtain ⟨n, ao, k, c, e, h1⟩ := h
  exact ⟨n, ao, k, c, r, e, h0⟩
theorem Got.parts {w : World} {v : Value} {z r : Int} (h : Got w v z r) : ∃ n ao k c, v = .agg #[.bool n, .slice ao k c, .int .i64 r] ∧ Num w (.agg #[.bool n, .slice ao k c]) z := h
def zeroGot : List Value := [.bool false, .slice none 0 0, .int .i64 0]
theorem Got.zero (w : World) : Got w (.agg zeroGot.toArray) 0 0 := ⟨_, _, _, _, rfl, Num.zero w⟩
theorem tame_got (n : Bool) (ao : Option Addr) (k c : Nat) (r : Int) : Tame [.bool n, .slice ao k c, .int .i64 r] := by
  intro u hu q e
  simp at hu
  rcases hu with rfl | rfl | rfl <;> cases e
theorem ld_got {us : List Value} {w : World} {z r : Int} (hl : us.length = 3) (h : (Fq.got z r).P (.agg us.toArray) w) : Num w (.agg #[us.getD 0 undef, us.getD (0 + 1) undef]) z := by
  match us, hl with
  | [u0, u1, u2], _ =>
    obtain ⟨n, ao, k, c, e, h1⟩ := h
    injection e with e
    have e2 := congrArg Array.toList e
    simp at e2
    obtain ⟨rfl, rfl, rfl⟩ := e2
    exact h1
theorem ld_got2 {us : List Value} {w : World} {z r : Int} (hl : us.length = 3) (h : (Fq.got z r).P (.agg us.toArray) w) : us.getD 2 undef = .int .i64 r := by
  match us, hl with
  | [u0, u1, u2], _ =>
    obtain ⟨n, ao, k, c, e, h1⟩ := h
    injection e with e
    have e2 := congrArg Array.toList e
    simp at e2
    obtain ⟨rfl, rfl, rfl⟩ := e2
    rfl
theorem box_got {w : World} {b : Nat} {z r : Int} (h : Bq w b 3 (Fq.got z r)) : ∃ p0 p1 p2, w.cell? ⟨b, 0, none⟩ = some p0 ∧ w.cell? ⟨b, 1, none⟩ = some p1 ∧ w.cell? ⟨b, 2, none⟩ = some p2 ∧ Got w (.agg #[p0, p1, p2]) z r := by
  obtain ⟨us, hl, _, hat, _, hP⟩ := h
  match us, hl, hat with
  | [p, q, r], _, hat => exact ⟨p, q, r, (hat 0 (by simp)).1, (hat 1 (by simp)).1, (hat 2 (by simp)).1, hP⟩

section
variable {os : List Oper} {Q : Exit → Act → World → Prop} {a : Act} {p : Pq} {B B0 : Nat} {w0 : World}
variable {i s : Nat} {d : Option Tmp} {ty : TypeId} {ps : String} {af : Array Edge} {gd : Option (Nat × Bool)}
theorem q_loadErr {o : Ob} {x : Operand} {r : Int} (hp : p.Ok B B0) (hF : p.Free i) (hg : GdQ os a p B B0 w0 af gd) (ho : o ∈ p.old) (hk : o.F1 = o.F0 ∨ leadsB os 9 o.k i = true) (hm : o.m = 3)
    (hx : SrcQ os a p B B0 w0 af x fun u _ => u = .pointer (some ⟨o.b, 2, none⟩)) (hC : ∀ (us : List Value) (w : World), us.length = o.m → o.F0.P (.agg us.toArray) w → us.getD 2 undef = .int .i64 r) (hI : ∀ w, (p.c i).P (.int .i64 r) w) :
    StepQ os Q a p B B0 w0 i { dst := d, op := .load 34 x, type := ty, pos := ps, after := af, guard := gd } := by
  refine stq_val hp hF hg fun L vs w hG hL hc hd => ?_
  obtain ⟨us, hl, h0, hat, ht, hP⟩ := box_now ho hk hG hL hc
  have e := hx L vs w hG hd
  have c2 := (hat 2 (by omega)).1
  rw [hC us w hl hP] at c2
  refine ⟨_, ?_, hI w⟩
  generalize (lay os.toArray L vs os.toArray.size a).eval = ρ at e
  simp [execOp, go_sem, e, c2]
theorem q_buildGot {x y : Operand} {z r : Int} (hp : p.Ok B B0) (hF : p.Free i) (hg : GdQ os a p B B0 w0 af gd) (hx : SrcQ os a p B B0 w0 af x fun v w => Num w v z) (hy : SrcQ os a p B B0 w0 af y fun v _ => v = .int .i64 r) (hC : ∀ v w, Got w v z r → (p.c i).P v w) :
    StepQ os Q a p B B0 w0 i { dst := d, op := .build 36 #[(0, x), (1, y)], type := ty, pos := ps, after := af, guard := gd } := by
  refine stq_val hp hF hg fun L vs w hG hL hc hd => ?_
  have h1 := hx L vs w hG hd
  have e2 := hy L vs w hG hd
  obtain ⟨n, ao, k, c, e1⟩ := h1.parts
  refine ⟨.agg #[.bool n, .slice ao k c, .int .i64 r], ?_, hC _ _ ⟨_, _, _, _, rfl, by rw [← e1]; exact h1⟩⟩
  generalize (lay os.toArray L vs os.toArray.size a).eval = ρ at e1 e2
  simp [execOp, go_sem, e1, e2]
theorem op_storeGot {ops : Array Oper} {K : Act → World → Prop} {w : World} {x y : Operand} {b : Nat} {us : List Value} {n : Bool} {ao : Option Addr} {k c : Nat} {r : Int} (ho : ops[i]? = some { dst := d, op := .store 36 x y, type := ty, pos := ps, after := af, guard := none }) (hx : a.eval x = .pointer (some ⟨b, 0, none⟩)) (hy : a.eval y = .agg #[.bool n, .slice ao k c, .int .i64 r]) (hat : At w b us) (hl : us.length = 3)
    (h : K (a.put d undef) (putFrom w b 0 [.bool n, .slice ao k c, .int .i64 r])) : wpOp Tryd.prog ops Q i K a w := by
  refine wpOp_step ho fun K' hK => ?_
  obtain ⟨e0, f0⟩ := hat 0 (by omega)
  obtain ⟨e1, f1⟩ := hat 1 (by omega)
  obtain ⟨e2, f2⟩ := hat 2 (by omega)
  generalize us.getD 0 undef = u0 at e0
  generalize us.getD 1 undef = u1 at e1
  generalize us.getD 2 undef = u2 at e2
  have e : (execOp a.eval ({ dst := d, op := .store 36 x y, type := ty, pos := ps, after := af, guard := none } : Oper)).run Tryd.prog w = (.ok .skip (putFrom w b 0 [.bool n, .slice ao k c, .int .i64 r])) := by
    generalize a.eval = ρ at hx hy
    simp [execOp, go_sem, hx, hy, e0, e1, e2, f0, f1, f2, putFrom]
  have hwn : Region.wanted ({ dst := d, op := .store 36 x y, type := ty, pos := ps, after := af, guard := none } : Oper) (yielded ops a.tmps) = true := rfl
  rw [if_pos hwn]
  unfold Oper.wp
  rw [e]
  exact hK _ _ h
theorem q_storeOldGot {o0 : Ob} {x y : Operand} (hp : p.Ok B B0) (hi : o0 ∈ p.old) (hki : o0.k = i) (hm : o0.m = 3) (hx : SrcQ os a p B B0 w0 af x fun u _ => u = .pointer (some ⟨o0.b, 0, none⟩)) (hy : SrcQ os a p B B0 w0 af y (GotV o0.F1))
    (hC : ∀ v w', (p.c i).P v w') (h2 : ∀ n ∈ p.new, n.i ≠ i ∧ n.k ≠ i) : StepQ os Q a p B B0 w0 i { dst := none, op := .store 36 x y, type := ty, pos := ps, after := af, guard := none } := by
  subst hki
  intro hio L vs w hG hL hd hc
  obtain ⟨n, ao, k, c, r, e, hP⟩ := hy L vs w hG hd
  obtain ⟨us, g1, g2, g3, g4, g5⟩ := hG.old _ hi
  rw [e] at hP
  exact op_storeGot hio (hx L vs w hG hd) e g3 (by omega) ⟨undef, rfl, hG.storeOld hp hi (us := [.bool n, .slice ao k c, .int .i64 r]) hm.symm (tame_got _ _ _ _ _) hP hC h2 _⟩
end
set_option maxRecDepth 100000 in
set_option maxHeartbeats 4000000 in
theorem exVOf {w : World} {z : Int} (h0 : -9223372036854775808 ≤ z ∧ z ≤ 9223372036854775807) :
    Calls Tryd.prog 13 #[.int .i64 z] w fun e w' => ∃ v', e = .returned v' ∧ Below w.heap.size w w' ∧ Num w' v' z := by
  replace h0 := hidd h0
  obtain ⟨w1, b1, hw1, hb1, hs1, E⟩ := fr_start w (F := Fq.num 0) (us := [.bool false, .slice none 0 0]) 29 rfl (by simp) (tame_int _ _ _ _) (Num.zero _)
  go_enter Tryd.func13, Tryd.ntmps13
  go_upto_region 1 with (fail)
  rw [← hw1]
  rw [← hb1]
  clear hw1 hb1 hs1
  refine region_fr (C := [Fq.is (.int .i64 z), Fq.num z, Fq.any]) (ks := [some (2, Fq.num z)]) (new := []) E rfl (by kernel_rfl) rfl rfl (fun hp => ⟨?_, ?_, ?_, trivial⟩) ?_
  · exact q_move hp (free_of rfl) trivial (sq_out rfl rfl (fun _ _ => rfl))
  · exact q_call1 (F := (Fq.is (.int .i64 z)).P) hp (free_of rfl) trivial (enq_R_Of) (sq_in 0 rfl rfl (by simp) rfl (fun v w h => h)) (fun v w h => by rw [h]; exact rOfK w z h0.out.1 h0.out.2)
  · exact q_storeOldInt hp (List.mem_iff_getElem?.2 ⟨0, rfl⟩) rfl rfl (sq_out rfl rfl (fun _ _ => rfl)) (sq_in 1 rfl rfl (by simp) rfl (fun v w h => intV_num h)) (fun _ _ => trivial) (newik_ne rfl)
  intro L vs w2 nb hL hC hn E2
  have e0 : vs 0 = .int .i64 z := hC 0 (by simp)
  have E : Fr w [(b1, 2, Fq.num z)] w2 := E2
  rw [lay_all hL]
  simp only [putAll, dstOf, List.length_cons, List.length_nil, Nat.zero_add, Nat.reduceAdd, List.getElem?_toArray, List.getElem?_cons_zero, List.getElem?_cons_succ, Option.bind_some, Act.put, List.setIfInBounds_toArray, List.set_cons_succ, List.set_cons_zero]
  rw [e0]
  generalize vs 1 = u2_1
  clear e0 hC hn E2 hL vs L nb
  clear h0
  obtain ⟨p0, p1, c0, c1, hP⟩ := box_num (E.box 0 rfl)
  go_wp2
  refine bodyPost_ret (v := .agg #[p0, p1]) ?_ rfl ⟨_, rfl, E.below, hP⟩
  simp [results, Tryd.results13, go_sem, c0, c1]

set_option maxRecDepth 100000 in
set_option maxHeartbeats 4000000 in
theorem exVInv {w : World} {v v' : Value} {a m z r : Int} (h : Num w v a) (h' : Num w v' m) (hC : ∀ (x x' : Value) (w1 : World), Below w.heap.size w w1 → Num w1 x a → Num w1 x' m → Calls Tryd.prog 41 #[x, x'] w1 fun e w' => ∃ v', e = .returned v' ∧ Below w1.heap.size w1 w' ∧ (Fq.tup2 (Fq.num z) (Fq.is (.int .i64 r))).P v' w') :
    Calls Tryd.prog 14 #[v, v'] w fun e w' => ∃ v', e = .returned v' ∧ Below w.heap.size w w' ∧ Got w' v' z r := by
  replace hC := hidd hC
  obtain ⟨n0, ao0, k0, c0, rfl⟩ := h.parts
  obtain ⟨n1, ao1, k1, c1, rfl⟩ := h'.parts
  obtain ⟨w1, b1, hw1, hb1, hs1, E⟩ := fr_start w (F := Fq.num a) (us := [.bool n0, .slice ao0 k0 c0]) 29 rfl (by simp) (tame_int _ _ _ _) h
  obtain ⟨w2, b2, hw2, hb2, hs2, E⟩ := fr_more E hs1 (F := Fq.num m) (us := [.bool n1, .slice ao1 k1 c1]) 29 rfl (by simp) (tame_int _ _ _ _) (h'.mono E.below)
  obtain ⟨w3, b3, hw3, hb3, hs3, E⟩ := fr_more E hs2 (F := Fq.got 0 0) (us := [.bool false, .slice none 0 0, .int .i64 0]) 36 rfl (by simp) (tame_got _ _ _ _ _) (Got.zero _)
  go_enter Tryd.func14, Tryd.ntmps14
  go_upto_region 1 with (fail)
  rw [← hw1]
  rw [← hw2]
  rw [← hw3]
  rw [← hb3]
  rw [← hb2]
  rw [← hb1]
  clear hw1 hw2 hw3 hb1 hb2 hb3 hs3 hs1 hs2
  refine region_fr (C := [Fq.num a, Fq.num m, Fq.tup2 (Fq.num z) (Fq.is (.int .i64 r)), Fq.tup2 (Fq.num z) (Fq.is (.int .i64 r)), Fq.num z, Fq.is (.int .i64 r), Fq.any, Fq.any, Fq.is (.int .i64 r)]) (ks := [none, none, none]) (new := [⟨6, 7, 2, Fq.num 0, Fq.num z, none⟩]) E rfl (by kernel_rfl) rfl rfl (fun hp => ⟨?_, ?_, ?_, ?_, ?_, ?_, ?_, ?_, ?_, trivial⟩) ?_
  · exact q_loadInt (off := 0) hp (free_of rfl) trivial (List.mem_iff_getElem?.2 ⟨2, rfl⟩) (.inl rfl) (Nat.le_of_ble_eq_true rfl) (sq_out rfl rfl (fun _ _ => rfl)) (fun us w hl h => ld_num hl h)
  · exact q_loadInt (off := 0) hp (free_of rfl) trivial (List.mem_iff_getElem?.2 ⟨1, rfl⟩) (.inl rfl) (Nat.le_of_ble_eq_true rfl) (sq_out rfl rfl (fun _ _ => rfl)) (fun us w hl h => ld_num hl h)
  · exact q_call2W (F := (Fq.num a).P) (G := (Fq.num m).P) hp (free_of rfl) trivial (enq_M_Inv) rfl (sq_in 0 rfl rfl (by simp) rfl (fun v w h => h)) (sq_in 1 rfl rfl (by simp) rfl (fun v w h => h)) (fun v v' w hbw h h' => hC.out _ _ _ hbw h h')
  · exact q_move hp (free_of rfl) trivial (sq_in 2 rfl rfl (by simp) rfl (fun v w h => h))
  · exact q_extract2 hp (free_of rfl) trivial (sq_in 3 rfl rfl (by simp) rfl (fun v w h => h)) (fun v1 v2 w h1 h2 => ⟨_, rfl, h1⟩)
  · exact q_extract2 hp (free_of rfl) trivial (sq_in 3 rfl rfl (by simp) rfl (fun v w h => h)) (fun v1 v2 w h1 h2 => ⟨_, rfl, h2⟩)
  · exact q_allocInt hp (List.mem_iff_getElem?.2 ⟨0, rfl⟩) rfl rfl rfl rfl (Nat.ne_of_beq_eq_false rfl) (fun _ _ => trivial) (old_ne rfl) (newk_ne rfl) (fun w => Num.zero w)
  · exact q_storeNewInt hp (List.mem_iff_getElem?.2 ⟨0, rfl⟩) rfl rfl rfl (own_ptr rfl rfl (by simp) rfl) (sq_in 4 rfl rfl (by simp) rfl (fun v w h => intV_num h)) (fun _ _ => trivial) (old_ne rfl) (newi_ne rfl)
  · exact q_assign hp (free_of rfl) trivial (sq_in 5 rfl rfl (by simp) rfl (fun v w h => h))
  intro L vs w4 nb hL hC hn E4
  have e5 : vs 5 = .int .i64 r := hC 5 (by simp)
  have e8 : vs 8 = .int .i64 r := hC 8 (by simp)
  have e6 : vs 6 = .pointer (some ⟨nb 6, 0, none⟩) := hn _ (List.mem_iff_getElem?.2 ⟨0, rfl⟩)
  have E : Fr w [(nb 6, 2, Fq.num z), (b3, 3, Fq.got 0 0), (b2, 2, Fq.num m), (b1, 2, Fq.num a)] w4 := E4
  rw [lay_all hL]
  simp only [putAll, dstOf, List.length_cons, List.length_nil, Nat.zero_add, Nat.reduceAdd, List.getElem?_toArray, List.getElem?_cons_zero, List.getElem?_cons_succ, Option.bind_some, Act.put, List.setIfInBounds_toArray, List.set_cons_succ, List.set_cons_zero]
  rw [e5, e8, e6]
  generalize nb 6 = b4_6 at E ⊢
  generalize vs 0 = u4_0
  generalize vs 1 = u4_1
  generalize vs 2 = u4_2
  generalize vs 3 = u4_3
  generalize vs 4 = u4_4
  clear e5 e8 e6 hC hn E4 hL vs L nb
  go_upto_region 2 with (fail)
  refine region_fr (C := [Fq.num z, Fq.is (.int .i64 r), Fq.got z r, Fq.any]) (ks := [none, some (3, Fq.got z r), none, none]) (new := []) E rfl (by kernel_rfl) rfl rfl (fun hp => ⟨?_, ?_, ?_, ?_, trivial⟩) ?_
  · exact q_loadInt (off := 0) hp (free_of rfl) trivial (List.mem_iff_getElem?.2 ⟨0, rfl⟩) (.inl rfl) (Nat.le_of_ble_eq_true rfl) (sq_out rfl rfl (fun _ _ => rfl)) (fun us w hl h => ld_num hl h)
  · exact q_move hp (free_of rfl) trivial (sq_out rfl rfl (fun _ _ => rfl))
  · exact q_buildGot (z := z) (r := r) hp (free_of rfl) trivial (sq_in 0 rfl rfl (by simp) rfl (fun v w h => h)) (sq_in 1 rfl rfl (by simp) rfl (fun v w h => h)) (fun v w h => h)
  · exact q_storeOldGot hp (List.mem_iff_getElem?.2 ⟨1, rfl⟩) rfl rfl (sq_out rfl rfl (fun _ _ => rfl)) (sq_in 2 rfl rfl (by simp) rfl (fun v w h => h.partsV)) (fun _ _ => trivial) (newik_ne rfl)
  intro L vs w5 nb hL hC hn E5
  have e1 : vs 1 = .int .i64 r := hC 1 (by simp)
  have E : Fr w [(b4_6, 2, Fq.num z), (b3, 3, Fq.got z r), (b2, 2, Fq.num m), (b1, 2, Fq.num a)] w5 := E5
  rw [lay_all hL]
  simp only [putAll, dstOf, List.length_cons, List.length_nil, Nat.zero_add, Nat.reduceAdd, List.getElem?_toArray, List.getElem?_cons_zero, List.getElem?_cons_succ, Option.bind_some, Act.put, List.setIfInBounds_toArray, List.set_cons_succ, List.set_cons_zero]
  rw [e1]
  generalize vs 0 = u5_0
  generalize vs 2 = u5_2
  clear e1 hC hn E5 hL vs L nb
  clear hC
  obtain ⟨p0, p1, p2, c0, c1, c2, hP⟩ := box_got (E.box 1 rfl)
  go_wp2
  refine bodyPost_ret (v := .agg #[p0, p1, p2]) ?_ rfl ⟨_, rfl, E.below, hP⟩
  simp [results, Tryd.results14, go_sem, c0, c1, c2]

set_option maxRecDepth 100000 in
set_option maxHeartbeats 4000000 in
theorem exVRoot {w : World} {v v' : Value} {a m z r : Int} (h : Num w v a) (h' : Num w v' m) (hC : ∀ (x x' : Value) (w1 : World), Below w.heap.size w w1 → Num w1 x a → Num w1 x' m → Calls Tryd.prog 56 #[x, x'] w1 fun e w' => ∃ v', e = .returned v' ∧ Below w1.heap.size w1 w' ∧ (Fq.tup2 (Fq.num z) (Fq.is (.int .i64 r))).P v' w') :
    Calls Tryd.prog 26 #[v, v'] w fun e w' => ∃ v', e = .returned v' ∧ Below w.heap.size w w' ∧ Got w' v' z r := by
  replace hC := hidd hC
  obtain ⟨n0, ao0, k0, c0, rfl⟩ := h.parts
  obtain ⟨n1, ao1, k1, c1, rfl⟩ := h'.parts
  obtain ⟨w1, b1, hw1, hb1, hs1, E⟩ := fr_start w (F := Fq.num a) (us := [.bool n0, .slice ao0 k0 c0]) 29 rfl (by simp) (tame_int _ _ _ _) h
  obtain ⟨w2, b2, hw2, hb2, hs2, E⟩ := fr_more E hs1 (F := Fq.num m) (us := [.bool n1, .slice ao1 k1 c1]) 29 rfl (by simp) (tame_int _ _ _ _) (h'.mono E.below)
  obtain ⟨w3, b3, hw3, hb3, hs3, E⟩ := fr_more E hs2 (F := Fq.got 0 0) (us := [.bool false, .slice none 0 0, .int .i64 0]) 36 rfl (by simp) (tame_got _ _ _ _ _) (Got.zero _)
  go_enter Tryd.func26, Tryd.ntmps26
  go_upto_region 1 with (fail)
  rw [← hw1]
  rw [← hw2]
  rw [← hw3]
  rw [← hb3]
  rw [← hb2]
  rw [← hb1]
  clear hw1 hw2 hw3 hb1 hb2 hb3 hs3 hs1 hs2
  refine region_fr (C := [Fq.num a, Fq.num m, Fq.tup2 (Fq.num z) (Fq.is (.int .i64 r)), Fq.tup2 (Fq.num z) (Fq.is (.int .i64 r)), Fq.num z, Fq.is (.int .i64 r), Fq.any, Fq.any, Fq.is (.int .i64 r)]) (ks := [none, none, none]) (new := [⟨6, 7, 2, Fq.num 0, Fq.num z, none⟩]) E rfl (by kernel_rfl) rfl rfl (fun hp => ⟨?_, ?_, ?_, ?_, ?_, ?_, ?_, ?_, ?_, trivial⟩) ?_
  · exact q_loadInt (off := 0) hp (free_of rfl) trivial (List.mem_iff_getElem?.2 ⟨2, rfl⟩) (.inl rfl) (Nat.le_of_ble_eq_true rfl) (sq_out rfl rfl (fun _ _ => rfl)) (fun us w hl h => ld_num hl h)
  · exact q_loadInt (off := 0) hp (free_of rfl) trivial (List.mem_iff_getElem?.2 ⟨1, rfl⟩) (.inl rfl) (Nat.le_of_ble_eq_true rfl) (sq_out rfl rfl (fun _ _ => rfl)) (fun us w hl h => ld_num hl h)
  · exact q_call2W (F := (Fq.num a).P) (G := (Fq.num m).P) hp (free_of rfl) trivial (enq_M_Sqrt) rfl (sq_in 0 rfl rfl (by simp) rfl (fun v w h => h)) (sq_in 1 rfl rfl (by simp) rfl (fun v w h => h)) (fun v v' w hbw h h' => hC.out _ _ _ hbw h h')
  · exact q_move hp (free_of rfl) trivial (sq_in 2 rfl rfl (by simp) rfl (fun v w h => h))
  · exact q_extract2 hp (free_of rfl) trivial (sq_in 3 rfl rfl (by simp) rfl (fun v w h => h)) (fun v1 v2 w h1 h2 => ⟨_, rfl, h1⟩)
  · exact q_extract2 hp (free_of rfl) trivial (sq_in 3 rfl rfl (by simp) rfl (fun v w h => h)) (fun v1 v2 w h1 h2 => ⟨_, rfl, h2⟩)
  · exact q_allocInt hp (List.mem_iff_getElem?.2 ⟨0, rfl⟩) rfl rfl rfl rfl (Nat.ne_of_beq_eq_false rfl) (fun _ _ => trivial) (old_ne rfl) (newk_ne rfl) (fun w => Num.zero w)
  · exact q_storeNewInt hp (List.mem_iff_getElem?.2 ⟨0, rfl⟩) rfl rfl rfl (own_ptr rfl rfl (by simp) rfl) (sq_in 4 rfl rfl (by simp) rfl (fun v w h => intV_num h)) (fun _ _ => trivial) (old_ne rfl) (newi_ne rfl)
  · exact q_assign hp (free_of rfl) trivial (sq_in 5 rfl rfl (by simp) rfl (fun v w h => h))
  intro L vs w4 nb hL hC hn E4
  have e5 : vs 5 = .int .i64 r := hC 5 (by simp)
  have e8 : vs 8 = .int .i64 r := hC 8 (by simp)
  have e6 : vs 6 = .pointer (some ⟨nb 6, 0, none⟩) := hn _ (List.mem_iff_getElem?.2 ⟨0, rfl⟩)
  have E : Fr w [(nb 6, 2, Fq.num z), (b3, 3, Fq.got 0 0), (b2, 2, Fq.num m), (b1, 2, Fq.num a)] w4 := E4
  rw [lay_all hL]
  simp only [putAll, dstOf, List.length_cons, List.length_nil, Nat.zero_add, Nat.reduceAdd, List.getElem?_toArray, List.getElem?_cons_zero, List.getElem?_cons_succ, Option.bind_some, Act.put, List.setIfInBounds_toArray, List.set_cons_succ, List.set_cons_zero]
  rw [e5, e8, e6]
  generalize nb 6 = b4_6 at E ⊢
  generalize vs 0 = u4_0
  generalize vs 1 = u4_1
  generalize vs 2 = u4_2
  generalize vs 3 = u4_3
  generalize vs 4 = u4_4
  clear e5 e8 e6 hC hn E4 hL vs L nb
  go_upto_region 2 with (fail)
  refine region_fr (C := [Fq.num z, Fq.is (.int .i64 r), Fq.got z r, Fq.any]) (ks := [none, some (3, Fq.got z r), none, none]) (new := []) E rfl (by kernel_rfl) rfl rfl (fun hp => ⟨?_, ?_, ?_, ?_, trivial⟩) ?_
  · exact q_loadInt (off := 0) hp (free_of rfl) trivial (List.mem_iff_getElem?.2 ⟨0, rfl⟩) (.inl rfl) (Nat.le_of_ble_eq_true rfl) (sq_out rfl rfl (fun _ _ => rfl)) (fun us w hl h => ld_num hl h)
  · exact q_move hp (free_of rfl) trivial (sq_out rfl rfl (fun _ _ => rfl))
  · exact q_buildGot (z := z) (r := r) hp (free_of rfl) trivial (sq_in 0 rfl rfl (by simp) rfl (fun v w h => h)) (sq_in 1 rfl rfl (by simp) rfl (fun v w h => h)) (fun v w h => h)
  · exact q_storeOldGot hp (List.mem_iff_getElem?.2 ⟨1, rfl⟩) rfl rfl (sq_out rfl rfl (fun _ _ => rfl)) (sq_in 2 rfl rfl (by simp) rfl (fun v w h => h.partsV)) (fun _ _ => trivial) (newik_ne rfl)
  intro L vs w5 nb hL hC hn E5
  have e1 : vs 1 = .int .i64 r := hC 1 (by simp)
  have E : Fr w [(b4_6, 2, Fq.num z), (b3, 3, Fq.got z r), (b2, 2, Fq.num m), (b1, 2, Fq.num a)] w5 := E5
  rw [lay_all hL]
  simp only [putAll, dstOf, List.length_cons, List.length_nil, Nat.zero_add, Nat.reduceAdd, List.getElem?_toArray, List.getElem?_cons_zero, List.getElem?_cons_succ, Option.bind_some, Act.put, List.setIfInBounds_toArray, List.set_cons_succ, List.set_cons_zero]
  rw [e1]
  generalize vs 0 = u5_0
  generalize vs 2 = u5_2
  clear e1 hC hn E5 hL vs L nb
  clear hC
  obtain ⟨p0, p1, p2, c0, c1, c2, hP⟩ := box_got (E.box 1 rfl)
  go_wp2
  refine bodyPost_ret (v := .agg #[p0, p1, p2]) ?_ rfl ⟨_, rfl, E.below, hP⟩
  simp [results, Tryd.results26, go_sem, c0, c1, c2]

set_option maxRecDepth 100000 in
set_option maxHeartbeats 4000000 in
theorem exVPow {w : World} {v v' u : Value} {a n m z r : Int} (h : Num w v a) (h' : Num w v' n) (g : Num w u m) (hC : ∀ (x x' y : Value) (w1 : World), Num w1 x a → Num w1 x' n → Num w1 y m → Calls Tryd.prog 46 #[x, x', y] w1 fun e w' => ∃ v', e = .returned v' ∧ Below w1.heap.size w1 w' ∧ (Fq.tup2 (Fq.num z) (Fq.is (.int .i64 r))).P v' w') :
    Calls Tryd.prog 17 #[v, v', u] w fun e w' => ∃ v', e = .returned v' ∧ Below w.heap.size w w' ∧ Got w' v' z r := by
  replace hC := hidd hC
  obtain ⟨n0, ao0, k0, c0, rfl⟩ := h.parts
  obtain ⟨n1, ao1, k1, c1, rfl⟩ := h'.parts
  obtain ⟨n2, ao2, k2, c2, rfl⟩ := g.parts
  obtain ⟨w1, b1, hw1, hb1, hs1, E⟩ := fr_start w (F := Fq.num a) (us := [.bool n0, .slice ao0 k0 c0]) 29 rfl (by simp) (tame_int _ _ _ _) h
  obtain ⟨w2, b2, hw2, hb2, hs2, E⟩ := fr_more E hs1 (F := Fq.num n) (us := [.bool n1, .slice ao1 k1 c1]) 29 rfl (by simp) (tame_int _ _ _ _) (h'.mono E.below)
  obtain ⟨w3, b3, hw3, hb3, hs3, E⟩ := fr_more E hs2 (F := Fq.num m) (us := [.bool n2, .slice ao2 k2 c2]) 29 rfl (by simp) (tame_int _ _ _ _) (g.mono E.below)
  obtain ⟨w4, b4, hw4, hb4, hs4, E⟩ := fr_more E hs3 (F := Fq.got 0 0) (us := [.bool false, .slice none 0 0, .int .i64 0]) 36 rfl (by simp) (tame_got _ _ _ _ _) (Got.zero _)
  go_enter Tryd.func17, Tryd.ntmps17
  go_upto_region 1 with (fail)
  rw [← hw1]
  rw [← hw2]
  rw [← hw3]
  rw [← hw4]
  rw [← hb4]
  rw [← hb3]
  rw [← hb2]
  rw [← hb1]
  clear hw1 hw2 hw3 hw4 hb1 hb2 hb3 hb4 hs4 hs1 hs2 hs3
  refine region_fr (C := [Fq.num a, Fq.num n, Fq.num m, Fq.tup2 (Fq.num z) (Fq.is (.int .i64 r)), Fq.tup2 (Fq.num z) (Fq.is (.int .i64 r)), Fq.num z, Fq.is (.int .i64 r), Fq.any, Fq.any, Fq.is (.int .i64 r)]) (ks := [none, none, none, none]) (new := [⟨7, 8, 2, Fq.num 0, Fq.num z, none⟩]) E rfl (by kernel_rfl) rfl rfl (fun hp => ⟨?_, ?_, ?_, ?_, ?_, ?_, ?_, ?_, ?_, ?_, trivial⟩) ?_
  · exact q_loadInt (off := 0) hp (free_of rfl) trivial (List.mem_iff_getElem?.2 ⟨3, rfl⟩) (.inl rfl) (Nat.le_of_ble_eq_true rfl) (sq_out rfl rfl (fun _ _ => rfl)) (fun us w hl h => ld_num hl h)
  · exact q_loadInt (off := 0) hp (free_of rfl) trivial (List.mem_iff_getElem?.2 ⟨2, rfl⟩) (.inl rfl) (Nat.le_of_ble_eq_true rfl) (sq_out rfl rfl (fun _ _ => rfl)) (fun us w hl h => ld_num hl h)
  · exact q_loadInt (off := 0) hp (free_of rfl) trivial (List.mem_iff_getElem?.2 ⟨1, rfl⟩) (.inl rfl) (Nat.le_of_ble_eq_true rfl) (sq_out rfl rfl (fun _ _ => rfl)) (fun us w hl h => ld_num hl h)
  · exact q_call3 (F := (Fq.num a).P) (G := (Fq.num n).P) (F3 := (Fq.num m).P) hp (free_of rfl) trivial (enq_M_Pow) (sq_in 0 rfl rfl (by simp) rfl (fun v w h => h)) (sq_in 1 rfl rfl (by simp) rfl (fun v w h => h)) (sq_in 2 rfl rfl (by simp) rfl (fun v w h => h)) (fun v v' u w h h' g => hC.out _ _ _ _ h h' g)
  · exact q_move hp (free_of rfl) trivial (sq_in 3 rfl rfl (by simp) rfl (fun v w h => h))
  · exact q_extract2 hp (free_of rfl) trivial (sq_in 4 rfl rfl (by simp) rfl (fun v w h => h)) (fun v1 v2 w h1 h2 => ⟨_, rfl, h1⟩)
  · exact q_extract2 hp (free_of rfl) trivial (sq_in 4 rfl rfl (by simp) rfl (fun v w h => h)) (fun v1 v2 w h1 h2 => ⟨_, rfl, h2⟩)
  · exact q_allocInt hp (List.mem_iff_getElem?.2 ⟨0, rfl⟩) rfl rfl rfl rfl (Nat.ne_of_beq_eq_false rfl) (fun _ _ => trivial) (old_ne rfl) (newk_ne rfl) (fun w => Num.zero w)
  · exact q_storeNewInt hp (List.mem_iff_getElem?.2 ⟨0, rfl⟩) rfl rfl rfl (own_ptr rfl rfl (by simp) rfl) (sq_in 5 rfl rfl (by simp) rfl (fun v w h => intV_num h)) (fun _ _ => trivial) (old_ne rfl) (newi_ne rfl)
  · exact q_assign hp (free_of rfl) trivial (sq_in 6 rfl rfl (by simp) rfl (fun v w h => h))
  intro L vs w5 nb hL hC hn E5
  have e6 : vs 6 = .int .i64 r := hC 6 (by simp)
  have e9 : vs 9 = .int .i64 r := hC 9 (by simp)
  have e7 : vs 7 = .pointer (some ⟨nb 7, 0, none⟩) := hn _ (List.mem_iff_getElem?.2 ⟨0, rfl⟩)
  have E : Fr w [(nb 7, 2, Fq.num z), (b4, 3, Fq.got 0 0), (b3, 2, Fq.num m), (b2, 2, Fq.num n), (b1, 2, Fq.num a)] w5 := E5
  rw [lay_all hL]
  simp only [putAll, dstOf, List.length_cons, List.length_nil, Nat.zero_add, Nat.reduceAdd, List.getElem?_toArray, List.getElem?_cons_zero, List.getElem?_cons_succ, Option.bind_some, Act.put, List.setIfInBounds_toArray, List.set_cons_succ, List.set_cons_zero]
  rw [e6, e9, e7]
  generalize nb 7 = b5_7 at E ⊢
  generalize vs 0 = u5_0
  generalize vs 1 = u5_1
  generalize vs 2 = u5_2
  generalize vs 3 = u5_3
  generalize vs 4 = u5_4
  generalize vs 5 = u5_5
  clear e6 e9 e7 hC hn E5 hL vs L nb
  go_upto_region 2 with (fail)
  refine region_fr (C := [Fq.num z, Fq.is (.int .i64 r), Fq.got z r, Fq.any]) (ks := [none, some (3, Fq.got z r), none, none, none]) (new := []) E rfl (by kernel_rfl) rfl rfl (fun hp => ⟨?_, ?_, ?_, ?_, trivial⟩) ?_
  · exact q_loadInt (off := 0) hp (free_of rfl) trivial (List.mem_iff_getElem?.2 ⟨0, rfl⟩) (.inl rfl) (Nat.le_of_ble_eq_true rfl) (sq_out rfl rfl (fun _ _ => rfl)) (fun us w hl h => ld_num hl h)
  · exact q_move hp (free_of rfl) trivial (sq_out rfl rfl (fun _ _ => rfl))
  · exact q_buildGot (z := z) (r := r) hp (free_of rfl) trivial (sq_in 0 rfl rfl (by simp) rfl (fun v w h => h)) (sq_in 1 rfl rfl (by simp) rfl (fun v w h => h)) (fun v w h => h)
  · exact q_storeOldGot hp (List.mem_iff_getElem?.2 ⟨1, rfl⟩) rfl rfl (sq_out rfl rfl (fun _ _ => rfl)) (sq_in 2 rfl rfl (by simp) rfl (fun v w h => h.partsV)) (fun _ _ => trivial) (newik_ne rfl)
  intro L vs w6 nb hL hC hn E6
  have e1 : vs 1 = .int .i64 r := hC 1 (by simp)
  have E : Fr w [(b5_7, 2, Fq.num z), (b4, 3, Fq.got z r), (b3, 2, Fq.num m), (b2, 2, Fq.num n), (b1, 2, Fq.num a)] w6 := E6
  rw [lay_all hL]
  simp only [putAll, dstOf, List.length_cons, List.length_nil, Nat.zero_add, Nat.reduceAdd, List.getElem?_toArray, List.getElem?_cons_zero, List.getElem?_cons_succ, Option.bind_some, Act.put, List.setIfInBounds_toArray, List.set_cons_succ, List.set_cons_zero]
  rw [e1]
  generalize vs 0 = u6_0
  generalize vs 2 = u6_2
  clear e1 hC hn E6 hL vs L nb
  clear hC
  obtain ⟨p0, p1, p2, c0, c1, c2, hP⟩ := box_got (E.box 1 rfl)
  go_wp2
  refine bodyPost_ret (v := .agg #[p0, p1, p2]) ?_ rfl ⟨_, rfl, E.below, hP⟩
  simp [results, Tryd.results17, go_sem, c0, c1, c2]

set_option maxRecDepth 100000 in
set_option maxHeartbeats 4000000 in
theorem exVIs {w : World} {v : Value} {z r n : Int} {t : Bool} (h : Got w v z r) (h0 : -9223372036854775808 ≤ n ∧ n ≤ 9223372036854775807) (hr : r = 0) (ht : decide (z = n) = t) :
    Calls Tryd.prog 23 #[v, .int .i64 n] w fun e w' => ∃ v', e = .returned v' ∧ Below w.heap.size w w' ∧ v' = .bool t := by
  replace h0 := hidd h0
  replace hr := hidd hr
  replace ht := hidd ht
  obtain ⟨n0, ao0, k0, c0, rfl, _⟩ := h.parts
  obtain ⟨w1, b1, hw1, hb1, hs1, E⟩ := fr_start w (F := Fq.got z r) (us := [.bool n0, .slice ao0 k0 c0, .int .i64 r]) 36 rfl (by simp) (tame_got _ _ _ _ _) h
  go_enter Tryd.func23, Tryd.ntmps23
  go_upto_region 1 with (fail)
  rw [← hw1]
  rw [← hb1]
  clear hw1 hb1 hs1
  refine region_fr (C := [Fq.is (.pointer (some ⟨b1, 2, none⟩)), Fq.is (.int .i64 r), Fq.is (.bool true), Fq.is (.bool true), Fq.is (.pointer (some ⟨b1, 0, none⟩)), Fq.num z, Fq.is (.int .i64 n), Fq.num n, Fq.is (.bool t), Fq.is (.bool t), Fq.is (.bool t)]) (ks := [none]) (new := []) E rfl (by kernel_rfl) rfl rfl (fun hp => ⟨?_, ?_, ?_, ?_, ?_, ?_, ?_, ?_, ?_, ?_, ?_, trivial⟩) ?_
  · exact q_addr (b := b1) (off := 0) (off' := 2) hp (free_of rfl) trivial (sq_out rfl rfl (fun _ _ => rfl)) (fun ρ w h => by simp [execOp, go_sem, h]) (fun _ => rfl)
  · exact q_loadErr (r := r) hp (free_of rfl) trivial (List.mem_iff_getElem?.2 ⟨0, rfl⟩) (.inl rfl) rfl (sq_in 0 rfl rfl (by simp) rfl (fun v w h => h)) (fun us w hl h => ld_got2 hl h) (fun _ => rfl)
  · exact q_one (F := fun v _ => v = .int .i64 r) hp (free_of rfl) trivial (sq_in 1 rfl rfl (by simp) rfl (fun v w h => h)) (fun ρ w hc h => ⟨.bool true, by simp [execOp, go_sem, h, hc, hr.out], rfl⟩)
  · exact q_move hp (free_of rfl) trivial (sq_in 2 rfl rfl (by simp) rfl (fun v w h => h))
  · exact q_addr (b := b1) (off := 0) (off' := 0) hp (free_of rfl) (gq_some rfl rfl (by simp) rfl (fun v w h => h)) (sq_out rfl rfl (fun _ _ => rfl)) (fun ρ w h => by simp [execOp, go_sem, h]) (fun _ => rfl)
  · exact q_loadInt (off := 0) hp (free_of rfl) (gq_some rfl rfl (by simp) rfl (fun v w h => h)) (List.mem_iff_getElem?.2 ⟨0, rfl⟩) (.inl rfl) (Nat.le_of_ble_eq_true rfl) (sq_in 4 rfl rfl (by simp) rfl (fun v w h => h)) (fun us w hl h => ld_got hl h)
  · exact q_move hp (free_of rfl) (gq_some rfl rfl (by simp) rfl (fun v w h => h)) (sq_out rfl rfl (fun _ _ => rfl))
  · exact q_call1 (F := (Fq.is (.int .i64 n)).P) hp (free_of rfl) (gq_some rfl rfl (by simp) rfl (fun v w h => h)) (enq_V_of) (sq_in 6 rfl rfl (by simp) rfl (fun v w h => h)) (fun v w h => by rw [h]; exact exVOf h0.out)
  · exact q_call2 (F := (Fq.num z).P) (G := (Fq.num n).P) hp (free_of rfl) (gq_some rfl rfl (by simp) rfl (fun v w h => h)) (enq_R_Same) (sq_in 5 rfl rfl (by simp) rfl (fun v w h => h)) (sq_in 7 rfl rfl (by simp) rfl (fun v w h => h)) (fun v v' w h h' => exRSameB h h' ht.out)
  · exact q_two (F := fun v _ => v = .bool true) (G := fun v _ => v = .bool t) hp (free_of rfl) trivial (sq_in 3 rfl rfl (by simp) rfl (fun v w h => h)) (sq_in 8 rfl rfl (by simp) rfl (fun v w h => h)) (fun ρ w hc h h' => ⟨_, by simp [execOp, go_sem, h, h'], rfl⟩)
  · exact q_assign hp (free_of rfl) trivial (sq_in 9 rfl rfl (by simp) rfl (fun v w h => h))
  intro L vs w2 nb hL hC hn E2
  have e0 : vs 0 = .pointer (some ⟨b1, 2, none⟩) := hC 0 (by simp)
  have e1 : vs 1 = .int .i64 r := hC 1 (by simp)
  have e2 : vs 2 = .bool true := hC 2 (by simp)
  have e3 : vs 3 = .bool true := hC 3 (by simp)
  have e4 : vs 4 = .pointer (some ⟨b1, 0, none⟩) := hC 4 (by simp)
  have e6 : vs 6 = .int .i64 n := hC 6 (by simp)
  have e8 : vs 8 = .bool t := hC 8 (by simp)
  have e9 : vs 9 = .bool t := hC 9 (by simp)
  have e10 : vs 10 = .bool t := hC 10 (by simp)
  have E : Fr w [(b1, 3, Fq.got z r)] w2 := E2
  rw [lay_all hL]
  simp only [putAll, dstOf, List.length_cons, List.length_nil, Nat.zero_add, Nat.reduceAdd, List.getElem?_toArray, List.getElem?_cons_zero, List.getElem?_cons_succ, Option.bind_some, Act.put, List.setIfInBounds_toArray, List.set_cons_succ, List.set_cons_zero]
  rw [e0, e1, e2, e3, e4, e6, e8, e9, e10]
  generalize vs 5 = u2_5
  generalize vs 7 = u2_7
  clear e0 e1 e2 e3 e4 e6 e8 e9 e10 hC hn E2 hL vs L nb
  clear h0 hr ht
  go_wp2
  refine bodyPost_ret (v := .bool t) ?_ rfl (by first | exact ⟨_, rfl, E.below, rfl⟩ | exact ⟨_, rfl, E.below⟩ | exact ⟨rfl, E.below⟩)
  simp [results, Tryd.results23, go_sem]

end Go.Proofs.YtieobgadihcgeaaDoor

/- Walks: square roots modulo a prime. -/
namespace Go.Proofs.YtieobgadihcgeaaDoor
open Go Go.RowKit

section
variable {os : List Oper} {Q : Exit → Act → World → Prop} {a : Act} {p : Pq} {B B0 : Nat} {w0 : World}
variable {i s : Nat} {d : Option Tmp} {ty : TypeId} {ps : String} {af : Array Edge} {gd : Option (Nat × Bool)}
end
theorem powM_ab {a n m : Int} {k : Nat} (hm : 0 < m) (h : ab m < pw k) : ab (powM a n m) < pw k := ab_modB (by omega) h
theorem exPowPQ {w : World} {v v' u : Value} {a n m : Int} (h : Num w v a) (h' : Num w v' n) (g : Num w u m) (ha : ab a < pw 100) (hn : ab n < pw 100) (hm : ab m < pw 100) (h0 : 0 < m) (h1 : 0 ≤ n) :
    Calls Tryd.prog 46 #[v, v', u] w fun e w' => ∃ v', e = .returned v' ∧ Below w.heap.size w w' ∧ (Fq.tup2 (Fq.num (powM a n m)) (Fq.is (.int .i64 0))).P v' w' := exPowP h h' g ha hn hm h0 h1
set_option maxRecDepth 100000 in
set_option maxHeartbeats 4000000 in
theorem exSomeRoot3 {w : World} {v v' : Value} {r p : Int} (h : Num w v r) (h' : Num w v' p) (hr : ab r < pw 90) (hm : ab p < pw 90) (h0 : 2 ≤ p) (h1 : decide (p % (4) = 1) = false) :
    Calls Tryd.prog 77 #[v, v'] w fun e w' => ∃ v', e = .returned v' ∧ Below w.heap.size w w' ∧ Num w' v' (powM r ((p / (4)) + (1)) p) := by
  replace hr := hidd hr
  replace hm := hidd hm
  replace h0 := hidd h0
  replace h1 := hidd h1
  obtain ⟨n0, ao0, k0, c0, rfl⟩ := h.parts
  obtain ⟨n1, ao1, k1, c1, rfl⟩ := h'.parts
  obtain ⟨w1, b1, hw1, hb1, hs1, E⟩ := fr_start w (F := Fq.num r) (us := [.bool n0, .slice ao0 k0 c0]) 29 rfl (by simp) (tame_int _ _ _ _) h
  obtain ⟨w2, b2, hw2, hb2, hs2, E⟩ := fr_more E hs1 (F := Fq.num p) (us := [.bool n1, .slice ao1 k1 c1]) 29 rfl (by simp) (tame_int _ _ _ _) (h'.mono E.below)
  obtain ⟨w3, b3, hw3, hb3, hs3, E⟩ := fr_more E hs2 (F := Fq.num 0) (us := [.bool false, .slice none 0 0]) 29 rfl (by simp) (tame_int _ _ _ _) (Num.zero _)
  go_enter Tryd.func77, Tryd.ntmps77
  go_upto_region 1 with (fail)
  rw [← hw1]
  rw [← hw2]
  rw [← hw3]
  rw [← hb3]
  rw [← hb2]
  rw [← hb1]
  clear hw1 hw2 hw3 hb1 hb2 hb3 hs3 hs1 hs2
  have N4 : Hid ((4 : Int) ≠ 0) := by show _ ≠ _; omega
  have B4 : Hid (ab ((4)) < pw 3) := ab_lit (by decide)
  have B5 : Hid (ab ((p / (4))) < pw 91) := ab_divB hm.out (by omega)
  have B6 : Hid (ab ((p % (4))) < pw 3) := ab_modB N4.out B4.out
  refine region_fr (C := [Fq.num p, Fq.num (4), Fq.tup3 (Fq.num (p / (4))) (Fq.num (p % (4))) (Fq.is (.int .i64 0)), Fq.tup3 (Fq.num (p / (4))) (Fq.num (p % (4))) (Fq.is (.int .i64 0)), Fq.num (p / (4)), Fq.num (p % (4)), Fq.is (.int .i64 0), Fq.any, Fq.any, Fq.any, Fq.any, Fq.is (.int .i64 0)]) (ks := [none, none, none]) (new := [⟨7, 9, 2, Fq.num 0, Fq.num (p / (4)), none⟩, ⟨8, 10, 2, Fq.num 0, Fq.num (p % (4)), none⟩]) E rfl (by kernel_rfl) rfl rfl (fun hp => ⟨?_, ?_, ?_, ?_, ?_, ?_, ?_, ?_, ?_, ?_, ?_, ?_, trivial⟩) ?_
  · exact q_loadInt (off := 0) hp (free_of rfl) trivial (List.mem_iff_getElem?.2 ⟨1, rfl⟩) (.inl rfl) (Nat.le_of_ble_eq_true rfl) (sq_out rfl rfl (fun _ _ => rfl)) (fun us w hl h => ld_num hl h)
  · exact q_call1 (F := (Fq.is (.int .i64 4)).P) hp (free_of rfl) trivial (enq_Of) (sq_const (fun _ => rfl)) (fun v w h => (by subst h; exact OfK w (4) (by omega) (by omega)))
  · exact q_call2 (F := (Fq.num p).P) (G := (Fq.num (4)).P) hp (free_of rfl) trivial (enq_DivMod) (sq_in 0 rfl rfl (by simp) rfl (fun v w h => h)) (sq_in 1 rfl rfl (by simp) rfl (fun v w h => h)) (fun v v' w h h' => exDMq h h' N4.out B5.out B6.out (by omega) (by omega))
  · exact q_move hp (free_of rfl) trivial (sq_in 2 rfl rfl (by simp) rfl (fun v w h => h))
  · exact q_extract3 hp (free_of rfl) trivial (sq_in 3 rfl rfl (by simp) rfl (fun v w h => h)) (fun v1 v2 v3 w h1 h2 h3 => ⟨_, rfl, h1⟩)
  · exact q_extract3 hp (free_of rfl) trivial (sq_in 3 rfl rfl (by simp) rfl (fun v w h => h)) (fun v1 v2 v3 w h1 h2 h3 => ⟨_, rfl, h2⟩)
  · exact q_extract3 hp (free_of rfl) trivial (sq_in 3 rfl rfl (by simp) rfl (fun v w h => h)) (fun v1 v2 v3 w h1 h2 h3 => ⟨_, rfl, h3⟩)
  · exact q_allocInt hp (List.mem_iff_getElem?.2 ⟨0, rfl⟩) rfl rfl rfl rfl (Nat.ne_of_beq_eq_false rfl) (fun _ _ => trivial) (old_ne rfl) (newk_ne rfl) (fun w => Num.zero w)
  · exact q_allocInt hp (List.mem_iff_getElem?.2 ⟨1, rfl⟩) rfl rfl rfl rfl (Nat.ne_of_beq_eq_false rfl) (fun _ _ => trivial) (old_ne rfl) (newk_ne rfl) (fun w => Num.zero w)
  · exact q_storeNewInt hp (List.mem_iff_getElem?.2 ⟨0, rfl⟩) rfl rfl rfl (own_ptr rfl rfl (by simp) rfl) (sq_in 4 rfl rfl (by simp) rfl (fun v w h => intV_num h)) (fun _ _ => trivial) (old_ne rfl) (newi_ne rfl)
  · exact q_storeNewInt hp (List.mem_iff_getElem?.2 ⟨1, rfl⟩) rfl rfl rfl (own_ptr rfl rfl (by simp) rfl) (sq_in 5 rfl rfl (by simp) rfl (fun v w h => intV_num h)) (fun _ _ => trivial) (old_ne rfl) (newi_ne rfl)
  · exact q_assign hp (free_of rfl) trivial (sq_in 6 rfl rfl (by simp) rfl (fun v w h => h))
  intro L vs w7 nb hL hC hn E7
  have e6 : vs 6 = .int .i64 0 := hC 6 (by simp)
  have e11 : vs 11 = .int .i64 0 := hC 11 (by simp)
  have e7 : vs 7 = .pointer (some ⟨nb 7, 0, none⟩) := hn _ (List.mem_iff_getElem?.2 ⟨0, rfl⟩)
  have e8 : vs 8 = .pointer (some ⟨nb 8, 0, none⟩) := hn _ (List.mem_iff_getElem?.2 ⟨1, rfl⟩)
  have E : Fr w [(nb 7, 2, Fq.num (p / (4))), (nb 8, 2, Fq.num (p % (4))), (b3, 2, Fq.num 0), (b2, 2, Fq.num p), (b1, 2, Fq.num r)] w7 := E7
  rw [lay_all hL]
  simp only [putAll, dstOf, List.length_cons, List.length_nil, Nat.zero_add, Nat.reduceAdd, List.getElem?_toArray, List.getElem?_cons_zero, List.getElem?_cons_succ, Option.bind_some, Act.put, List.setIfInBounds_toArray, List.set_cons_succ, List.set_cons_zero]
  rw [e6, e11, e7, e8]
  generalize nb 7 = b7_7 at E ⊢
  generalize nb 8 = b7_8 at E ⊢
  generalize vs 0 = u7_0
  generalize vs 1 = u7_1
  generalize vs 2 = u7_2
  generalize vs 3 = u7_3
  generalize vs 4 = u7_4
  generalize vs 5 = u7_5
  clear e6 e11 e7 e8 hC hn E7 hL vs L nb
  go_upto_region 2 with (fail)
  refine region_fr (C := [Fq.num (p % (4)), Fq.is (.bool false)]) (ks := [none, none, none, none, none]) (new := []) E rfl (by kernel_rfl) rfl rfl (fun hp => ⟨?_, ?_, trivial⟩) ?_
  · exact q_loadInt (off := 0) hp (free_of rfl) trivial (List.mem_iff_getElem?.2 ⟨1, rfl⟩) (.inl rfl) (Nat.le_of_ble_eq_true rfl) (sq_out rfl rfl (fun _ _ => rfl)) (fun us w hl h => ld_num hl h)
  · exact q_call1 (F := (Fq.num (p % (4))).P) hp (free_of rfl) trivial (enq_M_isOne) (sq_in 0 rfl rfl (by simp) rfl (fun v w h => h)) (fun v w h => exIsOneMB h h1.out)
  intro L vs w8 nb hL hC hn E8
  have e1 : vs 1 = .bool false := hC 1 (by simp)
  have E : Fr w [(b7_7, 2, Fq.num (p / (4))), (b7_8, 2, Fq.num (p % (4))), (b3, 2, Fq.num 0), (b2, 2, Fq.num p), (b1, 2, Fq.num r)] w8 := E8
  rw [lay_all hL]
  simp only [putAll, dstOf, List.length_cons, List.length_nil, Nat.zero_add, Nat.reduceAdd, List.getElem?_toArray, List.getElem?_cons_zero, List.getElem?_cons_succ, Option.bind_some, Act.put, List.setIfInBounds_toArray, List.set_cons_succ, List.set_cons_zero]
  rw [e1]
  generalize vs 0 = u8_0
  clear e1 hC hn E8 hL vs L nb
  have H1 : Hid (0 ≤ (p / (4)) + (1)) := by have := h0.out; show _ ≤ _; omega
  have HP : Hid (0 < p) := by have := h0.out; show _ < _; omega
  go_upto_region 4 with (fail)
  have B9 : Hid (ab ((1)) < pw 3) := ab_lit (by decide)
  have B10 : Hid (ab (((p / (4)) + (1))) < pw 92) := ab_addB B5.out B9.out (by omega) (by omega)
  have B11 : Hid (ab (powM r ((p / (4)) + (1)) p) < pw 90) := powM_ab HP.out hm.out
  refine region_fr (C := [Fq.num r, Fq.num (p / (4)), Fq.num (1), Fq.num ((p / (4)) + (1)), Fq.num p, Fq.tup2 (Fq.num (powM r ((p / (4)) + (1)) p)) (Fq.is (.int .i64 0)), Fq.tup2 (Fq.num (powM r ((p / (4)) + (1)) p)) (Fq.is (.int .i64 0)), Fq.num (powM r ((p / (4)) + (1)) p), Fq.is (.int .i64 0), Fq.any, Fq.any, Fq.is (.int .i64 0)]) (ks := [none, none, none, none, none]) (new := [⟨9, 10, 2, Fq.num 0, Fq.num (powM r ((p / (4)) + (1)) p), none⟩]) E rfl (by kernel_rfl) rfl rfl (fun hp => ⟨?_, ?_, ?_, ?_, ?_, ?_, ?_, ?_, ?_, ?_, ?_, ?_, trivial⟩) ?_
  · exact q_loadInt (off := 0) hp (free_of rfl) trivial (List.mem_iff_getElem?.2 ⟨4, rfl⟩) (.inl rfl) (Nat.le_of_ble_eq_true rfl) (sq_out rfl rfl (fun _ _ => rfl)) (fun us w hl h => ld_num hl h)
  · exact q_loadInt (off := 0) hp (free_of rfl) trivial (List.mem_iff_getElem?.2 ⟨0, rfl⟩) (.inl rfl) (Nat.le_of_ble_eq_true rfl) (sq_out rfl rfl (fun _ _ => rfl)) (fun us w hl h => ld_num hl h)
  · exact q_call1 (F := (Fq.is (.int .i64 1)).P) hp (free_of rfl) trivial (enq_Of) (sq_const (fun _ => rfl)) (fun v w h => (by subst h; exact OfK w (1) (by omega) (by omega)))
  · exact q_call2 (F := (Fq.num (p / (4))).P) (G := (Fq.num (1)).P) hp (free_of rfl) trivial (enq_Add) (sq_in 1 rfl rfl (by simp) rfl (fun v w h => h)) (sq_in 2 rfl rfl (by simp) rfl (fun v w h => h)) (fun v v' w h h' => exK (AddV h h') B10.out (by omega))
  · exact q_loadInt (off := 0) hp (free_of rfl) trivial (List.mem_iff_getElem?.2 ⟨3, rfl⟩) (.inl rfl) (Nat.le_of_ble_eq_true rfl) (sq_out rfl rfl (fun _ _ => rfl)) (fun us w hl h => ld_num hl h)
  · exact q_call3 (F := (Fq.num r).P) (G := (Fq.num ((p / (4)) + (1))).P) (F3 := (Fq.num p).P) hp (free_of rfl) trivial (enq_M_Pow) (sq_in 0 rfl rfl (by simp) rfl (fun v w h => h)) (sq_in 3 rfl rfl (by simp) rfl (fun v w h => h)) (sq_in 4 rfl rfl (by simp) rfl (fun v w h => h)) (fun v v' u w h h' g => exPowPQ h h' g (Int.lt_of_lt_of_le hr.out (pw_le (by omega))) (Int.lt_of_lt_of_le B10.out (pw_le (by omega))) (Int.lt_of_lt_of_le hm.out (pw_le (by omega))) HP.out H1.out)
  · exact q_move hp (free_of rfl) trivial (sq_in 5 rfl rfl (by simp) rfl (fun v w h => h))
  · exact q_extract2 hp (free_of rfl) trivial (sq_in 6 rfl rfl (by simp) rfl (fun v w h => h)) (fun v1 v2 w h1 h2 => ⟨_, rfl, h1⟩)
  · exact q_extract2 hp (free_of rfl) trivial (sq_in 6 rfl rfl (by simp) rfl (fun v w h => h)) (fun v1 v2 w h1 h2 => ⟨_, rfl, h2⟩)
  · exact q_allocInt hp (List.mem_iff_getElem?.2 ⟨0, rfl⟩) rfl rfl rfl rfl (Nat.ne_of_beq_eq_false rfl) (fun _ _ => trivial) (old_ne rfl) (newk_ne rfl) (fun w => Num.zero w)
  · exact q_storeNewInt hp (List.mem_iff_getElem?.2 ⟨0, rfl⟩) rfl rfl rfl (own_ptr rfl rfl (by simp) rfl) (sq_in 7 rfl rfl (by simp) rfl (fun v w h => intV_num h)) (fun _ _ => trivial) (old_ne rfl) (newi_ne rfl)
  · exact q_assign hp (free_of rfl) trivial (sq_in 8 rfl rfl (by simp) rfl (fun v w h => h))
  intro L vs w12 nb hL hC hn E12
  have e8 : vs 8 = .int .i64 0 := hC 8 (by simp)
  have e11 : vs 11 = .int .i64 0 := hC 11 (by simp)
  have e9 : vs 9 = .pointer (some ⟨nb 9, 0, none⟩) := hn _ (List.mem_iff_getElem?.2 ⟨0, rfl⟩)
  have E : Fr w [(nb 9, 2, Fq.num (powM r ((p / (4)) + (1)) p)), (b7_7, 2, Fq.num (p / (4))), (b7_8, 2, Fq.num (p % (4))), (b3, 2, Fq.num 0), (b2, 2, Fq.num p), (b1, 2, Fq.num r)] w12 := E12
  rw [lay_all hL]
  simp only [putAll, dstOf, List.length_cons, List.length_nil, Nat.zero_add, Nat.reduceAdd, List.getElem?_toArray, List.getElem?_cons_zero, List.getElem?_cons_succ, Option.bind_some, Act.put, List.setIfInBounds_toArray, List.set_cons_succ, List.set_cons_zero]
  rw [e8, e11, e9]
  generalize nb 9 = b12_9 at E ⊢
  generalize vs 0 = u12_0
  generalize vs 1 = u12_1
  generalize vs 2 = u12_2
  generalize vs 3 = u12_3
  generalize vs 4 = u12_4
  generalize vs 5 = u12_5
  generalize vs 6 = u12_6
  generalize vs 7 = u12_7
  clear e8 e11 e9 hC hn E12 hL vs L nb
  go_upto_region 5 with (fail)
  refine region_fr (C := [Fq.num (powM r ((p / (4)) + (1)) p), Fq.any]) (ks := [none, none, none, some (1, Fq.num (powM r ((p / (4)) + (1)) p)), none, none]) (new := []) E rfl (by kernel_rfl) rfl rfl (fun hp => ⟨?_, ?_, trivial⟩) ?_
  · exact q_loadInt (off := 0) hp (free_of rfl) trivial (List.mem_iff_getElem?.2 ⟨0, rfl⟩) (.inl rfl) (Nat.le_of_ble_eq_true rfl) (sq_out rfl rfl (fun _ _ => rfl)) (fun us w hl h => ld_num hl h)
  · exact q_storeOldInt hp (List.mem_iff_getElem?.2 ⟨3, rfl⟩) rfl rfl (sq_out rfl rfl (fun _ _ => rfl)) (sq_in 0 rfl rfl (by simp) rfl (fun v w h => intV_num h)) (fun _ _ => trivial) (newik_ne rfl)
  intro L vs w13 nb hL hC hn E13
  have E : Fr w [(b12_9, 2, Fq.num (powM r ((p / (4)) + (1)) p)), (b7_7, 2, Fq.num (p / (4))), (b7_8, 2, Fq.num (p % (4))), (b3, 2, Fq.num (powM r ((p / (4)) + (1)) p)), (b2, 2, Fq.num p), (b1, 2, Fq.num r)] w13 := E13
  rw [lay_all hL]
  simp only [putAll, dstOf, List.length_cons, List.length_nil, Nat.zero_add, Nat.reduceAdd, List.getElem?_toArray, List.getElem?_cons_zero, List.getElem?_cons_succ, Option.bind_some, Act.put, List.setIfInBounds_toArray, List.set_cons_succ, List.set_cons_zero]
  generalize vs 0 = u13_0
  clear  hC hn E13 hL vs L nb
  clear N4 h0 h1 H1 HP
  obtain ⟨p0, p1, c0, c1, hP⟩ := box_num (E.box 3 rfl)
  clear B4 B5 B6 B9 B10 B11 hr hm
  go_wp2
  refine bodyPost_ret (v := .agg #[p0, p1]) ?_ rfl ⟨_, rfl, E.below, hP⟩
  simp [results, Tryd.results77, go_sem, c0, c1]

set_option maxRecDepth 100000 in
set_option maxHeartbeats 4000000 in
theorem exMSqrtXL {w : World} {v v' : Value} {a p x : Int} (h : Num w v a) (h' : Num w v' p) (ha : ab a < pw 90) (hm : ab p < pw 90) (hT : Tabs w) (h0 : 2 ≤ p) (hb : 1 < nbits (a % p)) (hk : kron (a % p) p = 1) (hx : ab x < pw 90) (hC : ∀ (y y' : Value) (w1 : World), Below w.heap.size w w1 → Num w1 y (a % p) → Num w1 y' p → Calls Tryd.prog 77 #[y, y'] w1 fun e w' => ∃ v', e = .returned v' ∧ Below w1.heap.size w1 w' ∧ Num w' v' x) (hq : (x * x) % p = a % p) (hl : p - x < x) :
    Calls Tryd.prog 56 #[v, v'] w fun e w' => ∃ v', e = .returned v' ∧ Below w.heap.size w w' ∧ (Fq.tup2 (Fq.num (p - x)) (Fq.is (.int .i64 0))).P v' w' := by
  replace ha := hidd ha
  replace hm := hidd hm
  replace hl := hidd hl
  replace hC := hidd hC
  replace hx := hidd hx
  replace hq := hidd hq
  replace hT := hidd hT
  replace hk := hidd hk
  obtain ⟨n0, ao0, k0, c0, rfl⟩ := h.parts
  obtain ⟨n1, ao1, k1, c1, rfl⟩ := h'.parts
  obtain ⟨w1, b1, hw1, hb1, hs1, E⟩ := fr_start w (F := Fq.num a) (us := [.bool n0, .slice ao0 k0 c0]) 29 rfl (by simp) (tame_int _ _ _ _) h
  obtain ⟨w2, b2, hw2, hb2, hs2, E⟩ := fr_more E hs1 (F := Fq.num p) (us := [.bool n1, .slice ao1 k1 c1]) 29 rfl (by simp) (tame_int _ _ _ _) (h'.mono E.below)
  obtain ⟨w3, b3, hw3, hb3, hs3, E⟩ := fr_more E hs2 (F := Fq.num 0) (us := [.bool false, .slice none 0 0]) 29 rfl (by simp) (tame_int _ _ _ _) (Num.zero _)
  go_enter Tryd.func56, Tryd.ntmps56
  go_upto_region 1 with (fail)
  rw [← hw1]
  rw [← hw2]
  rw [← hw3]
  rw [← hb3]
  rw [← hb2]
  rw [← hb1]
  clear hw1 hw2 hw3 hb1 hb2 hb3 hs3 hs1 hs2
  have T1 : Hid (¬ cmpI p (2) < 0) := fun e => by have := cmpIqlt.1 e; omega
  have HN : Hid (p ≠ 0) := by show _ ≠ _; omega
  clear h0
  have B4 : Hid (ab ((2)) < pw 3) := ab_lit (by decide)
  refine region_fr (C := [Fq.num p, Fq.num (2), Fq.is (.int .i64 (cmpI p (2))), Fq.is (.bool false)]) (ks := [none, none, none]) (new := []) E rfl (by kernel_rfl) rfl rfl (fun hp => ⟨?_, ?_, ?_, ?_, trivial⟩) ?_
  · exact q_loadInt (off := 0) hp (free_of rfl) trivial (List.mem_iff_getElem?.2 ⟨1, rfl⟩) (.inl rfl) (Nat.le_of_ble_eq_true rfl) (sq_out rfl rfl (fun _ _ => rfl)) (fun us w hl h => ld_num hl h)
  · exact q_call1 (F := (Fq.is (.int .i64 2)).P) hp (free_of rfl) trivial (enq_Of) (sq_const (fun _ => rfl)) (fun v w h => (by subst h; exact OfK w (2) (by omega) (by omega)))
  · exact q_call2 (F := (Fq.num p).P) (G := (Fq.num (2)).P) hp (free_of rfl) trivial (enq_Cmp) (sq_in 0 rfl rfl (by simp) rfl (fun v w h => h)) (sq_in 1 rfl rfl (by simp) rfl (fun v w h => h)) (fun v v' w h h' => exCmp h h')
  · exact q_one (F := fun v _ => v = .int .i64 (cmpI p (2))) hp (free_of rfl) trivial (sq_in 2 rfl rfl (by simp) rfl (fun v w h => h)) (fun ρ w hc h => ⟨.bool false, by simp [execOp, go_sem, h, hc, T1.out], rfl⟩)
  intro L vs w5 nb hL hC hn E5
  have e2 : vs 2 = .int .i64 (cmpI p (2)) := hC 2 (by simp)
  have e3 : vs 3 = .bool false := hC 3 (by simp)
  have E : Fr w [(b3, 2, Fq.num 0), (b2, 2, Fq.num p), (b1, 2, Fq.num a)] w5 := E5
  rw [lay_all hL]
  simp only [putAll, dstOf, List.length_cons, List.length_nil, Nat.zero_add, Nat.reduceAdd, List.getElem?_toArray, List.getElem?_cons_zero, List.getElem?_cons_succ, Option.bind_some, Act.put, List.setIfInBounds_toArray, List.set_cons_succ, List.set_cons_zero]
  rw [e2, e3]
  generalize vs 0 = u5_0
  generalize vs 1 = u5_1
  clear e2 e3 hC hn E5 hL vs L nb
  clear T1
  go_upto_region 3 with (fail)
  refine region_frS (same := [(2, 1)]) (C := [Fq.num p, Fq.any, Fq.any]) (ks := [none, none, none]) (new := [⟨1, 1, 2, Fq.num p, Fq.num p, (some (.clo 72))⟩]) E rfl (by kernel_rfl) rfl rfl (fun hp => ⟨?_, ?_, ?_, trivial⟩) ?_
  · exact stepS_of (q_loadInt (off := 0) hp (free_of rfl) trivial (List.mem_iff_getElem?.2 ⟨1, rfl⟩) (.inl rfl) (Nat.le_of_ble_eq_true rfl) (sq_out rfl rfl (fun _ _ => rfl)) (fun us w hl h => ld_num hl h)) rfl
  · exact stepS_of (q_callMake (F := (Fq.num p).P) hp enq_M_within (List.mem_iff_getElem?.2 ⟨0, rfl⟩) rfl rfl rfl (sq_in 0 rfl rfl (by simp) rfl (fun v w h => h)) (fun v w h => exWithin h) (fun _ _ => trivial) (old_ne rfl) (newks_ne rfl)) rfl
  · exact stepS_assign hp (free_of rfl) rfl (j := 1) rfl (by simp) rfl (fun _ _ => trivial) rfl (Nat.ne_of_beq_eq_false rfl)
  intro L vs w6 nb hsm hL hC hn E6
  have e1 : vs 1 = cloV 72 (nb 1) := hn _ (List.mem_iff_getElem?.2 ⟨0, rfl⟩)
  have e2 : vs 2 = cloV 72 (nb 1) := (hsm (2, 1) (by simp) (Nat.lt_of_sub_eq_succ rfl)).trans e1
  have E : Fr w [(nb 1, 2, Fq.num p), (b3, 2, Fq.num 0), (b2, 2, Fq.num p), (b1, 2, Fq.num a)] w6 := E6
  rw [lay_all hL]
  simp only [putAll, dstOf, List.length_cons, List.length_nil, Nat.zero_add, Nat.reduceAdd, List.getElem?_toArray, List.getElem?_cons_zero, List.getElem?_cons_succ, Option.bind_some, Act.put, List.setIfInBounds_toArray, List.set_cons_succ, List.set_cons_zero]
  rw [e1, e2]
  generalize nb 1 = b6_1 at E ⊢
  generalize vs 0 = u6_0
  clear e1 e2 hsm hC hn E6 hL vs L nb
  go_upto_region 4 with (fail)
  have B7 : Hid (ab ((a % p)) < pw 90) := ab_modB HN.out hm.out
  refine region_fr (C := [Fq.is (cloV 72 b6_1), Fq.num a, Fq.num (a % p), Fq.any, Fq.any]) (ks := [none, none, none, none]) (new := [⟨3, 4, 2, Fq.num 0, Fq.num (a % p), none⟩]) E rfl (by kernel_rfl) rfl rfl (fun hp => ⟨?_, ?_, ?_, ?_, ?_, trivial⟩) ?_
  · exact q_move hp (free_of rfl) trivial (sq_out rfl rfl (fun _ _ => rfl))
  · exact q_loadInt (off := 0) hp (free_of rfl) trivial (List.mem_iff_getElem?.2 ⟨3, rfl⟩) (.inl rfl) (Nat.le_of_ble_eq_true rfl) (sq_out rfl rfl (fun _ _ => rfl)) (fun us w hl h => ld_num hl h)
  · exact q_callCloOut (F := (Fq.num a).P) hp (free_of rfl) trivial enq_M_within1 (List.mem_iff_getElem?.2 ⟨0, rfl⟩) rfl (sq_in 0 rfl rfl (by simp) rfl (fun v w h => h)) (sq_in 1 rfl rfl (by simp) rfl (fun v w h => h)) (fun v w h hb => exResidue h hb HN.out (Int.lt_of_lt_of_le ha.out (pw_le (by omega))) (Int.lt_of_lt_of_le hm.out (pw_le (by omega))))
  · exact q_allocInt hp (List.mem_iff_getElem?.2 ⟨0, rfl⟩) rfl rfl rfl rfl (Nat.ne_of_beq_eq_false rfl) (fun _ _ => trivial) (old_ne rfl) (newk_ne rfl) (fun w => Num.zero w)
  · exact q_storeNewInt hp (List.mem_iff_getElem?.2 ⟨0, rfl⟩) rfl rfl rfl (own_ptr rfl rfl (by simp) rfl) (sq_in 2 rfl rfl (by simp) rfl (fun v w h => intV_num h)) (fun _ _ => trivial) (old_ne rfl) (newi_ne rfl)
  intro L vs w8 nb hL hC hn E8
  have e0 : vs 0 = cloV 72 b6_1 := hC 0 (by simp)
  have e3 : vs 3 = .pointer (some ⟨nb 3, 0, none⟩) := hn _ (List.mem_iff_getElem?.2 ⟨0, rfl⟩)
  have E : Fr w [(nb 3, 2, Fq.num (a % p)), (b6_1, 2, Fq.num p), (b3, 2, Fq.num 0), (b2, 2, Fq.num p), (b1, 2, Fq.num a)] w8 := E8
  rw [lay_all hL]
  simp only [putAll, dstOf, List.length_cons, List.length_nil, Nat.zero_add, Nat.reduceAdd, List.getElem?_toArray, List.getElem?_cons_zero, List.getElem?_cons_succ, Option.bind_some, Act.put, List.setIfInBounds_toArray, List.set_cons_succ, List.set_cons_zero]
  rw [e0, e3]
  generalize nb 3 = b8_3 at E ⊢
  generalize vs 1 = u8_1
  generalize vs 2 = u8_2
  clear e0 e3 hC hn E8 hL vs L nb
  replace hb := hidd hb
  have T2 : Hid (¬ ((nbits (a % p) : Nat) : Int) ≤ 1) := by have := hb.out; show ¬ _; omega
  go_upto_region 5 with (fail)
  refine region_fr (C := [Fq.num (a % p), Fq.is (.int .i64 ((nbits (a % p) : Nat) : Int)), Fq.is (.bool false)]) (ks := [none, none, none, none, none]) (new := []) E rfl (by kernel_rfl) rfl rfl (fun hp => ⟨?_, ?_, ?_, trivial⟩) ?_
  · exact q_loadInt (off := 0) hp (free_of rfl) trivial (List.mem_iff_getElem?.2 ⟨0, rfl⟩) (.inl rfl) (Nat.le_of_ble_eq_true rfl) (sq_out rfl rfl (fun _ _ => rfl)) (fun us w hl h => ld_num hl h)
  · exact q_call1 (F := (Fq.num (a % p)).P) hp (free_of rfl) trivial (enq_Bits) (sq_in 0 rfl rfl (by simp) rfl (fun v w h => h)) (fun v w h => exBits h)
  · exact q_one (F := fun v _ => v = .int .i64 ((nbits (a % p) : Nat) : Int)) hp (free_of rfl) trivial (sq_in 1 rfl rfl (by simp) rfl (fun v w h => h)) (fun ρ w hc h => ⟨.bool false, by simp [execOp, go_sem, h, hc, T2.out], rfl⟩)
  intro L vs w9 nb hL hC hn E9
  have e1 : vs 1 = .int .i64 ((nbits (a % p) : Nat) : Int) := hC 1 (by simp)
  have e2 : vs 2 = .bool false := hC 2 (by simp)
  have E : Fr w [(b8_3, 2, Fq.num (a % p)), (b6_1, 2, Fq.num p), (b3, 2, Fq.num 0), (b2, 2, Fq.num p), (b1, 2, Fq.num a)] w9 := E9
  rw [lay_all hL]
  simp only [putAll, dstOf, List.length_cons, List.length_nil, Nat.zero_add, Nat.reduceAdd, List.getElem?_toArray, List.getElem?_cons_zero, List.getElem?_cons_succ, Option.bind_some, Act.put, List.setIfInBounds_toArray, List.set_cons_succ, List.set_cons_zero]
  rw [e1, e2]
  generalize vs 0 = u9_0
  clear e1 e2 hC hn E9 hL vs L nb
  clear T2 hb
  go_upto_region 7 with (fail)
  refine region_fr (C := [Fq.num (a % p), Fq.num p, Fq.is (.int .i64 (kron (a % p) p)), Fq.is (.bool false)]) (ks := [none, none, none, none, none]) (new := []) E rfl (by kernel_rfl) rfl rfl (fun hp => ⟨?_, ?_, ?_, ?_, trivial⟩) ?_
  · exact q_loadInt (off := 0) hp (free_of rfl) trivial (List.mem_iff_getElem?.2 ⟨0, rfl⟩) (.inl rfl) (Nat.le_of_ble_eq_true rfl) (sq_out rfl rfl (fun _ _ => rfl)) (fun us w hl h => ld_num hl h)
  · exact q_loadInt (off := 0) hp (free_of rfl) trivial (List.mem_iff_getElem?.2 ⟨3, rfl⟩) (.inl rfl) (Nat.le_of_ble_eq_true rfl) (sq_out rfl rfl (fun _ _ => rfl)) (fun us w hl h => ld_num hl h)
  · exact q_call2W (F := (Fq.num (a % p)).P) (G := (Fq.num p).P) hp (free_of rfl) trivial (enq_M_Kronecker) rfl (sq_in 0 rfl rfl (by simp) rfl (fun v w h => h)) (sq_in 1 rfl rfl (by simp) rfl (fun v w h => h)) (fun v v' w hbw h h' => exKronecker h h' (hT.out.mono hbw) (Int.lt_of_lt_of_le B7.out (pw_le (by omega))) (Int.lt_of_lt_of_le hm.out (pw_le (by omega))))
  · exact q_one (F := fun v _ => v = .int .i64 (kron (a % p) p)) hp (free_of rfl) trivial (sq_in 2 rfl rfl (by simp) rfl (fun v w h => h)) (fun ρ w hc h => ⟨.bool false, by simp [execOp, go_sem, h, hc, hk.out], rfl⟩)
  intro L vs w10 nb hL hC hn E10
  have e2 : vs 2 = .int .i64 (kron (a % p) p) := hC 2 (by simp)
  have e3 : vs 3 = .bool false := hC 3 (by simp)
  have E : Fr w [(b8_3, 2, Fq.num (a % p)), (b6_1, 2, Fq.num p), (b3, 2, Fq.num 0), (b2, 2, Fq.num p), (b1, 2, Fq.num a)] w10 := E10
  rw [lay_all hL]
  simp only [putAll, dstOf, List.length_cons, List.length_nil, Nat.zero_add, Nat.reduceAdd, List.getElem?_toArray, List.getElem?_cons_zero, List.getElem?_cons_succ, Option.bind_some, Act.put, List.setIfInBounds_toArray, List.set_cons_succ, List.set_cons_zero]
  rw [e2, e3]
  generalize vs 0 = u10_0
  generalize vs 1 = u10_1
  clear e2 e3 hC hn E10 hL vs L nb
  go_upto_region 9 with (fail)
  refine region_fr (C := [Fq.num (a % p), Fq.num p, Fq.num x, Fq.any, Fq.any]) (ks := [none, none, none, none, none]) (new := [⟨3, 4, 2, Fq.num 0, Fq.num x, none⟩]) E rfl (by kernel_rfl) rfl rfl (fun hp => ⟨?_, ?_, ?_, ?_, ?_, trivial⟩) ?_
  · exact q_loadInt (off := 0) hp (free_of rfl) trivial (List.mem_iff_getElem?.2 ⟨0, rfl⟩) (.inl rfl) (Nat.le_of_ble_eq_true rfl) (sq_out rfl rfl (fun _ _ => rfl)) (fun us w hl h => ld_num hl h)
  · exact q_loadInt (off := 0) hp (free_of rfl) trivial (List.mem_iff_getElem?.2 ⟨3, rfl⟩) (.inl rfl) (Nat.le_of_ble_eq_true rfl) (sq_out rfl rfl (fun _ _ => rfl)) (fun us w hl h => ld_num hl h)
  · exact q_call2W (F := (Fq.num (a % p)).P) (G := (Fq.num p).P) hp (free_of rfl) trivial (enq_M_someRoot) rfl (sq_in 0 rfl rfl (by simp) rfl (fun v w h => h)) (sq_in 1 rfl rfl (by simp) rfl (fun v w h => h)) (fun v v' w hbw h h' => hC.out _ _ _ hbw h h')
  · exact q_allocInt hp (List.mem_iff_getElem?.2 ⟨0, rfl⟩) rfl rfl rfl rfl (Nat.ne_of_beq_eq_false rfl) (fun _ _ => trivial) (old_ne rfl) (newk_ne rfl) (fun w => Num.zero w)
  · exact q_storeNewInt hp (List.mem_iff_getElem?.2 ⟨0, rfl⟩) rfl rfl rfl (own_ptr rfl rfl (by simp) rfl) (sq_in 2 rfl rfl (by simp) rfl (fun v w h => intV_num h)) (fun _ _ => trivial) (old_ne rfl) (newi_ne rfl)
  intro L vs w11 nb hL hC hn E11
  have e3 : vs 3 = .pointer (some ⟨nb 3, 0, none⟩) := hn _ (List.mem_iff_getElem?.2 ⟨0, rfl⟩)
  have E : Fr w [(nb 3, 2, Fq.num x), (b8_3, 2, Fq.num (a % p)), (b6_1, 2, Fq.num p), (b3, 2, Fq.num 0), (b2, 2, Fq.num p), (b1, 2, Fq.num a)] w11 := E11
  rw [lay_all hL]
  simp only [putAll, dstOf, List.length_cons, List.length_nil, Nat.zero_add, Nat.reduceAdd, List.getElem?_toArray, List.getElem?_cons_zero, List.getElem?_cons_succ, Option.bind_some, Act.put, List.setIfInBounds_toArray, List.set_cons_succ, List.set_cons_zero]
  rw [e3]
  generalize nb 3 = b11_3 at E ⊢
  generalize vs 0 = u11_0
  generalize vs 1 = u11_1
  generalize vs 2 = u11_2
  clear e3 hC hn E11 hL vs L nb
  clear hC hT hk
  have T3 : Hid (cmpI ((x * x) % p) (a % p) = 0) := cmpIq0.2 hq.out
  go_upto_region 10 with (fail)
  have B12 : Hid (ab ((x * x)) < pw 180) := ab_mulM hx.out hx.out (by omega)
  have B13 : Hid (ab (((x * x) % p)) < pw 90) := ab_modB HN.out hm.out
  refine region_fr (C := [Fq.is (cloV 72 b6_1), Fq.num x, Fq.num x, Fq.num (x * x), Fq.num ((x * x) % p), Fq.num (a % p), Fq.is (.int .i64 (cmpI ((x * x) % p) (a % p))), Fq.is (.bool false)]) (ks := [none, none, none, none, none, none]) (new := []) E rfl (by kernel_rfl) rfl rfl (fun hp => ⟨?_, ?_, ?_, ?_, ?_, ?_, ?_, ?_, trivial⟩) ?_
  · exact q_move hp (free_of rfl) trivial (sq_out rfl rfl (fun _ _ => rfl))
  · exact q_loadInt (off := 0) hp (free_of rfl) trivial (List.mem_iff_getElem?.2 ⟨0, rfl⟩) (.inl rfl) (Nat.le_of_ble_eq_true rfl) (sq_out rfl rfl (fun _ _ => rfl)) (fun us w hl h => ld_num hl h)
  · exact q_loadInt (off := 0) hp (free_of rfl) trivial (List.mem_iff_getElem?.2 ⟨0, rfl⟩) (.inl rfl) (Nat.le_of_ble_eq_true rfl) (sq_out rfl rfl (fun _ _ => rfl)) (fun us w hl h => ld_num hl h)
  · exact q_call2 (F := (Fq.num x).P) (G := (Fq.num x).P) hp (free_of rfl) trivial (enq_Mul) (sq_in 1 rfl rfl (by simp) rfl (fun v w h => h)) (sq_in 2 rfl rfl (by simp) rfl (fun v w h => h)) (fun v v' w h h' => exK (MulV h h') B12.out (by omega))
  · exact q_callCloOut (F := (Fq.num (x * x)).P) hp (free_of rfl) trivial enq_M_within1 (List.mem_iff_getElem?.2 ⟨2, rfl⟩) rfl (sq_in 0 rfl rfl (by simp) rfl (fun v w h => h)) (sq_in 3 rfl rfl (by simp) rfl (fun v w h => h)) (fun v w h hb => exResidue h hb HN.out (Int.lt_of_lt_of_le B12.out (pw_le (by omega))) (Int.lt_of_lt_of_le hm.out (pw_le (by omega))))
  · exact q_loadInt (off := 0) hp (free_of rfl) trivial (List.mem_iff_getElem?.2 ⟨1, rfl⟩) (.inl rfl) (Nat.le_of_ble_eq_true rfl) (sq_out rfl rfl (fun _ _ => rfl)) (fun us w hl h => ld_num hl h)
  · exact q_call2 (F := (Fq.num ((x * x) % p)).P) (G := (Fq.num (a % p)).P) hp (free_of rfl) trivial (enq_Cmp) (sq_in 4 rfl rfl (by simp) rfl (fun v w h => h)) (sq_in 5 rfl rfl (by simp) rfl (fun v w h => h)) (fun v v' w h h' => exCmp h h')
  · exact q_one (F := fun v _ => v = .int .i64 (cmpI ((x * x) % p) (a % p))) hp (free_of rfl) trivial (sq_in 6 rfl rfl (by simp) rfl (fun v w h => h)) (fun ρ w hc h => ⟨.bool false, by simp [execOp, go_sem, h, hc, T3.out], rfl⟩)
  intro L vs w14 nb hL hC hn E14
  have e0 : vs 0 = cloV 72 b6_1 := hC 0 (by simp)
  have e6 : vs 6 = .int .i64 (cmpI ((x * x) % p) (a % p)) := hC 6 (by simp)
  have e7 : vs 7 = .bool false := hC 7 (by simp)
  have E : Fr w [(b11_3, 2, Fq.num x), (b8_3, 2, Fq.num (a % p)), (b6_1, 2, Fq.num p), (b3, 2, Fq.num 0), (b2, 2, Fq.num p), (b1, 2, Fq.num a)] w14 := E14
  rw [lay_all hL]
  simp only [putAll, dstOf, List.length_cons, List.length_nil, Nat.zero_add, Nat.reduceAdd, List.getElem?_toArray, List.getElem?_cons_zero, List.getElem?_cons_succ, Option.bind_some, Act.put, List.setIfInBounds_toArray, List.set_cons_succ, List.set_cons_zero]
  rw [e0, e6, e7]
  generalize vs 1 = u14_1
  generalize vs 2 = u14_2
  generalize vs 3 = u14_3
  generalize vs 4 = u14_4
  generalize vs 5 = u14_5
  clear e0 e6 e7 hC hn E14 hL vs L nb
  clear T3 hq
  go_upto_region 12 with (fail)
  have B15 : Hid (ab ((p - x)) < pw 91) := ab_subB hm.out hx.out (by omega) (by omega)
  refine region_fr (C := [Fq.num p, Fq.num x, Fq.num (p - x), Fq.any, Fq.any]) (ks := [none, none, none, none, none, none]) (new := [⟨3, 4, 2, Fq.num 0, Fq.num (p - x), none⟩]) E rfl (by kernel_rfl) rfl rfl (fun hp => ⟨?_, ?_, ?_, ?_, ?_, trivial⟩) ?_
  · exact q_loadInt (off := 0) hp (free_of rfl) trivial (List.mem_iff_getElem?.2 ⟨4, rfl⟩) (.inl rfl) (Nat.le_of_ble_eq_true rfl) (sq_out rfl rfl (fun _ _ => rfl)) (fun us w hl h => ld_num hl h)
  · exact q_loadInt (off := 0) hp (free_of rfl) trivial (List.mem_iff_getElem?.2 ⟨0, rfl⟩) (.inl rfl) (Nat.le_of_ble_eq_true rfl) (sq_out rfl rfl (fun _ _ => rfl)) (fun us w hl h => ld_num hl h)
  · exact q_call2 (F := (Fq.num p).P) (G := (Fq.num x).P) hp (free_of rfl) trivial (enq_Sub) (sq_in 0 rfl rfl (by simp) rfl (fun v w h => h)) (sq_in 1 rfl rfl (by simp) rfl (fun v w h => h)) (fun v v' w h h' => exK (SubV h h') B15.out (by omega))
  · exact q_allocInt hp (List.mem_iff_getElem?.2 ⟨0, rfl⟩) rfl rfl rfl rfl (Nat.ne_of_beq_eq_false rfl) (fun _ _ => trivial) (old_ne rfl) (newk_ne rfl) (fun w => Num.zero w)
  · exact q_storeNewInt hp (List.mem_iff_getElem?.2 ⟨0, rfl⟩) rfl rfl rfl (own_ptr rfl rfl (by simp) rfl) (sq_in 2 rfl rfl (by simp) rfl (fun v w h => intV_num h)) (fun _ _ => trivial) (old_ne rfl) (newi_ne rfl)
  intro L vs w16 nb hL hC hn E16
  have e3 : vs 3 = .pointer (some ⟨nb 3, 0, none⟩) := hn _ (List.mem_iff_getElem?.2 ⟨0, rfl⟩)
  have E : Fr w [(nb 3, 2, Fq.num (p - x)), (b11_3, 2, Fq.num x), (b8_3, 2, Fq.num (a % p)), (b6_1, 2, Fq.num p), (b3, 2, Fq.num 0), (b2, 2, Fq.num p), (b1, 2, Fq.num a)] w16 := E16
  rw [lay_all hL]
  simp only [putAll, dstOf, List.length_cons, List.length_nil, Nat.zero_add, Nat.reduceAdd, List.getElem?_toArray, List.getElem?_cons_zero, List.getElem?_cons_succ, Option.bind_some, Act.put, List.setIfInBounds_toArray, List.set_cons_succ, List.set_cons_zero]
  rw [e3]
  generalize nb 3 = b16_3 at E ⊢
  generalize vs 0 = u16_0
  generalize vs 1 = u16_1
  generalize vs 2 = u16_2
  clear e3 hC hn E16 hL vs L nb
  have T4 : Hid (cmpI (p - x) x < 0) := cmpIqlt.2 hl.out
  clear hl
  go_upto_region 13 with (fail)
  refine region_fr (C := [Fq.num (p - x), Fq.num x, Fq.is (.int .i64 (cmpI (p - x) x)), Fq.is (.bool true)]) (ks := [none, none, none, none, none, none, none]) (new := []) E rfl (by kernel_rfl) rfl rfl (fun hp => ⟨?_, ?_, ?_, ?_, trivial⟩) ?_
  · exact q_loadInt (off := 0) hp (free_of rfl) trivial (List.mem_iff_getElem?.2 ⟨0, rfl⟩) (.inl rfl) (Nat.le_of_ble_eq_true rfl) (sq_out rfl rfl (fun _ _ => rfl)) (fun us w hl h => ld_num hl h)
  · exact q_loadInt (off := 0) hp (free_of rfl) trivial (List.mem_iff_getElem?.2 ⟨1, rfl⟩) (.inl rfl) (Nat.le_of_ble_eq_true rfl) (sq_out rfl rfl (fun _ _ => rfl)) (fun us w hl h => ld_num hl h)
  · exact q_call2 (F := (Fq.num (p - x)).P) (G := (Fq.num x).P) hp (free_of rfl) trivial (enq_Cmp) (sq_in 0 rfl rfl (by simp) rfl (fun v w h => h)) (sq_in 1 rfl rfl (by simp) rfl (fun v w h => h)) (fun v v' w h h' => exCmp h h')
  · exact q_one (F := fun v _ => v = .int .i64 (cmpI (p - x) x)) hp (free_of rfl) trivial (sq_in 2 rfl rfl (by simp) rfl (fun v w h => h)) (fun ρ w hc h => ⟨.bool true, by simp [execOp, go_sem, h, hc, T4.out], rfl⟩)
  intro L vs w17 nb hL hC hn E17
  have e2 : vs 2 = .int .i64 (cmpI (p - x) x) := hC 2 (by simp)
  have e3 : vs 3 = .bool true := hC 3 (by simp)
  have E : Fr w [(b16_3, 2, Fq.num (p - x)), (b11_3, 2, Fq.num x), (b8_3, 2, Fq.num (a % p)), (b6_1, 2, Fq.num p), (b3, 2, Fq.num 0), (b2, 2, Fq.num p), (b1, 2, Fq.num a)] w17 := E17
  rw [lay_all hL]
  simp only [putAll, dstOf, List.length_cons, List.length_nil, Nat.zero_add, Nat.reduceAdd, List.getElem?_toArray, List.getElem?_cons_zero, List.getElem?_cons_succ, Option.bind_some, Act.put, List.setIfInBounds_toArray, List.set_cons_succ, List.set_cons_zero]
  rw [e2, e3]
  generalize vs 0 = u17_0
  generalize vs 1 = u17_1
  clear e2 e3 hC hn E17 hL vs L nb
  clear T4
  go_upto_region 14 with (fail)
  refine region_fr (C := [Fq.num (p - x), Fq.any, Fq.is (.int .i64 0)]) (ks := [none, none, none, none, some (1, Fq.num (p - x)), none, none]) (new := []) E rfl (by kernel_rfl) rfl rfl (fun hp => ⟨?_, ?_, ?_, trivial⟩) ?_
  · exact q_loadInt (off := 0) hp (free_of rfl) trivial (List.mem_iff_getElem?.2 ⟨0, rfl⟩) (.inl rfl) (Nat.le_of_ble_eq_true rfl) (sq_out rfl rfl (fun _ _ => rfl)) (fun us w hl h => ld_num hl h)
  · exact q_storeOldInt hp (List.mem_iff_getElem?.2 ⟨4, rfl⟩) rfl rfl (sq_out rfl rfl (fun _ _ => rfl)) (sq_in 0 rfl rfl (by simp) rfl (fun v w h => intV_num h)) (fun _ _ => trivial) (newik_ne rfl)
  · exact q_assign hp (free_of rfl) trivial (sq_const (fun _ => rfl))
  intro L vs w18 nb hL hC hn E18
  have e2 : vs 2 = .int .i64 0 := hC 2 (by simp)
  have E : Fr w [(b16_3, 2, Fq.num (p - x)), (b11_3, 2, Fq.num x), (b8_3, 2, Fq.num (a % p)), (b6_1, 2, Fq.num p), (b3, 2, Fq.num (p - x)), (b2, 2, Fq.num p), (b1, 2, Fq.num a)] w18 := E18
  rw [lay_all hL]
  simp only [putAll, dstOf, List.length_cons, List.length_nil, Nat.zero_add, Nat.reduceAdd, List.getElem?_toArray, List.getElem?_cons_zero, List.getElem?_cons_succ, Option.bind_some, Act.put, List.setIfInBounds_toArray, List.set_cons_succ, List.set_cons_zero]
  rw [e2]
  generalize vs 0 = u18_0
  clear e2 hC hn E18 hL vs L nb
  clear HN
  obtain ⟨p0, p1, c0, c1, hP⟩ := box_num (E.box 4 rfl)
  clear B4 B7 B12 B13 B15 ha hm
  go_wp2
  refine bodyPost_ret (v := .tuple #[.agg #[p0, p1], .int .i64 0]) ?_ rfl ⟨_, rfl, E.below, ⟨_, _, rfl, hP, rfl⟩⟩
  simp [results, Tryd.results56, go_sem, c0, c1]

end Go.Proofs.YtieobgadihcgeaaDoor

/- Walks: small powers. -/
namespace Go.Proofs.YtieobgadihcgeaaDoor
open Go Go.RowKit

theorem pow_pos_two {p : Int} (hp : 2 ≤ p) (j : Nat) : 0 < p ^ j := Int.pow_pos (by omega)
theorem pow_mono_two {p : Int} (hp : 2 ≤ p) {i j : Nat} (h : i ≤ j) : p ^ i ≤ p ^ j := by
  obtain ⟨d, rfl⟩ : ∃ d, j = i + d := ⟨j - i, by omega⟩
  rw [Int.pow_add]
  have h1 := pow_pos_two hp i
  have h2 := pow_pos_two hp d
  have := Int.mul_le_mul_of_nonneg_left (show 1 ≤ p ^ d by omega) (show 0 ≤ p ^ i by omega)
  rw [Int.mul_one] at this
  exact this
theorem rest_range {p : Int} (hp : 2 ≤ p) (j : Nat) : 0 ≤ 1048576 / p ^ j ∧ 1048576 / p ^ j ≤ 1048576 := by
  have h := pow_pos_two hp j
  refine ⟨Int.ediv_nonneg (by omega) (by omega), ?_⟩
  exact Int.ediv_le_self _ (by omega)
theorem rest_step {p : Int} (hp : 2 ≤ p) (j : Nat) : 1048576 / p ^ j / p = 1048576 / p ^ (j + 1) := by
  rw [Int.pow_succ]
  exact Int.ediv_ediv_of_nonneg (Int.le_of_lt (pow_pos_two hp j))
theorem rest_pos {p : Int} (hp : 2 ≤ p) (j : Nat) : 0 < 1048576 / p ^ j ↔ p ^ j ≤ 1048576 := by
  have h := pow_pos_two hp j
  constructor
  · intro h1
    have := (Int.le_ediv_iff_mul_le h).1 (show 1 ≤ 1048576 / p ^ j by omega)
    omega
  · intro h1
    have := (Int.le_ediv_iff_mul_le (a := 1) (b := 1048576) h).2 (by omega)
    omega
set_option maxRecDepth 20000 in
theorem smallPower_any (w : World) {p k : Int} (hp0 : 2 ≤ p) (hp1 : p < 9223372036854775808) (hk0 : 1 ≤ k) (hk1 : k < 9223372036854775808) :
    Calls Tryd.prog 59 #[.int .i64 p, .int .i64 k] w fun e w' => e = .returned (.bool (decide (p ^ k.toNat ≤ 1048576))) ∧ w' = w := by
  have HP := hidd (show 2 ≤ p ∧ p < 9223372036854775808 from ⟨hp0, hp1⟩)
  have HK := hidd (show 1 ≤ k ∧ k < 9223372036854775808 from ⟨hk0, hk1⟩)
  clear hp0 hp1 hk0 hk1
  go_enter Tryd.func59, Tryd.ntmps59
  go_wp2
  go_loopw [1, 5] (fun vk vr wr => ∃ (j : Nat), vk = .int .i64 (k - j) ∧ vr = .int .i64 (1048576 / p ^ j) ∧ wr = w ∧ j ≤ k.toNat) (fun vk _ _ => (intOf vk).toNat)
  case atStart => exact ⟨0, by simp, by simp, rfl, Nat.zero_le _⟩
  case round =>
    obtain ⟨j, rfl, rfl, rfl, hj⟩ := hrel
    have hr := rest_range HP.out.1 j
    have hs := rest_step HP.out.1 j
    have hrp := rest_pos HP.out.1 j
    obtain ⟨r, er⟩ : ∃ r, r = 1048576 / p ^ j := ⟨_, rfl⟩
    rw [← er] at hr hs hrp ⊢
    have HE := hidd er
    have HS := hidd hs
    have HQ := hidd hrp
    clear er hs hrp
    have hk := HK.out
    by_cases h1 : 0 < k - (j : Int)
    · by_cases h2 : 0 < r
      · have f1 : (0 < k - (j : Int)) = True := eq_true h1
        have f2 : (0 < r) = True := eq_true h2
        have f3 : ¬ p = 0 := by have := HP.out; omega
        have f4 : (p == 0) = false := by simpa using f3
        have f5 : r.tdiv p = r / p := Int.tdiv_eq_ediv_of_nonneg (by omega)
        have f6 : IntKind.i64.wrap (r / p) = r / p := by
          have h3 := Int.ediv_nonneg (a := r) (b := p) (by omega) (by have := HP.out; omega)
          have h4 := Int.ediv_le_self (b := p) (a := r) (by omega)
          exact IntWalk.i64_in _ (by omega)
        have f7 : IntKind.i64.wrap (k - (j : Int) - 1) = k - (j : Int) - 1 := IntWalk.i64_in _ (by omega)
        have HJ : Hid (j + 1 ≤ k.toNat) := by show _ ≤ _; omega
        have HM : Hid ((k - (j : Int) - 1).toNat < (k - (j : Int)).toNat) := by show _ < _; omega
        go_wp2
        go_roundw
        case rel => exact ⟨j + 1, by congr 1; omega, by rw [← HS.out], by trivial, HJ.out⟩
        case measure => simp only [intOf]; exact HM.out
      · have f1 : (0 < k - (j : Int)) = True := eq_true h1
        have f2 : (0 < r) = False := eq_false h2
        have HD : Hid (decide (p ^ k.toNat ≤ 1048576) = false) := by
          refine decide_eq_false fun h => h2 ?_
          exact HQ.out.2 (Int.le_trans (pow_mono_two HP.out.1 hj) h)
        go_wp2
        go_ret
        exact ⟨by rw [HD.out]; rfl, rfl⟩
    · have hjk : j = k.toNat := by omega
      have f1 : (0 < k - (j : Int)) = False := eq_false h1
      have HD : Hid (decide (0 < r) = decide (p ^ k.toNat ≤ 1048576)) := by
        rw [← hjk]; exact decide_eq_decide.2 HQ.out
      by_cases h2 : 0 < r
      · have f2 : (0 < r) = True := eq_true h2
        have HD2 : Hid (decide (p ^ k.toNat ≤ 1048576) = true) := by rw [← HD.out]; exact decide_eq_true h2
        go_wp2
        go_ret
        exact ⟨by rw [HD2.out]; rfl, rfl⟩
      · have f2 : (0 < r) = False := eq_false h2
        have HD2 : Hid (decide (p ^ k.toNat ≤ 1048576) = false) := by rw [← HD.out]; exact decide_eq_false h2
        go_wp2
        go_ret
        exact ⟨by rw [HD2.out]; rfl, rfl⟩
end Go.Proofs.YtieobgadihcgeaaDoor

/- Lists of small numbers; the list of roots as it is lifted. -/
namespace Go.Proofs.YtieobgadihcgeaaDoor
open Go Go.RowKit

theorem info_i64 : (Tryd.prog.info? 2).map (fun i => (i.zero, i.size, i.bytes)) = some (some (.int .i64 0), 1, 8) := by kernel_rfl
/-- Small numbers that a call has gathered in a row of its own. -/
def Li (W : World) (B : Nat) (v : Value) (xs : List Int) : Prop := W.ownsRow B 2 1 v xs.length (xs.map (Value.int .i64))
theorem Li.shape {W : World} {B : Nat} {v : Value} {xs : List Int} (h : Li W B v xs) : ∃ ao cap, v = .slice ao xs.length cap := by
  rcases h.2 with ⟨rfl, h0⟩ | ⟨g, cap, cur, rfl, _⟩
  · exact ⟨none, 0, by rw [h0]⟩
  · exact ⟨_, _, rfl⟩
theorem Li.nil (w : World) (B : Nat) : Li w B (.slice none 0 0) [] := World.ownsRow_nil w B _ _
theorem Li.one (w : World) {B : Nat} (hB : B ≤ w.heap.size) (x : Int) : Li (w.alloc (.cells #[.int .i64 x] 2)) B (.slice (some ⟨w.heap.size, 0, none⟩) 1 1) [x] :=
  ⟨rfl, .inr ⟨w.heap.size, 1, #[.int .i64 x], rfl, hB, heap_alloc_new _ _, Nat.le_refl _, by decide, rfl, rfl⟩⟩
theorem Li.low {W : World} {B B' : Nat} {v : Value} {xs : List Int} (h : Li W B v xs) (hb : B' ≤ B) : Li W B' v xs := by
  refine ⟨h.1, ?_⟩
  rcases h.2 with h2 | ⟨g, cap, cur, h1, h2, h3⟩
  · exact .inl h2
  · exact .inr ⟨g, cap, cur, h1, by omega, h3⟩
theorem Li.mono {w w' : World} {B : Nat} {v : Value} {xs : List Int} (h : Li w B v xs) (hb : Below w.heap.size w w') : Li w' B v xs := by
  refine ⟨h.1, ?_⟩
  rcases h.2 with h2 | ⟨g, cap, cur, h1, h2, h3, h4⟩
  · exact .inl h2
  · exact .inr ⟨g, cap, cur, h1, h2, by rw [hb.block g (Array.getElem?_eq_some_iff.1 h3).1]; exact h3, h4⟩
theorem Li.cell {w : World} {B : Nat} {ao : Option Addr} {n c : Nat} {xs : List Int} (h : Li w B (.slice ao n c) xs) {i : Nat} (hi : i < xs.length) : ∃ g, ao = some ⟨g, 0, none⟩ ∧ w.cell? ⟨g, i, none⟩ = some (.int .i64 (xs.getD i 0)) := by
  rcases h.2 with ⟨_, h0⟩ | ⟨g, cap, cur, e, _⟩
  · omega
  · injection e with e1 e2 e3
    subst e1
    have := World.ownsRow.cells h (g := g) rfl i (.int .i64 (xs.getD i 0)) (by simp [hi])
    rw [add_plain'] at this
    exact ⟨g, rfl, this⟩
theorem Li.step {B : Nat} {w wr w1 : World} {v v' : Value} {xs : List Int} {d : Int} {o : Obj} (h : Li wr B v xs) (hB : B ≤ wr.heap.size) (hnx : Below B w wr)
    (hown' : w1.ownsRow B 2 1 v' (xs.length + 1) (xs.map (Value.int .i64) ++ [.int .i64 d])) (hgrow : (wr.alloc o).grownBy w1 v.ownBlock) :
    Li w1 B v' (xs ++ [d]) ∧ Below B w w1 := by
  refine ⟨?_, ?_⟩
  · unfold Li; simpa using hown'
  · exact (hnx.alloc hB o).grown hgrow (by simp; omega) (fun j hj => (World.ownsRow.lt h j hj).1)

def keepR (r M x : Int) : Bool := decide (x * x % M = r)
def sweep (r M base : Int) (xs : List Int) : List Int := (xs.map fun x => base + x).filter (keepR r M)
def lift (r M m : Int) (xs : List Int) : Nat → List Int
  | 0 => []
  | t + 1 => lift r M m xs t ++ sweep r M (t * m) xs
def lifts (a p : Int) : Nat → List Int
  | 0 => [0]
  | k + 1 => lift (a % (p ^ k * p)) (p ^ k * p) (p ^ k) (lifts a p k) p.toNat
theorem sweep_succ {r M base : Int} {xs : List Int} {i : Nat} (hi : i < xs.length) : sweep r M base (xs.take (i + 1)) = sweep r M base (xs.take i) ++ (if keepR r M (base + xs.getD i 0) then [base + xs.getD i 0] else []) := by
  unfold sweep
  rw [List.take_succ_eq_append_getElem hi, List.map_append, List.filter_append]
  have e : xs.getD i 0 = xs[i] := by simp [hi]
  rw [e]
  simp [List.filter_cons]
theorem sweep_len (r M base : Int) (xs : List Int) : (sweep r M base xs).length ≤ xs.length := by
  unfold sweep
  refine Nat.le_trans (List.length_filter_le _ _) ?_
  simp
theorem lift_len (r M m : Int) (xs : List Int) : ∀ t : Nat, (lift r M m xs t).length ≤ t * xs.length
  | 0 => by simp [lift]
  | t + 1 => by
    have h1 := lift_len r M m xs t
    have h2 := sweep_len r M (t * m) xs
    simp only [lift, List.length_append]
    rw [Nat.succ_mul]
    omega
theorem lifts_len {a p : Int} (hp : 2 ≤ p) : ∀ k : Nat, ((lifts a p k).length : Int) ≤ p ^ k
  | 0 => by simp [lifts]
  | k + 1 => by
    have h1 := lifts_len (a := a) hp k
    have h2 := lift_len (a % (p ^ k * p)) (p ^ k * p) (p ^ k) (lifts a p k) p.toNat
    have h3 := Int.mul_le_mul_of_nonneg_left h1 (show 0 ≤ p by omega)
    have h4 : ((p.toNat * (lifts a p k).length : Nat) : Int) = p * ((lifts a p k).length : Int) := by rw [Int.natCast_mul]; congr 1; omega
    have e : p ^ (k + 1) = p * p ^ k := by rw [Int.pow_succ, Int.mul_comm]
    rw [e]
    simp only [lifts]
    omega
theorem sweep_mem {r M base x : Int} {xs : List Int} (h : x ∈ sweep r M base xs) : ∃ y ∈ xs, x = base + y := by
  unfold sweep at h
  obtain ⟨h1, _⟩ := List.mem_filter.1 h
  obtain ⟨y, hy, rfl⟩ := List.mem_map.1 h1
  exact ⟨y, hy, rfl⟩
theorem lift_range {r M m : Int} {xs : List Int} (hm : 0 ≤ m) (hx : ∀ x ∈ xs, 0 ≤ x ∧ x < m) : ∀ t : Nat, ∀ x ∈ lift r M m xs t, 0 ≤ x ∧ x < t * m
  | 0, x, h => by simp [lift] at h
  | t + 1, x, h => by
    simp only [lift] at h
    have e : ((t + 1 : Nat) : Int) * m = t * m + m := by rw [show ((t + 1 : Nat) : Int) = (t : Int) + 1 by omega, Int.add_mul, Int.one_mul]
    have hn : 0 ≤ (t : Int) * m := Int.mul_nonneg (by omega) hm
    rw [e]
    rcases List.mem_append.1 h with h | h
    · have := lift_range hm hx t x h
      omega
    · obtain ⟨y, hy, rfl⟩ := sweep_mem h
      have := hx y hy
      omega
theorem lifts_range {a p : Int} (hp : 2 ≤ p) : ∀ k : Nat, ∀ x ∈ lifts a p k, 0 ≤ x ∧ x < p ^ k
  | 0, x, h => by simp [lifts] at h; subst h; simp
  | k + 1, x, h => by
    simp only [lifts] at h
    have := lift_range (by have := pow_pos_two hp k; omega) (lifts_range hp k) p.toNat x h
    have e : p ^ (k + 1) = p * p ^ k := by rw [Int.pow_succ, Int.mul_comm]
    rw [e]
    rw [show ((p.toNat : Nat) : Int) = p by omega] at this
    exact this
end Go.Proofs.YtieobgadihcgeaaDoor

/- Walk: the list of roots as it is lifted. -/
namespace Go.Proofs.YtieobgadihcgeaaDoor
open Go Go.RowKit

theorem lift_bound {r M m B p : Int} {xs : List Int} {t i : Nat} (hl : (xs.length : Int) ≤ m) (hM : M = m * p) (h : M ≤ 1048576) (ht : t < p.toNat) : (lift r M m xs t ++ sweep r M B (xs.take i)).length ≤ 1048576 := by
  have h1 := lift_len r M m xs t
  have h2 := sweep_len r M B (xs.take i)
  have h3 : (xs.take i).length ≤ xs.length := by simp; omega
  have h4 : (t + 1) * xs.length ≤ p.toNat * xs.length := Nat.mul_le_mul_right _ (by omega)
  rw [Nat.succ_mul] at h4
  have h5 := Int.mul_le_mul_of_nonneg_left hl (show 0 ≤ p by omega)
  have h6 : ((p.toNat * xs.length : Nat) : Int) = p * (xs.length : Int) := by rw [Int.natCast_mul]; congr 1; omega
  rw [Int.mul_comm] at hM
  rw [List.length_append]
  omega
structure Bd90 (z : Int) : Prop where
  out : ab z < pw 90
structure Bd3 (z : Int) : Prop where
  out : ab z < pw 3
theorem tmod_pos {x M : Int} (hx : 0 ≤ x) : x.tmod M = x % M := Int.tmod_eq_emod_of_nonneg hx
theorem sq_small {x : Int} (h0 : 0 ≤ x) (h1 : x < 1048576) : 0 ≤ x * x ∧ x * x < 1099511627776 := by
  have h2 := Int.mul_le_mul (show x ≤ 1048575 by omega) (show x ≤ 1048575 by omega) h0 (by omega)
  exact ⟨Int.mul_nonneg h0 h0, by omega⟩
theorem wrapI {x : Int} (h0 : 0 ≤ x) (h1 : x < 1099511627776) : IntKind.i64.wrap x = x := IntWalk.i64_in _ (by omega)
theorem small_ab {m M : Int} (h0 : 0 < m) (h1 : m < M) (h2 : M ≤ 1048576) : ab M < pw 3 := by
  have h3 : pw 1 ≤ pw 3 := pw_le (by omega)
  have h4 : pw 1 = 4294967296 := by decide
  unfold ab
  omega
theorem getD_mem {xs : List Int} {i : Nat} (h : i < xs.length) : xs.getD i 0 ∈ xs := by
  rw [List.getD_eq_getElem?_getD, List.getElem?_eq_getElem h]
  exact List.getElem_mem h
/-- What a round knows: the power so far, the next power, a residue modulo it. -/
structure LiftRound (a p m M : Int) (j : Nat) : Prop where
  hm : m = p ^ j
  hM : M = m * p
  m0 : 0 < m
  mM : m < M
  M1 : M ≤ 1048576
theorem liftRound {a p k : Int} (hp : 2 ≤ p) (hpk : p ^ k.toNat ≤ 1048576) {j : Nat} (hj : j < k.toNat) : LiftRound a p (p ^ j) (p ^ j * p) j := by
  have h0 := pow_pos_two hp j
  have h1 : p ^ (j + 1) = p ^ j * p := Int.pow_succ _ _
  have h2 := pow_mono_two hp (show j + 1 ≤ k.toNat by omega)
  have h3 := Int.mul_le_mul_of_nonneg_left hp (show 0 ≤ p ^ j by omega)
  exact ⟨rfl, rfl, h0, by omega, by omega⟩
theorem LiftRound.tm {a p m M : Int} {j : Nat} (h : LiftRound a p m M j) (hp : 2 ≤ p) {t : Nat} : (t : Int) * m < M ↔ t < p.toNat := by
  rw [h.hM, Int.mul_comm]
  constructor
  · intro h1
    have := Int.lt_of_mul_lt_mul_left h1 (Int.le_of_lt h.m0)
    omega
  · intro h1
    exact Int.mul_lt_mul_of_pos_left (show (t : Int) < p by omega) h.m0
theorem LiftRound.tm2 {a p m M : Int} {j : Nat} (h : LiftRound a p m M j) (hp : 2 ≤ p) {t : Nat} (ht : t < p.toNat) : 0 ≤ (t : Int) * m ∧ (t : Int) * m + m ≤ M ∧ (((t + 1 : Nat) : Int) * m = t * m + m) := by
  have e : ((t + 1 : Nat) : Int) * m = t * m + m := by rw [show ((t + 1 : Nat) : Int) = (t : Int) + 1 by omega, Int.add_mul, Int.one_mul]
  refine ⟨Int.mul_nonneg (by omega) (Int.le_of_lt h.m0), ?_, e⟩
  rw [← e, h.hM, Int.mul_comm]
  exact Int.mul_le_mul_of_nonneg_left (show ((t + 1 : Nat) : Int) ≤ p by omega) (Int.le_of_lt h.m0)
set_option maxRecDepth 100000 in
set_option maxHeartbeats 4000000 in
theorem liftedRoots_any {w : World} {v : Value} {a p k : Int} (h : Num w v a) (ha : ab a < pw 90) (hp : 2 ≤ p) (hk : 1 ≤ k ∧ k < 9223372036854775808) (hpk : p ^ k.toNat ≤ 1048576) :
    Calls Tryd.prog 60 #[v, .int .i64 p, .int .i64 k] w fun e w' => ∃ v', e = .returned v' ∧ Below w.heap.size w w' ∧ Li w' w.heap.size v' (lifts a p k.toNat) := by
  replace ha := Bd90.mk ha
  have HP := hidd (show 2 ≤ p ∧ p < 1048577 from ⟨hp, by have := pow_mono_two hp (show 1 ≤ k.toNat by omega); rw [Int.pow_succ, Int.pow_zero, Int.one_mul] at this; omega⟩)
  have HK := hidd hk
  have HPK := hidd hpk
  have HLR := hidd (fun j (hj : j < k.toNat) => liftRound (a := a) hp hpk hj)
  have HLL := hidd (fun j => lifts_len (a := a) hp j)
  have HLG := hidd (fun j => lifts_range (a := a) hp j)
  clear hp hk hpk
  obtain ⟨i0, hi, hz0, hz1, hz2⟩ := info_parts info_i64
  obtain ⟨n0, ao0, k0, c0, rfl⟩ := h.parts
  obtain ⟨w1, b1, hw1, hb1, hs1, E⟩ := fr_start w (F := Fq.num a) (us := [.bool n0, .slice ao0 k0 c0]) 29 rfl (by simp) (tame_int _ _ _ _) h
  go_enter Tryd.func60, Tryd.ntmps60
  go_upto_region 1 with (fail)
  rw [← hw1]
  rw [← hb1]
  clear hw1 hb1 hs1
  have HB1 : Hid (Bq w1 b1 2 (Fq.num a)) := E.box 0 rfl
  have HEB := hidd E.below
  have hs1 := E.below.size
  obtain ⟨W2, hW2⟩ : ∃ W2, W2 = w1.alloc (.cells #[.int .i64 0] 2) := ⟨_, rfl⟩
  have HB2 : Hid (Bq W2 b1 2 (Fq.num a)) := by show Bq _ _ _ _; rw [hW2]; exact HB1.out.mono (alloc_below _ _)
  have HE2 : Hid (Below w.heap.size w W2) := by show Below _ _ _; rw [hW2]; exact HEB.out.alloc hs1 _
  have HL2 : Hid (Li W2 w.heap.size (.slice (some ⟨w1.heap.size, 0, none⟩) 1 1) [0]) := by show Li _ _ _ _; rw [hW2]; exact Li.one _ hs1 0
  clear E HB1 HEB
  go_wp2
  rw [← hW2]
  generalize w1.heap.size = g2 at HL2 ⊢
  clear hW2 hs1
  go_loopw [2, 7, 8] (fun vk vr vm W => ∃ j : Nat, vk = .int .i64 (k - j) ∧ vm = .int .i64 (p ^ j) ∧ j ≤ k.toNat ∧ Li W w.heap.size vr (lifts a p j) ∧ Below w.heap.size w W ∧ Bq W b1 2 (Fq.num a)) (fun vk _ _ _ => (intOf vk).toNat)
  case atStart => exact ⟨0, by simp, by simp, Nat.zero_le _, HL2.out, HE2.out, HB2.out⟩
  case round =>
    obtain ⟨V0, rfl⟩ : ∃ V0, V0 = wr := ⟨_, rfl⟩
    obtain ⟨j, rfl, rfl, hj, HR, HB, HO⟩ := hrel
    clear HB2 HE2 HL2
    have hk := HK.out
    by_cases hjk : j < k.toNat
    · have f1 : ((j : Int) < k) = True := eq_true (by omega)
      obtain ⟨ao, cap, rfl⟩ := HR.shape
      have HLL2 := hidd (HLL.out j)
      have HLG2 := hidd (HLG.out j)
      have LR := hidd (HLR.out j hjk)
      have hlf : Hid (lift (a % (p ^ j * p)) (p ^ j * p) (p ^ j) (lifts a p j) p.toNat = lifts a p (j + 1)) := rfl
      have hpj : p ^ (j + 1) = p ^ j * p := Int.pow_succ _ _
      have HPJ := hidd hpj
      clear hpj
      obtain ⟨m, hm⟩ : ∃ m, m = p ^ j := ⟨_, rfl⟩
      rw [← hm] at HLL2 HLG2 LR hlf HPJ ⊢
      obtain ⟨M, hM⟩ : ∃ M, M = m * p := ⟨_, rfl⟩
      rw [← hM] at LR hlf HPJ
      obtain ⟨xs, hxs⟩ : ∃ xs, xs = lifts a p j := ⟨_, rfl⟩
      rw [← hxs] at HR HLL2 HLG2 hlf ⊢
      have HMS := hidd (show 0 < m ∧ m < M ∧ M ≤ 1048576 from ⟨LR.out.m0, LR.out.mM, LR.out.M1⟩)
      have HMM : Hid (IntKind.i64.wrap (m * p) = M) := by show _ = _; rw [← hM]; have := HMS.out; exact wrapI (by omega) (by omega)
      have HM0 : Hid (M ≠ 0) := by have := HMS.out; show _ ≠ _; omega
      have BM := Bd3.mk (small_ab HMS.out.1 HMS.out.2.1 HMS.out.2.2)
      have HR0 : Hid (0 ≤ a % M ∧ a % M < M) := by have := HMS.out; exact ⟨Int.emod_nonneg _ (by omega), Int.emod_lt_of_pos _ (by omega)⟩
      have HLW : Hid (lowV (a % M) = .tuple #[.int .i64 (a % M), .bool true]) := by have := HMS.out; have h2 := HR0.out; exact lowV_in (by omega) (by omega)
      have HMR : Hid (0 < M ∧ M ≤ 1048576) := by have := HMS.out; show _ ∧ _; omega
      have HJ := hidd hjk
      have Hm := hidd hm
      have HM := hidd hM
      have HXS := hidd hxs
      have HROOT := hidd HR
      have HBB := hidd HB
      have HOO := hidd HO
      clear hm hM hxs hjk hk HB HR
      have ho := HO
      clear HO
      have E := Fr.start V0
      go_upto_region 4 with (fail)
      have B2 : Hid (ab ((a % M)) < pw 3) := ab_modB HM0.out BM.out
      refine region_fr (C := [Fq.is (.int .i64 m), Fq.is (.int .i64 p), Fq.is (.int .i64 M), Fq.num M, Fq.any, Fq.num a, Fq.num (a % M), Fq.tup2 (Fq.is (.int .i64 (a % M))) (Fq.is (.bool true)), Fq.tup2 (Fq.is (.int .i64 (a % M))) (Fq.is (.bool true)), Fq.is (.int .i64 (a % M)), Fq.is (.bool true), Fq.is (.int .i64 (a % M)), Fq.is (.bool true)]) (ks := []) (new := [⟨4, 4, 2, Fq.num M, Fq.num M, (some (.clo 72))⟩]) E rfl (by kernel_rfl) rfl rfl (fun hp => ⟨?_, ?_, ?_, ?_, ?_, ?_, ?_, ?_, ?_, ?_, ?_, ?_, ?_, trivial⟩) ?_
      · exact q_move hp (free_of rfl) trivial (sq_out rfl rfl (fun _ _ => rfl))
      · exact q_move hp (free_of rfl) trivial (sq_out rfl rfl (fun _ _ => rfl))
      · exact q_two (F := fun v _ => v = .int .i64 m) (G := fun v _ => v = .int .i64 p) hp (free_of rfl) trivial (sq_in 0 rfl rfl (by simp) rfl (fun v w h => h)) (sq_in 1 rfl rfl (by simp) rfl (fun v w h => h)) (fun ρ w hc h h' => ⟨.int .i64 M, by simp [execOp, go_sem, h, h', HMM.out], rfl⟩)
      · exact q_call1 (F := (Fq.is (.int .i64 M)).P) hp (free_of rfl) trivial (enq_Of) (sq_in 2 rfl rfl (by simp) rfl (fun v w h => h)) (fun v w h => by subst h; exact OfK w M (by have := HMR.out; omega) (by have := HMR.out; omega))
      · exact q_callMake (F := (Fq.num M).P) hp enq_M_within (List.mem_iff_getElem?.2 ⟨0, rfl⟩) rfl rfl rfl (sq_in 3 rfl rfl (by simp) rfl (fun v w h => h)) (fun v w h => exWithin h) (fun _ _ => trivial) (old_ne rfl) (newks_ne rfl)
      · exact q_loadIntOut hp (free_of rfl) trivial ho rfl (sq_out rfl rfl (fun _ _ => rfl)) (fun v w h => h)
      · exact q_callCloIn (F := (Fq.num a).P) hp (free_of rfl) trivial enq_M_within1 (List.mem_iff_getElem?.2 ⟨0, rfl⟩) rfl (own_ptr rfl rfl (by simp) rfl) (sq_in 5 rfl rfl (by simp) rfl (fun v w h => h)) (fun v b w h hb => exResidue h hb HM0.out (Int.lt_of_lt_of_le ha.out (pw_le (by omega))) (Int.lt_of_lt_of_le BM.out (pw_le (by omega))))
      · exact q_call1 (F := (Fq.num (a % M)).P) hp (free_of rfl) trivial (enq_Low) (sq_in 6 rfl rfl (by simp) rfl (fun v w h => h)) (fun v w h => exLowQ h HLW.out)
      · exact q_move hp (free_of rfl) trivial (sq_in 7 rfl rfl (by simp) rfl (fun v w h => h))
      · exact q_extract2 hp (free_of rfl) trivial (sq_in 8 rfl rfl (by simp) rfl (fun v w h => h)) (fun v1 v2 w h1 h2 => ⟨_, rfl, h1⟩)
      · exact q_extract2 hp (free_of rfl) trivial (sq_in 8 rfl rfl (by simp) rfl (fun v w h => h)) (fun v1 v2 w h1 h2 => ⟨_, rfl, h2⟩)
      · exact q_assign hp (free_of rfl) trivial (sq_in 9 rfl rfl (by simp) rfl (fun v w h => h))
      · exact q_assign hp (free_of rfl) trivial (sq_in 10 rfl rfl (by simp) rfl (fun v w h => h))
      intro L vs w3 nb hL hC hn E3
      have e0 : vs 0 = .int .i64 m := hC 0 (by simp)
      have e1 : vs 1 = .int .i64 p := hC 1 (by simp)
      have e2 : vs 2 = .int .i64 M := hC 2 (by simp)
      have e9 : vs 9 = .int .i64 (a % M) := hC 9 (by simp)
      have e10 : vs 10 = .bool true := hC 10 (by simp)
      have e11 : vs 11 = .int .i64 (a % M) := hC 11 (by simp)
      have e12 : vs 12 = .bool true := hC 12 (by simp)
      have e4 : vs 4 = cloV 72 (nb 4) := hn _ (List.mem_iff_getElem?.2 ⟨0, rfl⟩)
      have E : Fr V0 [(nb 4, 2, Fq.num M)] w3 := E3
      rw [lay_all hL]
      simp only [putAll, dstOf, List.length_cons, List.length_nil, Nat.zero_add, Nat.reduceAdd, List.getElem?_toArray, List.getElem?_cons_zero, List.getElem?_cons_succ, Option.bind_some, Act.put, List.setIfInBounds_toArray, List.set_cons_succ, List.set_cons_zero]
      rw [e0, e1, e2, e9, e10, e11, e12, e4]
      generalize nb 4 = b3_4 at E ⊢
      generalize vs 3 = u3_3
      generalize vs 5 = u3_5
      generalize vs 6 = u3_6
      generalize vs 7 = u3_7
      generalize vs 8 = u3_8
      clear e0 e1 e2 e9 e10 e11 e12 e4 hC hn E3 hL vs L nb
      have HE4 := hidd E.below
      clear E ho
      have hp0 := HP.out
      go_wp2
      go_loopw [11, 12] (fun vl vb W => ∃ t : Nat, vb = .int .i64 (t * m) ∧ t ≤ p.toNat ∧ Li W V0.heap.size vl (lift (a % M) M m xs t) ∧ Below V0.heap.size V0 W) (fun _ vb _ => (M - intOf vb).toNat)
      case atStart => exact ⟨0, by simp, Nat.zero_le _, Li.nil _ _, HE4.out⟩
      case round =>
        obtain ⟨V1, rfl⟩ : ∃ V1, V1 = wr := ⟨_, rfl⟩
        obtain ⟨t, rfl, ht, HL, HB⟩ := hrel
        have HTM := hidd (LR.out.tm HP.out.1 (t := t))
        have g0 := HMM.out
        by_cases hlt : t < p.toNat
        · have hq := LR.out.tm2 HP.out.1 hlt
          have f2 : ((t : Int) * m < M) = True := eq_true (HTM.out.2 hlt)
          obtain ⟨B, hB⟩ : ∃ B, B = (t : Int) * m := ⟨_, rfl⟩
          rw [← hB] at hq f2 ⊢
          have HQ := hidd hq
          have HBE := hidd hB
          have HLEN := hidd (fun i => lift_bound (r := a % M) (B := B) (i := i) HLL2.out HM.out HMS.out.2.2 hlt)
          have hHL := hidd HL
          have hHB := hidd HB
          have HLT := hidd hlt
          clear hq hB HL HB HTM hlt ht hp0
          go_wp2
          go_loopw [11, 42] (fun vl vi W => ∃ i : Nat, vi = .int .i64 i ∧ i ≤ xs.length ∧ Li W V0.heap.size vl (lift (a % M) M m xs t ++ sweep (a % M) M B (xs.take i)) ∧ Below V0.heap.size V0 W) (fun _ vi _ => xs.length - (intOf vi).toNat)
          case atStart => exact ⟨0, rfl, Nat.zero_le _, by simpa [sweep] using hHL.out, hHB.out⟩
          case round =>
            obtain ⟨V2, rfl⟩ : ∃ V2, V2 = wr := ⟨_, rfl⟩
            obtain ⟨i, rfl, hix, HL2, HB2⟩ := hrel
            by_cases hil : i < xs.length
            · obtain ⟨ad, hao, hc⟩ := (HROOT.out.mono HB2).cell hil
              subst hao
              have hxr := HLG2.out _ (getD_mem hil)
              have HSW := hidd (sweep_succ (r := a % M) (M := M) (base := B) hil)
              obtain ⟨x, hx⟩ : ∃ x, x = xs.getD i 0 := ⟨_, rfl⟩
              rw [← hx] at hc hxr HSW
              obtain ⟨y, hy⟩ : ∃ y, y = B + x := ⟨_, rfl⟩
              rw [← hy] at HSW
              have hy1 : 0 ≤ y ∧ y < 1048576 := by have h1 := HQ.out; have h2 := HMS.out; omega
              have hsq := sq_small hy1.1 hy1.2
              have g1 : IntKind.i64.wrap (B + x) = y := by rw [← hy]; exact wrapI hy1.1 (by omega)
              obtain ⟨q, hq⟩ : ∃ q, q = y * y := ⟨_, rfl⟩
              have g2' : IntKind.i64.wrap (y * y) = q := by rw [hq]; exact wrapI hsq.1 hsq.2
              rw [← hq] at hsq
              obtain ⟨z, hz⟩ : ∃ z, z = q % M := ⟨_, rfl⟩
              have g3 : q.tmod M = z := by rw [hz]; exact tmod_pos hsq.1
              have g4 : IntKind.i64.wrap z = z := by
                have h1 := HMS.out
                have h2 := Int.emod_nonneg q (show M ≠ 0 by omega)
                have h3 := Int.emod_lt_of_pos q (show 0 < M by omega)
                rw [hz]; exact wrapI h2 (by omega)
              have g5 : ¬ M = 0 := HM0.out
              have g6 : (M == 0) = false := by simpa using g5
              have g9 : IntKind.i64.wrap ((i : Int) + 1) = (i : Int) + 1 := by have h1 := HLL2.out; have h2 := HMS.out; exact wrapI (by omega) (by omega)
              have hsz := HB2.size
              have hly := HLEN.out i
              have HKP : Hid (keepR (a % M) M y = decide (z = a % M)) := by show _ = _; unfold keepR; rw [← hq, ← hz]
              obtain ⟨ys, hys⟩ : ∃ ys, ys = lift (a % M) M m xs t ++ sweep (a % M) M B (xs.take i) := ⟨_, rfl⟩
              rw [← hys] at HL2 hly
              obtain ⟨ao2, cap2, rfl⟩ := HL2.shape
              have HYS := hidd hys
              have HY := hidd hy
              have HL2H := hidd HL2
              have HB2H := hidd HB2
              have HO : V2.ownsRow V0.heap.size 2 1 (.slice ao2 ys.length cap2) ys.length (ys.map (Value.int .i64)) := HL2
              clear hx hq hz hy hxr hy1 hsq hys HL2 HB2
              by_cases hkeep : z = a % M
              · have g7 : (z = a % M) = True := eq_true hkeep
                have HSW2 : Hid (ys ++ [y] = lift (a % M) M m xs t ++ sweep (a % M) M B (xs.take (i + 1))) := by
                  show _ = _
                  rw [HSW.out, if_pos (by rw [HKP.out]; exact decide_eq_true hkeep), HYS.out, List.append_assoc]
                clear hkeep HKP HSW HO
                have E := Fr.start V2
                go_upto_region 13 with (fail)
                refine region_fr (C := [Fq.is (.int .i64 y), Fq.is (.int .i64 y), Fq.is (.int .i64 q), Fq.is (.int .i64 m), Fq.is (.int .i64 p), Fq.is (.int .i64 M), Fq.is (.int .i64 z), Fq.is (.int .i64 (a % M)), Fq.is (.bool true)]) (ks := []) (new := []) E rfl (by kernel_rfl) rfl rfl (fun hp => ⟨?_, ?_, ?_, ?_, ?_, ?_, ?_, ?_, ?_, trivial⟩) ?_
                · exact q_move hp (free_of rfl) trivial (sq_out rfl rfl (fun _ _ => rfl))
                · exact q_move hp (free_of rfl) trivial (sq_out rfl rfl (fun _ _ => rfl))
                · exact q_two (F := fun v _ => v = .int .i64 y) (G := fun v _ => v = .int .i64 y) hp (free_of rfl) trivial (sq_in 0 rfl rfl (by simp) rfl (fun v w h => h)) (sq_in 1 rfl rfl (by simp) rfl (fun v w h => h)) (fun ρ w hc h h' => ⟨.int .i64 q, by simp [execOp, go_sem, h, h', g2'], rfl⟩)
                · exact q_move hp (free_of rfl) trivial (sq_out rfl rfl (fun _ _ => rfl))
                · exact q_move hp (free_of rfl) trivial (sq_out rfl rfl (fun _ _ => rfl))
                · exact q_two (F := fun v _ => v = .int .i64 m) (G := fun v _ => v = .int .i64 p) hp (free_of rfl) trivial (sq_in 3 rfl rfl (by simp) rfl (fun v w h => h)) (sq_in 4 rfl rfl (by simp) rfl (fun v w h => h)) (fun ρ w hc h h' => ⟨.int .i64 M, by simp [execOp, go_sem, h, h', g0], rfl⟩)
                · exact q_two (F := fun v _ => v = .int .i64 q) (G := fun v _ => v = .int .i64 M) hp (free_of rfl) trivial (sq_in 2 rfl rfl (by simp) rfl (fun v w h => h)) (sq_in 5 rfl rfl (by simp) rfl (fun v w h => h)) (fun ρ w hc h h' => ⟨.int .i64 z, by simp [execOp, go_sem, h, h', g3, g5], rfl⟩)
                · exact q_move hp (free_of rfl) trivial (sq_out rfl rfl (fun _ _ => rfl))
                · exact q_two (F := fun v _ => v = .int .i64 z) (G := fun v _ => v = .int .i64 (a % M)) hp (free_of rfl) trivial (sq_in 6 rfl rfl (by simp) rfl (fun v w h => h)) (sq_in 7 rfl rfl (by simp) rfl (fun v w h => h)) (fun ρ w hc h h' => ⟨.bool true, by simp [execOp, go_sem, h, h', g7], rfl⟩)
                intro L vs w4 nb hL hC hn E4
                have e0 : vs 0 = .int .i64 y := hC 0 (by simp)
                have e1 : vs 1 = .int .i64 y := hC 1 (by simp)
                have e2 : vs 2 = .int .i64 q := hC 2 (by simp)
                have e3 : vs 3 = .int .i64 m := hC 3 (by simp)
                have e4 : vs 4 = .int .i64 p := hC 4 (by simp)
                have e5 : vs 5 = .int .i64 M := hC 5 (by simp)
                have e6 : vs 6 = .int .i64 z := hC 6 (by simp)
                have e7 : vs 7 = .int .i64 (a % M) := hC 7 (by simp)
                have e8 : vs 8 = .bool true := hC 8 (by simp)
                have E : Fr V2 [] w4 := E4
                rw [lay_all hL]
                simp only [putAll, dstOf, List.length_cons, List.length_nil, Nat.zero_add, Nat.reduceAdd, List.getElem?_toArray, List.getElem?_cons_zero, List.getElem?_cons_succ, Option.bind_some, Act.put, List.setIfInBounds_toArray, List.set_cons_succ, List.set_cons_zero]
                rw [e0, e1, e2, e3, e4, e5, e6, e7, e8]
                clear e0 e1 e2 e3 e4 e5 e6 e7 e8 hC hn E4 hL vs L nb
                have HL3 := HL2H.out.mono E.below
                have HB3 := HB2H.out.trans (E.below.mono hsz)
                have hsz3 := HB3.size
                have HO : w4.ownsRow V0.heap.size 2 1 (.slice ao2 ys.length cap2) ys.length (ys.map (Value.int .i64)) := HL3
                clear E hsz HB2H HL2H
                go_wp2_with (first | (at_builtin; refine wpList_append_own _ rfl _ _ 86 rfl V0.heap.size 2 i0 (.int .i64 0) 1 8 Tryd.underlying86 hi hz0 hz1 hz2 rfl (by decide) _ _ _ rfl (World.ownsRow.alloc HO _) ⟨_, 0, none⟩ 1 1 [.int .i64 y] rfl rfl (one_at _ _ _) (by intro u hu; simp at hu; subst hu; rfl) (by unfold maxLen; omega) (by omega) (by simp; omega) ?_; intro v' w5 hown' hgrow _) | go_in)
                obtain ⟨hO2, hB2⟩ := Li.step HL3 hsz3 HB3 hown' hgrow
                clear hown' hgrow HO
                go_wp2
                go_roundw
                case rel => exact ⟨i + 1, by go_num, by omega, by rw [← HSW2.out]; exact hO2, hB2⟩
                case measure => simp [intOf]; omega
              · have g7 : (z = a % M) = False := eq_false hkeep
                have HSW2 : Hid (ys = lift (a % M) M m xs t ++ sweep (a % M) M B (xs.take (i + 1))) := by
                  show _ = _
                  rw [HSW.out, if_neg (by rw [HKP.out]; simpa using hkeep), List.append_nil, HYS.out]
                clear hkeep HKP HSW HO
                have E := Fr.start V2
                go_upto_region 13 with (fail)
                refine region_fr (C := [Fq.is (.int .i64 y), Fq.is (.int .i64 y), Fq.is (.int .i64 q), Fq.is (.int .i64 m), Fq.is (.int .i64 p), Fq.is (.int .i64 M), Fq.is (.int .i64 z), Fq.is (.int .i64 (a % M)), Fq.is (.bool false)]) (ks := []) (new := []) E rfl (by kernel_rfl) rfl rfl (fun hp => ⟨?_, ?_, ?_, ?_, ?_, ?_, ?_, ?_, ?_, trivial⟩) ?_
                · exact q_move hp (free_of rfl) trivial (sq_out rfl rfl (fun _ _ => rfl))
                · exact q_move hp (free_of rfl) trivial (sq_out rfl rfl (fun _ _ => rfl))
                · exact q_two (F := fun v _ => v = .int .i64 y) (G := fun v _ => v = .int .i64 y) hp (free_of rfl) trivial (sq_in 0 rfl rfl (by simp) rfl (fun v w h => h)) (sq_in 1 rfl rfl (by simp) rfl (fun v w h => h)) (fun ρ w hc h h' => ⟨.int .i64 q, by simp [execOp, go_sem, h, h', g2'], rfl⟩)
                · exact q_move hp (free_of rfl) trivial (sq_out rfl rfl (fun _ _ => rfl))
                · exact q_move hp (free_of rfl) trivial (sq_out rfl rfl (fun _ _ => rfl))
                · exact q_two (F := fun v _ => v = .int .i64 m) (G := fun v _ => v = .int .i64 p) hp (free_of rfl) trivial (sq_in 3 rfl rfl (by simp) rfl (fun v w h => h)) (sq_in 4 rfl rfl (by simp) rfl (fun v w h => h)) (fun ρ w hc h h' => ⟨.int .i64 M, by simp [execOp, go_sem, h, h', g0], rfl⟩)
                · exact q_two (F := fun v _ => v = .int .i64 q) (G := fun v _ => v = .int .i64 M) hp (free_of rfl) trivial (sq_in 2 rfl rfl (by simp) rfl (fun v w h => h)) (sq_in 5 rfl rfl (by simp) rfl (fun v w h => h)) (fun ρ w hc h h' => ⟨.int .i64 z, by simp [execOp, go_sem, h, h', g3, g5], rfl⟩)
                · exact q_move hp (free_of rfl) trivial (sq_out rfl rfl (fun _ _ => rfl))
                · exact q_two (F := fun v _ => v = .int .i64 z) (G := fun v _ => v = .int .i64 (a % M)) hp (free_of rfl) trivial (sq_in 6 rfl rfl (by simp) rfl (fun v w h => h)) (sq_in 7 rfl rfl (by simp) rfl (fun v w h => h)) (fun ρ w hc h h' => ⟨.bool false, by simp [execOp, go_sem, h, h', g7], rfl⟩)
                intro L vs w5 nb hL hC hn E5
                have e0 : vs 0 = .int .i64 y := hC 0 (by simp)
                have e1 : vs 1 = .int .i64 y := hC 1 (by simp)
                have e2 : vs 2 = .int .i64 q := hC 2 (by simp)
                have e3 : vs 3 = .int .i64 m := hC 3 (by simp)
                have e4 : vs 4 = .int .i64 p := hC 4 (by simp)
                have e5 : vs 5 = .int .i64 M := hC 5 (by simp)
                have e6 : vs 6 = .int .i64 z := hC 6 (by simp)
                have e7 : vs 7 = .int .i64 (a % M) := hC 7 (by simp)
                have e8 : vs 8 = .bool false := hC 8 (by simp)
                have E : Fr V2 [] w5 := E5
                rw [lay_all hL]
                simp only [putAll, dstOf, List.length_cons, List.length_nil, Nat.zero_add, Nat.reduceAdd, List.getElem?_toArray, List.getElem?_cons_zero, List.getElem?_cons_succ, Option.bind_some, Act.put, List.setIfInBounds_toArray, List.set_cons_succ, List.set_cons_zero]
                rw [e0, e1, e2, e3, e4, e5, e6, e7, e8]
                clear e0 e1 e2 e3 e4 e5 e6 e7 e8 hC hn E5 hL vs L nb
                have HL3 := hidd (HL2H.out.mono E.below)
                have HB3 := hidd (HB2H.out.trans (E.below.mono hsz))
                clear E hsz HB2H HL2H
                go_wp2
                go_roundw
                case rel => exact ⟨i + 1, by go_num, by omega, by rw [← HSW2.out]; exact HL3.out, HB3.out⟩
                case measure => simp [intOf]; omega
            · have he : i = xs.length := by omega
              have g8 : IntKind.i64.wrap (B + m) = B + m := by have h1 := HQ.out; have h2 := HMS.out; exact wrapI (by omega) (by omega)
              have HF : Hid (Li V2 V0.heap.size u11 (lift (a % M) M m xs (t + 1))) := by
                show Li _ _ _ _
                rw [he, List.take_length, HBE.out] at HL2
                exact HL2
              have HM2 : Hid ((M - (B + m)).toNat < (M - B).toNat) := by have h1 := HQ.out; have h2 := HMS.out; show _ < _; omega
              have HB2H := hidd HB2
              clear HL2 HB2 he
              go_wp2
              go_roundw
              case rel => exact ⟨t + 1, by rw [HQ.out.2.2], HLT.out, HF.out, HB2H.out⟩
              case measure => simp only [intOf]; exact HM2.out
        · have he : t = p.toNat := by omega
          have f2 : ((t : Int) * m < M) = False := eq_false (fun h => hlt (HTM.out.1 h))
          have f3 : IntKind.i64.wrap (k - (j : Int) - 1) = k - (j : Int) - 1 := IntWalk.i64_in _ (by have := HK.out; omega)
          have HF : Hid (Li V1 w.heap.size u11 (lifts a p (j + 1))) := by
            show Li _ _ _ _
            rw [← hlf.out, ← he]
            exact HL.low HBB.out.size
          have HB3 := hidd (HBB.out.trans (HB.mono HBB.out.size))
          have HO3 := hidd (HOO.out.mono HB)
          have HM2 : Hid ((k - (j : Int) - 1).toNat < (k - (j : Int)).toNat) := by have := HJ.out; have := HK.out; show _ < _; omega
          clear HL HB he hlt ht hp0
          go_wp2
          go_roundw
          case rel => exact ⟨j + 1, by congr 1; omega, by rw [HPJ.out], HJ.out, HF.out, HB3.out, HO3.out⟩
          case measure => simp only [intOf]; exact HM2.out
    · have f1 : ((j : Int) < k) = False := eq_false (by omega)
      have he : j = k.toNat := by omega
      have HR2 : Hid (Li V0 w.heap.size u7 (lifts a p k.toNat)) := by show Li _ _ _ _; rw [← he]; exact HR
      go_wp2
      go_ret
      exact ⟨_, rfl, HB, HR2.out⟩

end Go.Proofs.YtieobgadihcgeaaDoor

/- The values of the law's examples. -/
namespace Go.Proofs.YtieobgadihcgeaaDoor
open Go Go.RowKit

theorem kron_2_7 : kron 2 7 = 1 := by
  unfold kron
  rw [if_neg (by decide), if_neg (by decide)]
  show 1 * kro 2 7 = 1
  rw [kro_odd (by decide), J_two (by decide)]
  decide
theorem kron_2_3 : kron 2 3 = -1 := by
  unfold kron
  rw [if_neg (by decide), if_neg (by decide)]
  show 1 * kro 2 3 = -1
  rw [kro_odd (by decide), J_two (by decide)]
  decide
theorem kron_m1_m1 : kron (-1) (-1) = -1 := by
  unfold kron
  rw [if_neg (by decide), if_pos (by decide)]
  show -1 * kro (-1) 1 = -1
  rw [kro_odd (by decide)]
  decide
theorem kron_5_0 : kron 5 0 = 0 := by
  unfold kron
  rw [if_pos rfl, if_neg (by decide)]
theorem nbits_2 : nbits (2 % 7) = 2 := by
  show nbits 2 = 2
  unfold nbits
  rw [if_neg (by decide)]
  decide
theorem powM_ex : powM (2 % 7) ((7 / (4)) + (1)) 7 = 4 := by
  unfold powM
  rw [if_pos (by decide)]
  decide
theorem bezU_3_7 : bezU 3 7 = 5 := (inv_uniq (a := 3) (m := 7) (x := 5) (by decide) (by decide) (by decide) (by decide)).2.symm
theorem bezU_2_9 : bezU (2 % 9) 9 = 5 := (inv_uniq (a := 2 % 9) (m := 9) (x := 5) (by decide) (by decide) (by decide) (by decide)).2.symm
theorem bezU_3_4 : bezU 3 4 = 3 := (inv_uniq (a := 3) (m := 4) (x := 3) (by decide) (by decide) (by decide) (by decide)).2.symm
theorem powM_2_m1_9 : powM 2 (-1) 9 = 5 := by
  unfold powM
  rw [if_neg (by decide), bezU_2_9]
  decide
theorem crtR_ex : crtR 2 3 3 4 = 11 := by
  unfold crtR
  rw [bezU_3_4]
  decide
theorem lit90 {z : Int} (h : ab z < pw 3) : ab z < pw 90 := Int.lt_of_lt_of_le h (pw_le (by omega))
theorem lit100 {z : Int} (h : ab z < pw 3) : ab z < pw 100 := Int.lt_of_lt_of_le h (pw_le (by omega))
theorem exRoot27 {w : World} {v v' : Value} (h : Num w v 2) (h' : Num w v' 7) (hT : Tabs w) :
    Calls Tryd.prog 26 #[v, v'] w fun e w' => ∃ v', e = .returned v' ∧ Below w.heap.size w w' ∧ Got w' v' 3 0 :=
  exVRoot h h' fun x x' w1 hb hx hx' => by
    have := exMSqrtXL (x := 4) hx hx' (lit90 (ab_lit (by decide))) (lit90 (ab_lit (by decide))) (hT.mono hb) (by decide) (by rw [nbits_2]; decide) (by show kron 2 7 = 1; exact kron_2_7) (lit90 (ab_lit (by decide)))
      (fun y y' w2 hb2 hy hy' => by
        have h2 := exSomeRoot3 hy hy' (lit90 (ab_lit (by decide))) (lit90 (ab_lit (by decide))) (by decide) (by decide)
        rw [powM_ex] at h2
        exact h2) (by decide) (by decide)
    exact this
theorem exInv37 {w : World} {v v' : Value} (h : Num w v 3) (h' : Num w v' 7) :
    Calls Tryd.prog 14 #[v, v'] w fun e w' => ∃ v', e = .returned v' ∧ Below w.heap.size w w' ∧ Got w' v' 5 0 :=
  exVInv h h' fun x x' w1 hb hx hx' => by
    have := exInvP hx hx' (Int.lt_of_lt_of_le (ab_lit (by decide)) (pw_le (by omega))) (Int.lt_of_lt_of_le (ab_lit (by decide)) (pw_le (by omega))) (by decide) (by decide)
    rw [bezU_3_7] at this
    exact this
theorem exInv24 {w : World} {v v' : Value} (h : Num w v 2) (h' : Num w v' 4) :
    Calls Tryd.prog 14 #[v, v'] w fun e w' => ∃ v', e = .returned v' ∧ Below w.heap.size w w' ∧ Got w' v' 0 4 :=
  exVInv h h' fun x x' w1 hb hx hx' => exInvN hx hx' (Int.lt_of_lt_of_le (ab_lit (by decide)) (pw_le (by omega))) (Int.lt_of_lt_of_le (ab_lit (by decide)) (pw_le (by omega))) (by decide) (by decide)
theorem exPow219 {w : World} {v v' u : Value} (h : Num w v 2) (h' : Num w v' (-1)) (g : Num w u 9) :
    Calls Tryd.prog 17 #[v, v', u] w fun e w' => ∃ v', e = .returned v' ∧ Below w.heap.size w w' ∧ Got w' v' 5 0 :=
  exVPow h h' g fun x x' y w1 hx hx' hy => by
    have := exPowN hx hx' hy (lit100 (ab_lit (by decide))) (lit100 (ab_lit (by decide))) (lit100 (ab_lit (by decide))) (by decide) (by decide) (by decide)
    rw [powM_2_m1_9] at this
    exact this
end Go.Proofs.YtieobgadihcgeaaDoor

/- A small number whose words lie in a block of its own. -/
namespace Go.Proofs.YtieobgadihcgeaaDoor
open Go Go.RowKit

theorem lifts_ex : lifts 1 2 3 = [1, 3, 5, 7] := by decide
set_option maxHeartbeats 400000 in
theorem fromWord_new (w : World) (q : Int) (hq0 : 0 ≤ q) (hq1 : q < 18446744073709551616) :
    Calls Tryd.prog 45 #[.int .u64 q] w fun e w' => ∃ b m c zs, w.heap.size ≤ b ∧ e = .returned (.slice (some ⟨b, 0, none⟩) m c) ∧ m ≤ 2 ∧ Sl w' (some ⟨b, 0, none⟩) m c zs ∧ Canon zs ∧ val zs = q ∧ Below w.heap.size w w' := by
  have hr : Row (w.alloc (.cells #[.int .u32 (q % 4294967296), .int .u32 (q / 4294967296)] 77)) 77 w.heap.size [q % 4294967296, q / 4294967296] := by
    refine ⟨fun x hx => ?_, ?_⟩
    · simp at hx
      unfold Dig
      rcases hx with rfl | rfl <;> omega
    · rw [heap_alloc_new]; rfl
  have hs := hr.sl (n := 2) rfl
  have hbl : Below w.heap.size w (w.alloc (.cells #[.int .u32 (q % 4294967296), .int .u32 (q / 4294967296)] 77)) := (Below.refl _ _).alloc (Nat.le_refl _) _
  have hv : val [q % 4294967296, q / 4294967296] = q := by simp only [val]; omega
  have HV := hidd hv
  clear hv hr
  go_enter Tryd.func45, Tryd.ntmps45
  go_wp2_with (go_at_call 34; refine (trim_any _ _ _ _ _ hs (by omega)).mono ?_; rintro e w' ⟨m, rfl, hm, hsm, hvm, hcm, rfl⟩)
  go_ret
  exact ⟨_, m, 2, _, Nat.le_refl _, rfl, hm, hsm, hcm, hvm.trans HV.out, hbl⟩

/-- A number whose words, if it has any, lie where ax says. -/
def GivesAt (w : World) (ax : Option Addr) (z : Int) (e : Ending) (w' : World) : Prop :=
  ∃ (neg : Bool) (ao : Option Addr) (n c : Nat) (xs : List Int), e = .returned (.agg #[.bool neg, .slice ao n c]) ∧ (ao = none ∨ ao = ax) ∧ Sl w' ao n c xs ∧ Canon xs ∧ (neg = true → n ≠ 0) ∧ z = sgn neg (val xs) ∧ Below w.heap.size w w'

set_option maxRecDepth 100000 in
set_option maxHeartbeats 1000000 in
theorem signed_new (w : World) (neg : Bool) (ax : Option Addr) (n c : Nat) (xs : List Int) (hX : Sl w ax n c xs) (hb : n ≤ 4000000) :
    Calls Tryd.prog 35 #[.bool neg, .slice ax n c] w (GivesAt w ax (sgn neg (val xs))) := by
  have hbl : ∀ o, Below w.heap.size w (w.alloc o) := fun o => (Below.refl _ _).alloc (Nat.le_refl _) o
  go_enter Tryd.func35, Tryd.ntmps35
  go_wp2_with (go_at_call 34; refine (trim_any _ _ _ _ _ (hX.mono (hbl _)) (by omega)).mono ?_; rintro e w' ⟨m, rfl, hm, hsm, hvm, hcm, rfl⟩)
  · rename_i h0
    refine bodyPost_ret (v := .agg #[.bool false, .slice none 0 0]) (by simp [results, Tryd.results35, go_sem]) rfl ⟨false, none, 0, 0, [], rfl, .inl rfl, Sl.nil _, ⟨fun _ hx => by simp at hx, .inl rfl⟩, by simp, ?_, hbl _⟩
    have h1 : m = 0 := by simpa using h0
    subst h1
    simp only [List.take_zero, val] at hvm
    cases neg <;> simp [sgn, val, ← hvm]
  · rename_i h0
    have h1 : m ≠ 0 := by simpa using h0
    have hs2 : Sl (w.alloc (.cells #[.bool neg, .slice ax m c] 29)) ax m c (xs.take m) := (hX.take hm).mono (hbl _)
    exact bodyPost_ret (v := .agg #[.bool neg, .slice ax m c]) (by simp [results, Tryd.results35, go_sem]) rfl ⟨neg, ax, m, c, _, rfl, .inr rfl, hs2, hcm, fun _ => h1, by rw [hvm], hbl _⟩

set_option maxRecDepth 100000 in
set_option maxHeartbeats 1000000 in
theorem OfNew (w : World) (z : Int) (h0 : 0 ≤ z) (h1 : z ≤ 9223372036854775807) :
    Calls Tryd.prog 57 #[.int .i64 z] w fun e w' => ∃ ng ao n c, e = .returned (.agg #[.bool ng, .slice ao n c]) ∧ (∀ a, ao = some a → w.heap.size ≤ a.block) ∧ Num w' (.agg #[.bool ng, .slice ao n c]) z ∧ Below w.heap.size w w' := by
  have hC := box1 w 29
  have hCb := alloc_below w (.cells #[.bool false, .slice none 0 0] 29)
  have hz : ¬ z < 0 := by omega
  have hq : IntKind.u64.wrap z = z := by rw [u64_wrap]; omega
  go_enter Tryd.func57, Tryd.ntmps57
  go_wp2_with fail
  refine (fromWord_new _ z (by omega) (by omega)).mono ?_
  rintro e w2 ⟨b2, n2, c2, zs2, hbb, rfl, hn2, hs2, hc2, hv2, hB2⟩
  go_wp2_with fail
  refine (signed_new _ _ _ _ _ _ hs2 (by omega)).mono ?_
  rintro e w3 ⟨ng, ao, nn, cc, rs, rfl, hao, hrs, hrc, hrn, hrz, hb3⟩
  obtain ⟨e0, e1, e2, e3⟩ := (hC.mono hB2 hC.lt).mono hb3 (Nat.lt_of_lt_of_le hC.lt hB2.size)
  have HZ : Hid (z = sgn ng (val rs)) := by
    show _ = _
    rw [← hrz, hv2]; simp [sgn]
  have hb4 : Below w.heap.size w w3 := (hCb.trans (hB2.mono hCb.size)).trans (hb3.mono (Nat.le_trans hCb.size hB2.size))
  have HA : Hid (∀ a, ao = some a → w.heap.size ≤ a.block) := by
    show ∀ a, _
    rintro a rfl
    rcases hao with h | h
    · cases h
    · injection h with h
      rw [h]
      exact Nat.le_trans hCb.size hbb
  clear hrz hv2 hC hq hao
  go_wp2
  refine bodyPost_ret (v := .agg #[.bool ng, .slice ao nn cc]) ?_ rfl ?_
  · simp [results, Tryd.results57, go_sem, e0, e1]
  · obtain ⟨v, he, hI, hB⟩ := gives_store ⟨e0, e1, e2, e3⟩ hrs hrc hrn HZ.out hb4 (Nat.le_refl _)
    injection he with he
    subst he
    exact ⟨ng, ao, nn, cc, rfl, HA.out, num_of hI (k := 2) (by have e : pw 2 = 18446744073709551616 := rfl; rw [e]; unfold ab; omega) (by omega), hB⟩
end Go.Proofs.YtieobgadihcgeaaDoor

/- Lists of numbers in a row of the call's own; lists of numbers that are read. -/
namespace Go.Proofs.YtieobgadihcgeaaDoor
open Go Go.RowKit

theorem info_int : (Tryd.prog.info? 29).map (fun i => (i.zero, i.size, i.bytes)) = some (some (.agg #[.bool false, .slice none 0 0]), 2, 32) := by kernel_rfl
/-- A number lies in block g as its i-th element. -/
def NumAt (w : World) (g i : Nat) (z : Int) : Prop := ∃ n ao k c, w.cell? ⟨g, i * 2, none⟩ = some (.bool n) ∧ w.cell? ⟨g, i * 2 + 1, none⟩ = some (.slice ao k c) ∧ Num w (.agg #[.bool n, .slice ao k c]) z
/-- A slice of numbers. -/
def Nums (w : World) (v : Value) (zs : List Int) : Prop := ∃ ao cap, v = .slice ao zs.length cap ∧ (zs = [] ∨ ∃ g, ao = some ⟨g, 0, none⟩ ∧ g < w.heap.size ∧ ∀ i z, zs[i]? = some z → NumAt w g i z)
theorem NumAt.mono {w w' : World} {g i : Nat} {z : Int} (h : NumAt w g i z) (hb : Below w.heap.size w w') : NumAt w' g i z := by
  obtain ⟨n, ao, k, c, h1, h2, h3⟩ := h
  have hl := World.block_lt_of_cell? w _ h1
  exact ⟨n, ao, k, c, (hb.cell (p := ⟨g, i * 2, none⟩) hl).trans h1, (hb.cell (p := ⟨g, i * 2 + 1, none⟩) hl).trans h2, h3.mono hb⟩
theorem Nums.mono {w w' : World} {v : Value} {zs : List Int} (h : Nums w v zs) (hb : Below w.heap.size w w') : Nums w' v zs := by
  obtain ⟨ao, cap, e, h⟩ := h
  refine ⟨ao, cap, e, ?_⟩
  rcases h with h | ⟨g, h1, h2, h3⟩
  · exact .inl h
  · exact .inr ⟨g, h1, Nat.lt_of_lt_of_le h2 hb.size, fun i z hi => (h3 i z hi).mono hb⟩
theorem Nums.at {w : World} {ao : Option Addr} {n c : Nat} {zs : List Int} (h : Nums w (.slice ao n c) zs) {i : Nat} (hi : i < zs.length) :
    ∃ g p r k d, ao = some ⟨g, 0, none⟩ ∧ w.cell? ⟨g, i * 2, none⟩ = some (.bool p) ∧ w.cell? ⟨g, i * 2 + 1, none⟩ = some (.slice r k d) ∧ Num w (.agg #[.bool p, .slice r k d]) (zs.getD i 0) := by
  obtain ⟨ao', cap, e, h⟩ := h
  injection e with e1 e2 e3
  subst e1
  rcases h with h | ⟨g, h1, h2, h3⟩
  · subst h; simp at hi
  · obtain ⟨p, r, k, d, g1, g2, g3⟩ := h3 i (zs.getD i 0) (by simp [hi])
    exact ⟨g, p, r, k, d, h1, g1, g2, g3⟩

/-- One element of a row of numbers: its words lie in another block than the row. -/
def NumCell (us : List Value) (w : World) (own : Option Nat) (i : Nat) (z : Int) : Prop :=
  ∃ n ao k c, us[i * 2]? = some (.bool n) ∧ us[i * 2 + 1]? = some (.slice ao k c) ∧ (∀ a, ao = some a → k ≠ 0 → some a.block ≠ own) ∧ Num w (.agg #[.bool n, .slice ao k c]) z
/-- Numbers that a call has gathered in a row of its own. -/
def Ln (W : World) (B : Nat) (v : Value) (zs : List Int) : Prop := ∃ us, W.ownsRow B 29 2 v zs.length us ∧ ∀ i z, zs[i]? = some z → NumCell us W v.ownBlock i z
theorem Ln.shape {W : World} {B : Nat} {v : Value} {zs : List Int} (h : Ln W B v zs) : ∃ ao cap, v = .slice ao zs.length cap := by
  obtain ⟨us, h, _⟩ := h
  rcases h.2 with ⟨rfl, h0⟩ | ⟨g, cap, cur, rfl, _⟩
  · exact ⟨none, 0, by rw [h0]⟩
  · exact ⟨_, _, rfl⟩
theorem Ln.nil (w : World) (B : Nat) : Ln w B (.slice none 0 0) [] := ⟨[], World.ownsRow_nil w B _ _, fun i z h => by simp at h⟩
theorem Ln.made (w : World) {B cap : Nat} (cur : Array Value) (hb : B ≤ w.heap.size) (hm : cap ≤ maxLen) (hs : cur.size = cap * 2) : Ln (w.alloc (.cells cur 29)) B (.slice (some ⟨w.heap.size, 0, none⟩) 0 cap) [] :=
  ⟨[], World.ownsRow_made w cur cap hb hm hs, fun i z h => by simp at h⟩
theorem Ln.mono {w w' : World} {B : Nat} {v : Value} {zs : List Int} (h : Ln w B v zs) (hb : Below w.heap.size w w') : Ln w' B v zs := by
  obtain ⟨us, h, hE⟩ := h
  refine ⟨us, ⟨h.1, ?_⟩, fun i z hi => ?_⟩
  · rcases h.2 with h2 | ⟨g, cap, cur, h1, h2, h3, h4⟩
    · exact .inl h2
    · exact .inr ⟨g, cap, cur, h1, h2, by rw [hb.block g (Array.getElem?_eq_some_iff.1 h3).1]; exact h3, h4⟩
  · obtain ⟨n, ao, k, c, g1, g2, g3, g4⟩ := hE i z hi
    exact ⟨n, ao, k, c, g1, g2, g3, g4.mono hb⟩
theorem Ln.low {W : World} {B B' : Nat} {v : Value} {zs : List Int} (h : Ln W B v zs) (hb : B' ≤ B) : Ln W B' v zs := by
  obtain ⟨us, h, hE⟩ := h
  refine ⟨us, ⟨h.1, ?_⟩, hE⟩
  rcases h.2 with h2 | ⟨g, cap, cur, h1, h2, h3⟩
  · exact .inl h2
  · exact .inr ⟨g, cap, cur, h1, by omega, h3⟩
theorem Ln.nums {w : World} {B : Nat} {v : Value} {zs : List Int} (h : Ln w B v zs) : Nums w v zs := by
  obtain ⟨us, h, hE⟩ := h
  have h0 := h
  rcases h.2 with ⟨rfl, h1⟩ | ⟨g, cap, cur, rfl, h1, h2, h3⟩
  · refine ⟨none, 0, by rw [h1], .inl ?_⟩
    exact List.eq_nil_of_length_eq_zero h1
  · refine ⟨_, cap, rfl, .inr ⟨g, rfl, (Array.getElem?_eq_some_iff.1 h2).1, fun i z hi => ?_⟩⟩
    obtain ⟨n, ao, k, c, g1, g2, g3, g4⟩ := hE i z hi
    have hl : i < zs.length := by
      rcases Nat.lt_or_ge i zs.length with h | h
      · exact h
      · rw [List.getElem?_eq_none h] at hi; cases hi
    refine ⟨n, ao, k, c, ?_, ?_, g4⟩
    · rw [World.ownsRow.cellAt h0 (i * 2) (by omega)]; exact g1
    · rw [World.ownsRow.cellAt h0 (i * 2 + 1) (by omega)]; exact g2
/-- A number whose words lie in another block than the row that has grown. -/
theorem Num.grown {w w' : World} {n : Bool} {ao : Option Addr} {k c : Nat} {z : Int} {row : Option Nat} (h : Num w (.agg #[.bool n, .slice ao k c]) z) (hg : w.grownBy w' row) (hne : ∀ a, ao = some a → k ≠ 0 → some a.block ≠ row) : Num w' (.agg #[.bool n, .slice ao k c]) z := by
  obtain ⟨neg, ao', k', c', xs, hv, hs, hn, hz⟩ := h
  injection hv with hv
  have hv2 := congrArg Array.toList hv
  simp at hv2
  obtain ⟨rfl, rfl, rfl, rfl⟩ := hv2
  refine ⟨n, ao, k, c, xs, rfl, ⟨hs.len, hs.cap, hs.cells.1, ?_⟩, hn, hz⟩
  rcases hs.cells.2 with h0 | ⟨b, off, rfl, hlt, hc⟩
  · exact .inl h0
  · rcases Nat.eq_zero_or_pos k with h0 | h0
    · exact .inl (List.eq_nil_of_length_eq_zero (hs.len.trans h0))
    · refine .inr ⟨b, off, rfl, Nat.lt_of_lt_of_le hlt hg.size, fun j hj => hg.cell (hc j hj) (show some b ≠ row from hne ⟨b, off, none⟩ rfl (by omega))⟩
theorem Num.blk {w : World} {n : Bool} {a : Addr} {k c : Nat} {z : Int} (h : Num w (.agg #[.bool n, .slice (some a) k c]) z) (hk : k ≠ 0) : a.block < w.heap.size := by
  obtain ⟨neg, ao', k', c', xs, hv, hs, hn, hz⟩ := h
  injection hv with hv
  have hv2 := congrArg Array.toList hv
  simp at hv2
  obtain ⟨rfl, rfl, rfl, rfl⟩ := hv2
  rcases hs.cells.2 with h0 | ⟨b, off, e, hlt, hc⟩
  · have := hs.len; rw [h0] at this; simp at this; omega
  · injection e with e; rw [e]; exact hlt
theorem Ln.step {B : Nat} {w wr w1 w2 : World} {v : Value} {zs : List Int} {us : List Value} {z : Int} {o : Obj} {g cap H : Nat} {ng : Bool} {ao : Option Addr} {n c : Nat}
    (hO : wr.ownsRow B 29 2 v zs.length us) (hE : ∀ i z, zs[i]? = some z → NumCell us wr v.ownBlock i z) (hB : B ≤ wr.heap.size) (hnx : Below B w wr) (hb : Below wr.heap.size wr w1)
    (hnew : ∀ a, ao = some a → wr.heap.size ≤ a.block) (hN : Num w1 (.agg #[.bool ng, .slice ao n c]) z)
    (hown' : w2.ownsRow B 29 2 (.slice (some ⟨g, 0, none⟩) (zs.length + 1) cap) (zs.length + 1) (us ++ [.bool ng, .slice ao n c])) (hgrow : (w1.alloc o).grownBy w2 v.ownBlock) (hat : v.ownBlock = some g ∨ g = H) (hH : (w1.alloc o).heap.size = H) :
    Ln w2 B (.slice (some ⟨g, 0, none⟩) (zs.length + 1) cap) (zs ++ [z]) ∧ Below B w w2 := by
  have hsz := hb.size
  have hH2 : w1.heap.size + 1 = H := by rw [← hH]; simp
  have hlt := hO.lt
  have hul := hO.1
  refine ⟨⟨us ++ [.bool ng, .slice ao n c], by simpa using hown', fun i y hi => ?_⟩, ?_⟩
  · have hne : ∀ {a : Addr} {k : Nat} {m : Bool} {d : Nat} {x : Int}, Num w1 (.agg #[.bool m, .slice (some a) k d]) x → k ≠ 0 → some a.block ≠ v.ownBlock → a.block ≠ g := by
      intro a k m d x hx hk hr e
      have h1 := hx.blk hk
      rcases hat with h | h
      · rw [h, e] at hr; exact hr rfl
      · omega
    by_cases hil : i < zs.length
    · rw [List.getElem?_append_left hil] at hi
      obtain ⟨p, r, k, d, g1, g2, g3, g4⟩ := hE i y hi
      refine ⟨p, r, k, d, ?_, ?_, fun a ha hk => ?_, ?_⟩
      · rw [List.getElem?_append_left (by omega)]; exact g1
      · rw [List.getElem?_append_left (by omega)]; exact g2
      · subst ha
        intro e
        exact hne (g4.mono hb) hk (g3 _ rfl hk) (by simpa [Value.ownBlock] using e)
      · exact ((g4.mono hb).mono (alloc_below w1 o)).grown hgrow g3
    · have hi2 : i = zs.length := by
        rcases Nat.lt_or_ge i (zs ++ [z]).length with h | h
        · simp at h; omega
        · rw [List.getElem?_eq_none h] at hi; cases hi
      subst hi2
      rw [List.getElem?_append_right (Nat.le_refl _), Nat.sub_self] at hi
      simp only [List.getElem?_cons_zero, Option.some.injEq] at hi
      subst hi
      have hfar : ∀ a, ao = some a → some a.block ≠ v.ownBlock := fun a ha e => by
        have h1 := hnew a ha
        have h2 := (hlt a.block e.symm).2
        omega
      refine ⟨ng, ao, n, c, ?_, ?_, fun a ha hk => ?_, ?_⟩
      · rw [List.getElem?_append_right (by omega), show zs.length * 2 - us.length = 0 by omega]; rfl
      · rw [List.getElem?_append_right (by omega), show zs.length * 2 + 1 - us.length = 1 by omega]; rfl
      · subst ha
        intro e
        exact hne hN hk (hfar _ rfl) (by simpa [Value.ownBlock] using e)
      · exact (hN.mono (alloc_below w1 o)).grown hgrow fun a ha _ => hfar a ha
  · exact ((hnx.trans (hb.mono hB)).alloc (by omega) o).grown hgrow (by simp; omega) (fun j hj => (hO.lt j hj).1)
end Go.Proofs.YtieobgadihcgeaaDoor
