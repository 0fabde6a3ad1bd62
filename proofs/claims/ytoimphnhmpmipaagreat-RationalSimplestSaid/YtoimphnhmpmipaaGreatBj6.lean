/- Vj, Vk. -/
import Derived.Test.YtoimphnhmpmipaaGreatBj5
/- The simplest fraction, what it is; walks: Between, in the code and in the reference. -/
namespace Go.Proofs.YtoimphnhmpmipaaGreat
open Go Go.RowKit


section
variable {os : List Oper} {Q : Exit → Act → World → Prop} {a : Act} {p : Pq} {B B0 : Nat} {w0 : World}
variable {i s : Nat} {d : Option Tmp} {ty : TypeId} {ps : String} {af : Array Edge} {gd : Option (Nat × Bool)}
/-- A fraction whose numerator is nothing. -/
theorem q_buildRat1 {y : Operand} {d0 : Int} (hp : p.Ok B B0) (hF : p.Free i) (hg : GdQ os a p B B0 w0 af gd) (hy : SrcQ os a p B B0 w0 af y fun v w => Num w v d0) (hC : ∀ v w, Pair w v 0 d0 → (p.c i).P v w) :
    StepQ os Q a p B B0 w0 i { dst := d, op := .build 31 #[(1, y)], type := ty, pos := ps, after := af, guard := gd } := by
  refine stq_val hp hF hg fun L vs w hG hL hc hd => ?_
  have h2 := hy L vs w hG hd
  obtain ⟨n2, ao', k', c', e2⟩ := h2.parts
  refine ⟨.agg #[.bool false, .slice none 0 0, .bool n2, .slice ao' k' c'], ?_, hC _ _ ⟨_, _, _, _, rfl, Num.zero w, by rw [← e2]; exact h2⟩⟩
  generalize (lay os.toArray L vs os.toArray.size a).eval = ρ at e2
  simp [execOp, go_sem, e2]
end

/-- More steps than are needed change nothing. -/
theorem sim_fuel : ∀ (f g : Nat) (an ad bn bd : Int), 0 < an → 0 < ad → 0 < bd → an * bd ≤ bn * ad → (ad + bd).toNat ≤ f → (ad + bd).toNat ≤ g → simF f an ad bn bd = simF g an ad bn bd
  | 0, _, an, ad, bn, bd, _, h2, h3, _, h5, _ => by omega
  | _ + 1, 0, an, ad, bn, bd, _, h2, h3, _, _, h6 => by omega
  | f + 1, g + 1, an, ad, bn, bd, h1, h2, h3, h4, h5, h6 => by
    have e2 := Int.emod_nonneg an (show ad ≠ 0 by omega)
    have e3 := Int.emod_lt_of_pos an h2
    simp only [simF]
    split
    · rfl
    · rename_i hr
      split
      · rfl
      · rename_i hb
        have r1 := sim_rest h2 h3 h4 hr
        rw [sim_fuel f g bd (bn - an / ad * bd) ad (an % ad) h3 r1 (by omega) (sim_next h4) (by omega) (by omega)]

/-- The simplest fraction is between both, and in lowest terms; every fraction between both has a numerator and a denominator that are not less. -/
theorem sim_spec : ∀ (f : Nat) (an ad bn bd : Int), 0 < an → 0 < ad → 0 < bd → an * bd ≤ bn * ad → (ad + bd).toNat ≤ f →
    (an * (simF f an ad bn bd).2 ≤ (simF f an ad bn bd).1 * ad ∧ (simF f an ad bn bd).1 * bd ≤ bn * (simF f an ad bn bd).2) ∧ Int.gcd (simF f an ad bn bd).1 (simF f an ad bn bd).2 = 1 ∧
    ∀ p q : Int, 0 < q → an * q ≤ p * ad → p * bd ≤ bn * q → (simF f an ad bn bd).1 ≤ p ∧ (simF f an ad bn bd).2 ≤ q
  | 0, an, ad, bn, bd, _, h2, h3, _, h5 => by omega
  | f + 1, an, ad, bn, bd, h1, h2, h3, h4, h5 => by
    have e1 := Int.mul_ediv_add_emod an ad
    have e2 := Int.emod_nonneg an (show ad ≠ 0 by omega)
    have e3 := Int.emod_lt_of_pos an h2
    have e4 : 0 ≤ an / ad := Int.ediv_nonneg (by omega) (by omega)
    have key : ∀ p q : Int, 0 < q → an * q ≤ p * ad → an % ad * q ≤ ad * (p - an / ad * q) := by
      intro p q _ hp
      have : an * q = ad * (an / ad * q) + an % ad * q := by
        have h := congrArg (· * q) e1
        simp only [Int.add_mul] at h
        rw [← h]; congr 1; ac_rfl
      rw [Int.mul_sub]
      have h2 : ad * p = p * ad := Int.mul_comm _ _
      omega
    have kq : ∀ q : Int, 0 < q → an / ad ≤ an / ad * q := by
      intro q hq
      have := Int.mul_le_mul_of_nonneg_left (show 1 ≤ q by omega) e4
      omega
    simp only [simF]
    split
    · rename_i hr
      refine ⟨⟨?_, ?_⟩, ?_, ?_⟩
      · show an * 1 ≤ an / ad * ad
        rw [Int.mul_comm (an / ad) ad]; omega
      · show an / ad * bd ≤ bn * 1
        have : an * bd = ad * (an / ad * bd) := by
          have h : an = ad * (an / ad) := by omega
          calc an * bd = ad * (an / ad) * bd := by rw [← h]
            _ = ad * (an / ad * bd) := Int.mul_assoc _ _ _
        have h6 : ad * (an / ad * bd) ≤ ad * bn := by rw [← this, Int.mul_comm ad bn]; exact h4
        have := Int.le_of_mul_le_mul_left h6 h2
        omega
      · show Int.gcd (an / ad) 1 = 1
        simp
      · intro p q hq hp _
        have h := key p q hq hp
        rw [hr, Int.zero_mul] at h
        have h7 : 0 ≤ p - an / ad * q := Int.le_of_mul_le_mul_left (by rw [Int.mul_zero]; exact h) h2
        have := kq q hq
        exact ⟨by show an / ad ≤ p; omega, by show 1 ≤ q; omega⟩
    · rename_i hr
      have r0 : 0 < an % ad := by omega
      split
      · rename_i hb
        refine ⟨⟨?_, ?_⟩, ?_, ?_⟩
        · show an * 1 ≤ (an / ad + 1) * ad
          rw [Int.add_mul, Int.mul_comm (an / ad) ad]; omega
        · show (an / ad + 1) * bd ≤ bn * 1
          rw [Int.add_mul]; omega
        · show Int.gcd (an / ad + 1) 1 = 1
          simp
        · intro p q hq hp _
          have h := key p q hq hp
          have h8 := Int.mul_pos r0 hq
          have h7 : 0 < p - an / ad * q := Int.lt_of_mul_lt_mul_left (a := ad) (by rw [Int.mul_zero]; omega) (by omega)
          have := kq q hq
          exact ⟨by show an / ad + 1 ≤ p; omega, by show 1 ≤ q; omega⟩
      · rename_i hb
        have r1 := sim_rest h2 h3 h4 hr
        have ih := sim_spec f bd (bn - an / ad * bd) ad (an % ad) h3 r1 (by omega) (sim_next h4) (by omega)
        generalize simF f bd (bn - an / ad * bd) ad (an % ad) = r at *
        obtain ⟨⟨i1, i2⟩, i3, i4⟩ := ih
        refine ⟨⟨?_, ?_⟩, ?_, ?_⟩
        · show an * r.1 ≤ (an / ad * r.1 + r.2) * ad
          have : an * r.1 = ad * (an / ad * r.1) + an % ad * r.1 := by
            have h := congrArg (· * r.1) e1
            simp only [Int.add_mul] at h
            rw [← h]; congr 1; ac_rfl
          rw [Int.add_mul, this, Int.mul_comm (an / ad * r.1) ad]
          have h9 : an % ad * r.1 = r.1 * (an % ad) := Int.mul_comm _ _
          have h10 : r.2 * ad = ad * r.2 := Int.mul_comm _ _
          omega
        · show (an / ad * r.1 + r.2) * bd ≤ bn * r.1
          rw [Int.mul_sub] at i1
          have h11 : r.1 * (an / ad * bd) = an / ad * r.1 * bd := by ac_rfl
          have h12 : r.1 * bn = bn * r.1 := Int.mul_comm _ _
          have h13 : bd * r.2 = r.2 * bd := Int.mul_comm _ _
          rw [Int.add_mul]
          omega
        · show Int.gcd (an / ad * r.1 + r.2) r.1 = 1
          rw [Int.gcd_comm, Int.add_comm]
          have : Int.gcd r.1 (r.2 + an / ad * r.1) = Int.gcd r.1 r.2 := by simp
          rw [this]; exact i3
        · intro p q hq hp hq2
          have h := key p q hq hp
          have h8 := Int.mul_pos r0 hq
          have h7 : 0 < p - an / ad * q := Int.lt_of_mul_lt_mul_left (a := ad) (by rw [Int.mul_zero]; omega) (by omega)
          obtain ⟨j1, j2⟩ := i4 q (p - an / ad * q) h7 (by
              rw [Int.mul_sub, Int.mul_sub]
              have h14 : bd * p = p * bd := Int.mul_comm _ _
              have h15 : q * bn = bn * q := Int.mul_comm _ _
              have h16 : q * (an / ad * bd) = bd * (an / ad * q) := by ac_rfl
              omega) (by have h17 : q * (an % ad) = an % ad * q := Int.mul_comm _ _; omega)
          have h18 := Int.mul_le_mul_of_nonneg_left j1 e4
          exact ⟨by show an / ad * r.1 + r.2 ≤ p; omega, j1⟩


/-- How many steps. -/
def simN (a b : Rat) : Nat := ((a.den : Int) + (b.den : Int)).toNat
/-- The simplest fraction between two that are positive. -/
noncomputable def simQ (a b : Rat) : Rat := Rat.divInt (simF (simN a b) a.num a.den b.num b.den).1 (simF (simN a b) a.num a.den b.num b.den).2
theorem simQ_parts {a b : Rat} (h0 : 0 < a.num) (hle : a ≤ b) : (simF (simN a b) a.num a.den b.num b.den).1 = (simQ a b).num ∧ (simF (simN a b) a.num a.den b.num b.den).2 = ((simQ a b).den : Int) := by
  have h1 := sim_le (simN a b) a.num a.den b.num b.den h0 (den_pos a) (den_pos b) ((Rat.le_iff _ _).1 hle) (Nat.le_refl _)
  have h2 := sim_spec (simN a b) a.num a.den b.num b.den h0 (den_pos a) (den_pos b) ((Rat.le_iff _ _).1 hle) (Nat.le_refl _)
  have := parts_of h1.2.1 h2.2.1
  exact ⟨this.1.symm, this.2.symm⟩
theorem simQ_rb {a b : Rat} {k : Nat} (h0 : 0 < a.num) (hle : a ≤ b) (ha : Rb a k) (hb : Rb b k) : Rb (simQ a b) k := by
  have h1 := sim_le (simN a b) a.num a.den b.num b.den h0 (den_pos a) (den_pos b) ((Rat.le_iff _ _).1 hle) (Nat.le_refl _)
  obtain ⟨e1, e2⟩ := simQ_parts h0 hle
  simp only [e1, e2] at h1
  obtain ⟨a1, a2⟩ := ha
  obtain ⟨b1, b2⟩ := hb
  have c1 := den_pos a
  have c2 := den_pos b
  unfold Rb
  unfold ab at *
  omega
theorem simQ_pos {a b : Rat} (h0 : 0 < a.num) (hle : a ≤ b) : 0 < (simQ a b).num := by
  have h1 := sim_le (simN a b) a.num a.den b.num b.den h0 (den_pos a) (den_pos b) ((Rat.le_iff _ _).1 hle) (Nat.le_refl _)
  obtain ⟨e1, e2⟩ := simQ_parts h0 hle
  simp only [e1, e2] at h1
  exact h1.1
theorem simQ_in {a b : Rat} (h0 : 0 < a.num) (hle : a ≤ b) : a ≤ simQ a b ∧ simQ a b ≤ b := by
  have h2 := sim_spec (simN a b) a.num a.den b.num b.den h0 (den_pos a) (den_pos b) ((Rat.le_iff _ _).1 hle) (Nat.le_refl _)
  obtain ⟨e1, e2⟩ := simQ_parts h0 hle
  rw [e1, e2] at h2
  exact ⟨(Rat.le_iff _ _).2 h2.1.1, (Rat.le_iff _ _).2 h2.1.2⟩
theorem simQ_min {a b : Rat} (h0 : 0 < a.num) (hle : a ≤ b) {p q : Int} (hq : 0 < q) (h1 : a.num * q ≤ p * a.den) (h2 : p * b.den ≤ b.num * q) : (simQ a b).num ≤ p ∧ ((simQ a b).den : Int) ≤ q := by
  have h3 := (sim_spec (simN a b) a.num a.den b.num b.den h0 (den_pos a) (den_pos b) ((Rat.le_iff _ _).1 hle) (Nat.le_refl _)).2.2 p q hq h1 h2
  obtain ⟨e1, e2⟩ := simQ_parts h0 hle
  rw [e1, e2] at h3
  exact h3

theorem whole_num (k : Int) : ((k : Rat).num = k) ∧ (((k : Rat).den : Int) = 1) := by simp
theorem whole_eq {a : Rat} {k : Int} (hk : k = a.num / a.den) : (k : Rat) = a ↔ a.num % a.den = 0 := by
  have e1 := Int.mul_ediv_add_emod a.num a.den
  rw [Rat.eq_iff_mul_eq_mul, (whole_num k).1, (whole_num k).2, Int.mul_one, hk, Int.mul_comm]
  omega
theorem one_divInt : Rat.divInt (1) (1) = ((1 : Int) : Rat) := by decide +kernel
theorem next_num (k : Int) : ((k : Rat) + Rat.divInt (1) (1)).num = k + 1 ∧ ((((k : Rat) + Rat.divInt (1) (1)).den : Nat) : Int) = 1 := by
  rw [one_divInt, ← Rat.intCast_add]
  exact whole_num (k + 1)
theorem next_le {b : Rat} {k : Int} : (k : Rat) + Rat.divInt (1) (1) ≤ b ↔ (b.den : Int) ≤ b.num - k * b.den := by
  rw [Rat.le_iff, (next_num k).1, (next_num k).2, Int.mul_one, Int.add_mul]
  omega
theorem sub_whole (b : Rat) (k : Int) : (b - (k : Rat)).num = b.num - k * b.den ∧ ((b - (k : Rat)).den : Int) = b.den := by
  have h : b - (k : Rat) = Rat.divInt (b.num - k * b.den) b.den := by
    rw [sub_div, (whole_num k).1]
    have : ((k : Rat).den) = 1 := by simp
    rw [this]; simp
  have h2 : Int.gcd (b.num - k * b.den) b.den = 1 := by
    have := rat_cop b
    rw [Int.gcd_comm] at this ⊢
    have e : Int.gcd (b.den : Int) (b.num - k * b.den) = Int.gcd (b.den : Int) b.num := by
      rw [Int.sub_eq_add_neg, ← Int.neg_mul]; simp
    rw [e]; exact this
  rw [h]
  exact parts_of (den_pos b) h2
theorem whole_add {z : Rat} {k : Int} : ((k : Rat) + z).num = k * z.den + z.num ∧ (((k : Rat) + z).den : Int) = z.den := by
  have := sub_whole z (-k)
  have e : z - ((-k : Int) : Rat) = (k : Rat) + z := by
    rw [Rat.sub_eq_add_neg, Rat.add_comm]
    congr 1
    simp
  rw [e] at this
  refine ⟨this.1.trans ?_, this.2⟩
  rw [Int.neg_mul]; omega

theorem exBetPos {w : World} {v v' : Value} {a b : Rat} (h : Pair w v a.num a.den) (h' : Pair w v' b.num b.den) (ha : Rb a 200) (hb : Rb b 200) (h0 : 0 < a.num) (hle : a ≤ b) :
    Calls Tryz.prog 42 #[v, v'] w fun e w' => ∃ v', e = .returned v' ∧ Below w.heap.size w w' ∧ (Fq.tup2 (Fq.pair (simQ a b).num ((simQ a b).den : Int)) (Fq.is (.int .i64 0))).P v' w' := by
  have := exBetP h h' (rb_le ha (by omega)) (rb_le hb (by omega)) h0 hle
  obtain ⟨e1, e2⟩ := simQ_parts h0 hle
  unfold simN at e1 e2
  rw [e1, e2] at this
  exact this
theorem exSimQ {w : World} {v v' : Value} {a b : Rat} (h : Pair w v a.num a.den) (h' : Pair w v' b.num b.den) (ha : Rb a 200) (hb : Rb b 200) (h0 : 0 < a.num) (hle : a ≤ b) :
    Calls Tryz.prog 74 #[v, v'] w fun e w' => ∃ v', e = .returned v' ∧ Below w.heap.size w w' ∧ Pair w' v' (simQ a b).num ((simQ a b).den : Int) := by
  have := exSimplest h h' (rb_le ha (by omega)) (rb_le hb (by omega)) ⟨h0, (Rat.le_iff _ _).1 hle⟩
  obtain ⟨e1, e2⟩ := simQ_parts h0 hle
  unfold simN at e1 e2
  rw [e1, e2] at this
  exact this

set_option maxRecDepth 100000 in
set_option maxHeartbeats 4000000 in
theorem exSFlip {w : World} {v : Value} {n d : Int} (h : Pair w v n d) :
    Calls Tryz.prog 76 #[v] w fun e w' => ∃ v', e = .returned v' ∧ Below w.heap.size w w' ∧ Pair w' v' d n := by
  obtain ⟨n0, ao0, k0, c0, n0', ao0', k0', c0', rfl, _⟩ := ratV_pair h
  obtain ⟨w1, b1, hw1, hb1, hs1, E⟩ := fr_start w (F := Fq.pair n d) (us := [.bool n0, .slice ao0 k0 c0, .bool n0', .slice ao0' k0' c0']) 31 rfl (by simp) (tame_rat _ _ _ _ _ _ _ _) h
  obtain ⟨w2, b2, hw2, hb2, hs2, E⟩ := fr_more E hs1 (F := Fq.pair 0 0) (us := [.bool false, .slice none 0 0, .bool false, .slice none 0 0]) 31 rfl (by simp) (tame_rat _ _ _ _ _ _ _ _) (Pair.zero _)
  go_enter Tryz.func76, Tryz.ntmps76
  go_upto_region 1 with (fail)
  rw [← hw1]
  rw [← hw2]
  rw [← hb2]
  rw [← hb1]
  clear hw1 hw2 hb1 hb2 hs2 hs1
  refine region_fr (C := [Fq.is (.pointer (some ⟨b1, 2, none⟩)), Fq.num d, Fq.is (.pointer (some ⟨b1, 0, none⟩)), Fq.num n, Fq.pair d n, Fq.any]) (ks := [some (5, Fq.pair d n), none]) (new := []) E rfl (by kernel_rfl) rfl rfl (fun hp => ⟨?_, ?_, ?_, ?_, ?_, ?_, trivial⟩) ?_
  · exact q_addr (b := b1) (off := 0) (off' := 2) hp (free_of rfl) trivial (sq_out rfl rfl (fun _ _ => rfl)) (fun ρ w h => by simp [execOp, go_sem, h]) (fun _ => rfl)
  · exact q_loadInt (off := 2) hp (free_of rfl) trivial (List.mem_iff_getElem?.2 ⟨1, rfl⟩) (.inl rfl) (Nat.le_of_ble_eq_true rfl) (sq_in 0 rfl rfl (by simp) rfl (fun v w h => h)) (fun us w hl h => ld_pd hl h)
  · exact q_addr (b := b1) (off := 0) (off' := 0) hp (free_of rfl) trivial (sq_out rfl rfl (fun _ _ => rfl)) (fun ρ w h => by simp [execOp, go_sem, h]) (fun _ => rfl)
  · exact q_loadInt (off := 0) hp (free_of rfl) trivial (List.mem_iff_getElem?.2 ⟨1, rfl⟩) (.inl rfl) (Nat.le_of_ble_eq_true rfl) (sq_in 2 rfl rfl (by simp) rfl (fun v w h => h)) (fun us w hl h => ld_pn hl h)
  · exact q_buildRat (n := d) (d0 := n) hp (free_of rfl) trivial (sq_in 1 rfl rfl (by simp) rfl (fun v w h => h)) (sq_in 3 rfl rfl (by simp) rfl (fun v w h => h)) (fun v w h => h)
  · exact q_storeOldRat hp (List.mem_iff_getElem?.2 ⟨0, rfl⟩) rfl rfl (sq_out rfl rfl (fun _ _ => rfl)) (sq_in 4 rfl rfl (by simp) rfl (fun v w h => ratV_pair h)) (fun _ _ => trivial) (newik_ne rfl)
  intro L vs w3 nb hL hC hn E3
  have e0 : vs 0 = .pointer (some ⟨b1, 2, none⟩) := hC 0 (by simp)
  have e2 : vs 2 = .pointer (some ⟨b1, 0, none⟩) := hC 2 (by simp)
  have E : Fr w [(b2, 4, Fq.pair d n), (b1, 4, Fq.pair n d)] w3 := E3
  rw [lay_all hL]
  simp only [putAll, dstOf, List.length_cons, List.length_nil, Nat.zero_add, Nat.reduceAdd, List.getElem?_toArray, List.getElem?_cons_zero, List.getElem?_cons_succ, Option.bind_some, Act.put, List.setIfInBounds_toArray, List.set_cons_succ, List.set_cons_zero]
  rw [e0, e2]
  generalize vs 1 = u3_1
  generalize vs 3 = u3_3
  generalize vs 4 = u3_4
  clear e0 e2 hC hn E3 hL vs L nb
  obtain ⟨p0, p1, p2, p3, c0, c1, c2, c3, hP⟩ := box_pair (E.box 0 rfl)
  go_wp2
  refine bodyPost_ret (v := .agg #[p0, p1, p2, p3]) ?_ rfl ⟨_, rfl, E.below, hP⟩
  simp [results, Tryz.results76, go_sem, c0, c1, c2, c3]

set_option maxRecDepth 100000 in
set_option maxHeartbeats 4000000 in
theorem exBetZ {w : World} {v v' : Value} {a b : Rat} (h : Pair w v a.num a.den) (h' : Pair w v' b.num b.den) (ha : Rb a 200) (hb : Rb b 200) (h0 : a.num ≤ 0) (h1 : 0 ≤ b.num) (hle : a ≤ b) :
    Calls Tryz.prog 42 #[v, v'] w fun e w' => ∃ v', e = .returned v' ∧ Below w.heap.size w w' ∧ (Fq.tup2 (Fq.pair (0 : Rat).num ((0 : Rat).den : Int)) (Fq.is (.int .i64 0))).P v' w' := by
  replace ha := hidd ha
  replace hb := hidd hb
  obtain ⟨n0, ao0, k0, c0, n0', ao0', k0', c0', rfl, _⟩ := ratV_pair h
  obtain ⟨n1, ao1, k1, c1, n1', ao1', k1', c1', rfl, _⟩ := ratV_pair h'
  obtain ⟨w1, b1, hw1, hb1, hs1, E⟩ := fr_start w (F := Fq.pair a.num (a.den : Int)) (us := [.bool n0, .slice ao0 k0 c0, .bool n0', .slice ao0' k0' c0']) 31 rfl (by simp) (tame_rat _ _ _ _ _ _ _ _) h
  obtain ⟨w2, b2, hw2, hb2, hs2, E⟩ := fr_more E hs1 (F := Fq.pair b.num (b.den : Int)) (us := [.bool n1, .slice ao1 k1 c1, .bool n1', .slice ao1' k1' c1']) 31 rfl (by simp) (tame_rat _ _ _ _ _ _ _ _) (h'.mono E.below)
  obtain ⟨w3, b3, hw3, hb3, hs3, E⟩ := fr_more E hs2 (F := Fq.pair 0 0) (us := [.bool false, .slice none 0 0, .bool false, .slice none 0 0]) 31 rfl (by simp) (tame_rat _ _ _ _ _ _ _ _) (Pair.zero _)
  go_enter Tryz.func42, Tryz.ntmps42
  go_upto_region 1 with (fail)
  rw [← hw1]
  rw [← hw2]
  rw [← hw3]
  rw [← hb3]
  rw [← hb2]
  rw [← hb1]
  clear hw1 hw2 hw3 hb1 hb2 hb3 hs3 hs1 hs2
  have T1 : Hid (¬ cmpI (a.den : Int) 0 ≤ 0) := by show ¬ _; have := cmpIqgt.2 (den_pos a); omega
  have T2 : Hid (¬ cmpI (b.den : Int) 0 ≤ 0) := by show ¬ _; have := cmpIqgt.2 (den_pos b); omega
  have T3 : Hid (¬ 0 < cmpQ a b) := fun e => Rat.not_lt.2 hle (cmpQ_gt.1 e)
  have T4 : Hid (¬ 0 < cmpI a.num 0) := fun e => by have := cmpIqgt.1 e; omega
  have T5 : Hid (¬ cmpI b.num 0 < 0) := fun e => by have := cmpIqlt.1 e; omega
  clear h0 h1 hle
  refine region_fr (C := [Fq.is (.pointer (some ⟨b1, 2, none⟩)), Fq.num (a.den : Int), Fq.is (.int .i64 (cmpI (a.den : Int) 0)), Fq.is (.bool false), Fq.is (.bool false), Fq.is (.pointer (some ⟨b2, 2, none⟩)), Fq.num (b.den : Int), Fq.is (.int .i64 (cmpI (b.den : Int) 0)), Fq.is (.bool false), Fq.is (.bool false), Fq.is (.bool false), Fq.pair a.num (a.den : Int), Fq.pair b.num (b.den : Int), Fq.is (.int .i64 (cmpQ a b)), Fq.is (.bool false), Fq.is (.bool false)]) (ks := [none, none, none]) (new := []) E rfl (by kernel_rfl) rfl rfl (fun hp => ⟨?_, ?_, ?_, ?_, ?_, ?_, ?_, ?_, ?_, ?_, ?_, ?_, ?_, ?_, ?_, ?_, trivial⟩) ?_
  · exact q_addr (b := b1) (off := 0) (off' := 2) hp (free_of rfl) trivial (sq_out rfl rfl (fun _ _ => rfl)) (fun ρ w h => by simp [execOp, go_sem, h]) (fun _ => rfl)
  · exact q_loadInt (off := 2) hp (free_of rfl) trivial (List.mem_iff_getElem?.2 ⟨2, rfl⟩) (.inl rfl) (Nat.le_of_ble_eq_true rfl) (sq_in 0 rfl rfl (by simp) rfl (fun v w h => h)) (fun us w hl h => ld_pd hl h)
  · exact q_call1 (F := (Fq.num (a.den : Int)).P) hp (free_of rfl) trivial (enq_Sign) (sq_in 1 rfl rfl (by simp) rfl (fun v w h => h)) (fun v w h => exSign h)
  · exact q_one (F := fun v _ => v = .int .i64 (cmpI (a.den : Int) 0)) hp (free_of rfl) trivial (sq_in 2 rfl rfl (by simp) rfl (fun v w h => h)) (fun ρ w hc h => ⟨.bool false, by simp [execOp, go_sem, h, hc, T1.out], rfl⟩)
  · exact q_move hp (free_of rfl) trivial (sq_in 3 rfl rfl (by simp) rfl (fun v w h => h))
  · exact q_addr (b := b2) (off := 0) (off' := 2) hp (free_of rfl) (gq_some rfl rfl (by simp) rfl (fun v w h => h)) (sq_out rfl rfl (fun _ _ => rfl)) (fun ρ w h => by simp [execOp, go_sem, h]) (fun _ => rfl)
  · exact q_loadInt (off := 2) hp (free_of rfl) (gq_some rfl rfl (by simp) rfl (fun v w h => h)) (List.mem_iff_getElem?.2 ⟨1, rfl⟩) (.inl rfl) (Nat.le_of_ble_eq_true rfl) (sq_in 5 rfl rfl (by simp) rfl (fun v w h => h)) (fun us w hl h => ld_pd hl h)
  · exact q_call1 (F := (Fq.num (b.den : Int)).P) hp (free_of rfl) (gq_some rfl rfl (by simp) rfl (fun v w h => h)) (enq_Sign) (sq_in 6 rfl rfl (by simp) rfl (fun v w h => h)) (fun v w h => exSign h)
  · exact q_one (F := fun v _ => v = .int .i64 (cmpI (b.den : Int) 0)) hp (free_of rfl) (gq_some rfl rfl (by simp) rfl (fun v w h => h)) (sq_in 7 rfl rfl (by simp) rfl (fun v w h => h)) (fun ρ w hc h => ⟨.bool false, by simp [execOp, go_sem, h, hc, T2.out], rfl⟩)
  · exact q_two (F := fun v _ => v = .bool false) (G := fun v _ => v = .bool false) hp (free_of rfl) trivial (sq_in 4 rfl rfl (by simp) rfl (fun v w h => h)) (sq_in 8 rfl rfl (by simp) rfl (fun v w h => h)) (fun ρ w hc h h' => ⟨_, by simp [execOp, go_sem, h, h'], rfl⟩)
  · exact q_move hp (free_of rfl) trivial (sq_in 9 rfl rfl (by simp) rfl (fun v w h => h))
  · exact q_loadRat hp (free_of rfl) (gq_some rfl rfl (by simp) rfl (fun v w h => h)) (List.mem_iff_getElem?.2 ⟨2, rfl⟩) (.inl rfl) rfl (sq_out rfl rfl (fun _ _ => rfl)) (fun us w hl h => h)
  · exact q_loadRat hp (free_of rfl) (gq_some rfl rfl (by simp) rfl (fun v w h => h)) (List.mem_iff_getElem?.2 ⟨1, rfl⟩) (.inl rfl) rfl (sq_out rfl rfl (fun _ _ => rfl)) (fun us w hl h => h)
  · exact q_call2 (F := (Fq.pair a.num (a.den : Int)).P) (G := (Fq.pair b.num (b.den : Int)).P) hp (free_of rfl) (gq_some rfl rfl (by simp) rfl (fun v w h => h)) (enq_Q_Cmp) (sq_in 11 rfl rfl (by simp) rfl (fun v w h => h)) (sq_in 12 rfl rfl (by simp) rfl (fun v w h => h)) (fun v v' w h h' => exCmpQ h h' (rb_le ha.out (by omega)) (rb_le hb.out (by omega)))
  · exact q_one (F := fun v _ => v = .int .i64 (cmpQ a b)) hp (free_of rfl) (gq_some rfl rfl (by simp) rfl (fun v w h => h)) (sq_in 13 rfl rfl (by simp) rfl (fun v w h => h)) (fun ρ w hc h => ⟨.bool false, by simp [execOp, go_sem, h, hc, T3.out], rfl⟩)
  · exact q_two (F := fun v _ => v = .bool false) (G := fun v _ => v = .bool false) hp (free_of rfl) trivial (sq_in 10 rfl rfl (by simp) rfl (fun v w h => h)) (sq_in 14 rfl rfl (by simp) rfl (fun v w h => h)) (fun ρ w hc h h' => ⟨_, by simp [execOp, go_sem, h, h'], rfl⟩)
  intro L vs w4 nb hL hC hn E4
  have e0 : vs 0 = .pointer (some ⟨b1, 2, none⟩) := hC 0 (by simp)
  have e2 : vs 2 = .int .i64 (cmpI (a.den : Int) 0) := hC 2 (by simp)
  have e3 : vs 3 = .bool false := hC 3 (by simp)
  have e4 : vs 4 = .bool false := hC 4 (by simp)
  have e5 : vs 5 = .pointer (some ⟨b2, 2, none⟩) := hC 5 (by simp)
  have e7 : vs 7 = .int .i64 (cmpI (b.den : Int) 0) := hC 7 (by simp)
  have e8 : vs 8 = .bool false := hC 8 (by simp)
  have e9 : vs 9 = .bool false := hC 9 (by simp)
  have e10 : vs 10 = .bool false := hC 10 (by simp)
  have e13 : vs 13 = .int .i64 (cmpQ a b) := hC 13 (by simp)
  have e14 : vs 14 = .bool false := hC 14 (by simp)
  have e15 : vs 15 = .bool false := hC 15 (by simp)
  have E : Fr w [(b3, 4, Fq.pair 0 0), (b2, 4, Fq.pair b.num (b.den : Int)), (b1, 4, Fq.pair a.num (a.den : Int))] w4 := E4
  rw [lay_all hL]
  simp only [putAll, dstOf, List.length_cons, List.length_nil, Nat.zero_add, Nat.reduceAdd, List.getElem?_toArray, List.getElem?_cons_zero, List.getElem?_cons_succ, Option.bind_some, Act.put, List.setIfInBounds_toArray, List.set_cons_succ, List.set_cons_zero]
  rw [e0, e2, e3, e4, e5, e7, e8, e9, e10, e13, e14, e15]
  generalize vs 1 = u4_1
  generalize vs 6 = u4_6
  generalize vs 11 = u4_11
  generalize vs 12 = u4_12
  clear e0 e2 e3 e4 e5 e7 e8 e9 e10 e13 e14 e15 hC hn E4 hL vs L nb
  go_upto_region 3 with (fail)
  refine region_fr (C := [Fq.pair a.num (a.den : Int), Fq.is (.int .i64 (cmpI a.num 0)), Fq.is (.bool false), Fq.is (.bool false)]) (ks := [none, none, none]) (new := []) E rfl (by kernel_rfl) rfl rfl (fun hp => ⟨?_, ?_, ?_, ?_, trivial⟩) ?_
  · exact q_loadRat hp (free_of rfl) trivial (List.mem_iff_getElem?.2 ⟨2, rfl⟩) (.inl rfl) rfl (sq_out rfl rfl (fun _ _ => rfl)) (fun us w hl h => h)
  · exact q_call1 (F := (Fq.pair a.num (a.den : Int)).P) hp (free_of rfl) trivial (enq_Q_Sign) (sq_in 0 rfl rfl (by simp) rfl (fun v w h => h)) (fun v w h => exSignQ h)
  · exact q_one (F := fun v _ => v = .int .i64 (cmpI a.num 0)) hp (free_of rfl) trivial (sq_in 1 rfl rfl (by simp) rfl (fun v w h => h)) (fun ρ w hc h => ⟨.bool false, by simp [execOp, go_sem, h, hc, T4.out], rfl⟩)
  · exact q_assign hp (free_of rfl) trivial (sq_in 2 rfl rfl (by simp) rfl (fun v w h => h))
  intro L vs w5 nb hL hC hn E5
  have e1 : vs 1 = .int .i64 (cmpI a.num 0) := hC 1 (by simp)
  have e2 : vs 2 = .bool false := hC 2 (by simp)
  have e3 : vs 3 = .bool false := hC 3 (by simp)
  have E : Fr w [(b3, 4, Fq.pair 0 0), (b2, 4, Fq.pair b.num (b.den : Int)), (b1, 4, Fq.pair a.num (a.den : Int))] w5 := E5
  rw [lay_all hL]
  simp only [putAll, dstOf, List.length_cons, List.length_nil, Nat.zero_add, Nat.reduceAdd, List.getElem?_toArray, List.getElem?_cons_zero, List.getElem?_cons_succ, Option.bind_some, Act.put, List.setIfInBounds_toArray, List.set_cons_succ, List.set_cons_zero]
  rw [e1, e2, e3]
  generalize vs 0 = u5_0
  clear e1 e2 e3 hC hn E5 hL vs L nb
  go_upto_region 5 with (fail)
  refine region_fr (C := [Fq.pair b.num (b.den : Int), Fq.is (.int .i64 (cmpI b.num 0)), Fq.is (.bool false), Fq.is (.bool false)]) (ks := [none, none, none]) (new := []) E rfl (by kernel_rfl) rfl rfl (fun hp => ⟨?_, ?_, ?_, ?_, trivial⟩) ?_
  · exact q_loadRat hp (free_of rfl) trivial (List.mem_iff_getElem?.2 ⟨1, rfl⟩) (.inl rfl) rfl (sq_out rfl rfl (fun _ _ => rfl)) (fun us w hl h => h)
  · exact q_call1 (F := (Fq.pair b.num (b.den : Int)).P) hp (free_of rfl) trivial (enq_Q_Sign) (sq_in 0 rfl rfl (by simp) rfl (fun v w h => h)) (fun v w h => exSignQ h)
  · exact q_one (F := fun v _ => v = .int .i64 (cmpI b.num 0)) hp (free_of rfl) trivial (sq_in 1 rfl rfl (by simp) rfl (fun v w h => h)) (fun ρ w hc h => ⟨.bool false, by simp [execOp, go_sem, h, hc, T5.out], rfl⟩)
  · exact q_assign hp (free_of rfl) trivial (sq_in 2 rfl rfl (by simp) rfl (fun v w h => h))
  intro L vs w6 nb hL hC hn E6
  have e1 : vs 1 = .int .i64 (cmpI b.num 0) := hC 1 (by simp)
  have e2 : vs 2 = .bool false := hC 2 (by simp)
  have e3 : vs 3 = .bool false := hC 3 (by simp)
  have E : Fr w [(b3, 4, Fq.pair 0 0), (b2, 4, Fq.pair b.num (b.den : Int)), (b1, 4, Fq.pair a.num (a.den : Int))] w6 := E6
  rw [lay_all hL]
  simp only [putAll, dstOf, List.length_cons, List.length_nil, Nat.zero_add, Nat.reduceAdd, List.getElem?_toArray, List.getElem?_cons_zero, List.getElem?_cons_succ, Option.bind_some, Act.put, List.setIfInBounds_toArray, List.set_cons_succ, List.set_cons_zero]
  rw [e1, e2, e3]
  generalize vs 0 = u6_0
  clear e1 e2 e3 hC hn E6 hL vs L nb
  clear T1 T2 T3 T4 T5
  go_upto_region 7 with (fail)
  have B7 : Hid (ab ((1)) < pw 3) := ab_lit (by decide)
  refine region_fr (C := [Fq.num (1), Fq.pair 0 (1), Fq.any, Fq.is (.int .i64 0)]) (ks := [some (2, Fq.pair 0 (1)), none, none]) (new := []) E rfl (by kernel_rfl) rfl rfl (fun hp => ⟨?_, ?_, ?_, ?_, trivial⟩) ?_
  · exact q_call1 (F := (Fq.is (.int .i64 1)).P) hp (free_of rfl) trivial (enq_Of) (sq_const (fun _ => rfl)) (fun v w h => (by subst h; exact OfK w (1) (by omega) (by omega)))
  · exact q_buildRat1 (d0 := (1)) hp (free_of rfl) trivial (sq_in 0 rfl rfl (by simp) rfl (fun v w h => h)) (fun v w h => h)
  · exact q_storeOldRat hp (List.mem_iff_getElem?.2 ⟨0, rfl⟩) rfl rfl (sq_out rfl rfl (fun _ _ => rfl)) (sq_in 1 rfl rfl (by simp) rfl (fun v w h => ratV_pair h)) (fun _ _ => trivial) (newik_ne rfl)
  · exact q_assign hp (free_of rfl) trivial (sq_const (fun _ => rfl))
  intro L vs w8 nb hL hC hn E8
  have e3 : vs 3 = .int .i64 0 := hC 3 (by simp)
  have E : Fr w [(b3, 4, Fq.pair 0 (1)), (b2, 4, Fq.pair b.num (b.den : Int)), (b1, 4, Fq.pair a.num (a.den : Int))] w8 := E8
  rw [lay_all hL]
  simp only [putAll, dstOf, List.length_cons, List.length_nil, Nat.zero_add, Nat.reduceAdd, List.getElem?_toArray, List.getElem?_cons_zero, List.getElem?_cons_succ, Option.bind_some, Act.put, List.setIfInBounds_toArray, List.set_cons_succ, List.set_cons_zero]
  rw [e3]
  generalize vs 0 = u8_0
  generalize vs 1 = u8_1
  clear e3 hC hn E8 hL vs L nb
  obtain ⟨p0, p1, p2, p3, c0, c1, c2, c3, hP⟩ := box_pair (E.box 0 rfl)
  clear B7 ha hb
  go_wp2
  refine bodyPost_ret (v := .tuple #[.agg #[p0, p1, p2, p3], .int .i64 0]) ?_ rfl ⟨_, rfl, E.below, ⟨_, _, rfl, hP, rfl⟩⟩
  simp [results, Tryz.results42, go_sem, c0, c1, c2, c3]

theorem neg_le {a b : Rat} (h0 : b.num < 0) (hle : a ≤ b) : ¬ 0 < a.num := by
  intro h
  have h1 := (Rat.le_iff _ _).1 hle
  have h5 := Int.mul_pos h (den_pos b)
  have h6 := Int.mul_neg_of_neg_of_pos h0 (den_pos a)
  omega

set_option maxRecDepth 100000 in
set_option maxHeartbeats 4000000 in
theorem exBetN {w : World} {v v' : Value} {a b : Rat} (h : Pair w v a.num a.den) (h' : Pair w v' b.num b.den) (ha : Rb a 200) (hb : Rb b 200) (h0 : b.num < 0) (hle : a ≤ b) :
    Calls Tryz.prog 42 #[v, v'] w fun e w' => ∃ v', e = .returned v' ∧ Below w.heap.size w w' ∧ (Fq.tup2 (Fq.pair (-(simQ (-b) (-a))).num ((-(simQ (-b) (-a))).den : Int)) (Fq.is (.int .i64 0))).P v' w' := by
  replace ha := hidd ha
  replace hb := hidd hb
  obtain ⟨n0, ao0, k0, c0, n0', ao0', k0', c0', rfl, _⟩ := ratV_pair h
  obtain ⟨n1, ao1, k1, c1, n1', ao1', k1', c1', rfl, _⟩ := ratV_pair h'
  obtain ⟨w1, b1, hw1, hb1, hs1, E⟩ := fr_start w (F := Fq.pair a.num (a.den : Int)) (us := [.bool n0, .slice ao0 k0 c0, .bool n0', .slice ao0' k0' c0']) 31 rfl (by simp) (tame_rat _ _ _ _ _ _ _ _) h
  obtain ⟨w2, b2, hw2, hb2, hs2, E⟩ := fr_more E hs1 (F := Fq.pair b.num (b.den : Int)) (us := [.bool n1, .slice ao1 k1 c1, .bool n1', .slice ao1' k1' c1']) 31 rfl (by simp) (tame_rat _ _ _ _ _ _ _ _) (h'.mono E.below)
  obtain ⟨w3, b3, hw3, hb3, hs3, E⟩ := fr_more E hs2 (F := Fq.pair 0 0) (us := [.bool false, .slice none 0 0, .bool false, .slice none 0 0]) 31 rfl (by simp) (tame_rat _ _ _ _ _ _ _ _) (Pair.zero _)
  go_enter Tryz.func42, Tryz.ntmps42
  go_upto_region 1 with (fail)
  rw [← hw1]
  rw [← hw2]
  rw [← hw3]
  rw [← hb3]
  rw [← hb2]
  rw [← hb1]
  clear hw1 hw2 hw3 hb1 hb2 hb3 hs3 hs1 hs2
  have T1 : Hid (¬ cmpI (a.den : Int) 0 ≤ 0) := by show ¬ _; have := cmpIqgt.2 (den_pos a); omega
  have T2 : Hid (¬ cmpI (b.den : Int) 0 ≤ 0) := by show ¬ _; have := cmpIqgt.2 (den_pos b); omega
  have T3 : Hid (¬ 0 < cmpQ a b) := fun e => Rat.not_lt.2 hle (cmpQ_gt.1 e)
  have T4 : Hid (¬ 0 < cmpI a.num 0) := fun e => neg_le h0 hle (cmpIqgt.1 e)
  have T5 : Hid (cmpI b.num 0 < 0) := cmpIqlt.2 h0
  have P0 : Hid (0 < (-b).num) := by show 0 < _; rw [Rat.neg_num]; omega
  have PL : Hid (-b ≤ -a) := Rat.neg_le_neg hle
  clear h0 hle
  have Bs : Hid (Rb (simQ (-b) (-a)) 200) := simQ_rb P0.out PL.out (rb_neg hb.out) (rb_neg ha.out)
  refine region_fr (C := [Fq.is (.pointer (some ⟨b1, 2, none⟩)), Fq.num (a.den : Int), Fq.is (.int .i64 (cmpI (a.den : Int) 0)), Fq.is (.bool false), Fq.is (.bool false), Fq.is (.pointer (some ⟨b2, 2, none⟩)), Fq.num (b.den : Int), Fq.is (.int .i64 (cmpI (b.den : Int) 0)), Fq.is (.bool false), Fq.is (.bool false), Fq.is (.bool false), Fq.pair a.num (a.den : Int), Fq.pair b.num (b.den : Int), Fq.is (.int .i64 (cmpQ a b)), Fq.is (.bool false), Fq.is (.bool false)]) (ks := [none, none, none]) (new := []) E rfl (by kernel_rfl) rfl rfl (fun hp => ⟨?_, ?_, ?_, ?_, ?_, ?_, ?_, ?_, ?_, ?_, ?_, ?_, ?_, ?_, ?_, ?_, trivial⟩) ?_
  · exact q_addr (b := b1) (off := 0) (off' := 2) hp (free_of rfl) trivial (sq_out rfl rfl (fun _ _ => rfl)) (fun ρ w h => by simp [execOp, go_sem, h]) (fun _ => rfl)
  · exact q_loadInt (off := 2) hp (free_of rfl) trivial (List.mem_iff_getElem?.2 ⟨2, rfl⟩) (.inl rfl) (Nat.le_of_ble_eq_true rfl) (sq_in 0 rfl rfl (by simp) rfl (fun v w h => h)) (fun us w hl h => ld_pd hl h)
  · exact q_call1 (F := (Fq.num (a.den : Int)).P) hp (free_of rfl) trivial (enq_Sign) (sq_in 1 rfl rfl (by simp) rfl (fun v w h => h)) (fun v w h => exSign h)
  · exact q_one (F := fun v _ => v = .int .i64 (cmpI (a.den : Int) 0)) hp (free_of rfl) trivial (sq_in 2 rfl rfl (by simp) rfl (fun v w h => h)) (fun ρ w hc h => ⟨.bool false, by simp [execOp, go_sem, h, hc, T1.out], rfl⟩)
  · exact q_move hp (free_of rfl) trivial (sq_in 3 rfl rfl (by simp) rfl (fun v w h => h))
  · exact q_addr (b := b2) (off := 0) (off' := 2) hp (free_of rfl) (gq_some rfl rfl (by simp) rfl (fun v w h => h)) (sq_out rfl rfl (fun _ _ => rfl)) (fun ρ w h => by simp [execOp, go_sem, h]) (fun _ => rfl)
  · exact q_loadInt (off := 2) hp (free_of rfl) (gq_some rfl rfl (by simp) rfl (fun v w h => h)) (List.mem_iff_getElem?.2 ⟨1, rfl⟩) (.inl rfl) (Nat.le_of_ble_eq_true rfl) (sq_in 5 rfl rfl (by simp) rfl (fun v w h => h)) (fun us w hl h => ld_pd hl h)
  · exact q_call1 (F := (Fq.num (b.den : Int)).P) hp (free_of rfl) (gq_some rfl rfl (by simp) rfl (fun v w h => h)) (enq_Sign) (sq_in 6 rfl rfl (by simp) rfl (fun v w h => h)) (fun v w h => exSign h)
  · exact q_one (F := fun v _ => v = .int .i64 (cmpI (b.den : Int) 0)) hp (free_of rfl) (gq_some rfl rfl (by simp) rfl (fun v w h => h)) (sq_in 7 rfl rfl (by simp) rfl (fun v w h => h)) (fun ρ w hc h => ⟨.bool false, by simp [execOp, go_sem, h, hc, T2.out], rfl⟩)
  · exact q_two (F := fun v _ => v = .bool false) (G := fun v _ => v = .bool false) hp (free_of rfl) trivial (sq_in 4 rfl rfl (by simp) rfl (fun v w h => h)) (sq_in 8 rfl rfl (by simp) rfl (fun v w h => h)) (fun ρ w hc h h' => ⟨_, by simp [execOp, go_sem, h, h'], rfl⟩)
  · exact q_move hp (free_of rfl) trivial (sq_in 9 rfl rfl (by simp) rfl (fun v w h => h))
  · exact q_loadRat hp (free_of rfl) (gq_some rfl rfl (by simp) rfl (fun v w h => h)) (List.mem_iff_getElem?.2 ⟨2, rfl⟩) (.inl rfl) rfl (sq_out rfl rfl (fun _ _ => rfl)) (fun us w hl h => h)
  · exact q_loadRat hp (free_of rfl) (gq_some rfl rfl (by simp) rfl (fun v w h => h)) (List.mem_iff_getElem?.2 ⟨1, rfl⟩) (.inl rfl) rfl (sq_out rfl rfl (fun _ _ => rfl)) (fun us w hl h => h)
  · exact q_call2 (F := (Fq.pair a.num (a.den : Int)).P) (G := (Fq.pair b.num (b.den : Int)).P) hp (free_of rfl) (gq_some rfl rfl (by simp) rfl (fun v w h => h)) (enq_Q_Cmp) (sq_in 11 rfl rfl (by simp) rfl (fun v w h => h)) (sq_in 12 rfl rfl (by simp) rfl (fun v w h => h)) (fun v v' w h h' => exCmpQ h h' (rb_le ha.out (by omega)) (rb_le hb.out (by omega)))
  · exact q_one (F := fun v _ => v = .int .i64 (cmpQ a b)) hp (free_of rfl) (gq_some rfl rfl (by simp) rfl (fun v w h => h)) (sq_in 13 rfl rfl (by simp) rfl (fun v w h => h)) (fun ρ w hc h => ⟨.bool false, by simp [execOp, go_sem, h, hc, T3.out], rfl⟩)
  · exact q_two (F := fun v _ => v = .bool false) (G := fun v _ => v = .bool false) hp (free_of rfl) trivial (sq_in 10 rfl rfl (by simp) rfl (fun v w h => h)) (sq_in 14 rfl rfl (by simp) rfl (fun v w h => h)) (fun ρ w hc h h' => ⟨_, by simp [execOp, go_sem, h, h'], rfl⟩)
  intro L vs w4 nb hL hC hn E4
  have e0 : vs 0 = .pointer (some ⟨b1, 2, none⟩) := hC 0 (by simp)
  have e2 : vs 2 = .int .i64 (cmpI (a.den : Int) 0) := hC 2 (by simp)
  have e3 : vs 3 = .bool false := hC 3 (by simp)
  have e4 : vs 4 = .bool false := hC 4 (by simp)
  have e5 : vs 5 = .pointer (some ⟨b2, 2, none⟩) := hC 5 (by simp)
  have e7 : vs 7 = .int .i64 (cmpI (b.den : Int) 0) := hC 7 (by simp)
  have e8 : vs 8 = .bool false := hC 8 (by simp)
  have e9 : vs 9 = .bool false := hC 9 (by simp)
  have e10 : vs 10 = .bool false := hC 10 (by simp)
  have e13 : vs 13 = .int .i64 (cmpQ a b) := hC 13 (by simp)
  have e14 : vs 14 = .bool false := hC 14 (by simp)
  have e15 : vs 15 = .bool false := hC 15 (by simp)
  have E : Fr w [(b3, 4, Fq.pair 0 0), (b2, 4, Fq.pair b.num (b.den : Int)), (b1, 4, Fq.pair a.num (a.den : Int))] w4 := E4
  rw [lay_all hL]
  simp only [putAll, dstOf, List.length_cons, List.length_nil, Nat.zero_add, Nat.reduceAdd, List.getElem?_toArray, List.getElem?_cons_zero, List.getElem?_cons_succ, Option.bind_some, Act.put, List.setIfInBounds_toArray, List.set_cons_succ, List.set_cons_zero]
  rw [e0, e2, e3, e4, e5, e7, e8, e9, e10, e13, e14, e15]
  generalize vs 1 = u4_1
  generalize vs 6 = u4_6
  generalize vs 11 = u4_11
  generalize vs 12 = u4_12
  clear e0 e2 e3 e4 e5 e7 e8 e9 e10 e13 e14 e15 hC hn E4 hL vs L nb
  go_upto_region 3 with (fail)
  refine region_fr (C := [Fq.pair a.num (a.den : Int), Fq.is (.int .i64 (cmpI a.num 0)), Fq.is (.bool false), Fq.is (.bool false)]) (ks := [none, none, none]) (new := []) E rfl (by kernel_rfl) rfl rfl (fun hp => ⟨?_, ?_, ?_, ?_, trivial⟩) ?_
  · exact q_loadRat hp (free_of rfl) trivial (List.mem_iff_getElem?.2 ⟨2, rfl⟩) (.inl rfl) rfl (sq_out rfl rfl (fun _ _ => rfl)) (fun us w hl h => h)
  · exact q_call1 (F := (Fq.pair a.num (a.den : Int)).P) hp (free_of rfl) trivial (enq_Q_Sign) (sq_in 0 rfl rfl (by simp) rfl (fun v w h => h)) (fun v w h => exSignQ h)
  · exact q_one (F := fun v _ => v = .int .i64 (cmpI a.num 0)) hp (free_of rfl) trivial (sq_in 1 rfl rfl (by simp) rfl (fun v w h => h)) (fun ρ w hc h => ⟨.bool false, by simp [execOp, go_sem, h, hc, T4.out], rfl⟩)
  · exact q_assign hp (free_of rfl) trivial (sq_in 2 rfl rfl (by simp) rfl (fun v w h => h))
  intro L vs w5 nb hL hC hn E5
  have e1 : vs 1 = .int .i64 (cmpI a.num 0) := hC 1 (by simp)
  have e2 : vs 2 = .bool false := hC 2 (by simp)
  have e3 : vs 3 = .bool false := hC 3 (by simp)
  have E : Fr w [(b3, 4, Fq.pair 0 0), (b2, 4, Fq.pair b.num (b.den : Int)), (b1, 4, Fq.pair a.num (a.den : Int))] w5 := E5
  rw [lay_all hL]
  simp only [putAll, dstOf, List.length_cons, List.length_nil, Nat.zero_add, Nat.reduceAdd, List.getElem?_toArray, List.getElem?_cons_zero, List.getElem?_cons_succ, Option.bind_some, Act.put, List.setIfInBounds_toArray, List.set_cons_succ, List.set_cons_zero]
  rw [e1, e2, e3]
  generalize vs 0 = u5_0
  clear e1 e2 e3 hC hn E5 hL vs L nb
  go_upto_region 5 with (fail)
  refine region_fr (C := [Fq.pair b.num (b.den : Int), Fq.is (.int .i64 (cmpI b.num 0)), Fq.is (.bool true), Fq.is (.bool true)]) (ks := [none, none, none]) (new := []) E rfl (by kernel_rfl) rfl rfl (fun hp => ⟨?_, ?_, ?_, ?_, trivial⟩) ?_
  · exact q_loadRat hp (free_of rfl) trivial (List.mem_iff_getElem?.2 ⟨1, rfl⟩) (.inl rfl) rfl (sq_out rfl rfl (fun _ _ => rfl)) (fun us w hl h => h)
  · exact q_call1 (F := (Fq.pair b.num (b.den : Int)).P) hp (free_of rfl) trivial (enq_Q_Sign) (sq_in 0 rfl rfl (by simp) rfl (fun v w h => h)) (fun v w h => exSignQ h)
  · exact q_one (F := fun v _ => v = .int .i64 (cmpI b.num 0)) hp (free_of rfl) trivial (sq_in 1 rfl rfl (by simp) rfl (fun v w h => h)) (fun ρ w hc h => ⟨.bool true, by simp [execOp, go_sem, h, hc, T5.out], rfl⟩)
  · exact q_assign hp (free_of rfl) trivial (sq_in 2 rfl rfl (by simp) rfl (fun v w h => h))
  intro L vs w6 nb hL hC hn E6
  have e1 : vs 1 = .int .i64 (cmpI b.num 0) := hC 1 (by simp)
  have e2 : vs 2 = .bool true := hC 2 (by simp)
  have e3 : vs 3 = .bool true := hC 3 (by simp)
  have E : Fr w [(b3, 4, Fq.pair 0 0), (b2, 4, Fq.pair b.num (b.den : Int)), (b1, 4, Fq.pair a.num (a.den : Int))] w6 := E6
  rw [lay_all hL]
  simp only [putAll, dstOf, List.length_cons, List.length_nil, Nat.zero_add, Nat.reduceAdd, List.getElem?_toArray, List.getElem?_cons_zero, List.getElem?_cons_succ, Option.bind_some, Act.put, List.setIfInBounds_toArray, List.set_cons_succ, List.set_cons_zero]
  rw [e1, e2, e3]
  generalize vs 0 = u6_0
  clear e1 e2 e3 hC hn E6 hL vs L nb
  clear T1 T2 T3 T4 T5
  go_upto_region 6 with (fail)
  have B7 : Hid (Rb (-b) 200) := rb_neg hb.out
  have B8 : Hid (Rb (-a) 200) := rb_neg ha.out
  have B9 : Hid (Rb (-(simQ (-b) (-a))) 200) := rb_neg Bs.out
  refine region_fr (C := [Fq.pair b.num (b.den : Int), Fq.pair (-b).num ((-b).den : Int), Fq.pair a.num (a.den : Int), Fq.pair (-a).num ((-a).den : Int), Fq.pair (simQ (-b) (-a)).num ((simQ (-b) (-a)).den : Int), Fq.pair (-(simQ (-b) (-a))).num ((-(simQ (-b) (-a))).den : Int), Fq.any, Fq.is (.int .i64 0)]) (ks := [some (6, Fq.pair (-(simQ (-b) (-a))).num ((-(simQ (-b) (-a))).den : Int)), none, none]) (new := []) E rfl (by kernel_rfl) rfl rfl (fun hp => ⟨?_, ?_, ?_, ?_, ?_, ?_, ?_, ?_, trivial⟩) ?_
  · exact q_loadRat hp (free_of rfl) trivial (List.mem_iff_getElem?.2 ⟨1, rfl⟩) (.inl rfl) rfl (sq_out rfl rfl (fun _ _ => rfl)) (fun us w hl h => h)
  · exact q_call1 (F := (Fq.pair b.num (b.den : Int)).P) hp (free_of rfl) trivial (enq_Q_opposite) (sq_in 0 rfl rfl (by simp) rfl (fun v w h => h)) (fun v w h => exOppQ h (rb_le hb.out (by omega)))
  · exact q_loadRat hp (free_of rfl) trivial (List.mem_iff_getElem?.2 ⟨2, rfl⟩) (.inl rfl) rfl (sq_out rfl rfl (fun _ _ => rfl)) (fun us w hl h => h)
  · exact q_call1 (F := (Fq.pair a.num (a.den : Int)).P) hp (free_of rfl) trivial (enq_Q_opposite) (sq_in 2 rfl rfl (by simp) rfl (fun v w h => h)) (fun v w h => exOppQ h (rb_le ha.out (by omega)))
  · exact q_call2 (F := (Fq.pair (-b).num ((-b).den : Int)).P) (G := (Fq.pair (-a).num ((-a).den : Int)).P) hp (free_of rfl) trivial (enq_Q_simplest) (sq_in 1 rfl rfl (by simp) rfl (fun v w h => h)) (sq_in 3 rfl rfl (by simp) rfl (fun v w h => h)) (fun v v' w h h' => exSimQ h h' (rb_le B7.out (by omega)) (rb_le B8.out (by omega)) P0.out PL.out)
  · exact q_call1 (F := (Fq.pair (simQ (-b) (-a)).num ((simQ (-b) (-a)).den : Int)).P) hp (free_of rfl) trivial (enq_Q_opposite) (sq_in 4 rfl rfl (by simp) rfl (fun v w h => h)) (fun v w h => exOppQ h (rb_le Bs.out (by omega)))
  · exact q_storeOldRat hp (List.mem_iff_getElem?.2 ⟨0, rfl⟩) rfl rfl (sq_out rfl rfl (fun _ _ => rfl)) (sq_in 5 rfl rfl (by simp) rfl (fun v w h => ratV_pair h)) (fun _ _ => trivial) (newik_ne rfl)
  · exact q_assign hp (free_of rfl) trivial (sq_const (fun _ => rfl))
  intro L vs w10 nb hL hC hn E10
  have e7 : vs 7 = .int .i64 0 := hC 7 (by simp)
  have E : Fr w [(b3, 4, Fq.pair (-(simQ (-b) (-a))).num ((-(simQ (-b) (-a))).den : Int)), (b2, 4, Fq.pair b.num (b.den : Int)), (b1, 4, Fq.pair a.num (a.den : Int))] w10 := E10
  rw [lay_all hL]
  simp only [putAll, dstOf, List.length_cons, List.length_nil, Nat.zero_add, Nat.reduceAdd, List.getElem?_toArray, List.getElem?_cons_zero, List.getElem?_cons_succ, Option.bind_some, Act.put, List.setIfInBounds_toArray, List.set_cons_succ, List.set_cons_zero]
  rw [e7]
  generalize vs 0 = u10_0
  generalize vs 1 = u10_1
  generalize vs 2 = u10_2
  generalize vs 3 = u10_3
  generalize vs 4 = u10_4
  generalize vs 5 = u10_5
  clear e7 hC hn E10 hL vs L nb
  clear P0 PL Bs
  obtain ⟨p0, p1, p2, p3, c0, c1, c2, c3, hP⟩ := box_pair (E.box 0 rfl)
  clear B7 B8 B9 ha hb
  go_wp2
  refine bodyPost_ret (v := .tuple #[.agg #[p0, p1, p2, p3], .int .i64 0]) ?_ rfl ⟨_, rfl, E.below, ⟨_, _, rfl, hP, rfl⟩⟩
  simp [results, Tryz.results42, go_sem, c0, c1, c2, c3]

set_option maxRecDepth 100000 in
set_option maxHeartbeats 4000000 in
theorem exSBetA {w : World} {v v' : Value} {a b : Rat} (h : Pair w v a.num a.den) (h' : Pair w v' b.num b.den) (ha : Rb a 200) (hb : Rb b 200) (hlt : b < a) :
    Calls Tryz.prog 43 #[v, v'] w fun e w' => ∃ v', e = .returned v' ∧ Below w.heap.size w w' ∧ (Fq.tup2 (Fq.pair 0 0) (Fq.is (.int .i64 1))).P v' w' := by
  replace ha := hidd ha
  replace hb := hidd hb
  obtain ⟨n0, ao0, k0, c0, n0', ao0', k0', c0', rfl, _⟩ := ratV_pair h
  obtain ⟨n1, ao1, k1, c1, n1', ao1', k1', c1', rfl, _⟩ := ratV_pair h'
  obtain ⟨w1, b1, hw1, hb1, hs1, E⟩ := fr_start w (F := Fq.pair a.num (a.den : Int)) (us := [.bool n0, .slice ao0 k0 c0, .bool n0', .slice ao0' k0' c0']) 31 rfl (by simp) (tame_rat _ _ _ _ _ _ _ _) h
  obtain ⟨w2, b2, hw2, hb2, hs2, E⟩ := fr_more E hs1 (F := Fq.pair b.num (b.den : Int)) (us := [.bool n1, .slice ao1 k1 c1, .bool n1', .slice ao1' k1' c1']) 31 rfl (by simp) (tame_rat _ _ _ _ _ _ _ _) (h'.mono E.below)
  obtain ⟨w3, b3, hw3, hb3, hs3, E⟩ := fr_more E hs2 (F := Fq.pair 0 0) (us := [.bool false, .slice none 0 0, .bool false, .slice none 0 0]) 31 rfl (by simp) (tame_rat _ _ _ _ _ _ _ _) (Pair.zero _)
  go_enter Tryz.func43, Tryz.ntmps43
  go_upto_region 1 with (fail)
  rw [← hw1]
  rw [← hw2]
  rw [← hw3]
  rw [← hb3]
  rw [← hb2]
  rw [← hb1]
  clear hw1 hw2 hw3 hb1 hb2 hb3 hs3 hs1 hs2
  have T3 : Hid (0 < cmpQ a b) := cmpQ_gt.2 hlt
  clear hlt
  refine region_fr (C := [Fq.pair a.num (a.den : Int), Fq.pair b.num (b.den : Int), Fq.is (.int .i64 (cmpQ a b)), Fq.is (.bool true)]) (ks := [none, none, none]) (new := []) E rfl (by kernel_rfl) rfl rfl (fun hp => ⟨?_, ?_, ?_, ?_, trivial⟩) ?_
  · exact q_loadRat hp (free_of rfl) trivial (List.mem_iff_getElem?.2 ⟨2, rfl⟩) (.inl rfl) rfl (sq_out rfl rfl (fun _ _ => rfl)) (fun us w hl h => h)
  · exact q_loadRat hp (free_of rfl) trivial (List.mem_iff_getElem?.2 ⟨1, rfl⟩) (.inl rfl) rfl (sq_out rfl rfl (fun _ _ => rfl)) (fun us w hl h => h)
  · exact q_call2 (F := (Fq.pair a.num (a.den : Int)).P) (G := (Fq.pair b.num (b.den : Int)).P) hp (free_of rfl) trivial (enq_S_Cmp) (sq_in 0 rfl rfl (by simp) rfl (fun v w h => h)) (sq_in 1 rfl rfl (by simp) rfl (fun v w h => h)) (fun v v' w h h' => exSCmpQ h h' (rb_le ha.out (by omega)) (rb_le hb.out (by omega)))
  · exact q_one (F := fun v _ => v = .int .i64 (cmpQ a b)) hp (free_of rfl) trivial (sq_in 2 rfl rfl (by simp) rfl (fun v w h => h)) (fun ρ w hc h => ⟨.bool true, by simp [execOp, go_sem, h, hc, T3.out], rfl⟩)
  intro L vs w4 nb hL hC hn E4
  have e2 : vs 2 = .int .i64 (cmpQ a b) := hC 2 (by simp)
  have e3 : vs 3 = .bool true := hC 3 (by simp)
  have E : Fr w [(b3, 4, Fq.pair 0 0), (b2, 4, Fq.pair b.num (b.den : Int)), (b1, 4, Fq.pair a.num (a.den : Int))] w4 := E4
  rw [lay_all hL]
  simp only [putAll, dstOf, List.length_cons, List.length_nil, Nat.zero_add, Nat.reduceAdd, List.getElem?_toArray, List.getElem?_cons_zero, List.getElem?_cons_succ, Option.bind_some, Act.put, List.setIfInBounds_toArray, List.set_cons_succ, List.set_cons_zero]
  rw [e2, e3]
  generalize vs 0 = u4_0
  generalize vs 1 = u4_1
  clear e2 e3 hC hn E4 hL vs L nb
  clear T3
  go_upto_region 2 with (fail)
  refine region_fr (C := [Fq.pair 0 0, Fq.any, Fq.is (.int .i64 1)]) (ks := [some (1, Fq.pair 0 0), none, none]) (new := []) E rfl (by kernel_rfl) rfl rfl (fun hp => ⟨?_, ?_, ?_, trivial⟩) ?_
  · exact q_zeroRat hp (free_of rfl) trivial (fun v w h => h)
  · exact q_storeOldRat hp (List.mem_iff_getElem?.2 ⟨0, rfl⟩) rfl rfl (sq_out rfl rfl (fun _ _ => rfl)) (sq_in 0 rfl rfl (by simp) rfl (fun v w h => ratV_pair h)) (fun _ _ => trivial) (newik_ne rfl)
  · exact q_assign hp (free_of rfl) trivial (sq_const (fun _ => rfl))
  intro L vs w5 nb hL hC hn E5
  have e2 : vs 2 = .int .i64 1 := hC 2 (by simp)
  have E : Fr w [(b3, 4, Fq.pair 0 0), (b2, 4, Fq.pair b.num (b.den : Int)), (b1, 4, Fq.pair a.num (a.den : Int))] w5 := E5
  rw [lay_all hL]
  simp only [putAll, dstOf, List.length_cons, List.length_nil, Nat.zero_add, Nat.reduceAdd, List.getElem?_toArray, List.getElem?_cons_zero, List.getElem?_cons_succ, Option.bind_some, Act.put, List.setIfInBounds_toArray, List.set_cons_succ, List.set_cons_zero]
  rw [e2]
  generalize vs 0 = u5_0
  clear e2 hC hn E5 hL vs L nb
  obtain ⟨p0, p1, p2, p3, c0, c1, c2, c3, hP⟩ := box_pair (E.box 0 rfl)
  clear ha hb
  go_wp2
  refine bodyPost_ret (v := .tuple #[.agg #[p0, p1, p2, p3], .int .i64 1]) ?_ rfl ⟨_, rfl, E.below, ⟨_, _, rfl, hP, rfl⟩⟩
  simp [results, Tryz.results43, go_sem, c0, c1, c2, c3]

set_option maxRecDepth 100000 in
set_option maxHeartbeats 4000000 in
theorem exSBetZ {w : World} {v v' : Value} {a b : Rat} (h : Pair w v a.num a.den) (h' : Pair w v' b.num b.den) (ha : Rb a 200) (hb : Rb b 200) (h0 : a.num ≤ 0) (h1 : 0 ≤ b.num) (hle : a ≤ b) :
    Calls Tryz.prog 43 #[v, v'] w fun e w' => ∃ v', e = .returned v' ∧ Below w.heap.size w w' ∧ (Fq.tup2 (Fq.pair (0 : Rat).num ((0 : Rat).den : Int)) (Fq.is (.int .i64 0))).P v' w' := by
  replace ha := hidd ha
  replace hb := hidd hb
  obtain ⟨n0, ao0, k0, c0, n0', ao0', k0', c0', rfl, _⟩ := ratV_pair h
  obtain ⟨n1, ao1, k1, c1, n1', ao1', k1', c1', rfl, _⟩ := ratV_pair h'
  obtain ⟨w1, b1, hw1, hb1, hs1, E⟩ := fr_start w (F := Fq.pair a.num (a.den : Int)) (us := [.bool n0, .slice ao0 k0 c0, .bool n0', .slice ao0' k0' c0']) 31 rfl (by simp) (tame_rat _ _ _ _ _ _ _ _) h
  obtain ⟨w2, b2, hw2, hb2, hs2, E⟩ := fr_more E hs1 (F := Fq.pair b.num (b.den : Int)) (us := [.bool n1, .slice ao1 k1 c1, .bool n1', .slice ao1' k1' c1']) 31 rfl (by simp) (tame_rat _ _ _ _ _ _ _ _) (h'.mono E.below)
  obtain ⟨w3, b3, hw3, hb3, hs3, E⟩ := fr_more E hs2 (F := Fq.pair 0 0) (us := [.bool false, .slice none 0 0, .bool false, .slice none 0 0]) 31 rfl (by simp) (tame_rat _ _ _ _ _ _ _ _) (Pair.zero _)
  go_enter Tryz.func43, Tryz.ntmps43
  go_upto_region 1 with (fail)
  rw [← hw1]
  rw [← hw2]
  rw [← hw3]
  rw [← hb3]
  rw [← hb2]
  rw [← hb1]
  clear hw1 hw2 hw3 hb1 hb2 hb3 hs3 hs1 hs2
  have T3 : Hid (¬ 0 < cmpQ a b) := fun e => Rat.not_lt.2 hle (cmpQ_gt.1 e)
  have T4 : Hid (cmpI a.num 0 ≤ 0) := by show _ ≤ _; rcases Int.lt_or_le 0 (cmpI a.num 0) with e | e; (· have := cmpIqgt.1 e; omega); exact e
  have T5 : Hid (0 ≤ cmpI b.num 0) := by show _ ≤ _; rcases Int.lt_or_le (cmpI b.num 0) 0 with e | e; (· have := cmpIqlt.1 e; omega); exact e
  clear h0 h1 hle
  refine region_fr (C := [Fq.pair a.num (a.den : Int), Fq.pair b.num (b.den : Int), Fq.is (.int .i64 (cmpQ a b)), Fq.is (.bool false)]) (ks := [none, none, none]) (new := []) E rfl (by kernel_rfl) rfl rfl (fun hp => ⟨?_, ?_, ?_, ?_, trivial⟩) ?_
  · exact q_loadRat hp (free_of rfl) trivial (List.mem_iff_getElem?.2 ⟨2, rfl⟩) (.inl rfl) rfl (sq_out rfl rfl (fun _ _ => rfl)) (fun us w hl h => h)
  · exact q_loadRat hp (free_of rfl) trivial (List.mem_iff_getElem?.2 ⟨1, rfl⟩) (.inl rfl) rfl (sq_out rfl rfl (fun _ _ => rfl)) (fun us w hl h => h)
  · exact q_call2 (F := (Fq.pair a.num (a.den : Int)).P) (G := (Fq.pair b.num (b.den : Int)).P) hp (free_of rfl) trivial (enq_S_Cmp) (sq_in 0 rfl rfl (by simp) rfl (fun v w h => h)) (sq_in 1 rfl rfl (by simp) rfl (fun v w h => h)) (fun v v' w h h' => exSCmpQ h h' (rb_le ha.out (by omega)) (rb_le hb.out (by omega)))
  · exact q_one (F := fun v _ => v = .int .i64 (cmpQ a b)) hp (free_of rfl) trivial (sq_in 2 rfl rfl (by simp) rfl (fun v w h => h)) (fun ρ w hc h => ⟨.bool false, by simp [execOp, go_sem, h, hc, T3.out], rfl⟩)
  intro L vs w4 nb hL hC hn E4
  have e2 : vs 2 = .int .i64 (cmpQ a b) := hC 2 (by simp)
  have e3 : vs 3 = .bool false := hC 3 (by simp)
  have E : Fr w [(b3, 4, Fq.pair 0 0), (b2, 4, Fq.pair b.num (b.den : Int)), (b1, 4, Fq.pair a.num (a.den : Int))] w4 := E4
  rw [lay_all hL]
  simp only [putAll, dstOf, List.length_cons, List.length_nil, Nat.zero_add, Nat.reduceAdd, List.getElem?_toArray, List.getElem?_cons_zero, List.getElem?_cons_succ, Option.bind_some, Act.put, List.setIfInBounds_toArray, List.set_cons_succ, List.set_cons_zero]
  rw [e2, e3]
  generalize vs 0 = u4_0
  generalize vs 1 = u4_1
  clear e2 e3 hC hn E4 hL vs L nb
  go_upto_region 3 with (fail)
  refine region_fr (C := [Fq.pair a.num (a.den : Int), Fq.is (.int .i64 (cmpI a.num 0)), Fq.is (.bool true), Fq.is (.bool true), Fq.pair b.num (b.den : Int), Fq.is (.int .i64 (cmpI b.num 0)), Fq.is (.bool true), Fq.is (.bool true)]) (ks := [none, none, none]) (new := []) E rfl (by kernel_rfl) rfl rfl (fun hp => ⟨?_, ?_, ?_, ?_, ?_, ?_, ?_, ?_, trivial⟩) ?_
  · exact q_loadRat hp (free_of rfl) trivial (List.mem_iff_getElem?.2 ⟨2, rfl⟩) (.inl rfl) rfl (sq_out rfl rfl (fun _ _ => rfl)) (fun us w hl h => h)
  · exact q_call1 (F := (Fq.pair a.num (a.den : Int)).P) hp (free_of rfl) trivial (enq_S_Sign) (sq_in 0 rfl rfl (by simp) rfl (fun v w h => h)) (fun v w h => exSSignQ h (rb_le ha.out (by omega)))
  · exact q_one (F := fun v _ => v = .int .i64 (cmpI a.num 0)) hp (free_of rfl) trivial (sq_in 1 rfl rfl (by simp) rfl (fun v w h => h)) (fun ρ w hc h => ⟨.bool true, by simp [execOp, go_sem, h, hc, T4.out], rfl⟩)
  · exact q_move hp (free_of rfl) trivial (sq_in 2 rfl rfl (by simp) rfl (fun v w h => h))
  · exact q_loadRat hp (free_of rfl) (gq_some rfl rfl (by simp) rfl (fun v w h => h)) (List.mem_iff_getElem?.2 ⟨1, rfl⟩) (.inl rfl) rfl (sq_out rfl rfl (fun _ _ => rfl)) (fun us w hl h => h)
  · exact q_call1 (F := (Fq.pair b.num (b.den : Int)).P) hp (free_of rfl) (gq_some rfl rfl (by simp) rfl (fun v w h => h)) (enq_S_Sign) (sq_in 4 rfl rfl (by simp) rfl (fun v w h => h)) (fun v w h => exSSignQ h (rb_le hb.out (by omega)))
  · exact q_one (F := fun v _ => v = .int .i64 (cmpI b.num 0)) hp (free_of rfl) (gq_some rfl rfl (by simp) rfl (fun v w h => h)) (sq_in 5 rfl rfl (by simp) rfl (fun v w h => h)) (fun ρ w hc h => ⟨.bool true, by simp [execOp, go_sem, h, hc, T5.out], rfl⟩)
  · exact q_two (F := fun v _ => v = .bool true) (G := fun v _ => v = .bool true) hp (free_of rfl) trivial (sq_in 3 rfl rfl (by simp) rfl (fun v w h => h)) (sq_in 6 rfl rfl (by simp) rfl (fun v w h => h)) (fun ρ w hc h h' => ⟨_, by simp [execOp, go_sem, h, h'], rfl⟩)
  intro L vs w5 nb hL hC hn E5
  have e1 : vs 1 = .int .i64 (cmpI a.num 0) := hC 1 (by simp)
  have e2 : vs 2 = .bool true := hC 2 (by simp)
  have e3 : vs 3 = .bool true := hC 3 (by simp)
  have e5 : vs 5 = .int .i64 (cmpI b.num 0) := hC 5 (by simp)
  have e6 : vs 6 = .bool true := hC 6 (by simp)
  have e7 : vs 7 = .bool true := hC 7 (by simp)
  have E : Fr w [(b3, 4, Fq.pair 0 0), (b2, 4, Fq.pair b.num (b.den : Int)), (b1, 4, Fq.pair a.num (a.den : Int))] w5 := E5
  rw [lay_all hL]
  simp only [putAll, dstOf, List.length_cons, List.length_nil, Nat.zero_add, Nat.reduceAdd, List.getElem?_toArray, List.getElem?_cons_zero, List.getElem?_cons_succ, Option.bind_some, Act.put, List.setIfInBounds_toArray, List.set_cons_succ, List.set_cons_zero]
  rw [e1, e2, e3, e5, e6, e7]
  generalize vs 0 = u5_0
  generalize vs 4 = u5_4
  clear e1 e2 e3 e5 e6 e7 hC hn E5 hL vs L nb
  clear T3 T4 T5
  go_upto_region 4 with (fail)
  have B6 : Hid (Rb (Rat.divInt (0) (1)) 3) := rb_lit (by decide) (by decide) (by decide)
  refine region_fr (C := [Fq.pair (Rat.divInt (0) (1)).num ((Rat.divInt (0) (1)).den : Int), Fq.any, Fq.is (.int .i64 0)]) (ks := [some (1, Fq.pair (Rat.divInt (0) (1)).num ((Rat.divInt (0) (1)).den : Int)), none, none]) (new := []) E rfl (by kernel_rfl) rfl rfl (fun hp => ⟨?_, ?_, ?_, trivial⟩) ?_
  · exact q_call2 (F := (Fq.is (.int .i64 0)).P) (G := (Fq.is (.int .i64 1)).P) hp (free_of rfl) trivial (enq_S_Of) (sq_const (fun _ => rfl)) (sq_const (fun _ => rfl)) (fun v v' w h h' => (by subst h; subst h'; exact exSOf (n := 0) (d := 1) (by decide) (of_lit (by decide)) (of_lit (by decide))))
  · exact q_storeOldRat hp (List.mem_iff_getElem?.2 ⟨0, rfl⟩) rfl rfl (sq_out rfl rfl (fun _ _ => rfl)) (sq_in 0 rfl rfl (by simp) rfl (fun v w h => ratV_pair h)) (fun _ _ => trivial) (newik_ne rfl)
  · exact q_assign hp (free_of rfl) trivial (sq_const (fun _ => rfl))
  intro L vs w7 nb hL hC hn E7
  have e2 : vs 2 = .int .i64 0 := hC 2 (by simp)
  have E : Fr w [(b3, 4, Fq.pair (Rat.divInt (0) (1)).num ((Rat.divInt (0) (1)).den : Int)), (b2, 4, Fq.pair b.num (b.den : Int)), (b1, 4, Fq.pair a.num (a.den : Int))] w7 := E7
  rw [lay_all hL]
  simp only [putAll, dstOf, List.length_cons, List.length_nil, Nat.zero_add, Nat.reduceAdd, List.getElem?_toArray, List.getElem?_cons_zero, List.getElem?_cons_succ, Option.bind_some, Act.put, List.setIfInBounds_toArray, List.set_cons_succ, List.set_cons_zero]
  rw [e2]
  generalize vs 0 = u7_0
  clear e2 hC hn E7 hL vs L nb
  obtain ⟨p0, p1, p2, p3, c0, c1, c2, c3, hP⟩ := box_pair (E.box 0 rfl)
  clear B6 ha hb
  go_wp2
  refine bodyPost_ret (v := .tuple #[.agg #[p0, p1, p2, p3], .int .i64 0]) ?_ rfl ⟨_, rfl, E.below, ⟨_, _, rfl, by rw [show Rat.divInt (0) (1) = 0 from by decide +kernel] at hP; exact hP, rfl⟩⟩
  simp [results, Tryz.results43, go_sem, c0, c1, c2, c3]

set_option maxRecDepth 100000 in
set_option maxHeartbeats 4000000 in
theorem exSBetF (N : Nat) : ∀ (w : World) (v v' : Value) (a b : Rat) (h : Pair w v a.num a.den) (h' : Pair w v' b.num b.den) (ha : Rb a 200) (hb : Rb b 200) (h0 : 0 < a.num) (hle : a ≤ b) (hN : simN a b ≤ N),
    Calls Tryz.prog 43 #[v, v'] w fun e w' => ∃ v', e = .returned v' ∧ Below w.heap.size w w' ∧ (Fq.tup2 (Fq.pair (simF N a.num (a.den : Int) b.num (b.den : Int)).1 (simF N a.num (a.den : Int) b.num (b.den : Int)).2) (Fq.is (.int .i64 0))).P v' w' := by
  induction N with
  | zero => intro w v v' a b h h' ha hb h0 hle hN; have := den_pos a; have := den_pos b; exact absurd hN (by unfold simN; omega)
  | succ N ih =>
    intro w v v' a b h h' ha hb h0 hle hN
    have HIH := hidd ih
    clear ih
    replace ha := hidd ha
    replace hb := hidd hb
    obtain ⟨k, hk⟩ : ∃ k, k = a.num / (a.den : Int) := ⟨_, rfl⟩
    have T3 : Hid (¬ 0 < cmpQ a b) := fun e => Rat.not_lt.2 hle (cmpQ_gt.1 e)
    have T4 : Hid (¬ cmpI a.num 0 ≤ 0) := fun e => by have := cmpIqgt.2 h0; omega
    have T5 : Hid (¬ cmpI b.num 0 < 0) := fun e => neg_le (cmpIqlt.1 e) hle h0
    have HK := hidd hk
    have H0 := hidd h0
    have HL := hidd hle
    have HN := hidd hN
    have Bk : Hid (ab k < pw 201) := by show _ < _; rw [hk]; exact ab_divB ha.out.1 (by omega)
    clear hk h0 hle hN
    obtain ⟨n0, ao0, k0, c0, n0', ao0', k0', c0', rfl, _⟩ := ratV_pair h
    obtain ⟨n1, ao1, k1, c1, n1', ao1', k1', c1', rfl, _⟩ := ratV_pair h'
    obtain ⟨w1, b1, hw1, hb1, hs1, E⟩ := fr_start w (F := Fq.pair a.num (a.den : Int)) (us := [.bool n0, .slice ao0 k0 c0, .bool n0', .slice ao0' k0' c0']) 31 rfl (by simp) (tame_rat _ _ _ _ _ _ _ _) h
    obtain ⟨w2, b2, hw2, hb2, hs2, E⟩ := fr_more E hs1 (F := Fq.pair b.num (b.den : Int)) (us := [.bool n1, .slice ao1 k1 c1, .bool n1', .slice ao1' k1' c1']) 31 rfl (by simp) (tame_rat _ _ _ _ _ _ _ _) (h'.mono E.below)
    obtain ⟨w3, b3, hw3, hb3, hs3, E⟩ := fr_more E hs2 (F := Fq.pair 0 0) (us := [.bool false, .slice none 0 0, .bool false, .slice none 0 0]) 31 rfl (by simp) (tame_rat _ _ _ _ _ _ _ _) (Pair.zero _)
    go_enter Tryz.func43, Tryz.ntmps43
    go_upto_region 1 with (fail)
    rw [← hw1]
    rw [← hw2]
    rw [← hw3]
    rw [← hb3]
    rw [← hb2]
    rw [← hb1]
    clear hw1 hw2 hw3 hb1 hb2 hb3 hs3 hs1 hs2
    refine region_fr (C := [Fq.pair a.num (a.den : Int), Fq.pair b.num (b.den : Int), Fq.is (.int .i64 (cmpQ a b)), Fq.is (.bool false)]) (ks := [none, none, none]) (new := []) E rfl (by kernel_rfl) rfl rfl (fun hp => ⟨?_, ?_, ?_, ?_, trivial⟩) ?_
    · exact q_loadRat hp (free_of rfl) trivial (List.mem_iff_getElem?.2 ⟨2, rfl⟩) (.inl rfl) rfl (sq_out rfl rfl (fun _ _ => rfl)) (fun us w hl h => h)
    · exact q_loadRat hp (free_of rfl) trivial (List.mem_iff_getElem?.2 ⟨1, rfl⟩) (.inl rfl) rfl (sq_out rfl rfl (fun _ _ => rfl)) (fun us w hl h => h)
    · exact q_call2 (F := (Fq.pair a.num (a.den : Int)).P) (G := (Fq.pair b.num (b.den : Int)).P) hp (free_of rfl) trivial (enq_S_Cmp) (sq_in 0 rfl rfl (by simp) rfl (fun v w h => h)) (sq_in 1 rfl rfl (by simp) rfl (fun v w h => h)) (fun v v' w h h' => exSCmpQ h h' (rb_le ha.out (by omega)) (rb_le hb.out (by omega)))
    · exact q_one (F := fun v _ => v = .int .i64 (cmpQ a b)) hp (free_of rfl) trivial (sq_in 2 rfl rfl (by simp) rfl (fun v w h => h)) (fun ρ w hc h => ⟨.bool false, by simp [execOp, go_sem, h, hc, T3.out], rfl⟩)
    intro L vs w4 nb hL hC hn E4
    have e2 : vs 2 = .int .i64 (cmpQ a b) := hC 2 (by simp)
    have e3 : vs 3 = .bool false := hC 3 (by simp)
    have E : Fr w [(b3, 4, Fq.pair 0 0), (b2, 4, Fq.pair b.num (b.den : Int)), (b1, 4, Fq.pair a.num (a.den : Int))] w4 := E4
    rw [lay_all hL]
    simp only [putAll, dstOf, List.length_cons, List.length_nil, Nat.zero_add, Nat.reduceAdd, List.getElem?_toArray, List.getElem?_cons_zero, List.getElem?_cons_succ, Option.bind_some, Act.put, List.setIfInBounds_toArray, List.set_cons_succ, List.set_cons_zero]
    rw [e2, e3]
    generalize vs 0 = u4_0
    generalize vs 1 = u4_1
    clear e2 e3 hC hn E4 hL vs L nb
    go_upto_region 3 with (fail)
    refine region_fr (C := [Fq.pair a.num (a.den : Int), Fq.is (.int .i64 (cmpI a.num 0)), Fq.is (.bool false), Fq.is (.bool false), Fq.is (undef), Fq.is (undef), Fq.is (undef), Fq.is (.bool false)]) (ks := [none, none, none]) (new := []) E rfl (by kernel_rfl) rfl rfl (fun hp => ⟨?_, ?_, ?_, ?_, ?_, ?_, ?_, ?_, trivial⟩) ?_
    · exact q_loadRat hp (free_of rfl) trivial (List.mem_iff_getElem?.2 ⟨2, rfl⟩) (.inl rfl) rfl (sq_out rfl rfl (fun _ _ => rfl)) (fun us w hl h => h)
    · exact q_call1 (F := (Fq.pair a.num (a.den : Int)).P) hp (free_of rfl) trivial (enq_S_Sign) (sq_in 0 rfl rfl (by simp) rfl (fun v w h => h)) (fun v w h => exSSignQ h (rb_le ha.out (by omega)))
    · exact q_one (F := fun v _ => v = .int .i64 (cmpI a.num 0)) hp (free_of rfl) trivial (sq_in 1 rfl rfl (by simp) rfl (fun v w h => h)) (fun ρ w hc h => ⟨.bool false, by simp [execOp, go_sem, h, hc, T4.out], rfl⟩)
    · exact q_move hp (free_of rfl) trivial (sq_in 2 rfl rfl (by simp) rfl (fun v w h => h))
    · exact q_skip hp (free_of rfl) rfl (gq_some rfl rfl (by simp) rfl (fun v w h => h)) (fun _ => rfl)
    · exact q_skip hp (free_of rfl) rfl (gq_some rfl rfl (by simp) rfl (fun v w h => h)) (fun _ => rfl)
    · exact q_skip hp (free_of rfl) rfl (gq_some rfl rfl (by simp) rfl (fun v w h => h)) (fun _ => rfl)
    · exact q_two (F := fun v _ => v = .bool false) (G := fun v _ => v = .bool false) hp (free_of rfl) trivial (sq_in 3 rfl rfl (by simp) rfl (fun v w h => h)) (sq_const (fun _ => rfl)) (fun ρ w hc h h' => ⟨_, by simp [execOp, go_sem, h, h'], rfl⟩)
    intro L vs w5 nb hL hC hn E5
    have e1 : vs 1 = .int .i64 (cmpI a.num 0) := hC 1 (by simp)
    have e2 : vs 2 = .bool false := hC 2 (by simp)
    have e3 : vs 3 = .bool false := hC 3 (by simp)
    have e4 : vs 4 = undef := hC 4 (by simp)
    have e5 : vs 5 = undef := hC 5 (by simp)
    have e6 : vs 6 = undef := hC 6 (by simp)
    have e7 : vs 7 = .bool false := hC 7 (by simp)
    have E : Fr w [(b3, 4, Fq.pair 0 0), (b2, 4, Fq.pair b.num (b.den : Int)), (b1, 4, Fq.pair a.num (a.den : Int))] w5 := E5
    rw [lay_all hL]
    simp only [putAll, dstOf, List.length_cons, List.length_nil, Nat.zero_add, Nat.reduceAdd, List.getElem?_toArray, List.getElem?_cons_zero, List.getElem?_cons_succ, Option.bind_some, Act.put, List.setIfInBounds_toArray, List.set_cons_succ, List.set_cons_zero]
    rw [e1, e2, e3, e4, e5, e6, e7]
    generalize vs 0 = u5_0
    clear e1 e2 e3 e4 e5 e6 e7 hC hn E5 hL vs L nb
    go_upto_region 5 with (fail)
    refine region_fr (C := [Fq.pair b.num (b.den : Int), Fq.is (.int .i64 (cmpI b.num 0)), Fq.is (.bool false)]) (ks := [none, none, none]) (new := []) E rfl (by kernel_rfl) rfl rfl (fun hp => ⟨?_, ?_, ?_, trivial⟩) ?_
    · exact q_loadRat hp (free_of rfl) trivial (List.mem_iff_getElem?.2 ⟨1, rfl⟩) (.inl rfl) rfl (sq_out rfl rfl (fun _ _ => rfl)) (fun us w hl h => h)
    · exact q_call1 (F := (Fq.pair b.num (b.den : Int)).P) hp (free_of rfl) trivial (enq_S_Sign) (sq_in 0 rfl rfl (by simp) rfl (fun v w h => h)) (fun v w h => exSSignQ h (rb_le hb.out (by omega)))
    · exact q_one (F := fun v _ => v = .int .i64 (cmpI b.num 0)) hp (free_of rfl) trivial (sq_in 1 rfl rfl (by simp) rfl (fun v w h => h)) (fun ρ w hc h => ⟨.bool false, by simp [execOp, go_sem, h, hc, T5.out], rfl⟩)
    intro L vs w6 nb hL hC hn E6
    have e1 : vs 1 = .int .i64 (cmpI b.num 0) := hC 1 (by simp)
    have e2 : vs 2 = .bool false := hC 2 (by simp)
    have E : Fr w [(b3, 4, Fq.pair 0 0), (b2, 4, Fq.pair b.num (b.den : Int)), (b1, 4, Fq.pair a.num (a.den : Int))] w6 := E6
    rw [lay_all hL]
    simp only [putAll, dstOf, List.length_cons, List.length_nil, Nat.zero_add, Nat.reduceAdd, List.getElem?_toArray, List.getElem?_cons_zero, List.getElem?_cons_succ, Option.bind_some, Act.put, List.setIfInBounds_toArray, List.set_cons_succ, List.set_cons_zero]
    rw [e1, e2]
    generalize vs 0 = u6_0
    clear e1 e2 hC hn E6 hL vs L nb
    clear T3 T4 T5
    go_upto_region 8 with (fail)
    have B7 : Hid (Rb ((k : Int) : Rat) 201) := rb_int Bk.out (by omega)
    refine region_fr (C := [Fq.pair a.num (a.den : Int), Fq.num k, Fq.pair ((k : Int) : Rat).num (((k : Int) : Rat).den : Int), Fq.any, Fq.any]) (ks := [none, none, none]) (new := [⟨3, 4, 4, Fq.pair 0 0, Fq.pair ((k : Int) : Rat).num (((k : Int) : Rat).den : Int), none⟩]) E rfl (by kernel_rfl) rfl rfl (fun hp => ⟨?_, ?_, ?_, ?_, ?_, trivial⟩) ?_
    · exact q_loadRat hp (free_of rfl) trivial (List.mem_iff_getElem?.2 ⟨2, rfl⟩) (.inl rfl) rfl (sq_out rfl rfl (fun _ _ => rfl)) (fun us w hl h => h)
    · exact q_call1 (F := (Fq.pair a.num (a.den : Int)).P) hp (free_of rfl) trivial (enq_S_Floor) (sq_in 0 rfl rfl (by simp) rfl (fun v w h => h)) (fun v w h => (by rw [HK.out, ← Rat.floor_def]; exact exSFloorQ h (rb_le ha.out (by omega))))
    · exact q_call1 (F := (Fq.num k).P) hp (free_of rfl) trivial (enq_S_Whole) (sq_in 1 rfl rfl (by simp) rfl (fun v w h => h)) (fun v w h => exSWhole h (Int.lt_of_lt_of_le Bk.out (pw_le (by omega))))
    · exact q_allocRat hp (List.mem_iff_getElem?.2 ⟨0, rfl⟩) rfl rfl rfl rfl (Nat.ne_of_beq_eq_false rfl) (fun _ _ => trivial) (old_ne rfl) (newk_ne rfl) (fun w => Pair.zero w)
    · exact q_storeNewRat hp (List.mem_iff_getElem?.2 ⟨0, rfl⟩) rfl rfl rfl (own_ptr rfl rfl (by simp) rfl) (sq_in 2 rfl rfl (by simp) rfl (fun v w h => ratV_pair h)) (fun _ _ => trivial) (old_ne rfl) (newi_ne rfl)
    intro L vs w8 nb hL hC hn E8
    have e3 : vs 3 = .pointer (some ⟨nb 3, 0, none⟩) := hn _ (List.mem_iff_getElem?.2 ⟨0, rfl⟩)
    have E : Fr w [(nb 3, 4, Fq.pair ((k : Int) : Rat).num (((k : Int) : Rat).den : Int)), (b3, 4, Fq.pair 0 0), (b2, 4, Fq.pair b.num (b.den : Int)), (b1, 4, Fq.pair a.num (a.den : Int))] w8 := E8
    rw [lay_all hL]
    simp only [putAll, dstOf, List.length_cons, List.length_nil, Nat.zero_add, Nat.reduceAdd, List.getElem?_toArray, List.getElem?_cons_zero, List.getElem?_cons_succ, Option.bind_some, Act.put, List.setIfInBounds_toArray, List.set_cons_succ, List.set_cons_zero]
    rw [e3]
    generalize nb 3 = b8_3 at E ⊢
    generalize vs 0 = u8_0
    generalize vs 1 = u8_1
    generalize vs 2 = u8_2
    clear e3 hC hn E8 hL vs L nb
    by_cases hr : a.num % (a.den : Int) = 0
    · have T6 : Hid (cmpQ ((k : Int) : Rat) a = 0) := cmpQ_eq.2 ((whole_eq HK.out).2 hr)
      have HR := hidd hr
      clear hr
      go_upto_region 9 with (fail)
      refine region_fr (C := [Fq.pair ((k : Int) : Rat).num (((k : Int) : Rat).den : Int), Fq.pair a.num (a.den : Int), Fq.is (.int .i64 (cmpQ ((k : Int) : Rat) a)), Fq.is (.bool true)]) (ks := [none, none, none, none]) (new := []) E rfl (by kernel_rfl) rfl rfl (fun hp => ⟨?_, ?_, ?_, ?_, trivial⟩) ?_
      · exact q_loadRat hp (free_of rfl) trivial (List.mem_iff_getElem?.2 ⟨0, rfl⟩) (.inl rfl) rfl (sq_out rfl rfl (fun _ _ => rfl)) (fun us w hl h => h)
      · exact q_loadRat hp (free_of rfl) trivial (List.mem_iff_getElem?.2 ⟨3, rfl⟩) (.inl rfl) rfl (sq_out rfl rfl (fun _ _ => rfl)) (fun us w hl h => h)
      · exact q_call2 (F := (Fq.pair ((k : Int) : Rat).num (((k : Int) : Rat).den : Int)).P) (G := (Fq.pair a.num (a.den : Int)).P) hp (free_of rfl) trivial (enq_S_Cmp) (sq_in 0 rfl rfl (by simp) rfl (fun v w h => h)) (sq_in 1 rfl rfl (by simp) rfl (fun v w h => h)) (fun v v' w h h' => exSCmpQ h h' (rb_le B7.out (by omega)) (rb_le ha.out (by omega)))
      · exact q_one (F := fun v _ => v = .int .i64 (cmpQ ((k : Int) : Rat) a)) hp (free_of rfl) trivial (sq_in 2 rfl rfl (by simp) rfl (fun v w h => h)) (fun ρ w hc h => ⟨.bool true, by simp [execOp, go_sem, h, hc, T6.out], rfl⟩)
      intro L vs w9 nb hL hC hn E9
      have e2 : vs 2 = .int .i64 (cmpQ ((k : Int) : Rat) a) := hC 2 (by simp)
      have e3 : vs 3 = .bool true := hC 3 (by simp)
      have E : Fr w [(b8_3, 4, Fq.pair ((k : Int) : Rat).num (((k : Int) : Rat).den : Int)), (b3, 4, Fq.pair 0 0), (b2, 4, Fq.pair b.num (b.den : Int)), (b1, 4, Fq.pair a.num (a.den : Int))] w9 := E9
      rw [lay_all hL]
      simp only [putAll, dstOf, List.length_cons, List.length_nil, Nat.zero_add, Nat.reduceAdd, List.getElem?_toArray, List.getElem?_cons_zero, List.getElem?_cons_succ, Option.bind_some, Act.put, List.setIfInBounds_toArray, List.set_cons_succ, List.set_cons_zero]
      rw [e2, e3]
      generalize vs 0 = u9_0
      generalize vs 1 = u9_1
      clear e2 e3 hC hn E9 hL vs L nb
      clear T6
      go_upto_region 10 with (fail)
      refine region_fr (C := [Fq.pair ((k : Int) : Rat).num (((k : Int) : Rat).den : Int), Fq.any, Fq.is (.int .i64 0)]) (ks := [none, some (1, Fq.pair ((k : Int) : Rat).num (((k : Int) : Rat).den : Int)), none, none]) (new := []) E rfl (by kernel_rfl) rfl rfl (fun hp => ⟨?_, ?_, ?_, trivial⟩) ?_
      · exact q_loadRat hp (free_of rfl) trivial (List.mem_iff_getElem?.2 ⟨0, rfl⟩) (.inl rfl) rfl (sq_out rfl rfl (fun _ _ => rfl)) (fun us w hl h => h)
      · exact q_storeOldRat hp (List.mem_iff_getElem?.2 ⟨1, rfl⟩) rfl rfl (sq_out rfl rfl (fun _ _ => rfl)) (sq_in 0 rfl rfl (by simp) rfl (fun v w h => ratV_pair h)) (fun _ _ => trivial) (newik_ne rfl)
      · exact q_assign hp (free_of rfl) trivial (sq_const (fun _ => rfl))
      intro L vs w10 nb hL hC hn E10
      have e2 : vs 2 = .int .i64 0 := hC 2 (by simp)
      have E : Fr w [(b8_3, 4, Fq.pair ((k : Int) : Rat).num (((k : Int) : Rat).den : Int)), (b3, 4, Fq.pair ((k : Int) : Rat).num (((k : Int) : Rat).den : Int)), (b2, 4, Fq.pair b.num (b.den : Int)), (b1, 4, Fq.pair a.num (a.den : Int))] w10 := E10
      rw [lay_all hL]
      simp only [putAll, dstOf, List.length_cons, List.length_nil, Nat.zero_add, Nat.reduceAdd, List.getElem?_toArray, List.getElem?_cons_zero, List.getElem?_cons_succ, Option.bind_some, Act.put, List.setIfInBounds_toArray, List.set_cons_succ, List.set_cons_zero]
      rw [e2]
      generalize vs 0 = u10_0
      clear e2 hC hn E10 hL vs L nb
      clear HIH H0 HL HN
      obtain ⟨p0, p1, p2, p3, c0, c1, c2, c3, hP⟩ := box_pair (E.box 1 rfl)
      clear B7 ha hb Bk
      go_wp2
      refine bodyPost_ret (v := .tuple #[.agg #[p0, p1, p2, p3], .int .i64 0]) ?_ rfl ⟨_, rfl, E.below, ⟨_, _, rfl, by unfold simF; rw [if_pos HR.out, ← HK.out]; rw [(whole_num k).1, (whole_num k).2] at hP; exact hP, rfl⟩⟩
      simp [results, Tryz.results43, go_sem, c0, c1, c2, c3]
    · have T6 : Hid (¬ cmpQ ((k : Int) : Rat) a = 0) := fun e => hr ((whole_eq HK.out).1 (cmpQ_eq.1 e))
      have HR := hidd hr
      clear hr
      go_upto_region 9 with (fail)
      refine region_fr (C := [Fq.pair ((k : Int) : Rat).num (((k : Int) : Rat).den : Int), Fq.pair a.num (a.den : Int), Fq.is (.int .i64 (cmpQ ((k : Int) : Rat) a)), Fq.is (.bool false)]) (ks := [none, none, none, none]) (new := []) E rfl (by kernel_rfl) rfl rfl (fun hp => ⟨?_, ?_, ?_, ?_, trivial⟩) ?_
      · exact q_loadRat hp (free_of rfl) trivial (List.mem_iff_getElem?.2 ⟨0, rfl⟩) (.inl rfl) rfl (sq_out rfl rfl (fun _ _ => rfl)) (fun us w hl h => h)
      · exact q_loadRat hp (free_of rfl) trivial (List.mem_iff_getElem?.2 ⟨3, rfl⟩) (.inl rfl) rfl (sq_out rfl rfl (fun _ _ => rfl)) (fun us w hl h => h)
      · exact q_call2 (F := (Fq.pair ((k : Int) : Rat).num (((k : Int) : Rat).den : Int)).P) (G := (Fq.pair a.num (a.den : Int)).P) hp (free_of rfl) trivial (enq_S_Cmp) (sq_in 0 rfl rfl (by simp) rfl (fun v w h => h)) (sq_in 1 rfl rfl (by simp) rfl (fun v w h => h)) (fun v v' w h h' => exSCmpQ h h' (rb_le B7.out (by omega)) (rb_le ha.out (by omega)))
      · exact q_one (F := fun v _ => v = .int .i64 (cmpQ ((k : Int) : Rat) a)) hp (free_of rfl) trivial (sq_in 2 rfl rfl (by simp) rfl (fun v w h => h)) (fun ρ w hc h => ⟨.bool false, by simp [execOp, go_sem, h, hc, T6.out], rfl⟩)
      intro L vs w11 nb hL hC hn E11
      have e2 : vs 2 = .int .i64 (cmpQ ((k : Int) : Rat) a) := hC 2 (by simp)
      have e3 : vs 3 = .bool false := hC 3 (by simp)
      have E : Fr w [(b8_3, 4, Fq.pair ((k : Int) : Rat).num (((k : Int) : Rat).den : Int)), (b3, 4, Fq.pair 0 0), (b2, 4, Fq.pair b.num (b.den : Int)), (b1, 4, Fq.pair a.num (a.den : Int))] w11 := E11
      rw [lay_all hL]
      simp only [putAll, dstOf, List.length_cons, List.length_nil, Nat.zero_add, Nat.reduceAdd, List.getElem?_toArray, List.getElem?_cons_zero, List.getElem?_cons_succ, Option.bind_some, Act.put, List.setIfInBounds_toArray, List.set_cons_succ, List.set_cons_zero]
      rw [e2, e3]
      generalize vs 0 = u11_0
      generalize vs 1 = u11_1
      clear e2 e3 hC hn E11 hL vs L nb
      clear T6
      go_upto_region 11 with (fail)
      have B12 : Hid (Rb (Rat.divInt (1) (1)) 3) := rb_lit (by decide) (by decide) (by decide)
      have B13 : Hid (Rb (((k : Int) : Rat) + (Rat.divInt (1) (1))) 205) := rb_le (rb_add B7.out B12.out) (by omega)
      refine region_fr (C := [Fq.pair ((k : Int) : Rat).num (((k : Int) : Rat).den : Int), Fq.pair (Rat.divInt (1) (1)).num ((Rat.divInt (1) (1)).den : Int), Fq.pair (((k : Int) : Rat) + (Rat.divInt (1) (1))).num ((((k : Int) : Rat) + (Rat.divInt (1) (1))).den : Int), Fq.any, Fq.any]) (ks := [none, none, none, none]) (new := [⟨3, 4, 4, Fq.pair 0 0, Fq.pair (((k : Int) : Rat) + (Rat.divInt (1) (1))).num ((((k : Int) : Rat) + (Rat.divInt (1) (1))).den : Int), none⟩]) E rfl (by kernel_rfl) rfl rfl (fun hp => ⟨?_, ?_, ?_, ?_, ?_, trivial⟩) ?_
      · exact q_loadRat hp (free_of rfl) trivial (List.mem_iff_getElem?.2 ⟨0, rfl⟩) (.inl rfl) rfl (sq_out rfl rfl (fun _ _ => rfl)) (fun us w hl h => h)
      · exact q_call2 (F := (Fq.is (.int .i64 1)).P) (G := (Fq.is (.int .i64 1)).P) hp (free_of rfl) trivial (enq_S_Of) (sq_const (fun _ => rfl)) (sq_const (fun _ => rfl)) (fun v v' w h h' => (by subst h; subst h'; exact exSOf (n := 1) (d := 1) (by decide) (of_lit (by decide)) (of_lit (by decide))))
      · exact q_call2 (F := (Fq.pair ((k : Int) : Rat).num (((k : Int) : Rat).den : Int)).P) (G := (Fq.pair (Rat.divInt (1) (1)).num ((Rat.divInt (1) (1)).den : Int)).P) hp (free_of rfl) trivial (enq_S_Add) (sq_in 0 rfl rfl (by simp) rfl (fun v w h => h)) (sq_in 1 rfl rfl (by simp) rfl (fun v w h => h)) (fun v v' w h h' => exSAddQ h h' (rb_le B7.out (by omega)) (rb_le B12.out (by omega)))
      · exact q_allocRat hp (List.mem_iff_getElem?.2 ⟨0, rfl⟩) rfl rfl rfl rfl (Nat.ne_of_beq_eq_false rfl) (fun _ _ => trivial) (old_ne rfl) (newk_ne rfl) (fun w => Pair.zero w)
      · exact q_storeNewRat hp (List.mem_iff_getElem?.2 ⟨0, rfl⟩) rfl rfl rfl (own_ptr rfl rfl (by simp) rfl) (sq_in 2 rfl rfl (by simp) rfl (fun v w h => ratV_pair h)) (fun _ _ => trivial) (old_ne rfl) (newi_ne rfl)
      intro L vs w14 nb hL hC hn E14
      have e3 : vs 3 = .pointer (some ⟨nb 3, 0, none⟩) := hn _ (List.mem_iff_getElem?.2 ⟨0, rfl⟩)
      have E : Fr w [(nb 3, 4, Fq.pair (((k : Int) : Rat) + (Rat.divInt (1) (1))).num ((((k : Int) : Rat) + (Rat.divInt (1) (1))).den : Int)), (b8_3, 4, Fq.pair ((k : Int) : Rat).num (((k : Int) : Rat).den : Int)), (b3, 4, Fq.pair 0 0), (b2, 4, Fq.pair b.num (b.den : Int)), (b1, 4, Fq.pair a.num (a.den : Int))] w14 := E14
      rw [lay_all hL]
      simp only [putAll, dstOf, List.length_cons, List.length_nil, Nat.zero_add, Nat.reduceAdd, List.getElem?_toArray, List.getElem?_cons_zero, List.getElem?_cons_succ, Option.bind_some, Act.put, List.setIfInBounds_toArray, List.set_cons_succ, List.set_cons_zero]
      rw [e3]
      generalize nb 3 = b14_3 at E ⊢
      generalize vs 0 = u14_0
      generalize vs 1 = u14_1
      generalize vs 2 = u14_2
      clear e3 hC hn E14 hL vs L nb
      by_cases hb2 : (b.den : Int) ≤ b.num - k * (b.den : Int)
      · have T7 : Hid (cmpQ (((k : Int) : Rat) + (Rat.divInt (1) (1))) b ≤ 0) := cmpQ_leN.2 (next_le.2 hb2)
        have HB2 := hidd hb2
        clear hb2
        go_upto_region 12 with (fail)
        refine region_fr (C := [Fq.pair (((k : Int) : Rat) + (Rat.divInt (1) (1))).num ((((k : Int) : Rat) + (Rat.divInt (1) (1))).den : Int), Fq.pair b.num (b.den : Int), Fq.is (.int .i64 (cmpQ (((k : Int) : Rat) + (Rat.divInt (1) (1))) b)), Fq.is (.bool true)]) (ks := [none, none, none, none, none]) (new := []) E rfl (by kernel_rfl) rfl rfl (fun hp => ⟨?_, ?_, ?_, ?_, trivial⟩) ?_
        · exact q_loadRat hp (free_of rfl) trivial (List.mem_iff_getElem?.2 ⟨0, rfl⟩) (.inl rfl) rfl (sq_out rfl rfl (fun _ _ => rfl)) (fun us w hl h => h)
        · exact q_loadRat hp (free_of rfl) trivial (List.mem_iff_getElem?.2 ⟨3, rfl⟩) (.inl rfl) rfl (sq_out rfl rfl (fun _ _ => rfl)) (fun us w hl h => h)
        · exact q_call2 (F := (Fq.pair (((k : Int) : Rat) + (Rat.divInt (1) (1))).num ((((k : Int) : Rat) + (Rat.divInt (1) (1))).den : Int)).P) (G := (Fq.pair b.num (b.den : Int)).P) hp (free_of rfl) trivial (enq_S_Cmp) (sq_in 0 rfl rfl (by simp) rfl (fun v w h => h)) (sq_in 1 rfl rfl (by simp) rfl (fun v w h => h)) (fun v v' w h h' => exSCmpQ h h' (rb_le B13.out (by omega)) (rb_le hb.out (by omega)))
        · exact q_one (F := fun v _ => v = .int .i64 (cmpQ (((k : Int) : Rat) + (Rat.divInt (1) (1))) b)) hp (free_of rfl) trivial (sq_in 2 rfl rfl (by simp) rfl (fun v w h => h)) (fun ρ w hc h => ⟨.bool true, by simp [execOp, go_sem, h, hc, T7.out], rfl⟩)
        intro L vs w15 nb hL hC hn E15
        have e2 : vs 2 = .int .i64 (cmpQ (((k : Int) : Rat) + (Rat.divInt (1) (1))) b) := hC 2 (by simp)
        have e3 : vs 3 = .bool true := hC 3 (by simp)
        have E : Fr w [(b14_3, 4, Fq.pair (((k : Int) : Rat) + (Rat.divInt (1) (1))).num ((((k : Int) : Rat) + (Rat.divInt (1) (1))).den : Int)), (b8_3, 4, Fq.pair ((k : Int) : Rat).num (((k : Int) : Rat).den : Int)), (b3, 4, Fq.pair 0 0), (b2, 4, Fq.pair b.num (b.den : Int)), (b1, 4, Fq.pair a.num (a.den : Int))] w15 := E15
        rw [lay_all hL]
        simp only [putAll, dstOf, List.length_cons, List.length_nil, Nat.zero_add, Nat.reduceAdd, List.getElem?_toArray, List.getElem?_cons_zero, List.getElem?_cons_succ, Option.bind_some, Act.put, List.setIfInBounds_toArray, List.set_cons_succ, List.set_cons_zero]
        rw [e2, e3]
        generalize vs 0 = u15_0
        generalize vs 1 = u15_1
        clear e2 e3 hC hn E15 hL vs L nb
        clear T7
        go_upto_region 13 with (fail)
        refine region_fr (C := [Fq.pair (((k : Int) : Rat) + (Rat.divInt (1) (1))).num ((((k : Int) : Rat) + (Rat.divInt (1) (1))).den : Int), Fq.any, Fq.is (.int .i64 0)]) (ks := [none, none, some (1, Fq.pair (((k : Int) : Rat) + (Rat.divInt (1) (1))).num ((((k : Int) : Rat) + (Rat.divInt (1) (1))).den : Int)), none, none]) (new := []) E rfl (by kernel_rfl) rfl rfl (fun hp => ⟨?_, ?_, ?_, trivial⟩) ?_
        · exact q_loadRat hp (free_of rfl) trivial (List.mem_iff_getElem?.2 ⟨0, rfl⟩) (.inl rfl) rfl (sq_out rfl rfl (fun _ _ => rfl)) (fun us w hl h => h)
        · exact q_storeOldRat hp (List.mem_iff_getElem?.2 ⟨2, rfl⟩) rfl rfl (sq_out rfl rfl (fun _ _ => rfl)) (sq_in 0 rfl rfl (by simp) rfl (fun v w h => ratV_pair h)) (fun _ _ => trivial) (newik_ne rfl)
        · exact q_assign hp (free_of rfl) trivial (sq_const (fun _ => rfl))
        intro L vs w16 nb hL hC hn E16
        have e2 : vs 2 = .int .i64 0 := hC 2 (by simp)
        have E : Fr w [(b14_3, 4, Fq.pair (((k : Int) : Rat) + (Rat.divInt (1) (1))).num ((((k : Int) : Rat) + (Rat.divInt (1) (1))).den : Int)), (b8_3, 4, Fq.pair ((k : Int) : Rat).num (((k : Int) : Rat).den : Int)), (b3, 4, Fq.pair (((k : Int) : Rat) + (Rat.divInt (1) (1))).num ((((k : Int) : Rat) + (Rat.divInt (1) (1))).den : Int)), (b2, 4, Fq.pair b.num (b.den : Int)), (b1, 4, Fq.pair a.num (a.den : Int))] w16 := E16
        rw [lay_all hL]
        simp only [putAll, dstOf, List.length_cons, List.length_nil, Nat.zero_add, Nat.reduceAdd, List.getElem?_toArray, List.getElem?_cons_zero, List.getElem?_cons_succ, Option.bind_some, Act.put, List.setIfInBounds_toArray, List.set_cons_succ, List.set_cons_zero]
        rw [e2]
        generalize vs 0 = u16_0
        clear e2 hC hn E16 hL vs L nb
        clear HIH H0 HL HN
        obtain ⟨p0, p1, p2, p3, c0, c1, c2, c3, hP⟩ := box_pair (E.box 2 rfl)
        clear B7 B12 B13 ha hb Bk
        go_wp2
        refine bodyPost_ret (v := .tuple #[.agg #[p0, p1, p2, p3], .int .i64 0]) ?_ rfl ⟨_, rfl, E.below, ⟨_, _, rfl, by unfold simF; rw [if_neg HR.out, if_pos (by rw [← HK.out]; exact HB2.out), ← HK.out]; rw [(next_num k).1, (next_num k).2] at hP; exact hP, rfl⟩⟩
        simp [results, Tryz.results43, go_sem, c0, c1, c2, c3]
      · have T7 : Hid (¬ cmpQ (((k : Int) : Rat) + (Rat.divInt (1) (1))) b ≤ 0) := fun e => hb2 (next_le.1 (cmpQ_leN.1 e))
        have HB2 := hidd hb2
        clear hb2
        go_upto_region 12 with (fail)
        refine region_fr (C := [Fq.pair (((k : Int) : Rat) + (Rat.divInt (1) (1))).num ((((k : Int) : Rat) + (Rat.divInt (1) (1))).den : Int), Fq.pair b.num (b.den : Int), Fq.is (.int .i64 (cmpQ (((k : Int) : Rat) + (Rat.divInt (1) (1))) b)), Fq.is (.bool false)]) (ks := [none, none, none, none, none]) (new := []) E rfl (by kernel_rfl) rfl rfl (fun hp => ⟨?_, ?_, ?_, ?_, trivial⟩) ?_
        · exact q_loadRat hp (free_of rfl) trivial (List.mem_iff_getElem?.2 ⟨0, rfl⟩) (.inl rfl) rfl (sq_out rfl rfl (fun _ _ => rfl)) (fun us w hl h => h)
        · exact q_loadRat hp (free_of rfl) trivial (List.mem_iff_getElem?.2 ⟨3, rfl⟩) (.inl rfl) rfl (sq_out rfl rfl (fun _ _ => rfl)) (fun us w hl h => h)
        · exact q_call2 (F := (Fq.pair (((k : Int) : Rat) + (Rat.divInt (1) (1))).num ((((k : Int) : Rat) + (Rat.divInt (1) (1))).den : Int)).P) (G := (Fq.pair b.num (b.den : Int)).P) hp (free_of rfl) trivial (enq_S_Cmp) (sq_in 0 rfl rfl (by simp) rfl (fun v w h => h)) (sq_in 1 rfl rfl (by simp) rfl (fun v w h => h)) (fun v v' w h h' => exSCmpQ h h' (rb_le B13.out (by omega)) (rb_le hb.out (by omega)))
        · exact q_one (F := fun v _ => v = .int .i64 (cmpQ (((k : Int) : Rat) + (Rat.divInt (1) (1))) b)) hp (free_of rfl) trivial (sq_in 2 rfl rfl (by simp) rfl (fun v w h => h)) (fun ρ w hc h => ⟨.bool false, by simp [execOp, go_sem, h, hc, T7.out], rfl⟩)
        intro L vs w17 nb hL hC hn E17
        have e2 : vs 2 = .int .i64 (cmpQ (((k : Int) : Rat) + (Rat.divInt (1) (1))) b) := hC 2 (by simp)
        have e3 : vs 3 = .bool false := hC 3 (by simp)
        have E : Fr w [(b14_3, 4, Fq.pair (((k : Int) : Rat) + (Rat.divInt (1) (1))).num ((((k : Int) : Rat) + (Rat.divInt (1) (1))).den : Int)), (b8_3, 4, Fq.pair ((k : Int) : Rat).num (((k : Int) : Rat).den : Int)), (b3, 4, Fq.pair 0 0), (b2, 4, Fq.pair b.num (b.den : Int)), (b1, 4, Fq.pair a.num (a.den : Int))] w17 := E17
        rw [lay_all hL]
        simp only [putAll, dstOf, List.length_cons, List.length_nil, Nat.zero_add, Nat.reduceAdd, List.getElem?_toArray, List.getElem?_cons_zero, List.getElem?_cons_succ, Option.bind_some, Act.put, List.setIfInBounds_toArray, List.set_cons_succ, List.set_cons_zero]
        rw [e2, e3]
        generalize vs 0 = u17_0
        generalize vs 1 = u17_1
        clear e2 e3 hC hn E17 hL vs L nb
        clear T7
        have r1 : 0 < b.num - k * (b.den : Int) := by rw [HK.out]; exact sim_rest (den_pos a) (den_pos b) ((Rat.le_iff _ _).1 HL.out) HR.out
        have r2 : 0 < a.num % (a.den : Int) := by have := Int.emod_nonneg a.num (den_ne a); have := HR.out; omega
        have r3 := Int.emod_lt_of_pos a.num (den_pos a)
        have hsb := sub_whole b k
        have hsa := sub_whole a k
        have ek : a.num - k * (a.den : Int) = a.num % (a.den : Int) := by have := Int.mul_ediv_add_emod a.num a.den; rw [HK.out, Int.mul_comm]; omega
        rw [ek] at hsa
        have gb : Int.gcd (b.den : Int) (b.num - k * (b.den : Int)) = 1 := by rw [← hsb.1, ← hsb.2, Int.gcd_comm]; exact rat_cop _
        have ga : Int.gcd (a.den : Int) (a.num % (a.den : Int)) = 1 := by rw [← hsa.1, ← hsa.2, Int.gcd_comm]; exact rat_cop _
        obtain ⟨x, hx1, hx2⟩ : ∃ x : Rat, x.num = (b.den : Int) ∧ (x.den : Int) = b.num - k * (b.den : Int) := ⟨_, parts_of r1 gb⟩
        obtain ⟨y, hy1, hy2⟩ : ∃ y : Rat, y.num = (a.den : Int) ∧ (y.den : Int) = a.num % (a.den : Int) := ⟨_, parts_of r2 ga⟩
        have Bx : Hid (Rb x 200) := by have h1 := hb.out.2; have h2 := HB2.out; have h3 := den_pos b; show Rb _ _; unfold Rb; rw [hx1, hx2]; refine ⟨h1, ?_⟩; unfold ab at h1 ⊢; omega
        have By : Hid (Rb y 200) := by have h1 := ha.out.2; have h3 := den_pos a; show Rb _ _; unfold Rb; rw [hy1, hy2]; refine ⟨h1, ?_⟩; unfold ab at h1 ⊢; omega
        have x0 : Hid (0 < x.num) := by show 0 < _; rw [hx1]; exact den_pos b
        have xle : Hid (x ≤ y) := (Rat.le_iff _ _).2 (by rw [hx1, hx2, hy1, hy2, HK.out]; exact sim_next ((Rat.le_iff _ _).1 HL.out))
        have xN : Hid (simN x y ≤ N) := by have h1 := HN.out; have h2 := HB2.out; have h3 := den_pos a; have h4 := den_pos b; show _ ≤ N; unfold simN at h1 ⊢; rw [hx2, hy2]; omega
        have h5 := simQ_rb x0.out xle.out Bx.out By.out
        have h6 := simQ_pos x0.out xle.out
        have h7 := parts_of h6 (by rw [Int.gcd_comm]; exact rat_cop (simQ x y))
        obtain ⟨z, hz1, hz2⟩ : ∃ z : Rat, z.num = ((simQ x y).den : Int) ∧ (z.den : Int) = (simQ x y).num := ⟨_, h7⟩
        have Bz : Hid (Rb z 200) := by show Rb _ _; unfold Rb; rw [hz1, hz2]; exact ⟨h5.2, h5.1⟩
        have HX : Hid (x.num = (b - ((k : Int) : Rat)).den ∧ (x.den : Int) = (b - ((k : Int) : Rat)).num) := ⟨by rw [hx1, hsb.2], by rw [hx2, hsb.1]⟩
        have HY : Hid (y.num = (a - ((k : Int) : Rat)).den ∧ (y.den : Int) = (a - ((k : Int) : Rat)).num) := ⟨by rw [hy1, hsa.2], by rw [hy2, hsa.1]⟩
        have HZ : Hid (z.num = ((simQ x y).den : Int) ∧ (z.den : Int) = (simQ x y).num) := ⟨hz1, hz2⟩
        have Bq : Hid (Rb (simQ x y) 200) := h5
        have EQ : Hid (k * (z.den : Int) + z.num = (simF N.succ a.num (a.den : Int) b.num (b.den : Int)).1 ∧ (z.den : Int) = (simF N.succ a.num (a.den : Int) b.num (b.den : Int)).2) := by
          obtain ⟨e1, e2⟩ := simQ_parts x0.out xle.out
          rw [sim_fuel (simN x y) N x.num x.den y.num y.den x0.out (den_pos x) (den_pos y) ((Rat.le_iff _ _).1 xle.out) (Nat.le_refl _) xN.out, hx1, hx2, hy1, hy2, HK.out] at e1 e2
          show _ ∧ _
          unfold simF
          rw [if_neg HR.out, if_neg (by rw [← HK.out]; exact HB2.out), e1, e2, hz1, hz2, ← HK.out]
          exact ⟨rfl, rfl⟩
        clear r1 r2 r3 hsb hsa ek gb ga hx1 hx2 hy1 hy2 hz1 hz2 h5 h6 h7
        go_upto_region 14 with (fail)
        have B18 : Hid (Rb (b - ((k : Int) : Rat)) 402) := rb_le (rb_sub hb.out B7.out) (by omega)
        have B19 : Hid (Rb (a - ((k : Int) : Rat)) 402) := rb_le (rb_sub ha.out B7.out) (by omega)
        refine region_fr (C := [Fq.pair b.num (b.den : Int), Fq.pair ((k : Int) : Rat).num (((k : Int) : Rat).den : Int), Fq.pair (b - ((k : Int) : Rat)).num ((b - ((k : Int) : Rat)).den : Int), Fq.pair x.num (x.den : Int), Fq.pair a.num (a.den : Int), Fq.pair ((k : Int) : Rat).num (((k : Int) : Rat).den : Int), Fq.pair (a - ((k : Int) : Rat)).num ((a - ((k : Int) : Rat)).den : Int), Fq.pair y.num (y.den : Int), Fq.tup2 (Fq.pair (simQ x y).num ((simQ x y).den : Int)) (Fq.is (.int .i64 0)), Fq.tup2 (Fq.pair (simQ x y).num ((simQ x y).den : Int)) (Fq.is (.int .i64 0)), Fq.pair (simQ x y).num ((simQ x y).den : Int), Fq.is (.int .i64 0), Fq.any, Fq.any, Fq.is (.int .i64 0)]) (ks := [none, none, none, none, none]) (new := [⟨12, 13, 4, Fq.pair 0 0, Fq.pair (simQ x y).num ((simQ x y).den : Int), none⟩]) E rfl (by kernel_rfl) rfl rfl (fun hp => ⟨?_, ?_, ?_, ?_, ?_, ?_, ?_, ?_, ?_, ?_, ?_, ?_, ?_, ?_, ?_, trivial⟩) ?_
        · exact q_loadRat hp (free_of rfl) trivial (List.mem_iff_getElem?.2 ⟨3, rfl⟩) (.inl rfl) rfl (sq_out rfl rfl (fun _ _ => rfl)) (fun us w hl h => h)
        · exact q_loadRat hp (free_of rfl) trivial (List.mem_iff_getElem?.2 ⟨1, rfl⟩) (.inl rfl) rfl (sq_out rfl rfl (fun _ _ => rfl)) (fun us w hl h => h)
        · exact q_call2 (F := (Fq.pair b.num (b.den : Int)).P) (G := (Fq.pair ((k : Int) : Rat).num (((k : Int) : Rat).den : Int)).P) hp (free_of rfl) trivial (enq_S_Sub) (sq_in 0 rfl rfl (by simp) rfl (fun v w h => h)) (sq_in 1 rfl rfl (by simp) rfl (fun v w h => h)) (fun v v' w h h' => exSSubQ h h' (rb_le hb.out (by omega)) (rb_le B7.out (by omega)))
        · exact q_call1 (F := (Fq.pair (b - ((k : Int) : Rat)).num ((b - ((k : Int) : Rat)).den : Int)).P) hp (free_of rfl) trivial (enq_S_flip) (sq_in 2 rfl rfl (by simp) rfl (fun v w h => h)) (fun v w h => (by rw [HX.out.1, HX.out.2]; exact exSFlip h))
        · exact q_loadRat hp (free_of rfl) trivial (List.mem_iff_getElem?.2 ⟨4, rfl⟩) (.inl rfl) rfl (sq_out rfl rfl (fun _ _ => rfl)) (fun us w hl h => h)
        · exact q_loadRat hp (free_of rfl) trivial (List.mem_iff_getElem?.2 ⟨1, rfl⟩) (.inl rfl) rfl (sq_out rfl rfl (fun _ _ => rfl)) (fun us w hl h => h)
        · exact q_call2 (F := (Fq.pair a.num (a.den : Int)).P) (G := (Fq.pair ((k : Int) : Rat).num (((k : Int) : Rat).den : Int)).P) hp (free_of rfl) trivial (enq_S_Sub) (sq_in 4 rfl rfl (by simp) rfl (fun v w h => h)) (sq_in 5 rfl rfl (by simp) rfl (fun v w h => h)) (fun v v' w h h' => exSSubQ h h' (rb_le ha.out (by omega)) (rb_le B7.out (by omega)))
        · exact q_call1 (F := (Fq.pair (a - ((k : Int) : Rat)).num ((a - ((k : Int) : Rat)).den : Int)).P) hp (free_of rfl) trivial (enq_S_flip) (sq_in 6 rfl rfl (by simp) rfl (fun v w h => h)) (fun v w h => (by rw [HY.out.1, HY.out.2]; exact exSFlip h))
        · exact q_call2 (F := (Fq.pair x.num (x.den : Int)).P) (G := (Fq.pair y.num (y.den : Int)).P) hp (free_of rfl) trivial (enq_S_Between) (sq_in 3 rfl rfl (by simp) rfl (fun v w h => h)) (sq_in 7 rfl rfl (by simp) rfl (fun v w h => h)) (fun v v' w h h' => (by have := HIH.out _ _ _ _ _ h h' Bx.out By.out x0.out xle.out xN.out; rw [← sim_fuel (simN x y) N x.num x.den y.num y.den x0.out (den_pos x) (den_pos y) ((Rat.le_iff _ _).1 xle.out) (Nat.le_refl _) xN.out, (simQ_parts x0.out xle.out).1, (simQ_parts x0.out xle.out).2] at this; exact this))
        · exact q_move hp (free_of rfl) trivial (sq_in 8 rfl rfl (by simp) rfl (fun v w h => h))
        · exact q_extract2 hp (free_of rfl) trivial (sq_in 9 rfl rfl (by simp) rfl (fun v w h => h)) (fun v1 v2 w h1 h2 => ⟨_, rfl, h1⟩)
        · exact q_extract2 hp (free_of rfl) trivial (sq_in 9 rfl rfl (by simp) rfl (fun v w h => h)) (fun v1 v2 w h1 h2 => ⟨_, rfl, h2⟩)
        · exact q_allocRat hp (List.mem_iff_getElem?.2 ⟨0, rfl⟩) rfl rfl rfl rfl (Nat.ne_of_beq_eq_false rfl) (fun _ _ => trivial) (old_ne rfl) (newk_ne rfl) (fun w => Pair.zero w)
        · exact q_storeNewRat hp (List.mem_iff_getElem?.2 ⟨0, rfl⟩) rfl rfl rfl (own_ptr rfl rfl (by simp) rfl) (sq_in 10 rfl rfl (by simp) rfl (fun v w h => ratV_pair h)) (fun _ _ => trivial) (old_ne rfl) (newi_ne rfl)
        · exact q_assign hp (free_of rfl) trivial (sq_in 11 rfl rfl (by simp) rfl (fun v w h => h))
        intro L vs w20 nb hL hC hn E20
        have e11 : vs 11 = .int .i64 0 := hC 11 (by simp)
        have e14 : vs 14 = .int .i64 0 := hC 14 (by simp)
        have e12 : vs 12 = .pointer (some ⟨nb 12, 0, none⟩) := hn _ (List.mem_iff_getElem?.2 ⟨0, rfl⟩)
        have E : Fr w [(nb 12, 4, Fq.pair (simQ x y).num ((simQ x y).den : Int)), (b14_3, 4, Fq.pair (((k : Int) : Rat) + (Rat.divInt (1) (1))).num ((((k : Int) : Rat) + (Rat.divInt (1) (1))).den : Int)), (b8_3, 4, Fq.pair ((k : Int) : Rat).num (((k : Int) : Rat).den : Int)), (b3, 4, Fq.pair 0 0), (b2, 4, Fq.pair b.num (b.den : Int)), (b1, 4, Fq.pair a.num (a.den : Int))] w20 := E20
        rw [lay_all hL]
        simp only [putAll, dstOf, List.length_cons, List.length_nil, Nat.zero_add, Nat.reduceAdd, List.getElem?_toArray, List.getElem?_cons_zero, List.getElem?_cons_succ, Option.bind_some, Act.put, List.setIfInBounds_toArray, List.set_cons_succ, List.set_cons_zero]
        rw [e11, e14, e12]
        generalize nb 12 = b20_12 at E ⊢
        generalize vs 0 = u20_0
        generalize vs 1 = u20_1
        generalize vs 2 = u20_2
        generalize vs 3 = u20_3
        generalize vs 4 = u20_4
        generalize vs 5 = u20_5
        generalize vs 6 = u20_6
        generalize vs 7 = u20_7
        generalize vs 8 = u20_8
        generalize vs 9 = u20_9
        generalize vs 10 = u20_10
        clear e11 e14 e12 hC hn E20 hL vs L nb
        go_upto_region 15 with (fail)
        have B21 : Hid (Rb (((k : Int) : Rat) + z) 402) := rb_le (rb_add B7.out Bz.out) (by omega)
        refine region_fr (C := [Fq.pair ((k : Int) : Rat).num (((k : Int) : Rat).den : Int), Fq.pair (simQ x y).num ((simQ x y).den : Int), Fq.pair z.num (z.den : Int), Fq.pair (((k : Int) : Rat) + z).num ((((k : Int) : Rat) + z).den : Int), Fq.any, Fq.is (.int .i64 0)]) (ks := [none, none, none, some (4, Fq.pair (((k : Int) : Rat) + z).num ((((k : Int) : Rat) + z).den : Int)), none, none]) (new := []) E rfl (by kernel_rfl) rfl rfl (fun hp => ⟨?_, ?_, ?_, ?_, ?_, ?_, trivial⟩) ?_
        · exact q_loadRat hp (free_of rfl) trivial (List.mem_iff_getElem?.2 ⟨2, rfl⟩) (.inl rfl) rfl (sq_out rfl rfl (fun _ _ => rfl)) (fun us w hl h => h)
        · exact q_loadRat hp (free_of rfl) trivial (List.mem_iff_getElem?.2 ⟨0, rfl⟩) (.inl rfl) rfl (sq_out rfl rfl (fun _ _ => rfl)) (fun us w hl h => h)
        · exact q_call1 (F := (Fq.pair (simQ x y).num ((simQ x y).den : Int)).P) hp (free_of rfl) trivial (enq_S_flip) (sq_in 1 rfl rfl (by simp) rfl (fun v w h => h)) (fun v w h => (by rw [HZ.out.1, HZ.out.2]; exact exSFlip h))
        · exact q_call2 (F := (Fq.pair ((k : Int) : Rat).num (((k : Int) : Rat).den : Int)).P) (G := (Fq.pair z.num (z.den : Int)).P) hp (free_of rfl) trivial (enq_S_Add) (sq_in 0 rfl rfl (by simp) rfl (fun v w h => h)) (sq_in 2 rfl rfl (by simp) rfl (fun v w h => h)) (fun v v' w h h' => exSAddQ h h' (rb_le B7.out (by omega)) (rb_le Bz.out (by omega)))
        · exact q_storeOldRat hp (List.mem_iff_getElem?.2 ⟨3, rfl⟩) rfl rfl (sq_out rfl rfl (fun _ _ => rfl)) (sq_in 3 rfl rfl (by simp) rfl (fun v w h => ratV_pair h)) (fun _ _ => trivial) (newik_ne rfl)
        · exact q_assign hp (free_of rfl) trivial (sq_const (fun _ => rfl))
        intro L vs w22 nb hL hC hn E22
        have e5 : vs 5 = .int .i64 0 := hC 5 (by simp)
        have E : Fr w [(b20_12, 4, Fq.pair (simQ x y).num ((simQ x y).den : Int)), (b14_3, 4, Fq.pair (((k : Int) : Rat) + (Rat.divInt (1) (1))).num ((((k : Int) : Rat) + (Rat.divInt (1) (1))).den : Int)), (b8_3, 4, Fq.pair ((k : Int) : Rat).num (((k : Int) : Rat).den : Int)), (b3, 4, Fq.pair (((k : Int) : Rat) + z).num ((((k : Int) : Rat) + z).den : Int)), (b2, 4, Fq.pair b.num (b.den : Int)), (b1, 4, Fq.pair a.num (a.den : Int))] w22 := E22
        rw [lay_all hL]
        simp only [putAll, dstOf, List.length_cons, List.length_nil, Nat.zero_add, Nat.reduceAdd, List.getElem?_toArray, List.getElem?_cons_zero, List.getElem?_cons_succ, Option.bind_some, Act.put, List.setIfInBounds_toArray, List.set_cons_succ, List.set_cons_zero]
        rw [e5]
        generalize vs 0 = u22_0
        generalize vs 1 = u22_1
        generalize vs 2 = u22_2
        generalize vs 3 = u22_3
        clear e5 hC hn E22 hL vs L nb
        clear HIH H0 HL HN Bx By Bq HX HY HZ xN HR HB2
        obtain ⟨p0, p1, p2, p3, c0, c1, c2, c3, hP⟩ := box_pair (E.box 3 rfl)
        clear B7 B12 B13 B18 B19 B21 ha hb Bk
        go_wp2
        refine bodyPost_ret (v := .tuple #[.agg #[p0, p1, p2, p3], .int .i64 0]) ?_ rfl ⟨_, rfl, E.below, ⟨_, _, rfl, by rw [whole_add.1, whole_add.2, EQ.out.1, EQ.out.2] at hP; exact hP, rfl⟩⟩
        simp [results, Tryz.results43, go_sem, c0, c1, c2, c3]

theorem exSBetPos {w : World} {v v' : Value} {a b : Rat} (h : Pair w v a.num a.den) (h' : Pair w v' b.num b.den) (ha : Rb a 200) (hb : Rb b 200) (h0 : 0 < a.num) (hle : a ≤ b) :
    Calls Tryz.prog 43 #[v, v'] w fun e w' => ∃ v', e = .returned v' ∧ Below w.heap.size w w' ∧ (Fq.tup2 (Fq.pair (simQ a b).num ((simQ a b).den : Int)) (Fq.is (.int .i64 0))).P v' w' := by
  have := exSBetF (simN a b) _ _ _ _ _ h h' ha hb h0 hle (Nat.le_refl _)
  rw [(simQ_parts h0 hle).1, (simQ_parts h0 hle).2] at this
  exact this

set_option maxRecDepth 100000 in
set_option maxHeartbeats 4000000 in
theorem exSBetN {w : World} {v v' : Value} {a b : Rat} (h : Pair w v a.num a.den) (h' : Pair w v' b.num b.den) (ha : Rb a 200) (hb : Rb b 200) (h0 : b.num < 0) (hle : a ≤ b) :
    Calls Tryz.prog 43 #[v, v'] w fun e w' => ∃ v', e = .returned v' ∧ Below w.heap.size w w' ∧ (Fq.tup2 (Fq.pair (-(simQ (-b) (-a))).num ((-(simQ (-b) (-a))).den : Int)) (Fq.is (.int .i64 0))).P v' w' := by
  replace ha := hidd ha
  replace hb := hidd hb
  obtain ⟨n0, ao0, k0, c0, n0', ao0', k0', c0', rfl, _⟩ := ratV_pair h
  obtain ⟨n1, ao1, k1, c1, n1', ao1', k1', c1', rfl, _⟩ := ratV_pair h'
  obtain ⟨w1, b1, hw1, hb1, hs1, E⟩ := fr_start w (F := Fq.pair a.num (a.den : Int)) (us := [.bool n0, .slice ao0 k0 c0, .bool n0', .slice ao0' k0' c0']) 31 rfl (by simp) (tame_rat _ _ _ _ _ _ _ _) h
  obtain ⟨w2, b2, hw2, hb2, hs2, E⟩ := fr_more E hs1 (F := Fq.pair b.num (b.den : Int)) (us := [.bool n1, .slice ao1 k1 c1, .bool n1', .slice ao1' k1' c1']) 31 rfl (by simp) (tame_rat _ _ _ _ _ _ _ _) (h'.mono E.below)
  obtain ⟨w3, b3, hw3, hb3, hs3, E⟩ := fr_more E hs2 (F := Fq.pair 0 0) (us := [.bool false, .slice none 0 0, .bool false, .slice none 0 0]) 31 rfl (by simp) (tame_rat _ _ _ _ _ _ _ _) (Pair.zero _)
  go_enter Tryz.func43, Tryz.ntmps43
  go_upto_region 1 with (fail)
  rw [← hw1]
  rw [← hw2]
  rw [← hw3]
  rw [← hb3]
  rw [← hb2]
  rw [← hb1]
  clear hw1 hw2 hw3 hb1 hb2 hb3 hs3 hs1 hs2
  have T3 : Hid (¬ 0 < cmpQ a b) := fun e => Rat.not_lt.2 hle (cmpQ_gt.1 e)
  have T4 : Hid (cmpI a.num 0 ≤ 0) := by show _ ≤ _; rcases Int.lt_or_le 0 (cmpI a.num 0) with e | e; (· exact absurd (cmpIqgt.1 e) (neg_le h0 hle)); exact e
  have T5 : Hid (cmpI b.num 0 < 0) := cmpIqlt.2 h0
  have T6 : Hid (¬ 0 ≤ cmpI b.num 0) := by show ¬ _; have := T5.out; omega
  have P0 : Hid (0 < (-b).num) := by show 0 < _; rw [Rat.neg_num]; omega
  have PL : Hid (-b ≤ -a) := Rat.neg_le_neg hle
  clear h0 hle
  have Bs : Hid (Rb (simQ (-b) (-a)) 200) := simQ_rb P0.out PL.out (rb_neg hb.out) (rb_neg ha.out)
  refine region_fr (C := [Fq.pair a.num (a.den : Int), Fq.pair b.num (b.den : Int), Fq.is (.int .i64 (cmpQ a b)), Fq.is (.bool false)]) (ks := [none, none, none]) (new := []) E rfl (by kernel_rfl) rfl rfl (fun hp => ⟨?_, ?_, ?_, ?_, trivial⟩) ?_
  · exact q_loadRat hp (free_of rfl) trivial (List.mem_iff_getElem?.2 ⟨2, rfl⟩) (.inl rfl) rfl (sq_out rfl rfl (fun _ _ => rfl)) (fun us w hl h => h)
  · exact q_loadRat hp (free_of rfl) trivial (List.mem_iff_getElem?.2 ⟨1, rfl⟩) (.inl rfl) rfl (sq_out rfl rfl (fun _ _ => rfl)) (fun us w hl h => h)
  · exact q_call2 (F := (Fq.pair a.num (a.den : Int)).P) (G := (Fq.pair b.num (b.den : Int)).P) hp (free_of rfl) trivial (enq_S_Cmp) (sq_in 0 rfl rfl (by simp) rfl (fun v w h => h)) (sq_in 1 rfl rfl (by simp) rfl (fun v w h => h)) (fun v v' w h h' => exSCmpQ h h' (rb_le ha.out (by omega)) (rb_le hb.out (by omega)))
  · exact q_one (F := fun v _ => v = .int .i64 (cmpQ a b)) hp (free_of rfl) trivial (sq_in 2 rfl rfl (by simp) rfl (fun v w h => h)) (fun ρ w hc h => ⟨.bool false, by simp [execOp, go_sem, h, hc, T3.out], rfl⟩)
  intro L vs w4 nb hL hC hn E4
  have e2 : vs 2 = .int .i64 (cmpQ a b) := hC 2 (by simp)
  have e3 : vs 3 = .bool false := hC 3 (by simp)
  have E : Fr w [(b3, 4, Fq.pair 0 0), (b2, 4, Fq.pair b.num (b.den : Int)), (b1, 4, Fq.pair a.num (a.den : Int))] w4 := E4
  rw [lay_all hL]
  simp only [putAll, dstOf, List.length_cons, List.length_nil, Nat.zero_add, Nat.reduceAdd, List.getElem?_toArray, List.getElem?_cons_zero, List.getElem?_cons_succ, Option.bind_some, Act.put, List.setIfInBounds_toArray, List.set_cons_succ, List.set_cons_zero]
  rw [e2, e3]
  generalize vs 0 = u4_0
  generalize vs 1 = u4_1
  clear e2 e3 hC hn E4 hL vs L nb
  go_upto_region 3 with (fail)
  refine region_fr (C := [Fq.pair a.num (a.den : Int), Fq.is (.int .i64 (cmpI a.num 0)), Fq.is (.bool true), Fq.is (.bool true), Fq.pair b.num (b.den : Int), Fq.is (.int .i64 (cmpI b.num 0)), Fq.is (.bool false), Fq.is (.bool false)]) (ks := [none, none, none]) (new := []) E rfl (by kernel_rfl) rfl rfl (fun hp => ⟨?_, ?_, ?_, ?_, ?_, ?_, ?_, ?_, trivial⟩) ?_
  · exact q_loadRat hp (free_of rfl) trivial (List.mem_iff_getElem?.2 ⟨2, rfl⟩) (.inl rfl) rfl (sq_out rfl rfl (fun _ _ => rfl)) (fun us w hl h => h)
  · exact q_call1 (F := (Fq.pair a.num (a.den : Int)).P) hp (free_of rfl) trivial (enq_S_Sign) (sq_in 0 rfl rfl (by simp) rfl (fun v w h => h)) (fun v w h => exSSignQ h (rb_le ha.out (by omega)))
  · exact q_one (F := fun v _ => v = .int .i64 (cmpI a.num 0)) hp (free_of rfl) trivial (sq_in 1 rfl rfl (by simp) rfl (fun v w h => h)) (fun ρ w hc h => ⟨.bool true, by simp [execOp, go_sem, h, hc, T4.out], rfl⟩)
  · exact q_move hp (free_of rfl) trivial (sq_in 2 rfl rfl (by simp) rfl (fun v w h => h))
  · exact q_loadRat hp (free_of rfl) (gq_some rfl rfl (by simp) rfl (fun v w h => h)) (List.mem_iff_getElem?.2 ⟨1, rfl⟩) (.inl rfl) rfl (sq_out rfl rfl (fun _ _ => rfl)) (fun us w hl h => h)
  · exact q_call1 (F := (Fq.pair b.num (b.den : Int)).P) hp (free_of rfl) (gq_some rfl rfl (by simp) rfl (fun v w h => h)) (enq_S_Sign) (sq_in 4 rfl rfl (by simp) rfl (fun v w h => h)) (fun v w h => exSSignQ h (rb_le hb.out (by omega)))
  · exact q_one (F := fun v _ => v = .int .i64 (cmpI b.num 0)) hp (free_of rfl) (gq_some rfl rfl (by simp) rfl (fun v w h => h)) (sq_in 5 rfl rfl (by simp) rfl (fun v w h => h)) (fun ρ w hc h => ⟨.bool false, by simp [execOp, go_sem, h, hc, T6.out], rfl⟩)
  · exact q_two (F := fun v _ => v = .bool true) (G := fun v _ => v = .bool false) hp (free_of rfl) trivial (sq_in 3 rfl rfl (by simp) rfl (fun v w h => h)) (sq_in 6 rfl rfl (by simp) rfl (fun v w h => h)) (fun ρ w hc h h' => ⟨_, by simp [execOp, go_sem, h, h'], rfl⟩)
  intro L vs w5 nb hL hC hn E5
  have e1 : vs 1 = .int .i64 (cmpI a.num 0) := hC 1 (by simp)
  have e2 : vs 2 = .bool true := hC 2 (by simp)
  have e3 : vs 3 = .bool true := hC 3 (by simp)
  have e5 : vs 5 = .int .i64 (cmpI b.num 0) := hC 5 (by simp)
  have e6 : vs 6 = .bool false := hC 6 (by simp)
  have e7 : vs 7 = .bool false := hC 7 (by simp)
  have E : Fr w [(b3, 4, Fq.pair 0 0), (b2, 4, Fq.pair b.num (b.den : Int)), (b1, 4, Fq.pair a.num (a.den : Int))] w5 := E5
  rw [lay_all hL]
  simp only [putAll, dstOf, List.length_cons, List.length_nil, Nat.zero_add, Nat.reduceAdd, List.getElem?_toArray, List.getElem?_cons_zero, List.getElem?_cons_succ, Option.bind_some, Act.put, List.setIfInBounds_toArray, List.set_cons_succ, List.set_cons_zero]
  rw [e1, e2, e3, e5, e6, e7]
  generalize vs 0 = u5_0
  generalize vs 4 = u5_4
  clear e1 e2 e3 e5 e6 e7 hC hn E5 hL vs L nb
  go_upto_region 5 with (fail)
  refine region_fr (C := [Fq.pair b.num (b.den : Int), Fq.is (.int .i64 (cmpI b.num 0)), Fq.is (.bool true)]) (ks := [none, none, none]) (new := []) E rfl (by kernel_rfl) rfl rfl (fun hp => ⟨?_, ?_, ?_, trivial⟩) ?_
  · exact q_loadRat hp (free_of rfl) trivial (List.mem_iff_getElem?.2 ⟨1, rfl⟩) (.inl rfl) rfl (sq_out rfl rfl (fun _ _ => rfl)) (fun us w hl h => h)
  · exact q_call1 (F := (Fq.pair b.num (b.den : Int)).P) hp (free_of rfl) trivial (enq_S_Sign) (sq_in 0 rfl rfl (by simp) rfl (fun v w h => h)) (fun v w h => exSSignQ h (rb_le hb.out (by omega)))
  · exact q_one (F := fun v _ => v = .int .i64 (cmpI b.num 0)) hp (free_of rfl) trivial (sq_in 1 rfl rfl (by simp) rfl (fun v w h => h)) (fun ρ w hc h => ⟨.bool true, by simp [execOp, go_sem, h, hc, T5.out], rfl⟩)
  intro L vs w6 nb hL hC hn E6
  have e1 : vs 1 = .int .i64 (cmpI b.num 0) := hC 1 (by simp)
  have e2 : vs 2 = .bool true := hC 2 (by simp)
  have E : Fr w [(b3, 4, Fq.pair 0 0), (b2, 4, Fq.pair b.num (b.den : Int)), (b1, 4, Fq.pair a.num (a.den : Int))] w6 := E6
  rw [lay_all hL]
  simp only [putAll, dstOf, List.length_cons, List.length_nil, Nat.zero_add, Nat.reduceAdd, List.getElem?_toArray, List.getElem?_cons_zero, List.getElem?_cons_succ, Option.bind_some, Act.put, List.setIfInBounds_toArray, List.set_cons_succ, List.set_cons_zero]
  rw [e1, e2]
  generalize vs 0 = u6_0
  clear e1 e2 hC hn E6 hL vs L nb
  clear T3 T4 T5 T6
  go_upto_region 6 with (fail)
  have B7 : Hid (Rb (-b) 200) := rb_neg hb.out
  have B8 : Hid (Rb (-a) 200) := rb_neg ha.out
  refine region_fr (C := [Fq.pair b.num (b.den : Int), Fq.pair (-b).num ((-b).den : Int), Fq.pair a.num (a.den : Int), Fq.pair (-a).num ((-a).den : Int), Fq.tup2 (Fq.pair (simQ (-b) (-a)).num ((simQ (-b) (-a)).den : Int)) (Fq.is (.int .i64 0)), Fq.tup2 (Fq.pair (simQ (-b) (-a)).num ((simQ (-b) (-a)).den : Int)) (Fq.is (.int .i64 0)), Fq.pair (simQ (-b) (-a)).num ((simQ (-b) (-a)).den : Int), Fq.is (.int .i64 0), Fq.any, Fq.any, Fq.is (.int .i64 0)]) (ks := [none, none, none]) (new := [⟨8, 9, 4, Fq.pair 0 0, Fq.pair (simQ (-b) (-a)).num ((simQ (-b) (-a)).den : Int), none⟩]) E rfl (by kernel_rfl) rfl rfl (fun hp => ⟨?_, ?_, ?_, ?_, ?_, ?_, ?_, ?_, ?_, ?_, ?_, trivial⟩) ?_
  · exact q_loadRat hp (free_of rfl) trivial (List.mem_iff_getElem?.2 ⟨1, rfl⟩) (.inl rfl) rfl (sq_out rfl rfl (fun _ _ => rfl)) (fun us w hl h => h)
  · exact q_call1 (F := (Fq.pair b.num (b.den : Int)).P) hp (free_of rfl) trivial (enq_S_Neg) (sq_in 0 rfl rfl (by simp) rfl (fun v w h => h)) (fun v w h => exSNegQ h (rb_le hb.out (by omega)))
  · exact q_loadRat hp (free_of rfl) trivial (List.mem_iff_getElem?.2 ⟨2, rfl⟩) (.inl rfl) rfl (sq_out rfl rfl (fun _ _ => rfl)) (fun us w hl h => h)
  · exact q_call1 (F := (Fq.pair a.num (a.den : Int)).P) hp (free_of rfl) trivial (enq_S_Neg) (sq_in 2 rfl rfl (by simp) rfl (fun v w h => h)) (fun v w h => exSNegQ h (rb_le ha.out (by omega)))
  · exact q_call2 (F := (Fq.pair (-b).num ((-b).den : Int)).P) (G := (Fq.pair (-a).num ((-a).den : Int)).P) hp (free_of rfl) trivial (enq_S_Between) (sq_in 1 rfl rfl (by simp) rfl (fun v w h => h)) (sq_in 3 rfl rfl (by simp) rfl (fun v w h => h)) (fun v v' w h h' => exSBetPos h h' (rb_le B7.out (by omega)) (rb_le B8.out (by omega)) P0.out PL.out)
  · exact q_move hp (free_of rfl) trivial (sq_in 4 rfl rfl (by simp) rfl (fun v w h => h))
  · exact q_extract2 hp (free_of rfl) trivial (sq_in 5 rfl rfl (by simp) rfl (fun v w h => h)) (fun v1 v2 w h1 h2 => ⟨_, rfl, h1⟩)
  · exact q_extract2 hp (free_of rfl) trivial (sq_in 5 rfl rfl (by simp) rfl (fun v w h => h)) (fun v1 v2 w h1 h2 => ⟨_, rfl, h2⟩)
  · exact q_allocRat hp (List.mem_iff_getElem?.2 ⟨0, rfl⟩) rfl rfl rfl rfl (Nat.ne_of_beq_eq_false rfl) (fun _ _ => trivial) (old_ne rfl) (newk_ne rfl) (fun w => Pair.zero w)
  · exact q_storeNewRat hp (List.mem_iff_getElem?.2 ⟨0, rfl⟩) rfl rfl rfl (own_ptr rfl rfl (by simp) rfl) (sq_in 6 rfl rfl (by simp) rfl (fun v w h => ratV_pair h)) (fun _ _ => trivial) (old_ne rfl) (newi_ne rfl)
  · exact q_assign hp (free_of rfl) trivial (sq_in 7 rfl rfl (by simp) rfl (fun v w h => h))
  intro L vs w9 nb hL hC hn E9
  have e7 : vs 7 = .int .i64 0 := hC 7 (by simp)
  have e10 : vs 10 = .int .i64 0 := hC 10 (by simp)
  have e8 : vs 8 = .pointer (some ⟨nb 8, 0, none⟩) := hn _ (List.mem_iff_getElem?.2 ⟨0, rfl⟩)
  have E : Fr w [(nb 8, 4, Fq.pair (simQ (-b) (-a)).num ((simQ (-b) (-a)).den : Int)), (b3, 4, Fq.pair 0 0), (b2, 4, Fq.pair b.num (b.den : Int)), (b1, 4, Fq.pair a.num (a.den : Int))] w9 := E9
  rw [lay_all hL]
  simp only [putAll, dstOf, List.length_cons, List.length_nil, Nat.zero_add, Nat.reduceAdd, List.getElem?_toArray, List.getElem?_cons_zero, List.getElem?_cons_succ, Option.bind_some, Act.put, List.setIfInBounds_toArray, List.set_cons_succ, List.set_cons_zero]
  rw [e7, e10, e8]
  generalize nb 8 = b9_8 at E ⊢
  generalize vs 0 = u9_0
  generalize vs 1 = u9_1
  generalize vs 2 = u9_2
  generalize vs 3 = u9_3
  generalize vs 4 = u9_4
  generalize vs 5 = u9_5
  generalize vs 6 = u9_6
  clear e7 e10 e8 hC hn E9 hL vs L nb
  go_upto_region 7 with (fail)
  have B10 : Hid (Rb (-(simQ (-b) (-a))) 200) := rb_neg Bs.out
  refine region_fr (C := [Fq.pair (simQ (-b) (-a)).num ((simQ (-b) (-a)).den : Int), Fq.pair (-(simQ (-b) (-a))).num ((-(simQ (-b) (-a))).den : Int), Fq.any, Fq.is (.int .i64 0)]) (ks := [none, some (2, Fq.pair (-(simQ (-b) (-a))).num ((-(simQ (-b) (-a))).den : Int)), none, none]) (new := []) E rfl (by kernel_rfl) rfl rfl (fun hp => ⟨?_, ?_, ?_, ?_, trivial⟩) ?_
  · exact q_loadRat hp (free_of rfl) trivial (List.mem_iff_getElem?.2 ⟨0, rfl⟩) (.inl rfl) rfl (sq_out rfl rfl (fun _ _ => rfl)) (fun us w hl h => h)
  · exact q_call1 (F := (Fq.pair (simQ (-b) (-a)).num ((simQ (-b) (-a)).den : Int)).P) hp (free_of rfl) trivial (enq_S_Neg) (sq_in 0 rfl rfl (by simp) rfl (fun v w h => h)) (fun v w h => exSNegQ h (rb_le Bs.out (by omega)))
  · exact q_storeOldRat hp (List.mem_iff_getElem?.2 ⟨1, rfl⟩) rfl rfl (sq_out rfl rfl (fun _ _ => rfl)) (sq_in 1 rfl rfl (by simp) rfl (fun v w h => ratV_pair h)) (fun _ _ => trivial) (newik_ne rfl)
  · exact q_assign hp (free_of rfl) trivial (sq_const (fun _ => rfl))
  intro L vs w11 nb hL hC hn E11
  have e3 : vs 3 = .int .i64 0 := hC 3 (by simp)
  have E : Fr w [(b9_8, 4, Fq.pair (simQ (-b) (-a)).num ((simQ (-b) (-a)).den : Int)), (b3, 4, Fq.pair (-(simQ (-b) (-a))).num ((-(simQ (-b) (-a))).den : Int)), (b2, 4, Fq.pair b.num (b.den : Int)), (b1, 4, Fq.pair a.num (a.den : Int))] w11 := E11
  rw [lay_all hL]
  simp only [putAll, dstOf, List.length_cons, List.length_nil, Nat.zero_add, Nat.reduceAdd, List.getElem?_toArray, List.getElem?_cons_zero, List.getElem?_cons_succ, Option.bind_some, Act.put, List.setIfInBounds_toArray, List.set_cons_succ, List.set_cons_zero]
  rw [e3]
  generalize vs 0 = u11_0
  generalize vs 1 = u11_1
  clear e3 hC hn E11 hL vs L nb
  clear P0 PL Bs
  obtain ⟨p0, p1, p2, p3, c0, c1, c2, c3, hP⟩ := box_pair (E.box 1 rfl)
  clear B7 B8 B10 ha hb
  go_wp2
  refine bodyPost_ret (v := .tuple #[.agg #[p0, p1, p2, p3], .int .i64 0]) ?_ rfl ⟨_, rfl, E.below, ⟨_, _, rfl, hP, rfl⟩⟩
  simp [results, Tryz.results43, go_sem, c0, c1, c2, c3]

end Go.Proofs.YtoimphnhmpmipaaGreat

/- Walk of the law on the simplest fraction. -/
namespace Go.Proofs.YtoimphnhmpmipaaGreat
open Go Go.RowKit

theorem both_true2 {p q : Prop} [Decidable p] [Decidable q] (h1 : p) (h2 : q) : (decide p && decide q) = true := by simp [h1, h2]
theorem both_false2 {p q : Prop} [Decidable p] [Decidable q] (h1 : ¬ (p ∧ q)) : (decide p && decide q) = false := by
  rw [Bool.eq_false_iff]
  intro h
  simp only [Bool.and_eq_true, decide_eq_true_eq] at h
  exact h1 h
theorem measK {n : Nat} {k : Int} (h0 : 1 ≤ k) (h : k < n) : n - (intOf (.int .i64 (k + 1))).toNat < n - (intOf (.int .i64 k)).toNat := by simp [intOf]; omega
theorem mul_whole (a : Rat) (k : Int) : a * (k : Rat) = ((a.num * k : Int) : Rat) / ((a.den : Int) : Rat) := by
  rw [mul_div, (whole_num k).1, (whole_num k).2, Rat.divInt_eq_div, Int.mul_one]
theorem den_posQ (a : Rat) : (0 : Rat) < ((a.den : Int) : Rat) := by
  have := den_pos a
  exact Rat.intCast_lt_intCast.2 this
theorem lt_mulW {p k : Int} {a : Rat} : (p : Rat) < a * (k : Rat) ↔ p * a.den < a.num * k := by
  rw [mul_whole, Rat.lt_div_iff (den_posQ a), ← Rat.intCast_mul, Rat.intCast_lt_intCast]
theorem mul_ltW {p k : Int} {a : Rat} : a * (k : Rat) < (p : Rat) ↔ a.num * k < p * a.den := by
  rw [mul_whole, Rat.div_lt_iff (den_posQ a), ← Rat.intCast_mul, Rat.intCast_lt_intCast]
theorem divInt_lt {m d : Int} {a : Rat} (hd : 0 < d) : Rat.divInt m d < a ↔ m * a.den < a.num * d := by
  rw [Rat.divInt_eq_div, Rat.div_lt_iff (Rat.intCast_lt_intCast.2 hd), lt_mulW]
theorem lt_divIntW {m d : Int} {a : Rat} (hd : 0 < d) : a < Rat.divInt m d ↔ a.num * d < m * a.den := by
  rw [Rat.divInt_eq_div, Rat.lt_div_iff (Rat.intCast_lt_intCast.2 hd), mul_ltW]
theorem divInt_one (k : Int) : Rat.divInt k (1) = (k : Rat) := by
  rw [Rat.divInt_eq_div]
  have : ((1 : Int) : Rat) = 1 := rfl
  rw [this, Rat.div_def]
  have : (1 : Rat)⁻¹ = 1 := by decide +kernel
  rw [this, Rat.mul_one]

/-- The simplest fraction between two. -/
noncomputable def betQ (a b : Rat) : Rat := if 0 < a.num then simQ a b else if b.num < 0 then -(simQ (-b) (-a)) else 0
theorem bet_rb {a b : Rat} {k : Nat} (hk : 1 ≤ k) (hle : a ≤ b) (ha : Rb a k) (hb : Rb b k) : Rb (betQ a b) k := by
  unfold betQ
  split
  · rename_i h0
    exact simQ_rb h0 hle ha hb
  · split
    · rename_i h1
      exact rb_neg (simQ_rb (by rw [Rat.neg_num]; omega) (Rat.neg_le_neg hle) (rb_neg hb) (rb_neg ha))
    · exact rb_int (z := 0) (by have := pw_pos k; exact this) hk
theorem zero_num {a b : Rat} (h0 : ¬ 0 < a.num) (h1 : ¬ b.num < 0) : a ≤ 0 ∧ (0 : Rat) ≤ b := by
  constructor
  · refine Rat.not_lt.1 fun h => ?_
    have := (Rat.lt_iff _ _).1 h
    simp at this
    omega
  · refine Rat.not_lt.1 fun h => ?_
    have := (Rat.lt_iff _ _).1 h
    simp at this
    omega
theorem neg_pos {b : Rat} (h : b.num < 0) : 0 < (-b).num := by rw [Rat.neg_num]; omega
theorem neg_neg_le {x y : Rat} (h : -x ≤ y) : -y ≤ x := by
  have := Rat.neg_le_neg h
  simpa using this
theorem le_neg_neg {x y : Rat} (h : x ≤ -y) : y ≤ -x := by
  have := Rat.neg_le_neg h
  simpa using this
theorem bet_in {a b : Rat} (hle : a ≤ b) : a ≤ betQ a b ∧ betQ a b ≤ b := by
  unfold betQ
  split
  · rename_i h0
    exact simQ_in h0 hle
  · split
    · rename_i h1
      have := simQ_in (neg_pos h1) (Rat.neg_le_neg hle)
      exact ⟨le_neg_neg this.2, neg_neg_le this.1⟩
    · rename_i h0 h1
      exact zero_num h0 h1
theorem bet_min {a b : Rat} (hle : a ≤ b) {p q : Int} (hq : 0 < q) (h1 : a.num * q ≤ p * a.den) (h2 : p * b.den ≤ b.num * q) :
    ((betQ a b).den : Int) ≤ q ∧ (0 < (betQ a b).num → (betQ a b).num ≤ p) ∧ ((betQ a b).num < 0 → p ≤ (betQ a b).num) := by
  unfold betQ
  split
  · rename_i h0
    have := simQ_min h0 hle hq h1 h2
    have h3 := simQ_pos h0 hle
    exact ⟨this.2, fun _ => this.1, fun h => by omega⟩
  · split
    · rename_i h0
      have := simQ_min (neg_pos h0) (Rat.neg_le_neg hle) (p := -p) hq (by rw [Rat.neg_num, Rat.neg_den, Int.neg_mul, Int.neg_mul]; omega) (by rw [Rat.neg_num, Rat.neg_den, Int.neg_mul, Int.neg_mul]; omega)
      have h3 := simQ_pos (neg_pos h0) (Rat.neg_le_neg hle)
      rw [Rat.neg_num, Rat.neg_den]
      exact ⟨this.2, fun h => by omega, fun _ => by have := this.1; omega⟩
    · refine ⟨?_, fun h => ?_, fun h => ?_⟩
      · show (1 : Int) ≤ q
        omega
      · exact absurd h (by decide)
      · exact absurd h (by decide)
/-- No number of the interval has a smaller denominator. -/
theorem bet_low {a b : Rat} (hle : a ≤ b) {k : Int} (h1 : 1 ≤ k) (hk : k < ((betQ a b).den : Int)) : (((b * (Rat.divInt k (1))).floor : Int) : Rat) < a * (Rat.divInt k (1)) := by
  rw [divInt_one]
  refine Rat.not_le.1 fun h => ?_
  have e1 : ¬ ((((b * (k : Rat)).floor : Int) : Rat) < a * (k : Rat)) := Rat.not_lt.2 h
  have e2 : ¬ (b * (k : Rat) < (((b * (k : Rat)).floor : Int) : Rat)) := Rat.not_lt.2 (Rat.floor_le _)
  rw [lt_mulW] at e1
  rw [mul_ltW] at e2
  have := (bet_min hle (p := (b * (k : Rat)).floor) (q := k) (by omega) (by omega) (by omega)).1
  omega
/-- No number of the interval has the same denominator and a smaller numerator. -/
theorem bet_near {a b : Rat} (hle : a ≤ b) {q : Rat} (hq : q = betQ a b) : (0 < q.num → ¬ (a ≤ Rat.divInt (q.num - 1) (q.den : Int) ∧ Rat.divInt (q.num - 1) (q.den : Int) ≤ b)) ∧ (q.num < 0 → ¬ (a ≤ Rat.divInt (q.num + 1) (q.den : Int) ∧ Rat.divInt (q.num + 1) (q.den : Int) ≤ b)) := by
  have hd := den_pos q
  subst hq
  constructor
  · rintro h ⟨h1, h2⟩
    have e1 := mt (divInt_lt hd).2 (Rat.not_lt.2 h1)
    have e2 := mt (lt_divIntW hd).2 (Rat.not_lt.2 h2)
    have := (bet_min hle (p := (betQ a b).num - 1) hd (by omega) (by omega)).2.1 h
    omega
  · rintro h ⟨h1, h2⟩
    have e1 := mt (divInt_lt hd).2 (Rat.not_lt.2 h1)
    have e2 := mt (lt_divIntW hd).2 (Rat.not_lt.2 h2)
    have := (bet_min hle (p := (betQ a b).num + 1) hd (by omega) (by omega)).2.2 h
    omega
theorem near_pos {q : Rat} (h : 0 < q.num) : Rat.divInt ((q.num.natAbs : Int) - (1)) (q.den : Int) = Rat.divInt (q.num - 1) (q.den : Int) := by
  congr 1; omega
theorem near_neg {q : Rat} (h : q.num < 0) : -(Rat.divInt ((q.num.natAbs : Int) - (1)) (q.den : Int)) = Rat.divInt (q.num + 1) (q.den : Int) := by
  rw [Rat.neg_divInt]
  congr 1; omega
theorem exQBet {w : World} {v v' : Value} {a b : Rat} (h : Pair w v a.num a.den) (h' : Pair w v' b.num b.den) (ha : Rb a 200) (hb : Rb b 200) (hle : a ≤ b) : Calls Tryz.prog 42 #[v, v'] w fun e w' => ∃ v', e = .returned v' ∧ Below w.heap.size w w' ∧ (Fq.tup2 (Fq.pair (betQ a b).num ((betQ a b).den : Int)) (Fq.is (.int .i64 0))).P v' w' := by
  unfold betQ
  split
  · rename_i h0
    exact exBetPos h h' ha hb h0 hle
  · split
    · rename_i h1
      exact exBetN h h' ha hb h1 hle
    · rename_i h0 h1
      exact exBetZ h h' ha hb (by omega) (by omega) hle
theorem exSBet {w : World} {v v' : Value} {a b : Rat} (h : Pair w v a.num a.den) (h' : Pair w v' b.num b.den) (ha : Rb a 200) (hb : Rb b 200) (hle : a ≤ b) : Calls Tryz.prog 43 #[v, v'] w fun e w' => ∃ v', e = .returned v' ∧ Below w.heap.size w w' ∧ (Fq.tup2 (Fq.pair (betQ a b).num ((betQ a b).den : Int)) (Fq.is (.int .i64 0))).P v' w' := by
  unfold betQ
  split
  · rename_i h0
    exact exSBetPos h h' ha hb h0 hle
  · split
    · rename_i h1
      exact exSBetN h h' ha hb h1 hle
    · rename_i h0 h1
      exact exSBetZ h h' ha hb (by omega) (by omega) hle

set_option maxRecDepth 100000 in
set_option maxHeartbeats 4000000 in
theorem RationalSimplest_any (w : World) (n1 : Bool) (a1 : Option Addr) (k1 c1 : Nat) (xs1 : List Int) (m1 : Bool) (r1 : Option Addr) (l1 q1 : Nat) (ys1 : List Int) (h1 : Sl w a1 k1 c1 xs1) (g1 : Sl w r1 l1 q1 ys1) (hk1 : k1 ≤ 9223372036854775807) (hl1 : l1 ≤ 9223372036854775807) (n2 : Bool) (a2 : Option Addr) (k2 c2 : Nat) (xs2 : List Int) (m2 : Bool) (r2 : Option Addr) (l2 q2 : Nat) (ys2 : List Int) (h2 : Sl w a2 k2 c2 xs2) (g2 : Sl w r2 l2 q2 ys2) (hk2 : k2 ≤ 9223372036854775807) (hl2 : l2 ≤ 9223372036854775807) :
    Calls Tryz.prog 6 #[.agg #[.bool n1, .slice a1 k1 c1, .bool m1, .slice r1 l1 q1], .agg #[.bool n2, .slice a2 k2 c2, .bool m2, .slice r2 l2 q2]] w fun e w' => e = .returned (.bool true) ∧ Below w.heap.size w w' := by
  obtain ⟨a, ha⟩ : ∃ a, a = madeQ n1 xs1 ys1 m1 3 := ⟨_, rfl⟩
  have Ba : Hid (Rb a 3) := by rw [ha]; exact made_rb h1.digs g1.digs (by omega)
  have Ha := hidd ha
  have K1 := hidd hk1
  have L1 := hidd hl1
  clear ha hk1 hl1
  obtain ⟨b, hb⟩ : ∃ b, b = madeQ n2 xs2 ys2 m2 3 := ⟨_, rfl⟩
  have Bb : Hid (Rb b 3) := by rw [hb]; exact made_rb h2.digs g2.digs (by omega)
  have Hb := hidd hb
  have K2 := hidd hk2
  have L2 := hidd hl2
  clear hb hk2 hl2
  obtain ⟨w1, b1, hw1, hb1, hs1, E⟩ := fr_start w (F := Fq.raw2 n1 a1 k1 c1 xs1 m1 r1 l1 q1 ys1) (us := [.bool n1, .slice a1 k1 c1, .bool m1, .slice r1 l1 q1]) 26 rfl (by simp) (tame_rat _ _ _ _ _ _ _ _) (show (Fq.raw2 n1 a1 k1 c1 xs1 m1 r1 l1 q1 ys1).P _ w from ⟨rfl, h1, g1⟩)
  obtain ⟨w2, b2, hw2, hb2, hs2, E⟩ := fr_more E hs1 (F := Fq.raw2 n2 a2 k2 c2 xs2 m2 r2 l2 q2 ys2) (us := [.bool n2, .slice a2 k2 c2, .bool m2, .slice r2 l2 q2]) 26 rfl (by simp) (tame_rat _ _ _ _ _ _ _ _) ((Fq.raw2 n2 a2 k2 c2 xs2 m2 r2 l2 q2 ys2).mono (show (Fq.raw2 n2 a2 k2 c2 xs2 m2 r2 l2 q2 ys2).P _ w from ⟨rfl, h2, g2⟩) E.below)
  go_enter Tryz.func6, Tryz.ntmps6
  go_upto_region 1 with (fail)
  rw [← hw1]
  rw [← hw2]
  rw [← hb2]
  rw [← hb1]
  clear hw1 hw2 hb1 hb2 hs2 hs1
  refine region_fr (C := [Fq.is (.bool true), Fq.is (.bool true)]) (ks := [none, none]) (new := []) E rfl (by kernel_rfl) rfl rfl (fun hp => ⟨?_, ?_, trivial⟩) ?_
  · exact q_call0 hp (free_of rfl) trivial (enq_K_examples) (fun w => exExamples w)
  · exact q_assign hp (free_of rfl) trivial (sq_in 0 rfl rfl (by simp) rfl (fun v w h => h))
  intro L vs w3 nb hL hC hn E3
  have e0 : vs 0 = .bool true := hC 0 (by simp)
  have e1 : vs 1 = .bool true := hC 1 (by simp)
  have E : Fr w [(b2, 4, Fq.raw2 n2 a2 k2 c2 xs2 m2 r2 l2 q2 ys2), (b1, 4, Fq.raw2 n1 a1 k1 c1 xs1 m1 r1 l1 q1 ys1)] w3 := E3
  rw [lay_all hL]
  simp only [putAll, dstOf, List.length_cons, List.length_nil, Nat.zero_add, Nat.reduceAdd, List.getElem?_toArray, List.getElem?_cons_zero, List.getElem?_cons_succ, Option.bind_some, Act.put, List.setIfInBounds_toArray, List.set_cons_succ, List.set_cons_zero]
  rw [e0, e1]
  clear e0 e1 hC hn E3 hL vs L nb
  go_upto_region 2 with (fail)
  refine region_fr (C := [Fq.is (.bool true), Fq.is (.bool false)]) (ks := [none, none]) (new := []) E rfl (by kernel_rfl) rfl rfl (fun hp => ⟨?_, ?_, trivial⟩) ?_
  · exact q_move hp (free_of rfl) trivial (sq_out rfl rfl (fun _ _ => rfl))
  · exact q_one (F := fun v _ => v = .bool true) hp (free_of rfl) trivial (sq_in 0 rfl rfl (by simp) rfl (fun v w h => h)) (fun ρ w _ h => ⟨.bool false, by simp [execOp, go_sem, h], rfl⟩)
  intro L vs w4 nb hL hC hn E4
  have e0 : vs 0 = .bool true := hC 0 (by simp)
  have e1 : vs 1 = .bool false := hC 1 (by simp)
  have E : Fr w [(b2, 4, Fq.raw2 n2 a2 k2 c2 xs2 m2 r2 l2 q2 ys2), (b1, 4, Fq.raw2 n1 a1 k1 c1 xs1 m1 r1 l1 q1 ys1)] w4 := E4
  rw [lay_all hL]
  simp only [putAll, dstOf, List.length_cons, List.length_nil, Nat.zero_add, Nat.reduceAdd, List.getElem?_toArray, List.getElem?_cons_zero, List.getElem?_cons_succ, Option.bind_some, Act.put, List.setIfInBounds_toArray, List.set_cons_succ, List.set_cons_zero]
  rw [e0, e1]
  clear e0 e1 hC hn E4 hL vs L nb
  go_upto_region 4 with (fail)
  refine region_fr (C := [Fq.raw2 n1 a1 k1 c1 xs1 m1 r1 l1 q1 ys1, Fq.pair a.num (a.den : Int), Fq.raw2 n2 a2 k2 c2 xs2 m2 r2 l2 q2 ys2, Fq.pair b.num (b.den : Int), Fq.any, Fq.any, Fq.any, Fq.any]) (ks := [none, none]) (new := [⟨4, 6, 4, Fq.pair 0 0, Fq.pair a.num (a.den : Int), none⟩, ⟨5, 7, 4, Fq.pair 0 0, Fq.pair b.num (b.den : Int), none⟩]) E rfl (by kernel_rfl) rfl rfl (fun hp => ⟨?_, ?_, ?_, ?_, ?_, ?_, ?_, ?_, trivial⟩) ?_
  · exact q_loadRaw2 hp (free_of rfl) trivial (List.mem_iff_getElem?.2 ⟨1, rfl⟩) (.inl rfl) rfl (sq_out rfl rfl (fun _ _ => rfl)) (fun us w hl h => h)
  · exact q_call2 (F := (Fq.raw2 n1 a1 k1 c1 xs1 m1 r1 l1 q1 ys1).P) (G := (Fq.is (.int .i64 3)).P) hp (free_of rfl) trivial (enq_S_Made) (sq_in 0 rfl rfl (by simp) rfl (fun v w h => h)) (sq_const (fun _ => rfl)) (fun v v' w h h' => (by obtain ⟨rfl, s1, s2⟩ := h; subst h'; rw [Ha.out]; exact exSMade (j := 3) s1 s2 K1.out L1.out (by omega)))
  · exact q_loadRaw2 hp (free_of rfl) trivial (List.mem_iff_getElem?.2 ⟨0, rfl⟩) (.inl rfl) rfl (sq_out rfl rfl (fun _ _ => rfl)) (fun us w hl h => h)
  · exact q_call2 (F := (Fq.raw2 n2 a2 k2 c2 xs2 m2 r2 l2 q2 ys2).P) (G := (Fq.is (.int .i64 3)).P) hp (free_of rfl) trivial (enq_S_Made) (sq_in 2 rfl rfl (by simp) rfl (fun v w h => h)) (sq_const (fun _ => rfl)) (fun v v' w h h' => (by obtain ⟨rfl, s1, s2⟩ := h; subst h'; rw [Hb.out]; exact exSMade (j := 3) s1 s2 K2.out L2.out (by omega)))
  · exact q_allocRat hp (List.mem_iff_getElem?.2 ⟨0, rfl⟩) rfl rfl rfl rfl (Nat.ne_of_beq_eq_false rfl) (fun _ _ => trivial) (old_ne rfl) (newk_ne rfl) (fun w => Pair.zero w)
  · exact q_allocRat hp (List.mem_iff_getElem?.2 ⟨1, rfl⟩) rfl rfl rfl rfl (Nat.ne_of_beq_eq_false rfl) (fun _ _ => trivial) (old_ne rfl) (newk_ne rfl) (fun w => Pair.zero w)
  · exact q_storeNewRat hp (List.mem_iff_getElem?.2 ⟨0, rfl⟩) rfl rfl rfl (own_ptr rfl rfl (by simp) rfl) (sq_in 1 rfl rfl (by simp) rfl (fun v w h => ratV_pair h)) (fun _ _ => trivial) (old_ne rfl) (newi_ne rfl)
  · exact q_storeNewRat hp (List.mem_iff_getElem?.2 ⟨1, rfl⟩) rfl rfl rfl (own_ptr rfl rfl (by simp) rfl) (sq_in 3 rfl rfl (by simp) rfl (fun v w h => ratV_pair h)) (fun _ _ => trivial) (old_ne rfl) (newi_ne rfl)
  intro L vs w5 nb hL hC hn E5
  have e4 : vs 4 = .pointer (some ⟨nb 4, 0, none⟩) := hn _ (List.mem_iff_getElem?.2 ⟨0, rfl⟩)
  have e5 : vs 5 = .pointer (some ⟨nb 5, 0, none⟩) := hn _ (List.mem_iff_getElem?.2 ⟨1, rfl⟩)
  have E : Fr w [(nb 4, 4, Fq.pair a.num (a.den : Int)), (nb 5, 4, Fq.pair b.num (b.den : Int)), (b2, 4, Fq.raw2 n2 a2 k2 c2 xs2 m2 r2 l2 q2 ys2), (b1, 4, Fq.raw2 n1 a1 k1 c1 xs1 m1 r1 l1 q1 ys1)] w5 := E5
  rw [lay_all hL]
  simp only [putAll, dstOf, List.length_cons, List.length_nil, Nat.zero_add, Nat.reduceAdd, List.getElem?_toArray, List.getElem?_cons_zero, List.getElem?_cons_succ, Option.bind_some, Act.put, List.setIfInBounds_toArray, List.set_cons_succ, List.set_cons_zero]
  rw [e4, e5]
  generalize nb 4 = b5_4 at E ⊢
  generalize nb 5 = b5_5 at E ⊢
  generalize vs 0 = u5_0
  generalize vs 1 = u5_1
  generalize vs 2 = u5_2
  generalize vs 3 = u5_3
  clear e4 e5 hC hn E5 hL vs L nb
  by_cases hle : a ≤ b
  · obtain ⟨q, hq⟩ : ∃ q, q = betQ a b := ⟨_, rfl⟩
    have Bq : Hid (Rb q 3) := by rw [hq]; exact bet_rb (by omega) hle Ba.out Bb.out
    have HQ := hidd hq
    have HL := hidd hle
    have HI : Hid (a ≤ q ∧ q ≤ b) := by rw [hq]; exact bet_in hle
    have HN := hidd (bet_near hle hq)
    clear hq hle
    go_upto_region 5 with (fail)
    refine region_fr (C := [Fq.pair a.num (a.den : Int), Fq.pair b.num (b.den : Int), Fq.tup2 (Fq.pair q.num (q.den : Int)) (Fq.is (.int .i64 0)), Fq.tup2 (Fq.pair q.num (q.den : Int)) (Fq.is (.int .i64 0)), Fq.pair q.num (q.den : Int), Fq.is (.int .i64 0), Fq.any, Fq.any, Fq.is (.int .i64 0)]) (ks := [none, none, none, none]) (new := [⟨6, 7, 4, Fq.pair 0 0, Fq.pair q.num (q.den : Int), none⟩]) E rfl (by kernel_rfl) rfl rfl (fun hp => ⟨?_, ?_, ?_, ?_, ?_, ?_, ?_, ?_, ?_, trivial⟩) ?_
    · exact q_loadRat hp (free_of rfl) trivial (List.mem_iff_getElem?.2 ⟨0, rfl⟩) (.inl rfl) rfl (sq_out rfl rfl (fun _ _ => rfl)) (fun us w hl h => h)
    · exact q_loadRat hp (free_of rfl) trivial (List.mem_iff_getElem?.2 ⟨1, rfl⟩) (.inl rfl) rfl (sq_out rfl rfl (fun _ _ => rfl)) (fun us w hl h => h)
    · exact q_call2 (F := (Fq.pair a.num (a.den : Int)).P) (G := (Fq.pair b.num (b.den : Int)).P) hp (free_of rfl) trivial (enq_Q_Between) (sq_in 0 rfl rfl (by simp) rfl (fun v w h => h)) (sq_in 1 rfl rfl (by simp) rfl (fun v w h => h)) (fun v v' w h h' => (by rw [HQ.out]; exact exQBet h h' (rb_le Ba.out (by omega)) (rb_le Bb.out (by omega)) HL.out))
    · exact q_move hp (free_of rfl) trivial (sq_in 2 rfl rfl (by simp) rfl (fun v w h => h))
    · exact q_extract2 hp (free_of rfl) trivial (sq_in 3 rfl rfl (by simp) rfl (fun v w h => h)) (fun v1 v2 w h1 h2 => ⟨_, rfl, h1⟩)
    · exact q_extract2 hp (free_of rfl) trivial (sq_in 3 rfl rfl (by simp) rfl (fun v w h => h)) (fun v1 v2 w h1 h2 => ⟨_, rfl, h2⟩)
    · exact q_allocRat hp (List.mem_iff_getElem?.2 ⟨0, rfl⟩) rfl rfl rfl rfl (Nat.ne_of_beq_eq_false rfl) (fun _ _ => trivial) (old_ne rfl) (newk_ne rfl) (fun w => Pair.zero w)
    · exact q_storeNewRat hp (List.mem_iff_getElem?.2 ⟨0, rfl⟩) rfl rfl rfl (own_ptr rfl rfl (by simp) rfl) (sq_in 4 rfl rfl (by simp) rfl (fun v w h => ratV_pair h)) (fun _ _ => trivial) (old_ne rfl) (newi_ne rfl)
    · exact q_assign hp (free_of rfl) trivial (sq_in 5 rfl rfl (by simp) rfl (fun v w h => h))
    intro L vs w6 nb hL hC hn E6
    have e5 : vs 5 = .int .i64 0 := hC 5 (by simp)
    have e8 : vs 8 = .int .i64 0 := hC 8 (by simp)
    have e6 : vs 6 = .pointer (some ⟨nb 6, 0, none⟩) := hn _ (List.mem_iff_getElem?.2 ⟨0, rfl⟩)
    have E : Fr w [(nb 6, 4, Fq.pair q.num (q.den : Int)), (b5_4, 4, Fq.pair a.num (a.den : Int)), (b5_5, 4, Fq.pair b.num (b.den : Int)), (b2, 4, Fq.raw2 n2 a2 k2 c2 xs2 m2 r2 l2 q2 ys2), (b1, 4, Fq.raw2 n1 a1 k1 c1 xs1 m1 r1 l1 q1 ys1)] w6 := E6
    rw [lay_all hL]
    simp only [putAll, dstOf, List.length_cons, List.length_nil, Nat.zero_add, Nat.reduceAdd, List.getElem?_toArray, List.getElem?_cons_zero, List.getElem?_cons_succ, Option.bind_some, Act.put, List.setIfInBounds_toArray, List.set_cons_succ, List.set_cons_zero]
    rw [e5, e8, e6]
    generalize nb 6 = b6_6 at E ⊢
    generalize vs 0 = u6_0
    generalize vs 1 = u6_1
    generalize vs 2 = u6_2
    generalize vs 3 = u6_3
    generalize vs 4 = u6_4
    clear e5 e8 e6 hC hn E6 hL vs L nb
    go_upto_region 6 with (fail)
    refine region_fr (C := [Fq.pair a.num (a.den : Int), Fq.pair b.num (b.den : Int), Fq.tup2 (Fq.pair q.num (q.den : Int)) (Fq.is (.int .i64 0)), Fq.tup2 (Fq.pair q.num (q.den : Int)) (Fq.is (.int .i64 0)), Fq.pair q.num (q.den : Int), Fq.is (.int .i64 0), Fq.any, Fq.any, Fq.is (.int .i64 0)]) (ks := [none, none, none, none, none]) (new := [⟨6, 7, 4, Fq.pair 0 0, Fq.pair q.num (q.den : Int), none⟩]) E rfl (by kernel_rfl) rfl rfl (fun hp => ⟨?_, ?_, ?_, ?_, ?_, ?_, ?_, ?_, ?_, trivial⟩) ?_
    · exact q_loadRat hp (free_of rfl) trivial (List.mem_iff_getElem?.2 ⟨1, rfl⟩) (.inl rfl) rfl (sq_out rfl rfl (fun _ _ => rfl)) (fun us w hl h => h)
    · exact q_loadRat hp (free_of rfl) trivial (List.mem_iff_getElem?.2 ⟨2, rfl⟩) (.inl rfl) rfl (sq_out rfl rfl (fun _ _ => rfl)) (fun us w hl h => h)
    · exact q_call2 (F := (Fq.pair a.num (a.den : Int)).P) (G := (Fq.pair b.num (b.den : Int)).P) hp (free_of rfl) trivial (enq_S_Between) (sq_in 0 rfl rfl (by simp) rfl (fun v w h => h)) (sq_in 1 rfl rfl (by simp) rfl (fun v w h => h)) (fun v v' w h h' => (by rw [HQ.out]; exact exSBet h h' (rb_le Ba.out (by omega)) (rb_le Bb.out (by omega)) HL.out))
    · exact q_move hp (free_of rfl) trivial (sq_in 2 rfl rfl (by simp) rfl (fun v w h => h))
    · exact q_extract2 hp (free_of rfl) trivial (sq_in 3 rfl rfl (by simp) rfl (fun v w h => h)) (fun v1 v2 w h1 h2 => ⟨_, rfl, h1⟩)
    · exact q_extract2 hp (free_of rfl) trivial (sq_in 3 rfl rfl (by simp) rfl (fun v w h => h)) (fun v1 v2 w h1 h2 => ⟨_, rfl, h2⟩)
    · exact q_allocRat hp (List.mem_iff_getElem?.2 ⟨0, rfl⟩) rfl rfl rfl rfl (Nat.ne_of_beq_eq_false rfl) (fun _ _ => trivial) (old_ne rfl) (newk_ne rfl) (fun w => Pair.zero w)
    · exact q_storeNewRat hp (List.mem_iff_getElem?.2 ⟨0, rfl⟩) rfl rfl rfl (own_ptr rfl rfl (by simp) rfl) (sq_in 4 rfl rfl (by simp) rfl (fun v w h => ratV_pair h)) (fun _ _ => trivial) (old_ne rfl) (newi_ne rfl)
    · exact q_assign hp (free_of rfl) trivial (sq_in 5 rfl rfl (by simp) rfl (fun v w h => h))
    intro L vs w7 nb hL hC hn E7
    have e5 : vs 5 = .int .i64 0 := hC 5 (by simp)
    have e8 : vs 8 = .int .i64 0 := hC 8 (by simp)
    have e6 : vs 6 = .pointer (some ⟨nb 6, 0, none⟩) := hn _ (List.mem_iff_getElem?.2 ⟨0, rfl⟩)
    have E : Fr w [(nb 6, 4, Fq.pair q.num (q.den : Int)), (b6_6, 4, Fq.pair q.num (q.den : Int)), (b5_4, 4, Fq.pair a.num (a.den : Int)), (b5_5, 4, Fq.pair b.num (b.den : Int)), (b2, 4, Fq.raw2 n2 a2 k2 c2 xs2 m2 r2 l2 q2 ys2), (b1, 4, Fq.raw2 n1 a1 k1 c1 xs1 m1 r1 l1 q1 ys1)] w7 := E7
    rw [lay_all hL]
    simp only [putAll, dstOf, List.length_cons, List.length_nil, Nat.zero_add, Nat.reduceAdd, List.getElem?_toArray, List.getElem?_cons_zero, List.getElem?_cons_succ, Option.bind_some, Act.put, List.setIfInBounds_toArray, List.set_cons_succ, List.set_cons_zero]
    rw [e5, e8, e6]
    generalize nb 6 = b7_6 at E ⊢
    generalize vs 0 = u7_0
    generalize vs 1 = u7_1
    generalize vs 2 = u7_2
    generalize vs 3 = u7_3
    generalize vs 4 = u7_4
    clear e5 e8 e6 hC hn E7 hL vs L nb
    go_upto_region 7 with (fail)
    refine region_fr (C := [Fq.is (.int .i64 0), Fq.is (.int .i64 0), Fq.is (.bool false), Fq.is (.bool false), Fq.pair q.num (q.den : Int), Fq.pair q.num (q.den : Int), Fq.is (.bool true), Fq.is (.bool false), Fq.is (.bool false)]) (ks := [none, none, none, none, none, none]) (new := []) E rfl (by kernel_rfl) rfl rfl (fun hp => ⟨?_, ?_, ?_, ?_, ?_, ?_, ?_, ?_, ?_, trivial⟩) ?_
    · exact q_move hp (free_of rfl) trivial (sq_out rfl rfl (fun _ _ => rfl))
    · exact q_move hp (free_of rfl) trivial (sq_out rfl rfl (fun _ _ => rfl))
    · exact q_two (F := fun v _ => v = .int .i64 0) (G := fun v _ => v = .int .i64 0) hp (free_of rfl) trivial (sq_in 0 rfl rfl (by simp) rfl (fun v w h => h)) (sq_in 1 rfl rfl (by simp) rfl (fun v w h => h)) (fun ρ w hc h h' => ⟨.bool false, by simp [execOp, go_sem, h, h'], rfl⟩)
    · exact q_move hp (free_of rfl) trivial (sq_in 2 rfl rfl (by simp) rfl (fun v w h => h))
    · exact q_loadRat hp (free_of rfl) (gq_some rfl rfl (by simp) rfl (fun v w h => h)) (List.mem_iff_getElem?.2 ⟨1, rfl⟩) (.inl rfl) rfl (sq_out rfl rfl (fun _ _ => rfl)) (fun us w hl h => h)
    · exact q_loadRat hp (free_of rfl) (gq_some rfl rfl (by simp) rfl (fun v w h => h)) (List.mem_iff_getElem?.2 ⟨0, rfl⟩) (.inl rfl) rfl (sq_out rfl rfl (fun _ _ => rfl)) (fun us w hl h => h)
    · exact q_call2 (F := (Fq.pair q.num (q.den : Int)).P) (G := (Fq.pair q.num (q.den : Int)).P) hp (free_of rfl) (gq_some rfl rfl (by simp) rfl (fun v w h => h)) (enq_S_Same) (sq_in 4 rfl rfl (by simp) rfl (fun v w h => h)) (sq_in 5 rfl rfl (by simp) rfl (fun v w h => h)) (fun v v' w h h' => exSSameQ h h' rfl)
    · exact q_one (F := fun v _ => v = .bool true) hp (free_of rfl) (gq_some rfl rfl (by simp) rfl (fun v w h => h)) (sq_in 6 rfl rfl (by simp) rfl (fun v w h => h)) (fun ρ w _ h => ⟨.bool false, by simp [execOp, go_sem, h], rfl⟩)
    · exact q_two (F := fun v _ => v = .bool false) (G := fun v _ => v = .bool false) hp (free_of rfl) trivial (sq_in 3 rfl rfl (by simp) rfl (fun v w h => h)) (sq_in 7 rfl rfl (by simp) rfl (fun v w h => h)) (fun ρ w hc h h' => ⟨_, by simp [execOp, go_sem, h, h'], rfl⟩)
    intro L vs w8 nb hL hC hn E8
    have e0 : vs 0 = .int .i64 0 := hC 0 (by simp)
    have e1 : vs 1 = .int .i64 0 := hC 1 (by simp)
    have e2 : vs 2 = .bool false := hC 2 (by simp)
    have e3 : vs 3 = .bool false := hC 3 (by simp)
    have e6 : vs 6 = .bool true := hC 6 (by simp)
    have e7 : vs 7 = .bool false := hC 7 (by simp)
    have e8 : vs 8 = .bool false := hC 8 (by simp)
    have E : Fr w [(b7_6, 4, Fq.pair q.num (q.den : Int)), (b6_6, 4, Fq.pair q.num (q.den : Int)), (b5_4, 4, Fq.pair a.num (a.den : Int)), (b5_5, 4, Fq.pair b.num (b.den : Int)), (b2, 4, Fq.raw2 n2 a2 k2 c2 xs2 m2 r2 l2 q2 ys2), (b1, 4, Fq.raw2 n1 a1 k1 c1 xs1 m1 r1 l1 q1 ys1)] w8 := E8
    rw [lay_all hL]
    simp only [putAll, dstOf, List.length_cons, List.length_nil, Nat.zero_add, Nat.reduceAdd, List.getElem?_toArray, List.getElem?_cons_zero, List.getElem?_cons_succ, Option.bind_some, Act.put, List.setIfInBounds_toArray, List.set_cons_succ, List.set_cons_zero]
    rw [e0, e1, e2, e3, e6, e7, e8]
    generalize vs 4 = u8_4
    generalize vs 5 = u8_5
    clear e0 e1 e2 e3 e6 e7 e8 hC hn E8 hL vs L nb
    go_upto_region 9 with (fail)
    refine region_fr (C := [Fq.is (.int .i64 0), Fq.is (.bool false)]) (ks := [none, none, none, none, none, none]) (new := []) E rfl (by kernel_rfl) rfl rfl (fun hp => ⟨?_, ?_, trivial⟩) ?_
    · exact q_move hp (free_of rfl) trivial (sq_out rfl rfl (fun _ _ => rfl))
    · exact q_one (F := fun v _ => v = .int .i64 0) hp (free_of rfl) trivial (sq_in 0 rfl rfl (by simp) rfl (fun v w h => h)) (fun ρ w hc h => ⟨.bool false, by simp [execOp, go_sem, h, hc], rfl⟩)
    intro L vs w9 nb hL hC hn E9
    have e0 : vs 0 = .int .i64 0 := hC 0 (by simp)
    have e1 : vs 1 = .bool false := hC 1 (by simp)
    have E : Fr w [(b7_6, 4, Fq.pair q.num (q.den : Int)), (b6_6, 4, Fq.pair q.num (q.den : Int)), (b5_4, 4, Fq.pair a.num (a.den : Int)), (b5_5, 4, Fq.pair b.num (b.den : Int)), (b2, 4, Fq.raw2 n2 a2 k2 c2 xs2 m2 r2 l2 q2 ys2), (b1, 4, Fq.raw2 n1 a1 k1 c1 xs1 m1 r1 l1 q1 ys1)] w9 := E9
    rw [lay_all hL]
    simp only [putAll, dstOf, List.length_cons, List.length_nil, Nat.zero_add, Nat.reduceAdd, List.getElem?_toArray, List.getElem?_cons_zero, List.getElem?_cons_succ, Option.bind_some, Act.put, List.setIfInBounds_toArray, List.set_cons_succ, List.set_cons_zero]
    rw [e0, e1]
    clear e0 e1 hC hn E9 hL vs L nb
    go_upto_region 11 with (fail)
    refine region_fr (C := [Fq.pair a.num (a.den : Int), Fq.pair b.num (b.den : Int), Fq.ivl a.num (a.den : Int) b.num (b.den : Int), Fq.pair q.num (q.den : Int), Fq.is (.bool true), Fq.is (.bool false)]) (ks := [none, none, none, none, none, none]) (new := []) E rfl (by kernel_rfl) rfl rfl (fun hp => ⟨?_, ?_, ?_, ?_, ?_, ?_, trivial⟩) ?_
    · exact q_loadRat hp (free_of rfl) trivial (List.mem_iff_getElem?.2 ⟨2, rfl⟩) (.inl rfl) rfl (sq_out rfl rfl (fun _ _ => rfl)) (fun us w hl h => h)
    · exact q_loadRat hp (free_of rfl) trivial (List.mem_iff_getElem?.2 ⟨3, rfl⟩) (.inl rfl) rfl (sq_out rfl rfl (fun _ _ => rfl)) (fun us w hl h => h)
    · exact q_buildIvl hp (free_of rfl) trivial (sq_in 0 rfl rfl (by simp) rfl (fun v w h => h)) (sq_in 1 rfl rfl (by simp) rfl (fun v w h => h)) (fun v w h => h)
    · exact q_loadRat hp (free_of rfl) trivial (List.mem_iff_getElem?.2 ⟨1, rfl⟩) (.inl rfl) rfl (sq_out rfl rfl (fun _ _ => rfl)) (fun us w hl h => h)
    · exact q_call2 (F := (Fq.ivl a.num (a.den : Int) b.num (b.den : Int)).P) (G := (Fq.pair q.num (q.den : Int)).P) hp (free_of rfl) trivial (enq_S_Has) (sq_in 2 rfl rfl (by simp) rfl (fun v w h => h)) (sq_in 3 rfl rfl (by simp) rfl (fun v w h => h)) (fun v v' w h h' => exSHasB h h' (rb_le Ba.out (by omega)) (rb_le Bb.out (by omega)) (rb_le Bq.out (by omega)) (both_true2 HI.out.1 HI.out.2))
    · exact q_one (F := fun v _ => v = .bool true) hp (free_of rfl) trivial (sq_in 4 rfl rfl (by simp) rfl (fun v w h => h)) (fun ρ w _ h => ⟨.bool false, by simp [execOp, go_sem, h], rfl⟩)
    intro L vs w10 nb hL hC hn E10
    have e4 : vs 4 = .bool true := hC 4 (by simp)
    have e5 : vs 5 = .bool false := hC 5 (by simp)
    have E : Fr w [(b7_6, 4, Fq.pair q.num (q.den : Int)), (b6_6, 4, Fq.pair q.num (q.den : Int)), (b5_4, 4, Fq.pair a.num (a.den : Int)), (b5_5, 4, Fq.pair b.num (b.den : Int)), (b2, 4, Fq.raw2 n2 a2 k2 c2 xs2 m2 r2 l2 q2 ys2), (b1, 4, Fq.raw2 n1 a1 k1 c1 xs1 m1 r1 l1 q1 ys1)] w10 := E10
    rw [lay_all hL]
    simp only [putAll, dstOf, List.length_cons, List.length_nil, Nat.zero_add, Nat.reduceAdd, List.getElem?_toArray, List.getElem?_cons_zero, List.getElem?_cons_succ, Option.bind_some, Act.put, List.setIfInBounds_toArray, List.set_cons_succ, List.set_cons_zero]
    rw [e4, e5]
    generalize vs 0 = u10_0
    generalize vs 1 = u10_1
    generalize vs 2 = u10_2
    generalize vs 3 = u10_3
    clear e4 e5 hC hn E10 hL vs L nb
    go_upto_region 13 with (fail)
    refine region_fr (C := [Fq.is (.int .i64 1)]) (ks := [none, none, none, none, none, none]) (new := []) E rfl (by kernel_rfl) rfl rfl (fun hp => ⟨?_, trivial⟩) ?_
    · exact q_assign hp (free_of rfl) trivial (sq_const (fun _ => rfl))
    intro L vs w11 nb hL hC hn E11
    have e0 : vs 0 = .int .i64 1 := hC 0 (by simp)
    have E : Fr w [(b7_6, 4, Fq.pair q.num (q.den : Int)), (b6_6, 4, Fq.pair q.num (q.den : Int)), (b5_4, 4, Fq.pair a.num (a.den : Int)), (b5_5, 4, Fq.pair b.num (b.den : Int)), (b2, 4, Fq.raw2 n2 a2 k2 c2 xs2 m2 r2 l2 q2 ys2), (b1, 4, Fq.raw2 n1 a1 k1 c1 xs1 m1 r1 l1 q1 ys1)] w11 := E11
    rw [lay_all hL]
    simp only [putAll, dstOf, List.length_cons, List.length_nil, Nat.zero_add, List.getElem?_toArray, List.getElem?_cons_zero, Option.bind_some, Act.put, List.setIfInBounds_toArray, List.set_cons_succ, List.set_cons_zero]
    rw [e0]
    clear e0 hC hn E11 hL vs L nb
    have HS := hidd E
    go_upto_region 14 with (fail)
    go_loopw [12] (fun vi W => ∃ k : Int, 1 ≤ k ∧ k ≤ 61 ∧ vi = .int .i64 k ∧ Fr w [(b7_6, 4, Fq.pair q.num (q.den : Int)), (b6_6, 4, Fq.pair q.num (q.den : Int)), (b5_4, 4, Fq.pair a.num (a.den : Int)), (b5_5, 4, Fq.pair b.num (b.den : Int)), (b2, 4, Fq.raw2 n2 a2 k2 c2 xs2 m2 r2 l2 q2 ys2), (b1, 4, Fq.raw2 n1 a1 k1 c1 xs1 m1 r1 l1 q1 ys1)] W) (fun vi _ => 100 - (intOf vi).toNat)
    case atStart => exact ⟨1, by omega, by omega, rfl, HS.out⟩
    case round =>
      obtain ⟨k, hk1, hk2, rfl, E⟩ := hrel
      clear HS
      have HK : Hid (1 ≤ k ∧ k ≤ 61) := ⟨hk1, hk2⟩
      have Bk : Hid (ab k < pw 3) := ab_lit (by unfold ab; omega)
      clear hk1 hk2
      by_cases h60 : k ≤ 60
      · have TK : Hid (k ≤ 60) := h60
        clear h60
        by_cases hkd : k < (q.den : Int)
        · have TD : Hid (cmpI k (q.den : Int) < 0) := cmpIqlt.2 hkd
          have TC : Hid (¬ 0 ≤ cmpQ (((b * (Rat.divInt k (1))).floor : Int) : Rat) (a * (Rat.divInt k (1)))) := by have := cmpQ_lt.2 (bet_low HL.out HK.out.1 (by rw [← HQ.out]; exact hkd)); show ¬ _; omega
          have hw : wrap64 (k + 1) = k + 1 := by have := HK.out; simp only [wrap64]; omega
          clear hkd
          go_upto_region 14 with (fail)
          refine region_fr (C := [Fq.is (.int .i64 k), Fq.is (.bool true), Fq.is (.bool true), Fq.is (.int .i64 k), Fq.num k, Fq.is (.pointer (some ⟨b6_6, 2, none⟩)), Fq.num (q.den : Int), Fq.is (.int .i64 (cmpI k (q.den : Int))), Fq.is (.bool true), Fq.is (.bool true)]) (ks := [none, none, none, none, none, none]) (new := []) E rfl (by kernel_rfl) rfl rfl (fun hp => ⟨?_, ?_, ?_, ?_, ?_, ?_, ?_, ?_, ?_, ?_, trivial⟩) ?_
          · exact q_move hp (free_of rfl) trivial (sq_out rfl rfl (fun _ _ => rfl))
          · exact q_one (F := fun v _ => v = .int .i64 k) hp (free_of rfl) trivial (sq_in 0 rfl rfl (by simp) rfl (fun v w h => h)) (fun ρ w hc h => ⟨.bool true, by simp [execOp, go_sem, h, hc, TK.out], rfl⟩)
          · exact q_move hp (free_of rfl) trivial (sq_in 1 rfl rfl (by simp) rfl (fun v w h => h))
          · exact q_move hp (free_of rfl) (gq_some rfl rfl (by simp) rfl (fun v w h => h)) (sq_out rfl rfl (fun _ _ => rfl))
          · exact q_call1 (F := (Fq.is (.int .i64 k)).P) hp (free_of rfl) (gq_some rfl rfl (by simp) rfl (fun v w h => h)) (enq_R_Of) (sq_in 3 rfl rfl (by simp) rfl (fun v w h => h)) (fun v w h => (by subst h; exact rOfK w k (by have := HK.out; omega) (by have := HK.out; omega)))
          · exact q_addr (b := b6_6) (off := 0) (off' := 2) hp (free_of rfl) (gq_some rfl rfl (by simp) rfl (fun v w h => h)) (sq_out rfl rfl (fun _ _ => rfl)) (fun ρ w h => by simp [execOp, go_sem, h]) (fun _ => rfl)
          · exact q_loadInt (off := 2) hp (free_of rfl) (gq_some rfl rfl (by simp) rfl (fun v w h => h)) (List.mem_iff_getElem?.2 ⟨1, rfl⟩) (.inl rfl) (Nat.le_of_ble_eq_true rfl) (sq_in 5 rfl rfl (by simp) rfl (fun v w h => h)) (fun us w hl h => ld_pd hl h)
          · exact q_call2 (F := (Fq.num k).P) (G := (Fq.num (q.den : Int)).P) hp (free_of rfl) (gq_some rfl rfl (by simp) rfl (fun v w h => h)) (enq_R_Cmp) (sq_in 4 rfl rfl (by simp) rfl (fun v w h => h)) (sq_in 6 rfl rfl (by simp) rfl (fun v w h => h)) (fun v v' w h h' => exRCmpN h h')
          · exact q_one (F := fun v _ => v = .int .i64 (cmpI k (q.den : Int))) hp (free_of rfl) (gq_some rfl rfl (by simp) rfl (fun v w h => h)) (sq_in 7 rfl rfl (by simp) rfl (fun v w h => h)) (fun ρ w hc h => ⟨.bool true, by simp [execOp, go_sem, h, hc, TD.out], rfl⟩)
          · exact q_two (F := fun v _ => v = .bool true) (G := fun v _ => v = .bool true) hp (free_of rfl) trivial (sq_in 2 rfl rfl (by simp) rfl (fun v w h => h)) (sq_in 8 rfl rfl (by simp) rfl (fun v w h => h)) (fun ρ w hc h h' => ⟨_, by simp [execOp, go_sem, h, h'], rfl⟩)
          intro L vs w12 nb hL hC hn E12
          have e0 : vs 0 = .int .i64 k := hC 0 (by simp)
          have e1 : vs 1 = .bool true := hC 1 (by simp)
          have e2 : vs 2 = .bool true := hC 2 (by simp)
          have e3 : vs 3 = .int .i64 k := hC 3 (by simp)
          have e5 : vs 5 = .pointer (some ⟨b6_6, 2, none⟩) := hC 5 (by simp)
          have e7 : vs 7 = .int .i64 (cmpI k (q.den : Int)) := hC 7 (by simp)
          have e8 : vs 8 = .bool true := hC 8 (by simp)
          have e9 : vs 9 = .bool true := hC 9 (by simp)
          have E : Fr w [(b7_6, 4, Fq.pair q.num (q.den : Int)), (b6_6, 4, Fq.pair q.num (q.den : Int)), (b5_4, 4, Fq.pair a.num (a.den : Int)), (b5_5, 4, Fq.pair b.num (b.den : Int)), (b2, 4, Fq.raw2 n2 a2 k2 c2 xs2 m2 r2 l2 q2 ys2), (b1, 4, Fq.raw2 n1 a1 k1 c1 xs1 m1 r1 l1 q1 ys1)] w12 := E12
          rw [lay_all hL]
          simp only [putAll, dstOf, List.length_cons, List.length_nil, Nat.zero_add, Nat.reduceAdd, List.getElem?_toArray, List.getElem?_cons_zero, List.getElem?_cons_succ, Option.bind_some, Act.put, List.setIfInBounds_toArray, List.set_cons_succ, List.set_cons_zero]
          rw [e0, e1, e2, e3, e5, e7, e8, e9]
          generalize vs 4 = u12_4
          generalize vs 6 = u12_6
          clear e0 e1 e2 e3 e5 e7 e8 e9 hC hn E12 hL vs L nb
          clear TD
          go_upto_region 16 with (fail)
          have B13 : Hid (Rb (Rat.divInt k (1)) 3) := rb_divInt (by decide) Bk.out (ab_lit (by decide))
          have B14 : Hid (Rb (b * (Rat.divInt k (1))) 6) := rb_le (rb_mul Bb.out B13.out) (by omega)
          have B15 : Hid (ab ((b * (Rat.divInt k (1))).floor) < pw 7) := Int.lt_of_lt_of_le (rb_floor B14.out) (pw_le (by omega))
          refine region_fr (C := [Fq.pair b.num (b.den : Int), Fq.is (.int .i64 k), Fq.pair (Rat.divInt k (1)).num ((Rat.divInt k (1)).den : Int), Fq.pair (b * (Rat.divInt k (1))).num ((b * (Rat.divInt k (1))).den : Int), Fq.num ((b * (Rat.divInt k (1))).floor), Fq.any, Fq.any]) (ks := [none, none, none, none, none, none]) (new := [⟨5, 6, 2, Fq.num 0, Fq.num ((b * (Rat.divInt k (1))).floor), none⟩]) E rfl (by kernel_rfl) rfl rfl (fun hp => ⟨?_, ?_, ?_, ?_, ?_, ?_, ?_, trivial⟩) ?_
          · exact q_loadRat hp (free_of rfl) trivial (List.mem_iff_getElem?.2 ⟨3, rfl⟩) (.inl rfl) rfl (sq_out rfl rfl (fun _ _ => rfl)) (fun us w hl h => h)
          · exact q_move hp (free_of rfl) trivial (sq_out rfl rfl (fun _ _ => rfl))
          · exact q_call2 (F := (Fq.is (.int .i64 k)).P) (G := (Fq.is (.int .i64 1)).P) hp (free_of rfl) trivial (enq_S_Of) (sq_in 1 rfl rfl (by simp) rfl (fun v w h => h)) (sq_const (fun _ => rfl)) (fun v v' w h h' => (by subst h; subst h'; exact exSOf (n := k) (d := 1) (by decide) ⟨Bk.out, by have := HK.out; omega, by have := HK.out; omega⟩ (of_lit (by decide))))
          · exact q_call2 (F := (Fq.pair b.num (b.den : Int)).P) (G := (Fq.pair (Rat.divInt k (1)).num ((Rat.divInt k (1)).den : Int)).P) hp (free_of rfl) trivial (enq_S_Mul) (sq_in 0 rfl rfl (by simp) rfl (fun v w h => h)) (sq_in 2 rfl rfl (by simp) rfl (fun v w h => h)) (fun v v' w h h' => exSMulQ h h' (rb_le Bb.out (by omega)) (rb_le B13.out (by omega)))
          · exact q_call1 (F := (Fq.pair (b * (Rat.divInt k (1))).num ((b * (Rat.divInt k (1))).den : Int)).P) hp (free_of rfl) trivial (enq_S_Floor) (sq_in 3 rfl rfl (by simp) rfl (fun v w h => h)) (fun v w h => exSFloorQ h (rb_le B14.out (by omega)))
          · exact q_allocInt hp (List.mem_iff_getElem?.2 ⟨0, rfl⟩) rfl rfl rfl rfl (Nat.ne_of_beq_eq_false rfl) (fun _ _ => trivial) (old_ne rfl) (newk_ne rfl) (fun w => Num.zero w)
          · exact q_storeNewInt hp (List.mem_iff_getElem?.2 ⟨0, rfl⟩) rfl rfl rfl (own_ptr rfl rfl (by simp) rfl) (sq_in 4 rfl rfl (by simp) rfl (fun v w h => intV_num h)) (fun _ _ => trivial) (old_ne rfl) (newi_ne rfl)
          intro L vs w16 nb hL hC hn E16
          have e1 : vs 1 = .int .i64 k := hC 1 (by simp)
          have e5 : vs 5 = .pointer (some ⟨nb 5, 0, none⟩) := hn _ (List.mem_iff_getElem?.2 ⟨0, rfl⟩)
          have E : Fr w [(nb 5, 2, Fq.num ((b * (Rat.divInt k (1))).floor)), (b7_6, 4, Fq.pair q.num (q.den : Int)), (b6_6, 4, Fq.pair q.num (q.den : Int)), (b5_4, 4, Fq.pair a.num (a.den : Int)), (b5_5, 4, Fq.pair b.num (b.den : Int)), (b2, 4, Fq.raw2 n2 a2 k2 c2 xs2 m2 r2 l2 q2 ys2), (b1, 4, Fq.raw2 n1 a1 k1 c1 xs1 m1 r1 l1 q1 ys1)] w16 := E16
          rw [lay_all hL]
          simp only [putAll, dstOf, List.length_cons, List.length_nil, Nat.zero_add, Nat.reduceAdd, List.getElem?_toArray, List.getElem?_cons_zero, List.getElem?_cons_succ, Option.bind_some, Act.put, List.setIfInBounds_toArray, List.set_cons_succ, List.set_cons_zero]
          rw [e1, e5]
          generalize nb 5 = b16_5 at E ⊢
          generalize vs 0 = u16_0
          generalize vs 2 = u16_2
          generalize vs 3 = u16_3
          generalize vs 4 = u16_4
          clear e1 e5 hC hn E16 hL vs L nb
          go_upto_region 17 with (fail)
          have B17 : Hid (Rb (((b * (Rat.divInt k (1))).floor : Int) : Rat) 7) := rb_int B15.out (by omega)
          have B18 : Hid (Rb (a * (Rat.divInt k (1))) 6) := rb_le (rb_mul Ba.out B13.out) (by omega)
          refine region_fr (C := [Fq.num ((b * (Rat.divInt k (1))).floor), Fq.pair (((b * (Rat.divInt k (1))).floor : Int) : Rat).num ((((b * (Rat.divInt k (1))).floor : Int) : Rat).den : Int), Fq.pair a.num (a.den : Int), Fq.is (.int .i64 k), Fq.pair (Rat.divInt k (1)).num ((Rat.divInt k (1)).den : Int), Fq.pair (a * (Rat.divInt k (1))).num ((a * (Rat.divInt k (1))).den : Int), Fq.is (.int .i64 (cmpQ (((b * (Rat.divInt k (1))).floor : Int) : Rat) (a * (Rat.divInt k (1))))), Fq.is (.bool false)]) (ks := [none, none, none, none, none, none, none]) (new := []) E rfl (by kernel_rfl) rfl rfl (fun hp => ⟨?_, ?_, ?_, ?_, ?_, ?_, ?_, ?_, trivial⟩) ?_
          · exact q_loadInt (off := 0) hp (free_of rfl) trivial (List.mem_iff_getElem?.2 ⟨0, rfl⟩) (.inl rfl) (Nat.le_of_ble_eq_true rfl) (sq_out rfl rfl (fun _ _ => rfl)) (fun us w hl h => ld_num hl h)
          · exact q_call1 (F := (Fq.num ((b * (Rat.divInt k (1))).floor)).P) hp (free_of rfl) trivial (enq_S_Whole) (sq_in 0 rfl rfl (by simp) rfl (fun v w h => h)) (fun v w h => exSWhole h (Int.lt_of_lt_of_le B15.out (pw_le (by omega))))
          · exact q_loadRat hp (free_of rfl) trivial (List.mem_iff_getElem?.2 ⟨3, rfl⟩) (.inl rfl) rfl (sq_out rfl rfl (fun _ _ => rfl)) (fun us w hl h => h)
          · exact q_move hp (free_of rfl) trivial (sq_out rfl rfl (fun _ _ => rfl))
          · exact q_call2 (F := (Fq.is (.int .i64 k)).P) (G := (Fq.is (.int .i64 1)).P) hp (free_of rfl) trivial (enq_S_Of) (sq_in 3 rfl rfl (by simp) rfl (fun v w h => h)) (sq_const (fun _ => rfl)) (fun v v' w h h' => (by subst h; subst h'; exact exSOf (n := k) (d := 1) (by decide) ⟨Bk.out, by have := HK.out; omega, by have := HK.out; omega⟩ (of_lit (by decide))))
          · exact q_call2 (F := (Fq.pair a.num (a.den : Int)).P) (G := (Fq.pair (Rat.divInt k (1)).num ((Rat.divInt k (1)).den : Int)).P) hp (free_of rfl) trivial (enq_S_Mul) (sq_in 2 rfl rfl (by simp) rfl (fun v w h => h)) (sq_in 4 rfl rfl (by simp) rfl (fun v w h => h)) (fun v v' w h h' => exSMulQ h h' (rb_le Ba.out (by omega)) (rb_le B13.out (by omega)))
          · exact q_call2 (F := (Fq.pair (((b * (Rat.divInt k (1))).floor : Int) : Rat).num ((((b * (Rat.divInt k (1))).floor : Int) : Rat).den : Int)).P) (G := (Fq.pair (a * (Rat.divInt k (1))).num ((a * (Rat.divInt k (1))).den : Int)).P) hp (free_of rfl) trivial (enq_S_Cmp) (sq_in 1 rfl rfl (by simp) rfl (fun v w h => h)) (sq_in 5 rfl rfl (by simp) rfl (fun v w h => h)) (fun v v' w h h' => exSCmpQ h h' (rb_le B17.out (by omega)) (rb_le B18.out (by omega)))
          · exact q_one (F := fun v _ => v = .int .i64 (cmpQ (((b * (Rat.divInt k (1))).floor : Int) : Rat) (a * (Rat.divInt k (1))))) hp (free_of rfl) trivial (sq_in 6 rfl rfl (by simp) rfl (fun v w h => h)) (fun ρ w hc h => ⟨.bool false, by simp [execOp, go_sem, h, hc, TC.out], rfl⟩)
          intro L vs w19 nb hL hC hn E19
          have e3 : vs 3 = .int .i64 k := hC 3 (by simp)
          have e6 : vs 6 = .int .i64 (cmpQ (((b * (Rat.divInt k (1))).floor : Int) : Rat) (a * (Rat.divInt k (1)))) := hC 6 (by simp)
          have e7 : vs 7 = .bool false := hC 7 (by simp)
          have E : Fr w [(b16_5, 2, Fq.num ((b * (Rat.divInt k (1))).floor)), (b7_6, 4, Fq.pair q.num (q.den : Int)), (b6_6, 4, Fq.pair q.num (q.den : Int)), (b5_4, 4, Fq.pair a.num (a.den : Int)), (b5_5, 4, Fq.pair b.num (b.den : Int)), (b2, 4, Fq.raw2 n2 a2 k2 c2 xs2 m2 r2 l2 q2 ys2), (b1, 4, Fq.raw2 n1 a1 k1 c1 xs1 m1 r1 l1 q1 ys1)] w19 := E19
          rw [lay_all hL]
          simp only [putAll, dstOf, List.length_cons, List.length_nil, Nat.zero_add, Nat.reduceAdd, List.getElem?_toArray, List.getElem?_cons_zero, List.getElem?_cons_succ, Option.bind_some, Act.put, List.setIfInBounds_toArray, List.set_cons_succ, List.set_cons_zero]
          rw [e3, e6, e7]
          generalize vs 0 = u19_0
          generalize vs 1 = u19_1
          generalize vs 2 = u19_2
          generalize vs 4 = u19_4
          generalize vs 5 = u19_5
          clear e3 e6 e7 hC hn E19 hL vs L nb
          clear TC
          clear HQ HL HI HN
          go_wp2
          go_roundw
          case rel => exact ⟨k + 1, by have := HK.out; omega, by have := TK.out; omega, by first | go_num | (rw [hw]; go_num), E.drop⟩
          case measure => first | exact measK HK.out.1 (by have := TK.out; omega) | (rw [hw]; exact measK HK.out.1 (by have := TK.out; omega))
        · have TD : Hid (¬ cmpI k (q.den : Int) < 0) := fun e => hkd (cmpIqlt.1 e)
          clear hkd
          go_upto_region 14 with (fail)
          refine region_fr (C := [Fq.is (.int .i64 k), Fq.is (.bool true), Fq.is (.bool true), Fq.is (.int .i64 k), Fq.num k, Fq.is (.pointer (some ⟨b6_6, 2, none⟩)), Fq.num (q.den : Int), Fq.is (.int .i64 (cmpI k (q.den : Int))), Fq.is (.bool false), Fq.is (.bool false)]) (ks := [none, none, none, none, none, none]) (new := []) E rfl (by kernel_rfl) rfl rfl (fun hp => ⟨?_, ?_, ?_, ?_, ?_, ?_, ?_, ?_, ?_, ?_, trivial⟩) ?_
          · exact q_move hp (free_of rfl) trivial (sq_out rfl rfl (fun _ _ => rfl))
          · exact q_one (F := fun v _ => v = .int .i64 k) hp (free_of rfl) trivial (sq_in 0 rfl rfl (by simp) rfl (fun v w h => h)) (fun ρ w hc h => ⟨.bool true, by simp [execOp, go_sem, h, hc, TK.out], rfl⟩)
          · exact q_move hp (free_of rfl) trivial (sq_in 1 rfl rfl (by simp) rfl (fun v w h => h))
          · exact q_move hp (free_of rfl) (gq_some rfl rfl (by simp) rfl (fun v w h => h)) (sq_out rfl rfl (fun _ _ => rfl))
          · exact q_call1 (F := (Fq.is (.int .i64 k)).P) hp (free_of rfl) (gq_some rfl rfl (by simp) rfl (fun v w h => h)) (enq_R_Of) (sq_in 3 rfl rfl (by simp) rfl (fun v w h => h)) (fun v w h => (by subst h; exact rOfK w k (by have := HK.out; omega) (by have := HK.out; omega)))
          · exact q_addr (b := b6_6) (off := 0) (off' := 2) hp (free_of rfl) (gq_some rfl rfl (by simp) rfl (fun v w h => h)) (sq_out rfl rfl (fun _ _ => rfl)) (fun ρ w h => by simp [execOp, go_sem, h]) (fun _ => rfl)
          · exact q_loadInt (off := 2) hp (free_of rfl) (gq_some rfl rfl (by simp) rfl (fun v w h => h)) (List.mem_iff_getElem?.2 ⟨1, rfl⟩) (.inl rfl) (Nat.le_of_ble_eq_true rfl) (sq_in 5 rfl rfl (by simp) rfl (fun v w h => h)) (fun us w hl h => ld_pd hl h)
          · exact q_call2 (F := (Fq.num k).P) (G := (Fq.num (q.den : Int)).P) hp (free_of rfl) (gq_some rfl rfl (by simp) rfl (fun v w h => h)) (enq_R_Cmp) (sq_in 4 rfl rfl (by simp) rfl (fun v w h => h)) (sq_in 6 rfl rfl (by simp) rfl (fun v w h => h)) (fun v v' w h h' => exRCmpN h h')
          · exact q_one (F := fun v _ => v = .int .i64 (cmpI k (q.den : Int))) hp (free_of rfl) (gq_some rfl rfl (by simp) rfl (fun v w h => h)) (sq_in 7 rfl rfl (by simp) rfl (fun v w h => h)) (fun ρ w hc h => ⟨.bool false, by simp [execOp, go_sem, h, hc, TD.out], rfl⟩)
          · exact q_two (F := fun v _ => v = .bool true) (G := fun v _ => v = .bool false) hp (free_of rfl) trivial (sq_in 2 rfl rfl (by simp) rfl (fun v w h => h)) (sq_in 8 rfl rfl (by simp) rfl (fun v w h => h)) (fun ρ w hc h h' => ⟨_, by simp [execOp, go_sem, h, h'], rfl⟩)
          intro L vs w20 nb hL hC hn E20
          have e0 : vs 0 = .int .i64 k := hC 0 (by simp)
          have e1 : vs 1 = .bool true := hC 1 (by simp)
          have e2 : vs 2 = .bool true := hC 2 (by simp)
          have e3 : vs 3 = .int .i64 k := hC 3 (by simp)
          have e5 : vs 5 = .pointer (some ⟨b6_6, 2, none⟩) := hC 5 (by simp)
          have e7 : vs 7 = .int .i64 (cmpI k (q.den : Int)) := hC 7 (by simp)
          have e8 : vs 8 = .bool false := hC 8 (by simp)
          have e9 : vs 9 = .bool false := hC 9 (by simp)
          have E : Fr w [(b7_6, 4, Fq.pair q.num (q.den : Int)), (b6_6, 4, Fq.pair q.num (q.den : Int)), (b5_4, 4, Fq.pair a.num (a.den : Int)), (b5_5, 4, Fq.pair b.num (b.den : Int)), (b2, 4, Fq.raw2 n2 a2 k2 c2 xs2 m2 r2 l2 q2 ys2), (b1, 4, Fq.raw2 n1 a1 k1 c1 xs1 m1 r1 l1 q1 ys1)] w20 := E20
          rw [lay_all hL]
          simp only [putAll, dstOf, List.length_cons, List.length_nil, Nat.zero_add, Nat.reduceAdd, List.getElem?_toArray, List.getElem?_cons_zero, List.getElem?_cons_succ, Option.bind_some, Act.put, List.setIfInBounds_toArray, List.set_cons_succ, List.set_cons_zero]
          rw [e0, e1, e2, e3, e5, e7, e8, e9]
          generalize vs 4 = u20_4
          generalize vs 6 = u20_6
          clear e0 e1 e2 e3 e5 e7 e8 e9 hC hn E20 hL vs L nb
          clear TK TD
          go_upto_region 19 with (fail)
          have B21 : Hid (ab ((Int.natAbs q.num : Int)) < pw 3) := ab_absB Bq.out.1
          have B22 : Hid (ab ((1)) < pw 3) := ab_lit (by decide)
          have B23 : Hid (ab (((Int.natAbs q.num : Int) - (1))) < pw 4) := ab_subB B21.out B22.out (by omega) (by omega)
          have B24 : Hid (Rb (Rat.divInt ((Int.natAbs q.num : Int) - (1)) (q.den : Int)) 4) := rb_divInt (den_ne q) (Int.lt_of_lt_of_le B23.out (pw_le (by omega))) (Int.lt_of_lt_of_le Bq.out.2 (pw_le (by omega)))
          refine region_fr (C := [Fq.is (.pointer (some ⟨b6_6, 0, none⟩)), Fq.num q.num, Fq.num (Int.natAbs q.num : Int), Fq.num (1), Fq.num ((Int.natAbs q.num : Int) - (1)), Fq.is (.pointer (some ⟨b6_6, 2, none⟩)), Fq.num (q.den : Int), Fq.tup2 (Fq.pair (Rat.divInt ((Int.natAbs q.num : Int) - (1)) (q.den : Int)).num ((Rat.divInt ((Int.natAbs q.num : Int) - (1)) (q.den : Int)).den : Int)) (Fq.is (.int .i64 0)), Fq.tup2 (Fq.pair (Rat.divInt ((Int.natAbs q.num : Int) - (1)) (q.den : Int)).num ((Rat.divInt ((Int.natAbs q.num : Int) - (1)) (q.den : Int)).den : Int)) (Fq.is (.int .i64 0)), Fq.pair (Rat.divInt ((Int.natAbs q.num : Int) - (1)) (q.den : Int)).num ((Rat.divInt ((Int.natAbs q.num : Int) - (1)) (q.den : Int)).den : Int), Fq.is (.int .i64 0), Fq.any, Fq.any, Fq.is (.int .i64 0)]) (ks := [none, none, none, none, none, none]) (new := [⟨11, 12, 4, Fq.pair 0 0, Fq.pair (Rat.divInt ((Int.natAbs q.num : Int) - (1)) (q.den : Int)).num ((Rat.divInt ((Int.natAbs q.num : Int) - (1)) (q.den : Int)).den : Int), none⟩]) E rfl (by kernel_rfl) rfl rfl (fun hp => ⟨?_, ?_, ?_, ?_, ?_, ?_, ?_, ?_, ?_, ?_, ?_, ?_, ?_, ?_, trivial⟩) ?_
          · exact q_addr (b := b6_6) (off := 0) (off' := 0) hp (free_of rfl) trivial (sq_out rfl rfl (fun _ _ => rfl)) (fun ρ w h => by simp [execOp, go_sem, h]) (fun _ => rfl)
          · exact q_loadInt (off := 0) hp (free_of rfl) trivial (List.mem_iff_getElem?.2 ⟨1, rfl⟩) (.inl rfl) (Nat.le_of_ble_eq_true rfl) (sq_in 0 rfl rfl (by simp) rfl (fun v w h => h)) (fun us w hl h => ld_pn hl h)
          · exact q_call1 (F := (Fq.num q.num).P) hp (free_of rfl) trivial (enq_R_Abs) (sq_in 1 rfl rfl (by simp) rfl (fun v w h => h)) (fun v w h => exK (RAbsV h) B21.out (by omega))
          · exact q_call1 (F := (Fq.is (.int .i64 1)).P) hp (free_of rfl) trivial (enq_R_Of) (sq_const (fun _ => rfl)) (fun v w h => (by subst h; exact rOfK w (1) (by omega) (by omega)))
          · exact q_call2 (F := (Fq.num (Int.natAbs q.num : Int)).P) (G := (Fq.num (1)).P) hp (free_of rfl) trivial (enq_R_Sub) (sq_in 2 rfl rfl (by simp) rfl (fun v w h => h)) (sq_in 3 rfl rfl (by simp) rfl (fun v w h => h)) (fun v v' w h h' => exK (RSubV h h' (K := 100) (Int.lt_of_lt_of_le B21.out (pw_le (by omega))) (Int.lt_of_lt_of_le B22.out (pw_le (by omega))) (by omega)) B23.out (by omega))
          · exact q_addr (b := b6_6) (off := 0) (off' := 2) hp (free_of rfl) trivial (sq_out rfl rfl (fun _ _ => rfl)) (fun ρ w h => by simp [execOp, go_sem, h]) (fun _ => rfl)
          · exact q_loadInt (off := 2) hp (free_of rfl) trivial (List.mem_iff_getElem?.2 ⟨1, rfl⟩) (.inl rfl) (Nat.le_of_ble_eq_true rfl) (sq_in 5 rfl rfl (by simp) rfl (fun v w h => h)) (fun us w hl h => ld_pd hl h)
          · exact q_call2 (F := (Fq.num ((Int.natAbs q.num : Int) - (1))).P) (G := (Fq.num (q.den : Int)).P) hp (free_of rfl) trivial (enq_Q_New) (sq_in 4 rfl rfl (by simp) rfl (fun v w h => h)) (sq_in 6 rfl rfl (by simp) rfl (fun v w h => h)) (fun v v' w h h' => exNewP h h' (den_ne q) (Int.lt_of_lt_of_le B23.out (pw_le (by omega))) (Int.lt_of_lt_of_le Bq.out.2 (pw_le (by omega))))
          · exact q_move hp (free_of rfl) trivial (sq_in 7 rfl rfl (by simp) rfl (fun v w h => h))
          · exact q_extract2 hp (free_of rfl) trivial (sq_in 8 rfl rfl (by simp) rfl (fun v w h => h)) (fun v1 v2 w h1 h2 => ⟨_, rfl, h1⟩)
          · exact q_extract2 hp (free_of rfl) trivial (sq_in 8 rfl rfl (by simp) rfl (fun v w h => h)) (fun v1 v2 w h1 h2 => ⟨_, rfl, h2⟩)
          · exact q_allocRat hp (List.mem_iff_getElem?.2 ⟨0, rfl⟩) rfl rfl rfl rfl (Nat.ne_of_beq_eq_false rfl) (fun _ _ => trivial) (old_ne rfl) (newk_ne rfl) (fun w => Pair.zero w)
          · exact q_storeNewRat hp (List.mem_iff_getElem?.2 ⟨0, rfl⟩) rfl rfl rfl (own_ptr rfl rfl (by simp) rfl) (sq_in 9 rfl rfl (by simp) rfl (fun v w h => ratV_pair h)) (fun _ _ => trivial) (old_ne rfl) (newi_ne rfl)
          · exact q_assign hp (free_of rfl) trivial (sq_in 10 rfl rfl (by simp) rfl (fun v w h => h))
          intro L vs w25 nb hL hC hn E25
          have e0 : vs 0 = .pointer (some ⟨b6_6, 0, none⟩) := hC 0 (by simp)
          have e5 : vs 5 = .pointer (some ⟨b6_6, 2, none⟩) := hC 5 (by simp)
          have e10 : vs 10 = .int .i64 0 := hC 10 (by simp)
          have e13 : vs 13 = .int .i64 0 := hC 13 (by simp)
          have e11 : vs 11 = .pointer (some ⟨nb 11, 0, none⟩) := hn _ (List.mem_iff_getElem?.2 ⟨0, rfl⟩)
          have E : Fr w [(nb 11, 4, Fq.pair (Rat.divInt ((Int.natAbs q.num : Int) - (1)) (q.den : Int)).num ((Rat.divInt ((Int.natAbs q.num : Int) - (1)) (q.den : Int)).den : Int)), (b7_6, 4, Fq.pair q.num (q.den : Int)), (b6_6, 4, Fq.pair q.num (q.den : Int)), (b5_4, 4, Fq.pair a.num (a.den : Int)), (b5_5, 4, Fq.pair b.num (b.den : Int)), (b2, 4, Fq.raw2 n2 a2 k2 c2 xs2 m2 r2 l2 q2 ys2), (b1, 4, Fq.raw2 n1 a1 k1 c1 xs1 m1 r1 l1 q1 ys1)] w25 := E25
          rw [lay_all hL]
          simp only [putAll, dstOf, List.length_cons, List.length_nil, Nat.zero_add, Nat.reduceAdd, List.getElem?_toArray, List.getElem?_cons_zero, List.getElem?_cons_succ, Option.bind_some, Act.put, List.setIfInBounds_toArray, List.set_cons_succ, List.set_cons_zero]
          rw [e0, e5, e10, e13, e11]
          generalize nb 11 = b25_11 at E ⊢
          generalize vs 1 = u25_1
          generalize vs 2 = u25_2
          generalize vs 3 = u25_3
          generalize vs 4 = u25_4
          generalize vs 6 = u25_6
          generalize vs 7 = u25_7
          generalize vs 8 = u25_8
          generalize vs 9 = u25_9
          clear e0 e5 e10 e13 e11 hC hn E25 hL vs L nb
          by_cases h0 : q.num = 0
          · have T1 : Hid (cmpI q.num 0 = 0) := cmpIq0.2 h0
            clear h0
            go_upto_region 20 with (fail)
            refine region_fr (C := [Fq.is (.pointer (some ⟨b6_6, 0, none⟩)), Fq.num q.num, Fq.is (.int .i64 (cmpI q.num 0)), Fq.is (.bool true), Fq.is (.bool true), Fq.is (undef), Fq.is (undef), Fq.is (.bool true)]) (ks := [none, none, none, none, none, none, none]) (new := []) E rfl (by kernel_rfl) rfl rfl (fun hp => ⟨?_, ?_, ?_, ?_, ?_, ?_, ?_, ?_, trivial⟩) ?_
            · exact q_addr (b := b6_6) (off := 0) (off' := 0) hp (free_of rfl) trivial (sq_out rfl rfl (fun _ _ => rfl)) (fun ρ w h => by simp [execOp, go_sem, h]) (fun _ => rfl)
            · exact q_loadInt (off := 0) hp (free_of rfl) trivial (List.mem_iff_getElem?.2 ⟨2, rfl⟩) (.inl rfl) (Nat.le_of_ble_eq_true rfl) (sq_in 0 rfl rfl (by simp) rfl (fun v w h => h)) (fun us w hl h => ld_pn hl h)
            · exact q_call1 (F := (Fq.num q.num).P) hp (free_of rfl) trivial (enq_R_Sign) (sq_in 1 rfl rfl (by simp) rfl (fun v w h => h)) (fun v w h => exRSign h)
            · exact q_one (F := fun v _ => v = .int .i64 (cmpI q.num 0)) hp (free_of rfl) trivial (sq_in 2 rfl rfl (by simp) rfl (fun v w h => h)) (fun ρ w hc h => ⟨.bool true, by simp [execOp, go_sem, h, hc, T1.out], rfl⟩)
            · exact q_move hp (free_of rfl) trivial (sq_in 3 rfl rfl (by simp) rfl (fun v w h => h))
            · exact q_skip hp (free_of rfl) rfl (gq_some rfl rfl (by simp) rfl (fun v w h => h)) (fun _ => rfl)
            · exact q_skip hp (free_of rfl) rfl (gq_some rfl rfl (by simp) rfl (fun v w h => h)) (fun _ => rfl)
            · exact q_two (F := fun v _ => v = .bool true) (G := fun v _ => v = .bool true) hp (free_of rfl) trivial (sq_in 4 rfl rfl (by simp) rfl (fun v w h => h)) (sq_const (fun _ => rfl)) (fun ρ w hc h h' => ⟨_, by simp [execOp, go_sem, h, h'], rfl⟩)
            intro L vs w26 nb hL hC hn E26
            have e0 : vs 0 = .pointer (some ⟨b6_6, 0, none⟩) := hC 0 (by simp)
            have e2 : vs 2 = .int .i64 (cmpI q.num 0) := hC 2 (by simp)
            have e3 : vs 3 = .bool true := hC 3 (by simp)
            have e4 : vs 4 = .bool true := hC 4 (by simp)
            have e5 : vs 5 = undef := hC 5 (by simp)
            have e6 : vs 6 = undef := hC 6 (by simp)
            have e7 : vs 7 = .bool true := hC 7 (by simp)
            have E : Fr w [(b25_11, 4, Fq.pair (Rat.divInt ((Int.natAbs q.num : Int) - (1)) (q.den : Int)).num ((Rat.divInt ((Int.natAbs q.num : Int) - (1)) (q.den : Int)).den : Int)), (b7_6, 4, Fq.pair q.num (q.den : Int)), (b6_6, 4, Fq.pair q.num (q.den : Int)), (b5_4, 4, Fq.pair a.num (a.den : Int)), (b5_5, 4, Fq.pair b.num (b.den : Int)), (b2, 4, Fq.raw2 n2 a2 k2 c2 xs2 m2 r2 l2 q2 ys2), (b1, 4, Fq.raw2 n1 a1 k1 c1 xs1 m1 r1 l1 q1 ys1)] w26 := E26
            rw [lay_all hL]
            simp only [putAll, dstOf, List.length_cons, List.length_nil, Nat.zero_add, Nat.reduceAdd, List.getElem?_toArray, List.getElem?_cons_zero, List.getElem?_cons_succ, Option.bind_some, Act.put, List.setIfInBounds_toArray, List.set_cons_succ, List.set_cons_zero]
            rw [e0, e2, e3, e4, e5, e6, e7]
            generalize vs 1 = u26_1
            clear e0 e2 e3 e4 e5 e6 e7 hC hn E26 hL vs L nb
            go_upto_region 21 with (fail)
            refine region_fr (C := [Fq.is (.pointer (some ⟨b6_6, 0, none⟩)), Fq.num q.num, Fq.is (.int .i64 (cmpI q.num 0)), Fq.is (.bool true), Fq.is (.bool true), Fq.is (.bool true), Fq.is (.bool true), Fq.is (.bool true)]) (ks := [none, none, none, none, none, none, none]) (new := []) E rfl (by kernel_rfl) rfl rfl (fun hp => ⟨?_, ?_, ?_, ?_, ?_, ?_, ?_, ?_, trivial⟩) ?_
            · exact q_addr (b := b6_6) (off := 0) (off' := 0) hp (free_of rfl) trivial (sq_out rfl rfl (fun _ _ => rfl)) (fun ρ w h => by simp [execOp, go_sem, h]) (fun _ => rfl)
            · exact q_loadInt (off := 0) hp (free_of rfl) trivial (List.mem_iff_getElem?.2 ⟨2, rfl⟩) (.inl rfl) (Nat.le_of_ble_eq_true rfl) (sq_in 0 rfl rfl (by simp) rfl (fun v w h => h)) (fun us w hl h => ld_pn hl h)
            · exact q_call1 (F := (Fq.num q.num).P) hp (free_of rfl) trivial (enq_R_Sign) (sq_in 1 rfl rfl (by simp) rfl (fun v w h => h)) (fun v w h => exRSign h)
            · exact q_one (F := fun v _ => v = .int .i64 (cmpI q.num 0)) hp (free_of rfl) trivial (sq_in 2 rfl rfl (by simp) rfl (fun v w h => h)) (fun ρ w hc h => ⟨.bool true, by simp [execOp, go_sem, h, hc, T1.out], rfl⟩)
            · exact q_move hp (free_of rfl) trivial (sq_in 3 rfl rfl (by simp) rfl (fun v w h => h))
            · exact q_move hp (free_of rfl) (gq_some rfl rfl (by simp) rfl (fun v w h => h)) (sq_out rfl rfl (fun _ _ => rfl))
            · exact q_two (F := fun v _ => v = .bool true) (G := fun v _ => v = .bool true) hp (free_of rfl) trivial (sq_in 4 rfl rfl (by simp) rfl (fun v w h => h)) (sq_in 5 rfl rfl (by simp) rfl (fun v w h => h)) (fun ρ w hc h h' => ⟨_, by simp [execOp, go_sem, h, h'], rfl⟩)
            · exact q_assign hp (free_of rfl) trivial (sq_in 6 rfl rfl (by simp) rfl (fun v w h => h))
            intro L vs w27 nb hL hC hn E27
            have e0 : vs 0 = .pointer (some ⟨b6_6, 0, none⟩) := hC 0 (by simp)
            have e2 : vs 2 = .int .i64 (cmpI q.num 0) := hC 2 (by simp)
            have e3 : vs 3 = .bool true := hC 3 (by simp)
            have e4 : vs 4 = .bool true := hC 4 (by simp)
            have e5 : vs 5 = .bool true := hC 5 (by simp)
            have e6 : vs 6 = .bool true := hC 6 (by simp)
            have e7 : vs 7 = .bool true := hC 7 (by simp)
            have E : Fr w [(b25_11, 4, Fq.pair (Rat.divInt ((Int.natAbs q.num : Int) - (1)) (q.den : Int)).num ((Rat.divInt ((Int.natAbs q.num : Int) - (1)) (q.den : Int)).den : Int)), (b7_6, 4, Fq.pair q.num (q.den : Int)), (b6_6, 4, Fq.pair q.num (q.den : Int)), (b5_4, 4, Fq.pair a.num (a.den : Int)), (b5_5, 4, Fq.pair b.num (b.den : Int)), (b2, 4, Fq.raw2 n2 a2 k2 c2 xs2 m2 r2 l2 q2 ys2), (b1, 4, Fq.raw2 n1 a1 k1 c1 xs1 m1 r1 l1 q1 ys1)] w27 := E27
            rw [lay_all hL]
            simp only [putAll, dstOf, List.length_cons, List.length_nil, Nat.zero_add, Nat.reduceAdd, List.getElem?_toArray, List.getElem?_cons_zero, List.getElem?_cons_succ, Option.bind_some, Act.put, List.setIfInBounds_toArray, List.set_cons_succ, List.set_cons_zero]
            rw [e0, e2, e3, e4, e5, e6, e7]
            generalize vs 1 = u27_1
            clear e0 e2 e3 e4 e5 e6 e7 hC hn E27 hL vs L nb
            clear T1 HQ HL HI HN HK
            clear B21 B22 B23 B24 Ba Bb Bq Bk
            go_wp2
            refine bodyPost_ret (v := .bool true) ?_ rfl ⟨rfl, E.below⟩
            simp [results, Tryz.results6, go_sem]
          · have T1 : Hid (¬ cmpI q.num 0 = 0) := fun e => h0 (cmpIq0.1 e)
            have H0 := hidd h0
            clear h0
            go_upto_region 20 with (fail)
            refine region_fr (C := [Fq.is (.pointer (some ⟨b6_6, 0, none⟩)), Fq.num q.num, Fq.is (.int .i64 (cmpI q.num 0)), Fq.is (.bool false), Fq.is (.bool false), Fq.is (.int .i64 0), Fq.is (.bool false), Fq.is (.bool false)]) (ks := [none, none, none, none, none, none, none]) (new := []) E rfl (by kernel_rfl) rfl rfl (fun hp => ⟨?_, ?_, ?_, ?_, ?_, ?_, ?_, ?_, trivial⟩) ?_
            · exact q_addr (b := b6_6) (off := 0) (off' := 0) hp (free_of rfl) trivial (sq_out rfl rfl (fun _ _ => rfl)) (fun ρ w h => by simp [execOp, go_sem, h]) (fun _ => rfl)
            · exact q_loadInt (off := 0) hp (free_of rfl) trivial (List.mem_iff_getElem?.2 ⟨2, rfl⟩) (.inl rfl) (Nat.le_of_ble_eq_true rfl) (sq_in 0 rfl rfl (by simp) rfl (fun v w h => h)) (fun us w hl h => ld_pn hl h)
            · exact q_call1 (F := (Fq.num q.num).P) hp (free_of rfl) trivial (enq_R_Sign) (sq_in 1 rfl rfl (by simp) rfl (fun v w h => h)) (fun v w h => exRSign h)
            · exact q_one (F := fun v _ => v = .int .i64 (cmpI q.num 0)) hp (free_of rfl) trivial (sq_in 2 rfl rfl (by simp) rfl (fun v w h => h)) (fun ρ w hc h => ⟨.bool false, by simp [execOp, go_sem, h, hc, T1.out], rfl⟩)
            · exact q_move hp (free_of rfl) trivial (sq_in 3 rfl rfl (by simp) rfl (fun v w h => h))
            · exact q_move hp (free_of rfl) (gq_some rfl rfl (by simp) rfl (fun v w h => h)) (sq_out rfl rfl (fun _ _ => rfl))
            · exact q_one (F := fun v _ => v = .int .i64 0) hp (free_of rfl) (gq_some rfl rfl (by simp) rfl (fun v w h => h)) (sq_in 5 rfl rfl (by simp) rfl (fun v w h => h)) (fun ρ w hc h => ⟨.bool false, by simp [execOp, go_sem, h, hc], rfl⟩)
            · exact q_two (F := fun v _ => v = .bool false) (G := fun v _ => v = .bool false) hp (free_of rfl) trivial (sq_in 4 rfl rfl (by simp) rfl (fun v w h => h)) (sq_in 6 rfl rfl (by simp) rfl (fun v w h => h)) (fun ρ w hc h h' => ⟨_, by simp [execOp, go_sem, h, h'], rfl⟩)
            intro L vs w28 nb hL hC hn E28
            have e0 : vs 0 = .pointer (some ⟨b6_6, 0, none⟩) := hC 0 (by simp)
            have e2 : vs 2 = .int .i64 (cmpI q.num 0) := hC 2 (by simp)
            have e3 : vs 3 = .bool false := hC 3 (by simp)
            have e4 : vs 4 = .bool false := hC 4 (by simp)
            have e5 : vs 5 = .int .i64 0 := hC 5 (by simp)
            have e6 : vs 6 = .bool false := hC 6 (by simp)
            have e7 : vs 7 = .bool false := hC 7 (by simp)
            have E : Fr w [(b25_11, 4, Fq.pair (Rat.divInt ((Int.natAbs q.num : Int) - (1)) (q.den : Int)).num ((Rat.divInt ((Int.natAbs q.num : Int) - (1)) (q.den : Int)).den : Int)), (b7_6, 4, Fq.pair q.num (q.den : Int)), (b6_6, 4, Fq.pair q.num (q.den : Int)), (b5_4, 4, Fq.pair a.num (a.den : Int)), (b5_5, 4, Fq.pair b.num (b.den : Int)), (b2, 4, Fq.raw2 n2 a2 k2 c2 xs2 m2 r2 l2 q2 ys2), (b1, 4, Fq.raw2 n1 a1 k1 c1 xs1 m1 r1 l1 q1 ys1)] w28 := E28
            rw [lay_all hL]
            simp only [putAll, dstOf, List.length_cons, List.length_nil, Nat.zero_add, Nat.reduceAdd, List.getElem?_toArray, List.getElem?_cons_zero, List.getElem?_cons_succ, Option.bind_some, Act.put, List.setIfInBounds_toArray, List.set_cons_succ, List.set_cons_zero]
            rw [e0, e2, e3, e4, e5, e6, e7]
            generalize vs 1 = u28_1
            clear e0 e2 e3 e4 e5 e6 e7 hC hn E28 hL vs L nb
            clear T1
            by_cases hn : q.num < 0
            · have T2 : Hid (cmpI q.num 0 < 0) := cmpIqlt.2 hn
              have HF : Hid (¬ (a ≤ -(Rat.divInt ((q.num.natAbs : Int) - (1)) (q.den : Int)) ∧ -(Rat.divInt ((q.num.natAbs : Int) - (1)) (q.den : Int)) ≤ b)) := by show ¬ _; rw [near_neg hn]; exact HN.out.2 hn
              clear hn
              go_upto_region 22 with (fail)
              refine region_fr (C := [Fq.is (.pointer (some ⟨b6_6, 0, none⟩)), Fq.num q.num, Fq.is (.int .i64 (cmpI q.num 0)), Fq.is (.bool true)]) (ks := [none, none, none, none, none, none, none]) (new := []) E rfl (by kernel_rfl) rfl rfl (fun hp => ⟨?_, ?_, ?_, ?_, trivial⟩) ?_
              · exact q_addr (b := b6_6) (off := 0) (off' := 0) hp (free_of rfl) trivial (sq_out rfl rfl (fun _ _ => rfl)) (fun ρ w h => by simp [execOp, go_sem, h]) (fun _ => rfl)
              · exact q_loadInt (off := 0) hp (free_of rfl) trivial (List.mem_iff_getElem?.2 ⟨2, rfl⟩) (.inl rfl) (Nat.le_of_ble_eq_true rfl) (sq_in 0 rfl rfl (by simp) rfl (fun v w h => h)) (fun us w hl h => ld_pn hl h)
              · exact q_call1 (F := (Fq.num q.num).P) hp (free_of rfl) trivial (enq_R_Sign) (sq_in 1 rfl rfl (by simp) rfl (fun v w h => h)) (fun v w h => exRSign h)
              · exact q_one (F := fun v _ => v = .int .i64 (cmpI q.num 0)) hp (free_of rfl) trivial (sq_in 2 rfl rfl (by simp) rfl (fun v w h => h)) (fun ρ w hc h => ⟨.bool true, by simp [execOp, go_sem, h, hc, T2.out], rfl⟩)
              intro L vs w29 nb hL hC hn E29
              have e0 : vs 0 = .pointer (some ⟨b6_6, 0, none⟩) := hC 0 (by simp)
              have e2 : vs 2 = .int .i64 (cmpI q.num 0) := hC 2 (by simp)
              have e3 : vs 3 = .bool true := hC 3 (by simp)
              have E : Fr w [(b25_11, 4, Fq.pair (Rat.divInt ((Int.natAbs q.num : Int) - (1)) (q.den : Int)).num ((Rat.divInt ((Int.natAbs q.num : Int) - (1)) (q.den : Int)).den : Int)), (b7_6, 4, Fq.pair q.num (q.den : Int)), (b6_6, 4, Fq.pair q.num (q.den : Int)), (b5_4, 4, Fq.pair a.num (a.den : Int)), (b5_5, 4, Fq.pair b.num (b.den : Int)), (b2, 4, Fq.raw2 n2 a2 k2 c2 xs2 m2 r2 l2 q2 ys2), (b1, 4, Fq.raw2 n1 a1 k1 c1 xs1 m1 r1 l1 q1 ys1)] w29 := E29
              rw [lay_all hL]
              simp only [putAll, dstOf, List.length_cons, List.length_nil, Nat.zero_add, Nat.reduceAdd, List.getElem?_toArray, List.getElem?_cons_zero, List.getElem?_cons_succ, Option.bind_some, Act.put, List.setIfInBounds_toArray, List.set_cons_succ, List.set_cons_zero]
              rw [e0, e2, e3]
              generalize vs 1 = u29_1
              clear e0 e2 e3 hC hn E29 hL vs L nb
              clear T2
              go_upto_region 23 with (fail)
              have B30 : Hid (Rb (-(Rat.divInt ((Int.natAbs q.num : Int) - (1)) (q.den : Int))) 4) := rb_neg B24.out
              refine region_fr (C := [Fq.pair (Rat.divInt ((Int.natAbs q.num : Int) - (1)) (q.den : Int)).num ((Rat.divInt ((Int.natAbs q.num : Int) - (1)) (q.den : Int)).den : Int), Fq.pair (-(Rat.divInt ((Int.natAbs q.num : Int) - (1)) (q.den : Int))).num ((-(Rat.divInt ((Int.natAbs q.num : Int) - (1)) (q.den : Int))).den : Int), Fq.any]) (ks := [some (2, Fq.pair (-(Rat.divInt ((Int.natAbs q.num : Int) - (1)) (q.den : Int))).num ((-(Rat.divInt ((Int.natAbs q.num : Int) - (1)) (q.den : Int))).den : Int)), none, none, none, none, none, none]) (new := []) E rfl (by kernel_rfl) rfl rfl (fun hp => ⟨?_, ?_, ?_, trivial⟩) ?_
              · exact q_loadRat hp (free_of rfl) trivial (List.mem_iff_getElem?.2 ⟨0, rfl⟩) (.inr rfl) rfl (sq_out rfl rfl (fun _ _ => rfl)) (fun us w hl h => h)
              · exact q_call1 (F := (Fq.pair (Rat.divInt ((Int.natAbs q.num : Int) - (1)) (q.den : Int)).num ((Rat.divInt ((Int.natAbs q.num : Int) - (1)) (q.den : Int)).den : Int)).P) hp (free_of rfl) trivial (enq_S_Neg) (sq_in 0 rfl rfl (by simp) rfl (fun v w h => h)) (fun v w h => exSNegQ h (rb_le B24.out (by omega)))
              · exact q_storeOldRat hp (List.mem_iff_getElem?.2 ⟨0, rfl⟩) rfl rfl (sq_out rfl rfl (fun _ _ => rfl)) (sq_in 1 rfl rfl (by simp) rfl (fun v w h => ratV_pair h)) (fun _ _ => trivial) (newik_ne rfl)
              intro L vs w31 nb hL hC hn E31
              have E : Fr w [(b25_11, 4, Fq.pair (-(Rat.divInt ((Int.natAbs q.num : Int) - (1)) (q.den : Int))).num ((-(Rat.divInt ((Int.natAbs q.num : Int) - (1)) (q.den : Int))).den : Int)), (b7_6, 4, Fq.pair q.num (q.den : Int)), (b6_6, 4, Fq.pair q.num (q.den : Int)), (b5_4, 4, Fq.pair a.num (a.den : Int)), (b5_5, 4, Fq.pair b.num (b.den : Int)), (b2, 4, Fq.raw2 n2 a2 k2 c2 xs2 m2 r2 l2 q2 ys2), (b1, 4, Fq.raw2 n1 a1 k1 c1 xs1 m1 r1 l1 q1 ys1)] w31 := E31
              rw [lay_all hL]
              simp only [putAll, dstOf, List.length_cons, List.length_nil, Nat.zero_add, Nat.reduceAdd, List.getElem?_toArray, List.getElem?_cons_zero, List.getElem?_cons_succ, Option.bind_some, Act.put, List.setIfInBounds_toArray, List.set_cons_succ, List.set_cons_zero]
              generalize vs 0 = u31_0
              generalize vs 1 = u31_1
              clear  hC hn E31 hL vs L nb
              go_upto_region 24 with (fail)
              refine region_fr (C := [Fq.pair a.num (a.den : Int), Fq.pair b.num (b.den : Int), Fq.ivl a.num (a.den : Int) b.num (b.den : Int), Fq.pair (-(Rat.divInt ((Int.natAbs q.num : Int) - (1)) (q.den : Int))).num ((-(Rat.divInt ((Int.natAbs q.num : Int) - (1)) (q.den : Int))).den : Int), Fq.is (.bool false), Fq.is (.bool true), Fq.is (.bool true), Fq.is (.bool true), Fq.is (.bool true), Fq.is (.bool true)]) (ks := [none, none, none, none, none, none, none]) (new := []) E rfl (by kernel_rfl) rfl rfl (fun hp => ⟨?_, ?_, ?_, ?_, ?_, ?_, ?_, ?_, ?_, ?_, trivial⟩) ?_
              · exact q_loadRat hp (free_of rfl) trivial (List.mem_iff_getElem?.2 ⟨3, rfl⟩) (.inl rfl) rfl (sq_out rfl rfl (fun _ _ => rfl)) (fun us w hl h => h)
              · exact q_loadRat hp (free_of rfl) trivial (List.mem_iff_getElem?.2 ⟨4, rfl⟩) (.inl rfl) rfl (sq_out rfl rfl (fun _ _ => rfl)) (fun us w hl h => h)
              · exact q_buildIvl hp (free_of rfl) trivial (sq_in 0 rfl rfl (by simp) rfl (fun v w h => h)) (sq_in 1 rfl rfl (by simp) rfl (fun v w h => h)) (fun v w h => h)
              · exact q_loadRat hp (free_of rfl) trivial (List.mem_iff_getElem?.2 ⟨0, rfl⟩) (.inl rfl) rfl (sq_out rfl rfl (fun _ _ => rfl)) (fun us w hl h => h)
              · exact q_call2 (F := (Fq.ivl a.num (a.den : Int) b.num (b.den : Int)).P) (G := (Fq.pair (-(Rat.divInt ((Int.natAbs q.num : Int) - (1)) (q.den : Int))).num ((-(Rat.divInt ((Int.natAbs q.num : Int) - (1)) (q.den : Int))).den : Int)).P) hp (free_of rfl) trivial (enq_S_Has) (sq_in 2 rfl rfl (by simp) rfl (fun v w h => h)) (sq_in 3 rfl rfl (by simp) rfl (fun v w h => h)) (fun v v' w h h' => exSHasB h h' (rb_le Ba.out (by omega)) (rb_le Bb.out (by omega)) (rb_le B30.out (by omega)) (both_false2 HF.out))
              · exact q_one (F := fun v _ => v = .bool false) hp (free_of rfl) trivial (sq_in 4 rfl rfl (by simp) rfl (fun v w h => h)) (fun ρ w _ h => ⟨.bool true, by simp [execOp, go_sem, h], rfl⟩)
              · exact q_move hp (free_of rfl) trivial (sq_in 5 rfl rfl (by simp) rfl (fun v w h => h))
              · exact q_move hp (free_of rfl) (gq_some rfl rfl (by simp) rfl (fun v w h => h)) (sq_out rfl rfl (fun _ _ => rfl))
              · exact q_two (F := fun v _ => v = .bool true) (G := fun v _ => v = .bool true) hp (free_of rfl) trivial (sq_in 6 rfl rfl (by simp) rfl (fun v w h => h)) (sq_in 7 rfl rfl (by simp) rfl (fun v w h => h)) (fun ρ w hc h h' => ⟨_, by simp [execOp, go_sem, h, h'], rfl⟩)
              · exact q_assign hp (free_of rfl) trivial (sq_in 8 rfl rfl (by simp) rfl (fun v w h => h))
              intro L vs w32 nb hL hC hn E32
              have e4 : vs 4 = .bool false := hC 4 (by simp)
              have e5 : vs 5 = .bool true := hC 5 (by simp)
              have e6 : vs 6 = .bool true := hC 6 (by simp)
              have e7 : vs 7 = .bool true := hC 7 (by simp)
              have e8 : vs 8 = .bool true := hC 8 (by simp)
              have e9 : vs 9 = .bool true := hC 9 (by simp)
              have E : Fr w [(b25_11, 4, Fq.pair (-(Rat.divInt ((Int.natAbs q.num : Int) - (1)) (q.den : Int))).num ((-(Rat.divInt ((Int.natAbs q.num : Int) - (1)) (q.den : Int))).den : Int)), (b7_6, 4, Fq.pair q.num (q.den : Int)), (b6_6, 4, Fq.pair q.num (q.den : Int)), (b5_4, 4, Fq.pair a.num (a.den : Int)), (b5_5, 4, Fq.pair b.num (b.den : Int)), (b2, 4, Fq.raw2 n2 a2 k2 c2 xs2 m2 r2 l2 q2 ys2), (b1, 4, Fq.raw2 n1 a1 k1 c1 xs1 m1 r1 l1 q1 ys1)] w32 := E32
              rw [lay_all hL]
              simp only [putAll, dstOf, List.length_cons, List.length_nil, Nat.zero_add, Nat.reduceAdd, List.getElem?_toArray, List.getElem?_cons_zero, List.getElem?_cons_succ, Option.bind_some, Act.put, List.setIfInBounds_toArray, List.set_cons_succ, List.set_cons_zero]
              rw [e4, e5, e6, e7, e8, e9]
              generalize vs 0 = u32_0
              generalize vs 1 = u32_1
              generalize vs 2 = u32_2
              generalize vs 3 = u32_3
              clear e4 e5 e6 e7 e8 e9 hC hn E32 hL vs L nb
              clear HF H0 HQ HL HI HN HK
              clear B21 B22 B23 B24 B30 Ba Bb Bq Bk
              go_wp2
              refine bodyPost_ret (v := .bool true) ?_ rfl ⟨rfl, E.below⟩
              simp [results, Tryz.results6, go_sem]
            · have T2 : Hid (¬ cmpI q.num 0 < 0) := fun e => hn (cmpIqlt.1 e)
              have hp : 0 < q.num := by have := H0.out; omega
              have HF : Hid (¬ (a ≤ Rat.divInt ((q.num.natAbs : Int) - (1)) (q.den : Int) ∧ Rat.divInt ((q.num.natAbs : Int) - (1)) (q.den : Int) ≤ b)) := by show ¬ _; rw [near_pos hp]; exact HN.out.1 hp
              clear hn hp
              go_upto_region 22 with (fail)
              refine region_fr (C := [Fq.is (.pointer (some ⟨b6_6, 0, none⟩)), Fq.num q.num, Fq.is (.int .i64 (cmpI q.num 0)), Fq.is (.bool false)]) (ks := [none, none, none, none, none, none, none]) (new := []) E rfl (by kernel_rfl) rfl rfl (fun hp => ⟨?_, ?_, ?_, ?_, trivial⟩) ?_
              · exact q_addr (b := b6_6) (off := 0) (off' := 0) hp (free_of rfl) trivial (sq_out rfl rfl (fun _ _ => rfl)) (fun ρ w h => by simp [execOp, go_sem, h]) (fun _ => rfl)
              · exact q_loadInt (off := 0) hp (free_of rfl) trivial (List.mem_iff_getElem?.2 ⟨2, rfl⟩) (.inl rfl) (Nat.le_of_ble_eq_true rfl) (sq_in 0 rfl rfl (by simp) rfl (fun v w h => h)) (fun us w hl h => ld_pn hl h)
              · exact q_call1 (F := (Fq.num q.num).P) hp (free_of rfl) trivial (enq_R_Sign) (sq_in 1 rfl rfl (by simp) rfl (fun v w h => h)) (fun v w h => exRSign h)
              · exact q_one (F := fun v _ => v = .int .i64 (cmpI q.num 0)) hp (free_of rfl) trivial (sq_in 2 rfl rfl (by simp) rfl (fun v w h => h)) (fun ρ w hc h => ⟨.bool false, by simp [execOp, go_sem, h, hc, T2.out], rfl⟩)
              intro L vs w33 nb hL hC hn E33
              have e0 : vs 0 = .pointer (some ⟨b6_6, 0, none⟩) := hC 0 (by simp)
              have e2 : vs 2 = .int .i64 (cmpI q.num 0) := hC 2 (by simp)
              have e3 : vs 3 = .bool false := hC 3 (by simp)
              have E : Fr w [(b25_11, 4, Fq.pair (Rat.divInt ((Int.natAbs q.num : Int) - (1)) (q.den : Int)).num ((Rat.divInt ((Int.natAbs q.num : Int) - (1)) (q.den : Int)).den : Int)), (b7_6, 4, Fq.pair q.num (q.den : Int)), (b6_6, 4, Fq.pair q.num (q.den : Int)), (b5_4, 4, Fq.pair a.num (a.den : Int)), (b5_5, 4, Fq.pair b.num (b.den : Int)), (b2, 4, Fq.raw2 n2 a2 k2 c2 xs2 m2 r2 l2 q2 ys2), (b1, 4, Fq.raw2 n1 a1 k1 c1 xs1 m1 r1 l1 q1 ys1)] w33 := E33
              rw [lay_all hL]
              simp only [putAll, dstOf, List.length_cons, List.length_nil, Nat.zero_add, Nat.reduceAdd, List.getElem?_toArray, List.getElem?_cons_zero, List.getElem?_cons_succ, Option.bind_some, Act.put, List.setIfInBounds_toArray, List.set_cons_succ, List.set_cons_zero]
              rw [e0, e2, e3]
              generalize vs 1 = u33_1
              clear e0 e2 e3 hC hn E33 hL vs L nb
              clear T2
              go_upto_region 24 with (fail)
              refine region_fr (C := [Fq.pair a.num (a.den : Int), Fq.pair b.num (b.den : Int), Fq.ivl a.num (a.den : Int) b.num (b.den : Int), Fq.pair (Rat.divInt ((Int.natAbs q.num : Int) - (1)) (q.den : Int)).num ((Rat.divInt ((Int.natAbs q.num : Int) - (1)) (q.den : Int)).den : Int), Fq.is (.bool false), Fq.is (.bool true), Fq.is (.bool true), Fq.is (.bool true), Fq.is (.bool true), Fq.is (.bool true)]) (ks := [none, none, none, none, none, none, none]) (new := []) E rfl (by kernel_rfl) rfl rfl (fun hp => ⟨?_, ?_, ?_, ?_, ?_, ?_, ?_, ?_, ?_, ?_, trivial⟩) ?_
              · exact q_loadRat hp (free_of rfl) trivial (List.mem_iff_getElem?.2 ⟨3, rfl⟩) (.inl rfl) rfl (sq_out rfl rfl (fun _ _ => rfl)) (fun us w hl h => h)
              · exact q_loadRat hp (free_of rfl) trivial (List.mem_iff_getElem?.2 ⟨4, rfl⟩) (.inl rfl) rfl (sq_out rfl rfl (fun _ _ => rfl)) (fun us w hl h => h)
              · exact q_buildIvl hp (free_of rfl) trivial (sq_in 0 rfl rfl (by simp) rfl (fun v w h => h)) (sq_in 1 rfl rfl (by simp) rfl (fun v w h => h)) (fun v w h => h)
              · exact q_loadRat hp (free_of rfl) trivial (List.mem_iff_getElem?.2 ⟨0, rfl⟩) (.inl rfl) rfl (sq_out rfl rfl (fun _ _ => rfl)) (fun us w hl h => h)
              · exact q_call2 (F := (Fq.ivl a.num (a.den : Int) b.num (b.den : Int)).P) (G := (Fq.pair (Rat.divInt ((Int.natAbs q.num : Int) - (1)) (q.den : Int)).num ((Rat.divInt ((Int.natAbs q.num : Int) - (1)) (q.den : Int)).den : Int)).P) hp (free_of rfl) trivial (enq_S_Has) (sq_in 2 rfl rfl (by simp) rfl (fun v w h => h)) (sq_in 3 rfl rfl (by simp) rfl (fun v w h => h)) (fun v v' w h h' => exSHasB h h' (rb_le Ba.out (by omega)) (rb_le Bb.out (by omega)) (rb_le B24.out (by omega)) (both_false2 HF.out))
              · exact q_one (F := fun v _ => v = .bool false) hp (free_of rfl) trivial (sq_in 4 rfl rfl (by simp) rfl (fun v w h => h)) (fun ρ w _ h => ⟨.bool true, by simp [execOp, go_sem, h], rfl⟩)
              · exact q_move hp (free_of rfl) trivial (sq_in 5 rfl rfl (by simp) rfl (fun v w h => h))
              · exact q_move hp (free_of rfl) (gq_some rfl rfl (by simp) rfl (fun v w h => h)) (sq_out rfl rfl (fun _ _ => rfl))
              · exact q_two (F := fun v _ => v = .bool true) (G := fun v _ => v = .bool true) hp (free_of rfl) trivial (sq_in 6 rfl rfl (by simp) rfl (fun v w h => h)) (sq_in 7 rfl rfl (by simp) rfl (fun v w h => h)) (fun ρ w hc h h' => ⟨_, by simp [execOp, go_sem, h, h'], rfl⟩)
              · exact q_assign hp (free_of rfl) trivial (sq_in 8 rfl rfl (by simp) rfl (fun v w h => h))
              intro L vs w34 nb hL hC hn E34
              have e4 : vs 4 = .bool false := hC 4 (by simp)
              have e5 : vs 5 = .bool true := hC 5 (by simp)
              have e6 : vs 6 = .bool true := hC 6 (by simp)
              have e7 : vs 7 = .bool true := hC 7 (by simp)
              have e8 : vs 8 = .bool true := hC 8 (by simp)
              have e9 : vs 9 = .bool true := hC 9 (by simp)
              have E : Fr w [(b25_11, 4, Fq.pair (Rat.divInt ((Int.natAbs q.num : Int) - (1)) (q.den : Int)).num ((Rat.divInt ((Int.natAbs q.num : Int) - (1)) (q.den : Int)).den : Int)), (b7_6, 4, Fq.pair q.num (q.den : Int)), (b6_6, 4, Fq.pair q.num (q.den : Int)), (b5_4, 4, Fq.pair a.num (a.den : Int)), (b5_5, 4, Fq.pair b.num (b.den : Int)), (b2, 4, Fq.raw2 n2 a2 k2 c2 xs2 m2 r2 l2 q2 ys2), (b1, 4, Fq.raw2 n1 a1 k1 c1 xs1 m1 r1 l1 q1 ys1)] w34 := E34
              rw [lay_all hL]
              simp only [putAll, dstOf, List.length_cons, List.length_nil, Nat.zero_add, Nat.reduceAdd, List.getElem?_toArray, List.getElem?_cons_zero, List.getElem?_cons_succ, Option.bind_some, Act.put, List.setIfInBounds_toArray, List.set_cons_succ, List.set_cons_zero]
              rw [e4, e5, e6, e7, e8, e9]
              generalize vs 0 = u34_0
              generalize vs 1 = u34_1
              generalize vs 2 = u34_2
              generalize vs 3 = u34_3
              clear e4 e5 e6 e7 e8 e9 hC hn E34 hL vs L nb
              clear HF H0 HQ HL HI HN HK
              clear B21 B22 B23 B24 Ba Bb Bq Bk
              go_wp2
              refine bodyPost_ret (v := .bool true) ?_ rfl ⟨rfl, E.below⟩
              simp [results, Tryz.results6, go_sem]
      · have TK : Hid (¬ k ≤ 60) := h60
        clear h60
        go_upto_region 14 with (fail)
        refine region_fr (C := [Fq.is (.int .i64 k), Fq.is (.bool false), Fq.is (.bool false), Fq.is (undef), Fq.is (undef), Fq.is (undef), Fq.is (undef), Fq.is (undef), Fq.is (undef), Fq.is (.bool false)]) (ks := [none, none, none, none, none, none]) (new := []) E rfl (by kernel_rfl) rfl rfl (fun hp => ⟨?_, ?_, ?_, ?_, ?_, ?_, ?_, ?_, ?_, ?_, trivial⟩) ?_
        · exact q_move hp (free_of rfl) trivial (sq_out rfl rfl (fun _ _ => rfl))
        · exact q_one (F := fun v _ => v = .int .i64 k) hp (free_of rfl) trivial (sq_in 0 rfl rfl (by simp) rfl (fun v w h => h)) (fun ρ w hc h => ⟨.bool false, by simp [execOp, go_sem, h, hc, TK.out], rfl⟩)
        · exact q_move hp (free_of rfl) trivial (sq_in 1 rfl rfl (by simp) rfl (fun v w h => h))
        · exact q_skip hp (free_of rfl) rfl (gq_some rfl rfl (by simp) rfl (fun v w h => h)) (fun _ => rfl)
        · exact q_skip hp (free_of rfl) rfl (gq_some rfl rfl (by simp) rfl (fun v w h => h)) (fun _ => rfl)
        · exact q_skip hp (free_of rfl) rfl (gq_some rfl rfl (by simp) rfl (fun v w h => h)) (fun _ => rfl)
        · exact q_skip hp (free_of rfl) rfl (gq_some rfl rfl (by simp) rfl (fun v w h => h)) (fun _ => rfl)
        · exact q_skip hp (free_of rfl) rfl (gq_some rfl rfl (by simp) rfl (fun v w h => h)) (fun _ => rfl)
        · exact q_skip hp (free_of rfl) rfl (gq_some rfl rfl (by simp) rfl (fun v w h => h)) (fun _ => rfl)
        · exact q_two (F := fun v _ => v = .bool false) (G := fun v _ => v = .bool false) hp (free_of rfl) trivial (sq_in 2 rfl rfl (by simp) rfl (fun v w h => h)) (sq_const (fun _ => rfl)) (fun ρ w hc h h' => ⟨_, by simp [execOp, go_sem, h, h'], rfl⟩)
        intro L vs w35 nb hL hC hn E35
        have e0 : vs 0 = .int .i64 k := hC 0 (by simp)
        have e1 : vs 1 = .bool false := hC 1 (by simp)
        have e2 : vs 2 = .bool false := hC 2 (by simp)
        have e3 : vs 3 = undef := hC 3 (by simp)
        have e4 : vs 4 = undef := hC 4 (by simp)
        have e5 : vs 5 = undef := hC 5 (by simp)
        have e6 : vs 6 = undef := hC 6 (by simp)
        have e7 : vs 7 = undef := hC 7 (by simp)
        have e8 : vs 8 = undef := hC 8 (by simp)
        have e9 : vs 9 = .bool false := hC 9 (by simp)
        have E : Fr w [(b7_6, 4, Fq.pair q.num (q.den : Int)), (b6_6, 4, Fq.pair q.num (q.den : Int)), (b5_4, 4, Fq.pair a.num (a.den : Int)), (b5_5, 4, Fq.pair b.num (b.den : Int)), (b2, 4, Fq.raw2 n2 a2 k2 c2 xs2 m2 r2 l2 q2 ys2), (b1, 4, Fq.raw2 n1 a1 k1 c1 xs1 m1 r1 l1 q1 ys1)] w35 := E35
        rw [lay_all hL]
        simp only [putAll, dstOf, List.length_cons, List.length_nil, Nat.zero_add, Nat.reduceAdd, List.getElem?_toArray, List.getElem?_cons_zero, List.getElem?_cons_succ, Option.bind_some, Act.put, List.setIfInBounds_toArray, List.set_cons_succ, List.set_cons_zero]
        rw [e0, e1, e2, e3, e4, e5, e6, e7, e8, e9]
        clear e0 e1 e2 e3 e4 e5 e6 e7 e8 e9 hC hn E35 hL vs L nb
        clear TK
        go_upto_region 19 with (fail)
        have B36 : Hid (ab ((Int.natAbs q.num : Int)) < pw 3) := ab_absB Bq.out.1
        have B37 : Hid (ab ((1)) < pw 3) := ab_lit (by decide)
        have B38 : Hid (ab (((Int.natAbs q.num : Int) - (1))) < pw 4) := ab_subB B36.out B37.out (by omega) (by omega)
        have B39 : Hid (Rb (Rat.divInt ((Int.natAbs q.num : Int) - (1)) (q.den : Int)) 4) := rb_divInt (den_ne q) (Int.lt_of_lt_of_le B38.out (pw_le (by omega))) (Int.lt_of_lt_of_le Bq.out.2 (pw_le (by omega)))
        refine region_fr (C := [Fq.is (.pointer (some ⟨b6_6, 0, none⟩)), Fq.num q.num, Fq.num (Int.natAbs q.num : Int), Fq.num (1), Fq.num ((Int.natAbs q.num : Int) - (1)), Fq.is (.pointer (some ⟨b6_6, 2, none⟩)), Fq.num (q.den : Int), Fq.tup2 (Fq.pair (Rat.divInt ((Int.natAbs q.num : Int) - (1)) (q.den : Int)).num ((Rat.divInt ((Int.natAbs q.num : Int) - (1)) (q.den : Int)).den : Int)) (Fq.is (.int .i64 0)), Fq.tup2 (Fq.pair (Rat.divInt ((Int.natAbs q.num : Int) - (1)) (q.den : Int)).num ((Rat.divInt ((Int.natAbs q.num : Int) - (1)) (q.den : Int)).den : Int)) (Fq.is (.int .i64 0)), Fq.pair (Rat.divInt ((Int.natAbs q.num : Int) - (1)) (q.den : Int)).num ((Rat.divInt ((Int.natAbs q.num : Int) - (1)) (q.den : Int)).den : Int), Fq.is (.int .i64 0), Fq.any, Fq.any, Fq.is (.int .i64 0)]) (ks := [none, none, none, none, none, none]) (new := [⟨11, 12, 4, Fq.pair 0 0, Fq.pair (Rat.divInt ((Int.natAbs q.num : Int) - (1)) (q.den : Int)).num ((Rat.divInt ((Int.natAbs q.num : Int) - (1)) (q.den : Int)).den : Int), none⟩]) E rfl (by kernel_rfl) rfl rfl (fun hp => ⟨?_, ?_, ?_, ?_, ?_, ?_, ?_, ?_, ?_, ?_, ?_, ?_, ?_, ?_, trivial⟩) ?_
        · exact q_addr (b := b6_6) (off := 0) (off' := 0) hp (free_of rfl) trivial (sq_out rfl rfl (fun _ _ => rfl)) (fun ρ w h => by simp [execOp, go_sem, h]) (fun _ => rfl)
        · exact q_loadInt (off := 0) hp (free_of rfl) trivial (List.mem_iff_getElem?.2 ⟨1, rfl⟩) (.inl rfl) (Nat.le_of_ble_eq_true rfl) (sq_in 0 rfl rfl (by simp) rfl (fun v w h => h)) (fun us w hl h => ld_pn hl h)
        · exact q_call1 (F := (Fq.num q.num).P) hp (free_of rfl) trivial (enq_R_Abs) (sq_in 1 rfl rfl (by simp) rfl (fun v w h => h)) (fun v w h => exK (RAbsV h) B36.out (by omega))
        · exact q_call1 (F := (Fq.is (.int .i64 1)).P) hp (free_of rfl) trivial (enq_R_Of) (sq_const (fun _ => rfl)) (fun v w h => (by subst h; exact rOfK w (1) (by omega) (by omega)))
        · exact q_call2 (F := (Fq.num (Int.natAbs q.num : Int)).P) (G := (Fq.num (1)).P) hp (free_of rfl) trivial (enq_R_Sub) (sq_in 2 rfl rfl (by simp) rfl (fun v w h => h)) (sq_in 3 rfl rfl (by simp) rfl (fun v w h => h)) (fun v v' w h h' => exK (RSubV h h' (K := 100) (Int.lt_of_lt_of_le B36.out (pw_le (by omega))) (Int.lt_of_lt_of_le B37.out (pw_le (by omega))) (by omega)) B38.out (by omega))
        · exact q_addr (b := b6_6) (off := 0) (off' := 2) hp (free_of rfl) trivial (sq_out rfl rfl (fun _ _ => rfl)) (fun ρ w h => by simp [execOp, go_sem, h]) (fun _ => rfl)
        · exact q_loadInt (off := 2) hp (free_of rfl) trivial (List.mem_iff_getElem?.2 ⟨1, rfl⟩) (.inl rfl) (Nat.le_of_ble_eq_true rfl) (sq_in 5 rfl rfl (by simp) rfl (fun v w h => h)) (fun us w hl h => ld_pd hl h)
        · exact q_call2 (F := (Fq.num ((Int.natAbs q.num : Int) - (1))).P) (G := (Fq.num (q.den : Int)).P) hp (free_of rfl) trivial (enq_Q_New) (sq_in 4 rfl rfl (by simp) rfl (fun v w h => h)) (sq_in 6 rfl rfl (by simp) rfl (fun v w h => h)) (fun v v' w h h' => exNewP h h' (den_ne q) (Int.lt_of_lt_of_le B38.out (pw_le (by omega))) (Int.lt_of_lt_of_le Bq.out.2 (pw_le (by omega))))
        · exact q_move hp (free_of rfl) trivial (sq_in 7 rfl rfl (by simp) rfl (fun v w h => h))
        · exact q_extract2 hp (free_of rfl) trivial (sq_in 8 rfl rfl (by simp) rfl (fun v w h => h)) (fun v1 v2 w h1 h2 => ⟨_, rfl, h1⟩)
        · exact q_extract2 hp (free_of rfl) trivial (sq_in 8 rfl rfl (by simp) rfl (fun v w h => h)) (fun v1 v2 w h1 h2 => ⟨_, rfl, h2⟩)
        · exact q_allocRat hp (List.mem_iff_getElem?.2 ⟨0, rfl⟩) rfl rfl rfl rfl (Nat.ne_of_beq_eq_false rfl) (fun _ _ => trivial) (old_ne rfl) (newk_ne rfl) (fun w => Pair.zero w)
        · exact q_storeNewRat hp (List.mem_iff_getElem?.2 ⟨0, rfl⟩) rfl rfl rfl (own_ptr rfl rfl (by simp) rfl) (sq_in 9 rfl rfl (by simp) rfl (fun v w h => ratV_pair h)) (fun _ _ => trivial) (old_ne rfl) (newi_ne rfl)
        · exact q_assign hp (free_of rfl) trivial (sq_in 10 rfl rfl (by simp) rfl (fun v w h => h))
        intro L vs w40 nb hL hC hn E40
        have e0 : vs 0 = .pointer (some ⟨b6_6, 0, none⟩) := hC 0 (by simp)
        have e5 : vs 5 = .pointer (some ⟨b6_6, 2, none⟩) := hC 5 (by simp)
        have e10 : vs 10 = .int .i64 0 := hC 10 (by simp)
        have e13 : vs 13 = .int .i64 0 := hC 13 (by simp)
        have e11 : vs 11 = .pointer (some ⟨nb 11, 0, none⟩) := hn _ (List.mem_iff_getElem?.2 ⟨0, rfl⟩)
        have E : Fr w [(nb 11, 4, Fq.pair (Rat.divInt ((Int.natAbs q.num : Int) - (1)) (q.den : Int)).num ((Rat.divInt ((Int.natAbs q.num : Int) - (1)) (q.den : Int)).den : Int)), (b7_6, 4, Fq.pair q.num (q.den : Int)), (b6_6, 4, Fq.pair q.num (q.den : Int)), (b5_4, 4, Fq.pair a.num (a.den : Int)), (b5_5, 4, Fq.pair b.num (b.den : Int)), (b2, 4, Fq.raw2 n2 a2 k2 c2 xs2 m2 r2 l2 q2 ys2), (b1, 4, Fq.raw2 n1 a1 k1 c1 xs1 m1 r1 l1 q1 ys1)] w40 := E40
        rw [lay_all hL]
        simp only [putAll, dstOf, List.length_cons, List.length_nil, Nat.zero_add, Nat.reduceAdd, List.getElem?_toArray, List.getElem?_cons_zero, List.getElem?_cons_succ, Option.bind_some, Act.put, List.setIfInBounds_toArray, List.set_cons_succ, List.set_cons_zero]
        rw [e0, e5, e10, e13, e11]
        generalize nb 11 = b40_11 at E ⊢
        generalize vs 1 = u40_1
        generalize vs 2 = u40_2
        generalize vs 3 = u40_3
        generalize vs 4 = u40_4
        generalize vs 6 = u40_6
        generalize vs 7 = u40_7
        generalize vs 8 = u40_8
        generalize vs 9 = u40_9
        clear e0 e5 e10 e13 e11 hC hn E40 hL vs L nb
        by_cases h0 : q.num = 0
        · have T1 : Hid (cmpI q.num 0 = 0) := cmpIq0.2 h0
          clear h0
          go_upto_region 20 with (fail)
          refine region_fr (C := [Fq.is (.pointer (some ⟨b6_6, 0, none⟩)), Fq.num q.num, Fq.is (.int .i64 (cmpI q.num 0)), Fq.is (.bool true), Fq.is (.bool true), Fq.is (undef), Fq.is (undef), Fq.is (.bool true)]) (ks := [none, none, none, none, none, none, none]) (new := []) E rfl (by kernel_rfl) rfl rfl (fun hp => ⟨?_, ?_, ?_, ?_, ?_, ?_, ?_, ?_, trivial⟩) ?_
          · exact q_addr (b := b6_6) (off := 0) (off' := 0) hp (free_of rfl) trivial (sq_out rfl rfl (fun _ _ => rfl)) (fun ρ w h => by simp [execOp, go_sem, h]) (fun _ => rfl)
          · exact q_loadInt (off := 0) hp (free_of rfl) trivial (List.mem_iff_getElem?.2 ⟨2, rfl⟩) (.inl rfl) (Nat.le_of_ble_eq_true rfl) (sq_in 0 rfl rfl (by simp) rfl (fun v w h => h)) (fun us w hl h => ld_pn hl h)
          · exact q_call1 (F := (Fq.num q.num).P) hp (free_of rfl) trivial (enq_R_Sign) (sq_in 1 rfl rfl (by simp) rfl (fun v w h => h)) (fun v w h => exRSign h)
          · exact q_one (F := fun v _ => v = .int .i64 (cmpI q.num 0)) hp (free_of rfl) trivial (sq_in 2 rfl rfl (by simp) rfl (fun v w h => h)) (fun ρ w hc h => ⟨.bool true, by simp [execOp, go_sem, h, hc, T1.out], rfl⟩)
          · exact q_move hp (free_of rfl) trivial (sq_in 3 rfl rfl (by simp) rfl (fun v w h => h))
          · exact q_skip hp (free_of rfl) rfl (gq_some rfl rfl (by simp) rfl (fun v w h => h)) (fun _ => rfl)
          · exact q_skip hp (free_of rfl) rfl (gq_some rfl rfl (by simp) rfl (fun v w h => h)) (fun _ => rfl)
          · exact q_two (F := fun v _ => v = .bool true) (G := fun v _ => v = .bool true) hp (free_of rfl) trivial (sq_in 4 rfl rfl (by simp) rfl (fun v w h => h)) (sq_const (fun _ => rfl)) (fun ρ w hc h h' => ⟨_, by simp [execOp, go_sem, h, h'], rfl⟩)
          intro L vs w41 nb hL hC hn E41
          have e0 : vs 0 = .pointer (some ⟨b6_6, 0, none⟩) := hC 0 (by simp)
          have e2 : vs 2 = .int .i64 (cmpI q.num 0) := hC 2 (by simp)
          have e3 : vs 3 = .bool true := hC 3 (by simp)
          have e4 : vs 4 = .bool true := hC 4 (by simp)
          have e5 : vs 5 = undef := hC 5 (by simp)
          have e6 : vs 6 = undef := hC 6 (by simp)
          have e7 : vs 7 = .bool true := hC 7 (by simp)
          have E : Fr w [(b40_11, 4, Fq.pair (Rat.divInt ((Int.natAbs q.num : Int) - (1)) (q.den : Int)).num ((Rat.divInt ((Int.natAbs q.num : Int) - (1)) (q.den : Int)).den : Int)), (b7_6, 4, Fq.pair q.num (q.den : Int)), (b6_6, 4, Fq.pair q.num (q.den : Int)), (b5_4, 4, Fq.pair a.num (a.den : Int)), (b5_5, 4, Fq.pair b.num (b.den : Int)), (b2, 4, Fq.raw2 n2 a2 k2 c2 xs2 m2 r2 l2 q2 ys2), (b1, 4, Fq.raw2 n1 a1 k1 c1 xs1 m1 r1 l1 q1 ys1)] w41 := E41
          rw [lay_all hL]
          simp only [putAll, dstOf, List.length_cons, List.length_nil, Nat.zero_add, Nat.reduceAdd, List.getElem?_toArray, List.getElem?_cons_zero, List.getElem?_cons_succ, Option.bind_some, Act.put, List.setIfInBounds_toArray, List.set_cons_succ, List.set_cons_zero]
          rw [e0, e2, e3, e4, e5, e6, e7]
          generalize vs 1 = u41_1
          clear e0 e2 e3 e4 e5 e6 e7 hC hn E41 hL vs L nb
          go_upto_region 21 with (fail)
          refine region_fr (C := [Fq.is (.pointer (some ⟨b6_6, 0, none⟩)), Fq.num q.num, Fq.is (.int .i64 (cmpI q.num 0)), Fq.is (.bool true), Fq.is (.bool true), Fq.is (.bool true), Fq.is (.bool true), Fq.is (.bool true)]) (ks := [none, none, none, none, none, none, none]) (new := []) E rfl (by kernel_rfl) rfl rfl (fun hp => ⟨?_, ?_, ?_, ?_, ?_, ?_, ?_, ?_, trivial⟩) ?_
          · exact q_addr (b := b6_6) (off := 0) (off' := 0) hp (free_of rfl) trivial (sq_out rfl rfl (fun _ _ => rfl)) (fun ρ w h => by simp [execOp, go_sem, h]) (fun _ => rfl)
          · exact q_loadInt (off := 0) hp (free_of rfl) trivial (List.mem_iff_getElem?.2 ⟨2, rfl⟩) (.inl rfl) (Nat.le_of_ble_eq_true rfl) (sq_in 0 rfl rfl (by simp) rfl (fun v w h => h)) (fun us w hl h => ld_pn hl h)
          · exact q_call1 (F := (Fq.num q.num).P) hp (free_of rfl) trivial (enq_R_Sign) (sq_in 1 rfl rfl (by simp) rfl (fun v w h => h)) (fun v w h => exRSign h)
          · exact q_one (F := fun v _ => v = .int .i64 (cmpI q.num 0)) hp (free_of rfl) trivial (sq_in 2 rfl rfl (by simp) rfl (fun v w h => h)) (fun ρ w hc h => ⟨.bool true, by simp [execOp, go_sem, h, hc, T1.out], rfl⟩)
          · exact q_move hp (free_of rfl) trivial (sq_in 3 rfl rfl (by simp) rfl (fun v w h => h))
          · exact q_move hp (free_of rfl) (gq_some rfl rfl (by simp) rfl (fun v w h => h)) (sq_out rfl rfl (fun _ _ => rfl))
          · exact q_two (F := fun v _ => v = .bool true) (G := fun v _ => v = .bool true) hp (free_of rfl) trivial (sq_in 4 rfl rfl (by simp) rfl (fun v w h => h)) (sq_in 5 rfl rfl (by simp) rfl (fun v w h => h)) (fun ρ w hc h h' => ⟨_, by simp [execOp, go_sem, h, h'], rfl⟩)
          · exact q_assign hp (free_of rfl) trivial (sq_in 6 rfl rfl (by simp) rfl (fun v w h => h))
          intro L vs w42 nb hL hC hn E42
          have e0 : vs 0 = .pointer (some ⟨b6_6, 0, none⟩) := hC 0 (by simp)
          have e2 : vs 2 = .int .i64 (cmpI q.num 0) := hC 2 (by simp)
          have e3 : vs 3 = .bool true := hC 3 (by simp)
          have e4 : vs 4 = .bool true := hC 4 (by simp)
          have e5 : vs 5 = .bool true := hC 5 (by simp)
          have e6 : vs 6 = .bool true := hC 6 (by simp)
          have e7 : vs 7 = .bool true := hC 7 (by simp)
          have E : Fr w [(b40_11, 4, Fq.pair (Rat.divInt ((Int.natAbs q.num : Int) - (1)) (q.den : Int)).num ((Rat.divInt ((Int.natAbs q.num : Int) - (1)) (q.den : Int)).den : Int)), (b7_6, 4, Fq.pair q.num (q.den : Int)), (b6_6, 4, Fq.pair q.num (q.den : Int)), (b5_4, 4, Fq.pair a.num (a.den : Int)), (b5_5, 4, Fq.pair b.num (b.den : Int)), (b2, 4, Fq.raw2 n2 a2 k2 c2 xs2 m2 r2 l2 q2 ys2), (b1, 4, Fq.raw2 n1 a1 k1 c1 xs1 m1 r1 l1 q1 ys1)] w42 := E42
          rw [lay_all hL]
          simp only [putAll, dstOf, List.length_cons, List.length_nil, Nat.zero_add, Nat.reduceAdd, List.getElem?_toArray, List.getElem?_cons_zero, List.getElem?_cons_succ, Option.bind_some, Act.put, List.setIfInBounds_toArray, List.set_cons_succ, List.set_cons_zero]
          rw [e0, e2, e3, e4, e5, e6, e7]
          generalize vs 1 = u42_1
          clear e0 e2 e3 e4 e5 e6 e7 hC hn E42 hL vs L nb
          clear T1 HQ HL HI HN HK
          clear B36 B37 B38 B39 Ba Bb Bq Bk
          go_wp2
          refine bodyPost_ret (v := .bool true) ?_ rfl ⟨rfl, E.below⟩
          simp [results, Tryz.results6, go_sem]
        · have T1 : Hid (¬ cmpI q.num 0 = 0) := fun e => h0 (cmpIq0.1 e)
          have H0 := hidd h0
          clear h0
          go_upto_region 20 with (fail)
          refine region_fr (C := [Fq.is (.pointer (some ⟨b6_6, 0, none⟩)), Fq.num q.num, Fq.is (.int .i64 (cmpI q.num 0)), Fq.is (.bool false), Fq.is (.bool false), Fq.is (.int .i64 0), Fq.is (.bool false), Fq.is (.bool false)]) (ks := [none, none, none, none, none, none, none]) (new := []) E rfl (by kernel_rfl) rfl rfl (fun hp => ⟨?_, ?_, ?_, ?_, ?_, ?_, ?_, ?_, trivial⟩) ?_
          · exact q_addr (b := b6_6) (off := 0) (off' := 0) hp (free_of rfl) trivial (sq_out rfl rfl (fun _ _ => rfl)) (fun ρ w h => by simp [execOp, go_sem, h]) (fun _ => rfl)
          · exact q_loadInt (off := 0) hp (free_of rfl) trivial (List.mem_iff_getElem?.2 ⟨2, rfl⟩) (.inl rfl) (Nat.le_of_ble_eq_true rfl) (sq_in 0 rfl rfl (by simp) rfl (fun v w h => h)) (fun us w hl h => ld_pn hl h)
          · exact q_call1 (F := (Fq.num q.num).P) hp (free_of rfl) trivial (enq_R_Sign) (sq_in 1 rfl rfl (by simp) rfl (fun v w h => h)) (fun v w h => exRSign h)
          · exact q_one (F := fun v _ => v = .int .i64 (cmpI q.num 0)) hp (free_of rfl) trivial (sq_in 2 rfl rfl (by simp) rfl (fun v w h => h)) (fun ρ w hc h => ⟨.bool false, by simp [execOp, go_sem, h, hc, T1.out], rfl⟩)
          · exact q_move hp (free_of rfl) trivial (sq_in 3 rfl rfl (by simp) rfl (fun v w h => h))
          · exact q_move hp (free_of rfl) (gq_some rfl rfl (by simp) rfl (fun v w h => h)) (sq_out rfl rfl (fun _ _ => rfl))
          · exact q_one (F := fun v _ => v = .int .i64 0) hp (free_of rfl) (gq_some rfl rfl (by simp) rfl (fun v w h => h)) (sq_in 5 rfl rfl (by simp) rfl (fun v w h => h)) (fun ρ w hc h => ⟨.bool false, by simp [execOp, go_sem, h, hc], rfl⟩)
          · exact q_two (F := fun v _ => v = .bool false) (G := fun v _ => v = .bool false) hp (free_of rfl) trivial (sq_in 4 rfl rfl (by simp) rfl (fun v w h => h)) (sq_in 6 rfl rfl (by simp) rfl (fun v w h => h)) (fun ρ w hc h h' => ⟨_, by simp [execOp, go_sem, h, h'], rfl⟩)
          intro L vs w43 nb hL hC hn E43
          have e0 : vs 0 = .pointer (some ⟨b6_6, 0, none⟩) := hC 0 (by simp)
          have e2 : vs 2 = .int .i64 (cmpI q.num 0) := hC 2 (by simp)
          have e3 : vs 3 = .bool false := hC 3 (by simp)
          have e4 : vs 4 = .bool false := hC 4 (by simp)
          have e5 : vs 5 = .int .i64 0 := hC 5 (by simp)
          have e6 : vs 6 = .bool false := hC 6 (by simp)
          have e7 : vs 7 = .bool false := hC 7 (by simp)
          have E : Fr w [(b40_11, 4, Fq.pair (Rat.divInt ((Int.natAbs q.num : Int) - (1)) (q.den : Int)).num ((Rat.divInt ((Int.natAbs q.num : Int) - (1)) (q.den : Int)).den : Int)), (b7_6, 4, Fq.pair q.num (q.den : Int)), (b6_6, 4, Fq.pair q.num (q.den : Int)), (b5_4, 4, Fq.pair a.num (a.den : Int)), (b5_5, 4, Fq.pair b.num (b.den : Int)), (b2, 4, Fq.raw2 n2 a2 k2 c2 xs2 m2 r2 l2 q2 ys2), (b1, 4, Fq.raw2 n1 a1 k1 c1 xs1 m1 r1 l1 q1 ys1)] w43 := E43
          rw [lay_all hL]
          simp only [putAll, dstOf, List.length_cons, List.length_nil, Nat.zero_add, Nat.reduceAdd, List.getElem?_toArray, List.getElem?_cons_zero, List.getElem?_cons_succ, Option.bind_some, Act.put, List.setIfInBounds_toArray, List.set_cons_succ, List.set_cons_zero]
          rw [e0, e2, e3, e4, e5, e6, e7]
          generalize vs 1 = u43_1
          clear e0 e2 e3 e4 e5 e6 e7 hC hn E43 hL vs L nb
          clear T1
          by_cases hn : q.num < 0
          · have T2 : Hid (cmpI q.num 0 < 0) := cmpIqlt.2 hn
            have HF : Hid (¬ (a ≤ -(Rat.divInt ((q.num.natAbs : Int) - (1)) (q.den : Int)) ∧ -(Rat.divInt ((q.num.natAbs : Int) - (1)) (q.den : Int)) ≤ b)) := by show ¬ _; rw [near_neg hn]; exact HN.out.2 hn
            clear hn
            go_upto_region 22 with (fail)
            refine region_fr (C := [Fq.is (.pointer (some ⟨b6_6, 0, none⟩)), Fq.num q.num, Fq.is (.int .i64 (cmpI q.num 0)), Fq.is (.bool true)]) (ks := [none, none, none, none, none, none, none]) (new := []) E rfl (by kernel_rfl) rfl rfl (fun hp => ⟨?_, ?_, ?_, ?_, trivial⟩) ?_
            · exact q_addr (b := b6_6) (off := 0) (off' := 0) hp (free_of rfl) trivial (sq_out rfl rfl (fun _ _ => rfl)) (fun ρ w h => by simp [execOp, go_sem, h]) (fun _ => rfl)
            · exact q_loadInt (off := 0) hp (free_of rfl) trivial (List.mem_iff_getElem?.2 ⟨2, rfl⟩) (.inl rfl) (Nat.le_of_ble_eq_true rfl) (sq_in 0 rfl rfl (by simp) rfl (fun v w h => h)) (fun us w hl h => ld_pn hl h)
            · exact q_call1 (F := (Fq.num q.num).P) hp (free_of rfl) trivial (enq_R_Sign) (sq_in 1 rfl rfl (by simp) rfl (fun v w h => h)) (fun v w h => exRSign h)
            · exact q_one (F := fun v _ => v = .int .i64 (cmpI q.num 0)) hp (free_of rfl) trivial (sq_in 2 rfl rfl (by simp) rfl (fun v w h => h)) (fun ρ w hc h => ⟨.bool true, by simp [execOp, go_sem, h, hc, T2.out], rfl⟩)
            intro L vs w44 nb hL hC hn E44
            have e0 : vs 0 = .pointer (some ⟨b6_6, 0, none⟩) := hC 0 (by simp)
            have e2 : vs 2 = .int .i64 (cmpI q.num 0) := hC 2 (by simp)
            have e3 : vs 3 = .bool true := hC 3 (by simp)
            have E : Fr w [(b40_11, 4, Fq.pair (Rat.divInt ((Int.natAbs q.num : Int) - (1)) (q.den : Int)).num ((Rat.divInt ((Int.natAbs q.num : Int) - (1)) (q.den : Int)).den : Int)), (b7_6, 4, Fq.pair q.num (q.den : Int)), (b6_6, 4, Fq.pair q.num (q.den : Int)), (b5_4, 4, Fq.pair a.num (a.den : Int)), (b5_5, 4, Fq.pair b.num (b.den : Int)), (b2, 4, Fq.raw2 n2 a2 k2 c2 xs2 m2 r2 l2 q2 ys2), (b1, 4, Fq.raw2 n1 a1 k1 c1 xs1 m1 r1 l1 q1 ys1)] w44 := E44
            rw [lay_all hL]
            simp only [putAll, dstOf, List.length_cons, List.length_nil, Nat.zero_add, Nat.reduceAdd, List.getElem?_toArray, List.getElem?_cons_zero, List.getElem?_cons_succ, Option.bind_some, Act.put, List.setIfInBounds_toArray, List.set_cons_succ, List.set_cons_zero]
            rw [e0, e2, e3]
            generalize vs 1 = u44_1
            clear e0 e2 e3 hC hn E44 hL vs L nb
            clear T2
            go_upto_region 23 with (fail)
            have B45 : Hid (Rb (-(Rat.divInt ((Int.natAbs q.num : Int) - (1)) (q.den : Int))) 4) := rb_neg B39.out
            refine region_fr (C := [Fq.pair (Rat.divInt ((Int.natAbs q.num : Int) - (1)) (q.den : Int)).num ((Rat.divInt ((Int.natAbs q.num : Int) - (1)) (q.den : Int)).den : Int), Fq.pair (-(Rat.divInt ((Int.natAbs q.num : Int) - (1)) (q.den : Int))).num ((-(Rat.divInt ((Int.natAbs q.num : Int) - (1)) (q.den : Int))).den : Int), Fq.any]) (ks := [some (2, Fq.pair (-(Rat.divInt ((Int.natAbs q.num : Int) - (1)) (q.den : Int))).num ((-(Rat.divInt ((Int.natAbs q.num : Int) - (1)) (q.den : Int))).den : Int)), none, none, none, none, none, none]) (new := []) E rfl (by kernel_rfl) rfl rfl (fun hp => ⟨?_, ?_, ?_, trivial⟩) ?_
            · exact q_loadRat hp (free_of rfl) trivial (List.mem_iff_getElem?.2 ⟨0, rfl⟩) (.inr rfl) rfl (sq_out rfl rfl (fun _ _ => rfl)) (fun us w hl h => h)
            · exact q_call1 (F := (Fq.pair (Rat.divInt ((Int.natAbs q.num : Int) - (1)) (q.den : Int)).num ((Rat.divInt ((Int.natAbs q.num : Int) - (1)) (q.den : Int)).den : Int)).P) hp (free_of rfl) trivial (enq_S_Neg) (sq_in 0 rfl rfl (by simp) rfl (fun v w h => h)) (fun v w h => exSNegQ h (rb_le B39.out (by omega)))
            · exact q_storeOldRat hp (List.mem_iff_getElem?.2 ⟨0, rfl⟩) rfl rfl (sq_out rfl rfl (fun _ _ => rfl)) (sq_in 1 rfl rfl (by simp) rfl (fun v w h => ratV_pair h)) (fun _ _ => trivial) (newik_ne rfl)
            intro L vs w46 nb hL hC hn E46
            have E : Fr w [(b40_11, 4, Fq.pair (-(Rat.divInt ((Int.natAbs q.num : Int) - (1)) (q.den : Int))).num ((-(Rat.divInt ((Int.natAbs q.num : Int) - (1)) (q.den : Int))).den : Int)), (b7_6, 4, Fq.pair q.num (q.den : Int)), (b6_6, 4, Fq.pair q.num (q.den : Int)), (b5_4, 4, Fq.pair a.num (a.den : Int)), (b5_5, 4, Fq.pair b.num (b.den : Int)), (b2, 4, Fq.raw2 n2 a2 k2 c2 xs2 m2 r2 l2 q2 ys2), (b1, 4, Fq.raw2 n1 a1 k1 c1 xs1 m1 r1 l1 q1 ys1)] w46 := E46
            rw [lay_all hL]
            simp only [putAll, dstOf, List.length_cons, List.length_nil, Nat.zero_add, Nat.reduceAdd, List.getElem?_toArray, List.getElem?_cons_zero, List.getElem?_cons_succ, Option.bind_some, Act.put, List.setIfInBounds_toArray, List.set_cons_succ, List.set_cons_zero]
            generalize vs 0 = u46_0
            generalize vs 1 = u46_1
            clear  hC hn E46 hL vs L nb
            go_upto_region 24 with (fail)
            refine region_fr (C := [Fq.pair a.num (a.den : Int), Fq.pair b.num (b.den : Int), Fq.ivl a.num (a.den : Int) b.num (b.den : Int), Fq.pair (-(Rat.divInt ((Int.natAbs q.num : Int) - (1)) (q.den : Int))).num ((-(Rat.divInt ((Int.natAbs q.num : Int) - (1)) (q.den : Int))).den : Int), Fq.is (.bool false), Fq.is (.bool true), Fq.is (.bool true), Fq.is (.bool true), Fq.is (.bool true), Fq.is (.bool true)]) (ks := [none, none, none, none, none, none, none]) (new := []) E rfl (by kernel_rfl) rfl rfl (fun hp => ⟨?_, ?_, ?_, ?_, ?_, ?_, ?_, ?_, ?_, ?_, trivial⟩) ?_
            · exact q_loadRat hp (free_of rfl) trivial (List.mem_iff_getElem?.2 ⟨3, rfl⟩) (.inl rfl) rfl (sq_out rfl rfl (fun _ _ => rfl)) (fun us w hl h => h)
            · exact q_loadRat hp (free_of rfl) trivial (List.mem_iff_getElem?.2 ⟨4, rfl⟩) (.inl rfl) rfl (sq_out rfl rfl (fun _ _ => rfl)) (fun us w hl h => h)
            · exact q_buildIvl hp (free_of rfl) trivial (sq_in 0 rfl rfl (by simp) rfl (fun v w h => h)) (sq_in 1 rfl rfl (by simp) rfl (fun v w h => h)) (fun v w h => h)
            · exact q_loadRat hp (free_of rfl) trivial (List.mem_iff_getElem?.2 ⟨0, rfl⟩) (.inl rfl) rfl (sq_out rfl rfl (fun _ _ => rfl)) (fun us w hl h => h)
            · exact q_call2 (F := (Fq.ivl a.num (a.den : Int) b.num (b.den : Int)).P) (G := (Fq.pair (-(Rat.divInt ((Int.natAbs q.num : Int) - (1)) (q.den : Int))).num ((-(Rat.divInt ((Int.natAbs q.num : Int) - (1)) (q.den : Int))).den : Int)).P) hp (free_of rfl) trivial (enq_S_Has) (sq_in 2 rfl rfl (by simp) rfl (fun v w h => h)) (sq_in 3 rfl rfl (by simp) rfl (fun v w h => h)) (fun v v' w h h' => exSHasB h h' (rb_le Ba.out (by omega)) (rb_le Bb.out (by omega)) (rb_le B45.out (by omega)) (both_false2 HF.out))
            · exact q_one (F := fun v _ => v = .bool false) hp (free_of rfl) trivial (sq_in 4 rfl rfl (by simp) rfl (fun v w h => h)) (fun ρ w _ h => ⟨.bool true, by simp [execOp, go_sem, h], rfl⟩)
            · exact q_move hp (free_of rfl) trivial (sq_in 5 rfl rfl (by simp) rfl (fun v w h => h))
            · exact q_move hp (free_of rfl) (gq_some rfl rfl (by simp) rfl (fun v w h => h)) (sq_out rfl rfl (fun _ _ => rfl))
            · exact q_two (F := fun v _ => v = .bool true) (G := fun v _ => v = .bool true) hp (free_of rfl) trivial (sq_in 6 rfl rfl (by simp) rfl (fun v w h => h)) (sq_in 7 rfl rfl (by simp) rfl (fun v w h => h)) (fun ρ w hc h h' => ⟨_, by simp [execOp, go_sem, h, h'], rfl⟩)
            · exact q_assign hp (free_of rfl) trivial (sq_in 8 rfl rfl (by simp) rfl (fun v w h => h))
            intro L vs w47 nb hL hC hn E47
            have e4 : vs 4 = .bool false := hC 4 (by simp)
            have e5 : vs 5 = .bool true := hC 5 (by simp)
            have e6 : vs 6 = .bool true := hC 6 (by simp)
            have e7 : vs 7 = .bool true := hC 7 (by simp)
            have e8 : vs 8 = .bool true := hC 8 (by simp)
            have e9 : vs 9 = .bool true := hC 9 (by simp)
            have E : Fr w [(b40_11, 4, Fq.pair (-(Rat.divInt ((Int.natAbs q.num : Int) - (1)) (q.den : Int))).num ((-(Rat.divInt ((Int.natAbs q.num : Int) - (1)) (q.den : Int))).den : Int)), (b7_6, 4, Fq.pair q.num (q.den : Int)), (b6_6, 4, Fq.pair q.num (q.den : Int)), (b5_4, 4, Fq.pair a.num (a.den : Int)), (b5_5, 4, Fq.pair b.num (b.den : Int)), (b2, 4, Fq.raw2 n2 a2 k2 c2 xs2 m2 r2 l2 q2 ys2), (b1, 4, Fq.raw2 n1 a1 k1 c1 xs1 m1 r1 l1 q1 ys1)] w47 := E47
            rw [lay_all hL]
            simp only [putAll, dstOf, List.length_cons, List.length_nil, Nat.zero_add, Nat.reduceAdd, List.getElem?_toArray, List.getElem?_cons_zero, List.getElem?_cons_succ, Option.bind_some, Act.put, List.setIfInBounds_toArray, List.set_cons_succ, List.set_cons_zero]
            rw [e4, e5, e6, e7, e8, e9]
            generalize vs 0 = u47_0
            generalize vs 1 = u47_1
            generalize vs 2 = u47_2
            generalize vs 3 = u47_3
            clear e4 e5 e6 e7 e8 e9 hC hn E47 hL vs L nb
            clear HF H0 HQ HL HI HN HK
            clear B36 B37 B38 B39 B45 Ba Bb Bq Bk
            go_wp2
            refine bodyPost_ret (v := .bool true) ?_ rfl ⟨rfl, E.below⟩
            simp [results, Tryz.results6, go_sem]
          · have T2 : Hid (¬ cmpI q.num 0 < 0) := fun e => hn (cmpIqlt.1 e)
            have hp : 0 < q.num := by have := H0.out; omega
            have HF : Hid (¬ (a ≤ Rat.divInt ((q.num.natAbs : Int) - (1)) (q.den : Int) ∧ Rat.divInt ((q.num.natAbs : Int) - (1)) (q.den : Int) ≤ b)) := by show ¬ _; rw [near_pos hp]; exact HN.out.1 hp
            clear hn hp
            go_upto_region 22 with (fail)
            refine region_fr (C := [Fq.is (.pointer (some ⟨b6_6, 0, none⟩)), Fq.num q.num, Fq.is (.int .i64 (cmpI q.num 0)), Fq.is (.bool false)]) (ks := [none, none, none, none, none, none, none]) (new := []) E rfl (by kernel_rfl) rfl rfl (fun hp => ⟨?_, ?_, ?_, ?_, trivial⟩) ?_
            · exact q_addr (b := b6_6) (off := 0) (off' := 0) hp (free_of rfl) trivial (sq_out rfl rfl (fun _ _ => rfl)) (fun ρ w h => by simp [execOp, go_sem, h]) (fun _ => rfl)
            · exact q_loadInt (off := 0) hp (free_of rfl) trivial (List.mem_iff_getElem?.2 ⟨2, rfl⟩) (.inl rfl) (Nat.le_of_ble_eq_true rfl) (sq_in 0 rfl rfl (by simp) rfl (fun v w h => h)) (fun us w hl h => ld_pn hl h)
            · exact q_call1 (F := (Fq.num q.num).P) hp (free_of rfl) trivial (enq_R_Sign) (sq_in 1 rfl rfl (by simp) rfl (fun v w h => h)) (fun v w h => exRSign h)
            · exact q_one (F := fun v _ => v = .int .i64 (cmpI q.num 0)) hp (free_of rfl) trivial (sq_in 2 rfl rfl (by simp) rfl (fun v w h => h)) (fun ρ w hc h => ⟨.bool false, by simp [execOp, go_sem, h, hc, T2.out], rfl⟩)
            intro L vs w48 nb hL hC hn E48
            have e0 : vs 0 = .pointer (some ⟨b6_6, 0, none⟩) := hC 0 (by simp)
            have e2 : vs 2 = .int .i64 (cmpI q.num 0) := hC 2 (by simp)
            have e3 : vs 3 = .bool false := hC 3 (by simp)
            have E : Fr w [(b40_11, 4, Fq.pair (Rat.divInt ((Int.natAbs q.num : Int) - (1)) (q.den : Int)).num ((Rat.divInt ((Int.natAbs q.num : Int) - (1)) (q.den : Int)).den : Int)), (b7_6, 4, Fq.pair q.num (q.den : Int)), (b6_6, 4, Fq.pair q.num (q.den : Int)), (b5_4, 4, Fq.pair a.num (a.den : Int)), (b5_5, 4, Fq.pair b.num (b.den : Int)), (b2, 4, Fq.raw2 n2 a2 k2 c2 xs2 m2 r2 l2 q2 ys2), (b1, 4, Fq.raw2 n1 a1 k1 c1 xs1 m1 r1 l1 q1 ys1)] w48 := E48
            rw [lay_all hL]
            simp only [putAll, dstOf, List.length_cons, List.length_nil, Nat.zero_add, Nat.reduceAdd, List.getElem?_toArray, List.getElem?_cons_zero, List.getElem?_cons_succ, Option.bind_some, Act.put, List.setIfInBounds_toArray, List.set_cons_succ, List.set_cons_zero]
            rw [e0, e2, e3]
            generalize vs 1 = u48_1
            clear e0 e2 e3 hC hn E48 hL vs L nb
            clear T2
            go_upto_region 24 with (fail)
            refine region_fr (C := [Fq.pair a.num (a.den : Int), Fq.pair b.num (b.den : Int), Fq.ivl a.num (a.den : Int) b.num (b.den : Int), Fq.pair (Rat.divInt ((Int.natAbs q.num : Int) - (1)) (q.den : Int)).num ((Rat.divInt ((Int.natAbs q.num : Int) - (1)) (q.den : Int)).den : Int), Fq.is (.bool false), Fq.is (.bool true), Fq.is (.bool true), Fq.is (.bool true), Fq.is (.bool true), Fq.is (.bool true)]) (ks := [none, none, none, none, none, none, none]) (new := []) E rfl (by kernel_rfl) rfl rfl (fun hp => ⟨?_, ?_, ?_, ?_, ?_, ?_, ?_, ?_, ?_, ?_, trivial⟩) ?_
            · exact q_loadRat hp (free_of rfl) trivial (List.mem_iff_getElem?.2 ⟨3, rfl⟩) (.inl rfl) rfl (sq_out rfl rfl (fun _ _ => rfl)) (fun us w hl h => h)
            · exact q_loadRat hp (free_of rfl) trivial (List.mem_iff_getElem?.2 ⟨4, rfl⟩) (.inl rfl) rfl (sq_out rfl rfl (fun _ _ => rfl)) (fun us w hl h => h)
            · exact q_buildIvl hp (free_of rfl) trivial (sq_in 0 rfl rfl (by simp) rfl (fun v w h => h)) (sq_in 1 rfl rfl (by simp) rfl (fun v w h => h)) (fun v w h => h)
            · exact q_loadRat hp (free_of rfl) trivial (List.mem_iff_getElem?.2 ⟨0, rfl⟩) (.inl rfl) rfl (sq_out rfl rfl (fun _ _ => rfl)) (fun us w hl h => h)
            · exact q_call2 (F := (Fq.ivl a.num (a.den : Int) b.num (b.den : Int)).P) (G := (Fq.pair (Rat.divInt ((Int.natAbs q.num : Int) - (1)) (q.den : Int)).num ((Rat.divInt ((Int.natAbs q.num : Int) - (1)) (q.den : Int)).den : Int)).P) hp (free_of rfl) trivial (enq_S_Has) (sq_in 2 rfl rfl (by simp) rfl (fun v w h => h)) (sq_in 3 rfl rfl (by simp) rfl (fun v w h => h)) (fun v v' w h h' => exSHasB h h' (rb_le Ba.out (by omega)) (rb_le Bb.out (by omega)) (rb_le B39.out (by omega)) (both_false2 HF.out))
            · exact q_one (F := fun v _ => v = .bool false) hp (free_of rfl) trivial (sq_in 4 rfl rfl (by simp) rfl (fun v w h => h)) (fun ρ w _ h => ⟨.bool true, by simp [execOp, go_sem, h], rfl⟩)
            · exact q_move hp (free_of rfl) trivial (sq_in 5 rfl rfl (by simp) rfl (fun v w h => h))
            · exact q_move hp (free_of rfl) (gq_some rfl rfl (by simp) rfl (fun v w h => h)) (sq_out rfl rfl (fun _ _ => rfl))
            · exact q_two (F := fun v _ => v = .bool true) (G := fun v _ => v = .bool true) hp (free_of rfl) trivial (sq_in 6 rfl rfl (by simp) rfl (fun v w h => h)) (sq_in 7 rfl rfl (by simp) rfl (fun v w h => h)) (fun ρ w hc h h' => ⟨_, by simp [execOp, go_sem, h, h'], rfl⟩)
            · exact q_assign hp (free_of rfl) trivial (sq_in 8 rfl rfl (by simp) rfl (fun v w h => h))
            intro L vs w49 nb hL hC hn E49
            have e4 : vs 4 = .bool false := hC 4 (by simp)
            have e5 : vs 5 = .bool true := hC 5 (by simp)
            have e6 : vs 6 = .bool true := hC 6 (by simp)
            have e7 : vs 7 = .bool true := hC 7 (by simp)
            have e8 : vs 8 = .bool true := hC 8 (by simp)
            have e9 : vs 9 = .bool true := hC 9 (by simp)
            have E : Fr w [(b40_11, 4, Fq.pair (Rat.divInt ((Int.natAbs q.num : Int) - (1)) (q.den : Int)).num ((Rat.divInt ((Int.natAbs q.num : Int) - (1)) (q.den : Int)).den : Int)), (b7_6, 4, Fq.pair q.num (q.den : Int)), (b6_6, 4, Fq.pair q.num (q.den : Int)), (b5_4, 4, Fq.pair a.num (a.den : Int)), (b5_5, 4, Fq.pair b.num (b.den : Int)), (b2, 4, Fq.raw2 n2 a2 k2 c2 xs2 m2 r2 l2 q2 ys2), (b1, 4, Fq.raw2 n1 a1 k1 c1 xs1 m1 r1 l1 q1 ys1)] w49 := E49
            rw [lay_all hL]
            simp only [putAll, dstOf, List.length_cons, List.length_nil, Nat.zero_add, Nat.reduceAdd, List.getElem?_toArray, List.getElem?_cons_zero, List.getElem?_cons_succ, Option.bind_some, Act.put, List.setIfInBounds_toArray, List.set_cons_succ, List.set_cons_zero]
            rw [e4, e5, e6, e7, e8, e9]
            generalize vs 0 = u49_0
            generalize vs 1 = u49_1
            generalize vs 2 = u49_2
            generalize vs 3 = u49_3
            clear e4 e5 e6 e7 e8 e9 hC hn E49 hL vs L nb
            clear HF H0 HQ HL HI HN HK
            clear B36 B37 B38 B39 Ba Bb Bq Bk
            go_wp2
            refine bodyPost_ret (v := .bool true) ?_ rfl ⟨rfl, E.below⟩
            simp [results, Tryz.results6, go_sem]
  · have T1 : Hid (0 < cmpQ a b) := cmpQ_gt.2 (Rat.not_le.1 hle)
    have HL : Hid (b < a) := Rat.not_le.1 hle
    clear hle
    go_upto_region 5 with (fail)
    refine region_fr (C := [Fq.pair a.num (a.den : Int), Fq.pair b.num (b.den : Int), Fq.tup2 (Fq.pair 0 0) (Fq.is (.int .i64 1)), Fq.tup2 (Fq.pair 0 0) (Fq.is (.int .i64 1)), Fq.pair 0 0, Fq.is (.int .i64 1), Fq.any, Fq.any, Fq.is (.int .i64 1)]) (ks := [none, none, none, none]) (new := [⟨6, 7, 4, Fq.pair 0 0, Fq.pair 0 0, none⟩]) E rfl (by kernel_rfl) rfl rfl (fun hp => ⟨?_, ?_, ?_, ?_, ?_, ?_, ?_, ?_, ?_, trivial⟩) ?_
    · exact q_loadRat hp (free_of rfl) trivial (List.mem_iff_getElem?.2 ⟨0, rfl⟩) (.inl rfl) rfl (sq_out rfl rfl (fun _ _ => rfl)) (fun us w hl h => h)
    · exact q_loadRat hp (free_of rfl) trivial (List.mem_iff_getElem?.2 ⟨1, rfl⟩) (.inl rfl) rfl (sq_out rfl rfl (fun _ _ => rfl)) (fun us w hl h => h)
    · exact q_call2 (F := (Fq.pair a.num (a.den : Int)).P) (G := (Fq.pair b.num (b.den : Int)).P) hp (free_of rfl) trivial (enq_Q_Between) (sq_in 0 rfl rfl (by simp) rfl (fun v w h => h)) (sq_in 1 rfl rfl (by simp) rfl (fun v w h => h)) (fun v v' w h h' => exBetA h h' (rb_le Ba.out (by omega)) (rb_le Bb.out (by omega)) HL.out)
    · exact q_move hp (free_of rfl) trivial (sq_in 2 rfl rfl (by simp) rfl (fun v w h => h))
    · exact q_extract2 hp (free_of rfl) trivial (sq_in 3 rfl rfl (by simp) rfl (fun v w h => h)) (fun v1 v2 w h1 h2 => ⟨_, rfl, h1⟩)
    · exact q_extract2 hp (free_of rfl) trivial (sq_in 3 rfl rfl (by simp) rfl (fun v w h => h)) (fun v1 v2 w h1 h2 => ⟨_, rfl, h2⟩)
    · exact q_allocRat hp (List.mem_iff_getElem?.2 ⟨0, rfl⟩) rfl rfl rfl rfl (Nat.ne_of_beq_eq_false rfl) (fun _ _ => trivial) (old_ne rfl) (newk_ne rfl) (fun w => Pair.zero w)
    · exact q_storeNewRat hp (List.mem_iff_getElem?.2 ⟨0, rfl⟩) rfl rfl rfl (own_ptr rfl rfl (by simp) rfl) (sq_in 4 rfl rfl (by simp) rfl (fun v w h => ratV_pair h)) (fun _ _ => trivial) (old_ne rfl) (newi_ne rfl)
    · exact q_assign hp (free_of rfl) trivial (sq_in 5 rfl rfl (by simp) rfl (fun v w h => h))
    intro L vs w50 nb hL hC hn E50
    have e5 : vs 5 = .int .i64 1 := hC 5 (by simp)
    have e8 : vs 8 = .int .i64 1 := hC 8 (by simp)
    have e6 : vs 6 = .pointer (some ⟨nb 6, 0, none⟩) := hn _ (List.mem_iff_getElem?.2 ⟨0, rfl⟩)
    have E : Fr w [(nb 6, 4, Fq.pair 0 0), (b5_4, 4, Fq.pair a.num (a.den : Int)), (b5_5, 4, Fq.pair b.num (b.den : Int)), (b2, 4, Fq.raw2 n2 a2 k2 c2 xs2 m2 r2 l2 q2 ys2), (b1, 4, Fq.raw2 n1 a1 k1 c1 xs1 m1 r1 l1 q1 ys1)] w50 := E50
    rw [lay_all hL]
    simp only [putAll, dstOf, List.length_cons, List.length_nil, Nat.zero_add, Nat.reduceAdd, List.getElem?_toArray, List.getElem?_cons_zero, List.getElem?_cons_succ, Option.bind_some, Act.put, List.setIfInBounds_toArray, List.set_cons_succ, List.set_cons_zero]
    rw [e5, e8, e6]
    generalize nb 6 = b50_6 at E ⊢
    generalize vs 0 = u50_0
    generalize vs 1 = u50_1
    generalize vs 2 = u50_2
    generalize vs 3 = u50_3
    generalize vs 4 = u50_4
    clear e5 e8 e6 hC hn E50 hL vs L nb
    go_upto_region 6 with (fail)
    refine region_fr (C := [Fq.pair a.num (a.den : Int), Fq.pair b.num (b.den : Int), Fq.tup2 (Fq.pair 0 0) (Fq.is (.int .i64 1)), Fq.tup2 (Fq.pair 0 0) (Fq.is (.int .i64 1)), Fq.pair 0 0, Fq.is (.int .i64 1), Fq.any, Fq.any, Fq.is (.int .i64 1)]) (ks := [none, none, none, none, none]) (new := [⟨6, 7, 4, Fq.pair 0 0, Fq.pair 0 0, none⟩]) E rfl (by kernel_rfl) rfl rfl (fun hp => ⟨?_, ?_, ?_, ?_, ?_, ?_, ?_, ?_, ?_, trivial⟩) ?_
    · exact q_loadRat hp (free_of rfl) trivial (List.mem_iff_getElem?.2 ⟨1, rfl⟩) (.inl rfl) rfl (sq_out rfl rfl (fun _ _ => rfl)) (fun us w hl h => h)
    · exact q_loadRat hp (free_of rfl) trivial (List.mem_iff_getElem?.2 ⟨2, rfl⟩) (.inl rfl) rfl (sq_out rfl rfl (fun _ _ => rfl)) (fun us w hl h => h)
    · exact q_call2 (F := (Fq.pair a.num (a.den : Int)).P) (G := (Fq.pair b.num (b.den : Int)).P) hp (free_of rfl) trivial (enq_S_Between) (sq_in 0 rfl rfl (by simp) rfl (fun v w h => h)) (sq_in 1 rfl rfl (by simp) rfl (fun v w h => h)) (fun v v' w h h' => exSBetA h h' (rb_le Ba.out (by omega)) (rb_le Bb.out (by omega)) HL.out)
    · exact q_move hp (free_of rfl) trivial (sq_in 2 rfl rfl (by simp) rfl (fun v w h => h))
    · exact q_extract2 hp (free_of rfl) trivial (sq_in 3 rfl rfl (by simp) rfl (fun v w h => h)) (fun v1 v2 w h1 h2 => ⟨_, rfl, h1⟩)
    · exact q_extract2 hp (free_of rfl) trivial (sq_in 3 rfl rfl (by simp) rfl (fun v w h => h)) (fun v1 v2 w h1 h2 => ⟨_, rfl, h2⟩)
    · exact q_allocRat hp (List.mem_iff_getElem?.2 ⟨0, rfl⟩) rfl rfl rfl rfl (Nat.ne_of_beq_eq_false rfl) (fun _ _ => trivial) (old_ne rfl) (newk_ne rfl) (fun w => Pair.zero w)
    · exact q_storeNewRat hp (List.mem_iff_getElem?.2 ⟨0, rfl⟩) rfl rfl rfl (own_ptr rfl rfl (by simp) rfl) (sq_in 4 rfl rfl (by simp) rfl (fun v w h => ratV_pair h)) (fun _ _ => trivial) (old_ne rfl) (newi_ne rfl)
    · exact q_assign hp (free_of rfl) trivial (sq_in 5 rfl rfl (by simp) rfl (fun v w h => h))
    intro L vs w51 nb hL hC hn E51
    have e5 : vs 5 = .int .i64 1 := hC 5 (by simp)
    have e8 : vs 8 = .int .i64 1 := hC 8 (by simp)
    have e6 : vs 6 = .pointer (some ⟨nb 6, 0, none⟩) := hn _ (List.mem_iff_getElem?.2 ⟨0, rfl⟩)
    have E : Fr w [(nb 6, 4, Fq.pair 0 0), (b50_6, 4, Fq.pair 0 0), (b5_4, 4, Fq.pair a.num (a.den : Int)), (b5_5, 4, Fq.pair b.num (b.den : Int)), (b2, 4, Fq.raw2 n2 a2 k2 c2 xs2 m2 r2 l2 q2 ys2), (b1, 4, Fq.raw2 n1 a1 k1 c1 xs1 m1 r1 l1 q1 ys1)] w51 := E51
    rw [lay_all hL]
    simp only [putAll, dstOf, List.length_cons, List.length_nil, Nat.zero_add, Nat.reduceAdd, List.getElem?_toArray, List.getElem?_cons_zero, List.getElem?_cons_succ, Option.bind_some, Act.put, List.setIfInBounds_toArray, List.set_cons_succ, List.set_cons_zero]
    rw [e5, e8, e6]
    generalize nb 6 = b51_6 at E ⊢
    generalize vs 0 = u51_0
    generalize vs 1 = u51_1
    generalize vs 2 = u51_2
    generalize vs 3 = u51_3
    generalize vs 4 = u51_4
    clear e5 e8 e6 hC hn E51 hL vs L nb
    go_upto_region 7 with (fail)
    refine region_fr (C := [Fq.is (.int .i64 1), Fq.is (.int .i64 1), Fq.is (.bool false), Fq.is (.bool false), Fq.pair 0 0, Fq.pair 0 0, Fq.is (.bool true), Fq.is (.bool false), Fq.is (.bool false)]) (ks := [none, none, none, none, none, none]) (new := []) E rfl (by kernel_rfl) rfl rfl (fun hp => ⟨?_, ?_, ?_, ?_, ?_, ?_, ?_, ?_, ?_, trivial⟩) ?_
    · exact q_move hp (free_of rfl) trivial (sq_out rfl rfl (fun _ _ => rfl))
    · exact q_move hp (free_of rfl) trivial (sq_out rfl rfl (fun _ _ => rfl))
    · exact q_two (F := fun v _ => v = .int .i64 1) (G := fun v _ => v = .int .i64 1) hp (free_of rfl) trivial (sq_in 0 rfl rfl (by simp) rfl (fun v w h => h)) (sq_in 1 rfl rfl (by simp) rfl (fun v w h => h)) (fun ρ w hc h h' => ⟨.bool false, by simp [execOp, go_sem, h, h'], rfl⟩)
    · exact q_move hp (free_of rfl) trivial (sq_in 2 rfl rfl (by simp) rfl (fun v w h => h))
    · exact q_loadRat hp (free_of rfl) (gq_some rfl rfl (by simp) rfl (fun v w h => h)) (List.mem_iff_getElem?.2 ⟨1, rfl⟩) (.inl rfl) rfl (sq_out rfl rfl (fun _ _ => rfl)) (fun us w hl h => h)
    · exact q_loadRat hp (free_of rfl) (gq_some rfl rfl (by simp) rfl (fun v w h => h)) (List.mem_iff_getElem?.2 ⟨0, rfl⟩) (.inl rfl) rfl (sq_out rfl rfl (fun _ _ => rfl)) (fun us w hl h => h)
    · exact q_call2 (F := (Fq.pair 0 0).P) (G := (Fq.pair 0 0).P) hp (free_of rfl) (gq_some rfl rfl (by simp) rfl (fun v w h => h)) (enq_S_Same) (sq_in 4 rfl rfl (by simp) rfl (fun v w h => h)) (sq_in 5 rfl rfl (by simp) rfl (fun v w h => h)) (fun v v' w h h' => exSSameT h h' rfl rfl)
    · exact q_one (F := fun v _ => v = .bool true) hp (free_of rfl) (gq_some rfl rfl (by simp) rfl (fun v w h => h)) (sq_in 6 rfl rfl (by simp) rfl (fun v w h => h)) (fun ρ w _ h => ⟨.bool false, by simp [execOp, go_sem, h], rfl⟩)
    · exact q_two (F := fun v _ => v = .bool false) (G := fun v _ => v = .bool false) hp (free_of rfl) trivial (sq_in 3 rfl rfl (by simp) rfl (fun v w h => h)) (sq_in 7 rfl rfl (by simp) rfl (fun v w h => h)) (fun ρ w hc h h' => ⟨_, by simp [execOp, go_sem, h, h'], rfl⟩)
    intro L vs w52 nb hL hC hn E52
    have e0 : vs 0 = .int .i64 1 := hC 0 (by simp)
    have e1 : vs 1 = .int .i64 1 := hC 1 (by simp)
    have e2 : vs 2 = .bool false := hC 2 (by simp)
    have e3 : vs 3 = .bool false := hC 3 (by simp)
    have e6 : vs 6 = .bool true := hC 6 (by simp)
    have e7 : vs 7 = .bool false := hC 7 (by simp)
    have e8 : vs 8 = .bool false := hC 8 (by simp)
    have E : Fr w [(b51_6, 4, Fq.pair 0 0), (b50_6, 4, Fq.pair 0 0), (b5_4, 4, Fq.pair a.num (a.den : Int)), (b5_5, 4, Fq.pair b.num (b.den : Int)), (b2, 4, Fq.raw2 n2 a2 k2 c2 xs2 m2 r2 l2 q2 ys2), (b1, 4, Fq.raw2 n1 a1 k1 c1 xs1 m1 r1 l1 q1 ys1)] w52 := E52
    rw [lay_all hL]
    simp only [putAll, dstOf, List.length_cons, List.length_nil, Nat.zero_add, Nat.reduceAdd, List.getElem?_toArray, List.getElem?_cons_zero, List.getElem?_cons_succ, Option.bind_some, Act.put, List.setIfInBounds_toArray, List.set_cons_succ, List.set_cons_zero]
    rw [e0, e1, e2, e3, e6, e7, e8]
    generalize vs 4 = u52_4
    generalize vs 5 = u52_5
    clear e0 e1 e2 e3 e6 e7 e8 hC hn E52 hL vs L nb
    go_upto_region 9 with (fail)
    refine region_fr (C := [Fq.is (.int .i64 1), Fq.is (.bool true)]) (ks := [none, none, none, none, none, none]) (new := []) E rfl (by kernel_rfl) rfl rfl (fun hp => ⟨?_, ?_, trivial⟩) ?_
    · exact q_move hp (free_of rfl) trivial (sq_out rfl rfl (fun _ _ => rfl))
    · exact q_one (F := fun v _ => v = .int .i64 1) hp (free_of rfl) trivial (sq_in 0 rfl rfl (by simp) rfl (fun v w h => h)) (fun ρ w hc h => ⟨.bool true, by simp [execOp, go_sem, h, hc], rfl⟩)
    intro L vs w53 nb hL hC hn E53
    have e0 : vs 0 = .int .i64 1 := hC 0 (by simp)
    have e1 : vs 1 = .bool true := hC 1 (by simp)
    have E : Fr w [(b51_6, 4, Fq.pair 0 0), (b50_6, 4, Fq.pair 0 0), (b5_4, 4, Fq.pair a.num (a.den : Int)), (b5_5, 4, Fq.pair b.num (b.den : Int)), (b2, 4, Fq.raw2 n2 a2 k2 c2 xs2 m2 r2 l2 q2 ys2), (b1, 4, Fq.raw2 n1 a1 k1 c1 xs1 m1 r1 l1 q1 ys1)] w53 := E53
    rw [lay_all hL]
    simp only [putAll, dstOf, List.length_cons, List.length_nil, Nat.zero_add, Nat.reduceAdd, List.getElem?_toArray, List.getElem?_cons_zero, List.getElem?_cons_succ, Option.bind_some, Act.put, List.setIfInBounds_toArray, List.set_cons_succ, List.set_cons_zero]
    rw [e0, e1]
    clear e0 e1 hC hn E53 hL vs L nb
    go_upto_region 10 with (fail)
    refine region_fr (C := [Fq.is (.int .i64 1), Fq.is (.bool true), Fq.is (.bool true), Fq.pair a.num (a.den : Int), Fq.pair b.num (b.den : Int), Fq.is (.int .i64 (cmpQ a b)), Fq.is (.bool true), Fq.is (.bool true), Fq.is (.bool true), Fq.is (.bool true), Fq.is (.bool true), Fq.is (.bool true)]) (ks := [none, none, none, none, none, none]) (new := []) E rfl (by kernel_rfl) rfl rfl (fun hp => ⟨?_, ?_, ?_, ?_, ?_, ?_, ?_, ?_, ?_, ?_, ?_, ?_, trivial⟩) ?_
    · exact q_move hp (free_of rfl) trivial (sq_out rfl rfl (fun _ _ => rfl))
    · exact q_one (F := fun v _ => v = .int .i64 1) hp (free_of rfl) trivial (sq_in 0 rfl rfl (by simp) rfl (fun v w h => h)) (fun ρ w hc h => ⟨.bool true, by simp [execOp, go_sem, h, hc], rfl⟩)
    · exact q_move hp (free_of rfl) trivial (sq_in 1 rfl rfl (by simp) rfl (fun v w h => h))
    · exact q_loadRat hp (free_of rfl) (gq_some rfl rfl (by simp) rfl (fun v w h => h)) (List.mem_iff_getElem?.2 ⟨2, rfl⟩) (.inl rfl) rfl (sq_out rfl rfl (fun _ _ => rfl)) (fun us w hl h => h)
    · exact q_loadRat hp (free_of rfl) (gq_some rfl rfl (by simp) rfl (fun v w h => h)) (List.mem_iff_getElem?.2 ⟨3, rfl⟩) (.inl rfl) rfl (sq_out rfl rfl (fun _ _ => rfl)) (fun us w hl h => h)
    · exact q_call2 (F := (Fq.pair a.num (a.den : Int)).P) (G := (Fq.pair b.num (b.den : Int)).P) hp (free_of rfl) (gq_some rfl rfl (by simp) rfl (fun v w h => h)) (enq_Q_Cmp) (sq_in 3 rfl rfl (by simp) rfl (fun v w h => h)) (sq_in 4 rfl rfl (by simp) rfl (fun v w h => h)) (fun v v' w h h' => exCmpQ h h' (rb_le Ba.out (by omega)) (rb_le Bb.out (by omega)))
    · exact q_one (F := fun v _ => v = .int .i64 (cmpQ a b)) hp (free_of rfl) (gq_some rfl rfl (by simp) rfl (fun v w h => h)) (sq_in 5 rfl rfl (by simp) rfl (fun v w h => h)) (fun ρ w hc h => ⟨.bool true, by simp [execOp, go_sem, h, hc, T1.out], rfl⟩)
    · exact q_two (F := fun v _ => v = .bool true) (G := fun v _ => v = .bool true) hp (free_of rfl) trivial (sq_in 2 rfl rfl (by simp) rfl (fun v w h => h)) (sq_in 6 rfl rfl (by simp) rfl (fun v w h => h)) (fun ρ w hc h h' => ⟨_, by simp [execOp, go_sem, h, h'], rfl⟩)
    · exact q_move hp (free_of rfl) trivial (sq_in 7 rfl rfl (by simp) rfl (fun v w h => h))
    · exact q_move hp (free_of rfl) (gq_some rfl rfl (by simp) rfl (fun v w h => h)) (sq_out rfl rfl (fun _ _ => rfl))
    · exact q_two (F := fun v _ => v = .bool true) (G := fun v _ => v = .bool true) hp (free_of rfl) trivial (sq_in 8 rfl rfl (by simp) rfl (fun v w h => h)) (sq_in 9 rfl rfl (by simp) rfl (fun v w h => h)) (fun ρ w hc h h' => ⟨_, by simp [execOp, go_sem, h, h'], rfl⟩)
    · exact q_assign hp (free_of rfl) trivial (sq_in 10 rfl rfl (by simp) rfl (fun v w h => h))
    intro L vs w54 nb hL hC hn E54
    have e0 : vs 0 = .int .i64 1 := hC 0 (by simp)
    have e1 : vs 1 = .bool true := hC 1 (by simp)
    have e2 : vs 2 = .bool true := hC 2 (by simp)
    have e5 : vs 5 = .int .i64 (cmpQ a b) := hC 5 (by simp)
    have e6 : vs 6 = .bool true := hC 6 (by simp)
    have e7 : vs 7 = .bool true := hC 7 (by simp)
    have e8 : vs 8 = .bool true := hC 8 (by simp)
    have e9 : vs 9 = .bool true := hC 9 (by simp)
    have e10 : vs 10 = .bool true := hC 10 (by simp)
    have e11 : vs 11 = .bool true := hC 11 (by simp)
    have E : Fr w [(b51_6, 4, Fq.pair 0 0), (b50_6, 4, Fq.pair 0 0), (b5_4, 4, Fq.pair a.num (a.den : Int)), (b5_5, 4, Fq.pair b.num (b.den : Int)), (b2, 4, Fq.raw2 n2 a2 k2 c2 xs2 m2 r2 l2 q2 ys2), (b1, 4, Fq.raw2 n1 a1 k1 c1 xs1 m1 r1 l1 q1 ys1)] w54 := E54
    rw [lay_all hL]
    simp only [putAll, dstOf, List.length_cons, List.length_nil, Nat.zero_add, Nat.reduceAdd, List.getElem?_toArray, List.getElem?_cons_zero, List.getElem?_cons_succ, Option.bind_some, Act.put, List.setIfInBounds_toArray, List.set_cons_succ, List.set_cons_zero]
    rw [e0, e1, e2, e5, e6, e7, e8, e9, e10, e11]
    generalize vs 3 = u54_3
    generalize vs 4 = u54_4
    clear e0 e1 e2 e5 e6 e7 e8 e9 e10 e11 hC hn E54 hL vs L nb
    clear T1 HL
    clear Ba Bb
    go_wp2
    refine bodyPost_ret (v := .bool true) ?_ rfl ⟨rfl, E.below⟩
    simp [results, Tryz.results6, go_sem]

end Go.Proofs.YtoimphnhmpmipaaGreat
