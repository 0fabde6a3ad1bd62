/- Pv, Px, Py. -/
import Derived.Test.YthgpcgijhmgenaaDoorBp4
/- Walk: the examples of layer 4's law. -/
namespace Go.Proofs.YthgpcgijhmgenaaDoor
open Go Go.RowKit

theorem enq_f_algorist_algoristlaw04_same (args : Array Value) (w : World) : (callFunc 29 args).run Tryd.prog w = .ok (.enter 29 args) w := enter_of Tryd.func29 (by kernel_rfl) rfl args w
theorem enq_f_algorist_algoristlaw04_examples (args : Array Value) (w : World) : (callFunc 9 args).run Tryd.prog w = .ok (.enter 9 args) w := enter_of Tryd.func9 (by kernel_rfl) rfl args w
section
variable {os : List Oper} {Q : Exit → Act → World → Prop} {a : Act} {p : Pq} {B B0 : Nat} {w0 : World}
variable {i s : Nat} {d : Option Tmp} {ty : TypeId} {ps : String} {af : Array Edge} {gd : Option (Nat × Bool)}
theorem q_buildConst4 {n0 : Nb} {z1 z2 z3 z4 : Int} (hp : p.Ok B B0) (hg : GdQ os a p B B0 w0 af gd) (hi : n0 ∈ p.new) (hii : n0.i = i) (hki : n0.k = i) (hsl : n0.s = some 4) (hm : n0.m = 4) (hF1 : n0.F1 = Fq.is (.agg #[.int .i64 z1, .int .i64 z2, .int .i64 z3, .int .i64 z4]))
    (hC : ∀ v w', (p.c i).P v w') (h1 : ∀ o ∈ p.old, o.k ≠ i) (h2 : ∀ n ∈ p.new, n.i ≠ i → n.k ≠ i) :
    StepQ os Q a p B B0 w0 i { dst := d, op := .buildSlice 36 4 #[(0, .const (.int .i64 z1)), (1, .const (.int .i64 z2)), (2, .const (.int .i64 z3)), (3, .const (.int .i64 z4))], type := ty, pos := ps, after := af, guard := gd } := by
  intro hio L vs w hG hL hd hc
  obtain ⟨us, hus⟩ : ∃ us : List Value, us = [.int .i64 z1, .int .i64 z2, .int .i64 z3, .int .i64 z4] := ⟨_, rfl⟩
  refine wpOp_step hio fun K' hK => ?_
  rw [if_pos (wanted_of (o := { dst := d, op := .buildSlice 36 4 #[(0, .const (.int .i64 z1)), (1, .const (.int .i64 z2)), (2, .const (.int .i64 z3)), (3, .const (.int .i64 z4))], type := ty, pos := ps, after := af, guard := gd }) hg hG hd)]
  have e : (execOp (lay os.toArray L vs os.toArray.size a).eval ({ dst := d, op := .buildSlice 36 4 #[(0, .const (.int .i64 z1)), (1, .const (.int .i64 z2)), (2, .const (.int .i64 z3)), (3, .const (.int .i64 z4))], type := ty, pos := ps, after := af, guard := gd } : Oper)).run Tryd.prog w = .ok (.value (.slice (some ⟨w.heap.size, 0, none⟩) 4 4)) (w.alloc (.cells us.toArray 3)) := by
    simp [execOp, go_sem, hus]
  unfold Oper.wp
  rw [e]
  subst hii
  have hnow : n0.now (up L n0.i true) = n0.F1 := by
    unfold Nb.now
    rw [hsl]
    rfl
  have hlay := hG.lay hp hi (F := n0.F1) hnow hC h1 h2 3 (us := us) (by rw [hus, hm]; rfl) (by omega) (by
      rw [hus]
      intro u hu q e
      simp at hu
      rcases hu with rfl | rfl | rfl | rfl <;> cases e) (by
      rw [hF1, hus]
      rfl)
  have hptr : n0.ptr w.heap.size = .slice (some ⟨w.heap.size, 0, none⟩) 4 4 := by unfold Nb.ptr; rw [hsl]
  rw [hptr] at hlay
  exact hK _ _ ⟨_, rfl, hlay⟩
end
theorem below_ten : below 11 = [2, 3, 5, 7] := by decide
set_option maxRecDepth 20000 in
set_option maxHeartbeats 2000000 in
/-- Two lists of four numbers that are equal. -/
theorem same4_any (w : World) (g b cap : Nat) (zs : List Int) (h1 : ∀ i, i < 4 → w.cell? ⟨g, i, none⟩ = some (.int .i64 (zs.getD i 0))) (h2 : ∀ i, i < 4 → w.cell? ⟨b, i, none⟩ = some (.int .i64 (zs.getD i 0))) :
    Calls Tryd.prog 29 #[.slice (some ⟨g, 0, none⟩) 4 cap, .slice (some ⟨b, 0, none⟩) 4 4] w fun e w' => e = .returned (.bool true) ∧ Below w.heap.size w w' := by
  have H := hidd (And.intro h1 h2)
  clear h1 h2
  go_enter Tryd.func29, Tryd.ntmps29
  go_wp2
  go_loopw [5] (fun vi wr => ∃ i : Nat, vi = .int .i64 (i : Int) ∧ i ≤ 4 ∧ Drawn w wr) (fun vi _ => 4 - (intOf vi).toNat)
  case atStart => exact ⟨0, rfl, by omega, Drawn.refl w⟩
  case round =>
    obtain ⟨i, rfl, hi, hd⟩ := hrel
    by_cases hi4 : i < 4
    · have hii : (i : Int) < 4 := by omega
      have c1 := (hd.cell _).trans (H.out.1 i hi4)
      have c2 := (hd.cell _).trans (H.out.2 i hi4)
      have hw : IntKind.i64.wrap ((i : Int) + 1) = (i : Int) + 1 := IntWalk.i64_in _ (by omega)
      obtain ⟨z, hz⟩ : ∃ z, z = zs.getD i 0 := ⟨_, rfl⟩
      rw [← hz] at c1 c2
      clear hz
      go_wp2
      go_quiet (fail)
      go_wp2
      go_roundw
      case rel => exact ⟨i + 1, by first | go_num | (rw [hw]; go_num), by omega, hd.drewN _⟩
      case measure => first | (rw [hw]; simp [intOf]; omega) | (simp [intOf]; omega)
    · have hii : ¬ (i : Int) < 4 := by omega
      go_wp2
      go_ret
      exact ⟨rfl, hd.below _⟩
theorem exLSame {w0 w : World} {B : Nat} {v : Value} {b : Nat} (h : Ni w0 B v [2, 3, 5, 7]) (hb : Below w0.heap.size w0 w) (hx : Bq w b 4 (Fq.is (.agg #[.int .i64 2, .int .i64 3, .int .i64 5, .int .i64 7]))) :
    Calls Tryd.prog 29 #[v, .slice (some ⟨b, 0, none⟩) 4 4] w fun e w' => ∃ v', e = .returned v' ∧ Below w.heap.size w w' ∧ v' = .bool true := by
  have h := h.below hb
  obtain ⟨ao, cap, rfl⟩ := h.shape
  obtain ⟨g, rfl, _⟩ := h.cell (i := 0) (by decide)
  obtain ⟨us, hl, _, hat, _, hP⟩ := hx
  have hus : us = [.int .i64 2, .int .i64 3, .int .i64 5, .int .i64 7] := by
    injection hP with e
    have e2 := congrArg Array.toList e
    simpa using e2
  subst hus
  refine (same4_any w g b cap [2, 3, 5, 7] (fun i hi => ?_) (fun i hi => ?_)).mono fun e w' hh => ⟨_, hh.1, hh.2, rfl⟩
  · obtain ⟨g2, e, hc⟩ := h.cell (i := i) hi
    injection e with e
    injection e with e1 _ _
    subst e1
    rw [hc]
    rcases (by omega : i = 0 ∨ i = 1 ∨ i = 2 ∨ i = 3) with rfl | rfl | rfl | rfl <;> rfl
  · rw [(hat i hi).1]
    rcases (by omega : i = 0 ∨ i = 1 ∨ i = 2 ∨ i = 3) with rfl | rfl | rfl | rfl <;> rfl
theorem ab_lt900 {z : Int} (h : -9223372036854775808 ≤ z ∧ z ≤ 9223372036854775807) : ab z < pw 900 := by
  have h3 : pw 2 ≤ pw 900 := pw_le (by omega)
  have h4 : pw 2 = 18446744073709551616 := by decide
  unfold ab
  omega
theorem exE1 {w : World} {v : Value} (h : Num w v (2047)) (hT : TabsP w) : Calls Tryd.prog 13 #[v, .int .i64 2] w fun e w' => ∃ v', e = .returned v' ∧ Below w.heap.size w w' ∧ (Fq.tup2 (Fq.is (.bool true)) (Fq.is (.int .i64 0))).P v' w' := by
  refine (exPStrongN (b := 2) (N := 2047) h hT (ab_lt900 (by omega)) (by decide) (by decide) (by omega) rfl (by omega)).mono ?_
  rintro e w' ⟨_, h1, h2, rfl⟩
  exact ⟨_, h1, h2, _, _, rfl, congrArg Value.bool ex_2047.1, rfl⟩
theorem exE2 {w : World} {v : Value} (h : Num w v (2047)) (hT : TabsP w) : Calls Tryd.prog 13 #[v, .int .i64 3] w fun e w' => ∃ v', e = .returned v' ∧ Below w.heap.size w w' ∧ (Fq.tup2 (Fq.is (.bool false)) (Fq.is (.int .i64 0))).P v' w' := by
  refine (exPStrongN (b := 3) (N := 2047) h hT (ab_lt900 (by omega)) (by decide) (by decide) (by omega) rfl (by omega)).mono ?_
  rintro e w' ⟨_, h1, h2, rfl⟩
  exact ⟨_, h1, h2, _, _, rfl, congrArg Value.bool ex_2047.2, rfl⟩
theorem wit_2047 : witB 2047 199 2 = 3 := by decide +kernel
theorem wit_11 : witB 11 199 2 = 0 := by decide +kernel
theorem pr_7 : primeB (7 + 4) = true ∧ primeB (7 + 1) = false ∧ primeB (7 + 2) = false ∧ primeB (7 + 3) = false := by decide +kernel
theorem exE3 {w : World} {v : Value} (h : Num w v (2047)) (hT : TabsP w) : Calls Tryd.prog 15 #[v] w fun e w' => ∃ v', e = .returned v' ∧ Below w.heap.size w w' ∧ (Fq.tup2 (Fq.is (.int .i64 3)) (Fq.is (.int .i64 0))).P v' w' := by
  refine (exPWitN (N := 2047) h hT (ab_lt900 (by omega)) (by decide) (by decide) rfl (by omega) (by rw [wit_2047]; decide)).mono ?_
  rintro e w' ⟨_, h1, h2, rfl⟩
  exact ⟨_, h1, h2, _, _, rfl, by rw [wit_2047]; rfl, rfl⟩
theorem exE4 {w : World} {v : Value} (h : Num w v (2305843009213693951)) (hT : TabsP w) : Calls Tryd.prog 11 #[v] w fun e w' => ∃ v', e = .returned v' ∧ Below w.heap.size w w' ∧ (Fq.tup2 (Fq.is (.bool true)) (Fq.is (.int .i64 0))).P v' w' := by
  refine (exPIsN (N := 2305843009213693951) h hT (ab_lt900 (by omega)) (by decide) rfl (by omega)).mono ?_
  rintro e w' ⟨_, h1, h2, rfl⟩
  exact ⟨_, h1, h2, _, _, rfl, congrArg Value.bool ex_61.1, rfl⟩
theorem exE5 {w : World} {v : Value} (h : Num w v (2305843009213693953)) (hT : TabsP w) : Calls Tryd.prog 11 #[v] w fun e w' => ∃ v', e = .returned v' ∧ Below w.heap.size w w' ∧ (Fq.tup2 (Fq.is (.bool false)) (Fq.is (.int .i64 0))).P v' w' := by
  refine (exPIsN (N := 2305843009213693953) h hT (ab_lt900 (by omega)) (by decide) rfl (by omega)).mono ?_
  rintro e w' ⟨_, h1, h2, rfl⟩
  exact ⟨_, h1, h2, _, _, rfl, congrArg Value.bool ex_61.2, rfl⟩
theorem exE6 {w : World} {v : Value} (h : Num w v (7)) (hT : TabsP w) : Calls Tryd.prog 21 #[v] w fun e w' => ∃ v', e = .returned v' ∧ Below w.heap.size w w' ∧ (Fq.tup2 (Fq.num 11) (Fq.is (.int .i64 0))).P v' w' := by
  exact exPNextN (N := 7) (g := 4) h hT (ab_lt900 (by omega)) (by decide) (by decide) rfl (by omega) (by omega) pr_7.1 (fun j h1 h2 => by rcases (by omega : j = 1 ∨ j = 2 ∨ j = 3) with rfl | rfl | rfl; exact pr_7.2.1; exact pr_7.2.2.1; exact pr_7.2.2.2)
theorem exE7 {w : World} {v : Value} (h : Num w v (-5)) (_hT : TabsP w) : Calls Tryd.prog 21 #[v] w fun e w' => ∃ v', e = .returned v' ∧ Below w.heap.size w w' ∧ (Fq.tup2 (Fq.num 2) (Fq.is (.int .i64 0))).P v' w' := by
  exact exPNextZ h (ab_lt900 (by omega)) (by omega)
theorem exE8 {w : World} {v : Value} (h : Num w v (11)) (hT : TabsP w) : Calls Tryd.prog 15 #[v] w fun e w' => ∃ v', e = .returned v' ∧ Below w.heap.size w w' ∧ (Fq.tup2 (Fq.is (.int .i64 0)) (Fq.is (.int .i64 6))).P v' w' := by
  refine (exPWit0 (N := 11) h hT (ab_lt900 (by omega)) (by decide) (by decide) rfl (by omega) wit_11).mono ?_
  rintro e w' ⟨_, h1, h2, rfl⟩
  exact ⟨_, h1, h2, _, _, rfl, rfl, rfl⟩
theorem exE9 {w : World} {v : Value} (h : Num w v (4)) (_hT : TabsP w) : Calls Tryd.prog 13 #[v, .int .i64 3] w fun e w' => ∃ v', e = .returned v' ∧ Below w.heap.size w w' ∧ (Fq.tup2 (Fq.is (.bool false)) (Fq.is (.int .i64 1))).P v' w' := by
  refine (exPStrongE h (ab_lt900 (by omega)) (by decide)).mono ?_
  rintro e w' ⟨_, h1, h2, rfl⟩
  exact ⟨_, h1, h2, _, _, rfl, rfl, rfl⟩
set_option maxRecDepth 100000 in
set_option maxHeartbeats 4000000 in
theorem exPExamples {w : World} (hT : TabsP w) :
    Calls Tryd.prog 9 #[] w fun e w' => ∃ v', e = .returned v' ∧ Below w.heap.size w w' ∧ v' = .bool true := by
  replace hT := hidd hT
  go_enter Tryd.func9, Tryd.ntmps9
  go_upto_region 2 with (go_at_call 17; refine (exSmall 10 (by omega) (by omega) _).mono ?_; rintro e w1 ⟨v, rfl, hN, hb1⟩)
  have HB1 := hidd hb1
  have HT : Hid (TabsP w1) := hT.out.mono hb1
  have HN : Hid (Ni w1 w.heap.size v [2, 3, 5, 7]) := by rw [← below_ten]; exact hN
  clear hN hb1 hT
  have E := Fr.start w1
  have B1 : Hid (ab ((2047)) < pw 3) := ab_lit (by decide)
  refine region_fr (C := [Fq.num (2047), Fq.tup2 (Fq.is (.bool true)) (Fq.is (.int .i64 0)), Fq.tup2 (Fq.is (.bool true)) (Fq.is (.int .i64 0)), Fq.is (.bool true), Fq.is (.int .i64 0), Fq.is (.bool true), Fq.is (.int .i64 0)]) (ks := []) (new := []) E rfl (by kernel_rfl) rfl rfl (fun hp => ⟨?_, ?_, ?_, ?_, ?_, ?_, ?_, trivial⟩) ?_
  · exact q_call1 (F := (Fq.is (.int .i64 2047)).P) hp (free_of rfl) trivial (enq_R_Of) (sq_const (fun _ => rfl)) (fun v w h => (by subst h; exact rOfK w (2047) (by omega) (by omega)))
  · exact q_call2W (F := (Fq.num (2047)).P) (G := (Fq.is (.int .i64 2)).P) hp (free_of rfl) trivial (enq_f_algorist_prime_Strong) rfl (sq_in 0 rfl rfl (by simp) rfl (fun v w h => h)) (sq_const (fun _ => rfl)) (fun v v' w hbw h h' => (by subst h'; exact exE1 h (HT.out.mono hbw)))
  · exact q_move hp (free_of rfl) trivial (sq_in 1 rfl rfl (by simp) rfl (fun v w h => h))
  · exact q_extract2 hp (free_of rfl) trivial (sq_in 2 rfl rfl (by simp) rfl (fun v w h => h)) (fun v1 v2 w h1 h2 => ⟨_, rfl, h1⟩)
  · exact q_extract2 hp (free_of rfl) trivial (sq_in 2 rfl rfl (by simp) rfl (fun v w h => h)) (fun v1 v2 w h1 h2 => ⟨_, rfl, h2⟩)
  · exact q_assign hp (free_of rfl) trivial (sq_in 3 rfl rfl (by simp) rfl (fun v w h => h))
  · exact q_assign hp (free_of rfl) trivial (sq_in 4 rfl rfl (by simp) rfl (fun v w h => h))
  intro L vs w2 nb hL hC hn E2
  have e3 : vs 3 = .bool true := hC 3 (by simp)
  have e4 : vs 4 = .int .i64 0 := hC 4 (by simp)
  have e5 : vs 5 = .bool true := hC 5 (by simp)
  have e6 : vs 6 = .int .i64 0 := hC 6 (by simp)
  have E : Fr w1 [] w2 := E2
  rw [lay_all hL]
  simp only [putAll, dstOf, List.length_cons, List.length_nil, Nat.zero_add, Nat.reduceAdd, List.getElem?_toArray, List.getElem?_cons_zero, List.getElem?_cons_succ, Option.bind_some, Act.put, List.setIfInBounds_toArray, List.set_cons_succ, List.set_cons_zero]
  rw [e3, e4, e5, e6]
  generalize vs 0 = u2_0
  generalize vs 1 = u2_1
  generalize vs 2 = u2_2
  clear e3 e4 e5 e6 hC hn E2 hL vs L nb
  go_upto_region 3 with (fail)
  refine region_fr (C := [Fq.num (2047), Fq.tup2 (Fq.is (.bool false)) (Fq.is (.int .i64 0)), Fq.tup2 (Fq.is (.bool false)) (Fq.is (.int .i64 0)), Fq.is (.bool false), Fq.is (.int .i64 0), Fq.is (.bool false), Fq.is (.int .i64 0)]) (ks := []) (new := []) E rfl (by kernel_rfl) rfl rfl (fun hp => ⟨?_, ?_, ?_, ?_, ?_, ?_, ?_, trivial⟩) ?_
  · exact q_call1 (F := (Fq.is (.int .i64 2047)).P) hp (free_of rfl) trivial (enq_R_Of) (sq_const (fun _ => rfl)) (fun v w h => (by subst h; exact rOfK w (2047) (by omega) (by omega)))
  · exact q_call2W (F := (Fq.num (2047)).P) (G := (Fq.is (.int .i64 3)).P) hp (free_of rfl) trivial (enq_f_algorist_prime_Strong) rfl (sq_in 0 rfl rfl (by simp) rfl (fun v w h => h)) (sq_const (fun _ => rfl)) (fun v v' w hbw h h' => (by subst h'; exact exE2 h (HT.out.mono hbw)))
  · exact q_move hp (free_of rfl) trivial (sq_in 1 rfl rfl (by simp) rfl (fun v w h => h))
  · exact q_extract2 hp (free_of rfl) trivial (sq_in 2 rfl rfl (by simp) rfl (fun v w h => h)) (fun v1 v2 w h1 h2 => ⟨_, rfl, h1⟩)
  · exact q_extract2 hp (free_of rfl) trivial (sq_in 2 rfl rfl (by simp) rfl (fun v w h => h)) (fun v1 v2 w h1 h2 => ⟨_, rfl, h2⟩)
  · exact q_assign hp (free_of rfl) trivial (sq_in 3 rfl rfl (by simp) rfl (fun v w h => h))
  · exact q_assign hp (free_of rfl) trivial (sq_in 4 rfl rfl (by simp) rfl (fun v w h => h))
  intro L vs w3 nb hL hC hn E3
  have e3 : vs 3 = .bool false := hC 3 (by simp)
  have e4 : vs 4 = .int .i64 0 := hC 4 (by simp)
  have e5 : vs 5 = .bool false := hC 5 (by simp)
  have e6 : vs 6 = .int .i64 0 := hC 6 (by simp)
  have E : Fr w1 [] w3 := E3
  rw [lay_all hL]
  simp only [putAll, dstOf, List.length_cons, List.length_nil, Nat.zero_add, Nat.reduceAdd, List.getElem?_toArray, List.getElem?_cons_zero, List.getElem?_cons_succ, Option.bind_some, Act.put, List.setIfInBounds_toArray, List.set_cons_succ, List.set_cons_zero]
  rw [e3, e4, e5, e6]
  generalize vs 0 = u3_0
  generalize vs 1 = u3_1
  generalize vs 2 = u3_2
  clear e3 e4 e5 e6 hC hn E3 hL vs L nb
  go_upto_region 4 with (fail)
  refine region_fr (C := [Fq.num (2047), Fq.tup2 (Fq.is (.int .i64 3)) (Fq.is (.int .i64 0)), Fq.tup2 (Fq.is (.int .i64 3)) (Fq.is (.int .i64 0)), Fq.is (.int .i64 3), Fq.is (.int .i64 0), Fq.is (.int .i64 3), Fq.is (.int .i64 0)]) (ks := []) (new := []) E rfl (by kernel_rfl) rfl rfl (fun hp => ⟨?_, ?_, ?_, ?_, ?_, ?_, ?_, trivial⟩) ?_
  · exact q_call1 (F := (Fq.is (.int .i64 2047)).P) hp (free_of rfl) trivial (enq_R_Of) (sq_const (fun _ => rfl)) (fun v w h => (by subst h; exact rOfK w (2047) (by omega) (by omega)))
  · exact q_call1W (F := (Fq.num (2047)).P) hp (free_of rfl) trivial (enq_f_algorist_prime_Witness) rfl (sq_in 0 rfl rfl (by simp) rfl (fun v w h => h)) (fun v w hbw h => exE3 h (HT.out.mono hbw))
  · exact q_move hp (free_of rfl) trivial (sq_in 1 rfl rfl (by simp) rfl (fun v w h => h))
  · exact q_extract2 hp (free_of rfl) trivial (sq_in 2 rfl rfl (by simp) rfl (fun v w h => h)) (fun v1 v2 w h1 h2 => ⟨_, rfl, h1⟩)
  · exact q_extract2 hp (free_of rfl) trivial (sq_in 2 rfl rfl (by simp) rfl (fun v w h => h)) (fun v1 v2 w h1 h2 => ⟨_, rfl, h2⟩)
  · exact q_assign hp (free_of rfl) trivial (sq_in 3 rfl rfl (by simp) rfl (fun v w h => h))
  · exact q_assign hp (free_of rfl) trivial (sq_in 4 rfl rfl (by simp) rfl (fun v w h => h))
  intro L vs w4 nb hL hC hn E4
  have e3 : vs 3 = .int .i64 3 := hC 3 (by simp)
  have e4 : vs 4 = .int .i64 0 := hC 4 (by simp)
  have e5 : vs 5 = .int .i64 3 := hC 5 (by simp)
  have e6 : vs 6 = .int .i64 0 := hC 6 (by simp)
  have E : Fr w1 [] w4 := E4
  rw [lay_all hL]
  simp only [putAll, dstOf, List.length_cons, List.length_nil, Nat.zero_add, Nat.reduceAdd, List.getElem?_toArray, List.getElem?_cons_zero, List.getElem?_cons_succ, Option.bind_some, Act.put, List.setIfInBounds_toArray, List.set_cons_succ, List.set_cons_zero]
  rw [e3, e4, e5, e6]
  generalize vs 0 = u4_0
  generalize vs 1 = u4_1
  generalize vs 2 = u4_2
  clear e3 e4 e5 e6 hC hn E4 hL vs L nb
  go_upto_region 5 with (fail)
  have B5 : Hid (ab ((2305843009213693951)) < pw 3) := ab_lit (by decide)
  refine region_fr (C := [Fq.num (2305843009213693951), Fq.tup2 (Fq.is (.bool true)) (Fq.is (.int .i64 0)), Fq.tup2 (Fq.is (.bool true)) (Fq.is (.int .i64 0)), Fq.is (.bool true), Fq.is (.int .i64 0), Fq.is (.bool true), Fq.is (.int .i64 0)]) (ks := []) (new := []) E rfl (by kernel_rfl) rfl rfl (fun hp => ⟨?_, ?_, ?_, ?_, ?_, ?_, ?_, trivial⟩) ?_
  · exact q_call1 (F := (Fq.is (.int .i64 2305843009213693951)).P) hp (free_of rfl) trivial (enq_R_Of) (sq_const (fun _ => rfl)) (fun v w h => (by subst h; exact rOfK w (2305843009213693951) (by omega) (by omega)))
  · exact q_call1W (F := (Fq.num (2305843009213693951)).P) hp (free_of rfl) trivial (enq_f_algorist_prime_Is) rfl (sq_in 0 rfl rfl (by simp) rfl (fun v w h => h)) (fun v w hbw h => exE4 h (HT.out.mono hbw))
  · exact q_move hp (free_of rfl) trivial (sq_in 1 rfl rfl (by simp) rfl (fun v w h => h))
  · exact q_extract2 hp (free_of rfl) trivial (sq_in 2 rfl rfl (by simp) rfl (fun v w h => h)) (fun v1 v2 w h1 h2 => ⟨_, rfl, h1⟩)
  · exact q_extract2 hp (free_of rfl) trivial (sq_in 2 rfl rfl (by simp) rfl (fun v w h => h)) (fun v1 v2 w h1 h2 => ⟨_, rfl, h2⟩)
  · exact q_assign hp (free_of rfl) trivial (sq_in 3 rfl rfl (by simp) rfl (fun v w h => h))
  · exact q_assign hp (free_of rfl) trivial (sq_in 4 rfl rfl (by simp) rfl (fun v w h => h))
  intro L vs w6 nb hL hC hn E6
  have e3 : vs 3 = .bool true := hC 3 (by simp)
  have e4 : vs 4 = .int .i64 0 := hC 4 (by simp)
  have e5 : vs 5 = .bool true := hC 5 (by simp)
  have e6 : vs 6 = .int .i64 0 := hC 6 (by simp)
  have E : Fr w1 [] w6 := E6
  rw [lay_all hL]
  simp only [putAll, dstOf, List.length_cons, List.length_nil, Nat.zero_add, Nat.reduceAdd, List.getElem?_toArray, List.getElem?_cons_zero, List.getElem?_cons_succ, Option.bind_some, Act.put, List.setIfInBounds_toArray, List.set_cons_succ, List.set_cons_zero]
  rw [e3, e4, e5, e6]
  generalize vs 0 = u6_0
  generalize vs 1 = u6_1
  generalize vs 2 = u6_2
  clear e3 e4 e5 e6 hC hn E6 hL vs L nb
  go_upto_region 6 with (fail)
  have B7 : Hid (ab ((2305843009213693953)) < pw 3) := ab_lit (by decide)
  refine region_fr (C := [Fq.num (2305843009213693953), Fq.tup2 (Fq.is (.bool false)) (Fq.is (.int .i64 0)), Fq.tup2 (Fq.is (.bool false)) (Fq.is (.int .i64 0)), Fq.is (.bool false), Fq.is (.int .i64 0), Fq.is (.bool false), Fq.is (.int .i64 0)]) (ks := []) (new := []) E rfl (by kernel_rfl) rfl rfl (fun hp => ⟨?_, ?_, ?_, ?_, ?_, ?_, ?_, trivial⟩) ?_
  · exact q_call1 (F := (Fq.is (.int .i64 2305843009213693953)).P) hp (free_of rfl) trivial (enq_R_Of) (sq_const (fun _ => rfl)) (fun v w h => (by subst h; exact rOfK w (2305843009213693953) (by omega) (by omega)))
  · exact q_call1W (F := (Fq.num (2305843009213693953)).P) hp (free_of rfl) trivial (enq_f_algorist_prime_Is) rfl (sq_in 0 rfl rfl (by simp) rfl (fun v w h => h)) (fun v w hbw h => exE5 h (HT.out.mono hbw))
  · exact q_move hp (free_of rfl) trivial (sq_in 1 rfl rfl (by simp) rfl (fun v w h => h))
  · exact q_extract2 hp (free_of rfl) trivial (sq_in 2 rfl rfl (by simp) rfl (fun v w h => h)) (fun v1 v2 w h1 h2 => ⟨_, rfl, h1⟩)
  · exact q_extract2 hp (free_of rfl) trivial (sq_in 2 rfl rfl (by simp) rfl (fun v w h => h)) (fun v1 v2 w h1 h2 => ⟨_, rfl, h2⟩)
  · exact q_assign hp (free_of rfl) trivial (sq_in 3 rfl rfl (by simp) rfl (fun v w h => h))
  · exact q_assign hp (free_of rfl) trivial (sq_in 4 rfl rfl (by simp) rfl (fun v w h => h))
  intro L vs w8 nb hL hC hn E8
  have e3 : vs 3 = .bool false := hC 3 (by simp)
  have e4 : vs 4 = .int .i64 0 := hC 4 (by simp)
  have e5 : vs 5 = .bool false := hC 5 (by simp)
  have e6 : vs 6 = .int .i64 0 := hC 6 (by simp)
  have E : Fr w1 [] w8 := E8
  rw [lay_all hL]
  simp only [putAll, dstOf, List.length_cons, List.length_nil, Nat.zero_add, Nat.reduceAdd, List.getElem?_toArray, List.getElem?_cons_zero, List.getElem?_cons_succ, Option.bind_some, Act.put, List.setIfInBounds_toArray, List.set_cons_succ, List.set_cons_zero]
  rw [e3, e4, e5, e6]
  generalize vs 0 = u8_0
  generalize vs 1 = u8_1
  generalize vs 2 = u8_2
  clear e3 e4 e5 e6 hC hn E8 hL vs L nb
  go_upto_region 7 with (fail)
  have B9 : Hid (ab ((7)) < pw 3) := ab_lit (by decide)
  have B10 : Hid (ab ((11)) < pw 3) := ab_lit (by decide)
  refine region_fr (C := [Fq.num (7), Fq.tup2 (Fq.num (11)) (Fq.is (.int .i64 0)), Fq.tup2 (Fq.num (11)) (Fq.is (.int .i64 0)), Fq.num (11), Fq.is (.int .i64 0), Fq.any, Fq.any, Fq.is (.int .i64 0)]) (ks := []) (new := [⟨5, 6, 2, Fq.num 0, Fq.num (11), none⟩]) E rfl (by kernel_rfl) rfl rfl (fun hp => ⟨?_, ?_, ?_, ?_, ?_, ?_, ?_, ?_, trivial⟩) ?_
  · exact q_call1 (F := (Fq.is (.int .i64 7)).P) hp (free_of rfl) trivial (enq_R_Of) (sq_const (fun _ => rfl)) (fun v w h => (by subst h; exact rOfK w (7) (by omega) (by omega)))
  · exact q_call1W (F := (Fq.num (7)).P) hp (free_of rfl) trivial (enq_f_algorist_prime_Next) rfl (sq_in 0 rfl rfl (by simp) rfl (fun v w h => h)) (fun v w hbw h => exE6 h (HT.out.mono hbw))
  · exact q_move hp (free_of rfl) trivial (sq_in 1 rfl rfl (by simp) rfl (fun v w h => h))
  · exact q_extract2 hp (free_of rfl) trivial (sq_in 2 rfl rfl (by simp) rfl (fun v w h => h)) (fun v1 v2 w h1 h2 => ⟨_, rfl, h1⟩)
  · exact q_extract2 hp (free_of rfl) trivial (sq_in 2 rfl rfl (by simp) rfl (fun v w h => h)) (fun v1 v2 w h1 h2 => ⟨_, rfl, h2⟩)
  · exact q_allocInt hp (List.mem_iff_getElem?.2 ⟨0, rfl⟩) rfl rfl rfl rfl (Nat.ne_of_beq_eq_false rfl) (fun _ _ => trivial) (old_ne rfl) (newk_ne rfl) (fun w => Num.zero w)
  · exact q_storeNewInt hp (List.mem_iff_getElem?.2 ⟨0, rfl⟩) rfl rfl rfl (own_ptr rfl rfl (by simp) rfl) (sq_in 3 rfl rfl (by simp) rfl (fun v w h => intV_num h)) (fun _ _ => trivial) (old_ne rfl) (newi_ne rfl)
  · exact q_assign hp (free_of rfl) trivial (sq_in 4 rfl rfl (by simp) rfl (fun v w h => h))
  intro L vs w11 nb hL hC hn E11
  have e4 : vs 4 = .int .i64 0 := hC 4 (by simp)
  have e7 : vs 7 = .int .i64 0 := hC 7 (by simp)
  have e5 : vs 5 = .pointer (some ⟨nb 5, 0, none⟩) := hn _ (List.mem_iff_getElem?.2 ⟨0, rfl⟩)
  have E : Fr w1 [(nb 5, 2, Fq.num (11))] w11 := E11
  rw [lay_all hL]
  simp only [putAll, dstOf, List.length_cons, List.length_nil, Nat.zero_add, Nat.reduceAdd, List.getElem?_toArray, List.getElem?_cons_zero, List.getElem?_cons_succ, Option.bind_some, Act.put, List.setIfInBounds_toArray, List.set_cons_succ, List.set_cons_zero]
  rw [e4, e7, e5]
  generalize nb 5 = b11_5 at E ⊢
  generalize vs 0 = u11_0
  generalize vs 1 = u11_1
  generalize vs 2 = u11_2
  generalize vs 3 = u11_3
  clear e4 e7 e5 hC hn E11 hL vs L nb
  go_upto_region 8 with (fail)
  have B12 : Hid (ab ((-5)) < pw 3) := ab_lit (by decide)
  have B13 : Hid (ab ((2)) < pw 3) := ab_lit (by decide)
  refine region_fr (C := [Fq.num (-5), Fq.tup2 (Fq.num (2)) (Fq.is (.int .i64 0)), Fq.tup2 (Fq.num (2)) (Fq.is (.int .i64 0)), Fq.num (2), Fq.is (.int .i64 0), Fq.any, Fq.any, Fq.is (.int .i64 0)]) (ks := [none]) (new := [⟨5, 6, 2, Fq.num 0, Fq.num (2), none⟩]) E rfl (by kernel_rfl) rfl rfl (fun hp => ⟨?_, ?_, ?_, ?_, ?_, ?_, ?_, ?_, trivial⟩) ?_
  · exact q_call1 (F := (Fq.is (.int .i64 (-5))).P) hp (free_of rfl) trivial (enq_R_Of) (sq_const (fun _ => rfl)) (fun v w h => (by subst h; exact rOfK w (-5) (by omega) (by omega)))
  · exact q_call1W (F := (Fq.num (-5)).P) hp (free_of rfl) trivial (enq_f_algorist_prime_Next) rfl (sq_in 0 rfl rfl (by simp) rfl (fun v w h => h)) (fun v w hbw h => exE7 h (HT.out.mono hbw))
  · exact q_move hp (free_of rfl) trivial (sq_in 1 rfl rfl (by simp) rfl (fun v w h => h))
  · exact q_extract2 hp (free_of rfl) trivial (sq_in 2 rfl rfl (by simp) rfl (fun v w h => h)) (fun v1 v2 w h1 h2 => ⟨_, rfl, h1⟩)
  · exact q_extract2 hp (free_of rfl) trivial (sq_in 2 rfl rfl (by simp) rfl (fun v w h => h)) (fun v1 v2 w h1 h2 => ⟨_, rfl, h2⟩)
  · exact q_allocInt hp (List.mem_iff_getElem?.2 ⟨0, rfl⟩) rfl rfl rfl rfl (Nat.ne_of_beq_eq_false rfl) (fun _ _ => trivial) (old_ne rfl) (newk_ne rfl) (fun w => Num.zero w)
  · exact q_storeNewInt hp (List.mem_iff_getElem?.2 ⟨0, rfl⟩) rfl rfl rfl (own_ptr rfl rfl (by simp) rfl) (sq_in 3 rfl rfl (by simp) rfl (fun v w h => intV_num h)) (fun _ _ => trivial) (old_ne rfl) (newi_ne rfl)
  · exact q_assign hp (free_of rfl) trivial (sq_in 4 rfl rfl (by simp) rfl (fun v w h => h))
  intro L vs w14 nb hL hC hn E14
  have e4 : vs 4 = .int .i64 0 := hC 4 (by simp)
  have e7 : vs 7 = .int .i64 0 := hC 7 (by simp)
  have e5 : vs 5 = .pointer (some ⟨nb 5, 0, none⟩) := hn _ (List.mem_iff_getElem?.2 ⟨0, rfl⟩)
  have E : Fr w1 [(nb 5, 2, Fq.num (2)), (b11_5, 2, Fq.num (11))] w14 := E14
  rw [lay_all hL]
  simp only [putAll, dstOf, List.length_cons, List.length_nil, Nat.zero_add, Nat.reduceAdd, List.getElem?_toArray, List.getElem?_cons_zero, List.getElem?_cons_succ, Option.bind_some, Act.put, List.setIfInBounds_toArray, List.set_cons_succ, List.set_cons_zero]
  rw [e4, e7, e5]
  generalize nb 5 = b14_5 at E ⊢
  generalize vs 0 = u14_0
  generalize vs 1 = u14_1
  generalize vs 2 = u14_2
  generalize vs 3 = u14_3
  clear e4 e7 e5 hC hn E14 hL vs L nb
  go_upto_region 9 with (fail)
  refine region_fr (C := [Fq.num (11), Fq.tup2 (Fq.is (.int .i64 0)) (Fq.is (.int .i64 6)), Fq.tup2 (Fq.is (.int .i64 0)) (Fq.is (.int .i64 6)), Fq.is (.int .i64 0), Fq.is (.int .i64 6), Fq.is (.int .i64 0), Fq.is (.int .i64 6)]) (ks := [none, none]) (new := []) E rfl (by kernel_rfl) rfl rfl (fun hp => ⟨?_, ?_, ?_, ?_, ?_, ?_, ?_, trivial⟩) ?_
  · exact q_call1 (F := (Fq.is (.int .i64 11)).P) hp (free_of rfl) trivial (enq_R_Of) (sq_const (fun _ => rfl)) (fun v w h => (by subst h; exact rOfK w (11) (by omega) (by omega)))
  · exact q_call1W (F := (Fq.num (11)).P) hp (free_of rfl) trivial (enq_f_algorist_prime_Witness) rfl (sq_in 0 rfl rfl (by simp) rfl (fun v w h => h)) (fun v w hbw h => exE8 h (HT.out.mono hbw))
  · exact q_move hp (free_of rfl) trivial (sq_in 1 rfl rfl (by simp) rfl (fun v w h => h))
  · exact q_extract2 hp (free_of rfl) trivial (sq_in 2 rfl rfl (by simp) rfl (fun v w h => h)) (fun v1 v2 w h1 h2 => ⟨_, rfl, h1⟩)
  · exact q_extract2 hp (free_of rfl) trivial (sq_in 2 rfl rfl (by simp) rfl (fun v w h => h)) (fun v1 v2 w h1 h2 => ⟨_, rfl, h2⟩)
  · exact q_assign hp (free_of rfl) trivial (sq_in 3 rfl rfl (by simp) rfl (fun v w h => h))
  · exact q_assign hp (free_of rfl) trivial (sq_in 4 rfl rfl (by simp) rfl (fun v w h => h))
  intro L vs w15 nb hL hC hn E15
  have e3 : vs 3 = .int .i64 0 := hC 3 (by simp)
  have e4 : vs 4 = .int .i64 6 := hC 4 (by simp)
  have e5 : vs 5 = .int .i64 0 := hC 5 (by simp)
  have e6 : vs 6 = .int .i64 6 := hC 6 (by simp)
  have E : Fr w1 [(b14_5, 2, Fq.num (2)), (b11_5, 2, Fq.num (11))] w15 := E15
  rw [lay_all hL]
  simp only [putAll, dstOf, List.length_cons, List.length_nil, Nat.zero_add, Nat.reduceAdd, List.getElem?_toArray, List.getElem?_cons_zero, List.getElem?_cons_succ, Option.bind_some, Act.put, List.setIfInBounds_toArray, List.set_cons_succ, List.set_cons_zero]
  rw [e3, e4, e5, e6]
  generalize vs 0 = u15_0
  generalize vs 1 = u15_1
  generalize vs 2 = u15_2
  clear e3 e4 e5 e6 hC hn E15 hL vs L nb
  go_upto_region 10 with (fail)
  refine region_fr (C := [Fq.tup2 (Fq.is (.slice none 0 0)) (Fq.is (.int .i64 2)), Fq.tup2 (Fq.is (.slice none 0 0)) (Fq.is (.int .i64 2)), Fq.is (.slice none 0 0), Fq.is (.int .i64 2), Fq.is (.slice none 0 0), Fq.is (.int .i64 2)]) (ks := [none, none]) (new := []) E rfl (by kernel_rfl) rfl rfl (fun hp => ⟨?_, ?_, ?_, ?_, ?_, ?_, trivial⟩) ?_
  · exact q_call1 (F := (Fq.is (.int .i64 1048577)).P) hp (free_of rfl) trivial (enq_f_algorist_prime_Small) (sq_const (fun _ => rfl)) (fun v w h => (by subst h; exact (exSmallBig 1048577 (by omega) w).mono fun e w' hh => ⟨_, hh.1, hh.2, _, _, rfl, rfl, rfl⟩))
  · exact q_move hp (free_of rfl) trivial (sq_in 0 rfl rfl (by simp) rfl (fun v w h => h))
  · exact q_extract2 hp (free_of rfl) trivial (sq_in 1 rfl rfl (by simp) rfl (fun v w h => h)) (fun v1 v2 w h1 h2 => ⟨_, rfl, h1⟩)
  · exact q_extract2 hp (free_of rfl) trivial (sq_in 1 rfl rfl (by simp) rfl (fun v w h => h)) (fun v1 v2 w h1 h2 => ⟨_, rfl, h2⟩)
  · exact q_assign hp (free_of rfl) trivial (sq_in 2 rfl rfl (by simp) rfl (fun v w h => h))
  · exact q_assign hp (free_of rfl) trivial (sq_in 3 rfl rfl (by simp) rfl (fun v w h => h))
  intro L vs w16 nb hL hC hn E16
  have e2 : vs 2 = .slice none 0 0 := hC 2 (by simp)
  have e3 : vs 3 = .int .i64 2 := hC 3 (by simp)
  have e4 : vs 4 = .slice none 0 0 := hC 4 (by simp)
  have e5 : vs 5 = .int .i64 2 := hC 5 (by simp)
  have E : Fr w1 [(b14_5, 2, Fq.num (2)), (b11_5, 2, Fq.num (11))] w16 := E16
  rw [lay_all hL]
  simp only [putAll, dstOf, List.length_cons, List.length_nil, Nat.zero_add, Nat.reduceAdd, List.getElem?_toArray, List.getElem?_cons_zero, List.getElem?_cons_succ, Option.bind_some, Act.put, List.setIfInBounds_toArray, List.set_cons_succ, List.set_cons_zero]
  rw [e2, e3, e4, e5]
  generalize vs 0 = u16_0
  generalize vs 1 = u16_1
  clear e2 e3 e4 e5 hC hn E16 hL vs L nb
  go_upto_region 11 with (fail)
  have B17 : Hid (ab ((4)) < pw 3) := ab_lit (by decide)
  refine region_fr (C := [Fq.num (4), Fq.tup2 (Fq.is (.bool false)) (Fq.is (.int .i64 1)), Fq.tup2 (Fq.is (.bool false)) (Fq.is (.int .i64 1)), Fq.is (.bool false), Fq.is (.int .i64 1), Fq.is (.bool false), Fq.is (.int .i64 1)]) (ks := [none, none]) (new := []) E rfl (by kernel_rfl) rfl rfl (fun hp => ⟨?_, ?_, ?_, ?_, ?_, ?_, ?_, trivial⟩) ?_
  · exact q_call1 (F := (Fq.is (.int .i64 4)).P) hp (free_of rfl) trivial (enq_R_Of) (sq_const (fun _ => rfl)) (fun v w h => (by subst h; exact rOfK w (4) (by omega) (by omega)))
  · exact q_call2W (F := (Fq.num (4)).P) (G := (Fq.is (.int .i64 3)).P) hp (free_of rfl) trivial (enq_f_algorist_prime_Strong) rfl (sq_in 0 rfl rfl (by simp) rfl (fun v w h => h)) (sq_const (fun _ => rfl)) (fun v v' w hbw h h' => (by subst h'; exact exE9 h (HT.out.mono hbw)))
  · exact q_move hp (free_of rfl) trivial (sq_in 1 rfl rfl (by simp) rfl (fun v w h => h))
  · exact q_extract2 hp (free_of rfl) trivial (sq_in 2 rfl rfl (by simp) rfl (fun v w h => h)) (fun v1 v2 w h1 h2 => ⟨_, rfl, h1⟩)
  · exact q_extract2 hp (free_of rfl) trivial (sq_in 2 rfl rfl (by simp) rfl (fun v w h => h)) (fun v1 v2 w h1 h2 => ⟨_, rfl, h2⟩)
  · exact q_assign hp (free_of rfl) trivial (sq_in 3 rfl rfl (by simp) rfl (fun v w h => h))
  · exact q_assign hp (free_of rfl) trivial (sq_in 4 rfl rfl (by simp) rfl (fun v w h => h))
  intro L vs w18 nb hL hC hn E18
  have e3 : vs 3 = .bool false := hC 3 (by simp)
  have e4 : vs 4 = .int .i64 1 := hC 4 (by simp)
  have e5 : vs 5 = .bool false := hC 5 (by simp)
  have e6 : vs 6 = .int .i64 1 := hC 6 (by simp)
  have E : Fr w1 [(b14_5, 2, Fq.num (2)), (b11_5, 2, Fq.num (11))] w18 := E18
  rw [lay_all hL]
  simp only [putAll, dstOf, List.length_cons, List.length_nil, Nat.zero_add, Nat.reduceAdd, List.getElem?_toArray, List.getElem?_cons_zero, List.getElem?_cons_succ, Option.bind_some, Act.put, List.setIfInBounds_toArray, List.set_cons_succ, List.set_cons_zero]
  rw [e3, e4, e5, e6]
  generalize vs 0 = u18_0
  generalize vs 1 = u18_1
  generalize vs 2 = u18_2
  clear e3 e4 e5 e6 hC hn E18 hL vs L nb
  go_upto_region 12 with (fail)
  refine region_fr (C := [Fq.is (.int .i64 0), Fq.is (.bool false), Fq.is (.bool false), Fq.is (.int .i64 0), Fq.is (.bool false), Fq.is (.bool false), Fq.is (.bool false), Fq.is (.int .i64 0), Fq.is (.bool false), Fq.is (.bool false), Fq.is (.bool false), Fq.is (.int .i64 0), Fq.is (.bool false), Fq.is (.bool false), Fq.is (.bool false), Fq.is (.int .i64 0), Fq.is (.bool false), Fq.is (.bool false), Fq.is (.bool false), Fq.is (.int .i64 0), Fq.is (.bool false), Fq.is (.bool false), Fq.is (.bool false), Fq.is (.int .i64 0), Fq.is (.bool false), Fq.is (.bool false), Fq.is (.bool false), Fq.is (.int .i64 0), Fq.is (.bool false), Fq.is (.bool false), Fq.is (.bool false), Fq.is (.int .i64 6), Fq.is (.bool false), Fq.is (.bool false), Fq.is (.bool false), Fq.is (.int .i64 2), Fq.is (.bool false), Fq.is (.bool false), Fq.is (.bool false), Fq.is (.int .i64 1), Fq.is (.bool false), Fq.is (.bool false)]) (ks := [none, none]) (new := []) E rfl (by kernel_rfl) rfl rfl (fun hp => ⟨?_, ?_, ?_, ?_, ?_, ?_, ?_, ?_, ?_, ?_, ?_, ?_, ?_, ?_, ?_, ?_, ?_, ?_, ?_, ?_, ?_, ?_, ?_, ?_, ?_, ?_, ?_, ?_, ?_, ?_, ?_, ?_, ?_, ?_, ?_, ?_, ?_, ?_, ?_, ?_, ?_, ?_, trivial⟩) ?_
  · exact q_move hp (free_of rfl) trivial (sq_out (s := 2) rfl rfl (fun _ _ => rfl))
  · exact q_one (F := fun v _ => v = .int .i64 0) hp (free_of rfl) trivial (sq_in 0 rfl rfl (by simp) rfl (fun v w h => h)) (fun ρ w hc h => ⟨.bool false, by simp [execOp, go_sem, h, hc], rfl⟩)
  · exact q_move hp (free_of rfl) trivial (sq_in 1 rfl rfl (by simp) rfl (fun v w h => h))
  · exact q_move hp (free_of rfl) (gq_some rfl rfl (by simp) rfl (fun v w h => h)) (sq_out (s := 4) rfl rfl (fun _ _ => rfl))
  · exact q_one (F := fun v _ => v = .int .i64 0) hp (free_of rfl) (gq_some rfl rfl (by simp) rfl (fun v w h => h)) (sq_in 3 rfl rfl (by simp) rfl (fun v w h => h)) (fun ρ w hc h => ⟨.bool false, by simp [execOp, go_sem, h, hc], rfl⟩)
  · exact q_two (F := fun v _ => v = .bool false) (G := fun v _ => v = .bool false) hp (free_of rfl) trivial (sq_in 2 rfl rfl (by simp) rfl (fun v w h => h)) (sq_in 4 rfl rfl (by simp) rfl (fun v w h => h)) (fun ρ w hc h h' => ⟨_, by simp [execOp, go_sem, h, h'], rfl⟩)
  · exact q_move hp (free_of rfl) trivial (sq_in 5 rfl rfl (by simp) rfl (fun v w h => h))
  · exact q_move hp (free_of rfl) (gq_some rfl rfl (by simp) rfl (fun v w h => h)) (sq_out (s := 6) rfl rfl (fun _ _ => rfl))
  · exact q_one (F := fun v _ => v = .int .i64 0) hp (free_of rfl) (gq_some rfl rfl (by simp) rfl (fun v w h => h)) (sq_in 7 rfl rfl (by simp) rfl (fun v w h => h)) (fun ρ w hc h => ⟨.bool false, by simp [execOp, go_sem, h, hc], rfl⟩)
  · exact q_two (F := fun v _ => v = .bool false) (G := fun v _ => v = .bool false) hp (free_of rfl) trivial (sq_in 6 rfl rfl (by simp) rfl (fun v w h => h)) (sq_in 8 rfl rfl (by simp) rfl (fun v w h => h)) (fun ρ w hc h h' => ⟨_, by simp [execOp, go_sem, h, h'], rfl⟩)
  · exact q_move hp (free_of rfl) trivial (sq_in 9 rfl rfl (by simp) rfl (fun v w h => h))
  · exact q_move hp (free_of rfl) (gq_some rfl rfl (by simp) rfl (fun v w h => h)) (sq_out (s := 8) rfl rfl (fun _ _ => rfl))
  · exact q_one (F := fun v _ => v = .int .i64 0) hp (free_of rfl) (gq_some rfl rfl (by simp) rfl (fun v w h => h)) (sq_in 11 rfl rfl (by simp) rfl (fun v w h => h)) (fun ρ w hc h => ⟨.bool false, by simp [execOp, go_sem, h, hc], rfl⟩)
  · exact q_two (F := fun v _ => v = .bool false) (G := fun v _ => v = .bool false) hp (free_of rfl) trivial (sq_in 10 rfl rfl (by simp) rfl (fun v w h => h)) (sq_in 12 rfl rfl (by simp) rfl (fun v w h => h)) (fun ρ w hc h h' => ⟨_, by simp [execOp, go_sem, h, h'], rfl⟩)
  · exact q_move hp (free_of rfl) trivial (sq_in 13 rfl rfl (by simp) rfl (fun v w h => h))
  · exact q_move hp (free_of rfl) (gq_some rfl rfl (by simp) rfl (fun v w h => h)) (sq_out (s := 10) rfl rfl (fun _ _ => rfl))
  · exact q_one (F := fun v _ => v = .int .i64 0) hp (free_of rfl) (gq_some rfl rfl (by simp) rfl (fun v w h => h)) (sq_in 15 rfl rfl (by simp) rfl (fun v w h => h)) (fun ρ w hc h => ⟨.bool false, by simp [execOp, go_sem, h, hc], rfl⟩)
  · exact q_two (F := fun v _ => v = .bool false) (G := fun v _ => v = .bool false) hp (free_of rfl) trivial (sq_in 14 rfl rfl (by simp) rfl (fun v w h => h)) (sq_in 16 rfl rfl (by simp) rfl (fun v w h => h)) (fun ρ w hc h h' => ⟨_, by simp [execOp, go_sem, h, h'], rfl⟩)
  · exact q_move hp (free_of rfl) trivial (sq_in 17 rfl rfl (by simp) rfl (fun v w h => h))
  · exact q_move hp (free_of rfl) (gq_some rfl rfl (by simp) rfl (fun v w h => h)) (sq_out (s := 12) rfl rfl (fun _ _ => rfl))
  · exact q_one (F := fun v _ => v = .int .i64 0) hp (free_of rfl) (gq_some rfl rfl (by simp) rfl (fun v w h => h)) (sq_in 19 rfl rfl (by simp) rfl (fun v w h => h)) (fun ρ w hc h => ⟨.bool false, by simp [execOp, go_sem, h, hc], rfl⟩)
  · exact q_two (F := fun v _ => v = .bool false) (G := fun v _ => v = .bool false) hp (free_of rfl) trivial (sq_in 18 rfl rfl (by simp) rfl (fun v w h => h)) (sq_in 20 rfl rfl (by simp) rfl (fun v w h => h)) (fun ρ w hc h h' => ⟨_, by simp [execOp, go_sem, h, h'], rfl⟩)
  · exact q_move hp (free_of rfl) trivial (sq_in 21 rfl rfl (by simp) rfl (fun v w h => h))
  · exact q_move hp (free_of rfl) (gq_some rfl rfl (by simp) rfl (fun v w h => h)) (sq_out (s := 14) rfl rfl (fun _ _ => rfl))
  · exact q_one (F := fun v _ => v = .int .i64 0) hp (free_of rfl) (gq_some rfl rfl (by simp) rfl (fun v w h => h)) (sq_in 23 rfl rfl (by simp) rfl (fun v w h => h)) (fun ρ w hc h => ⟨.bool false, by simp [execOp, go_sem, h, hc], rfl⟩)
  · exact q_two (F := fun v _ => v = .bool false) (G := fun v _ => v = .bool false) hp (free_of rfl) trivial (sq_in 22 rfl rfl (by simp) rfl (fun v w h => h)) (sq_in 24 rfl rfl (by simp) rfl (fun v w h => h)) (fun ρ w hc h h' => ⟨_, by simp [execOp, go_sem, h, h'], rfl⟩)
  · exact q_move hp (free_of rfl) trivial (sq_in 25 rfl rfl (by simp) rfl (fun v w h => h))
  · exact q_move hp (free_of rfl) (gq_some rfl rfl (by simp) rfl (fun v w h => h)) (sq_out (s := 16) rfl rfl (fun _ _ => rfl))
  · exact q_one (F := fun v _ => v = .int .i64 0) hp (free_of rfl) (gq_some rfl rfl (by simp) rfl (fun v w h => h)) (sq_in 27 rfl rfl (by simp) rfl (fun v w h => h)) (fun ρ w hc h => ⟨.bool false, by simp [execOp, go_sem, h, hc], rfl⟩)
  · exact q_two (F := fun v _ => v = .bool false) (G := fun v _ => v = .bool false) hp (free_of rfl) trivial (sq_in 26 rfl rfl (by simp) rfl (fun v w h => h)) (sq_in 28 rfl rfl (by simp) rfl (fun v w h => h)) (fun ρ w hc h h' => ⟨_, by simp [execOp, go_sem, h, h'], rfl⟩)
  · exact q_move hp (free_of rfl) trivial (sq_in 29 rfl rfl (by simp) rfl (fun v w h => h))
  · exact q_move hp (free_of rfl) (gq_some rfl rfl (by simp) rfl (fun v w h => h)) (sq_out (s := 18) rfl rfl (fun _ _ => rfl))
  · exact q_one (F := fun v _ => v = .int .i64 6) hp (free_of rfl) (gq_some rfl rfl (by simp) rfl (fun v w h => h)) (sq_in 31 rfl rfl (by simp) rfl (fun v w h => h)) (fun ρ w hc h => ⟨.bool false, by simp [execOp, go_sem, h, hc], rfl⟩)
  · exact q_two (F := fun v _ => v = .bool false) (G := fun v _ => v = .bool false) hp (free_of rfl) trivial (sq_in 30 rfl rfl (by simp) rfl (fun v w h => h)) (sq_in 32 rfl rfl (by simp) rfl (fun v w h => h)) (fun ρ w hc h h' => ⟨_, by simp [execOp, go_sem, h, h'], rfl⟩)
  · exact q_move hp (free_of rfl) trivial (sq_in 33 rfl rfl (by simp) rfl (fun v w h => h))
  · exact q_move hp (free_of rfl) (gq_some rfl rfl (by simp) rfl (fun v w h => h)) (sq_out (s := 20) rfl rfl (fun _ _ => rfl))
  · exact q_one (F := fun v _ => v = .int .i64 2) hp (free_of rfl) (gq_some rfl rfl (by simp) rfl (fun v w h => h)) (sq_in 35 rfl rfl (by simp) rfl (fun v w h => h)) (fun ρ w hc h => ⟨.bool false, by simp [execOp, go_sem, h, hc], rfl⟩)
  · exact q_two (F := fun v _ => v = .bool false) (G := fun v _ => v = .bool false) hp (free_of rfl) trivial (sq_in 34 rfl rfl (by simp) rfl (fun v w h => h)) (sq_in 36 rfl rfl (by simp) rfl (fun v w h => h)) (fun ρ w hc h h' => ⟨_, by simp [execOp, go_sem, h, h'], rfl⟩)
  · exact q_move hp (free_of rfl) trivial (sq_in 37 rfl rfl (by simp) rfl (fun v w h => h))
  · exact q_move hp (free_of rfl) (gq_some rfl rfl (by simp) rfl (fun v w h => h)) (sq_out (s := 22) rfl rfl (fun _ _ => rfl))
  · exact q_one (F := fun v _ => v = .int .i64 1) hp (free_of rfl) (gq_some rfl rfl (by simp) rfl (fun v w h => h)) (sq_in 39 rfl rfl (by simp) rfl (fun v w h => h)) (fun ρ w hc h => ⟨.bool false, by simp [execOp, go_sem, h, hc], rfl⟩)
  · exact q_two (F := fun v _ => v = .bool false) (G := fun v _ => v = .bool false) hp (free_of rfl) trivial (sq_in 38 rfl rfl (by simp) rfl (fun v w h => h)) (sq_in 40 rfl rfl (by simp) rfl (fun v w h => h)) (fun ρ w hc h h' => ⟨_, by simp [execOp, go_sem, h, h'], rfl⟩)
  intro L vs w19 nb hL hC hn E19
  have e0 : vs 0 = .int .i64 0 := hC 0 (by simp)
  have e1 : vs 1 = .bool false := hC 1 (by simp)
  have e2 : vs 2 = .bool false := hC 2 (by simp)
  have e3 : vs 3 = .int .i64 0 := hC 3 (by simp)
  have e4 : vs 4 = .bool false := hC 4 (by simp)
  have e5 : vs 5 = .bool false := hC 5 (by simp)
  have e6 : vs 6 = .bool false := hC 6 (by simp)
  have e7 : vs 7 = .int .i64 0 := hC 7 (by simp)
  have e8 : vs 8 = .bool false := hC 8 (by simp)
  have e9 : vs 9 = .bool false := hC 9 (by simp)
  have e10 : vs 10 = .bool false := hC 10 (by simp)
  have e11 : vs 11 = .int .i64 0 := hC 11 (by simp)
  have e12 : vs 12 = .bool false := hC 12 (by simp)
  have e13 : vs 13 = .bool false := hC 13 (by simp)
  have e14 : vs 14 = .bool false := hC 14 (by simp)
  have e15 : vs 15 = .int .i64 0 := hC 15 (by simp)
  have e16 : vs 16 = .bool false := hC 16 (by simp)
  have e17 : vs 17 = .bool false := hC 17 (by simp)
  have e18 : vs 18 = .bool false := hC 18 (by simp)
  have e19 : vs 19 = .int .i64 0 := hC 19 (by simp)
  have e20 : vs 20 = .bool false := hC 20 (by simp)
  have e21 : vs 21 = .bool false := hC 21 (by simp)
  have e22 : vs 22 = .bool false := hC 22 (by simp)
  have e23 : vs 23 = .int .i64 0 := hC 23 (by simp)
  have e24 : vs 24 = .bool false := hC 24 (by simp)
  have e25 : vs 25 = .bool false := hC 25 (by simp)
  have e26 : vs 26 = .bool false := hC 26 (by simp)
  have e27 : vs 27 = .int .i64 0 := hC 27 (by simp)
  have e28 : vs 28 = .bool false := hC 28 (by simp)
  have e29 : vs 29 = .bool false := hC 29 (by simp)
  have e30 : vs 30 = .bool false := hC 30 (by simp)
  have e31 : vs 31 = .int .i64 6 := hC 31 (by simp)
  have e32 : vs 32 = .bool false := hC 32 (by simp)
  have e33 : vs 33 = .bool false := hC 33 (by simp)
  have e34 : vs 34 = .bool false := hC 34 (by simp)
  have e35 : vs 35 = .int .i64 2 := hC 35 (by simp)
  have e36 : vs 36 = .bool false := hC 36 (by simp)
  have e37 : vs 37 = .bool false := hC 37 (by simp)
  have e38 : vs 38 = .bool false := hC 38 (by simp)
  have e39 : vs 39 = .int .i64 1 := hC 39 (by simp)
  have e40 : vs 40 = .bool false := hC 40 (by simp)
  have e41 : vs 41 = .bool false := hC 41 (by simp)
  have E : Fr w1 [(b14_5, 2, Fq.num (2)), (b11_5, 2, Fq.num (11))] w19 := E19
  rw [lay_all hL]
  simp only [putAll, dstOf, List.length_cons, List.length_nil, Nat.zero_add, Nat.reduceAdd, List.getElem?_toArray, List.getElem?_cons_zero, List.getElem?_cons_succ, Option.bind_some, Act.put, List.setIfInBounds_toArray, List.set_cons_succ, List.set_cons_zero]
  rw [e0, e1, e2, e3, e4, e5, e6, e7, e8, e9, e10, e11, e12, e13, e14, e15, e16, e17, e18, e19, e20, e21, e22, e23, e24, e25, e26, e27, e28, e29, e30, e31, e32, e33, e34, e35, e36, e37, e38, e39, e40, e41]
  clear e0 e1 e2 e3 e4 e5 e6 e7 e8 e9 e10 e11 e12 e13 e14 e15 e16 e17 e18 e19 e20 e21 e22 e23 e24 e25 e26 e27 e28 e29 e30 e31 e32 e33 e34 e35 e36 e37 e38 e39 e40 e41 hC hn E19 hL vs L nb
  go_upto_region 14 with (fail)
  refine region_fr (C := [Fq.is (v), Fq.any, Fq.is (.bool true), Fq.is (.bool true), Fq.is (.bool true), Fq.is (.bool true), Fq.is (.bool true), Fq.is (.bool false), Fq.is (.bool true), Fq.is (.bool true), Fq.is (.bool true), Fq.is (.int .i64 3), Fq.is (.bool true), Fq.is (.bool true), Fq.is (.bool true), Fq.is (.bool true), Fq.is (.bool true), Fq.is (.bool true), Fq.is (.bool false), Fq.is (.bool true), Fq.is (.bool true), Fq.is (.bool true), Fq.num (11), Fq.num (11), Fq.is (.bool true), Fq.is (.bool true), Fq.is (.bool true), Fq.num (2), Fq.num (2), Fq.is (.bool true), Fq.is (.bool true), Fq.is (.bool true)]) (ks := [none, none]) (new := [⟨1, 1, 4, Fq.is (.agg #[.int .i64 2, .int .i64 3, .int .i64 5, .int .i64 7]), Fq.is (.agg #[.int .i64 2, .int .i64 3, .int .i64 5, .int .i64 7]), (some 4)⟩]) E rfl (by kernel_rfl) rfl rfl (fun hp => ⟨?_, ?_, ?_, ?_, ?_, ?_, ?_, ?_, ?_, ?_, ?_, ?_, ?_, ?_, ?_, ?_, ?_, ?_, ?_, ?_, ?_, ?_, ?_, ?_, ?_, ?_, ?_, ?_, ?_, ?_, ?_, ?_, trivial⟩) ?_
  · exact q_move hp (free_of rfl) trivial (sq_out (s := 1) rfl rfl (fun _ _ => rfl))
  · exact q_buildConst4 hp trivial (List.mem_iff_getElem?.2 ⟨0, rfl⟩) rfl rfl rfl rfl rfl (fun _ _ => trivial) (old_ne rfl) (newks_ne rfl)
  · exact q_callWSl (F := (Fq.is (v)).P) hp (free_of rfl) trivial enq_f_algorist_algoristlaw04_same rfl (List.mem_iff_getElem?.2 ⟨0, rfl⟩) rfl (sq_in 0 rfl rfl (by simp) rfl (fun v w h => h)) (own_ptr rfl rfl (by simp) rfl) (fun v bx w hbw h hbx => (by subst h; exact exLSame HN.out hbw hbx))
  · exact q_move hp (free_of rfl) trivial (sq_in 2 rfl rfl (by simp) rfl (fun v w h => h))
  · exact q_move hp (free_of rfl) (gq_some rfl rfl (by simp) rfl (fun v w h => h)) (sq_out (s := 3) rfl rfl (fun _ _ => rfl))
  · exact q_two (F := fun v _ => v = .bool true) (G := fun v _ => v = .bool true) hp (free_of rfl) trivial (sq_in 3 rfl rfl (by simp) rfl (fun v w h => h)) (sq_in 4 rfl rfl (by simp) rfl (fun v w h => h)) (fun ρ w hc h h' => ⟨_, by simp [execOp, go_sem, h, h'], rfl⟩)
  · exact q_move hp (free_of rfl) trivial (sq_in 5 rfl rfl (by simp) rfl (fun v w h => h))
  · exact q_move hp (free_of rfl) (gq_some rfl rfl (by simp) rfl (fun v w h => h)) (sq_out (s := 5) rfl rfl (fun _ _ => rfl))
  · exact q_one (F := fun v _ => v = .bool false) hp (free_of rfl) (gq_some rfl rfl (by simp) rfl (fun v w h => h)) (sq_in 7 rfl rfl (by simp) rfl (fun v w h => h)) (fun ρ w _ h => ⟨.bool true, by simp [execOp, go_sem, h], rfl⟩)
  · exact q_two (F := fun v _ => v = .bool true) (G := fun v _ => v = .bool true) hp (free_of rfl) trivial (sq_in 6 rfl rfl (by simp) rfl (fun v w h => h)) (sq_in 8 rfl rfl (by simp) rfl (fun v w h => h)) (fun ρ w hc h h' => ⟨_, by simp [execOp, go_sem, h, h'], rfl⟩)
  · exact q_move hp (free_of rfl) trivial (sq_in 9 rfl rfl (by simp) rfl (fun v w h => h))
  · exact q_move hp (free_of rfl) (gq_some rfl rfl (by simp) rfl (fun v w h => h)) (sq_out (s := 7) rfl rfl (fun _ _ => rfl))
  · exact q_one (F := fun v _ => v = .int .i64 3) hp (free_of rfl) (gq_some rfl rfl (by simp) rfl (fun v w h => h)) (sq_in 11 rfl rfl (by simp) rfl (fun v w h => h)) (fun ρ w hc h => ⟨.bool true, by simp [execOp, go_sem, h, hc], rfl⟩)
  · exact q_two (F := fun v _ => v = .bool true) (G := fun v _ => v = .bool true) hp (free_of rfl) trivial (sq_in 10 rfl rfl (by simp) rfl (fun v w h => h)) (sq_in 12 rfl rfl (by simp) rfl (fun v w h => h)) (fun ρ w hc h h' => ⟨_, by simp [execOp, go_sem, h, h'], rfl⟩)
  · exact q_move hp (free_of rfl) trivial (sq_in 13 rfl rfl (by simp) rfl (fun v w h => h))
  · exact q_move hp (free_of rfl) (gq_some rfl rfl (by simp) rfl (fun v w h => h)) (sq_out (s := 9) rfl rfl (fun _ _ => rfl))
  · exact q_two (F := fun v _ => v = .bool true) (G := fun v _ => v = .bool true) hp (free_of rfl) trivial (sq_in 14 rfl rfl (by simp) rfl (fun v w h => h)) (sq_in 15 rfl rfl (by simp) rfl (fun v w h => h)) (fun ρ w hc h h' => ⟨_, by simp [execOp, go_sem, h, h'], rfl⟩)
  · exact q_move hp (free_of rfl) trivial (sq_in 16 rfl rfl (by simp) rfl (fun v w h => h))
  · exact q_move hp (free_of rfl) (gq_some rfl rfl (by simp) rfl (fun v w h => h)) (sq_out (s := 11) rfl rfl (fun _ _ => rfl))
  · exact q_one (F := fun v _ => v = .bool false) hp (free_of rfl) (gq_some rfl rfl (by simp) rfl (fun v w h => h)) (sq_in 18 rfl rfl (by simp) rfl (fun v w h => h)) (fun ρ w _ h => ⟨.bool true, by simp [execOp, go_sem, h], rfl⟩)
  · exact q_two (F := fun v _ => v = .bool true) (G := fun v _ => v = .bool true) hp (free_of rfl) trivial (sq_in 17 rfl rfl (by simp) rfl (fun v w h => h)) (sq_in 19 rfl rfl (by simp) rfl (fun v w h => h)) (fun ρ w hc h h' => ⟨_, by simp [execOp, go_sem, h, h'], rfl⟩)
  · exact q_move hp (free_of rfl) trivial (sq_in 20 rfl rfl (by simp) rfl (fun v w h => h))
  · exact q_loadInt (off := 0) hp (free_of rfl) (gq_some rfl rfl (by simp) rfl (fun v w h => h)) (List.mem_iff_getElem?.2 ⟨1, rfl⟩) (.inl rfl) (Nat.le_of_ble_eq_true rfl) (sq_out (s := 13) rfl rfl (fun _ _ => rfl)) (fun us w hl h => ld_num hl h)
  · exact q_call1 (F := (Fq.is (.int .i64 11)).P) hp (free_of rfl) (gq_some rfl rfl (by simp) rfl (fun v w h => h)) (enq_R_Of) (sq_const (fun _ => rfl)) (fun v w h => (by subst h; exact rOfK w (11) (by omega) (by omega)))
  · exact q_call2 (F := (Fq.num (11)).P) (G := (Fq.num (11)).P) hp (free_of rfl) (gq_some rfl rfl (by simp) rfl (fun v w h => h)) (enq_R_Same) (sq_in 22 rfl rfl (by simp) rfl (fun v w h => h)) (sq_in 23 rfl rfl (by simp) rfl (fun v w h => h)) (fun v v' w h h' => exRSameB h h' rfl)
  · exact q_two (F := fun v _ => v = .bool true) (G := fun v _ => v = .bool true) hp (free_of rfl) trivial (sq_in 21 rfl rfl (by simp) rfl (fun v w h => h)) (sq_in 24 rfl rfl (by simp) rfl (fun v w h => h)) (fun ρ w hc h h' => ⟨_, by simp [execOp, go_sem, h, h'], rfl⟩)
  · exact q_move hp (free_of rfl) trivial (sq_in 25 rfl rfl (by simp) rfl (fun v w h => h))
  · exact q_loadInt (off := 0) hp (free_of rfl) (gq_some rfl rfl (by simp) rfl (fun v w h => h)) (List.mem_iff_getElem?.2 ⟨0, rfl⟩) (.inl rfl) (Nat.le_of_ble_eq_true rfl) (sq_out (s := 15) rfl rfl (fun _ _ => rfl)) (fun us w hl h => ld_num hl h)
  · exact q_call1 (F := (Fq.is (.int .i64 2)).P) hp (free_of rfl) (gq_some rfl rfl (by simp) rfl (fun v w h => h)) (enq_R_Of) (sq_const (fun _ => rfl)) (fun v w h => (by subst h; exact rOfK w (2) (by omega) (by omega)))
  · exact q_call2 (F := (Fq.num (2)).P) (G := (Fq.num (2)).P) hp (free_of rfl) (gq_some rfl rfl (by simp) rfl (fun v w h => h)) (enq_R_Same) (sq_in 27 rfl rfl (by simp) rfl (fun v w h => h)) (sq_in 28 rfl rfl (by simp) rfl (fun v w h => h)) (fun v v' w h h' => exRSameB h h' rfl)
  · exact q_two (F := fun v _ => v = .bool true) (G := fun v _ => v = .bool true) hp (free_of rfl) trivial (sq_in 26 rfl rfl (by simp) rfl (fun v w h => h)) (sq_in 29 rfl rfl (by simp) rfl (fun v w h => h)) (fun ρ w hc h h' => ⟨_, by simp [execOp, go_sem, h, h'], rfl⟩)
  · exact q_assign hp (free_of rfl) trivial (sq_in 30 rfl rfl (by simp) rfl (fun v w h => h))
  intro L vs w20 nb hL hC hn E20
  have e0 : vs 0 = v := hC 0 (by simp)
  have e2 : vs 2 = .bool true := hC 2 (by simp)
  have e3 : vs 3 = .bool true := hC 3 (by simp)
  have e4 : vs 4 = .bool true := hC 4 (by simp)
  have e5 : vs 5 = .bool true := hC 5 (by simp)
  have e6 : vs 6 = .bool true := hC 6 (by simp)
  have e7 : vs 7 = .bool false := hC 7 (by simp)
  have e8 : vs 8 = .bool true := hC 8 (by simp)
  have e9 : vs 9 = .bool true := hC 9 (by simp)
  have e10 : vs 10 = .bool true := hC 10 (by simp)
  have e11 : vs 11 = .int .i64 3 := hC 11 (by simp)
  have e12 : vs 12 = .bool true := hC 12 (by simp)
  have e13 : vs 13 = .bool true := hC 13 (by simp)
  have e14 : vs 14 = .bool true := hC 14 (by simp)
  have e15 : vs 15 = .bool true := hC 15 (by simp)
  have e16 : vs 16 = .bool true := hC 16 (by simp)
  have e17 : vs 17 = .bool true := hC 17 (by simp)
  have e18 : vs 18 = .bool false := hC 18 (by simp)
  have e19 : vs 19 = .bool true := hC 19 (by simp)
  have e20 : vs 20 = .bool true := hC 20 (by simp)
  have e21 : vs 21 = .bool true := hC 21 (by simp)
  have e24 : vs 24 = .bool true := hC 24 (by simp)
  have e25 : vs 25 = .bool true := hC 25 (by simp)
  have e26 : vs 26 = .bool true := hC 26 (by simp)
  have e29 : vs 29 = .bool true := hC 29 (by simp)
  have e30 : vs 30 = .bool true := hC 30 (by simp)
  have e31 : vs 31 = .bool true := hC 31 (by simp)
  have e1 : vs 1 = .slice (some ⟨nb 1, 0, none⟩) 4 4 := hn _ (List.mem_iff_getElem?.2 ⟨0, rfl⟩)
  have E : Fr w1 [(nb 1, 4, Fq.is (.agg #[.int .i64 2, .int .i64 3, .int .i64 5, .int .i64 7])), (b14_5, 2, Fq.num (2)), (b11_5, 2, Fq.num (11))] w20 := E20
  rw [lay_all hL]
  simp only [putAll, dstOf, List.length_cons, List.length_nil, Nat.zero_add, Nat.reduceAdd, List.getElem?_toArray, List.getElem?_cons_zero, List.getElem?_cons_succ, Option.bind_some, Act.put, List.setIfInBounds_toArray, List.set_cons_succ, List.set_cons_zero]
  rw [e0, e2, e3, e4, e5, e6, e7, e8, e9, e10, e11, e12, e13, e14, e15, e16, e17, e18, e19, e20, e21, e24, e25, e26, e29, e30, e31, e1]
  generalize nb 1 = b20_1 at E ⊢
  generalize vs 22 = u20_22
  generalize vs 23 = u20_23
  generalize vs 27 = u20_27
  generalize vs 28 = u20_28
  clear e0 e2 e3 e4 e5 e6 e7 e8 e9 e10 e11 e12 e13 e14 e15 e16 e17 e18 e19 e20 e21 e24 e25 e26 e29 e30 e31 e1 hC hn E20 hL vs L nb
  go_wp2
  refine bodyPost_ret (v := .bool true) ?_ rfl ⟨_, rfl, HB1.out.trans (E.below.mono HB1.out.size), rfl⟩
  simp [results, Tryd.results9, go_sem]

end Go.Proofs.YthgpcgijhmgenaaDoor

/- A number whose words are known, in a box; steps of layer 4's laws. -/
namespace Go.Proofs.YthgpcgijhmgenaaDoor
open Go Go.RowKit

def Fq.nraw (n : Bool) (a : Option Addr) (k c : Nat) (xs : List Int) (z : Int) : Fq := ⟨fun v w => v = .agg #[.bool n, .slice a k c] ∧ Sl w a k c xs ∧ Num w v z, fun h hb => ⟨h.1, h.2.1.mono hb, h.2.2.mono hb⟩, fun h ha ht hl => ⟨h.1, h.2.1.putAt ha ht hl, h.2.2.putAt ha ht hl⟩⟩
theorem ld_nrawS {n : Bool} {a : Option Addr} {k c : Nat} {xs : List Int} {z : Int} {us : List Value} {w : World} (hl : us.length = 2) (h : (Fq.nraw n a k c xs z).P (.agg us.toArray) w) : us.getD 1 undef = .slice a k c := by
  match us, hl with
  | [p, q], _ =>
    obtain ⟨e, _⟩ := h
    injection e with e
    have e2 := congrArg Array.toList e
    simp at e2
    simp [e2]
theorem Fr.opened {w0 W : World} {bs : List (Nat × Nat × Fq)} {b : Nat} {z : Int} (E : Fr w0 ((b, 2, Fq.num z) :: bs) W) : ∃ n a k c xs, (z = sgn n (val xs) ∧ Canon xs ∧ xs.length = k ∧ (n = true → k ≠ 0) ∧ Digs xs) ∧ Fr w0 ((b, 2, Fq.nraw n a k c xs z) :: bs) W := by
  obtain ⟨us, h1, h2, h3, h4, h5⟩ := (E.boxes _ (List.mem_cons_self ..)).2
  obtain ⟨neg, ao, k, c, xs, hv, hs, hn, hz, hc, hnn⟩ := id h5
  refine ⟨neg, ao, k, c, xs, ⟨hz, hc, hs.len, hnn, hs.digs⟩, E.below, fun x hx => ?_, by simpa using E.apart⟩
  rcases List.mem_cons.1 hx with rfl | hx
  · exact ⟨(E.boxes _ (List.mem_cons_self ..)).1, us, h1, h2, h3, h4, hv, hs, h5⟩
  · exact E.boxes x (List.mem_cons_of_mem _ hx)
section
variable {os : List Oper} {Q : Exit → Act → World → Prop} {a : Act} {p : Pq} {B B0 : Nat} {w0 : World}
variable {i s : Nat} {d : Option Tmp} {ty : TypeId} {ps : String} {af : Array Edge} {gd : Option (Nat × Bool)}
theorem q_loadMagP {o : Ob} {off : Nat} {x : Operand} {v : Value} (hp : p.Ok B B0) (hF : p.Free i) (hg : GdQ os a p B B0 w0 af gd) (ho : o ∈ p.old) (hk : o.F1 = o.F0 ∨ leadsB os 9 o.k i = true) (hoff : off + 1 ≤ o.m)
    (hx : SrcQ os a p B B0 w0 af x fun u _ => u = .pointer (some ⟨o.b, off, none⟩)) (hC : ∀ (us : List Value) (w : World), us.length = o.m → o.F0.P (.agg us.toArray) w → us.getD off undef = v ∧ (p.c i).P v w) :
    StepQ os Q a p B B0 w0 i { dst := d, op := .load 22 x, type := ty, pos := ps, after := af, guard := gd } := by
  refine stq_val hp hF hg fun L vs w hG hL hc hd => ?_
  obtain ⟨us, hl, h0, hat, ht, hP⟩ := box_now ho hk hG hL hc
  have e := hx L vs w hG hd
  have c0 := (hat off (by omega)).1
  obtain ⟨e2, hP2⟩ := hC us w hl hP
  refine ⟨_, ?_, hP2⟩
  rw [e2] at c0
  generalize (lay os.toArray L vs os.toArray.size a).eval = ρ at e
  simp [execOp, go_sem, e, c0]
/-- A word that a box leads to. -/
theorem q_loadWord {o : Ob} {bx : Nat} {ad : Addr} {x : Operand} {x0 : Int} (hp : p.Ok B B0) (hF : p.Free i) (hg : GdQ os a p B B0 w0 af gd) (ho : o ∈ p.old) (hk : o.F1 = o.F0 ∨ leadsB os 9 o.k i = true)
    (hx : SrcQ os a p B B0 w0 af x fun u _ => u = .pointer (some ad)) (hC : ∀ (us : List Value) (w : World), us.length = o.m → o.F0.P (.agg us.toArray) w → w.cell? ad = some (.int .u32 x0)) (hI : ∀ w, (p.c i).P (.int .u32 x0) w) (_hb : o.b = bx := by rfl) :
    StepQ os Q a p B B0 w0 i { dst := d, op := .load 41 x, type := ty, pos := ps, after := af, guard := gd } := by
  refine stq_val hp hF hg fun L vs w hG hL hc hd => ?_
  obtain ⟨us, hl, h0, hat, ht, hP⟩ := box_now ho hk hG hL hc
  have e := hx L vs w hG hd
  have c0 := hC us w hl hP
  refine ⟨_, ?_, hI w⟩
  generalize (lay os.toArray L vs os.toArray.size a).eval = ρ at e
  simp [execOp, go_sem, e, c0]
end
/-- The first word of a number that is not 0. -/
theorem first_word {n : Bool} {ab : Nat} {off k c : Nat} {xs : List Int} {z x0 : Int} (hk : 0 < k) (hx : xs.getD 0 0 = x0) {v : Value} {w : World} (h : (Fq.nraw n (some ⟨ab, off, none⟩) k c xs z).P v w) : w.cell? ⟨ab, off, none⟩ = some (.int .u32 x0) := by
  obtain ⟨x, h1, _, _, h4⟩ := h.2.1.cells.at' (k := 0) (by rw [h.2.1.len]; exact hk)
  rw [Nat.add_zero] at h1
  rw [h1, ← hx, h4.out]
theorem nraw_addr {w : World} {n : Bool} {a : Option Addr} {k c : Nat} {xs : List Int} {z : Int} {v : Value} (h : (Fq.nraw n a k c xs z).P v w) (hk : 0 < k) : ∃ ab off, a = some ⟨ab, off, none⟩ := by
  obtain ⟨b, off, e, _⟩ := h.2.1.cells.at (k := 0) (by rw [h.2.1.len]; exact hk)
  exact ⟨b, off, e⟩
theorem Fr.addr {w0 W : World} {bs : List (Nat × Nat × Fq)} {b : Nat} {n : Bool} {a : Option Addr} {k c : Nat} {xs : List Int} {z : Int} (E : Fr w0 ((b, 2, Fq.nraw n a k c xs z) :: bs) W) (hk : 0 < k) : ∃ ab off, a = some ⟨ab, off, none⟩ := by
  obtain ⟨us, _, _, _, _, hP⟩ := (E.boxes _ (List.mem_cons_self ..)).2
  exact nraw_addr hP hk
/-- Strong, as the laws call it. -/
theorem strongE {w : World} {v : Value} {z b : Int} (h : Num w v z) (hz : ab z < pw 900) (ho : ¬ (2 < z ∧ z % 2 = 1)) : Calls Tryd.prog 13 #[v, .int .i64 b] w fun e w' => ∃ v', e = .returned v' ∧ Below w.heap.size w w' ∧ (Fq.tup2 (Fq.is (.bool false)) (Fq.is (.int .i64 1))).P v' w' := by
  by_cases h1 : 0 < z ∧ z % 2 = 1
  · refine (exPStrongT (b := b) h hz (decide_eq_true h1) (by omega)).mono ?_
    rintro e w' ⟨_, h1, h2, rfl⟩
    exact ⟨_, h1, h2, _, _, rfl, rfl, rfl⟩
  · refine (exPStrongE (b := b) h hz (decide_eq_false h1)).mono ?_
    rintro e w' ⟨_, h1, h2, rfl⟩
    exact ⟨_, h1, h2, _, _, rfl, rfl, rfl⟩
theorem strongN {w : World} {v : Value} {z : Int} {b N : Nat} {S : Bool} (h : Num w v z) (hT : TabsP w) (hz : ab z < pw 900) (h2 : 2 < z) (ho : z % 2 = 1) (hb : 1 ≤ b ∧ b ≤ 9223372036854775807) (hN : z = (N : Int)) (hN2 : N < 18446744073709551616) (hS : strongB N b = S) : Calls Tryd.prog 13 #[v, .int .i64 (b : Int)] w fun e w' => ∃ v', e = .returned v' ∧ Below w.heap.size w w' ∧ (Fq.tup2 (Fq.is (.bool S)) (Fq.is (.int .i64 0))).P v' w' := by
  refine (exPStrongN h hT hz (decide_eq_true ⟨by omega, ho⟩) h2 hb hN hN2).mono ?_
  rintro e w' ⟨_, h1, h2, rfl⟩
  exact ⟨_, h1, h2, _, _, rfl, by rw [hS]; rfl, rfl⟩
theorem strongB_eq {N b c : Nat} (h2 : 2 ≤ N) (hN : N ≤ 2 ^ 64) (h : StrongP N b ↔ StrongP N c) : strongB N b = strongB N c := by
  have h3 := strongB_iff b h2 hN
  have h4 := strongB_iff c h2 hN
  cases hb : strongB N b <;> cases hc : strongB N c
  · rfl
  · have := h3.2 (h.2 (h4.1 hc)); rw [hb] at this; cases this
  · have := h4.2 (h.1 (h3.1 hb)); rw [hc] at this; cases this
  · rfl
end Go.Proofs.YthgpcgijhmgenaaDoor

/- Walk of the law on bases. -/
namespace Go.Proofs.YthgpcgijhmgenaaDoor
open Go Go.RowKit

/-- A number of one word. -/
theorem one_word {n : Bool} {xs : List Int} {z : Int} {k : Nat} (h : z = sgn n (val xs) ∧ Canon xs ∧ xs.length = k ∧ (n = true → k ≠ 0) ∧ Digs xs) (h0 : 0 < z) (h1 : ab z < pw 1) : 0 < k ∧ xs.getD 0 0 = z := by
  obtain ⟨hz, hc, hk, _, hd⟩ := h
  have hv := val_nonneg hd
  have e : z = val xs := by cases n <;> simp [sgn] at hz <;> omega
  have hl := hc.length_le (k := 1) (by rw [← e]; unfold ab at h1; omega)
  match xs, hl with
  | [], _ => simp [val] at e; omega
  | [x], _ => simp at hk; refine ⟨by omega, ?_⟩; rw [e]; simp [val]
theorem opp_base {B N q r c : Nat} (hq : q = B / N) (hr : r = B % N) (hc : c + r = N * (q + 1)) : (B + c) % N = 0 := by
  have h := Nat.div_add_mod B N
  rw [← hq, ← hr] at h
  have e : B + c = N * (q + (q + 1)) := by rw [Nat.mul_add]; omega
  rw [e]
  exact Nat.mul_mod_right _ _
set_option maxRecDepth 100000 in
set_option maxHeartbeats 4000000 in
theorem PrimeBases_any (w : World) (hT : TabsP w) (n1 : Bool) (a1 : Option Addr) (k1 c1 : Nat) (xs1 : List Int) (h1 : Sl w a1 k1 c1 xs1) (hk1 : k1 ≤ 9223372036854775807) (b : Int) (hlb : 0 ≤ b) (hhb : b ≤ 65535) :
    Calls Tryd.prog 8 #[.agg #[.bool n1, .slice a1 k1 c1], .int .u16 b] w fun e w' => e = .returned (.bool true) ∧ Below w.heap.size w w' := by
  replace hT := hidd hT
  obtain ⟨z, hz⟩ : ∃ z, z = sgn n1 (val (xs1.take 1)) := ⟨_, rfl⟩
  have Bz : Hid (ab z < pw 1) := by rw [hz]; exact Num.ofMade h1.digs
  have Hz := hidd hz
  have K1 := hidd hk1
  have HB := hidd (And.intro hlb hhb)
  clear hz hk1 hlb hhb
  obtain ⟨w1, b1, hw1, hb1, hs1, E⟩ := fr_start w (F := Fq.raw n1 a1 k1 c1 xs1) (us := [.bool n1, .slice a1 k1 c1]) 24 rfl (by simp) (tame_int _ _ _ _) (show (Fq.raw n1 a1 k1 c1 xs1).P _ w from ⟨rfl, h1⟩)
  go_enter Tryd.func8, Tryd.ntmps8
  go_upto_region 1 with (fail)
  rw [← hw1]
  rw [← hb1]
  clear hw1 hb1 hs1
  refine region_fr (C := [Fq.is (.bool true), Fq.is (.bool true)]) (ks := [none]) (new := []) E rfl (by kernel_rfl) rfl rfl (fun hp => ⟨?_, ?_, trivial⟩) ?_
  · exact q_call0W hp (free_of rfl) trivial (enq_f_algorist_algoristlaw04_examples) rfl (fun w hbw => exPExamples (hT.out.mono hbw))
  · exact q_assign hp (free_of rfl) trivial (sq_in 0 rfl rfl (by simp) rfl (fun v w h => h))
  intro L vs w2 nb hL hC hn E2
  have e0 : vs 0 = .bool true := hC 0 (by simp)
  have e1 : vs 1 = .bool true := hC 1 (by simp)
  have E : Fr w [(b1, 2, Fq.raw n1 a1 k1 c1 xs1)] w2 := E2
  rw [lay_all hL]
  simp only [putAll, dstOf, List.length_cons, List.length_nil, Nat.zero_add, Nat.reduceAdd, List.getElem?_toArray, List.getElem?_cons_zero, List.getElem?_cons_succ, Option.bind_some, Act.put, List.setIfInBounds_toArray, List.set_cons_succ, List.set_cons_zero]
  rw [e0, e1]
  clear e0 e1 hC hn E2 hL vs L nb
  go_upto_region 2 with (fail)
  refine region_fr (C := [Fq.is (.bool true), Fq.is (.bool false)]) (ks := [none]) (new := []) E rfl (by kernel_rfl) rfl rfl (fun hp => ⟨?_, ?_, trivial⟩) ?_
  · exact q_move hp (free_of rfl) trivial (sq_out (s := 5) rfl rfl (fun _ _ => rfl))
  · exact q_one (F := fun v _ => v = .bool true) hp (free_of rfl) trivial (sq_in 0 rfl rfl (by simp) rfl (fun v w h => h)) (fun ρ w _ h => ⟨.bool false, by simp [execOp, go_sem, h], rfl⟩)
  intro L vs w3 nb hL hC hn E3
  have e0 : vs 0 = .bool true := hC 0 (by simp)
  have e1 : vs 1 = .bool false := hC 1 (by simp)
  have E : Fr w [(b1, 2, Fq.raw n1 a1 k1 c1 xs1)] w3 := E3
  rw [lay_all hL]
  simp only [putAll, dstOf, List.length_cons, List.length_nil, Nat.zero_add, Nat.reduceAdd, List.getElem?_toArray, List.getElem?_cons_zero, List.getElem?_cons_succ, Option.bind_some, Act.put, List.setIfInBounds_toArray, List.set_cons_succ, List.set_cons_zero]
  rw [e0, e1]
  clear e0 e1 hC hn E3 hL vs L nb
  go_upto_region 4 with (fail)
  refine region_fr (C := [Fq.raw n1 a1 k1 c1 xs1, Fq.num z, Fq.any, Fq.any]) (ks := [none]) (new := [⟨2, 3, 2, Fq.num 0, Fq.num z, none⟩]) E rfl (by kernel_rfl) rfl rfl (fun hp => ⟨?_, ?_, ?_, ?_, trivial⟩) ?_
  · exact q_loadRaw (off := 0) hp (free_of rfl) trivial (List.mem_iff_getElem?.2 ⟨0, rfl⟩) (.inl rfl) (Nat.le_of_ble_eq_true rfl) (sq_out (s := 2) rfl rfl (fun _ _ => rfl)) (fun us w hl h => ld_raw hl h)
  · exact q_call2 (F := (Fq.raw n1 a1 k1 c1 xs1).P) (G := (Fq.is (.int .i64 1)).P) hp (free_of rfl) trivial (enq_R_Made) (sq_in 0 rfl rfl (by simp) rfl (fun v w h => h)) (sq_const (fun _ => rfl)) (fun v v' w h h' => (by rw [Hz.out]; exact exRMade (j := 1) h h' K1.out (by omega)))
  · exact q_allocInt hp (List.mem_iff_getElem?.2 ⟨0, rfl⟩) rfl rfl rfl rfl (Nat.ne_of_beq_eq_false rfl) (fun _ _ => trivial) (old_ne rfl) (newk_ne rfl) (fun w => Num.zero w)
  · exact q_storeNewInt hp (List.mem_iff_getElem?.2 ⟨0, rfl⟩) rfl rfl rfl (own_ptr rfl rfl (by simp) rfl) (sq_in 1 rfl rfl (by simp) rfl (fun v w h => intV_num h)) (fun _ _ => trivial) (old_ne rfl) (newi_ne rfl)
  intro L vs w4 nb hL hC hn E4
  have e2 : vs 2 = .pointer (some ⟨nb 2, 0, none⟩) := hn _ (List.mem_iff_getElem?.2 ⟨0, rfl⟩)
  have E : Fr w [(nb 2, 2, Fq.num z), (b1, 2, Fq.raw n1 a1 k1 c1 xs1)] w4 := E4
  rw [lay_all hL]
  simp only [putAll, dstOf, List.length_cons, List.length_nil, Nat.zero_add, Nat.reduceAdd, List.getElem?_toArray, List.getElem?_cons_zero, List.getElem?_cons_succ, Option.bind_some, Act.put, List.setIfInBounds_toArray, List.set_cons_succ, List.set_cons_zero]
  rw [e2]
  generalize nb 2 = b4_2 at E ⊢
  generalize vs 0 = u4_0
  generalize vs 1 = u4_1
  clear e2 hC hn E4 hL vs L nb
  obtain ⟨m1, d1, j1, cc1, ys, hop, E⟩ := E.opened
  have HOP := hidd hop
  obtain ⟨B, hB⟩ : ∃ B : Nat, B = b.toNat + 1 := ⟨_, rfl⟩
  have HBB : Hid (1 ≤ B ∧ B ≤ 65536 ∧ (B : Int) = 1 + b) := by have := HB.out; refine ⟨?_, ?_, ?_⟩ <;> omega
  have WB := hidd (show IntKind.i64.wrap (1 + b) = (B : Int) by have := HBB.out; rw [← this.2.2]; exact IntWalk.i64_in _ (by omega))
  have WC := hidd (show IntKind.i64.wrap b = b from IntWalk.i64_in _ (by have := HB.out; omega))
  clear hop hB
  have BZ9 : Hid (ab z < pw 900) := Int.lt_of_lt_of_le Bz.out (pw_le (by omega))
  by_cases h2 : 2 < z
  · by_cases he : z % 2 = 1
    · have T1 : Hid (¬ cmpI z 2 ≤ 0) := by have := cmpIqgt.2 h2; show ¬ _; omega
      obtain ⟨hj, hy⟩ := one_word HOP.out (by omega) Bz.out
      obtain ⟨ad, off, rfl⟩ := E.addr hj
      have HJ := hidd hj
      have HY := hidd hy
      have WM := hidd (show Int.tmod z 2 = 1 by rw [Int.tmod_eq_emod_of_nonneg (by omega)]; omega)
      clear hj hy
      have hpw : pw 1 = 4294967296 := by decide
      obtain ⟨N, hN⟩ : ∃ N : Nat, z = (N : Int) := ⟨z.toNat, by omega⟩
      have HN : Hid (2 < N ∧ N < 4294967296 ∧ N % 2 = 1 ∧ z = (N : Int) ∧ 2 < z ∧ z % 2 = 1) := by have := Bz.out; unfold ab at this; rw [hpw] at this; refine ⟨?_, ?_, ?_, ?_, ?_, ?_⟩ <;> omega
      obtain ⟨S, hS⟩ : ∃ S, S = strongB N B := ⟨_, rfl⟩
      have h264 : N ≤ 2 ^ 64 := by have := HN.out; omega
      have h22 : 2 ≤ N := by have := HN.out; omega
      have S1 : Hid (strongB N 1 = true) := (strongB_iff 1 h22 h264).2 (strong_one h22)
      have S2 : Hid (strongB N N = true) := (strongB_iff N h22 h264).2 (strong_zero h22 (Nat.mod_self N))
      have S3 : Hid (strongB N (B + N) = S) := by show _ = _; rw [hS]; exact strongB_eq h22 h264 (strong_congr (Nat.add_mod_right B N))
      obtain ⟨q, hq⟩ : ∃ q, q = B / N := ⟨_, rfl⟩
      obtain ⟨r, hr⟩ : ∃ r, r = B % N := ⟨_, rfl⟩
      have hrN : r < N := by rw [hr]; exact Nat.mod_lt _ (by omega)
      obtain ⟨M, hM⟩ : ∃ M, M = N * (q + 1) := ⟨_, rfl⟩
      have hMN : N ≤ M := by rw [hM]; exact Nat.le_mul_of_pos_right _ (by omega)
      have hqB : q ≤ B := by rw [hq]; exact Nat.div_le_self _ _
      have hMb : M ≤ 4294967296 * 65537 := by rw [hM]; exact Nat.mul_le_mul (by have := HN.out; omega) (by have := HBB.out; omega)
      obtain ⟨c, hc⟩ : ∃ c, c = M - r := ⟨_, rfl⟩
      have S4 : Hid (strongB N c = S) := by show _ = _; rw [hS]; exact (strongB_eq h22 h264 (strong_opp HN.out.2.2.1 h22 (opp_base hq hr (by rw [← hM, hc]; omega)))).symm
      have S0 : Hid (strongB N B = S) := hS.symm
      obtain ⟨cB, hc1⟩ : ∃ cB, cB = B + N := ⟨_, rfl⟩
      rw [← hc1] at S3
      have HC : Hid (1 ≤ c ∧ c ≤ 9223372036854775807 ∧ 1 ≤ cB ∧ cB ≤ 9223372036854775807) := by have := HN.out; have := HBB.out; refine ⟨?_, ?_, ?_, ?_⟩ <;> omega
      have W1 := hidd (show IntKind.i64.wrap z = (N : Int) by rw [hN]; exact IntWalk.i64_in _ (by have := HN.out; omega))
      have W2 := hidd (show IntKind.i64.wrap ((B : Int) + N) = (cB : Int) by have := HC.out; rw [show (B : Int) + N = (cB : Int) by omega]; exact IntWalk.i64_in _ (by omega))
      have W3 := hidd (show Int.tdiv (B : Int) N = (q : Int) by rw [Int.tdiv_eq_ediv_of_nonneg (by omega), hq]; exact (Int.natCast_ediv _ _).symm)
      have W4 := hidd (show IntKind.i64.wrap (q : Int) = (q : Int) from IntWalk.i64_in _ (by have := HBB.out; omega))
      have W5 := hidd (show ¬ N = 0 by omega)
      have W6 := hidd (show IntKind.i64.wrap ((q : Int) + 1) = (q : Int) + 1 from IntWalk.i64_in _ (by have := HBB.out; omega))
      have W7 := hidd (show IntKind.i64.wrap ((N : Int) * ((q : Int) + 1)) = (M : Int) by rw [show (N : Int) * ((q : Int) + 1) = (M : Int) by rw [hM, Int.natCast_mul, Int.natCast_add]; rfl]; exact IntWalk.i64_in _ (by omega))
      have W8 := hidd (show Int.tmod (B : Int) N = (r : Int) by rw [Int.tmod_eq_emod_of_nonneg (by omega), hr]; exact (Int.natCast_emod _ _).symm)
      have W9 := hidd (show IntKind.i64.wrap ((M : Int) - r) = (c : Int) by have := HC.out; rw [show (M : Int) - r = (c : Int) by omega]; exact IntWalk.i64_in _ (by omega))
      clear hpw hN hS h264 h22 hq hr hrN hM hMN hqB hMb hc hc1 h2 he HOP
      go_upto_region 5 with (fail)
      refine region_fr (C := [Fq.num z, Fq.tup2 (Fq.is (.bool true)) (Fq.is (.int .i64 0)), Fq.tup2 (Fq.is (.bool true)) (Fq.is (.int .i64 0)), Fq.is (.bool true), Fq.is (.int .i64 0), Fq.is (.bool true), Fq.is (.int .i64 0)]) (ks := [none, none]) (new := []) E rfl (by kernel_rfl) rfl rfl (fun hp => ⟨?_, ?_, ?_, ?_, ?_, ?_, ?_, trivial⟩) ?_
      · exact q_loadInt (off := 0) hp (free_of rfl) trivial (List.mem_iff_getElem?.2 ⟨0, rfl⟩) (.inl rfl) (Nat.le_of_ble_eq_true rfl) (sq_out (s := 6) rfl rfl (fun _ _ => rfl)) (fun us w hl h => ld_num hl h.2.2)
      · exact q_call2W (F := (Fq.num z).P) (G := (Fq.is (.int .i64 1)).P) hp (free_of rfl) trivial (enq_f_algorist_prime_Strong) rfl (sq_in 0 rfl rfl (by simp) rfl (fun v w h => h)) (sq_const (fun _ => rfl)) (fun v v' w hbw h h' => (by subst h'; exact strongN (b := 1) h (hT.out.mono hbw) BZ9.out HN.out.2.2.2.2.1 HN.out.2.2.2.2.2 ⟨by omega, by omega⟩ HN.out.2.2.2.1 (by have := HN.out; omega) S1.out))
      · exact q_move hp (free_of rfl) trivial (sq_in 1 rfl rfl (by simp) rfl (fun v w h => h))
      · exact q_extract2 hp (free_of rfl) trivial (sq_in 2 rfl rfl (by simp) rfl (fun v w h => h)) (fun v1 v2 w h1 h2 => ⟨_, rfl, h1⟩)
      · exact q_extract2 hp (free_of rfl) trivial (sq_in 2 rfl rfl (by simp) rfl (fun v w h => h)) (fun v1 v2 w h1 h2 => ⟨_, rfl, h2⟩)
      · exact q_assign hp (free_of rfl) trivial (sq_in 3 rfl rfl (by simp) rfl (fun v w h => h))
      · exact q_assign hp (free_of rfl) trivial (sq_in 4 rfl rfl (by simp) rfl (fun v w h => h))
      intro L vs w5 nb hL hC hn E5
      have e3 : vs 3 = .bool true := hC 3 (by simp)
      have e4 : vs 4 = .int .i64 0 := hC 4 (by simp)
      have e5 : vs 5 = .bool true := hC 5 (by simp)
      have e6 : vs 6 = .int .i64 0 := hC 6 (by simp)
      have E : Fr w [(b4_2, 2, Fq.nraw m1 (some ⟨ad, off, none⟩) j1 cc1 ys z), (b1, 2, Fq.raw n1 a1 k1 c1 xs1)] w5 := E5
      rw [lay_all hL]
      simp only [putAll, dstOf, List.length_cons, List.length_nil, Nat.zero_add, Nat.reduceAdd, List.getElem?_toArray, List.getElem?_cons_zero, List.getElem?_cons_succ, Option.bind_some, Act.put, List.setIfInBounds_toArray, List.set_cons_succ, List.set_cons_zero]
      rw [e3, e4, e5, e6]
      generalize vs 0 = u5_0
      generalize vs 1 = u5_1
      generalize vs 2 = u5_2
      clear e3 e4 e5 e6 hC hn E5 hL vs L nb
      go_upto_region 6 with (fail)
      refine region_fr (C := [Fq.is (.int .u16 b), Fq.is (.int .i64 b), Fq.is (.int .i64 (B : Int)), Fq.is (.int .i64 (B : Int))]) (ks := [none, none]) (new := []) E rfl (by kernel_rfl) rfl rfl (fun hp => ⟨?_, ?_, ?_, ?_, trivial⟩) ?_
      · exact q_move hp (free_of rfl) trivial (sq_out (s := 1) rfl rfl (fun _ _ => rfl))
      · exact q_one (F := fun v _ => v = .int .u16 b) hp (free_of rfl) trivial (sq_in 0 rfl rfl (by simp) rfl (fun v w h => h)) (fun ρ w hc h => ⟨.int .i64 b, by simp [execOp, go_sem, h, WC.out], rfl⟩)
      · exact q_one (F := fun v _ => v = .int .i64 b) hp (free_of rfl) trivial (sq_in 1 rfl rfl (by simp) rfl (fun v w h => h)) (fun ρ w hc h => ⟨.int .i64 (B : Int), by simp [execOp, go_sem, h, hc, WB.out], rfl⟩)
      · exact q_assign hp (free_of rfl) trivial (sq_in 2 rfl rfl (by simp) rfl (fun v w h => h))
      intro L vs w6 nb hL hC hn E6
      have e0 : vs 0 = .int .u16 b := hC 0 (by simp)
      have e1 : vs 1 = .int .i64 b := hC 1 (by simp)
      have e2 : vs 2 = .int .i64 (B : Int) := hC 2 (by simp)
      have e3 : vs 3 = .int .i64 (B : Int) := hC 3 (by simp)
      have E : Fr w [(b4_2, 2, Fq.nraw m1 (some ⟨ad, off, none⟩) j1 cc1 ys z), (b1, 2, Fq.raw n1 a1 k1 c1 xs1)] w6 := E6
      rw [lay_all hL]
      simp only [putAll, dstOf, List.length_cons, List.length_nil, Nat.zero_add, Nat.reduceAdd, List.getElem?_toArray, List.getElem?_cons_zero, List.getElem?_cons_succ, Option.bind_some, Act.put, List.setIfInBounds_toArray, List.set_cons_succ, List.set_cons_zero]
      rw [e0, e1, e2, e3]
      clear e0 e1 e2 e3 hC hn E6 hL vs L nb
      go_upto_region 7 with (fail)
      refine region_fr (C := [Fq.num z, Fq.is (.int .i64 (B : Int)), Fq.tup2 (Fq.is (.bool S)) (Fq.is (.int .i64 0)), Fq.tup2 (Fq.is (.bool S)) (Fq.is (.int .i64 0)), Fq.is (.bool S), Fq.is (.int .i64 0), Fq.is (.bool S), Fq.is (.int .i64 0)]) (ks := [none, none]) (new := []) E rfl (by kernel_rfl) rfl rfl (fun hp => ⟨?_, ?_, ?_, ?_, ?_, ?_, ?_, ?_, trivial⟩) ?_
      · exact q_loadInt (off := 0) hp (free_of rfl) trivial (List.mem_iff_getElem?.2 ⟨0, rfl⟩) (.inl rfl) (Nat.le_of_ble_eq_true rfl) (sq_out (s := 6) rfl rfl (fun _ _ => rfl)) (fun us w hl h => ld_num hl h.2.2)
      · exact q_move hp (free_of rfl) trivial (sq_out (s := 9) rfl rfl (fun _ _ => rfl))
      · exact q_call2W (F := (Fq.num z).P) (G := (Fq.is (.int .i64 (B : Int))).P) hp (free_of rfl) trivial (enq_f_algorist_prime_Strong) rfl (sq_in 0 rfl rfl (by simp) rfl (fun v w h => h)) (sq_in 1 rfl rfl (by simp) rfl (fun v w h => h)) (fun v v' w hbw h h' => (by subst h'; exact strongN (b := B) h (hT.out.mono hbw) BZ9.out HN.out.2.2.2.2.1 HN.out.2.2.2.2.2 ⟨HBB.out.1, by have := HBB.out; omega⟩ HN.out.2.2.2.1 (by have := HN.out; omega) S0.out))
      · exact q_move hp (free_of rfl) trivial (sq_in 2 rfl rfl (by simp) rfl (fun v w h => h))
      · exact q_extract2 hp (free_of rfl) trivial (sq_in 3 rfl rfl (by simp) rfl (fun v w h => h)) (fun v1 v2 w h1 h2 => ⟨_, rfl, h1⟩)
      · exact q_extract2 hp (free_of rfl) trivial (sq_in 3 rfl rfl (by simp) rfl (fun v w h => h)) (fun v1 v2 w h1 h2 => ⟨_, rfl, h2⟩)
      · exact q_assign hp (free_of rfl) trivial (sq_in 4 rfl rfl (by simp) rfl (fun v w h => h))
      · exact q_assign hp (free_of rfl) trivial (sq_in 5 rfl rfl (by simp) rfl (fun v w h => h))
      intro L vs w7 nb hL hC hn E7
      have e1 : vs 1 = .int .i64 (B : Int) := hC 1 (by simp)
      have e4 : vs 4 = .bool S := hC 4 (by simp)
      have e5 : vs 5 = .int .i64 0 := hC 5 (by simp)
      have e6 : vs 6 = .bool S := hC 6 (by simp)
      have e7 : vs 7 = .int .i64 0 := hC 7 (by simp)
      have E : Fr w [(b4_2, 2, Fq.nraw m1 (some ⟨ad, off, none⟩) j1 cc1 ys z), (b1, 2, Fq.raw n1 a1 k1 c1 xs1)] w7 := E7
      rw [lay_all hL]
      simp only [putAll, dstOf, List.length_cons, List.length_nil, Nat.zero_add, Nat.reduceAdd, List.getElem?_toArray, List.getElem?_cons_zero, List.getElem?_cons_succ, Option.bind_some, Act.put, List.setIfInBounds_toArray, List.set_cons_succ, List.set_cons_zero]
      rw [e1, e4, e5, e6, e7]
      generalize vs 0 = u7_0
      generalize vs 2 = u7_2
      generalize vs 3 = u7_3
      clear e1 e4 e5 e6 e7 hC hn E7 hL vs L nb
      go_upto_region 8 with (fail)
      have B8 : Hid (ab ((2)) < pw 3) := ab_lit (by decide)
      refine region_fr (C := [Fq.num z, Fq.num (2), Fq.is (.int .i64 (cmpI z (2))), Fq.is (.bool false), Fq.is (.bool false), Fq.is (.pointer (some ⟨b4_2, 1, none⟩)), Fq.is (.slice (some ⟨ad, off, none⟩) j1 cc1), Fq.is (.pointer (some ⟨ad, off, none⟩)), Fq.is (.int .u32 z), Fq.is (.int .u32 1), Fq.is (.bool false), Fq.is (.bool false)]) (ks := [none, none]) (new := []) E rfl (by kernel_rfl) rfl rfl (fun hp => ⟨?_, ?_, ?_, ?_, ?_, ?_, ?_, ?_, ?_, ?_, ?_, ?_, trivial⟩) ?_
      · exact q_loadInt (off := 0) hp (free_of rfl) trivial (List.mem_iff_getElem?.2 ⟨0, rfl⟩) (.inl rfl) (Nat.le_of_ble_eq_true rfl) (sq_out (s := 6) rfl rfl (fun _ _ => rfl)) (fun us w hl h => ld_num hl h.2.2)
      · exact q_call1 (F := (Fq.is (.int .i64 2)).P) hp (free_of rfl) trivial (enq_R_Of) (sq_const (fun _ => rfl)) (fun v w h => (by subst h; exact rOfK w (2) (by omega) (by omega)))
      · exact q_call2 (F := (Fq.num z).P) (G := (Fq.num (2)).P) hp (free_of rfl) trivial (enq_R_Cmp) (sq_in 0 rfl rfl (by simp) rfl (fun v w h => h)) (sq_in 1 rfl rfl (by simp) rfl (fun v w h => h)) (fun v v' w h h' => exRCmp' h h')
      · exact q_one (F := fun v _ => v = .int .i64 (cmpI z (2))) hp (free_of rfl) trivial (sq_in 2 rfl rfl (by simp) rfl (fun v w h => h)) (fun ρ w hc h => ⟨.bool false, by simp [execOp, go_sem, h, hc, T1.out], rfl⟩)
      · exact q_move hp (free_of rfl) trivial (sq_in 3 rfl rfl (by simp) rfl (fun v w h => h))
      · exact q_addr (b := b4_2) (off := 0) (off' := 1) hp (free_of rfl) (gq_some rfl rfl (by simp) rfl (fun v w h => h)) (sq_out (s := 6) rfl rfl (fun _ _ => rfl)) (fun ρ w h => by simp [execOp, go_sem, h]) (fun _ => rfl)
      · exact q_loadMagP (off := 1) (v := .slice (some ⟨ad, off, none⟩) j1 cc1) hp (free_of rfl) (gq_some rfl rfl (by simp) rfl (fun v w h => h)) (List.mem_iff_getElem?.2 ⟨0, rfl⟩) (.inl rfl) (Nat.le_of_ble_eq_true rfl) (sq_in 5 rfl rfl (by simp) rfl (fun v w h => h)) (fun us w hl h => ⟨ld_nrawS hl h, rfl⟩)
      · exact q_one (F := fun v _ => v = .slice (some ⟨ad, off, none⟩) j1 cc1) hp (free_of rfl) (gq_some rfl rfl (by simp) rfl (fun v w h => h)) (sq_in 6 rfl rfl (by simp) rfl (fun v w h => h)) (fun ρ w hc h => ⟨.pointer (some ⟨ad, off, none⟩), by simp [execOp, go_sem, h, hc, HJ.out], rfl⟩)
      · exact q_loadWord (bx := b4_2) (x0 := z) hp (free_of rfl) (gq_some rfl rfl (by simp) rfl (fun v w h => h)) (List.mem_iff_getElem?.2 ⟨0, rfl⟩) (.inl rfl) (sq_in 7 rfl rfl (by simp) rfl (fun v w h => h)) (fun us w hl h => first_word HJ.out HY.out h) (fun _ => rfl)
      · exact q_one (F := fun v _ => v = .int .u32 z) hp (free_of rfl) (gq_some rfl rfl (by simp) rfl (fun v w h => h)) (sq_in 8 rfl rfl (by simp) rfl (fun v w h => h)) (fun ρ w hc h => ⟨.int .u32 1, by simp [execOp, go_sem, h, hc, WM.out], rfl⟩)
      · exact q_one (F := fun v _ => v = .int .u32 1) hp (free_of rfl) (gq_some rfl rfl (by simp) rfl (fun v w h => h)) (sq_in 9 rfl rfl (by simp) rfl (fun v w h => h)) (fun ρ w hc h => ⟨.bool false, by simp [execOp, go_sem, h, hc], rfl⟩)
      · exact q_two (F := fun v _ => v = .bool false) (G := fun v _ => v = .bool false) hp (free_of rfl) trivial (sq_in 4 rfl rfl (by simp) rfl (fun v w h => h)) (sq_in 10 rfl rfl (by simp) rfl (fun v w h => h)) (fun ρ w hc h h' => ⟨_, by simp [execOp, go_sem, h, h'], rfl⟩)
      intro L vs w9 nb hL hC hn E9
      have e2 : vs 2 = .int .i64 (cmpI z (2)) := hC 2 (by simp)
      have e3 : vs 3 = .bool false := hC 3 (by simp)
      have e4 : vs 4 = .bool false := hC 4 (by simp)
      have e5 : vs 5 = .pointer (some ⟨b4_2, 1, none⟩) := hC 5 (by simp)
      have e6 : vs 6 = .slice (some ⟨ad, off, none⟩) j1 cc1 := hC 6 (by simp)
      have e7 : vs 7 = .pointer (some ⟨ad, off, none⟩) := hC 7 (by simp)
      have e8 : vs 8 = .int .u32 z := hC 8 (by simp)
      have e9 : vs 9 = .int .u32 1 := hC 9 (by simp)
      have e10 : vs 10 = .bool false := hC 10 (by simp)
      have e11 : vs 11 = .bool false := hC 11 (by simp)
      have E : Fr w [(b4_2, 2, Fq.nraw m1 (some ⟨ad, off, none⟩) j1 cc1 ys z), (b1, 2, Fq.raw n1 a1 k1 c1 xs1)] w9 := E9
      rw [lay_all hL]
      simp only [putAll, dstOf, List.length_cons, List.length_nil, Nat.zero_add, Nat.reduceAdd, List.getElem?_toArray, List.getElem?_cons_zero, List.getElem?_cons_succ, Option.bind_some, Act.put, List.setIfInBounds_toArray, List.set_cons_succ, List.set_cons_zero]
      rw [e2, e3, e4, e5, e6, e7, e8, e9, e10, e11]
      generalize vs 0 = u9_0
      generalize vs 1 = u9_1
      clear e2 e3 e4 e5 e6 e7 e8 e9 e10 e11 hC hn E9 hL vs L nb
      clear T1 WM WB WC
      go_upto_region 10 with (fail)
      refine region_fr (C := [Fq.is (.pointer (some ⟨b4_2, 1, none⟩)), Fq.is (.slice (some ⟨ad, off, none⟩) j1 cc1), Fq.is (.pointer (some ⟨ad, off, none⟩)), Fq.is (.int .u32 z), Fq.is (.int .i64 (N : Int)), Fq.is (.int .i64 (N : Int))]) (ks := [none, none]) (new := []) E rfl (by kernel_rfl) rfl rfl (fun hp => ⟨?_, ?_, ?_, ?_, ?_, ?_, trivial⟩) ?_
      · exact q_addr (b := b4_2) (off := 0) (off' := 1) hp (free_of rfl) trivial (sq_out (s := 6) rfl rfl (fun _ _ => rfl)) (fun ρ w h => by simp [execOp, go_sem, h]) (fun _ => rfl)
      · exact q_loadMagP (off := 1) (v := .slice (some ⟨ad, off, none⟩) j1 cc1) hp (free_of rfl) trivial (List.mem_iff_getElem?.2 ⟨0, rfl⟩) (.inl rfl) (Nat.le_of_ble_eq_true rfl) (sq_in 0 rfl rfl (by simp) rfl (fun v w h => h)) (fun us w hl h => ⟨ld_nrawS hl h, rfl⟩)
      · exact q_one (F := fun v _ => v = .slice (some ⟨ad, off, none⟩) j1 cc1) hp (free_of rfl) trivial (sq_in 1 rfl rfl (by simp) rfl (fun v w h => h)) (fun ρ w hc h => ⟨.pointer (some ⟨ad, off, none⟩), by simp [execOp, go_sem, h, hc, HJ.out], rfl⟩)
      · exact q_loadWord (bx := b4_2) (x0 := z) hp (free_of rfl) trivial (List.mem_iff_getElem?.2 ⟨0, rfl⟩) (.inl rfl) (sq_in 2 rfl rfl (by simp) rfl (fun v w h => h)) (fun us w hl h => first_word HJ.out HY.out h) (fun _ => rfl)
      · exact q_one (F := fun v _ => v = .int .u32 z) hp (free_of rfl) trivial (sq_in 3 rfl rfl (by simp) rfl (fun v w h => h)) (fun ρ w hc h => ⟨.int .i64 (N : Int), by simp [execOp, go_sem, h, W1.out], rfl⟩)
      · exact q_assign hp (free_of rfl) trivial (sq_in 4 rfl rfl (by simp) rfl (fun v w h => h))
      intro L vs w10 nb hL hC hn E10
      have e0 : vs 0 = .pointer (some ⟨b4_2, 1, none⟩) := hC 0 (by simp)
      have e1 : vs 1 = .slice (some ⟨ad, off, none⟩) j1 cc1 := hC 1 (by simp)
      have e2 : vs 2 = .pointer (some ⟨ad, off, none⟩) := hC 2 (by simp)
      have e3 : vs 3 = .int .u32 z := hC 3 (by simp)
      have e4 : vs 4 = .int .i64 (N : Int) := hC 4 (by simp)
      have e5 : vs 5 = .int .i64 (N : Int) := hC 5 (by simp)
      have E : Fr w [(b4_2, 2, Fq.nraw m1 (some ⟨ad, off, none⟩) j1 cc1 ys z), (b1, 2, Fq.raw n1 a1 k1 c1 xs1)] w10 := E10
      rw [lay_all hL]
      simp only [putAll, dstOf, List.length_cons, List.length_nil, Nat.zero_add, Nat.reduceAdd, List.getElem?_toArray, List.getElem?_cons_zero, List.getElem?_cons_succ, Option.bind_some, Act.put, List.setIfInBounds_toArray, List.set_cons_succ, List.set_cons_zero]
      rw [e0, e1, e2, e3, e4, e5]
      clear e0 e1 e2 e3 e4 e5 hC hn E10 hL vs L nb
      go_upto_region 11 with (fail)
      refine region_fr (C := [Fq.num z, Fq.is (.int .i64 (B : Int)), Fq.is (.int .i64 (N : Int)), Fq.is (.int .i64 (cB : Int)), Fq.tup2 (Fq.is (.bool S)) (Fq.is (.int .i64 0)), Fq.tup2 (Fq.is (.bool S)) (Fq.is (.int .i64 0)), Fq.is (.bool S), Fq.is (.int .i64 0), Fq.is (.bool S), Fq.is (.int .i64 0)]) (ks := [none, none]) (new := []) E rfl (by kernel_rfl) rfl rfl (fun hp => ⟨?_, ?_, ?_, ?_, ?_, ?_, ?_, ?_, ?_, ?_, trivial⟩) ?_
      · exact q_loadInt (off := 0) hp (free_of rfl) trivial (List.mem_iff_getElem?.2 ⟨0, rfl⟩) (.inl rfl) (Nat.le_of_ble_eq_true rfl) (sq_out (s := 6) rfl rfl (fun _ _ => rfl)) (fun us w hl h => ld_num hl h.2.2)
      · exact q_move hp (free_of rfl) trivial (sq_out (s := 9) rfl rfl (fun _ _ => rfl))
      · exact q_move hp (free_of rfl) trivial (sq_out (s := 12) rfl rfl (fun _ _ => rfl))
      · exact q_two (F := fun v _ => v = .int .i64 (B : Int)) (G := fun v _ => v = .int .i64 (N : Int)) hp (free_of rfl) trivial (sq_in 1 rfl rfl (by simp) rfl (fun v w h => h)) (sq_in 2 rfl rfl (by simp) rfl (fun v w h => h)) (fun ρ w hc h h' => ⟨.int .i64 (cB : Int), by simp [execOp, go_sem, h, h', W2.out], rfl⟩)
      · exact q_call2W (F := (Fq.num z).P) (G := (Fq.is (.int .i64 (cB : Int))).P) hp (free_of rfl) trivial (enq_f_algorist_prime_Strong) rfl (sq_in 0 rfl rfl (by simp) rfl (fun v w h => h)) (sq_in 3 rfl rfl (by simp) rfl (fun v w h => h)) (fun v v' w hbw h h' => (by subst h'; exact strongN (b := cB) h (hT.out.mono hbw) BZ9.out HN.out.2.2.2.2.1 HN.out.2.2.2.2.2 HC.out.2.2 HN.out.2.2.2.1 (by have := HN.out; omega) S3.out))
      · exact q_move hp (free_of rfl) trivial (sq_in 4 rfl rfl (by simp) rfl (fun v w h => h))
      · exact q_extract2 hp (free_of rfl) trivial (sq_in 5 rfl rfl (by simp) rfl (fun v w h => h)) (fun v1 v2 w h1 h2 => ⟨_, rfl, h1⟩)
      · exact q_extract2 hp (free_of rfl) trivial (sq_in 5 rfl rfl (by simp) rfl (fun v w h => h)) (fun v1 v2 w h1 h2 => ⟨_, rfl, h2⟩)
      · exact q_assign hp (free_of rfl) trivial (sq_in 6 rfl rfl (by simp) rfl (fun v w h => h))
      · exact q_assign hp (free_of rfl) trivial (sq_in 7 rfl rfl (by simp) rfl (fun v w h => h))
      intro L vs w11 nb hL hC hn E11
      have e1 : vs 1 = .int .i64 (B : Int) := hC 1 (by simp)
      have e2 : vs 2 = .int .i64 (N : Int) := hC 2 (by simp)
      have e3 : vs 3 = .int .i64 (cB : Int) := hC 3 (by simp)
      have e6 : vs 6 = .bool S := hC 6 (by simp)
      have e7 : vs 7 = .int .i64 0 := hC 7 (by simp)
      have e8 : vs 8 = .bool S := hC 8 (by simp)
      have e9 : vs 9 = .int .i64 0 := hC 9 (by simp)
      have E : Fr w [(b4_2, 2, Fq.nraw m1 (some ⟨ad, off, none⟩) j1 cc1 ys z), (b1, 2, Fq.raw n1 a1 k1 c1 xs1)] w11 := E11
      rw [lay_all hL]
      simp only [putAll, dstOf, List.length_cons, List.length_nil, Nat.zero_add, Nat.reduceAdd, List.getElem?_toArray, List.getElem?_cons_zero, List.getElem?_cons_succ, Option.bind_some, Act.put, List.setIfInBounds_toArray, List.set_cons_succ, List.set_cons_zero]
      rw [e1, e2, e3, e6, e7, e8, e9]
      generalize vs 0 = u11_0
      generalize vs 4 = u11_4
      generalize vs 5 = u11_5
      clear e1 e2 e3 e6 e7 e8 e9 hC hn E11 hL vs L nb
      clear W1 W2 HJ HY
      go_upto_region 12 with (fail)
      refine region_fr (C := [Fq.num z, Fq.is (.int .i64 (N : Int)), Fq.tup2 (Fq.is (.bool true)) (Fq.is (.int .i64 0)), Fq.tup2 (Fq.is (.bool true)) (Fq.is (.int .i64 0)), Fq.is (.bool true), Fq.is (.int .i64 0), Fq.is (.bool true), Fq.is (.int .i64 0)]) (ks := [none, none]) (new := []) E rfl (by kernel_rfl) rfl rfl (fun hp => ⟨?_, ?_, ?_, ?_, ?_, ?_, ?_, ?_, trivial⟩) ?_
      · exact q_loadInt (off := 0) hp (free_of rfl) trivial (List.mem_iff_getElem?.2 ⟨0, rfl⟩) (.inl rfl) (Nat.le_of_ble_eq_true rfl) (sq_out (s := 6) rfl rfl (fun _ _ => rfl)) (fun us w hl h => ld_num hl h.2.2)
      · exact q_move hp (free_of rfl) trivial (sq_out (s := 12) rfl rfl (fun _ _ => rfl))
      · exact q_call2W (F := (Fq.num z).P) (G := (Fq.is (.int .i64 (N : Int))).P) hp (free_of rfl) trivial (enq_f_algorist_prime_Strong) rfl (sq_in 0 rfl rfl (by simp) rfl (fun v w h => h)) (sq_in 1 rfl rfl (by simp) rfl (fun v w h => h)) (fun v v' w hbw h h' => (by subst h'; exact strongN (b := N) h (hT.out.mono hbw) BZ9.out HN.out.2.2.2.2.1 HN.out.2.2.2.2.2 ⟨by have := HN.out; omega, by have := HN.out; omega⟩ HN.out.2.2.2.1 (by have := HN.out; omega) S2.out))
      · exact q_move hp (free_of rfl) trivial (sq_in 2 rfl rfl (by simp) rfl (fun v w h => h))
      · exact q_extract2 hp (free_of rfl) trivial (sq_in 3 rfl rfl (by simp) rfl (fun v w h => h)) (fun v1 v2 w h1 h2 => ⟨_, rfl, h1⟩)
      · exact q_extract2 hp (free_of rfl) trivial (sq_in 3 rfl rfl (by simp) rfl (fun v w h => h)) (fun v1 v2 w h1 h2 => ⟨_, rfl, h2⟩)
      · exact q_assign hp (free_of rfl) trivial (sq_in 4 rfl rfl (by simp) rfl (fun v w h => h))
      · exact q_assign hp (free_of rfl) trivial (sq_in 5 rfl rfl (by simp) rfl (fun v w h => h))
      intro L vs w12 nb hL hC hn E12
      have e1 : vs 1 = .int .i64 (N : Int) := hC 1 (by simp)
      have e4 : vs 4 = .bool true := hC 4 (by simp)
      have e5 : vs 5 = .int .i64 0 := hC 5 (by simp)
      have e6 : vs 6 = .bool true := hC 6 (by simp)
      have e7 : vs 7 = .int .i64 0 := hC 7 (by simp)
      have E : Fr w [(b4_2, 2, Fq.nraw m1 (some ⟨ad, off, none⟩) j1 cc1 ys z), (b1, 2, Fq.raw n1 a1 k1 c1 xs1)] w12 := E12
      rw [lay_all hL]
      simp only [putAll, dstOf, List.length_cons, List.length_nil, Nat.zero_add, Nat.reduceAdd, List.getElem?_toArray, List.getElem?_cons_zero, List.getElem?_cons_succ, Option.bind_some, Act.put, List.setIfInBounds_toArray, List.set_cons_succ, List.set_cons_zero]
      rw [e1, e4, e5, e6, e7]
      generalize vs 0 = u12_0
      generalize vs 2 = u12_2
      generalize vs 3 = u12_3
      clear e1 e4 e5 e6 e7 hC hn E12 hL vs L nb
      go_upto_region 13 with (fail)
      refine region_fr (C := [Fq.num z, Fq.is (.int .i64 (N : Int)), Fq.is (.int .i64 (B : Int)), Fq.is (.int .i64 (N : Int)), Fq.is (.int .i64 (q : Int)), Fq.is (.int .i64 ((q : Int) + 1)), Fq.is (.int .i64 (M : Int)), Fq.is (.int .i64 (B : Int)), Fq.is (.int .i64 (N : Int)), Fq.is (.int .i64 (r : Int)), Fq.is (.int .i64 (c : Int)), Fq.tup2 (Fq.is (.bool S)) (Fq.is (.int .i64 0)), Fq.tup2 (Fq.is (.bool S)) (Fq.is (.int .i64 0)), Fq.is (.bool S), Fq.is (.int .i64 0), Fq.is (.bool S), Fq.is (.int .i64 0)]) (ks := [none, none]) (new := []) E rfl (by kernel_rfl) rfl rfl (fun hp => ⟨?_, ?_, ?_, ?_, ?_, ?_, ?_, ?_, ?_, ?_, ?_, ?_, ?_, ?_, ?_, ?_, ?_, trivial⟩) ?_
      · exact q_loadInt (off := 0) hp (free_of rfl) trivial (List.mem_iff_getElem?.2 ⟨0, rfl⟩) (.inl rfl) (Nat.le_of_ble_eq_true rfl) (sq_out (s := 6) rfl rfl (fun _ _ => rfl)) (fun us w hl h => ld_num hl h.2.2)
      · exact q_move hp (free_of rfl) trivial (sq_out (s := 12) rfl rfl (fun _ _ => rfl))
      · exact q_move hp (free_of rfl) trivial (sq_out (s := 9) rfl rfl (fun _ _ => rfl))
      · exact q_move hp (free_of rfl) trivial (sq_out (s := 12) rfl rfl (fun _ _ => rfl))
      · exact q_two (F := fun v _ => v = .int .i64 (B : Int)) (G := fun v _ => v = .int .i64 (N : Int)) hp (free_of rfl) trivial (sq_in 2 rfl rfl (by simp) rfl (fun v w h => h)) (sq_in 3 rfl rfl (by simp) rfl (fun v w h => h)) (fun ρ w hc h h' => ⟨.int .i64 (q : Int), by simp [execOp, go_sem, h, h', W5.out, W3.out, W4.out], rfl⟩)
      · exact q_one (F := fun v _ => v = .int .i64 (q : Int)) hp (free_of rfl) trivial (sq_in 4 rfl rfl (by simp) rfl (fun v w h => h)) (fun ρ w hc h => ⟨.int .i64 ((q : Int) + 1), by simp [execOp, go_sem, h, hc, W6.out], rfl⟩)
      · exact q_two (F := fun v _ => v = .int .i64 (N : Int)) (G := fun v _ => v = .int .i64 ((q : Int) + 1)) hp (free_of rfl) trivial (sq_in 1 rfl rfl (by simp) rfl (fun v w h => h)) (sq_in 5 rfl rfl (by simp) rfl (fun v w h => h)) (fun ρ w hc h h' => ⟨.int .i64 (M : Int), by simp [execOp, go_sem, h, h', W7.out], rfl⟩)
      · exact q_move hp (free_of rfl) trivial (sq_out (s := 9) rfl rfl (fun _ _ => rfl))
      · exact q_move hp (free_of rfl) trivial (sq_out (s := 12) rfl rfl (fun _ _ => rfl))
      · exact q_two (F := fun v _ => v = .int .i64 (B : Int)) (G := fun v _ => v = .int .i64 (N : Int)) hp (free_of rfl) trivial (sq_in 7 rfl rfl (by simp) rfl (fun v w h => h)) (sq_in 8 rfl rfl (by simp) rfl (fun v w h => h)) (fun ρ w hc h h' => ⟨.int .i64 (r : Int), by simp [execOp, go_sem, h, h', W5.out, W8.out], rfl⟩)
      · exact q_two (F := fun v _ => v = .int .i64 (M : Int)) (G := fun v _ => v = .int .i64 (r : Int)) hp (free_of rfl) trivial (sq_in 6 rfl rfl (by simp) rfl (fun v w h => h)) (sq_in 9 rfl rfl (by simp) rfl (fun v w h => h)) (fun ρ w hc h h' => ⟨.int .i64 (c : Int), by simp [execOp, go_sem, h, h', W9.out], rfl⟩)
      · exact q_call2W (F := (Fq.num z).P) (G := (Fq.is (.int .i64 (c : Int))).P) hp (free_of rfl) trivial (enq_f_algorist_prime_Strong) rfl (sq_in 0 rfl rfl (by simp) rfl (fun v w h => h)) (sq_in 10 rfl rfl (by simp) rfl (fun v w h => h)) (fun v v' w hbw h h' => (by subst h'; exact strongN (b := c) h (hT.out.mono hbw) BZ9.out HN.out.2.2.2.2.1 HN.out.2.2.2.2.2 ⟨HC.out.1, HC.out.2.1⟩ HN.out.2.2.2.1 (by have := HN.out; omega) S4.out))
      · exact q_move hp (free_of rfl) trivial (sq_in 11 rfl rfl (by simp) rfl (fun v w h => h))
      · exact q_extract2 hp (free_of rfl) trivial (sq_in 12 rfl rfl (by simp) rfl (fun v w h => h)) (fun v1 v2 w h1 h2 => ⟨_, rfl, h1⟩)
      · exact q_extract2 hp (free_of rfl) trivial (sq_in 12 rfl rfl (by simp) rfl (fun v w h => h)) (fun v1 v2 w h1 h2 => ⟨_, rfl, h2⟩)
      · exact q_assign hp (free_of rfl) trivial (sq_in 13 rfl rfl (by simp) rfl (fun v w h => h))
      · exact q_assign hp (free_of rfl) trivial (sq_in 14 rfl rfl (by simp) rfl (fun v w h => h))
      intro L vs w13 nb hL hC hn E13
      have e1 : vs 1 = .int .i64 (N : Int) := hC 1 (by simp)
      have e2 : vs 2 = .int .i64 (B : Int) := hC 2 (by simp)
      have e3 : vs 3 = .int .i64 (N : Int) := hC 3 (by simp)
      have e4 : vs 4 = .int .i64 (q : Int) := hC 4 (by simp)
      have e5 : vs 5 = .int .i64 ((q : Int) + 1) := hC 5 (by simp)
      have e6 : vs 6 = .int .i64 (M : Int) := hC 6 (by simp)
      have e7 : vs 7 = .int .i64 (B : Int) := hC 7 (by simp)
      have e8 : vs 8 = .int .i64 (N : Int) := hC 8 (by simp)
      have e9 : vs 9 = .int .i64 (r : Int) := hC 9 (by simp)
      have e10 : vs 10 = .int .i64 (c : Int) := hC 10 (by simp)
      have e13 : vs 13 = .bool S := hC 13 (by simp)
      have e14 : vs 14 = .int .i64 0 := hC 14 (by simp)
      have e15 : vs 15 = .bool S := hC 15 (by simp)
      have e16 : vs 16 = .int .i64 0 := hC 16 (by simp)
      have E : Fr w [(b4_2, 2, Fq.nraw m1 (some ⟨ad, off, none⟩) j1 cc1 ys z), (b1, 2, Fq.raw n1 a1 k1 c1 xs1)] w13 := E13
      rw [lay_all hL]
      simp only [putAll, dstOf, List.length_cons, List.length_nil, Nat.zero_add, Nat.reduceAdd, List.getElem?_toArray, List.getElem?_cons_zero, List.getElem?_cons_succ, Option.bind_some, Act.put, List.setIfInBounds_toArray, List.set_cons_succ, List.set_cons_zero]
      rw [e1, e2, e3, e4, e5, e6, e7, e8, e9, e10, e13, e14, e15, e16]
      generalize vs 0 = u13_0
      generalize vs 11 = u13_11
      generalize vs 12 = u13_12
      clear e1 e2 e3 e4 e5 e6 e7 e8 e9 e10 e13 e14 e15 e16 hC hn E13 hL vs L nb
      clear W3 W4 W5 W6 W7 W8 W9
      go_upto_region 14 with (fail)
      refine region_fr (C := [Fq.is (.bool true), Fq.is (.bool true), Fq.is (.int .i64 0), Fq.is (.bool true), Fq.is (.bool true), Fq.is (.bool true), Fq.is (.int .i64 0), Fq.is (.bool true), Fq.is (.bool true), Fq.is (.bool true), Fq.is (.int .i64 0), Fq.is (.bool true), Fq.is (.bool true), Fq.is (.bool true), Fq.is (.int .i64 0), Fq.is (.bool true), Fq.is (.bool true), Fq.is (.bool true), Fq.is (.int .i64 0), Fq.is (.bool true), Fq.is (.bool true), Fq.is (.bool true), Fq.is (.bool true), Fq.is (.bool true), Fq.is (.bool true), Fq.is (.bool S), Fq.is (.bool S), Fq.is (.bool true), Fq.is (.bool true), Fq.is (.bool true), Fq.is (.bool true), Fq.is (.bool true), Fq.is (.bool true), Fq.is (.bool S), Fq.is (.bool S), Fq.is (.bool true), Fq.is (.bool true), Fq.is (.bool true)]) (ks := [none, none]) (new := []) E rfl (by kernel_rfl) rfl rfl (fun hp => ⟨?_, ?_, ?_, ?_, ?_, ?_, ?_, ?_, ?_, ?_, ?_, ?_, ?_, ?_, ?_, ?_, ?_, ?_, ?_, ?_, ?_, ?_, ?_, ?_, ?_, ?_, ?_, ?_, ?_, ?_, ?_, ?_, ?_, ?_, ?_, ?_, ?_, ?_, trivial⟩) ?_
      · exact q_move hp (free_of rfl) trivial (sq_out (s := 5) rfl rfl (fun _ _ => rfl))
      · exact q_move hp (free_of rfl) trivial (sq_in 0 rfl rfl (by simp) rfl (fun v w h => h))
      · exact q_move hp (free_of rfl) (gq_some rfl rfl (by simp) rfl (fun v w h => h)) (sq_out (s := 8) rfl rfl (fun _ _ => rfl))
      · exact q_one (F := fun v _ => v = .int .i64 0) hp (free_of rfl) (gq_some rfl rfl (by simp) rfl (fun v w h => h)) (sq_in 2 rfl rfl (by simp) rfl (fun v w h => h)) (fun ρ w hc h => ⟨.bool true, by simp [execOp, go_sem, h, hc], rfl⟩)
      · exact q_two (F := fun v _ => v = .bool true) (G := fun v _ => v = .bool true) hp (free_of rfl) trivial (sq_in 1 rfl rfl (by simp) rfl (fun v w h => h)) (sq_in 3 rfl rfl (by simp) rfl (fun v w h => h)) (fun ρ w hc h h' => ⟨_, by simp [execOp, go_sem, h, h'], rfl⟩)
      · exact q_move hp (free_of rfl) trivial (sq_in 4 rfl rfl (by simp) rfl (fun v w h => h))
      · exact q_move hp (free_of rfl) (gq_some rfl rfl (by simp) rfl (fun v w h => h)) (sq_out (s := 11) rfl rfl (fun _ _ => rfl))
      · exact q_one (F := fun v _ => v = .int .i64 0) hp (free_of rfl) (gq_some rfl rfl (by simp) rfl (fun v w h => h)) (sq_in 6 rfl rfl (by simp) rfl (fun v w h => h)) (fun ρ w hc h => ⟨.bool true, by simp [execOp, go_sem, h, hc], rfl⟩)
      · exact q_two (F := fun v _ => v = .bool true) (G := fun v _ => v = .bool true) hp (free_of rfl) trivial (sq_in 5 rfl rfl (by simp) rfl (fun v w h => h)) (sq_in 7 rfl rfl (by simp) rfl (fun v w h => h)) (fun ρ w hc h h' => ⟨_, by simp [execOp, go_sem, h, h'], rfl⟩)
      · exact q_move hp (free_of rfl) trivial (sq_in 8 rfl rfl (by simp) rfl (fun v w h => h))
      · exact q_move hp (free_of rfl) (gq_some rfl rfl (by simp) rfl (fun v w h => h)) (sq_out (s := 14) rfl rfl (fun _ _ => rfl))
      · exact q_one (F := fun v _ => v = .int .i64 0) hp (free_of rfl) (gq_some rfl rfl (by simp) rfl (fun v w h => h)) (sq_in 10 rfl rfl (by simp) rfl (fun v w h => h)) (fun ρ w hc h => ⟨.bool true, by simp [execOp, go_sem, h, hc], rfl⟩)
      · exact q_two (F := fun v _ => v = .bool true) (G := fun v _ => v = .bool true) hp (free_of rfl) trivial (sq_in 9 rfl rfl (by simp) rfl (fun v w h => h)) (sq_in 11 rfl rfl (by simp) rfl (fun v w h => h)) (fun ρ w hc h h' => ⟨_, by simp [execOp, go_sem, h, h'], rfl⟩)
      · exact q_move hp (free_of rfl) trivial (sq_in 12 rfl rfl (by simp) rfl (fun v w h => h))
      · exact q_move hp (free_of rfl) (gq_some rfl rfl (by simp) rfl (fun v w h => h)) (sq_out (s := 16) rfl rfl (fun _ _ => rfl))
      · exact q_one (F := fun v _ => v = .int .i64 0) hp (free_of rfl) (gq_some rfl rfl (by simp) rfl (fun v w h => h)) (sq_in 14 rfl rfl (by simp) rfl (fun v w h => h)) (fun ρ w hc h => ⟨.bool true, by simp [execOp, go_sem, h, hc], rfl⟩)
      · exact q_two (F := fun v _ => v = .bool true) (G := fun v _ => v = .bool true) hp (free_of rfl) trivial (sq_in 13 rfl rfl (by simp) rfl (fun v w h => h)) (sq_in 15 rfl rfl (by simp) rfl (fun v w h => h)) (fun ρ w hc h h' => ⟨_, by simp [execOp, go_sem, h, h'], rfl⟩)
      · exact q_move hp (free_of rfl) trivial (sq_in 16 rfl rfl (by simp) rfl (fun v w h => h))
      · exact q_move hp (free_of rfl) (gq_some rfl rfl (by simp) rfl (fun v w h => h)) (sq_out (s := 18) rfl rfl (fun _ _ => rfl))
      · exact q_one (F := fun v _ => v = .int .i64 0) hp (free_of rfl) (gq_some rfl rfl (by simp) rfl (fun v w h => h)) (sq_in 18 rfl rfl (by simp) rfl (fun v w h => h)) (fun ρ w hc h => ⟨.bool true, by simp [execOp, go_sem, h, hc], rfl⟩)
      · exact q_two (F := fun v _ => v = .bool true) (G := fun v _ => v = .bool true) hp (free_of rfl) trivial (sq_in 17 rfl rfl (by simp) rfl (fun v w h => h)) (sq_in 19 rfl rfl (by simp) rfl (fun v w h => h)) (fun ρ w hc h h' => ⟨_, by simp [execOp, go_sem, h, h'], rfl⟩)
      · exact q_move hp (free_of rfl) trivial (sq_in 20 rfl rfl (by simp) rfl (fun v w h => h))
      · exact q_move hp (free_of rfl) (gq_some rfl rfl (by simp) rfl (fun v w h => h)) (sq_out (s := 7) rfl rfl (fun _ _ => rfl))
      · exact q_two (F := fun v _ => v = .bool true) (G := fun v _ => v = .bool true) hp (free_of rfl) trivial (sq_in 21 rfl rfl (by simp) rfl (fun v w h => h)) (sq_in 22 rfl rfl (by simp) rfl (fun v w h => h)) (fun ρ w hc h h' => ⟨_, by simp [execOp, go_sem, h, h'], rfl⟩)
      · exact q_move hp (free_of rfl) trivial (sq_in 23 rfl rfl (by simp) rfl (fun v w h => h))
      · exact q_move hp (free_of rfl) (gq_some rfl rfl (by simp) rfl (fun v w h => h)) (sq_out (s := 10) rfl rfl (fun _ _ => rfl))
      · exact q_move hp (free_of rfl) (gq_some rfl rfl (by simp) rfl (fun v w h => h)) (sq_out (s := 13) rfl rfl (fun _ _ => rfl))
      · exact q_two (F := fun v _ => v = .bool S) (G := fun v _ => v = .bool S) hp (free_of rfl) (gq_some rfl rfl (by simp) rfl (fun v w h => h)) (sq_in 25 rfl rfl (by simp) rfl (fun v w h => h)) (sq_in 26 rfl rfl (by simp) rfl (fun v w h => h)) (fun ρ w hc h h' => ⟨.bool true, by simp [execOp, go_sem, h, h'], rfl⟩)
      · exact q_two (F := fun v _ => v = .bool true) (G := fun v _ => v = .bool true) hp (free_of rfl) trivial (sq_in 24 rfl rfl (by simp) rfl (fun v w h => h)) (sq_in 27 rfl rfl (by simp) rfl (fun v w h => h)) (fun ρ w hc h h' => ⟨_, by simp [execOp, go_sem, h, h'], rfl⟩)
      · exact q_move hp (free_of rfl) trivial (sq_in 28 rfl rfl (by simp) rfl (fun v w h => h))
      · exact q_move hp (free_of rfl) (gq_some rfl rfl (by simp) rfl (fun v w h => h)) (sq_out (s := 15) rfl rfl (fun _ _ => rfl))
      · exact q_two (F := fun v _ => v = .bool true) (G := fun v _ => v = .bool true) hp (free_of rfl) trivial (sq_in 29 rfl rfl (by simp) rfl (fun v w h => h)) (sq_in 30 rfl rfl (by simp) rfl (fun v w h => h)) (fun ρ w hc h h' => ⟨_, by simp [execOp, go_sem, h, h'], rfl⟩)
      · exact q_move hp (free_of rfl) trivial (sq_in 31 rfl rfl (by simp) rfl (fun v w h => h))
      · exact q_move hp (free_of rfl) (gq_some rfl rfl (by simp) rfl (fun v w h => h)) (sq_out (s := 17) rfl rfl (fun _ _ => rfl))
      · exact q_move hp (free_of rfl) (gq_some rfl rfl (by simp) rfl (fun v w h => h)) (sq_out (s := 10) rfl rfl (fun _ _ => rfl))
      · exact q_two (F := fun v _ => v = .bool S) (G := fun v _ => v = .bool S) hp (free_of rfl) (gq_some rfl rfl (by simp) rfl (fun v w h => h)) (sq_in 33 rfl rfl (by simp) rfl (fun v w h => h)) (sq_in 34 rfl rfl (by simp) rfl (fun v w h => h)) (fun ρ w hc h h' => ⟨.bool true, by simp [execOp, go_sem, h, h'], rfl⟩)
      · exact q_two (F := fun v _ => v = .bool true) (G := fun v _ => v = .bool true) hp (free_of rfl) trivial (sq_in 32 rfl rfl (by simp) rfl (fun v w h => h)) (sq_in 35 rfl rfl (by simp) rfl (fun v w h => h)) (fun ρ w hc h h' => ⟨_, by simp [execOp, go_sem, h, h'], rfl⟩)
      · exact q_assign hp (free_of rfl) trivial (sq_in 36 rfl rfl (by simp) rfl (fun v w h => h))
      intro L vs w14 nb hL hC hn E14
      have e0 : vs 0 = .bool true := hC 0 (by simp)
      have e1 : vs 1 = .bool true := hC 1 (by simp)
      have e2 : vs 2 = .int .i64 0 := hC 2 (by simp)
      have e3 : vs 3 = .bool true := hC 3 (by simp)
      have e4 : vs 4 = .bool true := hC 4 (by simp)
      have e5 : vs 5 = .bool true := hC 5 (by simp)
      have e6 : vs 6 = .int .i64 0 := hC 6 (by simp)
      have e7 : vs 7 = .bool true := hC 7 (by simp)
      have e8 : vs 8 = .bool true := hC 8 (by simp)
      have e9 : vs 9 = .bool true := hC 9 (by simp)
      have e10 : vs 10 = .int .i64 0 := hC 10 (by simp)
      have e11 : vs 11 = .bool true := hC 11 (by simp)
      have e12 : vs 12 = .bool true := hC 12 (by simp)
      have e13 : vs 13 = .bool true := hC 13 (by simp)
      have e14 : vs 14 = .int .i64 0 := hC 14 (by simp)
      have e15 : vs 15 = .bool true := hC 15 (by simp)
      have e16 : vs 16 = .bool true := hC 16 (by simp)
      have e17 : vs 17 = .bool true := hC 17 (by simp)
      have e18 : vs 18 = .int .i64 0 := hC 18 (by simp)
      have e19 : vs 19 = .bool true := hC 19 (by simp)
      have e20 : vs 20 = .bool true := hC 20 (by simp)
      have e21 : vs 21 = .bool true := hC 21 (by simp)
      have e22 : vs 22 = .bool true := hC 22 (by simp)
      have e23 : vs 23 = .bool true := hC 23 (by simp)
      have e24 : vs 24 = .bool true := hC 24 (by simp)
      have e25 : vs 25 = .bool S := hC 25 (by simp)
      have e26 : vs 26 = .bool S := hC 26 (by simp)
      have e27 : vs 27 = .bool true := hC 27 (by simp)
      have e28 : vs 28 = .bool true := hC 28 (by simp)
      have e29 : vs 29 = .bool true := hC 29 (by simp)
      have e30 : vs 30 = .bool true := hC 30 (by simp)
      have e31 : vs 31 = .bool true := hC 31 (by simp)
      have e32 : vs 32 = .bool true := hC 32 (by simp)
      have e33 : vs 33 = .bool S := hC 33 (by simp)
      have e34 : vs 34 = .bool S := hC 34 (by simp)
      have e35 : vs 35 = .bool true := hC 35 (by simp)
      have e36 : vs 36 = .bool true := hC 36 (by simp)
      have e37 : vs 37 = .bool true := hC 37 (by simp)
      have E : Fr w [(b4_2, 2, Fq.nraw m1 (some ⟨ad, off, none⟩) j1 cc1 ys z), (b1, 2, Fq.raw n1 a1 k1 c1 xs1)] w14 := E14
      rw [lay_all hL]
      simp only [putAll, dstOf, List.length_cons, List.length_nil, Nat.zero_add, Nat.reduceAdd, List.getElem?_toArray, List.getElem?_cons_zero, List.getElem?_cons_succ, Option.bind_some, Act.put, List.setIfInBounds_toArray, List.set_cons_succ, List.set_cons_zero]
      rw [e0, e1, e2, e3, e4, e5, e6, e7, e8, e9, e10, e11, e12, e13, e14, e15, e16, e17, e18, e19, e20, e21, e22, e23, e24, e25, e26, e27, e28, e29, e30, e31, e32, e33, e34, e35, e36, e37]
      clear e0 e1 e2 e3 e4 e5 e6 e7 e8 e9 e10 e11 e12 e13 e14 e15 e16 e17 e18 e19 e20 e21 e22 e23 e24 e25 e26 e27 e28 e29 e30 e31 e32 e33 e34 e35 e36 e37 hC hn E14 hL vs L nb
      clear S0 S1 S2 S3 S4 HC HN HBB
      clear B8 Bz hT BZ9
      go_wp2
      refine bodyPost_ret (v := .bool true) ?_ rfl ⟨rfl, E.below⟩
      simp [results, Tryd.results8, go_sem]
    · have HNO := hidd (show ¬ (2 < z ∧ z % 2 = 1) by omega)
      have T1 : Hid (¬ cmpI z 2 ≤ 0) := by have := cmpIqgt.2 h2; show ¬ _; omega
      obtain ⟨hj, hy⟩ := one_word HOP.out (by omega) Bz.out
      obtain ⟨ad, off, rfl⟩ := E.addr hj
      have HJ := hidd hj
      have HY := hidd hy
      have WM := hidd (show Int.tmod z 2 = 0 by rw [Int.tmod_eq_emod_of_nonneg (by omega)]; omega)
      clear hj hy
      clear h2 he HOP
      go_upto_region 5 with (fail)
      refine region_fr (C := [Fq.num z, Fq.tup2 (Fq.is (.bool false)) (Fq.is (.int .i64 1)), Fq.tup2 (Fq.is (.bool false)) (Fq.is (.int .i64 1)), Fq.is (.bool false), Fq.is (.int .i64 1), Fq.is (.bool false), Fq.is (.int .i64 1)]) (ks := [none, none]) (new := []) E rfl (by kernel_rfl) rfl rfl (fun hp => ⟨?_, ?_, ?_, ?_, ?_, ?_, ?_, trivial⟩) ?_
      · exact q_loadInt (off := 0) hp (free_of rfl) trivial (List.mem_iff_getElem?.2 ⟨0, rfl⟩) (.inl rfl) (Nat.le_of_ble_eq_true rfl) (sq_out (s := 6) rfl rfl (fun _ _ => rfl)) (fun us w hl h => ld_num hl h.2.2)
      · exact q_call2W (F := (Fq.num z).P) (G := (Fq.is (.int .i64 1)).P) hp (free_of rfl) trivial (enq_f_algorist_prime_Strong) rfl (sq_in 0 rfl rfl (by simp) rfl (fun v w h => h)) (sq_const (fun _ => rfl)) (fun v v' w hbw h h' => (by subst h'; exact strongE h BZ9.out HNO.out))
      · exact q_move hp (free_of rfl) trivial (sq_in 1 rfl rfl (by simp) rfl (fun v w h => h))
      · exact q_extract2 hp (free_of rfl) trivial (sq_in 2 rfl rfl (by simp) rfl (fun v w h => h)) (fun v1 v2 w h1 h2 => ⟨_, rfl, h1⟩)
      · exact q_extract2 hp (free_of rfl) trivial (sq_in 2 rfl rfl (by simp) rfl (fun v w h => h)) (fun v1 v2 w h1 h2 => ⟨_, rfl, h2⟩)
      · exact q_assign hp (free_of rfl) trivial (sq_in 3 rfl rfl (by simp) rfl (fun v w h => h))
      · exact q_assign hp (free_of rfl) trivial (sq_in 4 rfl rfl (by simp) rfl (fun v w h => h))
      intro L vs w15 nb hL hC hn E15
      have e3 : vs 3 = .bool false := hC 3 (by simp)
      have e4 : vs 4 = .int .i64 1 := hC 4 (by simp)
      have e5 : vs 5 = .bool false := hC 5 (by simp)
      have e6 : vs 6 = .int .i64 1 := hC 6 (by simp)
      have E : Fr w [(b4_2, 2, Fq.nraw m1 (some ⟨ad, off, none⟩) j1 cc1 ys z), (b1, 2, Fq.raw n1 a1 k1 c1 xs1)] w15 := E15
      rw [lay_all hL]
      simp only [putAll, dstOf, List.length_cons, List.length_nil, Nat.zero_add, Nat.reduceAdd, List.getElem?_toArray, List.getElem?_cons_zero, List.getElem?_cons_succ, Option.bind_some, Act.put, List.setIfInBounds_toArray, List.set_cons_succ, List.set_cons_zero]
      rw [e3, e4, e5, e6]
      generalize vs 0 = u15_0
      generalize vs 1 = u15_1
      generalize vs 2 = u15_2
      clear e3 e4 e5 e6 hC hn E15 hL vs L nb
      go_upto_region 6 with (fail)
      refine region_fr (C := [Fq.is (.int .u16 b), Fq.is (.int .i64 b), Fq.is (.int .i64 (B : Int)), Fq.is (.int .i64 (B : Int))]) (ks := [none, none]) (new := []) E rfl (by kernel_rfl) rfl rfl (fun hp => ⟨?_, ?_, ?_, ?_, trivial⟩) ?_
      · exact q_move hp (free_of rfl) trivial (sq_out (s := 1) rfl rfl (fun _ _ => rfl))
      · exact q_one (F := fun v _ => v = .int .u16 b) hp (free_of rfl) trivial (sq_in 0 rfl rfl (by simp) rfl (fun v w h => h)) (fun ρ w hc h => ⟨.int .i64 b, by simp [execOp, go_sem, h, WC.out], rfl⟩)
      · exact q_one (F := fun v _ => v = .int .i64 b) hp (free_of rfl) trivial (sq_in 1 rfl rfl (by simp) rfl (fun v w h => h)) (fun ρ w hc h => ⟨.int .i64 (B : Int), by simp [execOp, go_sem, h, hc, WB.out], rfl⟩)
      · exact q_assign hp (free_of rfl) trivial (sq_in 2 rfl rfl (by simp) rfl (fun v w h => h))
      intro L vs w16 nb hL hC hn E16
      have e0 : vs 0 = .int .u16 b := hC 0 (by simp)
      have e1 : vs 1 = .int .i64 b := hC 1 (by simp)
      have e2 : vs 2 = .int .i64 (B : Int) := hC 2 (by simp)
      have e3 : vs 3 = .int .i64 (B : Int) := hC 3 (by simp)
      have E : Fr w [(b4_2, 2, Fq.nraw m1 (some ⟨ad, off, none⟩) j1 cc1 ys z), (b1, 2, Fq.raw n1 a1 k1 c1 xs1)] w16 := E16
      rw [lay_all hL]
      simp only [putAll, dstOf, List.length_cons, List.length_nil, Nat.zero_add, Nat.reduceAdd, List.getElem?_toArray, List.getElem?_cons_zero, List.getElem?_cons_succ, Option.bind_some, Act.put, List.setIfInBounds_toArray, List.set_cons_succ, List.set_cons_zero]
      rw [e0, e1, e2, e3]
      clear e0 e1 e2 e3 hC hn E16 hL vs L nb
      go_upto_region 7 with (fail)
      refine region_fr (C := [Fq.num z, Fq.is (.int .i64 (B : Int)), Fq.tup2 (Fq.is (.bool false)) (Fq.is (.int .i64 1)), Fq.tup2 (Fq.is (.bool false)) (Fq.is (.int .i64 1)), Fq.is (.bool false), Fq.is (.int .i64 1), Fq.is (.bool false), Fq.is (.int .i64 1)]) (ks := [none, none]) (new := []) E rfl (by kernel_rfl) rfl rfl (fun hp => ⟨?_, ?_, ?_, ?_, ?_, ?_, ?_, ?_, trivial⟩) ?_
      · exact q_loadInt (off := 0) hp (free_of rfl) trivial (List.mem_iff_getElem?.2 ⟨0, rfl⟩) (.inl rfl) (Nat.le_of_ble_eq_true rfl) (sq_out (s := 6) rfl rfl (fun _ _ => rfl)) (fun us w hl h => ld_num hl h.2.2)
      · exact q_move hp (free_of rfl) trivial (sq_out (s := 9) rfl rfl (fun _ _ => rfl))
      · exact q_call2W (F := (Fq.num z).P) (G := (Fq.is (.int .i64 (B : Int))).P) hp (free_of rfl) trivial (enq_f_algorist_prime_Strong) rfl (sq_in 0 rfl rfl (by simp) rfl (fun v w h => h)) (sq_in 1 rfl rfl (by simp) rfl (fun v w h => h)) (fun v v' w hbw h h' => (by subst h'; exact strongE h BZ9.out HNO.out))
      · exact q_move hp (free_of rfl) trivial (sq_in 2 rfl rfl (by simp) rfl (fun v w h => h))
      · exact q_extract2 hp (free_of rfl) trivial (sq_in 3 rfl rfl (by simp) rfl (fun v w h => h)) (fun v1 v2 w h1 h2 => ⟨_, rfl, h1⟩)
      · exact q_extract2 hp (free_of rfl) trivial (sq_in 3 rfl rfl (by simp) rfl (fun v w h => h)) (fun v1 v2 w h1 h2 => ⟨_, rfl, h2⟩)
      · exact q_assign hp (free_of rfl) trivial (sq_in 4 rfl rfl (by simp) rfl (fun v w h => h))
      · exact q_assign hp (free_of rfl) trivial (sq_in 5 rfl rfl (by simp) rfl (fun v w h => h))
      intro L vs w17 nb hL hC hn E17
      have e1 : vs 1 = .int .i64 (B : Int) := hC 1 (by simp)
      have e4 : vs 4 = .bool false := hC 4 (by simp)
      have e5 : vs 5 = .int .i64 1 := hC 5 (by simp)
      have e6 : vs 6 = .bool false := hC 6 (by simp)
      have e7 : vs 7 = .int .i64 1 := hC 7 (by simp)
      have E : Fr w [(b4_2, 2, Fq.nraw m1 (some ⟨ad, off, none⟩) j1 cc1 ys z), (b1, 2, Fq.raw n1 a1 k1 c1 xs1)] w17 := E17
      rw [lay_all hL]
      simp only [putAll, dstOf, List.length_cons, List.length_nil, Nat.zero_add, Nat.reduceAdd, List.getElem?_toArray, List.getElem?_cons_zero, List.getElem?_cons_succ, Option.bind_some, Act.put, List.setIfInBounds_toArray, List.set_cons_succ, List.set_cons_zero]
      rw [e1, e4, e5, e6, e7]
      generalize vs 0 = u17_0
      generalize vs 2 = u17_2
      generalize vs 3 = u17_3
      clear e1 e4 e5 e6 e7 hC hn E17 hL vs L nb
      go_upto_region 8 with (fail)
      have B18 : Hid (ab ((2)) < pw 3) := ab_lit (by decide)
      refine region_fr (C := [Fq.num z, Fq.num (2), Fq.is (.int .i64 (cmpI z (2))), Fq.is (.bool false), Fq.is (.bool false), Fq.is (.pointer (some ⟨b4_2, 1, none⟩)), Fq.is (.slice (some ⟨ad, off, none⟩) j1 cc1), Fq.is (.pointer (some ⟨ad, off, none⟩)), Fq.is (.int .u32 z), Fq.is (.int .u32 0), Fq.is (.bool true), Fq.is (.bool true)]) (ks := [none, none]) (new := []) E rfl (by kernel_rfl) rfl rfl (fun hp => ⟨?_, ?_, ?_, ?_, ?_, ?_, ?_, ?_, ?_, ?_, ?_, ?_, trivial⟩) ?_
      · exact q_loadInt (off := 0) hp (free_of rfl) trivial (List.mem_iff_getElem?.2 ⟨0, rfl⟩) (.inl rfl) (Nat.le_of_ble_eq_true rfl) (sq_out (s := 6) rfl rfl (fun _ _ => rfl)) (fun us w hl h => ld_num hl h.2.2)
      · exact q_call1 (F := (Fq.is (.int .i64 2)).P) hp (free_of rfl) trivial (enq_R_Of) (sq_const (fun _ => rfl)) (fun v w h => (by subst h; exact rOfK w (2) (by omega) (by omega)))
      · exact q_call2 (F := (Fq.num z).P) (G := (Fq.num (2)).P) hp (free_of rfl) trivial (enq_R_Cmp) (sq_in 0 rfl rfl (by simp) rfl (fun v w h => h)) (sq_in 1 rfl rfl (by simp) rfl (fun v w h => h)) (fun v v' w h h' => exRCmp' h h')
      · exact q_one (F := fun v _ => v = .int .i64 (cmpI z (2))) hp (free_of rfl) trivial (sq_in 2 rfl rfl (by simp) rfl (fun v w h => h)) (fun ρ w hc h => ⟨.bool false, by simp [execOp, go_sem, h, hc, T1.out], rfl⟩)
      · exact q_move hp (free_of rfl) trivial (sq_in 3 rfl rfl (by simp) rfl (fun v w h => h))
      · exact q_addr (b := b4_2) (off := 0) (off' := 1) hp (free_of rfl) (gq_some rfl rfl (by simp) rfl (fun v w h => h)) (sq_out (s := 6) rfl rfl (fun _ _ => rfl)) (fun ρ w h => by simp [execOp, go_sem, h]) (fun _ => rfl)
      · exact q_loadMagP (off := 1) (v := .slice (some ⟨ad, off, none⟩) j1 cc1) hp (free_of rfl) (gq_some rfl rfl (by simp) rfl (fun v w h => h)) (List.mem_iff_getElem?.2 ⟨0, rfl⟩) (.inl rfl) (Nat.le_of_ble_eq_true rfl) (sq_in 5 rfl rfl (by simp) rfl (fun v w h => h)) (fun us w hl h => ⟨ld_nrawS hl h, rfl⟩)
      · exact q_one (F := fun v _ => v = .slice (some ⟨ad, off, none⟩) j1 cc1) hp (free_of rfl) (gq_some rfl rfl (by simp) rfl (fun v w h => h)) (sq_in 6 rfl rfl (by simp) rfl (fun v w h => h)) (fun ρ w hc h => ⟨.pointer (some ⟨ad, off, none⟩), by simp [execOp, go_sem, h, hc, HJ.out], rfl⟩)
      · exact q_loadWord (bx := b4_2) (x0 := z) hp (free_of rfl) (gq_some rfl rfl (by simp) rfl (fun v w h => h)) (List.mem_iff_getElem?.2 ⟨0, rfl⟩) (.inl rfl) (sq_in 7 rfl rfl (by simp) rfl (fun v w h => h)) (fun us w hl h => first_word HJ.out HY.out h) (fun _ => rfl)
      · exact q_one (F := fun v _ => v = .int .u32 z) hp (free_of rfl) (gq_some rfl rfl (by simp) rfl (fun v w h => h)) (sq_in 8 rfl rfl (by simp) rfl (fun v w h => h)) (fun ρ w hc h => ⟨.int .u32 0, by simp [execOp, go_sem, h, hc, WM.out], rfl⟩)
      · exact q_one (F := fun v _ => v = .int .u32 0) hp (free_of rfl) (gq_some rfl rfl (by simp) rfl (fun v w h => h)) (sq_in 9 rfl rfl (by simp) rfl (fun v w h => h)) (fun ρ w hc h => ⟨.bool true, by simp [execOp, go_sem, h, hc], rfl⟩)
      · exact q_two (F := fun v _ => v = .bool false) (G := fun v _ => v = .bool true) hp (free_of rfl) trivial (sq_in 4 rfl rfl (by simp) rfl (fun v w h => h)) (sq_in 10 rfl rfl (by simp) rfl (fun v w h => h)) (fun ρ w hc h h' => ⟨_, by simp [execOp, go_sem, h, h'], rfl⟩)
      intro L vs w19 nb hL hC hn E19
      have e2 : vs 2 = .int .i64 (cmpI z (2)) := hC 2 (by simp)
      have e3 : vs 3 = .bool false := hC 3 (by simp)
      have e4 : vs 4 = .bool false := hC 4 (by simp)
      have e5 : vs 5 = .pointer (some ⟨b4_2, 1, none⟩) := hC 5 (by simp)
      have e6 : vs 6 = .slice (some ⟨ad, off, none⟩) j1 cc1 := hC 6 (by simp)
      have e7 : vs 7 = .pointer (some ⟨ad, off, none⟩) := hC 7 (by simp)
      have e8 : vs 8 = .int .u32 z := hC 8 (by simp)
      have e9 : vs 9 = .int .u32 0 := hC 9 (by simp)
      have e10 : vs 10 = .bool true := hC 10 (by simp)
      have e11 : vs 11 = .bool true := hC 11 (by simp)
      have E : Fr w [(b4_2, 2, Fq.nraw m1 (some ⟨ad, off, none⟩) j1 cc1 ys z), (b1, 2, Fq.raw n1 a1 k1 c1 xs1)] w19 := E19
      rw [lay_all hL]
      simp only [putAll, dstOf, List.length_cons, List.length_nil, Nat.zero_add, Nat.reduceAdd, List.getElem?_toArray, List.getElem?_cons_zero, List.getElem?_cons_succ, Option.bind_some, Act.put, List.setIfInBounds_toArray, List.set_cons_succ, List.set_cons_zero]
      rw [e2, e3, e4, e5, e6, e7, e8, e9, e10, e11]
      generalize vs 0 = u19_0
      generalize vs 1 = u19_1
      clear e2 e3 e4 e5 e6 e7 e8 e9 e10 e11 hC hn E19 hL vs L nb
      clear WM HJ HY
      clear T1 HNO WB WC
      go_upto_region 9 with (fail)
      refine region_fr (C := [Fq.is (.bool true), Fq.is (.bool true), Fq.is (.int .i64 1), Fq.is (.bool true), Fq.is (.bool true), Fq.is (.bool true), Fq.is (.int .i64 1), Fq.is (.bool true), Fq.is (.bool true), Fq.is (.bool true), Fq.is (.bool false), Fq.is (.bool true), Fq.is (.bool true), Fq.is (.bool true), Fq.is (.bool false), Fq.is (.bool true), Fq.is (.bool true), Fq.is (.bool true)]) (ks := [none, none]) (new := []) E rfl (by kernel_rfl) rfl rfl (fun hp => ⟨?_, ?_, ?_, ?_, ?_, ?_, ?_, ?_, ?_, ?_, ?_, ?_, ?_, ?_, ?_, ?_, ?_, ?_, trivial⟩) ?_
      · exact q_move hp (free_of rfl) trivial (sq_out (s := 5) rfl rfl (fun _ _ => rfl))
      · exact q_move hp (free_of rfl) trivial (sq_in 0 rfl rfl (by simp) rfl (fun v w h => h))
      · exact q_move hp (free_of rfl) (gq_some rfl rfl (by simp) rfl (fun v w h => h)) (sq_out (s := 8) rfl rfl (fun _ _ => rfl))
      · exact q_one (F := fun v _ => v = .int .i64 1) hp (free_of rfl) (gq_some rfl rfl (by simp) rfl (fun v w h => h)) (sq_in 2 rfl rfl (by simp) rfl (fun v w h => h)) (fun ρ w hc h => ⟨.bool true, by simp [execOp, go_sem, h, hc], rfl⟩)
      · exact q_two (F := fun v _ => v = .bool true) (G := fun v _ => v = .bool true) hp (free_of rfl) trivial (sq_in 1 rfl rfl (by simp) rfl (fun v w h => h)) (sq_in 3 rfl rfl (by simp) rfl (fun v w h => h)) (fun ρ w hc h h' => ⟨_, by simp [execOp, go_sem, h, h'], rfl⟩)
      · exact q_move hp (free_of rfl) trivial (sq_in 4 rfl rfl (by simp) rfl (fun v w h => h))
      · exact q_move hp (free_of rfl) (gq_some rfl rfl (by simp) rfl (fun v w h => h)) (sq_out (s := 11) rfl rfl (fun _ _ => rfl))
      · exact q_one (F := fun v _ => v = .int .i64 1) hp (free_of rfl) (gq_some rfl rfl (by simp) rfl (fun v w h => h)) (sq_in 6 rfl rfl (by simp) rfl (fun v w h => h)) (fun ρ w hc h => ⟨.bool true, by simp [execOp, go_sem, h, hc], rfl⟩)
      · exact q_two (F := fun v _ => v = .bool true) (G := fun v _ => v = .bool true) hp (free_of rfl) trivial (sq_in 5 rfl rfl (by simp) rfl (fun v w h => h)) (sq_in 7 rfl rfl (by simp) rfl (fun v w h => h)) (fun ρ w hc h h' => ⟨_, by simp [execOp, go_sem, h, h'], rfl⟩)
      · exact q_move hp (free_of rfl) trivial (sq_in 8 rfl rfl (by simp) rfl (fun v w h => h))
      · exact q_move hp (free_of rfl) (gq_some rfl rfl (by simp) rfl (fun v w h => h)) (sq_out (s := 7) rfl rfl (fun _ _ => rfl))
      · exact q_one (F := fun v _ => v = .bool false) hp (free_of rfl) (gq_some rfl rfl (by simp) rfl (fun v w h => h)) (sq_in 10 rfl rfl (by simp) rfl (fun v w h => h)) (fun ρ w _ h => ⟨.bool true, by simp [execOp, go_sem, h], rfl⟩)
      · exact q_two (F := fun v _ => v = .bool true) (G := fun v _ => v = .bool true) hp (free_of rfl) trivial (sq_in 9 rfl rfl (by simp) rfl (fun v w h => h)) (sq_in 11 rfl rfl (by simp) rfl (fun v w h => h)) (fun ρ w hc h h' => ⟨_, by simp [execOp, go_sem, h, h'], rfl⟩)
      · exact q_move hp (free_of rfl) trivial (sq_in 12 rfl rfl (by simp) rfl (fun v w h => h))
      · exact q_move hp (free_of rfl) (gq_some rfl rfl (by simp) rfl (fun v w h => h)) (sq_out (s := 10) rfl rfl (fun _ _ => rfl))
      · exact q_one (F := fun v _ => v = .bool false) hp (free_of rfl) (gq_some rfl rfl (by simp) rfl (fun v w h => h)) (sq_in 14 rfl rfl (by simp) rfl (fun v w h => h)) (fun ρ w _ h => ⟨.bool true, by simp [execOp, go_sem, h], rfl⟩)
      · exact q_two (F := fun v _ => v = .bool true) (G := fun v _ => v = .bool true) hp (free_of rfl) trivial (sq_in 13 rfl rfl (by simp) rfl (fun v w h => h)) (sq_in 15 rfl rfl (by simp) rfl (fun v w h => h)) (fun ρ w hc h h' => ⟨_, by simp [execOp, go_sem, h, h'], rfl⟩)
      · exact q_assign hp (free_of rfl) trivial (sq_in 16 rfl rfl (by simp) rfl (fun v w h => h))
      intro L vs w20 nb hL hC hn E20
      have e0 : vs 0 = .bool true := hC 0 (by simp)
      have e1 : vs 1 = .bool true := hC 1 (by simp)
      have e2 : vs 2 = .int .i64 1 := hC 2 (by simp)
      have e3 : vs 3 = .bool true := hC 3 (by simp)
      have e4 : vs 4 = .bool true := hC 4 (by simp)
      have e5 : vs 5 = .bool true := hC 5 (by simp)
      have e6 : vs 6 = .int .i64 1 := hC 6 (by simp)
      have e7 : vs 7 = .bool true := hC 7 (by simp)
      have e8 : vs 8 = .bool true := hC 8 (by simp)
      have e9 : vs 9 = .bool true := hC 9 (by simp)
      have e10 : vs 10 = .bool false := hC 10 (by simp)
      have e11 : vs 11 = .bool true := hC 11 (by simp)
      have e12 : vs 12 = .bool true := hC 12 (by simp)
      have e13 : vs 13 = .bool true := hC 13 (by simp)
      have e14 : vs 14 = .bool false := hC 14 (by simp)
      have e15 : vs 15 = .bool true := hC 15 (by simp)
      have e16 : vs 16 = .bool true := hC 16 (by simp)
      have e17 : vs 17 = .bool true := hC 17 (by simp)
      have E : Fr w [(b4_2, 2, Fq.nraw m1 (some ⟨ad, off, none⟩) j1 cc1 ys z), (b1, 2, Fq.raw n1 a1 k1 c1 xs1)] w20 := E20
      rw [lay_all hL]
      simp only [putAll, dstOf, List.length_cons, List.length_nil, Nat.zero_add, Nat.reduceAdd, List.getElem?_toArray, List.getElem?_cons_zero, List.getElem?_cons_succ, Option.bind_some, Act.put, List.setIfInBounds_toArray, List.set_cons_succ, List.set_cons_zero]
      rw [e0, e1, e2, e3, e4, e5, e6, e7, e8, e9, e10, e11, e12, e13, e14, e15, e16, e17]
      clear e0 e1 e2 e3 e4 e5 e6 e7 e8 e9 e10 e11 e12 e13 e14 e15 e16 e17 hC hn E20 hL vs L nb
      clear B18 Bz hT BZ9
      go_wp2
      refine bodyPost_ret (v := .bool true) ?_ rfl ⟨rfl, E.below⟩
      simp [results, Tryd.results8, go_sem]
  · have HNO := hidd (show ¬ (2 < z ∧ z % 2 = 1) by omega)
    have T1 : Hid (cmpI z 2 ≤ 0) := by have := mt cmpIqgt.1 (by omega : ¬ 2 < z); show _ ≤ _; omega
    clear h2 HOP
    go_upto_region 5 with (fail)
    refine region_fr (C := [Fq.num z, Fq.tup2 (Fq.is (.bool false)) (Fq.is (.int .i64 1)), Fq.tup2 (Fq.is (.bool false)) (Fq.is (.int .i64 1)), Fq.is (.bool false), Fq.is (.int .i64 1), Fq.is (.bool false), Fq.is (.int .i64 1)]) (ks := [none, none]) (new := []) E rfl (by kernel_rfl) rfl rfl (fun hp => ⟨?_, ?_, ?_, ?_, ?_, ?_, ?_, trivial⟩) ?_
    · exact q_loadInt (off := 0) hp (free_of rfl) trivial (List.mem_iff_getElem?.2 ⟨0, rfl⟩) (.inl rfl) (Nat.le_of_ble_eq_true rfl) (sq_out (s := 6) rfl rfl (fun _ _ => rfl)) (fun us w hl h => ld_num hl h.2.2)
    · exact q_call2W (F := (Fq.num z).P) (G := (Fq.is (.int .i64 1)).P) hp (free_of rfl) trivial (enq_f_algorist_prime_Strong) rfl (sq_in 0 rfl rfl (by simp) rfl (fun v w h => h)) (sq_const (fun _ => rfl)) (fun v v' w hbw h h' => (by subst h'; exact strongE h BZ9.out HNO.out))
    · exact q_move hp (free_of rfl) trivial (sq_in 1 rfl rfl (by simp) rfl (fun v w h => h))
    · exact q_extract2 hp (free_of rfl) trivial (sq_in 2 rfl rfl (by simp) rfl (fun v w h => h)) (fun v1 v2 w h1 h2 => ⟨_, rfl, h1⟩)
    · exact q_extract2 hp (free_of rfl) trivial (sq_in 2 rfl rfl (by simp) rfl (fun v w h => h)) (fun v1 v2 w h1 h2 => ⟨_, rfl, h2⟩)
    · exact q_assign hp (free_of rfl) trivial (sq_in 3 rfl rfl (by simp) rfl (fun v w h => h))
    · exact q_assign hp (free_of rfl) trivial (sq_in 4 rfl rfl (by simp) rfl (fun v w h => h))
    intro L vs w21 nb hL hC hn E21
    have e3 : vs 3 = .bool false := hC 3 (by simp)
    have e4 : vs 4 = .int .i64 1 := hC 4 (by simp)
    have e5 : vs 5 = .bool false := hC 5 (by simp)
    have e6 : vs 6 = .int .i64 1 := hC 6 (by simp)
    have E : Fr w [(b4_2, 2, Fq.nraw m1 d1 j1 cc1 ys z), (b1, 2, Fq.raw n1 a1 k1 c1 xs1)] w21 := E21
    rw [lay_all hL]
    simp only [putAll, dstOf, List.length_cons, List.length_nil, Nat.zero_add, Nat.reduceAdd, List.getElem?_toArray, List.getElem?_cons_zero, List.getElem?_cons_succ, Option.bind_some, Act.put, List.setIfInBounds_toArray, List.set_cons_succ, List.set_cons_zero]
    rw [e3, e4, e5, e6]
    generalize vs 0 = u21_0
    generalize vs 1 = u21_1
    generalize vs 2 = u21_2
    clear e3 e4 e5 e6 hC hn E21 hL vs L nb
    go_upto_region 6 with (fail)
    refine region_fr (C := [Fq.is (.int .u16 b), Fq.is (.int .i64 b), Fq.is (.int .i64 (B : Int)), Fq.is (.int .i64 (B : Int))]) (ks := [none, none]) (new := []) E rfl (by kernel_rfl) rfl rfl (fun hp => ⟨?_, ?_, ?_, ?_, trivial⟩) ?_
    · exact q_move hp (free_of rfl) trivial (sq_out (s := 1) rfl rfl (fun _ _ => rfl))
    · exact q_one (F := fun v _ => v = .int .u16 b) hp (free_of rfl) trivial (sq_in 0 rfl rfl (by simp) rfl (fun v w h => h)) (fun ρ w hc h => ⟨.int .i64 b, by simp [execOp, go_sem, h, WC.out], rfl⟩)
    · exact q_one (F := fun v _ => v = .int .i64 b) hp (free_of rfl) trivial (sq_in 1 rfl rfl (by simp) rfl (fun v w h => h)) (fun ρ w hc h => ⟨.int .i64 (B : Int), by simp [execOp, go_sem, h, hc, WB.out], rfl⟩)
    · exact q_assign hp (free_of rfl) trivial (sq_in 2 rfl rfl (by simp) rfl (fun v w h => h))
    intro L vs w22 nb hL hC hn E22
    have e0 : vs 0 = .int .u16 b := hC 0 (by simp)
    have e1 : vs 1 = .int .i64 b := hC 1 (by simp)
    have e2 : vs 2 = .int .i64 (B : Int) := hC 2 (by simp)
    have e3 : vs 3 = .int .i64 (B : Int) := hC 3 (by simp)
    have E : Fr w [(b4_2, 2, Fq.nraw m1 d1 j1 cc1 ys z), (b1, 2, Fq.raw n1 a1 k1 c1 xs1)] w22 := E22
    rw [lay_all hL]
    simp only [putAll, dstOf, List.length_cons, List.length_nil, Nat.zero_add, Nat.reduceAdd, List.getElem?_toArray, List.getElem?_cons_zero, List.getElem?_cons_succ, Option.bind_some, Act.put, List.setIfInBounds_toArray, List.set_cons_succ, List.set_cons_zero]
    rw [e0, e1, e2, e3]
    clear e0 e1 e2 e3 hC hn E22 hL vs L nb
    go_upto_region 7 with (fail)
    refine region_fr (C := [Fq.num z, Fq.is (.int .i64 (B : Int)), Fq.tup2 (Fq.is (.bool false)) (Fq.is (.int .i64 1)), Fq.tup2 (Fq.is (.bool false)) (Fq.is (.int .i64 1)), Fq.is (.bool false), Fq.is (.int .i64 1), Fq.is (.bool false), Fq.is (.int .i64 1)]) (ks := [none, none]) (new := []) E rfl (by kernel_rfl) rfl rfl (fun hp => ⟨?_, ?_, ?_, ?_, ?_, ?_, ?_, ?_, trivial⟩) ?_
    · exact q_loadInt (off := 0) hp (free_of rfl) trivial (List.mem_iff_getElem?.2 ⟨0, rfl⟩) (.inl rfl) (Nat.le_of_ble_eq_true rfl) (sq_out (s := 6) rfl rfl (fun _ _ => rfl)) (fun us w hl h => ld_num hl h.2.2)
    · exact q_move hp (free_of rfl) trivial (sq_out (s := 9) rfl rfl (fun _ _ => rfl))
    · exact q_call2W (F := (Fq.num z).P) (G := (Fq.is (.int .i64 (B : Int))).P) hp (free_of rfl) trivial (enq_f_algorist_prime_Strong) rfl (sq_in 0 rfl rfl (by simp) rfl (fun v w h => h)) (sq_in 1 rfl rfl (by simp) rfl (fun v w h => h)) (fun v v' w hbw h h' => (by subst h'; exact strongE h BZ9.out HNO.out))
    · exact q_move hp (free_of rfl) trivial (sq_in 2 rfl rfl (by simp) rfl (fun v w h => h))
    · exact q_extract2 hp (free_of rfl) trivial (sq_in 3 rfl rfl (by simp) rfl (fun v w h => h)) (fun v1 v2 w h1 h2 => ⟨_, rfl, h1⟩)
    · exact q_extract2 hp (free_of rfl) trivial (sq_in 3 rfl rfl (by simp) rfl (fun v w h => h)) (fun v1 v2 w h1 h2 => ⟨_, rfl, h2⟩)
    · exact q_assign hp (free_of rfl) trivial (sq_in 4 rfl rfl (by simp) rfl (fun v w h => h))
    · exact q_assign hp (free_of rfl) trivial (sq_in 5 rfl rfl (by simp) rfl (fun v w h => h))
    intro L vs w23 nb hL hC hn E23
    have e1 : vs 1 = .int .i64 (B : Int) := hC 1 (by simp)
    have e4 : vs 4 = .bool false := hC 4 (by simp)
    have e5 : vs 5 = .int .i64 1 := hC 5 (by simp)
    have e6 : vs 6 = .bool false := hC 6 (by simp)
    have e7 : vs 7 = .int .i64 1 := hC 7 (by simp)
    have E : Fr w [(b4_2, 2, Fq.nraw m1 d1 j1 cc1 ys z), (b1, 2, Fq.raw n1 a1 k1 c1 xs1)] w23 := E23
    rw [lay_all hL]
    simp only [putAll, dstOf, List.length_cons, List.length_nil, Nat.zero_add, Nat.reduceAdd, List.getElem?_toArray, List.getElem?_cons_zero, List.getElem?_cons_succ, Option.bind_some, Act.put, List.setIfInBounds_toArray, List.set_cons_succ, List.set_cons_zero]
    rw [e1, e4, e5, e6, e7]
    generalize vs 0 = u23_0
    generalize vs 2 = u23_2
    generalize vs 3 = u23_3
    clear e1 e4 e5 e6 e7 hC hn E23 hL vs L nb
    go_upto_region 8 with (fail)
    have B24 : Hid (ab ((2)) < pw 3) := ab_lit (by decide)
    refine region_fr (C := [Fq.num z, Fq.num (2), Fq.is (.int .i64 (cmpI z (2))), Fq.is (.bool true), Fq.is (.bool true), Fq.is (undef), Fq.is (undef), Fq.is (undef), Fq.is (undef), Fq.is (undef), Fq.is (undef), Fq.is (.bool true)]) (ks := [none, none]) (new := []) E rfl (by kernel_rfl) rfl rfl (fun hp => ⟨?_, ?_, ?_, ?_, ?_, ?_, ?_, ?_, ?_, ?_, ?_, ?_, trivial⟩) ?_
    · exact q_loadInt (off := 0) hp (free_of rfl) trivial (List.mem_iff_getElem?.2 ⟨0, rfl⟩) (.inl rfl) (Nat.le_of_ble_eq_true rfl) (sq_out (s := 6) rfl rfl (fun _ _ => rfl)) (fun us w hl h => ld_num hl h.2.2)
    · exact q_call1 (F := (Fq.is (.int .i64 2)).P) hp (free_of rfl) trivial (enq_R_Of) (sq_const (fun _ => rfl)) (fun v w h => (by subst h; exact rOfK w (2) (by omega) (by omega)))
    · exact q_call2 (F := (Fq.num z).P) (G := (Fq.num (2)).P) hp (free_of rfl) trivial (enq_R_Cmp) (sq_in 0 rfl rfl (by simp) rfl (fun v w h => h)) (sq_in 1 rfl rfl (by simp) rfl (fun v w h => h)) (fun v v' w h h' => exRCmp' h h')
    · exact q_one (F := fun v _ => v = .int .i64 (cmpI z (2))) hp (free_of rfl) trivial (sq_in 2 rfl rfl (by simp) rfl (fun v w h => h)) (fun ρ w hc h => ⟨.bool true, by simp [execOp, go_sem, h, hc, T1.out], rfl⟩)
    · exact q_move hp (free_of rfl) trivial (sq_in 3 rfl rfl (by simp) rfl (fun v w h => h))
    · exact q_skip hp (free_of rfl) rfl (gq_some rfl rfl (by simp) rfl (fun v w h => h)) (fun _ => rfl)
    · exact q_skip hp (free_of rfl) rfl (gq_some rfl rfl (by simp) rfl (fun v w h => h)) (fun _ => rfl)
    · exact q_skip hp (free_of rfl) rfl (gq_some rfl rfl (by simp) rfl (fun v w h => h)) (fun _ => rfl)
    · exact q_skip hp (free_of rfl) rfl (gq_some rfl rfl (by simp) rfl (fun v w h => h)) (fun _ => rfl)
    · exact q_skip hp (free_of rfl) rfl (gq_some rfl rfl (by simp) rfl (fun v w h => h)) (fun _ => rfl)
    · exact q_skip hp (free_of rfl) rfl (gq_some rfl rfl (by simp) rfl (fun v w h => h)) (fun _ => rfl)
    · exact q_two (F := fun v _ => v = .bool true) (G := fun v _ => v = .bool true) hp (free_of rfl) trivial (sq_in 4 rfl rfl (by simp) rfl (fun v w h => h)) (sq_const (fun _ => rfl)) (fun ρ w hc h h' => ⟨_, by simp [execOp, go_sem, h, h'], rfl⟩)
    intro L vs w25 nb hL hC hn E25
    have e2 : vs 2 = .int .i64 (cmpI z (2)) := hC 2 (by simp)
    have e3 : vs 3 = .bool true := hC 3 (by simp)
    have e4 : vs 4 = .bool true := hC 4 (by simp)
    have e5 : vs 5 = undef := hC 5 (by simp)
    have e6 : vs 6 = undef := hC 6 (by simp)
    have e7 : vs 7 = undef := hC 7 (by simp)
    have e8 : vs 8 = undef := hC 8 (by simp)
    have e9 : vs 9 = undef := hC 9 (by simp)
    have e10 : vs 10 = undef := hC 10 (by simp)
    have e11 : vs 11 = .bool true := hC 11 (by simp)
    have E : Fr w [(b4_2, 2, Fq.nraw m1 d1 j1 cc1 ys z), (b1, 2, Fq.raw n1 a1 k1 c1 xs1)] w25 := E25
    rw [lay_all hL]
    simp only [putAll, dstOf, List.length_cons, List.length_nil, Nat.zero_add, Nat.reduceAdd, List.getElem?_toArray, List.getElem?_cons_zero, List.getElem?_cons_succ, Option.bind_some, Act.put, List.setIfInBounds_toArray, List.set_cons_succ, List.set_cons_zero]
    rw [e2, e3, e4, e5, e6, e7, e8, e9, e10, e11]
    generalize vs 0 = u25_0
    generalize vs 1 = u25_1
    clear e2 e3 e4 e5 e6 e7 e8 e9 e10 e11 hC hn E25 hL vs L nb
    clear T1 HNO WB WC
    go_upto_region 9 with (fail)
    refine region_fr (C := [Fq.is (.bool true), Fq.is (.bool true), Fq.is (.int .i64 1), Fq.is (.bool true), Fq.is (.bool true), Fq.is (.bool true), Fq.is (.int .i64 1), Fq.is (.bool true), Fq.is (.bool true), Fq.is (.bool true), Fq.is (.bool false), Fq.is (.bool true), Fq.is (.bool true), Fq.is (.bool true), Fq.is (.bool false), Fq.is (.bool true), Fq.is (.bool true), Fq.is (.bool true)]) (ks := [none, none]) (new := []) E rfl (by kernel_rfl) rfl rfl (fun hp => ⟨?_, ?_, ?_, ?_, ?_, ?_, ?_, ?_, ?_, ?_, ?_, ?_, ?_, ?_, ?_, ?_, ?_, ?_, trivial⟩) ?_
    · exact q_move hp (free_of rfl) trivial (sq_out (s := 5) rfl rfl (fun _ _ => rfl))
    · exact q_move hp (free_of rfl) trivial (sq_in 0 rfl rfl (by simp) rfl (fun v w h => h))
    · exact q_move hp (free_of rfl) (gq_some rfl rfl (by simp) rfl (fun v w h => h)) (sq_out (s := 8) rfl rfl (fun _ _ => rfl))
    · exact q_one (F := fun v _ => v = .int .i64 1) hp (free_of rfl) (gq_some rfl rfl (by simp) rfl (fun v w h => h)) (sq_in 2 rfl rfl (by simp) rfl (fun v w h => h)) (fun ρ w hc h => ⟨.bool true, by simp [execOp, go_sem, h, hc], rfl⟩)
    · exact q_two (F := fun v _ => v = .bool true) (G := fun v _ => v = .bool true) hp (free_of rfl) trivial (sq_in 1 rfl rfl (by simp) rfl (fun v w h => h)) (sq_in 3 rfl rfl (by simp) rfl (fun v w h => h)) (fun ρ w hc h h' => ⟨_, by simp [execOp, go_sem, h, h'], rfl⟩)
    · exact q_move hp (free_of rfl) trivial (sq_in 4 rfl rfl (by simp) rfl (fun v w h => h))
    · exact q_move hp (free_of rfl) (gq_some rfl rfl (by simp) rfl (fun v w h => h)) (sq_out (s := 11) rfl rfl (fun _ _ => rfl))
    · exact q_one (F := fun v _ => v = .int .i64 1) hp (free_of rfl) (gq_some rfl rfl (by simp) rfl (fun v w h => h)) (sq_in 6 rfl rfl (by simp) rfl (fun v w h => h)) (fun ρ w hc h => ⟨.bool true, by simp [execOp, go_sem, h, hc], rfl⟩)
    · exact q_two (F := fun v _ => v = .bool true) (G := fun v _ => v = .bool true) hp (free_of rfl) trivial (sq_in 5 rfl rfl (by simp) rfl (fun v w h => h)) (sq_in 7 rfl rfl (by simp) rfl (fun v w h => h)) (fun ρ w hc h h' => ⟨_, by simp [execOp, go_sem, h, h'], rfl⟩)
    · exact q_move hp (free_of rfl) trivial (sq_in 8 rfl rfl (by simp) rfl (fun v w h => h))
    · exact q_move hp (free_of rfl) (gq_some rfl rfl (by simp) rfl (fun v w h => h)) (sq_out (s := 7) rfl rfl (fun _ _ => rfl))
    · exact q_one (F := fun v _ => v = .bool false) hp (free_of rfl) (gq_some rfl rfl (by simp) rfl (fun v w h => h)) (sq_in 10 rfl rfl (by simp) rfl (fun v w h => h)) (fun ρ w _ h => ⟨.bool true, by simp [execOp, go_sem, h], rfl⟩)
    · exact q_two (F := fun v _ => v = .bool true) (G := fun v _ => v = .bool true) hp (free_of rfl) trivial (sq_in 9 rfl rfl (by simp) rfl (fun v w h => h)) (sq_in 11 rfl rfl (by simp) rfl (fun v w h => h)) (fun ρ w hc h h' => ⟨_, by simp [execOp, go_sem, h, h'], rfl⟩)
    · exact q_move hp (free_of rfl) trivial (sq_in 12 rfl rfl (by simp) rfl (fun v w h => h))
    · exact q_move hp (free_of rfl) (gq_some rfl rfl (by simp) rfl (fun v w h => h)) (sq_out (s := 10) rfl rfl (fun _ _ => rfl))
    · exact q_one (F := fun v _ => v = .bool false) hp (free_of rfl) (gq_some rfl rfl (by simp) rfl (fun v w h => h)) (sq_in 14 rfl rfl (by simp) rfl (fun v w h => h)) (fun ρ w _ h => ⟨.bool true, by simp [execOp, go_sem, h], rfl⟩)
    · exact q_two (F := fun v _ => v = .bool true) (G := fun v _ => v = .bool true) hp (free_of rfl) trivial (sq_in 13 rfl rfl (by simp) rfl (fun v w h => h)) (sq_in 15 rfl rfl (by simp) rfl (fun v w h => h)) (fun ρ w hc h h' => ⟨_, by simp [execOp, go_sem, h, h'], rfl⟩)
    · exact q_assign hp (free_of rfl) trivial (sq_in 16 rfl rfl (by simp) rfl (fun v w h => h))
    intro L vs w26 nb hL hC hn E26
    have e0 : vs 0 = .bool true := hC 0 (by simp)
    have e1 : vs 1 = .bool true := hC 1 (by simp)
    have e2 : vs 2 = .int .i64 1 := hC 2 (by simp)
    have e3 : vs 3 = .bool true := hC 3 (by simp)
    have e4 : vs 4 = .bool true := hC 4 (by simp)
    have e5 : vs 5 = .bool true := hC 5 (by simp)
    have e6 : vs 6 = .int .i64 1 := hC 6 (by simp)
    have e7 : vs 7 = .bool true := hC 7 (by simp)
    have e8 : vs 8 = .bool true := hC 8 (by simp)
    have e9 : vs 9 = .bool true := hC 9 (by simp)
    have e10 : vs 10 = .bool false := hC 10 (by simp)
    have e11 : vs 11 = .bool true := hC 11 (by simp)
    have e12 : vs 12 = .bool true := hC 12 (by simp)
    have e13 : vs 13 = .bool true := hC 13 (by simp)
    have e14 : vs 14 = .bool false := hC 14 (by simp)
    have e15 : vs 15 = .bool true := hC 15 (by simp)
    have e16 : vs 16 = .bool true := hC 16 (by simp)
    have e17 : vs 17 = .bool true := hC 17 (by simp)
    have E : Fr w [(b4_2, 2, Fq.nraw m1 d1 j1 cc1 ys z), (b1, 2, Fq.raw n1 a1 k1 c1 xs1)] w26 := E26
    rw [lay_all hL]
    simp only [putAll, dstOf, List.length_cons, List.length_nil, Nat.zero_add, Nat.reduceAdd, List.getElem?_toArray, List.getElem?_cons_zero, List.getElem?_cons_succ, Option.bind_some, Act.put, List.setIfInBounds_toArray, List.set_cons_succ, List.set_cons_zero]
    rw [e0, e1, e2, e3, e4, e5, e6, e7, e8, e9, e10, e11, e12, e13, e14, e15, e16, e17]
    clear e0 e1 e2 e3 e4 e5 e6 e7 e8 e9 e10 e11 e12 e13 e14 e15 e16 e17 hC hn E26 hL vs L nb
    clear B24 Bz hT BZ9
    go_wp2
    refine bodyPost_ret (v := .bool true) ?_ rfl ⟨rfl, E.below⟩
    simp [results, Tryd.results8, go_sem]

end Go.Proofs.YthgpcgijhmgenaaDoor
