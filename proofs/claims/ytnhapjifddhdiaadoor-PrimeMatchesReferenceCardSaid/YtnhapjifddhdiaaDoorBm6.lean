/- Pv, Px, Qh, Qi, Qj, Qk, Ql, Qm, Qn. -/
import Derived.Test.YtnhapjifddhdiaaDoorBm5
namespace Go.Proofs.YtnhapjifddhdiaaDoor
open Go Go.RowKit

theorem enq_f_algorist_algoristlaw04_same (args : Array Value) (w : World) : (callFunc 15 args).run Tryd.prog w = .ok (.enter 15 args) w := enter_of Tryd.func15 (by kernel_rfl) rfl args w
theorem enq_f_algorist_algoristlaw04_examples (args : Array Value) (w : World) : (callFunc 4 args).run Tryd.prog w = .ok (.enter 4 args) w := enter_of Tryd.func4 (by kernel_rfl) rfl args w
section
variable {os : List Oper} {Q : Exit → Act → World → Prop} {a : Act} {p : Pq} {B B0 : Nat} {w0 : World}
variable {i s : Nat} {d : Option Tmp} {ty : TypeId} {ps : String} {af : Array Edge} {gd : Option (Nat × Bool)}
theorem q_buildConst4 {n0 : Nb} {z1 z2 z3 z4 : Int} (hp : p.Ok B B0) (hg : GdQ os a p B B0 w0 af gd) (hi : n0 ∈ p.new) (hii : n0.i = i) (hki : n0.k = i) (hsl : n0.s = some 4) (hm : n0.m = 4) (hF1 : n0.F1 = Fq.is (.agg #[.int .i64 z1, .int .i64 z2, .int .i64 z3, .int .i64 z4]))
    (hC : ∀ v w', (p.c i).P v w') (h1 : ∀ o ∈ p.old, o.k ≠ i) (h2 : ∀ n ∈ p.new, n.i ≠ i → n.k ≠ i) :
    StepQ os Q a p B B0 w0 i { dst := d, op := .buildSlice 36 4 #[(0, .const (.int .i64 z1)), (1, .const (.int .i64 z2)), (2, .const (.int .i64 z3)), (3, .const (.int .i64 z4))], type := ty, pos := ps, after := af, guard := gd } := by
  intro hio L vs w hG hL hd hc
  obtain ⟨us, hus⟩ : ∃ us : List Value, us = [.int .i64 z1, .int .i64 z2, .int .i64 z3, .int .i64 z4] := ⟨_, rfl⟩
  refine wpOp_step hio fun K' hK => ?_
  rw [if_pos (wanted_of (o := { dst := d, op := .buildSlice 36 4 #[(0, .const (.int .i64 z1)), (1, .const (.int .i64 z2)), (2, .const (.int .i64 z3)), (3, .const (.int .i64 z4))], type := ty, pos := ps, after := af, guard := gd }) hg hG hd)]
  have e : (execOp (lay os.toArray L vs os.toArray.size a).eval ({ dst := d, op := .buildSlice 36 4 #[(0, .const (.int .i64 z1)), (1, .const (.int .i64 z2)), (2, .const (.int .i64 z3)), (3, .const (.int .i64 z4))], type := ty, pos := ps, after := af, guard := gd } : Oper)).run Tryd.prog w = .ok (.value (.slice (some ⟨w.heap.size, 0, none⟩) 4 4)) (w.alloc (.cells us.toArray 3)) := by
    simp [execOp, go_sem, hus]
  unfold Oper.wp
  rw [e]
  subst hii
  have hnow : n0.now (up L n0.i true) = n0.F1 := by
    unfold Nb.now
    rw [hsl]
    rfl
  have hlay := hG.lay hp hi (F := n0.F1) hnow hC h1 h2 3 (us := us) (by rw [hus, hm]; rfl) (by omega) (by
      rw [hus]
      intro u hu q e
      simp at hu
      rcases hu with rfl | rfl | rfl | rfl <;> cases e) (by
      rw [hF1, hus]
      rfl)
  have hptr : n0.ptr w.heap.size = .slice (some ⟨w.heap.size, 0, none⟩) 4 4 := by unfold Nb.ptr; rw [hsl]
  rw [hptr] at hlay
  exact hK _ _ ⟨_, rfl, hlay⟩
end
theorem below_ten : below 11 = [2, 3, 5, 7] := by decide
set_option maxRecDepth 20000 in
set_option maxHeartbeats 2000000 in
theorem same4_any (w : World) (g b cap : Nat) (zs : List Int) (h1 : ∀ i, i < 4 → w.cell? ⟨g, i, none⟩ = some (.int .i64 (zs.getD i 0))) (h2 : ∀ i, i < 4 → w.cell? ⟨b, i, none⟩ = some (.int .i64 (zs.getD i 0))) :
    Calls Tryd.prog 15 #[.slice (some ⟨g, 0, none⟩) 4 cap, .slice (some ⟨b, 0, none⟩) 4 4] w fun e w' => e = .returned (.bool true) ∧ Below w.heap.size w w' := by
  have H := hidd (And.intro h1 h2)
  clear h1 h2
  go_enter Tryd.func15, Tryd.ntmps15
  go_wp2
  go_loopw [5] (fun vi wr => ∃ i : Nat, vi = .int .i64 (i : Int) ∧ i ≤ 4 ∧ Drawn w wr) (fun vi _ => 4 - (intOf vi).toNat)
  case atStart => exact ⟨0, rfl, by omega, Drawn.refl w⟩
  case round =>
    obtain ⟨i, rfl, hi, hd⟩ := hrel
    by_cases hi4 : i < 4
    · have hii : (i : Int) < 4 := by omega
      have c1 := (hd.cell _).trans (H.out.1 i hi4)
      have c2 := (hd.cell _).trans (H.out.2 i hi4)
      have hw : IntKind.i64.wrap ((i : Int) + 1) = (i : Int) + 1 := IntWalk.i64_in _ (by omega)
      obtain ⟨z, hz⟩ : ∃ z, z = zs.getD i 0 := ⟨_, rfl⟩
      rw [← hz] at c1 c2
      clear hz
      go_wp2
      go_quiet (fail)
      go_wp2
      go_roundw
      case rel => exact ⟨i + 1, by first | go_num | (rw [hw]; go_num), by omega, hd.drewN _⟩
      case measure => first | (rw [hw]; simp [intOf]; omega) | (simp [intOf]; omega)
    · have hii : ¬ (i : Int) < 4 := by omega
      go_wp2
      go_ret
      exact ⟨rfl, hd.below _⟩
theorem exLSame {w0 w : World} {B : Nat} {v : Value} {b : Nat} (h : Ni w0 B v [2, 3, 5, 7]) (hb : Below w0.heap.size w0 w) (hx : Bq w b 4 (Fq.is (.agg #[.int .i64 2, .int .i64 3, .int .i64 5, .int .i64 7]))) :
    Calls Tryd.prog 15 #[v, .slice (some ⟨b, 0, none⟩) 4 4] w fun e w' => ∃ v', e = .returned v' ∧ Below w.heap.size w w' ∧ v' = .bool true := by
  have h := h.below hb
  obtain ⟨ao, cap, rfl⟩ := h.shape
  obtain ⟨g, rfl, _⟩ := h.cell (i := 0) (by decide)
  obtain ⟨us, hl, _, hat, _, hP⟩ := hx
  have hus : us = [.int .i64 2, .int .i64 3, .int .i64 5, .int .i64 7] := by
    injection hP with e
    have e2 := congrArg Array.toList e
    simpa using e2
  subst hus
  refine (same4_any w g b cap [2, 3, 5, 7] (fun i hi => ?_) (fun i hi => ?_)).mono fun e w' hh => ⟨_, hh.1, hh.2, rfl⟩
  · obtain ⟨g2, e, hc⟩ := h.cell (i := i) hi
    injection e with e
    injection e with e1 _ _
    subst e1
    rw [hc]
    rcases (by omega : i = 0 ∨ i = 1 ∨ i = 2 ∨ i = 3) with rfl | rfl | rfl | rfl <;> rfl
  · rw [(hat i hi).1]
    rcases (by omega : i = 0 ∨ i = 1 ∨ i = 2 ∨ i = 3) with rfl | rfl | rfl | rfl <;> rfl
theorem ab_lt900 {z : Int} (h : -9223372036854775808 ≤ z ∧ z ≤ 9223372036854775807) : ab z < pw 900 := by
  have h3 : pw 2 ≤ pw 900 := pw_le (by omega)
  have h4 : pw 2 = 18446744073709551616 := by decide
  unfold ab
  omega
theorem exE1 {w : World} {v : Value} (h : Num w v (2047)) (hT : TabsP w) : Calls Tryd.prog 8 #[v, .int .i64 2] w fun e w' => ∃ v', e = .returned v' ∧ Below w.heap.size w w' ∧ (Fq.tup2 (Fq.is (.bool true)) (Fq.is (.int .i64 0))).P v' w' := by
  refine (exPStrongN (b := 2) (N := 2047) h hT (ab_lt900 (by omega)) (by decide) (by decide) (by omega) rfl (by omega)).mono ?_
  rintro e w' ⟨_, h1, h2, rfl⟩
  exact ⟨_, h1, h2, _, _, rfl, congrArg Value.bool ex_2047.1, rfl⟩
theorem exE2 {w : World} {v : Value} (h : Num w v (2047)) (hT : TabsP w) : Calls Tryd.prog 8 #[v, .int .i64 3] w fun e w' => ∃ v', e = .returned v' ∧ Below w.heap.size w w' ∧ (Fq.tup2 (Fq.is (.bool false)) (Fq.is (.int .i64 0))).P v' w' := by
  refine (exPStrongN (b := 3) (N := 2047) h hT (ab_lt900 (by omega)) (by decide) (by decide) (by omega) rfl (by omega)).mono ?_
  rintro e w' ⟨_, h1, h2, rfl⟩
  exact ⟨_, h1, h2, _, _, rfl, congrArg Value.bool ex_2047.2, rfl⟩
theorem wit_2047 : witB 2047 199 2 = 3 := by decide +kernel
theorem wit_11 : witB 11 199 2 = 0 := by decide +kernel
theorem pr_7 : primeB (7 + 4) = true ∧ primeB (7 + 1) = false ∧ primeB (7 + 2) = false ∧ primeB (7 + 3) = false := by decide +kernel
theorem exE3 {w : World} {v : Value} (h : Num w v (2047)) (hT : TabsP w) : Calls Tryd.prog 10 #[v] w fun e w' => ∃ v', e = .returned v' ∧ Below w.heap.size w w' ∧ (Fq.tup2 (Fq.is (.int .i64 3)) (Fq.is (.int .i64 0))).P v' w' := by
  refine (exPWitN (N := 2047) h hT (ab_lt900 (by omega)) (by decide) (by decide) rfl (by omega) (by rw [wit_2047]; decide)).mono ?_
  rintro e w' ⟨_, h1, h2, rfl⟩
  exact ⟨_, h1, h2, _, _, rfl, by rw [wit_2047]; rfl, rfl⟩
theorem exE4 {w : World} {v : Value} (h : Num w v (2305843009213693951)) (hT : TabsP w) : Calls Tryd.prog 6 #[v] w fun e w' => ∃ v', e = .returned v' ∧ Below w.heap.size w w' ∧ (Fq.tup2 (Fq.is (.bool true)) (Fq.is (.int .i64 0))).P v' w' := by
  refine (exPIsN (N := 2305843009213693951) h hT (ab_lt900 (by omega)) (by decide) rfl (by omega)).mono ?_
  rintro e w' ⟨_, h1, h2, rfl⟩
  exact ⟨_, h1, h2, _, _, rfl, congrArg Value.bool ex_61.1, rfl⟩
theorem exE5 {w : World} {v : Value} (h : Num w v (2305843009213693953)) (hT : TabsP w) : Calls Tryd.prog 6 #[v] w fun e w' => ∃ v', e = .returned v' ∧ Below w.heap.size w w' ∧ (Fq.tup2 (Fq.is (.bool false)) (Fq.is (.int .i64 0))).P v' w' := by
  refine (exPIsN (N := 2305843009213693953) h hT (ab_lt900 (by omega)) (by decide) rfl (by omega)).mono ?_
  rintro e w' ⟨_, h1, h2, rfl⟩
  exact ⟨_, h1, h2, _, _, rfl, congrArg Value.bool ex_61.2, rfl⟩
theorem exE6 {w : World} {v : Value} (h : Num w v (7)) (hT : TabsP w) : Calls Tryd.prog 14 #[v] w fun e w' => ∃ v', e = .returned v' ∧ Below w.heap.size w w' ∧ (Fq.tup2 (Fq.num 11) (Fq.is (.int .i64 0))).P v' w' := by
  exact exPNextN (N := 7) (g := 4) h hT (ab_lt900 (by omega)) (by decide) (by decide) rfl (by omega) (by omega) pr_7.1 (fun j h1 h2 => by rcases (by omega : j = 1 ∨ j = 2 ∨ j = 3) with rfl | rfl | rfl; exact pr_7.2.1; exact pr_7.2.2.1; exact pr_7.2.2.2)
theorem exE7 {w : World} {v : Value} (h : Num w v (-5)) (_hT : TabsP w) : Calls Tryd.prog 14 #[v] w fun e w' => ∃ v', e = .returned v' ∧ Below w.heap.size w w' ∧ (Fq.tup2 (Fq.num 2) (Fq.is (.int .i64 0))).P v' w' := by
  exact exPNextZ h (ab_lt900 (by omega)) (by omega)
theorem exE8 {w : World} {v : Value} (h : Num w v (11)) (hT : TabsP w) : Calls Tryd.prog 10 #[v] w fun e w' => ∃ v', e = .returned v' ∧ Below w.heap.size w w' ∧ (Fq.tup2 (Fq.is (.int .i64 0)) (Fq.is (.int .i64 6))).P v' w' := by
  refine (exPWit0 (N := 11) h hT (ab_lt900 (by omega)) (by decide) (by decide) rfl (by omega) wit_11).mono ?_
  rintro e w' ⟨_, h1, h2, rfl⟩
  exact ⟨_, h1, h2, _, _, rfl, rfl, rfl⟩
theorem exE9 {w : World} {v : Value} (h : Num w v (4)) (_hT : TabsP w) : Calls Tryd.prog 8 #[v, .int .i64 3] w fun e w' => ∃ v', e = .returned v' ∧ Below w.heap.size w w' ∧ (Fq.tup2 (Fq.is (.bool false)) (Fq.is (.int .i64 1))).P v' w' := by
  refine (exPStrongE h (ab_lt900 (by omega)) (by decide)).mono ?_
  rintro e w' ⟨_, h1, h2, rfl⟩
  exact ⟨_, h1, h2, _, _, rfl, rfl, rfl⟩
set_option maxRecDepth 100000 in
set_option maxHeartbeats 4000000 in
theorem exPExamples {w : World} (hT : TabsP w) :
    Calls Tryd.prog 4 #[] w fun e w' => ∃ v', e = .returned v' ∧ Below w.heap.size w w' ∧ v' = .bool true := by
  replace hT := hidd hT
  go_enter Tryd.func4, Tryd.ntmps4
  go_upto_region 2 with (go_at_call 12; refine (exSmall 10 (by omega) (by omega) _).mono ?_; rintro e w1 ⟨v, rfl, hN, hb1⟩)
  have HB1 := hidd hb1
  have HT : Hid (TabsP w1) := hT.out.mono hb1
  have HN : Hid (Ni w1 w.heap.size v [2, 3, 5, 7]) := by rw [← below_ten]; exact hN
  clear hN hb1 hT
  have E := Fr.start w1
  have B1 : Hid (ab ((2047)) < pw 3) := ab_lit (by decide)
  refine region_fr (C := [Fq.num (2047), Fq.tup2 (Fq.is (.bool true)) (Fq.is (.int .i64 0)), Fq.tup2 (Fq.is (.bool true)) (Fq.is (.int .i64 0)), Fq.is (.bool true), Fq.is (.int .i64 0), Fq.is (.bool true), Fq.is (.int .i64 0)]) (ks := []) (new := []) E rfl (by kernel_rfl) rfl rfl (fun hp => ⟨?_, ?_, ?_, ?_, ?_, ?_, ?_, trivial⟩) ?_
  · exact q_call1 (F := (Fq.is (.int .i64 2047)).P) hp (free_of rfl) trivial (enq_R_Of) (sq_const (fun _ => rfl)) (fun v w h => (by subst h; exact rOfK w (2047) (by omega) (by omega)))
  · exact q_call2W (F := (Fq.num (2047)).P) (G := (Fq.is (.int .i64 2)).P) hp (free_of rfl) trivial (enq_f_algorist_prime_Strong) rfl (sqi 0) (sq_const (fun _ => rfl)) (fun v v' w hbw h h' => (by subst h'; exact exE1 h (HT.out.mono hbw)))
  · exact q_move hp (free_of rfl) trivial (sqi 1)
  · exact q_extract2 hp (free_of rfl) trivial (sqi 2) (fun v1 v2 w h1 h2 => ⟨_, rfl, h1⟩)
  · exact q_extract2 hp (free_of rfl) trivial (sqi 2) (fun v1 v2 w h1 h2 => ⟨_, rfl, h2⟩)
  · exact q_assign hp (free_of rfl) trivial (sqi 3)
  · exact q_assign hp (free_of rfl) trivial (sqi 4)
  intro L vs w2 nb hL hC hn E2
  have e3 : vs 3 = .bool true := hC 3 (by simp)
  have e4 : vs 4 = .int .i64 0 := hC 4 (by simp)
  have e5 : vs 5 = .bool true := hC 5 (by simp)
  have e6 : vs 6 = .int .i64 0 := hC 6 (by simp)
  have E : Fr w1 [] w2 := E2
  rw [lay_all hL]
  simp only [putAll, dstOf, List.length_cons, List.length_nil, Nat.zero_add, Nat.reduceAdd, List.getElem?_toArray, List.getElem?_cons_zero, List.getElem?_cons_succ, Option.bind_some, Act.put, List.setIfInBounds_toArray, List.set_cons_succ, List.set_cons_zero]
  rw [e3, e4, e5, e6]
  generalize vs 0 = u2_0
  generalize vs 1 = u2_1
  generalize vs 2 = u2_2
  clear e3 e4 e5 e6 hC hn E2 hL vs L nb
  go_upto_region 3 with (fail)
  refine region_fr (C := [Fq.num (2047), Fq.tup2 (Fq.is (.bool false)) (Fq.is (.int .i64 0)), Fq.tup2 (Fq.is (.bool false)) (Fq.is (.int .i64 0)), Fq.is (.bool false), Fq.is (.int .i64 0), Fq.is (.bool false), Fq.is (.int .i64 0)]) (ks := []) (new := []) E rfl (by kernel_rfl) rfl rfl (fun hp => ⟨?_, ?_, ?_, ?_, ?_, ?_, ?_, trivial⟩) ?_
  · exact q_call1 (F := (Fq.is (.int .i64 2047)).P) hp (free_of rfl) trivial (enq_R_Of) (sq_const (fun _ => rfl)) (fun v w h => (by subst h; exact rOfK w (2047) (by omega) (by omega)))
  · exact q_call2W (F := (Fq.num (2047)).P) (G := (Fq.is (.int .i64 3)).P) hp (free_of rfl) trivial (enq_f_algorist_prime_Strong) rfl (sqi 0) (sq_const (fun _ => rfl)) (fun v v' w hbw h h' => (by subst h'; exact exE2 h (HT.out.mono hbw)))
  · exact q_move hp (free_of rfl) trivial (sqi 1)
  · exact q_extract2 hp (free_of rfl) trivial (sqi 2) (fun v1 v2 w h1 h2 => ⟨_, rfl, h1⟩)
  · exact q_extract2 hp (free_of rfl) trivial (sqi 2) (fun v1 v2 w h1 h2 => ⟨_, rfl, h2⟩)
  · exact q_assign hp (free_of rfl) trivial (sqi 3)
  · exact q_assign hp (free_of rfl) trivial (sqi 4)
  intro L vs w3 nb hL hC hn E3
  have e3 : vs 3 = .bool false := hC 3 (by simp)
  have e4 : vs 4 = .int .i64 0 := hC 4 (by simp)
  have e5 : vs 5 = .bool false := hC 5 (by simp)
  have e6 : vs 6 = .int .i64 0 := hC 6 (by simp)
  have E : Fr w1 [] w3 := E3
  rw [lay_all hL]
  simp only [putAll, dstOf, List.length_cons, List.length_nil, Nat.zero_add, Nat.reduceAdd, List.getElem?_toArray, List.getElem?_cons_zero, List.getElem?_cons_succ, Option.bind_some, Act.put, List.setIfInBounds_toArray, List.set_cons_succ, List.set_cons_zero]
  rw [e3, e4, e5, e6]
  generalize vs 0 = u3_0
  generalize vs 1 = u3_1
  generalize vs 2 = u3_2
  clear e3 e4 e5 e6 hC hn E3 hL vs L nb
  go_upto_region 4 with (fail)
  refine region_fr (C := [Fq.num (2047), Fq.tup2 (Fq.is (.int .i64 3)) (Fq.is (.int .i64 0)), Fq.tup2 (Fq.is (.int .i64 3)) (Fq.is (.int .i64 0)), Fq.is (.int .i64 3), Fq.is (.int .i64 0), Fq.is (.int .i64 3), Fq.is (.int .i64 0)]) (ks := []) (new := []) E rfl (by kernel_rfl) rfl rfl (fun hp => ⟨?_, ?_, ?_, ?_, ?_, ?_, ?_, trivial⟩) ?_
  · exact q_call1 (F := (Fq.is (.int .i64 2047)).P) hp (free_of rfl) trivial (enq_R_Of) (sq_const (fun _ => rfl)) (fun v w h => (by subst h; exact rOfK w (2047) (by omega) (by omega)))
  · exact q_call1W (F := (Fq.num (2047)).P) hp (free_of rfl) trivial (enq_f_algorist_prime_Witness) rfl (sqi 0) (fun v w hbw h => exE3 h (HT.out.mono hbw))
  · exact q_move hp (free_of rfl) trivial (sqi 1)
  · exact q_extract2 hp (free_of rfl) trivial (sqi 2) (fun v1 v2 w h1 h2 => ⟨_, rfl, h1⟩)
  · exact q_extract2 hp (free_of rfl) trivial (sqi 2) (fun v1 v2 w h1 h2 => ⟨_, rfl, h2⟩)
  · exact q_assign hp (free_of rfl) trivial (sqi 3)
  · exact q_assign hp (free_of rfl) trivial (sqi 4)
  intro L vs w4 nb hL hC hn E4
  have e3 : vs 3 = .int .i64 3 := hC 3 (by simp)
  have e4 : vs 4 = .int .i64 0 := hC 4 (by simp)
  have e5 : vs 5 = .int .i64 3 := hC 5 (by simp)
  have e6 : vs 6 = .int .i64 0 := hC 6 (by simp)
  have E : Fr w1 [] w4 := E4
  rw [lay_all hL]
  simp only [putAll, dstOf, List.length_cons, List.length_nil, Nat.zero_add, Nat.reduceAdd, List.getElem?_toArray, List.getElem?_cons_zero, List.getElem?_cons_succ, Option.bind_some, Act.put, List.setIfInBounds_toArray, List.set_cons_succ, List.set_cons_zero]
  rw [e3, e4, e5, e6]
  generalize vs 0 = u4_0
  generalize vs 1 = u4_1
  generalize vs 2 = u4_2
  clear e3 e4 e5 e6 hC hn E4 hL vs L nb
  go_upto_region 5 with (fail)
  have B5 : Hid (ab ((2305843009213693951)) < pw 3) := ab_lit (by decide)
  refine region_fr (C := [Fq.num (2305843009213693951), Fq.tup2 (Fq.is (.bool true)) (Fq.is (.int .i64 0)), Fq.tup2 (Fq.is (.bool true)) (Fq.is (.int .i64 0)), Fq.is (.bool true), Fq.is (.int .i64 0), Fq.is (.bool true), Fq.is (.int .i64 0)]) (ks := []) (new := []) E rfl (by kernel_rfl) rfl rfl (fun hp => ⟨?_, ?_, ?_, ?_, ?_, ?_, ?_, trivial⟩) ?_
  · exact q_call1 (F := (Fq.is (.int .i64 2305843009213693951)).P) hp (free_of rfl) trivial (enq_R_Of) (sq_const (fun _ => rfl)) (fun v w h => (by subst h; exact rOfK w (2305843009213693951) (by omega) (by omega)))
  · exact q_call1W (F := (Fq.num (2305843009213693951)).P) hp (free_of rfl) trivial (enq_f_algorist_prime_Is) rfl (sqi 0) (fun v w hbw h => exE4 h (HT.out.mono hbw))
  · exact q_move hp (free_of rfl) trivial (sqi 1)
  · exact q_extract2 hp (free_of rfl) trivial (sqi 2) (fun v1 v2 w h1 h2 => ⟨_, rfl, h1⟩)
  · exact q_extract2 hp (free_of rfl) trivial (sqi 2) (fun v1 v2 w h1 h2 => ⟨_, rfl, h2⟩)
  · exact q_assign hp (free_of rfl) trivial (sqi 3)
  · exact q_assign hp (free_of rfl) trivial (sqi 4)
  intro L vs w6 nb hL hC hn E6
  have e3 : vs 3 = .bool true := hC 3 (by simp)
  have e4 : vs 4 = .int .i64 0 := hC 4 (by simp)
  have e5 : vs 5 = .bool true := hC 5 (by simp)
  have e6 : vs 6 = .int .i64 0 := hC 6 (by simp)
  have E : Fr w1 [] w6 := E6
  rw [lay_all hL]
  simp only [putAll, dstOf, List.length_cons, List.length_nil, Nat.zero_add, Nat.reduceAdd, List.getElem?_toArray, List.getElem?_cons_zero, List.getElem?_cons_succ, Option.bind_some, Act.put, List.setIfInBounds_toArray, List.set_cons_succ, List.set_cons_zero]
  rw [e3, e4, e5, e6]
  generalize vs 0 = u6_0
  generalize vs 1 = u6_1
  generalize vs 2 = u6_2
  clear e3 e4 e5 e6 hC hn E6 hL vs L nb
  go_upto_region 6 with (fail)
  have B7 : Hid (ab ((2305843009213693953)) < pw 3) := ab_lit (by decide)
  refine region_fr (C := [Fq.num (2305843009213693953), Fq.tup2 (Fq.is (.bool false)) (Fq.is (.int .i64 0)), Fq.tup2 (Fq.is (.bool false)) (Fq.is (.int .i64 0)), Fq.is (.bool false), Fq.is (.int .i64 0), Fq.is (.bool false), Fq.is (.int .i64 0)]) (ks := []) (new := []) E rfl (by kernel_rfl) rfl rfl (fun hp => ⟨?_, ?_, ?_, ?_, ?_, ?_, ?_, trivial⟩) ?_
  · exact q_call1 (F := (Fq.is (.int .i64 2305843009213693953)).P) hp (free_of rfl) trivial (enq_R_Of) (sq_const (fun _ => rfl)) (fun v w h => (by subst h; exact rOfK w (2305843009213693953) (by omega) (by omega)))
  · exact q_call1W (F := (Fq.num (2305843009213693953)).P) hp (free_of rfl) trivial (enq_f_algorist_prime_Is) rfl (sqi 0) (fun v w hbw h => exE5 h (HT.out.mono hbw))
  · exact q_move hp (free_of rfl) trivial (sqi 1)
  · exact q_extract2 hp (free_of rfl) trivial (sqi 2) (fun v1 v2 w h1 h2 => ⟨_, rfl, h1⟩)
  · exact q_extract2 hp (free_of rfl) trivial (sqi 2) (fun v1 v2 w h1 h2 => ⟨_, rfl, h2⟩)
  · exact q_assign hp (free_of rfl) trivial (sqi 3)
  · exact q_assign hp (free_of rfl) trivial (sqi 4)
  intro L vs w8 nb hL hC hn E8
  have e3 : vs 3 = .bool false := hC 3 (by simp)
  have e4 : vs 4 = .int .i64 0 := hC 4 (by simp)
  have e5 : vs 5 = .bool false := hC 5 (by simp)
  have e6 : vs 6 = .int .i64 0 := hC 6 (by simp)
  have E : Fr w1 [] w8 := E8
  rw [lay_all hL]
  simp only [putAll, dstOf, List.length_cons, List.length_nil, Nat.zero_add, Nat.reduceAdd, List.getElem?_toArray, List.getElem?_cons_zero, List.getElem?_cons_succ, Option.bind_some, Act.put, List.setIfInBounds_toArray, List.set_cons_succ, List.set_cons_zero]
  rw [e3, e4, e5, e6]
  generalize vs 0 = u8_0
  generalize vs 1 = u8_1
  generalize vs 2 = u8_2
  clear e3 e4 e5 e6 hC hn E8 hL vs L nb
  go_upto_region 7 with (fail)
  have B9 : Hid (ab ((7)) < pw 3) := ab_lit (by decide)
  have B10 : Hid (ab ((11)) < pw 3) := ab_lit (by decide)
  refine region_fr (C := [Fq.num (7), Fq.tup2 (Fq.num (11)) (Fq.is (.int .i64 0)), Fq.tup2 (Fq.num (11)) (Fq.is (.int .i64 0)), Fq.num (11), Fq.is (.int .i64 0), Fq.any, Fq.any, Fq.is (.int .i64 0)]) (ks := []) (new := [⟨5, 6, 2, Fq.num 0, Fq.num (11), none⟩]) E rfl (by kernel_rfl) rfl rfl (fun hp => ⟨?_, ?_, ?_, ?_, ?_, ?_, ?_, ?_, trivial⟩) ?_
  · exact q_call1 (F := (Fq.is (.int .i64 7)).P) hp (free_of rfl) trivial (enq_R_Of) (sq_const (fun _ => rfl)) (fun v w h => (by subst h; exact rOfK w (7) (by omega) (by omega)))
  · exact q_call1W (F := (Fq.num (7)).P) hp (free_of rfl) trivial (enq_f_algorist_prime_Next) rfl (sqi 0) (fun v w hbw h => exE6 h (HT.out.mono hbw))
  · exact q_move hp (free_of rfl) trivial (sqi 1)
  · exact q_extract2 hp (free_of rfl) trivial (sqi 2) (fun v1 v2 w h1 h2 => ⟨_, rfl, h1⟩)
  · exact q_extract2 hp (free_of rfl) trivial (sqi 2) (fun v1 v2 w h1 h2 => ⟨_, rfl, h2⟩)
  · exact q_allocInt hp (List.mem_iff_getElem?.2 ⟨0, rfl⟩) rfl rfl rfl rfl (Nat.ne_of_beq_eq_false rfl) (fun _ _ => trivial) (old_ne rfl) (newk_ne rfl) (fun w => Num.zero w)
  · exact q_storeNewInt hp (List.mem_iff_getElem?.2 ⟨0, rfl⟩) rfl rfl rfl (own_ptr rfl rfl (by simp) rfl) (sq_in 3 rfl rfl (by simp) rfl (fun v w h => intV_num h)) (fun _ _ => trivial) (old_ne rfl) (newi_ne rfl)
  · exact q_assign hp (free_of rfl) trivial (sqi 4)
  intro L vs w11 nb hL hC hn E11
  have e4 : vs 4 = .int .i64 0 := hC 4 (by simp)
  have e7 : vs 7 = .int .i64 0 := hC 7 (by simp)
  have e5 : vs 5 = .pointer (some ⟨nb 5, 0, none⟩) := hn _ (List.mem_iff_getElem?.2 ⟨0, rfl⟩)
  have E : Fr w1 [(nb 5, 2, Fq.num (11))] w11 := E11
  rw [lay_all hL]
  simp only [putAll, dstOf, List.length_cons, List.length_nil, Nat.zero_add, Nat.reduceAdd, List.getElem?_toArray, List.getElem?_cons_zero, List.getElem?_cons_succ, Option.bind_some, Act.put, List.setIfInBounds_toArray, List.set_cons_succ, List.set_cons_zero]
  rw [e4, e7, e5]
  generalize nb 5 = b11_5 at E ⊢
  generalize vs 0 = u11_0
  generalize vs 1 = u11_1
  generalize vs 2 = u11_2
  generalize vs 3 = u11_3
  clear e4 e7 e5 hC hn E11 hL vs L nb
  go_upto_region 8 with (fail)
  have B12 : Hid (ab ((-5)) < pw 3) := ab_lit (by decide)
  have B13 : Hid (ab ((2)) < pw 3) := ab_lit (by decide)
  refine region_fr (C := [Fq.num (-5), Fq.tup2 (Fq.num (2)) (Fq.is (.int .i64 0)), Fq.tup2 (Fq.num (2)) (Fq.is (.int .i64 0)), Fq.num (2), Fq.is (.int .i64 0), Fq.any, Fq.any, Fq.is (.int .i64 0)]) (ks := [none]) (new := [⟨5, 6, 2, Fq.num 0, Fq.num (2), none⟩]) E rfl (by kernel_rfl) rfl rfl (fun hp => ⟨?_, ?_, ?_, ?_, ?_, ?_, ?_, ?_, trivial⟩) ?_
  · exact q_call1 (F := (Fq.is (.int .i64 (-5))).P) hp (free_of rfl) trivial (enq_R_Of) (sq_const (fun _ => rfl)) (fun v w h => (by subst h; exact rOfK w (-5) (by omega) (by omega)))
  · exact q_call1W (F := (Fq.num (-5)).P) hp (free_of rfl) trivial (enq_f_algorist_prime_Next) rfl (sqi 0) (fun v w hbw h => exE7 h (HT.out.mono hbw))
  · exact q_move hp (free_of rfl) trivial (sqi 1)
  · exact q_extract2 hp (free_of rfl) trivial (sqi 2) (fun v1 v2 w h1 h2 => ⟨_, rfl, h1⟩)
  · exact q_extract2 hp (free_of rfl) trivial (sqi 2) (fun v1 v2 w h1 h2 => ⟨_, rfl, h2⟩)
  · exact q_allocInt hp (List.mem_iff_getElem?.2 ⟨0, rfl⟩) rfl rfl rfl rfl (Nat.ne_of_beq_eq_false rfl) (fun _ _ => trivial) (old_ne rfl) (newk_ne rfl) (fun w => Num.zero w)
  · exact q_storeNewInt hp (List.mem_iff_getElem?.2 ⟨0, rfl⟩) rfl rfl rfl (own_ptr rfl rfl (by simp) rfl) (sq_in 3 rfl rfl (by simp) rfl (fun v w h => intV_num h)) (fun _ _ => trivial) (old_ne rfl) (newi_ne rfl)
  · exact q_assign hp (free_of rfl) trivial (sqi 4)
  intro L vs w14 nb hL hC hn E14
  have e4 : vs 4 = .int .i64 0 := hC 4 (by simp)
  have e7 : vs 7 = .int .i64 0 := hC 7 (by simp)
  have e5 : vs 5 = .pointer (some ⟨nb 5, 0, none⟩) := hn _ (List.mem_iff_getElem?.2 ⟨0, rfl⟩)
  have E : Fr w1 [(nb 5, 2, Fq.num (2)), (b11_5, 2, Fq.num (11))] w14 := E14
  rw [lay_all hL]
  simp only [putAll, dstOf, List.length_cons, List.length_nil, Nat.zero_add, Nat.reduceAdd, List.getElem?_toArray, List.getElem?_cons_zero, List.getElem?_cons_succ, Option.bind_some, Act.put, List.setIfInBounds_toArray, List.set_cons_succ, List.set_cons_zero]
  rw [e4, e7, e5]
  generalize nb 5 = b14_5 at E ⊢
  generalize vs 0 = u14_0
  generalize vs 1 = u14_1
  generalize vs 2 = u14_2
  generalize vs 3 = u14_3
  clear e4 e7 e5 hC hn E14 hL vs L nb
  go_upto_region 9 with (fail)
  refine region_fr (C := [Fq.num (11), Fq.tup2 (Fq.is (.int .i64 0)) (Fq.is (.int .i64 6)), Fq.tup2 (Fq.is (.int .i64 0)) (Fq.is (.int .i64 6)), Fq.is (.int .i64 0), Fq.is (.int .i64 6), Fq.is (.int .i64 0), Fq.is (.int .i64 6)]) (ks := [none, none]) (new := []) E rfl (by kernel_rfl) rfl rfl (fun hp => ⟨?_, ?_, ?_, ?_, ?_, ?_, ?_, trivial⟩) ?_
  · exact q_call1 (F := (Fq.is (.int .i64 11)).P) hp (free_of rfl) trivial (enq_R_Of) (sq_const (fun _ => rfl)) (fun v w h => (by subst h; exact rOfK w (11) (by omega) (by omega)))
  · exact q_call1W (F := (Fq.num (11)).P) hp (free_of rfl) trivial (enq_f_algorist_prime_Witness) rfl (sqi 0) (fun v w hbw h => exE8 h (HT.out.mono hbw))
  · exact q_move hp (free_of rfl) trivial (sqi 1)
  · exact q_extract2 hp (free_of rfl) trivial (sqi 2) (fun v1 v2 w h1 h2 => ⟨_, rfl, h1⟩)
  · exact q_extract2 hp (free_of rfl) trivial (sqi 2) (fun v1 v2 w h1 h2 => ⟨_, rfl, h2⟩)
  · exact q_assign hp (free_of rfl) trivial (sqi 3)
  · exact q_assign hp (free_of rfl) trivial (sqi 4)
  intro L vs w15 nb hL hC hn E15
  have e3 : vs 3 = .int .i64 0 := hC 3 (by simp)
  have e4 : vs 4 = .int .i64 6 := hC 4 (by simp)
  have e5 : vs 5 = .int .i64 0 := hC 5 (by simp)
  have e6 : vs 6 = .int .i64 6 := hC 6 (by simp)
  have E : Fr w1 [(b14_5, 2, Fq.num (2)), (b11_5, 2, Fq.num (11))] w15 := E15
  rw [lay_all hL]
  simp only [putAll, dstOf, List.length_cons, List.length_nil, Nat.zero_add, Nat.reduceAdd, List.getElem?_toArray, List.getElem?_cons_zero, List.getElem?_cons_succ, Option.bind_some, Act.put, List.setIfInBounds_toArray, List.set_cons_succ, List.set_cons_zero]
  rw [e3, e4, e5, e6]
  generalize vs 0 = u15_0
  generalize vs 1 = u15_1
  generalize vs 2 = u15_2
  clear e3 e4 e5 e6 hC hn E15 hL vs L nb
  go_upto_region 10 with (fail)
  refine region_fr (C := [Fq.tup2 (Fq.is (.slice none 0 0)) (Fq.is (.int .i64 2)), Fq.tup2 (Fq.is (.slice none 0 0)) (Fq.is (.int .i64 2)), Fq.is (.slice none 0 0), Fq.is (.int .i64 2), Fq.is (.slice none 0 0), Fq.is (.int .i64 2)]) (ks := [none, none]) (new := []) E rfl (by kernel_rfl) rfl rfl (fun hp => ⟨?_, ?_, ?_, ?_, ?_, ?_, trivial⟩) ?_
  · exact q_call1 (F := (Fq.is (.int .i64 1048577)).P) hp (free_of rfl) trivial (enq_f_algorist_prime_Small) (sq_const (fun _ => rfl)) (fun v w h => (by subst h; exact (exSmallBig 1048577 (by omega) w).mono fun e w' hh => ⟨_, hh.1, hh.2, _, _, rfl, rfl, rfl⟩))
  · exact q_move hp (free_of rfl) trivial (sqi 0)
  · exact q_extract2 hp (free_of rfl) trivial (sqi 1) (fun v1 v2 w h1 h2 => ⟨_, rfl, h1⟩)
  · exact q_extract2 hp (free_of rfl) trivial (sqi 1) (fun v1 v2 w h1 h2 => ⟨_, rfl, h2⟩)
  · exact q_assign hp (free_of rfl) trivial (sqi 2)
  · exact q_assign hp (free_of rfl) trivial (sqi 3)
  intro L vs w16 nb hL hC hn E16
  have e2 : vs 2 = .slice none 0 0 := hC 2 (by simp)
  have e3 : vs 3 = .int .i64 2 := hC 3 (by simp)
  have e4 : vs 4 = .slice none 0 0 := hC 4 (by simp)
  have e5 : vs 5 = .int .i64 2 := hC 5 (by simp)
  have E : Fr w1 [(b14_5, 2, Fq.num (2)), (b11_5, 2, Fq.num (11))] w16 := E16
  rw [lay_all hL]
  simp only [putAll, dstOf, List.length_cons, List.length_nil, Nat.zero_add, Nat.reduceAdd, List.getElem?_toArray, List.getElem?_cons_zero, List.getElem?_cons_succ, Option.bind_some, Act.put, List.setIfInBounds_toArray, List.set_cons_succ, List.set_cons_zero]
  rw [e2, e3, e4, e5]
  generalize vs 0 = u16_0
  generalize vs 1 = u16_1
  clear e2 e3 e4 e5 hC hn E16 hL vs L nb
  go_upto_region 11 with (fail)
  have B17 : Hid (ab ((4)) < pw 3) := ab_lit (by decide)
  refine region_fr (C := [Fq.num (4), Fq.tup2 (Fq.is (.bool false)) (Fq.is (.int .i64 1)), Fq.tup2 (Fq.is (.bool false)) (Fq.is (.int .i64 1)), Fq.is (.bool false), Fq.is (.int .i64 1), Fq.is (.bool false), Fq.is (.int .i64 1)]) (ks := [none, none]) (new := []) E rfl (by kernel_rfl) rfl rfl (fun hp => ⟨?_, ?_, ?_, ?_, ?_, ?_, ?_, trivial⟩) ?_
  · exact q_call1 (F := (Fq.is (.int .i64 4)).P) hp (free_of rfl) trivial (enq_R_Of) (sq_const (fun _ => rfl)) (fun v w h => (by subst h; exact rOfK w (4) (by omega) (by omega)))
  · exact q_call2W (F := (Fq.num (4)).P) (G := (Fq.is (.int .i64 3)).P) hp (free_of rfl) trivial (enq_f_algorist_prime_Strong) rfl (sqi 0) (sq_const (fun _ => rfl)) (fun v v' w hbw h h' => (by subst h'; exact exE9 h (HT.out.mono hbw)))
  · exact q_move hp (free_of rfl) trivial (sqi 1)
  · exact q_extract2 hp (free_of rfl) trivial (sqi 2) (fun v1 v2 w h1 h2 => ⟨_, rfl, h1⟩)
  · exact q_extract2 hp (free_of rfl) trivial (sqi 2) (fun v1 v2 w h1 h2 => ⟨_, rfl, h2⟩)
  · exact q_assign hp (free_of rfl) trivial (sqi 3)
  · exact q_assign hp (free_of rfl) trivial (sqi 4)
  intro L vs w18 nb hL hC hn E18
  have e3 : vs 3 = .bool false := hC 3 (by simp)
  have e4 : vs 4 = .int .i64 1 := hC 4 (by simp)
  have e5 : vs 5 = .bool false := hC 5 (by simp)
  have e6 : vs 6 = .int .i64 1 := hC 6 (by simp)
  have E : Fr w1 [(b14_5, 2, Fq.num (2)), (b11_5, 2, Fq.num (11))] w18 := E18
  rw [lay_all hL]
  simp only [putAll, dstOf, List.length_cons, List.length_nil, Nat.zero_add, Nat.reduceAdd, List.getElem?_toArray, List.getElem?_cons_zero, List.getElem?_cons_succ, Option.bind_some, Act.put, List.setIfInBounds_toArray, List.set_cons_succ, List.set_cons_zero]
  rw [e3, e4, e5, e6]
  generalize vs 0 = u18_0
  generalize vs 1 = u18_1
  generalize vs 2 = u18_2
  clear e3 e4 e5 e6 hC hn E18 hL vs L nb
  go_upto_region 12 with (fail)
  refine region_fr (C := [Fq.is (.int .i64 0), Fq.is (.bool false), Fq.is (.bool false), Fq.is (.int .i64 0), Fq.is (.bool false), Fq.is (.bool false), Fq.is (.bool false), Fq.is (.int .i64 0), Fq.is (.bool false), Fq.is (.bool false), Fq.is (.bool false), Fq.is (.int .i64 0), Fq.is (.bool false), Fq.is (.bool false), Fq.is (.bool false), Fq.is (.int .i64 0), Fq.is (.bool false), Fq.is (.bool false), Fq.is (.bool false), Fq.is (.int .i64 0), Fq.is (.bool false), Fq.is (.bool false), Fq.is (.bool false), Fq.is (.int .i64 0), Fq.is (.bool false), Fq.is (.bool false), Fq.is (.bool false), Fq.is (.int .i64 0), Fq.is (.bool false), Fq.is (.bool false), Fq.is (.bool false), Fq.is (.int .i64 6), Fq.is (.bool false), Fq.is (.bool false), Fq.is (.bool false), Fq.is (.int .i64 2), Fq.is (.bool false), Fq.is (.bool false), Fq.is (.bool false), Fq.is (.int .i64 1), Fq.is (.bool false), Fq.is (.bool false)]) (ks := [none, none]) (new := []) E rfl (by kernel_rfl) rfl rfl (fun hp => ⟨?_, ?_, ?_, ?_, ?_, ?_, ?_, ?_, ?_, ?_, ?_, ?_, ?_, ?_, ?_, ?_, ?_, ?_, ?_, ?_, ?_, ?_, ?_, ?_, ?_, ?_, ?_, ?_, ?_, ?_, ?_, ?_, ?_, ?_, ?_, ?_, ?_, ?_, ?_, ?_, ?_, ?_, trivial⟩) ?_
  · exact q_move hp (free_of rfl) trivial (sq_out (s := 2) rfl rfl (fun _ _ => rfl))
  · exact q_one (F := fun v _ => v = .int .i64 0) hp (free_of rfl) trivial (sqi 0) (fun ρ w hc h => ⟨.bool false, by simp [execOp, go_sem, h, hc], rfl⟩)
  · exact q_move hp (free_of rfl) trivial (sqi 1)
  · exact q_move hp (free_of rfl) (gq_some rfl rfl (by simp) rfl (fun v w h => h)) (sq_out (s := 4) rfl rfl (fun _ _ => rfl))
  · exact q_one (F := fun v _ => v = .int .i64 0) hp (free_of rfl) (gq_some rfl rfl (by simp) rfl (fun v w h => h)) (sqi 3) (fun ρ w hc h => ⟨.bool false, by simp [execOp, go_sem, h, hc], rfl⟩)
  · exact q_two (F := fun v _ => v = .bool false) (G := fun v _ => v = .bool false) hp (free_of rfl) trivial (sqi 2) (sqi 4) (fun ρ w hc h h' => ⟨_, by simp [execOp, go_sem, h, h'], rfl⟩)
  · exact q_move hp (free_of rfl) trivial (sqi 5)
  · exact q_move hp (free_of rfl) (gq_some rfl rfl (by simp) rfl (fun v w h => h)) (sq_out (s := 6) rfl rfl (fun _ _ => rfl))
  · exact q_one (F := fun v _ => v = .int .i64 0) hp (free_of rfl) (gq_some rfl rfl (by simp) rfl (fun v w h => h)) (sqi 7) (fun ρ w hc h => ⟨.bool false, by simp [execOp, go_sem, h, hc], rfl⟩)
  · exact q_two (F := fun v _ => v = .bool false) (G := fun v _ => v = .bool false) hp (free_of rfl) trivial (sqi 6) (sqi 8) (fun ρ w hc h h' => ⟨_, by simp [execOp, go_sem, h, h'], rfl⟩)
  · exact q_move hp (free_of rfl) trivial (sqi 9)
  · exact q_move hp (free_of rfl) (gq_some rfl rfl (by simp) rfl (fun v w h => h)) (sq_out (s := 8) rfl rfl (fun _ _ => rfl))
  · exact q_one (F := fun v _ => v = .int .i64 0) hp (free_of rfl) (gq_some rfl rfl (by simp) rfl (fun v w h => h)) (sqi 11) (fun ρ w hc h => ⟨.bool false, by simp [execOp, go_sem, h, hc], rfl⟩)
  · exact q_two (F := fun v _ => v = .bool false) (G := fun v _ => v = .bool false) hp (free_of rfl) trivial (sqi 10) (sqi 12) (fun ρ w hc h h' => ⟨_, by simp [execOp, go_sem, h, h'], rfl⟩)
  · exact q_move hp (free_of rfl) trivial (sqi 13)
  · exact q_move hp (free_of rfl) (gq_some rfl rfl (by simp) rfl (fun v w h => h)) (sq_out (s := 10) rfl rfl (fun _ _ => rfl))
  · exact q_one (F := fun v _ => v = .int .i64 0) hp (free_of rfl) (gq_some rfl rfl (by simp) rfl (fun v w h => h)) (sqi 15) (fun ρ w hc h => ⟨.bool false, by simp [execOp, go_sem, h, hc], rfl⟩)
  · exact q_two (F := fun v _ => v = .bool false) (G := fun v _ => v = .bool false) hp (free_of rfl) trivial (sqi 14) (sqi 16) (fun ρ w hc h h' => ⟨_, by simp [execOp, go_sem, h, h'], rfl⟩)
  · exact q_move hp (free_of rfl) trivial (sqi 17)
  · exact q_move hp (free_of rfl) (gq_some rfl rfl (by simp) rfl (fun v w h => h)) (sq_out (s := 12) rfl rfl (fun _ _ => rfl))
  · exact q_one (F := fun v _ => v = .int .i64 0) hp (free_of rfl) (gq_some rfl rfl (by simp) rfl (fun v w h => h)) (sqi 19) (fun ρ w hc h => ⟨.bool false, by simp [execOp, go_sem, h, hc], rfl⟩)
  · exact q_two (F := fun v _ => v = .bool false) (G := fun v _ => v = .bool false) hp (free_of rfl) trivial (sqi 18) (sqi 20) (fun ρ w hc h h' => ⟨_, by simp [execOp, go_sem, h, h'], rfl⟩)
  · exact q_move hp (free_of rfl) trivial (sqi 21)
  · exact q_move hp (free_of rfl) (gq_some rfl rfl (by simp) rfl (fun v w h => h)) (sq_out (s := 14) rfl rfl (fun _ _ => rfl))
  · exact q_one (F := fun v _ => v = .int .i64 0) hp (free_of rfl) (gq_some rfl rfl (by simp) rfl (fun v w h => h)) (sqi 23) (fun ρ w hc h => ⟨.bool false, by simp [execOp, go_sem, h, hc], rfl⟩)
  · exact q_two (F := fun v _ => v = .bool false) (G := fun v _ => v = .bool false) hp (free_of rfl) trivial (sqi 22) (sqi 24) (fun ρ w hc h h' => ⟨_, by simp [execOp, go_sem, h, h'], rfl⟩)
  · exact q_move hp (free_of rfl) trivial (sqi 25)
  · exact q_move hp (free_of rfl) (gq_some rfl rfl (by simp) rfl (fun v w h => h)) (sq_out (s := 16) rfl rfl (fun _ _ => rfl))
  · exact q_one (F := fun v _ => v = .int .i64 0) hp (free_of rfl) (gq_some rfl rfl (by simp) rfl (fun v w h => h)) (sqi 27) (fun ρ w hc h => ⟨.bool false, by simp [execOp, go_sem, h, hc], rfl⟩)
  · exact q_two (F := fun v _ => v = .bool false) (G := fun v _ => v = .bool false) hp (free_of rfl) trivial (sqi 26) (sqi 28) (fun ρ w hc h h' => ⟨_, by simp [execOp, go_sem, h, h'], rfl⟩)
  · exact q_move hp (free_of rfl) trivial (sqi 29)
  · exact q_move hp (free_of rfl) (gq_some rfl rfl (by simp) rfl (fun v w h => h)) (sq_out (s := 18) rfl rfl (fun _ _ => rfl))
  · exact q_one (F := fun v _ => v = .int .i64 6) hp (free_of rfl) (gq_some rfl rfl (by simp) rfl (fun v w h => h)) (sqi 31) (fun ρ w hc h => ⟨.bool false, by simp [execOp, go_sem, h, hc], rfl⟩)
  · exact q_two (F := fun v _ => v = .bool false) (G := fun v _ => v = .bool false) hp (free_of rfl) trivial (sqi 30) (sqi 32) (fun ρ w hc h h' => ⟨_, by simp [execOp, go_sem, h, h'], rfl⟩)
  · exact q_move hp (free_of rfl) trivial (sqi 33)
  · exact q_move hp (free_of rfl) (gq_some rfl rfl (by simp) rfl (fun v w h => h)) (sq_out (s := 20) rfl rfl (fun _ _ => rfl))
  · exact q_one (F := fun v _ => v = .int .i64 2) hp (free_of rfl) (gq_some rfl rfl (by simp) rfl (fun v w h => h)) (sqi 35) (fun ρ w hc h => ⟨.bool false, by simp [execOp, go_sem, h, hc], rfl⟩)
  · exact q_two (F := fun v _ => v = .bool false) (G := fun v _ => v = .bool false) hp (free_of rfl) trivial (sqi 34) (sqi 36) (fun ρ w hc h h' => ⟨_, by simp [execOp, go_sem, h, h'], rfl⟩)
  · exact q_move hp (free_of rfl) trivial (sqi 37)
  · exact q_move hp (free_of rfl) (gq_some rfl rfl (by simp) rfl (fun v w h => h)) (sq_out (s := 22) rfl rfl (fun _ _ => rfl))
  · exact q_one (F := fun v _ => v = .int .i64 1) hp (free_of rfl) (gq_some rfl rfl (by simp) rfl (fun v w h => h)) (sqi 39) (fun ρ w hc h => ⟨.bool false, by simp [execOp, go_sem, h, hc], rfl⟩)
  · exact q_two (F := fun v _ => v = .bool false) (G := fun v _ => v = .bool false) hp (free_of rfl) trivial (sqi 38) (sqi 40) (fun ρ w hc h h' => ⟨_, by simp [execOp, go_sem, h, h'], rfl⟩)
  intro L vs w19 nb hL hC hn E19
  have e0 : vs 0 = .int .i64 0 := hC 0 (by simp)
  have e1 : vs 1 = .bool false := hC 1 (by simp)
  have e2 : vs 2 = .bool false := hC 2 (by simp)
  have e3 : vs 3 = .int .i64 0 := hC 3 (by simp)
  have e4 : vs 4 = .bool false := hC 4 (by simp)
  have e5 : vs 5 = .bool false := hC 5 (by simp)
  have e6 : vs 6 = .bool false := hC 6 (by simp)
  have e7 : vs 7 = .int .i64 0 := hC 7 (by simp)
  have e8 : vs 8 = .bool false := hC 8 (by simp)
  have e9 : vs 9 = .bool false := hC 9 (by simp)
  have e10 : vs 10 = .bool false := hC 10 (by simp)
  have e11 : vs 11 = .int .i64 0 := hC 11 (by simp)
  have e12 : vs 12 = .bool false := hC 12 (by simp)
  have e13 : vs 13 = .bool false := hC 13 (by simp)
  have e14 : vs 14 = .bool false := hC 14 (by simp)
  have e15 : vs 15 = .int .i64 0 := hC 15 (by simp)
  have e16 : vs 16 = .bool false := hC 16 (by simp)
  have e17 : vs 17 = .bool false := hC 17 (by simp)
  have e18 : vs 18 = .bool false := hC 18 (by simp)
  have e19 : vs 19 = .int .i64 0 := hC 19 (by simp)
  have e20 : vs 20 = .bool false := hC 20 (by simp)
  have e21 : vs 21 = .bool false := hC 21 (by simp)
  have e22 : vs 22 = .bool false := hC 22 (by simp)
  have e23 : vs 23 = .int .i64 0 := hC 23 (by simp)
  have e24 : vs 24 = .bool false := hC 24 (by simp)
  have e25 : vs 25 = .bool false := hC 25 (by simp)
  have e26 : vs 26 = .bool false := hC 26 (by simp)
  have e27 : vs 27 = .int .i64 0 := hC 27 (by simp)
  have e28 : vs 28 = .bool false := hC 28 (by simp)
  have e29 : vs 29 = .bool false := hC 29 (by simp)
  have e30 : vs 30 = .bool false := hC 30 (by simp)
  have e31 : vs 31 = .int .i64 6 := hC 31 (by simp)
  have e32 : vs 32 = .bool false := hC 32 (by simp)
  have e33 : vs 33 = .bool false := hC 33 (by simp)
  have e34 : vs 34 = .bool false := hC 34 (by simp)
  have e35 : vs 35 = .int .i64 2 := hC 35 (by simp)
  have e36 : vs 36 = .bool false := hC 36 (by simp)
  have e37 : vs 37 = .bool false := hC 37 (by simp)
  have e38 : vs 38 = .bool false := hC 38 (by simp)
  have e39 : vs 39 = .int .i64 1 := hC 39 (by simp)
  have e40 : vs 40 = .bool false := hC 40 (by simp)
  have e41 : vs 41 = .bool false := hC 41 (by simp)
  have E : Fr w1 [(b14_5, 2, Fq.num (2)), (b11_5, 2, Fq.num (11))] w19 := E19
  rw [lay_all hL]
  simp only [putAll, dstOf, List.length_cons, List.length_nil, Nat.zero_add, Nat.reduceAdd, List.getElem?_toArray, List.getElem?_cons_zero, List.getElem?_cons_succ, Option.bind_some, Act.put, List.setIfInBounds_toArray, List.set_cons_succ, List.set_cons_zero]
  rw [e0, e1, e2, e3, e4, e5, e6, e7, e8, e9, e10, e11, e12, e13, e14, e15, e16, e17, e18, e19, e20, e21, e22, e23, e24, e25, e26, e27, e28, e29, e30, e31, e32, e33, e34, e35, e36, e37, e38, e39, e40, e41]
  clear e0 e1 e2 e3 e4 e5 e6 e7 e8 e9 e10 e11 e12 e13 e14 e15 e16 e17 e18 e19 e20 e21 e22 e23 e24 e25 e26 e27 e28 e29 e30 e31 e32 e33 e34 e35 e36 e37 e38 e39 e40 e41 hC hn E19 hL vs L nb
  go_upto_region 14 with (fail)
  refine region_fr (C := [Fq.is (v), Fq.any, Fq.is (.bool true), Fq.is (.bool true), Fq.is (.bool true), Fq.is (.bool true), Fq.is (.bool true), Fq.is (.bool false), Fq.is (.bool true), Fq.is (.bool true), Fq.is (.bool true), Fq.is (.int .i64 3), Fq.is (.bool true), Fq.is (.bool true), Fq.is (.bool true), Fq.is (.bool true), Fq.is (.bool true), Fq.is (.bool true), Fq.is (.bool false), Fq.is (.bool true), Fq.is (.bool true), Fq.is (.bool true), Fq.num (11), Fq.num (11), Fq.is (.bool true), Fq.is (.bool true), Fq.is (.bool true), Fq.num (2), Fq.num (2), Fq.is (.bool true), Fq.is (.bool true), Fq.is (.bool true)]) (ks := [none, none]) (new := [⟨1, 1, 4, Fq.is (.agg #[.int .i64 2, .int .i64 3, .int .i64 5, .int .i64 7]), Fq.is (.agg #[.int .i64 2, .int .i64 3, .int .i64 5, .int .i64 7]), (some 4)⟩]) E rfl (by kernel_rfl) rfl rfl (fun hp => ⟨?_, ?_, ?_, ?_, ?_, ?_, ?_, ?_, ?_, ?_, ?_, ?_, ?_, ?_, ?_, ?_, ?_, ?_, ?_, ?_, ?_, ?_, ?_, ?_, ?_, ?_, ?_, ?_, ?_, ?_, ?_, ?_, trivial⟩) ?_
  · exact q_move hp (free_of rfl) trivial (sq_out (s := 1) rfl rfl (fun _ _ => rfl))
  · exact q_buildConst4 hp trivial (List.mem_iff_getElem?.2 ⟨0, rfl⟩) rfl rfl rfl rfl rfl (fun _ _ => trivial) (old_ne rfl) (newks_ne rfl)
  · exact q_callWSl (F := (Fq.is (v)).P) hp (free_of rfl) trivial enq_f_algorist_algoristlaw04_same rfl (List.mem_iff_getElem?.2 ⟨0, rfl⟩) rfl (sqi 0) (own_ptr rfl rfl (by simp) rfl) (fun v bx w hbw h hbx => (by subst h; exact exLSame HN.out hbw hbx))
  · exact q_move hp (free_of rfl) trivial (sqi 2)
  · exact q_move hp (free_of rfl) (gq_some rfl rfl (by simp) rfl (fun v w h => h)) (sq_out (s := 3) rfl rfl (fun _ _ => rfl))
  · exact q_two (F := fun v _ => v = .bool true) (G := fun v _ => v = .bool true) hp (free_of rfl) trivial (sqi 3) (sqi 4) (fun ρ w hc h h' => ⟨_, by simp [execOp, go_sem, h, h'], rfl⟩)
  · exact q_move hp (free_of rfl) trivial (sqi 5)
  · exact q_move hp (free_of rfl) (gq_some rfl rfl (by simp) rfl (fun v w h => h)) (sq_out (s := 5) rfl rfl (fun _ _ => rfl))
  · exact q_one (F := fun v _ => v = .bool false) hp (free_of rfl) (gq_some rfl rfl (by simp) rfl (fun v w h => h)) (sqi 7) (fun ρ w _ h => ⟨.bool true, by simp [execOp, go_sem, h], rfl⟩)
  · exact q_two (F := fun v _ => v = .bool true) (G := fun v _ => v = .bool true) hp (free_of rfl) trivial (sqi 6) (sqi 8) (fun ρ w hc h h' => ⟨_, by simp [execOp, go_sem, h, h'], rfl⟩)
  · exact q_move hp (free_of rfl) trivial (sqi 9)
  · exact q_move hp (free_of rfl) (gq_some rfl rfl (by simp) rfl (fun v w h => h)) (sq_out (s := 7) rfl rfl (fun _ _ => rfl))
  · exact q_one (F := fun v _ => v = .int .i64 3) hp (free_of rfl) (gq_some rfl rfl (by simp) rfl (fun v w h => h)) (sqi 11) (fun ρ w hc h => ⟨.bool true, by simp [execOp, go_sem, h, hc], rfl⟩)
  · exact q_two (F := fun v _ => v = .bool true) (G := fun v _ => v = .bool true) hp (free_of rfl) trivial (sqi 10) (sqi 12) (fun ρ w hc h h' => ⟨_, by simp [execOp, go_sem, h, h'], rfl⟩)
  · exact q_move hp (free_of rfl) trivial (sqi 13)
  · exact q_move hp (free_of rfl) (gq_some rfl rfl (by simp) rfl (fun v w h => h)) (sq_out (s := 9) rfl rfl (fun _ _ => rfl))
  · exact q_two (F := fun v _ => v = .bool true) (G := fun v _ => v = .bool true) hp (free_of rfl) trivial (sqi 14) (sqi 15) (fun ρ w hc h h' => ⟨_, by simp [execOp, go_sem, h, h'], rfl⟩)
  · exact q_move hp (free_of rfl) trivial (sqi 16)
  · exact q_move hp (free_of rfl) (gq_some rfl rfl (by simp) rfl (fun v w h => h)) (sq_out (s := 11) rfl rfl (fun _ _ => rfl))
  · exact q_one (F := fun v _ => v = .bool false) hp (free_of rfl) (gq_some rfl rfl (by simp) rfl (fun v w h => h)) (sqi 18) (fun ρ w _ h => ⟨.bool true, by simp [execOp, go_sem, h], rfl⟩)
  · exact q_two (F := fun v _ => v = .bool true) (G := fun v _ => v = .bool true) hp (free_of rfl) trivial (sqi 17) (sqi 19) (fun ρ w hc h h' => ⟨_, by simp [execOp, go_sem, h, h'], rfl⟩)
  · exact q_move hp (free_of rfl) trivial (sqi 20)
  · exact q_loadInt (off := 0) hp (free_of rfl) (gq_some rfl rfl (by simp) rfl (fun v w h => h)) (List.mem_iff_getElem?.2 ⟨1, rfl⟩) (.inl rfl) (Nat.le_of_ble_eq_true rfl) (sq_out (s := 13) rfl rfl (fun _ _ => rfl)) (fun us w hl h => ld_num hl h)
  · exact q_call1 (F := (Fq.is (.int .i64 11)).P) hp (free_of rfl) (gq_some rfl rfl (by simp) rfl (fun v w h => h)) (enq_R_Of) (sq_const (fun _ => rfl)) (fun v w h => (by subst h; exact rOfK w (11) (by omega) (by omega)))
  · exact q_call2 (F := (Fq.num (11)).P) (G := (Fq.num (11)).P) hp (free_of rfl) (gq_some rfl rfl (by simp) rfl (fun v w h => h)) (enq_R_Same) (sqi 22) (sqi 23) (fun v v' w h h' => exRSameB h h' rfl)
  · exact q_two (F := fun v _ => v = .bool true) (G := fun v _ => v = .bool true) hp (free_of rfl) trivial (sqi 21) (sqi 24) (fun ρ w hc h h' => ⟨_, by simp [execOp, go_sem, h, h'], rfl⟩)
  · exact q_move hp (free_of rfl) trivial (sqi 25)
  · exact q_loadInt (off := 0) hp (free_of rfl) (gq_some rfl rfl (by simp) rfl (fun v w h => h)) (List.mem_iff_getElem?.2 ⟨0, rfl⟩) (.inl rfl) (Nat.le_of_ble_eq_true rfl) (sq_out (s := 15) rfl rfl (fun _ _ => rfl)) (fun us w hl h => ld_num hl h)
  · exact q_call1 (F := (Fq.is (.int .i64 2)).P) hp (free_of rfl) (gq_some rfl rfl (by simp) rfl (fun v w h => h)) (enq_R_Of) (sq_const (fun _ => rfl)) (fun v w h => (by subst h; exact rOfK w (2) (by omega) (by omega)))
  · exact q_call2 (F := (Fq.num (2)).P) (G := (Fq.num (2)).P) hp (free_of rfl) (gq_some rfl rfl (by simp) rfl (fun v w h => h)) (enq_R_Same) (sqi 27) (sqi 28) (fun v v' w h h' => exRSameB h h' rfl)
  · exact q_two (F := fun v _ => v = .bool true) (G := fun v _ => v = .bool true) hp (free_of rfl) trivial (sqi 26) (sqi 29) (fun ρ w hc h h' => ⟨_, by simp [execOp, go_sem, h, h'], rfl⟩)
  · exact q_assign hp (free_of rfl) trivial (sqi 30)
  intro L vs w20 nb hL hC hn E20
  have e0 : vs 0 = v := hC 0 (by simp)
  have e2 : vs 2 = .bool true := hC 2 (by simp)
  have e3 : vs 3 = .bool true := hC 3 (by simp)
  have e4 : vs 4 = .bool true := hC 4 (by simp)
  have e5 : vs 5 = .bool true := hC 5 (by simp)
  have e6 : vs 6 = .bool true := hC 6 (by simp)
  have e7 : vs 7 = .bool false := hC 7 (by simp)
  have e8 : vs 8 = .bool true := hC 8 (by simp)
  have e9 : vs 9 = .bool true := hC 9 (by simp)
  have e10 : vs 10 = .bool true := hC 10 (by simp)
  have e11 : vs 11 = .int .i64 3 := hC 11 (by simp)
  have e12 : vs 12 = .bool true := hC 12 (by simp)
  have e13 : vs 13 = .bool true := hC 13 (by simp)
  have e14 : vs 14 = .bool true := hC 14 (by simp)
  have e15 : vs 15 = .bool true := hC 15 (by simp)
  have e16 : vs 16 = .bool true := hC 16 (by simp)
  have e17 : vs 17 = .bool true := hC 17 (by simp)
  have e18 : vs 18 = .bool false := hC 18 (by simp)
  have e19 : vs 19 = .bool true := hC 19 (by simp)
  have e20 : vs 20 = .bool true := hC 20 (by simp)
  have e21 : vs 21 = .bool true := hC 21 (by simp)
  have e24 : vs 24 = .bool true := hC 24 (by simp)
  have e25 : vs 25 = .bool true := hC 25 (by simp)
  have e26 : vs 26 = .bool true := hC 26 (by simp)
  have e29 : vs 29 = .bool true := hC 29 (by simp)
  have e30 : vs 30 = .bool true := hC 30 (by simp)
  have e31 : vs 31 = .bool true := hC 31 (by simp)
  have e1 : vs 1 = .slice (some ⟨nb 1, 0, none⟩) 4 4 := hn _ (List.mem_iff_getElem?.2 ⟨0, rfl⟩)
  have E : Fr w1 [(nb 1, 4, Fq.is (.agg #[.int .i64 2, .int .i64 3, .int .i64 5, .int .i64 7])), (b14_5, 2, Fq.num (2)), (b11_5, 2, Fq.num (11))] w20 := E20
  rw [lay_all hL]
  simp only [putAll, dstOf, List.length_cons, List.length_nil, Nat.zero_add, Nat.reduceAdd, List.getElem?_toArray, List.getElem?_cons_zero, List.getElem?_cons_succ, Option.bind_some, Act.put, List.setIfInBounds_toArray, List.set_cons_succ, List.set_cons_zero]
  rw [e0, e2, e3, e4, e5, e6, e7, e8, e9, e10, e11, e12, e13, e14, e15, e16, e17, e18, e19, e20, e21, e24, e25, e26, e29, e30, e31, e1]
  generalize nb 1 = b20_1 at E ⊢
  generalize vs 22 = u20_22
  generalize vs 23 = u20_23
  generalize vs 27 = u20_27
  generalize vs 28 = u20_28
  clear e0 e2 e3 e4 e5 e6 e7 e8 e9 e10 e11 e12 e13 e14 e15 e16 e17 e18 e19 e20 e21 e24 e25 e26 e29 e30 e31 e1 hC hn E20 hL vs L nb
  go_wp2
  refine bodyPost_ret (v := .bool true) ?_ rfl ⟨_, rfl, HB1.out.trans (E.below.mono HB1.out.size), rfl⟩
  simp [results, Tryd.results4, go_sem]

end Go.Proofs.YtnhapjifddhdiaaDoor

namespace Go.Proofs.YtnhapjifddhdiaaDoor
open Go Go.RowKit

def Fq.nraw (n : Bool) (a : Option Addr) (k c : Nat) (xs : List Int) (z : Int) : Fq := ⟨fun v w => v = .agg #[.bool n, .slice a k c] ∧ Sl w a k c xs ∧ Num w v z, fun h hb => ⟨h.1, h.2.1.mono hb, h.2.2.mono hb⟩, fun h ha ht hl => ⟨h.1, h.2.1.putAt ha ht hl, h.2.2.putAt ha ht hl⟩⟩
theorem ld_nrawS {n : Bool} {a : Option Addr} {k c : Nat} {xs : List Int} {z : Int} {us : List Value} {w : World} (hl : us.length = 2) (h : (Fq.nraw n a k c xs z).P (.agg us.toArray) w) : us.getD 1 undef = .slice a k c := by
  match us, hl with
  | [p, q], _ =>
    obtain ⟨e, _⟩ := h
    injection e with e
    have e2 := congrArg Array.toList e
    simp at e2
    simp [e2]
theorem Fr.opened {w0 W : World} {bs : List (Nat × Nat × Fq)} {b : Nat} {z : Int} (E : Fr w0 ((b, 2, Fq.num z) :: bs) W) : ∃ n a k c xs, (z = sgn n (val xs) ∧ Canon xs ∧ xs.length = k ∧ (n = true → k ≠ 0) ∧ Digs xs) ∧ Fr w0 ((b, 2, Fq.nraw n a k c xs z) :: bs) W := by
  obtain ⟨us, h1, h2, h3, h4, h5⟩ := (E.boxes _ (List.mem_cons_self ..)).2
  obtain ⟨neg, ao, k, c, xs, hv, hs, hn, hz, hc, hnn⟩ := id h5
  refine ⟨neg, ao, k, c, xs, ⟨hz, hc, hs.len, hnn, hs.digs⟩, E.below, fun x hx => ?_, by simpa using E.apart⟩
  rcases List.mem_cons.1 hx with rfl | hx
  · exact ⟨(E.boxes _ (List.mem_cons_self ..)).1, us, h1, h2, h3, h4, hv, hs, h5⟩
  · exact E.boxes x (List.mem_cons_of_mem _ hx)
section
variable {os : List Oper} {Q : Exit → Act → World → Prop} {a : Act} {p : Pq} {B B0 : Nat} {w0 : World}
variable {i s : Nat} {d : Option Tmp} {ty : TypeId} {ps : String} {af : Array Edge} {gd : Option (Nat × Bool)}
theorem q_loadMagP {o : Ob} {off : Nat} {x : Operand} {v : Value} (hp : p.Ok B B0) (hF : p.Free i) (hg : GdQ os a p B B0 w0 af gd) (ho : o ∈ p.old) (hk : o.F1 = o.F0 ∨ leadsB os 9 o.k i = true) (hoff : off + 1 ≤ o.m)
    (hx : SrcQ os a p B B0 w0 af x fun u _ => u = .pointer (some ⟨o.b, off, none⟩)) (hC : ∀ (us : List Value) (w : World), us.length = o.m → o.F0.P (.agg us.toArray) w → us.getD off undef = v ∧ (p.c i).P v w) :
    StepQ os Q a p B B0 w0 i { dst := d, op := .load 22 x, type := ty, pos := ps, after := af, guard := gd } := by
  refine stq_val hp hF hg fun L vs w hG hL hc hd => ?_
  obtain ⟨us, hl, h0, hat, ht, hP⟩ := box_now ho hk hG hL hc
  have e := hx L vs w hG hd
  have c0 := (hat off (by omega)).1
  obtain ⟨e2, hP2⟩ := hC us w hl hP
  refine ⟨_, ?_, hP2⟩
  rw [e2] at c0
  generalize (lay os.toArray L vs os.toArray.size a).eval = ρ at e
  simp [execOp, go_sem, e, c0]
theorem q_loadWord {o : Ob} {bx : Nat} {ad : Addr} {x : Operand} {x0 : Int} (hp : p.Ok B B0) (hF : p.Free i) (hg : GdQ os a p B B0 w0 af gd) (ho : o ∈ p.old) (hk : o.F1 = o.F0 ∨ leadsB os 9 o.k i = true)
    (hx : SrcQ os a p B B0 w0 af x fun u _ => u = .pointer (some ad)) (hC : ∀ (us : List Value) (w : World), us.length = o.m → o.F0.P (.agg us.toArray) w → w.cell? ad = some (.int .u32 x0)) (hI : ∀ w, (p.c i).P (.int .u32 x0) w) (_hb : o.b = bx := by rfl) :
    StepQ os Q a p B B0 w0 i { dst := d, op := .load 60 x, type := ty, pos := ps, after := af, guard := gd } := by
  refine stq_val hp hF hg fun L vs w hG hL hc hd => ?_
  obtain ⟨us, hl, h0, hat, ht, hP⟩ := box_now ho hk hG hL hc
  have e := hx L vs w hG hd
  have c0 := hC us w hl hP
  refine ⟨_, ?_, hI w⟩
  generalize (lay os.toArray L vs os.toArray.size a).eval = ρ at e
  simp [execOp, go_sem, e, c0]
end
theorem first_word {n : Bool} {ab : Nat} {off k c : Nat} {xs : List Int} {z x0 : Int} (hk : 0 < k) (hx : xs.getD 0 0 = x0) {v : Value} {w : World} (h : (Fq.nraw n (some ⟨ab, off, none⟩) k c xs z).P v w) : w.cell? ⟨ab, off, none⟩ = some (.int .u32 x0) := by
  obtain ⟨x, h1, _, _, h4⟩ := h.2.1.cells.at' (k := 0) (by rw [h.2.1.len]; exact hk)
  rw [Nat.add_zero] at h1
  rw [h1, ← hx, h4.out]
theorem nraw_addr {w : World} {n : Bool} {a : Option Addr} {k c : Nat} {xs : List Int} {z : Int} {v : Value} (h : (Fq.nraw n a k c xs z).P v w) (hk : 0 < k) : ∃ ab off, a = some ⟨ab, off, none⟩ := by
  obtain ⟨b, off, e, _⟩ := h.2.1.cells.at (k := 0) (by rw [h.2.1.len]; exact hk)
  exact ⟨b, off, e⟩
theorem Fr.addr {w0 W : World} {bs : List (Nat × Nat × Fq)} {b : Nat} {n : Bool} {a : Option Addr} {k c : Nat} {xs : List Int} {z : Int} (E : Fr w0 ((b, 2, Fq.nraw n a k c xs z) :: bs) W) (hk : 0 < k) : ∃ ab off, a = some ⟨ab, off, none⟩ := by
  obtain ⟨us, _, _, _, _, hP⟩ := (E.boxes _ (List.mem_cons_self ..)).2
  exact nraw_addr hP hk
end Go.Proofs.YtnhapjifddhdiaaDoor

namespace Go.Proofs.YtnhapjifddhdiaaDoor
open Go Go.RowKit

theorem enq_f_algorist_algoristref04_odd (args : Array Value) (w : World) : (callFunc 31 args).run Tryd.prog w = .ok (.enter 31 args) w := enter_of Tryd.func31 (by kernel_rfl) rfl args w
theorem enq_f_algorist_algoristref04_low (args : Array Value) (w : World) : (callFunc 22 args).run Tryd.prog w = .ok (.enter 22 args) w := enter_of Tryd.func22 (by kernel_rfl) rfl args w
theorem enq_f_algorist_algoristref04_Is (args : Array Value) (w : World) : (callFunc 7 args).run Tryd.prog w = .ok (.enter 7 args) w := enter_of Tryd.func7 (by kernel_rfl) rfl args w
theorem enq_f_algorist_algoristref04_strong (args : Array Value) (w : World) : (callFunc 32 args).run Tryd.prog w = .ok (.enter 32 args) w := enter_of Tryd.func32 (by kernel_rfl) rfl args w
theorem enq_f_algorist_algoristref04_Power (args : Array Value) (w : World) : (callFunc 36 args).run Tryd.prog w = .ok (.enter 36 args) w := enter_of Tryd.func36 (by kernel_rfl) rfl args w
theorem enq_f_algorist_algoristref04_Strong (args : Array Value) (w : World) : (callFunc 9 args).run Tryd.prog w = .ok (.enter 9 args) w := enter_of Tryd.func9 (by kernel_rfl) rfl args w

theorem first_odd {n : Bool} {xs : List Int} {z : Int} {k : Nat} (h : z = sgn n (val xs) ∧ Canon xs ∧ xs.length = k ∧ (n = true → k ≠ 0) ∧ Digs xs) (h0 : 0 < z) : 0 < k ∧ ∃ x0 : Int, xs.getD 0 0 = x0 ∧ Int.tmod x0 2 = z % 2 := by
  obtain ⟨hz, hc, hl, hn, hd⟩ := h
  match xs, hl with
  | [], _ => cases n <;> simp [val, sgn] at hz <;> omega
  | x :: t, hl =>
    refine ⟨by rw [← hl]; exact Nat.succ_pos _, x, rfl, ?_⟩
    have hx := hd.getD 0
    have ht := val_nonneg hd
    have hv : val (x :: t) = x + val t * 4294967296 := by simp [val]; try omega
    have hzv : z = val (x :: t) := by cases n <;> simp [sgn] at hz <;> omega
    have hx0 : 0 ≤ x := hx.1
    rw [Int.tmod_eq_emod_of_nonneg hx0, hzv, hv]
    omega
theorem rlow_big (w : World) (ax : Option Addr) (n c : Nat) (hb : 2 < n) :
    Calls Tryd.prog 22 #[.agg #[.bool false, .slice ax n c]] w fun e w' => e = .returned (.tuple #[.int .u64 0, .bool false]) ∧ Below w.heap.size w w' := by
  have hi : (n : Int) > 2 := by omega
  clear hb
  go_enter Tryd.func22, Tryd.ntmps22
  go_wp2
  go_ret2
  exact ⟨rfl, alloc_below _ _⟩
theorem exRIsN {w : World} {v : Value} {N : Nat} (h : Num w v (N : Int)) (hN : N < 18446744073709551616) : Calls Tryd.prog 7 #[v] w fun e w' => e = .returned (.tuple #[.bool (primeB N), .int .i64 0]) ∧ Below w.heap.size w w' := by
  obtain ⟨ao, n, c, xs, rfl, hs, hn, hv, _⟩ := num_small h hN
  have hX0 := hs.mono (alloc_below w (.cells #[.bool false, .slice ao n c] 27))
  have HB := hidd (alloc_below w (.cells #[.bool false, .slice ao n c] 27))
  have HLW := rlow_any _ ao n c xs hX0 hn
  rw [← hv] at HLW
  have HNN := hidd hN
  clear hv hX0 hs hn h hN
  go_enter Tryd.func7, Tryd.ntmps7
  go_wp2_with (go_at_call 22; refine HLW.mono ?_; clear HLW; rintro e w1 ⟨rfl, hb1⟩; have HP := rprime_any N w1 HNN.out; have HB2 := hidd (HB.out.trans (hb1.mono HB.out.size)); clear hb1 HB)
  go_wp2_with (go_at_call 23; refine HP.mono ?_; clear HP; rintro e w2 ⟨rfl, hb2⟩)
  go_ret2
  exact ⟨rfl, HB2.out.trans (hb2.mono HB2.out.size)⟩
theorem num_neg {w : World} {v : Value} {z : Int} (h : Num w v z) (hz : z < 0) : ∃ ao n c, v = .agg #[.bool true, .slice ao n c] := by
  obtain ⟨neg, ao, n, c, xs, hv, hs, hn, hz', hc, hnn⟩ := h
  have := val_nonneg hs.digs
  cases neg with
  | true => exact ⟨ao, n, c, hv⟩
  | false => exfalso; simp [sgn] at hz'; omega
theorem num_big {w : World} {v : Value} {z : Int} (h : Num w v z) (hz : 18446744073709551616 ≤ z) : ∃ ao n c, v = .agg #[.bool false, .slice ao n c] ∧ 2 < n := by
  have hp : pw 2 = 18446744073709551616 := by decide
  obtain ⟨neg, ao, n, c, xs, hv, hs, hn, hz', hc, hnn⟩ := h
  have h0 := val_nonneg hs.digs
  cases neg with
  | true => exfalso; simp [sgn] at hz'; omega
  | false =>
    refine ⟨ao, n, c, hv, ?_⟩
    rcases Nat.lt_or_ge 2 n with h | h
    · exact h
    · exfalso
      have h1 := val_lt hs.digs
      rw [hs.len] at h1
      have h2 := pw_le h
      simp [sgn] at hz'
      omega
theorem exRIsZ {w : World} {v : Value} {z : Int} (h : Num w v z) (hz : z < 0) : Calls Tryd.prog 7 #[v] w fun e w' => e = .returned (.tuple #[.bool false, .int .i64 0]) ∧ Below w.heap.size w w' := by
  obtain ⟨ao, n, c, rfl⟩ := num_neg h hz
  clear h hz
  go_enter Tryd.func7, Tryd.ntmps7
  go_wp2
  go_ret2
  exact ⟨rfl, alloc_below _ _⟩
theorem exRIsB {w : World} {v : Value} {z : Int} (h : Num w v z) (hz : 18446744073709551616 ≤ z) : Calls Tryd.prog 7 #[v] w fun e w' => e = .returned (.tuple #[.bool false, .int .i64 2]) ∧ Below w.heap.size w w' := by
  obtain ⟨ao, n, c, rfl, hn⟩ := num_big h hz
  have HB := hidd (alloc_below w (.cells #[.bool false, .slice ao n c] 27))
  have HLW := rlow_big (w.alloc (.cells #[.bool false, .slice ao n c] 27)) ao n c hn
  clear h hz hn
  go_enter Tryd.func7, Tryd.ntmps7
  go_wp2_with (go_at_call 22; refine HLW.mono ?_; clear HLW; rintro e w1 ⟨rfl, hb1⟩)
  go_ret2
  exact ⟨rfl, HB.out.trans (hb1.mono HB.out.size)⟩
set_option maxRecDepth 100000 in
set_option maxHeartbeats 4000000 in
theorem exROddE {w : World} {v : Value} {z t : Int} (h : Num w v z) (ha : ab z < pw 900) (ht : -9223372036854775808 ≤ t ∧ t ≤ 9223372036854775807) (hz : ¬ z > t) :
    Calls Tryd.prog 31 #[v, .int .i64 t] w fun e w' => ∃ v', e = .returned v' ∧ Below w.heap.size w w' ∧ v' = .bool false := by
  replace ha := hidd ha
  obtain ⟨n0, ao0, k0, c0, rfl⟩ := h.parts
  obtain ⟨w1, b1, hw1, hb1, hs1, E⟩ := fr_start w (F := Fq.num z) (us := [.bool n0, .slice ao0 k0 c0]) 27 rfl (by simp) (tame_int _ _ _ _) h
  go_enter Tryd.func31, Tryd.ntmps31
  go_upto_region 1 with (fail)
  rw [← hw1]
  rw [← hb1]
  clear hw1 hb1 hs1
  have HT := hidd ht
  have T1 : Hid (¬ cmpI z t > 0) := by have := mt cmpIqgt.1 hz; show ¬ _; exact this
  clear hz ht
  refine region_fr (C := [Fq.num z, Fq.is (.int .i64 t), Fq.num t, Fq.is (.int .i64 (cmpI z t)), Fq.is (.bool false), Fq.is (.bool false), Fq.is (undef), Fq.is (undef), Fq.is (undef), Fq.is (undef), Fq.is (undef), Fq.is (undef), Fq.is (.bool false), Fq.is (.bool false)]) (ks := [none]) (new := []) E rfl (by kernel_rfl) rfl rfl (fun hp => ⟨?_, ?_, ?_, ?_, ?_, ?_, ?_, ?_, ?_, ?_, ?_, ?_, ?_, ?_, trivial⟩) ?_
  · exact q_loadInt (off := 0) hp (free_of rfl) trivial (List.mem_iff_getElem?.2 ⟨0, rfl⟩) (.inl rfl) (Nat.le_of_ble_eq_true rfl) (sq_out (s := 2) rfl rfl (fun _ _ => rfl)) (fun us w hl h => ld_num hl h)
  · exact q_move hp (free_of rfl) trivial (sq_out (s := 1) rfl rfl (fun _ _ => rfl))
  · exact q_call1 (F := (Fq.is (.int .i64 t)).P) hp (free_of rfl) trivial (enq_R_Of) (sqi 1) (fun v w h => (by subst h; exact rOfK w t HT.out.1 HT.out.2))
  · exact q_call2 (F := (Fq.num z).P) (G := (Fq.num t).P) hp (free_of rfl) trivial (enq_R_Cmp) (sqi 0) (sqi 2) (fun v v' w h h' => exRCmp' h h')
  · exact q_one (F := fun v _ => v = .int .i64 (cmpI z t)) hp (free_of rfl) trivial (sqi 3) (fun ρ w hc h => ⟨.bool false, by simp [execOp, go_sem, h, hc, T1.out], rfl⟩)
  · exact q_move hp (free_of rfl) trivial (sqi 4)
  · exact q_skip hp (free_of rfl) rfl (gq_some rfl rfl (by simp) rfl (fun v w h => h)) (fun _ => rfl)
  · exact q_skip hp (free_of rfl) rfl (gq_some rfl rfl (by simp) rfl (fun v w h => h)) (fun _ => rfl)
  · exact q_skip hp (free_of rfl) rfl (gq_some rfl rfl (by simp) rfl (fun v w h => h)) (fun _ => rfl)
  · exact q_skip hp (free_of rfl) rfl (gq_some rfl rfl (by simp) rfl (fun v w h => h)) (fun _ => rfl)
  · exact q_skip hp (free_of rfl) rfl (gq_some rfl rfl (by simp) rfl (fun v w h => h)) (fun _ => rfl)
  · exact q_skip hp (free_of rfl) rfl (gq_some rfl rfl (by simp) rfl (fun v w h => h)) (fun _ => rfl)
  · exact q_two (F := fun v _ => v = .bool false) (G := fun v _ => v = .bool false) hp (free_of rfl) trivial (sqi 5) (sq_const (fun _ => rfl)) (fun ρ w hc h h' => ⟨_, by simp [execOp, go_sem, h, h'], rfl⟩)
  · exact q_assign hp (free_of rfl) trivial (sqi 12)
  intro L vs w2 nb hL hC hn E2
  have e1 : vs 1 = .int .i64 t := hC 1 (by simp)
  have e3 : vs 3 = .int .i64 (cmpI z t) := hC 3 (by simp)
  have e4 : vs 4 = .bool false := hC 4 (by simp)
  have e5 : vs 5 = .bool false := hC 5 (by simp)
  have e6 : vs 6 = undef := hC 6 (by simp)
  have e7 : vs 7 = undef := hC 7 (by simp)
  have e8 : vs 8 = undef := hC 8 (by simp)
  have e9 : vs 9 = undef := hC 9 (by simp)
  have e10 : vs 10 = undef := hC 10 (by simp)
  have e11 : vs 11 = undef := hC 11 (by simp)
  have e12 : vs 12 = .bool false := hC 12 (by simp)
  have e13 : vs 13 = .bool false := hC 13 (by simp)
  have E : Fr w [(b1, 2, Fq.num z)] w2 := E2
  rw [lay_all hL]
  simp only [putAll, dstOf, List.length_cons, List.length_nil, Nat.zero_add, Nat.reduceAdd, List.getElem?_toArray, List.getElem?_cons_zero, List.getElem?_cons_succ, Option.bind_some, Act.put, List.setIfInBounds_toArray, List.set_cons_succ, List.set_cons_zero]
  rw [e1, e3, e4, e5, e6, e7, e8, e9, e10, e11, e12, e13]
  generalize vs 0 = u2_0
  generalize vs 2 = u2_2
  clear e1 e3 e4 e5 e6 e7 e8 e9 e10 e11 e12 e13 hC hn E2 hL vs L nb
  clear T1 HT
  clear ha
  go_wp2
  refine bodyPost_ret (v := .bool false) ?_ rfl ⟨_, rfl, E.below, rfl⟩
  simp [results, Tryd.results31, go_sem]

set_option maxRecDepth 100000 in
set_option maxHeartbeats 4000000 in
theorem exROddT {w : World} {v : Value} {z t : Int} (h : Num w v z) (ha : ab z < pw 900) (ht : -9223372036854775808 ≤ t ∧ t ≤ 9223372036854775807) (h0 : 0 ≤ t) (hz : z > t) (ho : z % 2 = 1) :
    Calls Tryd.prog 31 #[v, .int .i64 t] w fun e w' => ∃ v', e = .returned v' ∧ Below w.heap.size w w' ∧ v' = .bool true := by
  replace ha := hidd ha
  obtain ⟨n0, ao0, k0, c0, rfl⟩ := h.parts
  obtain ⟨w1, b1, hw1, hb1, hs1, E⟩ := fr_start w (F := Fq.num z) (us := [.bool n0, .slice ao0 k0 c0]) 27 rfl (by simp) (tame_int _ _ _ _) h
  go_enter Tryd.func31, Tryd.ntmps31
  go_upto_region 1 with (fail)
  rw [← hw1]
  rw [← hb1]
  clear hw1 hb1 hs1
  have HT := hidd ht
  have T1 : Hid (cmpI z t > 0) := cmpIqgt.2 hz
  obtain ⟨m1, d1, j1, cc1, ys, hop, E⟩ := E.opened
  obtain ⟨hj, x0, hy, hm⟩ := first_odd hop (by omega)
  obtain ⟨ad, off, rfl⟩ := E.addr hj
  have HJ := hidd hj
  have HY := hidd hy
  have WM := hidd (show Int.tmod x0 2 = 1 by rw [hm]; omega)
  clear hop hj hy hm hz ht ho
  refine region_fr (C := [Fq.num z, Fq.is (.int .i64 t), Fq.num t, Fq.is (.int .i64 (cmpI z t)), Fq.is (.bool true), Fq.is (.bool true), Fq.is (.pointer (some ⟨b1, 1, none⟩)), Fq.is (.slice (some ⟨ad, off, none⟩) j1 cc1), Fq.is (.pointer (some ⟨ad, off, none⟩)), Fq.is (.int .u32 x0), Fq.is (.int .u32 1), Fq.is (.bool true), Fq.is (.bool true), Fq.is (.bool true)]) (ks := [none]) (new := []) E rfl (by kernel_rfl) rfl rfl (fun hp => ⟨?_, ?_, ?_, ?_, ?_, ?_, ?_, ?_, ?_, ?_, ?_, ?_, ?_, ?_, trivial⟩) ?_
  · exact q_loadInt (off := 0) hp (free_of rfl) trivial (List.mem_iff_getElem?.2 ⟨0, rfl⟩) (.inl rfl) (Nat.le_of_ble_eq_true rfl) (sq_out (s := 2) rfl rfl (fun _ _ => rfl)) (fun us w hl h => ld_num hl h.2.2)
  · exact q_move hp (free_of rfl) trivial (sq_out (s := 1) rfl rfl (fun _ _ => rfl))
  · exact q_call1 (F := (Fq.is (.int .i64 t)).P) hp (free_of rfl) trivial (enq_R_Of) (sqi 1) (fun v w h => (by subst h; exact rOfK w t HT.out.1 HT.out.2))
  · exact q_call2 (F := (Fq.num z).P) (G := (Fq.num t).P) hp (free_of rfl) trivial (enq_R_Cmp) (sqi 0) (sqi 2) (fun v v' w h h' => exRCmp' h h')
  · exact q_one (F := fun v _ => v = .int .i64 (cmpI z t)) hp (free_of rfl) trivial (sqi 3) (fun ρ w hc h => ⟨.bool true, by simp [execOp, go_sem, h, hc, T1.out], rfl⟩)
  · exact q_move hp (free_of rfl) trivial (sqi 4)
  · exact q_addr (b := b1) (off := 0) (off' := 1) hp (free_of rfl) (gq_some rfl rfl (by simp) rfl (fun v w h => h)) (sq_out (s := 2) rfl rfl (fun _ _ => rfl)) (fun ρ w h => by simp [execOp, go_sem, h]) (fun _ => rfl)
  · exact q_loadMagP (off := 1) (v := .slice (some ⟨ad, off, none⟩) j1 cc1) hp (free_of rfl) (gq_some rfl rfl (by simp) rfl (fun v w h => h)) (List.mem_iff_getElem?.2 ⟨0, rfl⟩) (.inl rfl) (Nat.le_of_ble_eq_true rfl) (sqi 6) (fun us w hl h => ⟨ld_nrawS hl h, rfl⟩)
  · exact q_one (F := fun v _ => v = .slice (some ⟨ad, off, none⟩) j1 cc1) hp (free_of rfl) (gq_some rfl rfl (by simp) rfl (fun v w h => h)) (sqi 7) (fun ρ w hc h => ⟨.pointer (some ⟨ad, off, none⟩), by simp [execOp, go_sem, h, hc, HJ.out], rfl⟩)
  · exact q_loadWord (bx := b1) (x0 := x0) hp (free_of rfl) (gq_some rfl rfl (by simp) rfl (fun v w h => h)) (List.mem_iff_getElem?.2 ⟨0, rfl⟩) (.inl rfl) (sqi 8) (fun us w hl h => first_word HJ.out HY.out h) (fun _ => rfl)
  · exact q_one (F := fun v _ => v = .int .u32 x0) hp (free_of rfl) (gq_some rfl rfl (by simp) rfl (fun v w h => h)) (sqi 9) (fun ρ w hc h => ⟨.int .u32 1, by simp [execOp, go_sem, h, hc, WM.out], rfl⟩)
  · exact q_one (F := fun v _ => v = .int .u32 1) hp (free_of rfl) (gq_some rfl rfl (by simp) rfl (fun v w h => h)) (sqi 10) (fun ρ w hc h => ⟨.bool true, by simp [execOp, go_sem, h, hc], rfl⟩)
  · exact q_two (F := fun v _ => v = .bool true) (G := fun v _ => v = .bool true) hp (free_of rfl) trivial (sqi 5) (sqi 11) (fun ρ w hc h h' => ⟨_, by simp [execOp, go_sem, h, h'], rfl⟩)
  · exact q_assign hp (free_of rfl) trivial (sqi 12)
  intro L vs w2 nb hL hC hn E2
  have e1 : vs 1 = .int .i64 t := hC 1 (by simp)
  have e3 : vs 3 = .int .i64 (cmpI z t) := hC 3 (by simp)
  have e4 : vs 4 = .bool true := hC 4 (by simp)
  have e5 : vs 5 = .bool true := hC 5 (by simp)
  have e6 : vs 6 = .pointer (some ⟨b1, 1, none⟩) := hC 6 (by simp)
  have e7 : vs 7 = .slice (some ⟨ad, off, none⟩) j1 cc1 := hC 7 (by simp)
  have e8 : vs 8 = .pointer (some ⟨ad, off, none⟩) := hC 8 (by simp)
  have e9 : vs 9 = .int .u32 x0 := hC 9 (by simp)
  have e10 : vs 10 = .int .u32 1 := hC 10 (by simp)
  have e11 : vs 11 = .bool true := hC 11 (by simp)
  have e12 : vs 12 = .bool true := hC 12 (by simp)
  have e13 : vs 13 = .bool true := hC 13 (by simp)
  have E : Fr w [(b1, 2, Fq.nraw m1 (some ⟨ad, off, none⟩) j1 cc1 ys z)] w2 := E2
  rw [lay_all hL]
  simp only [putAll, dstOf, List.length_cons, List.length_nil, Nat.zero_add, Nat.reduceAdd, List.getElem?_toArray, List.getElem?_cons_zero, List.getElem?_cons_succ, Option.bind_some, Act.put, List.setIfInBounds_toArray, List.set_cons_succ, List.set_cons_zero]
  rw [e1, e3, e4, e5, e6, e7, e8, e9, e10, e11, e12, e13]
  generalize vs 0 = u2_0
  generalize vs 2 = u2_2
  clear e1 e3 e4 e5 e6 e7 e8 e9 e10 e11 e12 e13 hC hn E2 hL vs L nb
  clear T1 HT WM HJ HY
  clear ha
  go_wp2
  refine bodyPost_ret (v := .bool true) ?_ rfl ⟨_, rfl, E.below, rfl⟩
  simp [results, Tryd.results31, go_sem]

set_option maxRecDepth 100000 in
set_option maxHeartbeats 4000000 in
theorem exROddN {w : World} {v : Value} {z t : Int} (h : Num w v z) (ha : ab z < pw 900) (ht : -9223372036854775808 ≤ t ∧ t ≤ 9223372036854775807) (h0 : 0 ≤ t) (hz : z > t) (ho : z % 2 = 0) :
    Calls Tryd.prog 31 #[v, .int .i64 t] w fun e w' => ∃ v', e = .returned v' ∧ Below w.heap.size w w' ∧ v' = .bool false := by
  replace ha := hidd ha
  obtain ⟨n0, ao0, k0, c0, rfl⟩ := h.parts
  obtain ⟨w1, b1, hw1, hb1, hs1, E⟩ := fr_start w (F := Fq.num z) (us := [.bool n0, .slice ao0 k0 c0]) 27 rfl (by simp) (tame_int _ _ _ _) h
  go_enter Tryd.func31, Tryd.ntmps31
  go_upto_region 1 with (fail)
  rw [← hw1]
  rw [← hb1]
  clear hw1 hb1 hs1
  have HT := hidd ht
  have T1 : Hid (cmpI z t > 0) := cmpIqgt.2 hz
  obtain ⟨m1, d1, j1, cc1, ys, hop, E⟩ := E.opened
  obtain ⟨hj, x0, hy, hm⟩ := first_odd hop (by omega)
  obtain ⟨ad, off, rfl⟩ := E.addr hj
  have HJ := hidd hj
  have HY := hidd hy
  have WM := hidd (show Int.tmod x0 2 = 0 by rw [hm]; omega)
  clear hop hj hy hm hz ht ho
  refine region_fr (C := [Fq.num z, Fq.is (.int .i64 t), Fq.num t, Fq.is (.int .i64 (cmpI z t)), Fq.is (.bool true), Fq.is (.bool true), Fq.is (.pointer (some ⟨b1, 1, none⟩)), Fq.is (.slice (some ⟨ad, off, none⟩) j1 cc1), Fq.is (.pointer (some ⟨ad, off, none⟩)), Fq.is (.int .u32 x0), Fq.is (.int .u32 0), Fq.is (.bool false), Fq.is (.bool false), Fq.is (.bool false)]) (ks := [none]) (new := []) E rfl (by kernel_rfl) rfl rfl (fun hp => ⟨?_, ?_, ?_, ?_, ?_, ?_, ?_, ?_, ?_, ?_, ?_, ?_, ?_, ?_, trivial⟩) ?_
  · exact q_loadInt (off := 0) hp (free_of rfl) trivial (List.mem_iff_getElem?.2 ⟨0, rfl⟩) (.inl rfl) (Nat.le_of_ble_eq_true rfl) (sq_out (s := 2) rfl rfl (fun _ _ => rfl)) (fun us w hl h => ld_num hl h.2.2)
  · exact q_move hp (free_of rfl) trivial (sq_out (s := 1) rfl rfl (fun _ _ => rfl))
  · exact q_call1 (F := (Fq.is (.int .i64 t)).P) hp (free_of rfl) trivial (enq_R_Of) (sqi 1) (fun v w h => (by subst h; exact rOfK w t HT.out.1 HT.out.2))
  · exact q_call2 (F := (Fq.num z).P) (G := (Fq.num t).P) hp (free_of rfl) trivial (enq_R_Cmp) (sqi 0) (sqi 2) (fun v v' w h h' => exRCmp' h h')
  · exact q_one (F := fun v _ => v = .int .i64 (cmpI z t)) hp (free_of rfl) trivial (sqi 3) (fun ρ w hc h => ⟨.bool true, by simp [execOp, go_sem, h, hc, T1.out], rfl⟩)
  · exact q_move hp (free_of rfl) trivial (sqi 4)
  · exact q_addr (b := b1) (off := 0) (off' := 1) hp (free_of rfl) (gq_some rfl rfl (by simp) rfl (fun v w h => h)) (sq_out (s := 2) rfl rfl (fun _ _ => rfl)) (fun ρ w h => by simp [execOp, go_sem, h]) (fun _ => rfl)
  · exact q_loadMagP (off := 1) (v := .slice (some ⟨ad, off, none⟩) j1 cc1) hp (free_of rfl) (gq_some rfl rfl (by simp) rfl (fun v w h => h)) (List.mem_iff_getElem?.2 ⟨0, rfl⟩) (.inl rfl) (Nat.le_of_ble_eq_true rfl) (sqi 6) (fun us w hl h => ⟨ld_nrawS hl h, rfl⟩)
  · exact q_one (F := fun v _ => v = .slice (some ⟨ad, off, none⟩) j1 cc1) hp (free_of rfl) (gq_some rfl rfl (by simp) rfl (fun v w h => h)) (sqi 7) (fun ρ w hc h => ⟨.pointer (some ⟨ad, off, none⟩), by simp [execOp, go_sem, h, hc, HJ.out], rfl⟩)
  · exact q_loadWord (bx := b1) (x0 := x0) hp (free_of rfl) (gq_some rfl rfl (by simp) rfl (fun v w h => h)) (List.mem_iff_getElem?.2 ⟨0, rfl⟩) (.inl rfl) (sqi 8) (fun us w hl h => first_word HJ.out HY.out h) (fun _ => rfl)
  · exact q_one (F := fun v _ => v = .int .u32 x0) hp (free_of rfl) (gq_some rfl rfl (by simp) rfl (fun v w h => h)) (sqi 9) (fun ρ w hc h => ⟨.int .u32 0, by simp [execOp, go_sem, h, hc, WM.out], rfl⟩)
  · exact q_one (F := fun v _ => v = .int .u32 0) hp (free_of rfl) (gq_some rfl rfl (by simp) rfl (fun v w h => h)) (sqi 10) (fun ρ w hc h => ⟨.bool false, by simp [execOp, go_sem, h, hc], rfl⟩)
  · exact q_two (F := fun v _ => v = .bool true) (G := fun v _ => v = .bool false) hp (free_of rfl) trivial (sqi 5) (sqi 11) (fun ρ w hc h h' => ⟨_, by simp [execOp, go_sem, h, h'], rfl⟩)
  · exact q_assign hp (free_of rfl) trivial (sqi 12)
  intro L vs w2 nb hL hC hn E2
  have e1 : vs 1 = .int .i64 t := hC 1 (by simp)
  have e3 : vs 3 = .int .i64 (cmpI z t) := hC 3 (by simp)
  have e4 : vs 4 = .bool true := hC 4 (by simp)
  have e5 : vs 5 = .bool true := hC 5 (by simp)
  have e6 : vs 6 = .pointer (some ⟨b1, 1, none⟩) := hC 6 (by simp)
  have e7 : vs 7 = .slice (some ⟨ad, off, none⟩) j1 cc1 := hC 7 (by simp)
  have e8 : vs 8 = .pointer (some ⟨ad, off, none⟩) := hC 8 (by simp)
  have e9 : vs 9 = .int .u32 x0 := hC 9 (by simp)
  have e10 : vs 10 = .int .u32 0 := hC 10 (by simp)
  have e11 : vs 11 = .bool false := hC 11 (by simp)
  have e12 : vs 12 = .bool false := hC 12 (by simp)
  have e13 : vs 13 = .bool false := hC 13 (by simp)
  have E : Fr w [(b1, 2, Fq.nraw m1 (some ⟨ad, off, none⟩) j1 cc1 ys z)] w2 := E2
  rw [lay_all hL]
  simp only [putAll, dstOf, List.length_cons, List.length_nil, Nat.zero_add, Nat.reduceAdd, List.getElem?_toArray, List.getElem?_cons_zero, List.getElem?_cons_succ, Option.bind_some, Act.put, List.setIfInBounds_toArray, List.set_cons_succ, List.set_cons_zero]
  rw [e1, e3, e4, e5, e6, e7, e8, e9, e10, e11, e12, e13]
  generalize vs 0 = u2_0
  generalize vs 2 = u2_2
  clear e1 e3 e4 e5 e6 e7 e8 e9 e10 e11 e12 e13 hC hn E2 hL vs L nb
  clear T1 HT WM HJ HY
  clear ha
  go_wp2
  refine bodyPost_ret (v := .bool false) ?_ rfl ⟨_, rfl, E.below, rfl⟩
  simp [results, Tryd.results31, go_sem]

end Go.Proofs.YtnhapjifddhdiaaDoor

namespace Go.Proofs.YtnhapjifddhdiaaDoor
open Go Go.RowKit

theorem enq_R_Bits (args : Array Value) (w : World) : (callFunc 62 args).run Tryd.prog w = .ok (.enter 62 args) w := enter_of Tryd.func62 (by kernel_rfl) rfl args w
theorem Num.opens {w : World} {v : Value} {z : Int} (h : Num w v z) : ∃ n a k c xs, v = .agg #[.bool n, .slice a k c] ∧ (z = sgn n (val xs) ∧ Canon xs ∧ xs.length = k ∧ (n = true → k ≠ 0) ∧ Digs xs) ∧ (Fq.nraw n a k c xs z).P v w := by
  obtain ⟨neg, ao, k, c, xs, hv, hs, hn, hz, hc, hnn⟩ := id h
  exact ⟨neg, ao, k, c, xs, hv, ⟨hz, hc, hs.len, hnn, hs.digs⟩, hv, hs, h⟩
theorem exRBitsP {w : World} {v : Value} {z : Int} (h : Num w v z) : Calls Tryd.prog 62 #[v] w fun e w' => ∃ v', e = .returned v' ∧ Below w.heap.size w w' ∧ v' = .int .i64 ((nbits z : Nat) : Int) := by
  refine (RBitsV h).mono fun e w' hh => ?_
  obtain ⟨m, rfl, hm, _, hb⟩ := hh
  exact ⟨_, rfl, hb, by rw [bits_uniq hm (nbits_isBits z)]⟩
theorem nat_word {n : Bool} {ab : Nat} {off k c : Nat} {xs : List Int} {z x0 : Int} {q : Nat} (hk : q < k) (hx : xs.getD q 0 = x0) {v : Value} {w : World} (h : (Fq.nraw n (some ⟨ab, off, none⟩) k c xs z).P v w) : w.cell? ⟨ab, off + q, none⟩ = some (.int .u32 x0) := by
  obtain ⟨x, h1, _, _, h4⟩ := h.2.1.cells.at' (k := q) (by rw [h.2.1.len]; exact hk)
  rw [h1, ← hx, h4.out]
theorem word_bit {n : Bool} {xs : List Int} {z : Int} {k i : Nat} (h : z = sgn n (val xs) ∧ Canon xs ∧ xs.length = k ∧ (n = true → k ≠ 0) ∧ Digs xs) (hi : i < nbits z) : i / 32 < k ∧ ∃ x0 y : Int, xs.getD (i / 32) 0 = x0 ∧ x0 / 2 ^ (i % 32) = y ∧ bits .and .u32 y 1 = ((z.natAbs / 2 ^ i % 2 : Nat) : Int) := by
  obtain ⟨hz, hc, hl, hn, hd⟩ := h
  have h1 : ab z = val xs := by rw [hz, ab_sgn, ab_of (val_nonneg hd)]
  have h2 : ab z < pw k := by rw [h1, ← hl]; exact val_lt hd
  have h3 : i / 32 < k := by have := nbits_le h2; omega
  refine ⟨h3, _, _, rfl, rfl, ?_⟩
  have hb := bit_of_val hd (k := i / 32) (r := i % 32) (by omega) (by omega)
  rw [show 32 * (i / 32) + i % 32 = i by omega] at hb
  have hx := hd.getD (i / 32)
  have e3 : 0 ≤ xs.getD (i / 32) 0 / 2 ^ (i % 32) ∧ xs.getD (i / 32) 0 / 2 ^ (i % 32) < 4294967296 := by
    have h := Int.ediv_nonneg hx.1 (show (0 : Int) ≤ 2 ^ (i % 32) by have := pow_two_pos (i % 32); omega)
    have h2 := Int.ediv_le_self (a := xs.getD (i / 32) 0) (2 ^ (i % 32)) hx.1
    have := hx.2
    omega
  rw [and_one _ e3.1 e3.2, ← hb, ← h1]
  unfold ab
  rw [Int.natCast_emod, Int.natCast_ediv, Int.natCast_pow]
  rfl
set_option maxRecDepth 100000 in
set_option maxHeartbeats 4000000 in
theorem exR4Power {w : World} {v v' u : Value} {a n m : Int} (h : Num w v a) (h' : Num w v' n) (g : Num w u m) (ha : ab a < pw 20) (hn : ab n < pw 20) (hm : ab m < pw 20) (h0 : 0 < m) :
    Calls Tryd.prog 36 #[v, v', u] w fun e w' => ∃ v', e = .returned v' ∧ Below w.heap.size w w' ∧ Num w' v' ((a % m) ^ n.natAbs % m) := by
  replace ha := hidd ha
  replace hn := hidd hn
  replace hm := hidd hm
  have HP := hidd h0
  have HM : Hid (m ≠ 0) := by show _ ≠ _; omega
  clear h0
  obtain ⟨m1, d1, j1, cc1, ys, rfl, hop, h2⟩ := h'.opens
  have HA := hidd (show 0 < j1 → ∃ ab off, d1 = some ⟨ab, off, none⟩ from nraw_addr h2)
  have HOP := hidd hop
  clear hop h'
  obtain ⟨n0, ao0, k0, c0, rfl⟩ := h.parts
  obtain ⟨n2, ao2, k2, c2, rfl⟩ := g.parts
  obtain ⟨w1, b1, hw1, hb1, hs1, E⟩ := fr_start w (F := Fq.num a) (us := [.bool n0, .slice ao0 k0 c0]) 27 rfl (by simp) (tame_int _ _ _ _) h
  obtain ⟨w2, b2, hw2, hb2, hs2, E⟩ := fr_more E hs1 (F := Fq.nraw m1 d1 j1 cc1 ys n) (us := [.bool m1, .slice d1 j1 cc1]) 27 rfl (by simp) (tame_int _ _ _ _) ((Fq.nraw m1 d1 j1 cc1 ys n).mono (show (Fq.nraw m1 d1 j1 cc1 ys n).P _ w from h2) E.below)
  obtain ⟨w3, b3, hw3, hb3, hs3, E⟩ := fr_more E hs2 (F := Fq.num m) (us := [.bool n2, .slice ao2 k2 c2]) 27 rfl (by simp) (tame_int _ _ _ _) (g.mono E.below)
  obtain ⟨w4, b4, hw4, hb4, hs4, E⟩ := fr_more E hs3 (F := Fq.num 0) (us := [.bool false, .slice none 0 0]) 27 rfl (by simp) (tame_int _ _ _ _) (Num.zero _)
  go_enter Tryd.func36, Tryd.ntmps36
  go_upto_region 1 with (fail)
  rw [← hw1]
  rw [← hw2]
  rw [← hw3]
  rw [← hw4]
  rw [← hb4]
  rw [← hb3]
  rw [← hb2]
  rw [← hb1]
  clear hw1 hw2 hw3 hw4 hb1 hb2 hb3 hb4 hs4 hs1 hs2 hs3
  have B5 : Hid (ab ((1)) < pw 3) := ab_lit (by decide)
  have B6 : Hid (ab (((1) % m)) < pw 20) := ab_modB HM.out hm.out
  refine region_fr (C := [Fq.num (1), Fq.num m, Fq.num ((1) % m), Fq.any, Fq.any]) (ks := [none, none, none, none]) (new := [⟨3, 4, 2, Fq.num 0, Fq.num ((1) % m), none⟩]) E rfl (by kernel_rfl) rfl rfl (fun hp => ⟨?_, ?_, ?_, ?_, ?_, trivial⟩) ?_
  · exact q_call1 (F := (Fq.is (.int .i64 1)).P) hp (free_of rfl) trivial (enq_R_Of) (sq_const (fun _ => rfl)) (fun v w h => (by subst h; exact rOfK w (1) (by omega) (by omega)))
  · exact q_loadInt (off := 0) hp (free_of rfl) trivial (List.mem_iff_getElem?.2 ⟨1, rfl⟩) (.inl rfl) (Nat.le_of_ble_eq_true rfl) (sq_out (s := 5) rfl rfl (fun _ _ => rfl)) (fun us w hl h => ld_num hl h)
  · exact q_call2 (F := (Fq.num (1)).P) (G := (Fq.num m).P) hp (free_of rfl) trivial (enq_R_Mod) (sqi 0) (sqi 1) (fun v v' w h h' => exK (RModV h h' (Int.lt_of_lt_of_le B5.out (pw_le (by omega))) (Int.lt_of_lt_of_le hm.out (pw_le (by omega))) HM.out) B6.out (by omega))
  · exact q_allocInt hp (List.mem_iff_getElem?.2 ⟨0, rfl⟩) rfl rfl rfl rfl (Nat.ne_of_beq_eq_false rfl) (fun _ _ => trivial) (old_ne rfl) (newk_ne rfl) (fun w => Num.zero w)
  · exact q_storeNewInt hp (List.mem_iff_getElem?.2 ⟨0, rfl⟩) rfl rfl rfl (own_ptr rfl rfl (by simp) rfl) (sq_in 2 rfl rfl (by simp) rfl (fun v w h => intV_num h)) (fun _ _ => trivial) (old_ne rfl) (newi_ne rfl)
  intro L vs w7 nb hL hC hn E7
  have e3 : vs 3 = .pointer (some ⟨nb 3, 0, none⟩) := hn _ (List.mem_iff_getElem?.2 ⟨0, rfl⟩)
  have E : Fr w [(nb 3, 2, Fq.num ((1) % m)), (b4, 2, Fq.num 0), (b3, 2, Fq.num m), (b2, 2, Fq.nraw m1 d1 j1 cc1 ys n), (b1, 2, Fq.num a)] w7 := E7
  rw [lay_all hL]
  simp only [putAll, dstOf, List.length_cons, List.length_nil, Nat.zero_add, Nat.reduceAdd, List.getElem?_toArray, List.getElem?_cons_zero, List.getElem?_cons_succ, Option.bind_some, Act.put, List.setIfInBounds_toArray, List.set_cons_succ, List.set_cons_zero]
  rw [e3]
  generalize nb 3 = b7_3 at E ⊢
  generalize vs 0 = u7_0
  generalize vs 1 = u7_1
  generalize vs 2 = u7_2
  clear e3 hC hn E7 hL vs L nb
  go_upto_region 2 with (fail)
  have B8 : Hid (ab ((a % m)) < pw 20) := ab_modB HM.out hm.out
  refine region_fr (C := [Fq.num a, Fq.num m, Fq.num (a % m), Fq.any]) (ks := [none, none, none, none, some (3, Fq.num (a % m))]) (new := []) E rfl (by kernel_rfl) rfl rfl (fun hp => ⟨?_, ?_, ?_, ?_, trivial⟩) ?_
  · exact q_loadInt (off := 0) hp (free_of rfl) trivial (List.mem_iff_getElem?.2 ⟨4, rfl⟩) (.inr rfl) (Nat.le_of_ble_eq_true rfl) (sq_out (s := 3) rfl rfl (fun _ _ => rfl)) (fun us w hl h => ld_num hl h)
  · exact q_loadInt (off := 0) hp (free_of rfl) trivial (List.mem_iff_getElem?.2 ⟨2, rfl⟩) (.inl rfl) (Nat.le_of_ble_eq_true rfl) (sq_out (s := 5) rfl rfl (fun _ _ => rfl)) (fun us w hl h => ld_num hl h)
  · exact q_call2 (F := (Fq.num a).P) (G := (Fq.num m).P) hp (free_of rfl) trivial (enq_R_Mod) (sqi 0) (sqi 1) (fun v v' w h h' => exK (RModV h h' (Int.lt_of_lt_of_le ha.out (pw_le (by omega))) (Int.lt_of_lt_of_le hm.out (pw_le (by omega))) HM.out) B8.out (by omega))
  · exact q_storeOldInt hp (List.mem_iff_getElem?.2 ⟨4, rfl⟩) rfl rfl (sq_out (s := 3) rfl rfl (fun _ _ => rfl)) (sq_in 2 rfl rfl (by simp) rfl (fun v w h => intV_num h)) (fun _ _ => trivial) (newik_ne rfl)
  intro L vs w9 nb hL hC hn E9
  have E : Fr w [(b7_3, 2, Fq.num ((1) % m)), (b4, 2, Fq.num 0), (b3, 2, Fq.num m), (b2, 2, Fq.nraw m1 d1 j1 cc1 ys n), (b1, 2, Fq.num (a % m))] w9 := E9
  rw [lay_all hL]
  simp only [putAll, dstOf, List.length_cons, List.length_nil, Nat.zero_add, Nat.reduceAdd, List.getElem?_toArray, List.getElem?_cons_zero, List.getElem?_cons_succ, Option.bind_some, Act.put, List.setIfInBounds_toArray, List.set_cons_succ, List.set_cons_zero]
  generalize vs 0 = u9_0
  generalize vs 1 = u9_1
  generalize vs 2 = u9_2
  clear  hC hn E9 hL vs L nb
  obtain ⟨a1, ha1⟩ : ∃ a1, a1 = a % m := ⟨_, rfl⟩
  rw [← ha1] at E
  have Ba1 : Hid (ab a1 < pw 20) := by show _ < _; rw [ha1]; exact ab_modB HM.out hm.out
  have HA1 := hidd ha1
  clear ha1
  have HNB : Hid (nbits n ≤ 640) := nbits_le hn.out
  have TW : Hid (IntKind.i64.wrap (((nbits n : Nat) : Int) - 1) = ((nbits n : Nat) : Int) - 1) := IntWalk.i64_in _ (by have := HNB.out; omega)
  go_upto_region 3 with (fail)
  refine region_fr (C := [Fq.num n, Fq.is (.int .i64 ((nbits n : Nat) : Int)), Fq.is (.int .i64 (((nbits n : Nat) : Int) - 1)), Fq.is (.int .i64 (((nbits n : Nat) : Int) - 1))]) (ks := [none, none, none, none, none]) (new := []) E rfl (by kernel_rfl) rfl rfl (fun hp => ⟨?_, ?_, ?_, ?_, trivial⟩) ?_
  · exact q_loadInt (off := 0) hp (free_of rfl) trivial (List.mem_iff_getElem?.2 ⟨3, rfl⟩) (.inl rfl) (Nat.le_of_ble_eq_true rfl) (sq_out (s := 4) rfl rfl (fun _ _ => rfl)) (fun us w hl h => ld_num hl h.2.2)
  · exact q_call1 (F := (Fq.num n).P) hp (free_of rfl) trivial (enq_R_Bits) (sqi 0) (fun v w h => exRBitsP h)
  · exact q_one (F := fun v _ => v = .int .i64 ((nbits n : Nat) : Int)) hp (free_of rfl) trivial (sqi 1) (fun ρ w hc h => ⟨.int .i64 (((nbits n : Nat) : Int) - 1), by simp [execOp, go_sem, h, hc, TW.out], rfl⟩)
  · exact q_assign hp (free_of rfl) trivial (sqi 2)
  intro L vs w10 nb hL hC hn E10
  have e1 : vs 1 = .int .i64 ((nbits n : Nat) : Int) := hC 1 (by simp)
  have e2 : vs 2 = .int .i64 (((nbits n : Nat) : Int) - 1) := hC 2 (by simp)
  have e3 : vs 3 = .int .i64 (((nbits n : Nat) : Int) - 1) := hC 3 (by simp)
  have E : Fr w [(b7_3, 2, Fq.num ((1) % m)), (b4, 2, Fq.num 0), (b3, 2, Fq.num m), (b2, 2, Fq.nraw m1 d1 j1 cc1 ys n), (b1, 2, Fq.num a1)] w10 := E10
  rw [lay_all hL]
  simp only [putAll, dstOf, List.length_cons, List.length_nil, Nat.zero_add, Nat.reduceAdd, List.getElem?_toArray, List.getElem?_cons_zero, List.getElem?_cons_succ, Option.bind_some, Act.put, List.setIfInBounds_toArray, List.set_cons_succ, List.set_cons_zero]
  rw [e1, e2, e3]
  generalize vs 0 = u10_0
  clear e1 e2 e3 hC hn E10 hL vs L nb
  clear TW
  have HS := hidd E
  go_upto_region 4 with (fail)
  go_loopw [8] (fun vi W => ∃ j : Nat, j ≤ nbits n ∧ vi = .int .i64 ((j : Int) - 1) ∧ Fr w [(b7_3, 2, Fq.num (a1 ^ (n.natAbs / 2 ^ j) % m)), (b4, 2, Fq.num 0), (b3, 2, Fq.num m), (b2, 2, Fq.nraw m1 d1 j1 cc1 ys n), (b1, 2, Fq.num a1)] W) (fun vi _ => (intOf vi + 1).toNat)
  case atStart => exact ⟨nbits n, Nat.le_refl _, rfl, by rw [nbits_top, Int.pow_zero]; exact HS.out⟩
  case round =>
    obtain ⟨j, hj, rfl, E⟩ := hrel
    clear HS
    by_cases h0 : j = 0
    · subst h0
      have TL : Hid (¬ 0 ≤ ((0 : Nat) : Int) - 1) := by show ¬ _; omega
      rw [Nat.pow_zero, Nat.div_one] at E
      clear hj
      go_upto_region 4 with (fail)
      refine region_fr (C := [Fq.is (.int .i64 (((0 : Nat) : Int) - 1)), Fq.is (.bool false)]) (ks := [none, none, none, none, none]) (new := []) E rfl (by kernel_rfl) rfl rfl (fun hp => ⟨?_, ?_, trivial⟩) ?_
      · exact q_move hp (free_of rfl) trivial (sq_out (s := 8) rfl rfl (fun _ _ => rfl))
      · exact q_one (F := fun v _ => v = .int .i64 (((0 : Nat) : Int) - 1)) hp (free_of rfl) trivial (sqi 0) (fun ρ w hc h => ⟨.bool false, by simp [execOp, go_sem, h, hc], rfl⟩)
      intro L vs w11 nb hL hC hn E11
      have e0 : vs 0 = .int .i64 (((0 : Nat) : Int) - 1) := hC 0 (by simp)
      have e1 : vs 1 = .bool false := hC 1 (by simp)
      have E : Fr w [(b7_3, 2, Fq.num (a1 ^ n.natAbs % m)), (b4, 2, Fq.num 0), (b3, 2, Fq.num m), (b2, 2, Fq.nraw m1 d1 j1 cc1 ys n), (b1, 2, Fq.num a1)] w11 := E11
      rw [lay_all hL]
      simp only [putAll, dstOf, List.length_cons, List.length_nil, Nat.zero_add, Nat.reduceAdd, List.getElem?_toArray, List.getElem?_cons_zero, List.getElem?_cons_succ, Option.bind_some, Act.put, List.setIfInBounds_toArray, List.set_cons_succ, List.set_cons_zero]
      rw [e0, e1]
      clear e0 e1 hC hn E11 hL vs L nb
      clear TL
      go_upto_region 9 with (fail)
      refine region_fr (C := [Fq.num (a1 ^ n.natAbs % m), Fq.any]) (ks := [none, some (1, Fq.num (a1 ^ n.natAbs % m)), none, none, none]) (new := []) E rfl (by kernel_rfl) rfl rfl (fun hp => ⟨?_, ?_, trivial⟩) ?_
      · exact q_loadInt (off := 0) hp (free_of rfl) trivial (List.mem_iff_getElem?.2 ⟨0, rfl⟩) (.inl rfl) (Nat.le_of_ble_eq_true rfl) (sq_out (s := 7) rfl rfl (fun _ _ => rfl)) (fun us w hl h => ld_num hl h)
      · exact q_storeOldInt hp (List.mem_iff_getElem?.2 ⟨1, rfl⟩) rfl rfl (sq_out (s := 6) rfl rfl (fun _ _ => rfl)) (sq_in 0 rfl rfl (by simp) rfl (fun v w h => intV_num h)) (fun _ _ => trivial) (newik_ne rfl)
      intro L vs w12 nb hL hC hn E12
      have E : Fr w [(b7_3, 2, Fq.num (a1 ^ n.natAbs % m)), (b4, 2, Fq.num (a1 ^ n.natAbs % m)), (b3, 2, Fq.num m), (b2, 2, Fq.nraw m1 d1 j1 cc1 ys n), (b1, 2, Fq.num a1)] w12 := E12
      rw [lay_all hL]
      simp only [putAll, dstOf, List.length_cons, List.length_nil, Nat.zero_add, Nat.reduceAdd, List.getElem?_toArray, List.getElem?_cons_zero, List.getElem?_cons_succ, Option.bind_some, Act.put, List.setIfInBounds_toArray, List.set_cons_succ, List.set_cons_zero]
      generalize vs 0 = u12_0
      clear  hC hn E12 hL vs L nb
      clear HM HP HNB HA HOP
      obtain ⟨p0, p1, c0, c1, hP⟩ := box_num (E.box 1 rfl)
      clear B5 B6 B8 ha hn hm Ba1
      rw [HA1.out] at hP
      clear HA1
      go_wp2
      refine bodyPost_ret (v := .agg #[p0, p1]) ?_ rfl ⟨_, rfl, E.below, hP⟩
      simp [results, Tryd.results36, go_sem, c0, c1]
    · obtain ⟨i, rfl⟩ : ∃ i, j = i + 1 := ⟨j - 1, by omega⟩
      have ei : (((i + 1 : Nat) : Int) - 1) = (i : Int) := by omega
      rw [ei]
      have HJ := hidd hj
      obtain ⟨z, hz⟩ : ∃ z, z = a1 ^ (n.natAbs / 2 ^ (i + 1)) % m := ⟨_, rfl⟩
      rw [← hz] at E
      have Bz : Hid (ab z < pw 20) := by show _ < _; rw [hz]; exact ab_modB HM.out hm.out
      have HZ := hidd (pow_step hz)
      have TL : Hid (0 ≤ (i : Int)) := by show 0 ≤ _; omega
      have hw : wrap64 ((i : Int) - 1) = (i : Int) - 1 := by have := HJ.out; have := HNB.out; simp only [wrap64]; omega
      obtain ⟨hqk, x0, y, hx0, hy, hband⟩ := word_bit HOP.out (i := i) (by omega)
      obtain ⟨ad, off, rfl⟩ := HA.out (by omega)
      obtain ⟨q, hq⟩ : ∃ q, q = i / 32 := ⟨_, rfl⟩
      obtain ⟨r, hr⟩ : ∃ r, r = i % 32 := ⟨_, rfl⟩
      rw [← hq] at hqk hx0
      rw [← hr] at hy
      have HX0 := hidd hx0
      have HQK := hidd hqk
      have HQI : Hid ((q : Int) < j1) := by show (q : Int) < j1; omega
      have HBA := hidd hband
      have HR : Hid (r < 32) := by show r < 32; omega
      have WQ : Hid (Int.tdiv (i : Int) 32 = (q : Int)) := by show _ = _; rw [Int.tdiv_eq_ediv_of_nonneg (by omega)]; omega
      have WQ2 : Hid ((i : Int) / 32 = (q : Int)) := by show _ = _; omega
      have WQ3 : Hid (IntKind.i64.wrap (q : Int) = q) := IntWalk.i64_in _ (by have := HJ.out; have := HNB.out; omega)
      have WR : Hid (Int.tmod (i : Int) 32 = (r : Int)) := by show _ = _; rw [Int.tmod_eq_emod_of_nonneg (by omega)]; omega
      have WR2 : Hid ((i : Int) % 32 = (r : Int)) := by show _ = _; omega
      have WR3 : Hid (IntKind.i64.wrap (r : Int) = r) := IntWalk.i64_in _ (by omega)
      have WC : Hid (IntKind.u64.wrap (r : Int) = r) := by show _ = _; rw [u64_wrap]; omega
      have WS : Hid (x0 / 2 ^ r = y) := hy
      have WM : Hid (min r 32 = r) := by show _ = _; omega
      clear ei hz h0 hj hq hr hqk hx0 hy hband
      go_upto_region 4 with (fail)
      refine region_fr (C := [Fq.is (.int .i64 (i : Int)), Fq.is (.bool true)]) (ks := [none, none, none, none, none]) (new := []) E rfl (by kernel_rfl) rfl rfl (fun hp => ⟨?_, ?_, trivial⟩) ?_
      · exact q_move hp (free_of rfl) trivial (sq_out (s := 8) rfl rfl (fun _ _ => rfl))
      · exact q_one (F := fun v _ => v = .int .i64 (i : Int)) hp (free_of rfl) trivial (sqi 0) (fun ρ w hc h => ⟨.bool true, by simp [execOp, go_sem, h, hc, TL.out], rfl⟩)
      intro L vs w13 nb hL hC hn E13
      have e0 : vs 0 = .int .i64 (i : Int) := hC 0 (by simp)
      have e1 : vs 1 = .bool true := hC 1 (by simp)
      have E : Fr w [(b7_3, 2, Fq.num z), (b4, 2, Fq.num 0), (b3, 2, Fq.num m), (b2, 2, Fq.nraw m1 (some ⟨ad, off, none⟩) j1 cc1 ys n), (b1, 2, Fq.num a1)] w13 := E13
      rw [lay_all hL]
      simp only [putAll, dstOf, List.length_cons, List.length_nil, Nat.zero_add, Nat.reduceAdd, List.getElem?_toArray, List.getElem?_cons_zero, List.getElem?_cons_succ, Option.bind_some, Act.put, List.setIfInBounds_toArray, List.set_cons_succ, List.set_cons_zero]
      rw [e0, e1]
      clear e0 e1 hC hn E13 hL vs L nb
      clear TL
      go_upto_region 6 with (fail)
      have B14 : Hid (ab ((z * z)) < pw 40) := ab_mulM Bz.out Bz.out (by omega)
      have B15 : Hid (ab (((z * z) % m)) < pw 20) := ab_modB HM.out hm.out
      refine region_fr (C := [Fq.num z, Fq.num z, Fq.num (z * z), Fq.num m, Fq.num ((z * z) % m), Fq.any]) (ks := [some (5, Fq.num ((z * z) % m)), none, none, none, none]) (new := []) E rfl (by kernel_rfl) rfl rfl (fun hp => ⟨?_, ?_, ?_, ?_, ?_, ?_, trivial⟩) ?_
      · exact q_loadInt (off := 0) hp (free_of rfl) trivial (List.mem_iff_getElem?.2 ⟨0, rfl⟩) (.inr rfl) (Nat.le_of_ble_eq_true rfl) (sq_out (s := 7) rfl rfl (fun _ _ => rfl)) (fun us w hl h => ld_num hl h)
      · exact q_loadInt (off := 0) hp (free_of rfl) trivial (List.mem_iff_getElem?.2 ⟨0, rfl⟩) (.inr rfl) (Nat.le_of_ble_eq_true rfl) (sq_out (s := 7) rfl rfl (fun _ _ => rfl)) (fun us w hl h => ld_num hl h)
      · exact q_call2 (F := (Fq.num z).P) (G := (Fq.num z).P) hp (free_of rfl) trivial (enq_R_Mul) (sqi 0) (sqi 1) (fun v v' w h h' => exK (RMulV h h') B14.out (by omega))
      · exact q_loadInt (off := 0) hp (free_of rfl) trivial (List.mem_iff_getElem?.2 ⟨2, rfl⟩) (.inl rfl) (Nat.le_of_ble_eq_true rfl) (sq_out (s := 5) rfl rfl (fun _ _ => rfl)) (fun us w hl h => ld_num hl h)
      · exact q_call2 (F := (Fq.num (z * z)).P) (G := (Fq.num m).P) hp (free_of rfl) trivial (enq_R_Mod) (sqi 2) (sqi 3) (fun v v' w h h' => exK (RModV h h' (Int.lt_of_lt_of_le B14.out (pw_le (by omega))) (Int.lt_of_lt_of_le hm.out (pw_le (by omega))) HM.out) B15.out (by omega))
      · exact q_storeOldInt hp (List.mem_iff_getElem?.2 ⟨0, rfl⟩) rfl rfl (sq_out (s := 7) rfl rfl (fun _ _ => rfl)) (sq_in 4 rfl rfl (by simp) rfl (fun v w h => intV_num h)) (fun _ _ => trivial) (newik_ne rfl)
      intro L vs w16 nb hL hC hn E16
      have E : Fr w [(b7_3, 2, Fq.num ((z * z) % m)), (b4, 2, Fq.num 0), (b3, 2, Fq.num m), (b2, 2, Fq.nraw m1 (some ⟨ad, off, none⟩) j1 cc1 ys n), (b1, 2, Fq.num a1)] w16 := E16
      rw [lay_all hL]
      simp only [putAll, dstOf, List.length_cons, List.length_nil, Nat.zero_add, Nat.reduceAdd, List.getElem?_toArray, List.getElem?_cons_zero, List.getElem?_cons_succ, Option.bind_some, Act.put, List.setIfInBounds_toArray, List.set_cons_succ, List.set_cons_zero]
      generalize vs 0 = u16_0
      generalize vs 1 = u16_1
      generalize vs 2 = u16_2
      generalize vs 3 = u16_3
      generalize vs 4 = u16_4
      clear  hC hn E16 hL vs L nb
      by_cases hb : n.natAbs / 2 ^ i % 2 = 1
      · have TB : Hid (bits .and .u32 y 1 = 1) := by show _ = _; rw [HBA.out, hb]; rfl
        have EZ : Hid ((((z * z) % m) * a1) % m = a1 ^ (n.natAbs / 2 ^ i) % m) := HZ.out.1 hb
        clear hb HZ HBA
        go_upto_region 7 with (fail)
        refine region_fr (C := [Fq.is (.pointer (some ⟨b2, 1, none⟩)), Fq.is (.slice (some ⟨ad, off, none⟩) j1 cc1), Fq.is (.int .i64 (i : Int)), Fq.is (.int .i64 (q : Int)), Fq.is (.pointer (some ⟨ad, off + q, none⟩)), Fq.is (.int .u32 x0), Fq.is (.int .i64 (i : Int)), Fq.is (.int .i64 (r : Int)), Fq.is (.int .u64 (r : Int)), Fq.is (.int .u32 y), Fq.is (.int .u32 1), Fq.is (.bool true)]) (ks := [none, none, none, none, none]) (new := []) E rfl (by kernel_rfl) rfl rfl (fun hp => ⟨?_, ?_, ?_, ?_, ?_, ?_, ?_, ?_, ?_, ?_, ?_, ?_, trivial⟩) ?_
        · exact q_addr (b := b2) (off := 0) (off' := 1) hp (free_of rfl) trivial (sq_out (s := 4) rfl rfl (fun _ _ => rfl)) (fun ρ w h => by simp [execOp, go_sem, h]) (fun _ => rfl)
        · exact q_loadMagP (off := 1) (v := .slice (some ⟨ad, off, none⟩) j1 cc1) hp (free_of rfl) trivial (List.mem_iff_getElem?.2 ⟨3, rfl⟩) (.inl rfl) (Nat.le_of_ble_eq_true rfl) (sqi 0) (fun us w hl h => ⟨ld_nrawS hl h, rfl⟩)
        · exact q_move hp (free_of rfl) trivial (sq_out (s := 8) rfl rfl (fun _ _ => rfl))
        · exact q_one (F := fun v _ => v = .int .i64 (i : Int)) hp (free_of rfl) trivial (sqi 2) (fun ρ w hc h => ⟨.int .i64 (q : Int), by simp [execOp, go_sem, h, hc, WQ.out, WQ2.out, WQ3.out], rfl⟩)
        · exact q_two (F := fun v _ => v = .slice (some ⟨ad, off, none⟩) j1 cc1) (G := fun v _ => v = .int .i64 (q : Int)) hp (free_of rfl) trivial (sqi 1) (sqi 3) (fun ρ w hc h h' => ⟨.pointer (some ⟨ad, off + q, none⟩), by simp [execOp, go_sem, h, h', hc, HQI.out], rfl⟩)
        · exact q_loadWord (bx := b2) (x0 := x0) hp (free_of rfl) trivial (List.mem_iff_getElem?.2 ⟨3, rfl⟩) (.inl rfl) (sqi 4) (fun us w hl h => nat_word HQK.out HX0.out h) (fun _ => rfl)
        · exact q_move hp (free_of rfl) trivial (sq_out (s := 8) rfl rfl (fun _ _ => rfl))
        · exact q_one (F := fun v _ => v = .int .i64 (i : Int)) hp (free_of rfl) trivial (sqi 6) (fun ρ w hc h => ⟨.int .i64 (r : Int), by simp [execOp, go_sem, h, hc, WR.out, WR2.out, WR3.out], rfl⟩)
        · exact q_one (F := fun v _ => v = .int .i64 (r : Int)) hp (free_of rfl) trivial (sqi 7) (fun ρ w hc h => ⟨.int .u64 (r : Int), by simp [execOp, go_sem, h, WC.out], rfl⟩)
        · exact q_two (F := fun v _ => v = .int .u32 x0) (G := fun v _ => v = .int .u64 (r : Int)) hp (free_of rfl) trivial (sqi 5) (sqi 8) (fun ρ w hc h h' => ⟨.int .u32 y, by simp [execOp, go_sem, h, h', WS.out, WM.out], rfl⟩)
        · exact q_one (F := fun v _ => v = .int .u32 y) hp (free_of rfl) trivial (sqi 9) (fun ρ w hc h => ⟨.int .u32 1, by simp [execOp, go_sem, h, hc, TB.out], rfl⟩)
        · exact q_one (F := fun v _ => v = .int .u32 1) hp (free_of rfl) trivial (sqi 10) (fun ρ w hc h => ⟨.bool true, by simp [execOp, go_sem, h, hc], rfl⟩)
        intro L vs w17 nb hL hC hn E17
        have e0 : vs 0 = .pointer (some ⟨b2, 1, none⟩) := hC 0 (by simp)
        have e1 : vs 1 = .slice (some ⟨ad, off, none⟩) j1 cc1 := hC 1 (by simp)
        have e2 : vs 2 = .int .i64 (i : Int) := hC 2 (by simp)
        have e3 : vs 3 = .int .i64 (q : Int) := hC 3 (by simp)
        have e4 : vs 4 = .pointer (some ⟨ad, off + q, none⟩) := hC 4 (by simp)
        have e5 : vs 5 = .int .u32 x0 := hC 5 (by simp)
        have e6 : vs 6 = .int .i64 (i : Int) := hC 6 (by simp)
        have e7 : vs 7 = .int .i64 (r : Int) := hC 7 (by simp)
        have e8 : vs 8 = .int .u64 (r : Int) := hC 8 (by simp)
        have e9 : vs 9 = .int .u32 y := hC 9 (by simp)
        have e10 : vs 10 = .int .u32 1 := hC 10 (by simp)
        have e11 : vs 11 = .bool true := hC 11 (by simp)
        have E : Fr w [(b7_3, 2, Fq.num ((z * z) % m)), (b4, 2, Fq.num 0), (b3, 2, Fq.num m), (b2, 2, Fq.nraw m1 (some ⟨ad, off, none⟩) j1 cc1 ys n), (b1, 2, Fq.num a1)] w17 := E17
        rw [lay_all hL]
        simp only [putAll, dstOf, List.length_cons, List.length_nil, Nat.zero_add, Nat.reduceAdd, List.getElem?_toArray, List.getElem?_cons_zero, List.getElem?_cons_succ, Option.bind_some, Act.put, List.setIfInBounds_toArray, List.set_cons_succ, List.set_cons_zero]
        rw [e0, e1, e2, e3, e4, e5, e6, e7, e8, e9, e10, e11]
        clear e0 e1 e2 e3 e4 e5 e6 e7 e8 e9 e10 e11 hC hn E17 hL vs L nb
        clear WQ WQ2 WQ3 WR WR2 WR3 WC WS WM TB HX0 HQK HQI HR
        go_upto_region 8 with (fail)
        have B18 : Hid (ab ((((z * z) % m) * a1)) < pw 40) := ab_mulM B15.out Ba1.out (by omega)
        have B19 : Hid (ab (((((z * z) % m) * a1) % m)) < pw 20) := ab_modB HM.out hm.out
        refine region_fr (C := [Fq.num ((z * z) % m), Fq.num a1, Fq.num (((z * z) % m) * a1), Fq.num m, Fq.num ((((z * z) % m) * a1) % m), Fq.any]) (ks := [some (5, Fq.num ((((z * z) % m) * a1) % m)), none, none, none, none]) (new := []) E rfl (by kernel_rfl) rfl rfl (fun hp => ⟨?_, ?_, ?_, ?_, ?_, ?_, trivial⟩) ?_
        · exact q_loadInt (off := 0) hp (free_of rfl) trivial (List.mem_iff_getElem?.2 ⟨0, rfl⟩) (.inr rfl) (Nat.le_of_ble_eq_true rfl) (sq_out (s := 7) rfl rfl (fun _ _ => rfl)) (fun us w hl h => ld_num hl h)
        · exact q_loadInt (off := 0) hp (free_of rfl) trivial (List.mem_iff_getElem?.2 ⟨4, rfl⟩) (.inl rfl) (Nat.le_of_ble_eq_true rfl) (sq_out (s := 3) rfl rfl (fun _ _ => rfl)) (fun us w hl h => ld_num hl h)
        · exact q_call2 (F := (Fq.num ((z * z) % m)).P) (G := (Fq.num a1).P) hp (free_of rfl) trivial (enq_R_Mul) (sqi 0) (sqi 1) (fun v v' w h h' => exK (RMulV h h') B18.out (by omega))
        · exact q_loadInt (off := 0) hp (free_of rfl) trivial (List.mem_iff_getElem?.2 ⟨2, rfl⟩) (.inl rfl) (Nat.le_of_ble_eq_true rfl) (sq_out (s := 5) rfl rfl (fun _ _ => rfl)) (fun us w hl h => ld_num hl h)
        · exact q_call2 (F := (Fq.num (((z * z) % m) * a1)).P) (G := (Fq.num m).P) hp (free_of rfl) trivial (enq_R_Mod) (sqi 2) (sqi 3) (fun v v' w h h' => exK (RModV h h' (Int.lt_of_lt_of_le B18.out (pw_le (by omega))) (Int.lt_of_lt_of_le hm.out (pw_le (by omega))) HM.out) B19.out (by omega))
        · exact q_storeOldInt hp (List.mem_iff_getElem?.2 ⟨0, rfl⟩) rfl rfl (sq_out (s := 7) rfl rfl (fun _ _ => rfl)) (sq_in 4 rfl rfl (by simp) rfl (fun v w h => intV_num h)) (fun _ _ => trivial) (newik_ne rfl)
        intro L vs w20 nb hL hC hn E20
        have E : Fr w [(b7_3, 2, Fq.num ((((z * z) % m) * a1) % m)), (b4, 2, Fq.num 0), (b3, 2, Fq.num m), (b2, 2, Fq.nraw m1 (some ⟨ad, off, none⟩) j1 cc1 ys n), (b1, 2, Fq.num a1)] w20 := E20
        rw [lay_all hL]
        simp only [putAll, dstOf, List.length_cons, List.length_nil, Nat.zero_add, Nat.reduceAdd, List.getElem?_toArray, List.getElem?_cons_zero, List.getElem?_cons_succ, Option.bind_some, Act.put, List.setIfInBounds_toArray, List.set_cons_succ, List.set_cons_zero]
        generalize vs 0 = u20_0
        generalize vs 1 = u20_1
        generalize vs 2 = u20_2
        generalize vs 3 = u20_3
        generalize vs 4 = u20_4
        clear  hC hn E20 hL vs L nb
        go_wp2
        go_roundw
        case rel => exact ⟨i, by have := HJ.out; omega, by first | go_num | (rw [hw]; go_num), by rw [← EZ.out]; exact E⟩
        case measure => first | exact measP | (rw [hw]; exact measP)
      · have TB : Hid (bits .and .u32 y 1 = 0) := by show _ = _; rw [HBA.out, show n.natAbs / 2 ^ i % 2 = 0 by omega]; rfl
        have EZ : Hid ((z * z) % m = a1 ^ (n.natAbs / 2 ^ i) % m) := HZ.out.2 hb
        clear hb HZ HBA
        go_upto_region 7 with (fail)
        refine region_fr (C := [Fq.is (.pointer (some ⟨b2, 1, none⟩)), Fq.is (.slice (some ⟨ad, off, none⟩) j1 cc1), Fq.is (.int .i64 (i : Int)), Fq.is (.int .i64 (q : Int)), Fq.is (.pointer (some ⟨ad, off + q, none⟩)), Fq.is (.int .u32 x0), Fq.is (.int .i64 (i : Int)), Fq.is (.int .i64 (r : Int)), Fq.is (.int .u64 (r : Int)), Fq.is (.int .u32 y), Fq.is (.int .u32 0), Fq.is (.bool false)]) (ks := [none, none, none, none, none]) (new := []) E rfl (by kernel_rfl) rfl rfl (fun hp => ⟨?_, ?_, ?_, ?_, ?_, ?_, ?_, ?_, ?_, ?_, ?_, ?_, trivial⟩) ?_
        · exact q_addr (b := b2) (off := 0) (off' := 1) hp (free_of rfl) trivial (sq_out (s := 4) rfl rfl (fun _ _ => rfl)) (fun ρ w h => by simp [execOp, go_sem, h]) (fun _ => rfl)
        · exact q_loadMagP (off := 1) (v := .slice (some ⟨ad, off, none⟩) j1 cc1) hp (free_of rfl) trivial (List.mem_iff_getElem?.2 ⟨3, rfl⟩) (.inl rfl) (Nat.le_of_ble_eq_true rfl) (sqi 0) (fun us w hl h => ⟨ld_nrawS hl h, rfl⟩)
        · exact q_move hp (free_of rfl) trivial (sq_out (s := 8) rfl rfl (fun _ _ => rfl))
        · exact q_one (F := fun v _ => v = .int .i64 (i : Int)) hp (free_of rfl) trivial (sqi 2) (fun ρ w hc h => ⟨.int .i64 (q : Int), by simp [execOp, go_sem, h, hc, WQ.out, WQ2.out, WQ3.out], rfl⟩)
        · exact q_two (F := fun v _ => v = .slice (some ⟨ad, off, none⟩) j1 cc1) (G := fun v _ => v = .int .i64 (q : Int)) hp (free_of rfl) trivial (sqi 1) (sqi 3) (fun ρ w hc h h' => ⟨.pointer (some ⟨ad, off + q, none⟩), by simp [execOp, go_sem, h, h', hc, HQI.out], rfl⟩)
        · exact q_loadWord (bx := b2) (x0 := x0) hp (free_of rfl) trivial (List.mem_iff_getElem?.2 ⟨3, rfl⟩) (.inl rfl) (sqi 4) (fun us w hl h => nat_word HQK.out HX0.out h) (fun _ => rfl)
        · exact q_move hp (free_of rfl) trivial (sq_out (s := 8) rfl rfl (fun _ _ => rfl))
        · exact q_one (F := fun v _ => v = .int .i64 (i : Int)) hp (free_of rfl) trivial (sqi 6) (fun ρ w hc h => ⟨.int .i64 (r : Int), by simp [execOp, go_sem, h, hc, WR.out, WR2.out, WR3.out], rfl⟩)
        · exact q_one (F := fun v _ => v = .int .i64 (r : Int)) hp (free_of rfl) trivial (sqi 7) (fun ρ w hc h => ⟨.int .u64 (r : Int), by simp [execOp, go_sem, h, WC.out], rfl⟩)
        · exact q_two (F := fun v _ => v = .int .u32 x0) (G := fun v _ => v = .int .u64 (r : Int)) hp (free_of rfl) trivial (sqi 5) (sqi 8) (fun ρ w hc h h' => ⟨.int .u32 y, by simp [execOp, go_sem, h, h', WS.out, WM.out], rfl⟩)
        · exact q_one (F := fun v _ => v = .int .u32 y) hp (free_of rfl) trivial (sqi 9) (fun ρ w hc h => ⟨.int .u32 0, by simp [execOp, go_sem, h, hc, TB.out], rfl⟩)
        · exact q_one (F := fun v _ => v = .int .u32 0) hp (free_of rfl) trivial (sqi 10) (fun ρ w hc h => ⟨.bool false, by simp [execOp, go_sem, h, hc], rfl⟩)
        intro L vs w21 nb hL hC hn E21
        have e0 : vs 0 = .pointer (some ⟨b2, 1, none⟩) := hC 0 (by simp)
        have e1 : vs 1 = .slice (some ⟨ad, off, none⟩) j1 cc1 := hC 1 (by simp)
        have e2 : vs 2 = .int .i64 (i : Int) := hC 2 (by simp)
        have e3 : vs 3 = .int .i64 (q : Int) := hC 3 (by simp)
        have e4 : vs 4 = .pointer (some ⟨ad, off + q, none⟩) := hC 4 (by simp)
        have e5 : vs 5 = .int .u32 x0 := hC 5 (by simp)
        have e6 : vs 6 = .int .i64 (i : Int) := hC 6 (by simp)
        have e7 : vs 7 = .int .i64 (r : Int) := hC 7 (by simp)
        have e8 : vs 8 = .int .u64 (r : Int) := hC 8 (by simp)
        have e9 : vs 9 = .int .u32 y := hC 9 (by simp)
        have e10 : vs 10 = .int .u32 0 := hC 10 (by simp)
        have e11 : vs 11 = .bool false := hC 11 (by simp)
        have E : Fr w [(b7_3, 2, Fq.num ((z * z) % m)), (b4, 2, Fq.num 0), (b3, 2, Fq.num m), (b2, 2, Fq.nraw m1 (some ⟨ad, off, none⟩) j1 cc1 ys n), (b1, 2, Fq.num a1)] w21 := E21
        rw [lay_all hL]
        simp only [putAll, dstOf, List.length_cons, List.length_nil, Nat.zero_add, Nat.reduceAdd, List.getElem?_toArray, List.getElem?_cons_zero, List.getElem?_cons_succ, Option.bind_some, Act.put, List.setIfInBounds_toArray, List.set_cons_succ, List.set_cons_zero]
        rw [e0, e1, e2, e3, e4, e5, e6, e7, e8, e9, e10, e11]
        clear e0 e1 e2 e3 e4 e5 e6 e7 e8 e9 e10 e11 hC hn E21 hL vs L nb
        clear WQ WQ2 WQ3 WR WR2 WR3 WC WS WM TB HX0 HQK HQI HR
        go_wp2
        go_roundw
        case rel => exact ⟨i, by have := HJ.out; omega, by first | go_num | (rw [hw]; go_num), by rw [← EZ.out]; exact E⟩
        case measure => first | exact measP | (rw [hw]; exact measP)

end Go.Proofs.YtnhapjifddhdiaaDoor

namespace Go.Proofs.YtnhapjifddhdiaaDoor
open Go Go.RowKit

def pwv (N b e : Nat) : Int := ((b ^ e % N : Nat) : Int)
theorem pwv_power {N b d : Nat} {z bi : Int} (hz : z = (N : Int)) (hb : bi = (b : Int)) : ((bi % z) % z) ^ ((d : Int).natAbs) % z = pwv N b d := by
  rw [hz, hb, Int.natAbs_natCast]
  unfold pwv
  rw [← Int.natCast_emod, ← Int.natCast_emod, ← Int.natCast_pow, ← Int.natCast_emod, Nat.mod_mod, ← Nat.pow_mod]
theorem pwv_sq {N b e : Nat} {z : Int} (hz : z = (N : Int)) : (pwv N b e * pwv N b e) % z = pwv N b (2 * e) := by
  rw [hz]
  unfold pwv
  rw [← Int.natCast_mul, ← Int.natCast_emod, ← Nat.mul_mod, ← Nat.pow_add, Nat.two_mul]
theorem pwv_lt {N b e K : Nat} {z : Int} (hz : z = (N : Int)) (h0 : 0 < N) (h : ab z < pw K) : ab (pwv N b e) < pw K := by
  have h1 := Nat.mod_lt (b ^ e) h0
  unfold pwv
  unfold ab at h ⊢
  rw [hz] at h
  omega
theorem pwv_one {N b e : Nat} : pwv N b e = 1 ↔ b ^ e % N = 1 := by unfold pwv; omega
theorem pwv_top {N b e : Nat} {z : Int} (hz : z = (N : Int)) (h0 : 0 < N) : pwv N b e = z - 1 ↔ b ^ e % N = N - 1 := by unfold pwv; rw [hz]; omega
theorem twos_lt {N s D : Nat} {z : Int} (hz : z = (N : Int)) (h1 : 2 < N) (h : ab z < pw 3) (h2 : N - 1 = 2 ^ s * D) : 0 < D ∧ s < 96 := by
  have hp : pw 3 = 79228162514264337593543950336 := by decide
  have hD : 0 < D := by
    rcases Nat.eq_zero_or_pos D with h0 | h0
    · rw [h0, Nat.mul_zero] at h2; omega
    · exact h0
  refine ⟨hD, ?_⟩
  rcases Nat.lt_or_ge s 96 with h3 | h3
  · exact h3
  · exfalso
    have h4 : 2 ^ 96 ≤ 2 ^ s := Nat.pow_le_pow_right (by omega) h3
    have h5 : 2 ^ s * 1 ≤ 2 ^ s * D := Nat.mul_le_mul_left _ hD
    have h6 : (2 : Nat) ^ 96 = 79228162514264337593543950336 := by decide
    unfold ab at h
    rw [hp, hz] at h
    omega
theorem exRLowN {w : World} {v : Value} {z : Int} {N : Nat} (h : Num w v z) (hz : z = (N : Int)) (hN : N < 18446744073709551616) : Calls Tryd.prog 22 #[v] w fun e w' => ∃ v', e = .returned v' ∧ Below w.heap.size w w' ∧ (Fq.tup2 (Fq.is (.int .u64 (N : Int))) (Fq.is (.bool true))).P v' w' := by
  subst hz
  obtain ⟨ao, n, c, xs, rfl, hs, hn, hv, _⟩ := num_small h hN
  rw [hv]
  refine (rlow_any w ao n c xs hs hn).mono ?_
  rintro e w' ⟨rfl, hb⟩
  exact ⟨_, rfl, hb, _, _, rfl, rfl, rfl⟩
theorem exRLowB {w : World} {v : Value} {z : Int} {N : Nat} (h : Num w v z) (hz : z = (N : Int)) (hN : 18446744073709551616 ≤ N) : Calls Tryd.prog 22 #[v] w fun e w' => ∃ v', e = .returned v' ∧ Below w.heap.size w w' ∧ (Fq.tup2 (Fq.is (.int .u64 0)) (Fq.is (.bool false))).P v' w' := by
  obtain ⟨ao, n, c, rfl, hn⟩ := num_big h (by omega)
  refine (rlow_big w ao n c hn).mono ?_
  rintro e w' ⟨rfl, hb⟩
  exact ⟨_, rfl, hb, _, _, rfl, rfl, rfl⟩
theorem exRstrong {w : World} {N b : Nat} {bi : Int} (hb : bi = (b : Int)) (h1 : N % 2 = 1) (h2 : 2 < N) (h3 : N < 18446744073709551616) {S : Bool} (hS : strongB N b = S) : Calls Tryd.prog 32 #[.int .u64 (N : Int), .int .u64 bi] w fun e w' => ∃ v', e = .returned v' ∧ Below w.heap.size w w' ∧ v' = .bool S := by
  subst hb
  refine (rstrong_any N b w h1 h2 h3).mono ?_
  rintro e w' ⟨rfl, hw⟩
  refine ⟨_, rfl, ?_, by rw [hS]⟩
  first | exact hw | (rw [hw]; exact Below.refl _ _)
set_option maxRecDepth 100000 in
set_option maxHeartbeats 4000000 in
theorem exR4StrongE {w : World} {v : Value} {z bi : Int} (h : Num w v z) (ha : ab z < pw 3) (hz : ¬ z > 2) :
    Calls Tryd.prog 9 #[v, .int .i64 bi] w fun e w' => ∃ v', e = .returned v' ∧ Below w.heap.size w w' ∧ v' = .tuple #[.bool false, .int .i64 1] := by
  replace ha := hidd ha
  obtain ⟨n0, ao0, k0, c0, rfl⟩ := h.parts
  obtain ⟨w1, b1, hw1, hb1, hs1, E⟩ := fr_start w (F := Fq.num z) (us := [.bool n0, .slice ao0 k0 c0]) 27 rfl (by simp) (tame_int _ _ _ _) h
  go_enter Tryd.func9, Tryd.ntmps9
  go_upto_region 1 with (fail)
  rw [← hw1]
  rw [← hb1]
  clear hw1 hb1 hs1
  have HA9 : Hid (ab z < pw 900) := Int.lt_of_lt_of_le ha.out (pw_le (by omega))
  have HZ := hidd hz
  clear hz
  refine region_fr (C := [Fq.num z, Fq.is (.bool false), Fq.is (.bool true), Fq.is (.bool true), Fq.is (undef), Fq.is (undef), Fq.is (.bool true)]) (ks := [none]) (new := []) E rfl (by kernel_rfl) rfl rfl (fun hp => ⟨?_, ?_, ?_, ?_, ?_, ?_, ?_, trivial⟩) ?_
  · exact q_loadInt (off := 0) hp (free_of rfl) trivial (List.mem_iff_getElem?.2 ⟨0, rfl⟩) (.inl rfl) (Nat.le_of_ble_eq_true rfl) (sq_out (s := 2) rfl rfl (fun _ _ => rfl)) (fun us w hl h => ld_num hl h)
  · exact q_call2 (F := (Fq.num z).P) (G := (Fq.is (.int .i64 2)).P) hp (free_of rfl) trivial (enq_f_algorist_algoristref04_odd) (sqi 0) (sq_const (fun _ => rfl)) (fun v v' w h h' => (by subst h'; exact exROddE h HA9.out (by omega) HZ.out))
  · exact q_one (F := fun v _ => v = .bool false) hp (free_of rfl) trivial (sqi 1) (fun ρ w _ h => ⟨.bool true, by simp [execOp, go_sem, h], rfl⟩)
  · exact q_move hp (free_of rfl) trivial (sqi 2)
  · exact q_skip hp (free_of rfl) rfl (gq_some rfl rfl (by simp) rfl (fun v w h => h)) (fun _ => rfl)
  · exact q_skip hp (free_of rfl) rfl (gq_some rfl rfl (by simp) rfl (fun v w h => h)) (fun _ => rfl)
  · exact q_two (F := fun v _ => v = .bool true) (G := fun v _ => v = .bool true) hp (free_of rfl) trivial (sqi 3) (sq_const (fun _ => rfl)) (fun ρ w hc h h' => ⟨_, by simp [execOp, go_sem, h, h'], rfl⟩)
  intro L vs w2 nb hL hC hn E2
  have e1 : vs 1 = .bool false := hC 1 (by simp)
  have e2 : vs 2 = .bool true := hC 2 (by simp)
  have e3 : vs 3 = .bool true := hC 3 (by simp)
  have e4 : vs 4 = undef := hC 4 (by simp)
  have e5 : vs 5 = undef := hC 5 (by simp)
  have e6 : vs 6 = .bool true := hC 6 (by simp)
  have E : Fr w [(b1, 2, Fq.num z)] w2 := E2
  rw [lay_all hL]
  simp only [putAll, dstOf, List.length_cons, List.length_nil, Nat.zero_add, Nat.reduceAdd, List.getElem?_toArray, List.getElem?_cons_zero, List.getElem?_cons_succ, Option.bind_some, Act.put, List.setIfInBounds_toArray, List.set_cons_succ, List.set_cons_zero]
  rw [e1, e2, e3, e4, e5, e6]
  generalize vs 0 = u2_0
  clear e1 e2 e3 e4 e5 e6 hC hn E2 hL vs L nb
  clear HZ
  go_upto_region 2 with (fail)
  refine region_fr (C := [Fq.is (.bool false), Fq.is (.int .i64 1)]) (ks := [none]) (new := []) E rfl (by kernel_rfl) rfl rfl (fun hp => ⟨?_, ?_, trivial⟩) ?_
  · exact q_assign hp (free_of rfl) trivial (sq_const (fun _ => rfl))
  · exact q_assign hp (free_of rfl) trivial (sq_const (fun _ => rfl))
  intro L vs w3 nb hL hC hn E3
  have e0 : vs 0 = .bool false := hC 0 (by simp)
  have e1 : vs 1 = .int .i64 1 := hC 1 (by simp)
  have E : Fr w [(b1, 2, Fq.num z)] w3 := E3
  rw [lay_all hL]
  simp only [putAll, dstOf, List.length_cons, List.length_nil, Nat.zero_add, Nat.reduceAdd, List.getElem?_toArray, List.getElem?_cons_zero, List.getElem?_cons_succ, Option.bind_some, Act.put, List.setIfInBounds_toArray, List.set_cons_succ, List.set_cons_zero]
  rw [e0, e1]
  clear e0 e1 hC hn E3 hL vs L nb
  clear ha HA9
  go_wp2
  refine bodyPost_ret (v := .tuple #[.bool false, .int .i64 1]) ?_ rfl ⟨_, rfl, E.below, rfl⟩
  simp [results, Tryd.results9, go_sem]

set_option maxRecDepth 100000 in
set_option maxHeartbeats 4000000 in
theorem exR4StrongV {w : World} {v : Value} {z bi : Int} (h : Num w v z) (ha : ab z < pw 3) (hz : z > 2) (ho : z % 2 = 0) :
    Calls Tryd.prog 9 #[v, .int .i64 bi] w fun e w' => ∃ v', e = .returned v' ∧ Below w.heap.size w w' ∧ v' = .tuple #[.bool false, .int .i64 1] := by
  replace ha := hidd ha
  obtain ⟨n0, ao0, k0, c0, rfl⟩ := h.parts
  obtain ⟨w1, b1, hw1, hb1, hs1, E⟩ := fr_start w (F := Fq.num z) (us := [.bool n0, .slice ao0 k0 c0]) 27 rfl (by simp) (tame_int _ _ _ _) h
  go_enter Tryd.func9, Tryd.ntmps9
  go_upto_region 1 with (fail)
  rw [← hw1]
  rw [← hb1]
  clear hw1 hb1 hs1
  have HA9 : Hid (ab z < pw 900) := Int.lt_of_lt_of_le ha.out (pw_le (by omega))
  have HZ := hidd hz
  have HO := hidd ho
  clear hz ho
  refine region_fr (C := [Fq.num z, Fq.is (.bool false), Fq.is (.bool true), Fq.is (.bool true), Fq.is (undef), Fq.is (undef), Fq.is (.bool true)]) (ks := [none]) (new := []) E rfl (by kernel_rfl) rfl rfl (fun hp => ⟨?_, ?_, ?_, ?_, ?_, ?_, ?_, trivial⟩) ?_
  · exact q_loadInt (off := 0) hp (free_of rfl) trivial (List.mem_iff_getElem?.2 ⟨0, rfl⟩) (.inl rfl) (Nat.le_of_ble_eq_true rfl) (sq_out (s := 2) rfl rfl (fun _ _ => rfl)) (fun us w hl h => ld_num hl h)
  · exact q_call2 (F := (Fq.num z).P) (G := (Fq.is (.int .i64 2)).P) hp (free_of rfl) trivial (enq_f_algorist_algoristref04_odd) (sqi 0) (sq_const (fun _ => rfl)) (fun v v' w h h' => (by subst h'; exact exROddN h HA9.out (by omega) (by omega) HZ.out HO.out))
  · exact q_one (F := fun v _ => v = .bool false) hp (free_of rfl) trivial (sqi 1) (fun ρ w _ h => ⟨.bool true, by simp [execOp, go_sem, h], rfl⟩)
  · exact q_move hp (free_of rfl) trivial (sqi 2)
  · exact q_skip hp (free_of rfl) rfl (gq_some rfl rfl (by simp) rfl (fun v w h => h)) (fun _ => rfl)
  · exact q_skip hp (free_of rfl) rfl (gq_some rfl rfl (by simp) rfl (fun v w h => h)) (fun _ => rfl)
  · exact q_two (F := fun v _ => v = .bool true) (G := fun v _ => v = .bool true) hp (free_of rfl) trivial (sqi 3) (sq_const (fun _ => rfl)) (fun ρ w hc h h' => ⟨_, by simp [execOp, go_sem, h, h'], rfl⟩)
  intro L vs w2 nb hL hC hn E2
  have e1 : vs 1 = .bool false := hC 1 (by simp)
  have e2 : vs 2 = .bool true := hC 2 (by simp)
  have e3 : vs 3 = .bool true := hC 3 (by simp)
  have e4 : vs 4 = undef := hC 4 (by simp)
  have e5 : vs 5 = undef := hC 5 (by simp)
  have e6 : vs 6 = .bool true := hC 6 (by simp)
  have E : Fr w [(b1, 2, Fq.num z)] w2 := E2
  rw [lay_all hL]
  simp only [putAll, dstOf, List.length_cons, List.length_nil, Nat.zero_add, Nat.reduceAdd, List.getElem?_toArray, List.getElem?_cons_zero, List.getElem?_cons_succ, Option.bind_some, Act.put, List.setIfInBounds_toArray, List.set_cons_succ, List.set_cons_zero]
  rw [e1, e2, e3, e4, e5, e6]
  generalize vs 0 = u2_0
  clear e1 e2 e3 e4 e5 e6 hC hn E2 hL vs L nb
  clear HZ HO
  go_upto_region 2 with (fail)
  refine region_fr (C := [Fq.is (.bool false), Fq.is (.int .i64 1)]) (ks := [none]) (new := []) E rfl (by kernel_rfl) rfl rfl (fun hp => ⟨?_, ?_, trivial⟩) ?_
  · exact q_assign hp (free_of rfl) trivial (sq_const (fun _ => rfl))
  · exact q_assign hp (free_of rfl) trivial (sq_const (fun _ => rfl))
  intro L vs w3 nb hL hC hn E3
  have e0 : vs 0 = .bool false := hC 0 (by simp)
  have e1 : vs 1 = .int .i64 1 := hC 1 (by simp)
  have E : Fr w [(b1, 2, Fq.num z)] w3 := E3
  rw [lay_all hL]
  simp only [putAll, dstOf, List.length_cons, List.length_nil, Nat.zero_add, Nat.reduceAdd, List.getElem?_toArray, List.getElem?_cons_zero, List.getElem?_cons_succ, Option.bind_some, Act.put, List.setIfInBounds_toArray, List.set_cons_succ, List.set_cons_zero]
  rw [e0, e1]
  clear e0 e1 hC hn E3 hL vs L nb
  clear ha HA9
  go_wp2
  refine bodyPost_ret (v := .tuple #[.bool false, .int .i64 1]) ?_ rfl ⟨_, rfl, E.below, rfl⟩
  simp [results, Tryd.results9, go_sem]

set_option maxRecDepth 100000 in
set_option maxHeartbeats 4000000 in
theorem exR4StrongB {w : World} {v : Value} {z bi : Int} (h : Num w v z) (ha : ab z < pw 3) (hz : z > 2) (ho : z % 2 = 1) (hb : bi < 1) :
    Calls Tryd.prog 9 #[v, .int .i64 bi] w fun e w' => ∃ v', e = .returned v' ∧ Below w.heap.size w w' ∧ v' = .tuple #[.bool false, .int .i64 1] := by
  replace ha := hidd ha
  obtain ⟨n0, ao0, k0, c0, rfl⟩ := h.parts
  obtain ⟨w1, b1, hw1, hb1, hs1, E⟩ := fr_start w (F := Fq.num z) (us := [.bool n0, .slice ao0 k0 c0]) 27 rfl (by simp) (tame_int _ _ _ _) h
  go_enter Tryd.func9, Tryd.ntmps9
  go_upto_region 1 with (fail)
  rw [← hw1]
  rw [← hb1]
  clear hw1 hb1 hs1
  have HA9 : Hid (ab z < pw 900) := Int.lt_of_lt_of_le ha.out (pw_le (by omega))
  have HZ := hidd hz
  have HO := hidd ho
  have HBI := hidd hb
  clear hz ho hb
  refine region_fr (C := [Fq.num z, Fq.is (.bool true), Fq.is (.bool false), Fq.is (.bool false), Fq.is (.int .i64 bi), Fq.is (.bool true), Fq.is (.bool true)]) (ks := [none]) (new := []) E rfl (by kernel_rfl) rfl rfl (fun hp => ⟨?_, ?_, ?_, ?_, ?_, ?_, ?_, trivial⟩) ?_
  · exact q_loadInt (off := 0) hp (free_of rfl) trivial (List.mem_iff_getElem?.2 ⟨0, rfl⟩) (.inl rfl) (Nat.le_of_ble_eq_true rfl) (sq_out (s := 2) rfl rfl (fun _ _ => rfl)) (fun us w hl h => ld_num hl h)
  · exact q_call2 (F := (Fq.num z).P) (G := (Fq.is (.int .i64 2)).P) hp (free_of rfl) trivial (enq_f_algorist_algoristref04_odd) (sqi 0) (sq_const (fun _ => rfl)) (fun v v' w h h' => (by subst h'; exact exROddT h HA9.out (by omega) (by omega) HZ.out HO.out))
  · exact q_one (F := fun v _ => v = .bool true) hp (free_of rfl) trivial (sqi 1) (fun ρ w _ h => ⟨.bool false, by simp [execOp, go_sem, h], rfl⟩)
  · exact q_move hp (free_of rfl) trivial (sqi 2)
  · exact q_move hp (free_of rfl) (gq_some rfl rfl (by simp) rfl (fun v w h => h)) (sq_out (s := 1) rfl rfl (fun _ _ => rfl))
  · exact q_one (F := fun v _ => v = .int .i64 bi) hp (free_of rfl) (gq_some rfl rfl (by simp) rfl (fun v w h => h)) (sqi 4) (fun ρ w hc h => ⟨.bool true, by simp [execOp, go_sem, h, hc, HBI.out], rfl⟩)
  · exact q_two (F := fun v _ => v = .bool false) (G := fun v _ => v = .bool true) hp (free_of rfl) trivial (sqi 3) (sqi 5) (fun ρ w hc h h' => ⟨_, by simp [execOp, go_sem, h, h'], rfl⟩)
  intro L vs w2 nb hL hC hn E2
  have e1 : vs 1 = .bool true := hC 1 (by simp)
  have e2 : vs 2 = .bool false := hC 2 (by simp)
  have e3 : vs 3 = .bool false := hC 3 (by simp)
  have e4 : vs 4 = .int .i64 bi := hC 4 (by simp)
  have e5 : vs 5 = .bool true := hC 5 (by simp)
  have e6 : vs 6 = .bool true := hC 6 (by simp)
  have E : Fr w [(b1, 2, Fq.num z)] w2 := E2
  rw [lay_all hL]
  simp only [putAll, dstOf, List.length_cons, List.length_nil, Nat.zero_add, Nat.reduceAdd, List.getElem?_toArray, List.getElem?_cons_zero, List.getElem?_cons_succ, Option.bind_some, Act.put, List.setIfInBounds_toArray, List.set_cons_succ, List.set_cons_zero]
  rw [e1, e2, e3, e4, e5, e6]
  generalize vs 0 = u2_0
  clear e1 e2 e3 e4 e5 e6 hC hn E2 hL vs L nb
  clear HZ HO HBI
  go_upto_region 2 with (fail)
  refine region_fr (C := [Fq.is (.bool false), Fq.is (.int .i64 1)]) (ks := [none]) (new := []) E rfl (by kernel_rfl) rfl rfl (fun hp => ⟨?_, ?_, trivial⟩) ?_
  · exact q_assign hp (free_of rfl) trivial (sq_const (fun _ => rfl))
  · exact q_assign hp (free_of rfl) trivial (sq_const (fun _ => rfl))
  intro L vs w3 nb hL hC hn E3
  have e0 : vs 0 = .bool false := hC 0 (by simp)
  have e1 : vs 1 = .int .i64 1 := hC 1 (by simp)
  have E : Fr w [(b1, 2, Fq.num z)] w3 := E3
  rw [lay_all hL]
  simp only [putAll, dstOf, List.length_cons, List.length_nil, Nat.zero_add, Nat.reduceAdd, List.getElem?_toArray, List.getElem?_cons_zero, List.getElem?_cons_succ, Option.bind_some, Act.put, List.setIfInBounds_toArray, List.set_cons_succ, List.set_cons_zero]
  rw [e0, e1]
  clear e0 e1 hC hn E3 hL vs L nb
  clear ha HA9
  go_wp2
  refine bodyPost_ret (v := .tuple #[.bool false, .int .i64 1]) ?_ rfl ⟨_, rfl, E.below, rfl⟩
  simp [results, Tryd.results9, go_sem]

set_option maxRecDepth 100000 in
set_option maxHeartbeats 4000000 in
theorem exR4StrongN {w : World} {v : Value} {z bi : Int} {N b : Nat} {S : Bool} (h : Num w v z) (ha : ab z < pw 3) (hz : z > 2) (ho : z % 2 = 1) (hzN : z = (N : Int)) (hbi : bi = (b : Int)) (hb : 1 ≤ b ∧ b ≤ 9223372036854775807) (h3 : N < 18446744073709551616) (hS : strongB N b = S) :
    Calls Tryd.prog 9 #[v, .int .i64 bi] w fun e w' => ∃ v', e = .returned v' ∧ Below w.heap.size w w' ∧ v' = .tuple #[.bool S, .int .i64 0] := by
  replace ha := hidd ha
  obtain ⟨n0, ao0, k0, c0, rfl⟩ := h.parts
  obtain ⟨w1, b1, hw1, hb1, hs1, E⟩ := fr_start w (F := Fq.num z) (us := [.bool n0, .slice ao0 k0 c0]) 27 rfl (by simp) (tame_int _ _ _ _) h
  go_enter Tryd.func9, Tryd.ntmps9
  go_upto_region 1 with (fail)
  rw [← hw1]
  rw [← hb1]
  clear hw1 hb1 hs1
  have HA9 : Hid (ab z < pw 900) := Int.lt_of_lt_of_le ha.out (pw_le (by omega))
  have HZ := hidd hz
  have HO := hidd ho
  have HZN := hidd hzN
  have HBI := hidd hbi
  have HB1 := hidd hb
  have HBL : Hid (¬ bi < 1) := by show ¬ _; omega
  have HN : Hid (N % 2 = 1 ∧ 2 < N) := by show _ ∧ _; omega
  clear hz ho hzN hbi hb
  refine region_fr (C := [Fq.num z, Fq.is (.bool true), Fq.is (.bool false), Fq.is (.bool false), Fq.is (.int .i64 bi), Fq.is (.bool false), Fq.is (.bool false)]) (ks := [none]) (new := []) E rfl (by kernel_rfl) rfl rfl (fun hp => ⟨?_, ?_, ?_, ?_, ?_, ?_, ?_, trivial⟩) ?_
  · exact q_loadInt (off := 0) hp (free_of rfl) trivial (List.mem_iff_getElem?.2 ⟨0, rfl⟩) (.inl rfl) (Nat.le_of_ble_eq_true rfl) (sq_out (s := 2) rfl rfl (fun _ _ => rfl)) (fun us w hl h => ld_num hl h)
  · exact q_call2 (F := (Fq.num z).P) (G := (Fq.is (.int .i64 2)).P) hp (free_of rfl) trivial (enq_f_algorist_algoristref04_odd) (sqi 0) (sq_const (fun _ => rfl)) (fun v v' w h h' => (by subst h'; exact exROddT h HA9.out (by omega) (by omega) HZ.out HO.out))
  · exact q_one (F := fun v _ => v = .bool true) hp (free_of rfl) trivial (sqi 1) (fun ρ w _ h => ⟨.bool false, by simp [execOp, go_sem, h], rfl⟩)
  · exact q_move hp (free_of rfl) trivial (sqi 2)
  · exact q_move hp (free_of rfl) (gq_some rfl rfl (by simp) rfl (fun v w h => h)) (sq_out (s := 1) rfl rfl (fun _ _ => rfl))
  · exact q_one (F := fun v _ => v = .int .i64 bi) hp (free_of rfl) (gq_some rfl rfl (by simp) rfl (fun v w h => h)) (sqi 4) (fun ρ w hc h => ⟨.bool false, by simp [execOp, go_sem, h, hc, HBL.out], rfl⟩)
  · exact q_two (F := fun v _ => v = .bool false) (G := fun v _ => v = .bool false) hp (free_of rfl) trivial (sqi 3) (sqi 5) (fun ρ w hc h h' => ⟨_, by simp [execOp, go_sem, h, h'], rfl⟩)
  intro L vs w2 nb hL hC hn E2
  have e1 : vs 1 = .bool true := hC 1 (by simp)
  have e2 : vs 2 = .bool false := hC 2 (by simp)
  have e3 : vs 3 = .bool false := hC 3 (by simp)
  have e4 : vs 4 = .int .i64 bi := hC 4 (by simp)
  have e5 : vs 5 = .bool false := hC 5 (by simp)
  have e6 : vs 6 = .bool false := hC 6 (by simp)
  have E : Fr w [(b1, 2, Fq.num z)] w2 := E2
  rw [lay_all hL]
  simp only [putAll, dstOf, List.length_cons, List.length_nil, Nat.zero_add, Nat.reduceAdd, List.getElem?_toArray, List.getElem?_cons_zero, List.getElem?_cons_succ, Option.bind_some, Act.put, List.setIfInBounds_toArray, List.set_cons_succ, List.set_cons_zero]
  rw [e1, e2, e3, e4, e5, e6]
  generalize vs 0 = u2_0
  clear e1 e2 e3 e4 e5 e6 hC hn E2 hL vs L nb
  have HN3 := hidd h3
  have HS := hidd hS
  have WB : Hid (IntKind.u64.wrap bi = bi) := by show _ = _; rw [u64_wrap]; have := HBI.out; have := HB1.out; omega
  clear h3 hS
  go_upto_region 3 with (fail)
  refine region_fr (C := [Fq.num z, Fq.tup2 (Fq.is (.int .u64 (N : Int))) (Fq.is (.bool true)), Fq.tup2 (Fq.is (.int .u64 (N : Int))) (Fq.is (.bool true)), Fq.is (.int .u64 (N : Int)), Fq.is (.bool true), Fq.is (.int .u64 (N : Int)), Fq.is (.bool true)]) (ks := [none]) (new := []) E rfl (by kernel_rfl) rfl rfl (fun hp => ⟨?_, ?_, ?_, ?_, ?_, ?_, ?_, trivial⟩) ?_
  · exact q_loadInt (off := 0) hp (free_of rfl) trivial (List.mem_iff_getElem?.2 ⟨0, rfl⟩) (.inl rfl) (Nat.le_of_ble_eq_true rfl) (sq_out (s := 2) rfl rfl (fun _ _ => rfl)) (fun us w hl h => ld_num hl h)
  · exact q_call1 (F := (Fq.num z).P) hp (free_of rfl) trivial (enq_f_algorist_algoristref04_low) (sqi 0) (fun v w h => exRLowN h HZN.out HN3.out)
  · exact q_move hp (free_of rfl) trivial (sqi 1)
  · exact q_extract2 hp (free_of rfl) trivial (sqi 2) (fun v1 v2 w h1 h2 => ⟨_, rfl, h1⟩)
  · exact q_extract2 hp (free_of rfl) trivial (sqi 2) (fun v1 v2 w h1 h2 => ⟨_, rfl, h2⟩)
  · exact q_assign hp (free_of rfl) trivial (sqi 3)
  · exact q_assign hp (free_of rfl) trivial (sqi 4)
  intro L vs w3 nb hL hC hn E3
  have e3 : vs 3 = .int .u64 (N : Int) := hC 3 (by simp)
  have e4 : vs 4 = .bool true := hC 4 (by simp)
  have e5 : vs 5 = .int .u64 (N : Int) := hC 5 (by simp)
  have e6 : vs 6 = .bool true := hC 6 (by simp)
  have E : Fr w [(b1, 2, Fq.num z)] w3 := E3
  rw [lay_all hL]
  simp only [putAll, dstOf, List.length_cons, List.length_nil, Nat.zero_add, Nat.reduceAdd, List.getElem?_toArray, List.getElem?_cons_zero, List.getElem?_cons_succ, Option.bind_some, Act.put, List.setIfInBounds_toArray, List.set_cons_succ, List.set_cons_zero]
  rw [e3, e4, e5, e6]
  generalize vs 0 = u3_0
  generalize vs 1 = u3_1
  generalize vs 2 = u3_2
  clear e3 e4 e5 e6 hC hn E3 hL vs L nb
  go_upto_region 4 with (fail)
  refine region_fr (C := [Fq.is (.bool true)]) (ks := [none]) (new := []) E rfl (by kernel_rfl) rfl rfl (fun hp => ⟨?_, trivial⟩) ?_
  · exact q_move hp (free_of rfl) trivial (sq_out (s := 7) rfl rfl (fun _ _ => rfl))
  intro L vs w4 nb hL hC hn E4
  have e0 : vs 0 = .bool true := hC 0 (by simp)
  have E : Fr w [(b1, 2, Fq.num z)] w4 := E4
  rw [lay_all hL]
  simp only [putAll, dstOf, List.length_cons, List.length_nil, Nat.zero_add, List.getElem?_toArray, List.getElem?_cons_zero, Option.bind_some, Act.put, List.setIfInBounds_toArray, List.set_cons_succ, List.set_cons_zero]
  rw [e0]
  clear e0 hC hn E4 hL vs L nb
  go_upto_region 5 with (fail)
  refine region_fr (C := [Fq.is (.int .u64 (N : Int)), Fq.is (.int .i64 bi), Fq.is (.int .u64 bi), Fq.is (.bool S), Fq.is (.bool S), Fq.is (.int .i64 0)]) (ks := [none]) (new := []) E rfl (by kernel_rfl) rfl rfl (fun hp => ⟨?_, ?_, ?_, ?_, ?_, ?_, trivial⟩) ?_
  · exact q_move hp (free_of rfl) trivial (sq_out (s := 6) rfl rfl (fun _ _ => rfl))
  · exact q_move hp (free_of rfl) trivial (sq_out (s := 1) rfl rfl (fun _ _ => rfl))
  · exact q_one (F := fun v _ => v = .int .i64 bi) hp (free_of rfl) trivial (sqi 1) (fun ρ w hc h => ⟨.int .u64 bi, by simp [execOp, go_sem, h, WB.out], rfl⟩)
  · exact q_call2 (F := (Fq.is (.int .u64 (N : Int))).P) (G := (Fq.is (.int .u64 bi)).P) hp (free_of rfl) trivial (enq_f_algorist_algoristref04_strong) (sqi 0) (sqi 2) (fun v v' w h h' => (by subst h; subst h'; exact exRstrong HBI.out HN.out.1 HN.out.2 HN3.out HS.out))
  · exact q_assign hp (free_of rfl) trivial (sqi 3)
  · exact q_assign hp (free_of rfl) trivial (sq_const (fun _ => rfl))
  intro L vs w5 nb hL hC hn E5
  have e0 : vs 0 = .int .u64 (N : Int) := hC 0 (by simp)
  have e1 : vs 1 = .int .i64 bi := hC 1 (by simp)
  have e2 : vs 2 = .int .u64 bi := hC 2 (by simp)
  have e3 : vs 3 = .bool S := hC 3 (by simp)
  have e4 : vs 4 = .bool S := hC 4 (by simp)
  have e5 : vs 5 = .int .i64 0 := hC 5 (by simp)
  have E : Fr w [(b1, 2, Fq.num z)] w5 := E5
  rw [lay_all hL]
  simp only [putAll, dstOf, List.length_cons, List.length_nil, Nat.zero_add, Nat.reduceAdd, List.getElem?_toArray, List.getElem?_cons_zero, List.getElem?_cons_succ, Option.bind_some, Act.put, List.setIfInBounds_toArray, List.set_cons_succ, List.set_cons_zero]
  rw [e0, e1, e2, e3, e4, e5]
  clear e0 e1 e2 e3 e4 e5 hC hn E5 hL vs L nb
  clear HZ HO HZN HBI HB1 HBL HN HN3 HS WB
  clear ha HA9
  go_wp2
  refine bodyPost_ret (v := .tuple #[.bool S, .int .i64 0]) ?_ rfl ⟨_, rfl, E.below, rfl⟩
  simp [results, Tryd.results9, go_sem]

end Go.Proofs.YtnhapjifddhdiaaDoor

namespace Go.Proofs.YtnhapjifddhdiaaDoor
open Go Go.RowKit

theorem odd_split (m : Nat) (h : 0 < m) : ∃ q r, m = 2 ^ q * r ∧ r % 2 = 1 := by
  induction m using Nat.strongRecOn with
  | ind m ih =>
    by_cases h1 : m % 2 = 1
    · exact ⟨0, m, by rw [Nat.pow_zero, Nat.one_mul], h1⟩
    · obtain ⟨q, r, h2, h3⟩ := ih (m / 2) (by omega) (by omega)
      exact ⟨q + 1, r, by rw [Nat.pow_succ, Nat.mul_comm (2 ^ q) 2, Nat.mul_assoc, ← h2]; omega, h3⟩
theorem exRSubK {w : World} {v v' : Value} {x y : Int} (h : Num w v x) (h' : Num w v' y) (hx : ab x < pw 100) (hy : ab y < pw 100) {k : Nat} (hz : ab (x - y) < pw k) (hk : k ≤ 900000) : Calls Tryd.prog 34 #[v, v'] w fun e w' => ∃ v', e = .returned v' ∧ Below w.heap.size w w' ∧ Num w' v' (x - y) := exK (RSubV h h' (K := 100) hx hy (by omega)) hz hk
set_option maxRecDepth 100000 in
set_option maxHeartbeats 4000000 in
theorem exR4StrongL {w : World} {v : Value} {z bi : Int} {N b : Nat} {S : Bool} (h : Num w v z) (ha : ab z < pw 3) (hz : z > 2) (ho : z % 2 = 1) (hzN : z = (N : Int)) (hbi : bi = (b : Int)) (hb : 1 ≤ b ∧ b ≤ 9223372036854775807) (h3 : 18446744073709551616 ≤ N) (hS : S = true ↔ StrongP N b) :
    Calls Tryd.prog 9 #[v, .int .i64 bi] w fun e w' => ∃ v', e = .returned v' ∧ Below w.heap.size w w' ∧ v' = .tuple #[.bool S, .int .i64 0] := by
  replace ha := hidd ha
  obtain ⟨n0, ao0, k0, c0, rfl⟩ := h.parts
  obtain ⟨w1, b1, hw1, hb1, hs1, E⟩ := fr_start w (F := Fq.num z) (us := [.bool n0, .slice ao0 k0 c0]) 27 rfl (by simp) (tame_int _ _ _ _) h
  go_enter Tryd.func9, Tryd.ntmps9
  go_upto_region 1 with (fail)
  rw [← hw1]
  rw [← hb1]
  clear hw1 hb1 hs1
  have HA9 : Hid (ab z < pw 900) := Int.lt_of_lt_of_le ha.out (pw_le (by omega))
  have HZ := hidd hz
  have HO := hidd ho
  have HZN := hidd hzN
  have HBI := hidd hbi
  have HB1 := hidd hb
  have HBL : Hid (¬ bi < 1) := by show ¬ _; omega
  have HN : Hid (N % 2 = 1 ∧ 2 < N) := by show _ ∧ _; omega
  clear hz ho hzN hbi hb
  refine region_fr (C := [Fq.num z, Fq.is (.bool true), Fq.is (.bool false), Fq.is (.bool false), Fq.is (.int .i64 bi), Fq.is (.bool false), Fq.is (.bool false)]) (ks := [none]) (new := []) E rfl (by kernel_rfl) rfl rfl (fun hp => ⟨?_, ?_, ?_, ?_, ?_, ?_, ?_, trivial⟩) ?_
  · exact q_loadInt (off := 0) hp (free_of rfl) trivial (List.mem_iff_getElem?.2 ⟨0, rfl⟩) (.inl rfl) (Nat.le_of_ble_eq_true rfl) (sq_out (s := 2) rfl rfl (fun _ _ => rfl)) (fun us w hl h => ld_num hl h)
  · exact q_call2 (F := (Fq.num z).P) (G := (Fq.is (.int .i64 2)).P) hp (free_of rfl) trivial (enq_f_algorist_algoristref04_odd) (sqi 0) (sq_const (fun _ => rfl)) (fun v v' w h h' => (by subst h'; exact exROddT h HA9.out (by omega) (by omega) HZ.out HO.out))
  · exact q_one (F := fun v _ => v = .bool true) hp (free_of rfl) trivial (sqi 1) (fun ρ w _ h => ⟨.bool false, by simp [execOp, go_sem, h], rfl⟩)
  · exact q_move hp (free_of rfl) trivial (sqi 2)
  · exact q_move hp (free_of rfl) (gq_some rfl rfl (by simp) rfl (fun v w h => h)) (sq_out (s := 1) rfl rfl (fun _ _ => rfl))
  · exact q_one (F := fun v _ => v = .int .i64 bi) hp (free_of rfl) (gq_some rfl rfl (by simp) rfl (fun v w h => h)) (sqi 4) (fun ρ w hc h => ⟨.bool false, by simp [execOp, go_sem, h, hc, HBL.out], rfl⟩)
  · exact q_two (F := fun v _ => v = .bool false) (G := fun v _ => v = .bool false) hp (free_of rfl) trivial (sqi 3) (sqi 5) (fun ρ w hc h h' => ⟨_, by simp [execOp, go_sem, h, h'], rfl⟩)
  intro L vs w2 nb hL hC hn E2
  have e1 : vs 1 = .bool true := hC 1 (by simp)
  have e2 : vs 2 = .bool false := hC 2 (by simp)
  have e3 : vs 3 = .bool false := hC 3 (by simp)
  have e4 : vs 4 = .int .i64 bi := hC 4 (by simp)
  have e5 : vs 5 = .bool false := hC 5 (by simp)
  have e6 : vs 6 = .bool false := hC 6 (by simp)
  have E : Fr w [(b1, 2, Fq.num z)] w2 := E2
  rw [lay_all hL]
  simp only [putAll, dstOf, List.length_cons, List.length_nil, Nat.zero_add, Nat.reduceAdd, List.getElem?_toArray, List.getElem?_cons_zero, List.getElem?_cons_succ, Option.bind_some, Act.put, List.setIfInBounds_toArray, List.set_cons_succ, List.set_cons_zero]
  rw [e1, e2, e3, e4, e5, e6]
  generalize vs 0 = u2_0
  clear e1 e2 e3 e4 e5 e6 hC hn E2 hL vs L nb
  have HN3 := hidd h3
  have HS : Hid (S = true ↔ StrongP N b) := hS
  have HM : Hid (z ≠ 0) := by show _ ≠ _; have := HZ.out; omega
  have HP : Hid (0 < z) := by show 0 < z; have := HZ.out; omega
  have HN0 : Hid (0 < N) := by show 0 < N; omega
  clear h3 hS
  have HBB : Hid (ab bi < pw 3) := by show ab bi < pw 3; rw [HBI.out]; have hp : pw 3 = 79228162514264337593543950336 := (by decide); rw [hp]; unfold ab; have := HB1.out; omega
  go_upto_region 3 with (fail)
  refine region_fr (C := [Fq.num z, Fq.tup2 (Fq.is (.int .u64 0)) (Fq.is (.bool false)), Fq.tup2 (Fq.is (.int .u64 0)) (Fq.is (.bool false)), Fq.is (.int .u64 0), Fq.is (.bool false), Fq.is (.int .u64 0), Fq.is (.bool false)]) (ks := [none]) (new := []) E rfl (by kernel_rfl) rfl rfl (fun hp => ⟨?_, ?_, ?_, ?_, ?_, ?_, ?_, trivial⟩) ?_
  · exact q_loadInt (off := 0) hp (free_of rfl) trivial (List.mem_iff_getElem?.2 ⟨0, rfl⟩) (.inl rfl) (Nat.le_of_ble_eq_true rfl) (sq_out (s := 2) rfl rfl (fun _ _ => rfl)) (fun us w hl h => ld_num hl h)
  · exact q_call1 (F := (Fq.num z).P) hp (free_of rfl) trivial (enq_f_algorist_algoristref04_low) (sqi 0) (fun v w h => exRLowB h HZN.out HN3.out)
  · exact q_move hp (free_of rfl) trivial (sqi 1)
  · exact q_extract2 hp (free_of rfl) trivial (sqi 2) (fun v1 v2 w h1 h2 => ⟨_, rfl, h1⟩)
  · exact q_extract2 hp (free_of rfl) trivial (sqi 2) (fun v1 v2 w h1 h2 => ⟨_, rfl, h2⟩)
  · exact q_assign hp (free_of rfl) trivial (sqi 3)
  · exact q_assign hp (free_of rfl) trivial (sqi 4)
  intro L vs w3 nb hL hC hn E3
  have e3 : vs 3 = .int .u64 0 := hC 3 (by simp)
  have e4 : vs 4 = .bool false := hC 4 (by simp)
  have e5 : vs 5 = .int .u64 0 := hC 5 (by simp)
  have e6 : vs 6 = .bool false := hC 6 (by simp)
  have E : Fr w [(b1, 2, Fq.num z)] w3 := E3
  rw [lay_all hL]
  simp only [putAll, dstOf, List.length_cons, List.length_nil, Nat.zero_add, Nat.reduceAdd, List.getElem?_toArray, List.getElem?_cons_zero, List.getElem?_cons_succ, Option.bind_some, Act.put, List.setIfInBounds_toArray, List.set_cons_succ, List.set_cons_zero]
  rw [e3, e4, e5, e6]
  generalize vs 0 = u3_0
  generalize vs 1 = u3_1
  generalize vs 2 = u3_2
  clear e3 e4 e5 e6 hC hn E3 hL vs L nb
  go_upto_region 4 with (fail)
  refine region_fr (C := [Fq.is (.bool false)]) (ks := [none]) (new := []) E rfl (by kernel_rfl) rfl rfl (fun hp => ⟨?_, trivial⟩) ?_
  · exact q_move hp (free_of rfl) trivial (sq_out (s := 7) rfl rfl (fun _ _ => rfl))
  intro L vs w4 nb hL hC hn E4
  have e0 : vs 0 = .bool false := hC 0 (by simp)
  have E : Fr w [(b1, 2, Fq.num z)] w4 := E4
  rw [lay_all hL]
  simp only [putAll, dstOf, List.length_cons, List.length_nil, Nat.zero_add, List.getElem?_toArray, List.getElem?_cons_zero, Option.bind_some, Act.put, List.setIfInBounds_toArray, List.set_cons_succ, List.set_cons_zero]
  rw [e0]
  clear e0 hC hn E4 hL vs L nb
  go_upto_region 6 with (fail)
  have B5 : Hid (ab ((bi % z)) < pw 3) := ab_modB HM.out ha.out
  refine region_fr (C := [Fq.is (.int .i64 bi), Fq.num bi, Fq.num z, Fq.num (bi % z), Fq.any, Fq.any]) (ks := [none]) (new := [⟨4, 5, 2, Fq.num 0, Fq.num (bi % z), none⟩]) E rfl (by kernel_rfl) rfl rfl (fun hp => ⟨?_, ?_, ?_, ?_, ?_, ?_, trivial⟩) ?_
  · exact q_move hp (free_of rfl) trivial (sq_out (s := 1) rfl rfl (fun _ _ => rfl))
  · exact q_call1 (F := (Fq.is (.int .i64 bi)).P) hp (free_of rfl) trivial (enq_R_Of) (sqi 0) (fun v w h => (by subst h; exact rOfK w bi (by have := HBI.out; have := HB1.out; omega) (by have := HBI.out; have := HB1.out; omega)))
  · exact q_loadInt (off := 0) hp (free_of rfl) trivial (List.mem_iff_getElem?.2 ⟨0, rfl⟩) (.inl rfl) (Nat.le_of_ble_eq_true rfl) (sq_out (s := 2) rfl rfl (fun _ _ => rfl)) (fun us w hl h => ld_num hl h)
  · exact q_call2 (F := (Fq.num bi).P) (G := (Fq.num z).P) hp (free_of rfl) trivial (enq_R_Mod) (sqi 1) (sqi 2) (fun v v' w h h' => exK (RModV h h' (Int.lt_of_lt_of_le HBB.out (pw_le (by omega))) (Int.lt_of_lt_of_le ha.out (pw_le (by omega))) HM.out) B5.out (by omega))
  · exact q_allocInt hp (List.mem_iff_getElem?.2 ⟨0, rfl⟩) rfl rfl rfl rfl (Nat.ne_of_beq_eq_false rfl) (fun _ _ => trivial) (old_ne rfl) (newk_ne rfl) (fun w => Num.zero w)
  · exact q_storeNewInt hp (List.mem_iff_getElem?.2 ⟨0, rfl⟩) rfl rfl rfl (own_ptr rfl rfl (by simp) rfl) (sq_in 3 rfl rfl (by simp) rfl (fun v w h => intV_num h)) (fun _ _ => trivial) (old_ne rfl) (newi_ne rfl)
  intro L vs w6 nb hL hC hn E6
  have e0 : vs 0 = .int .i64 bi := hC 0 (by simp)
  have e4 : vs 4 = .pointer (some ⟨nb 4, 0, none⟩) := hn _ (List.mem_iff_getElem?.2 ⟨0, rfl⟩)
  have E : Fr w [(nb 4, 2, Fq.num (bi % z)), (b1, 2, Fq.num z)] w6 := E6
  rw [lay_all hL]
  simp only [putAll, dstOf, List.length_cons, List.length_nil, Nat.zero_add, Nat.reduceAdd, List.getElem?_toArray, List.getElem?_cons_zero, List.getElem?_cons_succ, Option.bind_some, Act.put, List.setIfInBounds_toArray, List.set_cons_succ, List.set_cons_zero]
  rw [e0, e4]
  generalize nb 4 = b6_4 at E ⊢
  generalize vs 1 = u6_1
  generalize vs 2 = u6_2
  generalize vs 3 = u6_3
  clear e0 e4 hC hn E6 hL vs L nb
  obtain ⟨c, hc⟩ : ∃ c, c = bi % z := ⟨_, rfl⟩
  rw [← hc] at E
  have Bc : Hid (ab c < pw 3) := by show _ < _; rw [hc]; exact ab_modB HM.out ha.out
  have HC := hidd hc
  have hc0 : c = 0 ↔ b % N = 0 := by rw [hc, HBI.out, HZN.out, ← Int.natCast_emod]; omega
  have HC0 := hidd hc0
  clear hc hc0
  obtain ⟨m1, d1, j1, cc1, ys, hop, E⟩ := E.opened
  have hjc : j1 = 0 ↔ c = 0 := by
    obtain ⟨q1, q2, q3, _, q5⟩ := hop
    refine ⟨fun e => ?_, fun e => ?_⟩
    · have : ys = [] := List.eq_nil_of_length_eq_zero (by omega)
      subst this
      cases m1 <;> simpa [val, sgn] using q1
    · have h0 := val_nonneg q5
      have : val ys = 0 := by cases m1 <;> simp [sgn] at q1 <;> omega
      rw [← q3]
      have h9 := q2.zero.2 this
      first | exact h9 | (rw [h9]; rfl) | omega
  clear hop
  by_cases h0 : c = 0
  · have HJ := hidd (hjc.2 h0)
    have e : S = true := HS.out.2 (by obtain ⟨q, r, h1, h2⟩ := odd_split (N - 1) (by have := HN.out; omega); exact (strong_iff h1 h2).2 (.inl (HC0.out.1 h0)))
    subst e
    clear h0 hjc
    go_upto_region 7 with (fail)
    refine region_fr (C := [Fq.is (.pointer (some ⟨b6_4, 1, none⟩)), Fq.is (.slice d1 j1 cc1), Fq.is (.int .i64 ((j1 : Nat) : Int)), Fq.is (.bool true)]) (ks := [none, none]) (new := []) E rfl (by kernel_rfl) rfl rfl (fun hp => ⟨?_, ?_, ?_, ?_, trivial⟩) ?_
    · exact q_addr (b := b6_4) (off := 0) (off' := 1) hp (free_of rfl) trivial (sq_out (s := 8) rfl rfl (fun _ _ => rfl)) (fun ρ w h => by simp [execOp, go_sem, h]) (fun _ => rfl)
    · exact q_loadMagP (off := 1) (v := .slice d1 j1 cc1) hp (free_of rfl) trivial (List.mem_iff_getElem?.2 ⟨0, rfl⟩) (.inl rfl) (Nat.le_of_ble_eq_true rfl) (sqi 0) (fun us w hl h => ⟨ld_nrawS hl h, rfl⟩)
    · exact q_lenW hp (free_of rfl) trivial (sqi 1) (fun _ => rfl)
    · exact q_one (F := fun v _ => v = .int .i64 ((j1 : Nat) : Int)) hp (free_of rfl) trivial (sqi 2) (fun ρ w hc h => ⟨.bool true, by simp [execOp, go_sem, h, hc, HJ.out], rfl⟩)
    intro L vs w7 nb hL hC hn E7
    have e0 : vs 0 = .pointer (some ⟨b6_4, 1, none⟩) := hC 0 (by simp)
    have e1 : vs 1 = .slice d1 j1 cc1 := hC 1 (by simp)
    have e2 : vs 2 = .int .i64 ((j1 : Nat) : Int) := hC 2 (by simp)
    have e3 : vs 3 = .bool true := hC 3 (by simp)
    have E : Fr w [(b6_4, 2, Fq.nraw m1 d1 j1 cc1 ys c), (b1, 2, Fq.num z)] w7 := E7
    rw [lay_all hL]
    simp only [putAll, dstOf, List.length_cons, List.length_nil, Nat.zero_add, Nat.reduceAdd, List.getElem?_toArray, List.getElem?_cons_zero, List.getElem?_cons_succ, Option.bind_some, Act.put, List.setIfInBounds_toArray, List.set_cons_succ, List.set_cons_zero]
    rw [e0, e1, e2, e3]
    clear e0 e1 e2 e3 hC hn E7 hL vs L nb
    go_upto_region 8 with (fail)
    refine region_fr (C := [Fq.is (.bool true), Fq.is (.int .i64 0)]) (ks := [none, none]) (new := []) E rfl (by kernel_rfl) rfl rfl (fun hp => ⟨?_, ?_, trivial⟩) ?_
    · exact q_assign hp (free_of rfl) trivial (sq_const (fun _ => rfl))
    · exact q_assign hp (free_of rfl) trivial (sq_const (fun _ => rfl))
    intro L vs w8 nb hL hC hn E8
    have e0 : vs 0 = .bool true := hC 0 (by simp)
    have e1 : vs 1 = .int .i64 0 := hC 1 (by simp)
    have E : Fr w [(b6_4, 2, Fq.nraw m1 d1 j1 cc1 ys c), (b1, 2, Fq.num z)] w8 := E8
    rw [lay_all hL]
    simp only [putAll, dstOf, List.length_cons, List.length_nil, Nat.zero_add, Nat.reduceAdd, List.getElem?_toArray, List.getElem?_cons_zero, List.getElem?_cons_succ, Option.bind_some, Act.put, List.setIfInBounds_toArray, List.set_cons_succ, List.set_cons_zero]
    rw [e0, e1]
    clear e0 e1 hC hn E8 hL vs L nb
    clear HJ HZ HO HZN HBI HB1 HBL HN HN3 HS HM HP HN0 HBB HC HC0
    clear B5 ha HA9 Bc
    go_wp2
    refine bodyPost_ret (v := .tuple #[.bool true, .int .i64 0]) ?_ rfl ⟨_, rfl, E.below, rfl⟩
    simp [results, Tryd.results9, go_sem]
  · have HJ := hidd (show ¬ j1 = 0 from fun e => h0 (hjc.1 e))
    have HB0 : Hid (¬ b % N = 0) := fun e => h0 (HC0.out.2 e)
    clear h0 hjc
    go_upto_region 7 with (fail)
    refine region_fr (C := [Fq.is (.pointer (some ⟨b6_4, 1, none⟩)), Fq.is (.slice d1 j1 cc1), Fq.is (.int .i64 ((j1 : Nat) : Int)), Fq.is (.bool false)]) (ks := [none, none]) (new := []) E rfl (by kernel_rfl) rfl rfl (fun hp => ⟨?_, ?_, ?_, ?_, trivial⟩) ?_
    · exact q_addr (b := b6_4) (off := 0) (off' := 1) hp (free_of rfl) trivial (sq_out (s := 8) rfl rfl (fun _ _ => rfl)) (fun ρ w h => by simp [execOp, go_sem, h]) (fun _ => rfl)
    · exact q_loadMagP (off := 1) (v := .slice d1 j1 cc1) hp (free_of rfl) trivial (List.mem_iff_getElem?.2 ⟨0, rfl⟩) (.inl rfl) (Nat.le_of_ble_eq_true rfl) (sqi 0) (fun us w hl h => ⟨ld_nrawS hl h, rfl⟩)
    · exact q_lenW hp (free_of rfl) trivial (sqi 1) (fun _ => rfl)
    · exact q_one (F := fun v _ => v = .int .i64 ((j1 : Nat) : Int)) hp (free_of rfl) trivial (sqi 2) (fun ρ w hc h => ⟨.bool false, by simp [execOp, go_sem, h, hc, HJ.out], rfl⟩)
    intro L vs w9 nb hL hC hn E9
    have e0 : vs 0 = .pointer (some ⟨b6_4, 1, none⟩) := hC 0 (by simp)
    have e1 : vs 1 = .slice d1 j1 cc1 := hC 1 (by simp)
    have e2 : vs 2 = .int .i64 ((j1 : Nat) : Int) := hC 2 (by simp)
    have e3 : vs 3 = .bool false := hC 3 (by simp)
    have E : Fr w [(b6_4, 2, Fq.nraw m1 d1 j1 cc1 ys c), (b1, 2, Fq.num z)] w9 := E9
    rw [lay_all hL]
    simp only [putAll, dstOf, List.length_cons, List.length_nil, Nat.zero_add, Nat.reduceAdd, List.getElem?_toArray, List.getElem?_cons_zero, List.getElem?_cons_succ, Option.bind_some, Act.put, List.setIfInBounds_toArray, List.set_cons_succ, List.set_cons_zero]
    rw [e0, e1, e2, e3]
    clear e0 e1 e2 e3 hC hn E9 hL vs L nb
    clear HJ
    go_upto_region 9 with (fail)
    have B10 : Hid (ab ((1)) < pw 3) := ab_lit (by decide)
    refine region_fr (C := [Fq.num (1), Fq.any, Fq.any]) (ks := [none, none]) (new := [⟨1, 2, 2, Fq.num 0, Fq.num (1), none⟩]) E rfl (by kernel_rfl) rfl rfl (fun hp => ⟨?_, ?_, ?_, trivial⟩) ?_
    · exact q_call1 (F := (Fq.is (.int .i64 1)).P) hp (free_of rfl) trivial (enq_R_Of) (sq_const (fun _ => rfl)) (fun v w h => (by subst h; exact rOfK w (1) (by omega) (by omega)))
    · exact q_allocInt hp (List.mem_iff_getElem?.2 ⟨0, rfl⟩) rfl rfl rfl rfl (Nat.ne_of_beq_eq_false rfl) (fun _ _ => trivial) (old_ne rfl) (newk_ne rfl) (fun w => Num.zero w)
    · exact q_storeNewInt hp (List.mem_iff_getElem?.2 ⟨0, rfl⟩) rfl rfl rfl (own_ptr rfl rfl (by simp) rfl) (sq_in 0 rfl rfl (by simp) rfl (fun v w h => intV_num h)) (fun _ _ => trivial) (old_ne rfl) (newi_ne rfl)
    intro L vs w11 nb hL hC hn E11
    have e1 : vs 1 = .pointer (some ⟨nb 1, 0, none⟩) := hn _ (List.mem_iff_getElem?.2 ⟨0, rfl⟩)
    have E : Fr w [(nb 1, 2, Fq.num (1)), (b6_4, 2, Fq.nraw m1 d1 j1 cc1 ys c), (b1, 2, Fq.num z)] w11 := E11
    rw [lay_all hL]
    simp only [putAll, dstOf, List.length_cons, List.length_nil, Nat.zero_add, Nat.reduceAdd, List.getElem?_toArray, List.getElem?_cons_zero, List.getElem?_cons_succ, Option.bind_some, Act.put, List.setIfInBounds_toArray, List.set_cons_succ, List.set_cons_zero]
    rw [e1]
    generalize nb 1 = b11_1 at E ⊢
    generalize vs 0 = u11_0
    clear e1 hC hn E11 hL vs L nb
    go_upto_region 10 with (fail)
    have B12 : Hid (ab ((z - (1))) < pw 4) := ab_subB ha.out B10.out (by omega) (by omega)
    refine region_fr (C := [Fq.num z, Fq.num (1), Fq.num (z - (1)), Fq.any, Fq.any]) (ks := [none, none, none]) (new := [⟨3, 4, 2, Fq.num 0, Fq.num (z - (1)), none⟩]) E rfl (by kernel_rfl) rfl rfl (fun hp => ⟨?_, ?_, ?_, ?_, ?_, trivial⟩) ?_
    · exact q_loadInt (off := 0) hp (free_of rfl) trivial (List.mem_iff_getElem?.2 ⟨2, rfl⟩) (.inl rfl) (Nat.le_of_ble_eq_true rfl) (sq_out (s := 2) rfl rfl (fun _ _ => rfl)) (fun us w hl h => ld_num hl h)
    · exact q_loadInt (off := 0) hp (free_of rfl) trivial (List.mem_iff_getElem?.2 ⟨0, rfl⟩) (.inl rfl) (Nat.le_of_ble_eq_true rfl) (sq_out (s := 9) rfl rfl (fun _ _ => rfl)) (fun us w hl h => ld_num hl h)
    · exact q_call2 (F := (Fq.num z).P) (G := (Fq.num (1)).P) hp (free_of rfl) trivial (enq_R_Sub) (sqi 0) (sqi 1) (fun v v' w h h' => exRSubK h h' (Int.lt_of_lt_of_le ha.out (pw_le (by omega))) (Int.lt_of_lt_of_le B10.out (pw_le (by omega))) B12.out (by omega))
    · exact q_allocInt hp (List.mem_iff_getElem?.2 ⟨0, rfl⟩) rfl rfl rfl rfl (Nat.ne_of_beq_eq_false rfl) (fun _ _ => trivial) (old_ne rfl) (newk_ne rfl) (fun w => Num.zero w)
    · exact q_storeNewInt hp (List.mem_iff_getElem?.2 ⟨0, rfl⟩) rfl rfl rfl (own_ptr rfl rfl (by simp) rfl) (sq_in 2 rfl rfl (by simp) rfl (fun v w h => intV_num h)) (fun _ _ => trivial) (old_ne rfl) (newi_ne rfl)
    intro L vs w13 nb hL hC hn E13
    have e3 : vs 3 = .pointer (some ⟨nb 3, 0, none⟩) := hn _ (List.mem_iff_getElem?.2 ⟨0, rfl⟩)
    have E : Fr w [(nb 3, 2, Fq.num (z - (1))), (b11_1, 2, Fq.num (1)), (b6_4, 2, Fq.nraw m1 d1 j1 cc1 ys c), (b1, 2, Fq.num z)] w13 := E13
    rw [lay_all hL]
    simp only [putAll, dstOf, List.length_cons, List.length_nil, Nat.zero_add, Nat.reduceAdd, List.getElem?_toArray, List.getElem?_cons_zero, List.getElem?_cons_succ, Option.bind_some, Act.put, List.setIfInBounds_toArray, List.set_cons_succ, List.set_cons_zero]
    rw [e3]
    generalize nb 3 = b13_3 at E ⊢
    generalize vs 0 = u13_0
    generalize vs 1 = u13_1
    generalize vs 2 = u13_2
    clear e3 hC hn E13 hL vs L nb
    go_upto_region 11 with (fail)
    refine region_fr (C := [Fq.num (z - (1)), Fq.any, Fq.any]) (ks := [none, none, none, none]) (new := [⟨1, 2, 2, Fq.num 0, Fq.num (z - (1)), none⟩]) E rfl (by kernel_rfl) rfl rfl (fun hp => ⟨?_, ?_, ?_, trivial⟩) ?_
    · exact q_loadInt (off := 0) hp (free_of rfl) trivial (List.mem_iff_getElem?.2 ⟨0, rfl⟩) (.inl rfl) (Nat.le_of_ble_eq_true rfl) (sq_out (s := 10) rfl rfl (fun _ _ => rfl)) (fun us w hl h => ld_num hl h)
    · exact q_allocInt hp (List.mem_iff_getElem?.2 ⟨0, rfl⟩) rfl rfl rfl rfl (Nat.ne_of_beq_eq_false rfl) (fun _ _ => trivial) (old_ne rfl) (newk_ne rfl) (fun w => Num.zero w)
    · exact q_storeNewInt hp (List.mem_iff_getElem?.2 ⟨0, rfl⟩) rfl rfl rfl (own_ptr rfl rfl (by simp) rfl) (sq_in 0 rfl rfl (by simp) rfl (fun v w h => intV_num h)) (fun _ _ => trivial) (old_ne rfl) (newi_ne rfl)
    intro L vs w14 nb hL hC hn E14
    have e1 : vs 1 = .pointer (some ⟨nb 1, 0, none⟩) := hn _ (List.mem_iff_getElem?.2 ⟨0, rfl⟩)
    have E : Fr w [(nb 1, 2, Fq.num (z - (1))), (b13_3, 2, Fq.num (z - (1))), (b11_1, 2, Fq.num (1)), (b6_4, 2, Fq.nraw m1 d1 j1 cc1 ys c), (b1, 2, Fq.num z)] w14 := E14
    rw [lay_all hL]
    simp only [putAll, dstOf, List.length_cons, List.length_nil, Nat.zero_add, Nat.reduceAdd, List.getElem?_toArray, List.getElem?_cons_zero, List.getElem?_cons_succ, Option.bind_some, Act.put, List.setIfInBounds_toArray, List.set_cons_succ, List.set_cons_zero]
    rw [e1]
    generalize nb 1 = b14_1 at E ⊢
    generalize vs 0 = u14_0
    clear e1 hC hn E14 hL vs L nb
    go_upto_region 12 with (fail)
    refine region_fr (C := [Fq.is (.int .i64 0)]) (ks := [none, none, none, none, none]) (new := []) E rfl (by kernel_rfl) rfl rfl (fun hp => ⟨?_, trivial⟩) ?_
    · exact q_assign hp (free_of rfl) trivial (sq_const (fun _ => rfl))
    intro L vs w15 nb hL hC hn E15
    have e0 : vs 0 = .int .i64 0 := hC 0 (by simp)
    have E : Fr w [(b14_1, 2, Fq.num (z - (1))), (b13_3, 2, Fq.num (z - (1))), (b11_1, 2, Fq.num (1)), (b6_4, 2, Fq.nraw m1 d1 j1 cc1 ys c), (b1, 2, Fq.num z)] w15 := E15
    rw [lay_all hL]
    simp only [putAll, dstOf, List.length_cons, List.length_nil, Nat.zero_add, List.getElem?_toArray, List.getElem?_cons_zero, Option.bind_some, Act.put, List.setIfInBounds_toArray, List.set_cons_succ, List.set_cons_zero]
    rw [e0]
    clear e0 hC hn E15 hL vs L nb
    have HSE := hidd E
    go_upto_region 13 with (fail)
    go_loopw [12] (fun vi W => ∃ s D : Nat, vi = .int .i64 (s : Int) ∧ N - 1 = 2 ^ s * D ∧ Fr w [(b14_1, 2, Fq.num (D : Int)), (b13_3, 2, Fq.num (z - (1))), (b11_1, 2, Fq.num (1)), (b6_4, 2, Fq.nraw m1 d1 j1 cc1 ys c), (b1, 2, Fq.num z)] W) (fun vi _ => 96 - (intOf vi).toNat)
    case atStart => exact ⟨0, N - 1, rfl, by rw [Nat.pow_zero, Nat.one_mul], by rw [show ((N - 1 : Nat) : Int) = z - 1 by have := HZN.out; have := HN.out; omega]; exact HSE.out⟩
    case round =>
      obtain ⟨s, D, rfl, hsd, E⟩ := hrel
      clear HSE
      obtain ⟨hD0, hs96⟩ := twos_lt HZN.out HN.out.2 ha.out hsd
      have BD : Hid (ab (D : Int) < pw 3) := by show ab (D : Int) < pw 3; have h1 := ha.out; have h2 : D ≤ N - 1 := (by rw [hsd]; exact Nat.le_mul_of_pos_left _ (Nat.pow_pos (by omega))); have h3 := HZN.out; have h4 := HN.out; unfold ab at h1 ⊢; omega
      have HSD := hidd hsd
      have HS96 := hidd hs96
      have HD0 := hidd hD0
      clear hsd hs96
      obtain ⟨m2, d2, j2, cc2, zs, hop, E⟩ := E.opened
      obtain ⟨hj, x0, hy, hm⟩ := first_odd hop (by omega)
      obtain ⟨ad, off, rfl⟩ := E.addr hj
      have HJ := hidd hj
      have HY := hidd hy
      have HXM := hidd hm
      clear hop hj hy hm hD0
      by_cases he : D % 2 = 0
      · have WM := hidd (show Int.tmod x0 2 = 0 by rw [HXM.out]; omega)
        obtain ⟨t, ht⟩ : ∃ t, t = s + 1 := ⟨_, rfl⟩
        have WS1 : Hid (IntKind.i64.wrap ((s : Int) + 1) = (t : Int)) := by show _ = _; rw [show (s : Int) + 1 = (t : Int) by omega]; exact IntWalk.i64_in _ (by have := HS96.out; omega)
        have hsd2 : N - 1 = 2 ^ t * (D / 2) := by rw [HSD.out, ht, Nat.pow_succ, Nat.mul_assoc]; congr 1; omega
        have HSD2 := hidd hsd2
        have HT := hidd ht
        have HT96 := hidd (twos_lt HZN.out HN.out.2 ha.out hsd2).2
        clear ht hsd2 he HXM
        go_upto_region 13 with (fail)
        refine region_fr (C := [Fq.is (.pointer (some ⟨b14_1, 1, none⟩)), Fq.is (.slice (some ⟨ad, off, none⟩) j2 cc2), Fq.is (.pointer (some ⟨ad, off, none⟩)), Fq.is (.int .u32 x0), Fq.is (.int .u32 0), Fq.is (.bool true)]) (ks := [none, none, none, none, none]) (new := []) E rfl (by kernel_rfl) rfl rfl (fun hp => ⟨?_, ?_, ?_, ?_, ?_, ?_, trivial⟩) ?_
        · exact q_addr (b := b14_1) (off := 0) (off' := 1) hp (free_of rfl) trivial (sq_out (s := 11) rfl rfl (fun _ _ => rfl)) (fun ρ w h => by simp [execOp, go_sem, h]) (fun _ => rfl)
        · exact q_loadMagP (off := 1) (v := .slice (some ⟨ad, off, none⟩) j2 cc2) hp (free_of rfl) trivial (List.mem_iff_getElem?.2 ⟨0, rfl⟩) (.inl rfl) (Nat.le_of_ble_eq_true rfl) (sqi 0) (fun us w hl h => ⟨ld_nrawS hl h, rfl⟩)
        · exact q_one (F := fun v _ => v = .slice (some ⟨ad, off, none⟩) j2 cc2) hp (free_of rfl) trivial (sqi 1) (fun ρ w hc h => ⟨.pointer (some ⟨ad, off, none⟩), by simp [execOp, go_sem, h, hc, HJ.out], rfl⟩)
        · exact q_loadWord (bx := b14_1) (x0 := x0) hp (free_of rfl) trivial (List.mem_iff_getElem?.2 ⟨0, rfl⟩) (.inl rfl) (sqi 2) (fun us w hl h => first_word HJ.out HY.out h) (fun _ => rfl)
        · exact q_one (F := fun v _ => v = .int .u32 x0) hp (free_of rfl) trivial (sqi 3) (fun ρ w hc h => ⟨.int .u32 0, by simp [execOp, go_sem, h, hc, WM.out], rfl⟩)
        · exact q_one (F := fun v _ => v = .int .u32 0) hp (free_of rfl) trivial (sqi 4) (fun ρ w hc h => ⟨.bool true, by simp [execOp, go_sem, h, hc], rfl⟩)
        intro L vs w16 nb hL hC hn E16
        have e0 : vs 0 = .pointer (some ⟨b14_1, 1, none⟩) := hC 0 (by simp)
        have e1 : vs 1 = .slice (some ⟨ad, off, none⟩) j2 cc2 := hC 1 (by simp)
        have e2 : vs 2 = .pointer (some ⟨ad, off, none⟩) := hC 2 (by simp)
        have e3 : vs 3 = .int .u32 x0 := hC 3 (by simp)
        have e4 : vs 4 = .int .u32 0 := hC 4 (by simp)
        have e5 : vs 5 = .bool true := hC 5 (by simp)
        have E : Fr w [(b14_1, 2, Fq.nraw m2 (some ⟨ad, off, none⟩) j2 cc2 zs (D : Int)), (b13_3, 2, Fq.num (z - (1))), (b11_1, 2, Fq.num (1)), (b6_4, 2, Fq.nraw m1 d1 j1 cc1 ys c), (b1, 2, Fq.num z)] w16 := E16
        rw [lay_all hL]
        simp only [putAll, dstOf, List.length_cons, List.length_nil, Nat.zero_add, Nat.reduceAdd, List.getElem?_toArray, List.getElem?_cons_zero, List.getElem?_cons_succ, Option.bind_some, Act.put, List.setIfInBounds_toArray, List.set_cons_succ, List.set_cons_zero]
        rw [e0, e1, e2, e3, e4, e5]
        clear e0 e1 e2 e3 e4 e5 hC hn E16 hL vs L nb
        go_upto_region 14 with (fail)
        have B17 : Hid (ab ((2)) < pw 3) := ab_lit (by decide)
        have B18 : Hid (ab (((D : Int) / (2))) < pw 4) := ab_divB BD.out (by omega)
        refine region_fr (C := [Fq.num (D : Int), Fq.num (2), Fq.num ((D : Int) / (2)), Fq.any]) (ks := [some (3, Fq.num ((D : Int) / (2))), none, none, none, none]) (new := []) E rfl (by kernel_rfl) rfl rfl (fun hp => ⟨?_, ?_, ?_, ?_, trivial⟩) ?_
        · exact q_loadInt (off := 0) hp (free_of rfl) trivial (List.mem_iff_getElem?.2 ⟨0, rfl⟩) (.inr rfl) (Nat.le_of_ble_eq_true rfl) (sq_out (s := 11) rfl rfl (fun _ _ => rfl)) (fun us w hl h => ld_num hl h.2.2)
        · exact q_call1 (F := (Fq.is (.int .i64 2)).P) hp (free_of rfl) trivial (enq_R_Of) (sq_const (fun _ => rfl)) (fun v w h => (by subst h; exact rOfK w (2) (by omega) (by omega)))
        · exact q_call2 (F := (Fq.num (D : Int)).P) (G := (Fq.num (2)).P) hp (free_of rfl) trivial (enq_R_Div) (sqi 0) (sqi 1) (fun v v' w h h' => exRDiv h h' (by decide) (Int.lt_of_lt_of_le BD.out (pw_le (by omega))) (Int.lt_of_lt_of_le B17.out (pw_le (by omega))))
        · exact q_storeOldInt hp (List.mem_iff_getElem?.2 ⟨0, rfl⟩) rfl rfl (sq_out (s := 11) rfl rfl (fun _ _ => rfl)) (sq_in 2 rfl rfl (by simp) rfl (fun v w h => intV_num h)) (fun _ _ => trivial) (newik_ne rfl)
        intro L vs w19 nb hL hC hn E19
        have E : Fr w [(b14_1, 2, Fq.num ((D : Int) / (2))), (b13_3, 2, Fq.num (z - (1))), (b11_1, 2, Fq.num (1)), (b6_4, 2, Fq.nraw m1 d1 j1 cc1 ys c), (b1, 2, Fq.num z)] w19 := E19
        rw [lay_all hL]
        simp only [putAll, dstOf, List.length_cons, List.length_nil, Nat.zero_add, Nat.reduceAdd, List.getElem?_toArray, List.getElem?_cons_zero, List.getElem?_cons_succ, Option.bind_some, Act.put, List.setIfInBounds_toArray, List.set_cons_succ, List.set_cons_zero]
        generalize vs 0 = u19_0
        generalize vs 1 = u19_1
        generalize vs 2 = u19_2
        clear  hC hn E19 hL vs L nb
        go_upto_region 15 with (fail)
        refine region_fr (C := [Fq.is (.int .i64 (s : Int)), Fq.is (.int .i64 (t : Int)), Fq.is (.int .i64 (t : Int))]) (ks := [none, none, none, none, none]) (new := []) E rfl (by kernel_rfl) rfl rfl (fun hp => ⟨?_, ?_, ?_, trivial⟩) ?_
        · exact q_moveB 2 3 hp (free_of rfl) trivial rfl rfl rfl rfl (fun _ => rfl)
        · exact q_one (F := fun v _ => v = .int .i64 (s : Int)) hp (free_of rfl) trivial (sqi 0) (fun ρ w hc h => ⟨.int .i64 (t : Int), by simp [execOp, go_sem, h, hc, WS1.out], rfl⟩)
        · exact q_assign hp (free_of rfl) trivial (sqi 1)
        intro L vs w20 nb hL hC hn E20
        have e0 : vs 0 = .int .i64 (s : Int) := hC 0 (by simp)
        have e1 : vs 1 = .int .i64 (t : Int) := hC 1 (by simp)
        have e2 : vs 2 = .int .i64 (t : Int) := hC 2 (by simp)
        have E : Fr w [(b14_1, 2, Fq.num ((D : Int) / (2))), (b13_3, 2, Fq.num (z - (1))), (b11_1, 2, Fq.num (1)), (b6_4, 2, Fq.nraw m1 d1 j1 cc1 ys c), (b1, 2, Fq.num z)] w20 := E20
        rw [lay_all hL]
        simp only [putAll, dstOf, List.length_cons, List.length_nil, Nat.zero_add, Nat.reduceAdd, List.getElem?_toArray, List.getElem?_cons_zero, List.getElem?_cons_succ, Option.bind_some, Act.put, List.setIfInBounds_toArray, List.set_cons_succ, List.set_cons_zero]
        rw [e0, e1, e2]
        clear e0 e1 e2 hC hn E20 hL vs L nb
        clear WM WS1 HJ HY
        go_wp2
        go_roundw
        case rel => exact ⟨t, D / 2, rfl, HSD2.out, by rw [Int.natCast_ediv]; exact E⟩
        case measure => have := HT.out; have := HT96.out; simp [intOf]; omega
      · have WM := hidd (show Int.tmod x0 2 = 1 by rw [HXM.out]; omega)
        have HI := hidd (strong_iff (b := b) HSD.out (show D % 2 = 1 by omega))
        clear he HXM
        go_upto_region 13 with (fail)
        refine region_fr (C := [Fq.is (.pointer (some ⟨b14_1, 1, none⟩)), Fq.is (.slice (some ⟨ad, off, none⟩) j2 cc2), Fq.is (.pointer (some ⟨ad, off, none⟩)), Fq.is (.int .u32 x0), Fq.is (.int .u32 1), Fq.is (.bool false)]) (ks := [none, none, none, none, none]) (new := []) E rfl (by kernel_rfl) rfl rfl (fun hp => ⟨?_, ?_, ?_, ?_, ?_, ?_, trivial⟩) ?_
        · exact q_addr (b := b14_1) (off := 0) (off' := 1) hp (free_of rfl) trivial (sq_out (s := 11) rfl rfl (fun _ _ => rfl)) (fun ρ w h => by simp [execOp, go_sem, h]) (fun _ => rfl)
        · exact q_loadMagP (off := 1) (v := .slice (some ⟨ad, off, none⟩) j2 cc2) hp (free_of rfl) trivial (List.mem_iff_getElem?.2 ⟨0, rfl⟩) (.inl rfl) (Nat.le_of_ble_eq_true rfl) (sqi 0) (fun us w hl h => ⟨ld_nrawS hl h, rfl⟩)
        · exact q_one (F := fun v _ => v = .slice (some ⟨ad, off, none⟩) j2 cc2) hp (free_of rfl) trivial (sqi 1) (fun ρ w hc h => ⟨.pointer (some ⟨ad, off, none⟩), by simp [execOp, go_sem, h, hc, HJ.out], rfl⟩)
        · exact q_loadWord (bx := b14_1) (x0 := x0) hp (free_of rfl) trivial (List.mem_iff_getElem?.2 ⟨0, rfl⟩) (.inl rfl) (sqi 2) (fun us w hl h => first_word HJ.out HY.out h) (fun _ => rfl)
        · exact q_one (F := fun v _ => v = .int .u32 x0) hp (free_of rfl) trivial (sqi 3) (fun ρ w hc h => ⟨.int .u32 1, by simp [execOp, go_sem, h, hc, WM.out], rfl⟩)
        · exact q_one (F := fun v _ => v = .int .u32 1) hp (free_of rfl) trivial (sqi 4) (fun ρ w hc h => ⟨.bool false, by simp [execOp, go_sem, h, hc], rfl⟩)
        intro L vs w21 nb hL hC hn E21
        have e0 : vs 0 = .pointer (some ⟨b14_1, 1, none⟩) := hC 0 (by simp)
        have e1 : vs 1 = .slice (some ⟨ad, off, none⟩) j2 cc2 := hC 1 (by simp)
        have e2 : vs 2 = .pointer (some ⟨ad, off, none⟩) := hC 2 (by simp)
        have e3 : vs 3 = .int .u32 x0 := hC 3 (by simp)
        have e4 : vs 4 = .int .u32 1 := hC 4 (by simp)
        have e5 : vs 5 = .bool false := hC 5 (by simp)
        have E : Fr w [(b14_1, 2, Fq.nraw m2 (some ⟨ad, off, none⟩) j2 cc2 zs (D : Int)), (b13_3, 2, Fq.num (z - (1))), (b11_1, 2, Fq.num (1)), (b6_4, 2, Fq.nraw m1 d1 j1 cc1 ys c), (b1, 2, Fq.num z)] w21 := E21
        rw [lay_all hL]
        simp only [putAll, dstOf, List.length_cons, List.length_nil, Nat.zero_add, Nat.reduceAdd, List.getElem?_toArray, List.getElem?_cons_zero, List.getElem?_cons_succ, Option.bind_some, Act.put, List.setIfInBounds_toArray, List.set_cons_succ, List.set_cons_zero]
        rw [e0, e1, e2, e3, e4, e5]
        clear e0 e1 e2 e3 e4 e5 hC hn E21 hL vs L nb
        clear WM HJ HY
        go_upto_region 16 with (fail)
        refine region_fr (C := [Fq.num c, Fq.num (D : Int), Fq.num z, Fq.num ((c % z) ^ ((D : Int).natAbs) % z), Fq.any, Fq.any]) (ks := [none, none, none, none, none]) (new := [⟨4, 5, 2, Fq.num 0, Fq.num ((c % z) ^ ((D : Int).natAbs) % z), none⟩]) E rfl (by kernel_rfl) rfl rfl (fun hp => ⟨?_, ?_, ?_, ?_, ?_, ?_, trivial⟩) ?_
        · exact q_loadInt (off := 0) hp (free_of rfl) trivial (List.mem_iff_getElem?.2 ⟨3, rfl⟩) (.inl rfl) (Nat.le_of_ble_eq_true rfl) (sq_out (s := 8) rfl rfl (fun _ _ => rfl)) (fun us w hl h => ld_num hl h.2.2)
        · exact q_loadInt (off := 0) hp (free_of rfl) trivial (List.mem_iff_getElem?.2 ⟨0, rfl⟩) (.inl rfl) (Nat.le_of_ble_eq_true rfl) (sq_out (s := 11) rfl rfl (fun _ _ => rfl)) (fun us w hl h => ld_num hl h.2.2)
        · exact q_loadInt (off := 0) hp (free_of rfl) trivial (List.mem_iff_getElem?.2 ⟨4, rfl⟩) (.inl rfl) (Nat.le_of_ble_eq_true rfl) (sq_out (s := 2) rfl rfl (fun _ _ => rfl)) (fun us w hl h => ld_num hl h)
        · exact q_call3 (F := (Fq.num c).P) (G := (Fq.num (D : Int)).P) (F3 := (Fq.num z).P) hp (free_of rfl) trivial (enq_f_algorist_algoristref04_Power) (sqi 0) (sqi 1) (sqi 2) (fun v v' u w h h' g => exR4Power h h' g (Int.lt_of_lt_of_le Bc.out (pw_le (by omega))) (Int.lt_of_lt_of_le BD.out (pw_le (by omega))) (Int.lt_of_lt_of_le ha.out (pw_le (by omega))) HP.out)
        · exact q_allocInt hp (List.mem_iff_getElem?.2 ⟨0, rfl⟩) rfl rfl rfl rfl (Nat.ne_of_beq_eq_false rfl) (fun _ _ => trivial) (old_ne rfl) (newk_ne rfl) (fun w => Num.zero w)
        · exact q_storeNewInt hp (List.mem_iff_getElem?.2 ⟨0, rfl⟩) rfl rfl rfl (own_ptr rfl rfl (by simp) rfl) (sq_in 3 rfl rfl (by simp) rfl (fun v w h => intV_num h)) (fun _ _ => trivial) (old_ne rfl) (newi_ne rfl)
        intro L vs w22 nb hL hC hn E22
        have e4 : vs 4 = .pointer (some ⟨nb 4, 0, none⟩) := hn _ (List.mem_iff_getElem?.2 ⟨0, rfl⟩)
        have E : Fr w [(nb 4, 2, Fq.num ((c % z) ^ ((D : Int).natAbs) % z)), (b14_1, 2, Fq.nraw m2 (some ⟨ad, off, none⟩) j2 cc2 zs (D : Int)), (b13_3, 2, Fq.num (z - (1))), (b11_1, 2, Fq.num (1)), (b6_4, 2, Fq.nraw m1 d1 j1 cc1 ys c), (b1, 2, Fq.num z)] w22 := E22
        rw [lay_all hL]
        simp only [putAll, dstOf, List.length_cons, List.length_nil, Nat.zero_add, Nat.reduceAdd, List.getElem?_toArray, List.getElem?_cons_zero, List.getElem?_cons_succ, Option.bind_some, Act.put, List.setIfInBounds_toArray, List.set_cons_succ, List.set_cons_zero]
        rw [e4]
        generalize nb 4 = b22_4 at E ⊢
        generalize vs 0 = u22_0
        generalize vs 1 = u22_1
        generalize vs 2 = u22_2
        generalize vs 3 = u22_3
        clear e4 hC hn E22 hL vs L nb
        rw [HC.out, pwv_power HZN.out HBI.out] at E
        have Bx : Hid (ab (pwv N b D) < pw 3) := pwv_lt HZN.out HN0.out ha.out
        rw [← HC.out] at E
        by_cases h1 : pwv N b D = 1
        · have HT := hidd (show decide (pwv N b D = 1) = true from decide_eq_true h1)
          have e : S = true := HS.out.2 (HI.out.2 (.inr (.inl (pwv_one.1 h1))))
          subst e
          clear h1
          go_upto_region 17 with (fail)
          refine region_fr (C := [Fq.num (pwv N b D), Fq.num (1), Fq.is (.bool true)]) (ks := [none, none, none, none, none, none]) (new := []) E rfl (by kernel_rfl) rfl rfl (fun hp => ⟨?_, ?_, ?_, trivial⟩) ?_
          · exact q_loadInt (off := 0) hp (free_of rfl) trivial (List.mem_iff_getElem?.2 ⟨0, rfl⟩) (.inl rfl) (Nat.le_of_ble_eq_true rfl) (sq_out (s := 13) rfl rfl (fun _ _ => rfl)) (fun us w hl h => ld_num hl h)
          · exact q_loadInt (off := 0) hp (free_of rfl) trivial (List.mem_iff_getElem?.2 ⟨3, rfl⟩) (.inl rfl) (Nat.le_of_ble_eq_true rfl) (sq_out (s := 9) rfl rfl (fun _ _ => rfl)) (fun us w hl h => ld_num hl h)
          · exact q_call2 (F := (Fq.num (pwv N b D)).P) (G := (Fq.num (1)).P) hp (free_of rfl) trivial (enq_R_Same) (sqi 0) (sqi 1) (fun v v' w h h' => exRSameB h h' HT.out)
          intro L vs w23 nb hL hC hn E23
          have e2 : vs 2 = .bool true := hC 2 (by simp)
          have E : Fr w [(b22_4, 2, Fq.num (pwv N b D)), (b14_1, 2, Fq.nraw m2 (some ⟨ad, off, none⟩) j2 cc2 zs (D : Int)), (b13_3, 2, Fq.num (z - (1))), (b11_1, 2, Fq.num (1)), (b6_4, 2, Fq.nraw m1 d1 j1 cc1 ys c), (b1, 2, Fq.num z)] w23 := E23
          rw [lay_all hL]
          simp only [putAll, dstOf, List.length_cons, List.length_nil, Nat.zero_add, Nat.reduceAdd, List.getElem?_toArray, List.getElem?_cons_zero, List.getElem?_cons_succ, Option.bind_some, Act.put, List.setIfInBounds_toArray, List.set_cons_succ, List.set_cons_zero]
          rw [e2]
          generalize vs 0 = u23_0
          generalize vs 1 = u23_1
          clear e2 hC hn E23 hL vs L nb
          go_upto_region 18 with (fail)
          refine region_fr (C := [Fq.is (.bool true), Fq.is (.int .i64 0)]) (ks := [none, none, none, none, none, none]) (new := []) E rfl (by kernel_rfl) rfl rfl (fun hp => ⟨?_, ?_, trivial⟩) ?_
          · exact q_assign hp (free_of rfl) trivial (sq_const (fun _ => rfl))
          · exact q_assign hp (free_of rfl) trivial (sq_const (fun _ => rfl))
          intro L vs w24 nb hL hC hn E24
          have e0 : vs 0 = .bool true := hC 0 (by simp)
          have e1 : vs 1 = .int .i64 0 := hC 1 (by simp)
          have E : Fr w [(b22_4, 2, Fq.num (pwv N b D)), (b14_1, 2, Fq.nraw m2 (some ⟨ad, off, none⟩) j2 cc2 zs (D : Int)), (b13_3, 2, Fq.num (z - (1))), (b11_1, 2, Fq.num (1)), (b6_4, 2, Fq.nraw m1 d1 j1 cc1 ys c), (b1, 2, Fq.num z)] w24 := E24
          rw [lay_all hL]
          simp only [putAll, dstOf, List.length_cons, List.length_nil, Nat.zero_add, Nat.reduceAdd, List.getElem?_toArray, List.getElem?_cons_zero, List.getElem?_cons_succ, Option.bind_some, Act.put, List.setIfInBounds_toArray, List.set_cons_succ, List.set_cons_zero]
          rw [e0, e1]
          clear e0 e1 hC hn E24 hL vs L nb
          clear HT HI HSD HS96 HD0 HB0 HZ HO HZN HBI HB1 HBL HN HN3 HS HM HP HN0 HBB HC HC0
          clear B5 B10 B12 ha HA9 Bc BD Bx
          go_wp2
          refine bodyPost_ret (v := .tuple #[.bool true, .int .i64 0]) ?_ rfl ⟨_, rfl, E.below, rfl⟩
          simp [results, Tryd.results9, go_sem]
        · have HT := hidd (show decide (pwv N b D = 1) = false from decide_eq_false h1)
          have H1 := hidd h1
          clear h1
          go_upto_region 17 with (fail)
          refine region_fr (C := [Fq.num (pwv N b D), Fq.num (1), Fq.is (.bool false)]) (ks := [none, none, none, none, none, none]) (new := []) E rfl (by kernel_rfl) rfl rfl (fun hp => ⟨?_, ?_, ?_, trivial⟩) ?_
          · exact q_loadInt (off := 0) hp (free_of rfl) trivial (List.mem_iff_getElem?.2 ⟨0, rfl⟩) (.inl rfl) (Nat.le_of_ble_eq_true rfl) (sq_out (s := 13) rfl rfl (fun _ _ => rfl)) (fun us w hl h => ld_num hl h)
          · exact q_loadInt (off := 0) hp (free_of rfl) trivial (List.mem_iff_getElem?.2 ⟨3, rfl⟩) (.inl rfl) (Nat.le_of_ble_eq_true rfl) (sq_out (s := 9) rfl rfl (fun _ _ => rfl)) (fun us w hl h => ld_num hl h)
          · exact q_call2 (F := (Fq.num (pwv N b D)).P) (G := (Fq.num (1)).P) hp (free_of rfl) trivial (enq_R_Same) (sqi 0) (sqi 1) (fun v v' w h h' => exRSameB h h' HT.out)
          intro L vs w25 nb hL hC hn E25
          have e2 : vs 2 = .bool false := hC 2 (by simp)
          have E : Fr w [(b22_4, 2, Fq.num (pwv N b D)), (b14_1, 2, Fq.nraw m2 (some ⟨ad, off, none⟩) j2 cc2 zs (D : Int)), (b13_3, 2, Fq.num (z - (1))), (b11_1, 2, Fq.num (1)), (b6_4, 2, Fq.nraw m1 d1 j1 cc1 ys c), (b1, 2, Fq.num z)] w25 := E25
          rw [lay_all hL]
          simp only [putAll, dstOf, List.length_cons, List.length_nil, Nat.zero_add, Nat.reduceAdd, List.getElem?_toArray, List.getElem?_cons_zero, List.getElem?_cons_succ, Option.bind_some, Act.put, List.setIfInBounds_toArray, List.set_cons_succ, List.set_cons_zero]
          rw [e2]
          generalize vs 0 = u25_0
          generalize vs 1 = u25_1
          clear e2 hC hn E25 hL vs L nb
          clear HT
          go_upto_region 19 with (fail)
          refine region_fr (C := [Fq.is (.int .i64 0)]) (ks := [none, none, none, none, none, none]) (new := []) E rfl (by kernel_rfl) rfl rfl (fun hp => ⟨?_, trivial⟩) ?_
          · exact q_assign hp (free_of rfl) trivial (sq_const (fun _ => rfl))
          intro L vs w26 nb hL hC hn E26
          have e0 : vs 0 = .int .i64 0 := hC 0 (by simp)
          have E : Fr w [(b22_4, 2, Fq.num (pwv N b D)), (b14_1, 2, Fq.nraw m2 (some ⟨ad, off, none⟩) j2 cc2 zs (D : Int)), (b13_3, 2, Fq.num (z - (1))), (b11_1, 2, Fq.num (1)), (b6_4, 2, Fq.nraw m1 d1 j1 cc1 ys c), (b1, 2, Fq.num z)] w26 := E26
          rw [lay_all hL]
          simp only [putAll, dstOf, List.length_cons, List.length_nil, Nat.zero_add, List.getElem?_toArray, List.getElem?_cons_zero, Option.bind_some, Act.put, List.setIfInBounds_toArray, List.set_cons_succ, List.set_cons_zero]
          rw [e0]
          clear e0 hC hn E26 hL vs L nb
          have HSE := hidd E
          go_upto_region 20 with (fail)
          go_loopw [14] (fun vi W => ∃ j : Nat, vi = .int .i64 (j : Int) ∧ j ≤ s ∧ (∀ t, t < j → ¬ b ^ (2 ^ t * D) % N = N - 1) ∧ Fr w [(b22_4, 2, Fq.num (pwv N b (2 ^ j * D))), (b14_1, 2, Fq.nraw m2 (some ⟨ad, off, none⟩) j2 cc2 zs (D : Int)), (b13_3, 2, Fq.num (z - (1))), (b11_1, 2, Fq.num (1)), (b6_4, 2, Fq.nraw m1 d1 j1 cc1 ys c), (b1, 2, Fq.num z)] W) (fun vi _ => s - (intOf vi).toNat)
          case atStart => exact ⟨0, rfl, Nat.zero_le _, fun t ht => absurd ht (Nat.not_lt_zero _), by rw [Nat.pow_zero, Nat.one_mul]; exact HSE.out⟩
          case round =>
            obtain ⟨j, rfl, hj, hall, E⟩ := hrel
            clear HSE
            have HALL := hidd hall
            have HJS := hidd hj
            have By : Hid (ab (pwv N b (2 ^ j * D)) < pw 3) := pwv_lt HZN.out HN0.out ha.out
            clear hall
            by_cases hjs : j < s
            · have TL : Hid ((j : Int) < s) := by show (j : Int) < s; omega
              have HJ2 := hidd hjs
              clear hjs hj
              go_upto_region 20 with (fail)
              refine region_fr (C := [Fq.is (.int .i64 (j : Int)), Fq.is (.int .i64 (s : Int)), Fq.is (.bool true)]) (ks := [none, none, none, none, none, none]) (new := []) E rfl (by kernel_rfl) rfl rfl (fun hp => ⟨?_, ?_, ?_, trivial⟩) ?_
              · exact q_move hp (free_of rfl) trivial (sq_out (s := 14) rfl rfl (fun _ _ => rfl))
              · exact q_move hp (free_of rfl) trivial (sq_out (s := 12) rfl rfl (fun _ _ => rfl))
              · exact q_two (F := fun v _ => v = .int .i64 (j : Int)) (G := fun v _ => v = .int .i64 (s : Int)) hp (free_of rfl) trivial (sqi 0) (sqi 1) (fun ρ w hc h h' => ⟨.bool true, by simp [execOp, go_sem, h, h', TL.out], rfl⟩)
              intro L vs w27 nb hL hC hn E27
              have e0 : vs 0 = .int .i64 (j : Int) := hC 0 (by simp)
              have e1 : vs 1 = .int .i64 (s : Int) := hC 1 (by simp)
              have e2 : vs 2 = .bool true := hC 2 (by simp)
              have E : Fr w [(b22_4, 2, Fq.num (pwv N b (2 ^ j * D))), (b14_1, 2, Fq.nraw m2 (some ⟨ad, off, none⟩) j2 cc2 zs (D : Int)), (b13_3, 2, Fq.num (z - (1))), (b11_1, 2, Fq.num (1)), (b6_4, 2, Fq.nraw m1 d1 j1 cc1 ys c), (b1, 2, Fq.num z)] w27 := E27
              rw [lay_all hL]
              simp only [putAll, dstOf, List.length_cons, List.length_nil, Nat.zero_add, Nat.reduceAdd, List.getElem?_toArray, List.getElem?_cons_zero, List.getElem?_cons_succ, Option.bind_some, Act.put, List.setIfInBounds_toArray, List.set_cons_succ, List.set_cons_zero]
              rw [e0, e1, e2]
              clear e0 e1 e2 hC hn E27 hL vs L nb
              clear TL
              by_cases ht : pwv N b (2 ^ j * D) = z - 1
              · have HT := hidd (show decide (pwv N b (2 ^ j * D) = z - 1) = true from decide_eq_true ht)
                have e : S = true := HS.out.2 (HI.out.2 (.inr (.inr ⟨j, HJ2.out, (pwv_top HZN.out HN0.out).1 ht⟩)))
                subst e
                clear ht
                go_upto_region 22 with (fail)
                refine region_fr (C := [Fq.num (pwv N b (2 ^ j * D)), Fq.num (z - (1)), Fq.is (.bool true)]) (ks := [none, none, none, none, none, none]) (new := []) E rfl (by kernel_rfl) rfl rfl (fun hp => ⟨?_, ?_, ?_, trivial⟩) ?_
                · exact q_loadInt (off := 0) hp (free_of rfl) trivial (List.mem_iff_getElem?.2 ⟨0, rfl⟩) (.inl rfl) (Nat.le_of_ble_eq_true rfl) (sq_out (s := 13) rfl rfl (fun _ _ => rfl)) (fun us w hl h => ld_num hl h)
                · exact q_loadInt (off := 0) hp (free_of rfl) trivial (List.mem_iff_getElem?.2 ⟨2, rfl⟩) (.inl rfl) (Nat.le_of_ble_eq_true rfl) (sq_out (s := 10) rfl rfl (fun _ _ => rfl)) (fun us w hl h => ld_num hl h)
                · exact q_call2 (F := (Fq.num (pwv N b (2 ^ j * D))).P) (G := (Fq.num (z - (1))).P) hp (free_of rfl) trivial (enq_R_Same) (sqi 0) (sqi 1) (fun v v' w h h' => exRSameB h h' HT.out)
                intro L vs w28 nb hL hC hn E28
                have e2 : vs 2 = .bool true := hC 2 (by simp)
                have E : Fr w [(b22_4, 2, Fq.num (pwv N b (2 ^ j * D))), (b14_1, 2, Fq.nraw m2 (some ⟨ad, off, none⟩) j2 cc2 zs (D : Int)), (b13_3, 2, Fq.num (z - (1))), (b11_1, 2, Fq.num (1)), (b6_4, 2, Fq.nraw m1 d1 j1 cc1 ys c), (b1, 2, Fq.num z)] w28 := E28
                rw [lay_all hL]
                simp only [putAll, dstOf, List.length_cons, List.length_nil, Nat.zero_add, Nat.reduceAdd, List.getElem?_toArray, List.getElem?_cons_zero, List.getElem?_cons_succ, Option.bind_some, Act.put, List.setIfInBounds_toArray, List.set_cons_succ, List.set_cons_zero]
                rw [e2]
                generalize vs 0 = u28_0
                generalize vs 1 = u28_1
                clear e2 hC hn E28 hL vs L nb
                go_upto_region 23 with (fail)
                refine region_fr (C := [Fq.is (.bool true), Fq.is (.int .i64 0)]) (ks := [none, none, none, none, none, none]) (new := []) E rfl (by kernel_rfl) rfl rfl (fun hp => ⟨?_, ?_, trivial⟩) ?_
                · exact q_assign hp (free_of rfl) trivial (sq_const (fun _ => rfl))
                · exact q_assign hp (free_of rfl) trivial (sq_const (fun _ => rfl))
                intro L vs w29 nb hL hC hn E29
                have e0 : vs 0 = .bool true := hC 0 (by simp)
                have e1 : vs 1 = .int .i64 0 := hC 1 (by simp)
                have E : Fr w [(b22_4, 2, Fq.num (pwv N b (2 ^ j * D))), (b14_1, 2, Fq.nraw m2 (some ⟨ad, off, none⟩) j2 cc2 zs (D : Int)), (b13_3, 2, Fq.num (z - (1))), (b11_1, 2, Fq.num (1)), (b6_4, 2, Fq.nraw m1 d1 j1 cc1 ys c), (b1, 2, Fq.num z)] w29 := E29
                rw [lay_all hL]
                simp only [putAll, dstOf, List.length_cons, List.length_nil, Nat.zero_add, Nat.reduceAdd, List.getElem?_toArray, List.getElem?_cons_zero, List.getElem?_cons_succ, Option.bind_some, Act.put, List.setIfInBounds_toArray, List.set_cons_succ, List.set_cons_zero]
                rw [e0, e1]
                clear e0 e1 hC hn E29 hL vs L nb
                clear HT HI HSD HS96 HD0 HB0 HALL HJS HJ2 H1 HZ HO HZN HBI HB1 HBL HN HN3 HS HM HP HN0 HBB HC HC0
                clear B5 B10 B12 ha HA9 Bc BD Bx By
                go_wp2
                refine bodyPost_ret (v := .tuple #[.bool true, .int .i64 0]) ?_ rfl ⟨_, rfl, E.below, rfl⟩
                simp [results, Tryd.results9, go_sem]
              · have HT := hidd (show decide (pwv N b (2 ^ j * D) = z - 1) = false from decide_eq_false ht)
                have HNT := hidd (show ¬ b ^ (2 ^ j * D) % N = N - 1 from fun e => ht ((pwv_top HZN.out HN0.out).2 e))
                obtain ⟨t, htj⟩ : ∃ t, t = j + 1 := ⟨_, rfl⟩
                have WJ : Hid (IntKind.i64.wrap ((j : Int) + 1) = (t : Int)) := by show _ = _; rw [show (j : Int) + 1 = (t : Int) by omega]; exact IntWalk.i64_in _ (by have := HS96.out; have := HJ2.out; omega)
                have HTJ := hidd htj
                have EZ : Hid ((pwv N b (2 ^ j * D) * pwv N b (2 ^ j * D)) % z = pwv N b (2 ^ t * D)) := by show _ = _; rw [pwv_sq HZN.out, htj, Nat.pow_succ]; congr 1; ac_rfl
                clear ht htj
                go_upto_region 22 with (fail)
                refine region_fr (C := [Fq.num (pwv N b (2 ^ j * D)), Fq.num (z - (1)), Fq.is (.bool false)]) (ks := [none, none, none, none, none, none]) (new := []) E rfl (by kernel_rfl) rfl rfl (fun hp => ⟨?_, ?_, ?_, trivial⟩) ?_
                · exact q_loadInt (off := 0) hp (free_of rfl) trivial (List.mem_iff_getElem?.2 ⟨0, rfl⟩) (.inl rfl) (Nat.le_of_ble_eq_true rfl) (sq_out (s := 13) rfl rfl (fun _ _ => rfl)) (fun us w hl h => ld_num hl h)
                · exact q_loadInt (off := 0) hp (free_of rfl) trivial (List.mem_iff_getElem?.2 ⟨2, rfl⟩) (.inl rfl) (Nat.le_of_ble_eq_true rfl) (sq_out (s := 10) rfl rfl (fun _ _ => rfl)) (fun us w hl h => ld_num hl h)
                · exact q_call2 (F := (Fq.num (pwv N b (2 ^ j * D))).P) (G := (Fq.num (z - (1))).P) hp (free_of rfl) trivial (enq_R_Same) (sqi 0) (sqi 1) (fun v v' w h h' => exRSameB h h' HT.out)
                intro L vs w30 nb hL hC hn E30
                have e2 : vs 2 = .bool false := hC 2 (by simp)
                have E : Fr w [(b22_4, 2, Fq.num (pwv N b (2 ^ j * D))), (b14_1, 2, Fq.nraw m2 (some ⟨ad, off, none⟩) j2 cc2 zs (D : Int)), (b13_3, 2, Fq.num (z - (1))), (b11_1, 2, Fq.num (1)), (b6_4, 2, Fq.nraw m1 d1 j1 cc1 ys c), (b1, 2, Fq.num z)] w30 := E30
                rw [lay_all hL]
                simp only [putAll, dstOf, List.length_cons, List.length_nil, Nat.zero_add, Nat.reduceAdd, List.getElem?_toArray, List.getElem?_cons_zero, List.getElem?_cons_succ, Option.bind_some, Act.put, List.setIfInBounds_toArray, List.set_cons_succ, List.set_cons_zero]
                rw [e2]
                generalize vs 0 = u30_0
                generalize vs 1 = u30_1
                clear e2 hC hn E30 hL vs L nb
                clear HT
                go_upto_region 24 with (fail)
                have B31 : Hid (ab (((pwv N b (2 ^ j * D)) * (pwv N b (2 ^ j * D)))) < pw 6) := ab_mulM By.out By.out (by omega)
                have B32 : Hid (ab ((((pwv N b (2 ^ j * D)) * (pwv N b (2 ^ j * D))) % z)) < pw 3) := ab_modB HM.out ha.out
                refine region_fr (C := [Fq.num (pwv N b (2 ^ j * D)), Fq.num (pwv N b (2 ^ j * D)), Fq.num ((pwv N b (2 ^ j * D)) * (pwv N b (2 ^ j * D))), Fq.num z, Fq.num (((pwv N b (2 ^ j * D)) * (pwv N b (2 ^ j * D))) % z), Fq.any]) (ks := [some (5, Fq.num (((pwv N b (2 ^ j * D)) * (pwv N b (2 ^ j * D))) % z)), none, none, none, none, none]) (new := []) E rfl (by kernel_rfl) rfl rfl (fun hp => ⟨?_, ?_, ?_, ?_, ?_, ?_, trivial⟩) ?_
                · exact q_loadInt (off := 0) hp (free_of rfl) trivial (List.mem_iff_getElem?.2 ⟨0, rfl⟩) (.inr rfl) (Nat.le_of_ble_eq_true rfl) (sq_out (s := 13) rfl rfl (fun _ _ => rfl)) (fun us w hl h => ld_num hl h)
                · exact q_loadInt (off := 0) hp (free_of rfl) trivial (List.mem_iff_getElem?.2 ⟨0, rfl⟩) (.inr rfl) (Nat.le_of_ble_eq_true rfl) (sq_out (s := 13) rfl rfl (fun _ _ => rfl)) (fun us w hl h => ld_num hl h)
                · exact q_call2 (F := (Fq.num (pwv N b (2 ^ j * D))).P) (G := (Fq.num (pwv N b (2 ^ j * D))).P) hp (free_of rfl) trivial (enq_R_Mul) (sqi 0) (sqi 1) (fun v v' w h h' => exK (RMulV h h') B31.out (by omega))
                · exact q_loadInt (off := 0) hp (free_of rfl) trivial (List.mem_iff_getElem?.2 ⟨5, rfl⟩) (.inl rfl) (Nat.le_of_ble_eq_true rfl) (sq_out (s := 2) rfl rfl (fun _ _ => rfl)) (fun us w hl h => ld_num hl h)
                · exact q_call2 (F := (Fq.num ((pwv N b (2 ^ j * D)) * (pwv N b (2 ^ j * D)))).P) (G := (Fq.num z).P) hp (free_of rfl) trivial (enq_R_Mod) (sqi 2) (sqi 3) (fun v v' w h h' => exK (RModV h h' (Int.lt_of_lt_of_le B31.out (pw_le (by omega))) (Int.lt_of_lt_of_le ha.out (pw_le (by omega))) HM.out) B32.out (by omega))
                · exact q_storeOldInt hp (List.mem_iff_getElem?.2 ⟨0, rfl⟩) rfl rfl (sq_out (s := 13) rfl rfl (fun _ _ => rfl)) (sq_in 4 rfl rfl (by simp) rfl (fun v w h => intV_num h)) (fun _ _ => trivial) (newik_ne rfl)
                intro L vs w33 nb hL hC hn E33
                have E : Fr w [(b22_4, 2, Fq.num (((pwv N b (2 ^ j * D)) * (pwv N b (2 ^ j * D))) % z)), (b14_1, 2, Fq.nraw m2 (some ⟨ad, off, none⟩) j2 cc2 zs (D : Int)), (b13_3, 2, Fq.num (z - (1))), (b11_1, 2, Fq.num (1)), (b6_4, 2, Fq.nraw m1 d1 j1 cc1 ys c), (b1, 2, Fq.num z)] w33 := E33
                rw [lay_all hL]
                simp only [putAll, dstOf, List.length_cons, List.length_nil, Nat.zero_add, Nat.reduceAdd, List.getElem?_toArray, List.getElem?_cons_zero, List.getElem?_cons_succ, Option.bind_some, Act.put, List.setIfInBounds_toArray, List.set_cons_succ, List.set_cons_zero]
                generalize vs 0 = u33_0
                generalize vs 1 = u33_1
                generalize vs 2 = u33_2
                generalize vs 3 = u33_3
                generalize vs 4 = u33_4
                clear  hC hn E33 hL vs L nb
                go_upto_region 21 with (fail)
                refine region_fr (C := [Fq.is (.int .i64 (j : Int)), Fq.is (.int .i64 (t : Int)), Fq.is (.int .i64 (t : Int))]) (ks := [none, none, none, none, none, none]) (new := []) E rfl (by kernel_rfl) rfl rfl (fun hp => ⟨?_, ?_, ?_, trivial⟩) ?_
                · exact q_moveB 2 3 hp (free_of rfl) trivial rfl rfl rfl rfl (fun _ => rfl)
                · exact q_one (F := fun v _ => v = .int .i64 (j : Int)) hp (free_of rfl) trivial (sqi 0) (fun ρ w hc h => ⟨.int .i64 (t : Int), by simp [execOp, go_sem, h, hc, WJ.out], rfl⟩)
                · exact q_assign hp (free_of rfl) trivial (sqi 1)
                intro L vs w34 nb hL hC hn E34
                have e0 : vs 0 = .int .i64 (j : Int) := hC 0 (by simp)
                have e1 : vs 1 = .int .i64 (t : Int) := hC 1 (by simp)
                have e2 : vs 2 = .int .i64 (t : Int) := hC 2 (by simp)
                have E : Fr w [(b22_4, 2, Fq.num (((pwv N b (2 ^ j * D)) * (pwv N b (2 ^ j * D))) % z)), (b14_1, 2, Fq.nraw m2 (some ⟨ad, off, none⟩) j2 cc2 zs (D : Int)), (b13_3, 2, Fq.num (z - (1))), (b11_1, 2, Fq.num (1)), (b6_4, 2, Fq.nraw m1 d1 j1 cc1 ys c), (b1, 2, Fq.num z)] w34 := E34
                rw [lay_all hL]
                simp only [putAll, dstOf, List.length_cons, List.length_nil, Nat.zero_add, Nat.reduceAdd, List.getElem?_toArray, List.getElem?_cons_zero, List.getElem?_cons_succ, Option.bind_some, Act.put, List.setIfInBounds_toArray, List.set_cons_succ, List.set_cons_zero]
                rw [e0, e1, e2]
                clear e0 e1 e2 hC hn E34 hL vs L nb
                clear WJ
                rw [EZ.out] at E
                go_wp2
                go_roundw
                case rel => exact ⟨t, rfl, by have := HTJ.out; have := HJ2.out; omega, fun u hu => by
                  have h9 := HTJ.out
                  rcases Nat.lt_or_ge u j with h | h
                  · exact HALL.out u h
                  · rw [show u = j by omega]; exact HNT.out, E⟩
                case measure => have := HTJ.out; have := HJ2.out; simp [intOf]; omega
            · have TL : Hid (¬ (j : Int) < s) := by show ¬ _; omega
              have hjs2 : j = s := by omega
              have e : S = false := by
                cases hS9 : S with
                | false => rfl
                | true =>
                  exfalso
                  rcases HI.out.1 (HS.out.1 hS9) with h | h | ⟨i, hi, h⟩
                  · exact HB0.out h
                  · exact H1.out (pwv_one.2 h)
                  · exact HALL.out i (by omega) h
              subst e
              clear hjs hj hjs2
              go_upto_region 20 with (fail)
              refine region_fr (C := [Fq.is (.int .i64 (j : Int)), Fq.is (.int .i64 (s : Int)), Fq.is (.bool false)]) (ks := [none, none, none, none, none, none]) (new := []) E rfl (by kernel_rfl) rfl rfl (fun hp => ⟨?_, ?_, ?_, trivial⟩) ?_
              · exact q_move hp (free_of rfl) trivial (sq_out (s := 14) rfl rfl (fun _ _ => rfl))
              · exact q_move hp (free_of rfl) trivial (sq_out (s := 12) rfl rfl (fun _ _ => rfl))
              · exact q_two (F := fun v _ => v = .int .i64 (j : Int)) (G := fun v _ => v = .int .i64 (s : Int)) hp (free_of rfl) trivial (sqi 0) (sqi 1) (fun ρ w hc h h' => ⟨.bool false, by simp [execOp, go_sem, h, h', TL.out], rfl⟩)
              intro L vs w35 nb hL hC hn E35
              have e0 : vs 0 = .int .i64 (j : Int) := hC 0 (by simp)
              have e1 : vs 1 = .int .i64 (s : Int) := hC 1 (by simp)
              have e2 : vs 2 = .bool false := hC 2 (by simp)
              have E : Fr w [(b22_4, 2, Fq.num (pwv N b (2 ^ j * D))), (b14_1, 2, Fq.nraw m2 (some ⟨ad, off, none⟩) j2 cc2 zs (D : Int)), (b13_3, 2, Fq.num (z - (1))), (b11_1, 2, Fq.num (1)), (b6_4, 2, Fq.nraw m1 d1 j1 cc1 ys c), (b1, 2, Fq.num z)] w35 := E35
              rw [lay_all hL]
              simp only [putAll, dstOf, List.length_cons, List.length_nil, Nat.zero_add, Nat.reduceAdd, List.getElem?_toArray, List.getElem?_cons_zero, List.getElem?_cons_succ, Option.bind_some, Act.put, List.setIfInBounds_toArray, List.set_cons_succ, List.set_cons_zero]
              rw [e0, e1, e2]
              clear e0 e1 e2 hC hn E35 hL vs L nb
              clear TL
              go_upto_region 25 with (fail)
              refine region_fr (C := [Fq.is (.bool false), Fq.is (.int .i64 0)]) (ks := [none, none, none, none, none, none]) (new := []) E rfl (by kernel_rfl) rfl rfl (fun hp => ⟨?_, ?_, trivial⟩) ?_
              · exact q_assign hp (free_of rfl) trivial (sq_const (fun _ => rfl))
              · exact q_assign hp (free_of rfl) trivial (sq_const (fun _ => rfl))
              intro L vs w36 nb hL hC hn E36
              have e0 : vs 0 = .bool false := hC 0 (by simp)
              have e1 : vs 1 = .int .i64 0 := hC 1 (by simp)
              have E : Fr w [(b22_4, 2, Fq.num (pwv N b (2 ^ j * D))), (b14_1, 2, Fq.nraw m2 (some ⟨ad, off, none⟩) j2 cc2 zs (D : Int)), (b13_3, 2, Fq.num (z - (1))), (b11_1, 2, Fq.num (1)), (b6_4, 2, Fq.nraw m1 d1 j1 cc1 ys c), (b1, 2, Fq.num z)] w36 := E36
              rw [lay_all hL]
              simp only [putAll, dstOf, List.length_cons, List.length_nil, Nat.zero_add, Nat.reduceAdd, List.getElem?_toArray, List.getElem?_cons_zero, List.getElem?_cons_succ, Option.bind_some, Act.put, List.setIfInBounds_toArray, List.set_cons_succ, List.set_cons_zero]
              rw [e0, e1]
              clear e0 e1 hC hn E36 hL vs L nb
              clear HI HSD HS96 HD0 HB0 HALL HJS H1 HZ HO HZN HBI HB1 HBL HN HN3 HS HM HP HN0 HBB HC HC0
              clear B5 B10 B12 ha HA9 Bc BD Bx By
              go_wp2
              refine bodyPost_ret (v := .tuple #[.bool false, .int .i64 0]) ?_ rfl ⟨_, rfl, E.below, rfl⟩
              simp [results, Tryd.results9, go_sem]

end Go.Proofs.YtnhapjifddhdiaaDoor

namespace Go.Proofs.YtnhapjifddhdiaaDoor
open Go Go.RowKit

def witF (f : Nat → Bool) : Nat → Nat → Nat
  | 0, _ => 0
  | k + 1, b => if f b = true then witF f k (b + 1) else b
theorem witF_strong (n : Nat) : ∀ k b, witF (strongB n) k b = witB n k b
  | 0, _ => rfl
  | k + 1, b => by unfold witF witB; rw [witF_strong n k (b + 1)]
theorem witF_yes {f : Nat → Bool} {b : Nat} (hb : b ≤ 200) (h : f b = true) : witF f (201 - b) b = witF f (201 - (b + 1)) (b + 1) := by
  rw [show 201 - b = (201 - (b + 1)) + 1 by omega]
  exact if_pos h
theorem witF_no {f : Nat → Bool} {b : Nat} (hb : b ≤ 200) (h : f b = false) : witF f (201 - b) b = b := by
  rw [show 201 - b = (201 - (b + 1)) + 1 by omega]
  exact if_neg (by rw [h]; decide)
theorem enq_f_algorist_algoristref04_Witness (args : Array Value) (w : World) : (callFunc 11 args).run Tryd.prog w = .ok (.enter 11 args) w := enter_of Tryd.func11 (by kernel_rfl) rfl args w
theorem exR4StrongA {w : World} {v : Value} {z bi : Int} {N b : Nat} {S : Bool} (h : Num w v z) (ha : ab z < pw 3) (hz : z > 2) (ho : z % 2 = 1) (hzN : z = (N : Int)) (hbi : bi = (b : Int)) (hb : 1 ≤ b ∧ b ≤ 9223372036854775807) (hS : S = true ↔ StrongP N b) :
    Calls Tryd.prog 9 #[v, .int .i64 bi] w fun e w' => ∃ v', e = .returned v' ∧ Below w.heap.size w w' ∧ (Fq.tup2 (Fq.is (.bool S)) (Fq.is (.int .i64 0))).P v' w' := by
  rcases Nat.lt_or_ge N 18446744073709551616 with h3 | h3
  · have h4 := strongB_iff b (show 2 ≤ N by omega) (show N ≤ 2 ^ 64 by omega)
    have h5 : strongB N b = S := by
      cases hs : strongB N b <;> cases hS2 : S
      · rfl
      · have := h4.2 (hS.1 hS2); rw [hs] at this; cases this
      · have := hS.2 (h4.1 hs); rw [hS2] at this; cases this
      · rfl
    refine (exR4StrongN h ha hz ho hzN hbi hb h3 h5).mono ?_
    rintro e w' ⟨_, h1, h2, rfl⟩
    exact ⟨_, h1, h2, _, _, rfl, rfl, rfl⟩
  · refine (exR4StrongL h ha hz ho hzN hbi hb h3 hS).mono ?_
    rintro e w' ⟨_, h1, h2, rfl⟩
    exact ⟨_, h1, h2, _, _, rfl, rfl, rfl⟩
set_option maxRecDepth 100000 in
set_option maxHeartbeats 4000000 in
theorem exR4WitE {w : World} {v : Value} {z : Int} (h : Num w v z) (ha : ab z < pw 3) (hz : ¬ z > 9) :
    Calls Tryd.prog 11 #[v] w fun e w' => ∃ v', e = .returned v' ∧ Below w.heap.size w w' ∧ v' = .tuple #[.int .i64 0, .int .i64 1] := by
  replace ha := hidd ha
  obtain ⟨n0, ao0, k0, c0, rfl⟩ := h.parts
  obtain ⟨w1, b1, hw1, hb1, hs1, E⟩ := fr_start w (F := Fq.num z) (us := [.bool n0, .slice ao0 k0 c0]) 27 rfl (by simp) (tame_int _ _ _ _) h
  go_enter Tryd.func11, Tryd.ntmps11
  go_upto_region 1 with (fail)
  rw [← hw1]
  rw [← hb1]
  clear hw1 hb1 hs1
  have HA9 : Hid (ab z < pw 900) := Int.lt_of_lt_of_le ha.out (pw_le (by omega))
  have HZ := hidd hz
  clear hz
  refine region_fr (C := [Fq.num z, Fq.is (.bool false), Fq.is (.bool true)]) (ks := [none]) (new := []) E rfl (by kernel_rfl) rfl rfl (fun hp => ⟨?_, ?_, ?_, trivial⟩) ?_
  · exact q_loadInt (off := 0) hp (free_of rfl) trivial (List.mem_iff_getElem?.2 ⟨0, rfl⟩) (.inl rfl) (Nat.le_of_ble_eq_true rfl) (sq_out (s := 1) rfl rfl (fun _ _ => rfl)) (fun us w hl h => ld_num hl h)
  · exact q_call2 (F := (Fq.num z).P) (G := (Fq.is (.int .i64 9)).P) hp (free_of rfl) trivial (enq_f_algorist_algoristref04_odd) (sqi 0) (sq_const (fun _ => rfl)) (fun v v' w h h' => (by subst h'; exact exROddE h HA9.out (by omega) HZ.out))
  · exact q_one (F := fun v _ => v = .bool false) hp (free_of rfl) trivial (sqi 1) (fun ρ w _ h => ⟨.bool true, by simp [execOp, go_sem, h], rfl⟩)
  intro L vs w2 nb hL hC hn E2
  have e1 : vs 1 = .bool false := hC 1 (by simp)
  have e2 : vs 2 = .bool true := hC 2 (by simp)
  have E : Fr w [(b1, 2, Fq.num z)] w2 := E2
  rw [lay_all hL]
  simp only [putAll, dstOf, List.length_cons, List.length_nil, Nat.zero_add, Nat.reduceAdd, List.getElem?_toArray, List.getElem?_cons_zero, List.getElem?_cons_succ, Option.bind_some, Act.put, List.setIfInBounds_toArray, List.set_cons_succ, List.set_cons_zero]
  rw [e1, e2]
  generalize vs 0 = u2_0
  clear e1 e2 hC hn E2 hL vs L nb
  clear HZ
  go_upto_region 2 with (fail)
  refine region_fr (C := [Fq.is (.int .i64 0), Fq.is (.int .i64 1)]) (ks := [none]) (new := []) E rfl (by kernel_rfl) rfl rfl (fun hp => ⟨?_, ?_, trivial⟩) ?_
  · exact q_assign hp (free_of rfl) trivial (sq_const (fun _ => rfl))
  · exact q_assign hp (free_of rfl) trivial (sq_const (fun _ => rfl))
  intro L vs w3 nb hL hC hn E3
  have e0 : vs 0 = .int .i64 0 := hC 0 (by simp)
  have e1 : vs 1 = .int .i64 1 := hC 1 (by simp)
  have E : Fr w [(b1, 2, Fq.num z)] w3 := E3
  rw [lay_all hL]
  simp only [putAll, dstOf, List.length_cons, List.length_nil, Nat.zero_add, Nat.reduceAdd, List.getElem?_toArray, List.getElem?_cons_zero, List.getElem?_cons_succ, Option.bind_some, Act.put, List.setIfInBounds_toArray, List.set_cons_succ, List.set_cons_zero]
  rw [e0, e1]
  clear e0 e1 hC hn E3 hL vs L nb
  clear ha HA9
  go_wp2
  refine bodyPost_ret (v := .tuple #[.int .i64 0, .int .i64 1]) ?_ rfl ⟨_, rfl, E.below, rfl⟩
  simp [results, Tryd.results11, go_sem]

set_option maxRecDepth 100000 in
set_option maxHeartbeats 4000000 in
theorem exR4WitV {w : World} {v : Value} {z : Int} (h : Num w v z) (ha : ab z < pw 3) (hz : z > 9) (ho : z % 2 = 0) :
    Calls Tryd.prog 11 #[v] w fun e w' => ∃ v', e = .returned v' ∧ Below w.heap.size w w' ∧ v' = .tuple #[.int .i64 0, .int .i64 1] := by
  replace ha := hidd ha
  obtain ⟨n0, ao0, k0, c0, rfl⟩ := h.parts
  obtain ⟨w1, b1, hw1, hb1, hs1, E⟩ := fr_start w (F := Fq.num z) (us := [.bool n0, .slice ao0 k0 c0]) 27 rfl (by simp) (tame_int _ _ _ _) h
  go_enter Tryd.func11, Tryd.ntmps11
  go_upto_region 1 with (fail)
  rw [← hw1]
  rw [← hb1]
  clear hw1 hb1 hs1
  have HA9 : Hid (ab z < pw 900) := Int.lt_of_lt_of_le ha.out (pw_le (by omega))
  have HZ := hidd hz
  clear hz
  have HO := hidd ho
  clear ho
  refine region_fr (C := [Fq.num z, Fq.is (.bool false), Fq.is (.bool true)]) (ks := [none]) (new := []) E rfl (by kernel_rfl) rfl rfl (fun hp => ⟨?_, ?_, ?_, trivial⟩) ?_
  · exact q_loadInt (off := 0) hp (free_of rfl) trivial (List.mem_iff_getElem?.2 ⟨0, rfl⟩) (.inl rfl) (Nat.le_of_ble_eq_true rfl) (sq_out (s := 1) rfl rfl (fun _ _ => rfl)) (fun us w hl h => ld_num hl h)
  · exact q_call2 (F := (Fq.num z).P) (G := (Fq.is (.int .i64 9)).P) hp (free_of rfl) trivial (enq_f_algorist_algoristref04_odd) (sqi 0) (sq_const (fun _ => rfl)) (fun v v' w h h' => (by subst h'; exact exROddN h HA9.out (by omega) (by omega) HZ.out HO.out))
  · exact q_one (F := fun v _ => v = .bool false) hp (free_of rfl) trivial (sqi 1) (fun ρ w _ h => ⟨.bool true, by simp [execOp, go_sem, h], rfl⟩)
  intro L vs w2 nb hL hC hn E2
  have e1 : vs 1 = .bool false := hC 1 (by simp)
  have e2 : vs 2 = .bool true := hC 2 (by simp)
  have E : Fr w [(b1, 2, Fq.num z)] w2 := E2
  rw [lay_all hL]
  simp only [putAll, dstOf, List.length_cons, List.length_nil, Nat.zero_add, Nat.reduceAdd, List.getElem?_toArray, List.getElem?_cons_zero, List.getElem?_cons_succ, Option.bind_some, Act.put, List.setIfInBounds_toArray, List.set_cons_succ, List.set_cons_zero]
  rw [e1, e2]
  generalize vs 0 = u2_0
  clear e1 e2 hC hn E2 hL vs L nb
  clear HZ HO
  go_upto_region 2 with (fail)
  refine region_fr (C := [Fq.is (.int .i64 0), Fq.is (.int .i64 1)]) (ks := [none]) (new := []) E rfl (by kernel_rfl) rfl rfl (fun hp => ⟨?_, ?_, trivial⟩) ?_
  · exact q_assign hp (free_of rfl) trivial (sq_const (fun _ => rfl))
  · exact q_assign hp (free_of rfl) trivial (sq_const (fun _ => rfl))
  intro L vs w3 nb hL hC hn E3
  have e0 : vs 0 = .int .i64 0 := hC 0 (by simp)
  have e1 : vs 1 = .int .i64 1 := hC 1 (by simp)
  have E : Fr w [(b1, 2, Fq.num z)] w3 := E3
  rw [lay_all hL]
  simp only [putAll, dstOf, List.length_cons, List.length_nil, Nat.zero_add, Nat.reduceAdd, List.getElem?_toArray, List.getElem?_cons_zero, List.getElem?_cons_succ, Option.bind_some, Act.put, List.setIfInBounds_toArray, List.set_cons_succ, List.set_cons_zero]
  rw [e0, e1]
  clear e0 e1 hC hn E3 hL vs L nb
  clear ha HA9
  go_wp2
  refine bodyPost_ret (v := .tuple #[.int .i64 0, .int .i64 1]) ?_ rfl ⟨_, rfl, E.below, rfl⟩
  simp [results, Tryd.results11, go_sem]

set_option maxRecDepth 100000 in
set_option maxHeartbeats 4000000 in
theorem exR4Witness {w : World} {v : Value} {z er : Int} {N R : Nat} {f : Nat → Bool} (h : Num w v z) (ha : ab z < pw 3) (hz : z > 9) (ho : z % 2 = 1) (hzN : z = (N : Int)) (hf : ∀ b, f b = true ↔ StrongP N b) (hR : R = witF f 199 2) (her : er = if R = 0 then 6 else 0) :
    Calls Tryd.prog 11 #[v] w fun e w' => ∃ v', e = .returned v' ∧ Below w.heap.size w w' ∧ v' = .tuple #[.int .i64 (R : Int), .int .i64 er] := by
  replace ha := hidd ha
  obtain ⟨n0, ao0, k0, c0, rfl⟩ := h.parts
  obtain ⟨w1, b1, hw1, hb1, hs1, E⟩ := fr_start w (F := Fq.num z) (us := [.bool n0, .slice ao0 k0 c0]) 27 rfl (by simp) (tame_int _ _ _ _) h
  go_enter Tryd.func11, Tryd.ntmps11
  go_upto_region 1 with (fail)
  rw [← hw1]
  rw [← hb1]
  clear hw1 hb1 hs1
  have HA9 : Hid (ab z < pw 900) := Int.lt_of_lt_of_le ha.out (pw_le (by omega))
  have HZ := hidd hz
  have HO := hidd ho
  have HZN := hidd hzN
  have HF := hidd hf
  have HER := hidd her
  have H0 : Hid (witF f (201 - 2) 2 = R) := hR.symm
  clear hz ho hzN hf her hR
  refine region_fr (C := [Fq.num z, Fq.is (.bool true), Fq.is (.bool false)]) (ks := [none]) (new := []) E rfl (by kernel_rfl) rfl rfl (fun hp => ⟨?_, ?_, ?_, trivial⟩) ?_
  · exact q_loadInt (off := 0) hp (free_of rfl) trivial (List.mem_iff_getElem?.2 ⟨0, rfl⟩) (.inl rfl) (Nat.le_of_ble_eq_true rfl) (sq_out (s := 1) rfl rfl (fun _ _ => rfl)) (fun us w hl h => ld_num hl h)
  · exact q_call2 (F := (Fq.num z).P) (G := (Fq.is (.int .i64 9)).P) hp (free_of rfl) trivial (enq_f_algorist_algoristref04_odd) (sqi 0) (sq_const (fun _ => rfl)) (fun v v' w h h' => (by subst h'; exact exROddT h HA9.out (by omega) (by omega) HZ.out HO.out))
  · exact q_one (F := fun v _ => v = .bool true) hp (free_of rfl) trivial (sqi 1) (fun ρ w _ h => ⟨.bool false, by simp [execOp, go_sem, h], rfl⟩)
  intro L vs w2 nb hL hC hn E2
  have e1 : vs 1 = .bool true := hC 1 (by simp)
  have e2 : vs 2 = .bool false := hC 2 (by simp)
  have E : Fr w [(b1, 2, Fq.num z)] w2 := E2
  rw [lay_all hL]
  simp only [putAll, dstOf, List.length_cons, List.length_nil, Nat.zero_add, Nat.reduceAdd, List.getElem?_toArray, List.getElem?_cons_zero, List.getElem?_cons_succ, Option.bind_some, Act.put, List.setIfInBounds_toArray, List.set_cons_succ, List.set_cons_zero]
  rw [e1, e2]
  generalize vs 0 = u2_0
  clear e1 e2 hC hn E2 hL vs L nb
  go_upto_region 3 with (fail)
  refine region_fr (C := [Fq.is (.int .i64 2)]) (ks := [none]) (new := []) E rfl (by kernel_rfl) rfl rfl (fun hp => ⟨?_, trivial⟩) ?_
  · exact q_assign hp (free_of rfl) trivial (sq_const (fun _ => rfl))
  intro L vs w3 nb hL hC hn E3
  have e0 : vs 0 = .int .i64 2 := hC 0 (by simp)
  have E : Fr w [(b1, 2, Fq.num z)] w3 := E3
  rw [lay_all hL]
  simp only [putAll, dstOf, List.length_cons, List.length_nil, Nat.zero_add, List.getElem?_toArray, List.getElem?_cons_zero, Option.bind_some, Act.put, List.setIfInBounds_toArray, List.set_cons_succ, List.set_cons_zero]
  rw [e0]
  clear e0 hC hn E3 hL vs L nb
  have HSE := hidd E
  go_upto_region 4 with (fail)
  go_loopw [4] (fun vi W => ∃ b : Nat, vi = .int .i64 (b : Int) ∧ 2 ≤ b ∧ b ≤ 201 ∧ witF f (201 - b) b = R ∧ Fr w [(b1, 2, Fq.num z)] W) (fun vi _ => 201 - (intOf vi).toNat)
  case atStart => exact ⟨2, rfl, by omega, by omega, H0.out, HSE.out⟩
  case round =>
    obtain ⟨b, rfl, hb0, hb1, hr, E⟩ := hrel
    clear HSE H0
    have HR := hidd hr
    have HB := hidd (And.intro hb0 hb1)
    obtain ⟨bi, hbi⟩ : ∃ bi, bi = (b : Int) := ⟨_, rfl⟩
    rw [← hbi]
    have HBI := hidd hbi
    clear hr hb0 hb1
    by_cases hb2 : b ≤ 200
    · have TL : Hid (bi ≤ 200) := by show bi ≤ 200; omega
      have HB2 := hidd hb2
      obtain ⟨S, hS⟩ : ∃ S, S = f b := ⟨_, rfl⟩
      have HS := hidd hS
      have HSP : Hid (S = true ↔ StrongP N b) := by show _ ↔ _; rw [hS]; exact HF.out b
      clear hbi hb2 hS
      go_upto_region 4 with (fail)
      refine region_fr (C := [Fq.is (.int .i64 bi), Fq.is (.bool true)]) (ks := [none]) (new := []) E rfl (by kernel_rfl) rfl rfl (fun hp => ⟨?_, ?_, trivial⟩) ?_
      · exact q_move hp (free_of rfl) trivial (sq_out (s := 4) rfl rfl (fun _ _ => rfl))
      · exact q_one (F := fun v _ => v = .int .i64 bi) hp (free_of rfl) trivial (sqi 0) (fun ρ w hc h => ⟨.bool true, by simp [execOp, go_sem, h, hc, TL.out], rfl⟩)
      intro L vs w4 nb hL hC hn E4
      have e0 : vs 0 = .int .i64 bi := hC 0 (by simp)
      have e1 : vs 1 = .bool true := hC 1 (by simp)
      have E : Fr w [(b1, 2, Fq.num z)] w4 := E4
      rw [lay_all hL]
      simp only [putAll, dstOf, List.length_cons, List.length_nil, Nat.zero_add, Nat.reduceAdd, List.getElem?_toArray, List.getElem?_cons_zero, List.getElem?_cons_succ, Option.bind_some, Act.put, List.setIfInBounds_toArray, List.set_cons_succ, List.set_cons_zero]
      rw [e0, e1]
      clear e0 e1 hC hn E4 hL vs L nb
      clear TL
      go_upto_region 6 with (fail)
      refine region_fr (C := [Fq.num z, Fq.is (.int .i64 bi), Fq.tup2 (Fq.is (.bool S)) (Fq.is (.int .i64 0)), Fq.tup2 (Fq.is (.bool S)) (Fq.is (.int .i64 0)), Fq.is (.bool S), Fq.is (.int .i64 0), Fq.is (.bool S), Fq.is (.int .i64 0)]) (ks := [none]) (new := []) E rfl (by kernel_rfl) rfl rfl (fun hp => ⟨?_, ?_, ?_, ?_, ?_, ?_, ?_, ?_, trivial⟩) ?_
      · exact q_loadInt (off := 0) hp (free_of rfl) trivial (List.mem_iff_getElem?.2 ⟨0, rfl⟩) (.inl rfl) (Nat.le_of_ble_eq_true rfl) (sq_out (s := 1) rfl rfl (fun _ _ => rfl)) (fun us w hl h => ld_num hl h)
      · exact q_move hp (free_of rfl) trivial (sq_out (s := 4) rfl rfl (fun _ _ => rfl))
      · exact q_call2 (F := (Fq.num z).P) (G := (Fq.is (.int .i64 bi)).P) hp (free_of rfl) trivial (enq_f_algorist_algoristref04_Strong) (sqi 0) (sqi 1) (fun v v' w h h' => (by subst h'; exact exR4StrongA h ha.out (by have := HZ.out; omega) HO.out HZN.out HBI.out (by have := HB.out; omega) HSP.out))
      · exact q_move hp (free_of rfl) trivial (sqi 2)
      · exact q_extract2 hp (free_of rfl) trivial (sqi 3) (fun v1 v2 w h1 h2 => ⟨_, rfl, h1⟩)
      · exact q_extract2 hp (free_of rfl) trivial (sqi 3) (fun v1 v2 w h1 h2 => ⟨_, rfl, h2⟩)
      · exact q_assign hp (free_of rfl) trivial (sqi 4)
      · exact q_assign hp (free_of rfl) trivial (sqi 5)
      intro L vs w5 nb hL hC hn E5
      have e1 : vs 1 = .int .i64 bi := hC 1 (by simp)
      have e4 : vs 4 = .bool S := hC 4 (by simp)
      have e5 : vs 5 = .int .i64 0 := hC 5 (by simp)
      have e6 : vs 6 = .bool S := hC 6 (by simp)
      have e7 : vs 7 = .int .i64 0 := hC 7 (by simp)
      have E : Fr w [(b1, 2, Fq.num z)] w5 := E5
      rw [lay_all hL]
      simp only [putAll, dstOf, List.length_cons, List.length_nil, Nat.zero_add, Nat.reduceAdd, List.getElem?_toArray, List.getElem?_cons_zero, List.getElem?_cons_succ, Option.bind_some, Act.put, List.setIfInBounds_toArray, List.set_cons_succ, List.set_cons_zero]
      rw [e1, e4, e5, e6, e7]
      generalize vs 0 = u5_0
      generalize vs 2 = u5_2
      generalize vs 3 = u5_3
      clear e1 e4 e5 e6 e7 hC hn E5 hL vs L nb
      clear HSP
      by_cases ht : S = true
      · subst ht
        obtain ⟨t, htb⟩ : ∃ t, t = b + 1 := ⟨_, rfl⟩
        have WJ : Hid (IntKind.i64.wrap (bi + 1) = (t : Int)) := by show _ = _; rw [show bi + 1 = (t : Int) by have := HBI.out; omega]; exact IntWalk.i64_in _ (by have := HB2.out; omega)
        have HTB := hidd htb
        clear htb
        go_upto_region 7 with (fail)
        refine region_fr (C := [Fq.is (.bool true), Fq.is (.bool false)]) (ks := [none]) (new := []) E rfl (by kernel_rfl) rfl rfl (fun hp => ⟨?_, ?_, trivial⟩) ?_
        · exact q_move hp (free_of rfl) trivial (sq_out (s := 5) rfl rfl (fun _ _ => rfl))
        · exact q_one (F := fun v _ => v = .bool true) hp (free_of rfl) trivial (sqi 0) (fun ρ w _ h => ⟨.bool false, by simp [execOp, go_sem, h], rfl⟩)
        intro L vs w6 nb hL hC hn E6
        have e0 : vs 0 = .bool true := hC 0 (by simp)
        have e1 : vs 1 = .bool false := hC 1 (by simp)
        have E : Fr w [(b1, 2, Fq.num z)] w6 := E6
        rw [lay_all hL]
        simp only [putAll, dstOf, List.length_cons, List.length_nil, Nat.zero_add, Nat.reduceAdd, List.getElem?_toArray, List.getElem?_cons_zero, List.getElem?_cons_succ, Option.bind_some, Act.put, List.setIfInBounds_toArray, List.set_cons_succ, List.set_cons_zero]
        rw [e0, e1]
        clear e0 e1 hC hn E6 hL vs L nb
        go_upto_region 5 with (fail)
        refine region_fr (C := [Fq.is (.int .i64 bi), Fq.is (.int .i64 (t : Int)), Fq.is (.int .i64 (t : Int))]) (ks := [none]) (new := []) E rfl (by kernel_rfl) rfl rfl (fun hp => ⟨?_, ?_, ?_, trivial⟩) ?_
        · exact q_moveB 2 3 hp (free_of rfl) trivial rfl rfl rfl rfl (fun _ => rfl)
        · exact q_one (F := fun v _ => v = .int .i64 bi) hp (free_of rfl) trivial (sqi 0) (fun ρ w hc h => ⟨.int .i64 (t : Int), by simp [execOp, go_sem, h, hc, WJ.out], rfl⟩)
        · exact q_assign hp (free_of rfl) trivial (sqi 1)
        intro L vs w7 nb hL hC hn E7
        have e0 : vs 0 = .int .i64 bi := hC 0 (by simp)
        have e1 : vs 1 = .int .i64 (t : Int) := hC 1 (by simp)
        have e2 : vs 2 = .int .i64 (t : Int) := hC 2 (by simp)
        have E : Fr w [(b1, 2, Fq.num z)] w7 := E7
        rw [lay_all hL]
        simp only [putAll, dstOf, List.length_cons, List.length_nil, Nat.zero_add, Nat.reduceAdd, List.getElem?_toArray, List.getElem?_cons_zero, List.getElem?_cons_succ, Option.bind_some, Act.put, List.setIfInBounds_toArray, List.set_cons_succ, List.set_cons_zero]
        rw [e0, e1, e2]
        clear e0 e1 e2 hC hn E7 hL vs L nb
        clear WJ
        go_wp2
        go_roundw
        case rel => exact ⟨t, rfl, by have := HTB.out; have := HB.out; omega, by have := HTB.out; have := HB2.out; omega, by rw [← HR.out, witF_yes HB2.out HS.out.symm, ← HTB.out], E⟩
        case measure => have := HTB.out; have := HB2.out; have := HBI.out; simp [intOf]; omega
      · have ht2 : S = false := by cases S <;> simp_all
        subst ht2
        have er0 : er = 0 := by rw [HER.out, if_neg]; rw [← HR.out, witF_no HB2.out HS.out.symm]; have := HB.out; omega
        have eR : bi = (R : Int) := by rw [← HR.out, witF_no HB2.out HS.out.symm]; exact HBI.out
        subst er0
        subst eR
        clear ht
        go_upto_region 7 with (fail)
        refine region_fr (C := [Fq.is (.bool false), Fq.is (.bool true)]) (ks := [none]) (new := []) E rfl (by kernel_rfl) rfl rfl (fun hp => ⟨?_, ?_, trivial⟩) ?_
        · exact q_move hp (free_of rfl) trivial (sq_out (s := 5) rfl rfl (fun _ _ => rfl))
        · exact q_one (F := fun v _ => v = .bool false) hp (free_of rfl) trivial (sqi 0) (fun ρ w _ h => ⟨.bool true, by simp [execOp, go_sem, h], rfl⟩)
        intro L vs w8 nb hL hC hn E8
        have e0 : vs 0 = .bool false := hC 0 (by simp)
        have e1 : vs 1 = .bool true := hC 1 (by simp)
        have E : Fr w [(b1, 2, Fq.num z)] w8 := E8
        rw [lay_all hL]
        simp only [putAll, dstOf, List.length_cons, List.length_nil, Nat.zero_add, Nat.reduceAdd, List.getElem?_toArray, List.getElem?_cons_zero, List.getElem?_cons_succ, Option.bind_some, Act.put, List.setIfInBounds_toArray, List.set_cons_succ, List.set_cons_zero]
        rw [e0, e1]
        clear e0 e1 hC hn E8 hL vs L nb
        go_upto_region 8 with (fail)
        refine region_fr (C := [Fq.is (.int .i64 (R : Int)), Fq.is (.int .i64 (R : Int)), Fq.is (.int .i64 0)]) (ks := [none]) (new := []) E rfl (by kernel_rfl) rfl rfl (fun hp => ⟨?_, ?_, ?_, trivial⟩) ?_
        · exact q_move hp (free_of rfl) trivial (sq_out (s := 4) rfl rfl (fun _ _ => rfl))
        · exact q_assign hp (free_of rfl) trivial (sqi 0)
        · exact q_assign hp (free_of rfl) trivial (sq_const (fun _ => rfl))
        intro L vs w9 nb hL hC hn E9
        have e0 : vs 0 = .int .i64 (R : Int) := hC 0 (by simp)
        have e1 : vs 1 = .int .i64 (R : Int) := hC 1 (by simp)
        have e2 : vs 2 = .int .i64 0 := hC 2 (by simp)
        have E : Fr w [(b1, 2, Fq.num z)] w9 := E9
        rw [lay_all hL]
        simp only [putAll, dstOf, List.length_cons, List.length_nil, Nat.zero_add, Nat.reduceAdd, List.getElem?_toArray, List.getElem?_cons_zero, List.getElem?_cons_succ, Option.bind_some, Act.put, List.setIfInBounds_toArray, List.set_cons_succ, List.set_cons_zero]
        rw [e0, e1, e2]
        clear e0 e1 e2 hC hn E9 hL vs L nb
        clear HZ HO HZN HF HER HR HB HB2 HS HBI
        clear ha HA9
        go_wp2
        refine bodyPost_ret (v := .tuple #[.int .i64 (R : Int), .int .i64 0]) ?_ rfl ⟨_, rfl, E.below, rfl⟩
        simp [results, Tryd.results11, go_sem]
    · have TL : Hid (¬ bi ≤ 200) := by show ¬ _; omega
      have R0 : R = 0 := by rw [← HR.out, show 201 - b = 0 by omega]; rfl
      have er6 : er = 6 := by rw [HER.out, if_pos R0]
      subst R0
      subst er6
      clear hb2 hbi
      go_upto_region 4 with (fail)
      refine region_fr (C := [Fq.is (.int .i64 bi), Fq.is (.bool false)]) (ks := [none]) (new := []) E rfl (by kernel_rfl) rfl rfl (fun hp => ⟨?_, ?_, trivial⟩) ?_
      · exact q_move hp (free_of rfl) trivial (sq_out (s := 4) rfl rfl (fun _ _ => rfl))
      · exact q_one (F := fun v _ => v = .int .i64 bi) hp (free_of rfl) trivial (sqi 0) (fun ρ w hc h => ⟨.bool false, by simp [execOp, go_sem, h, hc, TL.out], rfl⟩)
      intro L vs w10 nb hL hC hn E10
      have e0 : vs 0 = .int .i64 bi := hC 0 (by simp)
      have e1 : vs 1 = .bool false := hC 1 (by simp)
      have E : Fr w [(b1, 2, Fq.num z)] w10 := E10
      rw [lay_all hL]
      simp only [putAll, dstOf, List.length_cons, List.length_nil, Nat.zero_add, Nat.reduceAdd, List.getElem?_toArray, List.getElem?_cons_zero, List.getElem?_cons_succ, Option.bind_some, Act.put, List.setIfInBounds_toArray, List.set_cons_succ, List.set_cons_zero]
      rw [e0, e1]
      clear e0 e1 hC hn E10 hL vs L nb
      clear TL
      go_upto_region 9 with (fail)
      refine region_fr (C := [Fq.is (.int .i64 0), Fq.is (.int .i64 6)]) (ks := [none]) (new := []) E rfl (by kernel_rfl) rfl rfl (fun hp => ⟨?_, ?_, trivial⟩) ?_
      · exact q_assign hp (free_of rfl) trivial (sq_const (fun _ => rfl))
      · exact q_assign hp (free_of rfl) trivial (sq_const (fun _ => rfl))
      intro L vs w11 nb hL hC hn E11
      have e0 : vs 0 = .int .i64 0 := hC 0 (by simp)
      have e1 : vs 1 = .int .i64 6 := hC 1 (by simp)
      have E : Fr w [(b1, 2, Fq.num z)] w11 := E11
      rw [lay_all hL]
      simp only [putAll, dstOf, List.length_cons, List.length_nil, Nat.zero_add, Nat.reduceAdd, List.getElem?_toArray, List.getElem?_cons_zero, List.getElem?_cons_succ, Option.bind_some, Act.put, List.setIfInBounds_toArray, List.set_cons_succ, List.set_cons_zero]
      rw [e0, e1]
      clear e0 e1 hC hn E11 hL vs L nb
      clear HZ HO HZN HF HER HR HB HBI
      clear ha HA9
      go_wp2
      refine bodyPost_ret (v := .tuple #[.int .i64 ((0 : Nat) : Int), .int .i64 6]) ?_ rfl ⟨_, rfl, E.below, rfl⟩
      simp [results, Tryd.results11, go_sem]

end Go.Proofs.YtnhapjifddhdiaaDoor

namespace Go.Proofs.YtnhapjifddhdiaaDoor
open Go Go.RowKit

theorem enq_f_algorist_prime_bit (args : Array Value) (w : World) : (callFunc 54 args).run Tryd.prog w = .ok (.enter 54 args) w := enter_of Tryd.func54 (by kernel_rfl) rfl args w
set_option maxRecDepth 20000 in
set_option maxHeartbeats 1000000 in
theorem pbit_any (w : World) (na : Bool) (ax : Option Addr) (n cx : Nat) (xs : List Int) (hX : Sl w ax n cx xs) (hb1 : n ≤ 1000000) (i : Nat) (hi : i < 32 * n) :
    Calls Tryd.prog 54 #[.agg #[.bool na, .slice ax n cx], .int .i64 (i : Int)] w fun e w' => e = .returned (.bool (decide ((val xs / 2 ^ i) % 2 = 1))) ∧ Below w.heap.size w w' := by
  have hX0 := hX.mono (alloc_below w (.cells #[.bool na, .slice ax n cx] 27))
  have hk : i / 32 < n := by omega
  obtain ⟨b, off, rfl, hbl, x, hxc, hx0, hx1, HX⟩ := hX0.cells.at (k := i / 32) (by rw [hX.len]; exact hk)
  have hB := bit_of_val hX.digs (k := i / 32) (r := i % 32) (by rw [hX.len]; exact hk) (by omega)
  rw [HX.out, show 32 * (i / 32) + i % 32 = i by omega] at hB
  rw [hB]
  have e3 : 0 ≤ x / 2 ^ (i % 32) ∧ x / 2 ^ (i % 32) < 4294967296 := by
    have h := Int.ediv_nonneg hx0 (show (0 : Int) ≤ 2 ^ (i % 32) by have := pow_two_pos (i % 32); omega)
    have h2 := Int.ediv_le_self (a := x) (2 ^ (i % 32)) hx0
    omega
  have e4 := and_one _ e3.1 e3.2
  have g1 : (0 : Int) ≤ (i : Int) / 32 ∧ (i : Int) / 32 < n := by omega
  have g2 : (0 : Int) ≤ (i : Int) % 32 := by omega
  have g3 : IntKind.u64.wrap ((i : Int) % 32) = (i : Int) % 32 := by rw [u64_wrap]; omega
  have HB := hidd hB
  clear hB
  go_enter Tryd.func54, Tryd.ntmps54
  go_wp2
  go_ret
  refine ⟨?_, alloc_below _ _⟩
  by_cases h : x / 2 ^ (i % 32) % 2 = 1 <;> simp [h]
theorem exPBit {w : World} {v : Value} {z : Int} {i : Nat} {t : Bool} (h : Num w v z) (hi : i < nbits z) (ht : decide (z.natAbs / 2 ^ i % 2 = 1) = t) : Calls Tryd.prog 54 #[v, .int .i64 (i : Int)] w fun e w' => ∃ v', e = .returned v' ∧ Below w.heap.size w w' ∧ v' = .bool t := by
  obtain ⟨neg, ao, n, c, xs, rfl, hs, hn, hz, hc, _⟩ := h
  have h1 : ab z = val xs := by rw [hz, ab_sgn, ab_of (val_nonneg hs.digs)]
  have h2 : ab z < pw n := by rw [h1]; have := val_lt hs.digs; rwa [hs.len] at this
  refine (pbit_any _ _ _ _ _ _ hs (by omega) i (by have := nbits_le h2; omega)).mono fun e w' hh => ?_
  refine ⟨_, hh.1, hh.2, ?_⟩
  rw [← ht, ← h1]
  congr 2
  unfold ab
  refine propext ⟨fun h => ?_, fun h => ?_⟩
  · have : (((z.natAbs / 2 ^ i % 2 : Nat)) : Int) = 1 := by simpa using h
    exact_mod_cast this
  · have : (((z.natAbs / 2 ^ i % 2 : Nat)) : Int) = 1 := by exact_mod_cast h
    simpa using this

end Go.Proofs.YtnhapjifddhdiaaDoor

namespace Go.Proofs.YtnhapjifddhdiaaDoor
open Go Go.RowKit

def Test (w : World) (v : Value) (n m s : Int) : Prop := ∃ a b c d a' b' c' d', v = .agg #[.bool a, .slice b c d, .bool a', .slice b' c' d', .int .i64 s] ∧ Num w (.agg #[.bool a, .slice b c d]) n ∧ Num w (.agg #[.bool a', .slice b' c' d']) m
def Fq.test (n m s : Int) : Fq := ⟨fun v w => Test w v n m s, fun ⟨a, b, c, d, a', b', c', d', e, h1, h2⟩ hb => ⟨a, b, c, d, a', b', c', d', e, h1.mono hb, h2.mono hb⟩, fun ⟨a, b, c, d, a', b', c', d', e, h1, h2⟩ ha ht hl => ⟨a, b, c, d, a', b', c', d', e, h1.putAt ha ht hl, h2.putAt ha ht hl⟩⟩
theorem Test.parts {w : World} {v : Value} {n m s : Int} (h : Test w v n m s) : ∃ a b c d a' b' c' d', v = .agg #[.bool a, .slice b c d, .bool a', .slice b' c' d', .int .i64 s] ∧ Num w (.agg #[.bool a, .slice b c d]) n ∧ Num w (.agg #[.bool a', .slice b' c' d']) m := h
theorem tame_test (n : Bool) (ao : Option Addr) (k c : Nat) (n' : Bool) (ao' : Option Addr) (k' c' : Nat) (r : Int) : Tame [.bool n, .slice ao k c, .bool n', .slice ao' k' c', .int .i64 r] := by
  intro u hu q e
  simp at hu
  rcases hu with rfl | rfl | rfl | rfl | rfl <;> cases e
theorem ld_test0 {us : List Value} {w : World} {z y r : Int} (hl : us.length = 5) (h : (Fq.test z y r).P (.agg us.toArray) w) : Num w (.agg #[us.getD 0 undef, us.getD (0 + 1) undef]) z := by
  match us, hl with
  | [u0, u1, u2, u3, u4], _ =>
    obtain ⟨_, _, _, _, _, _, _, _, e, h1, h2⟩ := h
    injection e with e
    have e2 := congrArg Array.toList e
    simp at e2
    obtain ⟨rfl, rfl, rfl, rfl, rfl⟩ := e2
    exact h1
theorem ld_test2 {us : List Value} {w : World} {z y r : Int} (hl : us.length = 5) (h : (Fq.test z y r).P (.agg us.toArray) w) : Num w (.agg #[us.getD 2 undef, us.getD (2 + 1) undef]) y := by
  match us, hl with
  | [u0, u1, u2, u3, u4], _ =>
    obtain ⟨_, _, _, _, _, _, _, _, e, h1, h2⟩ := h
    injection e with e
    have e2 := congrArg Array.toList e
    simp at e2
    obtain ⟨rfl, rfl, rfl, rfl, rfl⟩ := e2
    exact h2
theorem ld_test4 {us : List Value} {w : World} {z y r : Int} (hl : us.length = 5) (h : (Fq.test z y r).P (.agg us.toArray) w) : us.getD 4 undef = .int .i64 r := by
  match us, hl with
  | [u0, u1, u2, u3, u4], _ =>
    obtain ⟨_, _, _, _, _, _, _, _, e, h1, h2⟩ := h
    injection e with e
    have e2 := congrArg Array.toList e
    simp at e2
    obtain ⟨rfl, rfl, rfl, rfl, rfl⟩ := e2
    rfl
section
variable {os : List Oper} {Q : Exit → Act → World → Prop} {a : Act} {p : Pq} {B B0 : Nat} {w0 : World}
variable {i s : Nat} {d : Option Tmp} {ty : TypeId} {ps : String} {af : Array Edge} {gd : Option (Nat × Bool)}
theorem q_loadTs {o : Ob} {x : Operand} {r : Int} (hp : p.Ok B B0) (hF : p.Free i) (hg : GdQ os a p B B0 w0 af gd) (ho : o ∈ p.old) (hk : o.F1 = o.F0 ∨ leadsB os 9 o.k i = true) (hm : o.m = 5)
    (hx : SrcQ os a p B B0 w0 af x fun u _ => u = .pointer (some ⟨o.b, 4, none⟩)) (hC : ∀ (us : List Value) (w : World), us.length = o.m → o.F0.P (.agg us.toArray) w → us.getD 4 undef = .int .i64 r) (hI : ∀ w, (p.c i).P (.int .i64 r) w) :
    StepQ os Q a p B B0 w0 i { dst := d, op := .load 3 x, type := ty, pos := ps, after := af, guard := gd } := by
  refine stq_val hp hF hg fun L vs w hG hL hc hd => ?_
  obtain ⟨us, hl, h0, hat, ht, hP⟩ := box_now ho hk hG hL hc
  have e := hx L vs w hG hd
  have c2 := (hat 4 (by omega)).1
  rw [hC us w hl hP] at c2
  refine ⟨_, ?_, hI w⟩
  generalize (lay os.toArray L vs os.toArray.size a).eval = ρ at e
  simp [execOp, go_sem, e, c2]
theorem q_loadTest {o : Ob} {x : Operand} (hp : p.Ok B B0) (hF : p.Free i) (hg : GdQ os a p B B0 w0 af gd) (ho : o ∈ p.old) (hk : o.F1 = o.F0 ∨ leadsB os 9 o.k i = true) (hm : o.m = 5)
    (hx : SrcQ os a p B B0 w0 af x fun u _ => u = .pointer (some ⟨o.b, 0, none⟩)) (hC : ∀ (us : List Value) (w : World), us.length = o.m → o.F0.P (.agg us.toArray) w → (p.c i).P (.agg us.toArray) w) :
    StepQ os Q a p B B0 w0 i { dst := d, op := .load 55 x, type := ty, pos := ps, after := af, guard := gd } := by
  refine stq_val hp hF hg fun L vs w hG hL hc hd => ?_
  obtain ⟨us, hl, h0, hat, ht, hP⟩ := box_now ho hk hG hL hc
  have e := hx L vs w hG hd
  refine ⟨_, ?_, hC us w hl hP⟩
  rw [hm] at hl
  match us, hl, hat with
  | [p, q, r, s, t], _, hat =>
    have c0 := (hat 0 (by simp)).1
    have c1 := (hat 1 (by simp)).1
    have c2 := (hat 2 (by simp)).1
    have c3 := (hat 3 (by simp)).1
    have c4 := (hat 4 (by simp)).1
    simp at c0 c1 c2 c3 c4
    generalize (lay os.toArray L vs os.toArray.size a).eval = ρ at e
    simp [execOp, go_sem, e, c0, c1, c2, c3, c4]
end
set_option maxRecDepth 100000 in
set_option maxHeartbeats 4000000 in
theorem exTMul {w : World} {v u u' : Value} {n m s a b : Int} (h : Test w v n m s) (h1 : Num w u a) (h2 : Num w u' b) (ha : ab a < pw 20) (hb : ab b < pw 20) (hn : ab n < pw 20) (h0 : n ≠ 0) :
    Calls Tryd.prog 55 #[v, u, u'] w fun e w' => ∃ v', e = .returned v' ∧ Below w.heap.size w w' ∧ Num w' v' (a * b % n) := by
  replace ha := hidd ha
  replace hb := hidd hb
  replace hn := hidd hn
  have HM := hidd h0
  clear h0
  obtain ⟨n0, ao0, k0, c0, n0', ao0', k0', c0', rfl, _, _⟩ := h.parts
  obtain ⟨n1, ao1, k1, c1, rfl⟩ := h1.parts
  obtain ⟨n2, ao2, k2, c2, rfl⟩ := h2.parts
  obtain ⟨w1, b1, hw1, hb1, hs1, E⟩ := fr_start w (F := Fq.test n m s) (us := [.bool n0, .slice ao0 k0 c0, .bool n0', .slice ao0' k0' c0', .int .i64 s]) 55 rfl (by simp) (tame_test _ _ _ _ _ _ _ _ _) h
  obtain ⟨w2, b2, hw2, hb2, hs2, E⟩ := fr_more E hs1 (F := Fq.num a) (us := [.bool n1, .slice ao1 k1 c1]) 27 rfl (by simp) (tame_int _ _ _ _) (h1.mono E.below)
  obtain ⟨w3, b3, hw3, hb3, hs3, E⟩ := fr_more E hs2 (F := Fq.num b) (us := [.bool n2, .slice ao2 k2 c2]) 27 rfl (by simp) (tame_int _ _ _ _) (h2.mono E.below)
  obtain ⟨w4, b4, hw4, hb4, hs4, E⟩ := fr_more E hs3 (F := Fq.num 0) (us := [.bool false, .slice none 0 0]) 27 rfl (by simp) (tame_int _ _ _ _) (Num.zero _)
  go_enter Tryd.func55, Tryd.ntmps55
  go_upto_region 1 with (fail)
  rw [← hw1]
  rw [← hw2]
  rw [← hw3]
  rw [← hw4]
  rw [← hb4]
  rw [← hb3]
  rw [← hb2]
  rw [← hb1]
  clear hw1 hw2 hw3 hw4 hb1 hb2 hb3 hb4 hs4 hs1 hs2 hs3
  have B5 : Hid (ab ((a * b)) < pw 40) := ab_mulM ha.out hb.out (by omega)
  have B6 : Hid (ab (((a * b) / n)) < pw 41) := ab_divB B5.out (by omega)
  have B7 : Hid (ab (((a * b) % n)) < pw 20) := ab_modB HM.out hn.out
  refine region_fr (C := [Fq.num a, Fq.num b, Fq.num (a * b), Fq.is (.pointer (some ⟨b1, 0, none⟩)), Fq.num n, Fq.tup3 (Fq.num ((a * b) / n)) (Fq.num ((a * b) % n)) (Fq.is (.int .i64 0)), Fq.tup3 (Fq.num ((a * b) / n)) (Fq.num ((a * b) % n)) (Fq.is (.int .i64 0)), Fq.num ((a * b) / n), Fq.num ((a * b) % n), Fq.is (.int .i64 0), Fq.any, Fq.any, Fq.any, Fq.any, Fq.is (.int .i64 0)]) (ks := [none, none, none, none]) (new := [⟨10, 12, 2, Fq.num 0, Fq.num ((a * b) / n), none⟩, ⟨11, 13, 2, Fq.num 0, Fq.num ((a * b) % n), none⟩]) E rfl (by kernel_rfl) rfl rfl (fun hp => ⟨?_, ?_, ?_, ?_, ?_, ?_, ?_, ?_, ?_, ?_, ?_, ?_, ?_, ?_, ?_, trivial⟩) ?_
  · exact q_loadInt (off := 0) hp (free_of rfl) trivial (List.mem_iff_getElem?.2 ⟨2, rfl⟩) (.inl rfl) (Nat.le_of_ble_eq_true rfl) (sq_out (s := 4) rfl rfl (fun _ _ => rfl)) (fun us w hl h => ld_num hl h)
  · exact q_loadInt (off := 0) hp (free_of rfl) trivial (List.mem_iff_getElem?.2 ⟨1, rfl⟩) (.inl rfl) (Nat.le_of_ble_eq_true rfl) (sq_out (s := 5) rfl rfl (fun _ _ => rfl)) (fun us w hl h => ld_num hl h)
  · exact q_call2 (F := (Fq.num a).P) (G := (Fq.num b).P) hp (free_of rfl) trivial (enq_Mul) (sqi 0) (sqi 1) (fun v v' w h h' => exK (MulV h h') B5.out (by omega))
  · exact q_addr (b := b1) (off := 0) (off' := 0) hp (free_of rfl) trivial (sq_out (s := 3) rfl rfl (fun _ _ => rfl)) (fun ρ w h => by simp [execOp, go_sem, h]) (fun _ => rfl)
  · exact q_loadInt (off := 0) hp (free_of rfl) trivial (List.mem_iff_getElem?.2 ⟨3, rfl⟩) (.inl rfl) (Nat.le_of_ble_eq_true rfl) (sqi 3) (fun us w hl h => ld_test0 hl h)
  · exact q_call2 (F := (Fq.num (a * b)).P) (G := (Fq.num n).P) hp (free_of rfl) trivial (enq_DivMod) (sqi 2) (sqi 4) (fun v v' w h h' => exDMq h h' HM.out B6.out B7.out (by omega) (by omega))
  · exact q_move hp (free_of rfl) trivial (sqi 5)
  · exact q_extract3 hp (free_of rfl) trivial (sqi 6) (fun v1 v2 v3 w h1 h2 h3 => ⟨_, rfl, h1⟩)
  · exact q_extract3 hp (free_of rfl) trivial (sqi 6) (fun v1 v2 v3 w h1 h2 h3 => ⟨_, rfl, h2⟩)
  · exact q_extract3 hp (free_of rfl) trivial (sqi 6) (fun v1 v2 v3 w h1 h2 h3 => ⟨_, rfl, h3⟩)
  · exact q_allocInt hp (List.mem_iff_getElem?.2 ⟨0, rfl⟩) rfl rfl rfl rfl (Nat.ne_of_beq_eq_false rfl) (fun _ _ => trivial) (old_ne rfl) (newk_ne rfl) (fun w => Num.zero w)
  · exact q_allocInt hp (List.mem_iff_getElem?.2 ⟨1, rfl⟩) rfl rfl rfl rfl (Nat.ne_of_beq_eq_false rfl) (fun _ _ => trivial) (old_ne rfl) (newk_ne rfl) (fun w => Num.zero w)
  · exact q_storeNewInt hp (List.mem_iff_getElem?.2 ⟨0, rfl⟩) rfl rfl rfl (own_ptr rfl rfl (by simp) rfl) (sq_in 7 rfl rfl (by simp) rfl (fun v w h => intV_num h)) (fun _ _ => trivial) (old_ne rfl) (newi_ne rfl)
  · exact q_storeNewInt hp (List.mem_iff_getElem?.2 ⟨1, rfl⟩) rfl rfl rfl (own_ptr rfl rfl (by simp) rfl) (sq_in 8 rfl rfl (by simp) rfl (fun v w h => intV_num h)) (fun _ _ => trivial) (old_ne rfl) (newi_ne rfl)
  · exact q_assign hp (free_of rfl) trivial (sqi 9)
  intro L vs w8 nb hL hC hn E8
  have e3 : vs 3 = .pointer (some ⟨b1, 0, none⟩) := hC 3 (by simp)
  have e9 : vs 9 = .int .i64 0 := hC 9 (by simp)
  have e14 : vs 14 = .int .i64 0 := hC 14 (by simp)
  have e10 : vs 10 = .pointer (some ⟨nb 10, 0, none⟩) := hn _ (List.mem_iff_getElem?.2 ⟨0, rfl⟩)
  have e11 : vs 11 = .pointer (some ⟨nb 11, 0, none⟩) := hn _ (List.mem_iff_getElem?.2 ⟨1, rfl⟩)
  have E : Fr w [(nb 10, 2, Fq.num ((a * b) / n)), (nb 11, 2, Fq.num ((a * b) % n)), (b4, 2, Fq.num 0), (b3, 2, Fq.num b), (b2, 2, Fq.num a), (b1, 5, Fq.test n m s)] w8 := E8
  rw [lay_all hL]
  simp only [putAll, dstOf, List.length_cons, List.length_nil, Nat.zero_add, Nat.reduceAdd, List.getElem?_toArray, List.getElem?_cons_zero, List.getElem?_cons_succ, Option.bind_some, Act.put, List.setIfInBounds_toArray, List.set_cons_succ, List.set_cons_zero]
  rw [e3, e9, e14, e10, e11]
  generalize nb 10 = b8_10 at E ⊢
  generalize nb 11 = b8_11 at E ⊢
  generalize vs 0 = u8_0
  generalize vs 1 = u8_1
  generalize vs 2 = u8_2
  generalize vs 4 = u8_4
  generalize vs 5 = u8_5
  generalize vs 6 = u8_6
  generalize vs 7 = u8_7
  generalize vs 8 = u8_8
  clear e3 e9 e14 e10 e11 hC hn E8 hL vs L nb
  go_upto_region 2 with (fail)
  refine region_fr (C := [Fq.num ((a * b) % n), Fq.any]) (ks := [none, none, some (1, Fq.num ((a * b) % n)), none, none, none]) (new := []) E rfl (by kernel_rfl) rfl rfl (fun hp => ⟨?_, ?_, trivial⟩) ?_
  · exact q_loadInt (off := 0) hp (free_of rfl) trivial (List.mem_iff_getElem?.2 ⟨1, rfl⟩) (.inl rfl) (Nat.le_of_ble_eq_true rfl) (sq_out (s := 8) rfl rfl (fun _ _ => rfl)) (fun us w hl h => ld_num hl h)
  · exact q_storeOldInt hp (List.mem_iff_getElem?.2 ⟨2, rfl⟩) rfl rfl (sq_out (s := 6) rfl rfl (fun _ _ => rfl)) (sq_in 0 rfl rfl (by simp) rfl (fun v w h => intV_num h)) (fun _ _ => trivial) (newik_ne rfl)
  intro L vs w9 nb hL hC hn E9
  have E : Fr w [(b8_10, 2, Fq.num ((a * b) / n)), (b8_11, 2, Fq.num ((a * b) % n)), (b4, 2, Fq.num ((a * b) % n)), (b3, 2, Fq.num b), (b2, 2, Fq.num a), (b1, 5, Fq.test n m s)] w9 := E9
  rw [lay_all hL]
  simp only [putAll, dstOf, List.length_cons, List.length_nil, Nat.zero_add, Nat.reduceAdd, List.getElem?_toArray, List.getElem?_cons_zero, List.getElem?_cons_succ, Option.bind_some, Act.put, List.setIfInBounds_toArray, List.set_cons_succ, List.set_cons_zero]
  generalize vs 0 = u9_0
  clear  hC hn E9 hL vs L nb
  obtain ⟨p0, p1, c0, c1, hP⟩ := box_num (E.box 2 rfl)
  clear B5 B6 B7 ha hb hn
  clear HM
  go_wp2
  refine bodyPost_ret (v := .agg #[p0, p1]) ?_ rfl ⟨_, rfl, E.below, hP⟩
  simp [results, Tryd.results55, go_sem, c0, c1]

end Go.Proofs.YtnhapjifddhdiaaDoor
