/- Nd, Pk, Ng, Oa, Nf, Ni, Nj, Ob. -/
import Derived.Test.YtieobgadihcgeaaDoorCr5
import Derived.WalkMore
/- Walk: the examples of the law. -/
namespace Go.Proofs.YtieobgadihcgeaaDoor
open Go Go.RowKit

theorem exCrtEx1 {w : World} {v v' u u' : Value} (h : Num w v 2) (h' : Num w v' 3) (g : Num w u 3) (g' : Num w u' 4) :
    Calls Tryd.prog 31 #[v, v', u, u'] w fun e w' => ∃ v', e = .returned v' ∧ Below w.heap.size w w' ∧ (Fq.tup3 (Fq.num 11) (Fq.num 12) (Fq.is (.int .i64 0))).P v' w' := by
  have := exCrtP h h' g g' (lit100 (ab_lit (by decide))) (lit100 (ab_lit (by decide))) (lit100 (ab_lit (by decide))) (lit100 (ab_lit (by decide))) (by decide) (by decide) (by decide)
  rw [crtR_ex] at this
  exact this
theorem exCrtEx2 {w : World} {v v' u u' : Value} (h : Num w v 0) (h' : Num w v' 4) (g : Num w u 1) (g' : Num w u' 6) :
    Calls Tryd.prog 31 #[v, v', u, u'] w fun e w' => ∃ v', e = .returned v' ∧ Below w.heap.size w w' ∧ (Fq.tup3 (Fq.num 0) (Fq.num 0) (Fq.is (.int .i64 6))).P v' w' :=
  exCrtN h h' g g' (lit100 (ab_lit (by decide))) (lit100 (ab_lit (by decide))) (lit100 (ab_lit (by decide))) (lit100 (ab_lit (by decide))) (by decide) (by decide) (by decide)
theorem exKronL {w : World} {v v' : Value} {a n r : Int} (h : Num w v a) (h' : Num w v' n) (hT : Tabs w) (ha : ab a < pw 3) (hn : ab n < pw 3) (hr : kron a n = r) :
    Calls Tryd.prog 20 #[v, v'] w fun e w' => ∃ v', e = .returned v' ∧ Below w.heap.size w w' ∧ v' = .int .i64 r := by
  subst hr
  exact exKronecker h h' hT (lit100 ha) (lit100 hn)
theorem exRoots123 {w : World} {v v' : Value} (h : Num w v 1) (h' : Num w v' 2) : Calls Tryd.prog 28 #[v, v', .int .i64 3] w fun e w' => ∃ v', e = .returned v' ∧ Below w.heap.size w w' ∧ ∃ l, v' = .tuple #[l, .int .i64 0] ∧ Nums w' l [1, 3, 5, 7] := by
  have := exMRootsP (k := 3) h h' (lit90 (ab_lit (by decide))) (lit90 (ab_lit (by decide))) (by decide) (by decide) (by decide) (by decide)
  rw [show lifts 1 2 (3 : Int).toNat = [1, 3, 5, 7] from lifts_ex] at this
  exact this
theorem exSameListB {w : World} {v v' : Value} {xs ys : List Int} {t : Bool} (h : Nums w v xs) (h' : Nums w v' ys) (hx : xs.length < 9223372036854775807) (hy : ys.length < 9223372036854775807) (ht : decide (xs = ys) = t) :
    Calls Tryd.prog 30 #[v, v'] w fun e w' => ∃ v', e = .returned v' ∧ Below w.heap.size w w' ∧ v' = .bool t := by
  subst ht
  exact exSameList h h' hx hy
set_option maxRecDepth 100000 in
set_option maxHeartbeats 4000000 in
theorem exVExamples {w : World} (hT : Tabs w) :
    Calls Tryd.prog 9 #[] w fun e w' => ∃ v', e = .returned v' ∧ Below w.heap.size w w' ∧ v' = .bool true := by
  replace hT := hidd hT
  go_enter Tryd.func9, Tryd.ntmps9
  go_upto_region 1 with (fail)
  go_wp2_with fail
  refine (exVOf (z := 1) (by omega)).mono ?_
  rintro e w1 ⟨v1, rfl, hb1, hv1⟩
  go_wp2_with fail
  refine (exVOf (z := 2) (by omega)).mono ?_
  rintro e w2 ⟨v2, rfl, hb2, hv2⟩
  go_wp2_with fail
  refine (exRoots123 (hv1.mono hb2) hv2).mono ?_
  rintro e w3 ⟨v3, rfl, hb3, l, rfl, hl⟩
  have HB : Hid (Below w.heap.size w w3) := (hb1.trans (hb2.mono hb1.size)).trans (hb3.mono (Nat.le_trans hb1.size hb2.size))
  have HT : Hid (Tabs w3) := hT.out.mono HB.out
  have HL := hidd hl
  clear hb1 hb2 hb3 hv1 hv2 hl hT
  have E := Fr.start w3
  go_upto_region 2 with (fail)
  have B1 : Hid (ab ((2)) < pw 3) := ab_lit (by decide)
  have B2 : Hid (ab ((3)) < pw 3) := ab_lit (by decide)
  have B3 : Hid (ab ((4)) < pw 3) := ab_lit (by decide)
  refine region_fr (C := [Fq.num (2), Fq.num (3), Fq.num (3), Fq.num (4), Fq.tup3 (Fq.num 11) (Fq.num 12) (Fq.is (.int .i64 0)), Fq.tup3 (Fq.num 11) (Fq.num 12) (Fq.is (.int .i64 0)), Fq.num 11, Fq.num 12, Fq.is (.int .i64 0), Fq.any, Fq.any, Fq.any, Fq.any, Fq.is (.int .i64 0)]) (ks := []) (new := [⟨9, 11, 2, Fq.num 0, Fq.num 11, none⟩, ⟨10, 12, 2, Fq.num 0, Fq.num 12, none⟩]) E rfl (by kernel_rfl) rfl rfl (fun hp => ⟨?_, ?_, ?_, ?_, ?_, ?_, ?_, ?_, ?_, ?_, ?_, ?_, ?_, ?_, trivial⟩) ?_
  · exact q_call1 (F := (Fq.is (.int .i64 2)).P) hp (free_of rfl) trivial (enq_V_of) (sq_const (fun _ => rfl)) (fun v w h => (by subst h; exact exVOf (by omega)))
  · exact q_call1 (F := (Fq.is (.int .i64 3)).P) hp (free_of rfl) trivial (enq_V_of) (sq_const (fun _ => rfl)) (fun v w h => (by subst h; exact exVOf (by omega)))
  · exact q_call1 (F := (Fq.is (.int .i64 3)).P) hp (free_of rfl) trivial (enq_V_of) (sq_const (fun _ => rfl)) (fun v w h => (by subst h; exact exVOf (by omega)))
  · exact q_call1 (F := (Fq.is (.int .i64 4)).P) hp (free_of rfl) trivial (enq_V_of) (sq_const (fun _ => rfl)) (fun v w h => (by subst h; exact exVOf (by omega)))
  · exact q_call4 (F := (Fq.num (2)).P) (G := (Fq.num (3)).P) (F3 := (Fq.num (3)).P) (F4 := (Fq.num (4)).P) hp (free_of rfl) trivial (enq_M_Crt) (sq_in 0 rfl rfl (by simp) rfl (fun v w h => h)) (sq_in 1 rfl rfl (by simp) rfl (fun v w h => h)) (sq_in 2 rfl rfl (by simp) rfl (fun v w h => h)) (sq_in 3 rfl rfl (by simp) rfl (fun v w h => h)) (fun v v' u u' w h h' g g' => exCrtEx1 h h' g g')
  · exact q_move hp (free_of rfl) trivial (sq_in 4 rfl rfl (by simp) rfl (fun v w h => h))
  · exact q_extract3 hp (free_of rfl) trivial (sq_in 5 rfl rfl (by simp) rfl (fun v w h => h)) (fun v1 v2 v3 w h1 h2 h3 => ⟨_, rfl, h1⟩)
  · exact q_extract3 hp (free_of rfl) trivial (sq_in 5 rfl rfl (by simp) rfl (fun v w h => h)) (fun v1 v2 v3 w h1 h2 h3 => ⟨_, rfl, h2⟩)
  · exact q_extract3 hp (free_of rfl) trivial (sq_in 5 rfl rfl (by simp) rfl (fun v w h => h)) (fun v1 v2 v3 w h1 h2 h3 => ⟨_, rfl, h3⟩)
  · exact q_allocInt hp (List.mem_iff_getElem?.2 ⟨0, rfl⟩) rfl rfl rfl rfl (Nat.ne_of_beq_eq_false rfl) (fun _ _ => trivial) (old_ne rfl) (newk_ne rfl) (fun w => Num.zero w)
  · exact q_allocInt hp (List.mem_iff_getElem?.2 ⟨1, rfl⟩) rfl rfl rfl rfl (Nat.ne_of_beq_eq_false rfl) (fun _ _ => trivial) (old_ne rfl) (newk_ne rfl) (fun w => Num.zero w)
  · exact q_storeNewInt hp (List.mem_iff_getElem?.2 ⟨0, rfl⟩) rfl rfl rfl (own_ptr rfl rfl (by simp) rfl) (sq_in 6 rfl rfl (by simp) rfl (fun v w h => intV_num h)) (fun _ _ => trivial) (old_ne rfl) (newi_ne rfl)
  · exact q_storeNewInt hp (List.mem_iff_getElem?.2 ⟨1, rfl⟩) rfl rfl rfl (own_ptr rfl rfl (by simp) rfl) (sq_in 7 rfl rfl (by simp) rfl (fun v w h => intV_num h)) (fun _ _ => trivial) (old_ne rfl) (newi_ne rfl)
  · exact q_assign hp (free_of rfl) trivial (sq_in 8 rfl rfl (by simp) rfl (fun v w h => h))
  intro L vs w4 nb hL hC hn E4
  have e8 : vs 8 = .int .i64 0 := hC 8 (by simp)
  have e13 : vs 13 = .int .i64 0 := hC 13 (by simp)
  have e9 : vs 9 = .pointer (some ⟨nb 9, 0, none⟩) := hn _ (List.mem_iff_getElem?.2 ⟨0, rfl⟩)
  have e10 : vs 10 = .pointer (some ⟨nb 10, 0, none⟩) := hn _ (List.mem_iff_getElem?.2 ⟨1, rfl⟩)
  have E : Fr w3 [(nb 9, 2, Fq.num 11), (nb 10, 2, Fq.num 12)] w4 := E4
  rw [lay_all hL]
  simp only [putAll, dstOf, List.length_cons, List.length_nil, Nat.zero_add, Nat.reduceAdd, List.getElem?_toArray, List.getElem?_cons_zero, List.getElem?_cons_succ, Option.bind_some, Act.put, List.setIfInBounds_toArray, List.set_cons_succ, List.set_cons_zero]
  rw [e8, e13, e9, e10]
  generalize nb 9 = b4_9 at E ⊢
  generalize nb 10 = b4_10 at E ⊢
  generalize vs 0 = u4_0
  generalize vs 1 = u4_1
  generalize vs 2 = u4_2
  generalize vs 3 = u4_3
  generalize vs 4 = u4_4
  generalize vs 5 = u4_5
  generalize vs 6 = u4_6
  generalize vs 7 = u4_7
  clear e8 e13 e9 e10 hC hn E4 hL vs L nb
  go_upto_region 3 with (fail)
  have B5 : Hid (ab ((0)) < pw 3) := ab_lit (by decide)
  have B6 : Hid (ab ((1)) < pw 3) := ab_lit (by decide)
  have B7 : Hid (ab ((6)) < pw 3) := ab_lit (by decide)
  refine region_fr (C := [Fq.num (0), Fq.num (4), Fq.num (1), Fq.num (6), Fq.tup3 (Fq.num 0) (Fq.num 0) (Fq.is (.int .i64 6)), Fq.tup3 (Fq.num 0) (Fq.num 0) (Fq.is (.int .i64 6)), Fq.num 0, Fq.num 0, Fq.is (.int .i64 6), Fq.any, Fq.any, Fq.any, Fq.any, Fq.is (.int .i64 6)]) (ks := [none, none]) (new := [⟨9, 11, 2, Fq.num 0, Fq.num 0, none⟩, ⟨10, 12, 2, Fq.num 0, Fq.num 0, none⟩]) E rfl (by kernel_rfl) rfl rfl (fun hp => ⟨?_, ?_, ?_, ?_, ?_, ?_, ?_, ?_, ?_, ?_, ?_, ?_, ?_, ?_, trivial⟩) ?_
  · exact q_call1 (F := (Fq.is (.int .i64 0)).P) hp (free_of rfl) trivial (enq_V_of) (sq_const (fun _ => rfl)) (fun v w h => (by subst h; exact exVOf (by omega)))
  · exact q_call1 (F := (Fq.is (.int .i64 4)).P) hp (free_of rfl) trivial (enq_V_of) (sq_const (fun _ => rfl)) (fun v w h => (by subst h; exact exVOf (by omega)))
  · exact q_call1 (F := (Fq.is (.int .i64 1)).P) hp (free_of rfl) trivial (enq_V_of) (sq_const (fun _ => rfl)) (fun v w h => (by subst h; exact exVOf (by omega)))
  · exact q_call1 (F := (Fq.is (.int .i64 6)).P) hp (free_of rfl) trivial (enq_V_of) (sq_const (fun _ => rfl)) (fun v w h => (by subst h; exact exVOf (by omega)))
  · exact q_call4 (F := (Fq.num (0)).P) (G := (Fq.num (4)).P) (F3 := (Fq.num (1)).P) (F4 := (Fq.num (6)).P) hp (free_of rfl) trivial (enq_M_Crt) (sq_in 0 rfl rfl (by simp) rfl (fun v w h => h)) (sq_in 1 rfl rfl (by simp) rfl (fun v w h => h)) (sq_in 2 rfl rfl (by simp) rfl (fun v w h => h)) (sq_in 3 rfl rfl (by simp) rfl (fun v w h => h)) (fun v v' u u' w h h' g g' => exCrtEx2 h h' g g')
  · exact q_move hp (free_of rfl) trivial (sq_in 4 rfl rfl (by simp) rfl (fun v w h => h))
  · exact q_extract3 hp (free_of rfl) trivial (sq_in 5 rfl rfl (by simp) rfl (fun v w h => h)) (fun v1 v2 v3 w h1 h2 h3 => ⟨_, rfl, h1⟩)
  · exact q_extract3 hp (free_of rfl) trivial (sq_in 5 rfl rfl (by simp) rfl (fun v w h => h)) (fun v1 v2 v3 w h1 h2 h3 => ⟨_, rfl, h2⟩)
  · exact q_extract3 hp (free_of rfl) trivial (sq_in 5 rfl rfl (by simp) rfl (fun v w h => h)) (fun v1 v2 v3 w h1 h2 h3 => ⟨_, rfl, h3⟩)
  · exact q_allocInt hp (List.mem_iff_getElem?.2 ⟨0, rfl⟩) rfl rfl rfl rfl (Nat.ne_of_beq_eq_false rfl) (fun _ _ => trivial) (old_ne rfl) (newk_ne rfl) (fun w => Num.zero w)
  · exact q_allocInt hp (List.mem_iff_getElem?.2 ⟨1, rfl⟩) rfl rfl rfl rfl (Nat.ne_of_beq_eq_false rfl) (fun _ _ => trivial) (old_ne rfl) (newk_ne rfl) (fun w => Num.zero w)
  · exact q_storeNewInt hp (List.mem_iff_getElem?.2 ⟨0, rfl⟩) rfl rfl rfl (own_ptr rfl rfl (by simp) rfl) (sq_in 6 rfl rfl (by simp) rfl (fun v w h => intV_num h)) (fun _ _ => trivial) (old_ne rfl) (newi_ne rfl)
  · exact q_storeNewInt hp (List.mem_iff_getElem?.2 ⟨1, rfl⟩) rfl rfl rfl (own_ptr rfl rfl (by simp) rfl) (sq_in 7 rfl rfl (by simp) rfl (fun v w h => intV_num h)) (fun _ _ => trivial) (old_ne rfl) (newi_ne rfl)
  · exact q_assign hp (free_of rfl) trivial (sq_in 8 rfl rfl (by simp) rfl (fun v w h => h))
  intro L vs w8 nb hL hC hn E8
  have e8 : vs 8 = .int .i64 6 := hC 8 (by simp)
  have e13 : vs 13 = .int .i64 6 := hC 13 (by simp)
  have e9 : vs 9 = .pointer (some ⟨nb 9, 0, none⟩) := hn _ (List.mem_iff_getElem?.2 ⟨0, rfl⟩)
  have e10 : vs 10 = .pointer (some ⟨nb 10, 0, none⟩) := hn _ (List.mem_iff_getElem?.2 ⟨1, rfl⟩)
  have E : Fr w3 [(nb 9, 2, Fq.num 0), (nb 10, 2, Fq.num 0), (b4_9, 2, Fq.num 11), (b4_10, 2, Fq.num 12)] w8 := E8
  rw [lay_all hL]
  simp only [putAll, dstOf, List.length_cons, List.length_nil, Nat.zero_add, Nat.reduceAdd, List.getElem?_toArray, List.getElem?_cons_zero, List.getElem?_cons_succ, Option.bind_some, Act.put, List.setIfInBounds_toArray, List.set_cons_succ, List.set_cons_zero]
  rw [e8, e13, e9, e10]
  generalize nb 9 = b8_9 at E ⊢
  generalize nb 10 = b8_10 at E ⊢
  generalize vs 0 = u8_0
  generalize vs 1 = u8_1
  generalize vs 2 = u8_2
  generalize vs 3 = u8_3
  generalize vs 4 = u8_4
  generalize vs 5 = u8_5
  generalize vs 6 = u8_6
  generalize vs 7 = u8_7
  clear e8 e13 e9 e10 hC hn E8 hL vs L nb
  go_upto_region 4 with (fail)
  refine region_fr (C := [Fq.num (2), Fq.num (4), Fq.got 0 4, Fq.any, Fq.any]) (ks := [none, none, none, none]) (new := [⟨3, 4, 3, Fq.got 0 0, Fq.got 0 4, none⟩]) E rfl (by kernel_rfl) rfl rfl (fun hp => ⟨?_, ?_, ?_, ?_, ?_, trivial⟩) ?_
  · exact q_call1 (F := (Fq.is (.int .i64 2)).P) hp (free_of rfl) trivial (enq_V_of) (sq_const (fun _ => rfl)) (fun v w h => (by subst h; exact exVOf (by omega)))
  · exact q_call1 (F := (Fq.is (.int .i64 4)).P) hp (free_of rfl) trivial (enq_V_of) (sq_const (fun _ => rfl)) (fun v w h => (by subst h; exact exVOf (by omega)))
  · exact q_call2 (F := (Fq.num (2)).P) (G := (Fq.num (4)).P) hp (free_of rfl) trivial (enq_V_inv) (sq_in 0 rfl rfl (by simp) rfl (fun v w h => h)) (sq_in 1 rfl rfl (by simp) rfl (fun v w h => h)) (fun v v' w h h' => exInv24 h h')
  · exact q_allocGot hp (List.mem_iff_getElem?.2 ⟨0, rfl⟩) rfl rfl rfl rfl (Nat.ne_of_beq_eq_false rfl) (fun _ _ => trivial) (old_ne rfl) (newk_ne rfl) (fun w => Got.zero w)
  · exact q_storeNewGot hp (List.mem_iff_getElem?.2 ⟨0, rfl⟩) rfl rfl rfl (own_ptr rfl rfl (by simp) rfl) (sq_in 2 rfl rfl (by simp) rfl (fun v w h => h.partsV)) (fun _ _ => trivial) (old_ne rfl) (newi_ne rfl)
  intro L vs w9 nb hL hC hn E9
  have e3 : vs 3 = .pointer (some ⟨nb 3, 0, none⟩) := hn _ (List.mem_iff_getElem?.2 ⟨0, rfl⟩)
  have E : Fr w3 [(nb 3, 3, Fq.got 0 4), (b8_9, 2, Fq.num 0), (b8_10, 2, Fq.num 0), (b4_9, 2, Fq.num 11), (b4_10, 2, Fq.num 12)] w9 := E9
  rw [lay_all hL]
  simp only [putAll, dstOf, List.length_cons, List.length_nil, Nat.zero_add, Nat.reduceAdd, List.getElem?_toArray, List.getElem?_cons_zero, List.getElem?_cons_succ, Option.bind_some, Act.put, List.setIfInBounds_toArray, List.set_cons_succ, List.set_cons_zero]
  rw [e3]
  generalize nb 3 = b9_3 at E ⊢
  generalize vs 0 = u9_0
  generalize vs 1 = u9_1
  generalize vs 2 = u9_2
  clear e3 hC hn E9 hL vs L nb
  go_upto_region 5 with (fail)
  have B10 : Hid (ab ((11)) < pw 3) := ab_lit (by decide)
  have B11 : Hid (ab ((12)) < pw 3) := ab_lit (by decide)
  refine region_fr (C := [Fq.is (.int .i64 0), Fq.is (.bool false), Fq.is (.bool false), Fq.is (.int .i64 0), Fq.is (.bool false), Fq.is (.bool false), Fq.is (.bool false), Fq.is (.int .i64 6), Fq.is (.bool false), Fq.is (.bool false), Fq.is (.bool false), Fq.is (.pointer (some ⟨b9_3, 2, none⟩)), Fq.is (.int .i64 4), Fq.is (.bool false), Fq.is (.bool false), Fq.is (.bool false), Fq.num 11, Fq.num (11), Fq.is (.bool true), Fq.is (.bool false), Fq.is (.bool false), Fq.is (.bool false), Fq.num 12, Fq.num (12), Fq.is (.bool true), Fq.is (.bool false), Fq.is (.bool false)]) (ks := [none, none, none, none, none]) (new := []) E rfl (by kernel_rfl) rfl rfl (fun hp => ⟨?_, ?_, ?_, ?_, ?_, ?_, ?_, ?_, ?_, ?_, ?_, ?_, ?_, ?_, ?_, ?_, ?_, ?_, ?_, ?_, ?_, ?_, ?_, ?_, ?_, ?_, ?_, trivial⟩) ?_
  · exact q_move hp (free_of rfl) trivial (sq_out rfl rfl (fun _ _ => rfl))
  · exact q_one (F := fun v _ => v = .int .i64 0) hp (free_of rfl) trivial (sq_in 0 rfl rfl (by simp) rfl (fun v w h => h)) (fun ρ w hc h => ⟨.bool false, by simp [execOp, go_sem, h, hc], rfl⟩)
  · exact q_move hp (free_of rfl) trivial (sq_in 1 rfl rfl (by simp) rfl (fun v w h => h))
  · exact q_move hp (free_of rfl) (gq_some rfl rfl (by simp) rfl (fun v w h => h)) (sq_out rfl rfl (fun _ _ => rfl))
  · exact q_one (F := fun v _ => v = .int .i64 0) hp (free_of rfl) (gq_some rfl rfl (by simp) rfl (fun v w h => h)) (sq_in 3 rfl rfl (by simp) rfl (fun v w h => h)) (fun ρ w hc h => ⟨.bool false, by simp [execOp, go_sem, h, hc], rfl⟩)
  · exact q_two (F := fun v _ => v = .bool false) (G := fun v _ => v = .bool false) hp (free_of rfl) trivial (sq_in 2 rfl rfl (by simp) rfl (fun v w h => h)) (sq_in 4 rfl rfl (by simp) rfl (fun v w h => h)) (fun ρ w hc h h' => ⟨_, by simp [execOp, go_sem, h, h'], rfl⟩)
  · exact q_move hp (free_of rfl) trivial (sq_in 5 rfl rfl (by simp) rfl (fun v w h => h))
  · exact q_move hp (free_of rfl) (gq_some rfl rfl (by simp) rfl (fun v w h => h)) (sq_out rfl rfl (fun _ _ => rfl))
  · exact q_one (F := fun v _ => v = .int .i64 6) hp (free_of rfl) (gq_some rfl rfl (by simp) rfl (fun v w h => h)) (sq_in 7 rfl rfl (by simp) rfl (fun v w h => h)) (fun ρ w hc h => ⟨.bool false, by simp [execOp, go_sem, h, hc], rfl⟩)
  · exact q_two (F := fun v _ => v = .bool false) (G := fun v _ => v = .bool false) hp (free_of rfl) trivial (sq_in 6 rfl rfl (by simp) rfl (fun v w h => h)) (sq_in 8 rfl rfl (by simp) rfl (fun v w h => h)) (fun ρ w hc h h' => ⟨_, by simp [execOp, go_sem, h, h'], rfl⟩)
  · exact q_move hp (free_of rfl) trivial (sq_in 9 rfl rfl (by simp) rfl (fun v w h => h))
  · exact q_addr (b := b9_3) (off := 0) (off' := 2) hp (free_of rfl) (gq_some rfl rfl (by simp) rfl (fun v w h => h)) (sq_out rfl rfl (fun _ _ => rfl)) (fun ρ w h => by simp [execOp, go_sem, h]) (fun _ => rfl)
  · exact q_loadErr (r := 4) hp (free_of rfl) (gq_some rfl rfl (by simp) rfl (fun v w h => h)) (List.mem_iff_getElem?.2 ⟨0, rfl⟩) (.inl rfl) rfl (sq_in 11 rfl rfl (by simp) rfl (fun v w h => h)) (fun us w hl h => ld_got2 hl h) (fun _ => rfl)
  · exact q_one (F := fun v _ => v = .int .i64 4) hp (free_of rfl) (gq_some rfl rfl (by simp) rfl (fun v w h => h)) (sq_in 12 rfl rfl (by simp) rfl (fun v w h => h)) (fun ρ w hc h => ⟨.bool false, by simp [execOp, go_sem, h, hc], rfl⟩)
  · exact q_two (F := fun v _ => v = .bool false) (G := fun v _ => v = .bool false) hp (free_of rfl) trivial (sq_in 10 rfl rfl (by simp) rfl (fun v w h => h)) (sq_in 13 rfl rfl (by simp) rfl (fun v w h => h)) (fun ρ w hc h h' => ⟨_, by simp [execOp, go_sem, h, h'], rfl⟩)
  · exact q_move hp (free_of rfl) trivial (sq_in 14 rfl rfl (by simp) rfl (fun v w h => h))
  · exact q_loadInt (off := 0) hp (free_of rfl) (gq_some rfl rfl (by simp) rfl (fun v w h => h)) (List.mem_iff_getElem?.2 ⟨3, rfl⟩) (.inl rfl) (Nat.le_of_ble_eq_true rfl) (sq_out rfl rfl (fun _ _ => rfl)) (fun us w hl h => ld_num hl h)
  · exact q_call1 (F := (Fq.is (.int .i64 11)).P) hp (free_of rfl) (gq_some rfl rfl (by simp) rfl (fun v w h => h)) (enq_V_of) (sq_const (fun _ => rfl)) (fun v w h => (by subst h; exact exVOf (by omega)))
  · exact q_call2 (F := (Fq.num 11).P) (G := (Fq.num (11)).P) hp (free_of rfl) (gq_some rfl rfl (by simp) rfl (fun v w h => h)) (enq_R_Same) (sq_in 16 rfl rfl (by simp) rfl (fun v w h => h)) (sq_in 17 rfl rfl (by simp) rfl (fun v w h => h)) (fun v v' w h h' => exRSameB h h' (by decide))
  · exact q_one (F := fun v _ => v = .bool true) hp (free_of rfl) (gq_some rfl rfl (by simp) rfl (fun v w h => h)) (sq_in 18 rfl rfl (by simp) rfl (fun v w h => h)) (fun ρ w _ h => ⟨.bool false, by simp [execOp, go_sem, h], rfl⟩)
  · exact q_two (F := fun v _ => v = .bool false) (G := fun v _ => v = .bool false) hp (free_of rfl) trivial (sq_in 15 rfl rfl (by simp) rfl (fun v w h => h)) (sq_in 19 rfl rfl (by simp) rfl (fun v w h => h)) (fun ρ w hc h h' => ⟨_, by simp [execOp, go_sem, h, h'], rfl⟩)
  · exact q_move hp (free_of rfl) trivial (sq_in 20 rfl rfl (by simp) rfl (fun v w h => h))
  · exact q_loadInt (off := 0) hp (free_of rfl) (gq_some rfl rfl (by simp) rfl (fun v w h => h)) (List.mem_iff_getElem?.2 ⟨4, rfl⟩) (.inl rfl) (Nat.le_of_ble_eq_true rfl) (sq_out rfl rfl (fun _ _ => rfl)) (fun us w hl h => ld_num hl h)
  · exact q_call1 (F := (Fq.is (.int .i64 12)).P) hp (free_of rfl) (gq_some rfl rfl (by simp) rfl (fun v w h => h)) (enq_V_of) (sq_const (fun _ => rfl)) (fun v w h => (by subst h; exact exVOf (by omega)))
  · exact q_call2 (F := (Fq.num 12).P) (G := (Fq.num (12)).P) hp (free_of rfl) (gq_some rfl rfl (by simp) rfl (fun v w h => h)) (enq_R_Same) (sq_in 22 rfl rfl (by simp) rfl (fun v w h => h)) (sq_in 23 rfl rfl (by simp) rfl (fun v w h => h)) (fun v v' w h h' => exRSameB h h' (by decide))
  · exact q_one (F := fun v _ => v = .bool true) hp (free_of rfl) (gq_some rfl rfl (by simp) rfl (fun v w h => h)) (sq_in 24 rfl rfl (by simp) rfl (fun v w h => h)) (fun ρ w _ h => ⟨.bool false, by simp [execOp, go_sem, h], rfl⟩)
  · exact q_two (F := fun v _ => v = .bool false) (G := fun v _ => v = .bool false) hp (free_of rfl) trivial (sq_in 21 rfl rfl (by simp) rfl (fun v w h => h)) (sq_in 25 rfl rfl (by simp) rfl (fun v w h => h)) (fun ρ w hc h h' => ⟨_, by simp [execOp, go_sem, h, h'], rfl⟩)
  intro L vs w12 nb hL hC hn E12
  have e0 : vs 0 = .int .i64 0 := hC 0 (by simp)
  have e1 : vs 1 = .bool false := hC 1 (by simp)
  have e2 : vs 2 = .bool false := hC 2 (by simp)
  have e3 : vs 3 = .int .i64 0 := hC 3 (by simp)
  have e4 : vs 4 = .bool false := hC 4 (by simp)
  have e5 : vs 5 = .bool false := hC 5 (by simp)
  have e6 : vs 6 = .bool false := hC 6 (by simp)
  have e7 : vs 7 = .int .i64 6 := hC 7 (by simp)
  have e8 : vs 8 = .bool false := hC 8 (by simp)
  have e9 : vs 9 = .bool false := hC 9 (by simp)
  have e10 : vs 10 = .bool false := hC 10 (by simp)
  have e11 : vs 11 = .pointer (some ⟨b9_3, 2, none⟩) := hC 11 (by simp)
  have e12 : vs 12 = .int .i64 4 := hC 12 (by simp)
  have e13 : vs 13 = .bool false := hC 13 (by simp)
  have e14 : vs 14 = .bool false := hC 14 (by simp)
  have e15 : vs 15 = .bool false := hC 15 (by simp)
  have e18 : vs 18 = .bool true := hC 18 (by simp)
  have e19 : vs 19 = .bool false := hC 19 (by simp)
  have e20 : vs 20 = .bool false := hC 20 (by simp)
  have e21 : vs 21 = .bool false := hC 21 (by simp)
  have e24 : vs 24 = .bool true := hC 24 (by simp)
  have e25 : vs 25 = .bool false := hC 25 (by simp)
  have e26 : vs 26 = .bool false := hC 26 (by simp)
  have E : Fr w3 [(b9_3, 3, Fq.got 0 4), (b8_9, 2, Fq.num 0), (b8_10, 2, Fq.num 0), (b4_9, 2, Fq.num 11), (b4_10, 2, Fq.num 12)] w12 := E12
  rw [lay_all hL]
  simp only [putAll, dstOf, List.length_cons, List.length_nil, Nat.zero_add, Nat.reduceAdd, List.getElem?_toArray, List.getElem?_cons_zero, List.getElem?_cons_succ, Option.bind_some, Act.put, List.setIfInBounds_toArray, List.set_cons_succ, List.set_cons_zero]
  rw [e0, e1, e2, e3, e4, e5, e6, e7, e8, e9, e10, e11, e12, e13, e14, e15, e18, e19, e20, e21, e24, e25, e26]
  generalize vs 16 = u12_16
  generalize vs 17 = u12_17
  generalize vs 22 = u12_22
  generalize vs 23 = u12_23
  clear e0 e1 e2 e3 e4 e5 e6 e7 e8 e9 e10 e11 e12 e13 e14 e15 e18 e19 e20 e21 e24 e25 e26 hC hn E12 hL vs L nb
  go_upto_region 7 with (fail)
  have B13 : Hid (ab ((7)) < pw 3) := ab_lit (by decide)
  have B14 : Hid (ab ((-1)) < pw 3) := ab_lit (by decide)
  have B15 : Hid (ab ((5)) < pw 3) := ab_lit (by decide)
  refine region_fr (C := [Fq.num (2), Fq.num (7), Fq.is (.int .i64 1), Fq.is (.bool true), Fq.is (.bool true), Fq.num (2), Fq.num (3), Fq.is (.int .i64 (-1)), Fq.is (.bool true), Fq.is (.bool true), Fq.is (.bool true), Fq.num (-1), Fq.num (-1), Fq.is (.int .i64 (-1)), Fq.is (.bool true), Fq.is (.bool true), Fq.is (.bool true), Fq.num (5), Fq.num (0), Fq.is (.int .i64 0), Fq.is (.bool true), Fq.is (.bool true), Fq.is (.bool true)]) (ks := [none, none, none, none, none]) (new := []) E rfl (by kernel_rfl) rfl rfl (fun hp => ⟨?_, ?_, ?_, ?_, ?_, ?_, ?_, ?_, ?_, ?_, ?_, ?_, ?_, ?_, ?_, ?_, ?_, ?_, ?_, ?_, ?_, ?_, ?_, trivial⟩) ?_
  · exact q_call1 (F := (Fq.is (.int .i64 2)).P) hp (free_of rfl) trivial (enq_V_of) (sq_const (fun _ => rfl)) (fun v w h => (by subst h; exact exVOf (by omega)))
  · exact q_call1 (F := (Fq.is (.int .i64 7)).P) hp (free_of rfl) trivial (enq_V_of) (sq_const (fun _ => rfl)) (fun v w h => (by subst h; exact exVOf (by omega)))
  · exact q_call2W (F := (Fq.num (2)).P) (G := (Fq.num (7)).P) hp (free_of rfl) trivial (enq_M_Kronecker) rfl (sq_in 0 rfl rfl (by simp) rfl (fun v w h => h)) (sq_in 1 rfl rfl (by simp) rfl (fun v w h => h)) (fun v v' w hbw h h' => exKronL h h' (HT.out.mono hbw) B1.out B13.out kron_2_7)
  · exact q_one (F := fun v _ => v = .int .i64 1) hp (free_of rfl) trivial (sq_in 2 rfl rfl (by simp) rfl (fun v w h => h)) (fun ρ w hc h => ⟨.bool true, by simp [execOp, go_sem, h, hc], rfl⟩)
  · exact q_move hp (free_of rfl) trivial (sq_in 3 rfl rfl (by simp) rfl (fun v w h => h))
  · exact q_call1 (F := (Fq.is (.int .i64 2)).P) hp (free_of rfl) (gq_some rfl rfl (by simp) rfl (fun v w h => h)) (enq_V_of) (sq_const (fun _ => rfl)) (fun v w h => (by subst h; exact exVOf (by omega)))
  · exact q_call1 (F := (Fq.is (.int .i64 3)).P) hp (free_of rfl) (gq_some rfl rfl (by simp) rfl (fun v w h => h)) (enq_V_of) (sq_const (fun _ => rfl)) (fun v w h => (by subst h; exact exVOf (by omega)))
  · exact q_call2W (F := (Fq.num (2)).P) (G := (Fq.num (3)).P) hp (free_of rfl) (gq_some rfl rfl (by simp) rfl (fun v w h => h)) (enq_M_Kronecker) rfl (sq_in 5 rfl rfl (by simp) rfl (fun v w h => h)) (sq_in 6 rfl rfl (by simp) rfl (fun v w h => h)) (fun v v' w hbw h h' => exKronL h h' (HT.out.mono hbw) B1.out B2.out kron_2_3)
  · exact q_one (F := fun v _ => v = .int .i64 (-1)) hp (free_of rfl) (gq_some rfl rfl (by simp) rfl (fun v w h => h)) (sq_in 7 rfl rfl (by simp) rfl (fun v w h => h)) (fun ρ w hc h => ⟨.bool true, by simp [execOp, go_sem, h, hc], rfl⟩)
  · exact q_two (F := fun v _ => v = .bool true) (G := fun v _ => v = .bool true) hp (free_of rfl) trivial (sq_in 4 rfl rfl (by simp) rfl (fun v w h => h)) (sq_in 8 rfl rfl (by simp) rfl (fun v w h => h)) (fun ρ w hc h h' => ⟨_, by simp [execOp, go_sem, h, h'], rfl⟩)
  · exact q_move hp (free_of rfl) trivial (sq_in 9 rfl rfl (by simp) rfl (fun v w h => h))
  · exact q_call1 (F := (Fq.is (.int .i64 (-1))).P) hp (free_of rfl) (gq_some rfl rfl (by simp) rfl (fun v w h => h)) (enq_V_of) (sq_const (fun _ => rfl)) (fun v w h => (by subst h; exact exVOf (by omega)))
  · exact q_call1 (F := (Fq.is (.int .i64 (-1))).P) hp (free_of rfl) (gq_some rfl rfl (by simp) rfl (fun v w h => h)) (enq_V_of) (sq_const (fun _ => rfl)) (fun v w h => (by subst h; exact exVOf (by omega)))
  · exact q_call2W (F := (Fq.num (-1)).P) (G := (Fq.num (-1)).P) hp (free_of rfl) (gq_some rfl rfl (by simp) rfl (fun v w h => h)) (enq_M_Kronecker) rfl (sq_in 11 rfl rfl (by simp) rfl (fun v w h => h)) (sq_in 12 rfl rfl (by simp) rfl (fun v w h => h)) (fun v v' w hbw h h' => exKronL h h' (HT.out.mono hbw) B14.out B14.out kron_m1_m1)
  · exact q_one (F := fun v _ => v = .int .i64 (-1)) hp (free_of rfl) (gq_some rfl rfl (by simp) rfl (fun v w h => h)) (sq_in 13 rfl rfl (by simp) rfl (fun v w h => h)) (fun ρ w hc h => ⟨.bool true, by simp [execOp, go_sem, h, hc], rfl⟩)
  · exact q_two (F := fun v _ => v = .bool true) (G := fun v _ => v = .bool true) hp (free_of rfl) trivial (sq_in 10 rfl rfl (by simp) rfl (fun v w h => h)) (sq_in 14 rfl rfl (by simp) rfl (fun v w h => h)) (fun ρ w hc h h' => ⟨_, by simp [execOp, go_sem, h, h'], rfl⟩)
  · exact q_move hp (free_of rfl) trivial (sq_in 15 rfl rfl (by simp) rfl (fun v w h => h))
  · exact q_call1 (F := (Fq.is (.int .i64 5)).P) hp (free_of rfl) (gq_some rfl rfl (by simp) rfl (fun v w h => h)) (enq_V_of) (sq_const (fun _ => rfl)) (fun v w h => (by subst h; exact exVOf (by omega)))
  · exact q_call1 (F := (Fq.is (.int .i64 0)).P) hp (free_of rfl) (gq_some rfl rfl (by simp) rfl (fun v w h => h)) (enq_V_of) (sq_const (fun _ => rfl)) (fun v w h => (by subst h; exact exVOf (by omega)))
  · exact q_call2W (F := (Fq.num (5)).P) (G := (Fq.num (0)).P) hp (free_of rfl) (gq_some rfl rfl (by simp) rfl (fun v w h => h)) (enq_M_Kronecker) rfl (sq_in 17 rfl rfl (by simp) rfl (fun v w h => h)) (sq_in 18 rfl rfl (by simp) rfl (fun v w h => h)) (fun v v' w hbw h h' => exKronL h h' (HT.out.mono hbw) B15.out B5.out kron_5_0)
  · exact q_one (F := fun v _ => v = .int .i64 0) hp (free_of rfl) (gq_some rfl rfl (by simp) rfl (fun v w h => h)) (sq_in 19 rfl rfl (by simp) rfl (fun v w h => h)) (fun ρ w hc h => ⟨.bool true, by simp [execOp, go_sem, h, hc], rfl⟩)
  · exact q_two (F := fun v _ => v = .bool true) (G := fun v _ => v = .bool true) hp (free_of rfl) trivial (sq_in 16 rfl rfl (by simp) rfl (fun v w h => h)) (sq_in 20 rfl rfl (by simp) rfl (fun v w h => h)) (fun ρ w hc h h' => ⟨_, by simp [execOp, go_sem, h, h'], rfl⟩)
  · exact q_assign hp (free_of rfl) trivial (sq_in 21 rfl rfl (by simp) rfl (fun v w h => h))
  intro L vs w16 nb hL hC hn E16
  have e2 : vs 2 = .int .i64 1 := hC 2 (by simp)
  have e3 : vs 3 = .bool true := hC 3 (by simp)
  have e4 : vs 4 = .bool true := hC 4 (by simp)
  have e7 : vs 7 = .int .i64 (-1) := hC 7 (by simp)
  have e8 : vs 8 = .bool true := hC 8 (by simp)
  have e9 : vs 9 = .bool true := hC 9 (by simp)
  have e10 : vs 10 = .bool true := hC 10 (by simp)
  have e13 : vs 13 = .int .i64 (-1) := hC 13 (by simp)
  have e14 : vs 14 = .bool true := hC 14 (by simp)
  have e15 : vs 15 = .bool true := hC 15 (by simp)
  have e16 : vs 16 = .bool true := hC 16 (by simp)
  have e19 : vs 19 = .int .i64 0 := hC 19 (by simp)
  have e20 : vs 20 = .bool true := hC 20 (by simp)
  have e21 : vs 21 = .bool true := hC 21 (by simp)
  have e22 : vs 22 = .bool true := hC 22 (by simp)
  have E : Fr w3 [(b9_3, 3, Fq.got 0 4), (b8_9, 2, Fq.num 0), (b8_10, 2, Fq.num 0), (b4_9, 2, Fq.num 11), (b4_10, 2, Fq.num 12)] w16 := E16
  rw [lay_all hL]
  simp only [putAll, dstOf, List.length_cons, List.length_nil, Nat.zero_add, Nat.reduceAdd, List.getElem?_toArray, List.getElem?_cons_zero, List.getElem?_cons_succ, Option.bind_some, Act.put, List.setIfInBounds_toArray, List.set_cons_succ, List.set_cons_zero]
  rw [e2, e3, e4, e7, e8, e9, e10, e13, e14, e15, e16, e19, e20, e21, e22]
  generalize vs 0 = u16_0
  generalize vs 1 = u16_1
  generalize vs 5 = u16_5
  generalize vs 6 = u16_6
  generalize vs 11 = u16_11
  generalize vs 12 = u16_12
  generalize vs 17 = u16_17
  generalize vs 18 = u16_18
  clear e2 e3 e4 e7 e8 e9 e10 e13 e14 e15 e16 e19 e20 e21 e22 hC hn E16 hL vs L nb
  go_upto_region 8 with (fail)
  have B17 : Hid (ab ((9)) < pw 3) := ab_lit (by decide)
  refine region_fr (C := [Fq.is (.bool true), Fq.is (.bool true), Fq.num (3), Fq.num (7), Fq.got 5 0, Fq.is (.bool true), Fq.is (.bool true), Fq.is (.bool true), Fq.num (2), Fq.num (-1), Fq.num (9), Fq.got 5 0, Fq.is (.bool true), Fq.is (.bool true), Fq.is (.bool true), Fq.num (2), Fq.num (7), Fq.got 3 0, Fq.is (.bool true), Fq.is (.bool true), Fq.is (.bool true), Fq.is (l), Fq.num (1), Fq.num (3), Fq.num (5), Fq.num (7), Fq.any, Fq.is (.bool true), Fq.is (.bool true), Fq.is (.bool true)]) (ks := [none, none, none, none, none]) (new := [⟨26, 26, 8, Fq.ints [(1), (3), (5), (7)], Fq.ints [(1), (3), (5), (7)], (some 4)⟩]) E rfl (by kernel_rfl) rfl rfl (fun hp => ⟨?_, ?_, ?_, ?_, ?_, ?_, ?_, ?_, ?_, ?_, ?_, ?_, ?_, ?_, ?_, ?_, ?_, ?_, ?_, ?_, ?_, ?_, ?_, ?_, ?_, ?_, ?_, ?_, ?_, ?_, trivial⟩) ?_
  · exact q_move hp (free_of rfl) trivial (sq_out rfl rfl (fun _ _ => rfl))
  · exact q_move hp (free_of rfl) trivial (sq_in 0 rfl rfl (by simp) rfl (fun v w h => h))
  · exact q_call1 (F := (Fq.is (.int .i64 3)).P) hp (free_of rfl) (gq_some rfl rfl (by simp) rfl (fun v w h => h)) (enq_V_of) (sq_const (fun _ => rfl)) (fun v w h => (by subst h; exact exVOf (by omega)))
  · exact q_call1 (F := (Fq.is (.int .i64 7)).P) hp (free_of rfl) (gq_some rfl rfl (by simp) rfl (fun v w h => h)) (enq_V_of) (sq_const (fun _ => rfl)) (fun v w h => (by subst h; exact exVOf (by omega)))
  · exact q_call2 (F := (Fq.num (3)).P) (G := (Fq.num (7)).P) hp (free_of rfl) (gq_some rfl rfl (by simp) rfl (fun v w h => h)) (enq_V_inv) (sq_in 2 rfl rfl (by simp) rfl (fun v w h => h)) (sq_in 3 rfl rfl (by simp) rfl (fun v w h => h)) (fun v v' w h h' => exInv37 h h')
  · exact q_call2 (F := (Fq.got 5 0).P) (G := (Fq.is (.int .i64 5)).P) hp (free_of rfl) (gq_some rfl rfl (by simp) rfl (fun v w h => h)) (enq_V_is) (sq_in 4 rfl rfl (by simp) rfl (fun v w h => h)) (sq_const (fun _ => rfl)) (fun v v' w h h' => (by subst h'; exact exVIs h (by omega) rfl (by decide)))
  · exact q_two (F := fun v _ => v = .bool true) (G := fun v _ => v = .bool true) hp (free_of rfl) trivial (sq_in 1 rfl rfl (by simp) rfl (fun v w h => h)) (sq_in 5 rfl rfl (by simp) rfl (fun v w h => h)) (fun ρ w hc h h' => ⟨_, by simp [execOp, go_sem, h, h'], rfl⟩)
  · exact q_move hp (free_of rfl) trivial (sq_in 6 rfl rfl (by simp) rfl (fun v w h => h))
  · exact q_call1 (F := (Fq.is (.int .i64 2)).P) hp (free_of rfl) (gq_some rfl rfl (by simp) rfl (fun v w h => h)) (enq_V_of) (sq_const (fun _ => rfl)) (fun v w h => (by subst h; exact exVOf (by omega)))
  · exact q_call1 (F := (Fq.is (.int .i64 (-1))).P) hp (free_of rfl) (gq_some rfl rfl (by simp) rfl (fun v w h => h)) (enq_V_of) (sq_const (fun _ => rfl)) (fun v w h => (by subst h; exact exVOf (by omega)))
  · exact q_call1 (F := (Fq.is (.int .i64 9)).P) hp (free_of rfl) (gq_some rfl rfl (by simp) rfl (fun v w h => h)) (enq_V_of) (sq_const (fun _ => rfl)) (fun v w h => (by subst h; exact exVOf (by omega)))
  · exact q_call3 (F := (Fq.num (2)).P) (G := (Fq.num (-1)).P) (F3 := (Fq.num (9)).P) hp (free_of rfl) (gq_some rfl rfl (by simp) rfl (fun v w h => h)) (enq_V_pow) (sq_in 8 rfl rfl (by simp) rfl (fun v w h => h)) (sq_in 9 rfl rfl (by simp) rfl (fun v w h => h)) (sq_in 10 rfl rfl (by simp) rfl (fun v w h => h)) (fun v v' u w h h' g => exPow219 h h' g)
  · exact q_call2 (F := (Fq.got 5 0).P) (G := (Fq.is (.int .i64 5)).P) hp (free_of rfl) (gq_some rfl rfl (by simp) rfl (fun v w h => h)) (enq_V_is) (sq_in 11 rfl rfl (by simp) rfl (fun v w h => h)) (sq_const (fun _ => rfl)) (fun v v' w h h' => (by subst h'; exact exVIs h (by omega) rfl (by decide)))
  · exact q_two (F := fun v _ => v = .bool true) (G := fun v _ => v = .bool true) hp (free_of rfl) trivial (sq_in 7 rfl rfl (by simp) rfl (fun v w h => h)) (sq_in 12 rfl rfl (by simp) rfl (fun v w h => h)) (fun ρ w hc h h' => ⟨_, by simp [execOp, go_sem, h, h'], rfl⟩)
  · exact q_move hp (free_of rfl) trivial (sq_in 13 rfl rfl (by simp) rfl (fun v w h => h))
  · exact q_call1 (F := (Fq.is (.int .i64 2)).P) hp (free_of rfl) (gq_some rfl rfl (by simp) rfl (fun v w h => h)) (enq_V_of) (sq_const (fun _ => rfl)) (fun v w h => (by subst h; exact exVOf (by omega)))
  · exact q_call1 (F := (Fq.is (.int .i64 7)).P) hp (free_of rfl) (gq_some rfl rfl (by simp) rfl (fun v w h => h)) (enq_V_of) (sq_const (fun _ => rfl)) (fun v w h => (by subst h; exact exVOf (by omega)))
  · exact q_call2W (F := (Fq.num (2)).P) (G := (Fq.num (7)).P) hp (free_of rfl) (gq_some rfl rfl (by simp) rfl (fun v w h => h)) (enq_V_root) rfl (sq_in 15 rfl rfl (by simp) rfl (fun v w h => h)) (sq_in 16 rfl rfl (by simp) rfl (fun v w h => h)) (fun v v' w hbw h h' => exRoot27 h h' (HT.out.mono hbw))
  · exact q_call2 (F := (Fq.got 3 0).P) (G := (Fq.is (.int .i64 3)).P) hp (free_of rfl) (gq_some rfl rfl (by simp) rfl (fun v w h => h)) (enq_V_is) (sq_in 17 rfl rfl (by simp) rfl (fun v w h => h)) (sq_const (fun _ => rfl)) (fun v v' w h h' => (by subst h'; exact exVIs h (by omega) rfl (by decide)))
  · exact q_two (F := fun v _ => v = .bool true) (G := fun v _ => v = .bool true) hp (free_of rfl) trivial (sq_in 14 rfl rfl (by simp) rfl (fun v w h => h)) (sq_in 18 rfl rfl (by simp) rfl (fun v w h => h)) (fun ρ w hc h h' => ⟨_, by simp [execOp, go_sem, h, h'], rfl⟩)
  · exact q_move hp (free_of rfl) trivial (sq_in 19 rfl rfl (by simp) rfl (fun v w h => h))
  · exact q_move hp (free_of rfl) (gq_some rfl rfl (by simp) rfl (fun v w h => h)) (sq_out rfl rfl (fun _ _ => rfl))
  · exact q_call1 (F := (Fq.is (.int .i64 1)).P) hp (free_of rfl) (gq_some rfl rfl (by simp) rfl (fun v w h => h)) (enq_V_of) (sq_const (fun _ => rfl)) (fun v w h => (by subst h; exact exVOf (by omega)))
  · exact q_call1 (F := (Fq.is (.int .i64 3)).P) hp (free_of rfl) (gq_some rfl rfl (by simp) rfl (fun v w h => h)) (enq_V_of) (sq_const (fun _ => rfl)) (fun v w h => (by subst h; exact exVOf (by omega)))
  · exact q_call1 (F := (Fq.is (.int .i64 5)).P) hp (free_of rfl) (gq_some rfl rfl (by simp) rfl (fun v w h => h)) (enq_V_of) (sq_const (fun _ => rfl)) (fun v w h => (by subst h; exact exVOf (by omega)))
  · exact q_call1 (F := (Fq.is (.int .i64 7)).P) hp (free_of rfl) (gq_some rfl rfl (by simp) rfl (fun v w h => h)) (enq_V_of) (sq_const (fun _ => rfl)) (fun v w h => (by subst h; exact exVOf (by omega)))
  · exact q_buildInts4 hp (gq_some rfl rfl (by simp) rfl (fun v w h => h)) (List.mem_iff_getElem?.2 ⟨0, rfl⟩) rfl rfl rfl rfl rfl (sq_in 22 rfl rfl (by simp) rfl (fun v w h => h)) (sq_in 23 rfl rfl (by simp) rfl (fun v w h => h)) (sq_in 24 rfl rfl (by simp) rfl (fun v w h => h)) (sq_in 25 rfl rfl (by simp) rfl (fun v w h => h)) (fun _ _ => trivial) (old_ne rfl) (newks_ne rfl)
  · exact q_callWSl (F := (Fq.is (l)).P) hp (free_of rfl) (gq_some rfl rfl (by simp) rfl (fun v w h => h)) enq_U_SameList rfl (List.mem_iff_getElem?.2 ⟨0, rfl⟩) rfl (sq_in 21 rfl rfl (by simp) rfl (fun v w h => h)) (own_ptr rfl rfl (by simp) rfl) (fun v bx w hbw h hbx => (by subst h; exact exSameListB (HL.out.mono hbw) (hbx.nums rfl rfl) (by decide) (by decide) (by decide)))
  · exact q_two (F := fun v _ => v = .bool true) (G := fun v _ => v = .bool true) hp (free_of rfl) trivial (sq_in 20 rfl rfl (by simp) rfl (fun v w h => h)) (sq_in 27 rfl rfl (by simp) rfl (fun v w h => h)) (fun ρ w hc h h' => ⟨_, by simp [execOp, go_sem, h, h'], rfl⟩)
  · exact q_assign hp (free_of rfl) trivial (sq_in 28 rfl rfl (by simp) rfl (fun v w h => h))
  intro L vs w18 nb hL hC hn E18
  have e0 : vs 0 = .bool true := hC 0 (by simp)
  have e1 : vs 1 = .bool true := hC 1 (by simp)
  have e5 : vs 5 = .bool true := hC 5 (by simp)
  have e6 : vs 6 = .bool true := hC 6 (by simp)
  have e7 : vs 7 = .bool true := hC 7 (by simp)
  have e12 : vs 12 = .bool true := hC 12 (by simp)
  have e13 : vs 13 = .bool true := hC 13 (by simp)
  have e14 : vs 14 = .bool true := hC 14 (by simp)
  have e18 : vs 18 = .bool true := hC 18 (by simp)
  have e19 : vs 19 = .bool true := hC 19 (by simp)
  have e20 : vs 20 = .bool true := hC 20 (by simp)
  have e21 : vs 21 = l := hC 21 (by simp)
  have e27 : vs 27 = .bool true := hC 27 (by simp)
  have e28 : vs 28 = .bool true := hC 28 (by simp)
  have e29 : vs 29 = .bool true := hC 29 (by simp)
  have e26 : vs 26 = .slice (some ⟨nb 26, 0, none⟩) 4 4 := hn _ (List.mem_iff_getElem?.2 ⟨0, rfl⟩)
  have E : Fr w3 [(nb 26, 8, Fq.ints [(1), (3), (5), (7)]), (b9_3, 3, Fq.got 0 4), (b8_9, 2, Fq.num 0), (b8_10, 2, Fq.num 0), (b4_9, 2, Fq.num 11), (b4_10, 2, Fq.num 12)] w18 := E18
  rw [lay_all hL]
  simp only [putAll, dstOf, List.length_cons, List.length_nil, Nat.zero_add, Nat.reduceAdd, List.getElem?_toArray, List.getElem?_cons_zero, List.getElem?_cons_succ, Option.bind_some, Act.put, List.setIfInBounds_toArray, List.set_cons_succ, List.set_cons_zero]
  rw [e0, e1, e5, e6, e7, e12, e13, e14, e18, e19, e20, e21, e27, e28, e29, e26]
  generalize nb 26 = b18_26 at E ⊢
  generalize vs 2 = u18_2
  generalize vs 3 = u18_3
  generalize vs 4 = u18_4
  generalize vs 8 = u18_8
  generalize vs 9 = u18_9
  generalize vs 10 = u18_10
  generalize vs 11 = u18_11
  generalize vs 15 = u18_15
  generalize vs 16 = u18_16
  generalize vs 17 = u18_17
  generalize vs 22 = u18_22
  generalize vs 23 = u18_23
  generalize vs 24 = u18_24
  generalize vs 25 = u18_25
  clear e0 e1 e5 e6 e7 e12 e13 e14 e18 e19 e20 e21 e27 e28 e29 e26 hC hn E18 hL vs L nb
  clear B1 B2 B3 B5 B6 B7 B10 B11 B13 B14 B15 B17 HT HL
  go_wp2
  refine bodyPost_ret (v := .bool true) ?_ rfl ⟨_, rfl, HB.out.trans (E.below.mono HB.out.size), rfl⟩
  simp [results, Tryd.results9, go_sem]

end Go.Proofs.YtieobgadihcgeaaDoor

/- Prime numbers: pairs, Wilson, square roots, the theorem on powers of sums, the sequence of Lucas, Pocklington: nothing of the program is used. -/
namespace Go.Proofs.YtieobgadihcgeaaDoor
open Go Go.RowKit

/-- A product over pairs. -/
theorem pair_prod {p : Int} {c : Int} {s : Nat → Nat} : ∀ (n : Nat) (L : List Nat), L.length ≤ n → L.Nodup → (∀ x ∈ L, s x ∈ L ∧ s x ≠ x ∧ s (s x) = x ∧ ((x : Int) * (s x : Int)) % p = c % p) →
    ∃ k, L.length = 2 * k ∧ prodL (fun x => (x : Int)) L % p = c ^ k % p
  | 0, L, hl, _, _ => by
    have : L = [] := List.eq_nil_of_length_eq_zero (by omega)
    subst this
    exact ⟨0, rfl, by rw [Int.pow_zero]; rfl⟩
  | n + 1, [], _, _, _ => ⟨0, rfl, by rw [Int.pow_zero]; rfl⟩
  | n + 1, x :: t, hl, hn, h => by
    obtain ⟨h1, h2, h3, h4⟩ := h x (by simp)
    rw [List.nodup_cons] at hn
    have hm : s x ∈ t := by
      rcases List.mem_cons.1 h1 with e | e
      · exact absurd e h2
      · exact e
    have hp := List.perm_cons_erase hm
    have hle := List.length_erase_of_mem hm
    have hpos : 0 < t.length := List.length_pos_of_mem hm
    have hnd := hn.2.erase (s x)
    obtain ⟨k, e1, e2⟩ := pair_prod (p := p) (c := c) (s := s) n (t.erase (s x)) (by simp at hl; omega) hnd (fun y hy => by
      have hyt := List.mem_of_mem_erase hy
      have hysx : y ≠ s x := fun e => by subst e; exact hn.2.not_mem_erase hy
      have hyx : y ≠ x := fun e => hn.1 (by rw [← e]; exact hyt)
      obtain ⟨g1, g2, g3, g4⟩ := h y (by simp [hyt])
      refine ⟨?_, g2, g3, g4⟩
      have a1 : s y ≠ x := fun e => hysx (by rw [← g3, e])
      have a2 : s y ≠ s x := fun e => hyx (by rw [← g3, e, h3])
      have a3 : s y ∈ t := by
        rcases List.mem_cons.1 g1 with e | e
        · exact absurd e a1
        · exact e
      exact (List.mem_erase_of_ne a2).2 a3)
    refine ⟨k + 1, by simp only [List.length_cons]; omega, ?_⟩
    rw [prodL_cons, prodL_perm hp, prodL_cons, ← Int.mul_assoc, Int.mul_emod, e2, h4, ← Int.mul_emod, Int.pow_succ, Int.mul_comm]
theorem fermat {p : Nat} (hp : Pr p) (ho : p % 2 = 1) {a : Int} (ha : a % p ≠ 0) : a ^ (p - 1) % p = 1 := by
  have h1 := euler hp ho a
  have e : a ^ (p - 1) = a ^ ((p - 1) / 2) * a ^ ((p - 1) / 2) := by rw [← Int.pow_add]; congr 1; have := hp.1; omega
  have h2 : (1 : Int) % p = 1 := Int.emod_eq_of_lt (by decide) (by have := hp.1; omega)
  rw [e, Int.mul_emod, h1, ← Int.mul_emod]
  rcases J_or (hp.cop ha) with h | h <;> rw [h] <;> exact h2
theorem prime_mul {p : Nat} (hp : Pr p) {a b : Int} (h : (a * b) % p = 0) : a % p = 0 ∨ b % p = 0 := by
  by_cases ha : a % p = 0
  · exact .inl ha
  · by_cases hb : b % p = 0
    · exact .inr hb
    · exact absurd h (cop_mod (hp.cop ha) hb)
/-- The number that makes a of x. -/
def sw (p : Nat) (a : Int) (x : Nat) : Nat := ((a * (x : Int) ^ (p - 2)) % p).toNat
theorem sw_spec {p : Nat} (hp : Pr p) (ho : p % 2 = 1) {a : Int} (ha : a % p ≠ 0) {x : Nat} (h1 : 1 ≤ x) (h2 : x ≤ p - 1) :
    1 ≤ sw p a x ∧ sw p a x ≤ p - 1 ∧ ((x : Int) * (sw p a x : Int)) % p = a % p := by
  have h3 := hp.1
  have hx : (x : Int) % p ≠ 0 := fun e => by have := small_mod e (by omega) (by omega); omega
  have r0 := Int.emod_nonneg (a * (x : Int) ^ (p - 2)) (show (p : Int) ≠ 0 by omega)
  have r1 := Int.emod_lt_of_pos (a * (x : Int) ^ (p - 2)) (show (0 : Int) < p by omega)
  have e : ((sw p a x : Nat) : Int) = (a * (x : Int) ^ (p - 2)) % p := by unfold sw; omega
  have e2 : ((x : Int) * (sw p a x : Int)) % p = a % p := by
    rw [e, Int.mul_emod, Int.emod_emod, ← Int.mul_emod]
    have e3 : (x : Int) * (a * (x : Int) ^ (p - 2)) = a * (x : Int) ^ (p - 1) := by
      rw [show p - 1 = p - 2 + 1 by omega, Int.pow_succ]; ac_rfl
    rw [e3, Int.mul_emod, fermat hp ho hx, Int.mul_one, Int.emod_emod]
  refine ⟨?_, by omega, e2⟩
  rcases Nat.eq_zero_or_pos (sw p a x) with h | h
  · rw [h] at e2
    simp at e2
    exact absurd e2.symm (by simpa using ha)
  · exact h
theorem cancel_mod {p : Nat} (hp : Pr p) {x : Int} (hx : x % p ≠ 0) {y z : Nat} (hy : y ≤ p - 1) (hz : z ≤ p - 1) (h : (x * (y : Int)) % p = (x * (z : Int)) % p) : y = z := by
  have h1 := dvd_of_emod h
  rw [← Int.mul_sub] at h1
  have := hp.1
  rcases prime_mul hp (Int.emod_eq_zero_of_dvd h1) with h2 | h2
  · exact absurd h2 hx
  · have := small_mod h2 (by omega) (by omega)
    omega
theorem sw_sw {p : Nat} (hp : Pr p) (ho : p % 2 = 1) {a : Int} (ha : a % p ≠ 0) {x : Nat} (h1 : 1 ≤ x) (h2 : x ≤ p - 1) : sw p a (sw p a x) = x := by
  obtain ⟨g1, g2, g3⟩ := sw_spec hp ho ha h1 h2
  obtain ⟨k1, k2, k3⟩ := sw_spec hp ho ha g1 g2
  have := hp.1
  have hs : ((sw p a x : Nat) : Int) % p ≠ 0 := fun e => by have := small_mod e (by omega) (by omega); omega
  refine cancel_mod hp hs k2 h2 ?_
  rw [k3, Int.mul_comm, g3]
theorem up1_head {h : Nat} : up1 (h + 1) = 1 :: List.range' 2 h := rfl
/-- Wilson. -/
theorem wilson {p : Nat} (hp : Pr p) (ho : p % 2 = 1) : prodL (fun x => (x : Int)) (up1 (p - 1)) % p = (-1) % p := by
  have h3 : 3 ≤ p := by have := hp.1; omega
  have h1p : (1 : Int) % p ≠ 0 := by rw [Int.emod_eq_of_lt (by decide) (by omega)]; decide
  have e : up1 (p - 1) = (1 :: List.range' 2 (p - 3)) ++ [p - 1] := by
    rw [show p - 1 = (p - 3 + 1) + 1 by omega, up1_succ, up1_head]
  have hnd : (List.range' 2 (p - 3)).Nodup := List.nodup_range' 1
  obtain ⟨k, _, hk⟩ := pair_prod (p := (p : Int)) (c := 1) (s := sw p 1) (p - 3) (List.range' 2 (p - 3)) (by simp) hnd (fun x hx => by
    rw [List.mem_range'_1] at hx
    obtain ⟨g1, g2, g3⟩ := sw_spec hp ho h1p (show 1 ≤ x by omega) (show x ≤ p - 1 by omega)
    have hne : ∀ y : Nat, 1 ≤ y → y ≤ p - 1 → ((y : Int) * (y : Int)) % p = 1 % p → y = 1 ∨ y = p - 1 := by
      intro y y1 y2 hy
      have h1 := dvd_of_emod hy
      have h2 : ((y : Int) - 1) * ((y : Int) + 1) = (y : Int) * y - 1 := by rw [Int.mul_add, Int.sub_mul]; omega
      rw [← h2] at h1
      rcases prime_mul hp (Int.emod_eq_zero_of_dvd h1) with h | h
      · have := small_mod h (by omega) (by omega); omega
      · have h4 : ((y : Int) + 1 - p) % p = 0 := by rw [Int.sub_emod, h]; simp
        have := small_mod h4 (by omega) (by omega); omega
    have a1 : sw p 1 x ≠ 1 := fun h => by
      rw [h] at g3
      have h4 := dvd_of_emod g3
      have := small_mod (Int.emod_eq_zero_of_dvd h4) (by omega) (by omega)
      omega
    have a2 : sw p 1 x ≠ p - 1 := fun h => by
      have e4 : (x : Int) * ((p - 1 : Nat) : Int) = x * p - x := by rw [show ((p - 1 : Nat) : Int) = (p : Int) - 1 by omega, Int.mul_sub, Int.mul_one]
      rw [h, e4] at g3
      have h4 := dvd_of_emod g3
      have h5 : (p : Int) ∣ (x : Int) + 1 := by
        have h6 : (x : Int) + 1 = x * p - (x * p - x - 1) := by omega
        rw [h6]
        exact Int.dvd_sub (Int.dvd_mul_left _ _) h4
      have h7 : ((x : Int) + 1 - p) % p = 0 := by rw [Int.sub_emod, Int.emod_eq_zero_of_dvd h5]; simp
      have := small_mod h7 (by omega) (by omega)
      omega
    refine ⟨?_, ?_, sw_sw hp ho h1p (by omega) (by omega), g3⟩
    · rw [List.mem_range'_1]; omega
    · intro h
      rw [h] at g3
      rcases hne x (by omega) (by omega) g3 with h | h <;> omega)
  rw [e, prodL_append, prodL_cons]
  have e5 : prodL (fun x => (x : Int)) [p - 1] = (p : Int) - 1 := by show ((p - 1 : Nat) : Int) * 1 = _; omega
  rw [e5, Int.mul_assoc, show ((1 : Nat) : Int) = 1 by rfl, Int.one_mul, Int.mul_emod (prodL _ _), hk]
  have e6 : (1 : Int) ^ k = 1 := Int.one_pow
  rw [e6, ← Int.mul_emod, Int.one_mul, show (p : Int) - 1 = -1 + p by omega, Int.add_emod_right]
/-- A number whose symbol is 1 has a square root. -/
theorem root_ex {p : Nat} (hp : Pr p) (ho : p % 2 = 1) {a : Int} (h : J a p = 1) : ∃ y : Nat, 1 ≤ y ∧ y ≤ p - 1 ∧ ((y : Int) * y) % p = a % p := by
  have h3 : 3 ≤ p := by have := hp.1; omega
  have ha : a % p ≠ 0 := fun e => by rw [J_not (hp.not_cop e)] at h; cases h
  refine Classical.byContradiction fun hne => ?_
  obtain ⟨k, hk1, hk2⟩ := pair_prod (p := (p : Int)) (c := a) (s := sw p a) (p - 1) (up1 (p - 1)) (by unfold up1; simp) (up1_nodup _) (fun x hx => by
    rw [up1_mem] at hx
    obtain ⟨g1, g2, g3⟩ := sw_spec hp ho ha hx.1 hx.2
    refine ⟨up1_mem.2 ⟨g1, g2⟩, fun e => ?_, sw_sw hp ho ha hx.1 hx.2, g3⟩
    rw [e] at g3
    exact hne ⟨x, hx.1, hx.2, g3⟩)
  have hl : (up1 (p - 1)).length = p - 1 := by unfold up1; rw [List.length_range']
  rw [hl] at hk1
  have e := euler hp ho a
  rw [show (p - 1) / 2 = k by omega, ← hk2, wilson hp ho, h] at e
  have h5 := dvd_of_emod e
  have := small_mod (Int.emod_eq_zero_of_dvd h5) (by omega) (by omega)
  omega
/-- Numbers a + b α, where α α = P α - 1. -/
def mu (P : Int) (x y : Int × Int) : Int × Int := (x.1 * y.1 - x.2 * y.2, x.1 * y.2 + x.2 * y.1 + P * (x.2 * y.2))
def ad (x y : Int × Int) : Int × Int := (x.1 + y.1, x.2 + y.2)
def sm (c : Int) (x : Int × Int) : Int × Int := (c * x.1, c * x.2)
def po (P : Int) (x : Int × Int) : Nat → Int × Int
  | 0 => (1, 0)
  | n + 1 => mu P (po P x n) x
theorem mu_comm (P : Int) (x y : Int × Int) : mu P x y = mu P y x := by
  unfold mu
  rw [Int.mul_comm x.1 y.1, Int.mul_comm x.2 y.2, Int.mul_comm x.1 y.2, Int.mul_comm x.2 y.1, Int.add_comm (y.2 * x.1)]
theorem mu_assoc (P : Int) (x y z : Int × Int) : mu P (mu P x y) z = mu P x (mu P y z) := by
  obtain ⟨a, b⟩ := x
  obtain ⟨c, d⟩ := y
  obtain ⟨e, f⟩ := z
  simp only [mu, Prod.mk.injEq]
  simp only [Int.mul_add, Int.mul_sub, Int.mul_left_comm, Int.mul_comm]
  constructor <;> omega
theorem mu_ad (P : Int) (x y z : Int × Int) : mu P x (ad y z) = ad (mu P x y) (mu P x z) := by
  obtain ⟨a, b⟩ := x
  obtain ⟨c, d⟩ := y
  obtain ⟨e, f⟩ := z
  simp only [mu, ad, Prod.mk.injEq]
  simp only [Int.mul_add]
  constructor <;> omega
theorem ad_mu (P : Int) (x y z : Int × Int) : mu P (ad x y) z = ad (mu P x z) (mu P y z) := by rw [mu_comm, mu_ad, mu_comm P z, mu_comm P z]
theorem ad_comm (x y : Int × Int) : ad x y = ad y x := by unfold ad; rw [Int.add_comm x.1, Int.add_comm x.2]
theorem ad_assoc (x y z : Int × Int) : ad (ad x y) z = ad x (ad y z) := by unfold ad; rw [Int.add_assoc, Int.add_assoc]
theorem sm_mu (P c : Int) (x y : Int × Int) : mu P (sm c x) y = sm c (mu P x y) := by
  obtain ⟨a, b⟩ := x
  obtain ⟨e, f⟩ := y
  simp only [mu, sm, Prod.mk.injEq]
  simp only [Int.mul_add, Int.mul_sub, Int.mul_assoc, Int.mul_left_comm P c]
  exact ⟨trivial, trivial⟩
theorem mu_sm (P c : Int) (x y : Int × Int) : mu P x (sm c y) = sm c (mu P x y) := by rw [mu_comm, sm_mu, mu_comm]
theorem sm_ad (c : Int) (x y : Int × Int) : sm c (ad x y) = ad (sm c x) (sm c y) := by unfold sm ad; simp only [Int.mul_add]
theorem add_sm (c d : Int) (x : Int × Int) : sm (c + d) x = ad (sm c x) (sm d x) := by unfold sm ad; simp only [Int.add_mul]
theorem one_mu (P : Int) (x : Int × Int) : mu P (1, 0) x = x := by unfold mu; simp
theorem mu_one (P : Int) (x : Int × Int) : mu P x (1, 0) = x := by rw [mu_comm, one_mu]
theorem sm_one (x : Int × Int) : sm 1 x = x := by unfold sm; simp
theorem sm_zero (x : Int × Int) : sm 0 x = (0, 0) := by unfold sm; simp
theorem ad_zero (x : Int × Int) : ad x (0, 0) = x := by unfold ad; simp
theorem po_one (P : Int) (x : Int × Int) : po P x 1 = x := one_mu P x
theorem po_add (P : Int) (x : Int × Int) (m : Nat) : ∀ n, po P x (m + n) = mu P (po P x m) (po P x n)
  | 0 => (mu_one P _).symm
  | n + 1 => by show mu P (po P x (m + n)) x = mu P _ (mu P (po P x n) x); rw [po_add P x m n, mu_assoc]
theorem po_mu (P : Int) (x y : Int × Int) : ∀ n, po P (mu P x y) n = mu P (po P x n) (po P y n)
  | 0 => (mu_one P _).symm
  | n + 1 => by
    show mu P (po P (mu P x y) n) (mu P x y) = mu P (mu P (po P x n) x) (mu P (po P y n) y)
    rw [po_mu P x y n, mu_assoc, mu_assoc, ← mu_assoc P (po P y n) x y, mu_comm P (po P y n) x, mu_assoc P x]
theorem po_po (P : Int) (x : Int × Int) (m : Nat) : ∀ n, po P (po P x m) n = po P x (m * n)
  | 0 => rfl
  | n + 1 => by show mu P (po P (po P x m) n) (po P x m) = _; rw [po_po P x m n, Nat.mul_succ, po_add]
theorem po_int (P c : Int) : ∀ n, po P (c, 0) n = (c ^ n, 0)
  | 0 => by rw [Int.pow_zero]; rfl
  | n + 1 => by show mu P (po P (c, 0) n) (c, 0) = _; rw [po_int P c n]; unfold mu; simp [Int.pow_succ]
theorem int_mu (P c : Int) (x : Int × Int) : mu P (c, 0) x = sm c x := by unfold mu sm; simp
theorem po_sm (P c : Int) (x : Int × Int) (n : Nat) : po P (sm c x) n = sm (c ^ n) (po P x n) := by rw [← int_mu P, po_mu, po_int, int_mu]
/-- The same modulo p. -/
def Eqp (p : Int) (x y : Int × Int) : Prop := x.1 % p = y.1 % p ∧ x.2 % p = y.2 % p
theorem Eqp.refl (p : Int) (x : Int × Int) : Eqp p x x := ⟨rfl, rfl⟩
theorem Eqp.symm {p : Int} {x y : Int × Int} (h : Eqp p x y) : Eqp p y x := ⟨h.1.symm, h.2.symm⟩
theorem Eqp.trans {p : Int} {x y z : Int × Int} (h : Eqp p x y) (h' : Eqp p y z) : Eqp p x z := ⟨h.1.trans h'.1, h.2.trans h'.2⟩
theorem mul_modm {p a b c d : Int} (h : a % p = c % p) (h' : b % p = d % p) : (a * b) % p = (c * d) % p := by rw [Int.mul_emod, h, h', ← Int.mul_emod]
theorem add_modm {p a b c d : Int} (h : a % p = c % p) (h' : b % p = d % p) : (a + b) % p = (c + d) % p := by rw [Int.add_emod, h, h', ← Int.add_emod]
theorem sub_modm {p a b c d : Int} (h : a % p = c % p) (h' : b % p = d % p) : (a - b) % p = (c - d) % p := by rw [Int.sub_emod, h, h', ← Int.sub_emod]
theorem Eqp.ad {p : Int} {x y x' y' : Int × Int} (h : Eqp p x x') (h' : Eqp p y y') : Eqp p (ad x y) (ad x' y') := ⟨add_modm h.1 h'.1, add_modm h.2 h'.2⟩
theorem Eqp.mu {p P : Int} {x y x' y' : Int × Int} (h : Eqp p x x') (h' : Eqp p y y') : Eqp p (mu P x y) (mu P x' y') :=
  ⟨sub_modm (mul_modm h.1 h'.1) (mul_modm h.2 h'.2), add_modm (add_modm (mul_modm h.1 h'.2) (mul_modm h.2 h'.1)) (mul_modm rfl (mul_modm h.2 h'.2))⟩
theorem Eqp.sm {p : Int} {c d : Int} {x y : Int × Int} (hc : c % p = d % p) (h : Eqp p x y) : Eqp p (sm c x) (sm d y) := ⟨mul_modm hc h.1, mul_modm hc h.2⟩
theorem Eqp.po {p P : Int} {x y : Int × Int} (h : Eqp p x y) : ∀ n, Eqp p (po P x n) (po P y n)
  | 0 => Eqp.refl _ _
  | n + 1 => (Eqp.po h n).mu h
/-- The binomial coefficients. -/
def ch : Nat → Nat → Nat
  | _, 0 => 1
  | 0, _ + 1 => 0
  | n + 1, k + 1 => ch n k + ch n (k + 1)
theorem ch_zero : ∀ n k : Nat, n < k → ch n k = 0
  | 0, k + 1, _ => rfl
  | n + 1, k + 1, h => by show ch n k + ch n (k + 1) = 0; rw [ch_zero n k (by omega), ch_zero n (k + 1) (by omega)]
  | _, 0, h => by omega
theorem ch_self : ∀ n : Nat, ch n n = 1
  | 0 => rfl
  | n + 1 => by show ch n n + ch n (n + 1) = 1; rw [ch_self n, ch_zero n (n + 1) (by omega)]
theorem ch_absorb : ∀ n k : Nat, (k + 1) * ch (n + 1) (k + 1) = (n + 1) * ch n k
  | 0, 0 => rfl
  | 0, k + 1 => by
    show (k + 2) * (ch 0 (k + 1) + ch 0 (k + 2)) = 1 * ch 0 (k + 1)
    rfl
  | n + 1, 0 => by
    have h1 := ch_absorb n 0
    have e0 : ch (n + 1) 0 = 1 := rfl
    have e1 : ch n 0 = 1 := by cases n <;> rfl
    show (0 + 1) * (ch (n + 1) 0 + ch (n + 1) 1) = _
    rw [e0] at *
    rw [e1] at h1
    simp only [Nat.zero_add, Nat.one_mul, Nat.mul_one] at h1 ⊢
    omega
  | n + 1, k + 1 => by
    have h1 := ch_absorb n k
    have h2 := ch_absorb n (k + 1)
    have e : ch (n + 1) (k + 1) = ch n k + ch n (k + 1) := rfl
    show (k + 2) * (ch (n + 1) (k + 1) + ch (n + 1) (k + 2)) = (n + 2) * ch (n + 1) (k + 1)
    have e3 : (k + 2) * (ch (n + 1) (k + 1) + ch (n + 1) (k + 2)) = (k + 1) * ch (n + 1) (k + 1) + ch (n + 1) (k + 1) + (k + 2) * ch (n + 1) (k + 2) := by
      rw [Nat.mul_add, Nat.succ_mul (k + 1)]
    have e4 : (k + 2) * ch (n + 1) (k + 2) = (n + 1) * ch n (k + 1) := h2
    rw [e3, h1, e4, e]
    rw [Nat.succ_mul (n + 1), Nat.mul_add]
    omega
theorem ch_dvd {p : Nat} (hp : Pr p) {k : Nat} (h1 : 1 ≤ k) (h2 : k < p) : p ∣ ch p k := by
  obtain ⟨j, rfl⟩ : ∃ j, k = j + 1 := ⟨k - 1, by omega⟩
  obtain ⟨q, rfl⟩ : ∃ q, p = q + 1 := ⟨p - 1, by omega⟩
  have h := ch_absorb q j
  have h3 : (((j + 1 : Nat) : Int) * (ch (q + 1) (j + 1) : Int)) % ((q + 1 : Nat) : Int) = 0 := by
    have : ((j + 1 : Nat) : Int) * (ch (q + 1) (j + 1) : Int) = ((q + 1 : Nat) : Int) * (ch q j : Int) := by exact_mod_cast h
    rw [this]
    exact Int.mul_emod_right _ _
  rcases prime_mul hp h3 with h4 | h4
  · have := small_mod h4 (by omega) (by omega); omega
  · exact Int.natCast_dvd_natCast.1 (Int.dvd_of_emod_eq_zero h4)
def sumR (f : Nat → Int × Int) : Nat → Int × Int
  | 0 => (0, 0)
  | n + 1 => ad (sumR f n) (f n)
theorem sumR_congr {f g : Nat → Int × Int} : ∀ n, (∀ k, k < n → f k = g k) → sumR f n = sumR g n
  | 0, _ => rfl
  | n + 1, h => by show ad (sumR f n) (f n) = _; rw [sumR_congr n (fun k hk => h k (by omega)), h n (by omega)]; rfl
theorem sumR_head (f : Nat → Int × Int) : ∀ n, sumR f (n + 1) = ad (f 0) (sumR (fun k => f (k + 1)) n)
  | 0 => by show ad (0, 0) (f 0) = ad (f 0) (0, 0); rw [ad_comm]
  | n + 1 => by show ad (sumR f (n + 1)) (f (n + 1)) = _; rw [sumR_head f n, ad_assoc]; rfl
theorem sumR_ad (f g : Nat → Int × Int) : ∀ n, sumR (fun k => ad (f k) (g k)) n = ad (sumR f n) (sumR g n)
  | 0 => rfl
  | n + 1 => by
    show ad (sumR (fun k => ad (f k) (g k)) n) (ad (f n) (g n)) = ad (ad (sumR f n) (f n)) (ad (sumR g n) (g n))
    rw [sumR_ad f g n, ad_assoc, ad_assoc, ← ad_assoc (sumR g n), ad_comm (sumR g n) (f n), ad_assoc (f n)]
theorem sumR_mu (P : Int) (x : Int × Int) (f : Nat → Int × Int) : ∀ n, sumR (fun k => mu P x (f k)) n = mu P x (sumR f n)
  | 0 => by show (0, 0) = mu P x (0, 0); unfold mu; simp
  | n + 1 => by show ad (sumR (fun k => mu P x (f k)) n) (mu P x (f n)) = mu P x (ad (sumR f n) (f n)); rw [sumR_mu P x f n, mu_ad]
theorem sumR_mod {p : Int} {f : Nat → Int × Int} : ∀ n, (∀ k, k < n → Eqp p (f k) (0, 0)) → Eqp p (sumR f n) (0, 0)
  | 0, _ => Eqp.refl _ _
  | n + 1, h => by
    have := (sumR_mod n (fun k hk => h k (by omega))).ad (h n (by omega))
    rwa [ad_zero] at this
/-- The binomial theorem. -/
theorem binom (P : Int) (x y : Int × Int) : ∀ n : Nat, po P (ad x y) n = sumR (fun k => sm (ch n k) (mu P (po P x k) (po P y (n - k)))) (n + 1)
  | 0 => by
    show (1, 0) = ad (0, 0) (sm ((1 : Nat) : Int) (mu P (1, 0) (1, 0)))
    rw [mu_one, ad_comm, ad_zero]; exact (sm_one _).symm
  | n + 1 => by
    show mu P (po P (ad x y) n) (ad x y) = _
    rw [sumR_head]
    have e : sumR (fun k => sm (ch (n + 1) (k + 1)) (mu P (po P x (k + 1)) (po P y (n + 1 - (k + 1))))) (n + 1) =
        ad (sumR (fun k => mu P x (sm (ch n k) (mu P (po P x k) (po P y (n - k))))) (n + 1)) (sumR (fun k => sm (ch n (k + 1)) (mu P (po P x (k + 1)) (po P y (n - k)))) (n + 1)) := by
      rw [← sumR_ad]
      refine sumR_congr _ fun k hk => ?_
      show sm ((ch n k + ch n (k + 1) : Nat) : Int) _ = _
      rw [Int.natCast_add, add_sm, show n + 1 - (k + 1) = n - k by omega]
      congr 1
      rw [mu_sm]
      congr 1
      show mu P (mu P (po P x k) x) _ = _
      rw [mu_comm P (po P x k) x, mu_assoc]
    rw [e]
    have e2 : sumR (fun k => sm (ch n (k + 1)) (mu P (po P x (k + 1)) (po P y (n - k)))) (n + 1) = sumR (fun k => sm (ch n (k + 1)) (mu P (po P x (k + 1)) (po P y (n - k)))) n := by
      show ad _ (sm ((ch n (n + 1) : Nat) : Int) _) = _
      rw [ch_zero n (n + 1) (by omega)]
      exact (congrArg _ (sm_zero _)).trans (ad_zero _)
    rw [e2]
    have e3 : ad (sm (ch (n + 1) 0) (mu P (po P x 0) (po P y (n + 1 - 0)))) (sumR (fun k => sm (ch n (k + 1)) (mu P (po P x (k + 1)) (po P y (n - k)))) n) = mu P y (sumR (fun k => sm (ch n k) (mu P (po P x k) (po P y (n - k)))) (n + 1)) := by
      rw [sumR_head, mu_ad, ← sumR_mu]
      congr 1
      · have e0 : ch n 0 = 1 := by cases n <;> rfl
        rw [e0, show ch (n + 1) 0 = 1 by rfl, mu_sm]
        congr 1
        show mu P (1, 0) (mu P (po P y n) y) = mu P y (mu P (1, 0) (po P y n))
        rw [one_mu, one_mu, mu_comm]
      · refine sumR_congr _ fun k hk => ?_
        rw [mu_sm]
        congr 1
        rw [show n - k = n - (k + 1) + 1 by omega]
        show mu P _ (mu P (po P y (n - (k + 1))) y) = _
        rw [← mu_assoc, mu_comm P y]
    rw [ad_comm (sumR _ _) (sumR _ _), ← ad_assoc, e3, sumR_mu, ← ad_mu, mu_comm, ad_comm y x, ← binom P x y n]
/-- The power of a sum, to the power of a prime. -/
theorem frob {p : Nat} (hp : Pr p) (P : Int) (x y : Int × Int) : Eqp p (po P (ad x y) p) (ad (po P x p) (po P y p)) := by
  have h2 := hp.1
  rw [binom]
  obtain ⟨q, rfl⟩ : ∃ q, p = q + 1 := ⟨p - 1, by omega⟩
  show Eqp _ (ad (sumR _ (q + 1)) (sm ((ch (q + 1) (q + 1) : Nat) : Int) (mu P (po P x (q + 1)) (po P y (q + 1 - (q + 1)))))) _
  rw [ch_self, Nat.sub_self, show po P y 0 = (1, 0) by rfl, mu_one, show ((1 : Nat) : Int) = 1 by rfl, sm_one, sumR_head, ad_comm (po P x (q + 1))]
  refine Eqp.ad ?_ (Eqp.refl _ _)
  have e0 : sm ((ch (q + 1) 0 : Nat) : Int) (mu P (po P x 0) (po P y (q + 1 - 0))) = po P y (q + 1) := by
    rw [show ch (q + 1) 0 = 1 by rfl, show po P x 0 = (1, 0) by rfl, one_mu]
    exact sm_one _
  rw [e0]
  have := (Eqp.refl ((q + 1 : Nat) : Int) (po P y (q + 1))).ad (sumR_mod (p := ((q + 1 : Nat) : Int)) (f := fun k => sm (ch (q + 1) (k + 1)) (mu P (po P x (k + 1)) (po P y (q + 1 - (k + 1))))) q fun k hk => by
    have hd := ch_dvd hp (show 1 ≤ k + 1 by omega) (show k + 1 < q + 1 by omega)
    have hz : ((ch (q + 1) (k + 1) : Nat) : Int) % ((q + 1 : Nat) : Int) = 0 % ((q + 1 : Nat) : Int) := by
      rw [Int.zero_emod]
      exact Int.emod_eq_zero_of_dvd (Int.natCast_dvd_natCast.2 hd)
    have := Eqp.sm hz (Eqp.refl _ (mu P (po P x (k + 1)) (po P y (q + 1 - (k + 1)))))
    rwa [sm_zero] at this)
  rwa [ad_zero] at this
/-- The sequence of Lucas. -/
def luc (P : Int) : Nat → Int
  | 0 => 2
  | 1 => P
  | n + 2 => P * luc P (n + 1) - luc P n
theorem luc_po (P : Int) : ∀ n, ad (po P (0, 1) n) (po P (P, -1) n) = (luc P n, 0) ∧ ad (po P (0, 1) (n + 1)) (po P (P, -1) (n + 1)) = (luc P (n + 1), 0)
  | 0 => ⟨rfl, by rw [po_one, po_one]; show (0 + P, 1 + -1) = (P, 0); simp⟩
  | n + 1 => by
    obtain ⟨h1, h2⟩ := luc_po P n
    refine ⟨h2, ?_⟩
    have a1 : ∀ m, po P (0, 1) (m + 2) = ad (sm P (po P (0, 1) (m + 1))) (sm (-1) (po P (0, 1) m)) := fun m => by
      show mu P (mu P (po P (0, 1) m) (0, 1)) (0, 1) = ad (sm P (mu P (po P (0, 1) m) (0, 1))) (sm (-1) (po P (0, 1) m))
      rw [mu_assoc, ← mu_sm]
      have e : mu P (0, 1) (0, 1) = ad (sm P (0, 1)) (sm (-1) (1, 0)) := by simp [mu, ad, sm]
      rw [e, mu_ad, mu_sm P (-1), mu_one]
    have a2 : ∀ m, po P (P, -1) (m + 2) = ad (sm P (po P (P, -1) (m + 1))) (sm (-1) (po P (P, -1) m)) := fun m => by
      show mu P (mu P (po P (P, -1) m) (P, -1)) (P, -1) = ad (sm P (mu P (po P (P, -1) m) (P, -1))) (sm (-1) (po P (P, -1) m))
      rw [mu_assoc, ← mu_sm]
      have e : mu P (P, -1) (P, -1) = ad (sm P (P, -1)) (sm (-1) (1, 0)) := by simp [mu, ad, sm]; omega
      rw [e, mu_ad, mu_sm P (-1), mu_one]
    rw [a1, a2, ad_assoc, ← ad_assoc (sm (-1) _), ad_comm (sm (-1) _) (sm P _), ad_assoc (sm P _), ← ad_assoc, ← sm_ad, ← sm_ad, h2, h1]
    show (P * luc P (n + 1) + -1 * luc P n, P * 0 + -1 * 0) = (P * luc P (n + 1) - luc P n, 0)
    congr 1 <;> omega
theorem luc_two (P : Int) (n : Nat) : luc P (2 * n) = luc P n * luc P n - 2 ∧ luc P (2 * n + 1) = luc P n * luc P (n + 1) - P := by
  have ab1 : mu P (0, 1) (P, -1) = (1, 0) := by simp [mu]; omega
  have hn : ∀ m, mu P (po P (0, 1) m) (po P (P, -1) m) = (1, 0) := fun m => by rw [← po_mu, ab1, po_int, Int.one_pow]
  have h0 := (luc_po P n).1
  have h1 := (luc_po P n).2
  have h2 := (luc_po P (2 * n)).1
  have h3 := (luc_po P (2 * n)).2
  have hx := hn n
  generalize hA : po P (0, 1) n = A at *
  generalize hB : po P (P, -1) n = B at *
  have e1 : mu P (ad A B) (ad A B) = ad (ad (mu P A A) (mu P B B)) (2, 0) := by
    rw [mu_ad, ad_mu, ad_mu, mu_comm P B A, hx, ad_assoc, ← ad_assoc (1, 0), ad_comm (ad (1, 0) (1, 0)), ← ad_assoc]; rfl
  have e2 : ad (mu P A A) (mu P B B) = (luc P (2 * n), 0) := by rw [← h2, Nat.two_mul, po_add, po_add, hA, hB]
  rw [h0, e2] at e1
  have e3 := congrArg Prod.fst e1
  simp [mu, ad] at e3
  refine ⟨by omega, ?_⟩
  have hA1 : po P (0, 1) (n + 1) = mu P A (0, 1) := by show mu P (po P (0, 1) n) (0, 1) = _; rw [hA]
  have hB1 : po P (P, -1) (n + 1) = mu P B (P, -1) := by show mu P (po P (P, -1) n) (P, -1) = _; rw [hB]
  have f1 : mu P (ad A B) (ad (mu P A (0, 1)) (mu P B (P, -1))) = ad (ad (mu P (mu P A A) (0, 1)) (mu P (mu P B B) (P, -1))) (P, 0) := by
    rw [mu_ad, ad_mu, ad_mu, ← mu_assoc, ← mu_assoc, ← mu_assoc, ← mu_assoc, mu_comm P B A, hx, one_mu, one_mu, ad_assoc, ← ad_assoc (0, 1), ad_comm (ad (0, 1) (P, -1)), ← ad_assoc]
    congr 1
    simp [ad]
  have f2 : ad (mu P (mu P A A) (0, 1)) (mu P (mu P B B) (P, -1)) = (luc P (2 * n + 1), 0) := by
    rw [← h3]
    show _ = ad (mu P (po P (0, 1) (2 * n)) (0, 1)) (mu P (po P (P, -1) (2 * n)) (P, -1))
    rw [Nat.two_mul, po_add, po_add, hA, hB]
  rw [← hA1, ← hB1, h0, h1] at f1
  rw [hA1, hB1] at h1
  rw [f2] at f1
  have f3 := congrArg Prod.fst f1
  simp [mu, ad] at f3
  omega
theorem sm_cancel {p : Nat} (hp : Pr p) {c : Int} (hc : c % p ≠ 0) {x y : Int × Int} (h : Eqp p (sm c x) (sm c y)) : Eqp p x y := by
  have k : ∀ a b : Int, (c * a) % p = (c * b) % p → a % p = b % p := fun a b e => by
    have h1 := dvd_of_emod e
    rw [← Int.mul_sub] at h1
    rcases prime_mul hp (Int.emod_eq_zero_of_dvd h1) with h2 | h2
    · exact absurd h2 hc
    · exact emod_of_dvd (Int.dvd_of_emod_eq_zero h2)
  exact ⟨k _ _ h.1, k _ _ h.2⟩
theorem fermat_all {p : Nat} (hp : Pr p) (ho : p % 2 = 1) (a : Int) : a ^ p % p = a % p := by
  have h2 := hp.1
  have e : a ^ p = a ^ (p - 1) * a := by rw [← Int.pow_succ]; congr 1; omega
  by_cases ha : a % p = 0
  · rw [e, Int.mul_emod, ha, Int.mul_zero, Int.zero_emod]
  · rw [e, Int.mul_emod, fermat hp ho ha, Int.one_mul, Int.emod_emod]
/-- Half of p - 1 gives the sequence's first number, if P - 2 is no square and P + 2 is one. -/
theorem luc_half {p : Nat} (hp : Pr p) (ho : p % 2 = 1) {P : Int} (h1 : J (P - 2) p = -1) (h2 : J (P + 2) p = 1) : luc P ((p - 1) / 2) % p = P % p := by
  have h3 : 3 ≤ p := by have := hp.1; omega
  have hP : (P + 2) % p ≠ 0 := fun e => by rw [J_not (hp.not_cop e)] at h2; cases h2
  have n2 : (2 : Int) % p ≠ 0 := by rw [Int.emod_eq_of_lt (by decide) (by omega)]; decide
  obtain ⟨h, hh⟩ : ∃ h, p = 2 * h + 1 := ⟨(p - 1) / 2, by omega⟩
  have hq : (p - 1) / 2 = h := by omega
  rw [hq]
  have ab1 : mu P (0, 1) (P, -1) = (1, 0) := by simp [mu]; omega
  -- θ = 2 α - P
  have hD : (P * P - 4) ^ h % p = (-1) % p := by
    have e := euler hp ho (P * P - 4)
    rw [hq, show P * P - 4 = (P - 2) * (P + 2) by rw [Int.sub_mul, Int.mul_add]; omega, J_mul ho, h1, h2] at e
    rw [show P * P - 4 = (P - 2) * (P + 2) by rw [Int.sub_mul, Int.mul_add]; omega]
    exact e
  have t1 : po P (-P, 2) p = sm ((P * P - 4) ^ h) (-P, 2) := by
    rw [hh]
    show mu P (po P (-P, 2) (2 * h)) (-P, 2) = _
    rw [← po_po]
    have e : po P (-P, 2) 2 = (P * P - 4, 0) := by
      show mu P (mu P (1, 0) (-P, 2)) (-P, 2) = _
      rw [one_mu]
      simp only [mu, Prod.mk.injEq]
      constructor
      · rw [Int.neg_mul_neg]; omega
      · have : P * (2 * 2) = 4 * P := by rw [Int.mul_comm]; rfl
        omega
    rw [e, po_int, int_mu]
  have t2 : Eqp p (po P (-P, 2) p) (sm (-1) (-P, 2)) := by rw [t1]; exact Eqp.sm hD (Eqp.refl _ _)
  have t3 : Eqp p (po P (-P, 2) p) (ad (sm 2 (po P (0, 1) p)) (-P, 0)) := by
    have e : (-P, 2) = ad (sm 2 (0, 1)) (-P, (0 : Int)) := by simp [ad, sm]
    have f := frob hp P (sm 2 (0, 1)) (-P, 0)
    rw [← e, po_sm, po_int] at f
    refine f.trans (Eqp.ad (Eqp.sm (fermat_all hp ho 2) (Eqp.refl _ _)) ⟨fermat_all hp ho (-P), rfl⟩)
  have t4 : Eqp p (po P (0, 1) p) (P, -1) := by
    refine sm_cancel hp n2 ?_
    have e := (t3.symm.trans t2).ad (Eqp.refl (p : Int) (P, 0))
    rw [ad_assoc, show ad (-P, 0) (P, 0) = ((0 : Int), (0 : Int)) by simp [ad]; omega, ad_zero] at e
    refine e.trans ?_
    have e2 : ad (sm (-1) (-P, 2)) (P, 0) = sm 2 (P, -1) := by simp [ad, sm]; omega
    rw [e2]; exact Eqp.refl _ _
  -- (α + 1)^(p + 1)
  have t5 : Eqp p (po P (1, 1) (p + 1)) (P + 2, 0) := by
    have f := frob hp P (0, 1) (1, 0)
    rw [show ad (0, 1) (1, 0) = ((1 : Int), (1 : Int)) by rfl, po_int, Int.one_pow] at f
    have e := (f.trans (t4.ad (Eqp.refl _ _))).mu (P := P) (Eqp.refl (p : Int) (1, 1))
    refine Eqp.trans (show Eqp p (po P (1, 1) (p + 1)) _ from e) ?_
    have e2 : mu P (ad (P, -1) (1, 0)) (1, 1) = (P + 2, 0) := by simp [mu, ad]; omega
    rw [e2]; exact Eqp.refl _ _
  have t6 : po P (1, 1) (p + 1) = sm ((P + 2) ^ (h + 1)) (po P (0, 1) (h + 1)) := by
    rw [show p + 1 = 2 * (h + 1) by omega, ← po_po]
    have e : po P (1, 1) 2 = sm (P + 2) (0, 1) := by
      show mu P (mu P (1, 0) (1, 1)) (1, 1) = _
      rw [one_mu]; simp [mu, sm]; omega
    rw [e, po_sm]
  have t7 : (P + 2) ^ (h + 1) % p = (P + 2) % p := by
    have e := euler hp ho (P + 2)
    rw [hq, h2] at e
    rw [Int.pow_succ, Int.mul_emod, e, ← Int.mul_emod, Int.one_mul]
  have t8 : Eqp p (po P (0, 1) (h + 1)) (1, 0) := by
    refine sm_cancel hp hP ?_
    refine (Eqp.sm t7.symm (Eqp.refl _ _)).trans ?_
    rw [← t6]
    refine t5.trans ?_
    have : sm (P + 2) (1, 0) = (P + 2, 0) := by simp [sm]
    rw [this]; exact Eqp.refl _ _
  have t9 : Eqp p (po P (0, 1) h) (P, -1) := by
    have e := t8.mu (P := P) (Eqp.refl (p : Int) (P, -1))
    rw [show po P (0, 1) (h + 1) = mu P (po P (0, 1) h) (0, 1) by rfl, mu_assoc, ab1, mu_one, one_mu] at e
    exact e
  have hn : mu P (po P (0, 1) h) (po P (P, -1) h) = (1, 0) := by rw [← po_mu, ab1, po_int, Int.one_pow]
  have t10 : Eqp p (po P (P, -1) h) (0, 1) := by
    have e := (t9.mu (P := P) (Eqp.refl (p : Int) (po P (P, -1) h)))
    rw [hn] at e
    have e2 := (Eqp.refl (p : Int) (0, 1)).mu (P := P) e
    rw [← mu_assoc, ab1, one_mu, mu_one] at e2
    exact e2.symm
  have t11 := t9.ad t10
  rw [(luc_po P h).1] at t11
  have := t11.1
  simp [ad] at this
  exact this
theorem pr_of {p : Nat} (h2 : 2 ≤ p) (h : ∀ d, 2 ≤ d → d * d ≤ p → p % d ≠ 0) : Pr p := by
  refine ⟨h2, fun d hd => ?_⟩
  obtain ⟨c, hc⟩ := hd
  refine Classical.byContradiction fun hne => ?_
  have d0 : d ≠ 0 := fun e => by rw [e, Nat.zero_mul] at hc; omega
  have c0 : c ≠ 0 := fun e => by rw [e, Nat.mul_zero] at hc; omega
  have c1 : c ≠ 1 := fun e => by rw [e, Nat.mul_one] at hc; omega
  rcases Nat.le_total d c with hl | hl
  · refine h d (by omega) ?_ (by rw [hc]; exact Nat.mul_mod_right _ _)
    rw [hc]; exact Nat.mul_le_mul_left _ hl
  · refine h c (by omega) ?_ (by rw [hc]; exact Nat.mul_mod_left _ _)
    rw [hc]; exact Nat.mul_le_mul_right _ hl
/-- Trial division by the numbers from d on. -/
def tri (p : Nat) : Nat → Nat → Bool
  | 0, _ => false
  | f + 1, d => if p < d * d then true else if p % d = 0 then false else tri p f (d + 1)
theorem tri_spec {p : Nat} : ∀ f d, tri p f d = true → ∀ c, d ≤ c → c * c ≤ p → p % c ≠ 0
  | 0, _, h => by cases h
  | f + 1, d, h => by
    intro c hc hcc
    unfold tri at h
    by_cases h1 : p < d * d
    · have := Nat.mul_le_mul hc hc; omega
    · rw [if_neg h1] at h
      by_cases h2 : p % d = 0
      · rw [if_pos h2] at h; cases h
      · rw [if_neg h2] at h
        rcases Nat.lt_or_ge d c with h3 | h3
        · exact tri_spec f (d + 1) h c h3 hcc
        · rw [show c = d by omega]; exact h2
theorem pr_tri {p : Nat} (f : Nat) (h2 : 2 ≤ p) (h : tri p f 2 = true) : Pr p := pr_of h2 fun d hd hdd => tri_spec f 2 h d hd hdd
/-- A number that is no prime has a small prime divisor. -/
theorem small_prime : ∀ (n : Nat), 2 ≤ n → ∃ d, Pr d ∧ d ∣ n := by
  intro n
  induction n using Nat.strongRecOn with
  | _ n ih =>
    intro h
    by_cases hp : Pr n
    · exact ⟨n, hp, Nat.dvd_refl _⟩
    · have : ∃ d, d ∣ n ∧ d ≠ 1 ∧ d ≠ n := Classical.byContradiction fun hne => hp ⟨h, fun d hd => Classical.byContradiction fun h2 => hne ⟨d, hd, fun e => h2 (.inl e), fun e => h2 (.inr e)⟩⟩
      obtain ⟨d, h1, h2, h3⟩ := this
      have h4 := Nat.le_of_dvd (by omega) h1
      have h5 : d ≠ 0 := fun e => by rw [e, Nat.zero_dvd] at h1; omega
      obtain ⟨c, hc, hd⟩ := ih d (by omega) (by omega)
      exact ⟨c, hc, Nat.dvd_trans hd h1⟩
theorem least_prime {n : Nat} (h : 2 ≤ n) (hp : ¬ Pr n) : ∃ d, Pr d ∧ d ∣ n ∧ d * d ≤ n := by
  have : ∃ d, 2 ≤ d ∧ d * d ≤ n ∧ n % d = 0 := Classical.byContradiction fun hne => hp (pr_of h fun d h1 h2 h3 => hne ⟨d, h1, h2, h3⟩)
  obtain ⟨d, h1, h2, h3⟩ := this
  obtain ⟨c, hc, hd⟩ := small_prime d h1
  have h4 := Nat.le_of_dvd (by omega) hd
  exact ⟨c, hc, Nat.dvd_trans hd (Nat.dvd_of_mod_eq_zero h3), Nat.le_trans (Nat.mul_le_mul h4 h4) h2⟩
theorem pow_one_mod {b d : Int} {m : Nat} (h : b ^ m % d = 1 % d) (k : Nat) : b ^ (m * k) % d = 1 % d := by
  induction k with
  | zero => rw [Nat.mul_zero, Int.pow_zero]
  | succ k ih => rw [Nat.mul_succ, Int.pow_add, mul_modm ih h, Int.one_mul]
theorem pow_gcd {b d : Int} : ∀ (m n : Nat), b ^ m % d = 1 % d → b ^ n % d = 1 % d → b ^ (Nat.gcd m n) % d = 1 % d := by
  intro m n
  induction m, n using Nat.gcd.induction with
  | H0 n => intro _ h; rwa [Nat.gcd_zero_left]
  | H1 m n hm ih =>
    intro h1 h2
    rw [Nat.gcd_rec]
    refine ih ?_ h1
    have e : b ^ n = b ^ (m * (n / m)) * b ^ (n % m) := by rw [← Int.pow_add, Nat.div_add_mod]
    rw [e, mul_modm (pow_one_mod h1 (n / m)) rfl, Int.one_mul] at h2
    exact h2
theorem order_dvd {d q : Nat} (hd : Pr d) (ho : d % 2 = 1) (hq : Pr q) {b : Int} (h1 : b ^ q % d = 1 % d) (h2 : b % d ≠ 1 % d) : q ∣ d - 1 := by
  have h3 : 3 ≤ d := by have := hd.1; omega
  have e1 : (1 : Int) % d = 1 := Int.emod_eq_of_lt (by decide) (by omega)
  have hb : b % d ≠ 0 := fun e => by
    have e2 : b ^ q = b ^ (q - 1) * b := by rw [← Int.pow_succ]; congr 1; have := hq.1; omega
    rw [e2, Int.mul_emod, e, Int.mul_zero, Int.zero_emod, e1] at h1
    cases h1
  have h4 := pow_gcd q (d - 1) h1 (by rw [fermat hd ho hb, e1])
  rcases hq.2 _ (Nat.gcd_dvd_left q (d - 1)) with e | e
  · rw [e, Int.pow_one] at h4; exact absurd h4 h2
  · rw [← e]; exact Nat.gcd_dvd_right _ _
/-- A power modulo m, by squares. -/
def pm (m : Nat) : Nat → Nat → Nat → Nat
  | 0, _, _ => 1 % m
  | f + 1, b, e => if e = 0 then 1 % m else if e % 2 = 1 then (b * pm m f (b * b % m) (e / 2)) % m else pm m f (b * b % m) (e / 2)
theorem pm_spec (m : Nat) : ∀ f b e, e < 2 ^ f → pm m f b e = b ^ e % m
  | 0, b, e, h => by
    have : e = 0 := by simp at h; omega
    subst this; rfl
  | f + 1, b, e, h => by
    unfold pm
    by_cases h0 : e = 0
    · rw [if_pos h0, h0]; rfl
    · rw [if_neg h0, pm_spec m f _ _ (by rw [Nat.pow_succ] at h; omega)]
      have e1 : b ^ e = b ^ (e % 2) * (b * b) ^ (e / 2) := by
        have : b * b = b ^ 2 := by rw [Nat.pow_two]
        rw [this, ← Nat.pow_mul, ← Nat.pow_add]; congr 1; omega
      have e2 : (b * b % m) ^ (e / 2) % m = (b * b) ^ (e / 2) % m := (Nat.pow_mod (b * b) (e / 2) m).symm
      by_cases h1 : e % 2 = 1
      · rw [if_pos h1, e2, e1, h1, Nat.pow_one, Nat.mul_mod, Nat.mod_mod, ← Nat.mul_mod]
      · rw [if_neg h1, e2, e1, show e % 2 = 0 by omega, Nat.pow_zero, Nat.one_mul]
/-- A step of Pocklington's proof. -/
theorem pock {N q a : Nat} (hN : N % 2 = 1) (hq : Pr q) (hqN : q ∣ N - 1) (h1 : a ^ (N - 1) % N = 1 % N) (h2 : Nat.gcd (a ^ ((N - 1) / q) % N + (N - 1)) N = 1) {d : Nat} (hd : Pr d) (hdN : d ∣ N) : q ∣ d - 1 := by
  have hdo : d % 2 = 1 := by
    obtain ⟨c, hc⟩ := hdN
    rcases Nat.mod_two_eq_zero_or_one d with h | h
    · exfalso
      rw [hc, Nat.mul_mod, h, Nat.zero_mul] at hN
      simp at hN
    · exact h
  have n1 : 1 ≤ N := by omega
  have hdI : (d : Int) ∣ (N : Int) := Int.natCast_dvd_natCast.2 hdN
  refine order_dvd hd hdo hq (b := ((a ^ ((N - 1) / q) : Nat) : Int)) ?_ ?_
  · have e : ((a ^ ((N - 1) / q) : Nat) : Int) ^ q = ((a ^ (N - 1) : Nat) : Int) := by
      rw [Int.natCast_pow, Int.natCast_pow, ← Int.pow_mul, Nat.div_mul_cancel hqN]
    rw [e]
    have h3 : ((a ^ (N - 1) : Nat) : Int) % (N : Int) = 1 % (N : Int) := by exact_mod_cast h1
    exact emod_of_dvd (Int.dvd_trans hdI (dvd_of_emod h3))
  · intro e
    have h4 : (d : Int) ∣ ((a ^ ((N - 1) / q) % N + (N - 1) : Nat) : Int) := by
      have h5 := dvd_of_emod e
      have h6 : ((a ^ ((N - 1) / q) % N : Nat) : Int) = ((a ^ ((N - 1) / q) : Nat) : Int) - N * (((a ^ ((N - 1) / q) : Nat) : Int) / N) := by
        have := Int.emod_def ((a ^ ((N - 1) / q) : Nat) : Int) N
        rw [← this]; rfl
      have h7 : ((a ^ ((N - 1) / q) % N + (N - 1) : Nat) : Int) = (((a ^ ((N - 1) / q) : Nat) : Int) - 1) + (N - N * (((a ^ ((N - 1) / q) : Nat) : Int) / N)) := by
        rw [Int.natCast_add, h6, Int.natCast_sub n1]; omega
      rw [h7]
      exact Int.dvd_add h5 (Int.dvd_sub hdI (Int.dvd_trans hdI (Int.dvd_mul_right _ _)))
    have h8 := Nat.dvd_gcd (Int.natCast_dvd_natCast.1 h4) hdN
    rw [h2] at h8
    have := Nat.le_of_dvd (by decide) h8
    have := hd.1
    omega
theorem pock_pm {N q a : Nat} (f : Nat) (hN : N % 2 = 1) (hf : N < 2 ^ f) (hq : Pr q) (hqN : q ∣ N - 1) (h1 : pm N f a (N - 1) = 1 % N) (h2 : Nat.gcd (pm N f a ((N - 1) / q) + (N - 1)) N = 1) {d : Nat} (hd : Pr d) (hdN : d ∣ N) : q ∣ d - 1 := by
  have h3 : (N - 1) / q ≤ N - 1 := Nat.div_le_self _ _
  rw [pm_spec N f a _ (by omega)] at h1
  rw [pm_spec N f a _ (by omega)] at h2
  exact pock hN hq hqN h1 h2 hd hdN
def M127 : Nat := 170141183460469231731687303715884105727
theorem pr_73 : Pr 73 := pr_tri 10 (by decide) (by decide)
theorem pr_127 : Pr 127 := pr_tri 20 (by decide) (by decide)
theorem pr_337 : Pr 337 := pr_tri 20 (by decide) (by decide)
theorem pr_5419 : Pr 5419 := pr_tri 100 (by decide) (by decide +kernel)
theorem pr_92737 : Pr 92737 := pr_tri 400 (by decide) (by decide +kernel)
theorem pr_649657 : Pr 649657 := pr_tri 900 (by decide) (by decide +kernel)
theorem m127_gt : 1 < M127 := by decide +kernel
theorem m127_base : pm M127 127 3 (M127 - 1) = 1 % M127 := by decide +kernel
theorem m127_fac {q : Nat} (hq : Pr q) (h1 : q ∣ M127 - 1) (h2 : Nat.gcd (pm M127 127 3 ((M127 - 1) / q) + (M127 - 1)) M127 = 1) {d : Nat} (hd : Pr d) (hdN : d ∣ M127) : q ∣ d - 1 :=
  pock_pm 127 (by decide +kernel) (by decide +kernel) hq h1 m127_base h2 hd hdN
theorem m127_73 {d : Nat} (hd : Pr d) (h : d ∣ M127) : 73 ∣ d - 1 := m127_fac pr_73 (by decide +kernel) (by decide +kernel) hd h
theorem m127_127 {d : Nat} (hd : Pr d) (h : d ∣ M127) : 127 ∣ d - 1 := m127_fac pr_127 (by decide +kernel) (by decide +kernel) hd h
theorem m127_337 {d : Nat} (hd : Pr d) (h : d ∣ M127) : 337 ∣ d - 1 := m127_fac pr_337 (by decide +kernel) (by decide +kernel) hd h
theorem m127_5419 {d : Nat} (hd : Pr d) (h : d ∣ M127) : 5419 ∣ d - 1 := m127_fac pr_5419 (by decide +kernel) (by decide +kernel) hd h
theorem m127_92737 {d : Nat} (hd : Pr d) (h : d ∣ M127) : 92737 ∣ d - 1 := m127_fac pr_92737 (by decide +kernel) (by decide +kernel) hd h
theorem m127_649657 {d : Nat} (hd : Pr d) (h : d ∣ M127) : 649657 ∣ d - 1 := m127_fac pr_649657 (by decide +kernel) (by decide +kernel) hd h
theorem cop_all {n : Nat} (q1 : 73 ∣ n) (q2 : 127 ∣ n) (q3 : 337 ∣ n) (q4 : 5419 ∣ n) (q5 : 92737 ∣ n) (q6 : 649657 ∣ n) : 73 * 127 * 337 * 5419 * 92737 * 649657 ∣ n :=
  Nat.Coprime.mul_dvd_of_dvd_of_dvd (by decide +kernel) (Nat.Coprime.mul_dvd_of_dvd_of_dvd (by decide +kernel) (Nat.Coprime.mul_dvd_of_dvd_of_dvd (by decide +kernel) (Nat.Coprime.mul_dvd_of_dvd_of_dvd (by decide +kernel) (Nat.Coprime.mul_dvd_of_dvd_of_dvd (by decide +kernel) q1 q2) q3) q4) q5) q6
theorem m127_sq {d N : Nat} (hN : N < (73 * 127 * 337 * 5419 * 92737 * 649657) * (73 * 127 * 337 * 5419 * 92737 * 649657)) (h : (73 * 127 * 337 * 5419 * 92737 * 649657) ≤ d - 1) (h3 : d * d ≤ N) : False :=
  absurd (Nat.lt_of_lt_of_le hN (Nat.le_trans (Nat.mul_le_mul (show (73 * 127 * 337 * 5419 * 92737 * 649657) ≤ d by omega) (show (73 * 127 * 337 * 5419 * 92737 * 649657) ≤ d by omega)) h3)) (Nat.lt_irrefl _)
theorem m127_prime : Pr M127 := by
  refine Classical.byContradiction fun hn => ?_
  obtain ⟨d, h1, h2, h3⟩ := least_prime m127_gt hn
  have h4 := Nat.le_of_dvd (Nat.sub_pos_of_lt h1.1) (cop_all (m127_73 h1 h2) (m127_127 h1 h2) (m127_337 h1 h2) (m127_5419 h1 h2) (m127_92737 h1 h2) (m127_649657 h1 h2))
  exact m127_sq (by decide +kernel) h4 h3
/-- The search for a number that is no square ends. -/
theorem J_neg1 {p : Nat} (hp : Pr p) (h4 : p % 4 = 1) : J (-1) p = 1 := by
  have h2 := hp.1
  have e := euler hp (by omega) (-1)
  obtain ⟨k, hk⟩ : ∃ k, (p - 1) / 2 = 2 * k := ⟨(p - 1) / 4, by omega⟩
  rw [hk, Int.pow_mul, show ((-1 : Int) ^ 2) = 1 by rfl, Int.one_pow] at e
  have hne : (-1 : Int) % p ≠ 0 := fun e => by have := small_mod e (by omega) (by omega); omega
  rcases J_or (hp.cop hne) with h | h
  · exact h
  · rw [h] at e
    have := small_mod (Int.emod_eq_zero_of_dvd (dvd_of_emod e)) (by omega) (by omega)
    omega
theorem search_ex {p : Nat} (hp : Pr p) (h4 : p % 4 = 1) {r : Int} (hr : J r p = 1) : ∃ t : Nat, 1 ≤ t ∧ t ≤ p - 1 ∧ J (r * ((t : Int) * t) - 2 - 2) p ≠ 1 := by
  refine Classical.byContradiction fun hne => ?_
  have h3 := hp.1
  have ho : p % 2 = 1 := by omega
  have hall : ∀ t : Nat, 1 ≤ t → t ≤ p - 1 → J (r * ((t : Int) * t) - 2 - 2) p = 1 := fun t h1 h2 => Classical.byContradiction fun h => hne ⟨t, h1, h2, h⟩
  obtain ⟨z, z1, z2, hz⟩ := root_ex hp ho hr
  have hz0 : (z : Int) % p ≠ 0 := fun e => by have := small_mod e (by omega) (by omega); omega
  have n2 : (2 : Int) % p ≠ 0 := by rw [Int.emod_eq_of_lt (by decide) (by omega)]; decide
  have key : ∀ k : Nat, J (-4 * ((k : Int) + 1)) p = 1 := by
    intro k
    induction k with
    | zero =>
      have : (-4 : Int) * (((0 : Nat) : Int) + 1) = -1 * (2 * 2) := by decide
      rw [this, J_mul ho, J_mul ho, J_neg1 hp h4]
      rcases J_or (hp.cop n2) with h | h <;> rw [h] <;> rfl
    | succ k ih =>
      obtain ⟨y, y1, y2, hy⟩ := root_ex hp ho ih
      obtain ⟨g1, g2, g3⟩ := sw_spec hp ho (a := (y : Int)) (fun e => by have := small_mod e (by omega) (by omega); omega) z1 z2
      generalize sw p (y : Int) z = t at *
      have e := hall t g1 g2
      rw [← e]
      refine J_congr ?_
      have e1 : (r * ((t : Int) * t)) % p = ((y : Int) * y) % p := by
        have e2 : (z : Int) * z * ((t : Int) * t) = (z * t) * (z * t) := by ac_rfl
        rw [mul_modm hz.symm rfl, e2]
        exact mul_modm g3 g3
      have e3 : (r * ((t : Int) * t) - 2 - 2) % p = (-4 * ((k : Int) + 1) - 2 - 2) % p := sub_modm (sub_modm (e1.trans hy) rfl) rfl
      rw [e3]
      congr 1
      omega
  have e := key (p - 1)
  have e2 : (-4 : Int) * (((p - 1 : Nat) : Int) + 1) = -4 * p := by congr 1; omega
  rw [e2, J_not (hp.not_cop (Int.mul_emod_left _ _))] at e
  cases e
/-- The root that the sequence gives. -/
theorem lucas_root {p q t x : Nat} {r P v : Int} (hp : Pr p) (h4 : p % 4 = 1) (hr : J r p = 1) (t1 : 1 ≤ t) (t2 : t ≤ p - 1) (hP : P = r * ((t : Int) * t) - 2) (hx : ((t : Int) * x) % p = 1 % p)
    (hv : v % p = luc P q % p) (h : J (P - 2) p = -1 ∧ q = p / 4 ∨ J (P - 2) p = 0 ∧ q = 0) : ((v * x) * (v * x)) % p = r % p := by
  have h2 := hp.1
  have ho : p % 2 = 1 := by omega
  have ht0 : (t : Int) % p ≠ 0 := fun e => by have := small_mod e (by omega) (by omega); omega
  have eP : P + 2 = r * ((t : Int) * t) := by omega
  have hv2 : (v * v) % p = (r * ((t : Int) * t)) % p := by
    rw [mul_modm hv hv, ← eP]
    rcases h with ⟨h, rfl⟩ | ⟨h, rfl⟩
    · have h1 : J (P + 2) p = 1 := by
        rw [eP, J_mul ho, J_mul ho, hr]
        rcases J_or (hp.cop ht0) with h | h <;> rw [h] <;> rfl
      have e := luc_half hp ho h h1
      have e2 := (luc_two P (p / 4)).1
      rw [show (p - 1) / 2 = 2 * (p / 4) by omega] at e
      have e3 : luc P (p / 4) * luc P (p / 4) = luc P (2 * (p / 4)) + 2 := by omega
      rw [e3]
      exact add_modm e rfl
    · have hz : (P - 2) % p = 0 := by
        by_cases hz : (P - 2) % p = 0
        · exact hz
        · rcases J_or (hp.cop hz) with h1 | h1 <;> rw [h1] at h <;> cases h
      show ((2 : Int) * 2) % p = _
      have : P + 2 = (P - 2) + 2 * 2 := by omega
      rw [this, Int.add_emod, hz, Int.zero_add, Int.emod_emod]
  have e : (v * x) * (v * x) = (v * v) * ((x : Int) * x) := by ac_rfl
  rw [e, mul_modm hv2 rfl]
  have e2 : r * ((t : Int) * t) * ((x : Int) * x) = r * ((t * x) * (t * x)) := by ac_rfl
  rw [e2, mul_modm rfl (mul_modm hx hx), Int.mul_one, Int.mul_one]
end Go.Proofs.YtieobgadihcgeaaDoor

/- Walk of the law on powers and inverses. -/
namespace Go.Proofs.YtieobgadihcgeaaDoor
open Go Go.RowKit

section
variable {os : List Oper} {Q : Exit → Act → World → Prop} {a : Act} {p : Pq} {B B0 : Nat} {w0 : World}
variable {i s : Nat} {d : Option Tmp} {ty : TypeId} {ps : String} {af : Array Edge} {gd : Option (Nat × Bool)}
end
theorem pow_congr {a b m : Int} (h : a % m = b % m) : ∀ n : Nat, a ^ n % m = b ^ n % m
  | 0 => by rw [Int.pow_zero, Int.pow_zero]
  | n + 1 => by rw [Int.pow_succ, Int.pow_succ]; exact mul_modm (pow_congr h n) h
theorem cmpI_eq0 {x y : Int} : cmpI x y = 0 ↔ x = y := by
  unfold cmpI
  split
  · constructor <;> intro h <;> omega
  · split
    · simp [*]
    · constructor
      · intro h; omega
      · intro h; contradiction
end Go.Proofs.YtieobgadihcgeaaDoor

/- Walk: the sequence of Lucas modulo a number. -/
namespace Go.Proofs.YtieobgadihcgeaaDoor
open Go Go.RowKit

def lucV (P p : Int) (m : Nat) : Int := if m = 0 then 2 else luc P m % p
theorem lucV_mod (P p : Int) (m : Nat) : lucV P p m % p = luc P m % p := by
  unfold lucV
  by_cases h : m = 0
  · rw [if_pos h, h]; rfl
  · rw [if_neg h, Int.emod_emod]
theorem bits_pos {n : Int} {i : Nat} (h : i < nbits n) : 1 ≤ n.natAbs / 2 ^ i := by
  rcases nbits_isBits n with ⟨_, h2⟩ | ⟨h1, h2, h3⟩
  · omega
  · have h4 : (2 : Int) ^ i ≤ 2 ^ (nbits n - 1) := two_pow_le (by omega)
    have h5 : (2 : Int) ^ i ≤ n.natAbs := Int.le_trans h4 h2
    have h6 : 2 ^ i ≤ n.natAbs := by exact_mod_cast h5
    exact (Nat.one_le_div_iff (Nat.two_pow_pos i)).2 h6
/-- A step of the sequence. -/
theorem luc_step {P p : Int} {n : Int} {i : Nat} {x y : Int} (hi : i < nbits n) (hx : x = lucV P p (n.natAbs / 2 ^ (i + 1))) (hy : y = luc P (n.natAbs / 2 ^ (i + 1) + 1) % p) :
    (n.natAbs / 2 ^ i % 2 = 1 → ((x * y) - P) % p = lucV P p (n.natAbs / 2 ^ i) ∧ ((y * y) - (2)) % p = luc P (n.natAbs / 2 ^ i + 1) % p) ∧
    (¬ n.natAbs / 2 ^ i % 2 = 1 → ((x * x) - (2)) % p = lucV P p (n.natAbs / 2 ^ i) ∧ ((x * y) - P) % p = luc P (n.natAbs / 2 ^ i + 1) % p) := by
  have e1 : n.natAbs / 2 ^ (i + 1) = n.natAbs / 2 ^ i / 2 := by rw [Nat.pow_succ, Nat.div_div_eq_div_mul]
  have hp := bits_pos hi
  generalize n.natAbs / 2 ^ i = k at *
  rw [e1] at hx hy
  generalize hm : k / 2 = m at *
  have hx2 : x % p = luc P m % p := by rw [hx]; exact lucV_mod P p m
  have hy2 : y % p = luc P (m + 1) % p := by rw [hy, Int.emod_emod]
  have hxy : ((x * y) - P) % p = luc P (2 * m + 1) % p := by
    rw [(luc_two P m).2]; exact sub_modm (mul_modm hx2 hy2) rfl
  have hxx : ((x * x) - (2)) % p = luc P (2 * m) % p := by
    rw [(luc_two P m).1]; exact sub_modm (mul_modm hx2 hx2) rfl
  have hyy : ((y * y) - (2)) % p = luc P (2 * (m + 1)) % p := by
    rw [(luc_two P (m + 1)).1]; exact sub_modm (mul_modm hy2 hy2) rfl
  refine ⟨fun h => ?_, fun h => ?_⟩
  · have hk : k = 2 * m + 1 := by omega
    unfold lucV
    rw [if_neg (by omega), hk]
    exact ⟨hxy, hyy⟩
  · have hk : k = 2 * m := by omega
    unfold lucV
    rw [if_neg (by omega), hk]
    exact ⟨hxx, hxy⟩
theorem lucV_ab {P p : Int} {m : Nat} (hp : 0 < p) (h : ab p < pw 50) : ab (lucV P p m) < pw 50 := by
  unfold lucV
  split
  · exact Int.lt_of_lt_of_le (ab_lit (by decide)) (pw_le (by omega))
  · exact ab_modB (by omega) h
set_option maxRecDepth 100000 in
set_option maxHeartbeats 4000000 in
theorem exLucas {w : World} {v v' u : Value} {f n p : Int} (h : Num w v f) (h' : Num w v' n) (g : Num w u p) (ha : ab f < pw 50) (hn : ab n < pw 50) (hm : ab p < pw 50) (h0 : 0 < p) :
    Calls Tryd.prog 90 #[v, v', u] w fun e w' => ∃ v', e = .returned v' ∧ Below w.heap.size w w' ∧ Num w' v' (lucV f p n.natAbs) := by
  replace ha := hidd ha
  replace hn := hidd hn
  replace hm := hidd hm
  have HP := hidd h0
  have HM : Hid (p ≠ 0) := by show _ ≠ _; omega
  clear h0
  obtain ⟨n0, ao0, k0, c0, rfl⟩ := h.parts
  obtain ⟨n1, ao1, k1, c1, rfl⟩ := h'.parts
  obtain ⟨n2, ao2, k2, c2, rfl⟩ := g.parts
  obtain ⟨w1, b1, hw1, hb1, hs1, E⟩ := fr_start w (F := Fq.num f) (us := [.bool n0, .slice ao0 k0 c0]) 29 rfl (by simp) (tame_int _ _ _ _) h
  obtain ⟨w2, b2, hw2, hb2, hs2, E⟩ := fr_more E hs1 (F := Fq.num n) (us := [.bool n1, .slice ao1 k1 c1]) 29 rfl (by simp) (tame_int _ _ _ _) (h'.mono E.below)
  obtain ⟨w3, b3, hw3, hb3, hs3, E⟩ := fr_more E hs2 (F := Fq.num p) (us := [.bool n2, .slice ao2 k2 c2]) 29 rfl (by simp) (tame_int _ _ _ _) (g.mono E.below)
  obtain ⟨w4, b4, hw4, hb4, hs4, E⟩ := fr_more E hs3 (F := Fq.num 0) (us := [.bool false, .slice none 0 0]) 29 rfl (by simp) (tame_int _ _ _ _) (Num.zero _)
  go_enter Tryd.func90, Tryd.ntmps90
  go_upto_region 1 with (fail)
  rw [← hw1]
  rw [← hw2]
  rw [← hw3]
  rw [← hw4]
  rw [← hb4]
  rw [← hb3]
  rw [← hb2]
  rw [← hb1]
  clear hw1 hw2 hw3 hw4 hb1 hb2 hb3 hb4 hs4 hs1 hs2 hs3
  refine region_frS (same := [(2, 1)]) (C := [Fq.num p, Fq.any, Fq.any]) (ks := [none, none, none, none]) (new := [⟨1, 1, 2, Fq.num p, Fq.num p, (some (.clo 72))⟩]) E rfl (by kernel_rfl) rfl rfl (fun hp => ⟨?_, ?_, ?_, trivial⟩) ?_
  · exact stepS_of (q_loadInt (off := 0) hp (free_of rfl) trivial (List.mem_iff_getElem?.2 ⟨1, rfl⟩) (.inl rfl) (Nat.le_of_ble_eq_true rfl) (sq_out (s := 5) rfl rfl (fun _ _ => rfl)) (fun us w hl h => ld_num hl h)) rfl
  · exact stepS_of (q_callMake (F := (Fq.num p).P) hp enq_M_within (List.mem_iff_getElem?.2 ⟨0, rfl⟩) rfl rfl rfl (sq_in 0 rfl rfl (by simp) rfl (fun v w h => h)) (fun v w h => exWithin h) (fun _ _ => trivial) (old_ne rfl) (newks_ne rfl)) rfl
  · exact stepS_assign hp (free_of rfl) rfl (j := 1) rfl (by simp) rfl (fun _ _ => trivial) rfl (Nat.ne_of_beq_eq_false rfl)
  intro L vs w5 nb hsm hL hC hn E5
  have e1 : vs 1 = cloV 72 (nb 1) := hn _ (List.mem_iff_getElem?.2 ⟨0, rfl⟩)
  have e2 : vs 2 = cloV 72 (nb 1) := (hsm (2, 1) (by simp) (Nat.lt_of_sub_eq_succ rfl)).trans e1
  have E : Fr w [(nb 1, 2, Fq.num p), (b4, 2, Fq.num 0), (b3, 2, Fq.num p), (b2, 2, Fq.num n), (b1, 2, Fq.num f)] w5 := E5
  rw [lay_all hL]
  simp only [putAll, dstOf, List.length_cons, List.length_nil, Nat.zero_add, Nat.reduceAdd, List.getElem?_toArray, List.getElem?_cons_zero, List.getElem?_cons_succ, Option.bind_some, Act.put, List.setIfInBounds_toArray, List.set_cons_succ, List.set_cons_zero]
  rw [e1, e2]
  generalize nb 1 = b5_1 at E ⊢
  generalize vs 0 = u5_0
  clear e1 e2 hsm hC hn E5 hL vs L nb
  go_upto_region 2 with (fail)
  have B6 : Hid (ab ((2)) < pw 3) := ab_lit (by decide)
  refine region_fr (C := [Fq.num (2), Fq.any, Fq.any]) (ks := [none, none, none, none, none]) (new := [⟨1, 2, 2, Fq.num 0, Fq.num (2), none⟩]) E rfl (by kernel_rfl) rfl rfl (fun hp => ⟨?_, ?_, ?_, trivial⟩) ?_
  · exact q_call1 (F := (Fq.is (.int .i64 2)).P) hp (free_of rfl) trivial (enq_Of) (sq_const (fun _ => rfl)) (fun v w h => (by subst h; exact OfK w (2) (by omega) (by omega)))
  · exact q_allocInt hp (List.mem_iff_getElem?.2 ⟨0, rfl⟩) rfl rfl rfl rfl (Nat.ne_of_beq_eq_false rfl) (fun _ _ => trivial) (old_ne rfl) (newk_ne rfl) (fun w => Num.zero w)
  · exact q_storeNewInt hp (List.mem_iff_getElem?.2 ⟨0, rfl⟩) rfl rfl rfl (own_ptr rfl rfl (by simp) rfl) (sq_in 0 rfl rfl (by simp) rfl (fun v w h => intV_num h)) (fun _ _ => trivial) (old_ne rfl) (newi_ne rfl)
  intro L vs w7 nb hL hC hn E7
  have e1 : vs 1 = .pointer (some ⟨nb 1, 0, none⟩) := hn _ (List.mem_iff_getElem?.2 ⟨0, rfl⟩)
  have E : Fr w [(nb 1, 2, Fq.num (2)), (b5_1, 2, Fq.num p), (b4, 2, Fq.num 0), (b3, 2, Fq.num p), (b2, 2, Fq.num n), (b1, 2, Fq.num f)] w7 := E7
  rw [lay_all hL]
  simp only [putAll, dstOf, List.length_cons, List.length_nil, Nat.zero_add, Nat.reduceAdd, List.getElem?_toArray, List.getElem?_cons_zero, List.getElem?_cons_succ, Option.bind_some, Act.put, List.setIfInBounds_toArray, List.set_cons_succ, List.set_cons_zero]
  rw [e1]
  generalize nb 1 = b7_1 at E ⊢
  generalize vs 0 = u7_0
  clear e1 hC hn E7 hL vs L nb
  go_upto_region 3 with (fail)
  have B8 : Hid (ab ((f % p)) < pw 50) := ab_modB HM.out hm.out
  refine region_fr (C := [Fq.num (2), Fq.is (cloV 72 b5_1), Fq.num f, Fq.num (f % p), Fq.any, Fq.any, Fq.any, Fq.any]) (ks := [none, none, none, none, none, none]) (new := [⟨4, 6, 2, Fq.num 0, Fq.num (2), none⟩, ⟨5, 7, 2, Fq.num 0, Fq.num (f % p), none⟩]) E rfl (by kernel_rfl) rfl rfl (fun hp => ⟨?_, ?_, ?_, ?_, ?_, ?_, ?_, ?_, trivial⟩) ?_
  · exact q_loadInt (off := 0) hp (free_of rfl) trivial (List.mem_iff_getElem?.2 ⟨0, rfl⟩) (.inl rfl) (Nat.le_of_ble_eq_true rfl) (sq_out (s := 8) rfl rfl (fun _ _ => rfl)) (fun us w hl h => ld_num hl h)
  · exact q_move hp (free_of rfl) trivial (sq_out (s := 7) rfl rfl (fun _ _ => rfl))
  · exact q_loadInt (off := 0) hp (free_of rfl) trivial (List.mem_iff_getElem?.2 ⟨5, rfl⟩) (.inl rfl) (Nat.le_of_ble_eq_true rfl) (sq_out (s := 3) rfl rfl (fun _ _ => rfl)) (fun us w hl h => ld_num hl h)
  · exact q_callCloOut (F := (Fq.num f).P) hp (free_of rfl) trivial enq_M_within1 (List.mem_iff_getElem?.2 ⟨1, rfl⟩) rfl (sq_in 1 rfl rfl (by simp) rfl (fun v w h => h)) (sq_in 2 rfl rfl (by simp) rfl (fun v w h => h)) (fun v w h hb => exResidue h hb HM.out (Int.lt_of_lt_of_le ha.out (pw_le (by omega))) (Int.lt_of_lt_of_le hm.out (pw_le (by omega))))
  · exact q_allocInt hp (List.mem_iff_getElem?.2 ⟨0, rfl⟩) rfl rfl rfl rfl (Nat.ne_of_beq_eq_false rfl) (fun _ _ => trivial) (old_ne rfl) (newk_ne rfl) (fun w => Num.zero w)
  · exact q_allocInt hp (List.mem_iff_getElem?.2 ⟨1, rfl⟩) rfl rfl rfl rfl (Nat.ne_of_beq_eq_false rfl) (fun _ _ => trivial) (old_ne rfl) (newk_ne rfl) (fun w => Num.zero w)
  · exact q_storeNewInt hp (List.mem_iff_getElem?.2 ⟨0, rfl⟩) rfl rfl rfl (own_ptr rfl rfl (by simp) rfl) (sq_in 0 rfl rfl (by simp) rfl (fun v w h => intV_num h)) (fun _ _ => trivial) (old_ne rfl) (newi_ne rfl)
  · exact q_storeNewInt hp (List.mem_iff_getElem?.2 ⟨1, rfl⟩) rfl rfl rfl (own_ptr rfl rfl (by simp) rfl) (sq_in 3 rfl rfl (by simp) rfl (fun v w h => intV_num h)) (fun _ _ => trivial) (old_ne rfl) (newi_ne rfl)
  intro L vs w9 nb hL hC hn E9
  have e1 : vs 1 = cloV 72 b5_1 := hC 1 (by simp)
  have e4 : vs 4 = .pointer (some ⟨nb 4, 0, none⟩) := hn _ (List.mem_iff_getElem?.2 ⟨0, rfl⟩)
  have e5 : vs 5 = .pointer (some ⟨nb 5, 0, none⟩) := hn _ (List.mem_iff_getElem?.2 ⟨1, rfl⟩)
  have E : Fr w [(nb 4, 2, Fq.num (2)), (nb 5, 2, Fq.num (f % p)), (b7_1, 2, Fq.num (2)), (b5_1, 2, Fq.num p), (b4, 2, Fq.num 0), (b3, 2, Fq.num p), (b2, 2, Fq.num n), (b1, 2, Fq.num f)] w9 := E9
  rw [lay_all hL]
  simp only [putAll, dstOf, List.length_cons, List.length_nil, Nat.zero_add, Nat.reduceAdd, List.getElem?_toArray, List.getElem?_cons_zero, List.getElem?_cons_succ, Option.bind_some, Act.put, List.setIfInBounds_toArray, List.set_cons_succ, List.set_cons_zero]
  rw [e1, e4, e5]
  generalize nb 4 = b9_4 at E ⊢
  generalize nb 5 = b9_5 at E ⊢
  generalize vs 0 = u9_0
  generalize vs 2 = u9_2
  generalize vs 3 = u9_3
  clear e1 e4 e5 hC hn E9 hL vs L nb
  have HNB : Hid (nbits n ≤ 1600) := nbits_le hn.out
  have TW : Hid (IntKind.i64.wrap (((nbits n : Nat) : Int) - 1) = ((nbits n : Nat) : Int) - 1) := IntWalk.i64_in _ (by have := HNB.out; omega)
  go_upto_region 4 with (fail)
  refine region_fr (C := [Fq.num n, Fq.is (.int .i64 ((nbits n : Nat) : Int)), Fq.is (.int .i64 (((nbits n : Nat) : Int) - 1)), Fq.is (.int .i64 (((nbits n : Nat) : Int) - 1))]) (ks := [none, none, none, none, none, none, none, none]) (new := []) E rfl (by kernel_rfl) rfl rfl (fun hp => ⟨?_, ?_, ?_, ?_, trivial⟩) ?_
  · exact q_loadInt (off := 0) hp (free_of rfl) trivial (List.mem_iff_getElem?.2 ⟨6, rfl⟩) (.inl rfl) (Nat.le_of_ble_eq_true rfl) (sq_out (s := 4) rfl rfl (fun _ _ => rfl)) (fun us w hl h => ld_num hl h)
  · exact q_call1 (F := (Fq.num n).P) hp (free_of rfl) trivial (enq_Bits) (sq_in 0 rfl rfl (by simp) rfl (fun v w h => h)) (fun v w h => exBits h)
  · exact q_one (F := fun v _ => v = .int .i64 ((nbits n : Nat) : Int)) hp (free_of rfl) trivial (sq_in 1 rfl rfl (by simp) rfl (fun v w h => h)) (fun ρ w hc h => ⟨.int .i64 (((nbits n : Nat) : Int) - 1), by simp [execOp, go_sem, h, hc, TW.out], rfl⟩)
  · exact q_assign hp (free_of rfl) trivial (sq_in 2 rfl rfl (by simp) rfl (fun v w h => h))
  intro L vs w10 nb hL hC hn E10
  have e1 : vs 1 = .int .i64 ((nbits n : Nat) : Int) := hC 1 (by simp)
  have e2 : vs 2 = .int .i64 (((nbits n : Nat) : Int) - 1) := hC 2 (by simp)
  have e3 : vs 3 = .int .i64 (((nbits n : Nat) : Int) - 1) := hC 3 (by simp)
  have E : Fr w [(b9_4, 2, Fq.num (2)), (b9_5, 2, Fq.num (f % p)), (b7_1, 2, Fq.num (2)), (b5_1, 2, Fq.num p), (b4, 2, Fq.num 0), (b3, 2, Fq.num p), (b2, 2, Fq.num n), (b1, 2, Fq.num f)] w10 := E10
  rw [lay_all hL]
  simp only [putAll, dstOf, List.length_cons, List.length_nil, Nat.zero_add, Nat.reduceAdd, List.getElem?_toArray, List.getElem?_cons_zero, List.getElem?_cons_succ, Option.bind_some, Act.put, List.setIfInBounds_toArray, List.set_cons_succ, List.set_cons_zero]
  rw [e1, e2, e3]
  generalize vs 0 = u10_0
  clear e1 e2 e3 hC hn E10 hL vs L nb
  clear TW
  have HS := hidd E
  go_upto_region 5 with (fail)
  go_loopw [11] (fun vi W => ∃ j : Nat, j ≤ nbits n ∧ vi = .int .i64 ((j : Int) - 1) ∧ Fr w [(b9_4, 2, Fq.num (lucV f p (n.natAbs / 2 ^ j))), (b9_5, 2, Fq.num (luc f (n.natAbs / 2 ^ j + 1) % p)), (b7_1, 2, Fq.num (2)), (b5_1, 2, Fq.num p), (b4, 2, Fq.num 0), (b3, 2, Fq.num p), (b2, 2, Fq.num n), (b1, 2, Fq.num f)] W) (fun vi _ => (intOf vi + 1).toNat)
  case atStart => exact ⟨nbits n, Nat.le_refl _, rfl, by rw [nbits_top]; exact HS.out⟩
  case round =>
    obtain ⟨j, hj, rfl, E⟩ := hrel
    clear HS
    by_cases h0 : j = 0
    · subst h0
      have TL : Hid (¬ 0 ≤ ((0 : Nat) : Int) - 1) := by show ¬ _; omega
      rw [Nat.pow_zero, Nat.div_one] at E
      clear hj
      go_upto_region 5 with (fail)
      refine region_fr (C := [Fq.is (.int .i64 (((0 : Nat) : Int) - 1)), Fq.is (.bool false)]) (ks := [none, none, none, none, none, none, none, none]) (new := []) E rfl (by kernel_rfl) rfl rfl (fun hp => ⟨?_, ?_, trivial⟩) ?_
      · exact q_move hp (free_of rfl) trivial (sq_out (s := 11) rfl rfl (fun _ _ => rfl))
      · exact q_one (F := fun v _ => v = .int .i64 (((0 : Nat) : Int) - 1)) hp (free_of rfl) trivial (sq_in 0 rfl rfl (by simp) rfl (fun v w h => h)) (fun ρ w hc h => ⟨.bool false, by simp [execOp, go_sem, h, hc], rfl⟩)
      intro L vs w11 nb hL hC hn E11
      have e0 : vs 0 = .int .i64 (((0 : Nat) : Int) - 1) := hC 0 (by simp)
      have e1 : vs 1 = .bool false := hC 1 (by simp)
      have E : Fr w [(b9_4, 2, Fq.num (lucV f p n.natAbs)), (b9_5, 2, Fq.num (luc f (n.natAbs + 1) % p)), (b7_1, 2, Fq.num (2)), (b5_1, 2, Fq.num p), (b4, 2, Fq.num 0), (b3, 2, Fq.num p), (b2, 2, Fq.num n), (b1, 2, Fq.num f)] w11 := E11
      rw [lay_all hL]
      simp only [putAll, dstOf, List.length_cons, List.length_nil, Nat.zero_add, Nat.reduceAdd, List.getElem?_toArray, List.getElem?_cons_zero, List.getElem?_cons_succ, Option.bind_some, Act.put, List.setIfInBounds_toArray, List.set_cons_succ, List.set_cons_zero]
      rw [e0, e1]
      clear e0 e1 hC hn E11 hL vs L nb
      clear TL
      go_upto_region 11 with (fail)
      refine region_fr (C := [Fq.num (lucV f p n.natAbs), Fq.any]) (ks := [none, none, none, none, some (1, Fq.num (lucV f p n.natAbs)), none, none, none]) (new := []) E rfl (by kernel_rfl) rfl rfl (fun hp => ⟨?_, ?_, trivial⟩) ?_
      · exact q_loadInt (off := 0) hp (free_of rfl) trivial (List.mem_iff_getElem?.2 ⟨0, rfl⟩) (.inl rfl) (Nat.le_of_ble_eq_true rfl) (sq_out (s := 9) rfl rfl (fun _ _ => rfl)) (fun us w hl h => ld_num hl h)
      · exact q_storeOldInt hp (List.mem_iff_getElem?.2 ⟨4, rfl⟩) rfl rfl (sq_out (s := 6) rfl rfl (fun _ _ => rfl)) (sq_in 0 rfl rfl (by simp) rfl (fun v w h => intV_num h)) (fun _ _ => trivial) (newik_ne rfl)
      intro L vs w12 nb hL hC hn E12
      have E : Fr w [(b9_4, 2, Fq.num (lucV f p n.natAbs)), (b9_5, 2, Fq.num (luc f (n.natAbs + 1) % p)), (b7_1, 2, Fq.num (2)), (b5_1, 2, Fq.num p), (b4, 2, Fq.num (lucV f p n.natAbs)), (b3, 2, Fq.num p), (b2, 2, Fq.num n), (b1, 2, Fq.num f)] w12 := E12
      rw [lay_all hL]
      simp only [putAll, dstOf, List.length_cons, List.length_nil, Nat.zero_add, Nat.reduceAdd, List.getElem?_toArray, List.getElem?_cons_zero, List.getElem?_cons_succ, Option.bind_some, Act.put, List.setIfInBounds_toArray, List.set_cons_succ, List.set_cons_zero]
      generalize vs 0 = u12_0
      clear  hC hn E12 hL vs L nb
      clear HM HP HNB
      obtain ⟨p0, p1, c0, c1, hP⟩ := box_num (E.box 4 rfl)
      clear B6 B8 ha hn hm
      go_wp2
      refine bodyPost_ret (v := .agg #[p0, p1]) ?_ rfl ⟨_, rfl, E.below, hP⟩
      simp [results, Tryd.results90, go_sem, c0, c1]
    · obtain ⟨i, rfl⟩ : ∃ i, j = i + 1 := ⟨j - 1, by omega⟩
      have ei : (((i + 1 : Nat) : Int) - 1) = (i : Int) := by omega
      rw [ei]
      have HJ := hidd hj
      obtain ⟨x, hx⟩ : ∃ x, x = lucV f p (n.natAbs / 2 ^ (i + 1)) := ⟨_, rfl⟩
      obtain ⟨y, hy⟩ : ∃ y, y = luc f (n.natAbs / 2 ^ (i + 1) + 1) % p := ⟨_, rfl⟩
      rw [← hx, ← hy] at E
      have Bx : Hid (ab x < pw 50) := by show _ < _; rw [hx]; exact lucV_ab HP.out hm.out
      have By : Hid (ab y < pw 50) := by show _ < _; rw [hy]; exact ab_modB HM.out hm.out
      have HZ := hidd (luc_step (by omega) hx hy)
      have TL : Hid (0 ≤ (i : Int)) := by show 0 ≤ _; omega
      have hw : wrap64 ((i : Int) - 1) = (i : Int) - 1 := by have := HJ.out; have := HNB.out; simp only [wrap64]; omega
      clear ei hx hy h0 hj
      go_upto_region 5 with (fail)
      refine region_fr (C := [Fq.is (.int .i64 (i : Int)), Fq.is (.bool true)]) (ks := [none, none, none, none, none, none, none, none]) (new := []) E rfl (by kernel_rfl) rfl rfl (fun hp => ⟨?_, ?_, trivial⟩) ?_
      · exact q_move hp (free_of rfl) trivial (sq_out (s := 11) rfl rfl (fun _ _ => rfl))
      · exact q_one (F := fun v _ => v = .int .i64 (i : Int)) hp (free_of rfl) trivial (sq_in 0 rfl rfl (by simp) rfl (fun v w h => h)) (fun ρ w hc h => ⟨.bool true, by simp [execOp, go_sem, h, hc, TL.out], rfl⟩)
      intro L vs w13 nb hL hC hn E13
      have e0 : vs 0 = .int .i64 (i : Int) := hC 0 (by simp)
      have e1 : vs 1 = .bool true := hC 1 (by simp)
      have E : Fr w [(b9_4, 2, Fq.num x), (b9_5, 2, Fq.num y), (b7_1, 2, Fq.num (2)), (b5_1, 2, Fq.num p), (b4, 2, Fq.num 0), (b3, 2, Fq.num p), (b2, 2, Fq.num n), (b1, 2, Fq.num f)] w13 := E13
      rw [lay_all hL]
      simp only [putAll, dstOf, List.length_cons, List.length_nil, Nat.zero_add, Nat.reduceAdd, List.getElem?_toArray, List.getElem?_cons_zero, List.getElem?_cons_succ, Option.bind_some, Act.put, List.setIfInBounds_toArray, List.set_cons_succ, List.set_cons_zero]
      rw [e0, e1]
      clear e0 e1 hC hn E13 hL vs L nb
      clear TL
      go_upto_region 7 with (fail)
      have B14 : Hid (ab ((x * y)) < pw 100) := ab_mulM Bx.out By.out (by omega)
      have B15 : Hid (ab (((x * y) - f)) < pw 101) := ab_subB B14.out ha.out (by omega) (by omega)
      have B16 : Hid (ab ((((x * y) - f) % p)) < pw 50) := ab_modB HM.out hm.out
      refine region_fr (C := [Fq.is (cloV 72 b5_1), Fq.num x, Fq.num y, Fq.num (x * y), Fq.num f, Fq.num ((x * y) - f), Fq.num (((x * y) - f) % p), Fq.any, Fq.any]) (ks := [none, none, none, none, none, none, none, none]) (new := [⟨7, 8, 2, Fq.num 0, Fq.num (((x * y) - f) % p), none⟩]) E rfl (by kernel_rfl) rfl rfl (fun hp => ⟨?_, ?_, ?_, ?_, ?_, ?_, ?_, ?_, ?_, trivial⟩) ?_
      · exact q_move hp (free_of rfl) trivial (sq_out (s := 7) rfl rfl (fun _ _ => rfl))
      · exact q_loadInt (off := 0) hp (free_of rfl) trivial (List.mem_iff_getElem?.2 ⟨0, rfl⟩) (.inl rfl) (Nat.le_of_ble_eq_true rfl) (sq_out (s := 9) rfl rfl (fun _ _ => rfl)) (fun us w hl h => ld_num hl h)
      · exact q_loadInt (off := 0) hp (free_of rfl) trivial (List.mem_iff_getElem?.2 ⟨1, rfl⟩) (.inl rfl) (Nat.le_of_ble_eq_true rfl) (sq_out (s := 10) rfl rfl (fun _ _ => rfl)) (fun us w hl h => ld_num hl h)
      · exact q_call2 (F := (Fq.num x).P) (G := (Fq.num y).P) hp (free_of rfl) trivial (enq_Mul) (sq_in 1 rfl rfl (by simp) rfl (fun v w h => h)) (sq_in 2 rfl rfl (by simp) rfl (fun v w h => h)) (fun v v' w h h' => exK (MulV h h') B14.out (by omega))
      · exact q_loadInt (off := 0) hp (free_of rfl) trivial (List.mem_iff_getElem?.2 ⟨7, rfl⟩) (.inl rfl) (Nat.le_of_ble_eq_true rfl) (sq_out (s := 3) rfl rfl (fun _ _ => rfl)) (fun us w hl h => ld_num hl h)
      · exact q_call2 (F := (Fq.num (x * y)).P) (G := (Fq.num f).P) hp (free_of rfl) trivial (enq_Sub) (sq_in 3 rfl rfl (by simp) rfl (fun v w h => h)) (sq_in 4 rfl rfl (by simp) rfl (fun v w h => h)) (fun v v' w h h' => exK (SubV h h') B15.out (by omega))
      · exact q_callCloOut (F := (Fq.num ((x * y) - f)).P) hp (free_of rfl) trivial enq_M_within1 (List.mem_iff_getElem?.2 ⟨3, rfl⟩) rfl (sq_in 0 rfl rfl (by simp) rfl (fun v w h => h)) (sq_in 5 rfl rfl (by simp) rfl (fun v w h => h)) (fun v w h hb => exResidue h hb HM.out (Int.lt_of_lt_of_le B15.out (pw_le (by omega))) (Int.lt_of_lt_of_le hm.out (pw_le (by omega))))
      · exact q_allocInt hp (List.mem_iff_getElem?.2 ⟨0, rfl⟩) rfl rfl rfl rfl (Nat.ne_of_beq_eq_false rfl) (fun _ _ => trivial) (old_ne rfl) (newk_ne rfl) (fun w => Num.zero w)
      · exact q_storeNewInt hp (List.mem_iff_getElem?.2 ⟨0, rfl⟩) rfl rfl rfl (own_ptr rfl rfl (by simp) rfl) (sq_in 6 rfl rfl (by simp) rfl (fun v w h => intV_num h)) (fun _ _ => trivial) (old_ne rfl) (newi_ne rfl)
      intro L vs w17 nb hL hC hn E17
      have e0 : vs 0 = cloV 72 b5_1 := hC 0 (by simp)
      have e7 : vs 7 = .pointer (some ⟨nb 7, 0, none⟩) := hn _ (List.mem_iff_getElem?.2 ⟨0, rfl⟩)
      have E : Fr w [(nb 7, 2, Fq.num (((x * y) - f) % p)), (b9_4, 2, Fq.num x), (b9_5, 2, Fq.num y), (b7_1, 2, Fq.num (2)), (b5_1, 2, Fq.num p), (b4, 2, Fq.num 0), (b3, 2, Fq.num p), (b2, 2, Fq.num n), (b1, 2, Fq.num f)] w17 := E17
      rw [lay_all hL]
      simp only [putAll, dstOf, List.length_cons, List.length_nil, Nat.zero_add, Nat.reduceAdd, List.getElem?_toArray, List.getElem?_cons_zero, List.getElem?_cons_succ, Option.bind_some, Act.put, List.setIfInBounds_toArray, List.set_cons_succ, List.set_cons_zero]
      rw [e0, e7]
      generalize nb 7 = b17_7 at E ⊢
      generalize vs 1 = u17_1
      generalize vs 2 = u17_2
      generalize vs 3 = u17_3
      generalize vs 4 = u17_4
      generalize vs 5 = u17_5
      generalize vs 6 = u17_6
      clear e0 e7 hC hn E17 hL vs L nb
      by_cases hb : n.natAbs / 2 ^ i % 2 = 1
      · have TB : Hid (decide (n.natAbs / 2 ^ i % 2 = 1) = true) := decide_eq_true hb
        have EZ := hidd (HZ.out.1 hb)
        clear hb HZ
        go_upto_region 8 with (fail)
        refine region_fr (C := [Fq.num n, Fq.is (.int .i64 (i : Int)), Fq.is (.bool true)]) (ks := [none, none, none, none, none, none, none, none, none]) (new := []) E rfl (by kernel_rfl) rfl rfl (fun hp => ⟨?_, ?_, ?_, trivial⟩) ?_
        · exact q_loadInt (off := 0) hp (free_of rfl) trivial (List.mem_iff_getElem?.2 ⟨7, rfl⟩) (.inl rfl) (Nat.le_of_ble_eq_true rfl) (sq_out (s := 4) rfl rfl (fun _ _ => rfl)) (fun us w hl h => ld_num hl h)
        · exact q_move hp (free_of rfl) trivial (sq_out (s := 11) rfl rfl (fun _ _ => rfl))
        · exact q_call2 (F := (Fq.num n).P) (G := (Fq.is (.int .i64 (i : Int))).P) hp (free_of rfl) trivial (enq_M_bit) (sq_in 0 rfl rfl (by simp) rfl (fun v w h => h)) (sq_in 1 rfl rfl (by simp) rfl (fun v w h => h)) (fun v v' w h h' => (by subst h'; exact exBit h (by have := HJ.out; omega) TB.out))
        intro L vs w18 nb hL hC hn E18
        have e1 : vs 1 = .int .i64 (i : Int) := hC 1 (by simp)
        have e2 : vs 2 = .bool true := hC 2 (by simp)
        have E : Fr w [(b17_7, 2, Fq.num (((x * y) - f) % p)), (b9_4, 2, Fq.num x), (b9_5, 2, Fq.num y), (b7_1, 2, Fq.num (2)), (b5_1, 2, Fq.num p), (b4, 2, Fq.num 0), (b3, 2, Fq.num p), (b2, 2, Fq.num n), (b1, 2, Fq.num f)] w18 := E18
        rw [lay_all hL]
        simp only [putAll, dstOf, List.length_cons, List.length_nil, Nat.zero_add, Nat.reduceAdd, List.getElem?_toArray, List.getElem?_cons_zero, List.getElem?_cons_succ, Option.bind_some, Act.put, List.setIfInBounds_toArray, List.set_cons_succ, List.set_cons_zero]
        rw [e1, e2]
        generalize vs 0 = u18_0
        clear e1 e2 hC hn E18 hL vs L nb
        clear TB
        go_upto_region 9 with (fail)
        have B19 : Hid (ab ((y * y)) < pw 100) := ab_mulM By.out By.out (by omega)
        have B20 : Hid (ab (((y * y) - (2))) < pw 101) := ab_subB B19.out B6.out (by omega) (by omega)
        have B21 : Hid (ab ((((y * y) - (2)) % p)) < pw 50) := ab_modB HM.out hm.out
        refine region_fr (C := [Fq.num (((x * y) - f) % p), Fq.is (cloV 72 b5_1), Fq.num y, Fq.num y, Fq.num (y * y), Fq.num (2), Fq.num ((y * y) - (2)), Fq.num (((y * y) - (2)) % p), Fq.any, Fq.any]) (ks := [none, some (8, Fq.num (((x * y) - f) % p)), some (9, Fq.num (((y * y) - (2)) % p)), none, none, none, none, none, none]) (new := []) E rfl (by kernel_rfl) rfl rfl (fun hp => ⟨?_, ?_, ?_, ?_, ?_, ?_, ?_, ?_, ?_, ?_, trivial⟩) ?_
        · exact q_loadInt (off := 0) hp (free_of rfl) trivial (List.mem_iff_getElem?.2 ⟨0, rfl⟩) (.inl rfl) (Nat.le_of_ble_eq_true rfl) (sq_out (s := 12) rfl rfl (fun _ _ => rfl)) (fun us w hl h => ld_num hl h)
        · exact q_move hp (free_of rfl) trivial (sq_out (s := 7) rfl rfl (fun _ _ => rfl))
        · exact q_loadInt (off := 0) hp (free_of rfl) trivial (List.mem_iff_getElem?.2 ⟨2, rfl⟩) (.inr rfl) (Nat.le_of_ble_eq_true rfl) (sq_out (s := 10) rfl rfl (fun _ _ => rfl)) (fun us w hl h => ld_num hl h)
        · exact q_loadInt (off := 0) hp (free_of rfl) trivial (List.mem_iff_getElem?.2 ⟨2, rfl⟩) (.inr rfl) (Nat.le_of_ble_eq_true rfl) (sq_out (s := 10) rfl rfl (fun _ _ => rfl)) (fun us w hl h => ld_num hl h)
        · exact q_call2 (F := (Fq.num y).P) (G := (Fq.num y).P) hp (free_of rfl) trivial (enq_Mul) (sq_in 2 rfl rfl (by simp) rfl (fun v w h => h)) (sq_in 3 rfl rfl (by simp) rfl (fun v w h => h)) (fun v v' w h h' => exK (MulV h h') B19.out (by omega))
        · exact q_loadInt (off := 0) hp (free_of rfl) trivial (List.mem_iff_getElem?.2 ⟨3, rfl⟩) (.inl rfl) (Nat.le_of_ble_eq_true rfl) (sq_out (s := 8) rfl rfl (fun _ _ => rfl)) (fun us w hl h => ld_num hl h)
        · exact q_call2 (F := (Fq.num (y * y)).P) (G := (Fq.num (2)).P) hp (free_of rfl) trivial (enq_Sub) (sq_in 4 rfl rfl (by simp) rfl (fun v w h => h)) (sq_in 5 rfl rfl (by simp) rfl (fun v w h => h)) (fun v v' w h h' => exK (SubV h h') B20.out (by omega))
        · exact q_callCloOut (F := (Fq.num ((y * y) - (2))).P) hp (free_of rfl) trivial enq_M_within1 (List.mem_iff_getElem?.2 ⟨4, rfl⟩) rfl (sq_in 1 rfl rfl (by simp) rfl (fun v w h => h)) (sq_in 6 rfl rfl (by simp) rfl (fun v w h => h)) (fun v w h hb => exResidue h hb HM.out (Int.lt_of_lt_of_le B20.out (pw_le (by omega))) (Int.lt_of_lt_of_le hm.out (pw_le (by omega))))
        · exact q_storeOldInt hp (List.mem_iff_getElem?.2 ⟨1, rfl⟩) rfl rfl (sq_out (s := 9) rfl rfl (fun _ _ => rfl)) (sq_in 0 rfl rfl (by simp) rfl (fun v w h => intV_num h)) (fun _ _ => trivial) (newik_ne rfl)
        · exact q_storeOldInt hp (List.mem_iff_getElem?.2 ⟨2, rfl⟩) rfl rfl (sq_out (s := 10) rfl rfl (fun _ _ => rfl)) (sq_in 7 rfl rfl (by simp) rfl (fun v w h => intV_num h)) (fun _ _ => trivial) (newik_ne rfl)
        intro L vs w22 nb hL hC hn E22
        have e1 : vs 1 = cloV 72 b5_1 := hC 1 (by simp)
        have E : Fr w [(b17_7, 2, Fq.num (((x * y) - f) % p)), (b9_4, 2, Fq.num (((x * y) - f) % p)), (b9_5, 2, Fq.num (((y * y) - (2)) % p)), (b7_1, 2, Fq.num (2)), (b5_1, 2, Fq.num p), (b4, 2, Fq.num 0), (b3, 2, Fq.num p), (b2, 2, Fq.num n), (b1, 2, Fq.num f)] w22 := E22
        rw [lay_all hL]
        simp only [putAll, dstOf, List.length_cons, List.length_nil, Nat.zero_add, Nat.reduceAdd, List.getElem?_toArray, List.getElem?_cons_zero, List.getElem?_cons_succ, Option.bind_some, Act.put, List.setIfInBounds_toArray, List.set_cons_succ, List.set_cons_zero]
        rw [e1]
        generalize vs 0 = u22_0
        generalize vs 2 = u22_2
        generalize vs 3 = u22_3
        generalize vs 4 = u22_4
        generalize vs 5 = u22_5
        generalize vs 6 = u22_6
        generalize vs 7 = u22_7
        clear e1 hC hn E22 hL vs L nb
        go_wp2
        go_roundw
        case rel => exact ⟨i, by have := HJ.out; omega, by first | go_num | (rw [hw]; go_num), by rw [← EZ.out.1, ← EZ.out.2]; exact Fr.drop E⟩
        case measure => first | exact measP | (rw [hw]; exact measP)
      · have TB : Hid (decide (n.natAbs / 2 ^ i % 2 = 1) = false) := decide_eq_false hb
        have EZ := hidd (HZ.out.2 hb)
        clear hb HZ
        go_upto_region 8 with (fail)
        refine region_fr (C := [Fq.num n, Fq.is (.int .i64 (i : Int)), Fq.is (.bool false)]) (ks := [none, none, none, none, none, none, none, none, none]) (new := []) E rfl (by kernel_rfl) rfl rfl (fun hp => ⟨?_, ?_, ?_, trivial⟩) ?_
        · exact q_loadInt (off := 0) hp (free_of rfl) trivial (List.mem_iff_getElem?.2 ⟨7, rfl⟩) (.inl rfl) (Nat.le_of_ble_eq_true rfl) (sq_out (s := 4) rfl rfl (fun _ _ => rfl)) (fun us w hl h => ld_num hl h)
        · exact q_move hp (free_of rfl) trivial (sq_out (s := 11) rfl rfl (fun _ _ => rfl))
        · exact q_call2 (F := (Fq.num n).P) (G := (Fq.is (.int .i64 (i : Int))).P) hp (free_of rfl) trivial (enq_M_bit) (sq_in 0 rfl rfl (by simp) rfl (fun v w h => h)) (sq_in 1 rfl rfl (by simp) rfl (fun v w h => h)) (fun v v' w h h' => (by subst h'; exact exBit h (by have := HJ.out; omega) TB.out))
        intro L vs w23 nb hL hC hn E23
        have e1 : vs 1 = .int .i64 (i : Int) := hC 1 (by simp)
        have e2 : vs 2 = .bool false := hC 2 (by simp)
        have E : Fr w [(b17_7, 2, Fq.num (((x * y) - f) % p)), (b9_4, 2, Fq.num x), (b9_5, 2, Fq.num y), (b7_1, 2, Fq.num (2)), (b5_1, 2, Fq.num p), (b4, 2, Fq.num 0), (b3, 2, Fq.num p), (b2, 2, Fq.num n), (b1, 2, Fq.num f)] w23 := E23
        rw [lay_all hL]
        simp only [putAll, dstOf, List.length_cons, List.length_nil, Nat.zero_add, Nat.reduceAdd, List.getElem?_toArray, List.getElem?_cons_zero, List.getElem?_cons_succ, Option.bind_some, Act.put, List.setIfInBounds_toArray, List.set_cons_succ, List.set_cons_zero]
        rw [e1, e2]
        generalize vs 0 = u23_0
        clear e1 e2 hC hn E23 hL vs L nb
        clear TB
        go_upto_region 10 with (fail)
        have B24 : Hid (ab ((x * x)) < pw 100) := ab_mulM Bx.out Bx.out (by omega)
        have B25 : Hid (ab (((x * x) - (2))) < pw 101) := ab_subB B24.out B6.out (by omega) (by omega)
        have B26 : Hid (ab ((((x * x) - (2)) % p)) < pw 50) := ab_modB HM.out hm.out
        refine region_fr (C := [Fq.is (cloV 72 b5_1), Fq.num x, Fq.num x, Fq.num (x * x), Fq.num (2), Fq.num ((x * x) - (2)), Fq.num (((x * x) - (2)) % p), Fq.num (((x * y) - f) % p), Fq.any, Fq.any]) (ks := [none, some (8, Fq.num (((x * x) - (2)) % p)), some (9, Fq.num (((x * y) - f) % p)), none, none, none, none, none, none]) (new := []) E rfl (by kernel_rfl) rfl rfl (fun hp => ⟨?_, ?_, ?_, ?_, ?_, ?_, ?_, ?_, ?_, ?_, trivial⟩) ?_
        · exact q_move hp (free_of rfl) trivial (sq_out (s := 7) rfl rfl (fun _ _ => rfl))
        · exact q_loadInt (off := 0) hp (free_of rfl) trivial (List.mem_iff_getElem?.2 ⟨1, rfl⟩) (.inr rfl) (Nat.le_of_ble_eq_true rfl) (sq_out (s := 9) rfl rfl (fun _ _ => rfl)) (fun us w hl h => ld_num hl h)
        · exact q_loadInt (off := 0) hp (free_of rfl) trivial (List.mem_iff_getElem?.2 ⟨1, rfl⟩) (.inr rfl) (Nat.le_of_ble_eq_true rfl) (sq_out (s := 9) rfl rfl (fun _ _ => rfl)) (fun us w hl h => ld_num hl h)
        · exact q_call2 (F := (Fq.num x).P) (G := (Fq.num x).P) hp (free_of rfl) trivial (enq_Mul) (sq_in 1 rfl rfl (by simp) rfl (fun v w h => h)) (sq_in 2 rfl rfl (by simp) rfl (fun v w h => h)) (fun v v' w h h' => exK (MulV h h') B24.out (by omega))
        · exact q_loadInt (off := 0) hp (free_of rfl) trivial (List.mem_iff_getElem?.2 ⟨3, rfl⟩) (.inl rfl) (Nat.le_of_ble_eq_true rfl) (sq_out (s := 8) rfl rfl (fun _ _ => rfl)) (fun us w hl h => ld_num hl h)
        · exact q_call2 (F := (Fq.num (x * x)).P) (G := (Fq.num (2)).P) hp (free_of rfl) trivial (enq_Sub) (sq_in 3 rfl rfl (by simp) rfl (fun v w h => h)) (sq_in 4 rfl rfl (by simp) rfl (fun v w h => h)) (fun v v' w h h' => exK (SubV h h') B25.out (by omega))
        · exact q_callCloOut (F := (Fq.num ((x * x) - (2))).P) hp (free_of rfl) trivial enq_M_within1 (List.mem_iff_getElem?.2 ⟨4, rfl⟩) rfl (sq_in 0 rfl rfl (by simp) rfl (fun v w h => h)) (sq_in 5 rfl rfl (by simp) rfl (fun v w h => h)) (fun v w h hb => exResidue h hb HM.out (Int.lt_of_lt_of_le B25.out (pw_le (by omega))) (Int.lt_of_lt_of_le hm.out (pw_le (by omega))))
        · exact q_loadInt (off := 0) hp (free_of rfl) trivial (List.mem_iff_getElem?.2 ⟨0, rfl⟩) (.inl rfl) (Nat.le_of_ble_eq_true rfl) (sq_out (s := 12) rfl rfl (fun _ _ => rfl)) (fun us w hl h => ld_num hl h)
        · exact q_storeOldInt hp (List.mem_iff_getElem?.2 ⟨1, rfl⟩) rfl rfl (sq_out (s := 9) rfl rfl (fun _ _ => rfl)) (sq_in 6 rfl rfl (by simp) rfl (fun v w h => intV_num h)) (fun _ _ => trivial) (newik_ne rfl)
        · exact q_storeOldInt hp (List.mem_iff_getElem?.2 ⟨2, rfl⟩) rfl rfl (sq_out (s := 10) rfl rfl (fun _ _ => rfl)) (sq_in 7 rfl rfl (by simp) rfl (fun v w h => intV_num h)) (fun _ _ => trivial) (newik_ne rfl)
        intro L vs w27 nb hL hC hn E27
        have e0 : vs 0 = cloV 72 b5_1 := hC 0 (by simp)
        have E : Fr w [(b17_7, 2, Fq.num (((x * y) - f) % p)), (b9_4, 2, Fq.num (((x * x) - (2)) % p)), (b9_5, 2, Fq.num (((x * y) - f) % p)), (b7_1, 2, Fq.num (2)), (b5_1, 2, Fq.num p), (b4, 2, Fq.num 0), (b3, 2, Fq.num p), (b2, 2, Fq.num n), (b1, 2, Fq.num f)] w27 := E27
        rw [lay_all hL]
        simp only [putAll, dstOf, List.length_cons, List.length_nil, Nat.zero_add, Nat.reduceAdd, List.getElem?_toArray, List.getElem?_cons_zero, List.getElem?_cons_succ, Option.bind_some, Act.put, List.setIfInBounds_toArray, List.set_cons_succ, List.set_cons_zero]
        rw [e0]
        generalize vs 1 = u27_1
        generalize vs 2 = u27_2
        generalize vs 3 = u27_3
        generalize vs 4 = u27_4
        generalize vs 5 = u27_5
        generalize vs 6 = u27_6
        generalize vs 7 = u27_7
        clear e0 hC hn E27 hL vs L nb
        go_wp2
        go_roundw
        case rel => exact ⟨i, by have := HJ.out; omega, by first | go_num | (rw [hw]; go_num), by rw [← EZ.out.1, ← EZ.out.2]; exact Fr.drop E⟩
        case measure => first | exact measP | (rw [hw]; exact measP)

end Go.Proofs.YtieobgadihcgeaaDoor

/- Walks: the reference's small primes. -/
namespace Go.Proofs.YtieobgadihcgeaaDoor
open Go Go.RowKit

theorem trial_step {n : Int} {d : Nat} (h : (d : Int) * d ≤ n) (hn : n ≤ 65537) : d ≤ 256 := by
  rcases Nat.lt_or_ge 256 d with h3 | h3
  · have h4 := Int.mul_le_mul (show (257 : Int) ≤ d by omega) (show (257 : Int) ≤ d by omega) (by omega) (by omega)
    omega
  · exact h3
theorem trial_end {n : Int} {d : Nat} (h : ¬ (d : Int) * d ≤ n) (h1 : 1 < n) (hc : ∀ c : Nat, 2 ≤ c → c < d → n % c ≠ 0) : Pr n.toNat := by
  refine pr_of (by omega) fun c c2 cc e => ?_
  have h3 : c < d := by
    rcases Nat.lt_or_ge c d with h4 | h4
    · exact h4
    · have h5 := Nat.mul_le_mul h4 h4
      have h6 : ((d * d : Nat) : Int) = (d : Int) * d := by rw [Int.natCast_mul]
      omega
  refine hc c c2 h3 ?_
  have h7 : n = (n.toNat : Int) := by omega
  rw [h7]
  exact_mod_cast e
theorem trial_no {n : Int} {d : Nat} (h2 : 2 ≤ d) (h : (d : Int) * d ≤ n) (hd : n % d = 0) : ¬ Pr n.toNat := by
  intro hp
  have h3 : d ∣ n.toNat := by
    refine Int.natCast_dvd_natCast.1 ?_
    have h4 : (n.toNat : Int) = n := by have := Int.mul_nonneg (show 0 ≤ (d : Int) by omega) (show 0 ≤ (d : Int) by omega); omega
    rw [h4]
    exact Int.dvd_of_emod_eq_zero hd
  rcases hp.2 d h3 with e | e
  · omega
  · have h5 := Int.mul_le_mul_of_nonneg_left (show (2 : Int) ≤ d by omega) (show 0 ≤ (d : Int) by omega)
    omega
set_option maxRecDepth 20000 in
theorem exIsPrime (w : World) {n : Int} (h0 : 0 ≤ n) (h1 : n ≤ 65537) : Calls Tryd.prog 54 #[.int .i64 n] w fun e w' => ∃ t : Bool, e = .returned (.bool t) ∧ w' = w ∧ (t = true ↔ Pr n.toNat) := by
  have H0 := hidd h0
  have H1 := hidd h1
  clear h0 h1
  go_enter Tryd.func54, Tryd.ntmps54
  go_wp2
  go_loopw [3] (fun vd W => ∃ d : Nat, vd = .int .i64 d ∧ W = w ∧ 2 ≤ d ∧ d ≤ 257 ∧ ∀ c : Nat, 2 ≤ c → c < d → n % c ≠ 0) (fun vd _ => 300 - (intOf vd).toNat)
  case atStart => exact ⟨2, rfl, rfl, by omega, by omega, fun c h1 h2 => by omega⟩
  case round =>
    obtain ⟨d, rfl, rfl, d2, d3, hc⟩ := hrel
    obtain ⟨q, hq⟩ : ∃ q : Int, q = (d : Int) * d := ⟨_, rfl⟩
    have hq2 : 0 ≤ q ∧ q ≤ 66049 := by
      have h4 := Int.mul_le_mul (show (d : Int) ≤ 257 by omega) (show (d : Int) ≤ 257 by omega) (by omega) (by omega)
      have h5 := Int.mul_nonneg (show 0 ≤ (d : Int) by omega) (show 0 ≤ (d : Int) by omega)
      omega
    have g1 : IntKind.i64.wrap ((d : Int) * d) = q := by rw [← hq]; exact IntWalk.i64_in _ (by omega)
    have HQ := hidd hq
    have HC := hidd hc
    have HD := hidd (show 2 ≤ d ∧ d ≤ 257 from ⟨d2, d3⟩)
    by_cases hle : q ≤ n
    · have g2 : (q ≤ n) = True := eq_true hle
      obtain ⟨z, hz⟩ : ∃ z, z = n % (d : Int) := ⟨_, rfl⟩
      have g3 : n.tmod (d : Int) = z := by rw [hz]; exact tmod_pos H0.out
      have hz2 : 0 ≤ z ∧ z < d := by rw [hz]; exact ⟨Int.emod_nonneg _ (by omega), Int.emod_lt_of_pos _ (by omega)⟩
      have g4 : IntKind.i64.wrap z = z := IntWalk.i64_in _ (by omega)
      have g5 : ¬ (d : Int) = 0 := by omega
      have g6 : ((d : Int) == 0) = false := by simpa using g5
      have g8 : (d == 0) = false := by simp; omega
      have HZ := hidd hz
      have HLE := hidd hle
      by_cases hzz : z = 0
      · have g7 : (z == 0) = true := by simpa using hzz
        have HN : Hid (¬ Pr n.toNat) := trial_no HD.out.1 (by rw [← HQ.out]; exact hle) (by rw [← HZ.out]; exact hzz)
        clear hq hc d2 d3 hq2 hz hz2 hle hzz
        go_wp2
        refine bodyPost_ret (v := .bool false) (by simp [results, Tryd.results54, go_sem]) rfl ⟨false, rfl, rfl, by simp [HN.out]⟩
      · have g7 : (z == 0) = false := by simpa using hzz
        have HZZ := hidd hzz
        have h9 := trial_step (by rw [← hq]; exact hle) H1.out
        have g9 : IntKind.i64.wrap ((d : Int) + 1) = (d : Int) + 1 := IntWalk.i64_in _ (by omega)
        have H9 := hidd h9
        clear hq hc d2 d3 hq2 hz hz2 hle hzz h9
        go_wp2
        go_roundw
        case rel => exact ⟨d + 1, by go_num, trivial, by have := HD.out; omega, by have := H9.out; omega, fun c h1 h2 => by
          rcases Nat.lt_or_ge c d with h | h
          · exact HC.out c h1 h
          · rw [show c = d by omega, ← HZ.out]; exact HZZ.out⟩
        case measure => have := H9.out; simp [intOf]; omega
    · have g2 : (q ≤ n) = False := eq_false hle
      have HE : Hid ((decide (1 < n)) = true ↔ Pr n.toNat) := by
        show _ ↔ _
        rw [decide_eq_true_iff]
        exact ⟨fun h => trial_end (d := d) (by rw [← HQ.out]; exact hle) h HC.out, fun h => by have := h.1; omega⟩
      clear hq hc d2 d3 hq2 hle
      go_wp2
      refine bodyPost_ret (v := .bool (decide (1 < n))) (by simp [results, Tryd.results54, go_sem]) rfl ⟨_, rfl, rfl, HE.out⟩
theorem exIsPrimeT (w : World) {n : Int} (h0 : 0 ≤ n) (h1 : n ≤ 65537) (h : Pr n.toNat) : Calls Tryd.prog 54 #[.int .i64 n] w fun e w' => e = .returned (.bool true) ∧ w' = w :=
  (exIsPrime w h0 h1).mono fun e w' ⟨t, he, hw, ht⟩ => ⟨by rw [he, ht.2 h], hw⟩
theorem exIsPrimeF (w : World) {n : Int} (h0 : 0 ≤ n) (h1 : n ≤ 65537) (h : ¬ Pr n.toNat) : Calls Tryd.prog 54 #[.int .i64 n] w fun e w' => e = .returned (.bool false) ∧ w' = w :=
  (exIsPrime w h0 h1).mono fun e w' ⟨t, he, hw, ht⟩ => ⟨by rw [he]; cases t; rfl; exact absurd (ht.1 rfl) h, hw⟩
theorem pr_65537 : Pr 65537 := pr_tri 300 (by decide) (by decide +kernel)
theorem lp_ex : ∀ (k n : Nat), n + k = 65537 → ∃ p, Pr p ∧ n ≤ p ∧ p ≤ 65537 ∧ ∀ q, n ≤ q → q < p → ¬ Pr q
  | 0, n, h => ⟨65537, pr_65537, by omega, Nat.le_refl _, fun q h1 h2 => by omega⟩
  | k + 1, n, h => by
    by_cases hp : Pr n
    · exact ⟨n, hp, Nat.le_refl _, by omega, fun q h1 h2 => by omega⟩
    · obtain ⟨p, h1, h2, h3, h4⟩ := lp_ex k (n + 1) (by omega)
      refine ⟨p, h1, by omega, h3, fun q g1 g2 => ?_⟩
      rcases Nat.lt_or_ge n q with h | h
      · exact h4 q h g2
      · rw [show q = n by omega]; exact hp
theorem exPrime (w : World) {n : Int} {p : Nat} (h0 : 0 ≤ n) (h1 : n ≤ 65535) (hp : Pr p) (hn : n.toNat ≤ p) (hb : p ≤ 65537) (hl : ∀ q, n.toNat ≤ q → q < p → ¬ Pr q) :
    Calls Tryd.prog 22 #[.int .u16 n] w fun e w' => ∃ v', e = .returned v' ∧ Below w.heap.size w w' ∧ v' = .int .i64 (p : Int) := by
  have g0 : IntKind.i64.wrap n = n := IntWalk.i64_in _ (by omega)
  have H0 := hidd (show 0 ≤ n ∧ n ≤ 65535 from ⟨h0, h1⟩)
  have HP := hidd hp
  have HB := hidd hb
  have HL := hidd hl
  have HN := hidd hn
  clear h0 h1 hp hn hb hl
  go_enter Tryd.func22, Tryd.ntmps22
  go_wp2
  go_loopw [3] (fun vp W => ∃ q : Nat, vp = .int .i64 q ∧ W = w ∧ n.toNat ≤ q ∧ q ≤ p) (fun vp _ => 65537 - (intOf vp).toNat)
  case atStart => exact ⟨n.toNat, by have := H0.out; congr 1; omega, rfl, Nat.le_refl _, HN.out⟩
  case round =>
    obtain ⟨q, rfl, rfl, hq, hqp⟩ := hrel
    have hbb := HB.out
    have HQ := hidd hq
    by_cases hpr : Pr q
    · have he : q = p := by
        rcases Nat.lt_or_ge q p with h | h
        · exact absurd hpr (HL.out q hq h)
        · omega
      have HC := exIsPrimeT wr (n := (q : Int)) (by omega) (by omega) hpr
      have HE := hidd he
      clear hpr he hq hqp hbb
      go_wp2_with (first | (go_at_call 54; refine HC.mono ?_; rintro e w2 ⟨rfl, rfl⟩) | fail)
      go_ret
      exact ⟨.int .i64 (q : Int), rfl, Below.refl _ _, by rw [HE.out]⟩
    · have hne : q < p := by
        rcases Nat.lt_or_ge q p with h | h
        · exact h
        · exact absurd (by rw [show q = p by omega]; exact HP.out) hpr
      have HC := exIsPrimeF wr (n := (q : Int)) (by omega) (by omega) hpr
      have HNE := hidd hne
      have g9 : IntKind.i64.wrap ((q : Int) + 1) = (q : Int) + 1 := IntWalk.i64_in _ (by omega)
      clear hpr hne hq hqp hbb
      go_wp2_with (first | (go_at_call 54; refine HC.mono ?_; rintro e w2 ⟨rfl, rfl⟩) | fail)
      go_roundw
      case rel => exact ⟨q + 1, by go_num, trivial, by have := HQ.out; omega, by have := HNE.out; omega⟩
      case measure => have := HNE.out; have := HB.out; simp [intOf]; omega
end Go.Proofs.YtieobgadihcgeaaDoor

/- Walk of the law on the symbol of Kronecker. -/
namespace Go.Proofs.YtieobgadihcgeaaDoor
open Go Go.RowKit

def Tri (x : Int) : Prop := x = -1 ∨ x = 0 ∨ x = 1
theorem Tri.mul {x y : Int} (h : Tri x) (h' : Tri y) : Tri (x * y) := by
  unfold Tri at *
  rcases h with rfl | rfl | rfl <;> rcases h' with rfl | rfl | rfl <;> decide
theorem two_tri (a : Int) : Tri (two a) := by unfold two Tri; split; exact .inr (.inl rfl); split; exact .inl rfl; exact .inr (.inr rfl)
theorem J_tri (a : Int) (n : Nat) : Tri (J a n) := by
  unfold Tri
  by_cases h : Int.gcd a n = 1
  · rcases J_or h with h | h <;> rw [h] <;> simp
  · rw [J_not h]; simp
theorem kro_tri (a : Int) : ∀ n : Nat, n ≠ 0 → Tri (kro a n) := by
  intro n
  induction n using Nat.strongRecOn with
  | _ n ih =>
    intro h0
    rcases Nat.mod_two_eq_zero_or_one n with h | h
    · obtain ⟨m, rfl⟩ : ∃ m, n = 2 * m := ⟨n / 2, by omega⟩
      rw [kro_even (by omega)]
      exact (two_tri a).mul (ih m (by omega) (by omega))
    · rw [kro_odd h]; exact J_tri a n
theorem kron_tri (a n : Int) : Tri (kron a n) := by
  unfold kron
  by_cases h : n = 0
  · rw [if_pos h]; unfold Tri; split <;> simp
  · rw [if_neg h]
    refine Tri.mul ?_ (kro_tri a _ (by omega))
    unfold Tri; split <;> simp
theorem exKronR {w : World} {v v' : Value} {a n r : Int} (h : Num w v a) (h' : Num w v' n) (hT : Tabs w) (ha : ab a < pw 100) (hn : ab n < pw 100) (hr : kron a n = r) :
    Calls Tryd.prog 20 #[v, v'] w fun e w' => ∃ v', e = .returned v' ∧ Below w.heap.size w w' ∧ v' = .int .i64 r := by
  subst hr
  exact exKronecker h h' hT ha hn
end Go.Proofs.YtieobgadihcgeaaDoor

/- Walk of the law of Euler. -/
namespace Go.Proofs.YtieobgadihcgeaaDoor
open Go Go.RowKit

section
variable {os : List Oper} {Q : Exit → Act → World → Prop} {a : Act} {p : Pq} {B B0 : Nat} {w0 : World}
variable {i s : Nat} {d : Option Tmp} {ty : TypeId} {ps : String} {af : Array Edge} {gd : Option (Nat × Bool)}
end
theorem pr_odd {p : Nat} (hp : Pr p) (h2 : p ≠ 2) : p % 2 = 1 := by
  rcases Nat.mod_two_eq_zero_or_one p with h | h
  · rcases hp.2 2 (Nat.dvd_of_mod_eq_zero h) with e | e <;> omega
  · exact h
theorem kron_pr {p : Nat} (ho : p % 2 = 1) (a : Int) : kron a p = J a p := by
  unfold kron
  rw [if_neg (by omega), if_neg (by omega), Int.one_mul, Int.natAbs_natCast, kro_odd ho]
theorem small3 {x : Int} (h : -18446744073709551616 < x ∧ x < 18446744073709551616) : ab x < pw 3 := by
  have h3 : pw 2 ≤ pw 3 := pw_le (by omega)
  have h4 : pw 2 = 18446744073709551616 := by decide
  unfold ab
  omega
end Go.Proofs.YtieobgadihcgeaaDoor

/- Walk: a square root by the sequence of Lucas. -/
namespace Go.Proofs.YtieobgadihcgeaaDoor
open Go Go.RowKit

theorem measT {m t : Nat} (h : m < t) : t + 1 - (intOf (.int .i64 ((m : Int) + 1))).toNat < t + 1 - (intOf (.int .i64 (m : Int))).toNat := by simp [intOf]; omega
theorem sq_not_pr {p : Nat} (hp : Pr p) {s : Int} (h : s * s = p) : False := by
  have h1 : s.natAbs * s.natAbs = p := by
    have := congrArg Int.natAbs h
    rw [Int.natAbs_mul] at this
    exact this
  have h2 := hp.1
  rcases hp.2 s.natAbs ⟨_, h1.symm⟩ with e | e
  · rw [e] at h1; omega
  · rw [e] at h1
    have := Nat.mul_le_mul_left p h2
    omega
/-- The first number that ends the search. -/
theorem first_t {p : Nat} (hp : Pr p) (h4 : p % 4 = 1) {r : Int} (hr : J r p = 1) : ∃ t : Nat, 1 ≤ t ∧ t ≤ p - 1 ∧ J (r * ((t : Int) * t) - 2 - 2) p ≠ 1 ∧ ∀ s : Nat, 1 ≤ s → s < t → J (r * ((s : Int) * s) - 2 - 2) p = 1 := by
  have key : ∀ n : Nat, (∃ t : Nat, 1 ≤ t ∧ t ≤ n ∧ J (r * ((t : Int) * t) - 2 - 2) p ≠ 1) → ∃ t : Nat, 1 ≤ t ∧ t ≤ n ∧ J (r * ((t : Int) * t) - 2 - 2) p ≠ 1 ∧ ∀ s : Nat, 1 ≤ s → s < t → J (r * ((s : Int) * s) - 2 - 2) p = 1 := by
    intro n
    induction n with
    | zero => rintro ⟨t, h1, h2, _⟩; omega
    | succ n ih =>
      rintro ⟨t, h1, h2, h3⟩
      by_cases hn : ∃ t : Nat, 1 ≤ t ∧ t ≤ n ∧ J (r * ((t : Int) * t) - 2 - 2) p ≠ 1
      · obtain ⟨t', g1, g2, g3, g4⟩ := ih hn
        exact ⟨t', g1, by omega, g3, g4⟩
      · refine ⟨t, h1, h2, h3, fun s s1 s2 => Classical.byContradiction fun h => hn ⟨s, s1, ?_, h⟩⟩
        omega
  exact key _ (search_ex hp h4 hr)
theorem isqrt_ex : ∀ p : Nat, ∃ s : Int, 0 ≤ s ∧ s * s ≤ p ∧ (p : Int) < (s + 1) * (s + 1)
  | 0 => ⟨0, by decide, by decide, by decide⟩
  | p + 1 => by
    obtain ⟨s, h0, h1, h2⟩ := isqrt_ex p
    have e : (s + 1 + 1) * (s + 1 + 1) = (s + 1) * (s + 1) + 2 * (s + 1) + 1 := by rw [Int.add_mul (s + 1) 1, Int.mul_add (s + 1) (s + 1) 1]; omega
    by_cases h : ((p + 1 : Nat) : Int) < (s + 1) * (s + 1)
    · exact ⟨s, h0, by omega, h⟩
    · exact ⟨s + 1, by omega, by omega, by rw [e]; omega⟩
theorem root2_uniq {X r s : Int} (hr : IsRoot X 2 r) (s0 : 0 ≤ s) (h1 : s * s ≤ X) (h2 : X < (s + 1) * (s + 1)) : r = s := by
  obtain ⟨r0, r1, r2⟩ := hr
  have e : ∀ z : Int, z ^ 2 = z * z := fun z => by rw [show (2 : Nat) = 1 + 1 by rfl, Int.pow_succ, Int.pow_succ, Int.pow_zero, Int.one_mul]
  rw [e] at r1 r2
  rcases Int.lt_trichotomy r s with h | h | h
  · have := Int.mul_le_mul (show r + 1 ≤ s by omega) (show r + 1 ≤ s by omega) (by omega) s0
    omega
  · exact h
  · have := Int.mul_le_mul (show s + 1 ≤ r by omega) (show s + 1 ≤ r by omega) (by omega) r0
    omega
/-- The square root of a prime leaves a rest. -/
theorem sqrt_pr {P : Int} (hp : ∃ p : Nat, P = (p : Int) ∧ Pr p) (hb : ab P < pw 3) : ∃ s rs : Int, (∀ (w : World) (v : Value), Num w v P → Calls Tryd.prog 89 #[v] w fun e w' => ∃ v', e = .returned v' ∧ Below w.heap.size w w' ∧ (Fq.tup3 (Fq.num s) (Fq.num rs) (Fq.is (.int .i64 0))).P v' w') ∧ rs ≠ 0 := by
  obtain ⟨p, rfl, hp⟩ := hp
  obtain ⟨s, s0, hs1, hs2⟩ := isqrt_ex p
  refine ⟨s, p - s * s, fun w v hv => (SqrtV hv (Int.lt_of_lt_of_le hb (pw_le (by omega)))).mono fun e w' hh => ?_, fun e => sq_not_pr hp (s := s) (by omega)⟩
  obtain ⟨hB, ⟨h1, _⟩ | ⟨_, v1, v2, r, rfl, hr1, hr2, hr⟩⟩ := hh
  · omega
  · obtain rfl : r = s := root2_uniq hr s0 hs1 hs2
    have hbr : ab r < pw 3 := by
      have h4 := hb
      have h5 : r ≤ r * r := by
        rcases Int.lt_or_le 0 r with h | h
        · have := Int.mul_le_mul_of_nonneg_left (show 1 ≤ r by omega) s0; omega
        · have := Int.mul_nonneg s0 s0; omega
      unfold ab at *
      omega
    have hbr2 : ab ((p : Int) - r * r) < pw 3 := by
      have h4 := hb
      have := Int.mul_nonneg s0 s0
      unfold ab at *
      omega
    exact ⟨_, rfl, hB, v1, v2, _, rfl, num_of hr1 hbr (by omega), num_of hr2 hbr2 (by omega), rfl⟩
set_option maxRecDepth 100000 in
set_option maxHeartbeats 4000000 in
theorem exLucasRoot {w : World} {v v' u : Value} {r : Int} {p t : Nat} (h : Num w v r) (h' : Num w v' p) (g : Num w u ((p : Int) / (4))) (hT : Tabs w) (hp : Pr p) (h4 : p % 4 = 1) (hr : 0 ≤ r ∧ r < p ∧ p ≤ 65537) (ht : 1 ≤ t ∧ t ≤ p - 1) (hn : J (r * ((t : Int) * t) - 2 - 2) p ≠ 1) (hs : ∀ s : Nat, 1 ≤ s → s < t → J (r * ((s : Int) * s) - 2 - 2) p = 1) :
    Calls Tryd.prog 87 #[v, v', u] w fun e w' => ∃ v', e = .returned v' ∧ Below w.heap.size w w' ∧ Num w' v' ((lucV ((r * ((t : Int) * t)) - (2)) p (if kron (((r * ((t : Int) * t)) - (2)) - (2)) p = 0 then (0 : Int) else (p : Int) / (4)).natAbs * bezU (t : Int) p) % p) := by
  obtain ⟨P, hP⟩ : ∃ P, P = (p : Int) := ⟨_, rfl⟩
  rw [← hP] at h' g
  have EP := hidd hP
  have RP : Hid (3 ≤ P ∧ P ≤ 65537) := by have := hp.1; show _ ∧ _; omega
  have RR := hidd hr
  have RT := hidd ht
  have PP : Hid (0 < P) := by have := RP.out; show _ < _; omega
  have NP : Hid (P ≠ 0) := by have := RP.out; show _ ≠ _; omega
  have HPR := hidd hp
  have HT := hidd hT
  have HK : Hid (∀ s : Nat, 1 ≤ s → s < t → kron (((r * ((s : Int) * s)) - (2)) - (2)) P = 1) := fun s h1 h2 => by rw [hP, kron_pr (by omega)]; exact hs s h1 h2
  have HE : Hid (kron (((r * ((t : Int) * t)) - (2)) - (2)) P ≠ 1) := by show _ ≠ _; rw [hP, kron_pr (by omega)]; exact hn
  have BP : Hid (ab P < pw 3) := small3 (by have := RP.out; omega)
  have BR : Hid (ab r < pw 3) := small3 (by have := RP.out; omega)
  have BQ : Hid (ab (P / (4)) < pw 4) := ab_divB BP.out (by omega)
  have HGC : Hid (Int.gcd (t : Int) P = 1) := by show _ = _; rw [hP]; exact hp.cop (fun e => by have := small_mod e (by omega) (by omega); omega)
  obtain ⟨X, hX⟩ : ∃ X, X = ((lucV ((r * ((t : Int) * t)) - (2)) p (if kron (((r * ((t : Int) * t)) - (2)) - (2)) p = 0 then (0 : Int) else (p : Int) / (4)).natAbs * bezU (t : Int) p) % p) := ⟨_, rfl⟩
  rw [← hX]
  have HX := hidd hX
  clear hP hr ht hp hT hs hn h4 hX
  obtain ⟨n0, ao0, k0, c0, rfl⟩ := h.parts
  obtain ⟨n1, ao1, k1, c1, rfl⟩ := h'.parts
  obtain ⟨n2, ao2, k2, c2, rfl⟩ := g.parts
  obtain ⟨w1, b1, hw1, hb1, hs1, E⟩ := fr_start w (F := Fq.num r) (us := [.bool n0, .slice ao0 k0 c0]) 29 rfl (by simp) (tame_int _ _ _ _) h
  obtain ⟨w2, b2, hw2, hb2, hs2, E⟩ := fr_more E hs1 (F := Fq.num P) (us := [.bool n1, .slice ao1 k1 c1]) 29 rfl (by simp) (tame_int _ _ _ _) (h'.mono E.below)
  obtain ⟨w3, b3, hw3, hb3, hs3, E⟩ := fr_more E hs2 (F := Fq.num (P / (4))) (us := [.bool n2, .slice ao2 k2 c2]) 29 rfl (by simp) (tame_int _ _ _ _) (g.mono E.below)
  obtain ⟨w4, b4, hw4, hb4, hs4, E⟩ := fr_more E hs3 (F := Fq.num 0) (us := [.bool false, .slice none 0 0]) 29 rfl (by simp) (tame_int _ _ _ _) (Num.zero _)
  go_enter Tryd.func87, Tryd.ntmps87
  go_upto_region 1 with (fail)
  rw [← hw1]
  rw [← hw2]
  rw [← hw3]
  rw [← hw4]
  rw [← hb4]
  rw [← hb3]
  rw [← hb2]
  rw [← hb1]
  clear hw1 hw2 hw3 hw4 hb1 hb2 hb3 hb4 hs4 hs1 hs2 hs3
  apply wp_scope_straight
  go_upto_region 1 with (fail)
  obtain ⟨s, rs, hsr, hrs⟩ : ∃ s rs : Int, (∀ (w : World) (v : Value), Num w v P → Calls Tryd.prog 89 #[v] w fun e w' => ∃ v', e = .returned v' ∧ Below w.heap.size w w' ∧ (Fq.tup3 (Fq.num s) (Fq.num rs) (Fq.is (.int .i64 0))).P v' w') ∧ rs ≠ 0 := by
    exact sqrt_pr ⟨p, EP.out, HPR.out⟩ BP.out
  have HSR := hidd hsr
  have HRS : Hid (¬ cmpI rs 0 = 0) := fun e => hrs (cmpIq0.1 e)
  clear hsr hrs
  refine region_fr (C := [Fq.num P, Fq.tup3 (Fq.num s) (Fq.num rs) (Fq.is (.int .i64 0)), Fq.tup3 (Fq.num s) (Fq.num rs) (Fq.is (.int .i64 0)), Fq.num s, Fq.num rs, Fq.is (.int .i64 0), Fq.any, Fq.any, Fq.any, Fq.any, Fq.is (.int .i64 0)]) (ks := [none, none, none, none]) (new := [⟨6, 8, 2, Fq.num 0, Fq.num s, none⟩, ⟨7, 9, 2, Fq.num 0, Fq.num rs, none⟩]) E rfl (by kernel_rfl) rfl rfl (fun hp => ⟨?_, ?_, ?_, ?_, ?_, ?_, ?_, ?_, ?_, ?_, ?_, trivial⟩) ?_
  · exact q_loadInt (off := 0) hp (free_of rfl) trivial (List.mem_iff_getElem?.2 ⟨2, rfl⟩) (.inl rfl) (Nat.le_of_ble_eq_true rfl) (sq_out (s := 4) rfl rfl (fun _ _ => rfl)) (fun us w hl h => ld_num hl h)
  · exact q_call1 (F := (Fq.num P).P) hp (free_of rfl) trivial (enq_Sqrt) (sq_in 0 rfl rfl (by simp) rfl (fun v w h => h)) (fun v w h => HSR.out _ _ h)
  · exact q_move hp (free_of rfl) trivial (sq_in 1 rfl rfl (by simp) rfl (fun v w h => h))
  · exact q_extract3 hp (free_of rfl) trivial (sq_in 2 rfl rfl (by simp) rfl (fun v w h => h)) (fun v1 v2 v3 w h1 h2 h3 => ⟨_, rfl, h1⟩)
  · exact q_extract3 hp (free_of rfl) trivial (sq_in 2 rfl rfl (by simp) rfl (fun v w h => h)) (fun v1 v2 v3 w h1 h2 h3 => ⟨_, rfl, h2⟩)
  · exact q_extract3 hp (free_of rfl) trivial (sq_in 2 rfl rfl (by simp) rfl (fun v w h => h)) (fun v1 v2 v3 w h1 h2 h3 => ⟨_, rfl, h3⟩)
  · exact q_allocInt hp (List.mem_iff_getElem?.2 ⟨0, rfl⟩) rfl rfl rfl rfl (Nat.ne_of_beq_eq_false rfl) (fun _ _ => trivial) (old_ne rfl) (newk_ne rfl) (fun w => Num.zero w)
  · exact q_allocInt hp (List.mem_iff_getElem?.2 ⟨1, rfl⟩) rfl rfl rfl rfl (Nat.ne_of_beq_eq_false rfl) (fun _ _ => trivial) (old_ne rfl) (newk_ne rfl) (fun w => Num.zero w)
  · exact q_storeNewInt hp (List.mem_iff_getElem?.2 ⟨0, rfl⟩) rfl rfl rfl (own_ptr rfl rfl (by simp) rfl) (sq_in 3 rfl rfl (by simp) rfl (fun v w h => intV_num h)) (fun _ _ => trivial) (old_ne rfl) (newi_ne rfl)
  · exact q_storeNewInt hp (List.mem_iff_getElem?.2 ⟨1, rfl⟩) rfl rfl rfl (own_ptr rfl rfl (by simp) rfl) (sq_in 4 rfl rfl (by simp) rfl (fun v w h => intV_num h)) (fun _ _ => trivial) (old_ne rfl) (newi_ne rfl)
  · exact q_assign hp (free_of rfl) trivial (sq_in 5 rfl rfl (by simp) rfl (fun v w h => h))
  intro L vs w5 nb hL hC hn E5
  have e5 : vs 5 = .int .i64 0 := hC 5 (by simp)
  have e10 : vs 10 = .int .i64 0 := hC 10 (by simp)
  have e6 : vs 6 = .pointer (some ⟨nb 6, 0, none⟩) := hn _ (List.mem_iff_getElem?.2 ⟨0, rfl⟩)
  have e7 : vs 7 = .pointer (some ⟨nb 7, 0, none⟩) := hn _ (List.mem_iff_getElem?.2 ⟨1, rfl⟩)
  have E : Fr w [(nb 6, 2, Fq.num s), (nb 7, 2, Fq.num rs), (b4, 2, Fq.num 0), (b3, 2, Fq.num (P / (4))), (b2, 2, Fq.num P), (b1, 2, Fq.num r)] w5 := E5
  rw [lay_all hL]
  simp only [putAll, dstOf, List.length_cons, List.length_nil, Nat.zero_add, Nat.reduceAdd, List.getElem?_toArray, List.getElem?_cons_zero, List.getElem?_cons_succ, Option.bind_some, Act.put, List.setIfInBounds_toArray, List.set_cons_succ, List.set_cons_zero]
  rw [e5, e10, e6, e7]
  generalize nb 6 = b5_6 at E ⊢
  generalize nb 7 = b5_7 at E ⊢
  generalize vs 0 = u5_0
  generalize vs 1 = u5_1
  generalize vs 2 = u5_2
  generalize vs 3 = u5_3
  generalize vs 4 = u5_4
  clear e5 e10 e6 e7 hC hn E5 hL vs L nb
  go_upto_region 2 with (fail)
  refine region_fr (C := [Fq.num rs, Fq.is (.int .i64 (cmpI rs 0)), Fq.is (.bool false)]) (ks := [none, none, none, none, none, none]) (new := []) E rfl (by kernel_rfl) rfl rfl (fun hp => ⟨?_, ?_, ?_, trivial⟩) ?_
  · exact q_loadInt (off := 0) hp (free_of rfl) trivial (List.mem_iff_getElem?.2 ⟨1, rfl⟩) (.inl rfl) (Nat.le_of_ble_eq_true rfl) (sq_out (s := 8) rfl rfl (fun _ _ => rfl)) (fun us w hl h => ld_num hl h)
  · exact q_call1 (F := (Fq.num rs).P) hp (free_of rfl) trivial (enq_Sign) (sq_in 0 rfl rfl (by simp) rfl (fun v w h => h)) (fun v w h => exSign h)
  · exact q_one (F := fun v _ => v = .int .i64 (cmpI rs 0)) hp (free_of rfl) trivial (sq_in 1 rfl rfl (by simp) rfl (fun v w h => h)) (fun ρ w hc h => ⟨.bool false, by simp [execOp, go_sem, h, hc, HRS.out], rfl⟩)
  intro L vs w6 nb hL hC hn E6
  have e1 : vs 1 = .int .i64 (cmpI rs 0) := hC 1 (by simp)
  have e2 : vs 2 = .bool false := hC 2 (by simp)
  have E : Fr w [(b5_6, 2, Fq.num s), (b5_7, 2, Fq.num rs), (b4, 2, Fq.num 0), (b3, 2, Fq.num (P / (4))), (b2, 2, Fq.num P), (b1, 2, Fq.num r)] w6 := E6
  rw [lay_all hL]
  simp only [putAll, dstOf, List.length_cons, List.length_nil, Nat.zero_add, Nat.reduceAdd, List.getElem?_toArray, List.getElem?_cons_zero, List.getElem?_cons_succ, Option.bind_some, Act.put, List.setIfInBounds_toArray, List.set_cons_succ, List.set_cons_zero]
  rw [e1, e2]
  generalize vs 0 = u6_0
  clear e1 e2 hC hn E6 hL vs L nb
  clear HRS HSR
  go_upto_region 4 with (fail)
  refine region_frS (same := [(2, 1)]) (C := [Fq.num P, Fq.any, Fq.any]) (ks := [none, none, none, none, none, none]) (new := [⟨1, 1, 2, Fq.num P, Fq.num P, (some (.clo 72))⟩]) E rfl (by kernel_rfl) rfl rfl (fun hp => ⟨?_, ?_, ?_, trivial⟩) ?_
  · exact stepS_of (q_loadInt (off := 0) hp (free_of rfl) trivial (List.mem_iff_getElem?.2 ⟨4, rfl⟩) (.inl rfl) (Nat.le_of_ble_eq_true rfl) (sq_out (s := 4) rfl rfl (fun _ _ => rfl)) (fun us w hl h => ld_num hl h)) rfl
  · exact stepS_of (q_callMake (F := (Fq.num P).P) hp enq_M_within (List.mem_iff_getElem?.2 ⟨0, rfl⟩) rfl rfl rfl (sq_in 0 rfl rfl (by simp) rfl (fun v w h => h)) (fun v w h => exWithin h) (fun _ _ => trivial) (old_ne rfl) (newks_ne rfl)) rfl
  · exact stepS_assign hp (free_of rfl) rfl (j := 1) rfl (by simp) rfl (fun _ _ => trivial) rfl (Nat.ne_of_beq_eq_false rfl)
  intro L vs w7 nb hsm hL hC hn E7
  have e1 : vs 1 = cloV 72 (nb 1) := hn _ (List.mem_iff_getElem?.2 ⟨0, rfl⟩)
  have e2 : vs 2 = cloV 72 (nb 1) := (hsm (2, 1) (by simp) (Nat.lt_of_sub_eq_succ rfl)).trans e1
  have E : Fr w [(nb 1, 2, Fq.num P), (b5_6, 2, Fq.num s), (b5_7, 2, Fq.num rs), (b4, 2, Fq.num 0), (b3, 2, Fq.num (P / (4))), (b2, 2, Fq.num P), (b1, 2, Fq.num r)] w7 := E7
  rw [lay_all hL]
  simp only [putAll, dstOf, List.length_cons, List.length_nil, Nat.zero_add, Nat.reduceAdd, List.getElem?_toArray, List.getElem?_cons_zero, List.getElem?_cons_succ, Option.bind_some, Act.put, List.setIfInBounds_toArray, List.set_cons_succ, List.set_cons_zero]
  rw [e1, e2]
  generalize nb 1 = b7_1 at E ⊢
  generalize vs 0 = u7_0
  clear e1 e2 hsm hC hn E7 hL vs L nb
  go_upto_region 5 with (fail)
  obtain ⟨wa, ba, hwa, hba, hsa, Ea⟩ := fr_more E (k := w7.heap.size) rfl (F := Fq.num 0) (us := [.bool false, .slice none 0 0]) 29 rfl (by simp) (tame_int _ _ _ _) (Num.zero _)
  obtain ⟨wb, bb, hwb, hbb, hsb, Eb⟩ := fr_more Ea hsa (F := Fq.num 0) (us := [.bool false, .slice none 0 0]) 29 rfl (by simp) (tame_int _ _ _ _) (Num.zero _)
  clear E
  go_upto_region 6 with (fail)
  apply wp_label
  go_upto_region 6 with (fail)
  rw [← hwa]
  rw [← hwb]
  rw [← hbb]
  rw [← hba]
  clear hwa hwb hba hbb hsa hsb Ea
  have E : Fr w [(bb, 2, Fq.num 0), (ba, 2, Fq.num 0), (b7_1, 2, Fq.num P), (b5_6, 2, Fq.num s), (b5_7, 2, Fq.num rs), (b4, 2, Fq.num 0), (b3, 2, Fq.num (P / (4))), (b2, 2, Fq.num P), (b1, 2, Fq.num r)] wb := Eb
  clear Eb
  have HS := hidd E
  clear E
  go_wp2_with (fail)
  go_loopw [13] (fun vn W => ∃ (m : Nat) (x0 y0 : Int), vn = .int .i64 (m : Int) ∧ 1 ≤ m ∧ m ≤ t ∧ Fr w [(bb, 2, Fq.num y0), (ba, 2, Fq.num x0), (b7_1, 2, Fq.num P), (b5_6, 2, Fq.num s), (b5_7, 2, Fq.num rs), (b4, 2, Fq.num 0), (b3, 2, Fq.num (P / (4))), (b2, 2, Fq.num P), (b1, 2, Fq.num r)] W) (fun vn _ => t + 1 - (intOf vn).toNat)
  case atStart => exact ⟨1, 0, 0, rfl, Nat.le_refl _, RT.out.1, HS.out⟩
  case round =>
    obtain ⟨m, x0, y0, rfl, hm1, hmt, E⟩ := hrel
    clear HS
    by_cases hlt : m < t
    · have RM : Hid (1 ≤ m ∧ m < t ∧ t ≤ 65537) := by have := RT.out; have := RP.out; have := EP.out; show _ ∧ _; omega
      have BM : Hid (ab (m : Int) < pw 3) := small3 (by have := RM.out; omega)
      have K1 := hidd (HK.out m hm1 hlt)
      have hw : Hid (wrap64 ((m : Int) + 1) = (m : Int) + 1) := by show _ = _; have := RM.out; simp only [wrap64]; omega
      clear hm1 hmt hlt
      go_upto_region 8 with (fail)
      refine region_fr (C := [Fq.is (.int .i64 (m : Int)), Fq.num (m : Int), Fq.any]) (ks := [none, some (2, Fq.num (m : Int)), none, none, none, none, none, none, none]) (new := []) E rfl (by kernel_rfl) rfl rfl (fun hp => ⟨?_, ?_, ?_, trivial⟩) ?_
      · exact q_move hp (free_of rfl) trivial (sq_out (s := 13) rfl rfl (fun _ _ => rfl))
      · exact q_call1 (F := (Fq.is (.int .i64 (m : Int))).P) hp (free_of rfl) trivial (enq_Of) (sq_in 0 rfl rfl (by simp) rfl (fun v w h => h)) (fun v w h => (by subst h; exact OfK w (m : Int) (by have := RM.out; omega) (by have := RM.out; omega)))
      · exact q_storeOldInt hp (List.mem_iff_getElem?.2 ⟨1, rfl⟩) rfl rfl (sq_out (s := 11) rfl rfl (fun _ _ => rfl)) (sq_in 1 rfl rfl (by simp) rfl (fun v w h => intV_num h)) (fun _ _ => trivial) (newik_ne rfl)
      intro L vs w8 nb hL hC hn E8
      have e0 : vs 0 = .int .i64 (m : Int) := hC 0 (by simp)
      have E : Fr w [(bb, 2, Fq.num y0), (ba, 2, Fq.num (m : Int)), (b7_1, 2, Fq.num P), (b5_6, 2, Fq.num s), (b5_7, 2, Fq.num rs), (b4, 2, Fq.num 0), (b3, 2, Fq.num (P / (4))), (b2, 2, Fq.num P), (b1, 2, Fq.num r)] w8 := E8
      rw [lay_all hL]
      simp only [putAll, dstOf, List.length_cons, List.length_nil, Nat.zero_add, Nat.reduceAdd, List.getElem?_toArray, List.getElem?_cons_zero, List.getElem?_cons_succ, Option.bind_some, Act.put, List.setIfInBounds_toArray, List.set_cons_succ, List.set_cons_zero]
      rw [e0]
      generalize vs 1 = u8_1
      clear e0 hC hn E8 hL vs L nb
      go_upto_region 9 with (fail)
      have B9 : Hid (ab (((m : Int) * (m : Int))) < pw 6) := ab_mulM BM.out BM.out (by omega)
      have B10 : Hid (ab ((r * ((m : Int) * (m : Int)))) < pw 9) := ab_mulM BR.out B9.out (by omega)
      have B11 : Hid (ab ((2)) < pw 3) := ab_lit (by decide)
      have B12 : Hid (ab (((r * ((m : Int) * (m : Int))) - (2))) < pw 10) := ab_subB B10.out B11.out (by omega) (by omega)
      refine region_fr (C := [Fq.num r, Fq.num (m : Int), Fq.num (m : Int), Fq.num ((m : Int) * (m : Int)), Fq.num (r * ((m : Int) * (m : Int))), Fq.num (2), Fq.num ((r * ((m : Int) * (m : Int))) - (2)), Fq.any]) (ks := [some (7, Fq.num ((r * ((m : Int) * (m : Int))) - (2))), none, none, none, none, none, none, none, none]) (new := []) E rfl (by kernel_rfl) rfl rfl (fun hp => ⟨?_, ?_, ?_, ?_, ?_, ?_, ?_, ?_, trivial⟩) ?_
      · exact q_loadInt (off := 0) hp (free_of rfl) trivial (List.mem_iff_getElem?.2 ⟨8, rfl⟩) (.inl rfl) (Nat.le_of_ble_eq_true rfl) (sq_out (s := 3) rfl rfl (fun _ _ => rfl)) (fun us w hl h => ld_num hl h)
      · exact q_loadInt (off := 0) hp (free_of rfl) trivial (List.mem_iff_getElem?.2 ⟨1, rfl⟩) (.inl rfl) (Nat.le_of_ble_eq_true rfl) (sq_out (s := 11) rfl rfl (fun _ _ => rfl)) (fun us w hl h => ld_num hl h)
      · exact q_loadInt (off := 0) hp (free_of rfl) trivial (List.mem_iff_getElem?.2 ⟨1, rfl⟩) (.inl rfl) (Nat.le_of_ble_eq_true rfl) (sq_out (s := 11) rfl rfl (fun _ _ => rfl)) (fun us w hl h => ld_num hl h)
      · exact q_call2 (F := (Fq.num (m : Int)).P) (G := (Fq.num (m : Int)).P) hp (free_of rfl) trivial (enq_Mul) (sq_in 1 rfl rfl (by simp) rfl (fun v w h => h)) (sq_in 2 rfl rfl (by simp) rfl (fun v w h => h)) (fun v v' w h h' => exK (MulV h h') B9.out (by omega))
      · exact q_call2 (F := (Fq.num r).P) (G := (Fq.num ((m : Int) * (m : Int))).P) hp (free_of rfl) trivial (enq_Mul) (sq_in 0 rfl rfl (by simp) rfl (fun v w h => h)) (sq_in 3 rfl rfl (by simp) rfl (fun v w h => h)) (fun v v' w h h' => exK (MulV h h') B10.out (by omega))
      · exact q_call1 (F := (Fq.is (.int .i64 2)).P) hp (free_of rfl) trivial (enq_Of) (sq_const (fun _ => rfl)) (fun v w h => (by subst h; exact OfK w (2) (by omega) (by omega)))
      · exact q_call2 (F := (Fq.num (r * ((m : Int) * (m : Int)))).P) (G := (Fq.num (2)).P) hp (free_of rfl) trivial (enq_Sub) (sq_in 4 rfl rfl (by simp) rfl (fun v w h => h)) (sq_in 5 rfl rfl (by simp) rfl (fun v w h => h)) (fun v v' w h h' => exK (SubV h h') B12.out (by omega))
      · exact q_storeOldInt hp (List.mem_iff_getElem?.2 ⟨0, rfl⟩) rfl rfl (sq_out (s := 12) rfl rfl (fun _ _ => rfl)) (sq_in 6 rfl rfl (by simp) rfl (fun v w h => intV_num h)) (fun _ _ => trivial) (newik_ne rfl)
      intro L vs w13 nb hL hC hn E13
      have E : Fr w [(bb, 2, Fq.num ((r * ((m : Int) * (m : Int))) - (2))), (ba, 2, Fq.num (m : Int)), (b7_1, 2, Fq.num P), (b5_6, 2, Fq.num s), (b5_7, 2, Fq.num rs), (b4, 2, Fq.num 0), (b3, 2, Fq.num (P / (4))), (b2, 2, Fq.num P), (b1, 2, Fq.num r)] w13 := E13
      rw [lay_all hL]
      simp only [putAll, dstOf, List.length_cons, List.length_nil, Nat.zero_add, Nat.reduceAdd, List.getElem?_toArray, List.getElem?_cons_zero, List.getElem?_cons_succ, Option.bind_some, Act.put, List.setIfInBounds_toArray, List.set_cons_succ, List.set_cons_zero]
      generalize vs 0 = u13_0
      generalize vs 1 = u13_1
      generalize vs 2 = u13_2
      generalize vs 3 = u13_3
      generalize vs 4 = u13_4
      generalize vs 5 = u13_5
      generalize vs 6 = u13_6
      clear  hC hn E13 hL vs L nb
      go_upto_region 10 with (fail)
      have B14 : Hid (ab ((((r * ((m : Int) * (m : Int))) - (2)) - (2))) < pw 11) := ab_subB B12.out B11.out (by omega) (by omega)
      refine region_fr (C := [Fq.num ((r * ((m : Int) * (m : Int))) - (2)), Fq.num (2), Fq.num (((r * ((m : Int) * (m : Int))) - (2)) - (2)), Fq.num P, Fq.is (.int .i64 1)]) (ks := [none, none, none, none, none, none, none, none, none]) (new := []) E rfl (by kernel_rfl) rfl rfl (fun hp => ⟨?_, ?_, ?_, ?_, ?_, trivial⟩) ?_
      · exact q_loadInt (off := 0) hp (free_of rfl) trivial (List.mem_iff_getElem?.2 ⟨0, rfl⟩) (.inl rfl) (Nat.le_of_ble_eq_true rfl) (sq_out (s := 12) rfl rfl (fun _ _ => rfl)) (fun us w hl h => ld_num hl h)
      · exact q_call1 (F := (Fq.is (.int .i64 2)).P) hp (free_of rfl) trivial (enq_Of) (sq_const (fun _ => rfl)) (fun v w h => (by subst h; exact OfK w (2) (by omega) (by omega)))
      · exact q_call2 (F := (Fq.num ((r * ((m : Int) * (m : Int))) - (2))).P) (G := (Fq.num (2)).P) hp (free_of rfl) trivial (enq_Sub) (sq_in 0 rfl rfl (by simp) rfl (fun v w h => h)) (sq_in 1 rfl rfl (by simp) rfl (fun v w h => h)) (fun v v' w h h' => exK (SubV h h') B14.out (by omega))
      · exact q_loadInt (off := 0) hp (free_of rfl) trivial (List.mem_iff_getElem?.2 ⟨7, rfl⟩) (.inl rfl) (Nat.le_of_ble_eq_true rfl) (sq_out (s := 4) rfl rfl (fun _ _ => rfl)) (fun us w hl h => ld_num hl h)
      · exact q_call2W (F := (Fq.num (((r * ((m : Int) * (m : Int))) - (2)) - (2))).P) (G := (Fq.num P).P) hp (free_of rfl) trivial (enq_M_Kronecker) rfl (sq_in 2 rfl rfl (by simp) rfl (fun v w h => h)) (sq_in 3 rfl rfl (by simp) rfl (fun v w h => h)) (fun v v' w hbw h h' => exKronR h h' (HT.out.mono hbw) (Int.lt_of_lt_of_le B14.out (pw_le (by omega))) (Int.lt_of_lt_of_le BP.out (pw_le (by omega))) K1.out)
      intro L vs w15 nb hL hC hn E15
      have e4 : vs 4 = .int .i64 1 := hC 4 (by simp)
      have E : Fr w [(bb, 2, Fq.num ((r * ((m : Int) * (m : Int))) - (2))), (ba, 2, Fq.num (m : Int)), (b7_1, 2, Fq.num P), (b5_6, 2, Fq.num s), (b5_7, 2, Fq.num rs), (b4, 2, Fq.num 0), (b3, 2, Fq.num (P / (4))), (b2, 2, Fq.num P), (b1, 2, Fq.num r)] w15 := E15
      rw [lay_all hL]
      simp only [putAll, dstOf, List.length_cons, List.length_nil, Nat.zero_add, Nat.reduceAdd, List.getElem?_toArray, List.getElem?_cons_zero, List.getElem?_cons_succ, Option.bind_some, Act.put, List.setIfInBounds_toArray, List.set_cons_succ, List.set_cons_zero]
      rw [e4]
      generalize vs 0 = u15_0
      generalize vs 1 = u15_1
      generalize vs 2 = u15_2
      generalize vs 3 = u15_3
      clear e4 hC hn E15 hL vs L nb
      clear K1
      go_upto_region 11 with (fail)
      refine region_fr (C := [Fq.is (.bool false), Fq.is (.bool false)]) (ks := [none, none, none, none, none, none, none, none, none]) (new := []) E rfl (by kernel_rfl) rfl rfl (fun hp => ⟨?_, ?_, trivial⟩) ?_
      · exact q_one (F := fun v _ => v = .int .i64 1) hp (free_of rfl) trivial (sq_out (s := 43) rfl rfl (fun _ _ => rfl)) (fun ρ w hc h => ⟨.bool false, by simp [execOp, go_sem, h, hc], rfl⟩)
      · exact q_assign hp (free_of rfl) trivial (sq_in 0 rfl rfl (by simp) rfl (fun v w h => h))
      intro L vs w16 nb hL hC hn E16
      have e0 : vs 0 = .bool false := hC 0 (by simp)
      have e1 : vs 1 = .bool false := hC 1 (by simp)
      have E : Fr w [(bb, 2, Fq.num ((r * ((m : Int) * (m : Int))) - (2))), (ba, 2, Fq.num (m : Int)), (b7_1, 2, Fq.num P), (b5_6, 2, Fq.num s), (b5_7, 2, Fq.num rs), (b4, 2, Fq.num 0), (b3, 2, Fq.num (P / (4))), (b2, 2, Fq.num P), (b1, 2, Fq.num r)] w16 := E16
      rw [lay_all hL]
      simp only [putAll, dstOf, List.length_cons, List.length_nil, Nat.zero_add, Nat.reduceAdd, List.getElem?_toArray, List.getElem?_cons_zero, List.getElem?_cons_succ, Option.bind_some, Act.put, List.setIfInBounds_toArray, List.set_cons_succ, List.set_cons_zero]
      rw [e0, e1]
      clear e0 e1 hC hn E16 hL vs L nb
      go_upto_region 12 with (fail)
      refine region_fr (C := [Fq.is (.bool false), Fq.is (.bool false)]) (ks := [none, none, none, none, none, none, none, none, none]) (new := []) E rfl (by kernel_rfl) rfl rfl (fun hp => ⟨?_, ?_, trivial⟩) ?_
      · exact q_one (F := fun v _ => v = .int .i64 1) hp (free_of rfl) trivial (sq_out (s := 43) rfl rfl (fun _ _ => rfl)) (fun ρ w hc h => ⟨.bool false, by simp [execOp, go_sem, h, hc], rfl⟩)
      · exact q_assign hp (free_of rfl) trivial (sq_in 0 rfl rfl (by simp) rfl (fun v w h => h))
      intro L vs w17 nb hL hC hn E17
      have e0 : vs 0 = .bool false := hC 0 (by simp)
      have e1 : vs 1 = .bool false := hC 1 (by simp)
      have E : Fr w [(bb, 2, Fq.num ((r * ((m : Int) * (m : Int))) - (2))), (ba, 2, Fq.num (m : Int)), (b7_1, 2, Fq.num P), (b5_6, 2, Fq.num s), (b5_7, 2, Fq.num rs), (b4, 2, Fq.num 0), (b3, 2, Fq.num (P / (4))), (b2, 2, Fq.num P), (b1, 2, Fq.num r)] w17 := E17
      rw [lay_all hL]
      simp only [putAll, dstOf, List.length_cons, List.length_nil, Nat.zero_add, Nat.reduceAdd, List.getElem?_toArray, List.getElem?_cons_zero, List.getElem?_cons_succ, Option.bind_some, Act.put, List.setIfInBounds_toArray, List.set_cons_succ, List.set_cons_zero]
      rw [e0, e1]
      clear e0 e1 hC hn E17 hL vs L nb
      go_wp2
      go_roundw
      case rel => exact ⟨m + 1, _, _, by rw [hw.out]; rfl, by omega, by have := RM.out; omega, E⟩
      case measure => rw [hw.out]; exact measT RM.out.2.1
    · obtain rfl : m = t := by omega
      have RM : Hid (1 ≤ m ∧ m ≤ 65537) := by have := RT.out; have := RP.out; have := EP.out; show _ ∧ _; omega
      have BM : Hid (ab (m : Int) < pw 3) := small3 (by have := RM.out; omega)
      have KT := kron_tri (((r * ((m : Int) * m)) - (2)) - (2)) P
      have hne := HE.out
      clear hm1 hmt hlt HK HE
      by_cases hk : kron (((r * ((m : Int) * m)) - (2)) - (2)) P = 0
      · have K1 := hidd hk
        have XE : Hid (((lucV ((r * ((m : Int) * (m : Int))) - (2)) P (0 : Int).natAbs) * (bezU (m : Int) P)) % P = X) := by show _ = _; rw [HX.out, ← EP.out, if_pos K1.out]
        clear hk hne KT HX
        go_upto_region 8 with (fail)
        refine region_fr (C := [Fq.is (.int .i64 (m : Int)), Fq.num (m : Int), Fq.any]) (ks := [none, some (2, Fq.num (m : Int)), none, none, none, none, none, none, none]) (new := []) E rfl (by kernel_rfl) rfl rfl (fun hp => ⟨?_, ?_, ?_, trivial⟩) ?_
        · exact q_move hp (free_of rfl) trivial (sq_out (s := 13) rfl rfl (fun _ _ => rfl))
        · exact q_call1 (F := (Fq.is (.int .i64 (m : Int))).P) hp (free_of rfl) trivial (enq_Of) (sq_in 0 rfl rfl (by simp) rfl (fun v w h => h)) (fun v w h => (by subst h; exact OfK w (m : Int) (by have := RM.out; omega) (by have := RM.out; omega)))
        · exact q_storeOldInt hp (List.mem_iff_getElem?.2 ⟨1, rfl⟩) rfl rfl (sq_out (s := 11) rfl rfl (fun _ _ => rfl)) (sq_in 1 rfl rfl (by simp) rfl (fun v w h => intV_num h)) (fun _ _ => trivial) (newik_ne rfl)
        intro L vs w18 nb hL hC hn E18
        have e0 : vs 0 = .int .i64 (m : Int) := hC 0 (by simp)
        have E : Fr w [(bb, 2, Fq.num y0), (ba, 2, Fq.num (m : Int)), (b7_1, 2, Fq.num P), (b5_6, 2, Fq.num s), (b5_7, 2, Fq.num rs), (b4, 2, Fq.num 0), (b3, 2, Fq.num (P / (4))), (b2, 2, Fq.num P), (b1, 2, Fq.num r)] w18 := E18
        rw [lay_all hL]
        simp only [putAll, dstOf, List.length_cons, List.length_nil, Nat.zero_add, Nat.reduceAdd, List.getElem?_toArray, List.getElem?_cons_zero, List.getElem?_cons_succ, Option.bind_some, Act.put, List.setIfInBounds_toArray, List.set_cons_succ, List.set_cons_zero]
        rw [e0]
        generalize vs 1 = u18_1
        clear e0 hC hn E18 hL vs L nb
        go_upto_region 9 with (fail)
        have B19 : Hid (ab (((m : Int) * (m : Int))) < pw 6) := ab_mulM BM.out BM.out (by omega)
        have B20 : Hid (ab ((r * ((m : Int) * (m : Int)))) < pw 9) := ab_mulM BR.out B19.out (by omega)
        have B21 : Hid (ab ((2)) < pw 3) := ab_lit (by decide)
        have B22 : Hid (ab (((r * ((m : Int) * (m : Int))) - (2))) < pw 10) := ab_subB B20.out B21.out (by omega) (by omega)
        refine region_fr (C := [Fq.num r, Fq.num (m : Int), Fq.num (m : Int), Fq.num ((m : Int) * (m : Int)), Fq.num (r * ((m : Int) * (m : Int))), Fq.num (2), Fq.num ((r * ((m : Int) * (m : Int))) - (2)), Fq.any]) (ks := [some (7, Fq.num ((r * ((m : Int) * (m : Int))) - (2))), none, none, none, none, none, none, none, none]) (new := []) E rfl (by kernel_rfl) rfl rfl (fun hp => ⟨?_, ?_, ?_, ?_, ?_, ?_, ?_, ?_, trivial⟩) ?_
        · exact q_loadInt (off := 0) hp (free_of rfl) trivial (List.mem_iff_getElem?.2 ⟨8, rfl⟩) (.inl rfl) (Nat.le_of_ble_eq_true rfl) (sq_out (s := 3) rfl rfl (fun _ _ => rfl)) (fun us w hl h => ld_num hl h)
        · exact q_loadInt (off := 0) hp (free_of rfl) trivial (List.mem_iff_getElem?.2 ⟨1, rfl⟩) (.inl rfl) (Nat.le_of_ble_eq_true rfl) (sq_out (s := 11) rfl rfl (fun _ _ => rfl)) (fun us w hl h => ld_num hl h)
        · exact q_loadInt (off := 0) hp (free_of rfl) trivial (List.mem_iff_getElem?.2 ⟨1, rfl⟩) (.inl rfl) (Nat.le_of_ble_eq_true rfl) (sq_out (s := 11) rfl rfl (fun _ _ => rfl)) (fun us w hl h => ld_num hl h)
        · exact q_call2 (F := (Fq.num (m : Int)).P) (G := (Fq.num (m : Int)).P) hp (free_of rfl) trivial (enq_Mul) (sq_in 1 rfl rfl (by simp) rfl (fun v w h => h)) (sq_in 2 rfl rfl (by simp) rfl (fun v w h => h)) (fun v v' w h h' => exK (MulV h h') B19.out (by omega))
        · exact q_call2 (F := (Fq.num r).P) (G := (Fq.num ((m : Int) * (m : Int))).P) hp (free_of rfl) trivial (enq_Mul) (sq_in 0 rfl rfl (by simp) rfl (fun v w h => h)) (sq_in 3 rfl rfl (by simp) rfl (fun v w h => h)) (fun v v' w h h' => exK (MulV h h') B20.out (by omega))
        · exact q_call1 (F := (Fq.is (.int .i64 2)).P) hp (free_of rfl) trivial (enq_Of) (sq_const (fun _ => rfl)) (fun v w h => (by subst h; exact OfK w (2) (by omega) (by omega)))
        · exact q_call2 (F := (Fq.num (r * ((m : Int) * (m : Int)))).P) (G := (Fq.num (2)).P) hp (free_of rfl) trivial (enq_Sub) (sq_in 4 rfl rfl (by simp) rfl (fun v w h => h)) (sq_in 5 rfl rfl (by simp) rfl (fun v w h => h)) (fun v v' w h h' => exK (SubV h h') B22.out (by omega))
        · exact q_storeOldInt hp (List.mem_iff_getElem?.2 ⟨0, rfl⟩) rfl rfl (sq_out (s := 12) rfl rfl (fun _ _ => rfl)) (sq_in 6 rfl rfl (by simp) rfl (fun v w h => intV_num h)) (fun _ _ => trivial) (newik_ne rfl)
        intro L vs w23 nb hL hC hn E23
        have E : Fr w [(bb, 2, Fq.num ((r * ((m : Int) * (m : Int))) - (2))), (ba, 2, Fq.num (m : Int)), (b7_1, 2, Fq.num P), (b5_6, 2, Fq.num s), (b5_7, 2, Fq.num rs), (b4, 2, Fq.num 0), (b3, 2, Fq.num (P / (4))), (b2, 2, Fq.num P), (b1, 2, Fq.num r)] w23 := E23
        rw [lay_all hL]
        simp only [putAll, dstOf, List.length_cons, List.length_nil, Nat.zero_add, Nat.reduceAdd, List.getElem?_toArray, List.getElem?_cons_zero, List.getElem?_cons_succ, Option.bind_some, Act.put, List.setIfInBounds_toArray, List.set_cons_succ, List.set_cons_zero]
        generalize vs 0 = u23_0
        generalize vs 1 = u23_1
        generalize vs 2 = u23_2
        generalize vs 3 = u23_3
        generalize vs 4 = u23_4
        generalize vs 5 = u23_5
        generalize vs 6 = u23_6
        clear  hC hn E23 hL vs L nb
        go_upto_region 10 with (fail)
        have B24 : Hid (ab ((((r * ((m : Int) * (m : Int))) - (2)) - (2))) < pw 11) := ab_subB B22.out B21.out (by omega) (by omega)
        refine region_fr (C := [Fq.num ((r * ((m : Int) * (m : Int))) - (2)), Fq.num (2), Fq.num (((r * ((m : Int) * (m : Int))) - (2)) - (2)), Fq.num P, Fq.is (.int .i64 0)]) (ks := [none, none, none, none, none, none, none, none, none]) (new := []) E rfl (by kernel_rfl) rfl rfl (fun hp => ⟨?_, ?_, ?_, ?_, ?_, trivial⟩) ?_
        · exact q_loadInt (off := 0) hp (free_of rfl) trivial (List.mem_iff_getElem?.2 ⟨0, rfl⟩) (.inl rfl) (Nat.le_of_ble_eq_true rfl) (sq_out (s := 12) rfl rfl (fun _ _ => rfl)) (fun us w hl h => ld_num hl h)
        · exact q_call1 (F := (Fq.is (.int .i64 2)).P) hp (free_of rfl) trivial (enq_Of) (sq_const (fun _ => rfl)) (fun v w h => (by subst h; exact OfK w (2) (by omega) (by omega)))
        · exact q_call2 (F := (Fq.num ((r * ((m : Int) * (m : Int))) - (2))).P) (G := (Fq.num (2)).P) hp (free_of rfl) trivial (enq_Sub) (sq_in 0 rfl rfl (by simp) rfl (fun v w h => h)) (sq_in 1 rfl rfl (by simp) rfl (fun v w h => h)) (fun v v' w h h' => exK (SubV h h') B24.out (by omega))
        · exact q_loadInt (off := 0) hp (free_of rfl) trivial (List.mem_iff_getElem?.2 ⟨7, rfl⟩) (.inl rfl) (Nat.le_of_ble_eq_true rfl) (sq_out (s := 4) rfl rfl (fun _ _ => rfl)) (fun us w hl h => ld_num hl h)
        · exact q_call2W (F := (Fq.num (((r * ((m : Int) * (m : Int))) - (2)) - (2))).P) (G := (Fq.num P).P) hp (free_of rfl) trivial (enq_M_Kronecker) rfl (sq_in 2 rfl rfl (by simp) rfl (fun v w h => h)) (sq_in 3 rfl rfl (by simp) rfl (fun v w h => h)) (fun v v' w hbw h h' => exKronR h h' (HT.out.mono hbw) (Int.lt_of_lt_of_le B24.out (pw_le (by omega))) (Int.lt_of_lt_of_le BP.out (pw_le (by omega))) K1.out)
        intro L vs w25 nb hL hC hn E25
        have e4 : vs 4 = .int .i64 0 := hC 4 (by simp)
        have E : Fr w [(bb, 2, Fq.num ((r * ((m : Int) * (m : Int))) - (2))), (ba, 2, Fq.num (m : Int)), (b7_1, 2, Fq.num P), (b5_6, 2, Fq.num s), (b5_7, 2, Fq.num rs), (b4, 2, Fq.num 0), (b3, 2, Fq.num (P / (4))), (b2, 2, Fq.num P), (b1, 2, Fq.num r)] w25 := E25
        rw [lay_all hL]
        simp only [putAll, dstOf, List.length_cons, List.length_nil, Nat.zero_add, Nat.reduceAdd, List.getElem?_toArray, List.getElem?_cons_zero, List.getElem?_cons_succ, Option.bind_some, Act.put, List.setIfInBounds_toArray, List.set_cons_succ, List.set_cons_zero]
        rw [e4]
        generalize vs 0 = u25_0
        generalize vs 1 = u25_1
        generalize vs 2 = u25_2
        generalize vs 3 = u25_3
        clear e4 hC hn E25 hL vs L nb
        clear K1
        go_upto_region 11 with (fail)
        refine region_fr (C := [Fq.is (.bool false), Fq.is (.bool false)]) (ks := [none, none, none, none, none, none, none, none, none]) (new := []) E rfl (by kernel_rfl) rfl rfl (fun hp => ⟨?_, ?_, trivial⟩) ?_
        · exact q_one (F := fun v _ => v = .int .i64 0) hp (free_of rfl) trivial (sq_out (s := 43) rfl rfl (fun _ _ => rfl)) (fun ρ w hc h => ⟨.bool false, by simp [execOp, go_sem, h, hc], rfl⟩)
        · exact q_assign hp (free_of rfl) trivial (sq_in 0 rfl rfl (by simp) rfl (fun v w h => h))
        intro L vs w26 nb hL hC hn E26
        have e0 : vs 0 = .bool false := hC 0 (by simp)
        have e1 : vs 1 = .bool false := hC 1 (by simp)
        have E : Fr w [(bb, 2, Fq.num ((r * ((m : Int) * (m : Int))) - (2))), (ba, 2, Fq.num (m : Int)), (b7_1, 2, Fq.num P), (b5_6, 2, Fq.num s), (b5_7, 2, Fq.num rs), (b4, 2, Fq.num 0), (b3, 2, Fq.num (P / (4))), (b2, 2, Fq.num P), (b1, 2, Fq.num r)] w26 := E26
        rw [lay_all hL]
        simp only [putAll, dstOf, List.length_cons, List.length_nil, Nat.zero_add, Nat.reduceAdd, List.getElem?_toArray, List.getElem?_cons_zero, List.getElem?_cons_succ, Option.bind_some, Act.put, List.setIfInBounds_toArray, List.set_cons_succ, List.set_cons_zero]
        rw [e0, e1]
        clear e0 e1 hC hn E26 hL vs L nb
        go_upto_region 12 with (fail)
        refine region_fr (C := [Fq.is (.bool true), Fq.is (.bool true)]) (ks := [none, none, none, none, none, none, none, none, none]) (new := []) E rfl (by kernel_rfl) rfl rfl (fun hp => ⟨?_, ?_, trivial⟩) ?_
        · exact q_one (F := fun v _ => v = .int .i64 0) hp (free_of rfl) trivial (sq_out (s := 43) rfl rfl (fun _ _ => rfl)) (fun ρ w hc h => ⟨.bool true, by simp [execOp, go_sem, h, hc], rfl⟩)
        · exact q_assign hp (free_of rfl) trivial (sq_in 0 rfl rfl (by simp) rfl (fun v w h => h))
        intro L vs w27 nb hL hC hn E27
        have e0 : vs 0 = .bool true := hC 0 (by simp)
        have e1 : vs 1 = .bool true := hC 1 (by simp)
        have E : Fr w [(bb, 2, Fq.num ((r * ((m : Int) * (m : Int))) - (2))), (ba, 2, Fq.num (m : Int)), (b7_1, 2, Fq.num P), (b5_6, 2, Fq.num s), (b5_7, 2, Fq.num rs), (b4, 2, Fq.num 0), (b3, 2, Fq.num (P / (4))), (b2, 2, Fq.num P), (b1, 2, Fq.num r)] w27 := E27
        rw [lay_all hL]
        simp only [putAll, dstOf, List.length_cons, List.length_nil, Nat.zero_add, Nat.reduceAdd, List.getElem?_toArray, List.getElem?_cons_zero, List.getElem?_cons_succ, Option.bind_some, Act.put, List.setIfInBounds_toArray, List.set_cons_succ, List.set_cons_zero]
        rw [e0, e1]
        clear e0 e1 hC hn E27 hL vs L nb
        go_upto_region 13 with (fail)
        refine region_fr (C := [Fq.num 0, Fq.any]) (ks := [none, none, none, none, none, none, some (1, Fq.num 0), none, none]) (new := []) E rfl (by kernel_rfl) rfl rfl (fun hp => ⟨?_, ?_, trivial⟩) ?_
        · exact q_zeroInt hp (free_of rfl) trivial (fun w => Num.zero w)
        · exact q_storeOldInt hp (List.mem_iff_getElem?.2 ⟨6, rfl⟩) rfl rfl (sq_out (s := 5) rfl rfl (fun _ _ => rfl)) (sq_in 0 rfl rfl (by simp) rfl (fun v w h => intV_num h)) (fun _ _ => trivial) (newik_ne rfl)
        intro L vs w28 nb hL hC hn E28
        have E : Fr w [(bb, 2, Fq.num ((r * ((m : Int) * (m : Int))) - (2))), (ba, 2, Fq.num (m : Int)), (b7_1, 2, Fq.num P), (b5_6, 2, Fq.num s), (b5_7, 2, Fq.num rs), (b4, 2, Fq.num 0), (b3, 2, Fq.num 0), (b2, 2, Fq.num P), (b1, 2, Fq.num r)] w28 := E28
        rw [lay_all hL]
        simp only [putAll, dstOf, List.length_cons, List.length_nil, Nat.zero_add, Nat.reduceAdd, List.getElem?_toArray, List.getElem?_cons_zero, List.getElem?_cons_succ, Option.bind_some, Act.put, List.setIfInBounds_toArray, List.set_cons_succ, List.set_cons_zero]
        generalize vs 0 = u28_0
        clear  hC hn E28 hL vs L nb
        have B29 : Hid (ab ((bezU (m : Int) P)) < pw 3) := bezU_ab PP.out BP.out
        go_upto_region 14 with (fail)
        refine region_fr (C := [Fq.num (m : Int), Fq.num P, Fq.tup2 (Fq.num (bezU (m : Int) P)) (Fq.is (.int .i64 0)), Fq.tup2 (Fq.num (bezU (m : Int) P)) (Fq.is (.int .i64 0)), Fq.num (bezU (m : Int) P), Fq.is (.int .i64 0), Fq.any, Fq.any, Fq.is (.int .i64 0)]) (ks := [none, none, none, none, none, none, none, none, none]) (new := [⟨6, 7, 2, Fq.num 0, Fq.num (bezU (m : Int) P), none⟩]) E rfl (by kernel_rfl) rfl rfl (fun hp => ⟨?_, ?_, ?_, ?_, ?_, ?_, ?_, ?_, ?_, trivial⟩) ?_
        · exact q_loadInt (off := 0) hp (free_of rfl) trivial (List.mem_iff_getElem?.2 ⟨1, rfl⟩) (.inl rfl) (Nat.le_of_ble_eq_true rfl) (sq_out (s := 11) rfl rfl (fun _ _ => rfl)) (fun us w hl h => ld_num hl h)
        · exact q_loadInt (off := 0) hp (free_of rfl) trivial (List.mem_iff_getElem?.2 ⟨7, rfl⟩) (.inl rfl) (Nat.le_of_ble_eq_true rfl) (sq_out (s := 4) rfl rfl (fun _ _ => rfl)) (fun us w hl h => ld_num hl h)
        · exact q_call2 (F := (Fq.num (m : Int)).P) (G := (Fq.num P).P) hp (free_of rfl) trivial (enq_M_Inv) (sq_in 0 rfl rfl (by simp) rfl (fun v w h => h)) (sq_in 1 rfl rfl (by simp) rfl (fun v w h => h)) (fun v v' w h h' => exInvP h h' (Int.lt_of_lt_of_le BM.out (pw_le (by omega))) (Int.lt_of_lt_of_le BP.out (pw_le (by omega))) PP.out HGC.out)
        · exact q_move hp (free_of rfl) trivial (sq_in 2 rfl rfl (by simp) rfl (fun v w h => h))
        · exact q_extract2 hp (free_of rfl) trivial (sq_in 3 rfl rfl (by simp) rfl (fun v w h => h)) (fun v1 v2 w h1 h2 => ⟨_, rfl, h1⟩)
        · exact q_extract2 hp (free_of rfl) trivial (sq_in 3 rfl rfl (by simp) rfl (fun v w h => h)) (fun v1 v2 w h1 h2 => ⟨_, rfl, h2⟩)
        · exact q_allocInt hp (List.mem_iff_getElem?.2 ⟨0, rfl⟩) rfl rfl rfl rfl (Nat.ne_of_beq_eq_false rfl) (fun _ _ => trivial) (old_ne rfl) (newk_ne rfl) (fun w => Num.zero w)
        · exact q_storeNewInt hp (List.mem_iff_getElem?.2 ⟨0, rfl⟩) rfl rfl rfl (own_ptr rfl rfl (by simp) rfl) (sq_in 4 rfl rfl (by simp) rfl (fun v w h => intV_num h)) (fun _ _ => trivial) (old_ne rfl) (newi_ne rfl)
        · exact q_assign hp (free_of rfl) trivial (sq_in 5 rfl rfl (by simp) rfl (fun v w h => h))
        intro L vs w30 nb hL hC hn E30
        have e5 : vs 5 = .int .i64 0 := hC 5 (by simp)
        have e8 : vs 8 = .int .i64 0 := hC 8 (by simp)
        have e6 : vs 6 = .pointer (some ⟨nb 6, 0, none⟩) := hn _ (List.mem_iff_getElem?.2 ⟨0, rfl⟩)
        have E : Fr w [(nb 6, 2, Fq.num (bezU (m : Int) P)), (bb, 2, Fq.num ((r * ((m : Int) * (m : Int))) - (2))), (ba, 2, Fq.num (m : Int)), (b7_1, 2, Fq.num P), (b5_6, 2, Fq.num s), (b5_7, 2, Fq.num rs), (b4, 2, Fq.num 0), (b3, 2, Fq.num 0), (b2, 2, Fq.num P), (b1, 2, Fq.num r)] w30 := E30
        rw [lay_all hL]
        simp only [putAll, dstOf, List.length_cons, List.length_nil, Nat.zero_add, Nat.reduceAdd, List.getElem?_toArray, List.getElem?_cons_zero, List.getElem?_cons_succ, Option.bind_some, Act.put, List.setIfInBounds_toArray, List.set_cons_succ, List.set_cons_zero]
        rw [e5, e8, e6]
        generalize nb 6 = b30_6 at E ⊢
        generalize vs 0 = u30_0
        generalize vs 1 = u30_1
        generalize vs 2 = u30_2
        generalize vs 3 = u30_3
        generalize vs 4 = u30_4
        clear e5 e8 e6 hC hn E30 hL vs L nb
        go_upto_region 15 with (fail)
        have B31 : Hid (ab ((lucV ((r * ((m : Int) * (m : Int))) - (2)) P (0 : Int).natAbs)) < pw 50) := lucV_ab PP.out (Int.lt_of_lt_of_le BP.out (pw_le (by omega)))
        have B32 : Hid (ab (((lucV ((r * ((m : Int) * (m : Int))) - (2)) P (0 : Int).natAbs) * (bezU (m : Int) P))) < pw 53) := ab_mulM B31.out B29.out (by omega)
        have B33 : Hid (ab ((((lucV ((r * ((m : Int) * (m : Int))) - (2)) P (0 : Int).natAbs) * (bezU (m : Int) P)) % P)) < pw 3) := ab_modB NP.out BP.out
        refine region_fr (C := [Fq.is (cloV 72 b7_1), Fq.num ((r * ((m : Int) * (m : Int))) - (2)), Fq.num 0, Fq.num P, Fq.num (lucV ((r * ((m : Int) * (m : Int))) - (2)) P (0 : Int).natAbs), Fq.num (bezU (m : Int) P), Fq.num ((lucV ((r * ((m : Int) * (m : Int))) - (2)) P (0 : Int).natAbs) * (bezU (m : Int) P)), Fq.num (((lucV ((r * ((m : Int) * (m : Int))) - (2)) P (0 : Int).natAbs) * (bezU (m : Int) P)) % P), Fq.any]) (ks := [none, none, none, none, none, none, some (8, Fq.num (((lucV ((r * ((m : Int) * (m : Int))) - (2)) P (0 : Int).natAbs) * (bezU (m : Int) P)) % P)), none, none, none]) (new := []) E rfl (by kernel_rfl) rfl rfl (fun hp => ⟨?_, ?_, ?_, ?_, ?_, ?_, ?_, ?_, ?_, trivial⟩) ?_
        · exact q_move hp (free_of rfl) trivial (sq_out (s := 10) rfl rfl (fun _ _ => rfl))
        · exact q_loadInt (off := 0) hp (free_of rfl) trivial (List.mem_iff_getElem?.2 ⟨1, rfl⟩) (.inl rfl) (Nat.le_of_ble_eq_true rfl) (sq_out (s := 12) rfl rfl (fun _ _ => rfl)) (fun us w hl h => ld_num hl h)
        · exact q_loadInt (off := 0) hp (free_of rfl) trivial (List.mem_iff_getElem?.2 ⟨7, rfl⟩) (.inl rfl) (Nat.le_of_ble_eq_true rfl) (sq_out (s := 5) rfl rfl (fun _ _ => rfl)) (fun us w hl h => ld_num hl h)
        · exact q_loadInt (off := 0) hp (free_of rfl) trivial (List.mem_iff_getElem?.2 ⟨8, rfl⟩) (.inl rfl) (Nat.le_of_ble_eq_true rfl) (sq_out (s := 4) rfl rfl (fun _ _ => rfl)) (fun us w hl h => ld_num hl h)
        · exact q_call3 (F := (Fq.num ((r * ((m : Int) * (m : Int))) - (2))).P) (G := (Fq.num 0).P) (F3 := (Fq.num P).P) hp (free_of rfl) trivial (enq_M_lucas) (sq_in 1 rfl rfl (by simp) rfl (fun v w h => h)) (sq_in 2 rfl rfl (by simp) rfl (fun v w h => h)) (sq_in 3 rfl rfl (by simp) rfl (fun v w h => h)) (fun v v' u w h h' g => exLucas h h' g (Int.lt_of_lt_of_le B22.out (pw_le (by omega))) (Int.lt_of_lt_of_le (ab_lit (c := 0) (by decide)) (pw_le (by omega))) (Int.lt_of_lt_of_le BP.out (pw_le (by omega))) PP.out)
        · exact q_loadInt (off := 0) hp (free_of rfl) trivial (List.mem_iff_getElem?.2 ⟨0, rfl⟩) (.inl rfl) (Nat.le_of_ble_eq_true rfl) (sq_out (s := 14) rfl rfl (fun _ _ => rfl)) (fun us w hl h => ld_num hl h)
        · exact q_call2 (F := (Fq.num (lucV ((r * ((m : Int) * (m : Int))) - (2)) P (0 : Int).natAbs)).P) (G := (Fq.num (bezU (m : Int) P)).P) hp (free_of rfl) trivial (enq_Mul) (sq_in 4 rfl rfl (by simp) rfl (fun v w h => h)) (sq_in 5 rfl rfl (by simp) rfl (fun v w h => h)) (fun v v' w h h' => exK (MulV h h') B32.out (by omega))
        · exact q_callCloOut (F := (Fq.num ((lucV ((r * ((m : Int) * (m : Int))) - (2)) P (0 : Int).natAbs) * (bezU (m : Int) P))).P) hp (free_of rfl) trivial enq_M_within1 (List.mem_iff_getElem?.2 ⟨3, rfl⟩) rfl (sq_in 0 rfl rfl (by simp) rfl (fun v w h => h)) (sq_in 6 rfl rfl (by simp) rfl (fun v w h => h)) (fun v w h hb => exResidue h hb NP.out (Int.lt_of_lt_of_le B32.out (pw_le (by omega))) (Int.lt_of_lt_of_le BP.out (pw_le (by omega))))
        · exact q_storeOldInt hp (List.mem_iff_getElem?.2 ⟨6, rfl⟩) rfl rfl (sq_out (s := 6) rfl rfl (fun _ _ => rfl)) (sq_in 7 rfl rfl (by simp) rfl (fun v w h => intV_num h)) (fun _ _ => trivial) (newik_ne rfl)
        intro L vs w34 nb hL hC hn E34
        have e0 : vs 0 = cloV 72 b7_1 := hC 0 (by simp)
        have E : Fr w [(b30_6, 2, Fq.num (bezU (m : Int) P)), (bb, 2, Fq.num ((r * ((m : Int) * (m : Int))) - (2))), (ba, 2, Fq.num (m : Int)), (b7_1, 2, Fq.num P), (b5_6, 2, Fq.num s), (b5_7, 2, Fq.num rs), (b4, 2, Fq.num (((lucV ((r * ((m : Int) * (m : Int))) - (2)) P (0 : Int).natAbs) * (bezU (m : Int) P)) % P)), (b3, 2, Fq.num 0), (b2, 2, Fq.num P), (b1, 2, Fq.num r)] w34 := E34
        rw [lay_all hL]
        simp only [putAll, dstOf, List.length_cons, List.length_nil, Nat.zero_add, Nat.reduceAdd, List.getElem?_toArray, List.getElem?_cons_zero, List.getElem?_cons_succ, Option.bind_some, Act.put, List.setIfInBounds_toArray, List.set_cons_succ, List.set_cons_zero]
        rw [e0]
        generalize vs 1 = u34_1
        generalize vs 2 = u34_2
        generalize vs 3 = u34_3
        generalize vs 4 = u34_4
        generalize vs 5 = u34_5
        generalize vs 6 = u34_6
        generalize vs 7 = u34_7
        clear e0 hC hn E34 hL vs L nb
        try clear NP
        try clear PP
        try clear HGC
        try clear HT
        try clear HPR
        try clear RR
        try clear RT
        try clear RP
        try clear RM
        try clear EP
        obtain ⟨p0, p1, c0, c1, hP⟩ := box_num (E.box 6 rfl)
        rw [XE.out] at hP
        clear XE
        clear B19 B20 B21 B22 B24 B29 B31 B32 B33 BP BR BQ BM
        go_wp2
        show Exit.noGoto _ _ _ _
        rw [Exit.noGoto_ret]
        refine bodyPost_ret (v := .agg #[p0, p1]) ?_ rfl ⟨_, rfl, E.below, hP⟩
        simp [results, Tryd.results87, go_sem, c0, c1]
      · have K1 : Hid (kron (((r * ((m : Int) * m)) - (2)) - (2)) P = -1) := by unfold Tri at KT; show _ = _; omega
        have XE : Hid (((lucV ((r * ((m : Int) * (m : Int))) - (2)) P (P / (4)).natAbs) * (bezU (m : Int) P)) % P = X) := by show _ = _; rw [HX.out, ← EP.out, if_neg (by rw [K1.out]; decide)]
        clear hk hne KT HX
        go_upto_region 8 with (fail)
        refine region_fr (C := [Fq.is (.int .i64 (m : Int)), Fq.num (m : Int), Fq.any]) (ks := [none, some (2, Fq.num (m : Int)), none, none, none, none, none, none, none]) (new := []) E rfl (by kernel_rfl) rfl rfl (fun hp => ⟨?_, ?_, ?_, trivial⟩) ?_
        · exact q_move hp (free_of rfl) trivial (sq_out (s := 13) rfl rfl (fun _ _ => rfl))
        · exact q_call1 (F := (Fq.is (.int .i64 (m : Int))).P) hp (free_of rfl) trivial (enq_Of) (sq_in 0 rfl rfl (by simp) rfl (fun v w h => h)) (fun v w h => (by subst h; exact OfK w (m : Int) (by have := RM.out; omega) (by have := RM.out; omega)))
        · exact q_storeOldInt hp (List.mem_iff_getElem?.2 ⟨1, rfl⟩) rfl rfl (sq_out (s := 11) rfl rfl (fun _ _ => rfl)) (sq_in 1 rfl rfl (by simp) rfl (fun v w h => intV_num h)) (fun _ _ => trivial) (newik_ne rfl)
        intro L vs w35 nb hL hC hn E35
        have e0 : vs 0 = .int .i64 (m : Int) := hC 0 (by simp)
        have E : Fr w [(bb, 2, Fq.num y0), (ba, 2, Fq.num (m : Int)), (b7_1, 2, Fq.num P), (b5_6, 2, Fq.num s), (b5_7, 2, Fq.num rs), (b4, 2, Fq.num 0), (b3, 2, Fq.num (P / (4))), (b2, 2, Fq.num P), (b1, 2, Fq.num r)] w35 := E35
        rw [lay_all hL]
        simp only [putAll, dstOf, List.length_cons, List.length_nil, Nat.zero_add, Nat.reduceAdd, List.getElem?_toArray, List.getElem?_cons_zero, List.getElem?_cons_succ, Option.bind_some, Act.put, List.setIfInBounds_toArray, List.set_cons_succ, List.set_cons_zero]
        rw [e0]
        generalize vs 1 = u35_1
        clear e0 hC hn E35 hL vs L nb
        go_upto_region 9 with (fail)
        have B36 : Hid (ab (((m : Int) * (m : Int))) < pw 6) := ab_mulM BM.out BM.out (by omega)
        have B37 : Hid (ab ((r * ((m : Int) * (m : Int)))) < pw 9) := ab_mulM BR.out B36.out (by omega)
        have B38 : Hid (ab ((2)) < pw 3) := ab_lit (by decide)
        have B39 : Hid (ab (((r * ((m : Int) * (m : Int))) - (2))) < pw 10) := ab_subB B37.out B38.out (by omega) (by omega)
        refine region_fr (C := [Fq.num r, Fq.num (m : Int), Fq.num (m : Int), Fq.num ((m : Int) * (m : Int)), Fq.num (r * ((m : Int) * (m : Int))), Fq.num (2), Fq.num ((r * ((m : Int) * (m : Int))) - (2)), Fq.any]) (ks := [some (7, Fq.num ((r * ((m : Int) * (m : Int))) - (2))), none, none, none, none, none, none, none, none]) (new := []) E rfl (by kernel_rfl) rfl rfl (fun hp => ⟨?_, ?_, ?_, ?_, ?_, ?_, ?_, ?_, trivial⟩) ?_
        · exact q_loadInt (off := 0) hp (free_of rfl) trivial (List.mem_iff_getElem?.2 ⟨8, rfl⟩) (.inl rfl) (Nat.le_of_ble_eq_true rfl) (sq_out (s := 3) rfl rfl (fun _ _ => rfl)) (fun us w hl h => ld_num hl h)
        · exact q_loadInt (off := 0) hp (free_of rfl) trivial (List.mem_iff_getElem?.2 ⟨1, rfl⟩) (.inl rfl) (Nat.le_of_ble_eq_true rfl) (sq_out (s := 11) rfl rfl (fun _ _ => rfl)) (fun us w hl h => ld_num hl h)
        · exact q_loadInt (off := 0) hp (free_of rfl) trivial (List.mem_iff_getElem?.2 ⟨1, rfl⟩) (.inl rfl) (Nat.le_of_ble_eq_true rfl) (sq_out (s := 11) rfl rfl (fun _ _ => rfl)) (fun us w hl h => ld_num hl h)
        · exact q_call2 (F := (Fq.num (m : Int)).P) (G := (Fq.num (m : Int)).P) hp (free_of rfl) trivial (enq_Mul) (sq_in 1 rfl rfl (by simp) rfl (fun v w h => h)) (sq_in 2 rfl rfl (by simp) rfl (fun v w h => h)) (fun v v' w h h' => exK (MulV h h') B36.out (by omega))
        · exact q_call2 (F := (Fq.num r).P) (G := (Fq.num ((m : Int) * (m : Int))).P) hp (free_of rfl) trivial (enq_Mul) (sq_in 0 rfl rfl (by simp) rfl (fun v w h => h)) (sq_in 3 rfl rfl (by simp) rfl (fun v w h => h)) (fun v v' w h h' => exK (MulV h h') B37.out (by omega))
        · exact q_call1 (F := (Fq.is (.int .i64 2)).P) hp (free_of rfl) trivial (enq_Of) (sq_const (fun _ => rfl)) (fun v w h => (by subst h; exact OfK w (2) (by omega) (by omega)))
        · exact q_call2 (F := (Fq.num (r * ((m : Int) * (m : Int)))).P) (G := (Fq.num (2)).P) hp (free_of rfl) trivial (enq_Sub) (sq_in 4 rfl rfl (by simp) rfl (fun v w h => h)) (sq_in 5 rfl rfl (by simp) rfl (fun v w h => h)) (fun v v' w h h' => exK (SubV h h') B39.out (by omega))
        · exact q_storeOldInt hp (List.mem_iff_getElem?.2 ⟨0, rfl⟩) rfl rfl (sq_out (s := 12) rfl rfl (fun _ _ => rfl)) (sq_in 6 rfl rfl (by simp) rfl (fun v w h => intV_num h)) (fun _ _ => trivial) (newik_ne rfl)
        intro L vs w40 nb hL hC hn E40
        have E : Fr w [(bb, 2, Fq.num ((r * ((m : Int) * (m : Int))) - (2))), (ba, 2, Fq.num (m : Int)), (b7_1, 2, Fq.num P), (b5_6, 2, Fq.num s), (b5_7, 2, Fq.num rs), (b4, 2, Fq.num 0), (b3, 2, Fq.num (P / (4))), (b2, 2, Fq.num P), (b1, 2, Fq.num r)] w40 := E40
        rw [lay_all hL]
        simp only [putAll, dstOf, List.length_cons, List.length_nil, Nat.zero_add, Nat.reduceAdd, List.getElem?_toArray, List.getElem?_cons_zero, List.getElem?_cons_succ, Option.bind_some, Act.put, List.setIfInBounds_toArray, List.set_cons_succ, List.set_cons_zero]
        generalize vs 0 = u40_0
        generalize vs 1 = u40_1
        generalize vs 2 = u40_2
        generalize vs 3 = u40_3
        generalize vs 4 = u40_4
        generalize vs 5 = u40_5
        generalize vs 6 = u40_6
        clear  hC hn E40 hL vs L nb
        go_upto_region 10 with (fail)
        have B41 : Hid (ab ((((r * ((m : Int) * (m : Int))) - (2)) - (2))) < pw 11) := ab_subB B39.out B38.out (by omega) (by omega)
        refine region_fr (C := [Fq.num ((r * ((m : Int) * (m : Int))) - (2)), Fq.num (2), Fq.num (((r * ((m : Int) * (m : Int))) - (2)) - (2)), Fq.num P, Fq.is (.int .i64 (-1))]) (ks := [none, none, none, none, none, none, none, none, none]) (new := []) E rfl (by kernel_rfl) rfl rfl (fun hp => ⟨?_, ?_, ?_, ?_, ?_, trivial⟩) ?_
        · exact q_loadInt (off := 0) hp (free_of rfl) trivial (List.mem_iff_getElem?.2 ⟨0, rfl⟩) (.inl rfl) (Nat.le_of_ble_eq_true rfl) (sq_out (s := 12) rfl rfl (fun _ _ => rfl)) (fun us w hl h => ld_num hl h)
        · exact q_call1 (F := (Fq.is (.int .i64 2)).P) hp (free_of rfl) trivial (enq_Of) (sq_const (fun _ => rfl)) (fun v w h => (by subst h; exact OfK w (2) (by omega) (by omega)))
        · exact q_call2 (F := (Fq.num ((r * ((m : Int) * (m : Int))) - (2))).P) (G := (Fq.num (2)).P) hp (free_of rfl) trivial (enq_Sub) (sq_in 0 rfl rfl (by simp) rfl (fun v w h => h)) (sq_in 1 rfl rfl (by simp) rfl (fun v w h => h)) (fun v v' w h h' => exK (SubV h h') B41.out (by omega))
        · exact q_loadInt (off := 0) hp (free_of rfl) trivial (List.mem_iff_getElem?.2 ⟨7, rfl⟩) (.inl rfl) (Nat.le_of_ble_eq_true rfl) (sq_out (s := 4) rfl rfl (fun _ _ => rfl)) (fun us w hl h => ld_num hl h)
        · exact q_call2W (F := (Fq.num (((r * ((m : Int) * (m : Int))) - (2)) - (2))).P) (G := (Fq.num P).P) hp (free_of rfl) trivial (enq_M_Kronecker) rfl (sq_in 2 rfl rfl (by simp) rfl (fun v w h => h)) (sq_in 3 rfl rfl (by simp) rfl (fun v w h => h)) (fun v v' w hbw h h' => exKronR h h' (HT.out.mono hbw) (Int.lt_of_lt_of_le B41.out (pw_le (by omega))) (Int.lt_of_lt_of_le BP.out (pw_le (by omega))) K1.out)
        intro L vs w42 nb hL hC hn E42
        have e4 : vs 4 = .int .i64 (-1) := hC 4 (by simp)
        have E : Fr w [(bb, 2, Fq.num ((r * ((m : Int) * (m : Int))) - (2))), (ba, 2, Fq.num (m : Int)), (b7_1, 2, Fq.num P), (b5_6, 2, Fq.num s), (b5_7, 2, Fq.num rs), (b4, 2, Fq.num 0), (b3, 2, Fq.num (P / (4))), (b2, 2, Fq.num P), (b1, 2, Fq.num r)] w42 := E42
        rw [lay_all hL]
        simp only [putAll, dstOf, List.length_cons, List.length_nil, Nat.zero_add, Nat.reduceAdd, List.getElem?_toArray, List.getElem?_cons_zero, List.getElem?_cons_succ, Option.bind_some, Act.put, List.setIfInBounds_toArray, List.set_cons_succ, List.set_cons_zero]
        rw [e4]
        generalize vs 0 = u42_0
        generalize vs 1 = u42_1
        generalize vs 2 = u42_2
        generalize vs 3 = u42_3
        clear e4 hC hn E42 hL vs L nb
        clear K1
        go_upto_region 11 with (fail)
        refine region_fr (C := [Fq.is (.bool true), Fq.is (.bool true)]) (ks := [none, none, none, none, none, none, none, none, none]) (new := []) E rfl (by kernel_rfl) rfl rfl (fun hp => ⟨?_, ?_, trivial⟩) ?_
        · exact q_one (F := fun v _ => v = .int .i64 (-1)) hp (free_of rfl) trivial (sq_out (s := 43) rfl rfl (fun _ _ => rfl)) (fun ρ w hc h => ⟨.bool true, by simp [execOp, go_sem, h, hc], rfl⟩)
        · exact q_assign hp (free_of rfl) trivial (sq_in 0 rfl rfl (by simp) rfl (fun v w h => h))
        intro L vs w43 nb hL hC hn E43
        have e0 : vs 0 = .bool true := hC 0 (by simp)
        have e1 : vs 1 = .bool true := hC 1 (by simp)
        have E : Fr w [(bb, 2, Fq.num ((r * ((m : Int) * (m : Int))) - (2))), (ba, 2, Fq.num (m : Int)), (b7_1, 2, Fq.num P), (b5_6, 2, Fq.num s), (b5_7, 2, Fq.num rs), (b4, 2, Fq.num 0), (b3, 2, Fq.num (P / (4))), (b2, 2, Fq.num P), (b1, 2, Fq.num r)] w43 := E43
        rw [lay_all hL]
        simp only [putAll, dstOf, List.length_cons, List.length_nil, Nat.zero_add, Nat.reduceAdd, List.getElem?_toArray, List.getElem?_cons_zero, List.getElem?_cons_succ, Option.bind_some, Act.put, List.setIfInBounds_toArray, List.set_cons_succ, List.set_cons_zero]
        rw [e0, e1]
        clear e0 e1 hC hn E43 hL vs L nb
        have B44 : Hid (ab ((bezU (m : Int) P)) < pw 3) := bezU_ab PP.out BP.out
        go_upto_region 14 with (fail)
        refine region_fr (C := [Fq.num (m : Int), Fq.num P, Fq.tup2 (Fq.num (bezU (m : Int) P)) (Fq.is (.int .i64 0)), Fq.tup2 (Fq.num (bezU (m : Int) P)) (Fq.is (.int .i64 0)), Fq.num (bezU (m : Int) P), Fq.is (.int .i64 0), Fq.any, Fq.any, Fq.is (.int .i64 0)]) (ks := [none, none, none, none, none, none, none, none, none]) (new := [⟨6, 7, 2, Fq.num 0, Fq.num (bezU (m : Int) P), none⟩]) E rfl (by kernel_rfl) rfl rfl (fun hp => ⟨?_, ?_, ?_, ?_, ?_, ?_, ?_, ?_, ?_, trivial⟩) ?_
        · exact q_loadInt (off := 0) hp (free_of rfl) trivial (List.mem_iff_getElem?.2 ⟨1, rfl⟩) (.inl rfl) (Nat.le_of_ble_eq_true rfl) (sq_out (s := 11) rfl rfl (fun _ _ => rfl)) (fun us w hl h => ld_num hl h)
        · exact q_loadInt (off := 0) hp (free_of rfl) trivial (List.mem_iff_getElem?.2 ⟨7, rfl⟩) (.inl rfl) (Nat.le_of_ble_eq_true rfl) (sq_out (s := 4) rfl rfl (fun _ _ => rfl)) (fun us w hl h => ld_num hl h)
        · exact q_call2 (F := (Fq.num (m : Int)).P) (G := (Fq.num P).P) hp (free_of rfl) trivial (enq_M_Inv) (sq_in 0 rfl rfl (by simp) rfl (fun v w h => h)) (sq_in 1 rfl rfl (by simp) rfl (fun v w h => h)) (fun v v' w h h' => exInvP h h' (Int.lt_of_lt_of_le BM.out (pw_le (by omega))) (Int.lt_of_lt_of_le BP.out (pw_le (by omega))) PP.out HGC.out)
        · exact q_move hp (free_of rfl) trivial (sq_in 2 rfl rfl (by simp) rfl (fun v w h => h))
        · exact q_extract2 hp (free_of rfl) trivial (sq_in 3 rfl rfl (by simp) rfl (fun v w h => h)) (fun v1 v2 w h1 h2 => ⟨_, rfl, h1⟩)
        · exact q_extract2 hp (free_of rfl) trivial (sq_in 3 rfl rfl (by simp) rfl (fun v w h => h)) (fun v1 v2 w h1 h2 => ⟨_, rfl, h2⟩)
        · exact q_allocInt hp (List.mem_iff_getElem?.2 ⟨0, rfl⟩) rfl rfl rfl rfl (Nat.ne_of_beq_eq_false rfl) (fun _ _ => trivial) (old_ne rfl) (newk_ne rfl) (fun w => Num.zero w)
        · exact q_storeNewInt hp (List.mem_iff_getElem?.2 ⟨0, rfl⟩) rfl rfl rfl (own_ptr rfl rfl (by simp) rfl) (sq_in 4 rfl rfl (by simp) rfl (fun v w h => intV_num h)) (fun _ _ => trivial) (old_ne rfl) (newi_ne rfl)
        · exact q_assign hp (free_of rfl) trivial (sq_in 5 rfl rfl (by simp) rfl (fun v w h => h))
        intro L vs w45 nb hL hC hn E45
        have e5 : vs 5 = .int .i64 0 := hC 5 (by simp)
        have e8 : vs 8 = .int .i64 0 := hC 8 (by simp)
        have e6 : vs 6 = .pointer (some ⟨nb 6, 0, none⟩) := hn _ (List.mem_iff_getElem?.2 ⟨0, rfl⟩)
        have E : Fr w [(nb 6, 2, Fq.num (bezU (m : Int) P)), (bb, 2, Fq.num ((r * ((m : Int) * (m : Int))) - (2))), (ba, 2, Fq.num (m : Int)), (b7_1, 2, Fq.num P), (b5_6, 2, Fq.num s), (b5_7, 2, Fq.num rs), (b4, 2, Fq.num 0), (b3, 2, Fq.num (P / (4))), (b2, 2, Fq.num P), (b1, 2, Fq.num r)] w45 := E45
        rw [lay_all hL]
        simp only [putAll, dstOf, List.length_cons, List.length_nil, Nat.zero_add, Nat.reduceAdd, List.getElem?_toArray, List.getElem?_cons_zero, List.getElem?_cons_succ, Option.bind_some, Act.put, List.setIfInBounds_toArray, List.set_cons_succ, List.set_cons_zero]
        rw [e5, e8, e6]
        generalize nb 6 = b45_6 at E ⊢
        generalize vs 0 = u45_0
        generalize vs 1 = u45_1
        generalize vs 2 = u45_2
        generalize vs 3 = u45_3
        generalize vs 4 = u45_4
        clear e5 e8 e6 hC hn E45 hL vs L nb
        go_upto_region 15 with (fail)
        have B46 : Hid (ab ((lucV ((r * ((m : Int) * (m : Int))) - (2)) P ((P / (4))).natAbs)) < pw 50) := lucV_ab PP.out (Int.lt_of_lt_of_le BP.out (pw_le (by omega)))
        have B47 : Hid (ab (((lucV ((r * ((m : Int) * (m : Int))) - (2)) P ((P / (4))).natAbs) * (bezU (m : Int) P))) < pw 53) := ab_mulM B46.out B44.out (by omega)
        have B48 : Hid (ab ((((lucV ((r * ((m : Int) * (m : Int))) - (2)) P ((P / (4))).natAbs) * (bezU (m : Int) P)) % P)) < pw 3) := ab_modB NP.out BP.out
        refine region_fr (C := [Fq.is (cloV 72 b7_1), Fq.num ((r * ((m : Int) * (m : Int))) - (2)), Fq.num (P / (4)), Fq.num P, Fq.num (lucV ((r * ((m : Int) * (m : Int))) - (2)) P ((P / (4))).natAbs), Fq.num (bezU (m : Int) P), Fq.num ((lucV ((r * ((m : Int) * (m : Int))) - (2)) P ((P / (4))).natAbs) * (bezU (m : Int) P)), Fq.num (((lucV ((r * ((m : Int) * (m : Int))) - (2)) P ((P / (4))).natAbs) * (bezU (m : Int) P)) % P), Fq.any]) (ks := [none, none, none, none, none, none, some (8, Fq.num (((lucV ((r * ((m : Int) * (m : Int))) - (2)) P ((P / (4))).natAbs) * (bezU (m : Int) P)) % P)), none, none, none]) (new := []) E rfl (by kernel_rfl) rfl rfl (fun hp => ⟨?_, ?_, ?_, ?_, ?_, ?_, ?_, ?_, ?_, trivial⟩) ?_
        · exact q_move hp (free_of rfl) trivial (sq_out (s := 10) rfl rfl (fun _ _ => rfl))
        · exact q_loadInt (off := 0) hp (free_of rfl) trivial (List.mem_iff_getElem?.2 ⟨1, rfl⟩) (.inl rfl) (Nat.le_of_ble_eq_true rfl) (sq_out (s := 12) rfl rfl (fun _ _ => rfl)) (fun us w hl h => ld_num hl h)
        · exact q_loadInt (off := 0) hp (free_of rfl) trivial (List.mem_iff_getElem?.2 ⟨7, rfl⟩) (.inl rfl) (Nat.le_of_ble_eq_true rfl) (sq_out (s := 5) rfl rfl (fun _ _ => rfl)) (fun us w hl h => ld_num hl h)
        · exact q_loadInt (off := 0) hp (free_of rfl) trivial (List.mem_iff_getElem?.2 ⟨8, rfl⟩) (.inl rfl) (Nat.le_of_ble_eq_true rfl) (sq_out (s := 4) rfl rfl (fun _ _ => rfl)) (fun us w hl h => ld_num hl h)
        · exact q_call3 (F := (Fq.num ((r * ((m : Int) * (m : Int))) - (2))).P) (G := (Fq.num (P / (4))).P) (F3 := (Fq.num P).P) hp (free_of rfl) trivial (enq_M_lucas) (sq_in 1 rfl rfl (by simp) rfl (fun v w h => h)) (sq_in 2 rfl rfl (by simp) rfl (fun v w h => h)) (sq_in 3 rfl rfl (by simp) rfl (fun v w h => h)) (fun v v' u w h h' g => exLucas h h' g (Int.lt_of_lt_of_le B39.out (pw_le (by omega))) (Int.lt_of_lt_of_le BQ.out (pw_le (by omega))) (Int.lt_of_lt_of_le BP.out (pw_le (by omega))) PP.out)
        · exact q_loadInt (off := 0) hp (free_of rfl) trivial (List.mem_iff_getElem?.2 ⟨0, rfl⟩) (.inl rfl) (Nat.le_of_ble_eq_true rfl) (sq_out (s := 14) rfl rfl (fun _ _ => rfl)) (fun us w hl h => ld_num hl h)
        · exact q_call2 (F := (Fq.num (lucV ((r * ((m : Int) * (m : Int))) - (2)) P ((P / (4))).natAbs)).P) (G := (Fq.num (bezU (m : Int) P)).P) hp (free_of rfl) trivial (enq_Mul) (sq_in 4 rfl rfl (by simp) rfl (fun v w h => h)) (sq_in 5 rfl rfl (by simp) rfl (fun v w h => h)) (fun v v' w h h' => exK (MulV h h') B47.out (by omega))
        · exact q_callCloOut (F := (Fq.num ((lucV ((r * ((m : Int) * (m : Int))) - (2)) P ((P / (4))).natAbs) * (bezU (m : Int) P))).P) hp (free_of rfl) trivial enq_M_within1 (List.mem_iff_getElem?.2 ⟨3, rfl⟩) rfl (sq_in 0 rfl rfl (by simp) rfl (fun v w h => h)) (sq_in 6 rfl rfl (by simp) rfl (fun v w h => h)) (fun v w h hb => exResidue h hb NP.out (Int.lt_of_lt_of_le B47.out (pw_le (by omega))) (Int.lt_of_lt_of_le BP.out (pw_le (by omega))))
        · exact q_storeOldInt hp (List.mem_iff_getElem?.2 ⟨6, rfl⟩) rfl rfl (sq_out (s := 6) rfl rfl (fun _ _ => rfl)) (sq_in 7 rfl rfl (by simp) rfl (fun v w h => intV_num h)) (fun _ _ => trivial) (newik_ne rfl)
        intro L vs w49 nb hL hC hn E49
        have e0 : vs 0 = cloV 72 b7_1 := hC 0 (by simp)
        have E : Fr w [(b45_6, 2, Fq.num (bezU (m : Int) P)), (bb, 2, Fq.num ((r * ((m : Int) * (m : Int))) - (2))), (ba, 2, Fq.num (m : Int)), (b7_1, 2, Fq.num P), (b5_6, 2, Fq.num s), (b5_7, 2, Fq.num rs), (b4, 2, Fq.num (((lucV ((r * ((m : Int) * (m : Int))) - (2)) P ((P / (4))).natAbs) * (bezU (m : Int) P)) % P)), (b3, 2, Fq.num (P / (4))), (b2, 2, Fq.num P), (b1, 2, Fq.num r)] w49 := E49
        rw [lay_all hL]
        simp only [putAll, dstOf, List.length_cons, List.length_nil, Nat.zero_add, Nat.reduceAdd, List.getElem?_toArray, List.getElem?_cons_zero, List.getElem?_cons_succ, Option.bind_some, Act.put, List.setIfInBounds_toArray, List.set_cons_succ, List.set_cons_zero]
        rw [e0]
        generalize vs 1 = u49_1
        generalize vs 2 = u49_2
        generalize vs 3 = u49_3
        generalize vs 4 = u49_4
        generalize vs 5 = u49_5
        generalize vs 6 = u49_6
        generalize vs 7 = u49_7
        clear e0 hC hn E49 hL vs L nb
        try clear NP
        try clear PP
        try clear HGC
        try clear HT
        try clear HPR
        try clear RR
        try clear RT
        try clear RP
        try clear RM
        try clear EP
        obtain ⟨p0, p1, c0, c1, hP⟩ := box_num (E.box 6 rfl)
        rw [XE.out] at hP
        clear XE
        clear B36 B37 B38 B39 B41 B44 B46 B47 B48 BP BR BQ BM
        go_wp2
        show Exit.noGoto _ _ _ _
        rw [Exit.noGoto_ret]
        refine bodyPost_ret (v := .agg #[p0, p1]) ?_ rfl ⟨_, rfl, E.below, hP⟩
        simp [results, Tryd.results87, go_sem, c0, c1]

/-- The root that the function finds. -/
theorem lucasRoot_ex {p : Nat} (hp : Pr p) (h4 : p % 4 = 1) (hb : p ≤ 65537) {r : Int} (hr : 0 ≤ r ∧ r < p) (hk : J r p = 1) :
    ∃ x : Int, 0 ≤ x ∧ x < p ∧ (x * x) % p = r % p ∧ ∀ (w : World) (v v' u : Value), Num w v r → Num w v' p → Num w u ((p : Int) / (4)) → Tabs w →
      Calls Tryd.prog 87 #[v, v', u] w fun e w' => ∃ v', e = .returned v' ∧ Below w.heap.size w w' ∧ Num w' v' x := by
  obtain ⟨t, t1, t2, t3, t4⟩ := first_t hp h4 hk
  have h3 := hp.1
  have hpp : (0 : Int) < p := by omega
  refine ⟨_, Int.emod_nonneg _ (by omega), Int.emod_lt_of_pos _ hpp, ?_, fun w v v' u g1 g2 g3 hT => exLucasRoot g1 g2 g3 hT hp h4 ⟨hr.1, hr.2, hb⟩ ⟨t1, t2⟩ t3 t4⟩
  have hg : Int.gcd (t : Int) p = 1 := hp.cop (fun e => by have := small_mod e (by omega) (by omega); omega)
  have hi := bez_inv hpp hg
  obtain ⟨x, hx⟩ := Int.eq_ofNat_of_zero_le (bez_spec (a := (t : Int)) hpp).1
  rw [hx] at hi ⊢
  have hkr := kron_pr (p := p) (by omega) ((r * ((t : Int) * t)) - (2) - (2))
  have ht := kron_tri ((r * ((t : Int) * t)) - (2) - (2)) p
  rw [← Int.mul_emod]
  by_cases h0 : kron ((r * ((t : Int) * t)) - (2) - (2)) p = 0
  · rw [if_pos h0]
    exact lucas_root (q := 0) hp h4 hk t1 t2 rfl hi (lucV_mod _ _ _) (.inr ⟨by rw [← hkr]; exact h0, rfl⟩)
  · rw [if_neg h0]
    refine lucas_root (q := p / 4) hp h4 hk t1 t2 rfl hi (by rw [show (((p : Int) / (4)).natAbs) = p / 4 by omega]; exact lucV_mod _ _ _) (.inl ⟨?_, rfl⟩)
    rw [← hkr]
    rw [← hkr] at t3
    unfold Tri at ht
    omega

end Go.Proofs.YtieobgadihcgeaaDoor
