/- Ot, Ou, Ov, Ng, Nf, Ow, Ox. -/
import Derived.Test.YtpkeeacdkkmknaaBo4
import Derived.Recover
import Derived.Laws.Pointers
/- Walk: package point: multiples. -/
namespace Go.Proofs.Ytpkeeacdkkmknaa
open Go Go.RowKit

theorem lay_defers {ops : Array Oper} {L : Nat → Bool} {vs : Nat → Value} : ∀ (k : Nat) (a : Act), (lay ops L vs k a).defers = a.defers
  | 0, _ => rfl
  | k + 1, a => by
    unfold lay
    split
    · have : ((lay ops L vs k a).put (dstOf ops k) (vs k)).defers = (lay ops L vs k a).defers := by
        unfold Act.put
        split <;> rfl
      rw [this, lay_defers k a]
    · exact lay_defers k a
section
variable {os : List Oper} {Q : Exit → Act → World → Prop} {a : Act} {p : Pq} {B B0 : Nat} {w0 : World}
variable {i s : Nat} {d : Option Tmp} {ty : TypeId} {ps : String} {af : Array Edge}
/-- A call that panics. -/
theorem stq_panic {f : FuncId} {xs : Array Operand} {ts : Array TypeId} {T : World → List PanicEntry → World → Prop} (hen : ∀ args w, (callFunc f args).run Try.prog w = .ok (.enter f args) w)
    (hr : ∀ L vs w, p.G B B0 w0 L vs w → (∀ e ∈ af, Region.binds .any e = true → L e.on = true) → ∃ args, xs.map (lay os.toArray L vs os.toArray.size a).eval = args ∧ Calls Try.prog f args w fun e w' => ∃ ch, e = .panicked ch ∧ Below w.heap.size w w' ∧ T w ch w')
    (hQ : ∀ L vs w ch w' A, p.G B B0 w0 L vs w → Below w.heap.size w w' → T w ch w' → A.defers = a.defers → A.tmps.size = a.tmps.size → (∀ s, (os.map (·.dst)).contains (some s) = false → A.eval (.tmp s) = a.eval (.tmp s)) → Q (.panic ch) A w') :
    StepQ os Q a p B B0 w0 i { dst := d, op := .call { callee := .value (.func f), args := xs, argTypes := ts }, type := ty, pos := ps, after := af, guard := none } := by
  intro hio L vs w hG hL hd hc
  refine wpOp_step hio fun K' hK => ?_
  obtain ⟨args, hx, hC⟩ := hr L vs w hG hd
  rw [if_pos (wanted_of (o := { dst := d, op := .call { callee := .value (.func f), args := xs, argTypes := ts }, type := ty, pos := ps, after := af, guard := none }) trivial hG hd)]
  have e : (execOp (lay os.toArray L vs os.toArray.size a).eval ({ dst := d, op := .call { callee := .value (.func f), args := xs, argTypes := ts }, type := ty, pos := ps, after := af, guard := none } : Oper)).run Try.prog w = (.ok (.enter f args) w) := by
    have hf : (lay os.toArray L vs os.toArray.size a).eval (.func f) = .func (.func f) #[] #[] := rfl
    generalize (lay os.toArray L vs os.toArray.size a).eval = ρ at hx hf
    simp [execOp, go_sem, hx, hf, hen]
  unfold Oper.wp
  rw [e]
  refine hC.mono ?_
  rintro e' w' ⟨ch, rfl, hb, hT⟩
  exact hQ L vs w ch w' _ hG hb hT (lay_defers _ _) (lay_size _ _) fun s hs => lay_out hs _
theorem q_callP2 {x y : Operand} {F G : Value → World → Prop} {f : FuncId} {ts : Array TypeId} {T : World → List PanicEntry → World → Prop} (_hp : p.Ok B B0) (_hF : p.Free i) (hen : ∀ args w, (callFunc f args).run Try.prog w = .ok (.enter f args) w)
    (hx : SrcQ os a p B B0 w0 af x F) (hy : SrcQ os a p B B0 w0 af y G) (hC : ∀ v v' w, F v w → G v' w → Calls Try.prog f #[v, v'] w fun e w' => ∃ ch, e = .panicked ch ∧ Below w.heap.size w w' ∧ T w ch w')
    (hQ : ∀ L vs w ch w' A, p.G B B0 w0 L vs w → Below w.heap.size w w' → T w ch w' → A.defers = a.defers → A.tmps.size = a.tmps.size → (∀ s, (os.map (·.dst)).contains (some s) = false → A.eval (.tmp s) = a.eval (.tmp s)) → Q (.panic ch) A w') :
    StepQ os Q a p B B0 w0 i { dst := d, op := .call { callee := .value (.func f), args := #[x, y], argTypes := ts }, type := ty, pos := ps, after := af, guard := none } :=
  stq_panic hen (fun L vs w hG hd => ⟨#[_, _], by simp, hC _ _ _ (hx L vs w hG hd) (hy L vs w hG hd)⟩) hQ
theorem q_callP3 {x y z : Operand} {F G F3 : Value → World → Prop} {f : FuncId} {ts : Array TypeId} {T : World → List PanicEntry → World → Prop} (_hp : p.Ok B B0) (_hF : p.Free i) (hen : ∀ args w, (callFunc f args).run Try.prog w = .ok (.enter f args) w)
    (hx : SrcQ os a p B B0 w0 af x F) (hy : SrcQ os a p B B0 w0 af y G) (hz : SrcQ os a p B B0 w0 af z F3) (hC : ∀ v v' u w, F v w → G v' w → F3 u w → Calls Try.prog f #[v, v', u] w fun e w' => ∃ ch, e = .panicked ch ∧ Below w.heap.size w w' ∧ T w ch w')
    (hQ : ∀ L vs w ch w' A, p.G B B0 w0 L vs w → Below w.heap.size w w' → T w ch w' → A.defers = a.defers → A.tmps.size = a.tmps.size → (∀ s, (os.map (·.dst)).contains (some s) = false → A.eval (.tmp s) = a.eval (.tmp s)) → Q (.panic ch) A w') :
    StepQ os Q a p B B0 w0 i { dst := d, op := .call { callee := .value (.func f), args := #[x, y, z], argTypes := ts }, type := ty, pos := ps, after := af, guard := none } :=
  stq_panic hen (fun L vs w hG hd => ⟨#[_, _, _], by simp, hC _ _ _ _ (hx L vs w hG hd) (hy L vs w hG hd) (hz L vs w hG hd)⟩) hQ
end
/-- The panic of a number. -/
def PanN (d : Int) (_w : World) (ch : List PanicEntry) (w' : World) : Prop := ∃ v, ch = [{ v := .iface 29 v, recovered := false }] ∧ Num w' v d
/-- One more binary digit of a multiple: the point, or the divisor. -/
noncomputable def stepP (A M : Int) (P : Pt) (R : Pt × Int) (b : Bool) : Pt × Int := if R.2 = 0 then (if (sumP A M R.1 R.1).2 = 0 then (if b then sumP A M (sumP A M R.1 R.1).1 P else sumP A M R.1 R.1) else sumP A M R.1 R.1) else R
/-- The multiple by a number of so many binary digits. -/
noncomputable def mulP (A M : Int) (P : Pt) : Nat → Nat → Pt × Int
  | 0, _ => (⟨0, 0, true⟩, 0)
  | k + 1, m => stepP A M P (mulP A M P k (m / 2)) (decide (m % 2 = 1))
/-- What is reached when the digits from the j-th on are used. -/
noncomputable def xjP (A M : Int) (P : Pt) (N L j : Nat) : Pt × Int := mulP A M P (L - j) (N / 2 ^ j)
theorem xj_step {A M : Int} {P : Pt} {N L j : Nat} (h : j < L) : xjP A M P N L j = stepP A M P (xjP A M P N L (j + 1)) (decide (N / 2 ^ j % 2 = 1)) := by
  unfold xjP
  rw [show L - j = L - (j + 1) + 1 by omega, mulP, Nat.div_div_eq_div_mul, ← Nat.pow_succ]
theorem xj_bad {A M : Int} {P : Pt} {N L : Nat} : ∀ {j : Nat}, j ≤ L → ¬ (xjP A M P N L j).2 = 0 → xjP A M P N L 0 = xjP A M P N L j
  | 0, _, _ => rfl
  | j + 1, h, hd => by
    have h1 : xjP A M P N L j = xjP A M P N L (j + 1) := by rw [xj_step (by omega), stepP, if_neg hd]
    rw [← h1]
    exact xj_bad (by omega) (by rw [h1]; exact hd)
theorem sumP_ok {A M : Int} {P Q : Pt} (hP : P.Ok M) (hQ : Q.Ok M) : (sumP A M P Q).1.Ok M := by
  have h0 : 0 < M := by have := hP.1; have := hP.2.1; omega
  have hz : (⟨0, 0, true⟩ : Pt).Ok M := ⟨by show (0 : Int) ≤ 0; omega, h0, by show (0 : Int) ≤ 0; omega, h0⟩
  unfold sumP
  split
  · exact hQ
  · split
    · exact hP
    · unfold finP
      split
      · exact hz
      · split
        · exact ⟨Int.emod_nonneg _ (by omega), Int.emod_lt_of_pos _ h0, Int.emod_nonneg _ (by omega), Int.emod_lt_of_pos _ h0⟩
        · exact hz
theorem stepP_ok {A M : Int} {P : Pt} {R : Pt × Int} {b : Bool} (hP : P.Ok M) (hR : R.1.Ok M) : (stepP A M P R b).1.Ok M := by
  unfold stepP
  split
  · split
    · split
      · exact sumP_ok (sumP_ok hR hR) hP
      · exact sumP_ok hR hR
    · exact sumP_ok hR hR
  · exact hR
theorem xj_ok {A M : Int} {P : Pt} {N L : Nat} (hP : P.Ok M) (j : Nat) : (xjP A M P N L j).1.Ok M := by
  unfold xjP
  generalize L - j = k
  generalize N / 2 ^ j = m
  have h0 : 0 < M := by have := hP.1; have := hP.2.1; omega
  induction k generalizing m with
  | zero => exact ⟨by show (0 : Int) ≤ 0; omega, h0, by show (0 : Int) ≤ 0; omega, h0⟩
  | succ k ih => exact stepP_ok hP (ih _)
set_option maxRecDepth 100000 in
set_option maxHeartbeats 4000000 in
theorem exMultiple {w : World} {v v' u : Value} {A B M n : Int} {P : Pt} {T : Pt × Int} (h : (Fq.st [.n A, .n B, .n M]).P v w) (h' : Num w v' n) (g : (Fq.pt P).P u w) (hM : ab M < pw 5) (hA : ab A < pw 5) (hn : ab n < pw 20) (hP : P.Ok M) (ht : xjP A M P n.natAbs (nbits n) 0 = T) :
    Calls Try.prog 66 #[v, v', u] w fun e w' => Below w.heap.size w w' ∧ ((T.2 = 0 ∧ ∃ v', e = .returned v' ∧ (Fq.pt T.1).P v' w') ∨ (¬ T.2 = 0 ∧ ∃ v', e = .panicked [{ v := .iface 29 v', recovered := false }] ∧ Num w' v' T.2)) := by
  replace hM := hidd hM
  replace hA := hidd hA
  obtain ⟨m1, d1, j1, cc1, ys, rfl, hop, h'⟩ := h'.opens
  have HA := hidd (show 0 < j1 → ∃ ab off, d1 = some ⟨ab, off, none⟩ from nraw_addr h')
  have HOP := hidd hop
  replace hn := hidd hn
  have HP := hidd hP
  have HT := hidd ht
  clear hop hP ht
  obtain ⟨_, rfl, hf0⟩ := h
  have hF0 := hf0
  obtain ⟨y0_p0, y0_q0, _, rfl, _y0_n0, y0_p1, y0_q1, _, rfl, _y0_n1, y0_p2, y0_q2, _, rfl, _y0_n2, rfl⟩ := hf0
  obtain ⟨_, rfl, hf2⟩ := g
  have hF2 := hf2
  obtain ⟨y2_p0, y2_q0, _, rfl, _y2_n0, y2_p1, y2_q1, _, rfl, _y2_n1, _, rfl, _, rfl⟩ := hf2
  obtain ⟨w1, b1, hw1, hb1, hs1, E⟩ := fr_start w (F := Fq.st [.n A, .n B, .n M]) (us := [y0_p0, y0_q0, y0_p1, y0_q1, y0_p2, y0_q2]) 31 rfl (by simp) (hF0.tame) (show (Fq.st [.n A, .n B, .n M]).P _ w from ⟨_, rfl, hF0⟩)
  obtain ⟨w2, b2, hw2, hb2, hs2, E⟩ := fr_more E hs1 (F := Fq.nraw m1 d1 j1 cc1 ys n) (us := [.bool m1, .slice d1 j1 cc1]) 29 rfl (by simp) (tame_int _ _ _ _) ((Fq.nraw m1 d1 j1 cc1 ys n).mono (show (Fq.nraw m1 d1 j1 cc1 ys n).P _ w from h') E.below)
  obtain ⟨w3, b3, hw3, hb3, hs3, E⟩ := fr_more E hs2 (F := Fq.st [.n P.x, .n P.y, .v (.bool P.i)]) (us := [y2_p0, y2_q0, y2_p1, y2_q1, .bool P.i]) 37 rfl (by simp) (hF2.tame) ((Fq.st [.n P.x, .n P.y, .v (.bool P.i)]).mono (show (Fq.st [.n P.x, .n P.y, .v (.bool P.i)]).P _ w from ⟨_, rfl, hF2⟩) E.below)
  obtain ⟨w4, b4, hw4, hb4, hs4, E⟩ := fr_more E hs3 (F := Fq.st [.n 0, .n 0, .v (.bool false)]) (us := [.bool false, .slice none 0 0, .bool false, .slice none 0 0, .bool false]) 37 rfl (by simp) ((Fits.tame (fits0_api_Point w))) (fits0P_api_Point _)
  go_enter Try.func66, Try.ntmps66
  go_upto_region 1 with (fail)
  rw [← hw1]
  rw [← hw2]
  rw [← hw3]
  rw [← hw4]
  rw [← hb4]
  rw [← hb3]
  rw [← hb2]
  rw [← hb1]
  clear hw1 hw2 hw3 hw4 hb1 hb2 hb3 hb4 hs4 hs1 hs2 hs3
  refine region_fr (C := [Fq.st [.n 0, .n 0, .v (.bool true)], Fq.any, Fq.any]) (ks := [none, none, none, none]) (new := [⟨1, 2, 5, Fq.st [.n 0, .n 0, .v (.bool false)], Fq.st [.n 0, .n 0, .v (.bool true)], none⟩]) E rfl (by kernel_rfl) rfl rfl (fun hp => ⟨?_, ?_, ?_, trivial⟩) ?_
  · exact q_build_api_Point_2 (u2 := true) hp (free_of rfl) trivial (sq_const (fun _ => rfl)) (fun v w h => h)
  · exact q_allocSt (us := [.bool false, .slice none 0 0, .bool false, .slice none 0 0, .bool false]) (fs := [.n 0, .n 0, .v (.bool false)]) hp (List.mem_iff_getElem?.2 ⟨0, rfl⟩) rfl rfl rfl (Nat.lt_of_sub_eq_succ rfl) rfl fits0_api_Point (fun ρ w => ralloc_api_Point ρ w) rfl (Nat.ne_of_beq_eq_false rfl) (fun _ _ => trivial) (old_ne rfl) (newk_ne rfl)
  · exact q_storeNewSt (fs := [.n 0, .n 0, .v (.bool false)]) (gs := [.n 0, .n 0, .v (.bool true)]) hp (List.mem_iff_getElem?.2 ⟨0, rfl⟩) rfl rfl rfl rfl size_api_Point rfl (own_ptr rfl rfl (by simp) rfl) (sq_in 0 rfl rfl (by simp) rfl (fun v w h => fitv_st h)) (fun _ _ => trivial) (old_ne rfl) (newi_ne rfl)
  intro L vs w5 nb hL hC hn E5
  have e1 : vs 1 = .pointer (some ⟨nb 1, 0, none⟩) := hn _ (List.mem_iff_getElem?.2 ⟨0, rfl⟩)
  have E : Fr w [(nb 1, 5, Fq.st [.n 0, .n 0, .v (.bool true)]), (b4, 5, Fq.st [.n 0, .n 0, .v (.bool false)]), (b3, 5, Fq.st [.n P.x, .n P.y, .v (.bool P.i)]), (b2, 2, Fq.nraw m1 d1 j1 cc1 ys n), (b1, 6, Fq.st [.n A, .n B, .n M])] w5 := E5
  rw [lay_all hL]
  simp only [putAll, dstOf, List.length_cons, List.length_nil, Nat.zero_add, Nat.reduceAdd, List.getElem?_toArray, List.getElem?_cons_zero, List.getElem?_cons_succ, Option.bind_some, Act.put, List.setIfInBounds_toArray, List.set_cons_succ, List.set_cons_zero]
  rw [e1]
  generalize nb 1 = b5_1 at E ⊢
  generalize vs 0 = u5_0
  clear e1 hC hn E5 hL vs L nb
  have HNB : Hid (nbits n ≤ 640) := nbits_le hn.out
  have TW : Hid (IntKind.i64.wrap (((nbits n : Nat) : Int) - 1) = ((nbits n : Nat) : Int) - 1) := IntWalk.i64_in _ (by have := HNB.out; omega)
  go_upto_region 2 with (fail)
  refine region_fr (C := [Fq.num n, Fq.is (.int .i64 ((nbits n : Nat) : Int)), Fq.is (.int .i64 (((nbits n : Nat) : Int) - 1)), Fq.is (.int .i64 (((nbits n : Nat) : Int) - 1))]) (ks := [none, none, none, none, none]) (new := []) E rfl (by kernel_rfl) rfl rfl (fun hp => ⟨?_, ?_, ?_, ?_, trivial⟩) ?_
  · exact q_loadInt (off := 0) hp (free_of rfl) trivial (List.mem_iff_getElem?.2 ⟨3, rfl⟩) (.inl rfl) (Nat.le_of_ble_eq_true rfl) (sq_out (s := 4) rfl rfl (fun _ _ => rfl)) (fun us w hl h => ld_num hl h.2.2)
  · exact q_call1 (F := (Fq.num n).P) hp (free_of rfl) trivial (enq_Bits) (sq_in 0 rfl rfl (by simp) rfl (fun v w h => h)) (fun v w h => exBits h)
  · exact q_one (F := fun v _ => v = .int .i64 ((nbits n : Nat) : Int)) hp (free_of rfl) trivial (sq_in 1 rfl rfl (by simp) rfl (fun v w h => h)) (fun ρ w hc h => ⟨.int .i64 (((nbits n : Nat) : Int) - 1), by simp [execOp, go_sem, h, hc, TW.out], rfl⟩)
  · exact q_assign hp (free_of rfl) trivial (sq_in 2 rfl rfl (by simp) rfl (fun v w h => h))
  intro L vs w6 nb hL hC hn E6
  have e1 : vs 1 = .int .i64 ((nbits n : Nat) : Int) := hC 1 (by simp)
  have e2 : vs 2 = .int .i64 (((nbits n : Nat) : Int) - 1) := hC 2 (by simp)
  have e3 : vs 3 = .int .i64 (((nbits n : Nat) : Int) - 1) := hC 3 (by simp)
  have E : Fr w [(b5_1, 5, Fq.st [.n 0, .n 0, .v (.bool true)]), (b4, 5, Fq.st [.n 0, .n 0, .v (.bool false)]), (b3, 5, Fq.st [.n P.x, .n P.y, .v (.bool P.i)]), (b2, 2, Fq.nraw m1 d1 j1 cc1 ys n), (b1, 6, Fq.st [.n A, .n B, .n M])] w6 := E6
  rw [lay_all hL]
  simp only [putAll, dstOf, List.length_cons, List.length_nil, Nat.zero_add, Nat.reduceAdd, List.getElem?_toArray, List.getElem?_cons_zero, List.getElem?_cons_succ, Option.bind_some, Act.put, List.setIfInBounds_toArray, List.set_cons_succ, List.set_cons_zero]
  rw [e1, e2, e3]
  generalize vs 0 = u6_0
  clear e1 e2 e3 hC hn E6 hL vs L nb
  clear TW
  have HS := hidd E
  go_upto_region 3 with (fail)
  go_loopw [8] (fun vi W => ∃ (j : Nat) (R : Pt), j ≤ nbits n ∧ vi = .int .i64 ((j : Int) - 1) ∧ xjP A M P n.natAbs (nbits n) j = (R, 0) ∧ Fr w [(b5_1, 5, Fq.st [.n R.x, .n R.y, .v (.bool R.i)]), (b4, 5, Fq.st [.n 0, .n 0, .v (.bool false)]), (b3, 5, Fq.st [.n P.x, .n P.y, .v (.bool P.i)]), (b2, 2, Fq.nraw m1 d1 j1 cc1 ys n), (b1, 6, Fq.st [.n A, .n B, .n M])] W) (fun vi _ => (intOf vi + 1).toNat)
  case atStart => exact ⟨nbits n, ⟨0, 0, true⟩, Nat.le_refl _, rfl, by unfold xjP; rw [Nat.sub_self]; rfl, HS.out⟩
  case round =>
    obtain ⟨j, R, hj, rfl, hR, E⟩ := hrel
    clear HS
    by_cases h0 : j = 0
    · subst h0
      have HR := hidd hR
      clear hj hR
      go_upto_region 3 with (fail)
      refine region_fr (C := [Fq.is (.int .i64 (((0 : Nat) : Int) - 1)), Fq.is (.bool false)]) (ks := [none, none, none, none, none]) (new := []) E rfl (by kernel_rfl) rfl rfl (fun hp => ⟨?_, ?_, trivial⟩) ?_
      · exact q_move hp (free_of rfl) trivial (sq_out (s := 8) rfl rfl (fun _ _ => rfl))
      · exact q_one (F := fun v _ => v = .int .i64 (((0 : Nat) : Int) - 1)) hp (free_of rfl) trivial (sq_in 0 rfl rfl (by simp) rfl (fun v w h => h)) (fun ρ w hc h => ⟨.bool false, by simp [execOp, go_sem, h, hc], rfl⟩)
      intro L vs w7 nb hL hC hn E7
      have e0 : vs 0 = .int .i64 (((0 : Nat) : Int) - 1) := hC 0 (by simp)
      have e1 : vs 1 = .bool false := hC 1 (by simp)
      have E : Fr w [(b5_1, 5, Fq.st [.n R.x, .n R.y, .v (.bool R.i)]), (b4, 5, Fq.st [.n 0, .n 0, .v (.bool false)]), (b3, 5, Fq.st [.n P.x, .n P.y, .v (.bool P.i)]), (b2, 2, Fq.nraw m1 d1 j1 cc1 ys n), (b1, 6, Fq.st [.n A, .n B, .n M])] w7 := E7
      rw [lay_all hL]
      simp only [putAll, dstOf, List.length_cons, List.length_nil, Nat.zero_add, Nat.reduceAdd, List.getElem?_toArray, List.getElem?_cons_zero, List.getElem?_cons_succ, Option.bind_some, Act.put, List.setIfInBounds_toArray, List.set_cons_succ, List.set_cons_zero]
      rw [e0, e1]
      clear e0 e1 hC hn E7 hL vs L nb
      go_upto_region 8 with (fail)
      refine region_fr (C := [Fq.st [.n R.x, .n R.y, .v (.bool R.i)], Fq.any]) (ks := [none, some (1, Fq.st [.n R.x, .n R.y, .v (.bool R.i)]), none, none, none]) (new := []) E rfl (by kernel_rfl) rfl rfl (fun hp => ⟨?_, ?_, trivial⟩) ?_
      · exact q_loadSt (off := 0) (l := 5) (fs := [.n R.x, .n R.y, .v (.bool R.i)]) (gs := [.n R.x, .n R.y, .v (.bool R.i)]) hp (free_of rfl) trivial (List.mem_iff_getElem?.2 ⟨0, rfl⟩) (.inl rfl) rfl row_api_Point rfl (sq_out (s := 7) rfl rfl (fun _ _ => rfl)) (fun v w h => h)
      · exact q_storeOldSt (off := 0) (fs := [.n 0, .n 0, .v (.bool false)]) (gs := [.n R.x, .n R.y, .v (.bool R.i)]) (fs' := [.n R.x, .n R.y, .v (.bool R.i)]) hp (List.mem_iff_getElem?.2 ⟨1, rfl⟩) rfl rfl rfl size_api_Point rfl (sq_out (s := 6) rfl rfl (fun _ _ => rfl)) (sq_in 0 rfl rfl (by simp) rfl (fun v w h => fitv_st h)) (fun _ _ => trivial) (newik_ne rfl)
      intro L vs w8 nb hL hC hn E8
      have E : Fr w [(b5_1, 5, Fq.st [.n R.x, .n R.y, .v (.bool R.i)]), (b4, 5, Fq.st [.n R.x, .n R.y, .v (.bool R.i)]), (b3, 5, Fq.st [.n P.x, .n P.y, .v (.bool P.i)]), (b2, 2, Fq.nraw m1 d1 j1 cc1 ys n), (b1, 6, Fq.st [.n A, .n B, .n M])] w8 := E8
      rw [lay_all hL]
      simp only [putAll, dstOf, List.length_cons, List.length_nil, Nat.zero_add, Nat.reduceAdd, List.getElem?_toArray, List.getElem?_cons_zero, List.getElem?_cons_succ, Option.bind_some, Act.put, List.setIfInBounds_toArray, List.set_cons_succ, List.set_cons_zero]
      generalize vs 0 = u8_0
      clear  hC hn E8 hL vs L nb
      obtain ⟨_, _, hc, hf⟩ := box_st (E.box 1 rfl)
      have hR2 := hf
      obtain ⟨r_p0, r_q0, _, rfl, _r_n0, r_p1, r_q1, _, rfl, _r_n1, _, rfl, _, rfl⟩ := hf
      have c0 := hc 0 (by simp)
      have c1 := hc 1 (by simp)
      have c2 := hc 2 (by simp)
      have c3 := hc 3 (by simp)
      have c4 := hc 4 (by simp)
      simp only [List.getD_cons_zero, List.getD_cons_succ] at c0 c1 c2 c3 c4
      clear hc
      clear hM hA
      have HE := HT.out
      clear HP HT HNB HA HOP hn
      go_wp2
      refine bodyPost_ret (v := .agg #[r_p0, r_q0, r_p1, r_q1, .bool R.i]) ?_ rfl ⟨E.below, .inl ⟨by rw [← HE, HR.out], _, rfl, by rw [← HE, HR.out]; exact ⟨_, rfl, hR2⟩⟩⟩
      simp [results, Try.results66, go_sem, c0, c1, c2, c3, c4]
    · obtain ⟨i, rfl⟩ : ∃ i, j = i + 1 := ⟨j - 1, by omega⟩
      have ei : (((i + 1 : Nat) : Int) - 1) = (i : Int) := by omega
      rw [ei]
      have HJ := hidd hj
      have HST := hidd (xj_step (A := A) (M := M) (P := P) (N := n.natAbs) (L := nbits n) (j := i) (by omega))
      have HR := hidd hR
      have HRO : Hid (R.Ok M) := by have := xj_ok (A := A) (N := n.natAbs) (L := nbits n) HP.out (i + 1); rw [hR] at this; exact this
      have TL : Hid (0 ≤ (i : Int)) := by show 0 ≤ _; omega
      have hw : wrap64 ((i : Int) - 1) = (i : Int) - 1 := by have := HJ.out; have := HNB.out; simp only [wrap64]; omega
      obtain ⟨S, hS⟩ : ∃ S, S = sumP A M R R := ⟨_, rfl⟩
      obtain ⟨S, e1⟩ := S
      have HSO : Hid (S.Ok M) := by have := sumP_ok (A := A) HRO.out HRO.out; rw [← hS] at this; exact this
      have HS := hidd hS.symm
      obtain ⟨hqk, x0, y, hx0, hy, hband⟩ := word_bit HOP.out (i := i) (by omega)
      obtain ⟨ad, off, rfl⟩ := HA.out (by omega)
      obtain ⟨q, hq⟩ : ∃ q, q = i / 32 := ⟨_, rfl⟩
      obtain ⟨r, hr⟩ : ∃ r, r = i % 32 := ⟨_, rfl⟩
      rw [← hq] at hqk hx0
      rw [← hr] at hy
      have HX0 := hidd hx0
      have HQK := hidd hqk
      have HQI : Hid ((q : Int) < j1) := by show (q : Int) < j1; omega
      have HBA := hidd hband
      have HR32 : Hid (r < 32) := by show r < 32; omega
      have WQ : Hid (Int.tdiv (i : Int) 32 = (q : Int)) := by show _ = _; rw [Int.tdiv_eq_ediv_of_nonneg (by omega)]; omega
      have WQ3 : Hid (IntKind.i64.wrap (q : Int) = q) := IntWalk.i64_in _ (by have := HJ.out; have := HNB.out; omega)
      have WR : Hid (Int.tmod (i : Int) 32 = (r : Int)) := by show _ = _; rw [Int.tmod_eq_emod_of_nonneg (by omega)]; omega
      have WR3 : Hid (IntKind.i64.wrap (r : Int) = r) := IntWalk.i64_in _ (by omega)
      have WS : Hid (x0 / 2 ^ r = y) := hy
      have WM : Hid (min r 32 = r) := by show _ = _; omega
      have WG : Hid ((0 : Int) ≤ r) := by show (0 : Int) ≤ _; omega
      clear ei hR hS h0 hj hq hr hqk hx0 hy hband
      go_upto_region 3 with (fail)
      refine region_fr (C := [Fq.is (.int .i64 (i : Int)), Fq.is (.bool true)]) (ks := [none, none, none, none, none]) (new := []) E rfl (by kernel_rfl) rfl rfl (fun hp => ⟨?_, ?_, trivial⟩) ?_
      · exact q_move hp (free_of rfl) trivial (sq_out (s := 8) rfl rfl (fun _ _ => rfl))
      · exact q_one (F := fun v _ => v = .int .i64 (i : Int)) hp (free_of rfl) trivial (sq_in 0 rfl rfl (by simp) rfl (fun v w h => h)) (fun ρ w hc h => ⟨.bool true, by simp [execOp, go_sem, h, hc, TL.out], rfl⟩)
      intro L vs w9 nb hL hC hn E9
      have e0 : vs 0 = .int .i64 (i : Int) := hC 0 (by simp)
      have e1 : vs 1 = .bool true := hC 1 (by simp)
      have E : Fr w [(b5_1, 5, Fq.st [.n R.x, .n R.y, .v (.bool R.i)]), (b4, 5, Fq.st [.n 0, .n 0, .v (.bool false)]), (b3, 5, Fq.st [.n P.x, .n P.y, .v (.bool P.i)]), (b2, 2, Fq.nraw m1 (some ⟨ad, off, none⟩) j1 cc1 ys n), (b1, 6, Fq.st [.n A, .n B, .n M])] w9 := E9
      rw [lay_all hL]
      simp only [putAll, dstOf, List.length_cons, List.length_nil, Nat.zero_add, Nat.reduceAdd, List.getElem?_toArray, List.getElem?_cons_zero, List.getElem?_cons_succ, Option.bind_some, Act.put, List.setIfInBounds_toArray, List.set_cons_succ, List.set_cons_zero]
      rw [e0, e1]
      clear e0 e1 hC hn E9 hL vs L nb
      clear TL
      by_cases he : ¬ e1 = 0
      · have HD := hidd he
        have HX : Hid (xjP A M P n.natAbs (nbits n) 0 = (S, e1)) := by
          have h9 : xjP A M P n.natAbs (nbits n) i = (S, e1) := by rw [HST.out, HR.out, stepP, if_pos rfl, HS.out, if_neg he]
          show _ = _
          rw [xj_bad (j := i) (by have := HJ.out; omega) (by rw [h9]; exact he), h9]
        clear he
        go_upto_region 5 with (fail)
        refine region_fr (C := [Fq.st [.n A, .n B, .n M], Fq.st [.n R.x, .n R.y, .v (.bool R.i)], Fq.st [.n R.x, .n R.y, .v (.bool R.i)], Fq.tup2 (Fq.st [.n S.x, .n S.y, .v (.bool S.i)]) (Fq.num e1), Fq.st [.n S.x, .n S.y, .v (.bool S.i)], Fq.num e1, Fq.pre fun _ => False, Fq.any]) (ks := [some (7, Fq.st [.n R.x, .n R.y, .v (.bool R.i)]), none, none, none, none]) (new := []) E rfl (by kernel_rfl) rfl rfl (fun hp => ⟨?_, ?_, ?_, ?_, ?_, ?_, ?_, ?_, trivial⟩) ?_
        · exact q_loadSt (off := 0) (l := 6) (fs := [.n A, .n B, .n M]) (gs := [.n A, .n B, .n M]) hp (free_of rfl) trivial (List.mem_iff_getElem?.2 ⟨4, rfl⟩) (.inl rfl) rfl row_api_Mod rfl (sq_out (s := 3) rfl rfl (fun _ _ => rfl)) (fun v w h => h)
        · exact q_loadSt (off := 0) (l := 5) (fs := [.n R.x, .n R.y, .v (.bool R.i)]) (gs := [.n R.x, .n R.y, .v (.bool R.i)]) hp (free_of rfl) trivial (List.mem_iff_getElem?.2 ⟨0, rfl⟩) (.inr rfl) rfl row_api_Point rfl (sq_out (s := 7) rfl rfl (fun _ _ => rfl)) (fun v w h => h)
        · exact q_loadSt (off := 0) (l := 5) (fs := [.n R.x, .n R.y, .v (.bool R.i)]) (gs := [.n R.x, .n R.y, .v (.bool R.i)]) hp (free_of rfl) trivial (List.mem_iff_getElem?.2 ⟨0, rfl⟩) (.inr rfl) rfl row_api_Point rfl (sq_out (s := 7) rfl rfl (fun _ _ => rfl)) (fun v w h => h)
        · exact q_call3 (F := (Fq.st [.n A, .n B, .n M]).P) (G := (Fq.st [.n R.x, .n R.y, .v (.bool R.i)]).P) (F3 := (Fq.st [.n R.x, .n R.y, .v (.bool R.i)]).P) hp (free_of rfl) trivial (enq_f_algorist_point_sum) (sq_in 0 rfl rfl (by simp) rfl (fun v w h => h)) (sq_in 1 rfl rfl (by simp) rfl (fun v w h => h)) (sq_in 2 rfl rfl (by simp) rfl (fun v w h => h)) (fun v v' u w h h' g => exSum h h' g hM.out hA.out HRO.out HRO.out HS.out)
        · exact q_extract2 hp (free_of rfl) trivial (sq_in 3 rfl rfl (by simp) rfl (fun v w h => h)) (fun v1 v2 w h1 h2 => ⟨_, rfl, h1⟩)
        · exact q_extract2 hp (free_of rfl) trivial (sq_in 3 rfl rfl (by simp) rfl (fun v w h => h)) (fun v1 v2 w h1 h2 => ⟨_, rfl, h2⟩)
        · refine q_callP2 (T := PanN e1) (F := (Fq.st [.n S.x, .n S.y, .v (.bool S.i)]).P) (G := (Fq.num e1).P) hp (free_of rfl) (enq_f_algorist_point_existing) (sq_in 4 rfl rfl (by simp) rfl (fun v w h => h)) (sq_in 5 rfl rfl (by simp) rfl (fun v w h => h)) (fun v v' w h h' => (exExistingP h h' HD.out).mono fun e w' hh => by obtain ⟨v2, he, hb, hn9⟩ := hh; exact ⟨_, he, hb, v2, rfl, hn9⟩) ?_
          intro L9 vs9 w9 ch w' A9 hG9 hb9 hT9 hdf _ _
          obtain ⟨v2, rfl, hn9⟩ := hT9
          have HE := HT.out
          have hbw := hG9.below.trans (hb9.mono (by have := hG9.below.size; omega))
          refine ⟨hdf, hbw, .inr ⟨by rw [← HE, HX.out]; exact HD.out, v2, rfl, by rw [← HE, HX.out]; exact hn9⟩⟩
        · exact q_storeOldSt (off := 0) (fs := [.n R.x, .n R.y, .v (.bool R.i)]) (gs := [.n R.x, .n R.y, .v (.bool R.i)]) (fs' := [.n R.x, .n R.y, .v (.bool R.i)]) hp (List.mem_iff_getElem?.2 ⟨0, rfl⟩) rfl rfl rfl size_api_Point rfl (sq_out (s := 7) rfl rfl (fun _ _ => rfl)) (sq_in 6 rfl rfl (by simp) rfl (fun v w h => False.elim h)) (fun _ _ => trivial) (newik_ne rfl)
        intro L vs w9 nb hL hC hn E9
        exact False.elim (hC 6 (by simp))
      · replace he : e1 = 0 := by omega
        subst he
        go_upto_region 5 with (fail)
        refine region_fr (C := [Fq.st [.n A, .n B, .n M], Fq.st [.n R.x, .n R.y, .v (.bool R.i)], Fq.st [.n R.x, .n R.y, .v (.bool R.i)], Fq.tup2 (Fq.st [.n S.x, .n S.y, .v (.bool S.i)]) (Fq.num 0), Fq.st [.n S.x, .n S.y, .v (.bool S.i)], Fq.num 0, Fq.st [.n S.x, .n S.y, .v (.bool S.i)], Fq.any]) (ks := [some (7, Fq.st [.n S.x, .n S.y, .v (.bool S.i)]), none, none, none, none]) (new := []) E rfl (by kernel_rfl) rfl rfl (fun hp => ⟨?_, ?_, ?_, ?_, ?_, ?_, ?_, ?_, trivial⟩) ?_
        · exact q_loadSt (off := 0) (l := 6) (fs := [.n A, .n B, .n M]) (gs := [.n A, .n B, .n M]) hp (free_of rfl) trivial (List.mem_iff_getElem?.2 ⟨4, rfl⟩) (.inl rfl) rfl row_api_Mod rfl (sq_out (s := 3) rfl rfl (fun _ _ => rfl)) (fun v w h => h)
        · exact q_loadSt (off := 0) (l := 5) (fs := [.n R.x, .n R.y, .v (.bool R.i)]) (gs := [.n R.x, .n R.y, .v (.bool R.i)]) hp (free_of rfl) trivial (List.mem_iff_getElem?.2 ⟨0, rfl⟩) (.inr rfl) rfl row_api_Point rfl (sq_out (s := 7) rfl rfl (fun _ _ => rfl)) (fun v w h => h)
        · exact q_loadSt (off := 0) (l := 5) (fs := [.n R.x, .n R.y, .v (.bool R.i)]) (gs := [.n R.x, .n R.y, .v (.bool R.i)]) hp (free_of rfl) trivial (List.mem_iff_getElem?.2 ⟨0, rfl⟩) (.inr rfl) rfl row_api_Point rfl (sq_out (s := 7) rfl rfl (fun _ _ => rfl)) (fun v w h => h)
        · exact q_call3 (F := (Fq.st [.n A, .n B, .n M]).P) (G := (Fq.st [.n R.x, .n R.y, .v (.bool R.i)]).P) (F3 := (Fq.st [.n R.x, .n R.y, .v (.bool R.i)]).P) hp (free_of rfl) trivial (enq_f_algorist_point_sum) (sq_in 0 rfl rfl (by simp) rfl (fun v w h => h)) (sq_in 1 rfl rfl (by simp) rfl (fun v w h => h)) (sq_in 2 rfl rfl (by simp) rfl (fun v w h => h)) (fun v v' u w h h' g => exSum h h' g hM.out hA.out HRO.out HRO.out HS.out)
        · exact q_extract2 hp (free_of rfl) trivial (sq_in 3 rfl rfl (by simp) rfl (fun v w h => h)) (fun v1 v2 w h1 h2 => ⟨_, rfl, h1⟩)
        · exact q_extract2 hp (free_of rfl) trivial (sq_in 3 rfl rfl (by simp) rfl (fun v w h => h)) (fun v1 v2 w h1 h2 => ⟨_, rfl, h2⟩)
        · exact q_call2 (F := (Fq.st [.n S.x, .n S.y, .v (.bool S.i)]).P) (G := (Fq.num 0).P) hp (free_of rfl) trivial (enq_f_algorist_point_existing) (sq_in 4 rfl rfl (by simp) rfl (fun v w h => h)) (sq_in 5 rfl rfl (by simp) rfl (fun v w h => h)) (fun v v' w h h' => exExisting h h' rfl)
        · exact q_storeOldSt (off := 0) (fs := [.n R.x, .n R.y, .v (.bool R.i)]) (gs := [.n S.x, .n S.y, .v (.bool S.i)]) (fs' := [.n S.x, .n S.y, .v (.bool S.i)]) hp (List.mem_iff_getElem?.2 ⟨0, rfl⟩) rfl rfl rfl size_api_Point rfl (sq_out (s := 7) rfl rfl (fun _ _ => rfl)) (sq_in 6 rfl rfl (by simp) rfl (fun v w h => fitv_st h)) (fun _ _ => trivial) (newik_ne rfl)
        intro L vs w10 nb hL hC hn E10
        have E : Fr w [(b5_1, 5, Fq.st [.n S.x, .n S.y, .v (.bool S.i)]), (b4, 5, Fq.st [.n 0, .n 0, .v (.bool false)]), (b3, 5, Fq.st [.n P.x, .n P.y, .v (.bool P.i)]), (b2, 2, Fq.nraw m1 (some ⟨ad, off, none⟩) j1 cc1 ys n), (b1, 6, Fq.st [.n A, .n B, .n M])] w10 := E10
        rw [lay_all hL]
        simp only [putAll, dstOf, List.length_cons, List.length_nil, Nat.zero_add, Nat.reduceAdd, List.getElem?_toArray, List.getElem?_cons_zero, List.getElem?_cons_succ, Option.bind_some, Act.put, List.setIfInBounds_toArray, List.set_cons_succ, List.set_cons_zero]
        generalize vs 0 = u10_0
        generalize vs 1 = u10_1
        generalize vs 2 = u10_2
        generalize vs 3 = u10_3
        generalize vs 4 = u10_4
        generalize vs 5 = u10_5
        generalize vs 6 = u10_6
        clear  hC hn E10 hL vs L nb
        by_cases hb : n.natAbs / 2 ^ i % 2 = 1
        · have TB : Hid (bits .and .u32 y 1 = 1) := by show _ = _; rw [HBA.out, hb]; rfl
          obtain ⟨U, hU⟩ : ∃ U, U = sumP A M S P := ⟨_, rfl⟩
          obtain ⟨U, e2⟩ := U
          have HUO : Hid (U.Ok M) := by have := sumP_ok (A := A) HSO.out HP.out; rw [← hU] at this; exact this
          have HU := hidd hU.symm
          have HXI : Hid (xjP A M P n.natAbs (nbits n) i = (U, e2)) := by show _ = _; rw [HST.out, HR.out, stepP, if_pos rfl, HS.out, if_pos rfl, decide_eq_true hb, if_pos rfl, HU.out]
          clear hU hb
          go_upto_region 6 with (fail)
          refine region_fr (C := [Fq.is (.pointer (some ⟨b2, 1, none⟩)), Fq.is (.slice (some ⟨ad, off, none⟩) j1 cc1), Fq.is (.int .i64 (i : Int)), Fq.is (.int .i64 (q : Int)), Fq.is (.pointer (some ⟨ad, off + q, none⟩)), Fq.is (.int .u32 x0), Fq.is (.int .i64 (i : Int)), Fq.is (.int .i64 (r : Int)), Fq.is (.int .u32 y), Fq.is (.int .u32 1), Fq.is (.bool true)]) (ks := [none, none, none, none, none]) (new := []) E rfl (by kernel_rfl) rfl rfl (fun hp => ⟨?_, ?_, ?_, ?_, ?_, ?_, ?_, ?_, ?_, ?_, ?_, trivial⟩) ?_
          · exact q_addr (b := b2) (off := 0) (off' := 1) hp (free_of rfl) trivial (sq_out (s := 4) rfl rfl (fun _ _ => rfl)) (fun ρ w h => by simp [execOp, go_sem, h]) (fun _ => rfl)
          · exact q_loadMagP (off := 1) (v := .slice (some ⟨ad, off, none⟩) j1 cc1) hp (free_of rfl) trivial (List.mem_iff_getElem?.2 ⟨3, rfl⟩) (.inl rfl) (Nat.le_of_ble_eq_true rfl) (sq_in 0 rfl rfl (by simp) rfl (fun v w h => h)) (fun us w hl h => ⟨ld_nrawS hl h, rfl⟩)
          · exact q_move hp (free_of rfl) trivial (sq_out (s := 8) rfl rfl (fun _ _ => rfl))
          · exact q_one (F := fun v _ => v = .int .i64 (i : Int)) hp (free_of rfl) trivial (sq_in 2 rfl rfl (by simp) rfl (fun v w h => h)) (fun ρ w hc h => ⟨.int .i64 (q : Int), by simp [execOp, go_sem, h, hc, WQ.out, WQ3.out], rfl⟩)
          · exact q_two (F := fun v _ => v = .slice (some ⟨ad, off, none⟩) j1 cc1) (G := fun v _ => v = .int .i64 (q : Int)) hp (free_of rfl) trivial (sq_in 1 rfl rfl (by simp) rfl (fun v w h => h)) (sq_in 3 rfl rfl (by simp) rfl (fun v w h => h)) (fun ρ w hc h h' => ⟨.pointer (some ⟨ad, off + q, none⟩), by simp [execOp, go_sem, h, h', hc, HQI.out], rfl⟩)
          · exact q_loadWord (bx := b2) (x0 := x0) hp (free_of rfl) trivial (List.mem_iff_getElem?.2 ⟨3, rfl⟩) (.inl rfl) (sq_in 4 rfl rfl (by simp) rfl (fun v w h => h)) (fun us w hl h => nat_word HQK.out HX0.out h) (fun _ => rfl)
          · exact q_move hp (free_of rfl) trivial (sq_out (s := 8) rfl rfl (fun _ _ => rfl))
          · exact q_one (F := fun v _ => v = .int .i64 (i : Int)) hp (free_of rfl) trivial (sq_in 6 rfl rfl (by simp) rfl (fun v w h => h)) (fun ρ w hc h => ⟨.int .i64 (r : Int), by simp [execOp, go_sem, h, hc, WR.out], rfl⟩)
          · exact q_two (F := fun v _ => v = .int .u32 x0) (G := fun v _ => v = .int .i64 (r : Int)) hp (free_of rfl) trivial (sq_in 5 rfl rfl (by simp) rfl (fun v w h => h)) (sq_in 7 rfl rfl (by simp) rfl (fun v w h => h)) (fun ρ w hc h h' => ⟨.int .u32 y, by simp [execOp, go_sem, h, h', WG.out, WS.out, WM.out], rfl⟩)
          · exact q_one (F := fun v _ => v = .int .u32 y) hp (free_of rfl) trivial (sq_in 8 rfl rfl (by simp) rfl (fun v w h => h)) (fun ρ w hc h => ⟨.int .u32 1, by simp [execOp, go_sem, h, hc, TB.out], rfl⟩)
          · exact q_one (F := fun v _ => v = .int .u32 1) hp (free_of rfl) trivial (sq_in 9 rfl rfl (by simp) rfl (fun v w h => h)) (fun ρ w hc h => ⟨.bool true, by simp [execOp, go_sem, h, hc], rfl⟩)
          intro L vs w11 nb hL hC hn E11
          have e0 : vs 0 = .pointer (some ⟨b2, 1, none⟩) := hC 0 (by simp)
          have e1 : vs 1 = .slice (some ⟨ad, off, none⟩) j1 cc1 := hC 1 (by simp)
          have e2 : vs 2 = .int .i64 (i : Int) := hC 2 (by simp)
          have e3 : vs 3 = .int .i64 (q : Int) := hC 3 (by simp)
          have e4 : vs 4 = .pointer (some ⟨ad, off + q, none⟩) := hC 4 (by simp)
          have e5 : vs 5 = .int .u32 x0 := hC 5 (by simp)
          have e6 : vs 6 = .int .i64 (i : Int) := hC 6 (by simp)
          have e7 : vs 7 = .int .i64 (r : Int) := hC 7 (by simp)
          have e8 : vs 8 = .int .u32 y := hC 8 (by simp)
          have e9 : vs 9 = .int .u32 1 := hC 9 (by simp)
          have e10 : vs 10 = .bool true := hC 10 (by simp)
          have E : Fr w [(b5_1, 5, Fq.st [.n S.x, .n S.y, .v (.bool S.i)]), (b4, 5, Fq.st [.n 0, .n 0, .v (.bool false)]), (b3, 5, Fq.st [.n P.x, .n P.y, .v (.bool P.i)]), (b2, 2, Fq.nraw m1 (some ⟨ad, off, none⟩) j1 cc1 ys n), (b1, 6, Fq.st [.n A, .n B, .n M])] w11 := E11
          rw [lay_all hL]
          simp only [putAll, dstOf, List.length_cons, List.length_nil, Nat.zero_add, Nat.reduceAdd, List.getElem?_toArray, List.getElem?_cons_zero, List.getElem?_cons_succ, Option.bind_some, Act.put, List.setIfInBounds_toArray, List.set_cons_succ, List.set_cons_zero]
          rw [e0, e1, e2, e3, e4, e5, e6, e7, e8, e9, e10]
          clear e0 e1 e2 e3 e4 e5 e6 e7 e8 e9 e10 hC hn E11 hL vs L nb
          clear TB HX0 HQK HQI HBA HR32 WQ WQ3 WR WR3 WS WM WG
          by_cases he : ¬ e2 = 0
          · have HD := hidd he
            have HX : Hid (xjP A M P n.natAbs (nbits n) 0 = (U, e2)) := by
              show _ = _
              rw [xj_bad (j := i) (by have := HJ.out; omega) (by rw [HXI.out]; exact he), HXI.out]
            clear he
            go_upto_region 7 with (fail)
            refine region_fr (C := [Fq.st [.n A, .n B, .n M], Fq.st [.n S.x, .n S.y, .v (.bool S.i)], Fq.st [.n P.x, .n P.y, .v (.bool P.i)], Fq.tup2 (Fq.st [.n U.x, .n U.y, .v (.bool U.i)]) (Fq.num e2), Fq.st [.n U.x, .n U.y, .v (.bool U.i)], Fq.num e2, Fq.pre fun _ => False, Fq.any]) (ks := [some (7, Fq.st [.n S.x, .n S.y, .v (.bool S.i)]), none, none, none, none]) (new := []) E rfl (by kernel_rfl) rfl rfl (fun hp => ⟨?_, ?_, ?_, ?_, ?_, ?_, ?_, ?_, trivial⟩) ?_
            · exact q_loadSt (off := 0) (l := 6) (fs := [.n A, .n B, .n M]) (gs := [.n A, .n B, .n M]) hp (free_of rfl) trivial (List.mem_iff_getElem?.2 ⟨4, rfl⟩) (.inl rfl) rfl row_api_Mod rfl (sq_out (s := 3) rfl rfl (fun _ _ => rfl)) (fun v w h => h)
            · exact q_loadSt (off := 0) (l := 5) (fs := [.n S.x, .n S.y, .v (.bool S.i)]) (gs := [.n S.x, .n S.y, .v (.bool S.i)]) hp (free_of rfl) trivial (List.mem_iff_getElem?.2 ⟨0, rfl⟩) (.inr rfl) rfl row_api_Point rfl (sq_out (s := 7) rfl rfl (fun _ _ => rfl)) (fun v w h => h)
            · exact q_loadSt (off := 0) (l := 5) (fs := [.n P.x, .n P.y, .v (.bool P.i)]) (gs := [.n P.x, .n P.y, .v (.bool P.i)]) hp (free_of rfl) trivial (List.mem_iff_getElem?.2 ⟨2, rfl⟩) (.inl rfl) rfl row_api_Point rfl (sq_out (s := 5) rfl rfl (fun _ _ => rfl)) (fun v w h => h)
            · exact q_call3 (F := (Fq.st [.n A, .n B, .n M]).P) (G := (Fq.st [.n S.x, .n S.y, .v (.bool S.i)]).P) (F3 := (Fq.st [.n P.x, .n P.y, .v (.bool P.i)]).P) hp (free_of rfl) trivial (enq_f_algorist_point_sum) (sq_in 0 rfl rfl (by simp) rfl (fun v w h => h)) (sq_in 1 rfl rfl (by simp) rfl (fun v w h => h)) (sq_in 2 rfl rfl (by simp) rfl (fun v w h => h)) (fun v v' u w h h' g => exSum h h' g hM.out hA.out HSO.out HP.out HU.out)
            · exact q_extract2 hp (free_of rfl) trivial (sq_in 3 rfl rfl (by simp) rfl (fun v w h => h)) (fun v1 v2 w h1 h2 => ⟨_, rfl, h1⟩)
            · exact q_extract2 hp (free_of rfl) trivial (sq_in 3 rfl rfl (by simp) rfl (fun v w h => h)) (fun v1 v2 w h1 h2 => ⟨_, rfl, h2⟩)
            · refine q_callP2 (T := PanN e2) (F := (Fq.st [.n U.x, .n U.y, .v (.bool U.i)]).P) (G := (Fq.num e2).P) hp (free_of rfl) (enq_f_algorist_point_existing) (sq_in 4 rfl rfl (by simp) rfl (fun v w h => h)) (sq_in 5 rfl rfl (by simp) rfl (fun v w h => h)) (fun v v' w h h' => (exExistingP h h' HD.out).mono fun e w' hh => by obtain ⟨v2, he, hb, hn9⟩ := hh; exact ⟨_, he, hb, v2, rfl, hn9⟩) ?_
              intro L9 vs9 w9 ch w' A9 hG9 hb9 hT9 hdf _ _
              obtain ⟨v2, rfl, hn9⟩ := hT9
              have HE := HT.out
              have hbw := hG9.below.trans (hb9.mono (by have := hG9.below.size; omega))
              refine ⟨hdf, hbw, .inr ⟨by rw [← HE, HX.out]; exact HD.out, v2, rfl, by rw [← HE, HX.out]; exact hn9⟩⟩
            · exact q_storeOldSt (off := 0) (fs := [.n S.x, .n S.y, .v (.bool S.i)]) (gs := [.n S.x, .n S.y, .v (.bool S.i)]) (fs' := [.n S.x, .n S.y, .v (.bool S.i)]) hp (List.mem_iff_getElem?.2 ⟨0, rfl⟩) rfl rfl rfl size_api_Point rfl (sq_out (s := 7) rfl rfl (fun _ _ => rfl)) (sq_in 6 rfl rfl (by simp) rfl (fun v w h => False.elim h)) (fun _ _ => trivial) (newik_ne rfl)
            intro L vs w9 nb hL hC hn E9
            exact False.elim (hC 6 (by simp))
          · replace he : e2 = 0 := by omega
            subst he
            go_upto_region 7 with (fail)
            refine region_fr (C := [Fq.st [.n A, .n B, .n M], Fq.st [.n S.x, .n S.y, .v (.bool S.i)], Fq.st [.n P.x, .n P.y, .v (.bool P.i)], Fq.tup2 (Fq.st [.n U.x, .n U.y, .v (.bool U.i)]) (Fq.num 0), Fq.st [.n U.x, .n U.y, .v (.bool U.i)], Fq.num 0, Fq.st [.n U.x, .n U.y, .v (.bool U.i)], Fq.any]) (ks := [some (7, Fq.st [.n U.x, .n U.y, .v (.bool U.i)]), none, none, none, none]) (new := []) E rfl (by kernel_rfl) rfl rfl (fun hp => ⟨?_, ?_, ?_, ?_, ?_, ?_, ?_, ?_, trivial⟩) ?_
            · exact q_loadSt (off := 0) (l := 6) (fs := [.n A, .n B, .n M]) (gs := [.n A, .n B, .n M]) hp (free_of rfl) trivial (List.mem_iff_getElem?.2 ⟨4, rfl⟩) (.inl rfl) rfl row_api_Mod rfl (sq_out (s := 3) rfl rfl (fun _ _ => rfl)) (fun v w h => h)
            · exact q_loadSt (off := 0) (l := 5) (fs := [.n S.x, .n S.y, .v (.bool S.i)]) (gs := [.n S.x, .n S.y, .v (.bool S.i)]) hp (free_of rfl) trivial (List.mem_iff_getElem?.2 ⟨0, rfl⟩) (.inr rfl) rfl row_api_Point rfl (sq_out (s := 7) rfl rfl (fun _ _ => rfl)) (fun v w h => h)
            · exact q_loadSt (off := 0) (l := 5) (fs := [.n P.x, .n P.y, .v (.bool P.i)]) (gs := [.n P.x, .n P.y, .v (.bool P.i)]) hp (free_of rfl) trivial (List.mem_iff_getElem?.2 ⟨2, rfl⟩) (.inl rfl) rfl row_api_Point rfl (sq_out (s := 5) rfl rfl (fun _ _ => rfl)) (fun v w h => h)
            · exact q_call3 (F := (Fq.st [.n A, .n B, .n M]).P) (G := (Fq.st [.n S.x, .n S.y, .v (.bool S.i)]).P) (F3 := (Fq.st [.n P.x, .n P.y, .v (.bool P.i)]).P) hp (free_of rfl) trivial (enq_f_algorist_point_sum) (sq_in 0 rfl rfl (by simp) rfl (fun v w h => h)) (sq_in 1 rfl rfl (by simp) rfl (fun v w h => h)) (sq_in 2 rfl rfl (by simp) rfl (fun v w h => h)) (fun v v' u w h h' g => exSum h h' g hM.out hA.out HSO.out HP.out HU.out)
            · exact q_extract2 hp (free_of rfl) trivial (sq_in 3 rfl rfl (by simp) rfl (fun v w h => h)) (fun v1 v2 w h1 h2 => ⟨_, rfl, h1⟩)
            · exact q_extract2 hp (free_of rfl) trivial (sq_in 3 rfl rfl (by simp) rfl (fun v w h => h)) (fun v1 v2 w h1 h2 => ⟨_, rfl, h2⟩)
            · exact q_call2 (F := (Fq.st [.n U.x, .n U.y, .v (.bool U.i)]).P) (G := (Fq.num 0).P) hp (free_of rfl) trivial (enq_f_algorist_point_existing) (sq_in 4 rfl rfl (by simp) rfl (fun v w h => h)) (sq_in 5 rfl rfl (by simp) rfl (fun v w h => h)) (fun v v' w h h' => exExisting h h' rfl)
            · exact q_storeOldSt (off := 0) (fs := [.n S.x, .n S.y, .v (.bool S.i)]) (gs := [.n U.x, .n U.y, .v (.bool U.i)]) (fs' := [.n U.x, .n U.y, .v (.bool U.i)]) hp (List.mem_iff_getElem?.2 ⟨0, rfl⟩) rfl rfl rfl size_api_Point rfl (sq_out (s := 7) rfl rfl (fun _ _ => rfl)) (sq_in 6 rfl rfl (by simp) rfl (fun v w h => fitv_st h)) (fun _ _ => trivial) (newik_ne rfl)
            intro L vs w12 nb hL hC hn E12
            have E : Fr w [(b5_1, 5, Fq.st [.n U.x, .n U.y, .v (.bool U.i)]), (b4, 5, Fq.st [.n 0, .n 0, .v (.bool false)]), (b3, 5, Fq.st [.n P.x, .n P.y, .v (.bool P.i)]), (b2, 2, Fq.nraw m1 (some ⟨ad, off, none⟩) j1 cc1 ys n), (b1, 6, Fq.st [.n A, .n B, .n M])] w12 := E12
            rw [lay_all hL]
            simp only [putAll, dstOf, List.length_cons, List.length_nil, Nat.zero_add, Nat.reduceAdd, List.getElem?_toArray, List.getElem?_cons_zero, List.getElem?_cons_succ, Option.bind_some, Act.put, List.setIfInBounds_toArray, List.set_cons_succ, List.set_cons_zero]
            generalize vs 0 = u12_0
            generalize vs 1 = u12_1
            generalize vs 2 = u12_2
            generalize vs 3 = u12_3
            generalize vs 4 = u12_4
            generalize vs 5 = u12_5
            generalize vs 6 = u12_6
            clear  hC hn E12 hL vs L nb
            have HZ := HXI.out
            replace HZ := hidd HZ
            go_wp2
            go_roundw
            case rel => exact ⟨i, U, by have := HJ.out; omega, by first | go_num | (rw [hw]; go_num), HZ.out, E⟩
            case measure => first | exact measP | (rw [hw]; exact measP)
        · have TB : Hid (bits .and .u32 y 1 = 0) := by show _ = _; rw [HBA.out, show n.natAbs / 2 ^ i % 2 = 0 by omega]; rfl
          have HXI : Hid (xjP A M P n.natAbs (nbits n) i = (S, 0)) := by show _ = _; rw [HST.out, HR.out, stepP, if_pos rfl, HS.out, if_pos rfl, decide_eq_false hb]; rfl
          clear hb
          go_upto_region 6 with (fail)
          refine region_fr (C := [Fq.is (.pointer (some ⟨b2, 1, none⟩)), Fq.is (.slice (some ⟨ad, off, none⟩) j1 cc1), Fq.is (.int .i64 (i : Int)), Fq.is (.int .i64 (q : Int)), Fq.is (.pointer (some ⟨ad, off + q, none⟩)), Fq.is (.int .u32 x0), Fq.is (.int .i64 (i : Int)), Fq.is (.int .i64 (r : Int)), Fq.is (.int .u32 y), Fq.is (.int .u32 0), Fq.is (.bool false)]) (ks := [none, none, none, none, none]) (new := []) E rfl (by kernel_rfl) rfl rfl (fun hp => ⟨?_, ?_, ?_, ?_, ?_, ?_, ?_, ?_, ?_, ?_, ?_, trivial⟩) ?_
          · exact q_addr (b := b2) (off := 0) (off' := 1) hp (free_of rfl) trivial (sq_out (s := 4) rfl rfl (fun _ _ => rfl)) (fun ρ w h => by simp [execOp, go_sem, h]) (fun _ => rfl)
          · exact q_loadMagP (off := 1) (v := .slice (some ⟨ad, off, none⟩) j1 cc1) hp (free_of rfl) trivial (List.mem_iff_getElem?.2 ⟨3, rfl⟩) (.inl rfl) (Nat.le_of_ble_eq_true rfl) (sq_in 0 rfl rfl (by simp) rfl (fun v w h => h)) (fun us w hl h => ⟨ld_nrawS hl h, rfl⟩)
          · exact q_move hp (free_of rfl) trivial (sq_out (s := 8) rfl rfl (fun _ _ => rfl))
          · exact q_one (F := fun v _ => v = .int .i64 (i : Int)) hp (free_of rfl) trivial (sq_in 2 rfl rfl (by simp) rfl (fun v w h => h)) (fun ρ w hc h => ⟨.int .i64 (q : Int), by simp [execOp, go_sem, h, hc, WQ.out, WQ3.out], rfl⟩)
          · exact q_two (F := fun v _ => v = .slice (some ⟨ad, off, none⟩) j1 cc1) (G := fun v _ => v = .int .i64 (q : Int)) hp (free_of rfl) trivial (sq_in 1 rfl rfl (by simp) rfl (fun v w h => h)) (sq_in 3 rfl rfl (by simp) rfl (fun v w h => h)) (fun ρ w hc h h' => ⟨.pointer (some ⟨ad, off + q, none⟩), by simp [execOp, go_sem, h, h', hc, HQI.out], rfl⟩)
          · exact q_loadWord (bx := b2) (x0 := x0) hp (free_of rfl) trivial (List.mem_iff_getElem?.2 ⟨3, rfl⟩) (.inl rfl) (sq_in 4 rfl rfl (by simp) rfl (fun v w h => h)) (fun us w hl h => nat_word HQK.out HX0.out h) (fun _ => rfl)
          · exact q_move hp (free_of rfl) trivial (sq_out (s := 8) rfl rfl (fun _ _ => rfl))
          · exact q_one (F := fun v _ => v = .int .i64 (i : Int)) hp (free_of rfl) trivial (sq_in 6 rfl rfl (by simp) rfl (fun v w h => h)) (fun ρ w hc h => ⟨.int .i64 (r : Int), by simp [execOp, go_sem, h, hc, WR.out], rfl⟩)
          · exact q_two (F := fun v _ => v = .int .u32 x0) (G := fun v _ => v = .int .i64 (r : Int)) hp (free_of rfl) trivial (sq_in 5 rfl rfl (by simp) rfl (fun v w h => h)) (sq_in 7 rfl rfl (by simp) rfl (fun v w h => h)) (fun ρ w hc h h' => ⟨.int .u32 y, by simp [execOp, go_sem, h, h', WG.out, WS.out, WM.out], rfl⟩)
          · exact q_one (F := fun v _ => v = .int .u32 y) hp (free_of rfl) trivial (sq_in 8 rfl rfl (by simp) rfl (fun v w h => h)) (fun ρ w hc h => ⟨.int .u32 0, by simp [execOp, go_sem, h, hc, TB.out], rfl⟩)
          · exact q_one (F := fun v _ => v = .int .u32 0) hp (free_of rfl) trivial (sq_in 9 rfl rfl (by simp) rfl (fun v w h => h)) (fun ρ w hc h => ⟨.bool false, by simp [execOp, go_sem, h, hc], rfl⟩)
          intro L vs w13 nb hL hC hn E13
          have e0 : vs 0 = .pointer (some ⟨b2, 1, none⟩) := hC 0 (by simp)
          have e1 : vs 1 = .slice (some ⟨ad, off, none⟩) j1 cc1 := hC 1 (by simp)
          have e2 : vs 2 = .int .i64 (i : Int) := hC 2 (by simp)
          have e3 : vs 3 = .int .i64 (q : Int) := hC 3 (by simp)
          have e4 : vs 4 = .pointer (some ⟨ad, off + q, none⟩) := hC 4 (by simp)
          have e5 : vs 5 = .int .u32 x0 := hC 5 (by simp)
          have e6 : vs 6 = .int .i64 (i : Int) := hC 6 (by simp)
          have e7 : vs 7 = .int .i64 (r : Int) := hC 7 (by simp)
          have e8 : vs 8 = .int .u32 y := hC 8 (by simp)
          have e9 : vs 9 = .int .u32 0 := hC 9 (by simp)
          have e10 : vs 10 = .bool false := hC 10 (by simp)
          have E : Fr w [(b5_1, 5, Fq.st [.n S.x, .n S.y, .v (.bool S.i)]), (b4, 5, Fq.st [.n 0, .n 0, .v (.bool false)]), (b3, 5, Fq.st [.n P.x, .n P.y, .v (.bool P.i)]), (b2, 2, Fq.nraw m1 (some ⟨ad, off, none⟩) j1 cc1 ys n), (b1, 6, Fq.st [.n A, .n B, .n M])] w13 := E13
          rw [lay_all hL]
          simp only [putAll, dstOf, List.length_cons, List.length_nil, Nat.zero_add, Nat.reduceAdd, List.getElem?_toArray, List.getElem?_cons_zero, List.getElem?_cons_succ, Option.bind_some, Act.put, List.setIfInBounds_toArray, List.set_cons_succ, List.set_cons_zero]
          rw [e0, e1, e2, e3, e4, e5, e6, e7, e8, e9, e10]
          clear e0 e1 e2 e3 e4 e5 e6 e7 e8 e9 e10 hC hn E13 hL vs L nb
          clear TB HX0 HQK HQI HBA HR32 WQ WQ3 WR WR3 WS WM WG
          have HZ := HXI.out
          replace HZ := hidd HZ
          go_wp2
          go_roundw
          case rel => exact ⟨i, S, by have := HJ.out; omega, by first | go_num | (rw [hw]; go_num), HZ.out, E⟩
          case measure => first | exact measP | (rw [hw]; exact measP)

end Go.Proofs.Ytpkeeacdkkmknaa

/- Walk: package point: the deferred function of Times; a store into a box of a frame. -/
namespace Go.Proofs.Ytpkeeacdkkmknaa
open Go Go.RowKit

/-- A box of a frame is stored to. -/
theorem Fr.store {w0 W : World} {bs : List (Nat × Nat × Fq)} (E : Fr w0 bs W) (k : Nat) {b m : Nat} {F F' : Fq} (hk : bs[k]? = some (b, m, F)) {us : List Value} (hl : us.length = m) (ht : Tame us) (hF : F'.P (.agg us.toArray) W) : Fr w0 (bs.set k (b, m, F')) (putFrom W b 0 us) := by
  have hm := List.mem_of_getElem? hk
  have hkl : k < bs.length := (List.getElem?_eq_some_iff.1 hk).1
  have hap : ∀ i, i < bs.length → i ≠ k → ∀ y, bs[i]? = some y → y.1 ≠ b := by
    intro i hi hne y hy e
    have h1 := E.apart
    rw [List.nodup_iff_pairwise_ne, List.pairwise_map, List.pairwise_iff_getElem] at h1
    have hy' := (List.getElem?_eq_some_iff.1 hy).2
    have hk' := (List.getElem?_eq_some_iff.1 hk).2
    rcases Nat.lt_or_gt_of_ne hne with h | h
    · have := h1 i k hi hkl h
      rw [hy', hk'] at this
      exact this e
    · have := h1 k i hkl hi h
      rw [hy', hk'] at this
      exact this e.symm
  refine ⟨putFrom_below (E.boxes _ hm).1 us 0 _ _ E.below, fun x hx => ?_, ?_⟩
  · obtain ⟨i, hi, e⟩ := List.mem_iff_getElem.1 hx
    rw [List.getElem_set] at e
    split at e
    · subst e
      exact ⟨(E.boxes _ hm).1, (E.boxes _ hm).2.same hl ht hF⟩
    · rename_i hne
      have hi' : i < bs.length := by simpa using hi
      have hx' : bs[i]? = some x := by rw [List.getElem?_eq_getElem hi', e]
      have hxm := List.mem_of_getElem? hx'
      exact ⟨(E.boxes _ hxm).1, (E.boxes _ hxm).2.other (E.boxes _ hm).2 (hap i hi' (fun h => hne h.symm) x hx') hl⟩
  · have e : (bs.set k (b, m, F')).map (·.1) = bs.map (·.1) := by
      apply List.ext_getElem?
      intro i
      rw [List.getElem?_map, List.getElem?_map, List.getElem?_set]
      split
      · rename_i h
        subst h
        simp [hkl]
        exact (congrArg (·.1) (List.getElem?_eq_some_iff.1 hk).2).symm
      · rfl
    rw [e]
    exact E.apart
theorem oldOf_of {bs : List (Nat × Nat × Fq)} {ks : List (Option (Nat × Fq))} {d : Nat} (hl : ks.length = bs.length) : ∀ x ∈ bs, ∃ o ∈ oldOf bs ks d, o.b = x.1 ∧ o.m = x.2.1 ∧ o.F0 = x.2.2 := by
  induction bs generalizing ks d with
  | nil => intro x hx; simp at hx
  | cons y r ih =>
    obtain ⟨b, m, F⟩ := y
    cases ks with
    | nil => simp at hl
    | cons k ks =>
      have hl' : ks.length = r.length := by simpa using hl
      intro x hx
      rcases List.mem_cons.1 hx with rfl | hx
      · cases k with
        | none => exact ⟨_, by simp only [oldOf]; exact List.mem_cons_self .., rfl, rfl, rfl⟩
        | some kk => obtain ⟨k, F1⟩ := kk; exact ⟨_, by simp only [oldOf]; exact List.mem_cons_self .., rfl, rfl, rfl⟩
      · cases k with
        | none => obtain ⟨o, ho, h⟩ := ih (ks := ks) hl' x hx; exact ⟨o, by simp only [oldOf]; exact List.mem_cons_of_mem _ ho, h⟩
        | some kk => obtain ⟨k, F1⟩ := kk; obtain ⟨o, ho, h⟩ := ih (ks := ks) hl' x hx; exact ⟨o, by simp only [oldOf]; exact List.mem_cons_of_mem _ ho, h⟩
/-- In the midst of a region that changes no box: the frame. -/
theorem fr_of_G {w0 W w : World} {C : List Fq} {bs : List (Nat × Nat × Fq)} {ks : List (Option (Nat × Fq))} {new : List Nb} {len : Nat} {L : Nat → Bool} {vs : Nat → Value} (E : Fr w0 bs W) (hG : (plq C bs ks new len).G w0.heap.size W.heap.size w0 L vs w) (hl : ks.length = bs.length) (hs : ∀ o ∈ (plq C bs ks new len).old, o.F1 = o.F0) : Fr w0 bs w := by
  refine ⟨hG.below, fun x hx => ?_, E.apart⟩
  obtain ⟨o, ho, h1, h2, h3⟩ := oldOf_of (d := len) hl x hx
  have hB := hG.old o ho
  rw [hs o ho, ite_self, h1, h2, h3] at hB
  exact ⟨(E.boxes x hx).1, hB⟩
theorem Fr.later {w0 W W' : World} {bs : List (Nat × Nat × Fq)} (E : Fr w0 bs W) (hb : Below W.heap.size W W') : Fr w0 bs W' := ⟨E.below.trans (hb.mono E.below.size), fun x hx => ⟨(E.boxes x hx).1, (E.boxes x hx).2.mono hb⟩, E.apart⟩

theorem ta_int (X : TypeId) (v : Value) (w : World) : (Instr.typeAssert (.iface 29 v) X 29 true).run Try.prog w = .ok (.tuple #[v, .bool true]) w := by
  simp [Instr.typeAssert, go_sem]
set_option maxRecDepth 20000 in
theorem times_catch (bd be : Nat) (n : Bool) (ao : Option Addr) (k c : Nat) (older : List PanicEntry) (w : World) (hne : bd ≠ be) {x0 y0 e0 : Value} (h0 : w.cell? ⟨bd, 0, none⟩ = some x0) (h1 : w.cell? ⟨bd, 1, none⟩ = some y0) (h2 : w.cell? ⟨be, 0, none⟩ = some e0) (f0 : w.frozen? ⟨bd, 0, none⟩ = false) (f1 : w.frozen? ⟨bd, 1, none⟩ = false) (f2 : w.frozen? ⟨be, 0, none⟩ = false) :
    CallsD Try.prog 65 #[.pointer (some ⟨bd, 0, none⟩), .pointer (some ⟨be, 0, none⟩)] (.panicking ({ v := .iface 29 (.agg #[.bool n, .slice ao k c]), recovered := false } :: older)) w fun e u' w' =>
      e = .returned (.tuple #[]) ∧ u' = .panicking ({ v := .iface 29 (.agg #[.bool n, .slice ao k c]), recovered := true } :: older) ∧ w' = putFrom (putFrom w bd 0 [.bool n, .slice ao k c]) be 0 [.int .i64 6] := by
  refine callsD_of_wpS Try.func65 rfl fun c₀ cs hu => ?_
  apply wpS_seq
  apply wpS_region
  simp [wpOpsS, go_sem, recoverD, hu, Try.ntmps65, Exit.thenS]
  apply wpS_seq
  apply wpS_region
  simp [wpOpsS, go_sem, Exit.thenS]
  refine wpS_cond (t := true) (by simp [Act.eval, Array.replicate]) ?_
  simp only [if_true]
  refine wpS_of_wp ?_
  have hta := fun X => ta_int X (.agg #[.bool n, .slice ao k c]) w
  simp only [Array.replicate, List.replicate]
  go_wp2
  simp [bodyPostS, results, Try.results65, putFrom]
set_option maxRecDepth 20000 in
theorem times_idle (bd be : Nat) (w : World) :
    CallsD Try.prog 65 #[.pointer (some ⟨bd, 0, none⟩), .pointer (some ⟨be, 0, none⟩)] .returning w fun e u' w' => e = .returned (.tuple #[]) ∧ u' = .returning ∧ w' = w := by
  refine callsD_of_wpS Try.func65 rfl fun c₀ cs hu => ?_
  apply wpS_seq
  apply wpS_region
  simp [wpOpsS, go_sem, recoverD, hu, Try.ntmps65, Exit.thenS]
  apply wpS_seq
  apply wpS_region
  simp [wpOpsS, go_sem, Exit.thenS]
  refine wpS_cond (t := false) (by simp [Act.eval, Array.replicate]) ?_
  simp only [Bool.false_eq_true, if_false]
  refine wpS_of_wp (wp_skip ?_)
  cases c₀
  simp_all [bodyPostS, results, Try.results65]
end Go.Proofs.Ytpkeeacdkkmknaa

/- Walk: package point: Times. -/
namespace Go.Proofs.Ytpkeeacdkkmknaa
open Go Go.RowKit

theorem fits0_api_Errno (w : World) : Fits w [.v (.int .i64 0)] [.int .i64 0] := ⟨_, rfl, rfl, rfl⟩
theorem fits0P_api_Errno (w : World) : (Fq.st [.v (.int .i64 0)]).P (.agg ([.int .i64 0] : List Value).toArray) w := ⟨_, rfl, fits0_api_Errno w⟩
/-- The multiple by any number. -/
noncomputable def timesP (A M : Int) (P : Pt) (n : Int) : Pt × Int := xjP A M (if n < 0 then oppP M P else P) n.natAbs (nbits n) 0
theorem oppP_ok {M : Int} {P : Pt} (hP : P.Ok M) : (oppP M P).Ok M := by
  have h0 : 0 < M := by have := hP.1; have := hP.2.1; omega
  unfold oppP
  split
  · exact ⟨by show (0 : Int) ≤ 0; omega, h0, by show (0 : Int) ≤ 0; omega, h0⟩
  · exact ⟨hP.1, hP.2.1, Int.emod_nonneg _ (by omega), Int.emod_lt_of_pos _ h0⟩
theorem make_func (fn : Fn) (first cap : Array Value) (w : World) : (Instr.makeFunc fn first cap).run Try.prog w = .ok (.func fn first cap) w := rfl
theorem box_free {w : World} {b m : Nat} {F : Fq} (h : Bq w b m F) (j : Nat) (hj : j < m) : w.frozen? ⟨b, j, none⟩ = false := by
  obtain ⟨us, h1, _, h3, _⟩ := h
  exact (h3 j (by omega)).2
set_option maxRecDepth 20000 in
theorem times_results {A9 : Act} {w : World} {b6 b7 b8 : Nat} {p0 p1 p2 p3 p4 d0 d1 q0 : Value} (t6 : A9.eval (.tmp 6) = .pointer (some ⟨b6, 0, none⟩)) (t7 : A9.eval (.tmp 7) = .pointer (some ⟨b7, 0, none⟩)) (t8 : A9.eval (.tmp 8) = .pointer (some ⟨b8, 0, none⟩))
    (c0 : w.cell? ⟨b6, 0, none⟩ = some p0) (c1 : w.cell? ⟨b6, 1, none⟩ = some p1) (c2 : w.cell? ⟨b6, 2, none⟩ = some p2) (c3 : w.cell? ⟨b6, 3, none⟩ = some p3) (c4 : w.cell? ⟨b6, 4, none⟩ = some p4) (e0 : w.cell? ⟨b7, 0, none⟩ = some d0) (e1 : w.cell? ⟨b7, 1, none⟩ = some d1) (g0 : w.cell? ⟨b8, 0, none⟩ = some q0) :
    (results Try.f39 A9.tmps).run Try.prog w = .ok (.tuple #[.agg #[p0, p1, p2, p3, p4], .agg #[d0, d1], q0]) w := by
  simp [Act.eval] at t6 t7 t8
  simp [results, Try.results39, go_sem, t6, t7, t8, c0, c1, c2, c3, c4, e0, e1, g0]
set_option maxRecDepth 100000 in
set_option maxHeartbeats 4000000 in
theorem exTimesE {w : World} {v v' u : Value} {A B M n : Int} {P : Pt} (h : (Fq.st [.n A, .n B, .n M]).P v w) (h' : Num w v' n) (g : (Fq.pt P).P u w) (hM : ab M < pw 5) (hA : ab A < pw 5) (hB : ab B < pw 5) (hn : ab n < pw 20) (hP : ab P.x < pw 5 ∧ ab P.y < pw 5) (ht : onB A B M P.x P.y P.i = false) :
    Calls Try.prog 39 #[v, v', u] w fun e w' => ∃ v', e = .returned v' ∧ Below w.heap.size w w' ∧ (Fq.tup3 (Fq.pt ⟨0, 0, false⟩) (Fq.num 0) (Fq.is (.int .i64 1))).P v' w' := by
  replace hM := hidd hM
  replace hA := hidd hA
  replace hB := hidd hB
  replace hn := hidd hn
  replace hP := hidd hP
  replace ht := hidd ht
  obtain ⟨_, rfl, hf0⟩ := h
  have hF0 := hf0
  obtain ⟨y0_p0, y0_q0, _, rfl, _y0_n0, y0_p1, y0_q1, _, rfl, _y0_n1, y0_p2, y0_q2, _, rfl, _y0_n2, rfl⟩ := hf0
  obtain ⟨n1, ao1, k1, c1, rfl⟩ := h'.parts
  obtain ⟨_, rfl, hf2⟩ := g
  have hF2 := hf2
  obtain ⟨y2_p0, y2_q0, _, rfl, _y2_n0, y2_p1, y2_q1, _, rfl, _y2_n1, _, rfl, _, rfl⟩ := hf2
  obtain ⟨w1, b1, hw1, hb1, hs1, E⟩ := fr_start w (F := Fq.st [.n A, .n B, .n M]) (us := [y0_p0, y0_q0, y0_p1, y0_q1, y0_p2, y0_q2]) 31 rfl (by simp) (hF0.tame) (show (Fq.st [.n A, .n B, .n M]).P _ w from ⟨_, rfl, hF0⟩)
  obtain ⟨w2, b2, hw2, hb2, hs2, E⟩ := fr_more E hs1 (F := Fq.num n) (us := [.bool n1, .slice ao1 k1 c1]) 29 rfl (by simp) (tame_int _ _ _ _) (h'.mono E.below)
  obtain ⟨w3, b3, hw3, hb3, hs3, E⟩ := fr_more E hs2 (F := Fq.st [.n P.x, .n P.y, .v (.bool P.i)]) (us := [y2_p0, y2_q0, y2_p1, y2_q1, .bool P.i]) 37 rfl (by simp) (hF2.tame) ((Fq.st [.n P.x, .n P.y, .v (.bool P.i)]).mono (show (Fq.st [.n P.x, .n P.y, .v (.bool P.i)]).P _ w from ⟨_, rfl, hF2⟩) E.below)
  obtain ⟨w4, b4, hw4, hb4, hs4, E⟩ := fr_more E hs3 (F := Fq.st [.n 0, .n 0, .v (.bool false)]) (us := [.bool false, .slice none 0 0, .bool false, .slice none 0 0, .bool false]) 37 rfl (by simp) ((Fits.tame (fits0_api_Point w))) (fits0P_api_Point _)
  obtain ⟨w5, b5, hw5, hb5, hs5, E⟩ := fr_more E hs4 (F := Fq.num 0) (us := [.bool false, .slice none 0 0]) 29 rfl (by simp) (tame_int _ _ _ _) (Num.zero _)
  obtain ⟨w6, b6, hw6, hb6, hs6, E⟩ := fr_more E hs5 (F := Fq.st [.v (.int .i64 0)]) (us := [.int .i64 0]) 39 rfl (by simp) ((Fits.tame (fits0_api_Errno w))) (fits0P_api_Errno _)
  go_enter_defers Try.func39, Try.ntmps39
  go_upto_region 1 with (fail)
  rw [← hw1]
  rw [← hw2]
  rw [← hw3]
  rw [← hw4]
  rw [← hw5]
  rw [← hw6]
  rw [← hb6]
  rw [← hb5]
  rw [← hb4]
  rw [← hb3]
  rw [← hb2]
  rw [← hb1]
  clear hw1 hw2 hw3 hw4 hw5 hw6 hb1 hb2 hb3 hb4 hb5 hb6 hs6 hs1 hs2 hs3 hs4 hs5
  refine region_fr (C := [Fq.st [.n A, .n B, .n M], Fq.st [.n P.x, .n P.y, .v (.bool P.i)], Fq.is (.bool false), Fq.is (.bool true)]) (ks := [none, none, none, none, none, none]) (new := []) E rfl (by kernel_rfl) rfl rfl (fun hp => ⟨?_, ?_, ?_, ?_, trivial⟩) ?_
  · exact q_loadSt (off := 0) (l := 6) (fs := [.n A, .n B, .n M]) (gs := [.n A, .n B, .n M]) hp (free_of rfl) trivial (List.mem_iff_getElem?.2 ⟨5, rfl⟩) (.inl rfl) rfl row_api_Mod rfl (sq_out (s := 3) rfl rfl (fun _ _ => rfl)) (fun v w h => h)
  · exact q_loadSt (off := 0) (l := 5) (fs := [.n P.x, .n P.y, .v (.bool P.i)]) (gs := [.n P.x, .n P.y, .v (.bool P.i)]) hp (free_of rfl) trivial (List.mem_iff_getElem?.2 ⟨3, rfl⟩) (.inl rfl) rfl row_api_Point rfl (sq_out (s := 5) rfl rfl (fun _ _ => rfl)) (fun v w h => h)
  · exact q_call2 (F := (Fq.st [.n A, .n B, .n M]).P) (G := (Fq.st [.n P.x, .n P.y, .v (.bool P.i)]).P) hp (free_of rfl) trivial (enq_f_algorist_point_On) (sq_in 0 rfl rfl (by simp) rfl (fun v w h => h)) (sq_in 1 rfl rfl (by simp) rfl (fun v w h => h)) (fun v v' w h h' => exOn h h' hM.out hA.out hB.out hP.out.1 hP.out.2 ht.out)
  · exact q_one (F := fun v _ => v = .bool false) hp (free_of rfl) trivial (sq_in 2 rfl rfl (by simp) rfl (fun v w h => h)) (fun ρ w _ h => ⟨.bool true, by simp [execOp, go_sem, h], rfl⟩)
  intro L vs w7 nb hL hC hn E7
  have e2 : vs 2 = .bool false := hC 2 (by simp)
  have e3 : vs 3 = .bool true := hC 3 (by simp)
  have E : Fr w [(b6, 1, Fq.st [.v (.int .i64 0)]), (b5, 2, Fq.num 0), (b4, 5, Fq.st [.n 0, .n 0, .v (.bool false)]), (b3, 5, Fq.st [.n P.x, .n P.y, .v (.bool P.i)]), (b2, 2, Fq.num n), (b1, 6, Fq.st [.n A, .n B, .n M])] w7 := E7
  rw [lay_all hL]
  simp only [putAll, dstOf, List.length_cons, List.length_nil, Nat.zero_add, Nat.reduceAdd, List.getElem?_toArray, List.getElem?_cons_zero, List.getElem?_cons_succ, Option.bind_some, Act.put, List.setIfInBounds_toArray, List.set_cons_succ, List.set_cons_zero]
  rw [e2, e3]
  generalize vs 0 = u7_0
  generalize vs 1 = u7_1
  clear e2 e3 hC hn E7 hL vs L nb
  go_upto_region 2 with (fail)
  refine region_fr (C := [Fq.st [.n 0, .n 0, .v (.bool false)], Fq.num 0, Fq.any, Fq.any, Fq.any]) (ks := [some (4, Fq.st [.v (.int .i64 1)]), some (3, Fq.num 0), some (2, Fq.st [.n 0, .n 0, .v (.bool false)]), none, none, none]) (new := []) E rfl (by kernel_rfl) rfl rfl (fun hp => ⟨?_, ?_, ?_, ?_, ?_, trivial⟩) ?_
  · exact q_build_api_Point_ hp (free_of rfl) trivial (fun v w h => h)
  · exact q_zeroInt hp (free_of rfl) trivial (fun w => Num.zero w)
  · exact q_storeOldSt (off := 0) (fs := [.n 0, .n 0, .v (.bool false)]) (gs := [.n 0, .n 0, .v (.bool false)]) (fs' := [.n 0, .n 0, .v (.bool false)]) hp (List.mem_iff_getElem?.2 ⟨2, rfl⟩) rfl rfl rfl size_api_Point rfl (sq_out (s := 6) rfl rfl (fun _ _ => rfl)) (sq_in 0 rfl rfl (by simp) rfl (fun v w h => fitv_st h)) (fun _ _ => trivial) (newik_ne rfl)
  · exact q_storeOldInt hp (List.mem_iff_getElem?.2 ⟨1, rfl⟩) rfl rfl (sq_out (s := 7) rfl rfl (fun _ _ => rfl)) (sq_in 1 rfl rfl (by simp) rfl (fun v w h => intV_num h)) (fun _ _ => trivial) (newik_ne rfl)
  · exact q_storeOldSt (off := 0) (fs := [.v (.int .i64 0)]) (gs := [.v (.int .i64 1)]) (fs' := [.v (.int .i64 1)]) hp (List.mem_iff_getElem?.2 ⟨0, rfl⟩) rfl rfl rfl size_api_Errno rfl (sq_out (s := 8) rfl rfl (fun _ _ => rfl)) (sq_const (fun _ => fitv_is rfl rfl)) (fun _ _ => trivial) (newik_ne rfl)
  intro L vs w8 nb hL hC hn E8
  have E : Fr w [(b6, 1, Fq.st [.v (.int .i64 1)]), (b5, 2, Fq.num 0), (b4, 5, Fq.st [.n 0, .n 0, .v (.bool false)]), (b3, 5, Fq.st [.n P.x, .n P.y, .v (.bool P.i)]), (b2, 2, Fq.num n), (b1, 6, Fq.st [.n A, .n B, .n M])] w8 := E8
  rw [lay_all hL]
  simp only [putAll, dstOf, List.length_cons, List.length_nil, Nat.zero_add, Nat.reduceAdd, List.getElem?_toArray, List.getElem?_cons_zero, List.getElem?_cons_succ, Option.bind_some, Act.put, List.setIfInBounds_toArray, List.set_cons_succ, List.set_cons_zero]
  generalize vs 0 = u8_0
  generalize vs 1 = u8_1
  clear  hC hn E8 hL vs L nb
  obtain ⟨_, _, hcr, hfr⟩ := box_st (E.box 2 rfl)
  have hRr := hfr
  obtain ⟨r_p0, r_q0, _, rfl, _r_n0, r_p1, r_q1, _, rfl, _r_n1, _, rfl, _, rfl⟩ := hfr
  have cr0 := hcr 0 (by simp)
  have cr1 := hcr 1 (by simp)
  have cr2 := hcr 2 (by simp)
  have cr3 := hcr 3 (by simp)
  have cr4 := hcr 4 (by simp)
  simp only [List.getD_cons_zero, List.getD_cons_succ] at cr0 cr1 cr2 cr3 cr4
  clear hcr
  obtain ⟨d0, d1, e0, e1, hD⟩ := box_num (E.box 1 rfl)
  obtain ⟨_, _, hcq, hfq⟩ := box_st (E.box 0 rfl)
  have hRq := hfq
  obtain ⟨_, rfl, _, rfl⟩ := hfq
  have cq0 := hcq 0 (by simp)
  simp only [List.getD_cons_zero] at cq0
  clear hcq
  clear hM hA hB hn hP
  clear ht
  go_wp2
  simp only [bodyPostD, Leaves]
  refine ⟨.tuple #[.agg #[r_p0, r_q0, r_p1, r_q1, .bool false], .agg #[d0, d1], .int .i64 1], ?_, _, rfl, E.below, _, _, _, rfl, ⟨_, rfl, hRr⟩, hD, rfl⟩
  simp [results, Try.results39, go_sem, cr0, cr1, cr2, cr3, cr4, e0, e1, cq0]

set_option maxRecDepth 100000 in
set_option maxHeartbeats 4000000 in
theorem exTimes00 {w : World} {v v' u : Value} {A B M n : Int} {P : Pt} (h : (Fq.st [.n A, .n B, .n M]).P v w) (h' : Num w v' n) (g : (Fq.pt P).P u w) (hM : ab M < pw 5) (hA : ab A < pw 5) (hB : ab B < pw 5) (hn : ab n < pw 20) (hP : ab P.x < pw 5 ∧ ab P.y < pw 5) (ht : onB A B M P.x P.y P.i = true) {T : Pt × Int} (hT : timesP A M P n = T) (hneg : ¬ n < 0) (hd :  T.2 = 0) :
    Calls Try.prog 39 #[v, v', u] w fun e w' => ∃ v', e = .returned v' ∧ Below w.heap.size w w' ∧ (Fq.tup3 (Fq.pt T.1) (Fq.num 0) (Fq.is (.int .i64 0))).P v' w' := by
  replace hM := hidd hM
  replace hA := hidd hA
  replace hB := hidd hB
  replace hn := hidd hn
  replace hP := hidd hP
  replace ht := hidd ht
  obtain ⟨T, dT⟩ := T
  have HPO := hidd (onB_ok ht.out).1
  have T1 : Hid (¬ cmpI n 0 < 0) := fun e => hneg (cmpIqlt.1 e)
  unfold timesP at hT
  rw [if_neg hneg] at hT
  have HT := hidd hT
  clear hneg hT
  have hd0 : dT = 0 := hd
  subst hd0
  clear hd
  obtain ⟨_, rfl, hf0⟩ := h
  have hF0 := hf0
  obtain ⟨y0_p0, y0_q0, _, rfl, _y0_n0, y0_p1, y0_q1, _, rfl, _y0_n1, y0_p2, y0_q2, _, rfl, _y0_n2, rfl⟩ := hf0
  obtain ⟨n1, ao1, k1, c1, rfl⟩ := h'.parts
  obtain ⟨_, rfl, hf2⟩ := g
  have hF2 := hf2
  obtain ⟨y2_p0, y2_q0, _, rfl, _y2_n0, y2_p1, y2_q1, _, rfl, _y2_n1, _, rfl, _, rfl⟩ := hf2
  obtain ⟨w1, b1, hw1, hb1, hs1, E⟩ := fr_start w (F := Fq.st [.n A, .n B, .n M]) (us := [y0_p0, y0_q0, y0_p1, y0_q1, y0_p2, y0_q2]) 31 rfl (by simp) (hF0.tame) (show (Fq.st [.n A, .n B, .n M]).P _ w from ⟨_, rfl, hF0⟩)
  obtain ⟨w2, b2, hw2, hb2, hs2, E⟩ := fr_more E hs1 (F := Fq.num n) (us := [.bool n1, .slice ao1 k1 c1]) 29 rfl (by simp) (tame_int _ _ _ _) (h'.mono E.below)
  obtain ⟨w3, b3, hw3, hb3, hs3, E⟩ := fr_more E hs2 (F := Fq.st [.n P.x, .n P.y, .v (.bool P.i)]) (us := [y2_p0, y2_q0, y2_p1, y2_q1, .bool P.i]) 37 rfl (by simp) (hF2.tame) ((Fq.st [.n P.x, .n P.y, .v (.bool P.i)]).mono (show (Fq.st [.n P.x, .n P.y, .v (.bool P.i)]).P _ w from ⟨_, rfl, hF2⟩) E.below)
  obtain ⟨w4, b4, hw4, hb4, hs4, E⟩ := fr_more E hs3 (F := Fq.st [.n 0, .n 0, .v (.bool false)]) (us := [.bool false, .slice none 0 0, .bool false, .slice none 0 0, .bool false]) 37 rfl (by simp) ((Fits.tame (fits0_api_Point w))) (fits0P_api_Point _)
  obtain ⟨w5, b5, hw5, hb5, hs5, E⟩ := fr_more E hs4 (F := Fq.num 0) (us := [.bool false, .slice none 0 0]) 29 rfl (by simp) (tame_int _ _ _ _) (Num.zero _)
  obtain ⟨w6, b6, hw6, hb6, hs6, E⟩ := fr_more E hs5 (F := Fq.st [.v (.int .i64 0)]) (us := [.int .i64 0]) 39 rfl (by simp) ((Fits.tame (fits0_api_Errno w))) (fits0P_api_Errno _)
  go_enter_defers Try.func39, Try.ntmps39
  go_upto_region 1 with (fail)
  rw [← hw1]
  rw [← hw2]
  rw [← hw3]
  rw [← hw4]
  rw [← hw5]
  rw [← hw6]
  rw [← hb6]
  rw [← hb5]
  rw [← hb4]
  rw [← hb3]
  rw [← hb2]
  rw [← hb1]
  clear hw1 hw2 hw3 hw4 hw5 hw6 hb1 hb2 hb3 hb4 hb5 hb6 hs6 hs1 hs2 hs3 hs4 hs5
  refine region_fr (C := [Fq.st [.n A, .n B, .n M], Fq.st [.n P.x, .n P.y, .v (.bool P.i)], Fq.is (.bool true), Fq.is (.bool false)]) (ks := [none, none, none, none, none, none]) (new := []) E rfl (by kernel_rfl) rfl rfl (fun hp => ⟨?_, ?_, ?_, ?_, trivial⟩) ?_
  · exact q_loadSt (off := 0) (l := 6) (fs := [.n A, .n B, .n M]) (gs := [.n A, .n B, .n M]) hp (free_of rfl) trivial (List.mem_iff_getElem?.2 ⟨5, rfl⟩) (.inl rfl) rfl row_api_Mod rfl (sq_out (s := 3) rfl rfl (fun _ _ => rfl)) (fun v w h => h)
  · exact q_loadSt (off := 0) (l := 5) (fs := [.n P.x, .n P.y, .v (.bool P.i)]) (gs := [.n P.x, .n P.y, .v (.bool P.i)]) hp (free_of rfl) trivial (List.mem_iff_getElem?.2 ⟨3, rfl⟩) (.inl rfl) rfl row_api_Point rfl (sq_out (s := 5) rfl rfl (fun _ _ => rfl)) (fun v w h => h)
  · exact q_call2 (F := (Fq.st [.n A, .n B, .n M]).P) (G := (Fq.st [.n P.x, .n P.y, .v (.bool P.i)]).P) hp (free_of rfl) trivial (enq_f_algorist_point_On) (sq_in 0 rfl rfl (by simp) rfl (fun v w h => h)) (sq_in 1 rfl rfl (by simp) rfl (fun v w h => h)) (fun v v' w h h' => exOn h h' hM.out hA.out hB.out hP.out.1 hP.out.2 ht.out)
  · exact q_one (F := fun v _ => v = .bool true) hp (free_of rfl) trivial (sq_in 2 rfl rfl (by simp) rfl (fun v w h => h)) (fun ρ w _ h => ⟨.bool false, by simp [execOp, go_sem, h], rfl⟩)
  intro L vs w7 nb hL hC hn E7
  have e2 : vs 2 = .bool true := hC 2 (by simp)
  have e3 : vs 3 = .bool false := hC 3 (by simp)
  have E : Fr w [(b6, 1, Fq.st [.v (.int .i64 0)]), (b5, 2, Fq.num 0), (b4, 5, Fq.st [.n 0, .n 0, .v (.bool false)]), (b3, 5, Fq.st [.n P.x, .n P.y, .v (.bool P.i)]), (b2, 2, Fq.num n), (b1, 6, Fq.st [.n A, .n B, .n M])] w7 := E7
  rw [lay_all hL]
  simp only [putAll, dstOf, List.length_cons, List.length_nil, Nat.zero_add, Nat.reduceAdd, List.getElem?_toArray, List.getElem?_cons_zero, List.getElem?_cons_succ, Option.bind_some, Act.put, List.setIfInBounds_toArray, List.set_cons_succ, List.set_cons_zero]
  rw [e2, e3]
  generalize vs 0 = u7_0
  generalize vs 1 = u7_1
  clear e2 e3 hC hn E7 hL vs L nb
  have hmf := make_func
  go_upto_region 4 with (fail)
  clear hmf
  refine region_fr (C := [Fq.num n, Fq.is (.int .i64 (cmpI n 0)), Fq.is (.bool false)]) (ks := [none, none, none, none, none, none]) (new := []) E rfl (by kernel_rfl) rfl rfl (fun hp => ⟨?_, ?_, ?_, trivial⟩) ?_
  · exact q_loadInt (off := 0) hp (free_of rfl) trivial (List.mem_iff_getElem?.2 ⟨4, rfl⟩) (.inl rfl) (Nat.le_of_ble_eq_true rfl) (sq_out (s := 4) rfl rfl (fun _ _ => rfl)) (fun us w hl h => ld_num hl h)
  · exact q_call1 (F := (Fq.num n).P) hp (free_of rfl) trivial (enq_Sign) (sq_in 0 rfl rfl (by simp) rfl (fun v w h => h)) (fun v w h => exSign h)
  · exact q_one (F := fun v _ => v = .int .i64 (cmpI n 0)) hp (free_of rfl) trivial (sq_in 1 rfl rfl (by simp) rfl (fun v w h => h)) (fun ρ w hc h => ⟨.bool false, by simp [execOp, go_sem, h, hc, T1.out], rfl⟩)
  intro L vs w8 nb hL hC hn E8
  have e1 : vs 1 = .int .i64 (cmpI n 0) := hC 1 (by simp)
  have e2 : vs 2 = .bool false := hC 2 (by simp)
  have E : Fr w [(b6, 1, Fq.st [.v (.int .i64 0)]), (b5, 2, Fq.num 0), (b4, 5, Fq.st [.n 0, .n 0, .v (.bool false)]), (b3, 5, Fq.st [.n P.x, .n P.y, .v (.bool P.i)]), (b2, 2, Fq.num n), (b1, 6, Fq.st [.n A, .n B, .n M])] w8 := E8
  rw [lay_all hL]
  simp only [putAll, dstOf, List.length_cons, List.length_nil, Nat.zero_add, Nat.reduceAdd, List.getElem?_toArray, List.getElem?_cons_zero, List.getElem?_cons_succ, Option.bind_some, Act.put, List.setIfInBounds_toArray, List.set_cons_succ, List.set_cons_zero]
  rw [e1, e2]
  generalize vs 0 = u8_0
  clear e1 e2 hC hn E8 hL vs L nb
  clear T1
  go_upto_region 6 with (fail)
  refine region_fr (C := [Fq.st [.n A, .n B, .n M], Fq.num n, Fq.st [.n P.x, .n P.y, .v (.bool P.i)], Fq.st [.n T.x, .n T.y, .v (.bool T.i)], Fq.num 0, Fq.any, Fq.any, Fq.any]) (ks := [some (7, Fq.st [.v (.int .i64 0)]), some (6, Fq.num 0), some (5, Fq.st [.n T.x, .n T.y, .v (.bool T.i)]), none, none, none]) (new := []) E rfl (by kernel_rfl) rfl rfl (fun hp => ⟨?_, ?_, ?_, ?_, ?_, ?_, ?_, ?_, trivial⟩) ?_
  · exact q_loadSt (off := 0) (l := 6) (fs := [.n A, .n B, .n M]) (gs := [.n A, .n B, .n M]) hp (free_of rfl) trivial (List.mem_iff_getElem?.2 ⟨5, rfl⟩) (.inl rfl) rfl row_api_Mod rfl (sq_out (s := 3) rfl rfl (fun _ _ => rfl)) (fun v w h => h)
  · exact q_loadInt (off := 0) hp (free_of rfl) trivial (List.mem_iff_getElem?.2 ⟨4, rfl⟩) (.inl rfl) (Nat.le_of_ble_eq_true rfl) (sq_out (s := 4) rfl rfl (fun _ _ => rfl)) (fun us w hl h => ld_num hl h)
  · exact q_loadSt (off := 0) (l := 5) (fs := [.n P.x, .n P.y, .v (.bool P.i)]) (gs := [.n P.x, .n P.y, .v (.bool P.i)]) hp (free_of rfl) trivial (List.mem_iff_getElem?.2 ⟨3, rfl⟩) (.inl rfl) rfl row_api_Point rfl (sq_out (s := 5) rfl rfl (fun _ _ => rfl)) (fun v w h => h)
  · exact q_call3 (F := (Fq.st [.n A, .n B, .n M]).P) (G := (Fq.num n).P) (F3 := (Fq.st [.n P.x, .n P.y, .v (.bool P.i)]).P) hp (free_of rfl) trivial (enq_f_algorist_point_multiple) (sq_in 0 rfl rfl (by simp) rfl (fun v w h => h)) (sq_in 1 rfl rfl (by simp) rfl (fun v w h => h)) (sq_in 2 rfl rfl (by simp) rfl (fun v w h => h)) (fun v v' u w h h' g => (exMultiple h h' g hM.out hA.out hn.out HPO.out HT.out).mono fun e w' hh => by
      obtain ⟨hb, hh⟩ := hh
      rcases hh with ⟨_, v2, he, hp9⟩ | ⟨hd9, _⟩
      · exact ⟨v2, he, hb, hp9⟩
      · exact absurd rfl hd9)
  · exact q_zeroInt hp (free_of rfl) trivial (fun w => Num.zero w)
  · exact q_storeOldSt (off := 0) (fs := [.n 0, .n 0, .v (.bool false)]) (gs := [.n T.x, .n T.y, .v (.bool T.i)]) (fs' := [.n T.x, .n T.y, .v (.bool T.i)]) hp (List.mem_iff_getElem?.2 ⟨2, rfl⟩) rfl rfl rfl size_api_Point rfl (sq_out (s := 6) rfl rfl (fun _ _ => rfl)) (sq_in 3 rfl rfl (by simp) rfl (fun v w h => fitv_st h)) (fun _ _ => trivial) (newik_ne rfl)
  · exact q_storeOldInt hp (List.mem_iff_getElem?.2 ⟨1, rfl⟩) rfl rfl (sq_out (s := 7) rfl rfl (fun _ _ => rfl)) (sq_in 4 rfl rfl (by simp) rfl (fun v w h => intV_num h)) (fun _ _ => trivial) (newik_ne rfl)
  · exact q_storeOldSt (off := 0) (fs := [.v (.int .i64 0)]) (gs := [.v (.int .i64 0)]) (fs' := [.v (.int .i64 0)]) hp (List.mem_iff_getElem?.2 ⟨0, rfl⟩) rfl rfl rfl size_api_Errno rfl (sq_out (s := 8) rfl rfl (fun _ _ => rfl)) (sq_const (fun _ => fitv_is rfl rfl)) (fun _ _ => trivial) (newik_ne rfl)
  intro L vs w9 nb hL hC hn E9
  have E : Fr w [(b6, 1, Fq.st [.v (.int .i64 0)]), (b5, 2, Fq.num 0), (b4, 5, Fq.st [.n T.x, .n T.y, .v (.bool T.i)]), (b3, 5, Fq.st [.n P.x, .n P.y, .v (.bool P.i)]), (b2, 2, Fq.num n), (b1, 6, Fq.st [.n A, .n B, .n M])] w9 := E9
  rw [lay_all hL]
  simp only [putAll, dstOf, List.length_cons, List.length_nil, Nat.zero_add, Nat.reduceAdd, List.getElem?_toArray, List.getElem?_cons_zero, List.getElem?_cons_succ, Option.bind_some, Act.put, List.setIfInBounds_toArray, List.set_cons_succ, List.set_cons_zero]
  generalize vs 0 = u9_0
  generalize vs 1 = u9_1
  generalize vs 2 = u9_2
  generalize vs 3 = u9_3
  generalize vs 4 = u9_4
  clear  hC hn E9 hL vs L nb
  obtain ⟨_, _, hcr, hfr⟩ := box_st (E.box 2 rfl)
  have hRr := hfr
  obtain ⟨r_p0, r_q0, _, rfl, _r_n0, r_p1, r_q1, _, rfl, _r_n1, _, rfl, _, rfl⟩ := hfr
  have cr0 := hcr 0 (by simp)
  have cr1 := hcr 1 (by simp)
  have cr2 := hcr 2 (by simp)
  have cr3 := hcr 3 (by simp)
  have cr4 := hcr 4 (by simp)
  simp only [List.getD_cons_zero, List.getD_cons_succ] at cr0 cr1 cr2 cr3 cr4
  clear hcr
  obtain ⟨d0, d1, e0, e1, hD⟩ := box_num (E.box 1 rfl)
  obtain ⟨_, _, hcq, hfq⟩ := box_st (E.box 0 rfl)
  have hRq := hfq
  obtain ⟨_, rfl, _, rfl⟩ := hfq
  have cq0 := hcq 0 (by simp)
  simp only [List.getD_cons_zero] at cq0
  clear hcq
  clear hM hA hB hn hP
  clear ht HPO HT
  go_wp2
  refine leaves_cons (f := 65) (args := #[.pointer (some ⟨b5, 0, none⟩), .pointer (some ⟨b6, 0, none⟩)]) (by simp) (by simp [go_sem]) ?_
  refine (times_idle b5 b6 _).mono ?_
  rintro e u' w'' ⟨rfl, rfl, rfl⟩
  simp only [settle, Leaves]
  refine ⟨.tuple #[.agg #[r_p0, r_q0, r_p1, r_q1, .bool T.i], .agg #[d0, d1], .int .i64 0], ?_, _, rfl, E.below, _, _, _, rfl, ⟨_, rfl, hRr⟩, hD, rfl⟩
  simp [results, Try.results39, go_sem, cr0, cr1, cr2, cr3, cr4, e0, e1, cq0]

set_option maxRecDepth 100000 in
set_option maxHeartbeats 4000000 in
theorem exTimes01 {w : World} {v v' u : Value} {A B M n : Int} {P : Pt} (h : (Fq.st [.n A, .n B, .n M]).P v w) (h' : Num w v' n) (g : (Fq.pt P).P u w) (hM : ab M < pw 5) (hA : ab A < pw 5) (hB : ab B < pw 5) (hn : ab n < pw 20) (hP : ab P.x < pw 5 ∧ ab P.y < pw 5) (ht : onB A B M P.x P.y P.i = true) {T : Pt × Int} (hT : timesP A M P n = T) (hneg : ¬ n < 0) (hd : ¬ T.2 = 0) :
    Calls Try.prog 39 #[v, v', u] w fun e w' => ∃ v', e = .returned v' ∧ Below w.heap.size w w' ∧ (Fq.tup3 (Fq.pt ⟨0, 0, false⟩) (Fq.num T.2) (Fq.is (.int .i64 6))).P v' w' := by
  replace hM := hidd hM
  replace hA := hidd hA
  replace hB := hidd hB
  replace hn := hidd hn
  replace hP := hidd hP
  replace ht := hidd ht
  obtain ⟨T, dT⟩ := T
  have HPO := hidd (onB_ok ht.out).1
  have T1 : Hid (¬ cmpI n 0 < 0) := fun e => hneg (cmpIqlt.1 e)
  unfold timesP at hT
  rw [if_neg hneg] at hT
  have HT := hidd hT
  clear hneg hT
  have HD := hidd hd
  clear hd
  obtain ⟨_, rfl, hf0⟩ := h
  have hF0 := hf0
  obtain ⟨y0_p0, y0_q0, _, rfl, _y0_n0, y0_p1, y0_q1, _, rfl, _y0_n1, y0_p2, y0_q2, _, rfl, _y0_n2, rfl⟩ := hf0
  obtain ⟨n1, ao1, k1, c1, rfl⟩ := h'.parts
  obtain ⟨_, rfl, hf2⟩ := g
  have hF2 := hf2
  obtain ⟨y2_p0, y2_q0, _, rfl, _y2_n0, y2_p1, y2_q1, _, rfl, _y2_n1, _, rfl, _, rfl⟩ := hf2
  obtain ⟨w1, b1, hw1, hb1, hs1, E⟩ := fr_start w (F := Fq.st [.n A, .n B, .n M]) (us := [y0_p0, y0_q0, y0_p1, y0_q1, y0_p2, y0_q2]) 31 rfl (by simp) (hF0.tame) (show (Fq.st [.n A, .n B, .n M]).P _ w from ⟨_, rfl, hF0⟩)
  obtain ⟨w2, b2, hw2, hb2, hs2, E⟩ := fr_more E hs1 (F := Fq.num n) (us := [.bool n1, .slice ao1 k1 c1]) 29 rfl (by simp) (tame_int _ _ _ _) (h'.mono E.below)
  obtain ⟨w3, b3, hw3, hb3, hs3, E⟩ := fr_more E hs2 (F := Fq.st [.n P.x, .n P.y, .v (.bool P.i)]) (us := [y2_p0, y2_q0, y2_p1, y2_q1, .bool P.i]) 37 rfl (by simp) (hF2.tame) ((Fq.st [.n P.x, .n P.y, .v (.bool P.i)]).mono (show (Fq.st [.n P.x, .n P.y, .v (.bool P.i)]).P _ w from ⟨_, rfl, hF2⟩) E.below)
  obtain ⟨w4, b4, hw4, hb4, hs4, E⟩ := fr_more E hs3 (F := Fq.st [.n 0, .n 0, .v (.bool false)]) (us := [.bool false, .slice none 0 0, .bool false, .slice none 0 0, .bool false]) 37 rfl (by simp) ((Fits.tame (fits0_api_Point w))) (fits0P_api_Point _)
  obtain ⟨w5, b5, hw5, hb5, hs5, E⟩ := fr_more E hs4 (F := Fq.num 0) (us := [.bool false, .slice none 0 0]) 29 rfl (by simp) (tame_int _ _ _ _) (Num.zero _)
  obtain ⟨w6, b6, hw6, hb6, hs6, E⟩ := fr_more E hs5 (F := Fq.st [.v (.int .i64 0)]) (us := [.int .i64 0]) 39 rfl (by simp) ((Fits.tame (fits0_api_Errno w))) (fits0P_api_Errno _)
  go_enter_defers Try.func39, Try.ntmps39
  go_upto_region 1 with (fail)
  rw [← hw1]
  rw [← hw2]
  rw [← hw3]
  rw [← hw4]
  rw [← hw5]
  rw [← hw6]
  rw [← hb6]
  rw [← hb5]
  rw [← hb4]
  rw [← hb3]
  rw [← hb2]
  rw [← hb1]
  clear hw1 hw2 hw3 hw4 hw5 hw6 hb1 hb2 hb3 hb4 hb5 hb6 hs6 hs1 hs2 hs3 hs4 hs5
  refine region_fr (C := [Fq.st [.n A, .n B, .n M], Fq.st [.n P.x, .n P.y, .v (.bool P.i)], Fq.is (.bool true), Fq.is (.bool false)]) (ks := [none, none, none, none, none, none]) (new := []) E rfl (by kernel_rfl) rfl rfl (fun hp => ⟨?_, ?_, ?_, ?_, trivial⟩) ?_
  · exact q_loadSt (off := 0) (l := 6) (fs := [.n A, .n B, .n M]) (gs := [.n A, .n B, .n M]) hp (free_of rfl) trivial (List.mem_iff_getElem?.2 ⟨5, rfl⟩) (.inl rfl) rfl row_api_Mod rfl (sq_out (s := 3) rfl rfl (fun _ _ => rfl)) (fun v w h => h)
  · exact q_loadSt (off := 0) (l := 5) (fs := [.n P.x, .n P.y, .v (.bool P.i)]) (gs := [.n P.x, .n P.y, .v (.bool P.i)]) hp (free_of rfl) trivial (List.mem_iff_getElem?.2 ⟨3, rfl⟩) (.inl rfl) rfl row_api_Point rfl (sq_out (s := 5) rfl rfl (fun _ _ => rfl)) (fun v w h => h)
  · exact q_call2 (F := (Fq.st [.n A, .n B, .n M]).P) (G := (Fq.st [.n P.x, .n P.y, .v (.bool P.i)]).P) hp (free_of rfl) trivial (enq_f_algorist_point_On) (sq_in 0 rfl rfl (by simp) rfl (fun v w h => h)) (sq_in 1 rfl rfl (by simp) rfl (fun v w h => h)) (fun v v' w h h' => exOn h h' hM.out hA.out hB.out hP.out.1 hP.out.2 ht.out)
  · exact q_one (F := fun v _ => v = .bool true) hp (free_of rfl) trivial (sq_in 2 rfl rfl (by simp) rfl (fun v w h => h)) (fun ρ w _ h => ⟨.bool false, by simp [execOp, go_sem, h], rfl⟩)
  intro L vs w7 nb hL hC hn E7
  have e2 : vs 2 = .bool true := hC 2 (by simp)
  have e3 : vs 3 = .bool false := hC 3 (by simp)
  have E : Fr w [(b6, 1, Fq.st [.v (.int .i64 0)]), (b5, 2, Fq.num 0), (b4, 5, Fq.st [.n 0, .n 0, .v (.bool false)]), (b3, 5, Fq.st [.n P.x, .n P.y, .v (.bool P.i)]), (b2, 2, Fq.num n), (b1, 6, Fq.st [.n A, .n B, .n M])] w7 := E7
  rw [lay_all hL]
  simp only [putAll, dstOf, List.length_cons, List.length_nil, Nat.zero_add, Nat.reduceAdd, List.getElem?_toArray, List.getElem?_cons_zero, List.getElem?_cons_succ, Option.bind_some, Act.put, List.setIfInBounds_toArray, List.set_cons_succ, List.set_cons_zero]
  rw [e2, e3]
  generalize vs 0 = u7_0
  generalize vs 1 = u7_1
  clear e2 e3 hC hn E7 hL vs L nb
  have hmf := make_func
  go_upto_region 4 with (fail)
  clear hmf
  refine region_fr (C := [Fq.num n, Fq.is (.int .i64 (cmpI n 0)), Fq.is (.bool false)]) (ks := [none, none, none, none, none, none]) (new := []) E rfl (by kernel_rfl) rfl rfl (fun hp => ⟨?_, ?_, ?_, trivial⟩) ?_
  · exact q_loadInt (off := 0) hp (free_of rfl) trivial (List.mem_iff_getElem?.2 ⟨4, rfl⟩) (.inl rfl) (Nat.le_of_ble_eq_true rfl) (sq_out (s := 4) rfl rfl (fun _ _ => rfl)) (fun us w hl h => ld_num hl h)
  · exact q_call1 (F := (Fq.num n).P) hp (free_of rfl) trivial (enq_Sign) (sq_in 0 rfl rfl (by simp) rfl (fun v w h => h)) (fun v w h => exSign h)
  · exact q_one (F := fun v _ => v = .int .i64 (cmpI n 0)) hp (free_of rfl) trivial (sq_in 1 rfl rfl (by simp) rfl (fun v w h => h)) (fun ρ w hc h => ⟨.bool false, by simp [execOp, go_sem, h, hc, T1.out], rfl⟩)
  intro L vs w8 nb hL hC hn E8
  have e1 : vs 1 = .int .i64 (cmpI n 0) := hC 1 (by simp)
  have e2 : vs 2 = .bool false := hC 2 (by simp)
  have E : Fr w [(b6, 1, Fq.st [.v (.int .i64 0)]), (b5, 2, Fq.num 0), (b4, 5, Fq.st [.n 0, .n 0, .v (.bool false)]), (b3, 5, Fq.st [.n P.x, .n P.y, .v (.bool P.i)]), (b2, 2, Fq.num n), (b1, 6, Fq.st [.n A, .n B, .n M])] w8 := E8
  rw [lay_all hL]
  simp only [putAll, dstOf, List.length_cons, List.length_nil, Nat.zero_add, Nat.reduceAdd, List.getElem?_toArray, List.getElem?_cons_zero, List.getElem?_cons_succ, Option.bind_some, Act.put, List.setIfInBounds_toArray, List.set_cons_succ, List.set_cons_zero]
  rw [e1, e2]
  generalize vs 0 = u8_0
  clear e1 e2 hC hn E8 hL vs L nb
  clear T1
  go_upto_region 6 with (fail)
  refine region_fr (C := [Fq.st [.n A, .n B, .n M], Fq.num n, Fq.st [.n P.x, .n P.y, .v (.bool P.i)], Fq.pre fun _ => False, Fq.num 0, Fq.any, Fq.any, Fq.any]) (ks := [some (7, Fq.st [.v (.int .i64 0)]), some (6, Fq.num 0), some (5, Fq.st [.n 0, .n 0, .v (.bool false)]), none, none, none]) (new := []) E rfl (by kernel_rfl) rfl rfl (fun hp => ⟨?_, ?_, ?_, ?_, ?_, ?_, ?_, ?_, trivial⟩) ?_
  · exact q_loadSt (off := 0) (l := 6) (fs := [.n A, .n B, .n M]) (gs := [.n A, .n B, .n M]) hp (free_of rfl) trivial (List.mem_iff_getElem?.2 ⟨5, rfl⟩) (.inl rfl) rfl row_api_Mod rfl (sq_out (s := 3) rfl rfl (fun _ _ => rfl)) (fun v w h => h)
  · exact q_loadInt (off := 0) hp (free_of rfl) trivial (List.mem_iff_getElem?.2 ⟨4, rfl⟩) (.inl rfl) (Nat.le_of_ble_eq_true rfl) (sq_out (s := 4) rfl rfl (fun _ _ => rfl)) (fun us w hl h => ld_num hl h)
  · exact q_loadSt (off := 0) (l := 5) (fs := [.n P.x, .n P.y, .v (.bool P.i)]) (gs := [.n P.x, .n P.y, .v (.bool P.i)]) hp (free_of rfl) trivial (List.mem_iff_getElem?.2 ⟨3, rfl⟩) (.inl rfl) rfl row_api_Point rfl (sq_out (s := 5) rfl rfl (fun _ _ => rfl)) (fun v w h => h)
  · refine q_callP3 (T := PanN dT) (F := (Fq.st [.n A, .n B, .n M]).P) (G := (Fq.num n).P) (F3 := (Fq.st [.n P.x, .n P.y, .v (.bool P.i)]).P) hp (free_of rfl) (enq_f_algorist_point_multiple) (sq_in 0 rfl rfl (by simp) rfl (fun v w h => h)) (sq_in 1 rfl rfl (by simp) rfl (fun v w h => h)) (sq_in 2 rfl rfl (by simp) rfl (fun v w h => h)) (fun v v' u w h h' g => (exMultiple h h' g hM.out hA.out hn.out HPO.out HT.out).mono fun e w' hh => by
      obtain ⟨hb, hh⟩ := hh
      rcases hh with ⟨hd9, _⟩ | ⟨_, v2, he, hp9⟩
      · exact absurd hd9 HD.out
      · exact ⟨_, he, hb, v2, rfl, hp9⟩) ?_
    intro L9 vs9 w9 ch w9' A9 hG9 hb9 hT9 hdf htsz hta
    obtain ⟨v2, rfl, hn9⟩ := hT9
    have F0 := (fr_of_G E hG9 rfl (by simp [plq, oldOf])).later hb9
    obtain ⟨n9, ao9, k9, c9, rfl⟩ := hn9.parts
    obtain ⟨x0, y0, g0, g1, _⟩ := box_num (F0.box 1 rfl)
    obtain ⟨_, _, hcq, hfq⟩ := box_st (F0.box 0 rfl)
    obtain ⟨_, rfl, _, rfl⟩ := hfq
    have g2 := hcq 0 (by simp)
    have z0 : w9'.frozen? ⟨b5, 0, none⟩ = false := box_free (F0.box 1 rfl) 0 (by omega)
    have z1 : w9'.frozen? ⟨b5, 1, none⟩ = false := box_free (F0.box 1 rfl) 1 (by omega)
    have z2 : w9'.frozen? ⟨b6, 0, none⟩ = false := box_free (F0.box 0 rfl) 0 (by omega)
    have hne : b5 ≠ b6 := by have := F0.apart; simp at this; omega
    have F1 := F0.store 1 (F' := Fq.num dT) rfl (us := [.bool n9, .slice ao9 k9 c9]) rfl (tame_int _ _ _ _) hn9
    have F2 := F1.store 0 (F' := Fq.st [.v (.int .i64 6)]) rfl (us := [.int .i64 6]) rfl (fun u hu q e => by simp at hu; subst hu; cases e) ⟨_, rfl, _, rfl, rfl, rfl⟩
    clear F0 F1 hG9 hb9
    show Leaves Try.prog _ A9.tmps _ A9.defers _ w9'
    rw [hdf]
    refine leaves_cons (f := 65) (args := #[.pointer (some ⟨b5, 0, none⟩), .pointer (some ⟨b6, 0, none⟩)]) (by simp) (by simp [go_sem]) ?_
    refine (times_catch b5 b6 n9 ao9 k9 c9 [] _ hne g0 g1 g2 z0 z1 z2).mono ?_
    rintro e u' w'' ⟨rfl, rfl, rfl⟩
    simp only [settle, List.dropWhile, Leaves]
    obtain ⟨_, _, hcr, hfr⟩ := box_st (F2.box 2 rfl)
    have hRr := hfr
    obtain ⟨r_p0, r_q0, _, rfl, _r_n0, r_p1, r_q1, _, rfl, _r_n1, _, rfl, _, rfl⟩ := hfr
    have cr0 := hcr 0 (by simp)
    have cr1 := hcr 1 (by simp)
    have cr2 := hcr 2 (by simp)
    have cr3 := hcr 3 (by simp)
    have cr4 := hcr 4 (by simp)
    simp only [List.getD_cons_zero, List.getD_cons_succ] at cr0 cr1 cr2 cr3 cr4
    clear hcr
    obtain ⟨d0, d1, e0, e1, hD⟩ := box_num (F2.box 1 rfl)
    obtain ⟨_, _, hcq, hfq⟩ := box_st (F2.box 0 rfl)
    have hRq := hfq
    obtain ⟨_, rfl, _, rfl⟩ := hfq
    have cq0 := hcq 0 (by simp)
    simp only [List.getD_cons_zero] at cq0
    clear hcq
    have t6 := hta 6 rfl
    have t7 := hta 7 rfl
    have t8 := hta 8 rfl
    refine ⟨.tuple #[.agg #[r_p0, r_q0, r_p1, r_q1, .bool false], .agg #[d0, d1], .int .i64 6], ?_, _, rfl, F2.below, _, _, _, rfl, ⟨_, rfl, hRr⟩, hD, rfl⟩
    exact times_results t6 t7 t8 cr0 cr1 cr2 cr3 cr4 e0 e1 cq0
  · exact q_zeroInt hp (free_of rfl) trivial (fun w => Num.zero w)
  · exact q_storeOldSt (off := 0) (fs := [.n 0, .n 0, .v (.bool false)]) (gs := [.n 0, .n 0, .v (.bool false)]) (fs' := [.n 0, .n 0, .v (.bool false)]) hp (List.mem_iff_getElem?.2 ⟨2, rfl⟩) rfl rfl rfl size_api_Point rfl (sq_out (s := 6) rfl rfl (fun _ _ => rfl)) (sq_in 3 rfl rfl (by simp) rfl (fun v w h => False.elim h)) (fun _ _ => trivial) (newik_ne rfl)
  · exact q_storeOldInt hp (List.mem_iff_getElem?.2 ⟨1, rfl⟩) rfl rfl (sq_out (s := 7) rfl rfl (fun _ _ => rfl)) (sq_in 4 rfl rfl (by simp) rfl (fun v w h => intV_num h)) (fun _ _ => trivial) (newik_ne rfl)
  · exact q_storeOldSt (off := 0) (fs := [.v (.int .i64 0)]) (gs := [.v (.int .i64 0)]) (fs' := [.v (.int .i64 0)]) hp (List.mem_iff_getElem?.2 ⟨0, rfl⟩) rfl rfl rfl size_api_Errno rfl (sq_out (s := 8) rfl rfl (fun _ _ => rfl)) (sq_const (fun _ => fitv_is rfl rfl)) (fun _ _ => trivial) (newik_ne rfl)
  intro L vs w9 nb hL hC hn E9
  exact False.elim (hC 3 (by simp))

set_option maxRecDepth 100000 in
set_option maxHeartbeats 4000000 in
theorem exTimes10 {w : World} {v v' u : Value} {A B M n : Int} {P : Pt} (h : (Fq.st [.n A, .n B, .n M]).P v w) (h' : Num w v' n) (g : (Fq.pt P).P u w) (hM : ab M < pw 5) (hA : ab A < pw 5) (hB : ab B < pw 5) (hn : ab n < pw 20) (hP : ab P.x < pw 5 ∧ ab P.y < pw 5) (ht : onB A B M P.x P.y P.i = true) {T : Pt × Int} (hT : timesP A M P n = T) (hneg :  n < 0) (hd :  T.2 = 0) :
    Calls Try.prog 39 #[v, v', u] w fun e w' => ∃ v', e = .returned v' ∧ Below w.heap.size w w' ∧ (Fq.tup3 (Fq.pt T.1) (Fq.num 0) (Fq.is (.int .i64 0))).P v' w' := by
  replace hM := hidd hM
  replace hA := hidd hA
  replace hB := hidd hB
  replace hn := hidd hn
  replace hP := hidd hP
  replace ht := hidd ht
  obtain ⟨T, dT⟩ := T
  have HPO := hidd (onB_ok ht.out).1
  have T1 : Hid ( cmpI n 0 < 0) := cmpIqlt.2 hneg
  unfold timesP at hT
  rw [if_pos hneg] at hT
  have HT := hidd hT
  clear hneg hT
  have hd0 : dT = 0 := hd
  subst hd0
  clear hd
  obtain ⟨O, hO⟩ : ∃ O, O = oppP M P := ⟨_, rfl⟩
  have HOO : Hid (O.Ok M) := by rw [hO]; exact oppP_ok HPO.out
  have HO := hidd hO
  have HT2 : Hid (xjP A M O n.natAbs (nbits n) 0 = (T, 0)) := by show _ = _; rw [hO]; exact HT.out
  clear hO HT
  obtain ⟨_, rfl, hf0⟩ := h
  have hF0 := hf0
  obtain ⟨y0_p0, y0_q0, _, rfl, _y0_n0, y0_p1, y0_q1, _, rfl, _y0_n1, y0_p2, y0_q2, _, rfl, _y0_n2, rfl⟩ := hf0
  obtain ⟨n1, ao1, k1, c1, rfl⟩ := h'.parts
  obtain ⟨_, rfl, hf2⟩ := g
  have hF2 := hf2
  obtain ⟨y2_p0, y2_q0, _, rfl, _y2_n0, y2_p1, y2_q1, _, rfl, _y2_n1, _, rfl, _, rfl⟩ := hf2
  obtain ⟨w1, b1, hw1, hb1, hs1, E⟩ := fr_start w (F := Fq.st [.n A, .n B, .n M]) (us := [y0_p0, y0_q0, y0_p1, y0_q1, y0_p2, y0_q2]) 31 rfl (by simp) (hF0.tame) (show (Fq.st [.n A, .n B, .n M]).P _ w from ⟨_, rfl, hF0⟩)
  obtain ⟨w2, b2, hw2, hb2, hs2, E⟩ := fr_more E hs1 (F := Fq.num n) (us := [.bool n1, .slice ao1 k1 c1]) 29 rfl (by simp) (tame_int _ _ _ _) (h'.mono E.below)
  obtain ⟨w3, b3, hw3, hb3, hs3, E⟩ := fr_more E hs2 (F := Fq.st [.n P.x, .n P.y, .v (.bool P.i)]) (us := [y2_p0, y2_q0, y2_p1, y2_q1, .bool P.i]) 37 rfl (by simp) (hF2.tame) ((Fq.st [.n P.x, .n P.y, .v (.bool P.i)]).mono (show (Fq.st [.n P.x, .n P.y, .v (.bool P.i)]).P _ w from ⟨_, rfl, hF2⟩) E.below)
  obtain ⟨w4, b4, hw4, hb4, hs4, E⟩ := fr_more E hs3 (F := Fq.st [.n 0, .n 0, .v (.bool false)]) (us := [.bool false, .slice none 0 0, .bool false, .slice none 0 0, .bool false]) 37 rfl (by simp) ((Fits.tame (fits0_api_Point w))) (fits0P_api_Point _)
  obtain ⟨w5, b5, hw5, hb5, hs5, E⟩ := fr_more E hs4 (F := Fq.num 0) (us := [.bool false, .slice none 0 0]) 29 rfl (by simp) (tame_int _ _ _ _) (Num.zero _)
  obtain ⟨w6, b6, hw6, hb6, hs6, E⟩ := fr_more E hs5 (F := Fq.st [.v (.int .i64 0)]) (us := [.int .i64 0]) 39 rfl (by simp) ((Fits.tame (fits0_api_Errno w))) (fits0P_api_Errno _)
  go_enter_defers Try.func39, Try.ntmps39
  go_upto_region 1 with (fail)
  rw [← hw1]
  rw [← hw2]
  rw [← hw3]
  rw [← hw4]
  rw [← hw5]
  rw [← hw6]
  rw [← hb6]
  rw [← hb5]
  rw [← hb4]
  rw [← hb3]
  rw [← hb2]
  rw [← hb1]
  clear hw1 hw2 hw3 hw4 hw5 hw6 hb1 hb2 hb3 hb4 hb5 hb6 hs6 hs1 hs2 hs3 hs4 hs5
  refine region_fr (C := [Fq.st [.n A, .n B, .n M], Fq.st [.n P.x, .n P.y, .v (.bool P.i)], Fq.is (.bool true), Fq.is (.bool false)]) (ks := [none, none, none, none, none, none]) (new := []) E rfl (by kernel_rfl) rfl rfl (fun hp => ⟨?_, ?_, ?_, ?_, trivial⟩) ?_
  · exact q_loadSt (off := 0) (l := 6) (fs := [.n A, .n B, .n M]) (gs := [.n A, .n B, .n M]) hp (free_of rfl) trivial (List.mem_iff_getElem?.2 ⟨5, rfl⟩) (.inl rfl) rfl row_api_Mod rfl (sq_out (s := 3) rfl rfl (fun _ _ => rfl)) (fun v w h => h)
  · exact q_loadSt (off := 0) (l := 5) (fs := [.n P.x, .n P.y, .v (.bool P.i)]) (gs := [.n P.x, .n P.y, .v (.bool P.i)]) hp (free_of rfl) trivial (List.mem_iff_getElem?.2 ⟨3, rfl⟩) (.inl rfl) rfl row_api_Point rfl (sq_out (s := 5) rfl rfl (fun _ _ => rfl)) (fun v w h => h)
  · exact q_call2 (F := (Fq.st [.n A, .n B, .n M]).P) (G := (Fq.st [.n P.x, .n P.y, .v (.bool P.i)]).P) hp (free_of rfl) trivial (enq_f_algorist_point_On) (sq_in 0 rfl rfl (by simp) rfl (fun v w h => h)) (sq_in 1 rfl rfl (by simp) rfl (fun v w h => h)) (fun v v' w h h' => exOn h h' hM.out hA.out hB.out hP.out.1 hP.out.2 ht.out)
  · exact q_one (F := fun v _ => v = .bool true) hp (free_of rfl) trivial (sq_in 2 rfl rfl (by simp) rfl (fun v w h => h)) (fun ρ w _ h => ⟨.bool false, by simp [execOp, go_sem, h], rfl⟩)
  intro L vs w7 nb hL hC hn E7
  have e2 : vs 2 = .bool true := hC 2 (by simp)
  have e3 : vs 3 = .bool false := hC 3 (by simp)
  have E : Fr w [(b6, 1, Fq.st [.v (.int .i64 0)]), (b5, 2, Fq.num 0), (b4, 5, Fq.st [.n 0, .n 0, .v (.bool false)]), (b3, 5, Fq.st [.n P.x, .n P.y, .v (.bool P.i)]), (b2, 2, Fq.num n), (b1, 6, Fq.st [.n A, .n B, .n M])] w7 := E7
  rw [lay_all hL]
  simp only [putAll, dstOf, List.length_cons, List.length_nil, Nat.zero_add, Nat.reduceAdd, List.getElem?_toArray, List.getElem?_cons_zero, List.getElem?_cons_succ, Option.bind_some, Act.put, List.setIfInBounds_toArray, List.set_cons_succ, List.set_cons_zero]
  rw [e2, e3]
  generalize vs 0 = u7_0
  generalize vs 1 = u7_1
  clear e2 e3 hC hn E7 hL vs L nb
  have hmf := make_func
  go_upto_region 4 with (fail)
  clear hmf
  refine region_fr (C := [Fq.num n, Fq.is (.int .i64 (cmpI n 0)), Fq.is (.bool true)]) (ks := [none, none, none, none, none, none]) (new := []) E rfl (by kernel_rfl) rfl rfl (fun hp => ⟨?_, ?_, ?_, trivial⟩) ?_
  · exact q_loadInt (off := 0) hp (free_of rfl) trivial (List.mem_iff_getElem?.2 ⟨4, rfl⟩) (.inl rfl) (Nat.le_of_ble_eq_true rfl) (sq_out (s := 4) rfl rfl (fun _ _ => rfl)) (fun us w hl h => ld_num hl h)
  · exact q_call1 (F := (Fq.num n).P) hp (free_of rfl) trivial (enq_Sign) (sq_in 0 rfl rfl (by simp) rfl (fun v w h => h)) (fun v w h => exSign h)
  · exact q_one (F := fun v _ => v = .int .i64 (cmpI n 0)) hp (free_of rfl) trivial (sq_in 1 rfl rfl (by simp) rfl (fun v w h => h)) (fun ρ w hc h => ⟨.bool true, by simp [execOp, go_sem, h, hc, T1.out], rfl⟩)
  intro L vs w8 nb hL hC hn E8
  have e1 : vs 1 = .int .i64 (cmpI n 0) := hC 1 (by simp)
  have e2 : vs 2 = .bool true := hC 2 (by simp)
  have E : Fr w [(b6, 1, Fq.st [.v (.int .i64 0)]), (b5, 2, Fq.num 0), (b4, 5, Fq.st [.n 0, .n 0, .v (.bool false)]), (b3, 5, Fq.st [.n P.x, .n P.y, .v (.bool P.i)]), (b2, 2, Fq.num n), (b1, 6, Fq.st [.n A, .n B, .n M])] w8 := E8
  rw [lay_all hL]
  simp only [putAll, dstOf, List.length_cons, List.length_nil, Nat.zero_add, Nat.reduceAdd, List.getElem?_toArray, List.getElem?_cons_zero, List.getElem?_cons_succ, Option.bind_some, Act.put, List.setIfInBounds_toArray, List.set_cons_succ, List.set_cons_zero]
  rw [e1, e2]
  generalize vs 0 = u8_0
  clear e1 e2 hC hn E8 hL vs L nb
  clear T1
  go_upto_region 5 with (fail)
  refine region_fr (C := [Fq.st [.n A, .n B, .n M], Fq.st [.n P.x, .n P.y, .v (.bool P.i)], Fq.st [.n O.x, .n O.y, .v (.bool O.i)], Fq.any]) (ks := [none, none, none, some (3, Fq.st [.n O.x, .n O.y, .v (.bool O.i)]), none, none]) (new := []) E rfl (by kernel_rfl) rfl rfl (fun hp => ⟨?_, ?_, ?_, ?_, trivial⟩) ?_
  · exact q_loadSt (off := 0) (l := 6) (fs := [.n A, .n B, .n M]) (gs := [.n A, .n B, .n M]) hp (free_of rfl) trivial (List.mem_iff_getElem?.2 ⟨5, rfl⟩) (.inl rfl) rfl row_api_Mod rfl (sq_out (s := 3) rfl rfl (fun _ _ => rfl)) (fun v w h => h)
  · exact q_loadSt (off := 0) (l := 5) (fs := [.n P.x, .n P.y, .v (.bool P.i)]) (gs := [.n P.x, .n P.y, .v (.bool P.i)]) hp (free_of rfl) trivial (List.mem_iff_getElem?.2 ⟨3, rfl⟩) (.inr rfl) rfl row_api_Point rfl (sq_out (s := 5) rfl rfl (fun _ _ => rfl)) (fun v w h => h)
  · exact q_call2 (F := (Fq.st [.n A, .n B, .n M]).P) (G := (Fq.st [.n P.x, .n P.y, .v (.bool P.i)]).P) hp (free_of rfl) trivial (enq_f_algorist_point_opposite) (sq_in 0 rfl rfl (by simp) rfl (fun v w h => h)) (sq_in 1 rfl rfl (by simp) rfl (fun v w h => h)) (fun v v' w h h' => (by rw [HO.out]; exact exOppP h h' hM.out HPO.out))
  · exact q_storeOldSt (off := 0) (fs := [.n P.x, .n P.y, .v (.bool P.i)]) (gs := [.n O.x, .n O.y, .v (.bool O.i)]) (fs' := [.n O.x, .n O.y, .v (.bool O.i)]) hp (List.mem_iff_getElem?.2 ⟨3, rfl⟩) rfl rfl rfl size_api_Point rfl (sq_out (s := 5) rfl rfl (fun _ _ => rfl)) (sq_in 2 rfl rfl (by simp) rfl (fun v w h => fitv_st h)) (fun _ _ => trivial) (newik_ne rfl)
  intro L vs w9 nb hL hC hn E9
  have E : Fr w [(b6, 1, Fq.st [.v (.int .i64 0)]), (b5, 2, Fq.num 0), (b4, 5, Fq.st [.n 0, .n 0, .v (.bool false)]), (b3, 5, Fq.st [.n O.x, .n O.y, .v (.bool O.i)]), (b2, 2, Fq.num n), (b1, 6, Fq.st [.n A, .n B, .n M])] w9 := E9
  rw [lay_all hL]
  simp only [putAll, dstOf, List.length_cons, List.length_nil, Nat.zero_add, Nat.reduceAdd, List.getElem?_toArray, List.getElem?_cons_zero, List.getElem?_cons_succ, Option.bind_some, Act.put, List.setIfInBounds_toArray, List.set_cons_succ, List.set_cons_zero]
  generalize vs 0 = u9_0
  generalize vs 1 = u9_1
  generalize vs 2 = u9_2
  clear  hC hn E9 hL vs L nb
  go_upto_region 6 with (fail)
  refine region_fr (C := [Fq.st [.n A, .n B, .n M], Fq.num n, Fq.st [.n O.x, .n O.y, .v (.bool O.i)], Fq.st [.n T.x, .n T.y, .v (.bool T.i)], Fq.num 0, Fq.any, Fq.any, Fq.any]) (ks := [some (7, Fq.st [.v (.int .i64 0)]), some (6, Fq.num 0), some (5, Fq.st [.n T.x, .n T.y, .v (.bool T.i)]), none, none, none]) (new := []) E rfl (by kernel_rfl) rfl rfl (fun hp => ⟨?_, ?_, ?_, ?_, ?_, ?_, ?_, ?_, trivial⟩) ?_
  · exact q_loadSt (off := 0) (l := 6) (fs := [.n A, .n B, .n M]) (gs := [.n A, .n B, .n M]) hp (free_of rfl) trivial (List.mem_iff_getElem?.2 ⟨5, rfl⟩) (.inl rfl) rfl row_api_Mod rfl (sq_out (s := 3) rfl rfl (fun _ _ => rfl)) (fun v w h => h)
  · exact q_loadInt (off := 0) hp (free_of rfl) trivial (List.mem_iff_getElem?.2 ⟨4, rfl⟩) (.inl rfl) (Nat.le_of_ble_eq_true rfl) (sq_out (s := 4) rfl rfl (fun _ _ => rfl)) (fun us w hl h => ld_num hl h)
  · exact q_loadSt (off := 0) (l := 5) (fs := [.n O.x, .n O.y, .v (.bool O.i)]) (gs := [.n O.x, .n O.y, .v (.bool O.i)]) hp (free_of rfl) trivial (List.mem_iff_getElem?.2 ⟨3, rfl⟩) (.inl rfl) rfl row_api_Point rfl (sq_out (s := 5) rfl rfl (fun _ _ => rfl)) (fun v w h => h)
  · exact q_call3 (F := (Fq.st [.n A, .n B, .n M]).P) (G := (Fq.num n).P) (F3 := (Fq.st [.n O.x, .n O.y, .v (.bool O.i)]).P) hp (free_of rfl) trivial (enq_f_algorist_point_multiple) (sq_in 0 rfl rfl (by simp) rfl (fun v w h => h)) (sq_in 1 rfl rfl (by simp) rfl (fun v w h => h)) (sq_in 2 rfl rfl (by simp) rfl (fun v w h => h)) (fun v v' u w h h' g => (exMultiple h h' g hM.out hA.out hn.out HOO.out HT2.out).mono fun e w' hh => by
      obtain ⟨hb, hh⟩ := hh
      rcases hh with ⟨_, v2, he, hp9⟩ | ⟨hd9, _⟩
      · exact ⟨v2, he, hb, hp9⟩
      · exact absurd rfl hd9)
  · exact q_zeroInt hp (free_of rfl) trivial (fun w => Num.zero w)
  · exact q_storeOldSt (off := 0) (fs := [.n 0, .n 0, .v (.bool false)]) (gs := [.n T.x, .n T.y, .v (.bool T.i)]) (fs' := [.n T.x, .n T.y, .v (.bool T.i)]) hp (List.mem_iff_getElem?.2 ⟨2, rfl⟩) rfl rfl rfl size_api_Point rfl (sq_out (s := 6) rfl rfl (fun _ _ => rfl)) (sq_in 3 rfl rfl (by simp) rfl (fun v w h => fitv_st h)) (fun _ _ => trivial) (newik_ne rfl)
  · exact q_storeOldInt hp (List.mem_iff_getElem?.2 ⟨1, rfl⟩) rfl rfl (sq_out (s := 7) rfl rfl (fun _ _ => rfl)) (sq_in 4 rfl rfl (by simp) rfl (fun v w h => intV_num h)) (fun _ _ => trivial) (newik_ne rfl)
  · exact q_storeOldSt (off := 0) (fs := [.v (.int .i64 0)]) (gs := [.v (.int .i64 0)]) (fs' := [.v (.int .i64 0)]) hp (List.mem_iff_getElem?.2 ⟨0, rfl⟩) rfl rfl rfl size_api_Errno rfl (sq_out (s := 8) rfl rfl (fun _ _ => rfl)) (sq_const (fun _ => fitv_is rfl rfl)) (fun _ _ => trivial) (newik_ne rfl)
  intro L vs w10 nb hL hC hn E10
  have E : Fr w [(b6, 1, Fq.st [.v (.int .i64 0)]), (b5, 2, Fq.num 0), (b4, 5, Fq.st [.n T.x, .n T.y, .v (.bool T.i)]), (b3, 5, Fq.st [.n O.x, .n O.y, .v (.bool O.i)]), (b2, 2, Fq.num n), (b1, 6, Fq.st [.n A, .n B, .n M])] w10 := E10
  rw [lay_all hL]
  simp only [putAll, dstOf, List.length_cons, List.length_nil, Nat.zero_add, Nat.reduceAdd, List.getElem?_toArray, List.getElem?_cons_zero, List.getElem?_cons_succ, Option.bind_some, Act.put, List.setIfInBounds_toArray, List.set_cons_succ, List.set_cons_zero]
  generalize vs 0 = u10_0
  generalize vs 1 = u10_1
  generalize vs 2 = u10_2
  generalize vs 3 = u10_3
  generalize vs 4 = u10_4
  clear  hC hn E10 hL vs L nb
  obtain ⟨_, _, hcr, hfr⟩ := box_st (E.box 2 rfl)
  have hRr := hfr
  obtain ⟨r_p0, r_q0, _, rfl, _r_n0, r_p1, r_q1, _, rfl, _r_n1, _, rfl, _, rfl⟩ := hfr
  have cr0 := hcr 0 (by simp)
  have cr1 := hcr 1 (by simp)
  have cr2 := hcr 2 (by simp)
  have cr3 := hcr 3 (by simp)
  have cr4 := hcr 4 (by simp)
  simp only [List.getD_cons_zero, List.getD_cons_succ] at cr0 cr1 cr2 cr3 cr4
  clear hcr
  obtain ⟨d0, d1, e0, e1, hD⟩ := box_num (E.box 1 rfl)
  obtain ⟨_, _, hcq, hfq⟩ := box_st (E.box 0 rfl)
  have hRq := hfq
  obtain ⟨_, rfl, _, rfl⟩ := hfq
  have cq0 := hcq 0 (by simp)
  simp only [List.getD_cons_zero] at cq0
  clear hcq
  clear hM hA hB hn hP
  clear ht HPO HOO HO HT2
  go_wp2
  refine leaves_cons (f := 65) (args := #[.pointer (some ⟨b5, 0, none⟩), .pointer (some ⟨b6, 0, none⟩)]) (by simp) (by simp [go_sem]) ?_
  refine (times_idle b5 b6 _).mono ?_
  rintro e u' w'' ⟨rfl, rfl, rfl⟩
  simp only [settle, Leaves]
  refine ⟨.tuple #[.agg #[r_p0, r_q0, r_p1, r_q1, .bool T.i], .agg #[d0, d1], .int .i64 0], ?_, _, rfl, E.below, _, _, _, rfl, ⟨_, rfl, hRr⟩, hD, rfl⟩
  simp [results, Try.results39, go_sem, cr0, cr1, cr2, cr3, cr4, e0, e1, cq0]

set_option maxRecDepth 100000 in
set_option maxHeartbeats 4000000 in
theorem exTimes11 {w : World} {v v' u : Value} {A B M n : Int} {P : Pt} (h : (Fq.st [.n A, .n B, .n M]).P v w) (h' : Num w v' n) (g : (Fq.pt P).P u w) (hM : ab M < pw 5) (hA : ab A < pw 5) (hB : ab B < pw 5) (hn : ab n < pw 20) (hP : ab P.x < pw 5 ∧ ab P.y < pw 5) (ht : onB A B M P.x P.y P.i = true) {T : Pt × Int} (hT : timesP A M P n = T) (hneg :  n < 0) (hd : ¬ T.2 = 0) :
    Calls Try.prog 39 #[v, v', u] w fun e w' => ∃ v', e = .returned v' ∧ Below w.heap.size w w' ∧ (Fq.tup3 (Fq.pt ⟨0, 0, false⟩) (Fq.num T.2) (Fq.is (.int .i64 6))).P v' w' := by
  replace hM := hidd hM
  replace hA := hidd hA
  replace hB := hidd hB
  replace hn := hidd hn
  replace hP := hidd hP
  replace ht := hidd ht
  obtain ⟨T, dT⟩ := T
  have HPO := hidd (onB_ok ht.out).1
  have T1 : Hid ( cmpI n 0 < 0) := cmpIqlt.2 hneg
  unfold timesP at hT
  rw [if_pos hneg] at hT
  have HT := hidd hT
  clear hneg hT
  have HD := hidd hd
  clear hd
  obtain ⟨O, hO⟩ : ∃ O, O = oppP M P := ⟨_, rfl⟩
  have HOO : Hid (O.Ok M) := by rw [hO]; exact oppP_ok HPO.out
  have HO := hidd hO
  have HT2 : Hid (xjP A M O n.natAbs (nbits n) 0 = (T, dT)) := by show _ = _; rw [hO]; exact HT.out
  clear hO HT
  obtain ⟨_, rfl, hf0⟩ := h
  have hF0 := hf0
  obtain ⟨y0_p0, y0_q0, _, rfl, _y0_n0, y0_p1, y0_q1, _, rfl, _y0_n1, y0_p2, y0_q2, _, rfl, _y0_n2, rfl⟩ := hf0
  obtain ⟨n1, ao1, k1, c1, rfl⟩ := h'.parts
  obtain ⟨_, rfl, hf2⟩ := g
  have hF2 := hf2
  obtain ⟨y2_p0, y2_q0, _, rfl, _y2_n0, y2_p1, y2_q1, _, rfl, _y2_n1, _, rfl, _, rfl⟩ := hf2
  obtain ⟨w1, b1, hw1, hb1, hs1, E⟩ := fr_start w (F := Fq.st [.n A, .n B, .n M]) (us := [y0_p0, y0_q0, y0_p1, y0_q1, y0_p2, y0_q2]) 31 rfl (by simp) (hF0.tame) (show (Fq.st [.n A, .n B, .n M]).P _ w from ⟨_, rfl, hF0⟩)
  obtain ⟨w2, b2, hw2, hb2, hs2, E⟩ := fr_more E hs1 (F := Fq.num n) (us := [.bool n1, .slice ao1 k1 c1]) 29 rfl (by simp) (tame_int _ _ _ _) (h'.mono E.below)
  obtain ⟨w3, b3, hw3, hb3, hs3, E⟩ := fr_more E hs2 (F := Fq.st [.n P.x, .n P.y, .v (.bool P.i)]) (us := [y2_p0, y2_q0, y2_p1, y2_q1, .bool P.i]) 37 rfl (by simp) (hF2.tame) ((Fq.st [.n P.x, .n P.y, .v (.bool P.i)]).mono (show (Fq.st [.n P.x, .n P.y, .v (.bool P.i)]).P _ w from ⟨_, rfl, hF2⟩) E.below)
  obtain ⟨w4, b4, hw4, hb4, hs4, E⟩ := fr_more E hs3 (F := Fq.st [.n 0, .n 0, .v (.bool false)]) (us := [.bool false, .slice none 0 0, .bool false, .slice none 0 0, .bool false]) 37 rfl (by simp) ((Fits.tame (fits0_api_Point w))) (fits0P_api_Point _)
  obtain ⟨w5, b5, hw5, hb5, hs5, E⟩ := fr_more E hs4 (F := Fq.num 0) (us := [.bool false, .slice none 0 0]) 29 rfl (by simp) (tame_int _ _ _ _) (Num.zero _)
  obtain ⟨w6, b6, hw6, hb6, hs6, E⟩ := fr_more E hs5 (F := Fq.st [.v (.int .i64 0)]) (us := [.int .i64 0]) 39 rfl (by simp) ((Fits.tame (fits0_api_Errno w))) (fits0P_api_Errno _)
  go_enter_defers Try.func39, Try.ntmps39
  go_upto_region 1 with (fail)
  rw [← hw1]
  rw [← hw2]
  rw [← hw3]
  rw [← hw4]
  rw [← hw5]
  rw [← hw6]
  rw [← hb6]
  rw [← hb5]
  rw [← hb4]
  rw [← hb3]
  rw [← hb2]
  rw [← hb1]
  clear hw1 hw2 hw3 hw4 hw5 hw6 hb1 hb2 hb3 hb4 hb5 hb6 hs6 hs1 hs2 hs3 hs4 hs5
  refine region_fr (C := [Fq.st [.n A, .n B, .n M], Fq.st [.n P.x, .n P.y, .v (.bool P.i)], Fq.is (.bool true), Fq.is (.bool false)]) (ks := [none, none, none, none, none, none]) (new := []) E rfl (by kernel_rfl) rfl rfl (fun hp => ⟨?_, ?_, ?_, ?_, trivial⟩) ?_
  · exact q_loadSt (off := 0) (l := 6) (fs := [.n A, .n B, .n M]) (gs := [.n A, .n B, .n M]) hp (free_of rfl) trivial (List.mem_iff_getElem?.2 ⟨5, rfl⟩) (.inl rfl) rfl row_api_Mod rfl (sq_out (s := 3) rfl rfl (fun _ _ => rfl)) (fun v w h => h)
  · exact q_loadSt (off := 0) (l := 5) (fs := [.n P.x, .n P.y, .v (.bool P.i)]) (gs := [.n P.x, .n P.y, .v (.bool P.i)]) hp (free_of rfl) trivial (List.mem_iff_getElem?.2 ⟨3, rfl⟩) (.inl rfl) rfl row_api_Point rfl (sq_out (s := 5) rfl rfl (fun _ _ => rfl)) (fun v w h => h)
  · exact q_call2 (F := (Fq.st [.n A, .n B, .n M]).P) (G := (Fq.st [.n P.x, .n P.y, .v (.bool P.i)]).P) hp (free_of rfl) trivial (enq_f_algorist_point_On) (sq_in 0 rfl rfl (by simp) rfl (fun v w h => h)) (sq_in 1 rfl rfl (by simp) rfl (fun v w h => h)) (fun v v' w h h' => exOn h h' hM.out hA.out hB.out hP.out.1 hP.out.2 ht.out)
  · exact q_one (F := fun v _ => v = .bool true) hp (free_of rfl) trivial (sq_in 2 rfl rfl (by simp) rfl (fun v w h => h)) (fun ρ w _ h => ⟨.bool false, by simp [execOp, go_sem, h], rfl⟩)
  intro L vs w7 nb hL hC hn E7
  have e2 : vs 2 = .bool true := hC 2 (by simp)
  have e3 : vs 3 = .bool false := hC 3 (by simp)
  have E : Fr w [(b6, 1, Fq.st [.v (.int .i64 0)]), (b5, 2, Fq.num 0), (b4, 5, Fq.st [.n 0, .n 0, .v (.bool false)]), (b3, 5, Fq.st [.n P.x, .n P.y, .v (.bool P.i)]), (b2, 2, Fq.num n), (b1, 6, Fq.st [.n A, .n B, .n M])] w7 := E7
  rw [lay_all hL]
  simp only [putAll, dstOf, List.length_cons, List.length_nil, Nat.zero_add, Nat.reduceAdd, List.getElem?_toArray, List.getElem?_cons_zero, List.getElem?_cons_succ, Option.bind_some, Act.put, List.setIfInBounds_toArray, List.set_cons_succ, List.set_cons_zero]
  rw [e2, e3]
  generalize vs 0 = u7_0
  generalize vs 1 = u7_1
  clear e2 e3 hC hn E7 hL vs L nb
  have hmf := make_func
  go_upto_region 4 with (fail)
  clear hmf
  refine region_fr (C := [Fq.num n, Fq.is (.int .i64 (cmpI n 0)), Fq.is (.bool true)]) (ks := [none, none, none, none, none, none]) (new := []) E rfl (by kernel_rfl) rfl rfl (fun hp => ⟨?_, ?_, ?_, trivial⟩) ?_
  · exact q_loadInt (off := 0) hp (free_of rfl) trivial (List.mem_iff_getElem?.2 ⟨4, rfl⟩) (.inl rfl) (Nat.le_of_ble_eq_true rfl) (sq_out (s := 4) rfl rfl (fun _ _ => rfl)) (fun us w hl h => ld_num hl h)
  · exact q_call1 (F := (Fq.num n).P) hp (free_of rfl) trivial (enq_Sign) (sq_in 0 rfl rfl (by simp) rfl (fun v w h => h)) (fun v w h => exSign h)
  · exact q_one (F := fun v _ => v = .int .i64 (cmpI n 0)) hp (free_of rfl) trivial (sq_in 1 rfl rfl (by simp) rfl (fun v w h => h)) (fun ρ w hc h => ⟨.bool true, by simp [execOp, go_sem, h, hc, T1.out], rfl⟩)
  intro L vs w8 nb hL hC hn E8
  have e1 : vs 1 = .int .i64 (cmpI n 0) := hC 1 (by simp)
  have e2 : vs 2 = .bool true := hC 2 (by simp)
  have E : Fr w [(b6, 1, Fq.st [.v (.int .i64 0)]), (b5, 2, Fq.num 0), (b4, 5, Fq.st [.n 0, .n 0, .v (.bool false)]), (b3, 5, Fq.st [.n P.x, .n P.y, .v (.bool P.i)]), (b2, 2, Fq.num n), (b1, 6, Fq.st [.n A, .n B, .n M])] w8 := E8
  rw [lay_all hL]
  simp only [putAll, dstOf, List.length_cons, List.length_nil, Nat.zero_add, Nat.reduceAdd, List.getElem?_toArray, List.getElem?_cons_zero, List.getElem?_cons_succ, Option.bind_some, Act.put, List.setIfInBounds_toArray, List.set_cons_succ, List.set_cons_zero]
  rw [e1, e2]
  generalize vs 0 = u8_0
  clear e1 e2 hC hn E8 hL vs L nb
  clear T1
  go_upto_region 5 with (fail)
  refine region_fr (C := [Fq.st [.n A, .n B, .n M], Fq.st [.n P.x, .n P.y, .v (.bool P.i)], Fq.st [.n O.x, .n O.y, .v (.bool O.i)], Fq.any]) (ks := [none, none, none, some (3, Fq.st [.n O.x, .n O.y, .v (.bool O.i)]), none, none]) (new := []) E rfl (by kernel_rfl) rfl rfl (fun hp => ⟨?_, ?_, ?_, ?_, trivial⟩) ?_
  · exact q_loadSt (off := 0) (l := 6) (fs := [.n A, .n B, .n M]) (gs := [.n A, .n B, .n M]) hp (free_of rfl) trivial (List.mem_iff_getElem?.2 ⟨5, rfl⟩) (.inl rfl) rfl row_api_Mod rfl (sq_out (s := 3) rfl rfl (fun _ _ => rfl)) (fun v w h => h)
  · exact q_loadSt (off := 0) (l := 5) (fs := [.n P.x, .n P.y, .v (.bool P.i)]) (gs := [.n P.x, .n P.y, .v (.bool P.i)]) hp (free_of rfl) trivial (List.mem_iff_getElem?.2 ⟨3, rfl⟩) (.inr rfl) rfl row_api_Point rfl (sq_out (s := 5) rfl rfl (fun _ _ => rfl)) (fun v w h => h)
  · exact q_call2 (F := (Fq.st [.n A, .n B, .n M]).P) (G := (Fq.st [.n P.x, .n P.y, .v (.bool P.i)]).P) hp (free_of rfl) trivial (enq_f_algorist_point_opposite) (sq_in 0 rfl rfl (by simp) rfl (fun v w h => h)) (sq_in 1 rfl rfl (by simp) rfl (fun v w h => h)) (fun v v' w h h' => (by rw [HO.out]; exact exOppP h h' hM.out HPO.out))
  · exact q_storeOldSt (off := 0) (fs := [.n P.x, .n P.y, .v (.bool P.i)]) (gs := [.n O.x, .n O.y, .v (.bool O.i)]) (fs' := [.n O.x, .n O.y, .v (.bool O.i)]) hp (List.mem_iff_getElem?.2 ⟨3, rfl⟩) rfl rfl rfl size_api_Point rfl (sq_out (s := 5) rfl rfl (fun _ _ => rfl)) (sq_in 2 rfl rfl (by simp) rfl (fun v w h => fitv_st h)) (fun _ _ => trivial) (newik_ne rfl)
  intro L vs w9 nb hL hC hn E9
  have E : Fr w [(b6, 1, Fq.st [.v (.int .i64 0)]), (b5, 2, Fq.num 0), (b4, 5, Fq.st [.n 0, .n 0, .v (.bool false)]), (b3, 5, Fq.st [.n O.x, .n O.y, .v (.bool O.i)]), (b2, 2, Fq.num n), (b1, 6, Fq.st [.n A, .n B, .n M])] w9 := E9
  rw [lay_all hL]
  simp only [putAll, dstOf, List.length_cons, List.length_nil, Nat.zero_add, Nat.reduceAdd, List.getElem?_toArray, List.getElem?_cons_zero, List.getElem?_cons_succ, Option.bind_some, Act.put, List.setIfInBounds_toArray, List.set_cons_succ, List.set_cons_zero]
  generalize vs 0 = u9_0
  generalize vs 1 = u9_1
  generalize vs 2 = u9_2
  clear  hC hn E9 hL vs L nb
  go_upto_region 6 with (fail)
  refine region_fr (C := [Fq.st [.n A, .n B, .n M], Fq.num n, Fq.st [.n O.x, .n O.y, .v (.bool O.i)], Fq.pre fun _ => False, Fq.num 0, Fq.any, Fq.any, Fq.any]) (ks := [some (7, Fq.st [.v (.int .i64 0)]), some (6, Fq.num 0), some (5, Fq.st [.n 0, .n 0, .v (.bool false)]), none, none, none]) (new := []) E rfl (by kernel_rfl) rfl rfl (fun hp => ⟨?_, ?_, ?_, ?_, ?_, ?_, ?_, ?_, trivial⟩) ?_
  · exact q_loadSt (off := 0) (l := 6) (fs := [.n A, .n B, .n M]) (gs := [.n A, .n B, .n M]) hp (free_of rfl) trivial (List.mem_iff_getElem?.2 ⟨5, rfl⟩) (.inl rfl) rfl row_api_Mod rfl (sq_out (s := 3) rfl rfl (fun _ _ => rfl)) (fun v w h => h)
  · exact q_loadInt (off := 0) hp (free_of rfl) trivial (List.mem_iff_getElem?.2 ⟨4, rfl⟩) (.inl rfl) (Nat.le_of_ble_eq_true rfl) (sq_out (s := 4) rfl rfl (fun _ _ => rfl)) (fun us w hl h => ld_num hl h)
  · exact q_loadSt (off := 0) (l := 5) (fs := [.n O.x, .n O.y, .v (.bool O.i)]) (gs := [.n O.x, .n O.y, .v (.bool O.i)]) hp (free_of rfl) trivial (List.mem_iff_getElem?.2 ⟨3, rfl⟩) (.inl rfl) rfl row_api_Point rfl (sq_out (s := 5) rfl rfl (fun _ _ => rfl)) (fun v w h => h)
  · refine q_callP3 (T := PanN dT) (F := (Fq.st [.n A, .n B, .n M]).P) (G := (Fq.num n).P) (F3 := (Fq.st [.n O.x, .n O.y, .v (.bool O.i)]).P) hp (free_of rfl) (enq_f_algorist_point_multiple) (sq_in 0 rfl rfl (by simp) rfl (fun v w h => h)) (sq_in 1 rfl rfl (by simp) rfl (fun v w h => h)) (sq_in 2 rfl rfl (by simp) rfl (fun v w h => h)) (fun v v' u w h h' g => (exMultiple h h' g hM.out hA.out hn.out HOO.out HT2.out).mono fun e w' hh => by
      obtain ⟨hb, hh⟩ := hh
      rcases hh with ⟨hd9, _⟩ | ⟨_, v2, he, hp9⟩
      · exact absurd hd9 HD.out
      · exact ⟨_, he, hb, v2, rfl, hp9⟩) ?_
    intro L9 vs9 w9 ch w9' A9 hG9 hb9 hT9 hdf htsz hta
    obtain ⟨v2, rfl, hn9⟩ := hT9
    have F0 := (fr_of_G E hG9 rfl (by simp [plq, oldOf])).later hb9
    obtain ⟨n9, ao9, k9, c9, rfl⟩ := hn9.parts
    obtain ⟨x0, y0, g0, g1, _⟩ := box_num (F0.box 1 rfl)
    obtain ⟨_, _, hcq, hfq⟩ := box_st (F0.box 0 rfl)
    obtain ⟨_, rfl, _, rfl⟩ := hfq
    have g2 := hcq 0 (by simp)
    have z0 : w9'.frozen? ⟨b5, 0, none⟩ = false := box_free (F0.box 1 rfl) 0 (by omega)
    have z1 : w9'.frozen? ⟨b5, 1, none⟩ = false := box_free (F0.box 1 rfl) 1 (by omega)
    have z2 : w9'.frozen? ⟨b6, 0, none⟩ = false := box_free (F0.box 0 rfl) 0 (by omega)
    have hne : b5 ≠ b6 := by have := F0.apart; simp at this; omega
    have F1 := F0.store 1 (F' := Fq.num dT) rfl (us := [.bool n9, .slice ao9 k9 c9]) rfl (tame_int _ _ _ _) hn9
    have F2 := F1.store 0 (F' := Fq.st [.v (.int .i64 6)]) rfl (us := [.int .i64 6]) rfl (fun u hu q e => by simp at hu; subst hu; cases e) ⟨_, rfl, _, rfl, rfl, rfl⟩
    clear F0 F1 hG9 hb9
    show Leaves Try.prog _ A9.tmps _ A9.defers _ w9'
    rw [hdf]
    refine leaves_cons (f := 65) (args := #[.pointer (some ⟨b5, 0, none⟩), .pointer (some ⟨b6, 0, none⟩)]) (by simp) (by simp [go_sem]) ?_
    refine (times_catch b5 b6 n9 ao9 k9 c9 [] _ hne g0 g1 g2 z0 z1 z2).mono ?_
    rintro e u' w'' ⟨rfl, rfl, rfl⟩
    simp only [settle, List.dropWhile, Leaves]
    obtain ⟨_, _, hcr, hfr⟩ := box_st (F2.box 2 rfl)
    have hRr := hfr
    obtain ⟨r_p0, r_q0, _, rfl, _r_n0, r_p1, r_q1, _, rfl, _r_n1, _, rfl, _, rfl⟩ := hfr
    have cr0 := hcr 0 (by simp)
    have cr1 := hcr 1 (by simp)
    have cr2 := hcr 2 (by simp)
    have cr3 := hcr 3 (by simp)
    have cr4 := hcr 4 (by simp)
    simp only [List.getD_cons_zero, List.getD_cons_succ] at cr0 cr1 cr2 cr3 cr4
    clear hcr
    obtain ⟨d0, d1, e0, e1, hD⟩ := box_num (F2.box 1 rfl)
    obtain ⟨_, _, hcq, hfq⟩ := box_st (F2.box 0 rfl)
    have hRq := hfq
    obtain ⟨_, rfl, _, rfl⟩ := hfq
    have cq0 := hcq 0 (by simp)
    simp only [List.getD_cons_zero] at cq0
    clear hcq
    have t6 := hta 6 rfl
    have t7 := hta 7 rfl
    have t8 := hta 8 rfl
    refine ⟨.tuple #[.agg #[r_p0, r_q0, r_p1, r_q1, .bool false], .agg #[d0, d1], .int .i64 6], ?_, _, rfl, F2.below, _, _, _, rfl, ⟨_, rfl, hRr⟩, hD, rfl⟩
    exact times_results t6 t7 t8 cr0 cr1 cr2 cr3 cr4 e0 e1 cq0
  · exact q_zeroInt hp (free_of rfl) trivial (fun w => Num.zero w)
  · exact q_storeOldSt (off := 0) (fs := [.n 0, .n 0, .v (.bool false)]) (gs := [.n 0, .n 0, .v (.bool false)]) (fs' := [.n 0, .n 0, .v (.bool false)]) hp (List.mem_iff_getElem?.2 ⟨2, rfl⟩) rfl rfl rfl size_api_Point rfl (sq_out (s := 6) rfl rfl (fun _ _ => rfl)) (sq_in 3 rfl rfl (by simp) rfl (fun v w h => False.elim h)) (fun _ _ => trivial) (newik_ne rfl)
  · exact q_storeOldInt hp (List.mem_iff_getElem?.2 ⟨1, rfl⟩) rfl rfl (sq_out (s := 7) rfl rfl (fun _ _ => rfl)) (sq_in 4 rfl rfl (by simp) rfl (fun v w h => intV_num h)) (fun _ _ => trivial) (newik_ne rfl)
  · exact q_storeOldSt (off := 0) (fs := [.v (.int .i64 0)]) (gs := [.v (.int .i64 0)]) (fs' := [.v (.int .i64 0)]) hp (List.mem_iff_getElem?.2 ⟨0, rfl⟩) rfl rfl rfl size_api_Errno rfl (sq_out (s := 8) rfl rfl (fun _ _ => rfl)) (sq_const (fun _ => fitv_is rfl rfl)) (fun _ _ => trivial) (newik_ne rfl)
  intro L vs w9 nb hL hC hn E9
  exact False.elim (hC 3 (by simp))

end Go.Proofs.Ytpkeeacdkkmknaa

/- Walk of the law on powers and inverses. -/
namespace Go.Proofs.Ytpkeeacdkkmknaa
open Go Go.RowKit

section
variable {os : List Oper} {Q : Exit → Act → World → Prop} {a : Act} {p : Pq} {B B0 : Nat} {w0 : World}
variable {i s : Nat} {d : Option Tmp} {ty : TypeId} {ps : String} {af : Array Edge} {gd : Option (Nat × Bool)}
end
end Go.Proofs.Ytpkeeacdkkmknaa

/- Walks: the reference's small primes. -/
namespace Go.Proofs.Ytpkeeacdkkmknaa
open Go Go.RowKit

theorem trial_step {n : Int} {d : Nat} (h : (d : Int) * d ≤ n) (hn : n ≤ 65537) : d ≤ 256 := by
  rcases Nat.lt_or_ge 256 d with h3 | h3
  · have h4 := Int.mul_le_mul (show (257 : Int) ≤ d by omega) (show (257 : Int) ≤ d by omega) (by omega) (by omega)
    omega
  · exact h3
theorem trial_end {n : Int} {d : Nat} (h : ¬ (d : Int) * d ≤ n) (h1 : 1 < n) (hc : ∀ c : Nat, 2 ≤ c → c < d → n % c ≠ 0) : Pr n.toNat := by
  refine pr_of (by omega) fun c c2 cc e => ?_
  have h3 : c < d := by
    rcases Nat.lt_or_ge c d with h4 | h4
    · exact h4
    · have h5 := Nat.mul_le_mul h4 h4
      have h6 : ((d * d : Nat) : Int) = (d : Int) * d := by rw [Int.natCast_mul]
      omega
  refine hc c c2 h3 ?_
  have h7 : n = (n.toNat : Int) := by omega
  rw [h7]
  exact_mod_cast e
theorem trial_no {n : Int} {d : Nat} (h2 : 2 ≤ d) (h : (d : Int) * d ≤ n) (hd : n % d = 0) : ¬ Pr n.toNat := by
  intro hp
  have h3 : d ∣ n.toNat := by
    refine Int.natCast_dvd_natCast.1 ?_
    have h4 : (n.toNat : Int) = n := by have := Int.mul_nonneg (show 0 ≤ (d : Int) by omega) (show 0 ≤ (d : Int) by omega); omega
    rw [h4]
    exact Int.dvd_of_emod_eq_zero hd
  rcases hp.2 d h3 with e | e
  · omega
  · have h5 := Int.mul_le_mul_of_nonneg_left (show (2 : Int) ≤ d by omega) (show 0 ≤ (d : Int) by omega)
    omega
set_option maxRecDepth 20000 in
theorem exIsPrime (w : World) {n : Int} (h0 : 0 ≤ n) (h1 : n ≤ 65537) : Calls Try.prog 28 #[.int .i64 n] w fun e w' => ∃ t : Bool, e = .returned (.bool t) ∧ w' = w ∧ (t = true ↔ Pr n.toNat) := by
  have H0 := hidd h0
  have H1 := hidd h1
  clear h0 h1
  go_enter Try.func28, Try.ntmps28
  go_wp2
  go_loopw [3] (fun vd W => ∃ d : Nat, vd = .int .i64 d ∧ W = w ∧ 2 ≤ d ∧ d ≤ 257 ∧ ∀ c : Nat, 2 ≤ c → c < d → n % c ≠ 0) (fun vd _ => 300 - (intOf vd).toNat)
  case atStart => exact ⟨2, rfl, rfl, by omega, by omega, fun c h1 h2 => by omega⟩
  case round =>
    obtain ⟨d, rfl, rfl, d2, d3, hc⟩ := hrel
    obtain ⟨q, hq⟩ : ∃ q : Int, q = (d : Int) * d := ⟨_, rfl⟩
    have hq2 : 0 ≤ q ∧ q ≤ 66049 := by
      have h4 := Int.mul_le_mul (show (d : Int) ≤ 257 by omega) (show (d : Int) ≤ 257 by omega) (by omega) (by omega)
      have h5 := Int.mul_nonneg (show 0 ≤ (d : Int) by omega) (show 0 ≤ (d : Int) by omega)
      omega
    have g1 : IntKind.i64.wrap ((d : Int) * d) = q := by rw [← hq]; exact IntWalk.i64_in _ (by omega)
    have HQ := hidd hq
    have HC := hidd hc
    have HD := hidd (show 2 ≤ d ∧ d ≤ 257 from ⟨d2, d3⟩)
    by_cases hle : q ≤ n
    · have g2 : (q ≤ n) = True := eq_true hle
      obtain ⟨z, hz⟩ : ∃ z, z = n % (d : Int) := ⟨_, rfl⟩
      have g3 : n.tmod (d : Int) = z := by rw [hz]; exact tmod_pos H0.out
      have hz2 : 0 ≤ z ∧ z < d := by rw [hz]; exact ⟨Int.emod_nonneg _ (by omega), Int.emod_lt_of_pos _ (by omega)⟩
      have g4 : IntKind.i64.wrap z = z := IntWalk.i64_in _ (by omega)
      have g5 : ¬ (d : Int) = 0 := by omega
      have g6 : ((d : Int) == 0) = false := by simpa using g5
      have g8 : (d == 0) = false := by simp; omega
      have HZ := hidd hz
      have HLE := hidd hle
      by_cases hzz : z = 0
      · have g7 : (z == 0) = true := by simpa using hzz
        have HN : Hid (¬ Pr n.toNat) := trial_no HD.out.1 (by rw [← HQ.out]; exact hle) (by rw [← HZ.out]; exact hzz)
        clear hq hc d2 d3 hq2 hz hz2 hle hzz
        go_wp2
        refine bodyPost_ret (v := .bool false) (by simp [results, Try.results28, go_sem]) rfl ⟨false, rfl, rfl, by simp [HN.out]⟩
      · have g7 : (z == 0) = false := by simpa using hzz
        have HZZ := hidd hzz
        have h9 := trial_step (by rw [← hq]; exact hle) H1.out
        have g9 : IntKind.i64.wrap ((d : Int) + 1) = (d : Int) + 1 := IntWalk.i64_in _ (by omega)
        have H9 := hidd h9
        clear hq hc d2 d3 hq2 hz hz2 hle hzz h9
        go_wp2
        go_roundw
        case rel => exact ⟨d + 1, by go_num, trivial, by have := HD.out; omega, by have := H9.out; omega, fun c h1 h2 => by
          rcases Nat.lt_or_ge c d with h | h
          · exact HC.out c h1 h
          · rw [show c = d by omega, ← HZ.out]; exact HZZ.out⟩
        case measure => have := H9.out; simp [intOf]; omega
    · have g2 : (q ≤ n) = False := eq_false hle
      have HE : Hid ((decide (1 < n)) = true ↔ Pr n.toNat) := by
        show _ ↔ _
        rw [decide_eq_true_iff]
        exact ⟨fun h => trial_end (d := d) (by rw [← HQ.out]; exact hle) h HC.out, fun h => by have := h.1; omega⟩
      clear hq hc d2 d3 hq2 hle
      go_wp2
      refine bodyPost_ret (v := .bool (decide (1 < n))) (by simp [results, Try.results28, go_sem]) rfl ⟨_, rfl, rfl, HE.out⟩
theorem exIsPrimeT (w : World) {n : Int} (h0 : 0 ≤ n) (h1 : n ≤ 65537) (h : Pr n.toNat) : Calls Try.prog 28 #[.int .i64 n] w fun e w' => e = .returned (.bool true) ∧ w' = w :=
  (exIsPrime w h0 h1).mono fun e w' ⟨t, he, hw, ht⟩ => ⟨by rw [he, ht.2 h], hw⟩
theorem exIsPrimeF (w : World) {n : Int} (h0 : 0 ≤ n) (h1 : n ≤ 65537) (h : ¬ Pr n.toNat) : Calls Try.prog 28 #[.int .i64 n] w fun e w' => e = .returned (.bool false) ∧ w' = w :=
  (exIsPrime w h0 h1).mono fun e w' ⟨t, he, hw, ht⟩ => ⟨by rw [he]; cases t; rfl; exact absurd (ht.1 rfl) h, hw⟩
theorem exPrime (w : World) {n : Int} {p : Nat} (h0 : 0 ≤ n) (h1 : n ≤ 65535) (hp : Pr p) (hn : n.toNat ≤ p) (hb : p ≤ 65537) (hl : ∀ q, n.toNat ≤ q → q < p → ¬ Pr q) :
    Calls Try.prog 8 #[.int .u16 n] w fun e w' => ∃ v', e = .returned v' ∧ Below w.heap.size w w' ∧ v' = .int .i64 (p : Int) := by
  have g0 : IntKind.i64.wrap n = n := IntWalk.i64_in _ (by omega)
  have H0 := hidd (show 0 ≤ n ∧ n ≤ 65535 from ⟨h0, h1⟩)
  have HP := hidd hp
  have HB := hidd hb
  have HL := hidd hl
  have HN := hidd hn
  clear h0 h1 hp hn hb hl
  go_enter Try.func8, Try.ntmps8
  go_wp2
  go_loopw [3] (fun vp W => ∃ q : Nat, vp = .int .i64 q ∧ W = w ∧ n.toNat ≤ q ∧ q ≤ p) (fun vp _ => 65537 - (intOf vp).toNat)
  case atStart => exact ⟨n.toNat, by have := H0.out; congr 1; omega, rfl, Nat.le_refl _, HN.out⟩
  case round =>
    obtain ⟨q, rfl, rfl, hq, hqp⟩ := hrel
    have hbb := HB.out
    have HQ := hidd hq
    by_cases hpr : Pr q
    · have he : q = p := by
        rcases Nat.lt_or_ge q p with h | h
        · exact absurd hpr (HL.out q hq h)
        · omega
      have HC := exIsPrimeT wr (n := (q : Int)) (by omega) (by omega) hpr
      have HE := hidd he
      clear hpr he hq hqp hbb
      go_wp2_with (first | (go_at_call 28; refine HC.mono ?_; rintro e w2 ⟨rfl, rfl⟩) | fail)
      go_ret
      exact ⟨.int .i64 (q : Int), rfl, Below.refl _ _, by rw [HE.out]⟩
    · have hne : q < p := by
        rcases Nat.lt_or_ge q p with h | h
        · exact h
        · exact absurd (by rw [show q = p by omega]; exact HP.out) hpr
      have HC := exIsPrimeF wr (n := (q : Int)) (by omega) (by omega) hpr
      have HNE := hidd hne
      have g9 : IntKind.i64.wrap ((q : Int) + 1) = (q : Int) + 1 := IntWalk.i64_in _ (by omega)
      clear hpr hne hq hqp hbb
      go_wp2_with (first | (go_at_call 28; refine HC.mono ?_; rintro e w2 ⟨rfl, rfl⟩) | fail)
      go_roundw
      case rel => exact ⟨q + 1, by go_num, trivial, by have := HQ.out; omega, by have := HNE.out; omega⟩
      case measure => have := HNE.out; have := HB.out; simp [intOf]; omega
end Go.Proofs.Ytpkeeacdkkmknaa

/- Walks: what layer 6's laws call. -/
namespace Go.Proofs.Ytpkeeacdkkmknaa
open Go Go.RowKit

theorem enq_f_algorist_algoristlaw06_at (args : Array Value) (w : World) : (callFunc 12 args).run Try.prog w = .ok (.enter 12 args) w := enter_of Try.func12 (by kernel_rfl) rfl args w
theorem enq_f_algorist_algoristlaw06_add (args : Array Value) (w : World) : (callFunc 13 args).run Try.prog w = .ok (.enter 13 args) w := enter_of Try.func13 (by kernel_rfl) rfl args w
theorem enq_f_algorist_algoristlaw06_times (args : Array Value) (w : World) : (callFunc 18 args).run Try.prog w = .ok (.enter 18 args) w := enter_of Try.func18 (by kernel_rfl) rfl args w
theorem enq_f_algorist_algoristlaw06_low (args : Array Value) (w : World) : (callFunc 26 args).run Try.prog w = .ok (.enter 26 args) w := enter_of Try.func26 (by kernel_rfl) rfl args w
theorem enq_f_algorist_algoristlaw06_examples (args : Array Value) (w : World) : (callFunc 7 args).run Try.prog w = .ok (.enter 7 args) w := enter_of Try.func7 (by kernel_rfl) rfl args w
theorem enq_f_algorist_algoristref06_Same (args : Array Value) (w : World) : (callFunc 14 args).run Try.prog w = .ok (.enter 14 args) w := enter_of Try.func14 (by kernel_rfl) rfl args w
theorem enq_f_algorist_algoristref06_Curve (args : Array Value) (w : World) : (callFunc 9 args).run Try.prog w = .ok (.enter 9 args) w := enter_of Try.func9 (by kernel_rfl) rfl args w
theorem size_algoristref06_Sum : sizeB 41 8 = true := by kernel_rfl
theorem fits0_algoristref06_Sum (w : World) : Fits w [.n 0, .n 0, .v (.bool false), .n 0, .v (.int .i64 0)] [.bool false, .slice none 0 0, .bool false, .slice none 0 0, .bool false, .bool false, .slice none 0 0, .int .i64 0] := ⟨_, _, _, rfl, Num.zero w, _, _, _, rfl, Num.zero w, _, rfl, rfl, _, _, _, rfl, Num.zero w, _, rfl, rfl, rfl⟩
theorem fits0P_algoristref06_Sum (w : World) : (Fq.st [.n 0, .n 0, .v (.bool false), .n 0, .v (.int .i64 0)]).P (.agg ([.bool false, .slice none 0 0, .bool false, .slice none 0 0, .bool false, .bool false, .slice none 0 0, .int .i64 0] : List Value).toArray) w := ⟨_, rfl, fits0_algoristref06_Sum w⟩
theorem ralloc_algoristref06_Sum {d : Option Tmp} {ty : TypeId} {ps : String} {af : Array Edge} (ρ : Operand → Value) (w : World) : (execOp ρ { dst := d, op := .alloc 41, type := ty, pos := ps, after := af, guard := none }).run Try.prog w = .ok (.value (.pointer (some ⟨w.heap.size, 0, none⟩))) (w.alloc (.cells [.bool false, .slice none 0 0, .bool false, .slice none 0 0, .bool false, .bool false, .slice none 0 0, .int .i64 0].toArray 41)) := by
  simp [execOp, go_sem]

/-- The sum, or the error. -/
noncomputable def addS (A B M : Int) (P Q : Pt) : Pt × Int × Int := if onB A B M P.x P.y P.i = true then (if onB A B M Q.x Q.y Q.i = true then (if (sumP A M P Q).2 = 0 then ((sumP A M P Q).1, 0, 0) else (⟨0, 0, false⟩, (sumP A M P Q).2, 6)) else (⟨0, 0, false⟩, 0, 1)) else (⟨0, 0, false⟩, 0, 1)
noncomputable def timesS (A B M : Int) (n : Int) (P : Pt) : Pt × Int × Int := if onB A B M P.x P.y P.i = true then (if (timesP A M P n).2 = 0 then ((timesP A M P n).1, 0, 0) else (⟨0, 0, false⟩, (timesP A M P n).2, 6)) else (⟨0, 0, false⟩, 0, 1)
def Fq.sm (R : Pt × Int × Int) : Fq := Fq.st [.n R.1.x, .n R.1.y, .v (.bool R.1.i), .n R.2.1, .v (.int .i64 R.2.2)]
theorem exAddS {w : World} {v v' u : Value} {A B M : Int} {P Q : Pt} (h : (Fq.st [.n A, .n B, .n M]).P v w) (h' : (Fq.pt P).P v' w) (h2 : (Fq.pt Q).P u w) (hM : ab M < pw 5) (hA : ab A < pw 5) (hB : ab B < pw 5) (hP : ab P.x < pw 5 ∧ ab P.y < pw 5) (hQ : ab Q.x < pw 5 ∧ ab Q.y < pw 5) {R : Pt × Int × Int} (hR : addS A B M P Q = R) :
    Calls Try.prog 34 #[v, v', u] w fun e w' => ∃ v', e = .returned v' ∧ Below w.heap.size w w' ∧ (Fq.tup3 (Fq.pt R.1) (Fq.num R.2.1) (Fq.is (.int .i64 R.2.2))).P v' w' := by
  subst hR
  unfold addS
  by_cases h3 : onB A B M P.x P.y P.i = true
  · rw [if_pos h3]
    by_cases h4 : onB A B M Q.x Q.y Q.i = true
    · rw [if_pos h4]
      by_cases h5 : (sumP A M P Q).2 = 0
      · rw [if_pos h5]; exact exAddP h h' h2 hM hA hB hP hQ h3 h4 rfl h5
      · rw [if_neg h5]; exact exAddN h h' h2 hM hA hB hP hQ h3 h4 rfl h5
    · rw [if_neg h4]; exact exAddE2 h h' h2 hM hA hB hP hQ h3 (bfalse h4)
  · rw [if_neg h3]; exact exAddE1 h h' h2 hM hA hB hP hQ (bfalse h3)
theorem exTimesS {w : World} {v v' u : Value} {A B M n : Int} {P : Pt} (h : (Fq.st [.n A, .n B, .n M]).P v w) (h' : Num w v' n) (g : (Fq.pt P).P u w) (hM : ab M < pw 5) (hA : ab A < pw 5) (hB : ab B < pw 5) (hn : ab n < pw 20) (hP : ab P.x < pw 5 ∧ ab P.y < pw 5) {R : Pt × Int × Int} (hR : timesS A B M n P = R) :
    Calls Try.prog 39 #[v, v', u] w fun e w' => ∃ v', e = .returned v' ∧ Below w.heap.size w w' ∧ (Fq.tup3 (Fq.pt R.1) (Fq.num R.2.1) (Fq.is (.int .i64 R.2.2))).P v' w' := by
  subst hR
  unfold timesS
  by_cases h3 : onB A B M P.x P.y P.i = true
  · rw [if_pos h3]
    by_cases h5 : (timesP A M P n).2 = 0
    · rw [if_pos h5]
      by_cases h6 : n < 0
      · exact exTimes10 h h' g hM hA hB hn hP h3 rfl h6 h5
      · exact exTimes00 h h' g hM hA hB hn hP h3 rfl h6 h5
    · rw [if_neg h5]
      by_cases h6 : n < 0
      · exact exTimes11 h h' g hM hA hB hn hP h3 rfl h6 h5
      · exact exTimes01 h h' g hM hA hB hn hP h3 rfl h6 h5
  · rw [if_neg h3]; exact exTimesE h h' g hM hA hB hn hP (bfalse h3)
theorem ab_i64 {x : Int} (h0 : -9223372036854775808 ≤ x) (h1 : x ≤ 9223372036854775807) : ab x < pw 3 := by
  have hp : pw 3 = 79228162514264337593543950336 := by decide
  rw [hp]
  unfold ab
  omega
def sameP (P Q : Pt) : Bool := decide (P.i = Q.i) && (decide (P.x = Q.x) && decide (P.y = Q.y))
section
variable {os : List Oper} {Q : Exit → Act → World → Prop} {a : Act} {p : Pq} {B B0 : Nat} {w0 : World}
variable {i s : Nat} {d : Option Tmp} {ty : TypeId} {ps : String} {af : Array Edge} {gd : Option (Nat × Bool)}
theorem q_build_algoristref06_Sum_012 {x0 : Operand} {z0_0 : Int} {z0_1 : Int} {u0_2 : Bool} {x1 : Operand} {z1 : Int} {x2 : Operand} {u2 : Int} (hp : p.Ok B B0) (hF : p.Free i) (hg : GdQ os a p B B0 w0 af gd) (h0 : SrcQ os a p B B0 w0 af x0 (Fq.st [.n z0_0, .n z0_1, .v (.bool u0_2)]).P) (h1 : SrcQ os a p B B0 w0 af x1 fun v w => Num w v z1) (h2 : SrcQ os a p B B0 w0 af x2 fun v _ => v = .int .i64 u2) (hC : ∀ v w, (Fq.st [.n z0_0, .n z0_1, .v (.bool u0_2), .n z1, .v (.int .i64 u2)]).P v w → (p.c i).P v w) :
    StepQ os Q a p B B0 w0 i { dst := d, op := .build 41 #[(0, x0), (1, x1), (2, x2)], type := ty, pos := ps, after := af, guard := gd } := by
  refine stq_val hp hF hg fun L vs w hG hL hc hd => ?_
  have g0 := h0 L vs w hG hd
  obtain ⟨_, e0, _, _, _, rfl, a0_n0, _, _, _, rfl, a0_n1, _, rfl, _, rfl⟩ := g0
  obtain ⟨n0_0, ao0_0, k0_0, c0_0, e0_0⟩ := a0_n0.parts
  have m0_0 := a0_n0
  rw [e0_0] at m0_0
  obtain ⟨n0_1, ao0_1, k0_1, c0_1, e0_1⟩ := a0_n1.parts
  have m0_1 := a0_n1
  rw [e0_1] at m0_1
  injection e0_0 with f0_0
  have f0_0 := congrArg Array.toList f0_0
  simp at f0_0
  obtain ⟨rfl, rfl⟩ := f0_0
  injection e0_1 with f0_1
  have f0_1 := congrArg Array.toList f0_1
  simp at f0_1
  obtain ⟨rfl, rfl⟩ := f0_1
  have g1 := h1 L vs w hG hd
  obtain ⟨n1, ao1, k1, c1, e1⟩ := g1.parts
  have m1 : Num w (.agg #[.bool n1, .slice ao1 k1 c1]) z1 := by rw [← e1]; exact g1
  have g2 := h2 L vs w hG hd
  refine ⟨.agg #[.bool n0_0, .slice ao0_0 k0_0 c0_0, .bool n0_1, .slice ao0_1 k0_1 c0_1, .bool u0_2, .bool n1, .slice ao1 k1 c1, .int .i64 u2], ?_, hC _ _ ⟨_, rfl, _, _, _, rfl, m0_0, _, _, _, rfl, m0_1, _, rfl, rfl, _, _, _, rfl, m1, _, rfl, rfl, rfl⟩⟩
  generalize (lay os.toArray L vs os.toArray.size a).eval = ρ at e0 e1 g2
  simp [execOp, go_sem, e0, e1, g2]
end
set_option maxRecDepth 100000 in
set_option maxHeartbeats 4000000 in
theorem exAt {w : World} {x y : Int} (hx : -9223372036854775808 ≤ x ∧ x ≤ 9223372036854775807) (hy : -9223372036854775808 ≤ y ∧ y ≤ 9223372036854775807) :
    Calls Try.prog 12 #[.int .i64 x, .int .i64 y] w fun e w' => ∃ v', e = .returned v' ∧ Below w.heap.size w w' ∧ (Fq.st [.n x, .n y, .v (.bool false)]).P v' w' := by
  have HX := hidd hx
  have HY := hidd hy
  have Bx : Hid (ab x < pw 3) := ab_i64 hx.1 hx.2
  have By : Hid (ab y < pw 3) := ab_i64 hy.1 hy.2
  clear hx hy
  obtain ⟨w1, b1, hw1, hb1, hs1, E⟩ := fr_start w (F := Fq.st [.n 0, .n 0, .v (.bool false)]) (us := [.bool false, .slice none 0 0, .bool false, .slice none 0 0, .bool false]) 37 rfl (by simp) ((Fits.tame (fits0_api_Point w))) (fits0P_api_Point _)
  go_enter Try.func12, Try.ntmps12
  go_upto_region 1 with (fail)
  rw [← hw1]
  rw [← hb1]
  clear hw1 hb1 hs1
  refine region_fr (C := [Fq.is (.int .i64 x), Fq.num x, Fq.is (.int .i64 y), Fq.num y, Fq.st [.n x, .n y, .v (.bool false)], Fq.any]) (ks := [some (5, Fq.st [.n x, .n y, .v (.bool false)])]) (new := []) E rfl (by kernel_rfl) rfl rfl (fun hp => ⟨?_, ?_, ?_, ?_, ?_, ?_, trivial⟩) ?_
  · exact q_move hp (free_of rfl) trivial (sq_out (s := 0) rfl rfl (fun _ _ => rfl))
  · exact q_call1 (F := (Fq.is (.int .i64 x)).P) hp (free_of rfl) trivial (enq_R_Of) (sq_in 0 rfl rfl (by simp) rfl (fun v w h => h)) (fun v w h => (by subst h; exact rOfK w x HX.out.1 HX.out.2))
  · exact q_move hp (free_of rfl) trivial (sq_out (s := 1) rfl rfl (fun _ _ => rfl))
  · exact q_call1 (F := (Fq.is (.int .i64 y)).P) hp (free_of rfl) trivial (enq_R_Of) (sq_in 2 rfl rfl (by simp) rfl (fun v w h => h)) (fun v w h => (by subst h; exact rOfK w y HY.out.1 HY.out.2))
  · exact q_build_api_Point_01 (z0 := x) (z1 := y) hp (free_of rfl) trivial (sq_in 1 rfl rfl (by simp) rfl (fun v w h => h)) (sq_in 3 rfl rfl (by simp) rfl (fun v w h => h)) (fun v w h => h)
  · exact q_storeOldSt (off := 0) (fs := [.n 0, .n 0, .v (.bool false)]) (gs := [.n x, .n y, .v (.bool false)]) (fs' := [.n x, .n y, .v (.bool false)]) hp (List.mem_iff_getElem?.2 ⟨0, rfl⟩) rfl rfl rfl size_api_Point rfl (sq_out (s := 4) rfl rfl (fun _ _ => rfl)) (sq_in 4 rfl rfl (by simp) rfl (fun v w h => fitv_st h)) (fun _ _ => trivial) (newik_ne rfl)
  intro L vs w2 nb hL hC hn E2
  have e0 : vs 0 = .int .i64 x := hC 0 (by simp)
  have e2 : vs 2 = .int .i64 y := hC 2 (by simp)
  have E : Fr w [(b1, 5, Fq.st [.n x, .n y, .v (.bool false)])] w2 := E2
  rw [lay_all hL]
  simp only [putAll, dstOf, List.length_cons, List.length_nil, Nat.zero_add, Nat.reduceAdd, List.getElem?_toArray, List.getElem?_cons_zero, List.getElem?_cons_succ, Option.bind_some, Act.put, List.setIfInBounds_toArray, List.set_cons_succ, List.set_cons_zero]
  rw [e0, e2]
  generalize vs 1 = u2_1
  generalize vs 3 = u2_3
  generalize vs 4 = u2_4
  clear e0 e2 hC hn E2 hL vs L nb
  clear HX HY
  obtain ⟨_, _, hc0, hf0⟩ := box_st (E.box 0 rfl)
  have hP0 := hf0
  obtain ⟨r0_p0, r0_q0, _, rfl, _r0_n0, r0_p1, r0_q1, _, rfl, _r0_n1, _, rfl, _, rfl⟩ := hf0
  have c0_0 := hc0 0 (by simp)
  have c0_1 := hc0 1 (by simp)
  have c0_2 := hc0 2 (by simp)
  have c0_3 := hc0 3 (by simp)
  have c0_4 := hc0 4 (by simp)
  simp only [List.getD_cons_zero, List.getD_cons_succ] at c0_0 c0_1 c0_2 c0_3 c0_4
  clear hc0
  clear Bx By
  go_wp2
  refine bodyPost_ret (v := .agg #[r0_p0, r0_q0, r0_p1, r0_q1, .bool false]) ?_ rfl ⟨_, rfl, E.below, ⟨_, rfl, hP0⟩⟩
  simp [results, Try.results12, go_sem, c0_0, c0_1, c0_2, c0_3, c0_4]

set_option maxRecDepth 100000 in
set_option maxHeartbeats 4000000 in
theorem exLAdd {w : World} {v v' u : Value} {A B M : Int} {P Q : Pt} (h : (Fq.st [.n A, .n B, .n M]).P v w) (h' : (Fq.pt P).P v' w) (h2 : (Fq.pt Q).P u w) (hM : ab M < pw 5) (hA : ab A < pw 5) (hB : ab B < pw 5) (hP : ab P.x < pw 5 ∧ ab P.y < pw 5) (hQ : ab Q.x < pw 5 ∧ ab Q.y < pw 5) {R : Pt × Int × Int} (hR : addS A B M P Q = R) :
    Calls Try.prog 13 #[v, v', u] w fun e w' => ∃ v', e = .returned v' ∧ Below w.heap.size w w' ∧ (Fq.sm R).P v' w' := by
  replace hM := hidd hM
  replace hA := hidd hA
  replace hB := hidd hB
  replace hP := hidd hP
  replace hQ := hidd hQ
  replace hR := hidd hR
  obtain ⟨_, rfl, hf0⟩ := h
  have hF0 := hf0
  obtain ⟨y0_p0, y0_q0, _, rfl, _y0_n0, y0_p1, y0_q1, _, rfl, _y0_n1, y0_p2, y0_q2, _, rfl, _y0_n2, rfl⟩ := hf0
  obtain ⟨_, rfl, hf1⟩ := h'
  have hF1 := hf1
  obtain ⟨y1_p0, y1_q0, _, rfl, _y1_n0, y1_p1, y1_q1, _, rfl, _y1_n1, _, rfl, _, rfl⟩ := hf1
  obtain ⟨_, rfl, hf2⟩ := h2
  have hF2 := hf2
  obtain ⟨y2_p0, y2_q0, _, rfl, _y2_n0, y2_p1, y2_q1, _, rfl, _y2_n1, _, rfl, _, rfl⟩ := hf2
  obtain ⟨w1, b1, hw1, hb1, hs1, E⟩ := fr_start w (F := Fq.st [.n A, .n B, .n M]) (us := [y0_p0, y0_q0, y0_p1, y0_q1, y0_p2, y0_q2]) 31 rfl (by simp) (hF0.tame) (show (Fq.st [.n A, .n B, .n M]).P _ w from ⟨_, rfl, hF0⟩)
  obtain ⟨w2, b2, hw2, hb2, hs2, E⟩ := fr_more E hs1 (F := Fq.st [.n P.x, .n P.y, .v (.bool P.i)]) (us := [y1_p0, y1_q0, y1_p1, y1_q1, .bool P.i]) 37 rfl (by simp) (hF1.tame) ((Fq.st [.n P.x, .n P.y, .v (.bool P.i)]).mono (show (Fq.st [.n P.x, .n P.y, .v (.bool P.i)]).P _ w from ⟨_, rfl, hF1⟩) E.below)
  obtain ⟨w3, b3, hw3, hb3, hs3, E⟩ := fr_more E hs2 (F := Fq.st [.n Q.x, .n Q.y, .v (.bool Q.i)]) (us := [y2_p0, y2_q0, y2_p1, y2_q1, .bool Q.i]) 37 rfl (by simp) (hF2.tame) ((Fq.st [.n Q.x, .n Q.y, .v (.bool Q.i)]).mono (show (Fq.st [.n Q.x, .n Q.y, .v (.bool Q.i)]).P _ w from ⟨_, rfl, hF2⟩) E.below)
  obtain ⟨w4, b4, hw4, hb4, hs4, E⟩ := fr_more E hs3 (F := Fq.st [.n 0, .n 0, .v (.bool false), .n 0, .v (.int .i64 0)]) (us := [.bool false, .slice none 0 0, .bool false, .slice none 0 0, .bool false, .bool false, .slice none 0 0, .int .i64 0]) 41 rfl (by simp) ((Fits.tame (fits0_algoristref06_Sum w))) (fits0P_algoristref06_Sum _)
  go_enter Try.func13, Try.ntmps13
  go_upto_region 1 with (fail)
  rw [← hw1]
  rw [← hw2]
  rw [← hw3]
  rw [← hw4]
  rw [← hb4]
  rw [← hb3]
  rw [← hb2]
  rw [← hb1]
  clear hw1 hw2 hw3 hw4 hb1 hb2 hb3 hb4 hs4 hs1 hs2 hs3
  refine region_fr (C := [Fq.st [.n A, .n B, .n M], Fq.st [.n P.x, .n P.y, .v (.bool P.i)], Fq.st [.n Q.x, .n Q.y, .v (.bool Q.i)], Fq.tup3 (Fq.st [.n R.1.x, .n R.1.y, .v (.bool R.1.i)]) (Fq.num R.2.1) (Fq.is (.int .i64 R.2.2)), Fq.tup3 (Fq.st [.n R.1.x, .n R.1.y, .v (.bool R.1.i)]) (Fq.num R.2.1) (Fq.is (.int .i64 R.2.2)), Fq.st [.n R.1.x, .n R.1.y, .v (.bool R.1.i)], Fq.num R.2.1, Fq.is (.int .i64 R.2.2), Fq.any, Fq.any, Fq.any, Fq.any, Fq.is (.int .i64 R.2.2)]) (ks := [none, none, none, none]) (new := [⟨8, 10, 5, Fq.st [.n 0, .n 0, .v (.bool false)], Fq.st [.n R.1.x, .n R.1.y, .v (.bool R.1.i)], none⟩, ⟨9, 11, 2, Fq.num 0, Fq.num R.2.1, none⟩]) E rfl (by kernel_rfl) rfl rfl (fun hp => ⟨?_, ?_, ?_, ?_, ?_, ?_, ?_, ?_, ?_, ?_, ?_, ?_, ?_, trivial⟩) ?_
  · exact q_loadSt (off := 0) (l := 6) (fs := [.n A, .n B, .n M]) (gs := [.n A, .n B, .n M]) hp (free_of rfl) trivial (List.mem_iff_getElem?.2 ⟨3, rfl⟩) (.inl rfl) rfl row_api_Mod rfl (sq_out (s := 3) rfl rfl (fun _ _ => rfl)) (fun v w h => h)
  · exact q_loadSt (off := 0) (l := 5) (fs := [.n P.x, .n P.y, .v (.bool P.i)]) (gs := [.n P.x, .n P.y, .v (.bool P.i)]) hp (free_of rfl) trivial (List.mem_iff_getElem?.2 ⟨2, rfl⟩) (.inl rfl) rfl row_api_Point rfl (sq_out (s := 4) rfl rfl (fun _ _ => rfl)) (fun v w h => h)
  · exact q_loadSt (off := 0) (l := 5) (fs := [.n Q.x, .n Q.y, .v (.bool Q.i)]) (gs := [.n Q.x, .n Q.y, .v (.bool Q.i)]) hp (free_of rfl) trivial (List.mem_iff_getElem?.2 ⟨1, rfl⟩) (.inl rfl) rfl row_api_Point rfl (sq_out (s := 5) rfl rfl (fun _ _ => rfl)) (fun v w h => h)
  · exact q_call3 (F := (Fq.st [.n A, .n B, .n M]).P) (G := (Fq.st [.n P.x, .n P.y, .v (.bool P.i)]).P) (F3 := (Fq.st [.n Q.x, .n Q.y, .v (.bool Q.i)]).P) hp (free_of rfl) trivial (enq_f_algorist_point_Add) (sq_in 0 rfl rfl (by simp) rfl (fun v w h => h)) (sq_in 1 rfl rfl (by simp) rfl (fun v w h => h)) (sq_in 2 rfl rfl (by simp) rfl (fun v w h => h)) (fun v v' u w h h' g => exAddS h h' g hM.out hA.out hB.out hP.out hQ.out hR.out)
  · exact q_move hp (free_of rfl) trivial (sq_in 3 rfl rfl (by simp) rfl (fun v w h => h))
  · exact q_extract3 hp (free_of rfl) trivial (sq_in 4 rfl rfl (by simp) rfl (fun v w h => h)) (fun v1 v2 v3 w h1 h2 h3 => ⟨_, rfl, h1⟩)
  · exact q_extract3 hp (free_of rfl) trivial (sq_in 4 rfl rfl (by simp) rfl (fun v w h => h)) (fun v1 v2 v3 w h1 h2 h3 => ⟨_, rfl, h2⟩)
  · exact q_extract3 hp (free_of rfl) trivial (sq_in 4 rfl rfl (by simp) rfl (fun v w h => h)) (fun v1 v2 v3 w h1 h2 h3 => ⟨_, rfl, h3⟩)
  · exact q_allocSt (us := [.bool false, .slice none 0 0, .bool false, .slice none 0 0, .bool false]) (fs := [.n 0, .n 0, .v (.bool false)]) hp (List.mem_iff_getElem?.2 ⟨0, rfl⟩) rfl rfl rfl (Nat.lt_of_sub_eq_succ rfl) rfl fits0_api_Point (fun ρ w => ralloc_api_Point ρ w) rfl (Nat.ne_of_beq_eq_false rfl) (fun _ _ => trivial) (old_ne rfl) (newk_ne rfl)
  · exact q_allocInt hp (List.mem_iff_getElem?.2 ⟨1, rfl⟩) rfl rfl rfl rfl (Nat.ne_of_beq_eq_false rfl) (fun _ _ => trivial) (old_ne rfl) (newk_ne rfl) (fun w => Num.zero w)
  · exact q_storeNewSt (fs := [.n 0, .n 0, .v (.bool false)]) (gs := [.n R.1.x, .n R.1.y, .v (.bool R.1.i)]) hp (List.mem_iff_getElem?.2 ⟨0, rfl⟩) rfl rfl rfl rfl size_api_Point rfl (own_ptr rfl rfl (by simp) rfl) (sq_in 5 rfl rfl (by simp) rfl (fun v w h => fitv_st h)) (fun _ _ => trivial) (old_ne rfl) (newi_ne rfl)
  · exact q_storeNewInt hp (List.mem_iff_getElem?.2 ⟨1, rfl⟩) rfl rfl rfl (own_ptr rfl rfl (by simp) rfl) (sq_in 6 rfl rfl (by simp) rfl (fun v w h => intV_num h)) (fun _ _ => trivial) (old_ne rfl) (newi_ne rfl)
  · exact q_assign hp (free_of rfl) trivial (sq_in 7 rfl rfl (by simp) rfl (fun v w h => h))
  intro L vs w5 nb hL hC hn E5
  have e7 : vs 7 = .int .i64 R.2.2 := hC 7 (by simp)
  have e12 : vs 12 = .int .i64 R.2.2 := hC 12 (by simp)
  have e8 : vs 8 = .pointer (some ⟨nb 8, 0, none⟩) := hn _ (List.mem_iff_getElem?.2 ⟨0, rfl⟩)
  have e9 : vs 9 = .pointer (some ⟨nb 9, 0, none⟩) := hn _ (List.mem_iff_getElem?.2 ⟨1, rfl⟩)
  have E : Fr w [(nb 8, 5, Fq.st [.n R.1.x, .n R.1.y, .v (.bool R.1.i)]), (nb 9, 2, Fq.num R.2.1), (b4, 8, Fq.st [.n 0, .n 0, .v (.bool false), .n 0, .v (.int .i64 0)]), (b3, 5, Fq.st [.n Q.x, .n Q.y, .v (.bool Q.i)]), (b2, 5, Fq.st [.n P.x, .n P.y, .v (.bool P.i)]), (b1, 6, Fq.st [.n A, .n B, .n M])] w5 := E5
  rw [lay_all hL]
  simp only [putAll, dstOf, List.length_cons, List.length_nil, Nat.zero_add, Nat.reduceAdd, List.getElem?_toArray, List.getElem?_cons_zero, List.getElem?_cons_succ, Option.bind_some, Act.put, List.setIfInBounds_toArray, List.set_cons_succ, List.set_cons_zero]
  rw [e7, e12, e8, e9]
  generalize nb 8 = b5_8 at E ⊢
  generalize nb 9 = b5_9 at E ⊢
  generalize vs 0 = u5_0
  generalize vs 1 = u5_1
  generalize vs 2 = u5_2
  generalize vs 3 = u5_3
  generalize vs 4 = u5_4
  generalize vs 5 = u5_5
  generalize vs 6 = u5_6
  clear e7 e12 e8 e9 hC hn E5 hL vs L nb
  go_upto_region 2 with (fail)
  refine region_fr (C := [Fq.st [.n R.1.x, .n R.1.y, .v (.bool R.1.i)], Fq.num R.2.1, Fq.is (.int .i64 R.2.2), Fq.st [.n R.1.x, .n R.1.y, .v (.bool R.1.i), .n R.2.1, .v (.int .i64 R.2.2)], Fq.any]) (ks := [none, none, some (4, Fq.st [.n R.1.x, .n R.1.y, .v (.bool R.1.i), .n R.2.1, .v (.int .i64 R.2.2)]), none, none, none]) (new := []) E rfl (by kernel_rfl) rfl rfl (fun hp => ⟨?_, ?_, ?_, ?_, ?_, trivial⟩) ?_
  · exact q_loadSt (off := 0) (l := 5) (fs := [.n R.1.x, .n R.1.y, .v (.bool R.1.i)]) (gs := [.n R.1.x, .n R.1.y, .v (.bool R.1.i)]) hp (free_of rfl) trivial (List.mem_iff_getElem?.2 ⟨0, rfl⟩) (.inl rfl) rfl row_api_Point rfl (sq_out (s := 7) rfl rfl (fun _ _ => rfl)) (fun v w h => h)
  · exact q_loadInt (off := 0) hp (free_of rfl) trivial (List.mem_iff_getElem?.2 ⟨1, rfl⟩) (.inl rfl) (Nat.le_of_ble_eq_true rfl) (sq_out (s := 8) rfl rfl (fun _ _ => rfl)) (fun us w hl h => ld_num hl h)
  · exact q_move hp (free_of rfl) trivial (sq_out (s := 9) rfl rfl (fun _ _ => rfl))
  · exact q_build_algoristref06_Sum_012 (z1 := R.2.1) (u2 := R.2.2) (z0_0 := R.1.x) (z0_1 := R.1.y) (u0_2 := R.1.i) hp (free_of rfl) trivial (sq_in 0 rfl rfl (by simp) rfl (fun v w h => h)) (sq_in 1 rfl rfl (by simp) rfl (fun v w h => h)) (sq_in 2 rfl rfl (by simp) rfl (fun v w h => h)) (fun v w h => h)
  · exact q_storeOldSt (off := 0) (fs := [.n 0, .n 0, .v (.bool false), .n 0, .v (.int .i64 0)]) (gs := [.n R.1.x, .n R.1.y, .v (.bool R.1.i), .n R.2.1, .v (.int .i64 R.2.2)]) (fs' := [.n R.1.x, .n R.1.y, .v (.bool R.1.i), .n R.2.1, .v (.int .i64 R.2.2)]) hp (List.mem_iff_getElem?.2 ⟨2, rfl⟩) rfl rfl rfl size_algoristref06_Sum rfl (sq_out (s := 6) rfl rfl (fun _ _ => rfl)) (sq_in 3 rfl rfl (by simp) rfl (fun v w h => fitv_st h)) (fun _ _ => trivial) (newik_ne rfl)
  intro L vs w6 nb hL hC hn E6
  have e2 : vs 2 = .int .i64 R.2.2 := hC 2 (by simp)
  have E : Fr w [(b5_8, 5, Fq.st [.n R.1.x, .n R.1.y, .v (.bool R.1.i)]), (b5_9, 2, Fq.num R.2.1), (b4, 8, Fq.st [.n R.1.x, .n R.1.y, .v (.bool R.1.i), .n R.2.1, .v (.int .i64 R.2.2)]), (b3, 5, Fq.st [.n Q.x, .n Q.y, .v (.bool Q.i)]), (b2, 5, Fq.st [.n P.x, .n P.y, .v (.bool P.i)]), (b1, 6, Fq.st [.n A, .n B, .n M])] w6 := E6
  rw [lay_all hL]
  simp only [putAll, dstOf, List.length_cons, List.length_nil, Nat.zero_add, Nat.reduceAdd, List.getElem?_toArray, List.getElem?_cons_zero, List.getElem?_cons_succ, Option.bind_some, Act.put, List.setIfInBounds_toArray, List.set_cons_succ, List.set_cons_zero]
  rw [e2]
  generalize vs 0 = u6_0
  generalize vs 1 = u6_1
  generalize vs 3 = u6_3
  clear e2 hC hn E6 hL vs L nb
  clear hR
  obtain ⟨_, _, hc0, hf0⟩ := box_st (E.box 2 rfl)
  have hP0 := hf0
  obtain ⟨r0_p0, r0_q0, _, rfl, _r0_n0, r0_p1, r0_q1, _, rfl, _r0_n1, _, rfl, _, r0_p3, r0_q3, _, rfl, _r0_n3, _, rfl, _, rfl⟩ := hf0
  have c0_0 := hc0 0 (by simp)
  have c0_1 := hc0 1 (by simp)
  have c0_2 := hc0 2 (by simp)
  have c0_3 := hc0 3 (by simp)
  have c0_4 := hc0 4 (by simp)
  have c0_5 := hc0 5 (by simp)
  have c0_6 := hc0 6 (by simp)
  have c0_7 := hc0 7 (by simp)
  simp only [List.getD_cons_zero, List.getD_cons_succ] at c0_0 c0_1 c0_2 c0_3 c0_4 c0_5 c0_6 c0_7
  clear hc0
  clear hM hA hB hP hQ
  go_wp2
  refine bodyPost_ret (v := .agg #[r0_p0, r0_q0, r0_p1, r0_q1, .bool R.1.i, r0_p3, r0_q3, .int .i64 R.2.2]) ?_ rfl ⟨_, rfl, E.below, ⟨_, rfl, hP0⟩⟩
  simp [results, Try.results13, go_sem, c0_0, c0_1, c0_2, c0_3, c0_4, c0_5, c0_6, c0_7]

set_option maxRecDepth 100000 in
set_option maxHeartbeats 4000000 in
theorem exLTimes {w : World} {v v' u : Value} {A B M n : Int} {P : Pt} (h : (Fq.st [.n A, .n B, .n M]).P v w) (h' : Num w v' n) (g : (Fq.pt P).P u w) (hM : ab M < pw 5) (hA : ab A < pw 5) (hB : ab B < pw 5) (hn : ab n < pw 20) (hP : ab P.x < pw 5 ∧ ab P.y < pw 5) {R : Pt × Int × Int} (hR : timesS A B M n P = R) :
    Calls Try.prog 18 #[v, v', u] w fun e w' => ∃ v', e = .returned v' ∧ Below w.heap.size w w' ∧ (Fq.sm R).P v' w' := by
  replace hM := hidd hM
  replace hA := hidd hA
  replace hB := hidd hB
  replace hn := hidd hn
  replace hP := hidd hP
  replace hR := hidd hR
  obtain ⟨_, rfl, hf0⟩ := h
  have hF0 := hf0
  obtain ⟨y0_p0, y0_q0, _, rfl, _y0_n0, y0_p1, y0_q1, _, rfl, _y0_n1, y0_p2, y0_q2, _, rfl, _y0_n2, rfl⟩ := hf0
  obtain ⟨n1, ao1, k1, c1, rfl⟩ := h'.parts
  obtain ⟨_, rfl, hf2⟩ := g
  have hF2 := hf2
  obtain ⟨y2_p0, y2_q0, _, rfl, _y2_n0, y2_p1, y2_q1, _, rfl, _y2_n1, _, rfl, _, rfl⟩ := hf2
  obtain ⟨w1, b1, hw1, hb1, hs1, E⟩ := fr_start w (F := Fq.st [.n A, .n B, .n M]) (us := [y0_p0, y0_q0, y0_p1, y0_q1, y0_p2, y0_q2]) 31 rfl (by simp) (hF0.tame) (show (Fq.st [.n A, .n B, .n M]).P _ w from ⟨_, rfl, hF0⟩)
  obtain ⟨w2, b2, hw2, hb2, hs2, E⟩ := fr_more E hs1 (F := Fq.num n) (us := [.bool n1, .slice ao1 k1 c1]) 29 rfl (by simp) (tame_int _ _ _ _) (h'.mono E.below)
  obtain ⟨w3, b3, hw3, hb3, hs3, E⟩ := fr_more E hs2 (F := Fq.st [.n P.x, .n P.y, .v (.bool P.i)]) (us := [y2_p0, y2_q0, y2_p1, y2_q1, .bool P.i]) 37 rfl (by simp) (hF2.tame) ((Fq.st [.n P.x, .n P.y, .v (.bool P.i)]).mono (show (Fq.st [.n P.x, .n P.y, .v (.bool P.i)]).P _ w from ⟨_, rfl, hF2⟩) E.below)
  obtain ⟨w4, b4, hw4, hb4, hs4, E⟩ := fr_more E hs3 (F := Fq.st [.n 0, .n 0, .v (.bool false), .n 0, .v (.int .i64 0)]) (us := [.bool false, .slice none 0 0, .bool false, .slice none 0 0, .bool false, .bool false, .slice none 0 0, .int .i64 0]) 41 rfl (by simp) ((Fits.tame (fits0_algoristref06_Sum w))) (fits0P_algoristref06_Sum _)
  go_enter Try.func18, Try.ntmps18
  go_upto_region 1 with (fail)
  rw [← hw1]
  rw [← hw2]
  rw [← hw3]
  rw [← hw4]
  rw [← hb4]
  rw [← hb3]
  rw [← hb2]
  rw [← hb1]
  clear hw1 hw2 hw3 hw4 hb1 hb2 hb3 hb4 hs4 hs1 hs2 hs3
  refine region_fr (C := [Fq.st [.n A, .n B, .n M], Fq.num n, Fq.st [.n P.x, .n P.y, .v (.bool P.i)], Fq.tup3 (Fq.st [.n R.1.x, .n R.1.y, .v (.bool R.1.i)]) (Fq.num R.2.1) (Fq.is (.int .i64 R.2.2)), Fq.tup3 (Fq.st [.n R.1.x, .n R.1.y, .v (.bool R.1.i)]) (Fq.num R.2.1) (Fq.is (.int .i64 R.2.2)), Fq.st [.n R.1.x, .n R.1.y, .v (.bool R.1.i)], Fq.num R.2.1, Fq.is (.int .i64 R.2.2), Fq.any, Fq.any, Fq.any, Fq.any, Fq.is (.int .i64 R.2.2)]) (ks := [none, none, none, none]) (new := [⟨8, 10, 5, Fq.st [.n 0, .n 0, .v (.bool false)], Fq.st [.n R.1.x, .n R.1.y, .v (.bool R.1.i)], none⟩, ⟨9, 11, 2, Fq.num 0, Fq.num R.2.1, none⟩]) E rfl (by kernel_rfl) rfl rfl (fun hp => ⟨?_, ?_, ?_, ?_, ?_, ?_, ?_, ?_, ?_, ?_, ?_, ?_, ?_, trivial⟩) ?_
  · exact q_loadSt (off := 0) (l := 6) (fs := [.n A, .n B, .n M]) (gs := [.n A, .n B, .n M]) hp (free_of rfl) trivial (List.mem_iff_getElem?.2 ⟨3, rfl⟩) (.inl rfl) rfl row_api_Mod rfl (sq_out (s := 3) rfl rfl (fun _ _ => rfl)) (fun v w h => h)
  · exact q_loadInt (off := 0) hp (free_of rfl) trivial (List.mem_iff_getElem?.2 ⟨2, rfl⟩) (.inl rfl) (Nat.le_of_ble_eq_true rfl) (sq_out (s := 4) rfl rfl (fun _ _ => rfl)) (fun us w hl h => ld_num hl h)
  · exact q_loadSt (off := 0) (l := 5) (fs := [.n P.x, .n P.y, .v (.bool P.i)]) (gs := [.n P.x, .n P.y, .v (.bool P.i)]) hp (free_of rfl) trivial (List.mem_iff_getElem?.2 ⟨1, rfl⟩) (.inl rfl) rfl row_api_Point rfl (sq_out (s := 5) rfl rfl (fun _ _ => rfl)) (fun v w h => h)
  · exact q_call3 (F := (Fq.st [.n A, .n B, .n M]).P) (G := (Fq.num n).P) (F3 := (Fq.st [.n P.x, .n P.y, .v (.bool P.i)]).P) hp (free_of rfl) trivial (enq_f_algorist_point_Times) (sq_in 0 rfl rfl (by simp) rfl (fun v w h => h)) (sq_in 1 rfl rfl (by simp) rfl (fun v w h => h)) (sq_in 2 rfl rfl (by simp) rfl (fun v w h => h)) (fun v v' u w h h' g => exTimesS h h' g hM.out hA.out hB.out hn.out hP.out hR.out)
  · exact q_move hp (free_of rfl) trivial (sq_in 3 rfl rfl (by simp) rfl (fun v w h => h))
  · exact q_extract3 hp (free_of rfl) trivial (sq_in 4 rfl rfl (by simp) rfl (fun v w h => h)) (fun v1 v2 v3 w h1 h2 h3 => ⟨_, rfl, h1⟩)
  · exact q_extract3 hp (free_of rfl) trivial (sq_in 4 rfl rfl (by simp) rfl (fun v w h => h)) (fun v1 v2 v3 w h1 h2 h3 => ⟨_, rfl, h2⟩)
  · exact q_extract3 hp (free_of rfl) trivial (sq_in 4 rfl rfl (by simp) rfl (fun v w h => h)) (fun v1 v2 v3 w h1 h2 h3 => ⟨_, rfl, h3⟩)
  · exact q_allocSt (us := [.bool false, .slice none 0 0, .bool false, .slice none 0 0, .bool false]) (fs := [.n 0, .n 0, .v (.bool false)]) hp (List.mem_iff_getElem?.2 ⟨0, rfl⟩) rfl rfl rfl (Nat.lt_of_sub_eq_succ rfl) rfl fits0_api_Point (fun ρ w => ralloc_api_Point ρ w) rfl (Nat.ne_of_beq_eq_false rfl) (fun _ _ => trivial) (old_ne rfl) (newk_ne rfl)
  · exact q_allocInt hp (List.mem_iff_getElem?.2 ⟨1, rfl⟩) rfl rfl rfl rfl (Nat.ne_of_beq_eq_false rfl) (fun _ _ => trivial) (old_ne rfl) (newk_ne rfl) (fun w => Num.zero w)
  · exact q_storeNewSt (fs := [.n 0, .n 0, .v (.bool false)]) (gs := [.n R.1.x, .n R.1.y, .v (.bool R.1.i)]) hp (List.mem_iff_getElem?.2 ⟨0, rfl⟩) rfl rfl rfl rfl size_api_Point rfl (own_ptr rfl rfl (by simp) rfl) (sq_in 5 rfl rfl (by simp) rfl (fun v w h => fitv_st h)) (fun _ _ => trivial) (old_ne rfl) (newi_ne rfl)
  · exact q_storeNewInt hp (List.mem_iff_getElem?.2 ⟨1, rfl⟩) rfl rfl rfl (own_ptr rfl rfl (by simp) rfl) (sq_in 6 rfl rfl (by simp) rfl (fun v w h => intV_num h)) (fun _ _ => trivial) (old_ne rfl) (newi_ne rfl)
  · exact q_assign hp (free_of rfl) trivial (sq_in 7 rfl rfl (by simp) rfl (fun v w h => h))
  intro L vs w5 nb hL hC hn E5
  have e7 : vs 7 = .int .i64 R.2.2 := hC 7 (by simp)
  have e12 : vs 12 = .int .i64 R.2.2 := hC 12 (by simp)
  have e8 : vs 8 = .pointer (some ⟨nb 8, 0, none⟩) := hn _ (List.mem_iff_getElem?.2 ⟨0, rfl⟩)
  have e9 : vs 9 = .pointer (some ⟨nb 9, 0, none⟩) := hn _ (List.mem_iff_getElem?.2 ⟨1, rfl⟩)
  have E : Fr w [(nb 8, 5, Fq.st [.n R.1.x, .n R.1.y, .v (.bool R.1.i)]), (nb 9, 2, Fq.num R.2.1), (b4, 8, Fq.st [.n 0, .n 0, .v (.bool false), .n 0, .v (.int .i64 0)]), (b3, 5, Fq.st [.n P.x, .n P.y, .v (.bool P.i)]), (b2, 2, Fq.num n), (b1, 6, Fq.st [.n A, .n B, .n M])] w5 := E5
  rw [lay_all hL]
  simp only [putAll, dstOf, List.length_cons, List.length_nil, Nat.zero_add, Nat.reduceAdd, List.getElem?_toArray, List.getElem?_cons_zero, List.getElem?_cons_succ, Option.bind_some, Act.put, List.setIfInBounds_toArray, List.set_cons_succ, List.set_cons_zero]
  rw [e7, e12, e8, e9]
  generalize nb 8 = b5_8 at E ⊢
  generalize nb 9 = b5_9 at E ⊢
  generalize vs 0 = u5_0
  generalize vs 1 = u5_1
  generalize vs 2 = u5_2
  generalize vs 3 = u5_3
  generalize vs 4 = u5_4
  generalize vs 5 = u5_5
  generalize vs 6 = u5_6
  clear e7 e12 e8 e9 hC hn E5 hL vs L nb
  go_upto_region 2 with (fail)
  refine region_fr (C := [Fq.st [.n R.1.x, .n R.1.y, .v (.bool R.1.i)], Fq.num R.2.1, Fq.is (.int .i64 R.2.2), Fq.st [.n R.1.x, .n R.1.y, .v (.bool R.1.i), .n R.2.1, .v (.int .i64 R.2.2)], Fq.any]) (ks := [none, none, some (4, Fq.st [.n R.1.x, .n R.1.y, .v (.bool R.1.i), .n R.2.1, .v (.int .i64 R.2.2)]), none, none, none]) (new := []) E rfl (by kernel_rfl) rfl rfl (fun hp => ⟨?_, ?_, ?_, ?_, ?_, trivial⟩) ?_
  · exact q_loadSt (off := 0) (l := 5) (fs := [.n R.1.x, .n R.1.y, .v (.bool R.1.i)]) (gs := [.n R.1.x, .n R.1.y, .v (.bool R.1.i)]) hp (free_of rfl) trivial (List.mem_iff_getElem?.2 ⟨0, rfl⟩) (.inl rfl) rfl row_api_Point rfl (sq_out (s := 7) rfl rfl (fun _ _ => rfl)) (fun v w h => h)
  · exact q_loadInt (off := 0) hp (free_of rfl) trivial (List.mem_iff_getElem?.2 ⟨1, rfl⟩) (.inl rfl) (Nat.le_of_ble_eq_true rfl) (sq_out (s := 8) rfl rfl (fun _ _ => rfl)) (fun us w hl h => ld_num hl h)
  · exact q_move hp (free_of rfl) trivial (sq_out (s := 9) rfl rfl (fun _ _ => rfl))
  · exact q_build_algoristref06_Sum_012 (z1 := R.2.1) (u2 := R.2.2) (z0_0 := R.1.x) (z0_1 := R.1.y) (u0_2 := R.1.i) hp (free_of rfl) trivial (sq_in 0 rfl rfl (by simp) rfl (fun v w h => h)) (sq_in 1 rfl rfl (by simp) rfl (fun v w h => h)) (sq_in 2 rfl rfl (by simp) rfl (fun v w h => h)) (fun v w h => h)
  · exact q_storeOldSt (off := 0) (fs := [.n 0, .n 0, .v (.bool false), .n 0, .v (.int .i64 0)]) (gs := [.n R.1.x, .n R.1.y, .v (.bool R.1.i), .n R.2.1, .v (.int .i64 R.2.2)]) (fs' := [.n R.1.x, .n R.1.y, .v (.bool R.1.i), .n R.2.1, .v (.int .i64 R.2.2)]) hp (List.mem_iff_getElem?.2 ⟨2, rfl⟩) rfl rfl rfl size_algoristref06_Sum rfl (sq_out (s := 6) rfl rfl (fun _ _ => rfl)) (sq_in 3 rfl rfl (by simp) rfl (fun v w h => fitv_st h)) (fun _ _ => trivial) (newik_ne rfl)
  intro L vs w6 nb hL hC hn E6
  have e2 : vs 2 = .int .i64 R.2.2 := hC 2 (by simp)
  have E : Fr w [(b5_8, 5, Fq.st [.n R.1.x, .n R.1.y, .v (.bool R.1.i)]), (b5_9, 2, Fq.num R.2.1), (b4, 8, Fq.st [.n R.1.x, .n R.1.y, .v (.bool R.1.i), .n R.2.1, .v (.int .i64 R.2.2)]), (b3, 5, Fq.st [.n P.x, .n P.y, .v (.bool P.i)]), (b2, 2, Fq.num n), (b1, 6, Fq.st [.n A, .n B, .n M])] w6 := E6
  rw [lay_all hL]
  simp only [putAll, dstOf, List.length_cons, List.length_nil, Nat.zero_add, Nat.reduceAdd, List.getElem?_toArray, List.getElem?_cons_zero, List.getElem?_cons_succ, Option.bind_some, Act.put, List.setIfInBounds_toArray, List.set_cons_succ, List.set_cons_zero]
  rw [e2]
  generalize vs 0 = u6_0
  generalize vs 1 = u6_1
  generalize vs 3 = u6_3
  clear e2 hC hn E6 hL vs L nb
  clear hR
  obtain ⟨_, _, hc0, hf0⟩ := box_st (E.box 2 rfl)
  have hP0 := hf0
  obtain ⟨r0_p0, r0_q0, _, rfl, _r0_n0, r0_p1, r0_q1, _, rfl, _r0_n1, _, rfl, _, r0_p3, r0_q3, _, rfl, _r0_n3, _, rfl, _, rfl⟩ := hf0
  have c0_0 := hc0 0 (by simp)
  have c0_1 := hc0 1 (by simp)
  have c0_2 := hc0 2 (by simp)
  have c0_3 := hc0 3 (by simp)
  have c0_4 := hc0 4 (by simp)
  have c0_5 := hc0 5 (by simp)
  have c0_6 := hc0 6 (by simp)
  have c0_7 := hc0 7 (by simp)
  simp only [List.getD_cons_zero, List.getD_cons_succ] at c0_0 c0_1 c0_2 c0_3 c0_4 c0_5 c0_6 c0_7
  clear hc0
  clear hM hA hB hn hP
  go_wp2
  refine bodyPost_ret (v := .agg #[r0_p0, r0_q0, r0_p1, r0_q1, .bool R.1.i, r0_p3, r0_q3, .int .i64 R.2.2]) ?_ rfl ⟨_, rfl, E.below, ⟨_, rfl, hP0⟩⟩
  simp [results, Try.results18, go_sem, c0_0, c0_1, c0_2, c0_3, c0_4, c0_5, c0_6, c0_7]

set_option maxRecDepth 100000 in
set_option maxHeartbeats 4000000 in
theorem exPtSame {w : World} {v v' : Value} {P Q : Pt} (h : (Fq.pt P).P v w) (h' : (Fq.pt Q).P v' w) {t : Bool} (ht : sameP P Q = t) :
    Calls Try.prog 14 #[v, v'] w fun e w' => ∃ v', e = .returned v' ∧ Below w.heap.size w w' ∧ v' = .bool t := by
  obtain ⟨_, rfl, hf0⟩ := h
  have hF0 := hf0
  obtain ⟨y0_p0, y0_q0, _, rfl, _y0_n0, y0_p1, y0_q1, _, rfl, _y0_n1, _, rfl, _, rfl⟩ := hf0
  obtain ⟨_, rfl, hf1⟩ := h'
  have hF1 := hf1
  obtain ⟨y1_p0, y1_q0, _, rfl, _y1_n0, y1_p1, y1_q1, _, rfl, _y1_n1, _, rfl, _, rfl⟩ := hf1
  obtain ⟨w1, b1, hw1, hb1, hs1, E⟩ := fr_start w (F := Fq.st [.n P.x, .n P.y, .v (.bool P.i)]) (us := [y0_p0, y0_q0, y0_p1, y0_q1, .bool P.i]) 37 rfl (by simp) (hF0.tame) (show (Fq.st [.n P.x, .n P.y, .v (.bool P.i)]).P _ w from ⟨_, rfl, hF0⟩)
  obtain ⟨w2, b2, hw2, hb2, hs2, E⟩ := fr_more E hs1 (F := Fq.st [.n Q.x, .n Q.y, .v (.bool Q.i)]) (us := [y1_p0, y1_q0, y1_p1, y1_q1, .bool Q.i]) 37 rfl (by simp) (hF1.tame) ((Fq.st [.n Q.x, .n Q.y, .v (.bool Q.i)]).mono (show (Fq.st [.n Q.x, .n Q.y, .v (.bool Q.i)]).P _ w from ⟨_, rfl, hF1⟩) E.below)
  go_enter Try.func14, Try.ntmps14
  go_upto_region 1 with (fail)
  rw [← hw1]
  rw [← hw2]
  rw [← hb2]
  rw [← hb1]
  clear hw1 hw2 hb1 hb2 hs2 hs1
  go_upto_region 1 with (fail)
  by_cases hi : P.i = Q.i
  · by_cases hx : P.x = Q.x
    · by_cases hy : P.y = Q.y
      · have ht2 : t = true := ht.symm.trans (by unfold sameP; rw [hi, hx, hy]; simp)
        subst ht2
        clear ht
        have HI := hidd (decide_eq_true hi)
        have HX := hidd (decide_eq_true hx)
        have HY := hidd (decide_eq_true hy)
        have HI2 : Hid ((P.i == Q.i) = true) := by show _ = _; rw [hi]; simp
        clear hi hx hy HI
        refine region_fr (C := [Fq.is (.pointer (some ⟨b1, 4, none⟩)), Fq.is (.bool P.i), Fq.is (.pointer (some ⟨b2, 4, none⟩)), Fq.is (.bool Q.i), Fq.is (.bool true), Fq.is (.bool true), Fq.is (.pointer (some ⟨b1, 0, none⟩)), Fq.num P.x, Fq.is (.pointer (some ⟨b2, 0, none⟩)), Fq.num Q.x, Fq.is (.bool true), Fq.is (.bool true), Fq.is (.bool true), Fq.is (.pointer (some ⟨b1, 2, none⟩)), Fq.num P.y, Fq.is (.pointer (some ⟨b2, 2, none⟩)), Fq.num Q.y, Fq.is (.bool true), Fq.is (.bool true), Fq.is (.bool true)]) (ks := [none, none]) (new := []) E rfl (by kernel_rfl) rfl rfl (fun hp => ⟨?_, ?_, ?_, ?_, ?_, ?_, ?_, ?_, ?_, ?_, ?_, ?_, ?_, ?_, ?_, ?_, ?_, ?_, ?_, ?_, trivial⟩) ?_
        · exact q_addr (b := b1) (off := 0) (off' := 4) hp (free_of rfl) trivial (sq_out (s := 2) rfl rfl (fun _ _ => rfl)) (fun ρ w h => by simp [execOp, go_sem, h]) (fun _ => rfl)
        · exact q_load1 (off := 4) (fs := [.n P.x, .n P.y, .v (.bool P.i)]) (u := .bool P.i) hp (free_of rfl) trivial (List.mem_iff_getElem?.2 ⟨1, rfl⟩) (.inl rfl) rfl rfl (fun ρ w b h1 h2 => by simp [execOp, go_sem, h1, h2]) (sq_in 0 rfl rfl (by simp) rfl (fun v w h => h)) (fun _ => rfl)
        · exact q_addr (b := b2) (off := 0) (off' := 4) hp (free_of rfl) trivial (sq_out (s := 3) rfl rfl (fun _ _ => rfl)) (fun ρ w h => by simp [execOp, go_sem, h]) (fun _ => rfl)
        · exact q_load1 (off := 4) (fs := [.n Q.x, .n Q.y, .v (.bool Q.i)]) (u := .bool Q.i) hp (free_of rfl) trivial (List.mem_iff_getElem?.2 ⟨0, rfl⟩) (.inl rfl) rfl rfl (fun ρ w b h1 h2 => by simp [execOp, go_sem, h1, h2]) (sq_in 2 rfl rfl (by simp) rfl (fun v w h => h)) (fun _ => rfl)
        · exact q_two (F := fun v _ => v = .bool P.i) (G := fun v _ => v = .bool Q.i) hp (free_of rfl) trivial (sq_in 1 rfl rfl (by simp) rfl (fun v w h => h)) (sq_in 3 rfl rfl (by simp) rfl (fun v w h => h)) (fun ρ w hc h h' => ⟨.bool true, by simp [execOp, go_sem, h, h', HI2.out], rfl⟩)
        · exact q_move hp (free_of rfl) trivial (sq_in 4 rfl rfl (by simp) rfl (fun v w h => h))
        · exact q_addr (b := b1) (off := 0) (off' := 0) hp (free_of rfl) (gq_some rfl rfl (by simp) rfl (fun v w h => h)) (sq_out (s := 2) rfl rfl (fun _ _ => rfl)) (fun ρ w h => by simp [execOp, go_sem, h]) (fun _ => rfl)
        · exact q_loadSt (off := 0) (l := 2) (fs := [.n P.x, .n P.y, .v (.bool P.i)]) (gs := [.n P.x]) hp (free_of rfl) (gq_some rfl rfl (by simp) rfl (fun v w h => h)) (List.mem_iff_getElem?.2 ⟨1, rfl⟩) (.inl rfl) rfl row_api_Int rfl (sq_in 6 rfl rfl (by simp) rfl (fun v w h => h)) (fun v w h => st_num h)
        · exact q_addr (b := b2) (off := 0) (off' := 0) hp (free_of rfl) (gq_some rfl rfl (by simp) rfl (fun v w h => h)) (sq_out (s := 3) rfl rfl (fun _ _ => rfl)) (fun ρ w h => by simp [execOp, go_sem, h]) (fun _ => rfl)
        · exact q_loadSt (off := 0) (l := 2) (fs := [.n Q.x, .n Q.y, .v (.bool Q.i)]) (gs := [.n Q.x]) hp (free_of rfl) (gq_some rfl rfl (by simp) rfl (fun v w h => h)) (List.mem_iff_getElem?.2 ⟨0, rfl⟩) (.inl rfl) rfl row_api_Int rfl (sq_in 8 rfl rfl (by simp) rfl (fun v w h => h)) (fun v w h => st_num h)
        · exact q_call2 (F := (Fq.num P.x).P) (G := (Fq.num Q.x).P) hp (free_of rfl) (gq_some rfl rfl (by simp) rfl (fun v w h => h)) (enq_R_Same) (sq_in 7 rfl rfl (by simp) rfl (fun v w h => h)) (sq_in 9 rfl rfl (by simp) rfl (fun v w h => h)) (fun v v' w h h' => exRSameB h h' HX.out)
        · exact q_two (F := fun v _ => v = .bool true) (G := fun v _ => v = .bool true) hp (free_of rfl) trivial (sq_in 5 rfl rfl (by simp) rfl (fun v w h => h)) (sq_in 10 rfl rfl (by simp) rfl (fun v w h => h)) (fun ρ w hc h h' => ⟨_, by simp [execOp, go_sem, h, h'], rfl⟩)
        · exact q_move hp (free_of rfl) trivial (sq_in 11 rfl rfl (by simp) rfl (fun v w h => h))
        · exact q_addr (b := b1) (off := 0) (off' := 2) hp (free_of rfl) (gq_some rfl rfl (by simp) rfl (fun v w h => h)) (sq_out (s := 2) rfl rfl (fun _ _ => rfl)) (fun ρ w h => by simp [execOp, go_sem, h]) (fun _ => rfl)
        · exact q_loadSt (off := 2) (l := 2) (fs := [.n P.x, .n P.y, .v (.bool P.i)]) (gs := [.n P.y]) hp (free_of rfl) (gq_some rfl rfl (by simp) rfl (fun v w h => h)) (List.mem_iff_getElem?.2 ⟨1, rfl⟩) (.inl rfl) rfl row_api_Int rfl (sq_in 13 rfl rfl (by simp) rfl (fun v w h => h)) (fun v w h => st_num h)
        · exact q_addr (b := b2) (off := 0) (off' := 2) hp (free_of rfl) (gq_some rfl rfl (by simp) rfl (fun v w h => h)) (sq_out (s := 3) rfl rfl (fun _ _ => rfl)) (fun ρ w h => by simp [execOp, go_sem, h]) (fun _ => rfl)
        · exact q_loadSt (off := 2) (l := 2) (fs := [.n Q.x, .n Q.y, .v (.bool Q.i)]) (gs := [.n Q.y]) hp (free_of rfl) (gq_some rfl rfl (by simp) rfl (fun v w h => h)) (List.mem_iff_getElem?.2 ⟨0, rfl⟩) (.inl rfl) rfl row_api_Int rfl (sq_in 15 rfl rfl (by simp) rfl (fun v w h => h)) (fun v w h => st_num h)
        · exact q_call2 (F := (Fq.num P.y).P) (G := (Fq.num Q.y).P) hp (free_of rfl) (gq_some rfl rfl (by simp) rfl (fun v w h => h)) (enq_R_Same) (sq_in 14 rfl rfl (by simp) rfl (fun v w h => h)) (sq_in 16 rfl rfl (by simp) rfl (fun v w h => h)) (fun v v' w h h' => exRSameB h h' HY.out)
        · exact q_two (F := fun v _ => v = .bool true) (G := fun v _ => v = .bool true) hp (free_of rfl) trivial (sq_in 12 rfl rfl (by simp) rfl (fun v w h => h)) (sq_in 17 rfl rfl (by simp) rfl (fun v w h => h)) (fun ρ w hc h h' => ⟨_, by simp [execOp, go_sem, h, h'], rfl⟩)
        · exact q_assign hp (free_of rfl) trivial (sq_in 18 rfl rfl (by simp) rfl (fun v w h => h))
        intro L vs w3 nb hL hC hn E3
        have e0 : vs 0 = .pointer (some ⟨b1, 4, none⟩) := hC 0 (by simp)
        have e1 : vs 1 = .bool P.i := hC 1 (by simp)
        have e2 : vs 2 = .pointer (some ⟨b2, 4, none⟩) := hC 2 (by simp)
        have e3 : vs 3 = .bool Q.i := hC 3 (by simp)
        have e4 : vs 4 = .bool true := hC 4 (by simp)
        have e5 : vs 5 = .bool true := hC 5 (by simp)
        have e6 : vs 6 = .pointer (some ⟨b1, 0, none⟩) := hC 6 (by simp)
        have e8 : vs 8 = .pointer (some ⟨b2, 0, none⟩) := hC 8 (by simp)
        have e10 : vs 10 = .bool true := hC 10 (by simp)
        have e11 : vs 11 = .bool true := hC 11 (by simp)
        have e12 : vs 12 = .bool true := hC 12 (by simp)
        have e13 : vs 13 = .pointer (some ⟨b1, 2, none⟩) := hC 13 (by simp)
        have e15 : vs 15 = .pointer (some ⟨b2, 2, none⟩) := hC 15 (by simp)
        have e17 : vs 17 = .bool true := hC 17 (by simp)
        have e18 : vs 18 = .bool true := hC 18 (by simp)
        have e19 : vs 19 = .bool true := hC 19 (by simp)
        have E : Fr w [(b2, 5, Fq.st [.n Q.x, .n Q.y, .v (.bool Q.i)]), (b1, 5, Fq.st [.n P.x, .n P.y, .v (.bool P.i)])] w3 := E3
        rw [lay_all hL]
        simp only [putAll, dstOf, List.length_cons, List.length_nil, Nat.zero_add, Nat.reduceAdd, List.getElem?_toArray, List.getElem?_cons_zero, List.getElem?_cons_succ, Option.bind_some, Act.put, List.setIfInBounds_toArray, List.set_cons_succ, List.set_cons_zero]
        rw [e0, e1, e2, e3, e4, e5, e6, e8, e10, e11, e12, e13, e15, e17, e18, e19]
        generalize vs 7 = u3_7
        generalize vs 9 = u3_9
        generalize vs 14 = u3_14
        generalize vs 16 = u3_16
        clear e0 e1 e2 e3 e4 e5 e6 e8 e10 e11 e12 e13 e15 e17 e18 e19 hC hn E3 hL vs L nb
        clear HX HY HI2
        go_wp2
        refine bodyPost_ret (v := .bool true) ?_ rfl ⟨_, rfl, E.below, rfl⟩
        simp [results, Try.results14, go_sem]
      · have ht2 : t = false := ht.symm.trans (by unfold sameP; simp [hy])
        subst ht2
        clear ht
        have HX := hidd (decide_eq_true hx)
        have HY := hidd (decide_eq_false hy)
        have HI2 : Hid ((P.i == Q.i) = true) := by show _ = _; rw [hi]; simp
        clear hi hx hy
        refine region_fr (C := [Fq.is (.pointer (some ⟨b1, 4, none⟩)), Fq.is (.bool P.i), Fq.is (.pointer (some ⟨b2, 4, none⟩)), Fq.is (.bool Q.i), Fq.is (.bool true), Fq.is (.bool true), Fq.is (.pointer (some ⟨b1, 0, none⟩)), Fq.num P.x, Fq.is (.pointer (some ⟨b2, 0, none⟩)), Fq.num Q.x, Fq.is (.bool true), Fq.is (.bool true), Fq.is (.bool true), Fq.is (.pointer (some ⟨b1, 2, none⟩)), Fq.num P.y, Fq.is (.pointer (some ⟨b2, 2, none⟩)), Fq.num Q.y, Fq.is (.bool false), Fq.is (.bool false), Fq.is (.bool false)]) (ks := [none, none]) (new := []) E rfl (by kernel_rfl) rfl rfl (fun hp => ⟨?_, ?_, ?_, ?_, ?_, ?_, ?_, ?_, ?_, ?_, ?_, ?_, ?_, ?_, ?_, ?_, ?_, ?_, ?_, ?_, trivial⟩) ?_
        · exact q_addr (b := b1) (off := 0) (off' := 4) hp (free_of rfl) trivial (sq_out (s := 2) rfl rfl (fun _ _ => rfl)) (fun ρ w h => by simp [execOp, go_sem, h]) (fun _ => rfl)
        · exact q_load1 (off := 4) (fs := [.n P.x, .n P.y, .v (.bool P.i)]) (u := .bool P.i) hp (free_of rfl) trivial (List.mem_iff_getElem?.2 ⟨1, rfl⟩) (.inl rfl) rfl rfl (fun ρ w b h1 h2 => by simp [execOp, go_sem, h1, h2]) (sq_in 0 rfl rfl (by simp) rfl (fun v w h => h)) (fun _ => rfl)
        · exact q_addr (b := b2) (off := 0) (off' := 4) hp (free_of rfl) trivial (sq_out (s := 3) rfl rfl (fun _ _ => rfl)) (fun ρ w h => by simp [execOp, go_sem, h]) (fun _ => rfl)
        · exact q_load1 (off := 4) (fs := [.n Q.x, .n Q.y, .v (.bool Q.i)]) (u := .bool Q.i) hp (free_of rfl) trivial (List.mem_iff_getElem?.2 ⟨0, rfl⟩) (.inl rfl) rfl rfl (fun ρ w b h1 h2 => by simp [execOp, go_sem, h1, h2]) (sq_in 2 rfl rfl (by simp) rfl (fun v w h => h)) (fun _ => rfl)
        · exact q_two (F := fun v _ => v = .bool P.i) (G := fun v _ => v = .bool Q.i) hp (free_of rfl) trivial (sq_in 1 rfl rfl (by simp) rfl (fun v w h => h)) (sq_in 3 rfl rfl (by simp) rfl (fun v w h => h)) (fun ρ w hc h h' => ⟨.bool true, by simp [execOp, go_sem, h, h', HI2.out], rfl⟩)
        · exact q_move hp (free_of rfl) trivial (sq_in 4 rfl rfl (by simp) rfl (fun v w h => h))
        · exact q_addr (b := b1) (off := 0) (off' := 0) hp (free_of rfl) (gq_some rfl rfl (by simp) rfl (fun v w h => h)) (sq_out (s := 2) rfl rfl (fun _ _ => rfl)) (fun ρ w h => by simp [execOp, go_sem, h]) (fun _ => rfl)
        · exact q_loadSt (off := 0) (l := 2) (fs := [.n P.x, .n P.y, .v (.bool P.i)]) (gs := [.n P.x]) hp (free_of rfl) (gq_some rfl rfl (by simp) rfl (fun v w h => h)) (List.mem_iff_getElem?.2 ⟨1, rfl⟩) (.inl rfl) rfl row_api_Int rfl (sq_in 6 rfl rfl (by simp) rfl (fun v w h => h)) (fun v w h => st_num h)
        · exact q_addr (b := b2) (off := 0) (off' := 0) hp (free_of rfl) (gq_some rfl rfl (by simp) rfl (fun v w h => h)) (sq_out (s := 3) rfl rfl (fun _ _ => rfl)) (fun ρ w h => by simp [execOp, go_sem, h]) (fun _ => rfl)
        · exact q_loadSt (off := 0) (l := 2) (fs := [.n Q.x, .n Q.y, .v (.bool Q.i)]) (gs := [.n Q.x]) hp (free_of rfl) (gq_some rfl rfl (by simp) rfl (fun v w h => h)) (List.mem_iff_getElem?.2 ⟨0, rfl⟩) (.inl rfl) rfl row_api_Int rfl (sq_in 8 rfl rfl (by simp) rfl (fun v w h => h)) (fun v w h => st_num h)
        · exact q_call2 (F := (Fq.num P.x).P) (G := (Fq.num Q.x).P) hp (free_of rfl) (gq_some rfl rfl (by simp) rfl (fun v w h => h)) (enq_R_Same) (sq_in 7 rfl rfl (by simp) rfl (fun v w h => h)) (sq_in 9 rfl rfl (by simp) rfl (fun v w h => h)) (fun v v' w h h' => exRSameB h h' HX.out)
        · exact q_two (F := fun v _ => v = .bool true) (G := fun v _ => v = .bool true) hp (free_of rfl) trivial (sq_in 5 rfl rfl (by simp) rfl (fun v w h => h)) (sq_in 10 rfl rfl (by simp) rfl (fun v w h => h)) (fun ρ w hc h h' => ⟨_, by simp [execOp, go_sem, h, h'], rfl⟩)
        · exact q_move hp (free_of rfl) trivial (sq_in 11 rfl rfl (by simp) rfl (fun v w h => h))
        · exact q_addr (b := b1) (off := 0) (off' := 2) hp (free_of rfl) (gq_some rfl rfl (by simp) rfl (fun v w h => h)) (sq_out (s := 2) rfl rfl (fun _ _ => rfl)) (fun ρ w h => by simp [execOp, go_sem, h]) (fun _ => rfl)
        · exact q_loadSt (off := 2) (l := 2) (fs := [.n P.x, .n P.y, .v (.bool P.i)]) (gs := [.n P.y]) hp (free_of rfl) (gq_some rfl rfl (by simp) rfl (fun v w h => h)) (List.mem_iff_getElem?.2 ⟨1, rfl⟩) (.inl rfl) rfl row_api_Int rfl (sq_in 13 rfl rfl (by simp) rfl (fun v w h => h)) (fun v w h => st_num h)
        · exact q_addr (b := b2) (off := 0) (off' := 2) hp (free_of rfl) (gq_some rfl rfl (by simp) rfl (fun v w h => h)) (sq_out (s := 3) rfl rfl (fun _ _ => rfl)) (fun ρ w h => by simp [execOp, go_sem, h]) (fun _ => rfl)
        · exact q_loadSt (off := 2) (l := 2) (fs := [.n Q.x, .n Q.y, .v (.bool Q.i)]) (gs := [.n Q.y]) hp (free_of rfl) (gq_some rfl rfl (by simp) rfl (fun v w h => h)) (List.mem_iff_getElem?.2 ⟨0, rfl⟩) (.inl rfl) rfl row_api_Int rfl (sq_in 15 rfl rfl (by simp) rfl (fun v w h => h)) (fun v w h => st_num h)
        · exact q_call2 (F := (Fq.num P.y).P) (G := (Fq.num Q.y).P) hp (free_of rfl) (gq_some rfl rfl (by simp) rfl (fun v w h => h)) (enq_R_Same) (sq_in 14 rfl rfl (by simp) rfl (fun v w h => h)) (sq_in 16 rfl rfl (by simp) rfl (fun v w h => h)) (fun v v' w h h' => exRSameB h h' HY.out)
        · exact q_two (F := fun v _ => v = .bool true) (G := fun v _ => v = .bool false) hp (free_of rfl) trivial (sq_in 12 rfl rfl (by simp) rfl (fun v w h => h)) (sq_in 17 rfl rfl (by simp) rfl (fun v w h => h)) (fun ρ w hc h h' => ⟨_, by simp [execOp, go_sem, h, h'], rfl⟩)
        · exact q_assign hp (free_of rfl) trivial (sq_in 18 rfl rfl (by simp) rfl (fun v w h => h))
        intro L vs w4 nb hL hC hn E4
        have e0 : vs 0 = .pointer (some ⟨b1, 4, none⟩) := hC 0 (by simp)
        have e1 : vs 1 = .bool P.i := hC 1 (by simp)
        have e2 : vs 2 = .pointer (some ⟨b2, 4, none⟩) := hC 2 (by simp)
        have e3 : vs 3 = .bool Q.i := hC 3 (by simp)
        have e4 : vs 4 = .bool true := hC 4 (by simp)
        have e5 : vs 5 = .bool true := hC 5 (by simp)
        have e6 : vs 6 = .pointer (some ⟨b1, 0, none⟩) := hC 6 (by simp)
        have e8 : vs 8 = .pointer (some ⟨b2, 0, none⟩) := hC 8 (by simp)
        have e10 : vs 10 = .bool true := hC 10 (by simp)
        have e11 : vs 11 = .bool true := hC 11 (by simp)
        have e12 : vs 12 = .bool true := hC 12 (by simp)
        have e13 : vs 13 = .pointer (some ⟨b1, 2, none⟩) := hC 13 (by simp)
        have e15 : vs 15 = .pointer (some ⟨b2, 2, none⟩) := hC 15 (by simp)
        have e17 : vs 17 = .bool false := hC 17 (by simp)
        have e18 : vs 18 = .bool false := hC 18 (by simp)
        have e19 : vs 19 = .bool false := hC 19 (by simp)
        have E : Fr w [(b2, 5, Fq.st [.n Q.x, .n Q.y, .v (.bool Q.i)]), (b1, 5, Fq.st [.n P.x, .n P.y, .v (.bool P.i)])] w4 := E4
        rw [lay_all hL]
        simp only [putAll, dstOf, List.length_cons, List.length_nil, Nat.zero_add, Nat.reduceAdd, List.getElem?_toArray, List.getElem?_cons_zero, List.getElem?_cons_succ, Option.bind_some, Act.put, List.setIfInBounds_toArray, List.set_cons_succ, List.set_cons_zero]
        rw [e0, e1, e2, e3, e4, e5, e6, e8, e10, e11, e12, e13, e15, e17, e18, e19]
        generalize vs 7 = u4_7
        generalize vs 9 = u4_9
        generalize vs 14 = u4_14
        generalize vs 16 = u4_16
        clear e0 e1 e2 e3 e4 e5 e6 e8 e10 e11 e12 e13 e15 e17 e18 e19 hC hn E4 hL vs L nb
        clear HX HY HI2
        go_wp2
        refine bodyPost_ret (v := .bool false) ?_ rfl ⟨_, rfl, E.below, rfl⟩
        simp [results, Try.results14, go_sem]
    · have ht2 : t = false := ht.symm.trans (by unfold sameP; simp [hx])
      subst ht2
      clear ht
      have HX := hidd (decide_eq_false hx)
      have HI2 : Hid ((P.i == Q.i) = true) := by show _ = _; rw [hi]; simp
      clear hi hx
      refine region_fr (C := [Fq.is (.pointer (some ⟨b1, 4, none⟩)), Fq.is (.bool P.i), Fq.is (.pointer (some ⟨b2, 4, none⟩)), Fq.is (.bool Q.i), Fq.is (.bool true), Fq.is (.bool true), Fq.is (.pointer (some ⟨b1, 0, none⟩)), Fq.num P.x, Fq.is (.pointer (some ⟨b2, 0, none⟩)), Fq.num Q.x, Fq.is (.bool false), Fq.is (.bool false), Fq.is (.bool false), Fq.is (undef), Fq.is (undef), Fq.is (undef), Fq.is (undef), Fq.is (undef), Fq.is (.bool false), Fq.is (.bool false)]) (ks := [none, none]) (new := []) E rfl (by kernel_rfl) rfl rfl (fun hp => ⟨?_, ?_, ?_, ?_, ?_, ?_, ?_, ?_, ?_, ?_, ?_, ?_, ?_, ?_, ?_, ?_, ?_, ?_, ?_, ?_, trivial⟩) ?_
      · exact q_addr (b := b1) (off := 0) (off' := 4) hp (free_of rfl) trivial (sq_out (s := 2) rfl rfl (fun _ _ => rfl)) (fun ρ w h => by simp [execOp, go_sem, h]) (fun _ => rfl)
      · exact q_load1 (off := 4) (fs := [.n P.x, .n P.y, .v (.bool P.i)]) (u := .bool P.i) hp (free_of rfl) trivial (List.mem_iff_getElem?.2 ⟨1, rfl⟩) (.inl rfl) rfl rfl (fun ρ w b h1 h2 => by simp [execOp, go_sem, h1, h2]) (sq_in 0 rfl rfl (by simp) rfl (fun v w h => h)) (fun _ => rfl)
      · exact q_addr (b := b2) (off := 0) (off' := 4) hp (free_of rfl) trivial (sq_out (s := 3) rfl rfl (fun _ _ => rfl)) (fun ρ w h => by simp [execOp, go_sem, h]) (fun _ => rfl)
      · exact q_load1 (off := 4) (fs := [.n Q.x, .n Q.y, .v (.bool Q.i)]) (u := .bool Q.i) hp (free_of rfl) trivial (List.mem_iff_getElem?.2 ⟨0, rfl⟩) (.inl rfl) rfl rfl (fun ρ w b h1 h2 => by simp [execOp, go_sem, h1, h2]) (sq_in 2 rfl rfl (by simp) rfl (fun v w h => h)) (fun _ => rfl)
      · exact q_two (F := fun v _ => v = .bool P.i) (G := fun v _ => v = .bool Q.i) hp (free_of rfl) trivial (sq_in 1 rfl rfl (by simp) rfl (fun v w h => h)) (sq_in 3 rfl rfl (by simp) rfl (fun v w h => h)) (fun ρ w hc h h' => ⟨.bool true, by simp [execOp, go_sem, h, h', HI2.out], rfl⟩)
      · exact q_move hp (free_of rfl) trivial (sq_in 4 rfl rfl (by simp) rfl (fun v w h => h))
      · exact q_addr (b := b1) (off := 0) (off' := 0) hp (free_of rfl) (gq_some rfl rfl (by simp) rfl (fun v w h => h)) (sq_out (s := 2) rfl rfl (fun _ _ => rfl)) (fun ρ w h => by simp [execOp, go_sem, h]) (fun _ => rfl)
      · exact q_loadSt (off := 0) (l := 2) (fs := [.n P.x, .n P.y, .v (.bool P.i)]) (gs := [.n P.x]) hp (free_of rfl) (gq_some rfl rfl (by simp) rfl (fun v w h => h)) (List.mem_iff_getElem?.2 ⟨1, rfl⟩) (.inl rfl) rfl row_api_Int rfl (sq_in 6 rfl rfl (by simp) rfl (fun v w h => h)) (fun v w h => st_num h)
      · exact q_addr (b := b2) (off := 0) (off' := 0) hp (free_of rfl) (gq_some rfl rfl (by simp) rfl (fun v w h => h)) (sq_out (s := 3) rfl rfl (fun _ _ => rfl)) (fun ρ w h => by simp [execOp, go_sem, h]) (fun _ => rfl)
      · exact q_loadSt (off := 0) (l := 2) (fs := [.n Q.x, .n Q.y, .v (.bool Q.i)]) (gs := [.n Q.x]) hp (free_of rfl) (gq_some rfl rfl (by simp) rfl (fun v w h => h)) (List.mem_iff_getElem?.2 ⟨0, rfl⟩) (.inl rfl) rfl row_api_Int rfl (sq_in 8 rfl rfl (by simp) rfl (fun v w h => h)) (fun v w h => st_num h)
      · exact q_call2 (F := (Fq.num P.x).P) (G := (Fq.num Q.x).P) hp (free_of rfl) (gq_some rfl rfl (by simp) rfl (fun v w h => h)) (enq_R_Same) (sq_in 7 rfl rfl (by simp) rfl (fun v w h => h)) (sq_in 9 rfl rfl (by simp) rfl (fun v w h => h)) (fun v v' w h h' => exRSameB h h' HX.out)
      · exact q_two (F := fun v _ => v = .bool true) (G := fun v _ => v = .bool false) hp (free_of rfl) trivial (sq_in 5 rfl rfl (by simp) rfl (fun v w h => h)) (sq_in 10 rfl rfl (by simp) rfl (fun v w h => h)) (fun ρ w hc h h' => ⟨_, by simp [execOp, go_sem, h, h'], rfl⟩)
      · exact q_move hp (free_of rfl) trivial (sq_in 11 rfl rfl (by simp) rfl (fun v w h => h))
      · exact q_skip hp (free_of rfl) rfl (gq_some rfl rfl (by simp) rfl (fun v w h => h)) (fun _ => rfl)
      · exact q_skip hp (free_of rfl) rfl (gq_some rfl rfl (by simp) rfl (fun v w h => h)) (fun _ => rfl)
      · exact q_skip hp (free_of rfl) rfl (gq_some rfl rfl (by simp) rfl (fun v w h => h)) (fun _ => rfl)
      · exact q_skip hp (free_of rfl) rfl (gq_some rfl rfl (by simp) rfl (fun v w h => h)) (fun _ => rfl)
      · exact q_skip hp (free_of rfl) rfl (gq_some rfl rfl (by simp) rfl (fun v w h => h)) (fun _ => rfl)
      · exact q_two (F := fun v _ => v = .bool false) (G := fun v _ => v = .bool false) hp (free_of rfl) trivial (sq_in 12 rfl rfl (by simp) rfl (fun v w h => h)) (sq_const (fun _ => rfl)) (fun ρ w hc h h' => ⟨_, by simp [execOp, go_sem, h, h'], rfl⟩)
      · exact q_assign hp (free_of rfl) trivial (sq_in 18 rfl rfl (by simp) rfl (fun v w h => h))
      intro L vs w5 nb hL hC hn E5
      have e0 : vs 0 = .pointer (some ⟨b1, 4, none⟩) := hC 0 (by simp)
      have e1 : vs 1 = .bool P.i := hC 1 (by simp)
      have e2 : vs 2 = .pointer (some ⟨b2, 4, none⟩) := hC 2 (by simp)
      have e3 : vs 3 = .bool Q.i := hC 3 (by simp)
      have e4 : vs 4 = .bool true := hC 4 (by simp)
      have e5 : vs 5 = .bool true := hC 5 (by simp)
      have e6 : vs 6 = .pointer (some ⟨b1, 0, none⟩) := hC 6 (by simp)
      have e8 : vs 8 = .pointer (some ⟨b2, 0, none⟩) := hC 8 (by simp)
      have e10 : vs 10 = .bool false := hC 10 (by simp)
      have e11 : vs 11 = .bool false := hC 11 (by simp)
      have e12 : vs 12 = .bool false := hC 12 (by simp)
      have e13 : vs 13 = undef := hC 13 (by simp)
      have e14 : vs 14 = undef := hC 14 (by simp)
      have e15 : vs 15 = undef := hC 15 (by simp)
      have e16 : vs 16 = undef := hC 16 (by simp)
      have e17 : vs 17 = undef := hC 17 (by simp)
      have e18 : vs 18 = .bool false := hC 18 (by simp)
      have e19 : vs 19 = .bool false := hC 19 (by simp)
      have E : Fr w [(b2, 5, Fq.st [.n Q.x, .n Q.y, .v (.bool Q.i)]), (b1, 5, Fq.st [.n P.x, .n P.y, .v (.bool P.i)])] w5 := E5
      rw [lay_all hL]
      simp only [putAll, dstOf, List.length_cons, List.length_nil, Nat.zero_add, Nat.reduceAdd, List.getElem?_toArray, List.getElem?_cons_zero, List.getElem?_cons_succ, Option.bind_some, Act.put, List.setIfInBounds_toArray, List.set_cons_succ, List.set_cons_zero]
      rw [e0, e1, e2, e3, e4, e5, e6, e8, e10, e11, e12, e13, e14, e15, e16, e17, e18, e19]
      generalize vs 7 = u5_7
      generalize vs 9 = u5_9
      clear e0 e1 e2 e3 e4 e5 e6 e8 e10 e11 e12 e13 e14 e15 e16 e17 e18 e19 hC hn E5 hL vs L nb
      clear HX HI2
      go_wp2
      refine bodyPost_ret (v := .bool false) ?_ rfl ⟨_, rfl, E.below, rfl⟩
      simp [results, Try.results14, go_sem]
  · have ht2 : t = false := ht.symm.trans (by unfold sameP; simp [hi])
    subst ht2
    clear ht
    have HI2 : Hid ((P.i == Q.i) = false) := by show _ = _; simp [hi]
    clear hi
    refine region_fr (C := [Fq.is (.pointer (some ⟨b1, 4, none⟩)), Fq.is (.bool P.i), Fq.is (.pointer (some ⟨b2, 4, none⟩)), Fq.is (.bool Q.i), Fq.is (.bool false), Fq.is (.bool false), Fq.is (undef), Fq.is (undef), Fq.is (undef), Fq.is (undef), Fq.is (undef), Fq.is (.bool false), Fq.is (.bool false), Fq.is (undef), Fq.is (undef), Fq.is (undef), Fq.is (undef), Fq.is (undef), Fq.is (.bool false), Fq.is (.bool false)]) (ks := [none, none]) (new := []) E rfl (by kernel_rfl) rfl rfl (fun hp => ⟨?_, ?_, ?_, ?_, ?_, ?_, ?_, ?_, ?_, ?_, ?_, ?_, ?_, ?_, ?_, ?_, ?_, ?_, ?_, ?_, trivial⟩) ?_
    · exact q_addr (b := b1) (off := 0) (off' := 4) hp (free_of rfl) trivial (sq_out (s := 2) rfl rfl (fun _ _ => rfl)) (fun ρ w h => by simp [execOp, go_sem, h]) (fun _ => rfl)
    · exact q_load1 (off := 4) (fs := [.n P.x, .n P.y, .v (.bool P.i)]) (u := .bool P.i) hp (free_of rfl) trivial (List.mem_iff_getElem?.2 ⟨1, rfl⟩) (.inl rfl) rfl rfl (fun ρ w b h1 h2 => by simp [execOp, go_sem, h1, h2]) (sq_in 0 rfl rfl (by simp) rfl (fun v w h => h)) (fun _ => rfl)
    · exact q_addr (b := b2) (off := 0) (off' := 4) hp (free_of rfl) trivial (sq_out (s := 3) rfl rfl (fun _ _ => rfl)) (fun ρ w h => by simp [execOp, go_sem, h]) (fun _ => rfl)
    · exact q_load1 (off := 4) (fs := [.n Q.x, .n Q.y, .v (.bool Q.i)]) (u := .bool Q.i) hp (free_of rfl) trivial (List.mem_iff_getElem?.2 ⟨0, rfl⟩) (.inl rfl) rfl rfl (fun ρ w b h1 h2 => by simp [execOp, go_sem, h1, h2]) (sq_in 2 rfl rfl (by simp) rfl (fun v w h => h)) (fun _ => rfl)
    · exact q_two (F := fun v _ => v = .bool P.i) (G := fun v _ => v = .bool Q.i) hp (free_of rfl) trivial (sq_in 1 rfl rfl (by simp) rfl (fun v w h => h)) (sq_in 3 rfl rfl (by simp) rfl (fun v w h => h)) (fun ρ w hc h h' => ⟨.bool false, by simp [execOp, go_sem, h, h', HI2.out], rfl⟩)
    · exact q_move hp (free_of rfl) trivial (sq_in 4 rfl rfl (by simp) rfl (fun v w h => h))
    · exact q_skip hp (free_of rfl) rfl (gq_some rfl rfl (by simp) rfl (fun v w h => h)) (fun _ => rfl)
    · exact q_skip hp (free_of rfl) rfl (gq_some rfl rfl (by simp) rfl (fun v w h => h)) (fun _ => rfl)
    · exact q_skip hp (free_of rfl) rfl (gq_some rfl rfl (by simp) rfl (fun v w h => h)) (fun _ => rfl)
    · exact q_skip hp (free_of rfl) rfl (gq_some rfl rfl (by simp) rfl (fun v w h => h)) (fun _ => rfl)
    · exact q_skip hp (free_of rfl) rfl (gq_some rfl rfl (by simp) rfl (fun v w h => h)) (fun _ => rfl)
    · exact q_two (F := fun v _ => v = .bool false) (G := fun v _ => v = .bool false) hp (free_of rfl) trivial (sq_in 5 rfl rfl (by simp) rfl (fun v w h => h)) (sq_const (fun _ => rfl)) (fun ρ w hc h h' => ⟨_, by simp [execOp, go_sem, h, h'], rfl⟩)
    · exact q_move hp (free_of rfl) trivial (sq_in 11 rfl rfl (by simp) rfl (fun v w h => h))
    · exact q_skip hp (free_of rfl) rfl (gq_some rfl rfl (by simp) rfl (fun v w h => h)) (fun _ => rfl)
    · exact q_skip hp (free_of rfl) rfl (gq_some rfl rfl (by simp) rfl (fun v w h => h)) (fun _ => rfl)
    · exact q_skip hp (free_of rfl) rfl (gq_some rfl rfl (by simp) rfl (fun v w h => h)) (fun _ => rfl)
    · exact q_skip hp (free_of rfl) rfl (gq_some rfl rfl (by simp) rfl (fun v w h => h)) (fun _ => rfl)
    · exact q_skip hp (free_of rfl) rfl (gq_some rfl rfl (by simp) rfl (fun v w h => h)) (fun _ => rfl)
    · exact q_two (F := fun v _ => v = .bool false) (G := fun v _ => v = .bool false) hp (free_of rfl) trivial (sq_in 12 rfl rfl (by simp) rfl (fun v w h => h)) (sq_const (fun _ => rfl)) (fun ρ w hc h h' => ⟨_, by simp [execOp, go_sem, h, h'], rfl⟩)
    · exact q_assign hp (free_of rfl) trivial (sq_in 18 rfl rfl (by simp) rfl (fun v w h => h))
    intro L vs w6 nb hL hC hn E6
    have e0 : vs 0 = .pointer (some ⟨b1, 4, none⟩) := hC 0 (by simp)
    have e1 : vs 1 = .bool P.i := hC 1 (by simp)
    have e2 : vs 2 = .pointer (some ⟨b2, 4, none⟩) := hC 2 (by simp)
    have e3 : vs 3 = .bool Q.i := hC 3 (by simp)
    have e4 : vs 4 = .bool false := hC 4 (by simp)
    have e5 : vs 5 = .bool false := hC 5 (by simp)
    have e6 : vs 6 = undef := hC 6 (by simp)
    have e7 : vs 7 = undef := hC 7 (by simp)
    have e8 : vs 8 = undef := hC 8 (by simp)
    have e9 : vs 9 = undef := hC 9 (by simp)
    have e10 : vs 10 = undef := hC 10 (by simp)
    have e11 : vs 11 = .bool false := hC 11 (by simp)
    have e12 : vs 12 = .bool false := hC 12 (by simp)
    have e13 : vs 13 = undef := hC 13 (by simp)
    have e14 : vs 14 = undef := hC 14 (by simp)
    have e15 : vs 15 = undef := hC 15 (by simp)
    have e16 : vs 16 = undef := hC 16 (by simp)
    have e17 : vs 17 = undef := hC 17 (by simp)
    have e18 : vs 18 = .bool false := hC 18 (by simp)
    have e19 : vs 19 = .bool false := hC 19 (by simp)
    have E : Fr w [(b2, 5, Fq.st [.n Q.x, .n Q.y, .v (.bool Q.i)]), (b1, 5, Fq.st [.n P.x, .n P.y, .v (.bool P.i)])] w6 := E6
    rw [lay_all hL]
    simp only [putAll, dstOf, List.length_cons, List.length_nil, Nat.zero_add, Nat.reduceAdd, List.getElem?_toArray, List.getElem?_cons_zero, List.getElem?_cons_succ, Option.bind_some, Act.put, List.setIfInBounds_toArray, List.set_cons_succ, List.set_cons_zero]
    rw [e0, e1, e2, e3, e4, e5, e6, e7, e8, e9, e10, e11, e12, e13, e14, e15, e16, e17, e18, e19]
    clear e0 e1 e2 e3 e4 e5 e6 e7 e8 e9 e10 e11 e12 e13 e14 e15 e16 e17 e18 e19 hC hn E6 hL vs L nb
    clear HI2
    go_wp2
    refine bodyPost_ret (v := .bool false) ?_ rfl ⟨_, rfl, E.below, rfl⟩
    simp [results, Try.results14, go_sem]

end Go.Proofs.Ytpkeeacdkkmknaa

/- Walks: residues of a curve and of a point; the curve through a point. -/
namespace Go.Proofs.Ytpkeeacdkkmknaa
open Go Go.RowKit

theorem tmod_same (s m : Int) : Int.tmod s m % m = s % m := by
  have h := Int.mul_tdiv_add_tmod s m
  calc Int.tmod s m % m = (m * Int.tdiv s m + Int.tmod s m) % m := by rw [Int.mul_add_emod_self_left]
    _ = s % m := by rw [h]
theorem tmod_bd {s m : Int} (hm : 0 < m) : -m < Int.tmod s m ∧ Int.tmod s m < m := by
  have h := Int.natAbs_tmod s m
  have h2 := Nat.mod_lt s.natAbs (show 0 < m.natAbs by omega)
  omega
theorem curve_b {m a x y t2 : Int} (ht2 : t2 = Int.tmod (y * y - x * x % m * x - a * x) m + m) (hm : 0 < m) : Int.tmod t2 m = (y * y - ((x * x) + a) * x) % m ∧ 0 < t2 ∧ t2 < 2 * m := by
  have h1 := tmod_bd (s := y * y - x * x % m * x - a * x) hm
  refine ⟨?_, by omega, by omega⟩
  rw [Int.tmod_eq_emod_of_nonneg (by omega), ht2, Int.add_emod_right, tmod_same]
  have h2 := Int.mul_ediv_add_emod (x * x) m
  have e : y * y - x * x % m * x - a * x = (y * y - ((x * x) + a) * x) + m * (x * x / m * x) := by
    have e1 : x * x * x = m * (x * x / m * x) + x * x % m * x := by
      rw [← Int.mul_assoc m, ← Int.add_mul, h2]
    rw [Int.add_mul]
    omega
  rw [e, Int.add_mul_emod_self_left]
theorem prod_bd {a b K : Int} (ha : 0 ≤ a ∧ a ≤ K) (hb : 0 ≤ b ∧ b ≤ K) (hK : 0 ≤ K) : 0 ≤ a * b ∧ a * b ≤ K * K := ⟨Int.mul_nonneg ha.1 hb.1, Int.mul_le_mul ha.2 hb.2 hb.1 hK⟩
section
variable {os : List Oper} {Q : Exit → Act → World → Prop} {a : Act} {p : Pq} {B B0 : Nat} {w0 : World}
variable {i s : Nat} {d : Option Tmp} {ty : TypeId} {ps : String} {af : Array Edge} {gd : Option (Nat × Bool)}
theorem q_build_api_Mod_012 {x0 : Operand} {z0 : Int} {x1 : Operand} {z1 : Int} {x2 : Operand} {z2 : Int} (hp : p.Ok B B0) (hF : p.Free i) (hg : GdQ os a p B B0 w0 af gd) (h0 : SrcQ os a p B B0 w0 af x0 fun v w => Num w v z0) (h1 : SrcQ os a p B B0 w0 af x1 fun v w => Num w v z1) (h2 : SrcQ os a p B B0 w0 af x2 fun v w => Num w v z2) (hC : ∀ v w, (Fq.st [.n z0, .n z1, .n z2]).P v w → (p.c i).P v w) :
    StepQ os Q a p B B0 w0 i { dst := d, op := .build 31 #[(0, x0), (1, x1), (2, x2)], type := ty, pos := ps, after := af, guard := gd } := by
  refine stq_val hp hF hg fun L vs w hG hL hc hd => ?_
  have g0 := h0 L vs w hG hd
  obtain ⟨n0, ao0, k0, c0, e0⟩ := g0.parts
  have m0 : Num w (.agg #[.bool n0, .slice ao0 k0 c0]) z0 := by rw [← e0]; exact g0
  have g1 := h1 L vs w hG hd
  obtain ⟨n1, ao1, k1, c1, e1⟩ := g1.parts
  have m1 : Num w (.agg #[.bool n1, .slice ao1 k1 c1]) z1 := by rw [← e1]; exact g1
  have g2 := h2 L vs w hG hd
  obtain ⟨n2, ao2, k2, c2, e2⟩ := g2.parts
  have m2 : Num w (.agg #[.bool n2, .slice ao2 k2 c2]) z2 := by rw [← e2]; exact g2
  refine ⟨.agg #[.bool n0, .slice ao0 k0 c0, .bool n1, .slice ao1 k1 c1, .bool n2, .slice ao2 k2 c2], ?_, hC _ _ ⟨_, rfl, _, _, _, rfl, m0, _, _, _, rfl, m1, _, _, _, rfl, m2, rfl⟩⟩
  generalize (lay os.toArray L vs os.toArray.size a).eval = ρ at e0 e1 e2
  simp [execOp, go_sem, e0, e1, e2]
end
set_option maxRecDepth 100000 in
set_option maxHeartbeats 4000000 in
theorem exLow6 {w : World} {v v' u : Value} {A B M q : Int} {P : Pt} (h : (Fq.st [.n A, .n B, .n M]).P v w) (h' : (Fq.pt P).P v' w) (g : Num w u q) (hM : ab M < pw 5) (hA : ab A < pw 5) (hB : ab B < pw 5) (hP : ab P.x < pw 5 ∧ ab P.y < pw 5) (hq : ab q < pw 5) (h0 : 0 < q) :
    Calls Try.prog 26 #[v, v', u] w fun e w' => ∃ v', e = .returned v' ∧ Below w.heap.size w w' ∧ (Fq.tup3 (Fq.st [.n (A % q), .n (B % q), .n q]) (Fq.pt ⟨P.x % q, P.y % q, P.i⟩) (Fq.is (.bool true))).P v' w' := by
  replace hM := hidd hM
  replace hA := hidd hA
  replace hB := hidd hB
  replace hP := hidd hP
  replace hq := hidd hq
  replace h0 := hidd h0
  obtain ⟨_, rfl, hf0⟩ := h
  have hF0 := hf0
  obtain ⟨y0_p0, y0_q0, _, rfl, _y0_n0, y0_p1, y0_q1, _, rfl, _y0_n1, y0_p2, y0_q2, _, rfl, _y0_n2, rfl⟩ := hf0
  obtain ⟨_, rfl, hf1⟩ := h'
  have hF1 := hf1
  obtain ⟨y1_p0, y1_q0, _, rfl, _y1_n0, y1_p1, y1_q1, _, rfl, _y1_n1, _, rfl, _, rfl⟩ := hf1
  obtain ⟨n2, ao2, k2, c2, rfl⟩ := g.parts
  obtain ⟨w1, b1, hw1, hb1, hs1, E⟩ := fr_start w (F := Fq.st [.n A, .n B, .n M]) (us := [y0_p0, y0_q0, y0_p1, y0_q1, y0_p2, y0_q2]) 31 rfl (by simp) (hF0.tame) (show (Fq.st [.n A, .n B, .n M]).P _ w from ⟨_, rfl, hF0⟩)
  obtain ⟨w2, b2, hw2, hb2, hs2, E⟩ := fr_more E hs1 (F := Fq.st [.n P.x, .n P.y, .v (.bool P.i)]) (us := [y1_p0, y1_q0, y1_p1, y1_q1, .bool P.i]) 37 rfl (by simp) (hF1.tame) ((Fq.st [.n P.x, .n P.y, .v (.bool P.i)]).mono (show (Fq.st [.n P.x, .n P.y, .v (.bool P.i)]).P _ w from ⟨_, rfl, hF1⟩) E.below)
  obtain ⟨w3, b3, hw3, hb3, hs3, E⟩ := fr_more E hs2 (F := Fq.num q) (us := [.bool n2, .slice ao2 k2 c2]) 29 rfl (by simp) (tame_int _ _ _ _) (g.mono E.below)
  obtain ⟨w4, b4, hw4, hb4, hs4, E⟩ := fr_more E hs3 (F := Fq.st [.n 0, .n 0, .n 0]) (us := [.bool false, .slice none 0 0, .bool false, .slice none 0 0, .bool false, .slice none 0 0]) 31 rfl (by simp) ((Fits.tame (fits0_api_Mod w))) (fits0P_api_Mod _)
  obtain ⟨w5, b5, hw5, hb5, hs5, E⟩ := fr_more E hs4 (F := Fq.st [.n 0, .n 0, .v (.bool false)]) (us := [.bool false, .slice none 0 0, .bool false, .slice none 0 0, .bool false]) 37 rfl (by simp) ((Fits.tame (fits0_api_Point w))) (fits0P_api_Point _)
  go_enter Try.func26, Try.ntmps26
  go_upto_region 1 with (fail)
  rw [← hw1]
  rw [← hw2]
  rw [← hw3]
  rw [← hw4]
  rw [← hw5]
  rw [← hb5]
  rw [← hb4]
  rw [← hb3]
  rw [← hb2]
  rw [← hb1]
  clear hw1 hw2 hw3 hw4 hw5 hb1 hb2 hb3 hb4 hb5 hs5 hs1 hs2 hs3 hs4
  refine region_fr (C := [Fq.is (.pointer (some ⟨b1, 0, none⟩)), Fq.num A, Fq.num q, Fq.tup2 (Fq.num (A % q)) (Fq.is (.int .i64 0)), Fq.tup2 (Fq.num (A % q)) (Fq.is (.int .i64 0)), Fq.num (A % q), Fq.is (.int .i64 0), Fq.any, Fq.any, Fq.is (.int .i64 0)]) (ks := [none, none, none, none, none]) (new := [⟨7, 8, 2, Fq.num 0, Fq.num (A % q), none⟩]) E rfl (by kernel_rfl) rfl rfl (fun hp => ⟨?_, ?_, ?_, ?_, ?_, ?_, ?_, ?_, ?_, ?_, trivial⟩) ?_
  · exact q_addr (b := b1) (off := 0) (off' := 0) hp (free_of rfl) trivial (sq_out (s := 3) rfl rfl (fun _ _ => rfl)) (fun ρ w h => by simp [execOp, go_sem, h]) (fun _ => rfl)
  · exact q_loadSt (off := 0) (l := 2) (fs := [.n A, .n B, .n M]) (gs := [.n A]) hp (free_of rfl) trivial (List.mem_iff_getElem?.2 ⟨4, rfl⟩) (.inl rfl) rfl row_api_Int rfl (sq_in 0 rfl rfl (by simp) rfl (fun v w h => h)) (fun v w h => st_num h)
  · exact q_loadInt (off := 0) hp (free_of rfl) trivial (List.mem_iff_getElem?.2 ⟨2, rfl⟩) (.inl rfl) (Nat.le_of_ble_eq_true rfl) (sq_out (s := 5) rfl rfl (fun _ _ => rfl)) (fun us w hl h => ld_num hl h)
  · exact q_call2 (F := (Fq.num A).P) (G := (Fq.num q).P) hp (free_of rfl) trivial (enq_M_Mod) (sq_in 1 rfl rfl (by simp) rfl (fun v w h => h)) (sq_in 2 rfl rfl (by simp) rfl (fun v w h => h)) (fun v v' w h h' => exModP h h' (Int.lt_of_lt_of_le hA.out (pw_le (by omega))) (Int.lt_of_lt_of_le hq.out (pw_le (by omega))) h0.out)
  · exact q_move hp (free_of rfl) trivial (sq_in 3 rfl rfl (by simp) rfl (fun v w h => h))
  · exact q_extract2 hp (free_of rfl) trivial (sq_in 4 rfl rfl (by simp) rfl (fun v w h => h)) (fun v1 v2 w h1 h2 => ⟨_, rfl, h1⟩)
  · exact q_extract2 hp (free_of rfl) trivial (sq_in 4 rfl rfl (by simp) rfl (fun v w h => h)) (fun v1 v2 w h1 h2 => ⟨_, rfl, h2⟩)
  · exact q_allocInt hp (List.mem_iff_getElem?.2 ⟨0, rfl⟩) rfl rfl rfl rfl (Nat.ne_of_beq_eq_false rfl) (fun _ _ => trivial) (old_ne rfl) (newk_ne rfl) (fun w => Num.zero w)
  · exact q_storeNewInt hp (List.mem_iff_getElem?.2 ⟨0, rfl⟩) rfl rfl rfl (own_ptr rfl rfl (by simp) rfl) (sq_in 5 rfl rfl (by simp) rfl (fun v w h => intV_num h)) (fun _ _ => trivial) (old_ne rfl) (newi_ne rfl)
  · exact q_assign hp (free_of rfl) trivial (sq_in 6 rfl rfl (by simp) rfl (fun v w h => h))
  intro L vs w6 nb hL hC hn E6
  have e0 : vs 0 = .pointer (some ⟨b1, 0, none⟩) := hC 0 (by simp)
  have e6 : vs 6 = .int .i64 0 := hC 6 (by simp)
  have e9 : vs 9 = .int .i64 0 := hC 9 (by simp)
  have e7 : vs 7 = .pointer (some ⟨nb 7, 0, none⟩) := hn _ (List.mem_iff_getElem?.2 ⟨0, rfl⟩)
  have E : Fr w [(nb 7, 2, Fq.num (A % q)), (b5, 5, Fq.st [.n 0, .n 0, .v (.bool false)]), (b4, 6, Fq.st [.n 0, .n 0, .n 0]), (b3, 2, Fq.num q), (b2, 5, Fq.st [.n P.x, .n P.y, .v (.bool P.i)]), (b1, 6, Fq.st [.n A, .n B, .n M])] w6 := E6
  rw [lay_all hL]
  simp only [putAll, dstOf, List.length_cons, List.length_nil, Nat.zero_add, Nat.reduceAdd, List.getElem?_toArray, List.getElem?_cons_zero, List.getElem?_cons_succ, Option.bind_some, Act.put, List.setIfInBounds_toArray, List.set_cons_succ, List.set_cons_zero]
  rw [e0, e6, e9, e7]
  generalize nb 7 = b6_7 at E ⊢
  generalize vs 1 = u6_1
  generalize vs 2 = u6_2
  generalize vs 3 = u6_3
  generalize vs 4 = u6_4
  generalize vs 5 = u6_5
  clear e0 e6 e9 e7 hC hn E6 hL vs L nb
  go_upto_region 2 with (fail)
  refine region_fr (C := [Fq.is (.pointer (some ⟨b1, 2, none⟩)), Fq.num B, Fq.num q, Fq.tup2 (Fq.num (B % q)) (Fq.is (.int .i64 0)), Fq.tup2 (Fq.num (B % q)) (Fq.is (.int .i64 0)), Fq.num (B % q), Fq.is (.int .i64 0), Fq.any, Fq.any, Fq.is (.int .i64 0)]) (ks := [none, none, none, none, none, none]) (new := [⟨7, 8, 2, Fq.num 0, Fq.num (B % q), none⟩]) E rfl (by kernel_rfl) rfl rfl (fun hp => ⟨?_, ?_, ?_, ?_, ?_, ?_, ?_, ?_, ?_, ?_, trivial⟩) ?_
  · exact q_addr (b := b1) (off := 0) (off' := 2) hp (free_of rfl) trivial (sq_out (s := 3) rfl rfl (fun _ _ => rfl)) (fun ρ w h => by simp [execOp, go_sem, h]) (fun _ => rfl)
  · exact q_loadSt (off := 2) (l := 2) (fs := [.n A, .n B, .n M]) (gs := [.n B]) hp (free_of rfl) trivial (List.mem_iff_getElem?.2 ⟨5, rfl⟩) (.inl rfl) rfl row_api_Int rfl (sq_in 0 rfl rfl (by simp) rfl (fun v w h => h)) (fun v w h => st_num h)
  · exact q_loadInt (off := 0) hp (free_of rfl) trivial (List.mem_iff_getElem?.2 ⟨3, rfl⟩) (.inl rfl) (Nat.le_of_ble_eq_true rfl) (sq_out (s := 5) rfl rfl (fun _ _ => rfl)) (fun us w hl h => ld_num hl h)
  · exact q_call2 (F := (Fq.num B).P) (G := (Fq.num q).P) hp (free_of rfl) trivial (enq_M_Mod) (sq_in 1 rfl rfl (by simp) rfl (fun v w h => h)) (sq_in 2 rfl rfl (by simp) rfl (fun v w h => h)) (fun v v' w h h' => exModP h h' (Int.lt_of_lt_of_le hB.out (pw_le (by omega))) (Int.lt_of_lt_of_le hq.out (pw_le (by omega))) h0.out)
  · exact q_move hp (free_of rfl) trivial (sq_in 3 rfl rfl (by simp) rfl (fun v w h => h))
  · exact q_extract2 hp (free_of rfl) trivial (sq_in 4 rfl rfl (by simp) rfl (fun v w h => h)) (fun v1 v2 w h1 h2 => ⟨_, rfl, h1⟩)
  · exact q_extract2 hp (free_of rfl) trivial (sq_in 4 rfl rfl (by simp) rfl (fun v w h => h)) (fun v1 v2 w h1 h2 => ⟨_, rfl, h2⟩)
  · exact q_allocInt hp (List.mem_iff_getElem?.2 ⟨0, rfl⟩) rfl rfl rfl rfl (Nat.ne_of_beq_eq_false rfl) (fun _ _ => trivial) (old_ne rfl) (newk_ne rfl) (fun w => Num.zero w)
  · exact q_storeNewInt hp (List.mem_iff_getElem?.2 ⟨0, rfl⟩) rfl rfl rfl (own_ptr rfl rfl (by simp) rfl) (sq_in 5 rfl rfl (by simp) rfl (fun v w h => intV_num h)) (fun _ _ => trivial) (old_ne rfl) (newi_ne rfl)
  · exact q_assign hp (free_of rfl) trivial (sq_in 6 rfl rfl (by simp) rfl (fun v w h => h))
  intro L vs w7 nb hL hC hn E7
  have e0 : vs 0 = .pointer (some ⟨b1, 2, none⟩) := hC 0 (by simp)
  have e6 : vs 6 = .int .i64 0 := hC 6 (by simp)
  have e9 : vs 9 = .int .i64 0 := hC 9 (by simp)
  have e7 : vs 7 = .pointer (some ⟨nb 7, 0, none⟩) := hn _ (List.mem_iff_getElem?.2 ⟨0, rfl⟩)
  have E : Fr w [(nb 7, 2, Fq.num (B % q)), (b6_7, 2, Fq.num (A % q)), (b5, 5, Fq.st [.n 0, .n 0, .v (.bool false)]), (b4, 6, Fq.st [.n 0, .n 0, .n 0]), (b3, 2, Fq.num q), (b2, 5, Fq.st [.n P.x, .n P.y, .v (.bool P.i)]), (b1, 6, Fq.st [.n A, .n B, .n M])] w7 := E7
  rw [lay_all hL]
  simp only [putAll, dstOf, List.length_cons, List.length_nil, Nat.zero_add, Nat.reduceAdd, List.getElem?_toArray, List.getElem?_cons_zero, List.getElem?_cons_succ, Option.bind_some, Act.put, List.setIfInBounds_toArray, List.set_cons_succ, List.set_cons_zero]
  rw [e0, e6, e9, e7]
  generalize nb 7 = b7_7 at E ⊢
  generalize vs 1 = u7_1
  generalize vs 2 = u7_2
  generalize vs 3 = u7_3
  generalize vs 4 = u7_4
  generalize vs 5 = u7_5
  clear e0 e6 e9 e7 hC hn E7 hL vs L nb
  go_upto_region 3 with (fail)
  refine region_fr (C := [Fq.is (.pointer (some ⟨b2, 0, none⟩)), Fq.num P.x, Fq.num q, Fq.tup2 (Fq.num (P.x % q)) (Fq.is (.int .i64 0)), Fq.tup2 (Fq.num (P.x % q)) (Fq.is (.int .i64 0)), Fq.num (P.x % q), Fq.is (.int .i64 0), Fq.any, Fq.any, Fq.is (.int .i64 0)]) (ks := [none, none, none, none, none, none, none]) (new := [⟨7, 8, 2, Fq.num 0, Fq.num (P.x % q), none⟩]) E rfl (by kernel_rfl) rfl rfl (fun hp => ⟨?_, ?_, ?_, ?_, ?_, ?_, ?_, ?_, ?_, ?_, trivial⟩) ?_
  · exact q_addr (b := b2) (off := 0) (off' := 0) hp (free_of rfl) trivial (sq_out (s := 4) rfl rfl (fun _ _ => rfl)) (fun ρ w h => by simp [execOp, go_sem, h]) (fun _ => rfl)
  · exact q_loadSt (off := 0) (l := 2) (fs := [.n P.x, .n P.y, .v (.bool P.i)]) (gs := [.n P.x]) hp (free_of rfl) trivial (List.mem_iff_getElem?.2 ⟨5, rfl⟩) (.inl rfl) rfl row_api_Int rfl (sq_in 0 rfl rfl (by simp) rfl (fun v w h => h)) (fun v w h => st_num h)
  · exact q_loadInt (off := 0) hp (free_of rfl) trivial (List.mem_iff_getElem?.2 ⟨4, rfl⟩) (.inl rfl) (Nat.le_of_ble_eq_true rfl) (sq_out (s := 5) rfl rfl (fun _ _ => rfl)) (fun us w hl h => ld_num hl h)
  · exact q_call2 (F := (Fq.num P.x).P) (G := (Fq.num q).P) hp (free_of rfl) trivial (enq_M_Mod) (sq_in 1 rfl rfl (by simp) rfl (fun v w h => h)) (sq_in 2 rfl rfl (by simp) rfl (fun v w h => h)) (fun v v' w h h' => exModP h h' (Int.lt_of_lt_of_le hP.out.1 (pw_le (by omega))) (Int.lt_of_lt_of_le hq.out (pw_le (by omega))) h0.out)
  · exact q_move hp (free_of rfl) trivial (sq_in 3 rfl rfl (by simp) rfl (fun v w h => h))
  · exact q_extract2 hp (free_of rfl) trivial (sq_in 4 rfl rfl (by simp) rfl (fun v w h => h)) (fun v1 v2 w h1 h2 => ⟨_, rfl, h1⟩)
  · exact q_extract2 hp (free_of rfl) trivial (sq_in 4 rfl rfl (by simp) rfl (fun v w h => h)) (fun v1 v2 w h1 h2 => ⟨_, rfl, h2⟩)
  · exact q_allocInt hp (List.mem_iff_getElem?.2 ⟨0, rfl⟩) rfl rfl rfl rfl (Nat.ne_of_beq_eq_false rfl) (fun _ _ => trivial) (old_ne rfl) (newk_ne rfl) (fun w => Num.zero w)
  · exact q_storeNewInt hp (List.mem_iff_getElem?.2 ⟨0, rfl⟩) rfl rfl rfl (own_ptr rfl rfl (by simp) rfl) (sq_in 5 rfl rfl (by simp) rfl (fun v w h => intV_num h)) (fun _ _ => trivial) (old_ne rfl) (newi_ne rfl)
  · exact q_assign hp (free_of rfl) trivial (sq_in 6 rfl rfl (by simp) rfl (fun v w h => h))
  intro L vs w8 nb hL hC hn E8
  have e0 : vs 0 = .pointer (some ⟨b2, 0, none⟩) := hC 0 (by simp)
  have e6 : vs 6 = .int .i64 0 := hC 6 (by simp)
  have e9 : vs 9 = .int .i64 0 := hC 9 (by simp)
  have e7 : vs 7 = .pointer (some ⟨nb 7, 0, none⟩) := hn _ (List.mem_iff_getElem?.2 ⟨0, rfl⟩)
  have E : Fr w [(nb 7, 2, Fq.num (P.x % q)), (b7_7, 2, Fq.num (B % q)), (b6_7, 2, Fq.num (A % q)), (b5, 5, Fq.st [.n 0, .n 0, .v (.bool false)]), (b4, 6, Fq.st [.n 0, .n 0, .n 0]), (b3, 2, Fq.num q), (b2, 5, Fq.st [.n P.x, .n P.y, .v (.bool P.i)]), (b1, 6, Fq.st [.n A, .n B, .n M])] w8 := E8
  rw [lay_all hL]
  simp only [putAll, dstOf, List.length_cons, List.length_nil, Nat.zero_add, Nat.reduceAdd, List.getElem?_toArray, List.getElem?_cons_zero, List.getElem?_cons_succ, Option.bind_some, Act.put, List.setIfInBounds_toArray, List.set_cons_succ, List.set_cons_zero]
  rw [e0, e6, e9, e7]
  generalize nb 7 = b8_7 at E ⊢
  generalize vs 1 = u8_1
  generalize vs 2 = u8_2
  generalize vs 3 = u8_3
  generalize vs 4 = u8_4
  generalize vs 5 = u8_5
  clear e0 e6 e9 e7 hC hn E8 hL vs L nb
  go_upto_region 4 with (fail)
  refine region_fr (C := [Fq.is (.pointer (some ⟨b2, 2, none⟩)), Fq.num P.y, Fq.num q, Fq.tup2 (Fq.num (P.y % q)) (Fq.is (.int .i64 0)), Fq.tup2 (Fq.num (P.y % q)) (Fq.is (.int .i64 0)), Fq.num (P.y % q), Fq.is (.int .i64 0), Fq.any, Fq.any, Fq.is (.int .i64 0)]) (ks := [none, none, none, none, none, none, none, none]) (new := [⟨7, 8, 2, Fq.num 0, Fq.num (P.y % q), none⟩]) E rfl (by kernel_rfl) rfl rfl (fun hp => ⟨?_, ?_, ?_, ?_, ?_, ?_, ?_, ?_, ?_, ?_, trivial⟩) ?_
  · exact q_addr (b := b2) (off := 0) (off' := 2) hp (free_of rfl) trivial (sq_out (s := 4) rfl rfl (fun _ _ => rfl)) (fun ρ w h => by simp [execOp, go_sem, h]) (fun _ => rfl)
  · exact q_loadSt (off := 2) (l := 2) (fs := [.n P.x, .n P.y, .v (.bool P.i)]) (gs := [.n P.y]) hp (free_of rfl) trivial (List.mem_iff_getElem?.2 ⟨6, rfl⟩) (.inl rfl) rfl row_api_Int rfl (sq_in 0 rfl rfl (by simp) rfl (fun v w h => h)) (fun v w h => st_num h)
  · exact q_loadInt (off := 0) hp (free_of rfl) trivial (List.mem_iff_getElem?.2 ⟨5, rfl⟩) (.inl rfl) (Nat.le_of_ble_eq_true rfl) (sq_out (s := 5) rfl rfl (fun _ _ => rfl)) (fun us w hl h => ld_num hl h)
  · exact q_call2 (F := (Fq.num P.y).P) (G := (Fq.num q).P) hp (free_of rfl) trivial (enq_M_Mod) (sq_in 1 rfl rfl (by simp) rfl (fun v w h => h)) (sq_in 2 rfl rfl (by simp) rfl (fun v w h => h)) (fun v v' w h h' => exModP h h' (Int.lt_of_lt_of_le hP.out.2 (pw_le (by omega))) (Int.lt_of_lt_of_le hq.out (pw_le (by omega))) h0.out)
  · exact q_move hp (free_of rfl) trivial (sq_in 3 rfl rfl (by simp) rfl (fun v w h => h))
  · exact q_extract2 hp (free_of rfl) trivial (sq_in 4 rfl rfl (by simp) rfl (fun v w h => h)) (fun v1 v2 w h1 h2 => ⟨_, rfl, h1⟩)
  · exact q_extract2 hp (free_of rfl) trivial (sq_in 4 rfl rfl (by simp) rfl (fun v w h => h)) (fun v1 v2 w h1 h2 => ⟨_, rfl, h2⟩)
  · exact q_allocInt hp (List.mem_iff_getElem?.2 ⟨0, rfl⟩) rfl rfl rfl rfl (Nat.ne_of_beq_eq_false rfl) (fun _ _ => trivial) (old_ne rfl) (newk_ne rfl) (fun w => Num.zero w)
  · exact q_storeNewInt hp (List.mem_iff_getElem?.2 ⟨0, rfl⟩) rfl rfl rfl (own_ptr rfl rfl (by simp) rfl) (sq_in 5 rfl rfl (by simp) rfl (fun v w h => intV_num h)) (fun _ _ => trivial) (old_ne rfl) (newi_ne rfl)
  · exact q_assign hp (free_of rfl) trivial (sq_in 6 rfl rfl (by simp) rfl (fun v w h => h))
  intro L vs w9 nb hL hC hn E9
  have e0 : vs 0 = .pointer (some ⟨b2, 2, none⟩) := hC 0 (by simp)
  have e6 : vs 6 = .int .i64 0 := hC 6 (by simp)
  have e9 : vs 9 = .int .i64 0 := hC 9 (by simp)
  have e7 : vs 7 = .pointer (some ⟨nb 7, 0, none⟩) := hn _ (List.mem_iff_getElem?.2 ⟨0, rfl⟩)
  have E : Fr w [(nb 7, 2, Fq.num (P.y % q)), (b8_7, 2, Fq.num (P.x % q)), (b7_7, 2, Fq.num (B % q)), (b6_7, 2, Fq.num (A % q)), (b5, 5, Fq.st [.n 0, .n 0, .v (.bool false)]), (b4, 6, Fq.st [.n 0, .n 0, .n 0]), (b3, 2, Fq.num q), (b2, 5, Fq.st [.n P.x, .n P.y, .v (.bool P.i)]), (b1, 6, Fq.st [.n A, .n B, .n M])] w9 := E9
  rw [lay_all hL]
  simp only [putAll, dstOf, List.length_cons, List.length_nil, Nat.zero_add, Nat.reduceAdd, List.getElem?_toArray, List.getElem?_cons_zero, List.getElem?_cons_succ, Option.bind_some, Act.put, List.setIfInBounds_toArray, List.set_cons_succ, List.set_cons_zero]
  rw [e0, e6, e9, e7]
  generalize nb 7 = b9_7 at E ⊢
  generalize vs 1 = u9_1
  generalize vs 2 = u9_2
  generalize vs 3 = u9_3
  generalize vs 4 = u9_4
  generalize vs 5 = u9_5
  clear e0 e6 e9 e7 hC hn E9 hL vs L nb
  go_upto_region 5 with (fail)
  refine region_fr (C := [Fq.num (A % q), Fq.num (B % q), Fq.num q, Fq.st [.n (A % q), .n (B % q), .n q], Fq.num (P.x % q), Fq.num (P.y % q), Fq.is (.pointer (some ⟨b2, 4, none⟩)), Fq.is (.bool P.i), Fq.st [.n (P.x % q), .n (P.y % q), .v (.bool P.i)], Fq.is (.int .i64 0), Fq.is (.bool true), Fq.is (.bool true), Fq.is (.int .i64 0), Fq.is (.bool true), Fq.is (.bool true), Fq.is (.bool true), Fq.is (.int .i64 0), Fq.is (.bool true), Fq.is (.bool true), Fq.is (.bool true), Fq.is (.int .i64 0), Fq.is (.bool true), Fq.is (.bool true), Fq.any, Fq.any, Fq.is (.bool true)]) (ks := [none, none, none, none, some (24, Fq.st [.n (P.x % q), .n (P.y % q), .v (.bool P.i)]), some (23, Fq.st [.n (A % q), .n (B % q), .n q]), none, none, none]) (new := []) E rfl (by kernel_rfl) rfl rfl (fun hp => ⟨?_, ?_, ?_, ?_, ?_, ?_, ?_, ?_, ?_, ?_, ?_, ?_, ?_, ?_, ?_, ?_, ?_, ?_, ?_, ?_, ?_, ?_, ?_, ?_, ?_, ?_, trivial⟩) ?_
  · exact q_loadInt (off := 0) hp (free_of rfl) trivial (List.mem_iff_getElem?.2 ⟨3, rfl⟩) (.inl rfl) (Nat.le_of_ble_eq_true rfl) (sq_out (s := 9) rfl rfl (fun _ _ => rfl)) (fun us w hl h => ld_num hl h)
  · exact q_loadInt (off := 0) hp (free_of rfl) trivial (List.mem_iff_getElem?.2 ⟨2, rfl⟩) (.inl rfl) (Nat.le_of_ble_eq_true rfl) (sq_out (s := 11) rfl rfl (fun _ _ => rfl)) (fun us w hl h => ld_num hl h)
  · exact q_loadInt (off := 0) hp (free_of rfl) trivial (List.mem_iff_getElem?.2 ⟨6, rfl⟩) (.inl rfl) (Nat.le_of_ble_eq_true rfl) (sq_out (s := 5) rfl rfl (fun _ _ => rfl)) (fun us w hl h => ld_num hl h)
  · exact q_build_api_Mod_012 (z0 := (A % q)) (z1 := (B % q)) (z2 := q) hp (free_of rfl) trivial (sq_in 0 rfl rfl (by simp) rfl (fun v w h => h)) (sq_in 1 rfl rfl (by simp) rfl (fun v w h => h)) (sq_in 2 rfl rfl (by simp) rfl (fun v w h => h)) (fun v w h => h)
  · exact q_loadInt (off := 0) hp (free_of rfl) trivial (List.mem_iff_getElem?.2 ⟨1, rfl⟩) (.inl rfl) (Nat.le_of_ble_eq_true rfl) (sq_out (s := 13) rfl rfl (fun _ _ => rfl)) (fun us w hl h => ld_num hl h)
  · exact q_loadInt (off := 0) hp (free_of rfl) trivial (List.mem_iff_getElem?.2 ⟨0, rfl⟩) (.inl rfl) (Nat.le_of_ble_eq_true rfl) (sq_out (s := 15) rfl rfl (fun _ _ => rfl)) (fun us w hl h => ld_num hl h)
  · exact q_addr (b := b2) (off := 0) (off' := 4) hp (free_of rfl) trivial (sq_out (s := 4) rfl rfl (fun _ _ => rfl)) (fun ρ w h => by simp [execOp, go_sem, h]) (fun _ => rfl)
  · exact q_load1 (off := 4) (fs := [.n P.x, .n P.y, .v (.bool P.i)]) (u := .bool P.i) hp (free_of rfl) trivial (List.mem_iff_getElem?.2 ⟨7, rfl⟩) (.inl rfl) rfl rfl (fun ρ w b h1 h2 => by simp [execOp, go_sem, h1, h2]) (sq_in 6 rfl rfl (by simp) rfl (fun v w h => h)) (fun _ => rfl)
  · exact q_build_api_Point_012 (z0 := (P.x % q)) (z1 := (P.y % q)) (u2 := P.i) hp (free_of rfl) trivial (sq_in 4 rfl rfl (by simp) rfl (fun v w h => h)) (sq_in 5 rfl rfl (by simp) rfl (fun v w h => h)) (sq_in 7 rfl rfl (by simp) rfl (fun v w h => h)) (fun v w h => h)
  · exact q_move hp (free_of rfl) trivial (sq_out (s := 10) rfl rfl (fun _ _ => rfl))
  · exact q_one (F := fun v _ => v = .int .i64 0) hp (free_of rfl) trivial (sq_in 9 rfl rfl (by simp) rfl (fun v w h => h)) (fun ρ w hc h => ⟨.bool true, by simp [execOp, go_sem, h, hc], rfl⟩)
  · exact q_move hp (free_of rfl) trivial (sq_in 10 rfl rfl (by simp) rfl (fun v w h => h))
  · exact q_move hp (free_of rfl) (gq_some rfl rfl (by simp) rfl (fun v w h => h)) (sq_out (s := 12) rfl rfl (fun _ _ => rfl))
  · exact q_one (F := fun v _ => v = .int .i64 0) hp (free_of rfl) (gq_some rfl rfl (by simp) rfl (fun v w h => h)) (sq_in 12 rfl rfl (by simp) rfl (fun v w h => h)) (fun ρ w hc h => ⟨.bool true, by simp [execOp, go_sem, h, hc], rfl⟩)
  · exact q_two (F := fun v _ => v = .bool true) (G := fun v _ => v = .bool true) hp (free_of rfl) trivial (sq_in 11 rfl rfl (by simp) rfl (fun v w h => h)) (sq_in 13 rfl rfl (by simp) rfl (fun v w h => h)) (fun ρ w hc h h' => ⟨_, by simp [execOp, go_sem, h, h'], rfl⟩)
  · exact q_move hp (free_of rfl) trivial (sq_in 14 rfl rfl (by simp) rfl (fun v w h => h))
  · exact q_move hp (free_of rfl) (gq_some rfl rfl (by simp) rfl (fun v w h => h)) (sq_out (s := 14) rfl rfl (fun _ _ => rfl))
  · exact q_one (F := fun v _ => v = .int .i64 0) hp (free_of rfl) (gq_some rfl rfl (by simp) rfl (fun v w h => h)) (sq_in 16 rfl rfl (by simp) rfl (fun v w h => h)) (fun ρ w hc h => ⟨.bool true, by simp [execOp, go_sem, h, hc], rfl⟩)
  · exact q_two (F := fun v _ => v = .bool true) (G := fun v _ => v = .bool true) hp (free_of rfl) trivial (sq_in 15 rfl rfl (by simp) rfl (fun v w h => h)) (sq_in 17 rfl rfl (by simp) rfl (fun v w h => h)) (fun ρ w hc h h' => ⟨_, by simp [execOp, go_sem, h, h'], rfl⟩)
  · exact q_move hp (free_of rfl) trivial (sq_in 18 rfl rfl (by simp) rfl (fun v w h => h))
  · exact q_move hp (free_of rfl) (gq_some rfl rfl (by simp) rfl (fun v w h => h)) (sq_out (s := 16) rfl rfl (fun _ _ => rfl))
  · exact q_one (F := fun v _ => v = .int .i64 0) hp (free_of rfl) (gq_some rfl rfl (by simp) rfl (fun v w h => h)) (sq_in 20 rfl rfl (by simp) rfl (fun v w h => h)) (fun ρ w hc h => ⟨.bool true, by simp [execOp, go_sem, h, hc], rfl⟩)
  · exact q_two (F := fun v _ => v = .bool true) (G := fun v _ => v = .bool true) hp (free_of rfl) trivial (sq_in 19 rfl rfl (by simp) rfl (fun v w h => h)) (sq_in 21 rfl rfl (by simp) rfl (fun v w h => h)) (fun ρ w hc h h' => ⟨_, by simp [execOp, go_sem, h, h'], rfl⟩)
  · exact q_storeOldSt (off := 0) (fs := [.n 0, .n 0, .n 0]) (gs := [.n (A % q), .n (B % q), .n q]) (fs' := [.n (A % q), .n (B % q), .n q]) hp (List.mem_iff_getElem?.2 ⟨5, rfl⟩) rfl rfl rfl size_api_Mod rfl (sq_out (s := 6) rfl rfl (fun _ _ => rfl)) (sq_in 3 rfl rfl (by simp) rfl (fun v w h => fitv_st h)) (fun _ _ => trivial) (newik_ne rfl)
  · exact q_storeOldSt (off := 0) (fs := [.n 0, .n 0, .v (.bool false)]) (gs := [.n (P.x % q), .n (P.y % q), .v (.bool P.i)]) (fs' := [.n (P.x % q), .n (P.y % q), .v (.bool P.i)]) hp (List.mem_iff_getElem?.2 ⟨4, rfl⟩) rfl rfl rfl size_api_Point rfl (sq_out (s := 7) rfl rfl (fun _ _ => rfl)) (sq_in 8 rfl rfl (by simp) rfl (fun v w h => fitv_st h)) (fun _ _ => trivial) (newik_ne rfl)
  · exact q_assign hp (free_of rfl) trivial (sq_in 22 rfl rfl (by simp) rfl (fun v w h => h))
  intro L vs w10 nb hL hC hn E10
  have e6 : vs 6 = .pointer (some ⟨b2, 4, none⟩) := hC 6 (by simp)
  have e7 : vs 7 = .bool P.i := hC 7 (by simp)
  have e9 : vs 9 = .int .i64 0 := hC 9 (by simp)
  have e10 : vs 10 = .bool true := hC 10 (by simp)
  have e11 : vs 11 = .bool true := hC 11 (by simp)
  have e12 : vs 12 = .int .i64 0 := hC 12 (by simp)
  have e13 : vs 13 = .bool true := hC 13 (by simp)
  have e14 : vs 14 = .bool true := hC 14 (by simp)
  have e15 : vs 15 = .bool true := hC 15 (by simp)
  have e16 : vs 16 = .int .i64 0 := hC 16 (by simp)
  have e17 : vs 17 = .bool true := hC 17 (by simp)
  have e18 : vs 18 = .bool true := hC 18 (by simp)
  have e19 : vs 19 = .bool true := hC 19 (by simp)
  have e20 : vs 20 = .int .i64 0 := hC 20 (by simp)
  have e21 : vs 21 = .bool true := hC 21 (by simp)
  have e22 : vs 22 = .bool true := hC 22 (by simp)
  have e25 : vs 25 = .bool true := hC 25 (by simp)
  have E : Fr w [(b9_7, 2, Fq.num (P.y % q)), (b8_7, 2, Fq.num (P.x % q)), (b7_7, 2, Fq.num (B % q)), (b6_7, 2, Fq.num (A % q)), (b5, 5, Fq.st [.n (P.x % q), .n (P.y % q), .v (.bool P.i)]), (b4, 6, Fq.st [.n (A % q), .n (B % q), .n q]), (b3, 2, Fq.num q), (b2, 5, Fq.st [.n P.x, .n P.y, .v (.bool P.i)]), (b1, 6, Fq.st [.n A, .n B, .n M])] w10 := E10
  rw [lay_all hL]
  simp only [putAll, dstOf, List.length_cons, List.length_nil, Nat.zero_add, Nat.reduceAdd, List.getElem?_toArray, List.getElem?_cons_zero, List.getElem?_cons_succ, Option.bind_some, Act.put, List.setIfInBounds_toArray, List.set_cons_succ, List.set_cons_zero]
  rw [e6, e7, e9, e10, e11, e12, e13, e14, e15, e16, e17, e18, e19, e20, e21, e22, e25]
  generalize vs 0 = u10_0
  generalize vs 1 = u10_1
  generalize vs 2 = u10_2
  generalize vs 3 = u10_3
  generalize vs 4 = u10_4
  generalize vs 5 = u10_5
  generalize vs 8 = u10_8
  clear e6 e7 e9 e10 e11 e12 e13 e14 e15 e16 e17 e18 e19 e20 e21 e22 e25 hC hn E10 hL vs L nb
  clear h0
  obtain ⟨_, _, hcr, hfr⟩ := box_st (E.box 5 rfl)
  have hRr := hfr
  obtain ⟨r_p0, r_q0, _, rfl, _r_n0, r_p1, r_q1, _, rfl, _r_n1, r_p2, r_q2, _, rfl, _r_n2, rfl⟩ := hfr
  have cr0 := hcr 0 (by simp)
  have cr1 := hcr 1 (by simp)
  have cr2 := hcr 2 (by simp)
  have cr3 := hcr 3 (by simp)
  have cr4 := hcr 4 (by simp)
  have cr5 := hcr 5 (by simp)
  simp only [List.getD_cons_zero, List.getD_cons_succ] at cr0 cr1 cr2 cr3 cr4 cr5
  clear hcr
  obtain ⟨_, _, hcq, hfq⟩ := box_st (E.box 4 rfl)
  have hRq := hfq
  obtain ⟨q_p0, q_q0, _, rfl, _q_n0, q_p1, q_q1, _, rfl, _q_n1, _, rfl, _, rfl⟩ := hfq
  have cq0 := hcq 0 (by simp)
  have cq1 := hcq 1 (by simp)
  have cq2 := hcq 2 (by simp)
  have cq3 := hcq 3 (by simp)
  have cq4 := hcq 4 (by simp)
  simp only [List.getD_cons_zero, List.getD_cons_succ] at cq0 cq1 cq2 cq3 cq4
  clear hcq
  clear hM hA hB hP hq
  go_wp2
  refine bodyPost_ret (v := .tuple #[.agg #[r_p0, r_q0, r_p1, r_q1, r_p2, r_q2], .agg #[q_p0, q_q0, q_p1, q_q1, .bool P.i], .bool true]) ?_ rfl ⟨_, rfl, E.below, _, _, _, rfl, ⟨_, rfl, hRr⟩, ⟨_, rfl, hRq⟩, rfl⟩
  simp [results, Try.results26, go_sem, cr0, cr1, cr2, cr3, cr4, cr5, cq0, cq1, cq2, cq3, cq4]

set_option maxRecDepth 100000 in
set_option maxHeartbeats 4000000 in
theorem exCurve {w : World} {m a x y b : Int} (hm : 2 < m ∧ m ≤ 5000) (ha : 0 ≤ a ∧ a ≤ 5000) (hx : 0 ≤ x ∧ x ≤ 5000) (hy : 0 ≤ y ∧ y ≤ 5000) (hb : (y * y - ((x * x) + a) * x) % m = b) :
    Calls Try.prog 9 #[.int .i64 m, .int .i64 a, .int .i64 x, .int .i64 y] w fun e w' => ∃ v', e = .returned v' ∧ Below w.heap.size w w' ∧ (Fq.st [.n a, .n b, .n m]).P v' w' := by
  have hyy := prod_bd (K := 5000) hy hy (by omega)
  have hxx := prod_bd (K := 5000) hx hx (by omega)
  have hax := prod_bd (K := 5000) ha hx (by omega)
  obtain ⟨r, hr⟩ : ∃ r, r = x * x % m := ⟨_, rfl⟩
  have hr0 : 0 ≤ r ∧ r ≤ 5000 := by rw [hr]; have h1 := Int.emod_nonneg (x * x) (show m ≠ 0 by omega); have h2 := Int.emod_lt_of_pos (x * x) (show 0 < m by omega); omega
  have hrx := prod_bd (K := 5000) hr0 hx (by omega)
  obtain ⟨yy, hyyE⟩ : ∃ yy, yy = y * y := ⟨_, rfl⟩
  obtain ⟨xx, hxxE⟩ : ∃ xx, xx = x * x := ⟨_, rfl⟩
  obtain ⟨ax, haxE⟩ : ∃ ax, ax = a * x := ⟨_, rfl⟩
  obtain ⟨rx, hrxE⟩ : ∃ rx, rx = r * x := ⟨_, rfl⟩
  obtain ⟨t1, ht1⟩ : ∃ t1, t1 = Int.tmod (yy - rx - ax) m := ⟨_, rfl⟩
  obtain ⟨t2, ht2⟩ : ∃ t2, t2 = t1 + m := ⟨_, rfl⟩
  have hcb := curve_b (m := m) (a := a) (x := x) (y := y) (t2 := t2) (by rw [ht2, ht1, hyyE, hrxE, haxE, hr]) (by omega)
  rw [hb] at hcb
  rw [← hyyE] at hyy
  rw [← hxxE] at hxx
  rw [← haxE] at hax
  rw [← hrxE] at hrx
  have ht1b := tmod_bd (s := yy - rx - ax) (m := m) (by omega)
  rw [← ht1] at ht1b
  have hb0 : 0 ≤ b ∧ b < m := by rw [← hb]; exact ⟨Int.emod_nonneg _ (by omega), Int.emod_lt_of_pos _ (by omega)⟩
  have W1 : Hid (IntKind.i64.wrap (y * y) = yy) := by show _ = _; rw [← hyyE]; exact IntWalk.i64_in _ (by omega)
  have W2 : Hid (IntKind.i64.wrap (x * x) = xx) := by show _ = _; rw [← hxxE]; exact IntWalk.i64_in _ (by omega)
  have W3 : Hid (Int.tmod xx m = r) := by show _ = _; rw [Int.tmod_eq_emod_of_nonneg (by omega), hr, hxxE]
  have W3b : Hid (IntKind.i64.wrap r = r) := IntWalk.i64_in _ (by omega)
  have W4 : Hid (IntKind.i64.wrap (r * x) = rx) := by show _ = _; rw [← hrxE]; exact IntWalk.i64_in _ (by omega)
  have W5 : Hid (IntKind.i64.wrap (yy - rx) = yy - rx) := IntWalk.i64_in _ (by omega)
  have W6 : Hid (IntKind.i64.wrap (a * x) = ax) := by show _ = _; rw [← haxE]; exact IntWalk.i64_in _ (by omega)
  have W7 : Hid (IntKind.i64.wrap (yy - rx - ax) = yy - rx - ax) := IntWalk.i64_in _ (by omega)
  have W8 : Hid (Int.tmod (yy - rx - ax) m = t1) := ht1.symm
  have W8b : Hid (IntKind.i64.wrap t1 = t1) := IntWalk.i64_in _ (by omega)
  have W9 : Hid (IntKind.i64.wrap (t1 + m) = t2) := by show _ = _; rw [← ht2]; exact IntWalk.i64_in _ (by omega)
  have WA : Hid (Int.tmod t2 m = b) := hcb.1
  have WAb : Hid (IntKind.i64.wrap b = b) := IntWalk.i64_in _ (by omega)
  have W0 : Hid (¬ m = 0) := by show ¬ _; omega
  have RA : Hid (-9223372036854775808 ≤ a ∧ a ≤ 9223372036854775807) := by show _ ∧ _; omega
  have RB : Hid (-9223372036854775808 ≤ b ∧ b ≤ 9223372036854775807) := by show _ ∧ _; omega
  have RM9 : Hid (-9223372036854775808 ≤ m ∧ m ≤ 9223372036854775807) := by show _ ∧ _; omega
  have Ba : Hid (ab a < pw 3) := ab_i64 RA.out.1 RA.out.2
  have Bb : Hid (ab b < pw 3) := ab_i64 RB.out.1 RB.out.2
  have Bm : Hid (ab m < pw 3) := ab_i64 RM9.out.1 RM9.out.2
  clear hyy hxx hax hr hr0 hrx hyyE hxxE haxE hrxE ht1 ht2 hcb ht1b hb0 hb hm ha hx hy
  obtain ⟨w1, b1, hw1, hb1, hs1, E⟩ := fr_start w (F := Fq.st [.n 0, .n 0, .n 0]) (us := [.bool false, .slice none 0 0, .bool false, .slice none 0 0, .bool false, .slice none 0 0]) 31 rfl (by simp) ((Fits.tame (fits0_api_Mod w))) (fits0P_api_Mod _)
  go_enter Try.func9, Try.ntmps9
  go_upto_region 1 with (fail)
  rw [← hw1]
  rw [← hb1]
  clear hw1 hb1 hs1
  refine region_fr (C := [Fq.is (.int .i64 y), Fq.is (.int .i64 y), Fq.is (.int .i64 yy), Fq.is (.int .i64 x), Fq.is (.int .i64 x), Fq.is (.int .i64 xx), Fq.is (.int .i64 m), Fq.is (.int .i64 r), Fq.is (.int .i64 x), Fq.is (.int .i64 rx), Fq.is (.int .i64 (yy - rx)), Fq.is (.int .i64 a), Fq.is (.int .i64 x), Fq.is (.int .i64 ax), Fq.is (.int .i64 (yy - rx - ax)), Fq.is (.int .i64 m), Fq.is (.int .i64 t1), Fq.is (.int .i64 m), Fq.is (.int .i64 t2), Fq.is (.int .i64 m), Fq.is (.int .i64 b), Fq.is (.int .i64 b)]) (ks := [none]) (new := []) E rfl (by kernel_rfl) rfl rfl (fun hp => ⟨?_, ?_, ?_, ?_, ?_, ?_, ?_, ?_, ?_, ?_, ?_, ?_, ?_, ?_, ?_, ?_, ?_, ?_, ?_, ?_, ?_, ?_, trivial⟩) ?_
  · exact q_move hp (free_of rfl) trivial (sq_out (s := 3) rfl rfl (fun _ _ => rfl))
  · exact q_move hp (free_of rfl) trivial (sq_out (s := 3) rfl rfl (fun _ _ => rfl))
  · exact q_two (F := fun v _ => v = .int .i64 y) (G := fun v _ => v = .int .i64 y) hp (free_of rfl) trivial (sq_in 0 rfl rfl (by simp) rfl (fun v w h => h)) (sq_in 1 rfl rfl (by simp) rfl (fun v w h => h)) (fun ρ w hc h h' => ⟨.int .i64 yy, by simp [execOp, go_sem, h, h', W1.out], rfl⟩)
  · exact q_move hp (free_of rfl) trivial (sq_out (s := 2) rfl rfl (fun _ _ => rfl))
  · exact q_move hp (free_of rfl) trivial (sq_out (s := 2) rfl rfl (fun _ _ => rfl))
  · exact q_two (F := fun v _ => v = .int .i64 x) (G := fun v _ => v = .int .i64 x) hp (free_of rfl) trivial (sq_in 3 rfl rfl (by simp) rfl (fun v w h => h)) (sq_in 4 rfl rfl (by simp) rfl (fun v w h => h)) (fun ρ w hc h h' => ⟨.int .i64 xx, by simp [execOp, go_sem, h, h', W2.out], rfl⟩)
  · exact q_move hp (free_of rfl) trivial (sq_out (s := 0) rfl rfl (fun _ _ => rfl))
  · exact q_two (F := fun v _ => v = .int .i64 xx) (G := fun v _ => v = .int .i64 m) hp (free_of rfl) trivial (sq_in 5 rfl rfl (by simp) rfl (fun v w h => h)) (sq_in 6 rfl rfl (by simp) rfl (fun v w h => h)) (fun ρ w hc h h' => ⟨.int .i64 r, by simp [execOp, go_sem, h, h', W0.out, W3.out, W3b.out], rfl⟩)
  · exact q_move hp (free_of rfl) trivial (sq_out (s := 2) rfl rfl (fun _ _ => rfl))
  · exact q_two (F := fun v _ => v = .int .i64 r) (G := fun v _ => v = .int .i64 x) hp (free_of rfl) trivial (sq_in 7 rfl rfl (by simp) rfl (fun v w h => h)) (sq_in 8 rfl rfl (by simp) rfl (fun v w h => h)) (fun ρ w hc h h' => ⟨.int .i64 rx, by simp [execOp, go_sem, h, h', W4.out], rfl⟩)
  · exact q_two (F := fun v _ => v = .int .i64 yy) (G := fun v _ => v = .int .i64 rx) hp (free_of rfl) trivial (sq_in 2 rfl rfl (by simp) rfl (fun v w h => h)) (sq_in 9 rfl rfl (by simp) rfl (fun v w h => h)) (fun ρ w hc h h' => ⟨.int .i64 (yy - rx), by simp [execOp, go_sem, h, h', W5.out], rfl⟩)
  · exact q_move hp (free_of rfl) trivial (sq_out (s := 1) rfl rfl (fun _ _ => rfl))
  · exact q_move hp (free_of rfl) trivial (sq_out (s := 2) rfl rfl (fun _ _ => rfl))
  · exact q_two (F := fun v _ => v = .int .i64 a) (G := fun v _ => v = .int .i64 x) hp (free_of rfl) trivial (sq_in 11 rfl rfl (by simp) rfl (fun v w h => h)) (sq_in 12 rfl rfl (by simp) rfl (fun v w h => h)) (fun ρ w hc h h' => ⟨.int .i64 ax, by simp [execOp, go_sem, h, h', W6.out], rfl⟩)
  · exact q_two (F := fun v _ => v = .int .i64 (yy - rx)) (G := fun v _ => v = .int .i64 ax) hp (free_of rfl) trivial (sq_in 10 rfl rfl (by simp) rfl (fun v w h => h)) (sq_in 13 rfl rfl (by simp) rfl (fun v w h => h)) (fun ρ w hc h h' => ⟨.int .i64 (yy - rx - ax), by simp [execOp, go_sem, h, h', W7.out], rfl⟩)
  · exact q_move hp (free_of rfl) trivial (sq_out (s := 0) rfl rfl (fun _ _ => rfl))
  · exact q_two (F := fun v _ => v = .int .i64 (yy - rx - ax)) (G := fun v _ => v = .int .i64 m) hp (free_of rfl) trivial (sq_in 14 rfl rfl (by simp) rfl (fun v w h => h)) (sq_in 15 rfl rfl (by simp) rfl (fun v w h => h)) (fun ρ w hc h h' => ⟨.int .i64 t1, by simp [execOp, go_sem, h, h', W0.out, W8.out, W8b.out], rfl⟩)
  · exact q_move hp (free_of rfl) trivial (sq_out (s := 0) rfl rfl (fun _ _ => rfl))
  · exact q_two (F := fun v _ => v = .int .i64 t1) (G := fun v _ => v = .int .i64 m) hp (free_of rfl) trivial (sq_in 16 rfl rfl (by simp) rfl (fun v w h => h)) (sq_in 17 rfl rfl (by simp) rfl (fun v w h => h)) (fun ρ w hc h h' => ⟨.int .i64 t2, by simp [execOp, go_sem, h, h', W9.out], rfl⟩)
  · exact q_move hp (free_of rfl) trivial (sq_out (s := 0) rfl rfl (fun _ _ => rfl))
  · exact q_two (F := fun v _ => v = .int .i64 t2) (G := fun v _ => v = .int .i64 m) hp (free_of rfl) trivial (sq_in 18 rfl rfl (by simp) rfl (fun v w h => h)) (sq_in 19 rfl rfl (by simp) rfl (fun v w h => h)) (fun ρ w hc h h' => ⟨.int .i64 b, by simp [execOp, go_sem, h, h', W0.out, WA.out, WAb.out], rfl⟩)
  · exact q_assign hp (free_of rfl) trivial (sq_in 20 rfl rfl (by simp) rfl (fun v w h => h))
  intro L vs w2 nb hL hC hn E2
  have e0 : vs 0 = .int .i64 y := hC 0 (by simp)
  have e1 : vs 1 = .int .i64 y := hC 1 (by simp)
  have e2 : vs 2 = .int .i64 yy := hC 2 (by simp)
  have e3 : vs 3 = .int .i64 x := hC 3 (by simp)
  have e4 : vs 4 = .int .i64 x := hC 4 (by simp)
  have e5 : vs 5 = .int .i64 xx := hC 5 (by simp)
  have e6 : vs 6 = .int .i64 m := hC 6 (by simp)
  have e7 : vs 7 = .int .i64 r := hC 7 (by simp)
  have e8 : vs 8 = .int .i64 x := hC 8 (by simp)
  have e9 : vs 9 = .int .i64 rx := hC 9 (by simp)
  have e10 : vs 10 = .int .i64 (yy - rx) := hC 10 (by simp)
  have e11 : vs 11 = .int .i64 a := hC 11 (by simp)
  have e12 : vs 12 = .int .i64 x := hC 12 (by simp)
  have e13 : vs 13 = .int .i64 ax := hC 13 (by simp)
  have e14 : vs 14 = .int .i64 (yy - rx - ax) := hC 14 (by simp)
  have e15 : vs 15 = .int .i64 m := hC 15 (by simp)
  have e16 : vs 16 = .int .i64 t1 := hC 16 (by simp)
  have e17 : vs 17 = .int .i64 m := hC 17 (by simp)
  have e18 : vs 18 = .int .i64 t2 := hC 18 (by simp)
  have e19 : vs 19 = .int .i64 m := hC 19 (by simp)
  have e20 : vs 20 = .int .i64 b := hC 20 (by simp)
  have e21 : vs 21 = .int .i64 b := hC 21 (by simp)
  have E : Fr w [(b1, 6, Fq.st [.n 0, .n 0, .n 0])] w2 := E2
  rw [lay_all hL]
  simp only [putAll, dstOf, List.length_cons, List.length_nil, Nat.zero_add, Nat.reduceAdd, List.getElem?_toArray, List.getElem?_cons_zero, List.getElem?_cons_succ, Option.bind_some, Act.put, List.setIfInBounds_toArray, List.set_cons_succ, List.set_cons_zero]
  rw [e0, e1, e2, e3, e4, e5, e6, e7, e8, e9, e10, e11, e12, e13, e14, e15, e16, e17, e18, e19, e20, e21]
  clear e0 e1 e2 e3 e4 e5 e6 e7 e8 e9 e10 e11 e12 e13 e14 e15 e16 e17 e18 e19 e20 e21 hC hn E2 hL vs L nb
  clear W0 W1 W2 W3 W3b W4 W5 W6 W7 W8 W8b W9 WA WAb
  go_upto_region 2 with (fail)
  refine region_fr (C := [Fq.is (.int .i64 a), Fq.num a, Fq.is (.int .i64 b), Fq.num b, Fq.is (.int .i64 m), Fq.num m, Fq.st [.n a, .n b, .n m], Fq.any]) (ks := [some (7, Fq.st [.n a, .n b, .n m])]) (new := []) E rfl (by kernel_rfl) rfl rfl (fun hp => ⟨?_, ?_, ?_, ?_, ?_, ?_, ?_, ?_, trivial⟩) ?_
  · exact q_move hp (free_of rfl) trivial (sq_out (s := 1) rfl rfl (fun _ _ => rfl))
  · exact q_call1 (F := (Fq.is (.int .i64 a)).P) hp (free_of rfl) trivial (enq_R_Of) (sq_in 0 rfl rfl (by simp) rfl (fun v w h => h)) (fun v w h => (by subst h; exact rOfK w a RA.out.1 RA.out.2))
  · exact q_move hp (free_of rfl) trivial (sq_out (s := 9) rfl rfl (fun _ _ => rfl))
  · exact q_call1 (F := (Fq.is (.int .i64 b)).P) hp (free_of rfl) trivial (enq_R_Of) (sq_in 2 rfl rfl (by simp) rfl (fun v w h => h)) (fun v w h => (by subst h; exact rOfK w b RB.out.1 RB.out.2))
  · exact q_move hp (free_of rfl) trivial (sq_out (s := 0) rfl rfl (fun _ _ => rfl))
  · exact q_call1 (F := (Fq.is (.int .i64 m)).P) hp (free_of rfl) trivial (enq_R_Of) (sq_in 4 rfl rfl (by simp) rfl (fun v w h => h)) (fun v w h => (by subst h; exact rOfK w m RM9.out.1 RM9.out.2))
  · exact q_build_api_Mod_012 (z0 := a) (z1 := b) (z2 := m) hp (free_of rfl) trivial (sq_in 1 rfl rfl (by simp) rfl (fun v w h => h)) (sq_in 3 rfl rfl (by simp) rfl (fun v w h => h)) (sq_in 5 rfl rfl (by simp) rfl (fun v w h => h)) (fun v w h => h)
  · exact q_storeOldSt (off := 0) (fs := [.n 0, .n 0, .n 0]) (gs := [.n a, .n b, .n m]) (fs' := [.n a, .n b, .n m]) hp (List.mem_iff_getElem?.2 ⟨0, rfl⟩) rfl rfl rfl size_api_Mod rfl (sq_out (s := 8) rfl rfl (fun _ _ => rfl)) (sq_in 6 rfl rfl (by simp) rfl (fun v w h => fitv_st h)) (fun _ _ => trivial) (newik_ne rfl)
  intro L vs w3 nb hL hC hn E3
  have e0 : vs 0 = .int .i64 a := hC 0 (by simp)
  have e2 : vs 2 = .int .i64 b := hC 2 (by simp)
  have e4 : vs 4 = .int .i64 m := hC 4 (by simp)
  have E : Fr w [(b1, 6, Fq.st [.n a, .n b, .n m])] w3 := E3
  rw [lay_all hL]
  simp only [putAll, dstOf, List.length_cons, List.length_nil, Nat.zero_add, Nat.reduceAdd, List.getElem?_toArray, List.getElem?_cons_zero, List.getElem?_cons_succ, Option.bind_some, Act.put, List.setIfInBounds_toArray, List.set_cons_succ, List.set_cons_zero]
  rw [e0, e2, e4]
  generalize vs 1 = u3_1
  generalize vs 3 = u3_3
  generalize vs 5 = u3_5
  generalize vs 6 = u3_6
  clear e0 e2 e4 hC hn E3 hL vs L nb
  clear RA RB RM9
  obtain ⟨_, _, hc0, hf0⟩ := box_st (E.box 0 rfl)
  have hP0 := hf0
  obtain ⟨r0_p0, r0_q0, _, rfl, _r0_n0, r0_p1, r0_q1, _, rfl, _r0_n1, r0_p2, r0_q2, _, rfl, _r0_n2, rfl⟩ := hf0
  have c0_0 := hc0 0 (by simp)
  have c0_1 := hc0 1 (by simp)
  have c0_2 := hc0 2 (by simp)
  have c0_3 := hc0 3 (by simp)
  have c0_4 := hc0 4 (by simp)
  have c0_5 := hc0 5 (by simp)
  simp only [List.getD_cons_zero, List.getD_cons_succ] at c0_0 c0_1 c0_2 c0_3 c0_4 c0_5
  clear hc0
  clear Ba Bb Bm
  go_wp2
  refine bodyPost_ret (v := .agg #[r0_p0, r0_q0, r0_p1, r0_q1, r0_p2, r0_q2]) ?_ rfl ⟨_, rfl, E.below, ⟨_, rfl, hP0⟩⟩
  simp [results, Try.results9, go_sem, c0_0, c0_1, c0_2, c0_3, c0_4, c0_5]

end Go.Proofs.Ytpkeeacdkkmknaa
