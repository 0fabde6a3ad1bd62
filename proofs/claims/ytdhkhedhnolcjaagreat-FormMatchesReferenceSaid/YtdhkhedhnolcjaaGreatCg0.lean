/- Errors, discriminants, values, forms under matrices, products, principal and reduced forms agree with the reference implementation: for every input. -/
import Derived.Test.YtdhkhedhnolcjaaGreatRows
import Derived.Test.YtdhkhedhnolcjaaGreatCg7
namespace Go.Proofs.YtdhkhedhnolcjaaGreat.fmat
open Go Go.ChangeShapes Go.WideShapes Go.ChangeAt Go.RowKit

set_option maxRecDepth 100000 in
theorem contract (H : Type) (enc : TypeId × Value → H) (W : World) (base : Nat) (args : Array Value) (ds gs : List (DataW H)) (before : List MemPlace)
    (hval : ∀ (j : Nat) t v, Tryz.f3.params[j]? = some t → args[j]? = some v → Value.okWide Tryz.prog W .any base t v)
    (hW : DataW.Whole enc Tryz.prog Tryz.f3.params.toList Rows.formMatchesReferenceSpec.vars false W args.toList ds gs before) :
    Calls Tryz.prog 3 args W fun e W' => ∃ v, e = .returned v ∧ Rows.formMatchesReferenceSpec.post enc Tryz.prog Tryz.f3 false true false false W args v W' := by
  have hW' := hW
  obtain ⟨p, q, hA0, hV, rfl, hfz, hnd⟩ := hW
  have hA : DataW.TrodAll enc Tryz.prog W 0 (fun _ => true) true Tryz.f3.params.toList args.toList ds p := hA0
  rw [Tryz.params3] at hA hval
  obtain ⟨v0, vs0, d0, ds0, p0, q0, hargs, rfl, rfl, g0, r0⟩ := trodAll_cons hA
  obtain ⟨v1, vs1, d1, ds1, p1, q1, rfl, rfl, rfl, g1, r1⟩ := trodAll_cons r0
  obtain ⟨rfl, rfl, rfl⟩ := trodAll_nil r1
  obtain rfl : args = #[v0, v1] := by cases args; simp_all
  obtain ⟨rfl, rfl⟩ := trodVars_none hV
  clear hA0
  simp only [List.append_nil] at hW'
  have hlt0 : ∀ m ∈ p0, m.block < W.heap.size := fun m hm => by have := hW'.lt m (by simp [hm]); simpa using this
  have hlt1 : ∀ m ∈ p1, m.block < W.heap.size := fun m hm => by have := hW'.lt m (by simp [hm]); simpa using this
  obtain ⟨m0_1, o0_1, j0_1, e0_1, t0_1, m0_2, o0_2, j0_2, e0_2, t0_2, m0_3, o0_3, j0_3, e0_3, t0_3, m0_4, o0_4, j0_4, e0_4, t0_4, m0_5, o0_5, j0_5, e0_5, t0_5, m0_6, o0_6, j0_6, e0_6, t0_6, m0_7, o0_7, j0_7, e0_7, t0_7, rfl, ⟨hS0_1, hn0_1⟩, ⟨hS0_2, hn0_2⟩, ⟨hS0_3, hn0_3⟩, ⟨hS0_4, hn0_4⟩, ⟨hS0_5, hn0_5⟩, ⟨hS0_6, hn0_6⟩, ⟨hS0_7, hn0_7⟩⟩ := zK5 Tryz.underlying28 rfl rfl rfl rfl (by kernel_rfl) Tryz.underlying25 Tryz.underlying26 (by kernel_rfl) (by kernel_rfl) (by kernel_rfl) Tryz.underlying24 rfl rfl (by kernel_rfl) (hval 0 28 v0 rfl rfl) g0 hlt0
  obtain ⟨m1_1, o1_1, j1_1, e1_1, t1_1, m1_2, o1_2, j1_2, e1_2, t1_2, m1_3, o1_3, j1_3, e1_3, t1_3, m1_4, o1_4, j1_4, e1_4, t1_4, m1_5, o1_5, j1_5, e1_5, t1_5, m1_6, o1_6, j1_6, e1_6, t1_6, m1_7, o1_7, j1_7, e1_7, t1_7, rfl, ⟨hS1_1, hn1_1⟩, ⟨hS1_2, hn1_2⟩, ⟨hS1_3, hn1_3⟩, ⟨hS1_4, hn1_4⟩, ⟨hS1_5, hn1_5⟩, ⟨hS1_6, hn1_6⟩, ⟨hS1_7, hn1_7⟩⟩ := zK5 Tryz.underlying28 rfl rfl rfl rfl (by kernel_rfl) Tryz.underlying25 Tryz.underlying26 (by kernel_rfl) (by kernel_rfl) (by kernel_rfl) Tryz.underlying24 rfl rfl (by kernel_rfl) (hval 1 28 v1 rfl rfl) g1 hlt1
  refine (zLz W m0_1 o0_1 j0_1 e0_1 t0_1 hS0_1 hn0_1 m0_2 o0_2 j0_2 e0_2 t0_2 hS0_2 hn0_2 m0_3 o0_3 j0_3 e0_3 t0_3 hS0_3 hn0_3 m0_4 o0_4 j0_4 e0_4 t0_4 hS0_4 hn0_4 m0_5 o0_5 j0_5 e0_5 t0_5 hS0_5 hn0_5 m0_6 o0_6 j0_6 e0_6 t0_6 hS0_6 hn0_6 m0_7 o0_7 j0_7 e0_7 t0_7 hS0_7 hn0_7 m1_1 o1_1 j1_1 e1_1 t1_1 hS1_1 hn1_1 m1_2 o1_2 j1_2 e1_2 t1_2 hS1_2 hn1_2 m1_3 o1_3 j1_3 e1_3 t1_3 hS1_3 hn1_3 m1_4 o1_4 j1_4 e1_4 t1_4 hS1_4 hn1_4 m1_5 o1_5 j1_5 e1_5 t1_5 hS1_5 hn1_5 m1_6 o1_6 j1_6 e1_6 t1_6 hS1_6 hn1_6 m1_7 o1_7 j1_7 e1_7 t1_7 hS1_7 hn1_7 ).mono fun e W' ⟨he, hb⟩ => ?_
  subst he
  refine ⟨_, rfl, _, _, _, [], (p0 ++ (p1 ++ [])), [], hW', ?_, ?_, rfl, hb.frame _, fun h => by cases h⟩
  · exact trodAll_cons_mk (shut_bool Tryz.underlying4 _) trodAll_mk0
  · exact (trodAll_cons_mk (Below.trod laidOut (by kernel_rfl) (of_decide_eq_true (by kernel_rfl)) g0 hb hlt0) (trodAll_cons_mk (Below.trod laidOut (by kernel_rfl) (of_decide_eq_true (by kernel_rfl)) g1 hb hlt1) trodAll_mk0))

set_option maxRecDepth 100000 in
theorem lifted (os : Os) (started : os.Started) (H : Type) (enc : TypeId × Value → H) :
    ReturnsInHanded {} Tryz.checked os 3 .any (Rows.formMatchesReferenceSpec.pre6 enc Tryz.prog Tryz.f3 Rows.formMatchesReferenceRow.domain false) (Rows.formMatchesReferenceSpec.post enc Tryz.prog Tryz.f3 false true false false) := by
  refine returnsInHanded_of_change (C := Tryz.checked) own started (by kernel_rfl) Tryz.func3
    (ChangeSpec.witness6 (enc := enc) (C := Tryz.checked) false ⟨#[], #[.agg #[.bool false, .slice none 0 0, .bool false, .slice none 0 0, .bool false, .slice none 0 0, .bool false, .slice none 0 0, .bool false, .slice none 0 0, .bool false, .slice none 0 0, .bool false, .slice none 0 0], .agg #[.bool false, .slice none 0 0, .bool false, .slice none 0 0, .bool false, .slice none 0 0, .bool false, .slice none 0 0, .bool false, .slice none 0 0, .bool false, .slice none 0 0, .bool false, .slice none 0 0]], []⟩ 8 (by kernel_rfl) (by kernel_rfl) (by kernel_rfl) (by kernel_rfl)) ?_
  intro W base args ds gs before hval hW _ _
  exact contract H enc W base args ds gs before hval hW

/-- The law, whole. -/
theorem said : Rows.FormMatchesReferenceSaid :=
  OpenClaim.holds_of_wide 3 Tryz.f3 rfl rfl rfl rfl rfl rfl rfl ⟨rfl, rfl, rfl, rfl, rfl⟩ rfl rfl rfl rfl rfl (by kernel_rfl) Tryz.func3 (by kernel_rfl)
    (of_decide_eq_true (by kernel_rfl)) (by unfold Func.isWrapper; first | (rw [if_pos (by decide +kernel)]; kernel_rfl) | (rw [if_neg (by decide +kernel)]; exact ⟨rfl, rfl⟩))
    (fun os started H enc _ => lifted os started H enc)

end Go.Proofs.YtdhkhedhnolcjaaGreat.fmat
