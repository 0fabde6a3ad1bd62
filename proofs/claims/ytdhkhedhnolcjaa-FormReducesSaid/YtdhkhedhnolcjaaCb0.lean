/- The reduced form of any form is reduced, equal to that of the reference implementation, and the form under a matrix with the determinant 1; what has none is refused: for every input. -/
import Derived.Test.YtdhkhedhnolcjaaRows
import Derived.Test.YtdhkhedhnolcjaaCb6
namespace Go.Proofs.Ytdhkhedhnolcjaa.fred
open Go Go.ChangeShapes Go.WideShapes Go.ChangeAt Go.RowKit

set_option maxRecDepth 100000 in
theorem contract (H : Type) (enc : TypeId × Value → H) (W : World) (base : Nat) (args : Array Value) (ds gs : List (DataW H)) (before : List MemPlace)
    (hval : ∀ (j : Nat) t v, Try.f4.params[j]? = some t → args[j]? = some v → Value.okWide Try.prog W .any base t v)
    (hW : DataW.Whole enc Try.prog Try.f4.params.toList Rows.formReducesSpec.vars false W args.toList ds gs before) :
    Calls Try.prog 4 args W fun e W' => ∃ v, e = .returned v ∧ Rows.formReducesSpec.post enc Try.prog Try.f4 false true false false W args v W' := by
  have hW' := hW
  obtain ⟨p, q, hA0, hV, rfl, hfz, hnd⟩ := hW
  have hA : DataW.TrodAll enc Try.prog W 0 (fun _ => true) true Try.f4.params.toList args.toList ds p := hA0
  rw [Try.params4] at hA hval
  obtain ⟨v0, vs0, d0, ds0, p0, q0, hargs, rfl, rfl, g0, r0⟩ := trodAll_cons hA
  obtain ⟨rfl, rfl, rfl⟩ := trodAll_nil r0
  obtain rfl : args = #[v0] := by cases args; simp_all
  obtain ⟨rfl, rfl⟩ := trodVars_none hV
  clear hA0
  simp only [List.append_nil] at hW'
  have hlt0 : ∀ m ∈ p0, m.block < W.heap.size := fun m hm => by have := hW'.lt m (by simp [hm]); simpa using this
  obtain ⟨m0_1, o0_1, j0_1, e0_1, t0_1, m0_2, o0_2, j0_2, e0_2, t0_2, m0_3, o0_3, j0_3, e0_3, t0_3, m0_4, o0_4, j0_4, e0_4, t0_4, m0_5, o0_5, j0_5, e0_5, t0_5, m0_6, o0_6, j0_6, e0_6, t0_6, m0_7, o0_7, j0_7, e0_7, t0_7, rfl, ⟨hS0_1, hn0_1⟩, ⟨hS0_2, hn0_2⟩, ⟨hS0_3, hn0_3⟩, ⟨hS0_4, hn0_4⟩, ⟨hS0_5, hn0_5⟩, ⟨hS0_6, hn0_6⟩, ⟨hS0_7, hn0_7⟩⟩ := open_odd8 Try.underlying28 rfl rfl rfl rfl (by kernel_rfl) Try.underlying25 Try.underlying26 (by kernel_rfl) (by kernel_rfl) (by kernel_rfl) Try.underlying24 rfl rfl (by kernel_rfl) (hval 0 28 v0 rfl rfl) g0 hlt0
  refine (zLb W m0_1 o0_1 j0_1 e0_1 t0_1 hS0_1 hn0_1 m0_2 o0_2 j0_2 e0_2 t0_2 hS0_2 hn0_2 m0_3 o0_3 j0_3 e0_3 t0_3 hS0_3 hn0_3 m0_4 o0_4 j0_4 e0_4 t0_4 hS0_4 hn0_4 m0_5 o0_5 j0_5 e0_5 t0_5 hS0_5 hn0_5 m0_6 o0_6 j0_6 e0_6 t0_6 hS0_6 hn0_6 m0_7 o0_7 j0_7 e0_7 t0_7 hS0_7 hn0_7 ).mono fun e W' ⟨he, hb⟩ => ?_
  subst he
  refine ⟨_, rfl, _, _, _, [], (p0 ++ []), [], hW', ?_, ?_, rfl, hb.frame _, fun h => by cases h⟩
  · exact trodAll_cons_mk (shut_bool Try.underlying4 _) trodAll_mk0
  · exact (trodAll_cons_mk (Below.trod laidOut (by kernel_rfl) (of_decide_eq_true (by kernel_rfl)) g0 hb hlt0) trodAll_mk0)

set_option maxRecDepth 100000 in
theorem lifted (os : Os) (started : os.Started) (H : Type) (enc : TypeId × Value → H) :
    ReturnsInHanded {} Try.checked os 4 .any (Rows.formReducesSpec.pre6 enc Try.prog Try.f4 Rows.formReducesRow.domain false) (Rows.formReducesSpec.post enc Try.prog Try.f4 false true false false) := by
  refine returnsInHanded_of_change (C := Try.checked) own started (by kernel_rfl) Try.func4
    (ChangeSpec.witness6 (enc := enc) (C := Try.checked) false ⟨#[], #[.agg #[.bool false, .slice none 0 0, .bool false, .slice none 0 0, .bool false, .slice none 0 0, .bool false, .slice none 0 0, .bool false, .slice none 0 0, .bool false, .slice none 0 0, .bool false, .slice none 0 0]], []⟩ 8 (by kernel_rfl) (by kernel_rfl) (by kernel_rfl) (by kernel_rfl)) ?_
  intro W base args ds gs before hval hW _ _
  exact contract H enc W base args ds gs before hval hW

/-- The law, whole. -/
theorem said : Rows.FormReducesSaid :=
  OpenClaim.holds_of_wide 4 Try.f4 rfl rfl rfl rfl rfl rfl rfl ⟨rfl, rfl, rfl, rfl, rfl⟩ rfl rfl rfl rfl rfl (by kernel_rfl) Try.func4 (by kernel_rfl)
    (of_decide_eq_true (by kernel_rfl)) (by unfold Func.isWrapper; first | (rw [if_pos (by decide +kernel)]; kernel_rfl) | (rw [if_neg (by decide +kernel)]; exact ⟨rfl, rfl⟩))
    (fun os started H enc _ => lifted os started H enc)

end Go.Proofs.Ytdhkhedhnolcjaa.fred
