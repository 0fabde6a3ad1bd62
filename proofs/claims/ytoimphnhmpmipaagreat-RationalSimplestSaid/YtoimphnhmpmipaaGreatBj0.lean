/- The simplest number of an interval is in it, and agrees with the reference implementation; no number of the interval has a smaller denominator, up to 60, or the same one and a smaller numerator: for every input. -/
import Derived.Test.YtoimphnhmpmipaaGreatRows
import Derived.Test.YtoimphnhmpmipaaGreatBj6
namespace Go.Proofs.YtoimphnhmpmipaaGreat.simplest
open Go Go.ChangeShapes Go.WideShapes Go.ChangeAt Go.RowKit

set_option maxRecDepth 100000 in
theorem contract (H : Type) (enc : TypeId × Value → H) (W : World) (base : Nat) (args : Array Value) (ds gs : List (DataW H)) (before : List MemPlace)
    (hval : ∀ (j : Nat) t v, Tryz.f6.params[j]? = some t → args[j]? = some v → Value.okWide Tryz.prog W .any base t v)
    (hW : DataW.Whole enc Tryz.prog Tryz.f6.params.toList Rows.rationalSimplestSpec.vars false W args.toList ds gs before) :
    Calls Tryz.prog 6 args W fun e W' => ∃ v, e = .returned v ∧ Rows.rationalSimplestSpec.post enc Tryz.prog Tryz.f6 false true false false W args v W' := by
  have hW' := hW
  obtain ⟨p, q, hA0, hV, rfl, hfz, hnd⟩ := hW
  have hA : DataW.TrodAll enc Tryz.prog W 0 (fun _ => true) true Tryz.f6.params.toList args.toList ds p := hA0
  rw [Tryz.params6] at hA hval
  obtain ⟨v0, vs0, d0, ds0, p0, q0, hargs, rfl, rfl, g0, r0⟩ := trodAll_cons hA
  obtain ⟨v1, vs1, d1, ds1, p1, q1, rfl, rfl, rfl, g1, r1⟩ := trodAll_cons r0
  obtain ⟨rfl, rfl, rfl⟩ := trodAll_nil r1
  obtain rfl : args = #[v0, v1] := by cases args; simp_all
  obtain ⟨rfl, rfl⟩ := trodVars_none hV
  clear hA0
  simp only [List.append_nil] at hW'
  have hlt0 : ∀ m ∈ p0, m.block < W.heap.size := fun m hm => by have := hW'.lt m (by simp [hm]); simpa using this
  have hlt1 : ∀ m ∈ p1, m.block < W.heap.size := fun m hm => by have := hW'.lt m (by simp [hm]); simpa using this
  obtain ⟨neg0, ao0, n0, c0, xs0, mb0, ra0, ll0, qq0, ys0, rfl, hS0, hT0, hn0, hm0⟩ := open_raw2 Tryz.underlying26 rfl rfl rfl rfl (by kernel_rfl) (by kernel_rfl) Tryz.underlying24 rfl rfl (by kernel_rfl) (hval 0 26 v0 rfl rfl) g0 hlt0
  obtain ⟨neg1, ao1, n1, c1, xs1, mb1, ra1, ll1, qq1, ys1, rfl, hS1, hT1, hn1, hm1⟩ := open_raw2 Tryz.underlying26 rfl rfl rfl rfl (by kernel_rfl) (by kernel_rfl) Tryz.underlying24 rfl rfl (by kernel_rfl) (hval 1 26 v1 rfl rfl) g1 hlt1
  refine (RationalSimplest_any W neg0 ao0 n0 c0 xs0 mb0 ra0 ll0 qq0 ys0 hS0 hT0 hn0 hm0 neg1 ao1 n1 c1 xs1 mb1 ra1 ll1 qq1 ys1 hS1 hT1 hn1 hm1 ).mono fun e W' ⟨he, hb⟩ => ?_
  subst he
  refine ⟨_, rfl, _, _, _, [], (p0 ++ (p1 ++ [])), [], hW', ?_, ?_, rfl, hb.frame _, fun h => by cases h⟩
  · exact trodAll_cons_mk (shut_bool Tryz.underlying4 _) trodAll_mk0
  · exact (trodAll_cons_mk (Below.trod laidOut (by kernel_rfl) (of_decide_eq_true (by kernel_rfl)) g0 hb hlt0) (trodAll_cons_mk (Below.trod laidOut (by kernel_rfl) (of_decide_eq_true (by kernel_rfl)) g1 hb hlt1) trodAll_mk0))

set_option maxRecDepth 100000 in
theorem lifted (os : Os) (started : os.Started) (H : Type) (enc : TypeId × Value → H) :
    ReturnsInHanded {} Tryz.checked os 6 .any (Rows.rationalSimplestSpec.pre6 enc Tryz.prog Tryz.f6 Rows.rationalSimplestRow.domain false) (Rows.rationalSimplestSpec.post enc Tryz.prog Tryz.f6 false true false false) := by
  refine returnsInHanded_of_change (C := Tryz.checked) own started (by kernel_rfl) Tryz.func6
    (ChangeSpec.witness6 (enc := enc) (C := Tryz.checked) false ⟨#[], #[.agg #[.bool false, .slice none 0 0, .bool false, .slice none 0 0], .agg #[.bool false, .slice none 0 0, .bool false, .slice none 0 0]], []⟩ 8 (by kernel_rfl) (by kernel_rfl) (by kernel_rfl) (by kernel_rfl)) ?_
  intro W base args ds gs before hval hW _ _
  exact contract H enc W base args ds gs before hval hW

/-- The law, whole. -/
theorem said : Rows.RationalSimplestSaid :=
  OpenClaim.holds_of_wide 6 Tryz.f6 rfl rfl rfl rfl rfl rfl rfl ⟨rfl, rfl, rfl, rfl, rfl⟩ rfl rfl rfl rfl rfl (by kernel_rfl) Tryz.func6 (by kernel_rfl)
    (of_decide_eq_true (by kernel_rfl)) (by unfold Func.isWrapper; first | (rw [if_pos (by decide +kernel)]; kernel_rfl) | (rw [if_neg (by decide +kernel)]; exact ⟨rfl, rfl⟩))
    (fun os started H enc _ => lifted os started H enc)

end Go.Proofs.YtoimphnhmpmipaaGreat.simplest
