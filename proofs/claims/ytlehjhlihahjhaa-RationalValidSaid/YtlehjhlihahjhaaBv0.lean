/- All results on fractions are valid, and a fraction of any shape is valid exactly if the reference implementation says so: for every input. -/
import Derived.Test.YtlehjhlihahjhaaRows
import Derived.Test.YtlehjhlihahjhaaBv6
namespace Go.Proofs.Ytlehjhlihahjhaa.valid
open Go Go.ChangeShapes Go.WideShapes Go.ChangeAt Go.RowKit

set_option maxRecDepth 100000 in
theorem contract (H : Type) (enc : TypeId × Value → H) (W : World) (base : Nat) (args : Array Value) (ds gs : List (DataW H)) (before : List MemPlace)
    (hval : ∀ (j : Nat) t v, Try.f5.params[j]? = some t → args[j]? = some v → Value.okWide Try.prog W .any base t v)
    (hW : DataW.Whole enc Try.prog Try.f5.params.toList Rows.rationalValidSpec.vars false W args.toList ds gs before)
    (hsz : (DataW.weightsEach Try.prog (Try.f5.params.toList ++ Rows.rationalValidSpec.plain.varTypes Try.prog) (ds ++ gs)).all (· ≤ reachBytes) = true) :
    Calls Try.prog 5 args W fun e W' => ∃ v, e = .returned v ∧ Rows.rationalValidSpec.post enc Try.prog Try.f5 false true false false W args v W' := by
  have hW' := hW
  obtain ⟨p, q, hA0, hV, rfl, hfz, hnd⟩ := hW
  have hA : DataW.TrodAll enc Try.prog W 0 (fun _ => true) true Try.f5.params.toList args.toList ds p := hA0
  rw [Try.params5] at hA hval hsz
  obtain ⟨v0, vs0, d0, ds0, p0, q0, hargs, rfl, rfl, g0, r0⟩ := trodAll_cons hA
  obtain ⟨v1, vs1, d1, ds1, p1, q1, rfl, rfl, rfl, g1, r1⟩ := trodAll_cons r0
  obtain ⟨v2, vs2, d2, ds2, p2, q2, rfl, rfl, rfl, g2, r2⟩ := trodAll_cons r1
  obtain ⟨rfl, rfl, rfl⟩ := trodAll_nil r2
  obtain rfl : args = #[v0, v1, v2] := by cases args; simp_all
  obtain ⟨rfl, rfl⟩ := trodVars_none hV
  clear hA0
  simp only [List.append_nil] at hW'
  have hlt0 : ∀ m ∈ p0, m.block < W.heap.size := fun m hm => by have := hW'.lt m (by simp [hm]); simpa using this
  have hlt1 : ∀ m ∈ p1, m.block < W.heap.size := fun m hm => by have := hW'.lt m (by simp [hm]); simpa using this
  have hlt2 : ∀ m ∈ p2, m.block < W.heap.size := fun m hm => by have := hW'.lt m (by simp [hm]); simpa using this
  obtain ⟨neg0, ao0, n0, c0, xs0, mb0, ra0, ll0, qq0, ys0, rfl, hS0, hT0, hn0, hm0⟩ := open_raw2 Try.underlying26 rfl rfl rfl rfl (by kernel_rfl) (by kernel_rfl) Try.underlying24 rfl rfl (by kernel_rfl) (hval 0 26 v0 rfl rfl) g0 hlt0
  obtain ⟨neg1, ao1, n1, c1, xs1, mb1, ra1, ll1, qq1, ys1, rfl, hS1, hT1, hn1, hm1⟩ := open_raw2 Try.underlying26 rfl rfl rfl rfl (by kernel_rfl) (by kernel_rfl) Try.underlying24 rfl rfl (by kernel_rfl) (hval 1 26 v1 rfl rfl) g1 hlt1
  obtain ⟨neg2, ao2, n2, c2, xs2, mb2, ra2, ll2, qq2, ys2, rfl, hS2, hT2, hn2, hm2⟩ := open_raw2 Try.underlying31 rfl rfl rfl rfl (by kernel_rfl) (by kernel_rfl) Try.underlying29 rfl rfl (by kernel_rfl) (hval 2 31 v2 rfl rfl) g2 hlt2
  have hr2 := reach2 Try.underlying31 rfl rfl rfl rfl (by kernel_rfl) Try.underlying29 rfl (by kernel_rfl) g2 (fun m hm => of_decide_eq_true (List.all_eq_true.1 hsz m (DataW.weights_mem_each (j := 2) rfl rfl m hm)))
  refine (RationalValid_any W neg0 ao0 n0 c0 xs0 mb0 ra0 ll0 qq0 ys0 hS0 hT0 hn0 hm0 neg1 ao1 n1 c1 xs1 mb1 ra1 ll1 qq1 ys1 hS1 hT1 hn1 hm1 neg2 ao2 n2 c2 xs2 mb2 ra2 ll2 qq2 ys2 hS2 hT2 hr2.1 hr2.2 ).mono fun e W' ⟨he, hb⟩ => ?_
  subst he
  refine ⟨_, rfl, _, _, _, [], (p0 ++ (p1 ++ (p2 ++ []))), [], hW', ?_, ?_, rfl, hb.frame _, fun h => by cases h⟩
  · exact trodAll_cons_mk (shut_bool Try.underlying4 _) trodAll_mk0
  · exact (trodAll_cons_mk (Below.trod laidOut (by kernel_rfl) (of_decide_eq_true (by kernel_rfl)) g0 hb hlt0) (trodAll_cons_mk (Below.trod laidOut (by kernel_rfl) (of_decide_eq_true (by kernel_rfl)) g1 hb hlt1) (trodAll_cons_mk (Below.trod laidOut (by kernel_rfl) (of_decide_eq_true (by kernel_rfl)) g2 hb hlt2) trodAll_mk0)))

set_option maxRecDepth 100000 in
theorem lifted (os : Os) (started : os.Started) (H : Type) (enc : TypeId × Value → H) :
    ReturnsInHanded {} Try.checked os 5 .any (Rows.rationalValidSpec.pre6 enc Try.prog Try.f5 Rows.rationalValidRow.domain false) (Rows.rationalValidSpec.post enc Try.prog Try.f5 false true false false) := by
  refine returnsInHanded_of_change_sized (C := Try.checked) own started (by kernel_rfl) Try.func5
    (ChangeSpec.witness6 (enc := enc) (C := Try.checked) false ⟨#[], #[.agg #[.bool false, .slice none 0 0, .bool false, .slice none 0 0], .agg #[.bool false, .slice none 0 0, .bool false, .slice none 0 0], .agg #[.bool false, .slice none 0 0, .bool false, .slice none 0 0]], []⟩ 8 (by kernel_rfl) (by kernel_rfl) (by kernel_rfl) (by kernel_rfl)) ?_
  intro W base args ds gs before hval hW _ hsz _
  exact contract H enc W base args ds gs before hval hW hsz

/-- The law, whole. -/
theorem said : Rows.RationalValidSaid :=
  OpenClaim.holds_of_wide 5 Try.f5 rfl rfl rfl rfl rfl rfl rfl ⟨rfl, rfl, rfl, rfl, rfl⟩ rfl rfl rfl rfl rfl (by kernel_rfl) Try.func5 (by kernel_rfl)
    (of_decide_eq_true (by kernel_rfl)) (by unfold Func.isWrapper; first | (rw [if_pos (by decide +kernel)]; kernel_rfl) | (rw [if_neg (by decide +kernel)]; exact ⟨rfl, rfl⟩))
    (fun os started H enc _ => lifted os started H enc)

end Go.Proofs.Ytlehjhlihahjhaa.valid
