/- The meeting of two intervals has exactly the numbers that are in both; one is inside the other exactly if the meeting is the first one: for every input. -/
import Derived.Test.YtoimphnhmpmipaaGreatRows
import Derived.Test.YtoimphnhmpmipaaGreatBi7
namespace Go.Proofs.YtoimphnhmpmipaaGreat.meets
open Go Go.ChangeShapes Go.WideShapes Go.ChangeAt Go.RowKit

set_option maxRecDepth 100000 in
theorem contract (H : Type) (enc : TypeId × Value → H) (W : World) (base : Nat) (args : Array Value) (ds gs : List (DataW H)) (before : List MemPlace)
    (hval : ∀ (j : Nat) t v, Tryz.f5.params[j]? = some t → args[j]? = some v → Value.okWide Tryz.prog W .any base t v)
    (hW : DataW.Whole enc Tryz.prog Tryz.f5.params.toList Rows.rationalMeetsSpec.vars false W args.toList ds gs before) :
    Calls Tryz.prog 5 args W fun e W' => ∃ v, e = .returned v ∧ Rows.rationalMeetsSpec.post enc Tryz.prog Tryz.f5 false true false false W args v W' := by
  have hW' := hW
  obtain ⟨p, q, hA0, hV, rfl, hfz, hnd⟩ := hW
  have hA : DataW.TrodAll enc Tryz.prog W 0 (fun _ => true) true Tryz.f5.params.toList args.toList ds p := hA0
  rw [Tryz.params5] at hA hval
  obtain ⟨v0, vs0, d0, ds0, p0, q0, hargs, rfl, rfl, g0, r0⟩ := trodAll_cons hA
  obtain ⟨v1, vs1, d1, ds1, p1, q1, rfl, rfl, rfl, g1, r1⟩ := trodAll_cons r0
  obtain ⟨v2, vs2, d2, ds2, p2, q2, rfl, rfl, rfl, g2, r2⟩ := trodAll_cons r1
  obtain ⟨rfl, rfl, rfl⟩ := trodAll_nil r2
  obtain rfl : args = #[v0, v1, v2] := by cases args; simp_all
  obtain ⟨rfl, rfl⟩ := trodVars_none hV
  clear hA0
  simp only [List.append_nil] at hW'
  have hlt0 : ∀ m ∈ p0, m.block < W.heap.size := fun m hm => by have := hW'.lt m (by simp [hm]); simpa using this
  have hlt1 : ∀ m ∈ p1, m.block < W.heap.size := fun m hm => by have := hW'.lt m (by simp [hm]); simpa using this
  have hlt2 : ∀ m ∈ p2, m.block < W.heap.size := fun m hm => by have := hW'.lt m (by simp [hm]); simpa using this
  obtain ⟨n0a, ao0a, k0a, c0a, xs0a, m0a, r0a, l0a, q0a, ys0a, n0b, ao0b, k0b, c0b, xs0b, m0b, r0b, l0b, q0b, ys0b, rfl, ⟨hS0a, hT0a, hn0a, hm0a⟩, ⟨hS0b, hT0b, hn0b, hm0b⟩⟩ := open_raws2 Tryz.underlying44 (by kernel_rfl) (by kernel_rfl) Tryz.underlying26 rfl rfl rfl rfl (by kernel_rfl) Tryz.underlying24 rfl rfl (by kernel_rfl) (hval 0 44 v0 rfl rfl) g0 hlt0
  obtain ⟨n1a, ao1a, k1a, c1a, xs1a, m1a, r1a, l1a, q1a, ys1a, n1b, ao1b, k1b, c1b, xs1b, m1b, r1b, l1b, q1b, ys1b, rfl, ⟨hS1a, hT1a, hn1a, hm1a⟩, ⟨hS1b, hT1b, hn1b, hm1b⟩⟩ := open_raws2 Tryz.underlying44 (by kernel_rfl) (by kernel_rfl) Tryz.underlying26 rfl rfl rfl rfl (by kernel_rfl) Tryz.underlying24 rfl rfl (by kernel_rfl) (hval 1 44 v1 rfl rfl) g1 hlt1
  obtain ⟨neg2, ao2, n2, c2, xs2, mb2, ra2, ll2, qq2, ys2, rfl, hS2, hT2, hn2, hm2⟩ := open_raw2 Tryz.underlying26 rfl rfl rfl rfl (by kernel_rfl) (by kernel_rfl) Tryz.underlying24 rfl rfl (by kernel_rfl) (hval 2 26 v2 rfl rfl) g2 hlt2
  refine (RationalMeets_any W n0a ao0a k0a c0a xs0a m0a r0a l0a q0a ys0a hS0a hT0a hn0a hm0a n0b ao0b k0b c0b xs0b m0b r0b l0b q0b ys0b hS0b hT0b hn0b hm0b n1a ao1a k1a c1a xs1a m1a r1a l1a q1a ys1a hS1a hT1a hn1a hm1a n1b ao1b k1b c1b xs1b m1b r1b l1b q1b ys1b hS1b hT1b hn1b hm1b neg2 ao2 n2 c2 xs2 mb2 ra2 ll2 qq2 ys2 hS2 hT2 hn2 hm2 ).mono fun e W' ⟨he, hb⟩ => ?_
  subst he
  refine ⟨_, rfl, _, _, _, [], (p0 ++ (p1 ++ (p2 ++ []))), [], hW', ?_, ?_, rfl, hb.frame _, fun h => by cases h⟩
  · exact trodAll_cons_mk (shut_bool Tryz.underlying4 _) trodAll_mk0
  · exact (trodAll_cons_mk (Below.trod laidOut (by kernel_rfl) (of_decide_eq_true (by kernel_rfl)) g0 hb hlt0) (trodAll_cons_mk (Below.trod laidOut (by kernel_rfl) (of_decide_eq_true (by kernel_rfl)) g1 hb hlt1) (trodAll_cons_mk (Below.trod laidOut (by kernel_rfl) (of_decide_eq_true (by kernel_rfl)) g2 hb hlt2) trodAll_mk0)))

set_option maxRecDepth 100000 in
theorem lifted (os : Os) (started : os.Started) (H : Type) (enc : TypeId × Value → H) :
    ReturnsInHanded {} Tryz.checked os 5 .any (Rows.rationalMeetsSpec.pre6 enc Tryz.prog Tryz.f5 Rows.rationalMeetsRow.domain false) (Rows.rationalMeetsSpec.post enc Tryz.prog Tryz.f5 false true false false) := by
  refine returnsInHanded_of_change (C := Tryz.checked) own started (by kernel_rfl) Tryz.func5
    (ChangeSpec.witness6 (enc := enc) (C := Tryz.checked) false ⟨#[], #[.agg #[.bool false, .slice none 0 0, .bool false, .slice none 0 0, .bool false, .slice none 0 0, .bool false, .slice none 0 0], .agg #[.bool false, .slice none 0 0, .bool false, .slice none 0 0, .bool false, .slice none 0 0, .bool false, .slice none 0 0], .agg #[.bool false, .slice none 0 0, .bool false, .slice none 0 0]], []⟩ 8 (by kernel_rfl) (by kernel_rfl) (by kernel_rfl) (by kernel_rfl)) ?_
  intro W base args ds gs before hval hW _ _
  exact contract H enc W base args ds gs before hval hW

/-- The law, whole. -/
theorem said : Rows.RationalMeetsSaid :=
  OpenClaim.holds_of_wide 5 Tryz.f5 rfl rfl rfl rfl rfl rfl rfl ⟨rfl, rfl, rfl, rfl, rfl⟩ rfl rfl rfl rfl rfl (by kernel_rfl) Tryz.func5 (by kernel_rfl)
    (of_decide_eq_true (by kernel_rfl)) (by unfold Func.isWrapper; first | (rw [if_pos (by decide +kernel)]; kernel_rfl) | (rw [if_neg (by decide +kernel)]; exact ⟨rfl, rfl⟩))
    (fun os started H enc _ => lifted os started H enc)

end Go.Proofs.YtoimphnhmpmipaaGreat.meets
