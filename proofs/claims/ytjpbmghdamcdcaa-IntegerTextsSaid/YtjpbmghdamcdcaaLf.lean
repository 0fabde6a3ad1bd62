/- What the laws' rows share: an argument of two fields, a bool and a slice of words, opened; old memory reads as it did. -/
import Derived.Test.YtjpbmghdamcdcaaMem
import Derived.Test.YtjpbmghdamcdcaaChecked
import Derived.ProofKit
import Derived.OpenShut
import Derived.Lib.SmallJoins
namespace Go.Proofs.Ytjpbmghdamcdcaa
open Go Go.ChangeShapes Go.WideShapes Go.ChangeAt Go.RowKit Go.Joins Go.Deep

theorem own : ownKnob Try.prog.godebug = none := by kernel_rfl
theorem laidOut : laidOutB Try.prog = true := by kernel_rfl

/-- A bool and a slice of words, by value: the argument's value, and its words in memory. -/
theorem open_raw {H : Type} {enc : TypeId × Value → H} {W : World} {r : Reach} {b0 : Nat} {t : TypeId} {f0 f1 : Field} (hs : Try.prog.underlying t = some (.struct #[f0, f1])) (h0 : f0.type = 4) (h1 : f1.type = 22) (hone : oneCellFields Try.prog #[f0, f1] = true)
    (hC : Try.prog.cellsOf t = 2) {v : Value} {d : DataW H} {p : List MemPlace} (hv : Value.okWide Try.prog W r b0 t v) (h : DataW.Trod enc Try.prog W 0 (fun _ => true) true t v d p) (hlt : ∀ x ∈ p, x.block < W.heap.size) :
    ∃ (neg : Bool) (ao : Option Addr) (n c : Nat) (xs : List Int), v = .agg #[.bool neg, .slice ao n c] ∧ Sl W ao n c xs ∧ n ≤ 9223372036854775807 := by
  obtain ⟨v0, v1, y0, y1, k, rfl, _, hp, t0, t1⟩ := open_agg2 hs hone hC hv h
  rw [h0] at t0
  rw [h1] at t1
  obtain ⟨neg, hneg, _⟩ := DataW.trod_bool Try.underlying4 t0
  simp at hneg
  subst hneg
  rcases open_ints Try.underlying22 Try.underlying63 (by kernel_rfl) t1 with ⟨hcs, _⟩ | ⟨a, len, cap, zs, hcs, _, hl, hm, hz, hx, hcell, hw⟩
  · simp at hcs
    subst hcs
    exact ⟨neg, none, 0, 0, [], rfl, Sl.nil W, by omega⟩
  · simp at hcs
    subst hcs
    simp only [if_true] at hz
    have hd : Digs (zs.take len) := fun x hx => by
      have := hw x (List.mem_of_mem_take hx)
      simp only [Lit.wf, IntKind.min, IntKind.max, IntKind.signed, IntKind.bits, Bool.and_eq_true] at this
      unfold Dig
      simp at this
      omega
    refine ⟨neg, some a, len, cap, zs.take len, rfl, ⟨by rw [List.length_take]; omega, hl, hd, ?_⟩, by unfold maxLen at hm; omega⟩
    by_cases hl0 : len = 0
    · left; rw [hl0]; simp
    · right
      obtain ⟨b, off, spot⟩ := a
      have hspot : spot = none := by simpa [Addr.add] using World.cell?_spot (hcell 0 (by omega))
      subst hspot
      refine ⟨b, off, rfl, hlt (.cell b off) ?_, fun j hj => ?_⟩
      · rw [hp, hx]
        exact List.mem_append_right _ (MemPlace.mem_row.2 ⟨0, by omega, by simp⟩)
      · have hj2 : j < len := by rw [List.length_take] at hj; omega
        rw [← add_plain, hcell j (by omega)]
        simp [List.getD, hj2]

end Go.Proofs.Ytjpbmghdamcdcaa
