/- Steps of a region that draws its order and only reads old memory: a load of an old box, a call on a constant. -/
import Derived.Test.YtjpbmghdamcdcaaFa
namespace Go.Proofs.Ytjpbmghdamcdcaa
open Go Go.RowKit

section
variable {os : List Oper} {Q : Exit → Act → World → Prop} {a : Act} {p : Plan} {B B0 : Nat} {w0 : World}
variable {i s : Nat} {d : Option Tmp} {ty : TypeId} {ps : String} {af : Array Edge}

/-- A load of a box that lay there before the region, where the region stores nothing below B. -/
theorem st_loadFix {b : Nat} {z : Int} (hp : p.Ok B B0) (hx : a.eval (.tmp s) = .pointer (some ⟨b, 0, none⟩)) (hb : BoxNum w0 b z) (hB : B = w0.heap.size) (ho : (os.map (·.dst)).contains (some s) = false)
    (hC : ∀ v w, Num w v z → p.C i v w) (hF : p.Free i) : Step os Q a p B B0 w0 i { dst := d, op := .load 27 (.tmp s), type := ty, pos := ps, after := af, guard := none } := by
  intro hio L vs w hG hL hd hc
  subst hB
  obtain ⟨n, ao, kk, c, ⟨c0, c1, _, _⟩, hN⟩ := hb.mono hG.below
  exact op_load hio ((lay_out ho _).trans hx) c0 c1 ⟨_, rfl, hG.plain hp hL (Below.refl _ _) (hC _ _ hN) hF.1 hF.2⟩

/-- A call on a constant. -/
theorem st_callC {x : Value} {f : FuncId} {ts : Array TypeId} (hp : p.Ok B B0)
    (hen : ∀ args w, (callFunc f args).run Try.prog w = .ok (.enter f args) w) (hC : ∀ w, Calls Try.prog f #[x] w fun e w' => ∃ v', e = .returned v' ∧ Below w.heap.size w w' ∧ p.C i v' w') (hF : p.Free i) :
    Step os Q a p B B0 w0 i { dst := d, op := .call { callee := .value (.func f), args := #[.const x], argTypes := ts }, type := ty, pos := ps, after := af, guard := none } := by
  intro hio L vs w hG hL hd hc
  refine op_call hio (args := #[x]) (by simp [Act.eval]) hen ((hC w).mono ?_)
  rintro e w' ⟨v', rfl, hb, h⟩
  exact ⟨v', rfl, v', rfl, hG.plain hp hL hb h hF.1 hF.2⟩

end

theorem plan_fix (fs : List Fact) (w : World) : (mkPlan fs [] []).Ok w.heap.size w.heap.size := mkPlan_ok (by simp) (by simp) (by simp) (by omega)
theorem start_fix (fs : List Fact) (w : World) : (mkPlan fs [] []).G w.heap.size w.heap.size w (fun _ => false) (fun _ => undef) w.drew := mkPlan_start (by simp) (Below.refl _ _)

end Go.Proofs.Ytjpbmghdamcdcaa
