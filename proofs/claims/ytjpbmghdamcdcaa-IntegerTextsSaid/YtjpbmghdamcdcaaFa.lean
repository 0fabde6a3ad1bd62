/- Facts of values in a region that draws its order. -/
import Derived.Test.YtjpbmghdamcdcaaSt
import Derived.Test.YtjpbmghdamcdcaaRb
namespace Go.Proofs.Ytjpbmghdamcdcaa
open Go Go.RowKit

/-- What is known of a value: a number; two numbers and an error; a machine integer; the value itself; nothing. -/
inductive Fact where
  | num (z : Int)
  | tup (z z' : Int)
  | int (z : Int)
  | is (u : Value)
  | any

def Fact.holds : Fact → Value → World → Prop
  | .num z, v, w => Num w v z
  | .tup z z', v, w => ∃ v1 v2 v3, v = .tuple #[v1, v2, v3] ∧ Num w v1 z ∧ Num w v2 z'
  | .int z, v, _ => v = .int .i64 z
  | .is u, v, _ => v = u
  | .any, _, _ => True

theorem Fact.mono {f : Fact} {v : Value} {w w' : World} (h : f.holds v w) (hb : Below w.heap.size w w') : f.holds v w' := by
  cases f with
  | num z => exact Num.mono h hb
  | tup z z' =>
    obtain ⟨v1, v2, v3, e, h1, h2⟩ := h
    exact ⟨v1, v2, v3, e, h1.mono hb, h2.mono hb⟩
  | int z => exact h
  | is u => exact h
  | any => trivial

theorem Fact.put {f : Fact} {v : Value} {w : World} {b : Nat} {y : Int} (h : f.holds v w) (hb : BoxNum w b y) (n' : Bool) (a' : Option Addr) (k' c' : Nat) : f.holds v (putBox w b n' a' k' c') := by
  cases f with
  | num z => exact Num.putBox h hb _ _ _ _
  | tup z z' =>
    obtain ⟨v1, v2, v3, e, h1, h2⟩ := h
    exact ⟨v1, v2, v3, e, h1.putBox hb _ _ _ _, h2.putBox hb _ _ _ _⟩
  | int z => exact h
  | is u => exact h
  | any => trivial

def mkPlan (fs : List Fact) (old : List (Nat × Nat × Int × Int)) (new : List (Nat × Nat × Int)) : Plan := ⟨fun j v w => ((fs[j]?).getD .any).holds v w, old, new⟩

theorem mkPlan_ok {fs : List Fact} {old : List (Nat × Nat × Int × Int)} {new : List (Nat × Nat × Int)} {B B0 : Nat} (h1 : ∀ o ∈ old, B ≤ o.1 ∧ o.1 < B0) (h2 : ∀ o ∈ old, ∀ q ∈ old, o.2.1 ≠ q.2.1 → o.1 ≠ q.1) (h3 : ∀ n ∈ new, ∀ m ∈ new, n.1 = m.1 → n = m) (h4 : B ≤ B0) : (mkPlan fs old new).Ok B B0 :=
  ⟨fun _ _ _ _ h hb => Fact.mono h hb, fun _ _ _ _ _ n' a' k' c' h hb => Fact.put h hb n' a' k' c', h1, h2, h3, h4⟩

theorem mkPlan_start {fs : List Fact} {old : List (Nat × Nat × Int × Int)} {new : List (Nat × Nat × Int)} {B : Nat} {w w1 : World} (h : ∀ o ∈ old, BoxNum w1 o.1 o.2.2.1) (hb : Below B w w1) : (mkPlan fs old new).G B w1.heap.size w (fun _ => false) (fun _ => undef) w1.drew :=
  ⟨hb.drew, Nat.le_refl _, fun _ h => (by cases h), fun o ho => (by
    have h1 := h o ho
    have h2 : BoxNum w1.drew o.1 o.2.2.1 := h1.mono (Below.refl _ _).drew
    simpa using h2), fun _ _ h => (by cases h), fun _ _ _ _ _ h => (by cases h)⟩

section
variable {os : List Oper} {Q : Exit → Act → World → Prop} {a : Act} {p : Plan} {B B0 : Nat} {w0 : World} {i s : Nat} {d : Option Tmp} {ty : TypeId} {ps : String} {af : Array Edge}

theorem st_zero (hp : p.Ok B B0) (hC : ∀ w, p.C i (.agg #[.bool false, .slice none 0 0]) w) (hF : p.Free i) : Step os Q a p B B0 w0 i { dst := d, op := .build 27 #[], type := ty, pos := ps, after := af, guard := none } := by
  intro hio L vs w hG hL hd hc
  refine wpOp_step hio fun K' hK => ?_
  have h := hK ((lay os.toArray L vs os.toArray.size a).put d (.agg #[.bool false, .slice none 0 0])) w ⟨_, rfl, hG.plain hp hL (Below.refl _ _) (hC _) hF.1 hF.2⟩
  have e : (execOp (lay os.toArray L vs os.toArray.size a).eval ({ dst := d, op := .build 27 #[], type := ty, pos := ps, after := af, guard := none } : Oper)).run Try.prog w = .ok (.value (.agg #[.bool false, .slice none 0 0])) w := by
    generalize (lay os.toArray L vs os.toArray.size a).eval = ρ
    simp [execOp, go_sem]
  have hwn : Region.wanted ({ dst := d, op := .build 27 #[], type := ty, pos := ps, after := af, guard := none } : Oper) (yielded os.toArray (lay os.toArray L vs os.toArray.size a).tmps) = true := rfl
  rw [if_pos hwn]
  unfold Oper.wp
  rw [e]
  exact h

/-- A value that lay there before. -/
theorem st_moveOut {v : Value} (hp : p.Ok B B0) (hx : a.eval (.tmp s) = v) (ho : (os.map (·.dst)).contains (some s) = false) (hC : ∀ w, p.C i v w) (hF : p.Free i) : Step os Q a p B B0 w0 i { dst := d, op := .move (.tmp s), type := ty, pos := ps, after := af, guard := none } := by
  intro hio L vs w hG hL hd hc
  exact op_move hio ((lay_out ho _).trans hx) ⟨_, rfl, hG.plain hp hL (Below.refl _ _) (hC _) hF.1 hF.2⟩
end

end Go.Proofs.Ytjpbmghdamcdcaa
