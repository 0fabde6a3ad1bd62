/- Steps of a region that draws its order: load, store, alloc, call, move, assign, extract, build. -/
import Derived.Test.YtjpbmghdamcdcaaInv
import Derived.Test.YtjpbmghdamcdcaaJ
namespace Go.Proofs.Ytjpbmghdamcdcaa
open Go Go.RowKit

section
variable {ops : Array Oper} {Q : Exit → Act → World → Prop} {K : Act → World → Prop} {a : Act} {w : World} {i : Nat} {d : Option Tmp} {ty : TypeId} {ps : String} {af : Array Edge}

theorem op_load {x : Operand} {b : Nat} {p q : Value} (ho : ops[i]? = some { dst := d, op := .load 27 x, type := ty, pos := ps, after := af, guard := none }) (hx : a.eval x = .pointer (some ⟨b, 0, none⟩)) (h0 : w.cell? ⟨b, 0, none⟩ = some p) (h1 : w.cell? ⟨b, 1, none⟩ = some q)
    (h : K (a.put d (.agg #[p, q])) w) : wpOp Try.prog ops Q i K a w := by
  refine wpOp_step ho fun K' hK => ?_
  have e : (execOp a.eval ({ dst := d, op := .load 27 x, type := ty, pos := ps, after := af, guard := none } : Oper)).run Try.prog w = (.ok (.value (.agg #[p, q])) w) := by
    generalize a.eval = ρ at hx
    simp [execOp, go_sem, hx, h0, h1]
  have hwn : Region.wanted ({ dst := d, op := .load 27 x, type := ty, pos := ps, after := af, guard := none } : Oper) (yielded ops a.tmps) = true := rfl
  rw [if_pos hwn]
  unfold Oper.wp
  rw [e]
  exact hK _ _ h

theorem op_store {x y : Operand} {b : Nat} {p q : Value} {n' : Bool} {a' : Option Addr} {k' c' : Nat} (ho : ops[i]? = some { dst := d, op := .store 27 x y, type := ty, pos := ps, after := af, guard := none }) (hx : a.eval x = .pointer (some ⟨b, 0, none⟩)) (hy : a.eval y = .agg #[.bool n', .slice a' k' c']) (h0 : IntBox w b p q)
    (h : K (a.put d undef) ((w.setCell ⟨b, 0, none⟩ (.bool n')).setCell ⟨b, 1, none⟩ (.slice a' k' c'))) : wpOp Try.prog ops Q i K a w := by
  refine wpOp_step ho fun K' hK => ?_
  obtain ⟨e0, e1, e2, e3⟩ := h0
  have e : (execOp a.eval ({ dst := d, op := .store 27 x y, type := ty, pos := ps, after := af, guard := none } : Oper)).run Try.prog w = (.ok .skip ((w.setCell ⟨b, 0, none⟩ (.bool n')).setCell ⟨b, 1, none⟩ (.slice a' k' c'))) := by
    generalize a.eval = ρ at hx hy
    simp [execOp, go_sem, hx, hy, e0, e1, e2, e3]
  have hwn : Region.wanted ({ dst := d, op := .store 27 x y, type := ty, pos := ps, after := af, guard := none } : Oper) (yielded ops a.tmps) = true := rfl
  rw [if_pos hwn]
  unfold Oper.wp
  rw [e]
  exact hK _ _ h

theorem op_alloc (ho : ops[i]? = some { dst := d, op := .alloc 27, type := ty, pos := ps, after := af, guard := none })
    (h : K (a.put d (.pointer (some ⟨w.heap.size, 0, none⟩))) (w.alloc (.cells #[.bool false, .slice none 0 0] 27))) : wpOp Try.prog ops Q i K a w := by
  refine wpOp_step ho fun K' hK => ?_
  have e : (execOp a.eval ({ dst := d, op := .alloc 27, type := ty, pos := ps, after := af, guard := none } : Oper)).run Try.prog w = (.ok (.value (.pointer (some ⟨w.heap.size, 0, none⟩))) (w.alloc (.cells #[.bool false, .slice none 0 0] 27))) := by
    generalize a.eval = ρ
    simp [execOp, go_sem]
  have hwn : Region.wanted ({ dst := d, op := .alloc 27, type := ty, pos := ps, after := af, guard := none } : Oper) (yielded ops a.tmps) = true := rfl
  rw [if_pos hwn]
  unfold Oper.wp
  rw [e]
  exact hK _ _ h

theorem op_move {x : Operand} {v : Value} (ho : ops[i]? = some { dst := d, op := .move x, type := ty, pos := ps, after := af, guard := none }) (hx : a.eval x = v)
    (h : K (a.put d v) w) : wpOp Try.prog ops Q i K a w := by
  refine wpOp_step ho fun K' hK => ?_
  have e : (execOp a.eval ({ dst := d, op := .move x, type := ty, pos := ps, after := af, guard := none } : Oper)).run Try.prog w = (.ok (.value v) w) := by
    generalize a.eval = ρ at hx
    simp [execOp, go_sem, hx]
  have hwn : Region.wanted ({ dst := d, op := .move x, type := ty, pos := ps, after := af, guard := none } : Oper) (yielded ops a.tmps) = true := rfl
  rw [if_pos hwn]
  unfold Oper.wp
  rw [e]
  exact hK _ _ h

theorem op_assign {x : Operand} {v : Value} (ho : ops[i]? = some { dst := d, op := .assign x, type := ty, pos := ps, after := af, guard := none }) (hx : a.eval x = v)
    (h : K (a.put d v) w) : wpOp Try.prog ops Q i K a w := by
  refine wpOp_step ho fun K' hK => ?_
  have e : (execOp a.eval ({ dst := d, op := .assign x, type := ty, pos := ps, after := af, guard := none } : Oper)).run Try.prog w = (.ok (.value v) w) := by
    generalize a.eval = ρ at hx
    simp [execOp, go_sem, hx]
  have hwn : Region.wanted ({ dst := d, op := .assign x, type := ty, pos := ps, after := af, guard := none } : Oper) (yielded ops a.tmps) = true := rfl
  rw [if_pos hwn]
  unfold Oper.wp
  rw [e]
  exact hK _ _ h

theorem op_extract {x : Operand} {k : Nat} {vs : Array Value} {v : Value} (ho : ops[i]? = some { dst := d, op := .extract x k, type := ty, pos := ps, after := af, guard := none }) (hx : a.eval x = .tuple vs) (hv : vs[k]? = some v)
    (h : K (a.put d v) w) : wpOp Try.prog ops Q i K a w := by
  refine wpOp_step ho fun K' hK => ?_
  have e : (execOp a.eval ({ dst := d, op := .extract x k, type := ty, pos := ps, after := af, guard := none } : Oper)).run Try.prog w = (.ok (.value v) w) := by
    generalize a.eval = ρ at hx
    simp [execOp, go_sem, hx, hv]
  have hwn : Region.wanted ({ dst := d, op := .extract x k, type := ty, pos := ps, after := af, guard := none } : Oper) (yielded ops a.tmps) = true := rfl
  rw [if_pos hwn]
  unfold Oper.wp
  rw [e]
  exact hK _ _ h

theorem op_call {f : FuncId} {xs : Array Operand} {ts : Array TypeId} {args : Array Value} (ho : ops[i]? = some { dst := d, op := .call { callee := .value (.func f), args := xs, argTypes := ts }, type := ty, pos := ps, after := af, guard := none }) (hx : xs.map a.eval = args)
    (hen : ∀ args w, (callFunc f args).run Try.prog w = .ok (.enter f args) w) (h : Calls Try.prog f args w fun e w' => ∃ v, e = .returned v ∧ K (a.put d v) w') : wpOp Try.prog ops Q i K a w := by
  refine wpOp_step ho fun K' hK => ?_
  have e : (execOp a.eval ({ dst := d, op := .call { callee := .value (.func f), args := xs, argTypes := ts }, type := ty, pos := ps, after := af, guard := none } : Oper)).run Try.prog w = (.ok (.enter f args) w) := by
    have hf : a.eval (.func f) = .func (.func f) #[] #[] := rfl
    generalize a.eval = ρ at hx hf
    simp [execOp, go_sem, hx, hf, hen]
  have hwn : Region.wanted ({ dst := d, op := .call { callee := .value (.func f), args := xs, argTypes := ts }, type := ty, pos := ps, after := af, guard := none } : Oper) (yielded ops a.tmps) = true := rfl
  rw [if_pos hwn]
  unfold Oper.wp
  rw [e]
  refine Calls.mono h ?_
  rintro e' w' ⟨v, rfl, hv⟩
  exact hK _ _ hv

end

theorem enter_of {f : FuncId} {fn : Func} {c : Code} (hf : Try.prog.funcs[f]? = some fn) (hname : (fn.name == "runtime.NumGoroutine") = false) (hb : fn.body = some c) (args : Array Value) (w : World) :
    (callFunc f args).run Try.prog w = .ok (.enter f args) w := by
  have h1 : ¬ fn.name = "runtime.NumGoroutine" := by simpa using hname
  simp [callFunc, hf, h1, hb, go_sem]

theorem enter_DivMod (args : Array Value) (w : World) : (callFunc 13 args).run Try.prog w = .ok (.enter 13 args) w := enter_of Try.func13 (by kernel_rfl) rfl args w

end Go.Proofs.Ytjpbmghdamcdcaa
