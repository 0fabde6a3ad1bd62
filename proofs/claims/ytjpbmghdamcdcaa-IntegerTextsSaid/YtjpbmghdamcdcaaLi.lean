/- Walk of the laws' 'is'; contracts of the reference on values. -/
import Derived.Test.YtjpbmghdamcdcaaBe
namespace Go.Proofs.Ytjpbmghdamcdcaa
open Go Go.RowKit

theorem rOfV (w : World) (z : Int) (h0 : -9223372036854775808 ≤ z) (h1 : z ≤ 9223372036854775807) : Calls Try.prog 41 #[.int .i64 z] w fun e w' => ∃ v', e = .returned v' ∧ Below w.heap.size w w' ∧ Num w' v' z :=
  (rOf_any w z h0 h1).mono fun _ _ h => gives_num h (k := 2) (by have e : pw 2 = 18446744073709551616 := rfl; rw [e]; unfold ab; omega) (by omega)

theorem SameV {w : World} {v v' : Value} {z z' : Int} (h : Num w v z) (h' : Num w v' z') : Calls Try.prog 17 #[v, v'] w fun e w' => e = .returned (.bool (decide (z = z'))) ∧ Below w.heap.size w w' := by
  obtain ⟨neg, ao, n, c, xs, rfl, hs, hn, rfl, hc, hnn⟩ := h
  obtain ⟨neg', ao', n', c', xs', rfl, hs', hn', rfl, hc', hnn'⟩ := h'
  exact Same_any _ _ _ _ _ _ _ _ _ _ _ hs hs' hc hc' hnn hnn' (by omega) (by omega)

theorem enter_rOf (args : Array Value) (w : World) : (callFunc 41 args).run Try.prog w = .ok (.enter 41 args) w := enter_of Try.func41 (by kernel_rfl) rfl args w
theorem enter_Same (args : Array Value) (w : World) : (callFunc 17 args).run Try.prog w = .ok (.enter 17 args) w := enter_of Try.func17 (by kernel_rfl) rfl args w

set_option maxHeartbeats 1000000 in
theorem is_any (w : World) {v : Value} {z : Int} (hN : Num w v z) (n : Int) (h0 : -9223372036854775808 ≤ n) (h1 : n ≤ 9223372036854775807) :
    Calls Try.prog 51 #[v, .int .i64 n] w fun e w' => e = .returned (.bool (decide (z = n))) ∧ Below w.heap.size w w' := by
  obtain ⟨na, ax, m, cx, rfl⟩ := hN.parts
  go_enter Try.func51, Try.ntmps51
  go_upto_region 1 with (fail)
  obtain ⟨w1, hw1⟩ : ∃ w1, w1 = w.alloc (.cells #[.bool na, .slice ax m cx] 27) := ⟨_, rfl⟩
  rw [← hw1]
  have x0 : BoxNum w1 w.heap.size z := by rw [hw1]; exact BoxNum.made hN _
  have hb : Below w.heap.size w w1 := by rw [hw1]; exact alloc_below _ _
  have hl := x0.lt
  have hp : (mkPlan [.num z, .is (.int .i64 n), .num n, .is (.bool (decide (z = n))), .is (.bool (decide (z = n)))] [(w.heap.size, 1000, z, z)] []).Ok w.heap.size w1.heap.size :=
    mkPlan_ok (by simp; omega) (by simp) (by simp) (by omega)
  clear hw1 hN
  go_wp2
  refine region_steps (p := mkPlan [.num z, .is (.int .i64 n), .num n, .is (.bool (decide (z = n))), .is (.bool (decide (z = n)))] [(w.heap.size, 1000, z, z)] []) (B := w.heap.size) (B0 := w1.heap.size) (w0 := w) (by kernel_rfl) rfl rfl
    (mkPlan_start (by simp; exact x0) hb) ⟨?_, ?_, ?_, ?_, ?_, trivial⟩ ?_
  · exact st_load (b := w.heap.size) (k := 1000) (z := z) (z' := z) hp (by simp [mkPlan]) (.inl rfl) rfl rfl (fun v w h => h) ⟨by simp [mkPlan], by simp [mkPlan]⟩
  · exact st_moveOut hp rfl rfl (fun w => rfl) ⟨by simp [mkPlan], by simp [mkPlan]⟩
  · exact st_call1 (j := 1) hp rfl rfl (by simp) rfl enter_rOf (fun v w h => by have h' : v = .int .i64 n := h; subst h'; exact rOfV _ _ h0 h1) ⟨by simp [mkPlan], by simp [mkPlan]⟩
  · exact st_call2 (j := 0) (j' := 2) hp rfl rfl (by simp) rfl rfl (by simp) rfl enter_Same (fun v v' w h h' => (SameV h h').mono fun e w' h' => ⟨_, h'.1, h'.2, rfl⟩) ⟨by simp [mkPlan], by simp [mkPlan]⟩
  · exact st_assign (j := 3) hp rfl rfl (by simp) rfl (fun v w h => h) ⟨by simp [mkPlan], by simp [mkPlan]⟩
  · intro L vs w2 hL hG
    have hv : vs 4 = .bool (decide (z = n)) := hG.val 4 (hL 4 (by simp))
    have hb2 := hG.below
    rw [lay_all hL]
    simp only [putAll, dstOf, List.length_cons, List.length_nil, Nat.zero_add, Nat.reduceAdd, List.getElem?_toArray, List.getElem?_cons_zero, List.getElem?_cons_succ, Option.bind_some, Act.put, List.setIfInBounds_toArray, List.set_cons_succ, List.set_cons_zero]
    rw [hv]
    clear hL hG hp hv
    go_wp2
    go_ret
    exact ⟨rfl, hb2⟩

end Go.Proofs.Ytjpbmghdamcdcaa
