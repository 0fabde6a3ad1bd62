/- Walks: Parse of "-0". -/
import Derived.Test.YtjpbmghdamcdcaaLi
import Derived.Laws.RangeString
import Derived.Laws.RangeAny
namespace Go.Proofs.Ytjpbmghdamcdcaa
open Go Go.RowKit

set_option maxHeartbeats 1000000 in
theorem tenTimes_zero (w : World) : Calls Try.prog 87 #[.slice none 0 0, .int .u32 0] w fun e w' => e = .returned (.slice none 0 0) ∧ w = w' := by
  go_enter Try.func87, Try.ntmps87
  go_wp2
  go_loop [5, 13] (fun u v => u = .int .u64 0 ∧ v = .int .i64 0) (fun _ _ => 0)
  case atStart => exact ⟨rfl, rfl⟩
  case round =>
    obtain ⟨rfl, rfl⟩ := hrel
    go_wp2
    go_ret
    exact ⟨rfl, rfl⟩

set_option maxHeartbeats 1000000 in
theorem read_zero (w : World) : Calls Try.prog 76 #[.string { data := #[48] }] w fun e w' => e = .returned (.tuple #[.slice none 0 0, .bool true]) ∧ Below w.heap.size w w' := by
  go_enter Try.func76, Try.ntmps76
  have hn0 := fun ty => run_next_ascii (P := Try.prog) w { data := #[48] } 0 ty (by decide) (by decide)
  have hn1 := fun ty => run_next_end (P := Try.prog) w { data := #[48] } 1 ty (by decide)
  go_wp2
  go_loopw [4] (fun v W => v = .slice none 0 0 ∧ ∃ j : Nat, j ≤ 1 ∧ W = w.iter { data := #[48] } j) (fun _ W => 1 - W.iterPos w.heap.size)
  case atStart => exact ⟨rfl, 0, by omega, rfl⟩
  case round =>
    obtain ⟨rfl, j, hj, rfl⟩ := hrel
    rcases (by omega : j = 0 ∨ j = 1) with rfl | rfl
    · go_wp2_with fail
      refine (tenTimes_zero _).mono ?_
      rintro e w2 ⟨rfl, rfl⟩
      go_wp2
      go_roundw
      case rel => exact ⟨rfl, 1, by omega, rfl⟩
      case measure => simp
    · go_wp2
      refine bodyPost_ret (v := .tuple #[.slice none 0 0, .bool true]) ?_ rfl ⟨rfl, alloc_below _ _⟩
      simp [results, Try.results76, go_sem]

/-- '-0' is no text of an integer. -/
theorem Parse_minus_zero (w : World) : Calls Try.prog 48 #[.string { data := #[45, 48] }] w fun e w' => e = .returned (.tuple #[.agg #[.bool false, .slice none 0 0], .int .i64 3]) ∧ Below w.heap.size w w' := by
  go_enter Try.func48, Try.ntmps48
  go_upto_region 1 with (fail)
  obtain ⟨w0, hw0, hC, hCb⟩ : ∃ w0, w0 = w.alloc (.cells #[.bool false, .slice none 0 0] 27) ∧ IntBox w0 w.heap.size (.bool false) (.slice none 0 0) ∧ Below w.heap.size w w0 := ⟨_, rfl, box1 _ _, alloc_below _ _⟩
  rw [← hw0]
  clear hw0
  go_wp2_with fail
  refine (read_zero _).mono ?_
  rintro e w1 ⟨rfl, hb⟩
  have hC1 := hC.mono hb hC.lt
  have hb1 := hCb.trans (hb.mono hCb.size)
  clear hC hb hCb
  obtain ⟨e0, e1, e2, e3⟩ := hC1
  go_wp2
  refine bodyPost_ret (v := .tuple #[.agg #[.bool false, .slice none 0 0], .int .i64 3]) ?_ rfl ⟨rfl, (hb1.setCell (Nat.le_refl _) _).setCell (Nat.le_refl _) _⟩
  simp [results, Try.results48, go_sem, e0, e1]

end Go.Proofs.Ytjpbmghdamcdcaa
