/- Walk of the reference's Made: the integer of a sign and the first words of a list. -/
import Derived.Test.YtjpbmghdamcdcaaGs
import Derived.Test.YtjpbmghdamcdcaaBe
import Derived.Deep.Cut
import Derived.ArgAppend
namespace Go.Proofs.Ytjpbmghdamcdcaa
open Go Go.RowKit

theorem add_plain' (b j : Nat) : (⟨b, 0, none⟩ : Addr).add j = ⟨b, j, none⟩ := by rw [Go.WideShapes.add_plain, Nat.zero_add]

theorem info_word : (Try.prog.info? 63).map (fun i => (i.zero, i.size, i.bytes)) = some (some (.int .u32 0), 1, 4) := by kernel_rfl

theorem own_sl {w : World} {base m : Nat} {v : Value} {ys : List Int} (h : w.ownsRow base 63 1 v m (ys.map (Value.int .u32))) (hd : Digs ys) : ∃ ao c, v = .slice ao m c ∧ Sl w ao m c ys := by
  have hl : ys.length = m := by have := h.1; simpa using this
  rcases h.2 with ⟨rfl, h0⟩ | ⟨g, cap, cur, rfl, hb, hg, hn, _⟩
  · subst h0
    obtain rfl : ys = [] := List.eq_nil_of_length_eq_zero hl
    exact ⟨none, 0, rfl, Sl.nil w⟩
  · refine ⟨_, _, rfl, hl, hn, hd, .inr ⟨g, 0, rfl, (Array.getElem?_eq_some_iff.1 hg).1, fun j hj => ?_⟩⟩
    have := World.ownsRow.cells h (g := g) rfl j (.int .u32 (ys.getD j 0)) (by simp [hj])
    rw [add_plain'] at this
    rw [Nat.zero_add]
    exact this

/-- What an append onto an empty slice leaves: these words, in old memory or in new. -/
theorem append_words (w : World) (ty : TypeId) (g : Nat) (ao : Option Addr) (m c : Nat) (ys : List Int) (hS : Sl w ao m c ys) (hb : m ≤ 1000000) :
    ∃ v' w', (Builtin.append_ #[22, 22] ty #[.slice (some ⟨g, 0, none⟩) 0 0, .slice ao m c]).run Try.prog w = .ok v' w' ∧ Below w.heap.size w w' ∧ ∃ ao' c', v' = .slice ao' m c' ∧ Sl w' ao' m c' ys := by
  obtain ⟨i0, hi, hz0, hz1, hz2⟩ := info_parts info_word
  by_cases h0 : m = 0
  · subst h0
    obtain rfl : ys = [] := List.eq_nil_of_length_eq_zero hS.len
    refine ⟨.slice (some ⟨g, 0, none⟩) 0 0, w, ?_, Below.refl _ _, _, _, rfl, rfl, Nat.le_refl _, fun x hx => by simp at hx, .inl rfl⟩
    cases ao with
    | none => simp [Builtin.append_, run_underlying Try.underlying22, sizeOf, typeInfo, hi, Builtin.lenOf, Builtin.firstCells, storeCells]
    | some x =>
      have := run_append_room_cells (P := Try.prog) w 22 ty 63 i0 Try.underlying22 hi g 0 0 0 x 0 c [] (by simp) (by simp) (by simp) (by omega) (by simp) (by simp)
      simpa [World.setCells] using this
  · rcases hS.cells.2 with h1 | ⟨b, off, rfl, hlt, hc⟩
    · subst h1; have := hS.len; simp at this; omega
    · obtain ⟨v', w', hrun, hown, hg⟩ := run_append_arg_grows (P := Try.prog) w 22 ty 63 i0 (.int .u32 0) 1 4 Try.underlying22 hi hz0 hz1 hz2 rfl (by decide)
        ⟨g, 0, none⟩ 0 0 [] (by simp) (by simp) ⟨b, off, none⟩ m c (ys.map (Value.int .u32)) (by simp [hS.len]) (fun j u hu => by
          have hj : j < ys.length := by have := (List.getElem?_eq_some_iff.1 hu).1; simpa using this
          rw [Go.WideShapes.add_plain, hc j hj, ← hu]
          simp [hj]) (by omega) (by unfold maxLen; omega) (by omega)
      rw [Nat.zero_add, List.nil_append] at hown
      exact ⟨v', w', hrun, ⟨hg.os, hg.tape, hg.output, hg.size, fun k hk => hg.block k hk (by simp)⟩, own_sl hown hS.digs⟩

theorem enter_made (args : Array Value) (w : World) : (callFunc 52 args).run Try.prog w = .ok (.enter 52 args) w := enter_of Try.func52 (by kernel_rfl) rfl args w

theorem box2t (w : World) (a1 a2 : Value) (t t' : TypeId) :
    ∃ w1, w1 = (w.alloc (.cells #[a1, a2] t)).alloc (.cells #[.bool false, .slice none 0 0] t') ∧ IntBox w1 w.heap.size a1 a2 ∧ BoxNum w1 (w.heap.size + 1) 0 ∧ Below w.heap.size w w1 ∧ w1.heap.size = w.heap.size + 2 := by
  obtain ⟨u, hu⟩ : ∃ u, u = w.alloc (.cells #[a1, a2] t) := ⟨_, rfl⟩
  have hs : u.heap.size = w.heap.size + 1 := by rw [hu, World.size_alloc]
  have hI : IntBox u w.heap.size a1 a2 := by rw [hu]; exact IntBox.new w a1 a2 t
  have hb : Below w.heap.size w u := by rw [hu]; exact alloc_below _ _
  refine ⟨_, by rw [← hu], hI.mono (alloc_below _ _) hI.lt, ?_, hb.alloc (by omega) _, by rw [World.size_alloc, hs]⟩
  have := BoxNum.made0 u t'
  rw [hs] at this
  exact this

set_option maxRecDepth 10000 in
set_option maxHeartbeats 2000000 in
theorem Made_any (w : World) (neg : Bool) (ao : Option Addr) (n c : Nat) (xs : List Int) (hX : Sl w ao n c xs) (hb : n ≤ 9223372036854775807) (k : Nat) (hk : k ≤ 900000) :
    Calls Try.prog 12 #[.agg #[.bool neg, .slice ao n c], .int .i64 k] w (GivesInt w (sgn neg (val (xs.take k)))) := by
  obtain ⟨m, hm⟩ : ∃ m : Nat, m = min n k := ⟨_, rfl⟩
  have hm2 : min (n : Int) (k : Int) = (m : Int) := by omega
  have hmn : m ≤ n := by omega
  have hmk : m ≤ k := by omega
  have htk : xs.take m = xs.take k := by
    rw [hm]
    rcases Nat.le_total n k with h | h
    · rw [Nat.min_eq_left h, List.take_of_length_le (by rw [hX.len]; exact Nat.le_refl _), List.take_of_length_le (by rw [hX.len]; exact h)]
    · rw [Nat.min_eq_right h]
  have HT := hidd htk
  clear htk hm
  go_enter Try.func12, Try.ntmps12
  go_upto_region 1 with (fail)
  obtain ⟨w1, hw1, hI, hR, hB, hsz⟩ := box2t w (.bool neg) (.slice ao n c) 24 27
  rw [← hw1]
  clear hw1
  have hX1 := hX.mono hB
  obtain ⟨z, hz⟩ : ∃ z, z = sgn neg (val (xs.take k)) := ⟨_, rfl⟩
  have hd : Digs (xs.take m) := hX.digs.take m
  have hzb : ab z < pw m := by
    rw [hz, ← HT.out]
    have h1 := val_nonneg hd
    have h2 := val_lt hd
    rw [List.length_take, hX.len, Nat.min_eq_left hmn] at h2
    unfold ab
    cases neg <;> simp [sgn] <;> omega
  rw [← hz]
  have HZ := hidd hz
  clear hz
  have hmi : (if k < n then (k : Int) else (n : Int)) = m := by split <;> omega
  have hcm : ¬ c < m := by have := hX.cap; omega
  obtain ⟨c0, c1, _, _⟩ := hI
  have hcell0 : ∀ W, Below (w.heap.size + 1) w1 W → W.cell? ⟨w.heap.size, 0, none⟩ = some (.bool neg) := fun W h => (h.cell (p := ⟨w.heap.size, 0, none⟩) (by simp)).trans c0
  have hcell1 : ∀ W, Below (w.heap.size + 1) w1 W → W.cell? ⟨w.heap.size, 1, none⟩ = some (.slice ao n c) := fun W h => (h.cell (p := ⟨w.heap.size, 1, none⟩) (by simp)).trans c1
  have hXW : ∀ W, Below (w.heap.size + 1) w1 W → Sl W ao n c xs := fun W h => hX.mono (hB.trans (h.mono (by omega)))
  clear c0 c1
  go_wp2
  have hp : (plan [Fc.is (.pointer (some ⟨w.heap.size, 0, none⟩)), Fc.is (.bool neg), Fc.pre (fun v => ∃ g, v = .slice (some ⟨g, 0, none⟩) 0 0), Fc.is (.pointer (some ⟨w.heap.size, 1, none⟩)), Fc.is (.slice ao n c), Fc.is (.pointer (some ⟨w.heap.size, 1, none⟩)), Fc.is (.slice ao n c),
    Fc.is (.int .i64 n), Fc.is (.int .i64 k), Fc.is (.int .i64 m), Fc.is (.slice ao m c), Fc.sl m (xs.take m), Fc.num z, Fc.any] [(w.heap.size + 1, 13, 0, z)] []).Ok (w.heap.size + 1) w1.heap.size := plan_ok (by simp; omega) (by simp) (by simp) (by omega)
  have hm := PMono.of hp
  refine region_steps (p := plan [Fc.is (.pointer (some ⟨w.heap.size, 0, none⟩)), Fc.is (.bool neg), Fc.pre (fun v => ∃ g, v = .slice (some ⟨g, 0, none⟩) 0 0), Fc.is (.pointer (some ⟨w.heap.size, 1, none⟩)), Fc.is (.slice ao n c), Fc.is (.pointer (some ⟨w.heap.size, 1, none⟩)), Fc.is (.slice ao n c),
    Fc.is (.int .i64 n), Fc.is (.int .i64 k), Fc.is (.int .i64 m), Fc.is (.slice ao m c), Fc.sl m (xs.take m), Fc.num z, Fc.any] [(w.heap.size + 1, 13, 0, z)] []) (B := w.heap.size + 1) (B0 := w1.heap.size) (w0 := w1) (by kernel_rfl) rfl rfl (plan_start (by simp; exact hR) (Below.refl _ _))
    ⟨?_, ?_, ?_, ?_, ?_, ?_, ?_, ?_, ?_, ?_, ?_, ?_, ?_, ?_, trivial⟩ ?_
  · exact g_one (x := .tmp 2) (F := fun v _ => v = .pointer (some ⟨w.heap.size, 0, none⟩)) hm ⟨by simp [plan], by simp [plan]⟩ trivial (src_out rfl rfl (fun _ _ => rfl)) (fun ρ W _ h => ⟨_, by simp [execOp, go_sem, h], rfl⟩)
  · exact g_one (x := .tmp 5) (F := fun v W => v = .pointer (some ⟨w.heap.size, 0, none⟩) ∧ W.cell? ⟨w.heap.size, 0, none⟩ = some (.bool neg)) hm ⟨by simp [plan], by simp [plan]⟩ trivial (fun L vs W hG hd => ⟨src_in 0 rfl rfl (by simp) rfl (fun v w h => h) L vs W hG hd, hcell0 W hG.below⟩) (fun ρ W _ h => ⟨_, by simp [execOp, go_sem, h.1, h.2], rfl⟩)
  · exact stg_run hm ⟨by simp [plan], by simp [plan]⟩ trivial (fun L vs W hG hd => ⟨.slice (some ⟨W.heap.size, 0, none⟩) 0 0, W.alloc (.cells #[] 63), by simp [execOp, go_sem], alloc_below _ _, ⟨_, rfl⟩⟩)
  · exact g_one (x := .tmp 2) (F := fun v _ => v = .pointer (some ⟨w.heap.size, 0, none⟩)) hm ⟨by simp [plan], by simp [plan]⟩ trivial (src_out rfl rfl (fun _ _ => rfl)) (fun ρ W _ h => ⟨_, by simp [execOp, go_sem, h], rfl⟩)
  · exact g_one (x := .tmp 8) (F := fun v W => v = .pointer (some ⟨w.heap.size, 1, none⟩) ∧ W.cell? ⟨w.heap.size, 1, none⟩ = some (.slice ao n c)) hm ⟨by simp [plan], by simp [plan]⟩ trivial (fun L vs W hG hd => ⟨src_in 3 rfl rfl (by simp) rfl (fun v w h => h) L vs W hG hd, hcell1 W hG.below⟩) (fun ρ W _ h => ⟨_, by simp [execOp, go_sem, h.1, h.2], rfl⟩)
  · exact g_one (x := .tmp 2) (F := fun v _ => v = .pointer (some ⟨w.heap.size, 0, none⟩)) hm ⟨by simp [plan], by simp [plan]⟩ trivial (src_out rfl rfl (fun _ _ => rfl)) (fun ρ W _ h => ⟨_, by simp [execOp, go_sem, h], rfl⟩)
  · exact g_one (x := .tmp 10) (F := fun v W => v = .pointer (some ⟨w.heap.size, 1, none⟩) ∧ W.cell? ⟨w.heap.size, 1, none⟩ = some (.slice ao n c)) hm ⟨by simp [plan], by simp [plan]⟩ trivial (fun L vs W hG hd => ⟨src_in 5 rfl rfl (by simp) rfl (fun v w h => h) L vs W hG hd, hcell1 W hG.below⟩) (fun ρ W _ h => ⟨_, by simp [execOp, go_sem, h.1, h.2], rfl⟩)
  · exact g_one (x := .tmp 11) (F := fun v _ => v = .slice ao n c) hm ⟨by simp [plan], by simp [plan]⟩ trivial (src_in 6 rfl rfl (by simp) rfl (fun v w h => h)) (fun ρ W _ h => ⟨_, by simp [go_sem, h], rfl⟩)
  · exact g_move hm ⟨by simp [plan], by simp [plan]⟩ trivial (src_out rfl rfl (fun _ _ => rfl))
  · exact g_two (x := .tmp 12) (y := .tmp 13) (u := .int .i64 n) (v := .int .i64 k) (r := .int .i64 m) hm ⟨by simp [plan], by simp [plan]⟩ trivial (src_in 7 rfl rfl (by simp) rfl (fun v w h => h)) (src_in 8 rfl rfl (by simp) rfl (fun v w h => h)) (fun ρ W _ h1 h2 => by simp [go_sem, h1, h2, hmi]) (fun _ => rfl)
  · exact g_two (x := .tmp 9) (y := .tmp 14) (u := .slice ao n c) (v := .int .i64 m) (r := .slice ao m c) hm ⟨by simp [plan], by simp [plan]⟩ trivial (src_in 4 rfl rfl (by simp) rfl (fun v w h => h)) (src_in 9 rfl rfl (by simp) rfl (fun v w h => h)) (fun ρ W _ h1 h2 => by simp [execOp, go_sem, h1, h2, hcm]) (fun _ => rfl)
  · refine g_run2 (x := .tmp 7) (y := .tmp 15) (F := fun v _ => ∃ g, v = .slice (some ⟨g, 0, none⟩) 0 0) (G := fun v _ => v = .slice ao m c) hm ⟨by simp [plan], by simp [plan]⟩ trivial (src_in 2 rfl rfl (by simp) rfl (fun v w h => h)) (src_in 10 rfl rfl (by simp) rfl (fun v w h => h)) (fun ρ W _ hW h1 h2 => ?_)
    obtain ⟨g, h1⟩ := h1
    obtain ⟨v', w', hrun, hb, hS⟩ := append_words W 22 g ao m c (xs.take m) ((hXW W hW).take hmn) (by omega)
    exact ⟨v', w', by simp [execOp, resolve, invoke, builtin, h1, h2, hrun, Result.andThen], hb, hS⟩
  · exact g_call2 (F := fun v _ => v = .bool neg) (G := (Fc.sl m (xs.take m)).P) hm ⟨by simp [plan], by simp [plan]⟩ trivial enter_made (src_in 1 rfl rfl (by simp) rfl (fun v w h => h)) (src_in 11 rfl rfl (by simp) rfl (fun v w h => h)) (fun v v' W h1 h2 => by
      obtain ⟨ao', c', rfl, hS⟩ := h2
      subst h1
      refine (made_any W neg ao' m c' (xs.take m) hS (by omega)).mono fun e W' h => ?_
      rw [HT.out, ← HZ.out] at h
      exact gives_num h hzb (by omega))
  · exact st_storeOld (b := w.heap.size + 1) (j := 12) (z := 0) (z' := z) hp rfl (by simp [plan]) rfl rfl rfl (by simp) rfl (fun v w h => h) (fun _ _ => trivial) (by simp [plan]) (by simp [plan])
  · intro L vs w2 hL hG
    obtain ⟨ng, ao2, k2, c2, ⟨e0, e1, e2, e3⟩, hN⟩ : BoxNum w2 (w.heap.size + 1) z := by
      have := hG.old (w.heap.size + 1, 13, 0, z) (by simp [plan])
      simpa [hL 13 (by simp)] using this
    have hb : Below w.heap.size w w2 := hB.trans (hG.below.mono (by omega))
    rw [lay_all hL]
    simp only [putAll, dstOf, List.length_cons, List.length_nil, Nat.zero_add, Nat.reduceAdd, List.getElem?_toArray, List.getElem?_cons_zero, List.getElem?_cons_succ, Option.bind_some, Act.put, List.setIfInBounds_toArray, List.set_cons_succ, List.set_cons_zero]
    clear hL hG hp
    go_wp2
    refine bodyPost_ret (v := .agg #[.bool ng, .slice ao2 k2 c2]) ?_ rfl ⟨_, rfl, by rw [← HZ.out]; exact hN.isInt, hb⟩
    simp [results, Try.results12, go_sem, e0, e1]

end Go.Proofs.Ytjpbmghdamcdcaa
