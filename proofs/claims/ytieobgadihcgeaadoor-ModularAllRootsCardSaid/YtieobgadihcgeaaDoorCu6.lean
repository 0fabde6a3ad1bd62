/- Nb, Nc, Od, Nd, Pk, Ng, Nf, Ni, Nj, Oe, Ne. -/
import Derived.Test.YtieobgadihcgeaaDoorCu5
/- Walks: lists of numbers are compared; all roots modulo a power. -/
namespace Go.Proofs.YtieobgadihcgeaaDoor
open Go Go.RowKit

theorem exSmallPower {w : World} {p k : Int} {t : Bool} (hp : 2 ≤ p ∧ p < 9223372036854775808) (hk : 1 ≤ k ∧ k < 9223372036854775808) (ht : decide (p ^ k.toNat ≤ 1048576) = t) :
    Calls Tryd.prog 59 #[.int .i64 p, .int .i64 k] w fun e w' => ∃ v', e = .returned v' ∧ Below w.heap.size w w' ∧ v' = .bool t :=
  (smallPower_any w hp.1 hp.2 hk.1 hk.2).mono fun e w' ⟨h1, h2⟩ => ⟨_, h1, by rw [h2]; exact Below.refl _ _, by rw [ht]⟩
section
variable {os : List Oper} {Q : Exit → Act → World → Prop} {a : Act} {p : Pq} {B B0 : Nat} {w0 : World}
variable {i s : Nat} {d : Option Tmp} {ty : TypeId} {ps : String} {af : Array Edge} {gd : Option (Nat × Bool)}
theorem q_indexN {b l c k : Nat} {x y : Operand} (hp : p.Ok B B0) (hF : p.Free i) (hg : GdQ os a p B B0 w0 af gd) (hx : SrcQ os a p B B0 w0 af x fun v _ => v = .slice (some ⟨b, 0, none⟩) l c) (hy : SrcQ os a p B B0 w0 af y fun v _ => v = .int .i64 k) (hk : k < l)
    (hC : ∀ w, (p.c i).P (.pointer (some ⟨b, k * 2, none⟩)) w) :
    StepQ os Q a p B B0 w0 i { dst := d, op := .indexAddr 52 x y, type := ty, pos := ps, after := af, guard := gd } :=
  q_two hp hF hg hx hy fun ρ w _ h h' => ⟨_, by
    have h0 : (k : Int) < (l : Int) := by omega
    have h1 : (0 : Int) ≤ (k : Int) := by omega
    simp [execOp, go_sem, h, h', h0, h1], hC w⟩
theorem q_loadNumAt {b i0 : Nat} {z : Int} {x : Operand} (hp : p.Ok B B0) (hF : p.Free i) (hg : GdQ os a p B B0 w0 af gd) (hN : NumAt w0 b i0 z) (hB : B = w0.heap.size)
    (hx : SrcQ os a p B B0 w0 af x fun u _ => u = .pointer (some ⟨b, i0 * 2, none⟩)) (hC : ∀ v w, Num w v z → (p.c i).P v w) :
    StepQ os Q a p B B0 w0 i { dst := d, op := .load 29 x, type := ty, pos := ps, after := af, guard := gd } := by
  subst hB
  refine stq_val hp hF hg fun L vs w hG hL hc hd => ?_
  obtain ⟨n, ao, k, c, c0, c1, hz⟩ := hN.mono hG.below
  have e := hx L vs w hG hd
  refine ⟨_, ?_, hC _ _ hz⟩
  generalize (lay os.toArray L vs os.toArray.size a).eval = ρ at e
  simp [execOp, go_sem, e, c0, c1]
end
theorem owns_below {w w' : World} {base : Nat} {e : TypeId} {size : Nat} {v : Value} {n : Nat} {xs : List Value} (h : w.ownsRow base e size v n xs) (hb : Below w.heap.size w w') : w'.ownsRow base e size v n xs := by
  refine ⟨h.1, ?_⟩
  rcases h.2 with h2 | ⟨g, cap, cur, h1, h2, h3, h4⟩
  · exact .inl h2
  · exact .inr ⟨g, cap, cur, h1, h2, by rw [hb.block g (Array.getElem?_eq_some_iff.1 h3).1]; exact h3, h4⟩
theorem list_eq_of {xs ys : List Int} (hl : xs.length = ys.length) (h : ∀ i, i < xs.length → xs.getD i 0 = ys.getD i 0) : xs = ys := by
  refine List.ext_getElem hl fun i h1 h2 => ?_
  have := h i h1
  simpa [h1, h2] using this

set_option maxRecDepth 20000 in
set_option maxHeartbeats 1000000 in
theorem exSameList {w : World} {v v' : Value} {xs ys : List Int} (h : Nums w v xs) (h' : Nums w v' ys) (hx : xs.length < 9223372036854775807) (_hy : ys.length < 9223372036854775807) :
    Calls Tryd.prog 30 #[v, v'] w fun e w' => ∃ v', e = .returned v' ∧ Below w.heap.size w w' ∧ v' = .bool (decide (xs = ys)) := by
  obtain ⟨ao, cap, rfl, _⟩ := id h
  obtain ⟨ao', capb, rfl, _⟩ := id h'
  have HX := hidd h
  have HY := hidd h'
  have HL := hidd hx
  clear h h' hx
  by_cases hl : xs.length = ys.length
  · rw [← hl] at HY ⊢
    have HLL := hidd hl
    clear hl
    obtain ⟨n, hn⟩ : ∃ n, n = xs.length := ⟨_, rfl⟩
    have HN := hidd hn
    rw [← hn] at HX HY HL ⊢
    clear hn
    go_enter Tryd.func30, Tryd.ntmps30
    go_wp2
    go_loopw [5] (fun vi W => ∃ i : Nat, vi = .int .i64 i ∧ i ≤ n ∧ Below w.heap.size w W ∧ ∀ j, j < i → xs.getD j 0 = ys.getD j 0) (fun vi _ => n - (intOf vi).toNat)
    case atStart => exact ⟨0, rfl, Nat.zero_le _, Below.refl _ _, fun j hj => by omega⟩
    case round =>
      obtain ⟨V0, rfl⟩ : ∃ V0, V0 = wr := ⟨_, rfl⟩
      obtain ⟨i, rfl, hi, hB, hE⟩ := hrel
      have hll := HL.out
      by_cases hlt : i < n
      · obtain ⟨g, p, r, k, d, rfl, c0, c1, hA⟩ := (HX.out.mono hB).at (i := i) (by rw [← HN.out]; exact hlt)
        obtain ⟨gb, p', r', k', d', rfl, c0', c1', hA'⟩ := (HY.out.mono hB).at (i := i) (by rw [← HLL.out, ← HN.out]; exact hlt)
        obtain ⟨x, hx⟩ : ∃ x, x = xs.getD i 0 := ⟨_, rfl⟩
        obtain ⟨y, hy⟩ : ∃ y, y = ys.getD i 0 := ⟨_, rfl⟩
        rw [← hx] at hA
        rw [← hy] at hA'
        have NA : NumAt V0 g i x := ⟨_, _, _, _, c0, c1, hA⟩
        have NB : NumAt V0 gb i y := ⟨_, _, _, _, c0', c1', hA'⟩
        have g9 : IntKind.i64.wrap ((i : Int) + 1) = (i : Int) + 1 := IntWalk.i64_in _ (by omega)
        have hlt2 : ((i : Int) < n) = True := eq_true (by omega)
        have hsz := hB.size
        have hBH := hidd hB
        have hEH := hidd hE
        have HXX := hidd hx
        have HYY := hidd hy
        have HLT := hidd hlt
        clear hB hE c0 c1 hA c0' c1' hA' hx hy hlt
        have E := Fr.start V0
        by_cases he : x = y
        · have het : Hid (decide (x = y) = true) := decide_eq_true he
          have HEQ := hidd he
          clear he
          go_upto_region 6 with (fail)
          refine region_fr (C := [Fq.is (.slice (some ⟨g, 0, none⟩) n cap), Fq.is (.int .i64 i), Fq.is (.pointer (some ⟨g, i * 2, none⟩)), Fq.num x, Fq.is (.slice (some ⟨gb, 0, none⟩) n capb), Fq.is (.int .i64 i), Fq.is (.pointer (some ⟨gb, i * 2, none⟩)), Fq.num y, Fq.is (.bool true), Fq.is (.bool false)]) (ks := []) (new := []) E rfl (by kernel_rfl) rfl rfl (fun hp => ⟨?_, ?_, ?_, ?_, ?_, ?_, ?_, ?_, ?_, ?_, trivial⟩) ?_
          · exact q_move hp (free_of rfl) trivial (sq_out rfl rfl (fun _ _ => rfl))
          · exact q_move hp (free_of rfl) trivial (sq_out rfl rfl (fun _ _ => rfl))
          · exact q_indexN (b := g) (l := n) (c := cap) (k := i) hp (free_of rfl) trivial (sq_in 0 rfl rfl (by simp) rfl (fun v w h => h)) (sq_in 1 rfl rfl (by simp) rfl (fun v w h => h)) HLT.out (fun _ => rfl)
          · exact q_loadNumAt (i0 := i) hp (free_of rfl) trivial NA rfl (sq_in 2 rfl rfl (by simp) rfl (fun v w h => h)) (fun v w h => h)
          · exact q_move hp (free_of rfl) trivial (sq_out rfl rfl (fun _ _ => rfl))
          · exact q_move hp (free_of rfl) trivial (sq_out rfl rfl (fun _ _ => rfl))
          · exact q_indexN (b := gb) (l := n) (c := capb) (k := i) hp (free_of rfl) trivial (sq_in 4 rfl rfl (by simp) rfl (fun v w h => h)) (sq_in 5 rfl rfl (by simp) rfl (fun v w h => h)) HLT.out (fun _ => rfl)
          · exact q_loadNumAt (i0 := i) hp (free_of rfl) trivial NB rfl (sq_in 6 rfl rfl (by simp) rfl (fun v w h => h)) (fun v w h => h)
          · exact q_call2 (F := (Fq.num x).P) (G := (Fq.num y).P) hp (free_of rfl) trivial (enq_R_Same) (sq_in 3 rfl rfl (by simp) rfl (fun v w h => h)) (sq_in 7 rfl rfl (by simp) rfl (fun v w h => h)) (fun v v' w h h' => exRSameB h h' het.out)
          · exact q_one (F := fun v _ => v = .bool true) hp (free_of rfl) trivial (sq_in 8 rfl rfl (by simp) rfl (fun v w h => h)) (fun ρ w _ h => ⟨.bool false, by simp [execOp, go_sem, h], rfl⟩)
          intro L vs w1 nb hL hC hn E1
          have e0 : vs 0 = .slice (some ⟨g, 0, none⟩) n cap := hC 0 (by simp)
          have e1 : vs 1 = .int .i64 i := hC 1 (by simp)
          have e2 : vs 2 = .pointer (some ⟨g, i * 2, none⟩) := hC 2 (by simp)
          have e4 : vs 4 = .slice (some ⟨gb, 0, none⟩) n capb := hC 4 (by simp)
          have e5 : vs 5 = .int .i64 i := hC 5 (by simp)
          have e6 : vs 6 = .pointer (some ⟨gb, i * 2, none⟩) := hC 6 (by simp)
          have e8 : vs 8 = .bool true := hC 8 (by simp)
          have e9 : vs 9 = .bool false := hC 9 (by simp)
          have E : Fr V0 [] w1 := E1
          rw [lay_all hL]
          simp only [putAll, dstOf, List.length_cons, List.length_nil, Nat.zero_add, Nat.reduceAdd, List.getElem?_toArray, List.getElem?_cons_zero, List.getElem?_cons_succ, Option.bind_some, Act.put, List.setIfInBounds_toArray, List.set_cons_succ, List.set_cons_zero]
          rw [e0, e1, e2, e4, e5, e6, e8, e9]
          generalize vs 3 = u1_3
          generalize vs 7 = u1_7
          clear e0 e1 e2 e4 e5 e6 e8 e9 hC hn E1 hL vs L nb
          have hB2 := hidd (hBH.out.trans (E.below.mono hsz))
          clear E hsz
          go_wp2
          go_roundw
          case rel => exact ⟨i + 1, by go_num, by have := HLT.out; omega, hB2.out, fun j hj => by
            rcases Nat.lt_or_ge j i with h | h
            · exact hEH.out j h
            · rw [show j = i by omega, ← HXX.out, ← HYY.out]; exact HEQ.out⟩
          case measure => have := HLT.out; simp [intOf]; omega
        · have het : Hid (decide (x = y) = false) := decide_eq_false he
          have HEQ := hidd he
          clear he
          go_upto_region 6 with (fail)
          refine region_fr (C := [Fq.is (.slice (some ⟨g, 0, none⟩) n cap), Fq.is (.int .i64 i), Fq.is (.pointer (some ⟨g, i * 2, none⟩)), Fq.num x, Fq.is (.slice (some ⟨gb, 0, none⟩) n capb), Fq.is (.int .i64 i), Fq.is (.pointer (some ⟨gb, i * 2, none⟩)), Fq.num y, Fq.is (.bool false), Fq.is (.bool true)]) (ks := []) (new := []) E rfl (by kernel_rfl) rfl rfl (fun hp => ⟨?_, ?_, ?_, ?_, ?_, ?_, ?_, ?_, ?_, ?_, trivial⟩) ?_
          · exact q_move hp (free_of rfl) trivial (sq_out rfl rfl (fun _ _ => rfl))
          · exact q_move hp (free_of rfl) trivial (sq_out rfl rfl (fun _ _ => rfl))
          · exact q_indexN (b := g) (l := n) (c := cap) (k := i) hp (free_of rfl) trivial (sq_in 0 rfl rfl (by simp) rfl (fun v w h => h)) (sq_in 1 rfl rfl (by simp) rfl (fun v w h => h)) HLT.out (fun _ => rfl)
          · exact q_loadNumAt (i0 := i) hp (free_of rfl) trivial NA rfl (sq_in 2 rfl rfl (by simp) rfl (fun v w h => h)) (fun v w h => h)
          · exact q_move hp (free_of rfl) trivial (sq_out rfl rfl (fun _ _ => rfl))
          · exact q_move hp (free_of rfl) trivial (sq_out rfl rfl (fun _ _ => rfl))
          · exact q_indexN (b := gb) (l := n) (c := capb) (k := i) hp (free_of rfl) trivial (sq_in 4 rfl rfl (by simp) rfl (fun v w h => h)) (sq_in 5 rfl rfl (by simp) rfl (fun v w h => h)) HLT.out (fun _ => rfl)
          · exact q_loadNumAt (i0 := i) hp (free_of rfl) trivial NB rfl (sq_in 6 rfl rfl (by simp) rfl (fun v w h => h)) (fun v w h => h)
          · exact q_call2 (F := (Fq.num x).P) (G := (Fq.num y).P) hp (free_of rfl) trivial (enq_R_Same) (sq_in 3 rfl rfl (by simp) rfl (fun v w h => h)) (sq_in 7 rfl rfl (by simp) rfl (fun v w h => h)) (fun v v' w h h' => exRSameB h h' het.out)
          · exact q_one (F := fun v _ => v = .bool false) hp (free_of rfl) trivial (sq_in 8 rfl rfl (by simp) rfl (fun v w h => h)) (fun ρ w _ h => ⟨.bool true, by simp [execOp, go_sem, h], rfl⟩)
          intro L vs w1 nb hL hC hn E1
          have e0 : vs 0 = .slice (some ⟨g, 0, none⟩) n cap := hC 0 (by simp)
          have e1 : vs 1 = .int .i64 i := hC 1 (by simp)
          have e2 : vs 2 = .pointer (some ⟨g, i * 2, none⟩) := hC 2 (by simp)
          have e4 : vs 4 = .slice (some ⟨gb, 0, none⟩) n capb := hC 4 (by simp)
          have e5 : vs 5 = .int .i64 i := hC 5 (by simp)
          have e6 : vs 6 = .pointer (some ⟨gb, i * 2, none⟩) := hC 6 (by simp)
          have e8 : vs 8 = .bool false := hC 8 (by simp)
          have e9 : vs 9 = .bool true := hC 9 (by simp)
          have E : Fr V0 [] w1 := E1
          rw [lay_all hL]
          simp only [putAll, dstOf, List.length_cons, List.length_nil, Nat.zero_add, Nat.reduceAdd, List.getElem?_toArray, List.getElem?_cons_zero, List.getElem?_cons_succ, Option.bind_some, Act.put, List.setIfInBounds_toArray, List.set_cons_succ, List.set_cons_zero]
          rw [e0, e1, e2, e4, e5, e6, e8, e9]
          generalize vs 3 = u1_3
          generalize vs 7 = u1_7
          clear e0 e1 e2 e4 e5 e6 e8 e9 hC hn E1 hL vs L nb
          have hB2 := hidd (hBH.out.trans (E.below.mono hsz))
          clear E hsz
          go_wp2
          refine bodyPost_ret (v := .bool false) (by simp [results, Tryd.results30, go_sem]) rfl ⟨_, rfl, hB2.out, ?_⟩
          rw [decide_eq_false]
          intro e
          exact HEQ.out (by rw [HXX.out, HYY.out, e])
      · have hin : i = n := by omega
        have hF : Hid (xs = ys) := list_eq_of HLL.out fun j hj => hE j (by rw [hin, HN.out]; exact hj)
        have hBH := hidd hB
        clear hB hE
        go_wp2
        refine bodyPost_ret (v := .bool true) (by simp [results, Tryd.results30, go_sem]) rfl ⟨_, rfl, hBH.out, ?_⟩
        rw [decide_eq_true hF.out]
  · have hne : Hid (decide (xs = ys) = false) := decide_eq_false fun e => hl (by rw [e])
    have hl1 : ((xs.length : Int) = (ys.length : Int)) = False := eq_false (by omega)
    have hl2 : (((xs.length : Int)) == (ys.length : Int)) = false := by simp; omega
    clear hl
    go_enter Tryd.func30, Tryd.ntmps30
    go_wp2
    refine bodyPost_ret (v := .bool false) (by simp [results, Tryd.results30, go_sem]) rfl ⟨_, rfl, Below.refl _ _, ?_⟩
    rw [hne.out]

set_option maxRecDepth 100000 in
set_option maxHeartbeats 4000000 in
theorem exMRootsZ {w : World} {v v' : Value} {a p k : Int} (h : Num w v a) (h' : Num w v' p) (ha : ab a < pw 90) (hm : ab p < pw 90) (hk : -9223372036854775808 ≤ k ∧ k ≤ 9223372036854775807) (h0 : p < 2 ∨ k < 1) :
    Calls Tryd.prog 28 #[v, v', .int .i64 k] w fun e w' => ∃ v', e = .returned v' ∧ Below w.heap.size w w' ∧ ∃ l, v' = .tuple #[l, .int .i64 1] ∧ Nums w' l [] := by
  replace ha := hidd ha
  replace hm := hidd hm
  replace hk := hidd hk
  obtain ⟨n0, ao0, k0, c0, rfl⟩ := h.parts
  obtain ⟨n1, ao1, k1, c1, rfl⟩ := h'.parts
  obtain ⟨w1, b1, hw1, hb1, hs1, E⟩ := fr_start w (F := Fq.num a) (us := [.bool n0, .slice ao0 k0 c0]) 29 rfl (by simp) (tame_int _ _ _ _) h
  obtain ⟨w2, b2, hw2, hb2, hs2, E⟩ := fr_more E hs1 (F := Fq.num p) (us := [.bool n1, .slice ao1 k1 c1]) 29 rfl (by simp) (tame_int _ _ _ _) (h'.mono E.below)
  go_enter Tryd.func28, Tryd.ntmps28
  go_upto_region 1 with (fail)
  rw [← hw1]
  rw [← hw2]
  rw [← hb2]
  rw [← hb1]
  clear hw1 hw2 hb1 hb2 hs2 hs1
  by_cases hp : p < 2
  · have T1 : Hid (cmpI p (2) < 0) := cmpIqlt.2 hp
    clear hp h0 hk
    have B3 : Hid (ab ((2)) < pw 3) := ab_lit (by decide)
    refine region_fr (C := [Fq.num p, Fq.num (2), Fq.is (.int .i64 (cmpI p (2))), Fq.is (.bool true), Fq.is (.bool true), Fq.is (undef), Fq.is (undef), Fq.is (.bool true)]) (ks := [none, none]) (new := []) E rfl (by kernel_rfl) rfl rfl (fun hp => ⟨?_, ?_, ?_, ?_, ?_, ?_, ?_, ?_, trivial⟩) ?_
    · exact q_loadInt (off := 0) hp (free_of rfl) trivial (List.mem_iff_getElem?.2 ⟨0, rfl⟩) (.inl rfl) (Nat.le_of_ble_eq_true rfl) (sq_out rfl rfl (fun _ _ => rfl)) (fun us w hl h => ld_num hl h)
    · exact q_call1 (F := (Fq.is (.int .i64 2)).P) hp (free_of rfl) trivial (enq_Of) (sq_const (fun _ => rfl)) (fun v w h => (by subst h; exact OfK w (2) (by omega) (by omega)))
    · exact q_call2 (F := (Fq.num p).P) (G := (Fq.num (2)).P) hp (free_of rfl) trivial (enq_Cmp) (sq_in 0 rfl rfl (by simp) rfl (fun v w h => h)) (sq_in 1 rfl rfl (by simp) rfl (fun v w h => h)) (fun v v' w h h' => exCmp h h')
    · exact q_one (F := fun v _ => v = .int .i64 (cmpI p (2))) hp (free_of rfl) trivial (sq_in 2 rfl rfl (by simp) rfl (fun v w h => h)) (fun ρ w hc h => ⟨.bool true, by simp [execOp, go_sem, h, hc, T1.out], rfl⟩)
    · exact q_move hp (free_of rfl) trivial (sq_in 3 rfl rfl (by simp) rfl (fun v w h => h))
    · exact q_skip hp (free_of rfl) rfl (gq_some rfl rfl (by simp) rfl (fun v w h => h)) (fun _ => rfl)
    · exact q_skip hp (free_of rfl) rfl (gq_some rfl rfl (by simp) rfl (fun v w h => h)) (fun _ => rfl)
    · exact q_two (F := fun v _ => v = .bool true) (G := fun v _ => v = .bool true) hp (free_of rfl) trivial (sq_in 4 rfl rfl (by simp) rfl (fun v w h => h)) (sq_const (fun _ => rfl)) (fun ρ w hc h h' => ⟨_, by simp [execOp, go_sem, h, h'], rfl⟩)
    intro L vs w4 nb hL hC hn E4
    have e2 : vs 2 = .int .i64 (cmpI p (2)) := hC 2 (by simp)
    have e3 : vs 3 = .bool true := hC 3 (by simp)
    have e4 : vs 4 = .bool true := hC 4 (by simp)
    have e5 : vs 5 = undef := hC 5 (by simp)
    have e6 : vs 6 = undef := hC 6 (by simp)
    have e7 : vs 7 = .bool true := hC 7 (by simp)
    have E : Fr w [(b2, 2, Fq.num p), (b1, 2, Fq.num a)] w4 := E4
    rw [lay_all hL]
    simp only [putAll, dstOf, List.length_cons, List.length_nil, Nat.zero_add, Nat.reduceAdd, List.getElem?_toArray, List.getElem?_cons_zero, List.getElem?_cons_succ, Option.bind_some, Act.put, List.setIfInBounds_toArray, List.set_cons_succ, List.set_cons_zero]
    rw [e2, e3, e4, e5, e6, e7]
    generalize vs 0 = u4_0
    generalize vs 1 = u4_1
    clear e2 e3 e4 e5 e6 e7 hC hn E4 hL vs L nb
    clear T1
    go_upto_region 2 with (fail)
    refine region_fr (C := [Fq.is (.slice none 0 0), Fq.is (.int .i64 1)]) (ks := [none, none]) (new := []) E rfl (by kernel_rfl) rfl rfl (fun hp => ⟨?_, ?_, trivial⟩) ?_
    · exact q_assign hp (free_of rfl) trivial (sq_const (fun _ => rfl))
    · exact q_assign hp (free_of rfl) trivial (sq_const (fun _ => rfl))
    intro L vs w5 nb hL hC hn E5
    have e0 : vs 0 = .slice none 0 0 := hC 0 (by simp)
    have e1 : vs 1 = .int .i64 1 := hC 1 (by simp)
    have E : Fr w [(b2, 2, Fq.num p), (b1, 2, Fq.num a)] w5 := E5
    rw [lay_all hL]
    simp only [putAll, dstOf, List.length_cons, List.length_nil, Nat.zero_add, Nat.reduceAdd, List.getElem?_toArray, List.getElem?_cons_zero, List.getElem?_cons_succ, Option.bind_some, Act.put, List.setIfInBounds_toArray, List.set_cons_succ, List.set_cons_zero]
    rw [e0, e1]
    clear e0 e1 hC hn E5 hL vs L nb
    clear B3 ha hm
    go_wp2
    refine bodyPost_ret (v := .tuple #[.slice none 0 0, .int .i64 1]) ?_ rfl ⟨_, rfl, E.below, _, rfl, ⟨_, _, rfl, .inl rfl⟩⟩
    simp [results, Tryd.results28, go_sem]
  · have T1 : Hid (¬ cmpI p (2) < 0) := fun e => hp (cmpIqlt.1 e)
    have T2 : Hid (k < 1) := by show _ < _; omega
    clear hp h0 hk
    have B6 : Hid (ab ((2)) < pw 3) := ab_lit (by decide)
    refine region_fr (C := [Fq.num p, Fq.num (2), Fq.is (.int .i64 (cmpI p (2))), Fq.is (.bool false), Fq.is (.bool false), Fq.is (.int .i64 k), Fq.is (.bool true), Fq.is (.bool true)]) (ks := [none, none]) (new := []) E rfl (by kernel_rfl) rfl rfl (fun hp => ⟨?_, ?_, ?_, ?_, ?_, ?_, ?_, ?_, trivial⟩) ?_
    · exact q_loadInt (off := 0) hp (free_of rfl) trivial (List.mem_iff_getElem?.2 ⟨0, rfl⟩) (.inl rfl) (Nat.le_of_ble_eq_true rfl) (sq_out rfl rfl (fun _ _ => rfl)) (fun us w hl h => ld_num hl h)
    · exact q_call1 (F := (Fq.is (.int .i64 2)).P) hp (free_of rfl) trivial (enq_Of) (sq_const (fun _ => rfl)) (fun v w h => (by subst h; exact OfK w (2) (by omega) (by omega)))
    · exact q_call2 (F := (Fq.num p).P) (G := (Fq.num (2)).P) hp (free_of rfl) trivial (enq_Cmp) (sq_in 0 rfl rfl (by simp) rfl (fun v w h => h)) (sq_in 1 rfl rfl (by simp) rfl (fun v w h => h)) (fun v v' w h h' => exCmp h h')
    · exact q_one (F := fun v _ => v = .int .i64 (cmpI p (2))) hp (free_of rfl) trivial (sq_in 2 rfl rfl (by simp) rfl (fun v w h => h)) (fun ρ w hc h => ⟨.bool false, by simp [execOp, go_sem, h, hc, T1.out], rfl⟩)
    · exact q_move hp (free_of rfl) trivial (sq_in 3 rfl rfl (by simp) rfl (fun v w h => h))
    · exact q_move hp (free_of rfl) (gq_some rfl rfl (by simp) rfl (fun v w h => h)) (sq_out rfl rfl (fun _ _ => rfl))
    · exact q_one (F := fun v _ => v = .int .i64 k) hp (free_of rfl) (gq_some rfl rfl (by simp) rfl (fun v w h => h)) (sq_in 5 rfl rfl (by simp) rfl (fun v w h => h)) (fun ρ w hc h => ⟨.bool true, by simp [execOp, go_sem, h, hc, T2.out], rfl⟩)
    · exact q_two (F := fun v _ => v = .bool false) (G := fun v _ => v = .bool true) hp (free_of rfl) trivial (sq_in 4 rfl rfl (by simp) rfl (fun v w h => h)) (sq_in 6 rfl rfl (by simp) rfl (fun v w h => h)) (fun ρ w hc h h' => ⟨_, by simp [execOp, go_sem, h, h'], rfl⟩)
    intro L vs w7 nb hL hC hn E7
    have e2 : vs 2 = .int .i64 (cmpI p (2)) := hC 2 (by simp)
    have e3 : vs 3 = .bool false := hC 3 (by simp)
    have e4 : vs 4 = .bool false := hC 4 (by simp)
    have e5 : vs 5 = .int .i64 k := hC 5 (by simp)
    have e6 : vs 6 = .bool true := hC 6 (by simp)
    have e7 : vs 7 = .bool true := hC 7 (by simp)
    have E : Fr w [(b2, 2, Fq.num p), (b1, 2, Fq.num a)] w7 := E7
    rw [lay_all hL]
    simp only [putAll, dstOf, List.length_cons, List.length_nil, Nat.zero_add, Nat.reduceAdd, List.getElem?_toArray, List.getElem?_cons_zero, List.getElem?_cons_succ, Option.bind_some, Act.put, List.setIfInBounds_toArray, List.set_cons_succ, List.set_cons_zero]
    rw [e2, e3, e4, e5, e6, e7]
    generalize vs 0 = u7_0
    generalize vs 1 = u7_1
    clear e2 e3 e4 e5 e6 e7 hC hn E7 hL vs L nb
    clear T1 T2
    go_upto_region 2 with (fail)
    refine region_fr (C := [Fq.is (.slice none 0 0), Fq.is (.int .i64 1)]) (ks := [none, none]) (new := []) E rfl (by kernel_rfl) rfl rfl (fun hp => ⟨?_, ?_, trivial⟩) ?_
    · exact q_assign hp (free_of rfl) trivial (sq_const (fun _ => rfl))
    · exact q_assign hp (free_of rfl) trivial (sq_const (fun _ => rfl))
    intro L vs w8 nb hL hC hn E8
    have e0 : vs 0 = .slice none 0 0 := hC 0 (by simp)
    have e1 : vs 1 = .int .i64 1 := hC 1 (by simp)
    have E : Fr w [(b2, 2, Fq.num p), (b1, 2, Fq.num a)] w8 := E8
    rw [lay_all hL]
    simp only [putAll, dstOf, List.length_cons, List.length_nil, Nat.zero_add, Nat.reduceAdd, List.getElem?_toArray, List.getElem?_cons_zero, List.getElem?_cons_succ, Option.bind_some, Act.put, List.setIfInBounds_toArray, List.set_cons_succ, List.set_cons_zero]
    rw [e0, e1]
    clear e0 e1 hC hn E8 hL vs L nb
    clear B6 ha hm
    go_wp2
    refine bodyPost_ret (v := .tuple #[.slice none 0 0, .int .i64 1]) ?_ rfl ⟨_, rfl, E.below, _, rfl, ⟨_, _, rfl, .inl rfl⟩⟩
    simp [results, Tryd.results28, go_sem]

set_option maxRecDepth 100000 in
set_option maxHeartbeats 4000000 in
theorem exMRootsB {w : World} {v v' : Value} {a p k : Int} (h : Num w v a) (h' : Num w v' p) (ha : ab a < pw 90) (hm : ab p < pw 90) (hk : -9223372036854775808 ≤ k ∧ k ≤ 9223372036854775807) (h0 : 2 ≤ p) (h1 : 1 ≤ k) (hb : p < 9223372036854775808 → ¬ p ^ k.toNat ≤ 1048576) :
    Calls Tryd.prog 28 #[v, v', .int .i64 k] w fun e w' => ∃ v', e = .returned v' ∧ Below w.heap.size w w' ∧ ∃ l, v' = .tuple #[l, .int .i64 2] ∧ Nums w' l [] := by
  replace ha := hidd ha
  replace hm := hidd hm
  replace hk := hidd hk
  obtain ⟨n0, ao0, k0, c0, rfl⟩ := h.parts
  obtain ⟨n1, ao1, k1, c1, rfl⟩ := h'.parts
  obtain ⟨w1, b1, hw1, hb1, hs1, E⟩ := fr_start w (F := Fq.num a) (us := [.bool n0, .slice ao0 k0 c0]) 29 rfl (by simp) (tame_int _ _ _ _) h
  obtain ⟨w2, b2, hw2, hb2, hs2, E⟩ := fr_more E hs1 (F := Fq.num p) (us := [.bool n1, .slice ao1 k1 c1]) 29 rfl (by simp) (tame_int _ _ _ _) (h'.mono E.below)
  go_enter Tryd.func28, Tryd.ntmps28
  go_upto_region 1 with (fail)
  rw [← hw1]
  rw [← hw2]
  rw [← hb2]
  rw [← hb1]
  clear hw1 hw2 hb1 hb2 hs2 hs1
  by_cases hl : p < 9223372036854775808
  · have HL := hidd (lowV_in (z := p) (by omega) (by omega))
    have HPR : Hid (2 ≤ p ∧ p < 9223372036854775808) := ⟨h0, by omega⟩
    have HKR : Hid (1 ≤ k ∧ k < 9223372036854775808) := ⟨h1, by have := hk.out; omega⟩
    have HD : Hid (decide (p ^ k.toNat ≤ 1048576) = false) := decide_eq_false (hb hl)
    clear hl hb hk
    have T1 : Hid (¬ cmpI p (2) < 0) := fun e => by have := cmpIqlt.1 e; omega
    have T2 : Hid (¬ k < 1) := by show ¬ _; omega
    have HP := hidd h0
    have HK := hidd h1
    clear h0 h1
    have B3 : Hid (ab ((2)) < pw 3) := ab_lit (by decide)
    refine region_fr (C := [Fq.num p, Fq.num (2), Fq.is (.int .i64 (cmpI p (2))), Fq.is (.bool false), Fq.is (.bool false), Fq.is (.int .i64 k), Fq.is (.bool false), Fq.is (.bool false)]) (ks := [none, none]) (new := []) E rfl (by kernel_rfl) rfl rfl (fun hp => ⟨?_, ?_, ?_, ?_, ?_, ?_, ?_, ?_, trivial⟩) ?_
    · exact q_loadInt (off := 0) hp (free_of rfl) trivial (List.mem_iff_getElem?.2 ⟨0, rfl⟩) (.inl rfl) (Nat.le_of_ble_eq_true rfl) (sq_out rfl rfl (fun _ _ => rfl)) (fun us w hl h => ld_num hl h)
    · exact q_call1 (F := (Fq.is (.int .i64 2)).P) hp (free_of rfl) trivial (enq_Of) (sq_const (fun _ => rfl)) (fun v w h => (by subst h; exact OfK w (2) (by omega) (by omega)))
    · exact q_call2 (F := (Fq.num p).P) (G := (Fq.num (2)).P) hp (free_of rfl) trivial (enq_Cmp) (sq_in 0 rfl rfl (by simp) rfl (fun v w h => h)) (sq_in 1 rfl rfl (by simp) rfl (fun v w h => h)) (fun v v' w h h' => exCmp h h')
    · exact q_one (F := fun v _ => v = .int .i64 (cmpI p (2))) hp (free_of rfl) trivial (sq_in 2 rfl rfl (by simp) rfl (fun v w h => h)) (fun ρ w hc h => ⟨.bool false, by simp [execOp, go_sem, h, hc, T1.out], rfl⟩)
    · exact q_move hp (free_of rfl) trivial (sq_in 3 rfl rfl (by simp) rfl (fun v w h => h))
    · exact q_move hp (free_of rfl) (gq_some rfl rfl (by simp) rfl (fun v w h => h)) (sq_out rfl rfl (fun _ _ => rfl))
    · exact q_one (F := fun v _ => v = .int .i64 k) hp (free_of rfl) (gq_some rfl rfl (by simp) rfl (fun v w h => h)) (sq_in 5 rfl rfl (by simp) rfl (fun v w h => h)) (fun ρ w hc h => ⟨.bool false, by simp [execOp, go_sem, h, hc, T2.out], rfl⟩)
    · exact q_two (F := fun v _ => v = .bool false) (G := fun v _ => v = .bool false) hp (free_of rfl) trivial (sq_in 4 rfl rfl (by simp) rfl (fun v w h => h)) (sq_in 6 rfl rfl (by simp) rfl (fun v w h => h)) (fun ρ w hc h h' => ⟨_, by simp [execOp, go_sem, h, h'], rfl⟩)
    intro L vs w4 nb hL hC hn E4
    have e2 : vs 2 = .int .i64 (cmpI p (2)) := hC 2 (by simp)
    have e3 : vs 3 = .bool false := hC 3 (by simp)
    have e4 : vs 4 = .bool false := hC 4 (by simp)
    have e5 : vs 5 = .int .i64 k := hC 5 (by simp)
    have e6 : vs 6 = .bool false := hC 6 (by simp)
    have e7 : vs 7 = .bool false := hC 7 (by simp)
    have E : Fr w [(b2, 2, Fq.num p), (b1, 2, Fq.num a)] w4 := E4
    rw [lay_all hL]
    simp only [putAll, dstOf, List.length_cons, List.length_nil, Nat.zero_add, Nat.reduceAdd, List.getElem?_toArray, List.getElem?_cons_zero, List.getElem?_cons_succ, Option.bind_some, Act.put, List.setIfInBounds_toArray, List.set_cons_succ, List.set_cons_zero]
    rw [e2, e3, e4, e5, e6, e7]
    generalize vs 0 = u4_0
    generalize vs 1 = u4_1
    clear e2 e3 e4 e5 e6 e7 hC hn E4 hL vs L nb
    clear T1 T2
    go_upto_region 3 with (fail)
    refine region_fr (C := [Fq.num p, Fq.tup2 (Fq.is (.int .i64 p)) (Fq.is (.bool true)), Fq.tup2 (Fq.is (.int .i64 p)) (Fq.is (.bool true)), Fq.is (.int .i64 p), Fq.is (.bool true), Fq.is (.int .i64 p), Fq.is (.bool true)]) (ks := [none, none]) (new := []) E rfl (by kernel_rfl) rfl rfl (fun hp => ⟨?_, ?_, ?_, ?_, ?_, ?_, ?_, trivial⟩) ?_
    · exact q_loadInt (off := 0) hp (free_of rfl) trivial (List.mem_iff_getElem?.2 ⟨0, rfl⟩) (.inl rfl) (Nat.le_of_ble_eq_true rfl) (sq_out rfl rfl (fun _ _ => rfl)) (fun us w hl h => ld_num hl h)
    · exact q_call1 (F := (Fq.num p).P) hp (free_of rfl) trivial (enq_Low) (sq_in 0 rfl rfl (by simp) rfl (fun v w h => h)) (fun v w h => exLowQ h HL.out)
    · exact q_move hp (free_of rfl) trivial (sq_in 1 rfl rfl (by simp) rfl (fun v w h => h))
    · exact q_extract2 hp (free_of rfl) trivial (sq_in 2 rfl rfl (by simp) rfl (fun v w h => h)) (fun v1 v2 w h1 h2 => ⟨_, rfl, h1⟩)
    · exact q_extract2 hp (free_of rfl) trivial (sq_in 2 rfl rfl (by simp) rfl (fun v w h => h)) (fun v1 v2 w h1 h2 => ⟨_, rfl, h2⟩)
    · exact q_assign hp (free_of rfl) trivial (sq_in 3 rfl rfl (by simp) rfl (fun v w h => h))
    · exact q_assign hp (free_of rfl) trivial (sq_in 4 rfl rfl (by simp) rfl (fun v w h => h))
    intro L vs w5 nb hL hC hn E5
    have e3 : vs 3 = .int .i64 p := hC 3 (by simp)
    have e4 : vs 4 = .bool true := hC 4 (by simp)
    have e5 : vs 5 = .int .i64 p := hC 5 (by simp)
    have e6 : vs 6 = .bool true := hC 6 (by simp)
    have E : Fr w [(b2, 2, Fq.num p), (b1, 2, Fq.num a)] w5 := E5
    rw [lay_all hL]
    simp only [putAll, dstOf, List.length_cons, List.length_nil, Nat.zero_add, Nat.reduceAdd, List.getElem?_toArray, List.getElem?_cons_zero, List.getElem?_cons_succ, Option.bind_some, Act.put, List.setIfInBounds_toArray, List.set_cons_succ, List.set_cons_zero]
    rw [e3, e4, e5, e6]
    generalize vs 0 = u5_0
    generalize vs 1 = u5_1
    generalize vs 2 = u5_2
    clear e3 e4 e5 e6 hC hn E5 hL vs L nb
    go_upto_region 4 with (fail)
    refine region_fr (C := [Fq.is (.bool true), Fq.is (.bool false), Fq.is (.bool false), Fq.is (.int .i64 p), Fq.is (.int .i64 k), Fq.is (.bool false), Fq.is (.bool true), Fq.is (.bool true)]) (ks := [none, none]) (new := []) E rfl (by kernel_rfl) rfl rfl (fun hp => ⟨?_, ?_, ?_, ?_, ?_, ?_, ?_, ?_, trivial⟩) ?_
    · exact q_move hp (free_of rfl) trivial (sq_out rfl rfl (fun _ _ => rfl))
    · exact q_one (F := fun v _ => v = .bool true) hp (free_of rfl) trivial (sq_in 0 rfl rfl (by simp) rfl (fun v w h => h)) (fun ρ w _ h => ⟨.bool false, by simp [execOp, go_sem, h], rfl⟩)
    · exact q_move hp (free_of rfl) trivial (sq_in 1 rfl rfl (by simp) rfl (fun v w h => h))
    · exact q_move hp (free_of rfl) (gq_some rfl rfl (by simp) rfl (fun v w h => h)) (sq_out rfl rfl (fun _ _ => rfl))
    · exact q_move hp (free_of rfl) (gq_some rfl rfl (by simp) rfl (fun v w h => h)) (sq_out rfl rfl (fun _ _ => rfl))
    · exact q_call2 (F := (Fq.is (.int .i64 p)).P) (G := (Fq.is (.int .i64 k)).P) hp (free_of rfl) (gq_some rfl rfl (by simp) rfl (fun v w h => h)) (enq_M_smallPower) (sq_in 3 rfl rfl (by simp) rfl (fun v w h => h)) (sq_in 4 rfl rfl (by simp) rfl (fun v w h => h)) (fun v v' w h h' => (by subst h; subst h'; exact exSmallPower HPR.out HKR.out HD.out))
    · exact q_one (F := fun v _ => v = .bool false) hp (free_of rfl) (gq_some rfl rfl (by simp) rfl (fun v w h => h)) (sq_in 5 rfl rfl (by simp) rfl (fun v w h => h)) (fun ρ w _ h => ⟨.bool true, by simp [execOp, go_sem, h], rfl⟩)
    · exact q_two (F := fun v _ => v = .bool false) (G := fun v _ => v = .bool true) hp (free_of rfl) trivial (sq_in 2 rfl rfl (by simp) rfl (fun v w h => h)) (sq_in 6 rfl rfl (by simp) rfl (fun v w h => h)) (fun ρ w hc h h' => ⟨_, by simp [execOp, go_sem, h, h'], rfl⟩)
    intro L vs w6 nb hL hC hn E6
    have e0 : vs 0 = .bool true := hC 0 (by simp)
    have e1 : vs 1 = .bool false := hC 1 (by simp)
    have e2 : vs 2 = .bool false := hC 2 (by simp)
    have e3 : vs 3 = .int .i64 p := hC 3 (by simp)
    have e4 : vs 4 = .int .i64 k := hC 4 (by simp)
    have e5 : vs 5 = .bool false := hC 5 (by simp)
    have e6 : vs 6 = .bool true := hC 6 (by simp)
    have e7 : vs 7 = .bool true := hC 7 (by simp)
    have E : Fr w [(b2, 2, Fq.num p), (b1, 2, Fq.num a)] w6 := E6
    rw [lay_all hL]
    simp only [putAll, dstOf, List.length_cons, List.length_nil, Nat.zero_add, Nat.reduceAdd, List.getElem?_toArray, List.getElem?_cons_zero, List.getElem?_cons_succ, Option.bind_some, Act.put, List.setIfInBounds_toArray, List.set_cons_succ, List.set_cons_zero]
    rw [e0, e1, e2, e3, e4, e5, e6, e7]
    clear e0 e1 e2 e3 e4 e5 e6 e7 hC hn E6 hL vs L nb
    clear HL HPR HKR HD HP HK
    go_upto_region 5 with (fail)
    refine region_fr (C := [Fq.is (.slice none 0 0), Fq.is (.int .i64 2)]) (ks := [none, none]) (new := []) E rfl (by kernel_rfl) rfl rfl (fun hp => ⟨?_, ?_, trivial⟩) ?_
    · exact q_assign hp (free_of rfl) trivial (sq_const (fun _ => rfl))
    · exact q_assign hp (free_of rfl) trivial (sq_const (fun _ => rfl))
    intro L vs w7 nb hL hC hn E7
    have e0 : vs 0 = .slice none 0 0 := hC 0 (by simp)
    have e1 : vs 1 = .int .i64 2 := hC 1 (by simp)
    have E : Fr w [(b2, 2, Fq.num p), (b1, 2, Fq.num a)] w7 := E7
    rw [lay_all hL]
    simp only [putAll, dstOf, List.length_cons, List.length_nil, Nat.zero_add, Nat.reduceAdd, List.getElem?_toArray, List.getElem?_cons_zero, List.getElem?_cons_succ, Option.bind_some, Act.put, List.setIfInBounds_toArray, List.set_cons_succ, List.set_cons_zero]
    rw [e0, e1]
    clear e0 e1 hC hn E7 hL vs L nb
    clear B3 ha hm
    go_wp2
    refine bodyPost_ret (v := .tuple #[.slice none 0 0, .int .i64 2]) ?_ rfl ⟨_, rfl, E.below, _, rfl, ⟨_, _, rfl, .inl rfl⟩⟩
    simp [results, Tryd.results28, go_sem]
  · have HL := hidd (lowV_out (z := p) (by omega))
    clear hl hb hk
    have T1 : Hid (¬ cmpI p (2) < 0) := fun e => by have := cmpIqlt.1 e; omega
    have T2 : Hid (¬ k < 1) := by show ¬ _; omega
    have HP := hidd h0
    have HK := hidd h1
    clear h0 h1
    have B8 : Hid (ab ((2)) < pw 3) := ab_lit (by decide)
    refine region_fr (C := [Fq.num p, Fq.num (2), Fq.is (.int .i64 (cmpI p (2))), Fq.is (.bool false), Fq.is (.bool false), Fq.is (.int .i64 k), Fq.is (.bool false), Fq.is (.bool false)]) (ks := [none, none]) (new := []) E rfl (by kernel_rfl) rfl rfl (fun hp => ⟨?_, ?_, ?_, ?_, ?_, ?_, ?_, ?_, trivial⟩) ?_
    · exact q_loadInt (off := 0) hp (free_of rfl) trivial (List.mem_iff_getElem?.2 ⟨0, rfl⟩) (.inl rfl) (Nat.le_of_ble_eq_true rfl) (sq_out rfl rfl (fun _ _ => rfl)) (fun us w hl h => ld_num hl h)
    · exact q_call1 (F := (Fq.is (.int .i64 2)).P) hp (free_of rfl) trivial (enq_Of) (sq_const (fun _ => rfl)) (fun v w h => (by subst h; exact OfK w (2) (by omega) (by omega)))
    · exact q_call2 (F := (Fq.num p).P) (G := (Fq.num (2)).P) hp (free_of rfl) trivial (enq_Cmp) (sq_in 0 rfl rfl (by simp) rfl (fun v w h => h)) (sq_in 1 rfl rfl (by simp) rfl (fun v w h => h)) (fun v v' w h h' => exCmp h h')
    · exact q_one (F := fun v _ => v = .int .i64 (cmpI p (2))) hp (free_of rfl) trivial (sq_in 2 rfl rfl (by simp) rfl (fun v w h => h)) (fun ρ w hc h => ⟨.bool false, by simp [execOp, go_sem, h, hc, T1.out], rfl⟩)
    · exact q_move hp (free_of rfl) trivial (sq_in 3 rfl rfl (by simp) rfl (fun v w h => h))
    · exact q_move hp (free_of rfl) (gq_some rfl rfl (by simp) rfl (fun v w h => h)) (sq_out rfl rfl (fun _ _ => rfl))
    · exact q_one (F := fun v _ => v = .int .i64 k) hp (free_of rfl) (gq_some rfl rfl (by simp) rfl (fun v w h => h)) (sq_in 5 rfl rfl (by simp) rfl (fun v w h => h)) (fun ρ w hc h => ⟨.bool false, by simp [execOp, go_sem, h, hc, T2.out], rfl⟩)
    · exact q_two (F := fun v _ => v = .bool false) (G := fun v _ => v = .bool false) hp (free_of rfl) trivial (sq_in 4 rfl rfl (by simp) rfl (fun v w h => h)) (sq_in 6 rfl rfl (by simp) rfl (fun v w h => h)) (fun ρ w hc h h' => ⟨_, by simp [execOp, go_sem, h, h'], rfl⟩)
    intro L vs w9 nb hL hC hn E9
    have e2 : vs 2 = .int .i64 (cmpI p (2)) := hC 2 (by simp)
    have e3 : vs 3 = .bool false := hC 3 (by simp)
    have e4 : vs 4 = .bool false := hC 4 (by simp)
    have e5 : vs 5 = .int .i64 k := hC 5 (by simp)
    have e6 : vs 6 = .bool false := hC 6 (by simp)
    have e7 : vs 7 = .bool false := hC 7 (by simp)
    have E : Fr w [(b2, 2, Fq.num p), (b1, 2, Fq.num a)] w9 := E9
    rw [lay_all hL]
    simp only [putAll, dstOf, List.length_cons, List.length_nil, Nat.zero_add, Nat.reduceAdd, List.getElem?_toArray, List.getElem?_cons_zero, List.getElem?_cons_succ, Option.bind_some, Act.put, List.setIfInBounds_toArray, List.set_cons_succ, List.set_cons_zero]
    rw [e2, e3, e4, e5, e6, e7]
    generalize vs 0 = u9_0
    generalize vs 1 = u9_1
    clear e2 e3 e4 e5 e6 e7 hC hn E9 hL vs L nb
    clear T1 T2
    go_upto_region 3 with (fail)
    refine region_fr (C := [Fq.num p, Fq.tup2 (Fq.is (.int .i64 0)) (Fq.is (.bool false)), Fq.tup2 (Fq.is (.int .i64 0)) (Fq.is (.bool false)), Fq.is (.int .i64 0), Fq.is (.bool false), Fq.is (.int .i64 0), Fq.is (.bool false)]) (ks := [none, none]) (new := []) E rfl (by kernel_rfl) rfl rfl (fun hp => ⟨?_, ?_, ?_, ?_, ?_, ?_, ?_, trivial⟩) ?_
    · exact q_loadInt (off := 0) hp (free_of rfl) trivial (List.mem_iff_getElem?.2 ⟨0, rfl⟩) (.inl rfl) (Nat.le_of_ble_eq_true rfl) (sq_out rfl rfl (fun _ _ => rfl)) (fun us w hl h => ld_num hl h)
    · exact q_call1 (F := (Fq.num p).P) hp (free_of rfl) trivial (enq_Low) (sq_in 0 rfl rfl (by simp) rfl (fun v w h => h)) (fun v w h => exLowQ h HL.out)
    · exact q_move hp (free_of rfl) trivial (sq_in 1 rfl rfl (by simp) rfl (fun v w h => h))
    · exact q_extract2 hp (free_of rfl) trivial (sq_in 2 rfl rfl (by simp) rfl (fun v w h => h)) (fun v1 v2 w h1 h2 => ⟨_, rfl, h1⟩)
    · exact q_extract2 hp (free_of rfl) trivial (sq_in 2 rfl rfl (by simp) rfl (fun v w h => h)) (fun v1 v2 w h1 h2 => ⟨_, rfl, h2⟩)
    · exact q_assign hp (free_of rfl) trivial (sq_in 3 rfl rfl (by simp) rfl (fun v w h => h))
    · exact q_assign hp (free_of rfl) trivial (sq_in 4 rfl rfl (by simp) rfl (fun v w h => h))
    intro L vs w10 nb hL hC hn E10
    have e3 : vs 3 = .int .i64 0 := hC 3 (by simp)
    have e4 : vs 4 = .bool false := hC 4 (by simp)
    have e5 : vs 5 = .int .i64 0 := hC 5 (by simp)
    have e6 : vs 6 = .bool false := hC 6 (by simp)
    have E : Fr w [(b2, 2, Fq.num p), (b1, 2, Fq.num a)] w10 := E10
    rw [lay_all hL]
    simp only [putAll, dstOf, List.length_cons, List.length_nil, Nat.zero_add, Nat.reduceAdd, List.getElem?_toArray, List.getElem?_cons_zero, List.getElem?_cons_succ, Option.bind_some, Act.put, List.setIfInBounds_toArray, List.set_cons_succ, List.set_cons_zero]
    rw [e3, e4, e5, e6]
    generalize vs 0 = u10_0
    generalize vs 1 = u10_1
    generalize vs 2 = u10_2
    clear e3 e4 e5 e6 hC hn E10 hL vs L nb
    go_upto_region 4 with (fail)
    refine region_fr (C := [Fq.is (.bool false), Fq.is (.bool true), Fq.is (.bool true), Fq.is (undef), Fq.is (undef), Fq.is (undef), Fq.is (undef), Fq.is (.bool true)]) (ks := [none, none]) (new := []) E rfl (by kernel_rfl) rfl rfl (fun hp => ⟨?_, ?_, ?_, ?_, ?_, ?_, ?_, ?_, trivial⟩) ?_
    · exact q_move hp (free_of rfl) trivial (sq_out rfl rfl (fun _ _ => rfl))
    · exact q_one (F := fun v _ => v = .bool false) hp (free_of rfl) trivial (sq_in 0 rfl rfl (by simp) rfl (fun v w h => h)) (fun ρ w _ h => ⟨.bool true, by simp [execOp, go_sem, h], rfl⟩)
    · exact q_move hp (free_of rfl) trivial (sq_in 1 rfl rfl (by simp) rfl (fun v w h => h))
    · exact q_skip hp (free_of rfl) rfl (gq_some rfl rfl (by simp) rfl (fun v w h => h)) (fun _ => rfl)
    · exact q_skip hp (free_of rfl) rfl (gq_some rfl rfl (by simp) rfl (fun v w h => h)) (fun _ => rfl)
    · exact q_skip hp (free_of rfl) rfl (gq_some rfl rfl (by simp) rfl (fun v w h => h)) (fun _ => rfl)
    · exact q_skip hp (free_of rfl) rfl (gq_some rfl rfl (by simp) rfl (fun v w h => h)) (fun _ => rfl)
    · exact q_two (F := fun v _ => v = .bool true) (G := fun v _ => v = .bool true) hp (free_of rfl) trivial (sq_in 2 rfl rfl (by simp) rfl (fun v w h => h)) (sq_const (fun _ => rfl)) (fun ρ w hc h h' => ⟨_, by simp [execOp, go_sem, h, h'], rfl⟩)
    intro L vs w11 nb hL hC hn E11
    have e0 : vs 0 = .bool false := hC 0 (by simp)
    have e1 : vs 1 = .bool true := hC 1 (by simp)
    have e2 : vs 2 = .bool true := hC 2 (by simp)
    have e3 : vs 3 = undef := hC 3 (by simp)
    have e4 : vs 4 = undef := hC 4 (by simp)
    have e5 : vs 5 = undef := hC 5 (by simp)
    have e6 : vs 6 = undef := hC 6 (by simp)
    have e7 : vs 7 = .bool true := hC 7 (by simp)
    have E : Fr w [(b2, 2, Fq.num p), (b1, 2, Fq.num a)] w11 := E11
    rw [lay_all hL]
    simp only [putAll, dstOf, List.length_cons, List.length_nil, Nat.zero_add, Nat.reduceAdd, List.getElem?_toArray, List.getElem?_cons_zero, List.getElem?_cons_succ, Option.bind_some, Act.put, List.setIfInBounds_toArray, List.set_cons_succ, List.set_cons_zero]
    rw [e0, e1, e2, e3, e4, e5, e6, e7]
    clear e0 e1 e2 e3 e4 e5 e6 e7 hC hn E11 hL vs L nb
    clear HL HP HK
    go_upto_region 5 with (fail)
    refine region_fr (C := [Fq.is (.slice none 0 0), Fq.is (.int .i64 2)]) (ks := [none, none]) (new := []) E rfl (by kernel_rfl) rfl rfl (fun hp => ⟨?_, ?_, trivial⟩) ?_
    · exact q_assign hp (free_of rfl) trivial (sq_const (fun _ => rfl))
    · exact q_assign hp (free_of rfl) trivial (sq_const (fun _ => rfl))
    intro L vs w12 nb hL hC hn E12
    have e0 : vs 0 = .slice none 0 0 := hC 0 (by simp)
    have e1 : vs 1 = .int .i64 2 := hC 1 (by simp)
    have E : Fr w [(b2, 2, Fq.num p), (b1, 2, Fq.num a)] w12 := E12
    rw [lay_all hL]
    simp only [putAll, dstOf, List.length_cons, List.length_nil, Nat.zero_add, Nat.reduceAdd, List.getElem?_toArray, List.getElem?_cons_zero, List.getElem?_cons_succ, Option.bind_some, Act.put, List.setIfInBounds_toArray, List.set_cons_succ, List.set_cons_zero]
    rw [e0, e1]
    clear e0 e1 hC hn E12 hL vs L nb
    clear B8 ha hm
    go_wp2
    refine bodyPost_ret (v := .tuple #[.slice none 0 0, .int .i64 2]) ?_ rfl ⟨_, rfl, E.below, _, rfl, ⟨_, _, rfl, .inl rfl⟩⟩
    simp [results, Tryd.results28, go_sem]

set_option maxRecDepth 100000 in
set_option maxHeartbeats 4000000 in
theorem exMRootsP {w : World} {v v' : Value} {a p k : Int} (h : Num w v a) (h' : Num w v' p) (ha : ab a < pw 90) (hm : ab p < pw 90) (hk : -9223372036854775808 ≤ k ∧ k ≤ 9223372036854775807) (h0 : 2 ≤ p) (h1 : 1 ≤ k) (hb : p ^ k.toNat ≤ 1048576) :
    Calls Tryd.prog 28 #[v, v', .int .i64 k] w fun e w' => ∃ v', e = .returned v' ∧ Below w.heap.size w w' ∧ ∃ l, v' = .tuple #[l, .int .i64 0] ∧ Nums w' l (lifts a p k.toNat) := by
  replace ha := hidd ha
  replace hm := hidd hm
  replace hk := hidd hk
  obtain ⟨n0, ao0, k0, c0, rfl⟩ := h.parts
  obtain ⟨n1, ao1, k1, c1, rfl⟩ := h'.parts
  obtain ⟨w1, b1, hw1, hb1, hs1, E⟩ := fr_start w (F := Fq.num a) (us := [.bool n0, .slice ao0 k0 c0]) 29 rfl (by simp) (tame_int _ _ _ _) h
  obtain ⟨w2, b2, hw2, hb2, hs2, E⟩ := fr_more E hs1 (F := Fq.num p) (us := [.bool n1, .slice ao1 k1 c1]) 29 rfl (by simp) (tame_int _ _ _ _) (h'.mono E.below)
  go_enter Tryd.func28, Tryd.ntmps28
  go_upto_region 1 with (fail)
  rw [← hw1]
  rw [← hw2]
  rw [← hb2]
  rw [← hb1]
  clear hw1 hw2 hb1 hb2 hs2 hs1
  have hpp : p ≤ 1048576 := by have := pow_mono_two h0 (show 1 ≤ k.toNat by omega); rw [Int.pow_succ, Int.pow_zero, Int.one_mul] at this; omega
  have HL := hidd (lowV_in (z := p) (by omega) (by omega))
  have HPR : Hid (2 ≤ p ∧ p < 9223372036854775808) := ⟨h0, by omega⟩
  have HKR : Hid (1 ≤ k ∧ k < 9223372036854775808) := ⟨h1, by have := hk.out; omega⟩
  have HD : Hid (decide (p ^ k.toNat ≤ 1048576) = true) := decide_eq_true hb
  have HB := hidd hb
  clear hpp hb hk
  have T1 : Hid (¬ cmpI p (2) < 0) := fun e => by have := cmpIqlt.1 e; omega
  have T2 : Hid (¬ k < 1) := by show ¬ _; omega
  have HP := hidd h0
  have HK := hidd h1
  clear h0 h1
  have B3 : Hid (ab ((2)) < pw 3) := ab_lit (by decide)
  refine region_fr (C := [Fq.num p, Fq.num (2), Fq.is (.int .i64 (cmpI p (2))), Fq.is (.bool false), Fq.is (.bool false), Fq.is (.int .i64 k), Fq.is (.bool false), Fq.is (.bool false)]) (ks := [none, none]) (new := []) E rfl (by kernel_rfl) rfl rfl (fun hp => ⟨?_, ?_, ?_, ?_, ?_, ?_, ?_, ?_, trivial⟩) ?_
  · exact q_loadInt (off := 0) hp (free_of rfl) trivial (List.mem_iff_getElem?.2 ⟨0, rfl⟩) (.inl rfl) (Nat.le_of_ble_eq_true rfl) (sq_out rfl rfl (fun _ _ => rfl)) (fun us w hl h => ld_num hl h)
  · exact q_call1 (F := (Fq.is (.int .i64 2)).P) hp (free_of rfl) trivial (enq_Of) (sq_const (fun _ => rfl)) (fun v w h => (by subst h; exact OfK w (2) (by omega) (by omega)))
  · exact q_call2 (F := (Fq.num p).P) (G := (Fq.num (2)).P) hp (free_of rfl) trivial (enq_Cmp) (sq_in 0 rfl rfl (by simp) rfl (fun v w h => h)) (sq_in 1 rfl rfl (by simp) rfl (fun v w h => h)) (fun v v' w h h' => exCmp h h')
  · exact q_one (F := fun v _ => v = .int .i64 (cmpI p (2))) hp (free_of rfl) trivial (sq_in 2 rfl rfl (by simp) rfl (fun v w h => h)) (fun ρ w hc h => ⟨.bool false, by simp [execOp, go_sem, h, hc, T1.out], rfl⟩)
  · exact q_move hp (free_of rfl) trivial (sq_in 3 rfl rfl (by simp) rfl (fun v w h => h))
  · exact q_move hp (free_of rfl) (gq_some rfl rfl (by simp) rfl (fun v w h => h)) (sq_out rfl rfl (fun _ _ => rfl))
  · exact q_one (F := fun v _ => v = .int .i64 k) hp (free_of rfl) (gq_some rfl rfl (by simp) rfl (fun v w h => h)) (sq_in 5 rfl rfl (by simp) rfl (fun v w h => h)) (fun ρ w hc h => ⟨.bool false, by simp [execOp, go_sem, h, hc, T2.out], rfl⟩)
  · exact q_two (F := fun v _ => v = .bool false) (G := fun v _ => v = .bool false) hp (free_of rfl) trivial (sq_in 4 rfl rfl (by simp) rfl (fun v w h => h)) (sq_in 6 rfl rfl (by simp) rfl (fun v w h => h)) (fun ρ w hc h h' => ⟨_, by simp [execOp, go_sem, h, h'], rfl⟩)
  intro L vs w4 nb hL hC hn E4
  have e2 : vs 2 = .int .i64 (cmpI p (2)) := hC 2 (by simp)
  have e3 : vs 3 = .bool false := hC 3 (by simp)
  have e4 : vs 4 = .bool false := hC 4 (by simp)
  have e5 : vs 5 = .int .i64 k := hC 5 (by simp)
  have e6 : vs 6 = .bool false := hC 6 (by simp)
  have e7 : vs 7 = .bool false := hC 7 (by simp)
  have E : Fr w [(b2, 2, Fq.num p), (b1, 2, Fq.num a)] w4 := E4
  rw [lay_all hL]
  simp only [putAll, dstOf, List.length_cons, List.length_nil, Nat.zero_add, Nat.reduceAdd, List.getElem?_toArray, List.getElem?_cons_zero, List.getElem?_cons_succ, Option.bind_some, Act.put, List.setIfInBounds_toArray, List.set_cons_succ, List.set_cons_zero]
  rw [e2, e3, e4, e5, e6, e7]
  generalize vs 0 = u4_0
  generalize vs 1 = u4_1
  clear e2 e3 e4 e5 e6 e7 hC hn E4 hL vs L nb
  clear T1 T2
  go_upto_region 3 with (fail)
  refine region_fr (C := [Fq.num p, Fq.tup2 (Fq.is (.int .i64 p)) (Fq.is (.bool true)), Fq.tup2 (Fq.is (.int .i64 p)) (Fq.is (.bool true)), Fq.is (.int .i64 p), Fq.is (.bool true), Fq.is (.int .i64 p), Fq.is (.bool true)]) (ks := [none, none]) (new := []) E rfl (by kernel_rfl) rfl rfl (fun hp => ⟨?_, ?_, ?_, ?_, ?_, ?_, ?_, trivial⟩) ?_
  · exact q_loadInt (off := 0) hp (free_of rfl) trivial (List.mem_iff_getElem?.2 ⟨0, rfl⟩) (.inl rfl) (Nat.le_of_ble_eq_true rfl) (sq_out rfl rfl (fun _ _ => rfl)) (fun us w hl h => ld_num hl h)
  · exact q_call1 (F := (Fq.num p).P) hp (free_of rfl) trivial (enq_Low) (sq_in 0 rfl rfl (by simp) rfl (fun v w h => h)) (fun v w h => exLowQ h HL.out)
  · exact q_move hp (free_of rfl) trivial (sq_in 1 rfl rfl (by simp) rfl (fun v w h => h))
  · exact q_extract2 hp (free_of rfl) trivial (sq_in 2 rfl rfl (by simp) rfl (fun v w h => h)) (fun v1 v2 w h1 h2 => ⟨_, rfl, h1⟩)
  · exact q_extract2 hp (free_of rfl) trivial (sq_in 2 rfl rfl (by simp) rfl (fun v w h => h)) (fun v1 v2 w h1 h2 => ⟨_, rfl, h2⟩)
  · exact q_assign hp (free_of rfl) trivial (sq_in 3 rfl rfl (by simp) rfl (fun v w h => h))
  · exact q_assign hp (free_of rfl) trivial (sq_in 4 rfl rfl (by simp) rfl (fun v w h => h))
  intro L vs w5 nb hL hC hn E5
  have e3 : vs 3 = .int .i64 p := hC 3 (by simp)
  have e4 : vs 4 = .bool true := hC 4 (by simp)
  have e5 : vs 5 = .int .i64 p := hC 5 (by simp)
  have e6 : vs 6 = .bool true := hC 6 (by simp)
  have E : Fr w [(b2, 2, Fq.num p), (b1, 2, Fq.num a)] w5 := E5
  rw [lay_all hL]
  simp only [putAll, dstOf, List.length_cons, List.length_nil, Nat.zero_add, Nat.reduceAdd, List.getElem?_toArray, List.getElem?_cons_zero, List.getElem?_cons_succ, Option.bind_some, Act.put, List.setIfInBounds_toArray, List.set_cons_succ, List.set_cons_zero]
  rw [e3, e4, e5, e6]
  generalize vs 0 = u5_0
  generalize vs 1 = u5_1
  generalize vs 2 = u5_2
  clear e3 e4 e5 e6 hC hn E5 hL vs L nb
  go_upto_region 4 with (fail)
  refine region_fr (C := [Fq.is (.bool true), Fq.is (.bool false), Fq.is (.bool false), Fq.is (.int .i64 p), Fq.is (.int .i64 k), Fq.is (.bool true), Fq.is (.bool false), Fq.is (.bool false)]) (ks := [none, none]) (new := []) E rfl (by kernel_rfl) rfl rfl (fun hp => ⟨?_, ?_, ?_, ?_, ?_, ?_, ?_, ?_, trivial⟩) ?_
  · exact q_move hp (free_of rfl) trivial (sq_out rfl rfl (fun _ _ => rfl))
  · exact q_one (F := fun v _ => v = .bool true) hp (free_of rfl) trivial (sq_in 0 rfl rfl (by simp) rfl (fun v w h => h)) (fun ρ w _ h => ⟨.bool false, by simp [execOp, go_sem, h], rfl⟩)
  · exact q_move hp (free_of rfl) trivial (sq_in 1 rfl rfl (by simp) rfl (fun v w h => h))
  · exact q_move hp (free_of rfl) (gq_some rfl rfl (by simp) rfl (fun v w h => h)) (sq_out rfl rfl (fun _ _ => rfl))
  · exact q_move hp (free_of rfl) (gq_some rfl rfl (by simp) rfl (fun v w h => h)) (sq_out rfl rfl (fun _ _ => rfl))
  · exact q_call2 (F := (Fq.is (.int .i64 p)).P) (G := (Fq.is (.int .i64 k)).P) hp (free_of rfl) (gq_some rfl rfl (by simp) rfl (fun v w h => h)) (enq_M_smallPower) (sq_in 3 rfl rfl (by simp) rfl (fun v w h => h)) (sq_in 4 rfl rfl (by simp) rfl (fun v w h => h)) (fun v v' w h h' => (by subst h; subst h'; exact exSmallPower HPR.out HKR.out HD.out))
  · exact q_one (F := fun v _ => v = .bool true) hp (free_of rfl) (gq_some rfl rfl (by simp) rfl (fun v w h => h)) (sq_in 5 rfl rfl (by simp) rfl (fun v w h => h)) (fun ρ w _ h => ⟨.bool false, by simp [execOp, go_sem, h], rfl⟩)
  · exact q_two (F := fun v _ => v = .bool false) (G := fun v _ => v = .bool false) hp (free_of rfl) trivial (sq_in 2 rfl rfl (by simp) rfl (fun v w h => h)) (sq_in 6 rfl rfl (by simp) rfl (fun v w h => h)) (fun ρ w hc h h' => ⟨_, by simp [execOp, go_sem, h, h'], rfl⟩)
  intro L vs w6 nb hL hC hn E6
  have e0 : vs 0 = .bool true := hC 0 (by simp)
  have e1 : vs 1 = .bool false := hC 1 (by simp)
  have e2 : vs 2 = .bool false := hC 2 (by simp)
  have e3 : vs 3 = .int .i64 p := hC 3 (by simp)
  have e4 : vs 4 = .int .i64 k := hC 4 (by simp)
  have e5 : vs 5 = .bool true := hC 5 (by simp)
  have e6 : vs 6 = .bool false := hC 6 (by simp)
  have e7 : vs 7 = .bool false := hC 7 (by simp)
  have E : Fr w [(b2, 2, Fq.num p), (b1, 2, Fq.num a)] w6 := E6
  rw [lay_all hL]
  simp only [putAll, dstOf, List.length_cons, List.length_nil, Nat.zero_add, Nat.reduceAdd, List.getElem?_toArray, List.getElem?_cons_zero, List.getElem?_cons_succ, Option.bind_some, Act.put, List.setIfInBounds_toArray, List.set_cons_succ, List.set_cons_zero]
  rw [e0, e1, e2, e3, e4, e5, e6, e7]
  clear e0 e1 e2 e3 e4 e5 e6 e7 hC hn E6 hL vs L nb
  clear HL HD
  obtain ⟨p0, p1, c0, c1, hP⟩ := box_num (E.box 1 rfl)
  have HE := hidd E.below
  have HPN := hidd hP
  clear E hP
  have HA90 := Bd90.mk ha.out
  have HM90 := Bd90.mk hm.out
  clear ha hm
  clear B3 HP HK
  obtain ⟨xs, hxs⟩ : ∃ xs, xs = lifts a p k.toNat := ⟨_, rfl⟩
  have HC := liftedRoots_any HPN.out HA90.out HPR.out.1 HKR.out HB.out
  rw [← hxs] at HC
  have HXE := hidd hxs
  clear hxs
  go_wp2_with (first | (go_at_call 60; refine HC.mono ?_; rintro e V ⟨lv, rfl, hbV, hLV⟩; obtain ⟨ao, cap, rfl⟩ := hLV.shape) | fail)
  have HBV := hidd (HE.out.trans (hbV.mono HE.out.size))
  have HLI := hidd hLV
  clear hbV hLV c0 c1
  have hlen := lifts_len (a := a) HPR.out.1 k.toNat
  have HRG := hidd (lifts_range (a := a) HPR.out.1 k.toNat)
  have HB2 := HB.out
  rw [← HXE.out] at hlen HRG
  have HXS : Hid (∀ i, i < xs.length → 0 ≤ xs.getD i 0 ∧ xs.getD i 0 < 1048576) := fun i hi => by
    have := HRG.out _ (getD_mem hi)
    omega
  have hlen2 : Hid (xs.length ≤ 1048576) := by show _ ≤ _; omega
  clear hlen HRG HB HB2 HPN HC
  obtain ⟨i0, hi, hz0, hz1, hz2⟩ := info_parts info_int
  have HSZ := hidd HBV.out.size
  go_wp2
  go_loopw [10, 39] (fun vl vi W => ∃ i : Nat, vi = .int .i64 i ∧ i ≤ xs.length ∧ Ln W V.heap.size vl (xs.take i) ∧ Below V.heap.size V W) (fun _ vi _ => xs.length - (intOf vi).toNat)
  case atStart => exact ⟨0, rfl, Nat.zero_le _, Ln.nil _ _, Below.refl _ _⟩
  case round =>
    obtain ⟨V2, rfl⟩ : ∃ V2, V2 = wr := ⟨_, rfl⟩
    obtain ⟨i, rfl, hix, HL2, HB2⟩ := hrel
    have hl0 := hlen2.out
    by_cases hil : i < xs.length
    · obtain ⟨ad, hao, hc⟩ := (HLI.out.mono HB2).cell hil
      subst hao
      obtain ⟨x, hx⟩ : ∃ x, x = xs.getD i 0 := ⟨_, rfl⟩
      have hxr := HXS.out i hil
      rw [← hx] at hc hxr
      have HXR : Hid (0 ≤ x ∧ x ≤ 9223372036854775807) := ⟨hxr.1, by omega⟩
      have HT : Hid (xs.take (i + 1) = xs.take i ++ [x]) := by
        show _ = _
        rw [List.take_succ_eq_append_getElem hil, hx]
        simp [hil]
      have htl : (xs.take i).length = i := by rw [List.length_take]; omega
      obtain ⟨ao2, cap2, rfl⟩ := HL2.shape
      obtain ⟨us, hO, hE⟩ := HL2
      have hsz3 := HB2.size
      have g9 : IntKind.i64.wrap ((i : Int) + 1) = (i : Int) + 1 := IntWalk.i64_in _ (by omega)
      have HLT := hidd hil
      obtain ⟨ys, hys⟩ : ∃ ys, ys = xs.take i := ⟨_, rfl⟩
      rw [← hys] at hO hE htl HT ⊢
      have hyl : ys.length ≤ 1048576 := by omega
      have HTL := hidd htl
      have HO := hidd hO
      have HE2 := hidd hE
      have HB2H := hidd HB2
      clear hx hxr hO hE hys HB2 htl
      go_wp2_with (first | (go_at_call 57; refine (OfNew _ x HXR.out.1 HXR.out.2).mono ?_; rintro e w5 ⟨ng, ao5, n5, c5, rfl, hnew, hN, hB5⟩) | (at_builtin; (refine wpList_append_lies (n := ys.length) (xs := us) _ rfl _ _ 52 rfl V.heap.size 29 i0 (.agg #[.bool false, .slice none 0 0]) 2 32 Tryd.underlying52 hi hz0 hz1 hz2 rfl (by decide) _ rfl (World.ownsRow.alloc (owns_below HO.out hB5) _) ⟨_, 0, none⟩ 1 1 [.bool ng, .slice ao5 n5 c5] rfl rfl (World.news_of_block (heap_alloc_new _ _)) (by intro u hu; simp at hu; rcases hu with rfl | rfl <;> rfl) (by decide) (by unfold maxLen; omega) (by omega) (Nat.le_trans hsz3 (Nat.le_trans hB5.size (by simp))) _ rfl ?_; intro g cap w6 hown' hgrow hat hlt)) | fail)
      obtain ⟨hS, hS2⟩ := Ln.step HO.out HE2.out hsz3 HB2H.out hB5 hnew hN hown' hgrow hat rfl
      have hS4 := hidd hS
      have hS5 := hidd hS2
      clear hown' hgrow hat hlt hS hS2 hnew hN hB5 HO HE2
      go_wp2
      go_roundw
      case rel => exact ⟨i + 1, by go_num, by omega, by rw [HT.out]; exact hS4.out, hS5.out⟩
      case measure => simp [intOf]; omega
    · have he : i = xs.length := by omega
      have HF : Hid (Ln V2 V.heap.size u10 xs) := by
        show Ln _ _ _ _
        rw [he, List.take_length] at HL2
        exact HL2
      have HBF := hidd (HBV.out.trans (HB2.mono HBV.out.size))
      clear HL2 HB2 he
      go_wp2
      refine bodyPost_ret (v := .tuple #[u10, .int .i64 0]) (by simp [results, Tryd.results28, go_sem]) rfl ⟨_, rfl, HBF.out, _, rfl, by rw [← HXE.out]; exact HF.out.nums⟩

end Go.Proofs.YtieobgadihcgeaaDoor

/- Steps of a region over slices of numbers; three descriptions. -/
namespace Go.Proofs.YtieobgadihcgeaaDoor
open Go Go.RowKit

/-- Numbers, one behind the other. -/
def IntsV (w : World) (us : List Value) (zs : List Int) : Prop := us.length = zs.length * 2 ∧ ∀ i z, zs[i]? = some z → ∃ n ao k c, us.getD (i * 2) undef = .bool n ∧ us.getD (i * 2 + 1) undef = .slice ao k c ∧ Num w (.agg #[.bool n, .slice ao k c]) z
def Fq.ints (zs : List Int) : Fq := ⟨fun v w => ∃ us : List Value, v = .agg us.toArray ∧ IntsV w us zs,
  fun ⟨us, e, hl, h⟩ hb => ⟨us, e, hl, fun i z hi => by obtain ⟨n, ao, k, c, g1, g2, g3⟩ := h i z hi; exact ⟨n, ao, k, c, g1, g2, g3.mono hb⟩⟩,
  fun ⟨us, e, hl, h⟩ ha ht hl2 => ⟨us, e, hl, fun i z hi => by obtain ⟨n, ao, k, c, g1, g2, g3⟩ := h i z hi; exact ⟨n, ao, k, c, g1, g2, g3.putAt ha ht hl2⟩⟩⟩
theorem Bq.nums {w : World} {b m l : Nat} {zs : List Int} (h : Bq w b m (Fq.ints zs)) (hm : m = zs.length * 2) (hl : l = zs.length) : Nums w (.slice (some ⟨b, 0, none⟩) l l) zs := by
  have hlt := h.lt
  obtain ⟨us, h1, h2, h3, h4, us2, e, h5, h6⟩ := h
  injection e with e
  have e2 := congrArg Array.toList e
  simp at e2
  subst e2
  subst hl
  refine ⟨_, _, rfl, .inr ⟨b, rfl, hlt, fun i z hi => ?_⟩⟩
  have hil : i < zs.length := by
    rcases Nat.lt_or_ge i zs.length with h | h
    · exact h
    · rw [List.getElem?_eq_none h] at hi; cases hi
  obtain ⟨n, ao, k, c, g1, g2, g3⟩ := h6 i z hi
  exact ⟨n, ao, k, c, (h3 (i * 2) (by omega)).1.trans (by rw [g1]), (h3 (i * 2 + 1) (by omega)).1.trans (by rw [g2]), g3⟩
section
variable {n1 n2 n3 : Bool} {a1 a2 a3 : Option Addr} {k1 c1 k2 c2 k3 c3 : Nat} {xs1 xs2 xs3 : List Int}
end

section
variable {os : List Oper} {Q : Exit → Act → World → Prop} {a : Act} {p : Pq} {B B0 : Nat} {w0 : World}
variable {i s : Nat} {d : Option Tmp} {ty : TypeId} {ps : String} {af : Array Edge} {gd : Option (Nat × Bool)}
/-- A slice is built of four numbers. -/
theorem q_buildInts4 {n0 : Nb} {x y z t : Operand} {z1 z2 z3 z4 : Int} (hp : p.Ok B B0) (hg : GdQ os a p B B0 w0 af gd) (hi : n0 ∈ p.new) (hii : n0.i = i) (hki : n0.k = i) (hsl : n0.s = some 4) (hm : n0.m = 8) (hF1 : n0.F1 = Fq.ints [z1, z2, z3, z4])
    (hx : SrcQ os a p B B0 w0 af x fun v w => Num w v z1) (hy : SrcQ os a p B B0 w0 af y fun v w => Num w v z2) (hz : SrcQ os a p B B0 w0 af z fun v w => Num w v z3) (ht : SrcQ os a p B B0 w0 af t fun v w => Num w v z4)
    (hC : ∀ v w', (p.c i).P v w') (h1 : ∀ o ∈ p.old, o.k ≠ i) (h2 : ∀ n ∈ p.new, n.i ≠ i → n.k ≠ i) :
    StepQ os Q a p B B0 w0 i { dst := d, op := .buildSlice 52 4 #[(0, x), (1, y), (2, z), (3, t)], type := ty, pos := ps, after := af, guard := gd } := by
  intro hio L vs w hG hL hd hc
  have p1 := hx L vs w hG hd
  have p2 := hy L vs w hG hd
  have p3 := hz L vs w hG hd
  have p4 := ht L vs w hG hd
  obtain ⟨m1, a1, k1, c1, e1⟩ := p1.parts
  obtain ⟨m2, a2, k2, c2, e2⟩ := p2.parts
  obtain ⟨m3, a3, k3, c3, e3⟩ := p3.parts
  obtain ⟨m4, a4, k4, c4, e4⟩ := p4.parts
  rw [e1] at p1
  rw [e2] at p2
  rw [e3] at p3
  rw [e4] at p4
  obtain ⟨us, hus⟩ : ∃ us : List Value, us = [.bool m1, .slice a1 k1 c1, .bool m2, .slice a2 k2 c2, .bool m3, .slice a3 k3 c3, .bool m4, .slice a4 k4 c4] := ⟨_, rfl⟩
  refine wpOp_step hio fun K' hK => ?_
  rw [if_pos (wanted_of (o := { dst := d, op := .buildSlice 52 4 #[(0, x), (1, y), (2, z), (3, t)], type := ty, pos := ps, after := af, guard := gd }) hg hG hd)]
  have e : (execOp (lay os.toArray L vs os.toArray.size a).eval ({ dst := d, op := .buildSlice 52 4 #[(0, x), (1, y), (2, z), (3, t)], type := ty, pos := ps, after := af, guard := gd } : Oper)).run Tryd.prog w = .ok (.value (.slice (some ⟨w.heap.size, 0, none⟩) 4 4)) (w.alloc (.cells us.toArray 29)) := by
    generalize (lay os.toArray L vs os.toArray.size a).eval = ρ at e1 e2 e3 e4
    simp [execOp, go_sem, e1, e2, e3, e4, hus]
  unfold Oper.wp
  rw [e]
  have hb := alloc_below w (.cells us.toArray 29)
  subst hii
  have hnow : n0.now (up L n0.i true) = n0.F1 := by
    unfold Nb.now
    rw [hsl]
    rfl
  have hlay := hG.lay hp hi (F := n0.F1) hnow hC h1 h2 29 (us := us) (by rw [hus, hm]; rfl) (by omega) (by
      rw [hus]
      intro u hu q e
      simp at hu
      rcases hu with rfl | rfl | rfl | rfl | rfl | rfl | rfl | rfl <;> cases e) (by
      rw [hF1]
      refine ⟨us, rfl, by rw [hus]; rfl, fun k n hk => ?_⟩
      rw [hus]
      rw [hus] at hb
      match k, hk with
      | 0, hk => injection hk with q1; subst q1; exact ⟨_, _, _, _, rfl, rfl, p1.mono hb⟩
      | 1, hk => injection hk with q1; subst q1; exact ⟨_, _, _, _, rfl, rfl, p2.mono hb⟩
      | 2, hk => injection hk with q1; subst q1; exact ⟨_, _, _, _, rfl, rfl, p3.mono hb⟩
      | 3, hk => injection hk with q1; subst q1; exact ⟨_, _, _, _, rfl, rfl, p4.mono hb⟩
      | k + 4, hk => simp at hk)
  have hptr : n0.ptr w.heap.size = .slice (some ⟨w.heap.size, 0, none⟩) 4 4 := by unfold Nb.ptr; rw [hsl]
  rw [hptr] at hlay
  exact hK _ _ ⟨_, rfl, hlay⟩
theorem q_call0W {f : FuncId} {ts : Array TypeId} (hp : p.Ok B B0) (hF : p.Free i) (hg : GdQ os a p B B0 w0 af gd) (hen : ∀ args w, (callFunc f args).run Tryd.prog w = .ok (.enter f args) w) (hB : B = w0.heap.size)
    (hC : ∀ w, Below w0.heap.size w0 w → Calls Tryd.prog f #[] w fun e w' => ∃ v', e = .returned v' ∧ Below w.heap.size w w' ∧ (p.c i).P v' w') :
    StepQ os Q a p B B0 w0 i { dst := d, op := .call { callee := .value (.func f), args := #[], argTypes := ts }, type := ty, pos := ps, after := af, guard := gd } := by
  subst hB
  exact stq_call hp hF hg hen fun L vs w hG _ => ⟨#[], by simp, hC w hG.below⟩
/-- A slice of the region is passed on behind another value; the call knows that the world from before stands. -/
theorem q_callWSl {n0 : Nb} {x y : Operand} {l : Nat} {F : Value → World → Prop} {f : FuncId} {ts : Array TypeId} (hp : p.Ok B B0) (hF : p.Free i) (hg : GdQ os a p B B0 w0 af gd) (hen : ∀ args w, (callFunc f args).run Tryd.prog w = .ok (.enter f args) w) (hB : B = w0.heap.size) (hi : n0 ∈ p.new) (hsl : n0.s = some (.sl l))
    (hx : SrcQ os a p B B0 w0 af x F) (hy : ∀ L vs w, p.G B B0 w0 L vs w → (∀ e ∈ af, Region.binds .any e = true → L e.on = true) → L n0.i = true ∧ (lay os.toArray L vs os.toArray.size a).eval y = vs n0.i)
    (hC : ∀ v b w, Below w0.heap.size w0 w → F v w → Bq w b n0.m n0.F1 → Calls Tryd.prog f #[v, .slice (some ⟨b, 0, none⟩) l l] w fun e w' => ∃ v', e = .returned v' ∧ Below w.heap.size w w' ∧ (p.c i).P v' w') :
    StepQ os Q a p B B0 w0 i { dst := d, op := .call { callee := .value (.func f), args := #[x, y], argTypes := ts }, type := ty, pos := ps, after := af, guard := gd } :=
  stq_call hp hF hg hen fun L vs w hG hd => by
    subst hB
    obtain ⟨hLi, hye⟩ := hy L vs w hG hd
    obtain ⟨b, e1, _, hb⟩ := hG.new _ hi hLi
    have hptr : n0.ptr b = .slice (some ⟨b, 0, none⟩) l l := by unfold Nb.ptr; rw [hsl]
    have hnow : n0.now L = n0.F1 := by
      unfold Nb.now
      rw [hsl]
      rfl
    rw [hnow] at hb
    refine ⟨#[(lay os.toArray L vs os.toArray.size a).eval x, .slice (some ⟨b, 0, none⟩) l l], ?_, hC _ b w hG.below (hx L vs w hG hd) hb⟩
    have hm : #[x, y].map (lay os.toArray L vs os.toArray.size a).eval = #[(lay os.toArray L vs os.toArray.size a).eval x, (lay os.toArray L vs os.toArray.size a).eval y] := by
      generalize (lay os.toArray L vs os.toArray.size a).eval = ρ
      simp
    rw [hm, hye, e1, hptr]
theorem op_allocGot {ops : Array Oper} {K : Act → World → Prop} {w : World} (ho : ops[i]? = some { dst := d, op := .alloc 36, type := ty, pos := ps, after := af, guard := none })
    (h : K (a.put d (.pointer (some ⟨w.heap.size, 0, none⟩))) (w.alloc (.cells zeroGot.toArray 36))) : wpOp Tryd.prog ops Q i K a w := by
  refine wpOp_step ho fun K' hK => ?_
  have e : (execOp a.eval ({ dst := d, op := .alloc 36, type := ty, pos := ps, after := af, guard := none } : Oper)).run Tryd.prog w = (.ok (.value (.pointer (some ⟨w.heap.size, 0, none⟩))) (w.alloc (.cells zeroGot.toArray 36))) := by
    generalize a.eval = ρ
    simp [execOp, go_sem, zeroGot]
  have hwn : Region.wanted ({ dst := d, op := .alloc 36, type := ty, pos := ps, after := af, guard := none } : Oper) (yielded ops a.tmps) = true := rfl
  rw [if_pos hwn]
  unfold Oper.wp
  rw [e]
  exact hK _ _ h
theorem q_allocGot {n0 : Nb} (hp : p.Ok B B0) (hi : n0 ∈ p.new) (hii : n0.i = i) (hsl : n0.s = none) (hm : n0.m = 3) (hk : leadsB os 9 n0.k i = true) (hki : n0.k ≠ i) (hC : ∀ v w', (p.c i).P v w') (h1 : ∀ o ∈ p.old, o.k ≠ i) (h2 : ∀ n ∈ p.new, n.k ≠ i) (hF : ∀ w', n0.F0.P (.agg zeroGot.toArray) w') :
    StepQ os Q a p B B0 w0 i { dst := d, op := .alloc 36, type := ty, pos := ps, after := af, guard := none } := by
  subst hii
  intro hio L vs w hG hL hd hc
  exact op_allocGot hio ⟨_, rfl, hG.alloc hp hi hsl (not_yet hc hk hL) hki hC h1 h2 _ (us := zeroGot) hm.symm (by omega) (tame_got _ _ _ _ _) hF⟩
theorem q_storeNewGot {n0 : Nb} {x y : Operand} (hp : p.Ok B B0) (hi : n0 ∈ p.new) (hki : n0.k = i) (hsl : n0.s = none) (hm : n0.m = 3) (hx : ∀ L vs w, p.G B B0 w0 L vs w → (∀ e ∈ af, Region.binds .any e = true → L e.on = true) → L n0.i = true ∧ (lay os.toArray L vs os.toArray.size a).eval x = vs n0.i) (hy : SrcQ os a p B B0 w0 af y (GotV n0.F1))
    (hC : ∀ v w', (p.c i).P v w') (h1 : ∀ o ∈ p.old, o.k ≠ i) (h2 : ∀ n ∈ p.new, n.i ≠ i) : StepQ os Q a p B B0 w0 i { dst := none, op := .store 36 x y, type := ty, pos := ps, after := af, guard := none } := by
  subst hki
  intro hio L vs w hG hL hd hc
  obtain ⟨hLi, hxe⟩ := hx L vs w hG hd
  obtain ⟨n, ao, k, c, r, e, hP⟩ := hy L vs w hG hd
  obtain ⟨b, e1', e2, us, g1, g2, g3, g4, g5⟩ := hG.new _ hi hLi
  have e1 : vs n0.i = .pointer (some ⟨b, 0, none⟩) := by rw [e1']; unfold Nb.ptr; rw [hsl]
  rw [e] at hP
  exact op_storeGot hio (hxe.trans e1) e g3 (by omega) ⟨undef, rfl, hG.storeNew hp hi hLi (us := [.bool n, .slice ao k c, .int .i64 r]) hm.symm (tame_got _ _ _ _ _) hP hC h1 h2 e1' _⟩
end
end Go.Proofs.YtieobgadihcgeaaDoor

/- Lists of numbers in a region that draws its order; the list of roots, counted up. -/
namespace Go.Proofs.YtieobgadihcgeaaDoor
open Go Go.RowKit

/-- The numbers below n. -/
def upTo (n : Nat) : List Int := (List.range n).map fun i : Nat => (i : Int)
theorem upTo_succ (n : Nat) : upTo (n + 1) = upTo n ++ [(n : Int)] := by
  unfold upTo
  rw [List.range_succ, List.map_append]
  rfl
theorem upTo_add (n m : Nat) : upTo (n + m) = upTo n ++ (upTo m).map fun x => (n : Int) + x := by
  induction m with
  | zero => simp [upTo]
  | succ m ih =>
    rw [← Nat.add_assoc, upTo_succ, ih, upTo_succ, List.map_append, List.append_assoc]
    simp
/-- The roots below the modulus. -/
def rootsB (r M : Int) (n : Nat) : List Int := (upTo n).filter (keepR r M)
theorem keep_low {a m M b x : Int} (hd : m ∣ M) (h : keepR (a % M) M (b * m + x) = true) : keepR (a % m) m x = true := by
  unfold keepR at *
  simp only [decide_eq_true_eq] at *
  have h1 : ((b * m + x) * (b * m + x)) % M % m = a % M % m := by rw [h]
  rw [Int.emod_emod_of_dvd _ hd, Int.emod_emod_of_dvd _ hd] at h1
  rw [← h1]
  have e : (b * m + x) * (b * m + x) = x * x + m * (b * (b * m + x) + x * b) := by
    simp only [Int.add_mul, Int.mul_add]
    have e1 : b * m * (b * m) = m * (b * (b * m)) := by ac_rfl
    have e2 : b * m * x = m * (b * x) := by ac_rfl
    have e3 : x * (b * m) = m * (x * b) := by ac_rfl
    rw [e1, e2, e3]; omega
  rw [e, Int.add_mul_emod_self_left]
theorem sweep_rootsB {a m M : Int} (n : Nat) (b : Int) (hd : m ∣ M) : sweep (a % M) M (b * m) (rootsB (a % m) m n) = ((upTo n).map fun x => b * m + x).filter (keepR (a % M) M) := by
  unfold sweep rootsB
  rw [List.filter_map, List.filter_map, List.filter_filter]
  congr 1
  refine List.filter_congr fun x _ => ?_
  cases h : keepR (a % M) M (b * m + x)
  · simp [h]
  · have := keep_low hd h
    simp [h, this]
theorem lift_rootsB {a m M : Int} {n : Nat} (hn : (n : Int) = m) (hd : m ∣ M) : ∀ t : Nat, lift (a % M) M m (rootsB (a % m) m n) t = rootsB (a % M) M (t * n)
  | 0 => by simp [lift, rootsB, upTo]
  | t + 1 => by
    rw [lift, lift_rootsB hn hd t, sweep_rootsB n t hd]
    unfold rootsB
    rw [show (t + 1) * n = t * n + n by rw [Nat.succ_mul], upTo_add, List.filter_append]
    congr 2
    rw [show (((t * n : Nat) : Int)) = t * m by rw [← hn]; exact Int.natCast_mul _ _]
theorem lifts_rootsB {a p : Int} (hp : 0 < p) : ∀ k : Nat, lifts a p k = rootsB (a % p ^ k) (p ^ k) (p ^ k).toNat
  | 0 => by simp [lifts, rootsB, upTo, keepR, List.range_succ]
  | k + 1 => by
    have hk : 0 < p ^ k := Int.pow_pos hp
    rw [lifts, lifts_rootsB hp k, Int.pow_succ, lift_rootsB (by omega) (Int.dvd_mul_right _ _)]
    congr 1
    rw [Nat.mul_comm]
    have e : ((p ^ k * p).toNat : Int) = (((p ^ k).toNat * p.toNat : Nat) : Int) := by
      rw [Int.natCast_mul]
      have h3 := Int.mul_pos hk hp
      rw [Int.toNat_of_nonneg (by omega), Int.toNat_of_nonneg (by omega), Int.toNat_of_nonneg (by omega)]
    omega
theorem rootsB_succ (r M : Int) (n : Nat) : rootsB r M (n + 1) = rootsB r M n ++ (if n * n % M = r then [(n : Int)] else []) := by
  unfold rootsB
  rw [upTo_succ, List.filter_append]
  congr 1
  unfold keepR
  simp [List.filter_cons]
theorem rootsB_len (r M : Int) (n : Nat) : (rootsB r M n).length ≤ n := by
  unfold rootsB
  refine Nat.le_trans (List.length_filter_le _ _) ?_
  simp [upTo]

/-- What Roots answers. -/
def rinE (p k : Int) : Int := if p < 2 ∨ k < 1 then 1 else if p ^ k.toNat ≤ 1048576 then 0 else 2
def rinL (a p k : Int) : List Int := if p < 2 ∨ k < 1 then [] else if p ^ k.toNat ≤ 1048576 then rootsB (a % p ^ k.toNat) (p ^ k.toNat) (p ^ k.toNat).toNat else []
theorem rinL_len (a p k : Int) : (rinL a p k).length ≤ 1048576 := by
  unfold rinL
  split
  · simp
  · split
    · have := rootsB_len (a % p ^ k.toNat) (p ^ k.toNat) (p ^ k.toNat).toNat
      omega
    · simp

def Fm.ofq (F : Fq) : Fm := ⟨F.P, F.mono⟩
theorem box_bn {w : World} {b : Nat} {z : Int} (h : Bq w b 2 (Fq.num z)) : BoxNum w b z := by
  obtain ⟨us, hl, _, hat, _, hP⟩ := h
  match us, hl, hat, hP with
  | [p, q], _, hat, hP =>
    obtain ⟨n, ao, k, c, e⟩ := (show Num w _ z from hP).parts
    injection e with e
    have e2 := congrArg Array.toList e
    simp at e2
    obtain ⟨rfl, rfl⟩ := e2
    exact ⟨n, ao, k, c, ⟨(hat 0 (by simp)).1, (hat 1 (by simp)).1, (hat 0 (by simp)).2, (hat 1 (by simp)).2⟩, hP⟩
/-- A list of numbers and an error. -/
def Fm.lst (zs : List Int) (e : Int) : Fm := ⟨fun v w => ∃ l, v = .tuple #[l, .int .i64 e] ∧ Nums w l zs, fun ⟨l, h1, h2⟩ hb => ⟨l, h1, h2.mono hb⟩⟩
def Fm.nums (zs : List Int) : Fm := ⟨fun v w => Nums w v zs, fun h hb => h.mono hb⟩
def Fm.agg (zs : List Int) (e : Int) : Fm := ⟨fun v w => ∃ l, v = .agg #[l, .int .i64 e] ∧ Nums w l zs, fun ⟨l, h1, h2⟩ hb => ⟨l, h1, h2.mono hb⟩⟩
/-- A box of a list and an error that was laid, and not yet stored into. -/
def Fm.laid (B : Nat) : Fm := ⟨fun v w => ∃ b, v = .pointer (some ⟨b, 0, none⟩) ∧ B ≤ b ∧ IntBox w b (.slice none 0 0) (.int .i64 0), fun ⟨b, h1, h0, h2⟩ hb => ⟨b, h1, h0, h2.mono hb h2.lt⟩⟩
theorem box_is2 {w : World} {b : Nat} {u v : Value} (h : Bq w b 2 (Fq.is (.agg #[u, v]))) : IntBox w b u v := by
  obtain ⟨us, hl, _, hat, _, hP⟩ := h
  have e := hP
  injection e with e
  have e2 := congrArg Array.toList e
  simp at e2
  subst e2
  exact ⟨(hat 0 (by simp)).1, (hat 1 (by simp)).1, (hat 0 (by simp)).2, (hat 1 (by simp)).2⟩
theorem Sl.stored {w : World} {b : Nat} {ao : Option Addr} {n c : Nat} {xs : List Int} (h : Sl w ao n c xs) (hI : IntBox w b (.slice none 0 0) (.int .i64 0)) (u0 u1 : Value) : Sl ((w.setCell ⟨b, 0, none⟩ u0).setCell ⟨b, 1, none⟩ u1) ao n c xs := by
  have h1 : (w.setCell ⟨b, 0, none⟩ u0).cell? ⟨b, 1, none⟩ = some (.int .i64 0) := by
    rw [World.cell?_setCell_other _ _ _ _ (by intro e; cases e)]; exact hI.2.1
  exact (h.setOther hI.1 (by intro q e; cases e) _).setOther h1 (by intro q e; cases e) _
theorem Nums.stored {w : World} {b : Nat} {v : Value} {zs : List Int} (h : Nums w v zs) (hI : IntBox w b (.slice none 0 0) (.int .i64 0)) (u0 u1 : Value) : Nums ((w.setCell ⟨b, 0, none⟩ u0).setCell ⟨b, 1, none⟩ u1) v zs := by
  obtain ⟨ao, cap, rfl, h⟩ := h
  refine ⟨ao, cap, rfl, ?_⟩
  rcases h with h | ⟨g, h1, h2, h3⟩
  · exact .inl h
  · rcases zs with _ | ⟨z0, zs⟩
    · exact .inl rfl
    · have hne : g ≠ b := by
        intro e
        obtain ⟨n, ao, k, c, g1, _⟩ := h3 0 z0 rfl
        rw [e, show 0 * 2 = 0 from rfl, hI.1] at g1
        cases g1
      refine .inr ⟨g, h1, by simpa using h2, fun i z hi => ?_⟩
      obtain ⟨n, ao, k, c, g1, g2, neg, ao', n', c', xs, hv, hs, hn⟩ := h3 i z hi
      refine ⟨n, ao, k, c, ?_, ?_, neg, ao', n', c', xs, hv, hs.stored hI _ _, hn⟩
      · rw [World.cell?_setCell_other _ _ _ _ (by intro e; injection e with e; exact hne e.symm), World.cell?_setCell_other _ _ _ _ (by intro e; injection e with e; exact hne e.symm)]; exact g1
      · rw [World.cell?_setCell_other _ _ _ _ (by intro e; injection e with e; exact hne e.symm), World.cell?_setCell_other _ _ _ _ (by intro e; injection e with e; exact hne e.symm)]; exact g2
theorem stored_cells {w : World} {b : Nat} (hI : IntBox w b (.slice none 0 0) (.int .i64 0)) (u0 u1 : Value) : ((w.setCell ⟨b, 0, none⟩ u0).setCell ⟨b, 1, none⟩ u1).cell? ⟨b, 0, none⟩ = some u0 ∧ ((w.setCell ⟨b, 0, none⟩ u0).setCell ⟨b, 1, none⟩ u1).cell? ⟨b, 1, none⟩ = some u1 := by
  refine ⟨?_, ?_⟩
  · rw [World.cell?_setCell_other _ _ _ _ (by intro e; cases e)]
    exact World.cell?_setCell_same' _ _ _ (by rw [hI.1]; rfl)
  · refine World.cell?_setCell_same' _ _ _ ?_
    rw [World.cell?_setCell_other _ _ _ _ (by intro e; cases e), hI.2.1]
    rfl

section
variable {os : List Oper} {Q : Exit → Act → World → Prop} {a : Act} {p : Plan} {B B0 : Nat} {w0 : World}
/-- The last operation of a region, which waits for all others. -/
def LastS (os : List Oper) (Q : Exit → Act → World → Prop) (a : Act) (p : Plan) (B B0 : Nat) (w0 : World) (k : Nat) (R : (Nat → Value) → World → Prop) (o : Oper) : Prop :=
  os.toArray[k]? = some o → ∀ L vs w, p.G B B0 w0 L vs w → (∀ j, j < k → L j = true) →
    wpOp Tryd.prog os.toArray Q k (fun a' w' => ∃ v, a' = (lay os.toArray L vs os.toArray.size a).put o.dst v ∧ R (up vs k v) w') (lay os.toArray L vs os.toArray.size a) w
/-- A region whose last operation may break what the others kept. -/
theorem region_last {id : Nat} {w : World} (k : Nat) (R : (Nat → Value) → World → Prop) (hm : Tryd.prog.follows .mixedOrders = true) (ha : apartB (os.map (·.dst)) = true) (hb : backB os 0 = true) (hk : os.length = k + 1)
    (hdep : ∀ o, os[k]? = some o → (List.range k).all (depB o) = true) (h0 : p.G B B0 w0 (fun _ => false) (fun _ => undef) w.drew)
    (hs : AllOps (fun i o => (i < k → Step os Q a p B B0 w0 i o) ∧ (i = k → LastS os Q a p B B0 w0 k R o)) os 0)
    (hf : ∀ L vs w, (∀ j, j < os.length → L j = true) → R vs w → Q .normal (lay os.toArray L vs os.length a) w) : (Code.region id os.toArray true).wp Tryd.prog Q a w := by
  refine wp_region_inv hm (apart_of ha) (back_of hb) (fun L vs w => (L k = true → R vs w) ∧ (L k = false → p.G B B0 w0 L vs w)) ⟨fun h => by simp at h, fun _ => h0⟩ ?_ ?_
  · intro i o ho L vs w hG hL hd hc
    have hlt : i < os.length := by
      have := (Array.getElem?_eq_some_iff.1 ho).1
      simpa using this
    have hall := fun j (hj : j < k) (hLk : L k = true) => by
      have hko : os[k]? = some os[k] := by simp [show k < os.length by omega]
      have hko2 : os.toArray[k]? = some os[k] := by simp [show k < os.length by omega]
      have h1 := List.all_eq_true.1 (hdep _ hko) j (List.mem_range.2 hj)
      exact dep_of (L := L) h1 (hc k _ hko2 hLk)
    have hLk : L k = false := by
      rcases Nat.lt_or_ge i k with h | h
      · cases hLk : L k with
        | false => rfl
        | true => rw [hall i h hLk] at hL; cases hL
      · have : i = k := by omega
        rw [← this]; exact hL
    have hst := all_ops hs i o ho
    rcases Nat.lt_or_ge i k with h | h
    · refine wpOp_mono ?_ (hst.1 h ho L vs w (hG.2 hLk) hL hd hc)
      rintro a' w' ⟨v, e, h2⟩
      exact ⟨v, e, ⟨fun h3 => absurd h3 (by rw [up_ne _ _ (by omega), hLk]; simp), fun _ => h2⟩⟩
    · have hik : i = k := by omega
      subst hik
      refine wpOp_mono ?_ (hst.2 rfl ho L vs w (hG.2 hLk) (fun j hj => dep_of (List.all_eq_true.1 (hdep o (by simpa using ho)) j (List.mem_range.2 hj)) hd))
      rintro a' w' ⟨v, e, h2⟩
      exact ⟨v, e, ⟨fun _ => h2, fun h3 => absurd h3 (by rw [up_same]; simp)⟩⟩
  · intro L vs w hL hG
    have := hf L vs w (by simpa using hL) (hG.1 (hL k (by simp [hk])))
    simpa using this
end

section
variable {os : List Oper} {Q : Exit → Act → World → Prop} {a : Act} {p : Plan} {B B0 : Nat} {w0 : World}
variable {i s : Nat} {d : Option Tmp} {ty : TypeId} {ps : String} {af : Array Edge} {gd : Option (Nat × Bool)}
theorem g_call3 {x y z : Operand} {F G H : Value → World → Prop} {f : FuncId} {ts : Array TypeId} (hp : PMono p B B0) (hF : p.Free i) (hg : Gd os a p B B0 w0 af gd) (hen : ∀ args w, (callFunc f args).run Tryd.prog w = .ok (.enter f args) w)
    (hx : Src os a p B B0 w0 af x F) (hy : Src os a p B B0 w0 af y G) (hz : Src os a p B B0 w0 af z H) (hC : ∀ v v' u w, F v w → G v' w → H u w → Calls Tryd.prog f #[v, v', u] w fun e w' => ∃ v', e = .returned v' ∧ Below w.heap.size w w' ∧ p.C i v' w') :
    Step os Q a p B B0 w0 i { dst := d, op := .call { callee := .value (.func f), args := #[x, y, z], argTypes := ts }, type := ty, pos := ps, after := af, guard := gd } :=
  stg_call hp hF hg hen fun L vs w hG hd => ⟨#[_, _, _], by simp, hC _ _ _ _ (hx L vs w hG hd) (hy L vs w hG hd) (hz L vs w hG hd)⟩
theorem g_allocListed (hp : PMono p B B0) (hF : p.Free i) (hC : ∀ w, Below B w0 w → (p.C i (.pointer (some ⟨w.heap.size, 0, none⟩)) (w.alloc (.cells #[.slice none 0 0, .int .i64 0] 56)))) :
    Step os Q a p B B0 w0 i { dst := d, op := .alloc 56, type := ty, pos := ps, after := af, guard := none } := by
  refine stg_run hp hF trivial fun L vs w hG hd => ⟨_, _, ?_, alloc_below w _, hC w hG.below⟩
  simp [execOp, go_sem]
theorem l_storeListed {s5 s4 j5 j4 k : Nat} {zs : List Int} {e : Int} (ha : apartB (os.map (·.dst)) = true) (h5 : (os.map (·.dst))[j5]? = some (some s5)) (g5 : s5 < a.tmps.size) (l5 : j5 < k) (hF5 : ∀ v w, p.C j5 v w → (Fm.laid w0.heap.size).P v w)
    (h4 : (os.map (·.dst))[j4]? = some (some s4)) (g4 : s4 < a.tmps.size) (l4 : j4 < k) (hF4 : ∀ v w, p.C j4 v w → (Fm.agg zs e).P v w) (hB : B = w0.heap.size) :
    LastS os Q a p B B0 w0 k (fun vs w' => ∃ b l, vs j5 = .pointer (some ⟨b, 0, none⟩) ∧ w'.cell? ⟨b, 0, none⟩ = some l ∧ w'.cell? ⟨b, 1, none⟩ = some (.int .i64 e) ∧ Nums w' l zs ∧ Below w0.heap.size w0 w')
      { dst := none, op := .store 56 (.tmp s5) (.tmp s4), type := ty, pos := ps, after := af, guard := none } := by
  intro hio L vs w hG hL
  obtain ⟨b, e1, hb, hI⟩ := hF5 _ _ (hG.val j5 (hL j5 l5))
  obtain ⟨l, e2, hN⟩ := hF4 _ _ (hG.val j4 (hL j4 l4))
  have q1 := (lay_in (a := a) (vs := vs) ha (hL j5 l5) h5 g5).trans e1
  have q2 := (lay_in (a := a) (vs := vs) ha (hL j4 l4) h4 g4).trans e2
  obtain ⟨ao, cap, rfl, _⟩ := id hN
  refine wpOp_step hio fun K' hK => ?_
  rw [if_pos (by rfl)]
  have er : (execOp (lay os.toArray L vs os.toArray.size a).eval ({ dst := none, op := .store 56 (.tmp s5) (.tmp s4), type := ty, pos := ps, after := af, guard := none } : Oper)).run Tryd.prog w = .ok .skip ((w.setCell ⟨b, 0, none⟩ (.slice ao zs.length cap)).setCell ⟨b, 1, none⟩ (.int .i64 e)) := by
    obtain ⟨i0, i1, i2, i3⟩ := hI
    generalize (lay os.toArray L vs os.toArray.size a).eval = ρ at q1 q2
    simp [execOp, go_sem, q1, q2, i0, i1, i2, i3]
  unfold Oper.wp
  rw [er]
  have hc := stored_cells hI (.slice ao zs.length cap) (.int .i64 e)
  refine hK _ _ ⟨undef, rfl, b, _, ?_, hc.1, hc.2, hN.stored hI _ _, ((by have := hG.below; rw [hB] at this; exact this : Below w0.heap.size w0 w).setCell hb _).setCell hb _⟩
  rw [up_ne _ _ (by omega)]
  exact e1
end

set_option maxHeartbeats 1000000 in
theorem made_new (w : World) (neg : Bool) (ax : Option Addr) (n c : Nat) (xs : List Int) (hX : Sl w ax n c xs) (hb : n ≤ 4000000) :
    Calls Tryd.prog 33 #[.bool neg, .slice ax n c] w (GivesAt w ax (sgn neg (val xs))) := by
  obtain ⟨w0, hw0, hC, hCb⟩ : ∃ w0, w0 = w.alloc (.cells #[.bool false, .slice none 0 0] 29) ∧ IntBox w0 w.heap.size (.bool false) (.slice none 0 0) ∧ Below w.heap.size w w0 := ⟨_, rfl, box1 _ _, alloc_below _ _⟩
  go_enter Tryd.func33, Tryd.ntmps33
  go_wp2_with fail
  rw [← hw0]
  clear hw0
  refine (rtrim_any _ _ _ _ _ (hX.mono hCb) (by omega)).mono ?_
  rintro e w' ⟨m, rfl, hm, hsm, hvm, hcm, rfl⟩
  have hml := hsm.len
  have hz := hcm.zero
  rw [hml, hvm] at hz
  have HVM := hidd hvm
  clear hvm hml
  obtain ⟨e0, e1, e2, e3⟩ := hC
  by_cases hm0 : m = 0
  · have HV : Hid (sgn neg (val xs) = 0) := sgn_zero neg (hz.1 hm0)
    clear hz
    subst hm0
    go_wp2
    refine bodyPost_ret (v := .agg #[.bool false, .slice none 0 0]) ?_ rfl ?_
    · simp [results, Tryd.results33, go_sem, e0, e1]
    · exact ⟨false, none, 0, 0, [], rfl, .inl rfl, Sl.nil _, ⟨fun _ hx => by simp at hx, .inl rfl⟩, by simp, by rw [HV.out]; rfl, (hCb.setCell (Nat.le_refl _) _).setCell (Nat.le_refl _) _⟩
  · have hm1 : ((m : Int) == 0) = false := by simp; omega
    clear hz
    go_wp2
    refine bodyPost_ret (v := .agg #[.bool neg, .slice ax m c]) ?_ rfl ?_
    · simp [results, Tryd.results33, go_sem, e0, e1]
    · have h1 : (w0.setCell ⟨w.heap.size, 0, none⟩ (.bool neg)).cell? ⟨w.heap.size, 1, none⟩ = some (.slice none 0 0) := by
        rw [World.cell?_setCell_other _ _ _ _ (by intro e; cases e)]; exact e1
      exact ⟨neg, ax, m, c, _, rfl, .inr rfl, (hsm.setOther e0 (by intro q e; cases e) _).setOther h1 (by intro q e; cases e) _, hcm, fun _ => hm0, by rw [HVM.out], (hCb.setCell (Nat.le_refl _) _).setCell (Nat.le_refl _) _⟩

set_option maxHeartbeats 1000000 in
theorem rOfNew (w : World) (z : Int) (h0 : 0 ≤ z) (h1 : z ≤ 9223372036854775807) :
    Calls Tryd.prog 40 #[.int .i64 z] w fun e w' => ∃ ng ao n c, e = .returned (.agg #[.bool ng, .slice ao n c]) ∧ (∀ a, ao = some a → w.heap.size ≤ a.block) ∧ Num w' (.agg #[.bool ng, .slice ao n c]) z ∧ Below w.heap.size w w' := by
  obtain ⟨w0, hw0, hC, hCb⟩ : ∃ w0, w0 = w.alloc (.cells #[.bool false, .slice none 0 0] 29) ∧ IntBox w0 w.heap.size (.bool false) (.slice none 0 0) ∧ Below w.heap.size w w0 := ⟨_, rfl, box1 _ _, alloc_below _ _⟩
  have hz : ¬ z < 0 := by omega
  have hab := fun o => alloc_below w0 o
  have hq : IntKind.u64.wrap z = z := by rw [u64_wrap]; omega
  obtain ⟨hs, hv⟩ := halves_sl w0 77 rfl z (by omega) (by omega)
  have hsz : Hid (w.heap.size ≤ w0.heap.size) := hCb.size
  go_enter Tryd.func40, Tryd.ntmps40
  go_upto_region 1 with (fail)
  rw [← hw0]
  clear hw0
  go_wp2_with fail
  refine (made_new _ _ _ _ _ _ hs (by omega)).mono ?_
  rintro e w3 ⟨ng, ao, nn, cc, rs, rfl, hao, hrs, hrc, hrn, hrz, hb3⟩
  obtain ⟨e0, e1, e2, e3⟩ := (hC.mono (hab _) hC.lt).mono hb3 (Nat.lt_of_lt_of_le hC.lt (hab _).size)
  have HZ : Hid (z = sgn ng (val rs)) := by
    show _ = _
    rw [← hrz, hv.out]; simp [sgn]
  have HA : Hid (∀ a, ao = some a → w.heap.size ≤ a.block) := by
    show ∀ a, _
    rintro a rfl
    rcases hao with h | h
    · cases h
    · injection h with h
      rw [h]
      exact hsz.out
  have hb4 : Below w.heap.size w w3 := (hCb.trans ((hab _).mono hCb.size)).trans (hb3.mono (Nat.le_trans hCb.size (hab _).size))
  clear hrz hv hC hq hao
  go_wp2
  refine bodyPost_ret (v := .agg #[.bool ng, .slice ao nn cc]) ?_ rfl ?_
  · simp [results, Tryd.results40, go_sem, e0, e1]
  · obtain ⟨v, he, hI, hB⟩ := gives_store ⟨e0, e1, e2, e3⟩ hrs hrc hrn HZ.out hb4 (Nat.le_refl _)
    injection he with he
    subst he
    exact ⟨ng, ao, nn, cc, rfl, HA.out, num_of hI (k := 2) (by have e : pw 2 = 18446744073709551616 := rfl; rw [e]; unfold ab; omega) (by omega), hB⟩
end Go.Proofs.YtieobgadihcgeaaDoor

/- Walk: the examples of the law. -/
namespace Go.Proofs.YtieobgadihcgeaaDoor
open Go Go.RowKit

theorem exCrtEx1 {w : World} {v v' u u' : Value} (h : Num w v 2) (h' : Num w v' 3) (g : Num w u 3) (g' : Num w u' 4) :
    Calls Tryd.prog 31 #[v, v', u, u'] w fun e w' => ∃ v', e = .returned v' ∧ Below w.heap.size w w' ∧ (Fq.tup3 (Fq.num 11) (Fq.num 12) (Fq.is (.int .i64 0))).P v' w' := by
  have := exCrtP h h' g g' (lit100 (ab_lit (by decide))) (lit100 (ab_lit (by decide))) (lit100 (ab_lit (by decide))) (lit100 (ab_lit (by decide))) (by decide) (by decide) (by decide)
  rw [crtR_ex] at this
  exact this
theorem exCrtEx2 {w : World} {v v' u u' : Value} (h : Num w v 0) (h' : Num w v' 4) (g : Num w u 1) (g' : Num w u' 6) :
    Calls Tryd.prog 31 #[v, v', u, u'] w fun e w' => ∃ v', e = .returned v' ∧ Below w.heap.size w w' ∧ (Fq.tup3 (Fq.num 0) (Fq.num 0) (Fq.is (.int .i64 6))).P v' w' :=
  exCrtN h h' g g' (lit100 (ab_lit (by decide))) (lit100 (ab_lit (by decide))) (lit100 (ab_lit (by decide))) (lit100 (ab_lit (by decide))) (by decide) (by decide) (by decide)
theorem exKronL {w : World} {v v' : Value} {a n r : Int} (h : Num w v a) (h' : Num w v' n) (hT : Tabs w) (ha : ab a < pw 3) (hn : ab n < pw 3) (hr : kron a n = r) :
    Calls Tryd.prog 20 #[v, v'] w fun e w' => ∃ v', e = .returned v' ∧ Below w.heap.size w w' ∧ v' = .int .i64 r := by
  subst hr
  exact exKronecker h h' hT (lit100 ha) (lit100 hn)
theorem exRoots123 {w : World} {v v' : Value} (h : Num w v 1) (h' : Num w v' 2) : Calls Tryd.prog 28 #[v, v', .int .i64 3] w fun e w' => ∃ v', e = .returned v' ∧ Below w.heap.size w w' ∧ ∃ l, v' = .tuple #[l, .int .i64 0] ∧ Nums w' l [1, 3, 5, 7] := by
  have := exMRootsP (k := 3) h h' (lit90 (ab_lit (by decide))) (lit90 (ab_lit (by decide))) (by decide) (by decide) (by decide) (by decide)
  rw [show lifts 1 2 (3 : Int).toNat = [1, 3, 5, 7] from lifts_ex] at this
  exact this
theorem exSameListB {w : World} {v v' : Value} {xs ys : List Int} {t : Bool} (h : Nums w v xs) (h' : Nums w v' ys) (hx : xs.length < 9223372036854775807) (hy : ys.length < 9223372036854775807) (ht : decide (xs = ys) = t) :
    Calls Tryd.prog 30 #[v, v'] w fun e w' => ∃ v', e = .returned v' ∧ Below w.heap.size w w' ∧ v' = .bool t := by
  subst ht
  exact exSameList h h' hx hy
set_option maxRecDepth 100000 in
set_option maxHeartbeats 4000000 in
theorem exVExamples {w : World} (hT : Tabs w) :
    Calls Tryd.prog 9 #[] w fun e w' => ∃ v', e = .returned v' ∧ Below w.heap.size w w' ∧ v' = .bool true := by
  replace hT := hidd hT
  go_enter Tryd.func9, Tryd.ntmps9
  go_upto_region 1 with (fail)
  go_wp2_with fail
  refine (exVOf (z := 1) (by omega)).mono ?_
  rintro e w1 ⟨v1, rfl, hb1, hv1⟩
  go_wp2_with fail
  refine (exVOf (z := 2) (by omega)).mono ?_
  rintro e w2 ⟨v2, rfl, hb2, hv2⟩
  go_wp2_with fail
  refine (exRoots123 (hv1.mono hb2) hv2).mono ?_
  rintro e w3 ⟨v3, rfl, hb3, l, rfl, hl⟩
  have HB : Hid (Below w.heap.size w w3) := (hb1.trans (hb2.mono hb1.size)).trans (hb3.mono (Nat.le_trans hb1.size hb2.size))
  have HT : Hid (Tabs w3) := hT.out.mono HB.out
  have HL := hidd hl
  clear hb1 hb2 hb3 hv1 hv2 hl hT
  have E := Fr.start w3
  go_upto_region 2 with (fail)
  have B1 : Hid (ab ((2)) < pw 3) := ab_lit (by decide)
  have B2 : Hid (ab ((3)) < pw 3) := ab_lit (by decide)
  have B3 : Hid (ab ((4)) < pw 3) := ab_lit (by decide)
  refine region_fr (C := [Fq.num (2), Fq.num (3), Fq.num (3), Fq.num (4), Fq.tup3 (Fq.num 11) (Fq.num 12) (Fq.is (.int .i64 0)), Fq.tup3 (Fq.num 11) (Fq.num 12) (Fq.is (.int .i64 0)), Fq.num 11, Fq.num 12, Fq.is (.int .i64 0), Fq.any, Fq.any, Fq.any, Fq.any, Fq.is (.int .i64 0)]) (ks := []) (new := [⟨9, 11, 2, Fq.num 0, Fq.num 11, none⟩, ⟨10, 12, 2, Fq.num 0, Fq.num 12, none⟩]) E rfl (by kernel_rfl) rfl rfl (fun hp => ⟨?_, ?_, ?_, ?_, ?_, ?_, ?_, ?_, ?_, ?_, ?_, ?_, ?_, ?_, trivial⟩) ?_
  · exact q_call1 (F := (Fq.is (.int .i64 2)).P) hp (free_of rfl) trivial (enq_V_of) (sq_const (fun _ => rfl)) (fun v w h => (by subst h; exact exVOf (by omega)))
  · exact q_call1 (F := (Fq.is (.int .i64 3)).P) hp (free_of rfl) trivial (enq_V_of) (sq_const (fun _ => rfl)) (fun v w h => (by subst h; exact exVOf (by omega)))
  · exact q_call1 (F := (Fq.is (.int .i64 3)).P) hp (free_of rfl) trivial (enq_V_of) (sq_const (fun _ => rfl)) (fun v w h => (by subst h; exact exVOf (by omega)))
  · exact q_call1 (F := (Fq.is (.int .i64 4)).P) hp (free_of rfl) trivial (enq_V_of) (sq_const (fun _ => rfl)) (fun v w h => (by subst h; exact exVOf (by omega)))
  · exact q_call4 (F := (Fq.num (2)).P) (G := (Fq.num (3)).P) (F3 := (Fq.num (3)).P) (F4 := (Fq.num (4)).P) hp (free_of rfl) trivial (enq_M_Crt) (sq_in 0 rfl rfl (by simp) rfl (fun v w h => h)) (sq_in 1 rfl rfl (by simp) rfl (fun v w h => h)) (sq_in 2 rfl rfl (by simp) rfl (fun v w h => h)) (sq_in 3 rfl rfl (by simp) rfl (fun v w h => h)) (fun v v' u u' w h h' g g' => exCrtEx1 h h' g g')
  · exact q_move hp (free_of rfl) trivial (sq_in 4 rfl rfl (by simp) rfl (fun v w h => h))
  · exact q_extract3 hp (free_of rfl) trivial (sq_in 5 rfl rfl (by simp) rfl (fun v w h => h)) (fun v1 v2 v3 w h1 h2 h3 => ⟨_, rfl, h1⟩)
  · exact q_extract3 hp (free_of rfl) trivial (sq_in 5 rfl rfl (by simp) rfl (fun v w h => h)) (fun v1 v2 v3 w h1 h2 h3 => ⟨_, rfl, h2⟩)
  · exact q_extract3 hp (free_of rfl) trivial (sq_in 5 rfl rfl (by simp) rfl (fun v w h => h)) (fun v1 v2 v3 w h1 h2 h3 => ⟨_, rfl, h3⟩)
  · exact q_allocInt hp (List.mem_iff_getElem?.2 ⟨0, rfl⟩) rfl rfl rfl rfl (Nat.ne_of_beq_eq_false rfl) (fun _ _ => trivial) (old_ne rfl) (newk_ne rfl) (fun w => Num.zero w)
  · exact q_allocInt hp (List.mem_iff_getElem?.2 ⟨1, rfl⟩) rfl rfl rfl rfl (Nat.ne_of_beq_eq_false rfl) (fun _ _ => trivial) (old_ne rfl) (newk_ne rfl) (fun w => Num.zero w)
  · exact q_storeNewInt hp (List.mem_iff_getElem?.2 ⟨0, rfl⟩) rfl rfl rfl (own_ptr rfl rfl (by simp) rfl) (sq_in 6 rfl rfl (by simp) rfl (fun v w h => intV_num h)) (fun _ _ => trivial) (old_ne rfl) (newi_ne rfl)
  · exact q_storeNewInt hp (List.mem_iff_getElem?.2 ⟨1, rfl⟩) rfl rfl rfl (own_ptr rfl rfl (by simp) rfl) (sq_in 7 rfl rfl (by simp) rfl (fun v w h => intV_num h)) (fun _ _ => trivial) (old_ne rfl) (newi_ne rfl)
  · exact q_assign hp (free_of rfl) trivial (sq_in 8 rfl rfl (by simp) rfl (fun v w h => h))
  intro L vs w4 nb hL hC hn E4
  have e8 : vs 8 = .int .i64 0 := hC 8 (by simp)
  have e13 : vs 13 = .int .i64 0 := hC 13 (by simp)
  have e9 : vs 9 = .pointer (some ⟨nb 9, 0, none⟩) := hn _ (List.mem_iff_getElem?.2 ⟨0, rfl⟩)
  have e10 : vs 10 = .pointer (some ⟨nb 10, 0, none⟩) := hn _ (List.mem_iff_getElem?.2 ⟨1, rfl⟩)
  have E : Fr w3 [(nb 9, 2, Fq.num 11), (nb 10, 2, Fq.num 12)] w4 := E4
  rw [lay_all hL]
  simp only [putAll, dstOf, List.length_cons, List.length_nil, Nat.zero_add, Nat.reduceAdd, List.getElem?_toArray, List.getElem?_cons_zero, List.getElem?_cons_succ, Option.bind_some, Act.put, List.setIfInBounds_toArray, List.set_cons_succ, List.set_cons_zero]
  rw [e8, e13, e9, e10]
  generalize nb 9 = b4_9 at E ⊢
  generalize nb 10 = b4_10 at E ⊢
  generalize vs 0 = u4_0
  generalize vs 1 = u4_1
  generalize vs 2 = u4_2
  generalize vs 3 = u4_3
  generalize vs 4 = u4_4
  generalize vs 5 = u4_5
  generalize vs 6 = u4_6
  generalize vs 7 = u4_7
  clear e8 e13 e9 e10 hC hn E4 hL vs L nb
  go_upto_region 3 with (fail)
  have B5 : Hid (ab ((0)) < pw 3) := ab_lit (by decide)
  have B6 : Hid (ab ((1)) < pw 3) := ab_lit (by decide)
  have B7 : Hid (ab ((6)) < pw 3) := ab_lit (by decide)
  refine region_fr (C := [Fq.num (0), Fq.num (4), Fq.num (1), Fq.num (6), Fq.tup3 (Fq.num 0) (Fq.num 0) (Fq.is (.int .i64 6)), Fq.tup3 (Fq.num 0) (Fq.num 0) (Fq.is (.int .i64 6)), Fq.num 0, Fq.num 0, Fq.is (.int .i64 6), Fq.any, Fq.any, Fq.any, Fq.any, Fq.is (.int .i64 6)]) (ks := [none, none]) (new := [⟨9, 11, 2, Fq.num 0, Fq.num 0, none⟩, ⟨10, 12, 2, Fq.num 0, Fq.num 0, none⟩]) E rfl (by kernel_rfl) rfl rfl (fun hp => ⟨?_, ?_, ?_, ?_, ?_, ?_, ?_, ?_, ?_, ?_, ?_, ?_, ?_, ?_, trivial⟩) ?_
  · exact q_call1 (F := (Fq.is (.int .i64 0)).P) hp (free_of rfl) trivial (enq_V_of) (sq_const (fun _ => rfl)) (fun v w h => (by subst h; exact exVOf (by omega)))
  · exact q_call1 (F := (Fq.is (.int .i64 4)).P) hp (free_of rfl) trivial (enq_V_of) (sq_const (fun _ => rfl)) (fun v w h => (by subst h; exact exVOf (by omega)))
  · exact q_call1 (F := (Fq.is (.int .i64 1)).P) hp (free_of rfl) trivial (enq_V_of) (sq_const (fun _ => rfl)) (fun v w h => (by subst h; exact exVOf (by omega)))
  · exact q_call1 (F := (Fq.is (.int .i64 6)).P) hp (free_of rfl) trivial (enq_V_of) (sq_const (fun _ => rfl)) (fun v w h => (by subst h; exact exVOf (by omega)))
  · exact q_call4 (F := (Fq.num (0)).P) (G := (Fq.num (4)).P) (F3 := (Fq.num (1)).P) (F4 := (Fq.num (6)).P) hp (free_of rfl) trivial (enq_M_Crt) (sq_in 0 rfl rfl (by simp) rfl (fun v w h => h)) (sq_in 1 rfl rfl (by simp) rfl (fun v w h => h)) (sq_in 2 rfl rfl (by simp) rfl (fun v w h => h)) (sq_in 3 rfl rfl (by simp) rfl (fun v w h => h)) (fun v v' u u' w h h' g g' => exCrtEx2 h h' g g')
  · exact q_move hp (free_of rfl) trivial (sq_in 4 rfl rfl (by simp) rfl (fun v w h => h))
  · exact q_extract3 hp (free_of rfl) trivial (sq_in 5 rfl rfl (by simp) rfl (fun v w h => h)) (fun v1 v2 v3 w h1 h2 h3 => ⟨_, rfl, h1⟩)
  · exact q_extract3 hp (free_of rfl) trivial (sq_in 5 rfl rfl (by simp) rfl (fun v w h => h)) (fun v1 v2 v3 w h1 h2 h3 => ⟨_, rfl, h2⟩)
  · exact q_extract3 hp (free_of rfl) trivial (sq_in 5 rfl rfl (by simp) rfl (fun v w h => h)) (fun v1 v2 v3 w h1 h2 h3 => ⟨_, rfl, h3⟩)
  · exact q_allocInt hp (List.mem_iff_getElem?.2 ⟨0, rfl⟩) rfl rfl rfl rfl (Nat.ne_of_beq_eq_false rfl) (fun _ _ => trivial) (old_ne rfl) (newk_ne rfl) (fun w => Num.zero w)
  · exact q_allocInt hp (List.mem_iff_getElem?.2 ⟨1, rfl⟩) rfl rfl rfl rfl (Nat.ne_of_beq_eq_false rfl) (fun _ _ => trivial) (old_ne rfl) (newk_ne rfl) (fun w => Num.zero w)
  · exact q_storeNewInt hp (List.mem_iff_getElem?.2 ⟨0, rfl⟩) rfl rfl rfl (own_ptr rfl rfl (by simp) rfl) (sq_in 6 rfl rfl (by simp) rfl (fun v w h => intV_num h)) (fun _ _ => trivial) (old_ne rfl) (newi_ne rfl)
  · exact q_storeNewInt hp (List.mem_iff_getElem?.2 ⟨1, rfl⟩) rfl rfl rfl (own_ptr rfl rfl (by simp) rfl) (sq_in 7 rfl rfl (by simp) rfl (fun v w h => intV_num h)) (fun _ _ => trivial) (old_ne rfl) (newi_ne rfl)
  · exact q_assign hp (free_of rfl) trivial (sq_in 8 rfl rfl (by simp) rfl (fun v w h => h))
  intro L vs w8 nb hL hC hn E8
  have e8 : vs 8 = .int .i64 6 := hC 8 (by simp)
  have e13 : vs 13 = .int .i64 6 := hC 13 (by simp)
  have e9 : vs 9 = .pointer (some ⟨nb 9, 0, none⟩) := hn _ (List.mem_iff_getElem?.2 ⟨0, rfl⟩)
  have e10 : vs 10 = .pointer (some ⟨nb 10, 0, none⟩) := hn _ (List.mem_iff_getElem?.2 ⟨1, rfl⟩)
  have E : Fr w3 [(nb 9, 2, Fq.num 0), (nb 10, 2, Fq.num 0), (b4_9, 2, Fq.num 11), (b4_10, 2, Fq.num 12)] w8 := E8
  rw [lay_all hL]
  simp only [putAll, dstOf, List.length_cons, List.length_nil, Nat.zero_add, Nat.reduceAdd, List.getElem?_toArray, List.getElem?_cons_zero, List.getElem?_cons_succ, Option.bind_some, Act.put, List.setIfInBounds_toArray, List.set_cons_succ, List.set_cons_zero]
  rw [e8, e13, e9, e10]
  generalize nb 9 = b8_9 at E ⊢
  generalize nb 10 = b8_10 at E ⊢
  generalize vs 0 = u8_0
  generalize vs 1 = u8_1
  generalize vs 2 = u8_2
  generalize vs 3 = u8_3
  generalize vs 4 = u8_4
  generalize vs 5 = u8_5
  generalize vs 6 = u8_6
  generalize vs 7 = u8_7
  clear e8 e13 e9 e10 hC hn E8 hL vs L nb
  go_upto_region 4 with (fail)
  refine region_fr (C := [Fq.num (2), Fq.num (4), Fq.got 0 4, Fq.any, Fq.any]) (ks := [none, none, none, none]) (new := [⟨3, 4, 3, Fq.got 0 0, Fq.got 0 4, none⟩]) E rfl (by kernel_rfl) rfl rfl (fun hp => ⟨?_, ?_, ?_, ?_, ?_, trivial⟩) ?_
  · exact q_call1 (F := (Fq.is (.int .i64 2)).P) hp (free_of rfl) trivial (enq_V_of) (sq_const (fun _ => rfl)) (fun v w h => (by subst h; exact exVOf (by omega)))
  · exact q_call1 (F := (Fq.is (.int .i64 4)).P) hp (free_of rfl) trivial (enq_V_of) (sq_const (fun _ => rfl)) (fun v w h => (by subst h; exact exVOf (by omega)))
  · exact q_call2 (F := (Fq.num (2)).P) (G := (Fq.num (4)).P) hp (free_of rfl) trivial (enq_V_inv) (sq_in 0 rfl rfl (by simp) rfl (fun v w h => h)) (sq_in 1 rfl rfl (by simp) rfl (fun v w h => h)) (fun v v' w h h' => exInv24 h h')
  · exact q_allocGot hp (List.mem_iff_getElem?.2 ⟨0, rfl⟩) rfl rfl rfl rfl (Nat.ne_of_beq_eq_false rfl) (fun _ _ => trivial) (old_ne rfl) (newk_ne rfl) (fun w => Got.zero w)
  · exact q_storeNewGot hp (List.mem_iff_getElem?.2 ⟨0, rfl⟩) rfl rfl rfl (own_ptr rfl rfl (by simp) rfl) (sq_in 2 rfl rfl (by simp) rfl (fun v w h => h.partsV)) (fun _ _ => trivial) (old_ne rfl) (newi_ne rfl)
  intro L vs w9 nb hL hC hn E9
  have e3 : vs 3 = .pointer (some ⟨nb 3, 0, none⟩) := hn _ (List.mem_iff_getElem?.2 ⟨0, rfl⟩)
  have E : Fr w3 [(nb 3, 3, Fq.got 0 4), (b8_9, 2, Fq.num 0), (b8_10, 2, Fq.num 0), (b4_9, 2, Fq.num 11), (b4_10, 2, Fq.num 12)] w9 := E9
  rw [lay_all hL]
  simp only [putAll, dstOf, List.length_cons, List.length_nil, Nat.zero_add, Nat.reduceAdd, List.getElem?_toArray, List.getElem?_cons_zero, List.getElem?_cons_succ, Option.bind_some, Act.put, List.setIfInBounds_toArray, List.set_cons_succ, List.set_cons_zero]
  rw [e3]
  generalize nb 3 = b9_3 at E ⊢
  generalize vs 0 = u9_0
  generalize vs 1 = u9_1
  generalize vs 2 = u9_2
  clear e3 hC hn E9 hL vs L nb
  go_upto_region 5 with (fail)
  have B10 : Hid (ab ((11)) < pw 3) := ab_lit (by decide)
  have B11 : Hid (ab ((12)) < pw 3) := ab_lit (by decide)
  refine region_fr (C := [Fq.is (.int .i64 0), Fq.is (.bool false), Fq.is (.bool false), Fq.is (.int .i64 0), Fq.is (.bool false), Fq.is (.bool false), Fq.is (.bool false), Fq.is (.int .i64 6), Fq.is (.bool false), Fq.is (.bool false), Fq.is (.bool false), Fq.is (.pointer (some ⟨b9_3, 2, none⟩)), Fq.is (.int .i64 4), Fq.is (.bool false), Fq.is (.bool false), Fq.is (.bool false), Fq.num 11, Fq.num (11), Fq.is (.bool true), Fq.is (.bool false), Fq.is (.bool false), Fq.is (.bool false), Fq.num 12, Fq.num (12), Fq.is (.bool true), Fq.is (.bool false), Fq.is (.bool false)]) (ks := [none, none, none, none, none]) (new := []) E rfl (by kernel_rfl) rfl rfl (fun hp => ⟨?_, ?_, ?_, ?_, ?_, ?_, ?_, ?_, ?_, ?_, ?_, ?_, ?_, ?_, ?_, ?_, ?_, ?_, ?_, ?_, ?_, ?_, ?_, ?_, ?_, ?_, ?_, trivial⟩) ?_
  · exact q_move hp (free_of rfl) trivial (sq_out rfl rfl (fun _ _ => rfl))
  · exact q_one (F := fun v _ => v = .int .i64 0) hp (free_of rfl) trivial (sq_in 0 rfl rfl (by simp) rfl (fun v w h => h)) (fun ρ w hc h => ⟨.bool false, by simp [execOp, go_sem, h, hc], rfl⟩)
  · exact q_move hp (free_of rfl) trivial (sq_in 1 rfl rfl (by simp) rfl (fun v w h => h))
  · exact q_move hp (free_of rfl) (gq_some rfl rfl (by simp) rfl (fun v w h => h)) (sq_out rfl rfl (fun _ _ => rfl))
  · exact q_one (F := fun v _ => v = .int .i64 0) hp (free_of rfl) (gq_some rfl rfl (by simp) rfl (fun v w h => h)) (sq_in 3 rfl rfl (by simp) rfl (fun v w h => h)) (fun ρ w hc h => ⟨.bool false, by simp [execOp, go_sem, h, hc], rfl⟩)
  · exact q_two (F := fun v _ => v = .bool false) (G := fun v _ => v = .bool false) hp (free_of rfl) trivial (sq_in 2 rfl rfl (by simp) rfl (fun v w h => h)) (sq_in 4 rfl rfl (by simp) rfl (fun v w h => h)) (fun ρ w hc h h' => ⟨_, by simp [execOp, go_sem, h, h'], rfl⟩)
  · exact q_move hp (free_of rfl) trivial (sq_in 5 rfl rfl (by simp) rfl (fun v w h => h))
  · exact q_move hp (free_of rfl) (gq_some rfl rfl (by simp) rfl (fun v w h => h)) (sq_out rfl rfl (fun _ _ => rfl))
  · exact q_one (F := fun v _ => v = .int .i64 6) hp (free_of rfl) (gq_some rfl rfl (by simp) rfl (fun v w h => h)) (sq_in 7 rfl rfl (by simp) rfl (fun v w h => h)) (fun ρ w hc h => ⟨.bool false, by simp [execOp, go_sem, h, hc], rfl⟩)
  · exact q_two (F := fun v _ => v = .bool false) (G := fun v _ => v = .bool false) hp (free_of rfl) trivial (sq_in 6 rfl rfl (by simp) rfl (fun v w h => h)) (sq_in 8 rfl rfl (by simp) rfl (fun v w h => h)) (fun ρ w hc h h' => ⟨_, by simp [execOp, go_sem, h, h'], rfl⟩)
  · exact q_move hp (free_of rfl) trivial (sq_in 9 rfl rfl (by simp) rfl (fun v w h => h))
  · exact q_addr (b := b9_3) (off := 0) (off' := 2) hp (free_of rfl) (gq_some rfl rfl (by simp) rfl (fun v w h => h)) (sq_out rfl rfl (fun _ _ => rfl)) (fun ρ w h => by simp [execOp, go_sem, h]) (fun _ => rfl)
  · exact q_loadErr (r := 4) hp (free_of rfl) (gq_some rfl rfl (by simp) rfl (fun v w h => h)) (List.mem_iff_getElem?.2 ⟨0, rfl⟩) (.inl rfl) rfl (sq_in 11 rfl rfl (by simp) rfl (fun v w h => h)) (fun us w hl h => ld_got2 hl h) (fun _ => rfl)
  · exact q_one (F := fun v _ => v = .int .i64 4) hp (free_of rfl) (gq_some rfl rfl (by simp) rfl (fun v w h => h)) (sq_in 12 rfl rfl (by simp) rfl (fun v w h => h)) (fun ρ w hc h => ⟨.bool false, by simp [execOp, go_sem, h, hc], rfl⟩)
  · exact q_two (F := fun v _ => v = .bool false) (G := fun v _ => v = .bool false) hp (free_of rfl) trivial (sq_in 10 rfl rfl (by simp) rfl (fun v w h => h)) (sq_in 13 rfl rfl (by simp) rfl (fun v w h => h)) (fun ρ w hc h h' => ⟨_, by simp [execOp, go_sem, h, h'], rfl⟩)
  · exact q_move hp (free_of rfl) trivial (sq_in 14 rfl rfl (by simp) rfl (fun v w h => h))
  · exact q_loadInt (off := 0) hp (free_of rfl) (gq_some rfl rfl (by simp) rfl (fun v w h => h)) (List.mem_iff_getElem?.2 ⟨3, rfl⟩) (.inl rfl) (Nat.le_of_ble_eq_true rfl) (sq_out rfl rfl (fun _ _ => rfl)) (fun us w hl h => ld_num hl h)
  · exact q_call1 (F := (Fq.is (.int .i64 11)).P) hp (free_of rfl) (gq_some rfl rfl (by simp) rfl (fun v w h => h)) (enq_V_of) (sq_const (fun _ => rfl)) (fun v w h => (by subst h; exact exVOf (by omega)))
  · exact q_call2 (F := (Fq.num 11).P) (G := (Fq.num (11)).P) hp (free_of rfl) (gq_some rfl rfl (by simp) rfl (fun v w h => h)) (enq_R_Same) (sq_in 16 rfl rfl (by simp) rfl (fun v w h => h)) (sq_in 17 rfl rfl (by simp) rfl (fun v w h => h)) (fun v v' w h h' => exRSameB h h' (by decide))
  · exact q_one (F := fun v _ => v = .bool true) hp (free_of rfl) (gq_some rfl rfl (by simp) rfl (fun v w h => h)) (sq_in 18 rfl rfl (by simp) rfl (fun v w h => h)) (fun ρ w _ h => ⟨.bool false, by simp [execOp, go_sem, h], rfl⟩)
  · exact q_two (F := fun v _ => v = .bool false) (G := fun v _ => v = .bool false) hp (free_of rfl) trivial (sq_in 15 rfl rfl (by simp) rfl (fun v w h => h)) (sq_in 19 rfl rfl (by simp) rfl (fun v w h => h)) (fun ρ w hc h h' => ⟨_, by simp [execOp, go_sem, h, h'], rfl⟩)
  · exact q_move hp (free_of rfl) trivial (sq_in 20 rfl rfl (by simp) rfl (fun v w h => h))
  · exact q_loadInt (off := 0) hp (free_of rfl) (gq_some rfl rfl (by simp) rfl (fun v w h => h)) (List.mem_iff_getElem?.2 ⟨4, rfl⟩) (.inl rfl) (Nat.le_of_ble_eq_true rfl) (sq_out rfl rfl (fun _ _ => rfl)) (fun us w hl h => ld_num hl h)
  · exact q_call1 (F := (Fq.is (.int .i64 12)).P) hp (free_of rfl) (gq_some rfl rfl (by simp) rfl (fun v w h => h)) (enq_V_of) (sq_const (fun _ => rfl)) (fun v w h => (by subst h; exact exVOf (by omega)))
  · exact q_call2 (F := (Fq.num 12).P) (G := (Fq.num (12)).P) hp (free_of rfl) (gq_some rfl rfl (by simp) rfl (fun v w h => h)) (enq_R_Same) (sq_in 22 rfl rfl (by simp) rfl (fun v w h => h)) (sq_in 23 rfl rfl (by simp) rfl (fun v w h => h)) (fun v v' w h h' => exRSameB h h' (by decide))
  · exact q_one (F := fun v _ => v = .bool true) hp (free_of rfl) (gq_some rfl rfl (by simp) rfl (fun v w h => h)) (sq_in 24 rfl rfl (by simp) rfl (fun v w h => h)) (fun ρ w _ h => ⟨.bool false, by simp [execOp, go_sem, h], rfl⟩)
  · exact q_two (F := fun v _ => v = .bool false) (G := fun v _ => v = .bool false) hp (free_of rfl) trivial (sq_in 21 rfl rfl (by simp) rfl (fun v w h => h)) (sq_in 25 rfl rfl (by simp) rfl (fun v w h => h)) (fun ρ w hc h h' => ⟨_, by simp [execOp, go_sem, h, h'], rfl⟩)
  intro L vs w12 nb hL hC hn E12
  have e0 : vs 0 = .int .i64 0 := hC 0 (by simp)
  have e1 : vs 1 = .bool false := hC 1 (by simp)
  have e2 : vs 2 = .bool false := hC 2 (by simp)
  have e3 : vs 3 = .int .i64 0 := hC 3 (by simp)
  have e4 : vs 4 = .bool false := hC 4 (by simp)
  have e5 : vs 5 = .bool false := hC 5 (by simp)
  have e6 : vs 6 = .bool false := hC 6 (by simp)
  have e7 : vs 7 = .int .i64 6 := hC 7 (by simp)
  have e8 : vs 8 = .bool false := hC 8 (by simp)
  have e9 : vs 9 = .bool false := hC 9 (by simp)
  have e10 : vs 10 = .bool false := hC 10 (by simp)
  have e11 : vs 11 = .pointer (some ⟨b9_3, 2, none⟩) := hC 11 (by simp)
  have e12 : vs 12 = .int .i64 4 := hC 12 (by simp)
  have e13 : vs 13 = .bool false := hC 13 (by simp)
  have e14 : vs 14 = .bool false := hC 14 (by simp)
  have e15 : vs 15 = .bool false := hC 15 (by simp)
  have e18 : vs 18 = .bool true := hC 18 (by simp)
  have e19 : vs 19 = .bool false := hC 19 (by simp)
  have e20 : vs 20 = .bool false := hC 20 (by simp)
  have e21 : vs 21 = .bool false := hC 21 (by simp)
  have e24 : vs 24 = .bool true := hC 24 (by simp)
  have e25 : vs 25 = .bool false := hC 25 (by simp)
  have e26 : vs 26 = .bool false := hC 26 (by simp)
  have E : Fr w3 [(b9_3, 3, Fq.got 0 4), (b8_9, 2, Fq.num 0), (b8_10, 2, Fq.num 0), (b4_9, 2, Fq.num 11), (b4_10, 2, Fq.num 12)] w12 := E12
  rw [lay_all hL]
  simp only [putAll, dstOf, List.length_cons, List.length_nil, Nat.zero_add, Nat.reduceAdd, List.getElem?_toArray, List.getElem?_cons_zero, List.getElem?_cons_succ, Option.bind_some, Act.put, List.setIfInBounds_toArray, List.set_cons_succ, List.set_cons_zero]
  rw [e0, e1, e2, e3, e4, e5, e6, e7, e8, e9, e10, e11, e12, e13, e14, e15, e18, e19, e20, e21, e24, e25, e26]
  generalize vs 16 = u12_16
  generalize vs 17 = u12_17
  generalize vs 22 = u12_22
  generalize vs 23 = u12_23
  clear e0 e1 e2 e3 e4 e5 e6 e7 e8 e9 e10 e11 e12 e13 e14 e15 e18 e19 e20 e21 e24 e25 e26 hC hn E12 hL vs L nb
  go_upto_region 7 with (fail)
  have B13 : Hid (ab ((7)) < pw 3) := ab_lit (by decide)
  have B14 : Hid (ab ((-1)) < pw 3) := ab_lit (by decide)
  have B15 : Hid (ab ((5)) < pw 3) := ab_lit (by decide)
  refine region_fr (C := [Fq.num (2), Fq.num (7), Fq.is (.int .i64 1), Fq.is (.bool true), Fq.is (.bool true), Fq.num (2), Fq.num (3), Fq.is (.int .i64 (-1)), Fq.is (.bool true), Fq.is (.bool true), Fq.is (.bool true), Fq.num (-1), Fq.num (-1), Fq.is (.int .i64 (-1)), Fq.is (.bool true), Fq.is (.bool true), Fq.is (.bool true), Fq.num (5), Fq.num (0), Fq.is (.int .i64 0), Fq.is (.bool true), Fq.is (.bool true), Fq.is (.bool true)]) (ks := [none, none, none, none, none]) (new := []) E rfl (by kernel_rfl) rfl rfl (fun hp => ⟨?_, ?_, ?_, ?_, ?_, ?_, ?_, ?_, ?_, ?_, ?_, ?_, ?_, ?_, ?_, ?_, ?_, ?_, ?_, ?_, ?_, ?_, ?_, trivial⟩) ?_
  · exact q_call1 (F := (Fq.is (.int .i64 2)).P) hp (free_of rfl) trivial (enq_V_of) (sq_const (fun _ => rfl)) (fun v w h => (by subst h; exact exVOf (by omega)))
  · exact q_call1 (F := (Fq.is (.int .i64 7)).P) hp (free_of rfl) trivial (enq_V_of) (sq_const (fun _ => rfl)) (fun v w h => (by subst h; exact exVOf (by omega)))
  · exact q_call2W (F := (Fq.num (2)).P) (G := (Fq.num (7)).P) hp (free_of rfl) trivial (enq_M_Kronecker) rfl (sq_in 0 rfl rfl (by simp) rfl (fun v w h => h)) (sq_in 1 rfl rfl (by simp) rfl (fun v w h => h)) (fun v v' w hbw h h' => exKronL h h' (HT.out.mono hbw) B1.out B13.out kron_2_7)
  · exact q_one (F := fun v _ => v = .int .i64 1) hp (free_of rfl) trivial (sq_in 2 rfl rfl (by simp) rfl (fun v w h => h)) (fun ρ w hc h => ⟨.bool true, by simp [execOp, go_sem, h, hc], rfl⟩)
  · exact q_move hp (free_of rfl) trivial (sq_in 3 rfl rfl (by simp) rfl (fun v w h => h))
  · exact q_call1 (F := (Fq.is (.int .i64 2)).P) hp (free_of rfl) (gq_some rfl rfl (by simp) rfl (fun v w h => h)) (enq_V_of) (sq_const (fun _ => rfl)) (fun v w h => (by subst h; exact exVOf (by omega)))
  · exact q_call1 (F := (Fq.is (.int .i64 3)).P) hp (free_of rfl) (gq_some rfl rfl (by simp) rfl (fun v w h => h)) (enq_V_of) (sq_const (fun _ => rfl)) (fun v w h => (by subst h; exact exVOf (by omega)))
  · exact q_call2W (F := (Fq.num (2)).P) (G := (Fq.num (3)).P) hp (free_of rfl) (gq_some rfl rfl (by simp) rfl (fun v w h => h)) (enq_M_Kronecker) rfl (sq_in 5 rfl rfl (by simp) rfl (fun v w h => h)) (sq_in 6 rfl rfl (by simp) rfl (fun v w h => h)) (fun v v' w hbw h h' => exKronL h h' (HT.out.mono hbw) B1.out B2.out kron_2_3)
  · exact q_one (F := fun v _ => v = .int .i64 (-1)) hp (free_of rfl) (gq_some rfl rfl (by simp) rfl (fun v w h => h)) (sq_in 7 rfl rfl (by simp) rfl (fun v w h => h)) (fun ρ w hc h => ⟨.bool true, by simp [execOp, go_sem, h, hc], rfl⟩)
  · exact q_two (F := fun v _ => v = .bool true) (G := fun v _ => v = .bool true) hp (free_of rfl) trivial (sq_in 4 rfl rfl (by simp) rfl (fun v w h => h)) (sq_in 8 rfl rfl (by simp) rfl (fun v w h => h)) (fun ρ w hc h h' => ⟨_, by simp [execOp, go_sem, h, h'], rfl⟩)
  · exact q_move hp (free_of rfl) trivial (sq_in 9 rfl rfl (by simp) rfl (fun v w h => h))
  · exact q_call1 (F := (Fq.is (.int .i64 (-1))).P) hp (free_of rfl) (gq_some rfl rfl (by simp) rfl (fun v w h => h)) (enq_V_of) (sq_const (fun _ => rfl)) (fun v w h => (by subst h; exact exVOf (by omega)))
  · exact q_call1 (F := (Fq.is (.int .i64 (-1))).P) hp (free_of rfl) (gq_some rfl rfl (by simp) rfl (fun v w h => h)) (enq_V_of) (sq_const (fun _ => rfl)) (fun v w h => (by subst h; exact exVOf (by omega)))
  · exact q_call2W (F := (Fq.num (-1)).P) (G := (Fq.num (-1)).P) hp (free_of rfl) (gq_some rfl rfl (by simp) rfl (fun v w h => h)) (enq_M_Kronecker) rfl (sq_in 11 rfl rfl (by simp) rfl (fun v w h => h)) (sq_in 12 rfl rfl (by simp) rfl (fun v w h => h)) (fun v v' w hbw h h' => exKronL h h' (HT.out.mono hbw) B14.out B14.out kron_m1_m1)
  · exact q_one (F := fun v _ => v = .int .i64 (-1)) hp (free_of rfl) (gq_some rfl rfl (by simp) rfl (fun v w h => h)) (sq_in 13 rfl rfl (by simp) rfl (fun v w h => h)) (fun ρ w hc h => ⟨.bool true, by simp [execOp, go_sem, h, hc], rfl⟩)
  · exact q_two (F := fun v _ => v = .bool true) (G := fun v _ => v = .bool true) hp (free_of rfl) trivial (sq_in 10 rfl rfl (by simp) rfl (fun v w h => h)) (sq_in 14 rfl rfl (by simp) rfl (fun v w h => h)) (fun ρ w hc h h' => ⟨_, by simp [execOp, go_sem, h, h'], rfl⟩)
  · exact q_move hp (free_of rfl) trivial (sq_in 15 rfl rfl (by simp) rfl (fun v w h => h))
  · exact q_call1 (F := (Fq.is (.int .i64 5)).P) hp (free_of rfl) (gq_some rfl rfl (by simp) rfl (fun v w h => h)) (enq_V_of) (sq_const (fun _ => rfl)) (fun v w h => (by subst h; exact exVOf (by omega)))
  · exact q_call1 (F := (Fq.is (.int .i64 0)).P) hp (free_of rfl) (gq_some rfl rfl (by simp) rfl (fun v w h => h)) (enq_V_of) (sq_const (fun _ => rfl)) (fun v w h => (by subst h; exact exVOf (by omega)))
  · exact q_call2W (F := (Fq.num (5)).P) (G := (Fq.num (0)).P) hp (free_of rfl) (gq_some rfl rfl (by simp) rfl (fun v w h => h)) (enq_M_Kronecker) rfl (sq_in 17 rfl rfl (by simp) rfl (fun v w h => h)) (sq_in 18 rfl rfl (by simp) rfl (fun v w h => h)) (fun v v' w hbw h h' => exKronL h h' (HT.out.mono hbw) B15.out B5.out kron_5_0)
  · exact q_one (F := fun v _ => v = .int .i64 0) hp (free_of rfl) (gq_some rfl rfl (by simp) rfl (fun v w h => h)) (sq_in 19 rfl rfl (by simp) rfl (fun v w h => h)) (fun ρ w hc h => ⟨.bool true, by simp [execOp, go_sem, h, hc], rfl⟩)
  · exact q_two (F := fun v _ => v = .bool true) (G := fun v _ => v = .bool true) hp (free_of rfl) trivial (sq_in 16 rfl rfl (by simp) rfl (fun v w h => h)) (sq_in 20 rfl rfl (by simp) rfl (fun v w h => h)) (fun ρ w hc h h' => ⟨_, by simp [execOp, go_sem, h, h'], rfl⟩)
  · exact q_assign hp (free_of rfl) trivial (sq_in 21 rfl rfl (by simp) rfl (fun v w h => h))
  intro L vs w16 nb hL hC hn E16
  have e2 : vs 2 = .int .i64 1 := hC 2 (by simp)
  have e3 : vs 3 = .bool true := hC 3 (by simp)
  have e4 : vs 4 = .bool true := hC 4 (by simp)
  have e7 : vs 7 = .int .i64 (-1) := hC 7 (by simp)
  have e8 : vs 8 = .bool true := hC 8 (by simp)
  have e9 : vs 9 = .bool true := hC 9 (by simp)
  have e10 : vs 10 = .bool true := hC 10 (by simp)
  have e13 : vs 13 = .int .i64 (-1) := hC 13 (by simp)
  have e14 : vs 14 = .bool true := hC 14 (by simp)
  have e15 : vs 15 = .bool true := hC 15 (by simp)
  have e16 : vs 16 = .bool true := hC 16 (by simp)
  have e19 : vs 19 = .int .i64 0 := hC 19 (by simp)
  have e20 : vs 20 = .bool true := hC 20 (by simp)
  have e21 : vs 21 = .bool true := hC 21 (by simp)
  have e22 : vs 22 = .bool true := hC 22 (by simp)
  have E : Fr w3 [(b9_3, 3, Fq.got 0 4), (b8_9, 2, Fq.num 0), (b8_10, 2, Fq.num 0), (b4_9, 2, Fq.num 11), (b4_10, 2, Fq.num 12)] w16 := E16
  rw [lay_all hL]
  simp only [putAll, dstOf, List.length_cons, List.length_nil, Nat.zero_add, Nat.reduceAdd, List.getElem?_toArray, List.getElem?_cons_zero, List.getElem?_cons_succ, Option.bind_some, Act.put, List.setIfInBounds_toArray, List.set_cons_succ, List.set_cons_zero]
  rw [e2, e3, e4, e7, e8, e9, e10, e13, e14, e15, e16, e19, e20, e21, e22]
  generalize vs 0 = u16_0
  generalize vs 1 = u16_1
  generalize vs 5 = u16_5
  generalize vs 6 = u16_6
  generalize vs 11 = u16_11
  generalize vs 12 = u16_12
  generalize vs 17 = u16_17
  generalize vs 18 = u16_18
  clear e2 e3 e4 e7 e8 e9 e10 e13 e14 e15 e16 e19 e20 e21 e22 hC hn E16 hL vs L nb
  go_upto_region 8 with (fail)
  have B17 : Hid (ab ((9)) < pw 3) := ab_lit (by decide)
  refine region_fr (C := [Fq.is (.bool true), Fq.is (.bool true), Fq.num (3), Fq.num (7), Fq.got 5 0, Fq.is (.bool true), Fq.is (.bool true), Fq.is (.bool true), Fq.num (2), Fq.num (-1), Fq.num (9), Fq.got 5 0, Fq.is (.bool true), Fq.is (.bool true), Fq.is (.bool true), Fq.num (2), Fq.num (7), Fq.got 3 0, Fq.is (.bool true), Fq.is (.bool true), Fq.is (.bool true), Fq.is (l), Fq.num (1), Fq.num (3), Fq.num (5), Fq.num (7), Fq.any, Fq.is (.bool true), Fq.is (.bool true), Fq.is (.bool true)]) (ks := [none, none, none, none, none]) (new := [⟨26, 26, 8, Fq.ints [(1), (3), (5), (7)], Fq.ints [(1), (3), (5), (7)], (some 4)⟩]) E rfl (by kernel_rfl) rfl rfl (fun hp => ⟨?_, ?_, ?_, ?_, ?_, ?_, ?_, ?_, ?_, ?_, ?_, ?_, ?_, ?_, ?_, ?_, ?_, ?_, ?_, ?_, ?_, ?_, ?_, ?_, ?_, ?_, ?_, ?_, ?_, ?_, trivial⟩) ?_
  · exact q_move hp (free_of rfl) trivial (sq_out rfl rfl (fun _ _ => rfl))
  · exact q_move hp (free_of rfl) trivial (sq_in 0 rfl rfl (by simp) rfl (fun v w h => h))
  · exact q_call1 (F := (Fq.is (.int .i64 3)).P) hp (free_of rfl) (gq_some rfl rfl (by simp) rfl (fun v w h => h)) (enq_V_of) (sq_const (fun _ => rfl)) (fun v w h => (by subst h; exact exVOf (by omega)))
  · exact q_call1 (F := (Fq.is (.int .i64 7)).P) hp (free_of rfl) (gq_some rfl rfl (by simp) rfl (fun v w h => h)) (enq_V_of) (sq_const (fun _ => rfl)) (fun v w h => (by subst h; exact exVOf (by omega)))
  · exact q_call2 (F := (Fq.num (3)).P) (G := (Fq.num (7)).P) hp (free_of rfl) (gq_some rfl rfl (by simp) rfl (fun v w h => h)) (enq_V_inv) (sq_in 2 rfl rfl (by simp) rfl (fun v w h => h)) (sq_in 3 rfl rfl (by simp) rfl (fun v w h => h)) (fun v v' w h h' => exInv37 h h')
  · exact q_call2 (F := (Fq.got 5 0).P) (G := (Fq.is (.int .i64 5)).P) hp (free_of rfl) (gq_some rfl rfl (by simp) rfl (fun v w h => h)) (enq_V_is) (sq_in 4 rfl rfl (by simp) rfl (fun v w h => h)) (sq_const (fun _ => rfl)) (fun v v' w h h' => (by subst h'; exact exVIs h (by omega) rfl (by decide)))
  · exact q_two (F := fun v _ => v = .bool true) (G := fun v _ => v = .bool true) hp (free_of rfl) trivial (sq_in 1 rfl rfl (by simp) rfl (fun v w h => h)) (sq_in 5 rfl rfl (by simp) rfl (fun v w h => h)) (fun ρ w hc h h' => ⟨_, by simp [execOp, go_sem, h, h'], rfl⟩)
  · exact q_move hp (free_of rfl) trivial (sq_in 6 rfl rfl (by simp) rfl (fun v w h => h))
  · exact q_call1 (F := (Fq.is (.int .i64 2)).P) hp (free_of rfl) (gq_some rfl rfl (by simp) rfl (fun v w h => h)) (enq_V_of) (sq_const (fun _ => rfl)) (fun v w h => (by subst h; exact exVOf (by omega)))
  · exact q_call1 (F := (Fq.is (.int .i64 (-1))).P) hp (free_of rfl) (gq_some rfl rfl (by simp) rfl (fun v w h => h)) (enq_V_of) (sq_const (fun _ => rfl)) (fun v w h => (by subst h; exact exVOf (by omega)))
  · exact q_call1 (F := (Fq.is (.int .i64 9)).P) hp (free_of rfl) (gq_some rfl rfl (by simp) rfl (fun v w h => h)) (enq_V_of) (sq_const (fun _ => rfl)) (fun v w h => (by subst h; exact exVOf (by omega)))
  · exact q_call3 (F := (Fq.num (2)).P) (G := (Fq.num (-1)).P) (F3 := (Fq.num (9)).P) hp (free_of rfl) (gq_some rfl rfl (by simp) rfl (fun v w h => h)) (enq_V_pow) (sq_in 8 rfl rfl (by simp) rfl (fun v w h => h)) (sq_in 9 rfl rfl (by simp) rfl (fun v w h => h)) (sq_in 10 rfl rfl (by simp) rfl (fun v w h => h)) (fun v v' u w h h' g => exPow219 h h' g)
  · exact q_call2 (F := (Fq.got 5 0).P) (G := (Fq.is (.int .i64 5)).P) hp (free_of rfl) (gq_some rfl rfl (by simp) rfl (fun v w h => h)) (enq_V_is) (sq_in 11 rfl rfl (by simp) rfl (fun v w h => h)) (sq_const (fun _ => rfl)) (fun v v' w h h' => (by subst h'; exact exVIs h (by omega) rfl (by decide)))
  · exact q_two (F := fun v _ => v = .bool true) (G := fun v _ => v = .bool true) hp (free_of rfl) trivial (sq_in 7 rfl rfl (by simp) rfl (fun v w h => h)) (sq_in 12 rfl rfl (by simp) rfl (fun v w h => h)) (fun ρ w hc h h' => ⟨_, by simp [execOp, go_sem, h, h'], rfl⟩)
  · exact q_move hp (free_of rfl) trivial (sq_in 13 rfl rfl (by simp) rfl (fun v w h => h))
  · exact q_call1 (F := (Fq.is (.int .i64 2)).P) hp (free_of rfl) (gq_some rfl rfl (by simp) rfl (fun v w h => h)) (enq_V_of) (sq_const (fun _ => rfl)) (fun v w h => (by subst h; exact exVOf (by omega)))
  · exact q_call1 (F := (Fq.is (.int .i64 7)).P) hp (free_of rfl) (gq_some rfl rfl (by simp) rfl (fun v w h => h)) (enq_V_of) (sq_const (fun _ => rfl)) (fun v w h => (by subst h; exact exVOf (by omega)))
  · exact q_call2W (F := (Fq.num (2)).P) (G := (Fq.num (7)).P) hp (free_of rfl) (gq_some rfl rfl (by simp) rfl (fun v w h => h)) (enq_V_root) rfl (sq_in 15 rfl rfl (by simp) rfl (fun v w h => h)) (sq_in 16 rfl rfl (by simp) rfl (fun v w h => h)) (fun v v' w hbw h h' => exRoot27 h h' (HT.out.mono hbw))
  · exact q_call2 (F := (Fq.got 3 0).P) (G := (Fq.is (.int .i64 3)).P) hp (free_of rfl) (gq_some rfl rfl (by simp) rfl (fun v w h => h)) (enq_V_is) (sq_in 17 rfl rfl (by simp) rfl (fun v w h => h)) (sq_const (fun _ => rfl)) (fun v v' w h h' => (by subst h'; exact exVIs h (by omega) rfl (by decide)))
  · exact q_two (F := fun v _ => v = .bool true) (G := fun v _ => v = .bool true) hp (free_of rfl) trivial (sq_in 14 rfl rfl (by simp) rfl (fun v w h => h)) (sq_in 18 rfl rfl (by simp) rfl (fun v w h => h)) (fun ρ w hc h h' => ⟨_, by simp [execOp, go_sem, h, h'], rfl⟩)
  · exact q_move hp (free_of rfl) trivial (sq_in 19 rfl rfl (by simp) rfl (fun v w h => h))
  · exact q_move hp (free_of rfl) (gq_some rfl rfl (by simp) rfl (fun v w h => h)) (sq_out rfl rfl (fun _ _ => rfl))
  · exact q_call1 (F := (Fq.is (.int .i64 1)).P) hp (free_of rfl) (gq_some rfl rfl (by simp) rfl (fun v w h => h)) (enq_V_of) (sq_const (fun _ => rfl)) (fun v w h => (by subst h; exact exVOf (by omega)))
  · exact q_call1 (F := (Fq.is (.int .i64 3)).P) hp (free_of rfl) (gq_some rfl rfl (by simp) rfl (fun v w h => h)) (enq_V_of) (sq_const (fun _ => rfl)) (fun v w h => (by subst h; exact exVOf (by omega)))
  · exact q_call1 (F := (Fq.is (.int .i64 5)).P) hp (free_of rfl) (gq_some rfl rfl (by simp) rfl (fun v w h => h)) (enq_V_of) (sq_const (fun _ => rfl)) (fun v w h => (by subst h; exact exVOf (by omega)))
  · exact q_call1 (F := (Fq.is (.int .i64 7)).P) hp (free_of rfl) (gq_some rfl rfl (by simp) rfl (fun v w h => h)) (enq_V_of) (sq_const (fun _ => rfl)) (fun v w h => (by subst h; exact exVOf (by omega)))
  · exact q_buildInts4 hp (gq_some rfl rfl (by simp) rfl (fun v w h => h)) (List.mem_iff_getElem?.2 ⟨0, rfl⟩) rfl rfl rfl rfl rfl (sq_in 22 rfl rfl (by simp) rfl (fun v w h => h)) (sq_in 23 rfl rfl (by simp) rfl (fun v w h => h)) (sq_in 24 rfl rfl (by simp) rfl (fun v w h => h)) (sq_in 25 rfl rfl (by simp) rfl (fun v w h => h)) (fun _ _ => trivial) (old_ne rfl) (newks_ne rfl)
  · exact q_callWSl (F := (Fq.is (l)).P) hp (free_of rfl) (gq_some rfl rfl (by simp) rfl (fun v w h => h)) enq_U_SameList rfl (List.mem_iff_getElem?.2 ⟨0, rfl⟩) rfl (sq_in 21 rfl rfl (by simp) rfl (fun v w h => h)) (own_ptr rfl rfl (by simp) rfl) (fun v bx w hbw h hbx => (by subst h; exact exSameListB (HL.out.mono hbw) (hbx.nums rfl rfl) (by decide) (by decide) (by decide)))
  · exact q_two (F := fun v _ => v = .bool true) (G := fun v _ => v = .bool true) hp (free_of rfl) trivial (sq_in 20 rfl rfl (by simp) rfl (fun v w h => h)) (sq_in 27 rfl rfl (by simp) rfl (fun v w h => h)) (fun ρ w hc h h' => ⟨_, by simp [execOp, go_sem, h, h'], rfl⟩)
  · exact q_assign hp (free_of rfl) trivial (sq_in 28 rfl rfl (by simp) rfl (fun v w h => h))
  intro L vs w18 nb hL hC hn E18
  have e0 : vs 0 = .bool true := hC 0 (by simp)
  have e1 : vs 1 = .bool true := hC 1 (by simp)
  have e5 : vs 5 = .bool true := hC 5 (by simp)
  have e6 : vs 6 = .bool true := hC 6 (by simp)
  have e7 : vs 7 = .bool true := hC 7 (by simp)
  have e12 : vs 12 = .bool true := hC 12 (by simp)
  have e13 : vs 13 = .bool true := hC 13 (by simp)
  have e14 : vs 14 = .bool true := hC 14 (by simp)
  have e18 : vs 18 = .bool true := hC 18 (by simp)
  have e19 : vs 19 = .bool true := hC 19 (by simp)
  have e20 : vs 20 = .bool true := hC 20 (by simp)
  have e21 : vs 21 = l := hC 21 (by simp)
  have e27 : vs 27 = .bool true := hC 27 (by simp)
  have e28 : vs 28 = .bool true := hC 28 (by simp)
  have e29 : vs 29 = .bool true := hC 29 (by simp)
  have e26 : vs 26 = .slice (some ⟨nb 26, 0, none⟩) 4 4 := hn _ (List.mem_iff_getElem?.2 ⟨0, rfl⟩)
  have E : Fr w3 [(nb 26, 8, Fq.ints [(1), (3), (5), (7)]), (b9_3, 3, Fq.got 0 4), (b8_9, 2, Fq.num 0), (b8_10, 2, Fq.num 0), (b4_9, 2, Fq.num 11), (b4_10, 2, Fq.num 12)] w18 := E18
  rw [lay_all hL]
  simp only [putAll, dstOf, List.length_cons, List.length_nil, Nat.zero_add, Nat.reduceAdd, List.getElem?_toArray, List.getElem?_cons_zero, List.getElem?_cons_succ, Option.bind_some, Act.put, List.setIfInBounds_toArray, List.set_cons_succ, List.set_cons_zero]
  rw [e0, e1, e5, e6, e7, e12, e13, e14, e18, e19, e20, e21, e27, e28, e29, e26]
  generalize nb 26 = b18_26 at E ⊢
  generalize vs 2 = u18_2
  generalize vs 3 = u18_3
  generalize vs 4 = u18_4
  generalize vs 8 = u18_8
  generalize vs 9 = u18_9
  generalize vs 10 = u18_10
  generalize vs 11 = u18_11
  generalize vs 15 = u18_15
  generalize vs 16 = u18_16
  generalize vs 17 = u18_17
  generalize vs 22 = u18_22
  generalize vs 23 = u18_23
  generalize vs 24 = u18_24
  generalize vs 25 = u18_25
  clear e0 e1 e5 e6 e7 e12 e13 e14 e18 e19 e20 e21 e27 e28 e29 e26 hC hn E18 hL vs L nb
  clear B1 B2 B3 B5 B6 B7 B10 B11 B13 B14 B15 B17 HT HL
  go_wp2
  refine bodyPost_ret (v := .bool true) ?_ rfl ⟨_, rfl, HB.out.trans (E.below.mono HB.out.size), rfl⟩
  simp [results, Tryd.results9, go_sem]

end Go.Proofs.YtieobgadihcgeaaDoor

/- Prime numbers: pairs, Wilson, square roots, the theorem on powers of sums, the sequence of Lucas, Pocklington: nothing of the program is used. -/
namespace Go.Proofs.YtieobgadihcgeaaDoor
open Go Go.RowKit

def ad (x y : Int × Int) : Int × Int := (x.1 + y.1, x.2 + y.2)
/-- The same modulo p. -/
def Eqp (p : Int) (x y : Int × Int) : Prop := x.1 % p = y.1 % p ∧ x.2 % p = y.2 % p
theorem Eqp.refl (p : Int) (x : Int × Int) : Eqp p x x := ⟨rfl, rfl⟩
theorem Eqp.symm {p : Int} {x y : Int × Int} (h : Eqp p x y) : Eqp p y x := ⟨h.1.symm, h.2.symm⟩
theorem Eqp.trans {p : Int} {x y z : Int × Int} (h : Eqp p x y) (h' : Eqp p y z) : Eqp p x z := ⟨h.1.trans h'.1, h.2.trans h'.2⟩
theorem add_modm {p a b c d : Int} (h : a % p = c % p) (h' : b % p = d % p) : (a + b) % p = (c + d) % p := by rw [Int.add_emod, h, h', ← Int.add_emod]
theorem Eqp.ad {p : Int} {x y x' y' : Int × Int} (h : Eqp p x x') (h' : Eqp p y y') : Eqp p (ad x y) (ad x' y') := ⟨add_modm h.1 h'.1, add_modm h.2 h'.2⟩
end Go.Proofs.YtieobgadihcgeaaDoor

/- Walk of the law on powers and inverses. -/
namespace Go.Proofs.YtieobgadihcgeaaDoor
open Go Go.RowKit

section
variable {os : List Oper} {Q : Exit → Act → World → Prop} {a : Act} {p : Pq} {B B0 : Nat} {w0 : World}
variable {i s : Nat} {d : Option Tmp} {ty : TypeId} {ps : String} {af : Array Edge} {gd : Option (Nat × Bool)}
end
end Go.Proofs.YtieobgadihcgeaaDoor

/- Walks: the reference's small primes. -/
namespace Go.Proofs.YtieobgadihcgeaaDoor
open Go Go.RowKit

end Go.Proofs.YtieobgadihcgeaaDoor

/- Walk of the law on the symbol of Kronecker. -/
namespace Go.Proofs.YtieobgadihcgeaaDoor
open Go Go.RowKit

end Go.Proofs.YtieobgadihcgeaaDoor

/- Walk of the law of Euler. -/
namespace Go.Proofs.YtieobgadihcgeaaDoor
open Go Go.RowKit

section
variable {os : List Oper} {Q : Exit → Act → World → Prop} {a : Act} {p : Pq} {B B0 : Nat} {w0 : World}
variable {i s : Nat} {d : Option Tmp} {ty : TypeId} {ps : String} {af : Array Edge} {gd : Option (Nat × Bool)}
end
theorem small3 {x : Int} (h : -18446744073709551616 < x ∧ x < 18446744073709551616) : ab x < pw 3 := by
  have h3 : pw 2 ≤ pw 3 := pw_le (by omega)
  have h4 : pw 2 = 18446744073709551616 := by decide
  unfold ab
  omega
end Go.Proofs.YtieobgadihcgeaaDoor

/- Walks: the reference's small residues and lists of roots. -/
namespace Go.Proofs.YtieobgadihcgeaaDoor
open Go Go.RowKit

theorem enq_R_word (args : Array Value) (w : World) : (callFunc 78 args).run Tryd.prog w = .ok (.enter 78 args) w := enter_of Tryd.func78 (by kernel_rfl) rfl args w
theorem enq_R_Low (args : Array Value) (w : World) : (callFunc 62 args).run Tryd.prog w = .ok (.enter 62 args) w := enter_of Tryd.func62 (by kernel_rfl) rfl args w
theorem tame_lst : Tame [.slice none 0 0, .int .i64 0] := by
  intro u hu q e
  simp at hu
  rcases hu with rfl | rfl <;> cases e
theorem ld_rawS {n : Bool} {a : Option Addr} {k c : Nat} {xs : List Int} {us : List Value} {w : World} (hl : us.length = 2) (h : (Fq.raw n a k c xs).P (.agg us.toArray) w) : us.getD 1 undef = .slice a k c := by
  match us, hl with
  | [p, q], _ =>
    obtain ⟨e, h1⟩ := h
    injection e with e
    have e2 := congrArg Array.toList e
    simp at e2
    simp [e2]
theorem box_raw1 {w : World} {b : Nat} {n : Bool} {a : Option Addr} {k c : Nat} {xs : List Int} (h : Bq w b 2 (Fq.raw n a k c xs)) : w.cell? ⟨b, 0, none⟩ = some (.bool n) ∧ w.cell? ⟨b, 1, none⟩ = some (.slice a k c) := by
  obtain ⟨us, hl, _, hat, _, hP⟩ := h
  obtain ⟨e, _⟩ := hP
  injection e with e
  have e2 := congrArg Array.toList e
  simp at e2
  subst e2
  exact ⟨(hat 0 (by simp)).1, (hat 1 (by simp)).1⟩
theorem exRWord0 {w : World} {ax : Option Addr} {n c : Nat} {xs : List Int} (hX : Sl w ax n c xs) (hb : n ≤ 2) : Calls Tryd.prog 78 #[.slice ax n c, .int .i64 0] w fun e w' => ∃ v', e = .returned v' ∧ Below w.heap.size w w' ∧ v' = .int .u64 (xs.getD 0 0) :=
  (word_any w ax n c xs hX (by omega) 0 (by omega) _ rfl).mono fun e w' ⟨h1, h2⟩ => ⟨_, h1, by rw [← h2]; exact Below.refl _ _, rfl⟩
theorem exRWord1 {w : World} {ax : Option Addr} {n c : Nat} {xs : List Int} (hX : Sl w ax n c xs) (hb : n ≤ 2) : Calls Tryd.prog 78 #[.slice ax n c, .int .i64 1] w fun e w' => ∃ v', e = .returned v' ∧ Below w.heap.size w w' ∧ v' = .int .u64 (xs.getD 1 0) :=
  (word_any w ax n c xs hX (by omega) 1 (by omega) _ rfl).mono fun e w' ⟨h1, h2⟩ => ⟨_, h1, by rw [← h2]; exact Below.refl _ _, rfl⟩
theorem val_xy {xs : List Int} (h : xs.length ≤ 2) : val xs = xs.getD 0 0 + xs.getD 1 0 * 4294967296 := by
  match xs, h with
  | [], _ => rfl
  | [x], _ => simp [val]
  | [x, y], _ => simp [val]; omega
theorem low_parts {w : World} {v : Value} {z : Int} (h : Num w v z) (h0 : 0 ≤ z) (h1 : z ≤ 9223372036854775807) : ∃ ao n c xs, v = .agg #[.bool false, .slice ao n c] ∧ Sl w ao n c xs ∧ n ≤ 2 ∧ z = xs.getD 0 0 + xs.getD 1 0 * 4294967296 ∧ 0 ≤ xs.getD 0 0 ∧ xs.getD 0 0 < 4294967296 ∧ 0 ≤ xs.getD 1 0 ∧ xs.getD 1 0 < 4294967296 := by
  have hp : pw 2 = 18446744073709551616 := by decide
  obtain ⟨neg, ao, n, c, xs, hv, hs, hn, hz, hc, hnn⟩ := h
  have hz0 := val_nonneg hs.digs
  have hv2 : val xs < pw 2 := by
    rw [hp]
    cases neg <;> simp [sgn] at hz <;> omega
  have hl := hc.length_le hv2
  rw [hs.len] at hl
  have hneg : neg = false := by
    cases neg with
    | false => rfl
    | true =>
      have e0 : val xs = 0 := by simp [sgn] at hz; omega
      have e1 := hc.zero
      rw [hs.len] at e1
      exact absurd (e1.2 e0) (hnn rfl)
  subst hneg
  have g0 := hs.digs.getD 0
  have g1 := hs.digs.getD 1
  refine ⟨ao, n, c, xs, hv, hs, hl, ?_, g0.1, g0.2, g1.1, g1.2⟩
  rw [← val_xy (by rw [hs.len]; exact hl)]
  simpa [sgn] using hz

set_option maxRecDepth 100000 in
set_option maxHeartbeats 4000000 in
theorem exRLow {w : World} {v : Value} {z : Int} (h : Num w v z) (h0 : 0 ≤ z) (h1 : z ≤ 9223372036854775807) :
    Calls Tryd.prog 62 #[v] w fun e w' => ∃ v', e = .returned v' ∧ Below w.heap.size w w' ∧ (Fq.tup2 (Fq.is (.int .i64 z)) (Fq.is (.bool true))).P v' w' := by
  obtain ⟨ao, n, c, xs, rfl, hs, hn, hz, hx0, hx1, hy0, hy1⟩ := low_parts h h0 h1
  obtain ⟨x, hx⟩ : ∃ x, x = xs.getD 0 0 := ⟨_, rfl⟩
  obtain ⟨y, hy⟩ : ∃ y, y = xs.getD 1 0 := ⟨_, rfl⟩
  rw [← hx, ← hy] at hz
  rw [← hx] at hx0 hx1
  rw [← hy] at hy0 hy1
  have HX := hidd hx
  have HY := hidd hy
  have HS := hidd hs
  have HN := hidd hn
  have HZ := hidd hz
  have SH : Hid (IntKind.u64.wrap (y * 4294967296) = y * 4294967296) := by show _ = _; rw [u64_wrap]; omega
  have OR : Hid (bits .or .u64 x (y * 4294967296) = z) := by show _ = _; rw [(or_halves x y hx0 hx1 hy0 hy1).1]; exact hz.symm
  have H0 := hidd h0
  have H1 := hidd h1
  clear hx hy hn hz hx0 hx1 hy0 hy1 h0 h1 h
  obtain ⟨w1, b1, hw1, hb1, hs1, E⟩ := fr_start w (F := Fq.raw false ao n c xs) (us := [.bool false, .slice ao n c]) 29 rfl (by simp) (tame_int _ _ _ _) (show (Fq.raw false ao n c xs).P _ w from ⟨rfl, hs⟩)
  go_enter Tryd.func62, Tryd.ntmps62
  go_upto_region 1 with (fail)
  rw [← hw1]
  rw [← hb1]
  clear hw1 hb1 hs1
  clear hs
  refine region_fr (C := [Fq.is (.pointer (some ⟨b1, 1, none⟩)), Fq.is (.slice ao n c), Fq.is (.int .u64 x), Fq.is (.pointer (some ⟨b1, 1, none⟩)), Fq.is (.slice ao n c), Fq.is (.int .u64 y), Fq.is (.int .u64 (y * 4294967296)), Fq.is (.int .u64 z), Fq.is (.int .u64 z)]) (ks := [none]) (new := []) E rfl (by kernel_rfl) rfl rfl (fun hp => ⟨?_, ?_, ?_, ?_, ?_, ?_, ?_, ?_, ?_, trivial⟩) ?_
  · exact q_addr (b := b1) (off := 0) (off' := 1) hp (free_of rfl) trivial (sq_out (s := 1) rfl rfl (fun _ _ => rfl)) (fun ρ w h => by simp [execOp, go_sem, h]) (fun _ => rfl)
  · exact q_loadSl (off := 1) (v := .slice ao n c) hp (free_of rfl) trivial (List.mem_iff_getElem?.2 ⟨0, rfl⟩) (.inl rfl) (Nat.le_of_ble_eq_true rfl) (sq_in 0 rfl rfl (by simp) rfl (fun v w h => h)) (fun us w hl h => ⟨ld_rawS hl h, rfl⟩)
  · exact q_call2W (F := (Fq.is (.slice ao n c)).P) (G := (Fq.is (.int .i64 0)).P) hp (free_of rfl) trivial (enq_R_word) rfl (sq_in 1 rfl rfl (by simp) rfl (fun v w h => h)) (sq_const (fun _ => rfl)) (fun v v' w hbw h h' => (by subst h; subst h'; rw [HX.out]; exact exRWord0 (HS.out.mono hbw) HN.out))
  · exact q_addr (b := b1) (off := 0) (off' := 1) hp (free_of rfl) trivial (sq_out (s := 1) rfl rfl (fun _ _ => rfl)) (fun ρ w h => by simp [execOp, go_sem, h]) (fun _ => rfl)
  · exact q_loadSl (off := 1) (v := .slice ao n c) hp (free_of rfl) trivial (List.mem_iff_getElem?.2 ⟨0, rfl⟩) (.inl rfl) (Nat.le_of_ble_eq_true rfl) (sq_in 3 rfl rfl (by simp) rfl (fun v w h => h)) (fun us w hl h => ⟨ld_rawS hl h, rfl⟩)
  · exact q_call2W (F := (Fq.is (.slice ao n c)).P) (G := (Fq.is (.int .i64 1)).P) hp (free_of rfl) trivial (enq_R_word) rfl (sq_in 4 rfl rfl (by simp) rfl (fun v w h => h)) (sq_const (fun _ => rfl)) (fun v v' w hbw h h' => (by subst h; subst h'; rw [HY.out]; exact exRWord1 (HS.out.mono hbw) HN.out))
  · exact q_one (F := fun v _ => v = .int .u64 y) hp (free_of rfl) trivial (sq_in 5 rfl rfl (by simp) rfl (fun v w h => h)) (fun ρ w hc h => ⟨.int .u64 (y * 4294967296), by simp [execOp, go_sem, h, hc, SH.out], rfl⟩)
  · exact q_two (F := fun v _ => v = .int .u64 x) (G := fun v _ => v = .int .u64 (y * 4294967296)) hp (free_of rfl) trivial (sq_in 2 rfl rfl (by simp) rfl (fun v w h => h)) (sq_in 6 rfl rfl (by simp) rfl (fun v w h => h)) (fun ρ w hc h h' => ⟨.int .u64 z, by simp [execOp, go_sem, h, h', OR.out], rfl⟩)
  · exact q_assign hp (free_of rfl) trivial (sq_in 7 rfl rfl (by simp) rfl (fun v w h => h))
  intro L vs w2 nb hL hC hn E2
  have e0 : vs 0 = .pointer (some ⟨b1, 1, none⟩) := hC 0 (by simp)
  have e1 : vs 1 = .slice ao n c := hC 1 (by simp)
  have e2 : vs 2 = .int .u64 x := hC 2 (by simp)
  have e3 : vs 3 = .pointer (some ⟨b1, 1, none⟩) := hC 3 (by simp)
  have e4 : vs 4 = .slice ao n c := hC 4 (by simp)
  have e5 : vs 5 = .int .u64 y := hC 5 (by simp)
  have e6 : vs 6 = .int .u64 (y * 4294967296) := hC 6 (by simp)
  have e7 : vs 7 = .int .u64 z := hC 7 (by simp)
  have e8 : vs 8 = .int .u64 z := hC 8 (by simp)
  have E : Fr w [(b1, 2, Fq.raw false ao n c xs)] w2 := E2
  rw [lay_all hL]
  simp only [putAll, dstOf, List.length_cons, List.length_nil, Nat.zero_add, Nat.reduceAdd, List.getElem?_toArray, List.getElem?_cons_zero, List.getElem?_cons_succ, Option.bind_some, Act.put, List.setIfInBounds_toArray, List.set_cons_succ, List.set_cons_zero]
  rw [e0, e1, e2, e3, e4, e5, e6, e7, e8]
  clear e0 e1 e2 e3 e4 e5 e6 e7 e8 hC hn E2 hL vs L nb
  obtain ⟨c0, c1⟩ := box_raw1 (E.box 0 rfl)
  have t1 : decide ((n : Int) > 2) = false := by have := HN.out; simp; omega
  have t2 : decide (z > 9223372036854775808) = false := by have := H1.out; simp; omega
  have t3 : (z == 9223372036854775808) = false := by have := H1.out; simp; omega
  have t4 : IntKind.i64.wrap z = z := IntWalk.i64_in _ (by have := H1.out; have := H0.out; omega)
  clear HX HY HS HN HZ SH OR H0 H1
  go_wp2
  refine bodyPost_ret (v := .tuple #[.int .i64 z, .bool true]) ?_ rfl ⟨_, rfl, E.below, _, _, rfl, rfl, rfl⟩
  simp [results, Tryd.results62, go_sem]

set_option maxRecDepth 100000 in
set_option maxHeartbeats 4000000 in
theorem exUSmall {w : World} {v : Value} {a m : Int} (h : Num w v a) (ha : ab a < pw 300) (hm : 0 < m ∧ m ≤ 9223372036854775807) :
    Calls Tryd.prog 63 #[v, .int .i64 m] w fun e w' => ∃ v', e = .returned v' ∧ Below w.heap.size w w' ∧ v' = .int .i64 (a % m) := by
  replace ha := hidd ha
  have RM := hidd hm
  have NM : Hid (m ≠ 0) := by show _ ≠ _; omega
  have BM : Hid (ab m < pw 3) := small3 (by omega)
  clear hm
  obtain ⟨n0, ao0, k0, c0, rfl⟩ := h.parts
  obtain ⟨w1, b1, hw1, hb1, hs1, E⟩ := fr_start w (F := Fq.num a) (us := [.bool n0, .slice ao0 k0 c0]) 29 rfl (by simp) (tame_int _ _ _ _) h
  go_enter Tryd.func63, Tryd.ntmps63
  go_upto_region 1 with (fail)
  rw [← hw1]
  rw [← hb1]
  clear hw1 hb1 hs1
  have LO : Hid (0 ≤ a % m) := Int.emod_nonneg _ NM.out
  have HI : Hid (a % m ≤ 9223372036854775807) := by have := Int.emod_lt_of_pos a (show 0 < m from RM.out.1); have := RM.out; show _ ≤ _; omega
  have B2 : Hid (ab ((a % m)) < pw 3) := ab_modB NM.out BM.out
  refine region_fr (C := [Fq.num a, Fq.is (.int .i64 m), Fq.num m, Fq.num (a % m), Fq.tup2 (Fq.is (.int .i64 (a % m))) (Fq.is (.bool true)), Fq.tup2 (Fq.is (.int .i64 (a % m))) (Fq.is (.bool true)), Fq.is (.int .i64 (a % m)), Fq.is (.bool true), Fq.is (.int .i64 (a % m)), Fq.is (.bool true)]) (ks := [none]) (new := []) E rfl (by kernel_rfl) rfl rfl (fun hp => ⟨?_, ?_, ?_, ?_, ?_, ?_, ?_, ?_, ?_, ?_, trivial⟩) ?_
  · exact q_loadInt (off := 0) hp (free_of rfl) trivial (List.mem_iff_getElem?.2 ⟨0, rfl⟩) (.inl rfl) (Nat.le_of_ble_eq_true rfl) (sq_out (s := 2) rfl rfl (fun _ _ => rfl)) (fun us w hl h => ld_num hl h)
  · exact q_move hp (free_of rfl) trivial (sq_out (s := 1) rfl rfl (fun _ _ => rfl))
  · exact q_call1 (F := (Fq.is (.int .i64 m)).P) hp (free_of rfl) trivial (enq_R_Of) (sq_in 1 rfl rfl (by simp) rfl (fun v w h => h)) (fun v w h => (by subst h; exact rOfK w m (by have := RM.out; omega) (by have := RM.out; omega)))
  · exact q_call2 (F := (Fq.num a).P) (G := (Fq.num m).P) hp (free_of rfl) trivial (enq_R_Mod) (sq_in 0 rfl rfl (by simp) rfl (fun v w h => h)) (sq_in 2 rfl rfl (by simp) rfl (fun v w h => h)) (fun v v' w h h' => exK (RModV h h' (Int.lt_of_lt_of_le ha.out (pw_le (by omega))) (Int.lt_of_lt_of_le BM.out (pw_le (by omega))) NM.out) B2.out (by omega))
  · exact q_call1 (F := (Fq.num (a % m)).P) hp (free_of rfl) trivial (enq_R_Low) (sq_in 3 rfl rfl (by simp) rfl (fun v w h => h)) (fun v w h => exRLow h LO.out HI.out)
  · exact q_move hp (free_of rfl) trivial (sq_in 4 rfl rfl (by simp) rfl (fun v w h => h))
  · exact q_extract2 hp (free_of rfl) trivial (sq_in 5 rfl rfl (by simp) rfl (fun v w h => h)) (fun v1 v2 w h1 h2 => ⟨_, rfl, h1⟩)
  · exact q_extract2 hp (free_of rfl) trivial (sq_in 5 rfl rfl (by simp) rfl (fun v w h => h)) (fun v1 v2 w h1 h2 => ⟨_, rfl, h2⟩)
  · exact q_assign hp (free_of rfl) trivial (sq_in 6 rfl rfl (by simp) rfl (fun v w h => h))
  · exact q_assign hp (free_of rfl) trivial (sq_in 7 rfl rfl (by simp) rfl (fun v w h => h))
  intro L vs w3 nb hL hC hn E3
  have e1 : vs 1 = .int .i64 m := hC 1 (by simp)
  have e6 : vs 6 = .int .i64 (a % m) := hC 6 (by simp)
  have e7 : vs 7 = .bool true := hC 7 (by simp)
  have e8 : vs 8 = .int .i64 (a % m) := hC 8 (by simp)
  have e9 : vs 9 = .bool true := hC 9 (by simp)
  have E : Fr w [(b1, 2, Fq.num a)] w3 := E3
  rw [lay_all hL]
  simp only [putAll, dstOf, List.length_cons, List.length_nil, Nat.zero_add, Nat.reduceAdd, List.getElem?_toArray, List.getElem?_cons_zero, List.getElem?_cons_succ, Option.bind_some, Act.put, List.setIfInBounds_toArray, List.set_cons_succ, List.set_cons_zero]
  rw [e1, e6, e7, e8, e9]
  generalize vs 0 = u3_0
  generalize vs 2 = u3_2
  generalize vs 3 = u3_3
  generalize vs 4 = u3_4
  generalize vs 5 = u3_5
  clear e1 e6 e7 e8 e9 hC hn E3 hL vs L nb
  go_upto_region 2 with (fail)
  refine region_fr (C := [Fq.is (.int .i64 (a % m)), Fq.is (.int .i64 (a % m))]) (ks := [none]) (new := []) E rfl (by kernel_rfl) rfl rfl (fun hp => ⟨?_, ?_, trivial⟩) ?_
  · exact q_move hp (free_of rfl) trivial (sq_out (s := 5) rfl rfl (fun _ _ => rfl))
  · exact q_assign hp (free_of rfl) trivial (sq_in 0 rfl rfl (by simp) rfl (fun v w h => h))
  intro L vs w4 nb hL hC hn E4
  have e0 : vs 0 = .int .i64 (a % m) := hC 0 (by simp)
  have e1 : vs 1 = .int .i64 (a % m) := hC 1 (by simp)
  have E : Fr w [(b1, 2, Fq.num a)] w4 := E4
  rw [lay_all hL]
  simp only [putAll, dstOf, List.length_cons, List.length_nil, Nat.zero_add, Nat.reduceAdd, List.getElem?_toArray, List.getElem?_cons_zero, List.getElem?_cons_succ, Option.bind_some, Act.put, List.setIfInBounds_toArray, List.set_cons_succ, List.set_cons_zero]
  rw [e0, e1]
  clear e0 e1 hC hn E4 hL vs L nb
  clear RM NM LO HI
  clear B2 ha BM
  go_wp2
  refine bodyPost_ret (v := .int .i64 (a % m)) ?_ rfl (by first | exact ⟨_, rfl, E.below, rfl⟩ | exact ⟨_, rfl, E.below⟩ | exact ⟨rfl, E.below⟩)
  simp [results, Tryd.results63, go_sem]

set_option maxRecDepth 100000 in
set_option maxHeartbeats 4000000 in
theorem exRootsIn {w : World} {v v' : Value} {a p k : Int} (h : Num w v a) (h' : Num w v' p) (ha : ab a < pw 90) (hm : ab p < pw 90) (hk : -9223372036854775808 ≤ k ∧ k ≤ 9223372036854775807) :
    Calls Tryd.prog 29 #[v, v', .int .i64 k] w fun e w' => ∃ v', e = .returned v' ∧ Below w.heap.size w w' ∧ ∃ l, v' = .agg #[l, .int .i64 (rinE p k)] ∧ Nums w' l (rinL a p k) := by
  replace ha := hidd ha
  replace hm := hidd hm
  replace hk := hidd hk
  obtain ⟨n0, ao0, k0, c0, rfl⟩ := h.parts
  obtain ⟨n1, ao1, k1, c1, rfl⟩ := h'.parts
  obtain ⟨w1, b1, hw1, hb1, hs1, E⟩ := fr_start w (F := Fq.num a) (us := [.bool n0, .slice ao0 k0 c0]) 29 rfl (by simp) (tame_int _ _ _ _) h
  obtain ⟨w2, b2, hw2, hb2, hs2, E⟩ := fr_more E hs1 (F := Fq.num p) (us := [.bool n1, .slice ao1 k1 c1]) 29 rfl (by simp) (tame_int _ _ _ _) (h'.mono E.below)
  obtain ⟨w3, b3, hw3, hb3, hs3, E⟩ := fr_more E hs2 (F := Fq.is (.agg #[.slice none 0 0, .int .i64 0])) (us := [.slice none 0 0, .int .i64 0]) 56 rfl (by simp) (tame_lst) (rfl)
  go_enter Tryd.func29, Tryd.ntmps29
  go_upto_region 1 with (fail)
  rw [← hw1]
  rw [← hw2]
  rw [← hw3]
  rw [← hb3]
  rw [← hb2]
  rw [← hb1]
  clear hw1 hw2 hw3 hb1 hb2 hb3 hs3 hs1 hs2
  by_cases hp : p < 2
  · have T1 : Hid (cmpI p 2 < 0) := cmpIqlt.2 hp
    have HE : Hid (rinE p k = 1) := if_pos (.inl hp)
    have HL : Hid (rinL a p k = []) := if_pos (.inl hp)
    clear hp
    have B4 : Hid (ab ((2)) < pw 3) := ab_lit (by decide)
    refine region_fr (C := [Fq.num p, Fq.num (2), Fq.is (.int .i64 (cmpI p (2))), Fq.is (.bool true), Fq.is (.bool true), Fq.is (undef), Fq.is (undef), Fq.is (.bool true)]) (ks := [none, none, none]) (new := []) E rfl (by kernel_rfl) rfl rfl (fun hp => ⟨?_, ?_, ?_, ?_, ?_, ?_, ?_, ?_, trivial⟩) ?_
    · exact q_loadInt (off := 0) hp (free_of rfl) trivial (List.mem_iff_getElem?.2 ⟨1, rfl⟩) (.inl rfl) (Nat.le_of_ble_eq_true rfl) (sq_out (s := 4) rfl rfl (fun _ _ => rfl)) (fun us w hl h => ld_num hl h)
    · exact q_call1 (F := (Fq.is (.int .i64 2)).P) hp (free_of rfl) trivial (enq_R_Of) (sq_const (fun _ => rfl)) (fun v w h => (by subst h; exact rOfK w (2) (by omega) (by omega)))
    · exact q_call2 (F := (Fq.num p).P) (G := (Fq.num (2)).P) hp (free_of rfl) trivial (enq_R_Cmp) (sq_in 0 rfl rfl (by simp) rfl (fun v w h => h)) (sq_in 1 rfl rfl (by simp) rfl (fun v w h => h)) (fun v v' w h h' => exRCmp' h h')
    · exact q_one (F := fun v _ => v = .int .i64 (cmpI p (2))) hp (free_of rfl) trivial (sq_in 2 rfl rfl (by simp) rfl (fun v w h => h)) (fun ρ w hc h => ⟨.bool true, by simp [execOp, go_sem, h, hc, T1.out], rfl⟩)
    · exact q_move hp (free_of rfl) trivial (sq_in 3 rfl rfl (by simp) rfl (fun v w h => h))
    · exact q_skip hp (free_of rfl) rfl (gq_some rfl rfl (by simp) rfl (fun v w h => h)) (fun _ => rfl)
    · exact q_skip hp (free_of rfl) rfl (gq_some rfl rfl (by simp) rfl (fun v w h => h)) (fun _ => rfl)
    · exact q_two (F := fun v _ => v = .bool true) (G := fun v _ => v = .bool true) hp (free_of rfl) trivial (sq_in 4 rfl rfl (by simp) rfl (fun v w h => h)) (sq_const (fun _ => rfl)) (fun ρ w hc h h' => ⟨_, by simp [execOp, go_sem, h, h'], rfl⟩)
    intro L vs w5 nb hL hC hn E5
    have e2 : vs 2 = .int .i64 (cmpI p (2)) := hC 2 (by simp)
    have e3 : vs 3 = .bool true := hC 3 (by simp)
    have e4 : vs 4 = .bool true := hC 4 (by simp)
    have e5 : vs 5 = undef := hC 5 (by simp)
    have e6 : vs 6 = undef := hC 6 (by simp)
    have e7 : vs 7 = .bool true := hC 7 (by simp)
    have E : Fr w [(b3, 2, Fq.is (.agg #[.slice none 0 0, .int .i64 0])), (b2, 2, Fq.num p), (b1, 2, Fq.num a)] w5 := E5
    rw [lay_all hL]
    simp only [putAll, dstOf, List.length_cons, List.length_nil, Nat.zero_add, Nat.reduceAdd, List.getElem?_toArray, List.getElem?_cons_zero, List.getElem?_cons_succ, Option.bind_some, Act.put, List.setIfInBounds_toArray, List.set_cons_succ, List.set_cons_zero]
    rw [e2, e3, e4, e5, e6, e7]
    generalize vs 0 = u5_0
    generalize vs 1 = u5_1
    clear e2 e3 e4 e5 e6 e7 hC hn E5 hL vs L nb
    clear T1
    have HB3 := hidd (E.boxes _ (List.mem_of_getElem? (i := 0) rfl)).1
    obtain ⟨e0, e1, e2, e3⟩ := box_is2 (E.box 0 rfl)
    clear B4 ha hm hk
    have EB := hidd E.below
    clear E
    go_wp2
    refine bodyPost_ret (v := .agg #[.slice none 0 0, .int .i64 1]) ?_ rfl ⟨_, rfl, (EB.out.setCell HB3.out _).setCell HB3.out _, _, by rw [HE.out], by rw [HL.out]; exact ⟨none, 0, rfl, .inl rfl⟩⟩
    simp [results, Tryd.results29, go_sem, e0, e1]
  · have T1 : Hid (¬ cmpI p 2 < 0) := fun e => hp (cmpIqlt.1 e)
    by_cases hk1 : k < 1
    · have HE : Hid (rinE p k = 1) := if_pos (.inr hk1)
      have HL : Hid (rinL a p k = []) := if_pos (.inr hk1)
      have T2 := hidd hk1
      clear hk1 hp
      have B6 : Hid (ab ((2)) < pw 3) := ab_lit (by decide)
      refine region_fr (C := [Fq.num p, Fq.num (2), Fq.is (.int .i64 (cmpI p (2))), Fq.is (.bool false), Fq.is (.bool false), Fq.is (.int .i64 k), Fq.is (.bool true), Fq.is (.bool true)]) (ks := [none, none, none]) (new := []) E rfl (by kernel_rfl) rfl rfl (fun hp => ⟨?_, ?_, ?_, ?_, ?_, ?_, ?_, ?_, trivial⟩) ?_
      · exact q_loadInt (off := 0) hp (free_of rfl) trivial (List.mem_iff_getElem?.2 ⟨1, rfl⟩) (.inl rfl) (Nat.le_of_ble_eq_true rfl) (sq_out (s := 4) rfl rfl (fun _ _ => rfl)) (fun us w hl h => ld_num hl h)
      · exact q_call1 (F := (Fq.is (.int .i64 2)).P) hp (free_of rfl) trivial (enq_R_Of) (sq_const (fun _ => rfl)) (fun v w h => (by subst h; exact rOfK w (2) (by omega) (by omega)))
      · exact q_call2 (F := (Fq.num p).P) (G := (Fq.num (2)).P) hp (free_of rfl) trivial (enq_R_Cmp) (sq_in 0 rfl rfl (by simp) rfl (fun v w h => h)) (sq_in 1 rfl rfl (by simp) rfl (fun v w h => h)) (fun v v' w h h' => exRCmp' h h')
      · exact q_one (F := fun v _ => v = .int .i64 (cmpI p (2))) hp (free_of rfl) trivial (sq_in 2 rfl rfl (by simp) rfl (fun v w h => h)) (fun ρ w hc h => ⟨.bool false, by simp [execOp, go_sem, h, hc, T1.out], rfl⟩)
      · exact q_move hp (free_of rfl) trivial (sq_in 3 rfl rfl (by simp) rfl (fun v w h => h))
      · exact q_move hp (free_of rfl) (gq_some rfl rfl (by simp) rfl (fun v w h => h)) (sq_out (s := 2) rfl rfl (fun _ _ => rfl))
      · exact q_one (F := fun v _ => v = .int .i64 k) hp (free_of rfl) (gq_some rfl rfl (by simp) rfl (fun v w h => h)) (sq_in 5 rfl rfl (by simp) rfl (fun v w h => h)) (fun ρ w hc h => ⟨.bool true, by simp [execOp, go_sem, h, hc, T2.out], rfl⟩)
      · exact q_two (F := fun v _ => v = .bool false) (G := fun v _ => v = .bool true) hp (free_of rfl) trivial (sq_in 4 rfl rfl (by simp) rfl (fun v w h => h)) (sq_in 6 rfl rfl (by simp) rfl (fun v w h => h)) (fun ρ w hc h h' => ⟨_, by simp [execOp, go_sem, h, h'], rfl⟩)
      intro L vs w7 nb hL hC hn E7
      have e2 : vs 2 = .int .i64 (cmpI p (2)) := hC 2 (by simp)
      have e3 : vs 3 = .bool false := hC 3 (by simp)
      have e4 : vs 4 = .bool false := hC 4 (by simp)
      have e5 : vs 5 = .int .i64 k := hC 5 (by simp)
      have e6 : vs 6 = .bool true := hC 6 (by simp)
      have e7 : vs 7 = .bool true := hC 7 (by simp)
      have E : Fr w [(b3, 2, Fq.is (.agg #[.slice none 0 0, .int .i64 0])), (b2, 2, Fq.num p), (b1, 2, Fq.num a)] w7 := E7
      rw [lay_all hL]
      simp only [putAll, dstOf, List.length_cons, List.length_nil, Nat.zero_add, Nat.reduceAdd, List.getElem?_toArray, List.getElem?_cons_zero, List.getElem?_cons_succ, Option.bind_some, Act.put, List.setIfInBounds_toArray, List.set_cons_succ, List.set_cons_zero]
      rw [e2, e3, e4, e5, e6, e7]
      generalize vs 0 = u7_0
      generalize vs 1 = u7_1
      clear e2 e3 e4 e5 e6 e7 hC hn E7 hL vs L nb
      clear T1 T2
      have HB3 := hidd (E.boxes _ (List.mem_of_getElem? (i := 0) rfl)).1
      obtain ⟨e0, e1, e2, e3⟩ := box_is2 (E.box 0 rfl)
      clear B6 ha hm hk
      have EB := hidd E.below
      clear E
      go_wp2
      refine bodyPost_ret (v := .agg #[.slice none 0 0, .int .i64 1]) ?_ rfl ⟨_, rfl, (EB.out.setCell HB3.out _).setCell HB3.out _, _, by rw [HE.out], by rw [HL.out]; exact ⟨none, 0, rfl, .inl rfl⟩⟩
      simp [results, Tryd.results29, go_sem, e0, e1]
    · have HPK : Hid (2 ≤ p ∧ 1 ≤ k) := by show _ ∧ _; omega
      have HNZ : Hid (¬ (p < 2 ∨ k < 1)) := by show ¬ _; omega
      have T2 := hidd hk1
      clear hk1 hp
      have B8 : Hid (ab ((2)) < pw 3) := ab_lit (by decide)
      refine region_fr (C := [Fq.num p, Fq.num (2), Fq.is (.int .i64 (cmpI p (2))), Fq.is (.bool false), Fq.is (.bool false), Fq.is (.int .i64 k), Fq.is (.bool false), Fq.is (.bool false)]) (ks := [none, none, none]) (new := []) E rfl (by kernel_rfl) rfl rfl (fun hp => ⟨?_, ?_, ?_, ?_, ?_, ?_, ?_, ?_, trivial⟩) ?_
      · exact q_loadInt (off := 0) hp (free_of rfl) trivial (List.mem_iff_getElem?.2 ⟨1, rfl⟩) (.inl rfl) (Nat.le_of_ble_eq_true rfl) (sq_out (s := 4) rfl rfl (fun _ _ => rfl)) (fun us w hl h => ld_num hl h)
      · exact q_call1 (F := (Fq.is (.int .i64 2)).P) hp (free_of rfl) trivial (enq_R_Of) (sq_const (fun _ => rfl)) (fun v w h => (by subst h; exact rOfK w (2) (by omega) (by omega)))
      · exact q_call2 (F := (Fq.num p).P) (G := (Fq.num (2)).P) hp (free_of rfl) trivial (enq_R_Cmp) (sq_in 0 rfl rfl (by simp) rfl (fun v w h => h)) (sq_in 1 rfl rfl (by simp) rfl (fun v w h => h)) (fun v v' w h h' => exRCmp' h h')
      · exact q_one (F := fun v _ => v = .int .i64 (cmpI p (2))) hp (free_of rfl) trivial (sq_in 2 rfl rfl (by simp) rfl (fun v w h => h)) (fun ρ w hc h => ⟨.bool false, by simp [execOp, go_sem, h, hc, T1.out], rfl⟩)
      · exact q_move hp (free_of rfl) trivial (sq_in 3 rfl rfl (by simp) rfl (fun v w h => h))
      · exact q_move hp (free_of rfl) (gq_some rfl rfl (by simp) rfl (fun v w h => h)) (sq_out (s := 2) rfl rfl (fun _ _ => rfl))
      · exact q_one (F := fun v _ => v = .int .i64 k) hp (free_of rfl) (gq_some rfl rfl (by simp) rfl (fun v w h => h)) (sq_in 5 rfl rfl (by simp) rfl (fun v w h => h)) (fun ρ w hc h => ⟨.bool false, by simp [execOp, go_sem, h, hc, T2.out], rfl⟩)
      · exact q_two (F := fun v _ => v = .bool false) (G := fun v _ => v = .bool false) hp (free_of rfl) trivial (sq_in 4 rfl rfl (by simp) rfl (fun v w h => h)) (sq_in 6 rfl rfl (by simp) rfl (fun v w h => h)) (fun ρ w hc h h' => ⟨_, by simp [execOp, go_sem, h, h'], rfl⟩)
      intro L vs w9 nb hL hC hn E9
      have e2 : vs 2 = .int .i64 (cmpI p (2)) := hC 2 (by simp)
      have e3 : vs 3 = .bool false := hC 3 (by simp)
      have e4 : vs 4 = .bool false := hC 4 (by simp)
      have e5 : vs 5 = .int .i64 k := hC 5 (by simp)
      have e6 : vs 6 = .bool false := hC 6 (by simp)
      have e7 : vs 7 = .bool false := hC 7 (by simp)
      have E : Fr w [(b3, 2, Fq.is (.agg #[.slice none 0 0, .int .i64 0])), (b2, 2, Fq.num p), (b1, 2, Fq.num a)] w9 := E9
      rw [lay_all hL]
      simp only [putAll, dstOf, List.length_cons, List.length_nil, Nat.zero_add, Nat.reduceAdd, List.getElem?_toArray, List.getElem?_cons_zero, List.getElem?_cons_succ, Option.bind_some, Act.put, List.setIfInBounds_toArray, List.set_cons_succ, List.set_cons_zero]
      rw [e2, e3, e4, e5, e6, e7]
      generalize vs 0 = u9_0
      generalize vs 1 = u9_1
      clear e2 e3 e4 e5 e6 e7 hC hn E9 hL vs L nb
      clear T1 T2
      go_upto_region 3 with (fail)
      have B10 : Hid (ab ((1)) < pw 3) := ab_lit (by decide)
      refine region_fr (C := [Fq.num (1), Fq.any, Fq.any]) (ks := [none, none, none]) (new := [⟨1, 2, 2, Fq.num 0, Fq.num (1), none⟩]) E rfl (by kernel_rfl) rfl rfl (fun hp => ⟨?_, ?_, ?_, trivial⟩) ?_
      · exact q_call1 (F := (Fq.is (.int .i64 1)).P) hp (free_of rfl) trivial (enq_R_Of) (sq_const (fun _ => rfl)) (fun v w h => (by subst h; exact rOfK w (1) (by omega) (by omega)))
      · exact q_allocInt hp (List.mem_iff_getElem?.2 ⟨0, rfl⟩) rfl rfl rfl rfl (Nat.ne_of_beq_eq_false rfl) (fun _ _ => trivial) (old_ne rfl) (newk_ne rfl) (fun w => Num.zero w)
      · exact q_storeNewInt hp (List.mem_iff_getElem?.2 ⟨0, rfl⟩) rfl rfl rfl (own_ptr rfl rfl (by simp) rfl) (sq_in 0 rfl rfl (by simp) rfl (fun v w h => intV_num h)) (fun _ _ => trivial) (old_ne rfl) (newi_ne rfl)
      intro L vs w11 nb hL hC hn E11
      have e1 : vs 1 = .pointer (some ⟨nb 1, 0, none⟩) := hn _ (List.mem_iff_getElem?.2 ⟨0, rfl⟩)
      have E : Fr w [(nb 1, 2, Fq.num (1)), (b3, 2, Fq.is (.agg #[.slice none 0 0, .int .i64 0])), (b2, 2, Fq.num p), (b1, 2, Fq.num a)] w11 := E11
      rw [lay_all hL]
      simp only [putAll, dstOf, List.length_cons, List.length_nil, Nat.zero_add, Nat.reduceAdd, List.getElem?_toArray, List.getElem?_cons_zero, List.getElem?_cons_succ, Option.bind_some, Act.put, List.setIfInBounds_toArray, List.set_cons_succ, List.set_cons_zero]
      rw [e1]
      generalize nb 1 = b11_1 at E ⊢
      generalize vs 0 = u11_0
      clear e1 hC hn E11 hL vs L nb
      go_upto_region 4 with (fail)
      refine region_fr (C := [Fq.is (.int .i64 0)]) (ks := [none, none, none, none]) (new := []) E rfl (by kernel_rfl) rfl rfl (fun hp => ⟨?_, trivial⟩) ?_
      · exact q_assign hp (free_of rfl) trivial (sq_const (fun _ => rfl))
      intro L vs w12 nb hL hC hn E12
      have e0 : vs 0 = .int .i64 0 := hC 0 (by simp)
      have E : Fr w [(b11_1, 2, Fq.num (1)), (b3, 2, Fq.is (.agg #[.slice none 0 0, .int .i64 0])), (b2, 2, Fq.num p), (b1, 2, Fq.num a)] w12 := E12
      rw [lay_all hL]
      simp only [putAll, dstOf, List.length_cons, List.length_nil, Nat.zero_add, List.getElem?_toArray, List.getElem?_cons_zero, Option.bind_some, Act.put, List.setIfInBounds_toArray, List.set_cons_succ, List.set_cons_zero]
      rw [e0]
      clear e0 hC hn E12 hL vs L nb
      have HS := hidd E
      go_upto_region 5 with (fail)
      go_loopw [8] (fun vi W => ∃ j : Nat, vi = .int .i64 (j : Int) ∧ (j : Int) ≤ k ∧ p ^ j ≤ 1048576 ∧ Fr w [(b11_1, 2, Fq.num (p ^ j)), (b3, 2, Fq.is (.agg #[.slice none 0 0, .int .i64 0])), (b2, 2, Fq.num p), (b1, 2, Fq.num a)] W) (fun vi _ => (k - intOf vi).toNat)
      case atStart => exact ⟨0, rfl, by have := HPK.out; omega, by rw [Int.pow_zero]; decide, by rw [Int.pow_zero]; exact HS.out⟩
      case round =>
        obtain ⟨j, rfl, hj, hpj, E⟩ := hrel
        clear HS
        have HJ := hidd hj
        have HPJ := hidd hpj
        have HP1 : Hid (1 ≤ p ^ j) := by have := pow_pos_two HPK.out.1 j; show _ ≤ _; omega
        obtain ⟨m, hm⟩ : ∃ m, m = p ^ j := ⟨_, rfl⟩
        rw [← hm] at E HPJ HP1
        have HM := hidd hm
        have BM : Hid (ab m < pw 3) := small3 (by have := HPJ.out; have := HP1.out; omega)
        clear hj hpj hm
        by_cases hjk : (j : Int) < k
        · have TL := hidd hjk
          have hw : IntKind.i64.wrap ((j : Int) + 1) = (j : Int) + 1 := IntWalk.i64_in _ (by have := hk.out; omega)
          have HW := hidd hw
          clear hw hjk
          go_upto_region 5 with (fail)
          refine region_fr (C := [Fq.is (.int .i64 (j : Int)), Fq.is (.int .i64 k), Fq.is (.bool true)]) (ks := [none, none, none, none]) (new := []) E rfl (by kernel_rfl) rfl rfl (fun hp => ⟨?_, ?_, ?_, trivial⟩) ?_
          · exact q_move hp (free_of rfl) trivial (sq_out (s := 8) rfl rfl (fun _ _ => rfl))
          · exact q_move hp (free_of rfl) trivial (sq_out (s := 2) rfl rfl (fun _ _ => rfl))
          · exact q_two (F := fun v _ => v = .int .i64 (j : Int)) (G := fun v _ => v = .int .i64 k) hp (free_of rfl) trivial (sq_in 0 rfl rfl (by simp) rfl (fun v w h => h)) (sq_in 1 rfl rfl (by simp) rfl (fun v w h => h)) (fun ρ w hc h h' => ⟨.bool true, by simp [execOp, go_sem, h, h', TL.out], rfl⟩)
          intro L vs w13 nb hL hC hn E13
          have e0 : vs 0 = .int .i64 (j : Int) := hC 0 (by simp)
          have e1 : vs 1 = .int .i64 k := hC 1 (by simp)
          have e2 : vs 2 = .bool true := hC 2 (by simp)
          have E : Fr w [(b11_1, 2, Fq.num m), (b3, 2, Fq.is (.agg #[.slice none 0 0, .int .i64 0])), (b2, 2, Fq.num p), (b1, 2, Fq.num a)] w13 := E13
          rw [lay_all hL]
          simp only [putAll, dstOf, List.length_cons, List.length_nil, Nat.zero_add, Nat.reduceAdd, List.getElem?_toArray, List.getElem?_cons_zero, List.getElem?_cons_succ, Option.bind_some, Act.put, List.setIfInBounds_toArray, List.set_cons_succ, List.set_cons_zero]
          rw [e0, e1, e2]
          clear e0 e1 e2 hC hn E13 hL vs L nb
          go_upto_region 7 with (fail)
          have B14 : Hid (ab ((m * p)) < pw 93) := ab_mulM BM.out hm.out (by omega)
          refine region_fr (C := [Fq.num m, Fq.num p, Fq.num (m * p), Fq.any]) (ks := [some (3, Fq.num (m * p)), none, none, none]) (new := []) E rfl (by kernel_rfl) rfl rfl (fun hp => ⟨?_, ?_, ?_, ?_, trivial⟩) ?_
          · exact q_loadInt (off := 0) hp (free_of rfl) trivial (List.mem_iff_getElem?.2 ⟨0, rfl⟩) (.inr rfl) (Nat.le_of_ble_eq_true rfl) (sq_out (s := 7) rfl rfl (fun _ _ => rfl)) (fun us w hl h => ld_num hl h)
          · exact q_loadInt (off := 0) hp (free_of rfl) trivial (List.mem_iff_getElem?.2 ⟨2, rfl⟩) (.inl rfl) (Nat.le_of_ble_eq_true rfl) (sq_out (s := 4) rfl rfl (fun _ _ => rfl)) (fun us w hl h => ld_num hl h)
          · exact q_call2 (F := (Fq.num m).P) (G := (Fq.num p).P) hp (free_of rfl) trivial (enq_R_Mul) (sq_in 0 rfl rfl (by simp) rfl (fun v w h => h)) (sq_in 1 rfl rfl (by simp) rfl (fun v w h => h)) (fun v v' w h h' => exK (RMulV h h') B14.out (by omega))
          · exact q_storeOldInt hp (List.mem_iff_getElem?.2 ⟨0, rfl⟩) rfl rfl (sq_out (s := 7) rfl rfl (fun _ _ => rfl)) (sq_in 2 rfl rfl (by simp) rfl (fun v w h => intV_num h)) (fun _ _ => trivial) (newik_ne rfl)
          intro L vs w15 nb hL hC hn E15
          have E : Fr w [(b11_1, 2, Fq.num (m * p)), (b3, 2, Fq.is (.agg #[.slice none 0 0, .int .i64 0])), (b2, 2, Fq.num p), (b1, 2, Fq.num a)] w15 := E15
          rw [lay_all hL]
          simp only [putAll, dstOf, List.length_cons, List.length_nil, Nat.zero_add, Nat.reduceAdd, List.getElem?_toArray, List.getElem?_cons_zero, List.getElem?_cons_succ, Option.bind_some, Act.put, List.setIfInBounds_toArray, List.set_cons_succ, List.set_cons_zero]
          generalize vs 0 = u15_0
          generalize vs 1 = u15_1
          generalize vs 2 = u15_2
          clear  hC hn E15 hL vs L nb
          by_cases hb : m * p > 1048576
          · have T3 : Hid (cmpI (m * p) 1048576 > 0) := cmpIqgt.2 hb
            have hn : ¬ p ^ k.toNat ≤ 1048576 := by
              intro hle
              have h1 := pow_mono_two HPK.out.1 (show j + 1 ≤ k.toNat by have := TL.out; omega)
              rw [Int.pow_succ, ← HM.out] at h1
              omega
            have HE : Hid (rinE p k = 2) := (if_neg HNZ.out).trans (if_neg hn)
            have HL : Hid (rinL a p k = []) := (if_neg HNZ.out).trans (if_neg hn)
            clear hn hb
            go_upto_region 8 with (fail)
            have B16 : Hid (ab ((1048576)) < pw 3) := ab_lit (by decide)
            refine region_fr (C := [Fq.num (m * p), Fq.num (1048576), Fq.is (.int .i64 (cmpI (m * p) (1048576))), Fq.is (.bool true)]) (ks := [none, none, none, none]) (new := []) E rfl (by kernel_rfl) rfl rfl (fun hp => ⟨?_, ?_, ?_, ?_, trivial⟩) ?_
            · exact q_loadInt (off := 0) hp (free_of rfl) trivial (List.mem_iff_getElem?.2 ⟨0, rfl⟩) (.inl rfl) (Nat.le_of_ble_eq_true rfl) (sq_out (s := 7) rfl rfl (fun _ _ => rfl)) (fun us w hl h => ld_num hl h)
            · exact q_call1 (F := (Fq.is (.int .i64 1048576)).P) hp (free_of rfl) trivial (enq_R_Of) (sq_const (fun _ => rfl)) (fun v w h => (by subst h; exact rOfK w (1048576) (by omega) (by omega)))
            · exact q_call2 (F := (Fq.num (m * p)).P) (G := (Fq.num (1048576)).P) hp (free_of rfl) trivial (enq_R_Cmp) (sq_in 0 rfl rfl (by simp) rfl (fun v w h => h)) (sq_in 1 rfl rfl (by simp) rfl (fun v w h => h)) (fun v v' w h h' => exRCmp' h h')
            · exact q_one (F := fun v _ => v = .int .i64 (cmpI (m * p) (1048576))) hp (free_of rfl) trivial (sq_in 2 rfl rfl (by simp) rfl (fun v w h => h)) (fun ρ w hc h => ⟨.bool true, by simp [execOp, go_sem, h, hc, T3.out], rfl⟩)
            intro L vs w17 nb hL hC hn E17
            have e2 : vs 2 = .int .i64 (cmpI (m * p) (1048576)) := hC 2 (by simp)
            have e3 : vs 3 = .bool true := hC 3 (by simp)
            have E : Fr w [(b11_1, 2, Fq.num (m * p)), (b3, 2, Fq.is (.agg #[.slice none 0 0, .int .i64 0])), (b2, 2, Fq.num p), (b1, 2, Fq.num a)] w17 := E17
            rw [lay_all hL]
            simp only [putAll, dstOf, List.length_cons, List.length_nil, Nat.zero_add, Nat.reduceAdd, List.getElem?_toArray, List.getElem?_cons_zero, List.getElem?_cons_succ, Option.bind_some, Act.put, List.setIfInBounds_toArray, List.set_cons_succ, List.set_cons_zero]
            rw [e2, e3]
            generalize vs 0 = u17_0
            generalize vs 1 = u17_1
            clear e2 e3 hC hn E17 hL vs L nb
            clear T3 TL HW HM HJ HPJ HP1 HPK HNZ
            have HB3 := hidd (E.boxes _ (List.mem_of_getElem? (i := 1) rfl)).1
            obtain ⟨e0, e1, e2, e3⟩ := box_is2 (E.box 1 rfl)
            clear B8 B10 B14 B16 ha hm hk BM
            have EB := hidd E.below
            clear E
            go_wp2
            refine bodyPost_ret (v := .agg #[.slice none 0 0, .int .i64 2]) ?_ rfl ⟨_, rfl, (EB.out.setCell HB3.out _).setCell HB3.out _, _, by rw [HE.out], by rw [HL.out]; exact ⟨none, 0, rfl, .inl rfl⟩⟩
            simp [results, Tryd.results29, go_sem, e0, e1]
          · have T3 : Hid (¬ cmpI (m * p) 1048576 > 0) := fun e => hb (cmpIqgt.1 e)
            have HQ : Hid (p ^ (j + 1) ≤ 1048576) := by show _ ≤ _; rw [Int.pow_succ, ← HM.out]; omega
            clear hb
            go_upto_region 8 with (fail)
            have B18 : Hid (ab ((1048576)) < pw 3) := ab_lit (by decide)
            refine region_fr (C := [Fq.num (m * p), Fq.num (1048576), Fq.is (.int .i64 (cmpI (m * p) (1048576))), Fq.is (.bool false)]) (ks := [none, none, none, none]) (new := []) E rfl (by kernel_rfl) rfl rfl (fun hp => ⟨?_, ?_, ?_, ?_, trivial⟩) ?_
            · exact q_loadInt (off := 0) hp (free_of rfl) trivial (List.mem_iff_getElem?.2 ⟨0, rfl⟩) (.inl rfl) (Nat.le_of_ble_eq_true rfl) (sq_out (s := 7) rfl rfl (fun _ _ => rfl)) (fun us w hl h => ld_num hl h)
            · exact q_call1 (F := (Fq.is (.int .i64 1048576)).P) hp (free_of rfl) trivial (enq_R_Of) (sq_const (fun _ => rfl)) (fun v w h => (by subst h; exact rOfK w (1048576) (by omega) (by omega)))
            · exact q_call2 (F := (Fq.num (m * p)).P) (G := (Fq.num (1048576)).P) hp (free_of rfl) trivial (enq_R_Cmp) (sq_in 0 rfl rfl (by simp) rfl (fun v w h => h)) (sq_in 1 rfl rfl (by simp) rfl (fun v w h => h)) (fun v v' w h h' => exRCmp' h h')
            · exact q_one (F := fun v _ => v = .int .i64 (cmpI (m * p) (1048576))) hp (free_of rfl) trivial (sq_in 2 rfl rfl (by simp) rfl (fun v w h => h)) (fun ρ w hc h => ⟨.bool false, by simp [execOp, go_sem, h, hc, T3.out], rfl⟩)
            intro L vs w19 nb hL hC hn E19
            have e2 : vs 2 = .int .i64 (cmpI (m * p) (1048576)) := hC 2 (by simp)
            have e3 : vs 3 = .bool false := hC 3 (by simp)
            have E : Fr w [(b11_1, 2, Fq.num (m * p)), (b3, 2, Fq.is (.agg #[.slice none 0 0, .int .i64 0])), (b2, 2, Fq.num p), (b1, 2, Fq.num a)] w19 := E19
            rw [lay_all hL]
            simp only [putAll, dstOf, List.length_cons, List.length_nil, Nat.zero_add, Nat.reduceAdd, List.getElem?_toArray, List.getElem?_cons_zero, List.getElem?_cons_succ, Option.bind_some, Act.put, List.setIfInBounds_toArray, List.set_cons_succ, List.set_cons_zero]
            rw [e2, e3]
            generalize vs 0 = u19_0
            generalize vs 1 = u19_1
            clear e2 e3 hC hn E19 hL vs L nb
            clear T3
            have hw := HW.out
            go_wp2
            go_roundw
            case rel => exact ⟨j + 1, by first | go_num | (rw [hw]; go_num), by have := TL.out; omega, HQ.out, by rw [Int.pow_succ, ← HM.out]; exact E⟩
            case measure => have := TL.out; first | (simp [intOf]; omega) | (rw [hw]; simp [intOf]; omega)
        · have TL := hidd hjk
          have HJK : Hid (j = k.toNat) := by have := HJ.out; have := HPK.out; show _ = _; omega
          have HE : Hid (rinE p k = 0) := (if_neg HNZ.out).trans (if_pos (by rw [← HJK.out, ← HM.out]; exact HPJ.out))
          have HL : Hid (rinL a p k = rootsB (a % m) m m.toNat) := (if_neg HNZ.out).trans ((if_pos (by rw [← HJK.out, ← HM.out]; exact HPJ.out)).trans (by rw [← HJK.out, ← HM.out]))
          clear hjk
          go_upto_region 5 with (fail)
          refine region_fr (C := [Fq.is (.int .i64 (j : Int)), Fq.is (.int .i64 k), Fq.is (.bool false)]) (ks := [none, none, none, none]) (new := []) E rfl (by kernel_rfl) rfl rfl (fun hp => ⟨?_, ?_, ?_, trivial⟩) ?_
          · exact q_move hp (free_of rfl) trivial (sq_out (s := 8) rfl rfl (fun _ _ => rfl))
          · exact q_move hp (free_of rfl) trivial (sq_out (s := 2) rfl rfl (fun _ _ => rfl))
          · exact q_two (F := fun v _ => v = .int .i64 (j : Int)) (G := fun v _ => v = .int .i64 k) hp (free_of rfl) trivial (sq_in 0 rfl rfl (by simp) rfl (fun v w h => h)) (sq_in 1 rfl rfl (by simp) rfl (fun v w h => h)) (fun ρ w hc h h' => ⟨.bool false, by simp [execOp, go_sem, h, h', TL.out], rfl⟩)
          intro L vs w20 nb hL hC hn E20
          have e0 : vs 0 = .int .i64 (j : Int) := hC 0 (by simp)
          have e1 : vs 1 = .int .i64 k := hC 1 (by simp)
          have e2 : vs 2 = .bool false := hC 2 (by simp)
          have E : Fr w [(b11_1, 2, Fq.num m), (b3, 2, Fq.is (.agg #[.slice none 0 0, .int .i64 0])), (b2, 2, Fq.num p), (b1, 2, Fq.num a)] w20 := E20
          rw [lay_all hL]
          simp only [putAll, dstOf, List.length_cons, List.length_nil, Nat.zero_add, Nat.reduceAdd, List.getElem?_toArray, List.getElem?_cons_zero, List.getElem?_cons_succ, Option.bind_some, Act.put, List.setIfInBounds_toArray, List.set_cons_succ, List.set_cons_zero]
          rw [e0, e1, e2]
          clear e0 e1 e2 hC hn E20 hL vs L nb
          clear TL HJ HJK HM HNZ HPK
          go_upto_region 10 with (fail)
          refine region_fr (C := [Fq.num m, Fq.tup2 (Fq.is (.int .i64 m)) (Fq.is (.bool true)), Fq.tup2 (Fq.is (.int .i64 m)) (Fq.is (.bool true)), Fq.is (.int .i64 m), Fq.is (.bool true), Fq.is (.int .i64 m), Fq.is (.bool true)]) (ks := [none, none, none, none]) (new := []) E rfl (by kernel_rfl) rfl rfl (fun hp => ⟨?_, ?_, ?_, ?_, ?_, ?_, ?_, trivial⟩) ?_
          · exact q_loadInt (off := 0) hp (free_of rfl) trivial (List.mem_iff_getElem?.2 ⟨0, rfl⟩) (.inl rfl) (Nat.le_of_ble_eq_true rfl) (sq_out (s := 7) rfl rfl (fun _ _ => rfl)) (fun us w hl h => ld_num hl h)
          · exact q_call1 (F := (Fq.num m).P) hp (free_of rfl) trivial (enq_R_Low) (sq_in 0 rfl rfl (by simp) rfl (fun v w h => h)) (fun v w h => exRLow h (by have := HP1.out; omega) (by have := HPJ.out; omega))
          · exact q_move hp (free_of rfl) trivial (sq_in 1 rfl rfl (by simp) rfl (fun v w h => h))
          · exact q_extract2 hp (free_of rfl) trivial (sq_in 2 rfl rfl (by simp) rfl (fun v w h => h)) (fun v1 v2 w h1 h2 => ⟨_, rfl, h1⟩)
          · exact q_extract2 hp (free_of rfl) trivial (sq_in 2 rfl rfl (by simp) rfl (fun v w h => h)) (fun v1 v2 w h1 h2 => ⟨_, rfl, h2⟩)
          · exact q_assign hp (free_of rfl) trivial (sq_in 3 rfl rfl (by simp) rfl (fun v w h => h))
          · exact q_assign hp (free_of rfl) trivial (sq_in 4 rfl rfl (by simp) rfl (fun v w h => h))
          intro L vs w21 nb hL hC hn E21
          have e3 : vs 3 = .int .i64 m := hC 3 (by simp)
          have e4 : vs 4 = .bool true := hC 4 (by simp)
          have e5 : vs 5 = .int .i64 m := hC 5 (by simp)
          have e6 : vs 6 = .bool true := hC 6 (by simp)
          have E : Fr w [(b11_1, 2, Fq.num m), (b3, 2, Fq.is (.agg #[.slice none 0 0, .int .i64 0])), (b2, 2, Fq.num p), (b1, 2, Fq.num a)] w21 := E21
          rw [lay_all hL]
          simp only [putAll, dstOf, List.length_cons, List.length_nil, Nat.zero_add, Nat.reduceAdd, List.getElem?_toArray, List.getElem?_cons_zero, List.getElem?_cons_succ, Option.bind_some, Act.put, List.setIfInBounds_toArray, List.set_cons_succ, List.set_cons_zero]
          rw [e3, e4, e5, e6]
          generalize vs 0 = u21_0
          generalize vs 1 = u21_1
          generalize vs 2 = u21_2
          clear e3 e4 e5 e6 hC hn E21 hL vs L nb
          go_upto_region 11 with (fail)
          refine region_fr (C := [Fq.num a, Fq.is (.int .i64 m), Fq.is (.int .i64 (a % m)), Fq.is (.int .i64 (a % m))]) (ks := [none, none, none, none]) (new := []) E rfl (by kernel_rfl) rfl rfl (fun hp => ⟨?_, ?_, ?_, ?_, trivial⟩) ?_
          · exact q_loadInt (off := 0) hp (free_of rfl) trivial (List.mem_iff_getElem?.2 ⟨3, rfl⟩) (.inl rfl) (Nat.le_of_ble_eq_true rfl) (sq_out (s := 3) rfl rfl (fun _ _ => rfl)) (fun us w hl h => ld_num hl h)
          · exact q_move hp (free_of rfl) trivial (sq_out (s := 9) rfl rfl (fun _ _ => rfl))
          · exact q_call2 (F := (Fq.num a).P) (G := (Fq.is (.int .i64 m)).P) hp (free_of rfl) trivial (enq_U_small) (sq_in 0 rfl rfl (by simp) rfl (fun v w h => h)) (sq_in 1 rfl rfl (by simp) rfl (fun v w h => h)) (fun v v' w h h' => (by subst h'; exact exUSmall h (Int.lt_of_lt_of_le ha.out (pw_le (by omega))) (by have := HP1.out; have := HPJ.out; omega)))
          · exact q_assign hp (free_of rfl) trivial (sq_in 2 rfl rfl (by simp) rfl (fun v w h => h))
          intro L vs w22 nb hL hC hn E22
          have e1 : vs 1 = .int .i64 m := hC 1 (by simp)
          have e2 : vs 2 = .int .i64 (a % m) := hC 2 (by simp)
          have e3 : vs 3 = .int .i64 (a % m) := hC 3 (by simp)
          have E : Fr w [(b11_1, 2, Fq.num m), (b3, 2, Fq.is (.agg #[.slice none 0 0, .int .i64 0])), (b2, 2, Fq.num p), (b1, 2, Fq.num a)] w22 := E22
          rw [lay_all hL]
          simp only [putAll, dstOf, List.length_cons, List.length_nil, Nat.zero_add, Nat.reduceAdd, List.getElem?_toArray, List.getElem?_cons_zero, List.getElem?_cons_succ, Option.bind_some, Act.put, List.setIfInBounds_toArray, List.set_cons_succ, List.set_cons_zero]
          rw [e1, e2, e3]
          generalize vs 0 = u22_0
          clear e1 e2 e3 hC hn E22 hL vs L nb
          have HB3 := hidd (E.boxes _ (List.mem_of_getElem? (i := 1) rfl)).1
          have HI3 := hidd (box_is2 (E.box 1 rfl))
          have EB := hidd E.below
          clear E
          obtain ⟨r, hr⟩ : ∃ r, r = a % m := ⟨_, rfl⟩
          rw [← hr]
          rw [← hr] at HL
          clear hr
          clear B8 B10 ha hm hk BM
          obtain ⟨i0, hi, hz0, hz1, hz2⟩ := info_parts info_int
          obtain ⟨V, rfl⟩ : ∃ V, V = w22 := ⟨_, rfl⟩
          go_wp2
          go_loopw [12, 13] (fun vl vi W => ∃ i : Nat, vi = .int .i64 i ∧ (i : Int) ≤ m ∧ Ln W V.heap.size vl (rootsB r m i) ∧ Below V.heap.size V W) (fun _ vi _ => (m - intOf vi).toNat)
          case atStart => exact ⟨0, rfl, by have := HP1.out; omega, Ln.made V #[] (Nat.le_refl _) (by decide) rfl, alloc_below _ _⟩
          case round =>
            obtain ⟨V2, rfl⟩ : ∃ V2, V2 = wr := ⟨_, rfl⟩
            obtain ⟨i, rfl, hix, HL2, HB2⟩ := hrel
            have hlen := rootsB_len r m i
            have hp1 := HP1.out
            have hp2 := HPJ.out
            obtain ⟨ys, hys⟩ : ∃ ys, ys = rootsB r m i := ⟨_, rfl⟩
            have HYS := hidd hys
            rw [← hys] at HL2 hlen
            clear hys
            obtain ⟨ao2, cap2, rfl⟩ := id HL2.shape
            by_cases hil : (i : Int) < m
            · have hmul : IntKind.i64.wrap ((i : Int) * i) = (i : Int) * i := by
                have h1 := Int.mul_le_mul (show (i : Int) ≤ 1048576 by omega) (show (i : Int) ≤ 1048576 by omega) (show (0 : Int) ≤ i by omega) (by omega)
                have h2 := Int.mul_nonneg (show (0 : Int) ≤ i by omega) (show (0 : Int) ≤ i by omega)
                exact IntWalk.i64_in _ (by omega)
              have htm : Int.tmod ((i : Int) * i) m = (i : Int) * i % m := Int.tmod_eq_emod_of_nonneg (Int.mul_nonneg (by omega) (by omega))
              obtain ⟨q, hq⟩ : ∃ q, q = (i : Int) * i % m := ⟨_, rfl⟩
              have hq0 : 0 ≤ q := by rw [hq]; exact Int.emod_nonneg _ (by omega)
              have hq1 : q < m := by rw [hq]; exact Int.emod_lt_of_pos _ (by omega)
              rw [← hq] at htm
              have hm0 : ¬ m = 0 := by omega
              have g9 : IntKind.i64.wrap ((i : Int) + 1) = (i : Int) + 1 := IntWalk.i64_in _ (by omega)
              have HSU := hidd (rootsB_succ r m i)
              have HQ := hidd hq
              rw [← HYS.out, ← HQ.out] at HSU
              have HIL := hidd hil
              have HMUL := hidd hmul
              have HTM := hidd htm
              have HM0 := hidd hm0
              have HG9 := hidd g9
              have HHL := hidd hlen
              have HLH := hidd HL2
              have HBH := hidd HB2
              clear hq HL2 HB2 hq0 hq1 hil hmul htm hm0 g9 hlen hix hp1 hp2
              have E := Fr.start V2
              by_cases hqr : q = r
              · have TK := hidd hqr
                clear hqr
                go_upto_region 14 with (fail)
                refine region_fr (C := [Fq.is (.int .i64 (i : Int)), Fq.is (.int .i64 m), Fq.is (.bool true)]) (ks := []) (new := []) E rfl (by kernel_rfl) rfl rfl (fun hp => ⟨?_, ?_, ?_, trivial⟩) ?_
                · exact q_move hp (free_of rfl) trivial (sq_out (s := 13) rfl rfl (fun _ _ => rfl))
                · exact q_move hp (free_of rfl) trivial (sq_out (s := 9) rfl rfl (fun _ _ => rfl))
                · exact q_two (F := fun v _ => v = .int .i64 (i : Int)) (G := fun v _ => v = .int .i64 m) hp (free_of rfl) trivial (sq_in 0 rfl rfl (by simp) rfl (fun v w h => h)) (sq_in 1 rfl rfl (by simp) rfl (fun v w h => h)) (fun ρ w hc h h' => ⟨.bool true, by simp [execOp, go_sem, h, h', HIL.out], rfl⟩)
                intro L vs w23 nb hL hC hn E23
                have e0 : vs 0 = .int .i64 (i : Int) := hC 0 (by simp)
                have e1 : vs 1 = .int .i64 m := hC 1 (by simp)
                have e2 : vs 2 = .bool true := hC 2 (by simp)
                have E : Fr V2 [] w23 := E23
                rw [lay_all hL]
                simp only [putAll, dstOf, List.length_cons, List.length_nil, Nat.zero_add, Nat.reduceAdd, List.getElem?_toArray, List.getElem?_cons_zero, List.getElem?_cons_succ, Option.bind_some, Act.put, List.setIfInBounds_toArray, List.set_cons_succ, List.set_cons_zero]
                rw [e0, e1, e2]
                clear e0 e1 e2 hC hn E23 hL vs L nb
                go_upto_region 16 with (fail)
                refine region_fr (C := [Fq.is (.int .i64 (i : Int)), Fq.is (.int .i64 (i : Int)), Fq.is (.int .i64 ((i : Int) * i)), Fq.is (.int .i64 m), Fq.is (.int .i64 q), Fq.is (.int .i64 r), Fq.is (.bool true)]) (ks := []) (new := []) E rfl (by kernel_rfl) rfl rfl (fun hp => ⟨?_, ?_, ?_, ?_, ?_, ?_, ?_, trivial⟩) ?_
                · exact q_move hp (free_of rfl) trivial (sq_out (s := 13) rfl rfl (fun _ _ => rfl))
                · exact q_move hp (free_of rfl) trivial (sq_out (s := 13) rfl rfl (fun _ _ => rfl))
                · exact q_two (F := fun v _ => v = .int .i64 (i : Int)) (G := fun v _ => v = .int .i64 (i : Int)) hp (free_of rfl) trivial (sq_in 0 rfl rfl (by simp) rfl (fun v w h => h)) (sq_in 1 rfl rfl (by simp) rfl (fun v w h => h)) (fun ρ w hc h h' => ⟨.int .i64 ((i : Int) * i), by simp [execOp, go_sem, h, h', HMUL.out], rfl⟩)
                · exact q_move hp (free_of rfl) trivial (sq_out (s := 9) rfl rfl (fun _ _ => rfl))
                · exact q_two (F := fun v _ => v = .int .i64 ((i : Int) * i)) (G := fun v _ => v = .int .i64 m) hp (free_of rfl) trivial (sq_in 2 rfl rfl (by simp) rfl (fun v w h => h)) (sq_in 3 rfl rfl (by simp) rfl (fun v w h => h)) (fun ρ w hc h h' => ⟨.int .i64 q, by simp [execOp, go_sem, h, h', HTM.out, HM0.out], rfl⟩)
                · exact q_move hp (free_of rfl) trivial (sq_out (s := 11) rfl rfl (fun _ _ => rfl))
                · exact q_two (F := fun v _ => v = .int .i64 q) (G := fun v _ => v = .int .i64 r) hp (free_of rfl) trivial (sq_in 4 rfl rfl (by simp) rfl (fun v w h => h)) (sq_in 5 rfl rfl (by simp) rfl (fun v w h => h)) (fun ρ w hc h h' => ⟨.bool true, by simp [execOp, go_sem, h, h', TK.out], rfl⟩)
                intro L vs w24 nb hL hC hn E24
                have e0 : vs 0 = .int .i64 (i : Int) := hC 0 (by simp)
                have e1 : vs 1 = .int .i64 (i : Int) := hC 1 (by simp)
                have e2 : vs 2 = .int .i64 ((i : Int) * i) := hC 2 (by simp)
                have e3 : vs 3 = .int .i64 m := hC 3 (by simp)
                have e4 : vs 4 = .int .i64 q := hC 4 (by simp)
                have e5 : vs 5 = .int .i64 r := hC 5 (by simp)
                have e6 : vs 6 = .bool true := hC 6 (by simp)
                have E : Fr V2 [] w24 := E24
                rw [lay_all hL]
                simp only [putAll, dstOf, List.length_cons, List.length_nil, Nat.zero_add, Nat.reduceAdd, List.getElem?_toArray, List.getElem?_cons_zero, List.getElem?_cons_succ, Option.bind_some, Act.put, List.setIfInBounds_toArray, List.set_cons_succ, List.set_cons_zero]
                rw [e0, e1, e2, e3, e4, e5, e6]
                clear e0 e1 e2 e3 e4 e5 e6 hC hn E24 hL vs L nb
                clear HMUL HTM HM0
                have HL3 := HLH.out.mono E.below
                have HB3b := hidd (HBH.out.trans (E.below.mono HBH.out.size))
                clear HLH HBH
                obtain ⟨us, hO, hE⟩ := HL3
                have HO := hidd hO
                have HE2 := hidd hE
                clear hO hE E
                have hsz3 := HB3b.out.size
                have hhl := HHL.out
                have hp2 := HPJ.out
                have hil := HIL.out
                have HX : Hid (0 ≤ (i : Int) ∧ (i : Int) ≤ 9223372036854775807) := by show _ ∧ _; omega
                have HT : Hid (rootsB r m (i + 1) = ys ++ [(i : Int)]) := by show _ = _; rw [HSU.out, if_pos TK.out]
                have hyl : ys.length ≤ 1048576 := by omega
                clear HSU TK hil hhl hp2
                go_wp2_with (first | (go_at_call 40; refine (rOfNew _ (i : Int) HX.out.1 HX.out.2).mono ?_; rintro e w5 ⟨ng, ao5, n5, c5, rfl, hnew, hN, hB5⟩) | (at_builtin; (refine wpList_append_lies (n := ys.length) (xs := us) _ rfl _ _ 52 rfl V.heap.size 29 i0 (.agg #[.bool false, .slice none 0 0]) 2 32 Tryd.underlying52 hi hz0 hz1 hz2 rfl (by decide) _ rfl (World.ownsRow.alloc (owns_below HO.out hB5) _) ⟨_, 0, none⟩ 1 1 [.bool ng, .slice ao5 n5 c5] rfl rfl (World.news_of_block (heap_alloc_new _ _)) (by intro u hu; simp at hu; rcases hu with rfl | rfl <;> rfl) (by decide) (by unfold maxLen; omega) (by omega) (Nat.le_trans hsz3 (Nat.le_trans hB5.size (by simp))) _ rfl ?_; intro g cap w6 hown' hgrow hat hlt)) | fail)
                obtain ⟨hS, hS2⟩ := Ln.step HO.out HE2.out hsz3 HB3b.out hB5 hnew hN hown' hgrow hat rfl
                have hS4 := hidd hS
                have hS5 := hidd hS2
                clear hown' hgrow hat hlt hS hS2 hnew hN hB5 HO HE2
                have g9 := HG9.out
                go_wp2
                have hw : wrap64 ((i : Int) + 1) = (i : Int) + 1 := by have := HIL.out; have := HPJ.out; simp only [wrap64]; omega
                go_roundw
                case rel => exact ⟨i + 1, by first | go_num | (rw [hw]; go_num), by have := HIL.out; omega, by rw [HT.out]; exact hS4.out, hS5.out⟩
                case measure => have := HIL.out; rw [hw]; simp [intOf]; omega
              · have TK := hidd hqr
                clear hqr
                go_upto_region 14 with (fail)
                refine region_fr (C := [Fq.is (.int .i64 (i : Int)), Fq.is (.int .i64 m), Fq.is (.bool true)]) (ks := []) (new := []) E rfl (by kernel_rfl) rfl rfl (fun hp => ⟨?_, ?_, ?_, trivial⟩) ?_
                · exact q_move hp (free_of rfl) trivial (sq_out (s := 13) rfl rfl (fun _ _ => rfl))
                · exact q_move hp (free_of rfl) trivial (sq_out (s := 9) rfl rfl (fun _ _ => rfl))
                · exact q_two (F := fun v _ => v = .int .i64 (i : Int)) (G := fun v _ => v = .int .i64 m) hp (free_of rfl) trivial (sq_in 0 rfl rfl (by simp) rfl (fun v w h => h)) (sq_in 1 rfl rfl (by simp) rfl (fun v w h => h)) (fun ρ w hc h h' => ⟨.bool true, by simp [execOp, go_sem, h, h', HIL.out], rfl⟩)
                intro L vs w25 nb hL hC hn E25
                have e0 : vs 0 = .int .i64 (i : Int) := hC 0 (by simp)
                have e1 : vs 1 = .int .i64 m := hC 1 (by simp)
                have e2 : vs 2 = .bool true := hC 2 (by simp)
                have E : Fr V2 [] w25 := E25
                rw [lay_all hL]
                simp only [putAll, dstOf, List.length_cons, List.length_nil, Nat.zero_add, Nat.reduceAdd, List.getElem?_toArray, List.getElem?_cons_zero, List.getElem?_cons_succ, Option.bind_some, Act.put, List.setIfInBounds_toArray, List.set_cons_succ, List.set_cons_zero]
                rw [e0, e1, e2]
                clear e0 e1 e2 hC hn E25 hL vs L nb
                go_upto_region 16 with (fail)
                refine region_fr (C := [Fq.is (.int .i64 (i : Int)), Fq.is (.int .i64 (i : Int)), Fq.is (.int .i64 ((i : Int) * i)), Fq.is (.int .i64 m), Fq.is (.int .i64 q), Fq.is (.int .i64 r), Fq.is (.bool false)]) (ks := []) (new := []) E rfl (by kernel_rfl) rfl rfl (fun hp => ⟨?_, ?_, ?_, ?_, ?_, ?_, ?_, trivial⟩) ?_
                · exact q_move hp (free_of rfl) trivial (sq_out (s := 13) rfl rfl (fun _ _ => rfl))
                · exact q_move hp (free_of rfl) trivial (sq_out (s := 13) rfl rfl (fun _ _ => rfl))
                · exact q_two (F := fun v _ => v = .int .i64 (i : Int)) (G := fun v _ => v = .int .i64 (i : Int)) hp (free_of rfl) trivial (sq_in 0 rfl rfl (by simp) rfl (fun v w h => h)) (sq_in 1 rfl rfl (by simp) rfl (fun v w h => h)) (fun ρ w hc h h' => ⟨.int .i64 ((i : Int) * i), by simp [execOp, go_sem, h, h', HMUL.out], rfl⟩)
                · exact q_move hp (free_of rfl) trivial (sq_out (s := 9) rfl rfl (fun _ _ => rfl))
                · exact q_two (F := fun v _ => v = .int .i64 ((i : Int) * i)) (G := fun v _ => v = .int .i64 m) hp (free_of rfl) trivial (sq_in 2 rfl rfl (by simp) rfl (fun v w h => h)) (sq_in 3 rfl rfl (by simp) rfl (fun v w h => h)) (fun ρ w hc h h' => ⟨.int .i64 q, by simp [execOp, go_sem, h, h', HTM.out, HM0.out], rfl⟩)
                · exact q_move hp (free_of rfl) trivial (sq_out (s := 11) rfl rfl (fun _ _ => rfl))
                · exact q_two (F := fun v _ => v = .int .i64 q) (G := fun v _ => v = .int .i64 r) hp (free_of rfl) trivial (sq_in 4 rfl rfl (by simp) rfl (fun v w h => h)) (sq_in 5 rfl rfl (by simp) rfl (fun v w h => h)) (fun ρ w hc h h' => ⟨.bool false, by simp [execOp, go_sem, h, h', TK.out], rfl⟩)
                intro L vs w26 nb hL hC hn E26
                have e0 : vs 0 = .int .i64 (i : Int) := hC 0 (by simp)
                have e1 : vs 1 = .int .i64 (i : Int) := hC 1 (by simp)
                have e2 : vs 2 = .int .i64 ((i : Int) * i) := hC 2 (by simp)
                have e3 : vs 3 = .int .i64 m := hC 3 (by simp)
                have e4 : vs 4 = .int .i64 q := hC 4 (by simp)
                have e5 : vs 5 = .int .i64 r := hC 5 (by simp)
                have e6 : vs 6 = .bool false := hC 6 (by simp)
                have E : Fr V2 [] w26 := E26
                rw [lay_all hL]
                simp only [putAll, dstOf, List.length_cons, List.length_nil, Nat.zero_add, Nat.reduceAdd, List.getElem?_toArray, List.getElem?_cons_zero, List.getElem?_cons_succ, Option.bind_some, Act.put, List.setIfInBounds_toArray, List.set_cons_succ, List.set_cons_zero]
                rw [e0, e1, e2, e3, e4, e5, e6]
                clear e0 e1 e2 e3 e4 e5 e6 hC hn E26 hL vs L nb
                clear HMUL HTM HM0
                have HL3 := HLH.out.mono E.below
                have HB3b := hidd (HBH.out.trans (E.below.mono HBH.out.size))
                clear HLH HBH
                have HL4 := hidd HL3
                clear HL3 E
                have HT : Hid (rootsB r m (i + 1) = ys) := by show _ = _; rw [HSU.out, if_neg TK.out, List.append_nil]
                clear HSU TK
                have g9 := HG9.out
                go_wp2
                go_roundw
                case rel => exact ⟨i + 1, by go_num, by have := HIL.out; omega, by rw [HT.out]; exact HL4.out, HB3b.out⟩
                case measure => have := HIL.out; simp [intOf]; omega
            · have hin : i = m.toNat := by omega
              rw [hin] at HYS
              have HIW : IntBox V2 b3 (.slice none 0 0) (.int .i64 0) := HI3.out.mono HB2 HI3.out.lt
              have HNM := hidd HL2.nums
              have HBT := hidd (EB.out.trans (HB2.mono EB.out.size))
              have HIH := hidd HIW
              obtain ⟨e0, e1, e2, e3⟩ := HIW
              have t0 : decide ((i : Int) < m) = false := by simp; omega
              have hli : ¬ (i : Int) < m := hil
              clear HL2 HB2 hin
              go_wp2
              refine bodyPost_ret (v := .agg #[.slice ao2 ys.length cap2, .int .i64 0]) ?_ rfl ⟨_, rfl, (HBT.out.setCell HB3.out _).setCell HB3.out _, _, by rw [HE.out], by rw [HL.out, ← HYS.out]; exact HNM.out.stored HIH.out _ _⟩
              simp [results, Tryd.results29, go_sem, e0, e1]

end Go.Proofs.YtieobgadihcgeaaDoor

/- Walk of the law on two congruences. -/
namespace Go.Proofs.YtieobgadihcgeaaDoor
open Go Go.RowKit

end Go.Proofs.YtieobgadihcgeaaDoor
