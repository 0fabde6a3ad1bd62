/- Rh, Rk, Yc, Yd, Ye, Yf. -/
import Derived.Test.YtlehjhlihahjhaaBt2
import Derived.BigRegion
/- Walks of the reference: Add, Sub, Mul. Walks of the reference: divide. Walks of the reference: divide of long sizes. -/
namespace Go.Proofs.Ytlehjhlihahjhaa
open Go Go.RowKit

theorem sgn_same (b : Bool) (x y : Int) : sgn b (x + y) = sgn b x + sgn b y := by cases b <;> simp [sgn]; omega

set_option maxRecDepth 20000 in
set_option maxHeartbeats 2000000 in
theorem rAdd_any (w : World) (na nb : Bool) (ax ay : Option Addr) (n m cx cy : Nat) (xs ys : List Int) (hX : Sl w ax n cx xs) (hY : Sl w ay m cy ys) (hcx : Canon xs) (hcy : Canon ys) (hb1 : n ≤ 1000000) (hb2 : m ≤ 1000000) :
    Calls Try.prog 22 #[.agg #[.bool na, .slice ax n cx], .agg #[.bool nb, .slice ay m cy]] w (GivesInt w (sgn na (val xs) + sgn nb (val ys))) := by
  obtain ⟨w0, hw0, hA, hB, hC, hbl, HS⟩ := boxes3 w (.bool na) (.slice ax n cx) (.bool nb) (.slice ay m cy) 29
  have HCX := hidd hcx
  have HCY := hidd hcy
  clear hcx hcy
  by_cases hab : na = nb
  · subst hab
    have HE : Hid (sgn na (val xs + val ys) = sgn na (val xs) + sgn na (val ys)) := sgn_same _ _ _
    have hnn : (na == na) = true := by simp
    go_enter Try.func22, Try.ntmps22
    go_wp2
    rw [← hw0]
    clear hw0
    have hXd := (hX.mono hbl).drew
    have hYd := (hY.mono hbl).drew
    have hCd : IntBox w0.drew (w.heap.size + 1 + 1) (.bool false) (.slice none 0 0) := hC
    have hcut : w.heap.size + 2 ≤ w0.heap.size := by have := HS.out; omega
    obtain ⟨ca0, ca1, _, _⟩ := hA
    obtain ⟨cb0, cb1, _, _⟩ := hB
    go_region_held3 (fun W => w.heap.size + 2 ≤ W.heap.size ∧ (∀ b o, b < w.heap.size + 2 → W.cell? ⟨b, o, none⟩ = w0.cell? ⟨b, o, none⟩) ∧ ∀ b o, b < w.heap.size + 2 → W.frozen? ⟨b, o, none⟩ = w0.frozen? ⟨b, o, none⟩)
      (first | exact Kept.start hcut | assumption | exact Kept.call (by assumption) (by assumption) | exact Kept.set (Kept.set (by assumption) (by omega) _) (by omega) _)
      (first | (go_at_call 49; (with_reducible refine (plus_any _ _ _ _ _ _ _ _ _ hXd hYd (by omega) (by omega)).mono ?_); rintro e w2 ⟨az, cz, lz, zs, rfl, hsz, hlz, hvz, hB2⟩) | (go_at_call 48; (with_reducible refine (made_any _ _ _ _ _ _ hsz (by omega)).mono ?_); rintro e w3 ⟨v, rfl, ⟨ng, ao, nn, cc, rs, rfl, hrs, hrc, hrn, hrz⟩, hb3⟩; obtain ⟨e0, e1, e2, e3⟩ := (hCd.mono hB2 hCd.lt).mono hb3 (Nat.lt_of_lt_of_le hCd.lt hB2.size)))
    go_wp2
    refine bodyPost_ret (v := .agg #[.bool ng, .slice ao nn cc]) ?_ rfl ?_
    · simp [results, Try.results22, go_sem, e0, e1]
    · have hb4 : Below w.heap.size w w3 := (hbl.drew.trans (hB2.mono (by have := HS.out; simp; omega))).trans (hb3.mono (by have := HS.out; have := hB2.size; simp at this; omega))
      exact gives_store ⟨e0, e1, e2, e3⟩ hrs hrc hrn (by rw [← hrz, hvz]; exact HE.out.symm) hb4 (by omega)
  · have hnn : (na == nb) = false := by simpa using hab
    go_enter Try.func22, Try.ntmps22
    go_wp2_with fail
    rw [← hw0]
    clear hw0
    refine (size_any _ _ _ _ _ _ _ _ _ (hX.mono hbl) (hY.mono hbl) HCX.out HCY.out (by omega) (by omega)).mono ?_
    rintro e w1 ⟨rfl, hd⟩
    have hbl1 : Below w.heap.size w w1 := hbl.trans (hd.below _)
    obtain ⟨d, hw1⟩ := hd
    have hA1 : IntBox w1 w.heap.size (.bool na) (.slice ax n cx) := by rw [hw1]; exact hA
    have hB1 : IntBox w1 (w.heap.size + 1) (.bool nb) (.slice ay m cy) := by rw [hw1]; exact hB
    have hC1 : IntBox w1 (w.heap.size + 1 + 1) (.bool false) (.slice none 0 0) := by rw [hw1]; exact hC
    have HS1 : Hid (w1.heap.size = w.heap.size + 3) := by show _ = _; rw [hw1]; exact HS.out
    clear hw1 hA hB hC hbl HS
    rename Below w.heap.size w w1 => hbl
    rename IntBox w1 w.heap.size (.bool na) (.slice ax n cx) => hA
    rename IntBox w1 (w.heap.size + 1) (.bool nb) (.slice ay m cy) => hB
    rename IntBox w1 (w.heap.size + 1 + 1) (.bool false) (.slice none 0 0) => hC
    rename Hid (w1.heap.size = w.heap.size + 3) => HS
    have hx0 := val_nonneg hX.digs
    have hy0 := val_nonneg hY.digs
    by_cases hle : val ys ≤ val xs
    · have HL := hidd hle
      have hge : decide (cmpI (val xs) (val ys) ≥ 0) = true := by
        rw [decide_eq_true_eq]; unfold cmpI; rw [if_neg (by omega)]; split <;> omega
      have HE : Hid (sgn na (val xs - val ys) = sgn na (val xs) + sgn nb (val ys)) := by
        show _ = _
        cases na <;> cases nb <;> simp [sgn] at hab ⊢ <;> omega
      clear hle hx0 hy0
      generalize cmpI (val xs) (val ys) = cc0 at *
      go_wp2
      have hXd := (hX.mono hbl).drew
      have hYd := (hY.mono hbl).drew
      have hCd : IntBox w1.drew (w.heap.size + 1 + 1) (.bool false) (.slice none 0 0) := hC
      have hcut : w.heap.size + 2 ≤ w1.heap.size := by have := HS.out; omega
      obtain ⟨ca0, ca1, _, _⟩ := hA
      obtain ⟨cb0, cb1, _, _⟩ := hB
      go_region_held3 (fun W => w.heap.size + 2 ≤ W.heap.size ∧ (∀ b o, b < w.heap.size + 2 → W.cell? ⟨b, o, none⟩ = w1.cell? ⟨b, o, none⟩) ∧ ∀ b o, b < w.heap.size + 2 → W.frozen? ⟨b, o, none⟩ = w1.frozen? ⟨b, o, none⟩)
        (first | exact Kept.start hcut | assumption | exact Kept.call (by assumption) (by assumption) | exact Kept.set (Kept.set (by assumption) (by omega) _) (by omega) _)
        (first | (go_at_call 51; (with_reducible refine (minus_any _ _ _ _ _ _ _ _ _ hXd hYd HCY.out HL.out (by omega) (by omega)).mono ?_); rintro e w2 ⟨az, cz, zs, rfl, hsz, hvz, hB2⟩) | (go_at_call 48; (with_reducible refine (made_any _ _ _ _ _ _ hsz (by omega)).mono ?_); rintro e w3 ⟨v, rfl, ⟨ng, ao, nn, cc, rs, rfl, hrs, hrc, hrn, hrz⟩, hb3⟩; obtain ⟨e0, e1, e2, e3⟩ := (hCd.mono hB2 hCd.lt).mono hb3 (Nat.lt_of_lt_of_le hCd.lt hB2.size)))
      go_wp2
      refine bodyPost_ret (v := .agg #[.bool ng, .slice ao nn cc]) ?_ rfl ?_
      · simp [results, Try.results22, go_sem, e0, e1]
      · have hb4 : Below w.heap.size w w3 := (hbl.drew.trans (hB2.mono (by have := HS.out; simp; omega))).trans (hb3.mono (by have := HS.out; have := hB2.size; simp at this; omega))
        exact gives_store ⟨e0, e1, e2, e3⟩ hrs hrc hrn (by rw [← hrz, hvz]; exact HE.out.symm) hb4 (by omega)
    · have HL : Hid (val xs ≤ val ys) := by show _ ≤ _; omega
      have hge : decide (cmpI (val xs) (val ys) ≥ 0) = false := by
        rw [decide_eq_false_iff_not]; unfold cmpI; rw [if_pos (by omega)]; omega
      have HE : Hid (sgn nb (val ys - val xs) = sgn na (val xs) + sgn nb (val ys)) := by
        show _ = _
        cases na <;> cases nb <;> simp [sgn] at hab ⊢ <;> omega
      clear hle hx0 hy0
      generalize cmpI (val xs) (val ys) = cc0 at *
      go_wp2
      have hXd := (hX.mono hbl).drew
      have hYd := (hY.mono hbl).drew
      have hCd : IntBox w1.drew (w.heap.size + 1 + 1) (.bool false) (.slice none 0 0) := hC
      have hcut : w.heap.size + 2 ≤ w1.heap.size := by have := HS.out; omega
      obtain ⟨ca0, ca1, _, _⟩ := hA
      obtain ⟨cb0, cb1, _, _⟩ := hB
      go_region_held3 (fun W => w.heap.size + 2 ≤ W.heap.size ∧ (∀ b o, b < w.heap.size + 2 → W.cell? ⟨b, o, none⟩ = w1.cell? ⟨b, o, none⟩) ∧ ∀ b o, b < w.heap.size + 2 → W.frozen? ⟨b, o, none⟩ = w1.frozen? ⟨b, o, none⟩)
        (first | exact Kept.start hcut | assumption | exact Kept.call (by assumption) (by assumption) | exact Kept.set (Kept.set (by assumption) (by omega) _) (by omega) _)
        (first | (go_at_call 51; (with_reducible refine (minus_any _ _ _ _ _ _ _ _ _ hYd hXd HCX.out HL.out (by omega) (by omega)).mono ?_); rintro e w2 ⟨az, cz, zs, rfl, hsz, hvz, hB2⟩) | (go_at_call 48; (with_reducible refine (made_any _ _ _ _ _ _ hsz (by omega)).mono ?_); rintro e w3 ⟨v, rfl, ⟨ng, ao, nn, cc, rs, rfl, hrs, hrc, hrn, hrz⟩, hb3⟩; obtain ⟨e0, e1, e2, e3⟩ := (hCd.mono hB2 hCd.lt).mono hb3 (Nat.lt_of_lt_of_le hCd.lt hB2.size)))
      go_wp2
      refine bodyPost_ret (v := .agg #[.bool ng, .slice ao nn cc]) ?_ rfl ?_
      · simp [results, Try.results22, go_sem, e0, e1]
      · have hb4 : Below w.heap.size w w3 := (hbl.drew.trans (hB2.mono (by have := HS.out; simp; omega))).trans (hb3.mono (by have := HS.out; have := hB2.size; simp at this; omega))
        exact gives_store ⟨e0, e1, e2, e3⟩ hrs hrc hrn (by rw [← hrz, hvz]; exact HE.out.symm) hb4 (by omega)
theorem RAddV {w : World} {v v' : Value} {z z' : Int} (h : Num w v z) (h' : Num w v' z') : Calls Try.prog 22 #[v, v'] w (GivesInt w (z + z')) := by
  obtain ⟨neg, ao, n, c, xs, rfl, hs, hn, rfl, hc, _⟩ := h
  obtain ⟨neg', ao', n', c', xs', rfl, hs', hn', rfl, hc', _⟩ := h'
  exact rAdd_any _ _ _ _ _ _ _ _ _ _ _ hs hs' hc hc' (by omega) (by omega)

theorem boxes3n (w : World) {n n' : Bool} {ao ao' : Option Addr} {k c k' c' : Nat} {z z' : Int} (h : Num w (.agg #[.bool n, .slice ao k c]) z) (h' : Num w (.agg #[.bool n', .slice ao' k' c']) z') (t : TypeId) :
    ∃ w0, w0 = ((w.alloc (.cells #[.bool n, .slice ao k c] t)).alloc (.cells #[.bool n', .slice ao' k' c'] t)).alloc (.cells #[.bool false, .slice none 0 0] t) ∧
      (∀ W, Below (w.heap.size + 2) w0 W → BoxNum W w.heap.size z ∧ BoxNum W (w.heap.size + 1) z' ∧ Below w.heap.size w W) ∧ BoxNum w0 (w.heap.size + 1 + 1) 0 ∧ Below w.heap.size w w0 ∧ w0.heap.size = w.heap.size + 3 := by
  obtain ⟨w0, hw0, hA, hB, hC, hbl, HS⟩ := boxes3 w (.bool n) (.slice ao k c) (.bool n') (.slice ao' k' c') t
  refine ⟨w0, hw0, fun W hb => ?_, ⟨_, _, _, _, hC, Num.zero _⟩, hbl, HS.out⟩
  have hbW : Below w.heap.size w W := hbl.trans (hb.mono (by omega))
  exact ⟨⟨_, _, _, _, hA.mono hb (by omega), h.mono hbW⟩, ⟨_, _, _, _, hB.mono hb (by omega), h'.mono hbW⟩, hbW⟩

theorem enter_rNeg (args : Array Value) (w : World) : (callFunc 23 args).run Try.prog w = .ok (.enter 23 args) w := enter_of Try.func23 (by kernel_rfl) rfl args w
theorem enter_rAdd (args : Array Value) (w : World) : (callFunc 22 args).run Try.prog w = .ok (.enter 22 args) w := enter_of Try.func22 (by kernel_rfl) rfl args w

set_option maxRecDepth 10000 in
set_option maxRecDepth 20000 in
set_option maxHeartbeats 2000000 in
theorem RSubV {w : World} {v v' : Value} {z z' : Int} (h : Num w v z) (h' : Num w v' z') {K : Nat} (hz : ab z < pw K) (hz' : ab z' < pw K) (hK : K ≤ 800000) : Calls Try.prog 94 #[v, v'] w (GivesInt w (z - z')) := by
  obtain ⟨n, ao, k, c, rfl⟩ := h.parts
  obtain ⟨n', ao', k', c', rfl⟩ := h'.parts
  obtain ⟨w0, hw0, hXW, hR, hbl, hsz⟩ := boxes3n w h h' 29
  have Bn : Hid (ab (-z') < pw K) := ab_negB hz'
  have Bs : Hid (ab (z - z') < pw (K + 1)) := ab_subB hz hz' (by omega) (by omega)
  go_enter Try.func94, Try.ntmps94
  go_upto_region 1 with (fail)
  rw [← hw0]
  clear hw0
  go_wp2
  have hp : (plan [Fc.num z, Fc.num z', Fc.num (-z'), Fc.num (z - z'), Fc.any] [(w.heap.size + 1 + 1, 4, 0, z - z')] []).Ok (w.heap.size + 2) w0.heap.size := plan_ok (by simp; omega) (by simp) (by simp) (by omega)
  have hm := PMono.of hp
  refine region_steps (p := plan [Fc.num z, Fc.num z', Fc.num (-z'), Fc.num (z - z'), Fc.any] [(w.heap.size + 1 + 1, 4, 0, z - z')] []) (B := w.heap.size + 2) (B0 := w0.heap.size) (w0 := w0) (by kernel_rfl) rfl rfl (plan_start (by simp; exact hR) (Below.refl _ _))
    ⟨?_, ?_, ?_, ?_, ?_, trivial⟩ ?_
  · exact g_load (b := w.heap.size) (z := z) hm ⟨by simp [plan], by simp [plan]⟩ trivial (src_out rfl rfl (fun W hb => ⟨rfl, (hXW W hb).1⟩)) (fun v w h => h)
  · exact g_load (b := w.heap.size + 1) (z := z') hm ⟨by simp [plan], by simp [plan]⟩ trivial (src_out rfl rfl (fun W hb => ⟨rfl, (hXW W hb).2.1⟩)) (fun v w h => h)
  · exact g_call1 (F := (Fc.num z').P) hm ⟨by simp [plan], by simp [plan]⟩ trivial enter_rNeg (src_in 1 rfl rfl (by simp) rfl (fun v w h => h)) (fun v w h => exK (RNegV h) Bn.out (by omega))
  · exact g_call2 (F := (Fc.num z).P) (G := (Fc.num (-z')).P) hm ⟨by simp [plan], by simp [plan]⟩ trivial enter_rAdd (src_in 0 rfl rfl (by simp) rfl (fun v w h => h)) (src_in 2 rfl rfl (by simp) rfl (fun v w h => h)) (fun v v' w h h' => by
      have := RAddV h h'
      rw [show z + -z' = z - z' by omega] at this
      exact exK this Bs.out (by omega))
  · exact st_storeOld (b := w.heap.size + 1 + 1) (j := 3) (z := 0) (z' := z - z') hp rfl (by simp [plan]) rfl rfl rfl (by simp) rfl (fun v w h => h) (fun _ _ => trivial) (by simp [plan]) (by simp [plan])
  · intro L vs w2 hL hG
    obtain ⟨ng, ao2, k2, c2, ⟨e0, e1, e2, e3⟩, hN⟩ : BoxNum w2 (w.heap.size + 1 + 1) (z - z') := by
      have := hG.old (w.heap.size + 1 + 1, 4, 0, z - z') (by simp [plan])
      simpa [hL 4 (by simp)] using this
    have hb : Below w.heap.size w w2 := (hXW w2 hG.below).2.2
    rw [lay_all hL]
    simp only [putAll, dstOf, List.length_cons, List.length_nil, Nat.zero_add, Nat.reduceAdd, List.getElem?_toArray, List.getElem?_cons_zero, List.getElem?_cons_succ, Option.bind_some, Act.put, List.setIfInBounds_toArray, List.set_cons_succ, List.set_cons_zero]
    clear hL hG hp
    go_wp2
    refine bodyPost_ret (v := .agg #[.bool ng, .slice ao2 k2 c2]) ?_ rfl ⟨_, rfl, hN.isInt, hb⟩
    simp [results, Try.results94, go_sem, e0, e1]

end Go.Proofs.Ytlehjhlihahjhaa

namespace Go.Proofs.Ytlehjhlihahjhaa
open Go Go.RowKit

/-- What divide leaves: a quotient and a remainder of sizes. -/
def DivR (w : World) (X Y : Int) (e : Ending) (w' : World) : Prop :=
  ∃ aq lq cq qs ar lr cr rs, e = .returned (.agg #[.slice aq lq cq, .slice ar lr cr]) ∧ Sl w' aq lq cq qs ∧ Sl w' ar lr cr rs ∧ lq ≤ 3000000 ∧ lr ≤ 3000000 ∧ val qs = X / Y ∧ val rs = X % Y ∧ Below w.heap.size w w'

/-- A size of at most two words as one number. -/
theorem val_two {xs : List Int} (h : xs.length ≤ 2) : val xs = xs.getD 0 0 + xs.getD 1 0 * 4294967296 := by
  have h1 := val_drop_any xs 0
  have h2 := val_drop_any xs 1
  rw [List.drop_of_length_le (show xs.length ≤ 1 + 1 by omega)] at h2
  rw [List.drop_zero, h2] at h1
  rw [h1]
  show _ + 4294967296 * (_ + 4294967296 * 0) = _
  omega

theorem or_pair {x y : Int} (hx0 : 0 ≤ x) (hx1 : x < 4294967296) (hy0 : 0 ≤ y) (hy1 : y < 4294967296) : bits .or .u64 x (y * 4294967296) = x + y * 4294967296 := (or_halves x y hx0 hx1 hy0 hy1).1

theorem pairs_end {w S : World} {N : Nat} (hS : S.heap.size = N) (hb : Below w.heap.size w S) (T U : Int) (hT0 : 0 ≤ T) (hT1 : T < 18446744073709551616) (hU0 : 0 ≤ U) (hU1 : U < 18446744073709551616) :
    Sl (((S.alloc (.cells #[.int .u32 (T % 4294967296), .int .u32 (T / 4294967296)] 78)).alloc (.cells #[.int .u32 (U % 4294967296), .int .u32 (U / 4294967296)] 78)).drew) (some ⟨N, 0, none⟩) 2 2 [T % 4294967296, T / 4294967296] ∧
    Sl (((S.alloc (.cells #[.int .u32 (T % 4294967296), .int .u32 (T / 4294967296)] 78)).alloc (.cells #[.int .u32 (U % 4294967296), .int .u32 (U / 4294967296)] 78)).drew) (some ⟨N + 1, 0, none⟩) 2 2 [U % 4294967296, U / 4294967296] ∧
    Below w.heap.size w (((S.alloc (.cells #[.int .u32 (T % 4294967296), .int .u32 (T / 4294967296)] 78)).alloc (.cells #[.int .u32 (U % 4294967296), .int .u32 (U / 4294967296)] 78)).drew) ∧
    val [T % 4294967296, T / 4294967296] = T ∧ val [U % 4294967296, U / 4294967296] = U := by
  subst hS
  obtain ⟨s1, v1⟩ := halves_sl S 78 rfl T hT0 hT1
  obtain ⟨s2, v2⟩ := halves_sl (S.alloc (.cells #[.int .u32 (T % 4294967296), .int .u32 (T / 4294967296)] 78)) 78 rfl U hU0 hU1
  rw [World.size_alloc] at s2
  have h1 := hb.alloc hb.size (.cells #[.int .u32 (T % 4294967296), .int .u32 (T / 4294967296)] 78)
  have h2 := h1.alloc h1.size (.cells #[.int .u32 (U % 4294967296), .int .u32 (U / 4294967296)] 78)
  exact ⟨(s1.mono (alloc_below _ _)).drew, s2.drew, h2.drew, v1.out, v2.out⟩

theorem set_pair {w w0 : World} {p q : Value} (hbl : Below w.heap.size w w0) (hI : IntBox w0 w.heap.size p q) (u v : Value) :
    ∃ S, S = (w0.setCell ⟨w.heap.size, 0, none⟩ u).setCell ⟨w.heap.size, 1, none⟩ v ∧ S.heap.size = w0.heap.size ∧ Below w.heap.size w S ∧ S.cell? ⟨w.heap.size, 0, none⟩ = some u ∧ S.cell? ⟨w.heap.size, 1, none⟩ = some v := by
  obtain ⟨e0, e1, _, _⟩ := hI
  have h1 : (w0.setCell ⟨w.heap.size, 0, none⟩ u).cell? ⟨w.heap.size, 1, none⟩ = some q := by
    rw [World.cell?_setCell_other _ _ _ _ (by intro e; cases e)]; exact e1
  refine ⟨_, rfl, by rw [World.size_setCell, World.size_setCell], (hbl.setCell (Nat.le_refl _) _).setCell (Nat.le_refl _) _, ?_, ?_⟩
  · rw [World.cell?_setCell_other _ _ _ _ (by intro e; cases e)]
    exact World.cell?_setCell_same _ _ _ e0
  · exact World.cell?_setCell_same _ _ _ h1

set_option maxRecDepth 20000 in
set_option maxHeartbeats 2000000 in
theorem divideSmall_any (w : World) (ax ay : Option Addr) (n m cx cy : Nat) (xs ys : List Int) (hX : Sl w ax n cx xs) (hY : Sl w ay m cy ys) (hy0 : 0 < val ys) (hn : n ≤ 2) (hm : m ≤ 2) :
    Calls Try.prog 93 #[.slice ax n cx, .slice ay m cy] w (DivR w (val xs) (val ys)) := by
  obtain ⟨x0, hx0⟩ : ∃ x, xs.getD 0 0 = x := ⟨_, rfl⟩
  obtain ⟨x1, hx1⟩ : ∃ x, xs.getD 1 0 = x := ⟨_, rfl⟩
  obtain ⟨y0, hy0'⟩ : ∃ x, ys.getD 0 0 = x := ⟨_, rfl⟩
  obtain ⟨y1, hy1⟩ : ∃ x, ys.getD 1 0 = x := ⟨_, rfl⟩
  have dx0 := hX.digs.getD 0
  have dx1 := hX.digs.getD 1
  have dy0 := hY.digs.getD 0
  have dy1 := hY.digs.getD 1
  have vx := val_two (show xs.length ≤ 2 by rw [hX.len]; exact hn)
  have vy := val_two (show ys.length ≤ 2 by rw [hY.len]; exact hm)
  rw [hx0] at dx0 vx
  rw [hx1] at dx1 vx
  rw [hy0'] at dy0 vy
  rw [hy1] at dy1 vy
  have ox := or_pair dx0.1 dx0.2 dx1.1 dx1.2
  have oy := or_pair dy0.1 dy0.2 dy1.1 dy1.2
  obtain ⟨X, hXe⟩ : ∃ X, X = x0 + x1 * 4294967296 := ⟨_, rfl⟩
  obtain ⟨Y, hYe⟩ : ∃ Y, Y = y0 + y1 * 4294967296 := ⟨_, rfl⟩
  rw [← hXe] at ox vx
  rw [← hYe] at oy vy
  rw [vx, vy]
  rw [vy] at hy0
  have hX0 : 0 ≤ X := by omega
  have hX1 : X < 18446744073709551616 := by omega
  have hY1 : Y < 18446744073709551616 := by omega
  have hx1m : x1 * 4294967296 < 18446744073709551616 := by omega
  have hx1n : 0 ≤ x1 * 4294967296 := by omega
  have hy1m : y1 * 4294967296 < 18446744073709551616 := by omega
  have hy1n : 0 ≤ y1 * 4294967296 := by omega
  have Hx0 := hidd hx0
  have Hx1 := hidd hx1
  have Hy0 := hidd hy0'
  have Hy1 := hidd hy1
  clear hx0 hx1 hy0' hy1 hXe hYe vx vy dx0 dx1 dy0 dy1
  obtain ⟨w0, hw0⟩ : ∃ w0, w0 = w.alloc (.cells #[.slice none 0 0, .slice none 0 0] 100) := ⟨_, rfl⟩
  have hbl : Below w.heap.size w w0 := by rw [hw0]; exact alloc_below _ _
  have hX0w := hX.mono hbl
  have hY0w := hY.mono hbl
  have hI : IntBox w0 w.heap.size (.slice none 0 0) (.slice none 0 0) := by rw [hw0]; exact IntBox.new _ _ _ _
  have hsz : w0.heap.size = w.heap.size + 1 := by rw [hw0]; simp
  have HSZ := hidd hsz
  clear hsz
  go_enter Try.func93, Try.ntmps93
  go_upto_region 1 with (fail)
  rw [← hw0]
  clear hw0
  go_wp2_with fail
  refine (word_at _ _ _ _ _ hX0w (by omega) 0 (by omega) x0 Hx0.out _ rfl).mono ?_
  rintro e w' ⟨rfl, rfl⟩
  go_wp2_with fail
  refine (word_at _ _ _ _ _ hX0w (by omega) 1 (by omega) x1 Hx1.out _ rfl).mono ?_
  rintro e w' ⟨rfl, rfl⟩
  go_wp2_with fail
  refine (word_at _ _ _ _ _ hY0w (by omega) 0 (by omega) y0 Hy0.out _ rfl).mono ?_
  rintro e w' ⟨rfl, rfl⟩
  go_wp2_with fail
  refine (word_at _ _ _ _ _ hY0w (by omega) 1 (by omega) y1 Hy1.out _ rfl).mono ?_
  rintro e w' ⟨rfl, rfl⟩
  have hq0 : 0 ≤ X / Y := Int.ediv_nonneg hX0 (by omega)
  have hq1 : X / Y < 18446744073709551616 := Int.lt_of_le_of_lt (Int.ediv_le_self _ hX0) hX1
  have hr0 : 0 ≤ X % Y := Int.emod_nonneg _ (by omega)
  have hr1 : X % Y < 18446744073709551616 := Int.lt_trans (Int.emod_lt_of_pos _ hy0) hY1
  have hYz : (Y == 0) = false := by simp; omega
  have hYn : Y ≠ 0 := by omega
  have hI2 := hI
  obtain ⟨e0, e1, e2, e3⟩ := hI
  have hlt : w.heap.size < w0.heap.size := by have := HSZ.out; omega
  have hne : ¬ w.heap.size = w0.heap.size := by omega
  have hne2 : ¬ w.heap.size = w0.heap.size + 1 := by omega
  go_wp2
  go_region
  · obtain ⟨S, hS, hsz, hbS, c0, c1⟩ := set_pair hbl hI2 (.slice (some ⟨w0.heap.size, 0, none⟩) 2 2) (.slice (some ⟨w0.heap.size + 1, 0, none⟩) 2 2)
    rw [← hS]
    obtain ⟨s1, s2, hbW, v1, v2⟩ := pairs_end hsz hbS (X / Y) (X % Y) hq0 hq1 hr0 hr1
    clear hS
    have hltS : w.heap.size < S.heap.size := by omega
    go_wp2
    refine bodyPost_ret (v := .agg #[.slice (some ⟨w0.heap.size, 0, none⟩) 2 2, .slice (some ⟨w0.heap.size + 1, 0, none⟩) 2 2]) ?_ rfl ⟨_, _, _, _, _, _, _, _, rfl, s1, s2, by omega, by omega, v1, v2, hbW⟩
    simp [results, Try.results93, go_sem, c0, c1, hltS]
  · obtain ⟨S, hS, hsz, hbS, c0, c1⟩ := set_pair hbl hI2 (.slice (some ⟨w0.heap.size + 1, 0, none⟩) 2 2) (.slice (some ⟨w0.heap.size, 0, none⟩) 2 2)
    rw [← hS]
    obtain ⟨s1, s2, hbW, v1, v2⟩ := pairs_end hsz hbS (X % Y) (X / Y) hr0 hr1 hq0 hq1
    clear hS
    have hltS : w.heap.size < S.heap.size := by omega
    go_wp2
    refine bodyPost_ret (v := .agg #[.slice (some ⟨w0.heap.size + 1, 0, none⟩) 2 2, .slice (some ⟨w0.heap.size, 0, none⟩) 2 2]) ?_ rfl ⟨_, _, _, _, _, _, _, _, rfl, s2, s1, by omega, by omega, v2, v1, hbW⟩
    simp [results, Try.results93, go_sem, c0, c1, hltS]

/-- An append onto nothing: a copy of the call's own. -/
theorem append_mine (w : World) (ty : TypeId) (g : Nat) (ao : Option Addr) (m c : Nat) (ys : List Int) (hS : Sl w ao m c ys) (hb : m ≤ 1000000) :
    ∃ ao' c' w', (Builtin.append_ #[22, 22] ty #[.slice (some ⟨g, 0, none⟩) 0 0, .slice ao m c]).run Try.prog w = .ok (.slice ao' m c') w' ∧ Below w.heap.size w w' ∧ Sl w' ao' m c' ys ∧
      (0 < m → ∃ g', ao' = some ⟨g', 0, none⟩ ∧ w.heap.size ≤ g' ∧ Mine w' g' m ys) := by
  obtain ⟨i0, hi, hz0, hz1, hz2⟩ := info_parts info_word
  by_cases h0 : m = 0
  · obtain ⟨v', w', h1, h2, ao', c', rfl, h3⟩ := append_words w ty g ao m c ys hS hb
    exact ⟨ao', c', w', h1, h2, h3, fun h => absurd h0 (by omega)⟩
  · rcases hS.cells.2 with h1 | ⟨b, off, rfl, hlt, hc⟩
    · subst h1; have := hS.len; simp at this; omega
    · obtain ⟨v', w', hrun, hown, hg⟩ := run_append_arg_grows (P := Try.prog) w 22 ty 78 i0 (.int .u32 0) 1 4 Try.underlying22 hi hz0 hz1 hz2 rfl (by decide)
        ⟨g, 0, none⟩ 0 0 [] (by simp) (by simp) ⟨b, off, none⟩ m c (ys.map (Value.int .u32)) (by simp [hS.len]) (fun j u hu => by
          have hj : j < ys.length := by have := (List.getElem?_eq_some_iff.1 hu).1; simpa using this
          rw [Go.WideShapes.add_plain, hc j hj, ← hu]
          simp [hj]) (by omega) (by unfold maxLen; omega) (by omega)
      rw [Nat.zero_add, List.nil_append, ← hS.len] at hown
      have hO : Ow w' w.heap.size v' ys := ⟨hown, hS.digs⟩
      obtain ⟨ao', c', rfl, hS'⟩ := hO.sl
      rw [hS.len] at hS' hrun hO
      refine ⟨ao', c', w', hrun, ⟨hg.os, hg.tape, hg.output, hg.size, fun k hk => hg.block k hk (by simp)⟩, hS', fun _ => ?_⟩
      rcases hO.1.2 with ⟨_, h2⟩ | ⟨g', cap', cur, h2, _⟩
      · rw [hS.len] at h2; omega
      · cases h2
        have := hO.mine
        exact ⟨g', rfl, this.2.1, this.1⟩

theorem wpList_copy_arg (w : World) {ops : Array Oper} {rest : List Oper} {o : Oper} {a : Act} {Q : Exit → Act → World → Prop} (hgd : o.guard = none) (s x : Operand)
    (hop : o.op = Op.call { callee := Callee.builtin Builtin.append, args := #[s, x], argTypes := #[22, 22] }) (g : Nat) (ao : Option Addr) (m c : Nat) (ys : List Int)
    (hs : a.eval s = .slice (some ⟨g, 0, none⟩) 0 0) (hx : a.eval x = .slice ao m c) (hS : Sl w ao m c ys) (hb : m ≤ 1000000)
    (hK : ∀ ao' c' w', Below w.heap.size w w' → Sl w' ao' m c' ys → (0 < m → ∃ g', ao' = some ⟨g', 0, none⟩ ∧ w.heap.size ≤ g' ∧ Mine w' g' m ys) → wpList Try.prog ops Q rest (a.put o.dst (.slice ao' m c')) w') :
    wpList Try.prog ops Q (o :: rest) a w := by
  refine wpList_plain hgd fun K hK' => ?_
  obtain ⟨ao', c', w', hrun, h1, h2, h3⟩ := append_mine w o.type g ao m c ys hS hb
  unfold Oper.wp
  simp [execOp, hop, resolve, invoke, builtin, hs, hx, hrun, Result.andThen]
  exact hK' _ _ (hK ao' c' w' h1 h2 h3)

theorem val_set {zs : List Int} {j : Nat} {x : Int} (hj : j < zs.length) : val (zs.set j x) = val zs + pw j * (x - zs.getD j 0) := by
  have e1 := val_split_any (zs.set j x) (j + 1)
  have e2 := val_split_any zs (j + 1)
  rw [val_take_succ, val_take_set _ _ _ _ (Nat.le_refl _), getD_set _ _ _ hj, List.drop_set_of_lt (by omega)] at e1
  rw [val_take_succ] at e2
  rw [Int.mul_sub]
  omega

theorem bit_word {qs : List Int} {j : Nat} {c : Int} (hq : Digs qs) (h : val qs = 2 ^ (j + 1) * c) : qs.getD (j / 32) 0 % 2 ^ (j % 32 + 1) = 0 := by
  have e : (2 : Int) ^ (j + 1) = pw (j / 32) * 2 ^ (j % 32 + 1) := by rw [pw_two, ← Int.pow_add]; congr 1; omega
  have e32 : (4294967296 : Int) = 2 ^ (j % 32 + 1) * 2 ^ (31 - j % 32) := by rw [← Int.pow_add, show j % 32 + 1 + (31 - j % 32) = 32 by omega]; rfl
  have e1 := val_split_any qs (j / 32)
  have e2 := val_drop_any qs (j / 32)
  have h0 := val_nonneg (hq.take (j / 32))
  have h1 := val_take_lt hq (j / 32)
  have hp := pw_pos (j / 32)
  rw [h, e, Int.mul_assoc] at e1
  generalize val (qs.take (j / 32)) = T at *
  generalize val (qs.drop (j / 32)) = D at *
  generalize val (qs.drop (j / 32 + 1)) = H at *
  generalize qs.getD (j / 32) 0 = x at *
  generalize pw (j / 32) = P at *
  rw [e32] at e2
  generalize (2 : Int) ^ (j % 32 + 1) = S at *
  generalize (2 : Int) ^ (31 - j % 32) = V at *
  have hT : T = P * (S * c - D) := by rw [Int.mul_sub]; omega
  have hz : S * c - D = 0 := by
    rcases Int.lt_trichotomy (S * c - D) 0 with h2 | h2 | h2
    · have := Int.mul_le_mul_of_nonneg_left (show S * c - D ≤ -1 by omega) (Int.le_of_lt hp)
      omega
    · exact h2
    · have := Int.mul_le_mul_of_nonneg_left (show 1 ≤ S * c - D by omega) (Int.le_of_lt hp)
      omega
  have hx : x = S * (c - V * H) := by rw [Int.mul_sub, ← Int.mul_assoc]; omega
  rw [hx]
  exact Int.mul_emod_right _ _

theorem or_bit {x : Int} {r : Nat} (hr : r < 32) (hx0 : 0 ≤ x) (hx1 : x < 4294967296) (h : x % 2 ^ (r + 1) = 0) : bits .or .u32 x (2 ^ r) = x + 2 ^ r ∧ x + 2 ^ r < 4294967296 := by
  obtain ⟨h1, h2⟩ := two_le r hr
  have h3 := pow_two_succ r
  refine ⟨(or_u32 (r + 1) x (2 ^ r) hx0 hx1 (by omega) (by omega) (by omega) h).1, ?_⟩
  have e32 : (4294967296 : Int) = 2 ^ (r + 1) * 2 ^ (31 - r) := by rw [← Int.pow_add, show r + 1 + (31 - r) = 32 by omega]; rfl
  have h4 : (4294967296 - x) % 2 ^ (r + 1) = 0 := by
    rw [Int.sub_emod, h, e32, Int.mul_emod_right]; simp
  have h5 := Int.le_of_dvd (show 0 < 4294967296 - x by omega) (Int.dvd_of_emod_eq_zero h4)
  omega

theorem bits_lt {X Y : Int} {a b : Nat} (hX : IsBits X a) (hY : IsBits Y b) (h : a < b) : X < Y := by
  have hY2 : (2 : Int) ^ (b - 1) ≤ Y := by
    rcases hY with ⟨_, h0⟩ | ⟨_, h1, _⟩
    · omega
    · exact h1
  have hX2 : X < 2 ^ a := by
    rcases hX with ⟨h1, h0⟩ | ⟨_, _, h1⟩
    · subst h0; rw [h1]; decide
    · exact h1
  have h3 := two_pow_le (show a ≤ b - 1 by omega)
  omega

theorem bits_room {X Y : Int} {a b N : Nat} (hX : IsBits X a) (hY : IsBits Y b) (hY0 : 0 < Y) (h : a = b + N) : X < Y * 2 ^ (N + 1) := by
  have hX2 : X < 2 ^ a := by
    rcases hX with ⟨h1, h0⟩ | ⟨_, _, h1⟩
    · subst h0; rw [h1]; decide
    · exact h1
  rcases hY with ⟨h1, _⟩ | ⟨h0, h1, _⟩
  · omega
  · have h3 := Int.mul_le_mul_of_nonneg_right h1 (Int.le_of_lt (pow_two_pos (N + 1)))
    rw [← Int.pow_add, show b - 1 + (N + 1) = a by omega] at h3
    omega

end Go.Proofs.Ytlehjhlihahjhaa

namespace Go.Proofs.Ytlehjhlihahjhaa
open Go Go.RowKit

/-- What holds ahead of a round of the long division. -/
structure DivInv (w0 : World) (B gr gq gd n lq ld : Nat) (X Y : Int) (k : Nat) (wr : World) where
  below : Below B w0 wr
  some : ∃ rs qs ds : List Int, Mine wr gr n rs ∧ Mine wr gq lq qs ∧ Mine wr gd ld ds ∧ X = val qs * Y + val rs ∧ val rs < Y * 2 ^ k ∧ (∃ c, val qs = 2 ^ k * c) ∧ (0 < k → val ds = Y * 2 ^ (k - 1))

set_option maxRecDepth 20000 in
set_option maxHeartbeats 4000000 in
theorem divideLong_any (w : World) (ax ay : Option Addr) (n m cx cy : Nat) (xs ys : List Int) (hX : Sl w ax n cx xs) (hY : Sl w ay m cy ys) (hcx : Canon xs) (hcy : Canon ys) (hy0 : 0 < val ys) (hn : n ≤ 1000000) (hm : m ≤ 1000000) (hlong : ¬ (n ≤ 2 ∧ m ≤ 2)) :
    Calls Try.prog 93 #[.slice ax n cx, .slice ay m cy] w (DivR w (val xs) (val ys)) := by
  have HCX := hidd hcx
  have HCY := hidd hcy
  have HY0 := hidd hy0
  clear hcx hcy hy0
  obtain ⟨w0, hw0⟩ : ∃ w0, w0 = w.alloc (.cells #[.slice none 0 0, .slice none 0 0] 100) := ⟨_, rfl⟩
  have hbl : Below w.heap.size w w0 := by rw [hw0]; exact alloc_below _ _
  have hI : IntBox w0 w.heap.size (.slice none 0 0) (.slice none 0 0) := by rw [hw0]; exact IntBox.new _ _ _ _
  have hlt : w.heap.size < w0.heap.size := by rw [hw0]; simp
  have hI2 := hidd hI
  obtain ⟨e0, e1, e2, e3⟩ := hI
  go_enter Try.func93, Try.ntmps93
  go_upto_region 1 with (fail)
  rw [← hw0]
  clear hw0
  rcases (by omega : 2 < n ∨ (n ≤ 2 ∧ 2 < m)) with hn2 | ⟨hn2, hm2⟩
  all_goals
    go_upto_region 5 with (fail)
  all_goals
    go_wp2_with (at_builtin; refine wpList_copy_arg _ rfl _ _ rfl _ ax n cx xs rfl rfl ((hX.mono hbl).mono (alloc_below _ _)) hn ?_; intro ar cr w1 hb1 hS1 hM1)
  all_goals
    have hbw1 : Below w0.heap.size w0 w1 := (alloc_below w0 _).trans (hb1.mono (by simp))
    clear hb1
    refine (rBits_any _ _ _ _ _ _ ((hX.mono hbl).mono hbw1) HCX.out (by omega)).mono ?_
    rintro e w2 ⟨b1, rfl, hB1, hb1n, hb2⟩
    have hbw2 := hbw1.trans (hb2.mono hbw1.size)
    go_wp2_with fail
    refine (rBits_any _ _ _ _ _ _ ((hY.mono hbl).mono hbw2) HCY.out (by omega)).mono ?_
    rintro e w3 ⟨b2, rfl, hB2, hb2m, hb3⟩
    have hbw3 := hbw2.trans (hb3.mono hbw2.size)
    have hS3 := (hS1.mono hb2).mono hb3
    have hM3 : 0 < n → ∃ g', ar = some ⟨g', 0, none⟩ ∧ w0.heap.size ≤ g' ∧ g' < w3.heap.size ∧ Mine w3 g' n xs := fun h => by
      obtain ⟨g', h1, h2, h3⟩ := hM1 h
      have h4 := (h3.mono hb2 h3.lt)
      exact ⟨g', h1, by simp at h2; omega, (h4.mono hb3 h4.lt).lt, h4.mono hb3 h4.lt⟩
    have f0 := (hbw3.cell (p := ⟨w.heap.size, 0, none⟩) hlt).trans e0
    have f1 := (hbw3.cell (p := ⟨w.heap.size, 1, none⟩) hlt).trans e1
    have f2 := (hbw3.frozen (p := ⟨w.heap.size, 0, none⟩) hlt).trans e2
    have f3 := (hbw3.frozen (p := ⟨w.heap.size, 1, none⟩) hlt).trans e3
    clear hM1 hS1 hbw1 hbw2 hb2 hb3 e0 e1 e2 e3
    have hbw : Below w.heap.size w w3 := hbl.trans (hbw3.mono hbl.size)
    by_cases hlt2 : b1 < b2
    · have HXY := hidd (bits_lt hB1 hB2 hlt2)
      have hX0 := val_nonneg hX.digs
      go_wp2
      obtain ⟨S, hS, hsz, hbS, c0, c1⟩ := set_pair hbw ⟨f0, f1, f2, f3⟩ (.slice none 0 0) (.slice ar n cr)
      rw [← hS]
      have hSS : Sl S ar n cr xs := by rw [hS]; exact (hS3.setOther f0 (by intro q h; cases h) _).setOther (by rw [World.cell?_setCell_other _ _ _ _ (by intro e; cases e)]; exact f1) (by intro q h; cases h) _
      clear hS
      refine bodyPost_ret (v := .agg #[.slice none 0 0, .slice ar n cr]) ?_ rfl ⟨_, _, _, _, _, _, _, _, rfl, Sl.nil _, hSS, by omega, by omega, ?_, ?_, hbS⟩
      · simp [results, Try.results93, go_sem, c0, c1]
      · rw [Int.ediv_eq_zero_of_lt hX0 HXY.out]; rfl
      · rw [Int.emod_eq_of_lt hX0 HXY.out]
    · obtain ⟨N, hN⟩ : ∃ N, b1 = b2 + N := ⟨b1 - b2, by omega⟩
      have HR := hidd (bits_room hB1 hB2 HY0.out hN)
      have hb20 : 0 < b2 := by
        rcases hB2 with ⟨h1, _⟩ | ⟨h1, _⟩
        · have := HY0.out; omega
        · exact h1
      obtain ⟨gr, rfl, hgr, hgr2, hMr⟩ := hM3 (by omega)
      have hNi : (b1 : Int) - (b2 : Int) = (N : Int) := by omega
      have hNb : N ≤ 32000000 := by omega
      have hcr := hS3.cap
      clear hN hlt2 hb1n hb2m hB1 hB2
      go_wp2_with (at_make; refine wpList_make_words _ rfl _ _ 22 rfl 78 Try.underlying22 (by kernel_rfl) _ _ _ _ rfl rfl (N / 32 + 1) (by omega) (by omega) (by omega) ?_; intro w4 hrow hb4 hs4)
      have hbw4 : Below w0.heap.size w0 w4 := hbw3.trans (hb4.mono hbw3.size)
      refine (left_any _ _ _ _ _ ((hY.mono hbl).mono hbw4) (by omega) N (by omega)).mono ?_
      rintro e w5 ⟨gd, ld, cd, ds0, rfl, hgd, hMd, hcd, hld, hvd, hb5⟩
      have hbw5 := hbw4.trans (hb5.mono hbw4.size)
      have hq5 : Mine w5 w3.heap.size (N / 32 + 1) (List.replicate (N / 32 + 1) 0) := by
        have := hrow.mine
        rw [List.length_replicate] at this
        exact this.mono hb5 this.lt
      have hr5 := (hMr.mono hb4 hMr.lt).mono hb5 (hMr.mono hb4 hMr.lt).lt
      obtain ⟨gq, hgq⟩ : ∃ gq, gq = w3.heap.size := ⟨_, rfl⟩
      rw [← hgq] at hq5 hgr2 hs4
      rw [← hgq]
      have hgq0 : w0.heap.size ≤ gq := by rw [hgq]; exact hbw3.size
      have hne1 : gr ≠ gq := by omega
      have hne2 : gq ≠ gd := by omega
      have hne3 : gr ≠ gd := by omega
      have hgd0 : w0.heap.size ≤ gd := by omega
      have hld2 : ld ≤ 3000000 := by omega
      have HVD := hidd hvd
      clear hvd hld hrow hb4 hb5 hbw3 hbw4 hMr hM3 hS3 hgq hs4 hgd f0 f1 f2 f3 hbw
      go_wp2
      go_loopw [11] (fun vi wr => ∃ k : Nat, k ≤ N + 1 ∧ vi = .int .i64 ((k : Int) - 1) ∧ DivInv w0 w0.heap.size gr gq gd n (N / 32 + 1) ld (val xs) (val ys) k wr) (fun vi _ => (intOf vi + 1).toNat)
      case atStart =>
        refine ⟨N + 1, Nat.le_refl _, by go_num, hbw5, xs, _, ds0, hr5, hq5, hMd, ?_, HR.out, ⟨0, ?_⟩, fun _ => HVD.out⟩
        · rw [val_replicate, Int.zero_mul, Int.zero_add]
        · rw [val_replicate, Int.mul_zero]
      case round =>
        obtain ⟨k, hk, rfl, ⟨hb, rs, qs, dd, hr, hq, hd, hXe, hrl, ⟨c, hqc⟩, hdv⟩⟩ := hrel
        have HXE := hidd hXe
        have HRL := hidd hrl
        have HQC := hidd hqc
        have HDV := hidd hdv
        clear hXe hrl hqc hdv hr5 hq5 hMd hbw5
        by_cases hk0 : 0 < k
        · obtain ⟨j, rfl⟩ : ∃ j, k = j + 1 := ⟨k - 1, by omega⟩
          have hj1 : ((j + 1 : Nat) : Int) - 1 = (j : Int) := by omega
          have HDJ : Hid (val dd = val ys * 2 ^ j) := HDV.out (by omega)
          clear HDV
          go_wp2_with fail
          refine (reaches_any _ _ _ _ _ _ _ rs dd (hr.sl hcr) (hd.sl hcd) (by omega) (by omega)).mono ?_
          rintro e w' ⟨rfl, rfl⟩
          by_cases hge : val dd ≤ val rs
          · have hged : decide (val dd ≤ val rs) = true := decide_eq_true hge
            rw [hged]
            have HGE := hidd hge
            clear hge hged
            go_wp2_with fail
            refine (take_any _ gr n cr rs hr hcr (by omega) (some ⟨gd, 0, none⟩) ld cd dd (hd.sl hcd) (by omega) (fun b' o h => by cases h; exact fun h => hne3 h.symm) HGE.out).mono ?_
            rintro e w6 ⟨rs', rfl, hr6, hv6, hg6, hs6⟩
            have hq6 := hq.other hg6 (fun h => hne1 h.symm)
            have hd6 := hd.other hg6 (fun h => hne3 h.symm)
            have hb6 : Below w0.heap.size w0 w6 := hb.grown hg6 hb.size (fun j hj => by cases hj; exact hgr)
            have HV6 := hidd hv6
            clear hv6 hr hq hd hb hg6 hs6
            have hjq : j / 32 < N / 32 + 1 := by omega
            obtain ⟨x, hx⟩ : ∃ x, qs.getD (j / 32) 0 = x := ⟨_, rfl⟩
            have hxd := hq6.digs.getD (j / 32)
            have hcell := hq6.cell hjq
            rw [hx] at hxd hcell
            have hfr := hq6.frozen (j / 32)
            have hbit := bit_word hq6.digs HQC.out
            rw [hx] at hbit
            obtain ⟨hor, hxb⟩ := or_bit (Nat.mod_lt j (by decide)) hxd.1 hxd.2 hbit
            obtain ⟨u, hu⟩ : ∃ u, u = x + 2 ^ (j % 32) := ⟨_, rfl⟩
            rw [← hu] at hor hxb
            have hp2 := two_le (j % 32) (Nat.mod_lt j (by decide))
            have Hx := hidd hx
            have Hu := hidd hu
            have Hbit := hidd hbit
            have hj32 : j % 32 < 32 := Nat.mod_lt j (by decide)
            have hu0 : 0 ≤ u := by omega
            clear hx hu hbit
            go_wp2_with fail
            have hg7 := grownBy_set w6 gq (j / 32) (.int .u32 u)
            have hq7 := hq6.set hjq hu0 hxb
            have hd7 := hd6.other hg7 (fun h => hne2 h.symm)
            have hr7 := hr6.other hg7 hne1
            have hb7 : Below w0.heap.size w0 (w6.setCell ⟨gq, j / 32, none⟩ (.int .u32 u)) := hb6.setCell hgq0 _
            generalize w6.setCell ⟨gq, j / 32, none⟩ (.int .u32 u) = w7 at *
            refine (half_any _ gd ld cd dd hd7 hcd (by omega)).mono ?_
            rintro e w8 ⟨dd', rfl, hd8, hv8, hg8, hs8⟩
            have hb8 : Below w0.heap.size w0 w8 := hb7.grown hg8 hb7.size (fun j hj => by cases hj; exact hgd0)
            have hq8 := hq7.other hg8 hne2
            have hr8 := hr7.other hg8 hne3
            have HV8 := hidd hv8
            clear hv8 hq7 hd7 hr7 hb7 hg7 hg8 hs8 hq6 hd6 hb6 hr6 hor hcell hfr
            go_wp2
            go_roundw
            case rel =>
              refine ⟨j, by omega, by go_num, hb8, rs', _, dd', hr8, hq8, hd8, ?_, ?_, ?_, ?_⟩
              · have h1 := HXE.out
                rw [val_set (by have := hq8.len; rw [List.length_set] at this; omega), Hx.out, Hu.out, show x + 2 ^ (j % 32) - x = 2 ^ (j % 32) by omega, pw_two, ← Int.pow_add, show 32 * (j / 32) + j % 32 = j by omega, HV6.out, HDJ.out, Int.add_mul, Int.mul_comm (val ys)]
                omega
              · have h1 := HRL.out
                rw [HV6.out, HDJ.out]
                rw [Int.pow_succ, ← Int.mul_assoc] at h1
                omega
              · refine ⟨2 * c + 1, ?_⟩
                rw [val_set (by have := hq8.len; rw [List.length_set] at this; omega), Hx.out, Hu.out, show x + 2 ^ (j % 32) - x = 2 ^ (j % 32) by omega, pw_two, ← Int.pow_add, show 32 * (j / 32) + j % 32 = j by omega, HQC.out, Int.pow_succ, Int.mul_add, Int.mul_one, Int.mul_assoc]
              · intro h
                rw [HV8.out, HDJ.out, show j = (j - 1) + 1 by omega, Int.pow_succ, ← Int.mul_assoc, Int.mul_ediv_cancel _ (by decide)]
                rfl
            case measure => simp [intOf]
          · have hged : decide (val dd ≤ val rs) = false := decide_eq_false hge
            rw [hged]
            have HGE := hidd hge
            clear hge hged
            go_wp2_with fail
            refine (half_any _ gd ld cd dd hd hcd (by omega)).mono ?_
            rintro e w8 ⟨dd', rfl, hd8, hv8, hg8, hs8⟩
            have hb8 : Below w0.heap.size w0 w8 := hb.grown hg8 hb.size (fun j hj => by cases hj; exact hgd0)
            have hq8 := hq.other hg8 hne2
            have hr8 := hr.other hg8 hne3
            have HV8 := hidd hv8
            clear hv8 hq hd hr hb hg8 hs8
            go_wp2
            go_roundw
            case rel =>
              refine ⟨j, by omega, by go_num, hb8, rs, qs, dd', hr8, hq8, hd8, HXE.out, ?_, ?_, ?_⟩
              · have h1 := HGE.out
                rw [HDJ.out] at h1
                omega
              · refine ⟨2 * c, ?_⟩
                rw [HQC.out, Int.pow_succ, Int.mul_assoc]
              · intro h
                rw [HV8.out, HDJ.out, show j = (j - 1) + 1 by omega, Int.pow_succ, ← Int.mul_assoc, Int.mul_ediv_cancel _ (by decide)]
                rfl
            case measure => simp [intOf]
        · obtain rfl : k = 0 := by omega
          have hbw : Below w.heap.size w wr := hbl.trans (hb.mono hbl.size)
          obtain ⟨f0, f1, f2, f3⟩ := hI2.out.mono hb hlt
          have hR0 := val_nonneg hr.digs
          have hR1 := HRL.out
          rw [Int.pow_zero, Int.mul_one] at hR1
          have hq1 := ediv_unique (a := val xs) (P := val ys) (V := val qs) (r := val rs) (by have h := HXE.out; rw [Int.mul_comm (val qs)] at h; exact h) hR0 hR1 HY0.out
          have hr1 : val rs = val xs % val ys := by
            rw [Int.emod_def, ← hq1]
            have h := HXE.out
            rw [Int.mul_comm (val qs)] at h
            omega
          have HQ := hidd hq1
          have HM := hidd hr1
          clear hR0 hR1 hq1 hr1
          have hsq := hq.sl (Nat.le_refl _)
          have hsr := hr.sl hcr
          clear hq hr hd
          go_wp2
          obtain ⟨S, hS, hsz, hbS, c0, c1⟩ := set_pair hbw ⟨f0, f1, f2, f3⟩ (.slice (some ⟨gq, 0, none⟩) (N / 32 + 1) (N / 32 + 1)) (.slice (some ⟨gr, 0, none⟩) n cr)
          rw [← hS]
          have hSq : Sl S (some ⟨gq, 0, none⟩) (N / 32 + 1) (N / 32 + 1) qs := by rw [hS]; exact (hsq.setOther f0 (by intro q h; cases h) _).setOther (by rw [World.cell?_setCell_other _ _ _ _ (by intro e; cases e)]; exact f1) (by intro q h; cases h) _
          have hSr : Sl S (some ⟨gr, 0, none⟩) n cr rs := by rw [hS]; exact (hsr.setOther f0 (by intro q h; cases h) _).setOther (by rw [World.cell?_setCell_other _ _ _ _ (by intro e; cases e)]; exact f1) (by intro q h; cases h) _
          clear hS
          refine bodyPost_ret (v := .agg #[.slice (some ⟨gq, 0, none⟩) (N / 32 + 1) (N / 32 + 1), .slice (some ⟨gr, 0, none⟩) n cr]) ?_ rfl ⟨_, _, _, _, _, _, _, _, rfl, hSq, hSr, by omega, by omega, HQ.out, HM.out, hbS⟩
          simp [results, Try.results93, go_sem, c0, c1]

theorem divide_any (w : World) (ax ay : Option Addr) (n m cx cy : Nat) (xs ys : List Int) (hX : Sl w ax n cx xs) (hY : Sl w ay m cy ys) (hcx : Canon xs) (hcy : Canon ys) (hy0 : 0 < val ys) (hn : n ≤ 1000000) (hm : m ≤ 1000000) :
    Calls Try.prog 93 #[.slice ax n cx, .slice ay m cy] w (DivR w (val xs) (val ys)) := by
  by_cases h : n ≤ 2 ∧ m ≤ 2
  · exact divideSmall_any w ax ay n m cx cy xs ys hX hY hy0 h.1 h.2
  · exact divideLong_any w ax ay n m cx cy xs ys hX hY hcx hcy hy0 hn hm h

end Go.Proofs.Ytlehjhlihahjhaa

/- Walks of the reference: DivMod, Div, Mod. Walk of the reference: Bezout. -/
namespace Go.Proofs.Ytlehjhlihahjhaa
open Go Go.RowKit

theorem enter_rAbs (args : Array Value) (w : World) : (callFunc 37 args).run Try.prog w = .ok (.enter 37 args) w := enter_of Try.func37 (by kernel_rfl) rfl args w
theorem enter_rSub (args : Array Value) (w : World) : (callFunc 94 args).run Try.prog w = .ok (.enter 94 args) w := enter_of Try.func94 (by kernel_rfl) rfl args w
theorem ab_sgn (b : Bool) (v : Int) : ab (sgn b v) = ab v := by unfold ab; cases b <;> simp [sgn]

theorem boxes4n (w : World) {n n' : Bool} {ao ao' : Option Addr} {k c k' c' : Nat} {z z' : Int} (h : Num w (.agg #[.bool n, .slice ao k c]) z) (h' : Num w (.agg #[.bool n', .slice ao' k' c']) z') (t : TypeId) :
    ∃ w0, w0 = (((w.alloc (.cells #[.bool n, .slice ao k c] t)).alloc (.cells #[.bool n', .slice ao' k' c'] t)).alloc (.cells #[.bool false, .slice none 0 0] t)).alloc (.cells #[.bool false, .slice none 0 0] t) ∧
      BoxNum w0 w.heap.size z ∧ BoxNum w0 (w.heap.size + 1) z' ∧ BoxNum w0 (w.heap.size + 1 + 1) 0 ∧ BoxNum w0 (w.heap.size + 1 + 1 + 1) 0 ∧ Below w.heap.size w w0 := by
  obtain ⟨w0, hw0, hA, hB, hC, hD, hbl, HS⟩ := boxes4 w (.bool n) (.slice ao k c) (.bool n') (.slice ao' k' c') t
  exact ⟨w0, hw0, ⟨_, _, _, _, hA, h.mono hbl⟩, ⟨_, _, _, _, hB, h'.mono hbl⟩, ⟨_, _, _, _, hC, Num.zero _⟩, ⟨_, _, _, _, hD, Num.zero _⟩, hbl⟩

/-- Quotient and remainder of the Euclidean division, from those of the sizes. -/
theorem euclid {a b q r : Int} (hb : b ≠ 0) (h : a = q * b + r) (h0 : 0 ≤ r) (h1 : r < ab b) : q = a / b ∧ r = a % b := by
  have h2 : a % b = r := by
    rw [h, Int.add_comm, Int.add_mul_emod_self_right]
    rcases Int.lt_or_gt_of_ne hb with hb' | hb'
    · rw [← Int.emod_neg, Int.emod_eq_of_lt h0 (by unfold ab at h1; omega)]
    · exact Int.emod_eq_of_lt h0 (by unfold ab at h1; omega)
  have h3 := Int.mul_ediv_add_emod a b
  rw [h2] at h3
  have h4 : b * (a / b) = b * q := by rw [Int.mul_comm b q]; omega
  exact ⟨(Int.eq_of_mul_eq_mul_left hb h4).symm, h2.symm⟩

/-- The ends of the division with signs. -/
theorem dm_end {x y q0 r0 q r : Int} {a1 b1 a2 : Bool} (hy : y ≠ 0) (hd : ab y * q + r = ab x) (h0 : 0 ≤ r) (h1 : r < ab y) (nx : a1 = true → x < 0) (px : a1 = false → 0 ≤ x) (nx2 : a2 = true → x < 0) (px2 : a2 = false → 0 ≤ x)
    (ny : b1 = true → y < 0) (py : b1 = false → 0 ≤ y) (hq : q0 = sgn (!a1 == b1) q) (hr : r0 = sgn a2 r) :
    (0 ≤ r0 → q0 = x / y ∧ r0 = x % y) ∧ (r0 < 0 → 0 ≤ y → q0 - 1 = x / y ∧ r0 + (y.natAbs : Int) = x % y) ∧ (r0 < 0 → y < 0 → q0 + 1 = x / y ∧ r0 + (y.natAbs : Int) = x % y) := by
  have e1 : ab y = (y.natAbs : Int) := rfl
  by_cases hx : x < 0 <;> by_cases hyy : y < 0
  · obtain rfl : a1 = true := by cases a1; exact absurd (px rfl) (by omega); rfl
    obtain rfl : a2 = true := by cases a2; exact absurd (px2 rfl) (by omega); rfl
    obtain rfl : b1 = true := by cases b1; exact absurd (py rfl) (by omega); rfl
    have ax : ab x = -x := by unfold ab; omega
    have ay : ab y = -y := by unfold ab; omega
    simp [sgn] at hq hr
    rw [ax, ay, Int.neg_mul, Int.mul_comm] at hd
    rw [ay] at h1
    subst hq
    subst hr
    refine ⟨fun h => euclid hy (by omega) h (by rw [ay]; omega), fun h h' => by omega, fun h _ => euclid hy (by rw [Int.add_mul, Int.one_mul]; omega) (by omega) (by rw [ay]; omega)⟩
  · obtain rfl : a1 = true := by cases a1; exact absurd (px rfl) (by omega); rfl
    obtain rfl : a2 = true := by cases a2; exact absurd (px2 rfl) (by omega); rfl
    obtain rfl : b1 = false := by cases b1; rfl; exact absurd (ny rfl) (by omega)
    have ax : ab x = -x := by unfold ab; omega
    have ay : ab y = y := by unfold ab; omega
    simp [sgn] at hq hr
    rw [ax, ay, Int.mul_comm] at hd
    rw [ay] at h1
    subst hq
    subst hr
    refine ⟨fun h => euclid hy (by rw [Int.neg_mul]; omega) h (by rw [ay]; omega), fun h _ => euclid hy (by rw [Int.sub_mul, Int.one_mul, Int.neg_mul]; omega) (by omega) (by rw [ay]; omega), fun h h' => by omega⟩
  · obtain rfl : a1 = false := by cases a1; rfl; exact absurd (nx rfl) (by omega)
    obtain rfl : a2 = false := by cases a2; rfl; exact absurd (nx2 rfl) (by omega)
    obtain rfl : b1 = true := by cases b1; exact absurd (py rfl) (by omega); rfl
    have ax : ab x = x := by unfold ab; omega
    have ay : ab y = -y := by unfold ab; omega
    simp [sgn] at hq hr
    rw [ax, ay, Int.neg_mul, Int.mul_comm] at hd
    rw [ay] at h1
    subst hq
    subst hr
    refine ⟨fun h => euclid hy (by rw [Int.neg_mul]; omega) h (by rw [ay]; omega), fun h _ => by omega, fun h _ => by omega⟩
  · obtain rfl : a1 = false := by cases a1; rfl; exact absurd (nx rfl) (by omega)
    obtain rfl : a2 = false := by cases a2; rfl; exact absurd (nx2 rfl) (by omega)
    obtain rfl : b1 = false := by cases b1; rfl; exact absurd (ny rfl) (by omega)
    have ax : ab x = x := by unfold ab; omega
    have ay : ab y = y := by unfold ab; omega
    simp [sgn] at hq hr
    rw [ax, ay, Int.mul_comm] at hd
    rw [ay] at h1
    subst hq
    subst hr
    refine ⟨fun h => euclid hy (by omega) h (by rw [ay]; omega), fun h _ => by omega, fun h _ => by omega⟩

set_option maxRecDepth 100000 in
set_option maxHeartbeats 8000000 in
theorem RDivModV {w : World} {v v' : Value} {x y : Int} (h : Num w v x) (h' : Num w v' y) (hx : ab x < pw 1000) (hy : ab y < pw 1000) : Calls Try.prog 85 #[v, v'] w (DivGives w x y) := by
  obtain ⟨n, ao, k, c, rfl⟩ := h.parts
  obtain ⟨n', ao', k', c', rfl⟩ := h'.parts
  have Bx := hidd hx
  have By := hidd hy
  clear hx hy
  obtain ⟨w0, hw0, XA, XB, X4, X5, HB⟩ := boxes4n w h h' 29
  go_enter Try.func85, Try.ntmps85
  go_upto_region 1 with (fail)
  rw [← hw0]
  clear hw0 h h'
  obtain ⟨na, aoa, kka, cca, ⟨a0, a1, a2, a3⟩, hNa⟩ := id XA
  obtain ⟨nb, aob, kkb, ccb, ⟨b0, b1, b2, b3⟩, hNb⟩ := id XB
  obtain ⟨xs, sx, cx, kx, zx, vx0, _, negx, posx⟩ := hNa.sign
  obtain ⟨ys, sy, cy, ky, zy, vy0, hky, negy, posy⟩ := hNb.sign
  by_cases hy0 : y = 0
  · obtain rfl := hky.2 hy0
    obtain ⟨nc, aoc, kkc, ccc, ⟨c0, c1, c2, c3⟩, hNc⟩ := id X4
    obtain ⟨nd, aod, kkd, ccd, ⟨d0, d1, d2, d3⟩, hNd⟩ := id X5
    have hbS := (((HB.setCell (p := ⟨w.heap.size + 1 + 1, 0, none⟩) (by show w.heap.size ≤ w.heap.size + 1 + 1; omega) (.bool false)).setCell (p := ⟨w.heap.size + 1 + 1, 1, none⟩) (by show w.heap.size ≤ w.heap.size + 1 + 1; omega) (.slice none 0 0)).setCell (p := ⟨w.heap.size + 1 + 1 + 1, 0, none⟩) (by show w.heap.size ≤ w.heap.size + 1 + 1 + 1; omega) (.bool false)).setCell (p := ⟨w.heap.size + 1 + 1 + 1, 1, none⟩) (by show w.heap.size ≤ w.heap.size + 1 + 1 + 1; omega) (.slice none 0 0)
    clear hky zx zy negx posx negy posy
    go_wp2
    refine bodyPost_ret (v := .tuple #[.agg #[.bool false, .slice none 0 0], .agg #[.bool false, .slice none 0 0], .int .i64 4]) ?_ rfl ⟨hbS, .inl ⟨hy0, rfl⟩⟩
    simp [results, Try.results85, go_sem, c0, c1, d0, d1]
  · have Hy0 := hidd hy0
    have hkb : ((kkb : Int) == 0) = false := by simp; exact fun h => hy0 (hky.1 h)
    have vy1 : 0 < val ys := by rcases (by omega : val ys = 0 ∨ 0 < val ys) with h | h; exact absurd (by rw [zy, h]; cases nb <;> rfl) hy0; exact h
    have Kq : Hid (ab (val xs / val ys) < pw 1000) := by have h1 := Int.ediv_le_self (val ys) vx0; have h2 := Int.ediv_nonneg vx0 (Int.le_of_lt vy1); show ab _ < _; rw [ab_of h2]; have h3 := Bx.out; rw [zx, ab_sgn, ab_of vx0] at h3; omega
    have Kr : Hid (ab (val xs % val ys) < pw 1000) := by have h1 := Int.emod_lt_of_pos (val xs) vy1; have h2 := Int.emod_nonneg (val xs) (Int.ne_of_gt vy1); show ab _ < _; rw [ab_of h2]; have h3 := By.out; rw [zy, ab_sgn, ab_of vy0] at h3; omega
    have Zx := hidd zx
    have Zy := hidd zy
    have Ny := hidd negy
    have Py := hidd posy
    have V0 := hidd vx0
    have V1 := hidd vy1
    clear hy0 hky zx zy negx posx negy posy vx0 vy0 vy1
    go_wp2_with fail
    clear hkb
    refine (divide_any _ _ _ _ _ _ _ xs ys sx sy cx cy V1.out (by omega) (by omega)).mono ?_
    rintro e w1 ⟨aq, lq, cq, qs, ar, lr, cr, rs, rfl, sq, sr, hlq, hlr, vq, vr, hb⟩
    have Vq := hidd vq
    have Vr := hidd vr
    clear vq vr
    clear a0 a1 a2 a3 hNa b0 b1 b2 b3 hNb
    clear sx sy
    replace XA := XA.mono hb
    replace XB := XB.mono hb
    replace X4 := X4.mono hb
    replace X5 := X5.mono hb
    replace HB := HB.trans (hb.mono HB.size)
    clear hb
    go_upto_region 4 with (fail)
    obtain ⟨w2, hw2, hI7⟩ : ∃ w2, w2 = w1.alloc (.cells #[.slice aq lq cq, .slice ar lr cr] 100) ∧ IntBox w2 w1.heap.size (.slice aq lq cq) (.slice ar lr cr) := ⟨_, rfl, IntBox.new _ _ _ _⟩
    rw [← hw2]
    have hb : Below w1.heap.size w1 w2 := by rw [hw2]; exact alloc_below _ _
    have hlt1 := X5.lt
    clear hw2
    replace XA := XA.mono hb
    replace XB := XB.mono hb
    replace X4 := X4.mono hb
    replace X5 := X5.mono hb
    replace HB := HB.trans (hb.mono HB.size)
    replace sq := sq.mono hb
    replace sr := sr.mono hb
    clear hb
    obtain ⟨g7, hg7⟩ : ∃ g7, g7 = w1.heap.size := ⟨_, rfl⟩
    rw [← hg7] at hI7 hlt1
    rw [← hg7]
    clear hg7
    have hlt2 := hI7.lt
    obtain ⟨na, aoa, kka, cca, ⟨a0, a1, a2, a3⟩, hNa⟩ := id XA
    obtain ⟨nb, aob, kkb, ccb, ⟨b0, b1, b2, b3⟩, hNb⟩ := id XB
    have hI7c := hI7
    obtain ⟨i0, i1, _, _⟩ := hI7
    go_wp2_with fail
    obtain ⟨_, _, _, _, _, _, _, negx, posx⟩ := hNa.sign
    obtain ⟨_, _, _, _, _, _, _, negy, posy⟩ := hNb.sign
    have Nx := hidd negx
    have Px := hidd posx
    have Ny2 := hidd negy
    have Py2 := hidd posy
    clear negx posx negy posy
    have Ax : Hid (val xs = ab x) := by show val xs = ab x; rw [Zx.out, ab_sgn, ab_of V0.out]
    have Ay : Hid (val ys = ab y) := by show val ys = ab y; rw [Zy.out, ab_sgn, ab_of (Int.le_of_lt V1.out)]
    obtain ⟨q0, hq0⟩ : ∃ q0, q0 = sgn (!na == nb) (val qs) := ⟨_, rfl⟩
    have Bq0 : Hid (ab q0 < pw 1000) := by show ab q0 < _; rw [hq0, ab_sgn, Vq.out]; exact Kq.out
    have Hq0 := hidd hq0
    clear hq0
    refine (exKP (z := q0) (by rw [Hq0.out]; exact made_any _ _ _ _ _ _ sq (by omega)) Bq0.out (by omega)).mono ?_
    rintro e w3 ⟨n3', ao3, kk3, c3', rfl, hb, hN3⟩
    replace hI7c := hI7c.mono hb hlt2
    have hlt3 := hb.size
    clear a0 a1 a2 a3 hNa b0 b1 b2 b3 hNb
    clear i0 i1
    replace XA := XA.mono hb
    replace XB := XB.mono hb
    replace X4 := X4.mono hb
    replace X5 := X5.mono hb
    replace HB := HB.trans (hb.mono HB.size)
    replace sr := sr.mono hb
    clear hb
    replace hlt2 : g7 < w3.heap.size := by omega
    clear hlt3
    go_upto_region 5 with (fail)
    obtain ⟨w11, hw11, hb, p1⟩ := boxOne hN3 29
    rw [← hw11]
    clear hw11
    replace hI7c := hI7c.mono hb hlt2
    have hsz1 := hb.size
    replace XA := XA.mono hb
    replace XB := XB.mono hb
    replace X4 := X4.mono hb
    replace X5 := X5.mono hb
    replace HB := HB.trans (hb.mono HB.size)
    replace sr := sr.mono hb
    clear hb
    obtain ⟨g8, hg8⟩ : ∃ g, g = w3.heap.size := ⟨_, rfl⟩
    rw [← hg8] at p1 hlt2 hsz1
    rw [← hg8]
    clear hg8
    have X8 := p1
    have hlt8 := hlt2
    replace hlt2 : g7 < w11.heap.size := by omega
    clear p1 hsz1
    obtain ⟨na, aoa, kka, cca, ⟨a0, a1, a2, a3⟩, hNa⟩ := id XA
    have hI7d := hI7c
    obtain ⟨i0, i1, _, _⟩ := hI7c
    rename IntBox _ g7 _ _ => hI7c
    obtain ⟨_, _, _, _, _, _, _, negx, posx⟩ := hNa.sign
    have Nx2 := hidd negx
    have Px2 := hidd posx
    clear negx posx
    go_wp2_with fail
    obtain ⟨r0, hr0⟩ : ∃ r0, r0 = sgn na (val rs) := ⟨_, rfl⟩
    have Br0 : Hid (ab r0 < pw 1000) := by show ab r0 < _; rw [hr0, ab_sgn, Vr.out]; exact Kr.out
    have Hr0 := hidd hr0
    clear hr0
    refine (exKP (z := r0) (by rw [Hr0.out]; exact made_any _ _ _ _ _ _ sr (by omega)) Br0.out (by omega)).mono ?_
    rintro e w4 ⟨n4', ao4, kk4, c4', rfl, hb, hN4⟩
    replace hI7c := hI7c.mono hb hlt2
    have hlt3 := hb.size
    clear a0 a1 a2 a3 hNa
    clear i0 i1 sr sq
    replace XA := XA.mono hb
    replace XB := XB.mono hb
    replace X4 := X4.mono hb
    replace X5 := X5.mono hb
    replace X8 := X8.mono hb
    replace HB := HB.trans (hb.mono HB.size)
    clear hb
    replace hlt2 : g7 < w4.heap.size := by omega
    have hlt38 : g8 < w4.heap.size := X8.lt
    clear hlt3
    go_upto_region 6 with (fail)
    obtain ⟨w12, hw12, hb, p2⟩ := boxOne hN4 29
    rw [← hw12]
    clear hw12
    replace hI7c := hI7c.mono hb hlt2
    have hsz2 := hb.size
    replace XA := XA.mono hb
    replace XB := XB.mono hb
    replace X4 := X4.mono hb
    replace X5 := X5.mono hb
    replace X8 := X8.mono hb
    replace HB := HB.trans (hb.mono HB.size)
    clear hb
    obtain ⟨g9, hg9⟩ : ∃ g, g = w4.heap.size := ⟨_, rfl⟩
    rw [← hg9] at p2 hlt2 hsz2 hlt38
    rw [← hg9]
    clear hg9
    have X9 := p2
    have hlt9 := hlt2
    replace hlt2 : g7 < w12.heap.size := by omega
    clear p2 hsz2
    have hord : w.heap.size + 1 + 1 + 1 < g7 ∧ g7 < g8 ∧ g8 < g9 := by omega
    obtain ⟨ho7, ho8, ho9⟩ := hord
    clear hlt1 hlt2 hlt8 hlt9 hlt38 hI7c
    obtain ⟨nf, aof, kkf, ccf, ⟨f0, f1, f2, f3⟩, hNf⟩ := id X9
    obtain ⟨_, _, _, _, _, _, _, negr, posr⟩ := hNf.sign
    have Nr := hidd negr
    have Pr := hidd posr
    clear negr posr
    cases nf
    · go_wp2
      have hEu : q0 = x / y ∧ r0 = x % y := by
        have hA := Ax.out
        have hB := Ay.out
        have h1 := Vq.out
        have h2 := Vr.out
        rw [hA, hB] at h1 h2
        have hq := Hq0.out
        have hr := Hr0.out
        rw [h1] at hq
        rw [h2] at hr
        have hv := V1.out
        rw [hB] at hv
        have hd := Int.mul_ediv_add_emod (ab x) (ab y)
        have hm0 := Int.emod_nonneg (ab x) (show ab y ≠ 0 by omega)
        have hm1 := Int.emod_lt_of_pos (ab x) hv
        have D := dm_end Hy0.out hd hm0 hm1 Nx.out Px.out Nx2.out Px2.out Ny2.out Py2.out hq hr
        have pr := Pr.out
        exact D.1 (by simpa using pr)
      have HEu := hidd hEu
      clear hEu
      have hlast := X9.lt
      have hp : (plan [Fc.num q0, Fc.num r0, Fc.any, Fc.any, Fc.is (.int .i64 (0))] [(w.heap.size, 1000, x, x), ((w.heap.size + 1), 1001, y, y), ((w.heap.size + 1 + 1), 2, 0, q0), ((w.heap.size + 1 + 1 + 1), 3, 0, r0), (g8, 1004, q0, q0), (g9, 1005, r0, r0)] []).Ok w.heap.size w12.heap.size := plan_ok (by simp; omega) (by simp; try omega) (by simp) (by omega)
      have hm := PMono.of hp
      refine region_steps (p := (plan [Fc.num q0, Fc.num r0, Fc.any, Fc.any, Fc.is (.int .i64 (0))] [(w.heap.size, 1000, x, x), ((w.heap.size + 1), 1001, y, y), ((w.heap.size + 1 + 1), 2, 0, q0), ((w.heap.size + 1 + 1 + 1), 3, 0, r0), (g8, 1004, q0, q0), (g9, 1005, r0, r0)] [])) (B := w.heap.size) (B0 := w12.heap.size) (w0 := w) (by kernel_rfl) rfl rfl (plan_start (by simp; exact ⟨XA, XB, X4, X5, X8, X9⟩) HB) ⟨?_, ?_, ?_, ?_, ?_, trivial⟩ ?_
      · exact st_load (b := g8) (k := 1004) (z := q0) (z' := q0) hp (by simp [plan]) (.inl rfl) rfl rfl (fun v w h => h) ⟨by simp [plan], by simp [plan]⟩
      · exact st_load (b := g9) (k := 1005) (z := r0) (z' := r0) hp (by simp [plan]) (.inl rfl) rfl rfl (fun v w h => h) ⟨by simp [plan], by simp [plan]⟩
      · exact st_storeOld (b := (w.heap.size + 1 + 1)) (j := 0) (z := 0) (z' := q0) hp rfl (by simp [plan]) rfl rfl rfl (by simp) rfl (fun v w h => h) (fun _ _ => trivial) (by simp [plan]) (by simp [plan])
      · exact st_storeOld (b := (w.heap.size + 1 + 1 + 1)) (j := 1) (z := 0) (z' := r0) hp rfl (by simp [plan]) rfl rfl rfl (by simp) rfl (fun v w h => h) (fun _ _ => trivial) (by simp [plan]) (by simp [plan])
      · exact g_assign hm ⟨by simp [plan], by simp [plan]⟩ trivial (src_const (fun _ => rfl))
      intro L vs w3 hL hG
      replace XA : BoxNum w3 w.heap.size x := by have := hG.old (w.heap.size, 1000, x, x) (by simp [plan]); simpa using this
      replace XB : BoxNum w3 (w.heap.size + 1) y := by have := hG.old ((w.heap.size + 1), 1001, y, y) (by simp [plan]); simpa using this
      replace X4 : BoxNum w3 (w.heap.size + 1 + 1) q0 := by have := hG.old ((w.heap.size + 1 + 1), 2, 0, q0) (by simp [plan]); simpa [hL 2 (by simp)] using this
      replace X5 : BoxNum w3 (w.heap.size + 1 + 1 + 1) r0 := by have := hG.old ((w.heap.size + 1 + 1 + 1), 3, 0, r0) (by simp [plan]); simpa [hL 3 (by simp)] using this
      replace X8 : BoxNum w3 g8 q0 := by have := hG.old (g8, 1004, q0, q0) (by simp [plan]); simpa using this
      replace X9 : BoxNum w3 g9 r0 := by have := hG.old (g9, 1005, r0, r0) (by simp [plan]); simpa using this
      have e4 : vs 4 = .int .i64 (0) := hG.val 4 (hL 4 (by simp))
      replace HB := hG.below
      rw [lay_all hL]
      simp only [putAll, dstOf, List.length_cons, List.length_nil, Nat.zero_add, Nat.reduceAdd, List.getElem?_toArray, List.getElem?_cons_zero, List.getElem?_cons_succ, Option.bind_some, Act.put, List.setIfInBounds_toArray, List.set_cons_succ, List.set_cons_zero]
      rw [e4]
      generalize vs 0 = u3_0
      generalize vs 1 = u3_1
      clear hG hm hp hL hlast vs L e4
      obtain ⟨nc, aoc, kkc, ccc, ⟨c0, c1, c2, c3⟩, hNc⟩ := id X4
      obtain ⟨nd, aod, kkd, ccd, ⟨d0, d1, d2, d3⟩, hNd⟩ := id X5
      go_wp2
      refine bodyPost_ret (v := .tuple #[.agg #[.bool nc, .slice aoc kkc ccc], .agg #[.bool nd, .slice aod kkd ccd], .int .i64 0]) ?_ rfl ⟨HB, .inr ⟨Hy0.out, _, _, rfl, by rw [← HEu.out.1]; exact hNc.isInt, by rw [← HEu.out.2]; exact hNd.isInt⟩⟩
      simp [results, Try.results85, go_sem, c0, c1, d0, d1]
    · go_wp2
      have B4 : Hid (ab ((Int.natAbs y : Int)) < pw 1000) := ab_absB By.out
      have B5 : Hid (ab ((r0 + (Int.natAbs y : Int))) < pw 1001) := ab_addB Br0.out B4.out (by omega) (by omega)
      have hlast := X9.lt
      have hp : (plan [Fc.num r0, Fc.num y, Fc.num (Int.natAbs y : Int), Fc.num (r0 + (Int.natAbs y : Int)), Fc.any] [(w.heap.size, 1000, x, x), ((w.heap.size + 1), 1001, y, y), ((w.heap.size + 1 + 1), 1002, 0, 0), ((w.heap.size + 1 + 1 + 1), 1003, 0, 0), (g8, 1004, q0, q0), (g9, 4, r0, (r0 + (Int.natAbs y : Int)))] []).Ok w.heap.size w12.heap.size := plan_ok (by simp; omega) (by simp; try omega) (by simp) (by omega)
      have hm := PMono.of hp
      refine region_steps (p := (plan [Fc.num r0, Fc.num y, Fc.num (Int.natAbs y : Int), Fc.num (r0 + (Int.natAbs y : Int)), Fc.any] [(w.heap.size, 1000, x, x), ((w.heap.size + 1), 1001, y, y), ((w.heap.size + 1 + 1), 1002, 0, 0), ((w.heap.size + 1 + 1 + 1), 1003, 0, 0), (g8, 1004, q0, q0), (g9, 4, r0, (r0 + (Int.natAbs y : Int)))] [])) (B := w.heap.size) (B0 := w12.heap.size) (w0 := w) (by kernel_rfl) rfl rfl (plan_start (by simp; exact ⟨XA, XB, X4, X5, X8, X9⟩) HB) ⟨?_, ?_, ?_, ?_, ?_, trivial⟩ ?_
      · exact st_load (b := g9) (k := 4) (z := r0) (z' := (r0 + (Int.natAbs y : Int))) hp (by simp [plan]) (.inr rfl) rfl rfl (fun v w h => h) ⟨by simp [plan], by simp [plan]⟩
      · exact st_load (b := (w.heap.size + 1)) (k := 1001) (z := y) (z' := y) hp (by simp [plan]) (.inl rfl) rfl rfl (fun v w h => h) ⟨by simp [plan], by simp [plan]⟩
      · exact g_call1 (F := (Fc.num y).P) hm ⟨by simp [plan], by simp [plan]⟩ trivial enter_rAbs (src_in 1 rfl rfl (by simp) rfl (fun v w h => h)) (fun v w h => exK (RAbsV h) B4.out (by omega))
      · exact g_call2 (F := (Fc.num r0).P) (G := (Fc.num (Int.natAbs y : Int)).P) hm ⟨by simp [plan], by simp [plan]⟩ trivial enter_rAdd (src_in 0 rfl rfl (by simp) rfl (fun v w h => h)) (src_in 2 rfl rfl (by simp) rfl (fun v w h => h)) (fun v v' w h h' => exK (RAddV h h') B5.out (by omega))
      · exact st_storeOld (b := g9) (j := 3) (z := r0) (z' := (r0 + (Int.natAbs y : Int))) hp rfl (by simp [plan]) rfl rfl rfl (by simp) rfl (fun v w h => h) (fun _ _ => trivial) (by simp [plan]) (by simp [plan])
      intro L vs w6 hL hG
      replace XA : BoxNum w6 w.heap.size x := by have := hG.old (w.heap.size, 1000, x, x) (by simp [plan]); simpa using this
      replace XB : BoxNum w6 (w.heap.size + 1) y := by have := hG.old ((w.heap.size + 1), 1001, y, y) (by simp [plan]); simpa using this
      replace X4 : BoxNum w6 (w.heap.size + 1 + 1) 0 := by have := hG.old ((w.heap.size + 1 + 1), 1002, 0, 0) (by simp [plan]); simpa using this
      replace X5 : BoxNum w6 (w.heap.size + 1 + 1 + 1) 0 := by have := hG.old ((w.heap.size + 1 + 1 + 1), 1003, 0, 0) (by simp [plan]); simpa using this
      replace X8 : BoxNum w6 g8 q0 := by have := hG.old (g8, 1004, q0, q0) (by simp [plan]); simpa using this
      replace X9 : BoxNum w6 g9 (r0 + (Int.natAbs y : Int)) := by have := hG.old (g9, 4, r0, (r0 + (Int.natAbs y : Int))) (by simp [plan]); simpa [hL 4 (by simp)] using this
      replace HB := hG.below
      rw [lay_all hL]
      simp only [putAll, dstOf, List.length_cons, List.length_nil, Nat.zero_add, Nat.reduceAdd, List.getElem?_toArray, List.getElem?_cons_zero, List.getElem?_cons_succ, Option.bind_some, Act.put, List.setIfInBounds_toArray, List.set_cons_succ, List.set_cons_zero]
      generalize vs 0 = u6_0
      generalize vs 1 = u6_1
      generalize vs 2 = u6_2
      generalize vs 3 = u6_3
      clear hG hm hp hL hlast vs L 
      obtain ⟨nb, aob, kkb, ccb, ⟨b0, b1, b2, b3⟩, hNb⟩ := id XB
      obtain ⟨_, _, _, _, _, _, _, negy, posy⟩ := hNb.sign
      have Ny3 := hidd negy
      have Py3 := hidd posy
      clear negy posy
      cases nb
      · go_wp2
        have B7 : Hid (ab (1) < pw 2) := by show ab (1) < pw 2; decide
        have B8 : Hid (ab ((q0 - (1))) < pw 1001) := ab_subB Bq0.out B7.out (by omega) (by omega)
        have hlast := X9.lt
        have hp : (plan [Fc.num q0, Fc.num (1), Fc.num (q0 - (1)), Fc.any] [(w.heap.size, 1000, x, x), ((w.heap.size + 1), 1001, y, y), ((w.heap.size + 1 + 1), 1002, 0, 0), ((w.heap.size + 1 + 1 + 1), 1003, 0, 0), (g8, 3, q0, (q0 - (1))), (g9, 1005, (r0 + (Int.natAbs y : Int)), (r0 + (Int.natAbs y : Int)))] []).Ok w.heap.size w6.heap.size := plan_ok (by simp; omega) (by simp; try omega) (by simp) (by omega)
        have hm := PMono.of hp
        refine region_steps (p := (plan [Fc.num q0, Fc.num (1), Fc.num (q0 - (1)), Fc.any] [(w.heap.size, 1000, x, x), ((w.heap.size + 1), 1001, y, y), ((w.heap.size + 1 + 1), 1002, 0, 0), ((w.heap.size + 1 + 1 + 1), 1003, 0, 0), (g8, 3, q0, (q0 - (1))), (g9, 1005, (r0 + (Int.natAbs y : Int)), (r0 + (Int.natAbs y : Int)))] [])) (B := w.heap.size) (B0 := w6.heap.size) (w0 := w) (by kernel_rfl) rfl rfl (plan_start (by simp; exact ⟨XA, XB, X4, X5, X8, X9⟩) HB) ⟨?_, ?_, ?_, ?_, trivial⟩ ?_
        · exact st_load (b := g8) (k := 3) (z := q0) (z' := (q0 - (1))) hp (by simp [plan]) (.inr rfl) rfl rfl (fun v w h => h) ⟨by simp [plan], by simp [plan]⟩
        · exact g_callC hm ⟨by simp [plan], by simp [plan]⟩ trivial enter_rOf (fun w => rOfV w (1) (by omega) (by omega))
        · exact g_call2 (F := (Fc.num q0).P) (G := (Fc.num (1)).P) hm ⟨by simp [plan], by simp [plan]⟩ trivial enter_rSub (src_in 0 rfl rfl (by simp) rfl (fun v w h => h)) (src_in 1 rfl rfl (by simp) rfl (fun v w h => h)) (fun v v' w h h' => exK (RSubV h h' (K := 1000) (Int.lt_of_lt_of_le Bq0.out (pw_le (by omega))) (Int.lt_of_lt_of_le B7.out (pw_le (by omega))) (by omega)) B8.out (by omega))
        · exact st_storeOld (b := g8) (j := 2) (z := q0) (z' := (q0 - (1))) hp rfl (by simp [plan]) rfl rfl rfl (by simp) rfl (fun v w h => h) (fun _ _ => trivial) (by simp [plan]) (by simp [plan])
        intro L vs w9 hL hG
        replace XA : BoxNum w9 w.heap.size x := by have := hG.old (w.heap.size, 1000, x, x) (by simp [plan]); simpa using this
        replace XB : BoxNum w9 (w.heap.size + 1) y := by have := hG.old ((w.heap.size + 1), 1001, y, y) (by simp [plan]); simpa using this
        replace X4 : BoxNum w9 (w.heap.size + 1 + 1) 0 := by have := hG.old ((w.heap.size + 1 + 1), 1002, 0, 0) (by simp [plan]); simpa using this
        replace X5 : BoxNum w9 (w.heap.size + 1 + 1 + 1) 0 := by have := hG.old ((w.heap.size + 1 + 1 + 1), 1003, 0, 0) (by simp [plan]); simpa using this
        replace X8 : BoxNum w9 g8 (q0 - (1)) := by have := hG.old (g8, 3, q0, (q0 - (1))) (by simp [plan]); simpa [hL 3 (by simp)] using this
        replace X9 : BoxNum w9 g9 (r0 + (Int.natAbs y : Int)) := by have := hG.old (g9, 1005, (r0 + (Int.natAbs y : Int)), (r0 + (Int.natAbs y : Int))) (by simp [plan]); simpa using this
        replace HB := hG.below
        rw [lay_all hL]
        simp only [putAll, dstOf, List.length_cons, List.length_nil, Nat.zero_add, Nat.reduceAdd, List.getElem?_toArray, List.getElem?_cons_zero, List.getElem?_cons_succ, Option.bind_some, Act.put, List.setIfInBounds_toArray, List.set_cons_succ, List.set_cons_zero]
        generalize vs 0 = u9_0
        generalize vs 1 = u9_1
        generalize vs 2 = u9_2
        clear hG hm hp hL hlast vs L 
        go_wp2
        have hEu : (q0 - (1)) = x / y ∧ (r0 + (Int.natAbs y : Int)) = x % y := by
          have hA := Ax.out
          have hB := Ay.out
          have h1 := Vq.out
          have h2 := Vr.out
          rw [hA, hB] at h1 h2
          have hq := Hq0.out
          have hr := Hr0.out
          rw [h1] at hq
          rw [h2] at hr
          have hv := V1.out
          rw [hB] at hv
          have hd := Int.mul_ediv_add_emod (ab x) (ab y)
          have hm0 := Int.emod_nonneg (ab x) (show ab y ≠ 0 by omega)
          have hm1 := Int.emod_lt_of_pos (ab x) hv
          have D := dm_end Hy0.out hd hm0 hm1 Nx.out Px.out Nx2.out Px2.out Ny2.out Py2.out hq hr
          have nr := Nr.out
          have ny3 := Ny3.out
          have py3 := Py3.out
          exact D.2.1 (by simpa using nr) (by simpa using py3)
        have HEu := hidd hEu
        clear hEu
        have hlast := X9.lt
        have hp : (plan [Fc.num (q0 - (1)), Fc.num (r0 + (Int.natAbs y : Int)), Fc.any, Fc.any, Fc.is (.int .i64 (0))] [(w.heap.size, 1000, x, x), ((w.heap.size + 1), 1001, y, y), ((w.heap.size + 1 + 1), 2, 0, (q0 - (1))), ((w.heap.size + 1 + 1 + 1), 3, 0, (r0 + (Int.natAbs y : Int))), (g8, 1004, (q0 - (1)), (q0 - (1))), (g9, 1005, (r0 + (Int.natAbs y : Int)), (r0 + (Int.natAbs y : Int)))] []).Ok w.heap.size w9.heap.size := plan_ok (by simp; omega) (by simp; try omega) (by simp) (by omega)
        have hm := PMono.of hp
        refine region_steps (p := (plan [Fc.num (q0 - (1)), Fc.num (r0 + (Int.natAbs y : Int)), Fc.any, Fc.any, Fc.is (.int .i64 (0))] [(w.heap.size, 1000, x, x), ((w.heap.size + 1), 1001, y, y), ((w.heap.size + 1 + 1), 2, 0, (q0 - (1))), ((w.heap.size + 1 + 1 + 1), 3, 0, (r0 + (Int.natAbs y : Int))), (g8, 1004, (q0 - (1)), (q0 - (1))), (g9, 1005, (r0 + (Int.natAbs y : Int)), (r0 + (Int.natAbs y : Int)))] [])) (B := w.heap.size) (B0 := w9.heap.size) (w0 := w) (by kernel_rfl) rfl rfl (plan_start (by simp; exact ⟨XA, XB, X4, X5, X8, X9⟩) HB) ⟨?_, ?_, ?_, ?_, ?_, trivial⟩ ?_
        · exact st_load (b := g8) (k := 1004) (z := (q0 - (1))) (z' := (q0 - (1))) hp (by simp [plan]) (.inl rfl) rfl rfl (fun v w h => h) ⟨by simp [plan], by simp [plan]⟩
        · exact st_load (b := g9) (k := 1005) (z := (r0 + (Int.natAbs y : Int))) (z' := (r0 + (Int.natAbs y : Int))) hp (by simp [plan]) (.inl rfl) rfl rfl (fun v w h => h) ⟨by simp [plan], by simp [plan]⟩
        · exact st_storeOld (b := (w.heap.size + 1 + 1)) (j := 0) (z := 0) (z' := (q0 - (1))) hp rfl (by simp [plan]) rfl rfl rfl (by simp) rfl (fun v w h => h) (fun _ _ => trivial) (by simp [plan]) (by simp [plan])
        · exact st_storeOld (b := (w.heap.size + 1 + 1 + 1)) (j := 1) (z := 0) (z' := (r0 + (Int.natAbs y : Int))) hp rfl (by simp [plan]) rfl rfl rfl (by simp) rfl (fun v w h => h) (fun _ _ => trivial) (by simp [plan]) (by simp [plan])
        · exact g_assign hm ⟨by simp [plan], by simp [plan]⟩ trivial (src_const (fun _ => rfl))
        intro L vs w10 hL hG
        replace XA : BoxNum w10 w.heap.size x := by have := hG.old (w.heap.size, 1000, x, x) (by simp [plan]); simpa using this
        replace XB : BoxNum w10 (w.heap.size + 1) y := by have := hG.old ((w.heap.size + 1), 1001, y, y) (by simp [plan]); simpa using this
        replace X4 : BoxNum w10 (w.heap.size + 1 + 1) (q0 - (1)) := by have := hG.old ((w.heap.size + 1 + 1), 2, 0, (q0 - (1))) (by simp [plan]); simpa [hL 2 (by simp)] using this
        replace X5 : BoxNum w10 (w.heap.size + 1 + 1 + 1) (r0 + (Int.natAbs y : Int)) := by have := hG.old ((w.heap.size + 1 + 1 + 1), 3, 0, (r0 + (Int.natAbs y : Int))) (by simp [plan]); simpa [hL 3 (by simp)] using this
        replace X8 : BoxNum w10 g8 (q0 - (1)) := by have := hG.old (g8, 1004, (q0 - (1)), (q0 - (1))) (by simp [plan]); simpa using this
        replace X9 : BoxNum w10 g9 (r0 + (Int.natAbs y : Int)) := by have := hG.old (g9, 1005, (r0 + (Int.natAbs y : Int)), (r0 + (Int.natAbs y : Int))) (by simp [plan]); simpa using this
        have e4 : vs 4 = .int .i64 (0) := hG.val 4 (hL 4 (by simp))
        replace HB := hG.below
        rw [lay_all hL]
        simp only [putAll, dstOf, List.length_cons, List.length_nil, Nat.zero_add, Nat.reduceAdd, List.getElem?_toArray, List.getElem?_cons_zero, List.getElem?_cons_succ, Option.bind_some, Act.put, List.setIfInBounds_toArray, List.set_cons_succ, List.set_cons_zero]
        rw [e4]
        generalize vs 0 = u10_0
        generalize vs 1 = u10_1
        clear hG hm hp hL hlast vs L e4
        obtain ⟨nc, aoc, kkc, ccc, ⟨c0, c1, c2, c3⟩, hNc⟩ := id X4
        obtain ⟨nd, aod, kkd, ccd, ⟨d0, d1, d2, d3⟩, hNd⟩ := id X5
        go_wp2
        refine bodyPost_ret (v := .tuple #[.agg #[.bool nc, .slice aoc kkc ccc], .agg #[.bool nd, .slice aod kkd ccd], .int .i64 0]) ?_ rfl ⟨HB, .inr ⟨Hy0.out, _, _, rfl, by rw [← HEu.out.1]; exact hNc.isInt, by rw [← HEu.out.2]; exact hNd.isInt⟩⟩
        simp [results, Try.results85, go_sem, c0, c1, d0, d1]
      · go_wp2
        have B11 : Hid (ab (1) < pw 2) := by show ab (1) < pw 2; decide
        have B12 : Hid (ab ((q0 + (1))) < pw 1001) := ab_addB Bq0.out B11.out (by omega) (by omega)
        have hlast := X9.lt
        have hp : (plan [Fc.num q0, Fc.num (1), Fc.num (q0 + (1)), Fc.any] [(w.heap.size, 1000, x, x), ((w.heap.size + 1), 1001, y, y), ((w.heap.size + 1 + 1), 1002, 0, 0), ((w.heap.size + 1 + 1 + 1), 1003, 0, 0), (g8, 3, q0, (q0 + (1))), (g9, 1005, (r0 + (Int.natAbs y : Int)), (r0 + (Int.natAbs y : Int)))] []).Ok w.heap.size w6.heap.size := plan_ok (by simp; omega) (by simp; try omega) (by simp) (by omega)
        have hm := PMono.of hp
        refine region_steps (p := (plan [Fc.num q0, Fc.num (1), Fc.num (q0 + (1)), Fc.any] [(w.heap.size, 1000, x, x), ((w.heap.size + 1), 1001, y, y), ((w.heap.size + 1 + 1), 1002, 0, 0), ((w.heap.size + 1 + 1 + 1), 1003, 0, 0), (g8, 3, q0, (q0 + (1))), (g9, 1005, (r0 + (Int.natAbs y : Int)), (r0 + (Int.natAbs y : Int)))] [])) (B := w.heap.size) (B0 := w6.heap.size) (w0 := w) (by kernel_rfl) rfl rfl (plan_start (by simp; exact ⟨XA, XB, X4, X5, X8, X9⟩) HB) ⟨?_, ?_, ?_, ?_, trivial⟩ ?_
        · exact st_load (b := g8) (k := 3) (z := q0) (z' := (q0 + (1))) hp (by simp [plan]) (.inr rfl) rfl rfl (fun v w h => h) ⟨by simp [plan], by simp [plan]⟩
        · exact g_callC hm ⟨by simp [plan], by simp [plan]⟩ trivial enter_rOf (fun w => rOfV w (1) (by omega) (by omega))
        · exact g_call2 (F := (Fc.num q0).P) (G := (Fc.num (1)).P) hm ⟨by simp [plan], by simp [plan]⟩ trivial enter_rAdd (src_in 0 rfl rfl (by simp) rfl (fun v w h => h)) (src_in 1 rfl rfl (by simp) rfl (fun v w h => h)) (fun v v' w h h' => exK (RAddV h h') B12.out (by omega))
        · exact st_storeOld (b := g8) (j := 2) (z := q0) (z' := (q0 + (1))) hp rfl (by simp [plan]) rfl rfl rfl (by simp) rfl (fun v w h => h) (fun _ _ => trivial) (by simp [plan]) (by simp [plan])
        intro L vs w13 hL hG
        replace XA : BoxNum w13 w.heap.size x := by have := hG.old (w.heap.size, 1000, x, x) (by simp [plan]); simpa using this
        replace XB : BoxNum w13 (w.heap.size + 1) y := by have := hG.old ((w.heap.size + 1), 1001, y, y) (by simp [plan]); simpa using this
        replace X4 : BoxNum w13 (w.heap.size + 1 + 1) 0 := by have := hG.old ((w.heap.size + 1 + 1), 1002, 0, 0) (by simp [plan]); simpa using this
        replace X5 : BoxNum w13 (w.heap.size + 1 + 1 + 1) 0 := by have := hG.old ((w.heap.size + 1 + 1 + 1), 1003, 0, 0) (by simp [plan]); simpa using this
        replace X8 : BoxNum w13 g8 (q0 + (1)) := by have := hG.old (g8, 3, q0, (q0 + (1))) (by simp [plan]); simpa [hL 3 (by simp)] using this
        replace X9 : BoxNum w13 g9 (r0 + (Int.natAbs y : Int)) := by have := hG.old (g9, 1005, (r0 + (Int.natAbs y : Int)), (r0 + (Int.natAbs y : Int))) (by simp [plan]); simpa using this
        replace HB := hG.below
        rw [lay_all hL]
        simp only [putAll, dstOf, List.length_cons, List.length_nil, Nat.zero_add, Nat.reduceAdd, List.getElem?_toArray, List.getElem?_cons_zero, List.getElem?_cons_succ, Option.bind_some, Act.put, List.setIfInBounds_toArray, List.set_cons_succ, List.set_cons_zero]
        generalize vs 0 = u13_0
        generalize vs 1 = u13_1
        generalize vs 2 = u13_2
        clear hG hm hp hL hlast vs L 
        go_wp2
        have hEu : (q0 + (1)) = x / y ∧ (r0 + (Int.natAbs y : Int)) = x % y := by
          have hA := Ax.out
          have hB := Ay.out
          have h1 := Vq.out
          have h2 := Vr.out
          rw [hA, hB] at h1 h2
          have hq := Hq0.out
          have hr := Hr0.out
          rw [h1] at hq
          rw [h2] at hr
          have hv := V1.out
          rw [hB] at hv
          have hd := Int.mul_ediv_add_emod (ab x) (ab y)
          have hm0 := Int.emod_nonneg (ab x) (show ab y ≠ 0 by omega)
          have hm1 := Int.emod_lt_of_pos (ab x) hv
          have D := dm_end Hy0.out hd hm0 hm1 Nx.out Px.out Nx2.out Px2.out Ny2.out Py2.out hq hr
          have nr := Nr.out
          have ny3 := Ny3.out
          have py3 := Py3.out
          exact D.2.2 (by simpa using nr) (by simpa using ny3)
        have HEu := hidd hEu
        clear hEu
        have hlast := X9.lt
        have hp : (plan [Fc.num (q0 + (1)), Fc.num (r0 + (Int.natAbs y : Int)), Fc.any, Fc.any, Fc.is (.int .i64 (0))] [(w.heap.size, 1000, x, x), ((w.heap.size + 1), 1001, y, y), ((w.heap.size + 1 + 1), 2, 0, (q0 + (1))), ((w.heap.size + 1 + 1 + 1), 3, 0, (r0 + (Int.natAbs y : Int))), (g8, 1004, (q0 + (1)), (q0 + (1))), (g9, 1005, (r0 + (Int.natAbs y : Int)), (r0 + (Int.natAbs y : Int)))] []).Ok w.heap.size w13.heap.size := plan_ok (by simp; omega) (by simp; try omega) (by simp) (by omega)
        have hm := PMono.of hp
        refine region_steps (p := (plan [Fc.num (q0 + (1)), Fc.num (r0 + (Int.natAbs y : Int)), Fc.any, Fc.any, Fc.is (.int .i64 (0))] [(w.heap.size, 1000, x, x), ((w.heap.size + 1), 1001, y, y), ((w.heap.size + 1 + 1), 2, 0, (q0 + (1))), ((w.heap.size + 1 + 1 + 1), 3, 0, (r0 + (Int.natAbs y : Int))), (g8, 1004, (q0 + (1)), (q0 + (1))), (g9, 1005, (r0 + (Int.natAbs y : Int)), (r0 + (Int.natAbs y : Int)))] [])) (B := w.heap.size) (B0 := w13.heap.size) (w0 := w) (by kernel_rfl) rfl rfl (plan_start (by simp; exact ⟨XA, XB, X4, X5, X8, X9⟩) HB) ⟨?_, ?_, ?_, ?_, ?_, trivial⟩ ?_
        · exact st_load (b := g8) (k := 1004) (z := (q0 + (1))) (z' := (q0 + (1))) hp (by simp [plan]) (.inl rfl) rfl rfl (fun v w h => h) ⟨by simp [plan], by simp [plan]⟩
        · exact st_load (b := g9) (k := 1005) (z := (r0 + (Int.natAbs y : Int))) (z' := (r0 + (Int.natAbs y : Int))) hp (by simp [plan]) (.inl rfl) rfl rfl (fun v w h => h) ⟨by simp [plan], by simp [plan]⟩
        · exact st_storeOld (b := (w.heap.size + 1 + 1)) (j := 0) (z := 0) (z' := (q0 + (1))) hp rfl (by simp [plan]) rfl rfl rfl (by simp) rfl (fun v w h => h) (fun _ _ => trivial) (by simp [plan]) (by simp [plan])
        · exact st_storeOld (b := (w.heap.size + 1 + 1 + 1)) (j := 1) (z := 0) (z' := (r0 + (Int.natAbs y : Int))) hp rfl (by simp [plan]) rfl rfl rfl (by simp) rfl (fun v w h => h) (fun _ _ => trivial) (by simp [plan]) (by simp [plan])
        · exact g_assign hm ⟨by simp [plan], by simp [plan]⟩ trivial (src_const (fun _ => rfl))
        intro L vs w14 hL hG
        replace XA : BoxNum w14 w.heap.size x := by have := hG.old (w.heap.size, 1000, x, x) (by simp [plan]); simpa using this
        replace XB : BoxNum w14 (w.heap.size + 1) y := by have := hG.old ((w.heap.size + 1), 1001, y, y) (by simp [plan]); simpa using this
        replace X4 : BoxNum w14 (w.heap.size + 1 + 1) (q0 + (1)) := by have := hG.old ((w.heap.size + 1 + 1), 2, 0, (q0 + (1))) (by simp [plan]); simpa [hL 2 (by simp)] using this
        replace X5 : BoxNum w14 (w.heap.size + 1 + 1 + 1) (r0 + (Int.natAbs y : Int)) := by have := hG.old ((w.heap.size + 1 + 1 + 1), 3, 0, (r0 + (Int.natAbs y : Int))) (by simp [plan]); simpa [hL 3 (by simp)] using this
        replace X8 : BoxNum w14 g8 (q0 + (1)) := by have := hG.old (g8, 1004, (q0 + (1)), (q0 + (1))) (by simp [plan]); simpa using this
        replace X9 : BoxNum w14 g9 (r0 + (Int.natAbs y : Int)) := by have := hG.old (g9, 1005, (r0 + (Int.natAbs y : Int)), (r0 + (Int.natAbs y : Int))) (by simp [plan]); simpa using this
        have e4 : vs 4 = .int .i64 (0) := hG.val 4 (hL 4 (by simp))
        replace HB := hG.below
        rw [lay_all hL]
        simp only [putAll, dstOf, List.length_cons, List.length_nil, Nat.zero_add, Nat.reduceAdd, List.getElem?_toArray, List.getElem?_cons_zero, List.getElem?_cons_succ, Option.bind_some, Act.put, List.setIfInBounds_toArray, List.set_cons_succ, List.set_cons_zero]
        rw [e4]
        generalize vs 0 = u14_0
        generalize vs 1 = u14_1
        clear hG hm hp hL hlast vs L e4
        obtain ⟨nc, aoc, kkc, ccc, ⟨c0, c1, c2, c3⟩, hNc⟩ := id X4
        obtain ⟨nd, aod, kkd, ccd, ⟨d0, d1, d2, d3⟩, hNd⟩ := id X5
        go_wp2
        refine bodyPost_ret (v := .tuple #[.agg #[.bool nc, .slice aoc kkc ccc], .agg #[.bool nd, .slice aod kkd ccd], .int .i64 0]) ?_ rfl ⟨HB, .inr ⟨Hy0.out, _, _, rfl, by rw [← HEu.out.1]; exact hNc.isInt, by rw [← HEu.out.2]; exact hNd.isInt⟩⟩
        simp [results, Try.results85, go_sem, c0, c1, d0, d1]

set_option maxRecDepth 100000 in
set_option maxHeartbeats 8000000 in
theorem RDivV {w : World} {v v' : Value} {x y : Int} (h : Num w v x) (h' : Num w v' y) (hx : ab x < pw 1000) (hy : ab y < pw 1000) (hy0 : y ≠ 0) : Calls Try.prog 83 #[v, v'] w (GivesInt w (x / y)) := by
  obtain ⟨n, ao, k, c, rfl⟩ := h.parts
  obtain ⟨n', ao', k', c', rfl⟩ := h'.parts
  have Bx := hidd hx
  have By := hidd hy
  have Hy0 := hidd hy0
  clear hx hy hy0
  obtain ⟨w0, hw0, hXW, X4, HB, _⟩ := boxes3n w h h' 29
  obtain ⟨XA, XB, _⟩ := hXW w0 (Below.refl _ _)
  clear hXW
  go_enter Try.func83, Try.ntmps83
  go_upto_region 1 with (fail)
  rw [← hw0]
  clear hw0 h h'
  have hlt0 := X4.lt
  obtain ⟨na, aoa, kka, cca, ⟨a0, a1, a2, a3⟩, hNa⟩ := id XA
  obtain ⟨nb, aob, kkb, ccb, ⟨b0, b1, b2, b3⟩, hNb⟩ := id XB
  go_wp2_with fail
  refine (RDivModV hNa hNb Bx.out By.out).mono ?_
  rintro e w1 ⟨hb, ⟨h0, _⟩ | ⟨_, vq, vr, rfl, iq, ir⟩⟩
  · exact absurd h0 Hy0.out
  have Nq := num_of iq (ab_divB Bx.out (show 1000 < 1001 by omega)) (by omega)
  have Nr := num_of ir (ab_modB Hy0.out By.out) (by omega)
  obtain ⟨nq, aq, kq, cq, rfl⟩ := Nq.parts
  obtain ⟨nr, ar, kr, cr, rfl⟩ := Nr.parts
  clear iq ir
  clear a0 a1 a2 a3 hNa b0 b1 b2 b3 hNb
  replace XA := XA.mono hb
  replace XB := XB.mono hb
  replace X4 := X4.mono hb
  replace HB := HB.trans (hb.mono HB.size)
  clear hb
  go_upto_region 2 with (fail)
  obtain ⟨w2, hw2, hb, p5, p6⟩ := boxTwo Nq Nr 29
  rw [← hw2]
  clear hw2
  have hlt1 := X4.lt
  replace XA := XA.mono hb
  replace XB := XB.mono hb
  replace X4 := X4.mono hb
  replace HB := HB.trans (hb.mono HB.size)
  replace Nq := Nq.mono hb
  replace Nr := Nr.mono hb
  clear hb
  obtain ⟨ne, ae, ke, ce, ⟨e0, e1, _, _⟩, hNe⟩ := id p5
  obtain ⟨nc, aoc, kkc, ccc, ⟨c0, c1, c2, c3⟩, hNc⟩ := id X4
  have hNf := hNe.putBox X4 ne ae ke ce
  unfold putBox at hNf
  have hbS := (HB.setCell (p := ⟨w.heap.size + 1 + 1, 0, none⟩) (by show w.heap.size ≤ w.heap.size + 1 + 1; omega) (.bool ne)).setCell (p := ⟨w.heap.size + 1 + 1, 1, none⟩) (by show w.heap.size ≤ w.heap.size + 1 + 1; omega) (.slice ae ke ce)
  have hne1 : ¬ w1.heap.size = w.heap.size + 1 + 1 := by omega
  go_wp2
  refine bodyPost_ret (v := .agg #[.bool ne, .slice ae ke ce]) ?_ rfl ⟨_, rfl, hNf.isInt, hbS⟩
  simp [results, Try.results83, go_sem, c0, c1]

set_option maxRecDepth 100000 in
set_option maxHeartbeats 8000000 in
theorem RModV {w : World} {v v' : Value} {x y : Int} (h : Num w v x) (h' : Num w v' y) (hx : ab x < pw 1000) (hy : ab y < pw 1000) (hy0 : y ≠ 0) : Calls Try.prog 74 #[v, v'] w (GivesInt w (x % y)) := by
  obtain ⟨n, ao, k, c, rfl⟩ := h.parts
  obtain ⟨n', ao', k', c', rfl⟩ := h'.parts
  have Bx := hidd hx
  have By := hidd hy
  have Hy0 := hidd hy0
  clear hx hy hy0
  obtain ⟨w0, hw0, hXW, X4, HB, _⟩ := boxes3n w h h' 29
  obtain ⟨XA, XB, _⟩ := hXW w0 (Below.refl _ _)
  clear hXW
  go_enter Try.func74, Try.ntmps74
  go_upto_region 1 with (fail)
  rw [← hw0]
  clear hw0 h h'
  have hlt0 := X4.lt
  obtain ⟨na, aoa, kka, cca, ⟨a0, a1, a2, a3⟩, hNa⟩ := id XA
  obtain ⟨nb, aob, kkb, ccb, ⟨b0, b1, b2, b3⟩, hNb⟩ := id XB
  go_wp2_with fail
  refine (RDivModV hNa hNb Bx.out By.out).mono ?_
  rintro e w1 ⟨hb, ⟨h0, _⟩ | ⟨_, vq, vr, rfl, iq, ir⟩⟩
  · exact absurd h0 Hy0.out
  have Nq := num_of iq (ab_divB Bx.out (show 1000 < 1001 by omega)) (by omega)
  have Nr := num_of ir (ab_modB Hy0.out By.out) (by omega)
  obtain ⟨nq, aq, kq, cq, rfl⟩ := Nq.parts
  obtain ⟨nr, ar, kr, cr, rfl⟩ := Nr.parts
  clear iq ir
  clear a0 a1 a2 a3 hNa b0 b1 b2 b3 hNb
  replace XA := XA.mono hb
  replace XB := XB.mono hb
  replace X4 := X4.mono hb
  replace HB := HB.trans (hb.mono HB.size)
  clear hb
  go_upto_region 2 with (fail)
  obtain ⟨w2, hw2, hb, p5, p6⟩ := boxTwo Nq Nr 29
  rw [← hw2]
  clear hw2
  have hlt1 := X4.lt
  replace XA := XA.mono hb
  replace XB := XB.mono hb
  replace X4 := X4.mono hb
  replace HB := HB.trans (hb.mono HB.size)
  replace Nq := Nq.mono hb
  replace Nr := Nr.mono hb
  clear hb
  obtain ⟨ne, ae, ke, ce, ⟨e0, e1, _, _⟩, hNe⟩ := id p6
  obtain ⟨nc, aoc, kkc, ccc, ⟨c0, c1, c2, c3⟩, hNc⟩ := id X4
  have hNf := hNe.putBox X4 ne ae ke ce
  unfold putBox at hNf
  have hbS := (HB.setCell (p := ⟨w.heap.size + 1 + 1, 0, none⟩) (by show w.heap.size ≤ w.heap.size + 1 + 1; omega) (.bool ne)).setCell (p := ⟨w.heap.size + 1 + 1, 1, none⟩) (by show w.heap.size ≤ w.heap.size + 1 + 1; omega) (.slice ae ke ce)
  have hne1 : ¬ w1.heap.size = w.heap.size + 1 + 1 := by omega
  go_wp2
  refine bodyPost_ret (v := .agg #[.bool ne, .slice ae ke ce]) ?_ rfl ⟨_, rfl, hNf.isInt, hbS⟩
  simp [results, Try.results74, go_sem, c0, c1]

end Go.Proofs.Ytlehjhlihahjhaa

namespace Go.Proofs.Ytlehjhlihahjhaa
open Go Go.RowKit

theorem exRSign {w : World} {v : Value} {z : Int} (h : Num w v z) : Calls Try.prog 38 #[v] w fun e w' => ∃ v', e = .returned v' ∧ Below w.heap.size w w' ∧ v' = .int .i64 (cmpI z 0) :=
  (RSignV h).mono fun _ _ hh => ⟨_, hh.1, hh.2, rfl⟩
end Go.Proofs.Ytlehjhlihahjhaa

/- What the walks of stage 2 share: entering a function, contracts in the form that a region wants. -/
namespace Go.Proofs.Ytlehjhlihahjhaa
open Go Go.RowKit

theorem enq_Add (args : Array Value) (w : World) : (callFunc 32 args).run Try.prog w = .ok (.enter 32 args) w := enter_of Try.func32 (by kernel_rfl) rfl args w
theorem enq_Mul (args : Array Value) (w : World) : (callFunc 33 args).run Try.prog w = .ok (.enter 33 args) w := enter_of Try.func33 (by kernel_rfl) rfl args w
theorem enq_Sub (args : Array Value) (w : World) : (callFunc 82 args).run Try.prog w = .ok (.enter 82 args) w := enter_of Try.func82 (by kernel_rfl) rfl args w
theorem enq_Neg (args : Array Value) (w : World) : (callFunc 65 args).run Try.prog w = .ok (.enter 65 args) w := enter_of Try.func65 (by kernel_rfl) rfl args w
theorem enq_Gcd (args : Array Value) (w : World) : (callFunc 40 args).run Try.prog w = .ok (.enter 40 args) w := enter_of Try.func40 (by kernel_rfl) rfl args w
theorem enq_DivMod (args : Array Value) (w : World) : (callFunc 73 args).run Try.prog w = .ok (.enter 73 args) w := enter_of Try.func73 (by kernel_rfl) rfl args w
theorem enq_Cmp (args : Array Value) (w : World) : (callFunc 30 args).run Try.prog w = .ok (.enter 30 args) w := enter_of Try.func30 (by kernel_rfl) rfl args w
theorem enq_Sign (args : Array Value) (w : World) : (callFunc 43 args).run Try.prog w = .ok (.enter 43 args) w := enter_of Try.func43 (by kernel_rfl) rfl args w
theorem enq_Of (args : Array Value) (w : World) : (callFunc 67 args).run Try.prog w = .ok (.enter 67 args) w := enter_of Try.func67 (by kernel_rfl) rfl args w
theorem enq_Text (args : Array Value) (w : World) : (callFunc 29 args).run Try.prog w = .ok (.enter 29 args) w := enter_of Try.func29 (by kernel_rfl) rfl args w
theorem enq_Parse (args : Array Value) (w : World) : (callFunc 78 args).run Try.prog w = .ok (.enter 78 args) w := enter_of Try.func78 (by kernel_rfl) rfl args w
theorem enq_Valid (args : Array Value) (w : World) : (callFunc 46 args).run Try.prog w = .ok (.enter 46 args) w := enter_of Try.func46 (by kernel_rfl) rfl args w
theorem enq_R_Made (args : Array Value) (w : World) : (callFunc 28 args).run Try.prog w = .ok (.enter 28 args) w := enter_of Try.func28 (by kernel_rfl) rfl args w
theorem enq_R_Same (args : Array Value) (w : World) : (callFunc 31 args).run Try.prog w = .ok (.enter 31 args) w := enter_of Try.func31 (by kernel_rfl) rfl args w
theorem enq_R_Of (args : Array Value) (w : World) : (callFunc 35 args).run Try.prog w = .ok (.enter 35 args) w := enter_of Try.func35 (by kernel_rfl) rfl args w
theorem enq_R_Abs (args : Array Value) (w : World) : (callFunc 37 args).run Try.prog w = .ok (.enter 37 args) w := enter_of Try.func37 (by kernel_rfl) rfl args w
theorem enq_R_Sign (args : Array Value) (w : World) : (callFunc 38 args).run Try.prog w = .ok (.enter 38 args) w := enter_of Try.func38 (by kernel_rfl) rfl args w
theorem enq_R_Gcd (args : Array Value) (w : World) : (callFunc 45 args).run Try.prog w = .ok (.enter 45 args) w := enter_of Try.func45 (by kernel_rfl) rfl args w
theorem enq_R_Neg (args : Array Value) (w : World) : (callFunc 23 args).run Try.prog w = .ok (.enter 23 args) w := enter_of Try.func23 (by kernel_rfl) rfl args w
theorem enq_R_Div (args : Array Value) (w : World) : (callFunc 83 args).run Try.prog w = .ok (.enter 83 args) w := enter_of Try.func83 (by kernel_rfl) rfl args w
theorem enq_R_Mod (args : Array Value) (w : World) : (callFunc 74 args).run Try.prog w = .ok (.enter 74 args) w := enter_of Try.func74 (by kernel_rfl) rfl args w
theorem enq_R_Text (args : Array Value) (w : World) : (callFunc 52 args).run Try.prog w = .ok (.enter 52 args) w := enter_of Try.func52 (by kernel_rfl) rfl args w
theorem enq_R_Parse (args : Array Value) (w : World) : (callFunc 55 args).run Try.prog w = .ok (.enter 55 args) w := enter_of Try.func55 (by kernel_rfl) rfl args w
theorem enq_R_Valid (args : Array Value) (w : World) : (callFunc 44 args).run Try.prog w = .ok (.enter 44 args) w := enter_of Try.func44 (by kernel_rfl) rfl args w
theorem enq_Q_Valid (args : Array Value) (w : World) : (callFunc 21 args).run Try.prog w = .ok (.enter 21 args) w := enter_of Try.func21 (by kernel_rfl) rfl args w
theorem enq_Q_New (args : Array Value) (w : World) : (callFunc 34 args).run Try.prog w = .ok (.enter 34 args) w := enter_of Try.func34 (by kernel_rfl) rfl args w
theorem enq_Q_Add (args : Array Value) (w : World) : (callFunc 10 args).run Try.prog w = .ok (.enter 10 args) w := enter_of Try.func10 (by kernel_rfl) rfl args w
theorem enq_Q_Cmp (args : Array Value) (w : World) : (callFunc 16 args).run Try.prog w = .ok (.enter 16 args) w := enter_of Try.func16 (by kernel_rfl) rfl args w
theorem enq_Q_Sign (args : Array Value) (w : World) : (callFunc 15 args).run Try.prog w = .ok (.enter 15 args) w := enter_of Try.func15 (by kernel_rfl) rfl args w
theorem enq_Q_Floor (args : Array Value) (w : World) : (callFunc 18 args).run Try.prog w = .ok (.enter 18 args) w := enter_of Try.func18 (by kernel_rfl) rfl args w
theorem enq_Q_quotient (args : Array Value) (w : World) : (callFunc 41 args).run Try.prog w = .ok (.enter 41 args) w := enter_of Try.func41 (by kernel_rfl) rfl args w
theorem enq_Q_isOne (args : Array Value) (w : World) : (callFunc 47 args).run Try.prog w = .ok (.enter 47 args) w := enter_of Try.func47 (by kernel_rfl) rfl args w
theorem enq_Q_Text (args : Array Value) (w : World) : (callFunc 24 args).run Try.prog w = .ok (.enter 24 args) w := enter_of Try.func24 (by kernel_rfl) rfl args w
theorem enq_Q_Parse (args : Array Value) (w : World) : (callFunc 26 args).run Try.prog w = .ok (.enter 26 args) w := enter_of Try.func26 (by kernel_rfl) rfl args w
theorem enq_Q_read (args : Array Value) (w : World) : (callFunc 54 args).run Try.prog w = .ok (.enter 54 args) w := enter_of Try.func54 (by kernel_rfl) rfl args w
theorem enq_Q_Between (args : Array Value) (w : World) : (callFunc 36 args).run Try.prog w = .ok (.enter 36 args) w := enter_of Try.func36 (by kernel_rfl) rfl args w
theorem enq_Q_simplest (args : Array Value) (w : World) : (callFunc 66 args).run Try.prog w = .ok (.enter 66 args) w := enter_of Try.func66 (by kernel_rfl) rfl args w
theorem enq_S_Valid (args : Array Value) (w : World) : (callFunc 20 args).run Try.prog w = .ok (.enter 20 args) w := enter_of Try.func20 (by kernel_rfl) rfl args w
theorem enq_S_New (args : Array Value) (w : World) : (callFunc 68 args).run Try.prog w = .ok (.enter 68 args) w := enter_of Try.func68 (by kernel_rfl) rfl args w
theorem enq_S_over (args : Array Value) (w : World) : (callFunc 39 args).run Try.prog w = .ok (.enter 39 args) w := enter_of Try.func39 (by kernel_rfl) rfl args w
theorem enq_S_Of (args : Array Value) (w : World) : (callFunc 19 args).run Try.prog w = .ok (.enter 19 args) w := enter_of Try.func19 (by kernel_rfl) rfl args w
theorem enq_S_Same (args : Array Value) (w : World) : (callFunc 12 args).run Try.prog w = .ok (.enter 12 args) w := enter_of Try.func12 (by kernel_rfl) rfl args w
theorem enq_S_Text (args : Array Value) (w : World) : (callFunc 25 args).run Try.prog w = .ok (.enter 25 args) w := enter_of Try.func25 (by kernel_rfl) rfl args w
theorem enq_S_Parse (args : Array Value) (w : World) : (callFunc 27 args).run Try.prog w = .ok (.enter 27 args) w := enter_of Try.func27 (by kernel_rfl) rfl args w
theorem enq_S_Made (args : Array Value) (w : World) : (callFunc 9 args).run Try.prog w = .ok (.enter 9 args) w := enter_of Try.func9 (by kernel_rfl) rfl args w
theorem ab_gcdB {x y : Int} {j k m : Nat} (hx : ab x < pw j) (hy : ab y < pw k) (hj : j ≤ m) (hk : k ≤ m) : ab (Int.gcd x y : Int) < pw m := by
  have h1 := pw_le hj
  have h2 := pw_le hk
  by_cases h : x = 0
  · subst h
    rw [Int.zero_gcd]
    unfold ab at *
    omega
  · have h3 := Int.gcd_le_natAbs_left y h
    unfold ab at *
    omega

theorem cmpIq0 {x y : Int} : cmpI x y = 0 ↔ x = y := by
  unfold cmpI
  split
  · rename_i h
    constructor
    · intro h2; omega
    · intro h2; omega
  · split
    · rename_i h; exact ⟨fun _ => h, fun _ => rfl⟩
    · rename_i h; exact ⟨fun h2 => by omega, fun h2 => absurd h2 h⟩
theorem cmpIqlt {x y : Int} : cmpI x y < 0 ↔ x < y := by
  unfold cmpI
  split
  · rename_i h; exact ⟨fun _ => h, fun _ => by decide⟩
  · rename_i h
    split
    · exact ⟨fun h2 => by omega, fun h2 => absurd h2 h⟩
    · exact ⟨fun h2 => by omega, fun h2 => absurd h2 h⟩
theorem cmpIqgt {x y : Int} : 0 < cmpI x y ↔ y < x := by
  unfold cmpI
  split
  · rename_i h; exact ⟨fun h2 => by omega, fun h2 => by omega⟩
  · split
    · rename_i h; exact ⟨fun h2 => by omega, fun h2 => by omega⟩
    · rename_i h1 h; exact ⟨fun _ => by omega, fun _ => by decide⟩

theorem ab_lit {c : Int} (h : ab c < 4294967296 * 4294967296 * 4294967296) : ab c < pw 3 := h

theorem exDMq {w : World} {v v' : Value} {a b : Int} (h : Num w v a) (h' : Num w v' b) (hb : b ≠ 0) {j k : Nat} (hq : ab (a / b) < pw j) (hr : ab (a % b) < pw k) (hj : j ≤ 900000) (hk : k ≤ 900000) :
    Calls Try.prog 73 #[v, v'] w fun e w' => ∃ v', e = .returned v' ∧ Below w.heap.size w w' ∧ (Fq.tup3 (Fq.num (a / b)) (Fq.num (a % b)) (Fq.is (.int .i64 0))).P v' w' :=
  (exDT h h' hb hq hr hj hk).mono fun _ _ ⟨v', e, hb', v1, v2, e2, h1, h2⟩ => ⟨v', e, hb', v1, v2, _, e2, h1, h2, rfl⟩

theorem OfK (w : World) (z : Int) (h0 : -9223372036854775808 ≤ z) (h1 : z ≤ 9223372036854775807) : Calls Try.prog 67 #[.int .i64 z] w fun e w' => ∃ v', e = .returned v' ∧ Below w.heap.size w w' ∧ Num w' v' z := OfV w z h0 h1
theorem rOfK (w : World) (z : Int) (h0 : -9223372036854775808 ≤ z) (h1 : z ≤ 9223372036854775807) : Calls Try.prog 35 #[.int .i64 z] w fun e w' => ∃ v', e = .returned v' ∧ Below w.heap.size w w' ∧ Num w' v' z := rOfV w z h0 h1

end Go.Proofs.Ytlehjhlihahjhaa

/- Walks: package rational. -/
namespace Go.Proofs.Ytlehjhlihahjhaa
open Go Go.RowKit

set_option maxRecDepth 100000 in
set_option maxHeartbeats 4000000 in
theorem exQuot {w : World} {v v' : Value} {a b : Int} (h : Num w v a) (h' : Num w v' b) (hb : b ≠ 0) {j k : Nat} (ha : ab a < pw j) (hbb : ab b < pw k) (hj : j ≤ 800000) (hk : k ≤ 800000) :
    Calls Try.prog 41 #[v, v'] w fun e w' => ∃ v', e = .returned v' ∧ Below w.heap.size w w' ∧ Num w' v' (a / b) := by
  obtain ⟨n0, ao0, k0, c0, rfl⟩ := h.parts
  obtain ⟨n1, ao1, k1, c1, rfl⟩ := h'.parts
  obtain ⟨w1, b1, hw1, hb1, hs1, E⟩ := fr_start w (F := Fq.num a) (us := [.bool n0, .slice ao0 k0 c0]) 29 rfl (by simp) (tame_int _ _ _ _) h
  obtain ⟨w2, b2, hw2, hb2, hs2, E⟩ := fr_more E hs1 (F := Fq.num b) (us := [.bool n1, .slice ao1 k1 c1]) 29 rfl (by simp) (tame_int _ _ _ _) (h'.mono E.below)
  obtain ⟨w3, b3, hw3, hb3, hs3, E⟩ := fr_more E hs2 (F := Fq.num 0) (us := [.bool false, .slice none 0 0]) 29 rfl (by simp) (tame_int _ _ _ _) (Num.zero _)
  go_enter Try.func41, Try.ntmps41
  go_upto_region 1 with (fail)
  rw [← hw1]
  rw [← hw2]
  rw [← hw3]
  rw [← hb3]
  rw [← hb2]
  rw [← hb1]
  clear hw1 hw2 hw3 hb1 hb2 hb3 hs3 hs1 hs2
  refine region_fr (C := [Fq.num a, Fq.num b, Fq.tup3 (Fq.num (a / b)) (Fq.num (a % b)) (Fq.is (.int .i64 0)), Fq.tup3 (Fq.num (a / b)) (Fq.num (a % b)) (Fq.is (.int .i64 0)), Fq.num (a / b), Fq.num (a % b), Fq.is (.int .i64 0), Fq.any, Fq.any, Fq.any, Fq.any, Fq.is (.int .i64 0)]) (ks := [none, none, none]) (new := [⟨7, 9, 2, Fq.num 0, Fq.num (a / b), none⟩, ⟨8, 10, 2, Fq.num 0, Fq.num (a % b), none⟩]) E rfl (by kernel_rfl) rfl rfl (fun hp => ⟨?_, ?_, ?_, ?_, ?_, ?_, ?_, ?_, ?_, ?_, ?_, ?_, trivial⟩) ?_
  · exact q_loadInt (off := 0) hp (free_of rfl) trivial (List.mem_iff_getElem?.2 ⟨2, rfl⟩) (.inl rfl) (Nat.le_of_ble_eq_true rfl) (sq_out rfl rfl (fun _ _ => rfl)) (fun us w hl h => ld_num hl h)
  · exact q_loadInt (off := 0) hp (free_of rfl) trivial (List.mem_iff_getElem?.2 ⟨1, rfl⟩) (.inl rfl) (Nat.le_of_ble_eq_true rfl) (sq_out rfl rfl (fun _ _ => rfl)) (fun us w hl h => ld_num hl h)
  · exact q_call2 (F := (Fq.num a).P) (G := (Fq.num b).P) hp (free_of rfl) trivial (enq_DivMod) (sq_in 0 rfl rfl (by simp) rfl (fun v w h => h)) (sq_in 1 rfl rfl (by simp) rfl (fun v w h => h)) (fun v v' w h h' => exDMq (j := j + 1) (k := k) h h' hb (ab_divB ha (by omega)) (ab_modB hb hbb) (by omega) (by omega))
  · exact q_move hp (free_of rfl) trivial (sq_in 2 rfl rfl (by simp) rfl (fun v w h => h))
  · exact q_extract3 hp (free_of rfl) trivial (sq_in 3 rfl rfl (by simp) rfl (fun v w h => h)) (fun v1 v2 v3 w h1 h2 h3 => ⟨_, rfl, h1⟩)
  · exact q_extract3 hp (free_of rfl) trivial (sq_in 3 rfl rfl (by simp) rfl (fun v w h => h)) (fun v1 v2 v3 w h1 h2 h3 => ⟨_, rfl, h2⟩)
  · exact q_extract3 hp (free_of rfl) trivial (sq_in 3 rfl rfl (by simp) rfl (fun v w h => h)) (fun v1 v2 v3 w h1 h2 h3 => ⟨_, rfl, h3⟩)
  · exact q_allocInt hp (List.mem_iff_getElem?.2 ⟨0, rfl⟩) rfl rfl rfl rfl (Nat.ne_of_beq_eq_false rfl) (fun _ _ => trivial) (old_ne rfl) (newk_ne rfl) (fun w => Num.zero w)
  · exact q_allocInt hp (List.mem_iff_getElem?.2 ⟨1, rfl⟩) rfl rfl rfl rfl (Nat.ne_of_beq_eq_false rfl) (fun _ _ => trivial) (old_ne rfl) (newk_ne rfl) (fun w => Num.zero w)
  · exact q_storeNewInt hp (List.mem_iff_getElem?.2 ⟨0, rfl⟩) rfl rfl rfl (own_ptr rfl rfl (by simp) rfl) (sq_in 4 rfl rfl (by simp) rfl (fun v w h => intV_num h)) (fun _ _ => trivial) (old_ne rfl) (newi_ne rfl)
  · exact q_storeNewInt hp (List.mem_iff_getElem?.2 ⟨1, rfl⟩) rfl rfl rfl (own_ptr rfl rfl (by simp) rfl) (sq_in 5 rfl rfl (by simp) rfl (fun v w h => intV_num h)) (fun _ _ => trivial) (old_ne rfl) (newi_ne rfl)
  · exact q_assign hp (free_of rfl) trivial (sq_in 6 rfl rfl (by simp) rfl (fun v w h => h))
  intro L vs w4 nb hL hC hn E4
  have e6 : vs 6 = .int .i64 0 := hC 6 (by simp)
  have e11 : vs 11 = .int .i64 0 := hC 11 (by simp)
  have e7 : vs 7 = .pointer (some ⟨nb 7, 0, none⟩) := hn _ (List.mem_iff_getElem?.2 ⟨0, rfl⟩)
  have e8 : vs 8 = .pointer (some ⟨nb 8, 0, none⟩) := hn _ (List.mem_iff_getElem?.2 ⟨1, rfl⟩)
  have E : Fr w [(nb 7, 2, Fq.num (a / b)), (nb 8, 2, Fq.num (a % b)), (b3, 2, Fq.num 0), (b2, 2, Fq.num b), (b1, 2, Fq.num a)] w4 := E4
  rw [lay_all hL]
  simp only [putAll, dstOf, List.length_cons, List.length_nil, Nat.zero_add, Nat.reduceAdd, List.getElem?_toArray, List.getElem?_cons_zero, List.getElem?_cons_succ, Option.bind_some, Act.put, List.setIfInBounds_toArray, List.set_cons_succ, List.set_cons_zero]
  rw [e6, e11, e7, e8]
  generalize nb 7 = b4_7 at E ⊢
  generalize nb 8 = b4_8 at E ⊢
  generalize vs 0 = u4_0
  generalize vs 1 = u4_1
  generalize vs 2 = u4_2
  generalize vs 3 = u4_3
  generalize vs 4 = u4_4
  generalize vs 5 = u4_5
  clear e6 e11 e7 e8 hC hn E4 hL vs L nb
  go_upto_region 2 with (fail)
  refine region_fr (C := [Fq.num (a / b), Fq.any]) (ks := [none, none, some (1, Fq.num (a / b)), none, none]) (new := []) E rfl (by kernel_rfl) rfl rfl (fun hp => ⟨?_, ?_, trivial⟩) ?_
  · exact q_loadInt (off := 0) hp (free_of rfl) trivial (List.mem_iff_getElem?.2 ⟨0, rfl⟩) (.inl rfl) (Nat.le_of_ble_eq_true rfl) (sq_out rfl rfl (fun _ _ => rfl)) (fun us w hl h => ld_num hl h)
  · exact q_storeOldInt hp (List.mem_iff_getElem?.2 ⟨2, rfl⟩) rfl rfl (sq_out rfl rfl (fun _ _ => rfl)) (sq_in 0 rfl rfl (by simp) rfl (fun v w h => intV_num h)) (fun _ _ => trivial) (newik_ne rfl)
  intro L vs w5 nb hL hC hn E5
  have E : Fr w [(b4_7, 2, Fq.num (a / b)), (b4_8, 2, Fq.num (a % b)), (b3, 2, Fq.num (a / b)), (b2, 2, Fq.num b), (b1, 2, Fq.num a)] w5 := E5
  rw [lay_all hL]
  simp only [putAll, dstOf, List.length_cons, List.length_nil, Nat.zero_add, Nat.reduceAdd, List.getElem?_toArray, List.getElem?_cons_zero, List.getElem?_cons_succ, Option.bind_some, Act.put, List.setIfInBounds_toArray, List.set_cons_succ, List.set_cons_zero]
  generalize vs 0 = u5_0
  clear  hC hn E5 hL vs L nb
  obtain ⟨p0, p1, c0, c1, hP⟩ := box_num (E.box 2 rfl)
  go_wp2
  refine bodyPost_ret (v := .agg #[p0, p1]) ?_ rfl ⟨_, rfl, E.below, hP⟩
  simp [results, Try.results41, go_sem, c0, c1]

set_option maxRecDepth 100000 in
set_option maxHeartbeats 4000000 in
theorem exIsOne {w : World} {v : Value} {z : Int} (h : Num w v z) :
    Calls Try.prog 47 #[v] w fun e w' => ∃ v', e = .returned v' ∧ Below w.heap.size w w' ∧ v' = .bool (decide (z = 1)) := by
  obtain ⟨n0, ao0, k0, c0, rfl⟩ := h.parts
  obtain ⟨w1, b1, hw1, hb1, hs1, E⟩ := fr_start w (F := Fq.num z) (us := [.bool n0, .slice ao0 k0 c0]) 29 rfl (by simp) (tame_int _ _ _ _) h
  go_enter Try.func47, Try.ntmps47
  go_upto_region 1 with (fail)
  rw [← hw1]
  rw [← hb1]
  clear hw1 hb1 hs1
  by_cases hc : z = 1
  · have T : Hid (cmpI z 1 = 0) := cmpIq0.2 hc
    refine region_fr (C := [Fq.num z, Fq.num 1, Fq.is (.int .i64 (cmpI z 1)), Fq.is (.bool true), Fq.is (.bool true)]) (ks := [none]) (new := []) E rfl (by kernel_rfl) rfl rfl (fun hp => ⟨?_, ?_, ?_, ?_, ?_, trivial⟩) ?_
    · exact q_loadInt (off := 0) hp (free_of rfl) trivial (List.mem_iff_getElem?.2 ⟨0, rfl⟩) (.inl rfl) (Nat.le_of_ble_eq_true rfl) (sq_out rfl rfl (fun _ _ => rfl)) (fun us w hl h => ld_num hl h)
    · exact q_call1 (F := (Fq.is (.int .i64 1)).P) hp (free_of rfl) trivial (enq_Of) (sq_const (fun _ => rfl)) (fun v w h => (by subst h; exact OfK w (1) (by omega) (by omega)))
    · exact q_call2 (F := (Fq.num z).P) (G := (Fq.num 1).P) hp (free_of rfl) trivial (enq_Cmp) (sq_in 0 rfl rfl (by simp) rfl (fun v w h => h)) (sq_in 1 rfl rfl (by simp) rfl (fun v w h => h)) (fun v v' w h h' => exCmp h h')
    · exact q_one (F := fun v _ => v = .int .i64 (cmpI z 1)) hp (free_of rfl) trivial (sq_in 2 rfl rfl (by simp) rfl (fun v w h => h)) (fun ρ w hc h => ⟨.bool true, by simp [execOp, go_sem, h, hc, T.out], rfl⟩)
    · exact q_assign hp (free_of rfl) trivial (sq_in 3 rfl rfl (by simp) rfl (fun v w h => h))
    intro L vs w2 nb hL hC hn E2
    have e2 : vs 2 = .int .i64 (cmpI z 1) := hC 2 (by simp)
    have e3 : vs 3 = .bool true := hC 3 (by simp)
    have e4 : vs 4 = .bool true := hC 4 (by simp)
    have E : Fr w [(b1, 2, Fq.num z)] w2 := E2
    rw [lay_all hL]
    simp only [putAll, dstOf, List.length_cons, List.length_nil, Nat.zero_add, Nat.reduceAdd, List.getElem?_toArray, List.getElem?_cons_zero, List.getElem?_cons_succ, Option.bind_some, Act.put, List.setIfInBounds_toArray, List.set_cons_succ, List.set_cons_zero]
    rw [e2, e3, e4]
    generalize vs 0 = u2_0
    generalize vs 1 = u2_1
    clear e2 e3 e4 hC hn E2 hL vs L nb
    go_wp2
    refine bodyPost_ret (v := .bool true) ?_ rfl ⟨_, rfl, E.below, by rw [decide_eq_true hc]⟩
    simp [results, Try.results47, go_sem]
  · have T : Hid (¬ cmpI z 1 = 0) := fun e => hc (cmpIq0.1 e)
    refine region_fr (C := [Fq.num z, Fq.num 1, Fq.is (.int .i64 (cmpI z 1)), Fq.is (.bool false), Fq.is (.bool false)]) (ks := [none]) (new := []) E rfl (by kernel_rfl) rfl rfl (fun hp => ⟨?_, ?_, ?_, ?_, ?_, trivial⟩) ?_
    · exact q_loadInt (off := 0) hp (free_of rfl) trivial (List.mem_iff_getElem?.2 ⟨0, rfl⟩) (.inl rfl) (Nat.le_of_ble_eq_true rfl) (sq_out rfl rfl (fun _ _ => rfl)) (fun us w hl h => ld_num hl h)
    · exact q_call1 (F := (Fq.is (.int .i64 1)).P) hp (free_of rfl) trivial (enq_Of) (sq_const (fun _ => rfl)) (fun v w h => (by subst h; exact OfK w (1) (by omega) (by omega)))
    · exact q_call2 (F := (Fq.num z).P) (G := (Fq.num 1).P) hp (free_of rfl) trivial (enq_Cmp) (sq_in 0 rfl rfl (by simp) rfl (fun v w h => h)) (sq_in 1 rfl rfl (by simp) rfl (fun v w h => h)) (fun v v' w h h' => exCmp h h')
    · exact q_one (F := fun v _ => v = .int .i64 (cmpI z 1)) hp (free_of rfl) trivial (sq_in 2 rfl rfl (by simp) rfl (fun v w h => h)) (fun ρ w hc h => ⟨.bool false, by simp [execOp, go_sem, h, hc, T.out], rfl⟩)
    · exact q_assign hp (free_of rfl) trivial (sq_in 3 rfl rfl (by simp) rfl (fun v w h => h))
    intro L vs w3 nb hL hC hn E3
    have e2 : vs 2 = .int .i64 (cmpI z 1) := hC 2 (by simp)
    have e3 : vs 3 = .bool false := hC 3 (by simp)
    have e4 : vs 4 = .bool false := hC 4 (by simp)
    have E : Fr w [(b1, 2, Fq.num z)] w3 := E3
    rw [lay_all hL]
    simp only [putAll, dstOf, List.length_cons, List.length_nil, Nat.zero_add, Nat.reduceAdd, List.getElem?_toArray, List.getElem?_cons_zero, List.getElem?_cons_succ, Option.bind_some, Act.put, List.setIfInBounds_toArray, List.set_cons_succ, List.set_cons_zero]
    rw [e2, e3, e4]
    generalize vs 0 = u3_0
    generalize vs 1 = u3_1
    clear e2 e3 e4 hC hn E3 hL vs L nb
    go_wp2
    refine bodyPost_ret (v := .bool false) ?_ rfl ⟨_, rfl, E.below, by rw [decide_eq_false hc]⟩
    simp [results, Try.results47, go_sem]

set_option maxRecDepth 100000 in
set_option maxHeartbeats 4000000 in
theorem exNew {w : World} {v v' : Value} {n d : Int} (h : Num w v n) (h' : Num w v' d) (hn : ab n < pw 1000) (hd : ab d < pw 1000) :
    Calls Try.prog 34 #[v, v'] w fun e w' => ∃ v', e = .returned v' ∧ Below w.heap.size w w' ∧ (if d = 0 then Fq.tup2 (Fq.pair 0 0) (Fq.is (.int .i64 4)) else Fq.tup2 (Fq.pair (Rat.divInt n d).num ((Rat.divInt n d).den : Int)) (Fq.is (.int .i64 0))).P v' w' := by
  replace hn := hidd hn
  replace hd := hidd hd
  obtain ⟨n0, ao0, k0, c0, rfl⟩ := h.parts
  obtain ⟨n1, ao1, k1, c1, rfl⟩ := h'.parts
  obtain ⟨w1, b1, hw1, hb1, hs1, E⟩ := fr_start w (F := Fq.num n) (us := [.bool n0, .slice ao0 k0 c0]) 29 rfl (by simp) (tame_int _ _ _ _) h
  obtain ⟨w2, b2, hw2, hb2, hs2, E⟩ := fr_more E hs1 (F := Fq.num d) (us := [.bool n1, .slice ao1 k1 c1]) 29 rfl (by simp) (tame_int _ _ _ _) (h'.mono E.below)
  obtain ⟨w3, b3, hw3, hb3, hs3, E⟩ := fr_more E hs2 (F := Fq.pair 0 0) (us := [.bool false, .slice none 0 0, .bool false, .slice none 0 0]) 31 rfl (by simp) (tame_rat _ _ _ _ _ _ _ _) (Pair.zero _)
  go_enter Try.func34, Try.ntmps34
  go_upto_region 1 with (fail)
  rw [← hw1]
  rw [← hw2]
  rw [← hw3]
  rw [← hb3]
  rw [← hb2]
  rw [← hb1]
  clear hw1 hw2 hw3 hb1 hb2 hb3 hs3 hs1 hs2
  by_cases h0 : d = 0
  · subst h0
    refine region_fr (C := [Fq.num 0, Fq.is (.int .i64 (cmpI 0 0)), Fq.is (.bool true)]) (ks := [none, none, none]) (new := []) E rfl (by kernel_rfl) rfl rfl (fun hp => ⟨?_, ?_, ?_, trivial⟩) ?_
    · exact q_loadInt (off := 0) hp (free_of rfl) trivial (List.mem_iff_getElem?.2 ⟨1, rfl⟩) (.inl rfl) (Nat.le_of_ble_eq_true rfl) (sq_out rfl rfl (fun _ _ => rfl)) (fun us w hl h => ld_num hl h)
    · exact q_call1 (F := (Fq.num 0).P) hp (free_of rfl) trivial (enq_Sign) (sq_in 0 rfl rfl (by simp) rfl (fun v w h => h)) (fun v w h => exSign h)
    · exact q_one (F := fun v _ => v = .int .i64 (cmpI 0 0)) hp (free_of rfl) trivial (sq_in 1 rfl rfl (by simp) rfl (fun v w h => h)) (fun ρ w hc h => ⟨.bool true, by simp [execOp, go_sem, h, hc, cmpI], rfl⟩)
    intro L vs w4 nb hL hC hn E4
    have e1 : vs 1 = .int .i64 (cmpI 0 0) := hC 1 (by simp)
    have e2 : vs 2 = .bool true := hC 2 (by simp)
    have E : Fr w [(b3, 4, Fq.pair 0 0), (b2, 2, Fq.num 0), (b1, 2, Fq.num n)] w4 := E4
    rw [lay_all hL]
    simp only [putAll, dstOf, List.length_cons, List.length_nil, Nat.zero_add, Nat.reduceAdd, List.getElem?_toArray, List.getElem?_cons_zero, List.getElem?_cons_succ, Option.bind_some, Act.put, List.setIfInBounds_toArray, List.set_cons_succ, List.set_cons_zero]
    rw [e1, e2]
    generalize vs 0 = u4_0
    clear e1 e2 hC hn E4 hL vs L nb
    go_upto_region 2 with (fail)
    refine region_fr (C := [Fq.pair 0 0, Fq.any, Fq.is (.int .i64 4)]) (ks := [some (1, Fq.pair 0 0), none, none]) (new := []) E rfl (by kernel_rfl) rfl rfl (fun hp => ⟨?_, ?_, ?_, trivial⟩) ?_
    · exact q_zeroRat hp (free_of rfl) trivial (fun v w h => h)
    · exact q_storeOldRat hp (List.mem_iff_getElem?.2 ⟨0, rfl⟩) rfl rfl (sq_out rfl rfl (fun _ _ => rfl)) (sq_in 0 rfl rfl (by simp) rfl (fun v w h => ratV_pair h)) (fun _ _ => trivial) (newik_ne rfl)
    · exact q_assign hp (free_of rfl) trivial (sq_const (fun _ => rfl))
    intro L vs w5 nb hL hC hn E5
    have e2 : vs 2 = .int .i64 4 := hC 2 (by simp)
    have E : Fr w [(b3, 4, Fq.pair 0 0), (b2, 2, Fq.num 0), (b1, 2, Fq.num n)] w5 := E5
    rw [lay_all hL]
    simp only [putAll, dstOf, List.length_cons, List.length_nil, Nat.zero_add, Nat.reduceAdd, List.getElem?_toArray, List.getElem?_cons_zero, List.getElem?_cons_succ, Option.bind_some, Act.put, List.setIfInBounds_toArray, List.set_cons_succ, List.set_cons_zero]
    rw [e2]
    generalize vs 0 = u5_0
    clear e2 hC hn E5 hL vs L nb
    obtain ⟨p0, p1, p2, p3, c0, c1, c2, c3, hP⟩ := box_pair (E.box 0 rfl)
    clear hn hd
    go_wp2
    refine bodyPost_ret (v := .tuple #[.agg #[p0, p1, p2, p3], .int .i64 4]) ?_ rfl ⟨_, rfl, E.below, by first | exact ⟨_, _, rfl, hP, rfl⟩ | (rw [if_pos rfl]; exact ⟨_, _, rfl, hP, rfl⟩)⟩
    simp [results, Try.results34, go_sem, c0, c1, c2, c3]
  · have T1 : Hid (¬ cmpI d 0 = 0) := fun e => h0 (cmpIq0.1 e)
    have hgp : (0 : Int) < (Int.gcd n d : Int) := by have := Int.gcd_pos_of_ne_zero_right n h0; omega
    refine region_fr (C := [Fq.num d, Fq.is (.int .i64 (cmpI d 0)), Fq.is (.bool false)]) (ks := [none, none, none]) (new := []) E rfl (by kernel_rfl) rfl rfl (fun hp => ⟨?_, ?_, ?_, trivial⟩) ?_
    · exact q_loadInt (off := 0) hp (free_of rfl) trivial (List.mem_iff_getElem?.2 ⟨1, rfl⟩) (.inl rfl) (Nat.le_of_ble_eq_true rfl) (sq_out rfl rfl (fun _ _ => rfl)) (fun us w hl h => ld_num hl h)
    · exact q_call1 (F := (Fq.num d).P) hp (free_of rfl) trivial (enq_Sign) (sq_in 0 rfl rfl (by simp) rfl (fun v w h => h)) (fun v w h => exSign h)
    · exact q_one (F := fun v _ => v = .int .i64 (cmpI d 0)) hp (free_of rfl) trivial (sq_in 1 rfl rfl (by simp) rfl (fun v w h => h)) (fun ρ w hc h => ⟨.bool false, by simp [execOp, go_sem, h, hc, T1.out], rfl⟩)
    intro L vs w6 nb hL hC hn E6
    have e1 : vs 1 = .int .i64 (cmpI d 0) := hC 1 (by simp)
    have e2 : vs 2 = .bool false := hC 2 (by simp)
    have E : Fr w [(b3, 4, Fq.pair 0 0), (b2, 2, Fq.num d), (b1, 2, Fq.num n)] w6 := E6
    rw [lay_all hL]
    simp only [putAll, dstOf, List.length_cons, List.length_nil, Nat.zero_add, Nat.reduceAdd, List.getElem?_toArray, List.getElem?_cons_zero, List.getElem?_cons_succ, Option.bind_some, Act.put, List.setIfInBounds_toArray, List.set_cons_succ, List.set_cons_zero]
    rw [e1, e2]
    generalize vs 0 = u6_0
    clear e1 e2 hC hn E6 hL vs L nb
    go_upto_region 3 with (fail)
    have B7 : Hid (ab ((Int.gcd n d : Int)) < pw 1000) := ab_gcdB hn.out hd.out (by omega) (by omega)
    refine region_fr (C := [Fq.num n, Fq.num d, Fq.num (Int.gcd n d : Int), Fq.any, Fq.any]) (ks := [none, none, none]) (new := [⟨3, 4, 2, Fq.num 0, Fq.num (Int.gcd n d : Int), none⟩]) E rfl (by kernel_rfl) rfl rfl (fun hp => ⟨?_, ?_, ?_, ?_, ?_, trivial⟩) ?_
    · exact q_loadInt (off := 0) hp (free_of rfl) trivial (List.mem_iff_getElem?.2 ⟨2, rfl⟩) (.inl rfl) (Nat.le_of_ble_eq_true rfl) (sq_out rfl rfl (fun _ _ => rfl)) (fun us w hl h => ld_num hl h)
    · exact q_loadInt (off := 0) hp (free_of rfl) trivial (List.mem_iff_getElem?.2 ⟨1, rfl⟩) (.inl rfl) (Nat.le_of_ble_eq_true rfl) (sq_out rfl rfl (fun _ _ => rfl)) (fun us w hl h => ld_num hl h)
    · exact q_call2 (F := (Fq.num n).P) (G := (Fq.num d).P) hp (free_of rfl) trivial (enq_Gcd) (sq_in 0 rfl rfl (by simp) rfl (fun v w h => h)) (sq_in 1 rfl rfl (by simp) rfl (fun v w h => h)) (fun v v' w h h' => exK (GcdV h h') B7.out (by omega))
    · exact q_allocInt hp (List.mem_iff_getElem?.2 ⟨0, rfl⟩) rfl rfl rfl rfl (Nat.ne_of_beq_eq_false rfl) (fun _ _ => trivial) (old_ne rfl) (newk_ne rfl) (fun w => Num.zero w)
    · exact q_storeNewInt hp (List.mem_iff_getElem?.2 ⟨0, rfl⟩) rfl rfl rfl (own_ptr rfl rfl (by simp) rfl) (sq_in 2 rfl rfl (by simp) rfl (fun v w h => intV_num h)) (fun _ _ => trivial) (old_ne rfl) (newi_ne rfl)
    intro L vs w8 nb hL hC hn E8
    have e3 : vs 3 = .pointer (some ⟨nb 3, 0, none⟩) := hn _ (List.mem_iff_getElem?.2 ⟨0, rfl⟩)
    have E : Fr w [(nb 3, 2, Fq.num (Int.gcd n d : Int)), (b3, 4, Fq.pair 0 0), (b2, 2, Fq.num d), (b1, 2, Fq.num n)] w8 := E8
    rw [lay_all hL]
    simp only [putAll, dstOf, List.length_cons, List.length_nil, Nat.zero_add, Nat.reduceAdd, List.getElem?_toArray, List.getElem?_cons_zero, List.getElem?_cons_succ, Option.bind_some, Act.put, List.setIfInBounds_toArray, List.set_cons_succ, List.set_cons_zero]
    rw [e3]
    generalize nb 3 = b8_3 at E ⊢
    generalize vs 0 = u8_0
    generalize vs 1 = u8_1
    generalize vs 2 = u8_2
    clear e3 hC hn E8 hL vs L nb
    by_cases hs : d < 0
    · have HS := hidd hs
      have T2 : Hid (cmpI d 0 < 0) := cmpIqlt.2 hs
      go_upto_region 4 with (fail)
      refine region_fr (C := [Fq.num d, Fq.is (.int .i64 (cmpI d 0)), Fq.is (.bool true)]) (ks := [none, none, none, none]) (new := []) E rfl (by kernel_rfl) rfl rfl (fun hp => ⟨?_, ?_, ?_, trivial⟩) ?_
      · exact q_loadInt (off := 0) hp (free_of rfl) trivial (List.mem_iff_getElem?.2 ⟨2, rfl⟩) (.inl rfl) (Nat.le_of_ble_eq_true rfl) (sq_out rfl rfl (fun _ _ => rfl)) (fun us w hl h => ld_num hl h)
      · exact q_call1 (F := (Fq.num d).P) hp (free_of rfl) trivial (enq_Sign) (sq_in 0 rfl rfl (by simp) rfl (fun v w h => h)) (fun v w h => exSign h)
      · exact q_one (F := fun v _ => v = .int .i64 (cmpI d 0)) hp (free_of rfl) trivial (sq_in 1 rfl rfl (by simp) rfl (fun v w h => h)) (fun ρ w hc h => ⟨.bool true, by simp [execOp, go_sem, h, hc, T2.out], rfl⟩)
      intro L vs w9 nb hL hC hn E9
      have e1 : vs 1 = .int .i64 (cmpI d 0) := hC 1 (by simp)
      have e2 : vs 2 = .bool true := hC 2 (by simp)
      have E : Fr w [(b8_3, 2, Fq.num (Int.gcd n d : Int)), (b3, 4, Fq.pair 0 0), (b2, 2, Fq.num d), (b1, 2, Fq.num n)] w9 := E9
      rw [lay_all hL]
      simp only [putAll, dstOf, List.length_cons, List.length_nil, Nat.zero_add, Nat.reduceAdd, List.getElem?_toArray, List.getElem?_cons_zero, List.getElem?_cons_succ, Option.bind_some, Act.put, List.setIfInBounds_toArray, List.set_cons_succ, List.set_cons_zero]
      rw [e1, e2]
      generalize vs 0 = u9_0
      clear e1 e2 hC hn E9 hL vs L nb
      go_upto_region 5 with (fail)
      have B10 : Hid (ab ((-(Int.gcd n d : Int))) < pw 1000) := ab_negB B7.out
      refine region_fr (C := [Fq.num (Int.gcd n d : Int), Fq.num (-(Int.gcd n d : Int)), Fq.any]) (ks := [some (2, Fq.num (-(Int.gcd n d : Int))), none, none, none]) (new := []) E rfl (by kernel_rfl) rfl rfl (fun hp => ⟨?_, ?_, ?_, trivial⟩) ?_
      · exact q_loadInt (off := 0) hp (free_of rfl) trivial (List.mem_iff_getElem?.2 ⟨0, rfl⟩) (.inr rfl) (Nat.le_of_ble_eq_true rfl) (sq_out rfl rfl (fun _ _ => rfl)) (fun us w hl h => ld_num hl h)
      · exact q_call1 (F := (Fq.num (Int.gcd n d : Int)).P) hp (free_of rfl) trivial (enq_Neg) (sq_in 0 rfl rfl (by simp) rfl (fun v w h => h)) (fun v w h => exK (NegV h) B10.out (by omega))
      · exact q_storeOldInt hp (List.mem_iff_getElem?.2 ⟨0, rfl⟩) rfl rfl (sq_out rfl rfl (fun _ _ => rfl)) (sq_in 1 rfl rfl (by simp) rfl (fun v w h => intV_num h)) (fun _ _ => trivial) (newik_ne rfl)
      intro L vs w11 nb hL hC hn E11
      have E : Fr w [(b8_3, 2, Fq.num (-(Int.gcd n d : Int))), (b3, 4, Fq.pair 0 0), (b2, 2, Fq.num d), (b1, 2, Fq.num n)] w11 := E11
      rw [lay_all hL]
      simp only [putAll, dstOf, List.length_cons, List.length_nil, Nat.zero_add, Nat.reduceAdd, List.getElem?_toArray, List.getElem?_cons_zero, List.getElem?_cons_succ, Option.bind_some, Act.put, List.setIfInBounds_toArray, List.set_cons_succ, List.set_cons_zero]
      generalize vs 0 = u11_0
      generalize vs 1 = u11_1
      clear  hC hn E11 hL vs L nb
      go_upto_region 6 with (fail)
      have B12 : Hid (ab ((n / (-(Int.gcd n d : Int)))) < pw 1001) := ab_divB hn.out (by omega)
      have B13 : Hid (ab ((d / (-(Int.gcd n d : Int)))) < pw 1001) := ab_divB hd.out (by omega)
      refine region_fr (C := [Fq.num n, Fq.num (-(Int.gcd n d : Int)), Fq.num (n / (-(Int.gcd n d : Int))), Fq.num d, Fq.num (-(Int.gcd n d : Int)), Fq.num (d / (-(Int.gcd n d : Int))), Fq.pair (n / (-(Int.gcd n d : Int))) (d / (-(Int.gcd n d : Int))), Fq.any, Fq.is (.int .i64 0)]) (ks := [none, some (7, Fq.pair (n / (-(Int.gcd n d : Int))) (d / (-(Int.gcd n d : Int)))), none, none]) (new := []) E rfl (by kernel_rfl) rfl rfl (fun hp => ⟨?_, ?_, ?_, ?_, ?_, ?_, ?_, ?_, ?_, trivial⟩) ?_
      · exact q_loadInt (off := 0) hp (free_of rfl) trivial (List.mem_iff_getElem?.2 ⟨3, rfl⟩) (.inl rfl) (Nat.le_of_ble_eq_true rfl) (sq_out rfl rfl (fun _ _ => rfl)) (fun us w hl h => ld_num hl h)
      · exact q_loadInt (off := 0) hp (free_of rfl) trivial (List.mem_iff_getElem?.2 ⟨0, rfl⟩) (.inl rfl) (Nat.le_of_ble_eq_true rfl) (sq_out rfl rfl (fun _ _ => rfl)) (fun us w hl h => ld_num hl h)
      · exact q_call2 (F := (Fq.num n).P) (G := (Fq.num (-(Int.gcd n d : Int))).P) hp (free_of rfl) trivial (enq_Q_quotient) (sq_in 0 rfl rfl (by simp) rfl (fun v w h => h)) (sq_in 1 rfl rfl (by simp) rfl (fun v w h => h)) (fun v v' w h h' => exQuot h h' (by omega) hn.out B10.out (by omega) (by omega))
      · exact q_loadInt (off := 0) hp (free_of rfl) trivial (List.mem_iff_getElem?.2 ⟨2, rfl⟩) (.inl rfl) (Nat.le_of_ble_eq_true rfl) (sq_out rfl rfl (fun _ _ => rfl)) (fun us w hl h => ld_num hl h)
      · exact q_loadInt (off := 0) hp (free_of rfl) trivial (List.mem_iff_getElem?.2 ⟨0, rfl⟩) (.inl rfl) (Nat.le_of_ble_eq_true rfl) (sq_out rfl rfl (fun _ _ => rfl)) (fun us w hl h => ld_num hl h)
      · exact q_call2 (F := (Fq.num d).P) (G := (Fq.num (-(Int.gcd n d : Int))).P) hp (free_of rfl) trivial (enq_Q_quotient) (sq_in 3 rfl rfl (by simp) rfl (fun v w h => h)) (sq_in 4 rfl rfl (by simp) rfl (fun v w h => h)) (fun v v' w h h' => exQuot h h' (by omega) hd.out B10.out (by omega) (by omega))
      · exact q_buildRat (n := (n / (-(Int.gcd n d : Int)))) (d0 := (d / (-(Int.gcd n d : Int)))) hp (free_of rfl) trivial (sq_in 2 rfl rfl (by simp) rfl (fun v w h => h)) (sq_in 5 rfl rfl (by simp) rfl (fun v w h => h)) (fun v w h => h)
      · exact q_storeOldRat hp (List.mem_iff_getElem?.2 ⟨1, rfl⟩) rfl rfl (sq_out rfl rfl (fun _ _ => rfl)) (sq_in 6 rfl rfl (by simp) rfl (fun v w h => ratV_pair h)) (fun _ _ => trivial) (newik_ne rfl)
      · exact q_assign hp (free_of rfl) trivial (sq_const (fun _ => rfl))
      intro L vs w14 nb hL hC hn E14
      have e8 : vs 8 = .int .i64 0 := hC 8 (by simp)
      have E : Fr w [(b8_3, 2, Fq.num (-(Int.gcd n d : Int))), (b3, 4, Fq.pair (n / (-(Int.gcd n d : Int))) (d / (-(Int.gcd n d : Int)))), (b2, 2, Fq.num d), (b1, 2, Fq.num n)] w14 := E14
      rw [lay_all hL]
      simp only [putAll, dstOf, List.length_cons, List.length_nil, Nat.zero_add, Nat.reduceAdd, List.getElem?_toArray, List.getElem?_cons_zero, List.getElem?_cons_succ, Option.bind_some, Act.put, List.setIfInBounds_toArray, List.set_cons_succ, List.set_cons_zero]
      rw [e8]
      generalize vs 0 = u14_0
      generalize vs 1 = u14_1
      generalize vs 2 = u14_2
      generalize vs 3 = u14_3
      generalize vs 4 = u14_4
      generalize vs 5 = u14_5
      generalize vs 6 = u14_6
      clear e8 hC hn E14 hL vs L nb
      clear T2
      have F := hidd (new_frac (n := n) h0 (if_pos hs).symm)
      clear hs
      obtain ⟨p0, p1, p2, p3, c0, c1, c2, c3, hP⟩ := box_pair (E.box 1 rfl)
      clear B7 B10 B12 B13 hn hd
      go_wp2
      refine bodyPost_ret (v := .tuple #[.agg #[p0, p1, p2, p3], .int .i64 0]) ?_ rfl ⟨_, rfl, E.below, by have hQ := hP; rw [F.out.1, F.out.2] at hQ; first | exact ⟨_, _, rfl, hQ, rfl⟩ | (rw [if_neg h0]; exact ⟨_, _, rfl, hQ, rfl⟩)⟩
      simp [results, Try.results34, go_sem, c0, c1, c2, c3]
    · have T2 : Hid (¬ cmpI d 0 < 0) := fun e => hs (cmpIqlt.1 e)
      go_upto_region 4 with (fail)
      refine region_fr (C := [Fq.num d, Fq.is (.int .i64 (cmpI d 0)), Fq.is (.bool false)]) (ks := [none, none, none, none]) (new := []) E rfl (by kernel_rfl) rfl rfl (fun hp => ⟨?_, ?_, ?_, trivial⟩) ?_
      · exact q_loadInt (off := 0) hp (free_of rfl) trivial (List.mem_iff_getElem?.2 ⟨2, rfl⟩) (.inl rfl) (Nat.le_of_ble_eq_true rfl) (sq_out rfl rfl (fun _ _ => rfl)) (fun us w hl h => ld_num hl h)
      · exact q_call1 (F := (Fq.num d).P) hp (free_of rfl) trivial (enq_Sign) (sq_in 0 rfl rfl (by simp) rfl (fun v w h => h)) (fun v w h => exSign h)
      · exact q_one (F := fun v _ => v = .int .i64 (cmpI d 0)) hp (free_of rfl) trivial (sq_in 1 rfl rfl (by simp) rfl (fun v w h => h)) (fun ρ w hc h => ⟨.bool false, by simp [execOp, go_sem, h, hc, T2.out], rfl⟩)
      intro L vs w15 nb hL hC hn E15
      have e1 : vs 1 = .int .i64 (cmpI d 0) := hC 1 (by simp)
      have e2 : vs 2 = .bool false := hC 2 (by simp)
      have E : Fr w [(b8_3, 2, Fq.num (Int.gcd n d : Int)), (b3, 4, Fq.pair 0 0), (b2, 2, Fq.num d), (b1, 2, Fq.num n)] w15 := E15
      rw [lay_all hL]
      simp only [putAll, dstOf, List.length_cons, List.length_nil, Nat.zero_add, Nat.reduceAdd, List.getElem?_toArray, List.getElem?_cons_zero, List.getElem?_cons_succ, Option.bind_some, Act.put, List.setIfInBounds_toArray, List.set_cons_succ, List.set_cons_zero]
      rw [e1, e2]
      generalize vs 0 = u15_0
      clear e1 e2 hC hn E15 hL vs L nb
      go_upto_region 6 with (fail)
      have B16 : Hid (ab ((n / (Int.gcd n d : Int))) < pw 1001) := ab_divB hn.out (by omega)
      have B17 : Hid (ab ((d / (Int.gcd n d : Int))) < pw 1001) := ab_divB hd.out (by omega)
      refine region_fr (C := [Fq.num n, Fq.num (Int.gcd n d : Int), Fq.num (n / (Int.gcd n d : Int)), Fq.num d, Fq.num (Int.gcd n d : Int), Fq.num (d / (Int.gcd n d : Int)), Fq.pair (n / (Int.gcd n d : Int)) (d / (Int.gcd n d : Int)), Fq.any, Fq.is (.int .i64 0)]) (ks := [none, some (7, Fq.pair (n / (Int.gcd n d : Int)) (d / (Int.gcd n d : Int))), none, none]) (new := []) E rfl (by kernel_rfl) rfl rfl (fun hp => ⟨?_, ?_, ?_, ?_, ?_, ?_, ?_, ?_, ?_, trivial⟩) ?_
      · exact q_loadInt (off := 0) hp (free_of rfl) trivial (List.mem_iff_getElem?.2 ⟨3, rfl⟩) (.inl rfl) (Nat.le_of_ble_eq_true rfl) (sq_out rfl rfl (fun _ _ => rfl)) (fun us w hl h => ld_num hl h)
      · exact q_loadInt (off := 0) hp (free_of rfl) trivial (List.mem_iff_getElem?.2 ⟨0, rfl⟩) (.inl rfl) (Nat.le_of_ble_eq_true rfl) (sq_out rfl rfl (fun _ _ => rfl)) (fun us w hl h => ld_num hl h)
      · exact q_call2 (F := (Fq.num n).P) (G := (Fq.num (Int.gcd n d : Int)).P) hp (free_of rfl) trivial (enq_Q_quotient) (sq_in 0 rfl rfl (by simp) rfl (fun v w h => h)) (sq_in 1 rfl rfl (by simp) rfl (fun v w h => h)) (fun v v' w h h' => exQuot h h' (by omega) hn.out B7.out (by omega) (by omega))
      · exact q_loadInt (off := 0) hp (free_of rfl) trivial (List.mem_iff_getElem?.2 ⟨2, rfl⟩) (.inl rfl) (Nat.le_of_ble_eq_true rfl) (sq_out rfl rfl (fun _ _ => rfl)) (fun us w hl h => ld_num hl h)
      · exact q_loadInt (off := 0) hp (free_of rfl) trivial (List.mem_iff_getElem?.2 ⟨0, rfl⟩) (.inl rfl) (Nat.le_of_ble_eq_true rfl) (sq_out rfl rfl (fun _ _ => rfl)) (fun us w hl h => ld_num hl h)
      · exact q_call2 (F := (Fq.num d).P) (G := (Fq.num (Int.gcd n d : Int)).P) hp (free_of rfl) trivial (enq_Q_quotient) (sq_in 3 rfl rfl (by simp) rfl (fun v w h => h)) (sq_in 4 rfl rfl (by simp) rfl (fun v w h => h)) (fun v v' w h h' => exQuot h h' (by omega) hd.out B7.out (by omega) (by omega))
      · exact q_buildRat (n := (n / (Int.gcd n d : Int))) (d0 := (d / (Int.gcd n d : Int))) hp (free_of rfl) trivial (sq_in 2 rfl rfl (by simp) rfl (fun v w h => h)) (sq_in 5 rfl rfl (by simp) rfl (fun v w h => h)) (fun v w h => h)
      · exact q_storeOldRat hp (List.mem_iff_getElem?.2 ⟨1, rfl⟩) rfl rfl (sq_out rfl rfl (fun _ _ => rfl)) (sq_in 6 rfl rfl (by simp) rfl (fun v w h => ratV_pair h)) (fun _ _ => trivial) (newik_ne rfl)
      · exact q_assign hp (free_of rfl) trivial (sq_const (fun _ => rfl))
      intro L vs w18 nb hL hC hn E18
      have e8 : vs 8 = .int .i64 0 := hC 8 (by simp)
      have E : Fr w [(b8_3, 2, Fq.num (Int.gcd n d : Int)), (b3, 4, Fq.pair (n / (Int.gcd n d : Int)) (d / (Int.gcd n d : Int))), (b2, 2, Fq.num d), (b1, 2, Fq.num n)] w18 := E18
      rw [lay_all hL]
      simp only [putAll, dstOf, List.length_cons, List.length_nil, Nat.zero_add, Nat.reduceAdd, List.getElem?_toArray, List.getElem?_cons_zero, List.getElem?_cons_succ, Option.bind_some, Act.put, List.setIfInBounds_toArray, List.set_cons_succ, List.set_cons_zero]
      rw [e8]
      generalize vs 0 = u18_0
      generalize vs 1 = u18_1
      generalize vs 2 = u18_2
      generalize vs 3 = u18_3
      generalize vs 4 = u18_4
      generalize vs 5 = u18_5
      generalize vs 6 = u18_6
      clear e8 hC hn E18 hL vs L nb
      clear T2
      have F := hidd (new_frac (n := n) h0 (if_neg hs).symm)
      obtain ⟨p0, p1, p2, p3, c0, c1, c2, c3, hP⟩ := box_pair (E.box 1 rfl)
      clear B7 B16 B17 hn hd
      go_wp2
      refine bodyPost_ret (v := .tuple #[.agg #[p0, p1, p2, p3], .int .i64 0]) ?_ rfl ⟨_, rfl, E.below, by have hQ := hP; rw [F.out.1, F.out.2] at hQ; first | exact ⟨_, _, rfl, hQ, rfl⟩ | (rw [if_neg h0]; exact ⟨_, _, rfl, hQ, rfl⟩)⟩
      simp [results, Try.results34, go_sem, c0, c1, c2, c3]

set_option maxRecDepth 100000 in
set_option maxHeartbeats 4000000 in
theorem exAddQ0 {w : World} {v v' : Value} {a b : Rat} (h : Pair w v a.num a.den) (h' : Pair w v' b.num b.den) (hn : ab a.num < pw 1000) (hd : ab (a.den : Int) < pw 1000) (hn' : ab b.num < pw 1000) (hd' : ab (b.den : Int) < pw 1000) :
    Calls Try.prog 10 #[v, v'] w fun e w' => ∃ v', e = .returned v' ∧ Below w.heap.size w w' ∧ Pair w' v' (a + b).num (a + b).den := by
  replace hn := hidd hn
  replace hd := hidd hd
  replace hn' := hidd hn'
  replace hd' := hidd hd'
  obtain ⟨n0, ao0, k0, c0, n0', ao0', k0', c0', rfl, _⟩ := ratV_pair h
  obtain ⟨n1, ao1, k1, c1, n1', ao1', k1', c1', rfl, _⟩ := ratV_pair h'
  obtain ⟨w1, b1, hw1, hb1, hs1, E⟩ := fr_start w (F := Fq.pair a.num (a.den : Int)) (us := [.bool n0, .slice ao0 k0 c0, .bool n0', .slice ao0' k0' c0']) 31 rfl (by simp) (tame_rat _ _ _ _ _ _ _ _) h
  obtain ⟨w2, b2, hw2, hb2, hs2, E⟩ := fr_more E hs1 (F := Fq.pair b.num (b.den : Int)) (us := [.bool n1, .slice ao1 k1 c1, .bool n1', .slice ao1' k1' c1']) 31 rfl (by simp) (tame_rat _ _ _ _ _ _ _ _) (h'.mono E.below)
  obtain ⟨w3, b3, hw3, hb3, hs3, E⟩ := fr_more E hs2 (F := Fq.pair 0 0) (us := [.bool false, .slice none 0 0, .bool false, .slice none 0 0]) 31 rfl (by simp) (tame_rat _ _ _ _ _ _ _ _) (Pair.zero _)
  go_enter Try.func10, Try.ntmps10
  go_upto_region 1 with (fail)
  rw [← hw1]
  rw [← hw2]
  rw [← hw3]
  rw [← hb3]
  rw [← hb2]
  rw [← hb1]
  clear hw1 hw2 hw3 hb1 hb2 hb3 hs3 hs1 hs2
  have pa := den_pos a
  have pb := den_pos b
  have z1 : Hid ((Int.gcd (a.den : Int) (b.den : Int) : Int) ≠ 0) := by show _ ≠ _; have := Int.gcd_pos_of_ne_zero_left (b.den : Int) (show (a.den : Int) ≠ 0 by omega); omega
  have B4 : Hid (ab ((Int.gcd (a.den : Int) (b.den : Int) : Int)) < pw 1000) := ab_gcdB hd.out hd'.out (by omega) (by omega)
  refine region_fr (C := [Fq.is (.pointer (some ⟨b1, 2, none⟩)), Fq.num (a.den : Int), Fq.is (.pointer (some ⟨b2, 2, none⟩)), Fq.num (b.den : Int), Fq.num (Int.gcd (a.den : Int) (b.den : Int) : Int), Fq.any, Fq.any]) (ks := [none, none, none]) (new := [⟨5, 6, 2, Fq.num 0, Fq.num (Int.gcd (a.den : Int) (b.den : Int) : Int), none⟩]) E rfl (by kernel_rfl) rfl rfl (fun hp => ⟨?_, ?_, ?_, ?_, ?_, ?_, ?_, trivial⟩) ?_
  · exact q_addr (b := b1) (off := 0) (off' := 2) hp (free_of rfl) trivial (sq_out rfl rfl (fun _ _ => rfl)) (fun ρ w h => by simp [execOp, go_sem, h]) (fun _ => rfl)
  · exact q_loadInt (off := 2) hp (free_of rfl) trivial (List.mem_iff_getElem?.2 ⟨2, rfl⟩) (.inl rfl) (Nat.le_of_ble_eq_true rfl) (sq_in 0 rfl rfl (by simp) rfl (fun v w h => h)) (fun us w hl h => ld_pd hl h)
  · exact q_addr (b := b2) (off := 0) (off' := 2) hp (free_of rfl) trivial (sq_out rfl rfl (fun _ _ => rfl)) (fun ρ w h => by simp [execOp, go_sem, h]) (fun _ => rfl)
  · exact q_loadInt (off := 2) hp (free_of rfl) trivial (List.mem_iff_getElem?.2 ⟨1, rfl⟩) (.inl rfl) (Nat.le_of_ble_eq_true rfl) (sq_in 2 rfl rfl (by simp) rfl (fun v w h => h)) (fun us w hl h => ld_pd hl h)
  · exact q_call2 (F := (Fq.num (a.den : Int)).P) (G := (Fq.num (b.den : Int)).P) hp (free_of rfl) trivial (enq_Gcd) (sq_in 1 rfl rfl (by simp) rfl (fun v w h => h)) (sq_in 3 rfl rfl (by simp) rfl (fun v w h => h)) (fun v v' w h h' => exK (GcdV h h') B4.out (by omega))
  · exact q_allocInt hp (List.mem_iff_getElem?.2 ⟨0, rfl⟩) rfl rfl rfl rfl (Nat.ne_of_beq_eq_false rfl) (fun _ _ => trivial) (old_ne rfl) (newk_ne rfl) (fun w => Num.zero w)
  · exact q_storeNewInt hp (List.mem_iff_getElem?.2 ⟨0, rfl⟩) rfl rfl rfl (own_ptr rfl rfl (by simp) rfl) (sq_in 4 rfl rfl (by simp) rfl (fun v w h => intV_num h)) (fun _ _ => trivial) (old_ne rfl) (newi_ne rfl)
  intro L vs w5 nb hL hC hn E5
  have e0 : vs 0 = .pointer (some ⟨b1, 2, none⟩) := hC 0 (by simp)
  have e2 : vs 2 = .pointer (some ⟨b2, 2, none⟩) := hC 2 (by simp)
  have e5 : vs 5 = .pointer (some ⟨nb 5, 0, none⟩) := hn _ (List.mem_iff_getElem?.2 ⟨0, rfl⟩)
  have E : Fr w [(nb 5, 2, Fq.num (Int.gcd (a.den : Int) (b.den : Int) : Int)), (b3, 4, Fq.pair 0 0), (b2, 4, Fq.pair b.num (b.den : Int)), (b1, 4, Fq.pair a.num (a.den : Int))] w5 := E5
  rw [lay_all hL]
  simp only [putAll, dstOf, List.length_cons, List.length_nil, Nat.zero_add, Nat.reduceAdd, List.getElem?_toArray, List.getElem?_cons_zero, List.getElem?_cons_succ, Option.bind_some, Act.put, List.setIfInBounds_toArray, List.set_cons_succ, List.set_cons_zero]
  rw [e0, e2, e5]
  generalize nb 5 = b5_5 at E ⊢
  generalize vs 1 = u5_1
  generalize vs 3 = u5_3
  generalize vs 4 = u5_4
  clear e0 e2 e5 hC hn E5 hL vs L nb
  go_upto_region 2 with (fail)
  have B6 : Hid (ab (((a.den : Int) / (Int.gcd (a.den : Int) (b.den : Int) : Int))) < pw 1001) := ab_divB hd.out (by omega)
  have B7 : Hid (ab (((b.den : Int) / (Int.gcd (a.den : Int) (b.den : Int) : Int))) < pw 1001) := ab_divB hd'.out (by omega)
  refine region_fr (C := [Fq.is (.pointer (some ⟨b1, 2, none⟩)), Fq.num (a.den : Int), Fq.num (Int.gcd (a.den : Int) (b.den : Int) : Int), Fq.num ((a.den : Int) / (Int.gcd (a.den : Int) (b.den : Int) : Int)), Fq.is (.pointer (some ⟨b2, 2, none⟩)), Fq.num (b.den : Int), Fq.num (Int.gcd (a.den : Int) (b.den : Int) : Int), Fq.num ((b.den : Int) / (Int.gcd (a.den : Int) (b.den : Int) : Int)), Fq.any, Fq.any, Fq.any, Fq.any]) (ks := [none, none, none, none]) (new := [⟨8, 10, 2, Fq.num 0, Fq.num ((a.den : Int) / (Int.gcd (a.den : Int) (b.den : Int) : Int)), none⟩, ⟨9, 11, 2, Fq.num 0, Fq.num ((b.den : Int) / (Int.gcd (a.den : Int) (b.den : Int) : Int)), none⟩]) E rfl (by kernel_rfl) rfl rfl (fun hp => ⟨?_, ?_, ?_, ?_, ?_, ?_, ?_, ?_, ?_, ?_, ?_, ?_, trivial⟩) ?_
  · exact q_addr (b := b1) (off := 0) (off' := 2) hp (free_of rfl) trivial (sq_out rfl rfl (fun _ _ => rfl)) (fun ρ w h => by simp [execOp, go_sem, h]) (fun _ => rfl)
  · exact q_loadInt (off := 2) hp (free_of rfl) trivial (List.mem_iff_getElem?.2 ⟨3, rfl⟩) (.inl rfl) (Nat.le_of_ble_eq_true rfl) (sq_in 0 rfl rfl (by simp) rfl (fun v w h => h)) (fun us w hl h => ld_pd hl h)
  · exact q_loadInt (off := 0) hp (free_of rfl) trivial (List.mem_iff_getElem?.2 ⟨0, rfl⟩) (.inl rfl) (Nat.le_of_ble_eq_true rfl) (sq_out rfl rfl (fun _ _ => rfl)) (fun us w hl h => ld_num hl h)
  · exact q_call2 (F := (Fq.num (a.den : Int)).P) (G := (Fq.num (Int.gcd (a.den : Int) (b.den : Int) : Int)).P) hp (free_of rfl) trivial (enq_Q_quotient) (sq_in 1 rfl rfl (by simp) rfl (fun v w h => h)) (sq_in 2 rfl rfl (by simp) rfl (fun v w h => h)) (fun v v' w h h' => exQuot h h' z1.out hd.out B4.out (by omega) (by omega))
  · exact q_addr (b := b2) (off := 0) (off' := 2) hp (free_of rfl) trivial (sq_out rfl rfl (fun _ _ => rfl)) (fun ρ w h => by simp [execOp, go_sem, h]) (fun _ => rfl)
  · exact q_loadInt (off := 2) hp (free_of rfl) trivial (List.mem_iff_getElem?.2 ⟨2, rfl⟩) (.inl rfl) (Nat.le_of_ble_eq_true rfl) (sq_in 4 rfl rfl (by simp) rfl (fun v w h => h)) (fun us w hl h => ld_pd hl h)
  · exact q_loadInt (off := 0) hp (free_of rfl) trivial (List.mem_iff_getElem?.2 ⟨0, rfl⟩) (.inl rfl) (Nat.le_of_ble_eq_true rfl) (sq_out rfl rfl (fun _ _ => rfl)) (fun us w hl h => ld_num hl h)
  · exact q_call2 (F := (Fq.num (b.den : Int)).P) (G := (Fq.num (Int.gcd (a.den : Int) (b.den : Int) : Int)).P) hp (free_of rfl) trivial (enq_Q_quotient) (sq_in 5 rfl rfl (by simp) rfl (fun v w h => h)) (sq_in 6 rfl rfl (by simp) rfl (fun v w h => h)) (fun v v' w h h' => exQuot h h' z1.out hd'.out B4.out (by omega) (by omega))
  · exact q_allocInt hp (List.mem_iff_getElem?.2 ⟨0, rfl⟩) rfl rfl rfl rfl (Nat.ne_of_beq_eq_false rfl) (fun _ _ => trivial) (old_ne rfl) (newk_ne rfl) (fun w => Num.zero w)
  · exact q_allocInt hp (List.mem_iff_getElem?.2 ⟨1, rfl⟩) rfl rfl rfl rfl (Nat.ne_of_beq_eq_false rfl) (fun _ _ => trivial) (old_ne rfl) (newk_ne rfl) (fun w => Num.zero w)
  · exact q_storeNewInt hp (List.mem_iff_getElem?.2 ⟨0, rfl⟩) rfl rfl rfl (own_ptr rfl rfl (by simp) rfl) (sq_in 3 rfl rfl (by simp) rfl (fun v w h => intV_num h)) (fun _ _ => trivial) (old_ne rfl) (newi_ne rfl)
  · exact q_storeNewInt hp (List.mem_iff_getElem?.2 ⟨1, rfl⟩) rfl rfl rfl (own_ptr rfl rfl (by simp) rfl) (sq_in 7 rfl rfl (by simp) rfl (fun v w h => intV_num h)) (fun _ _ => trivial) (old_ne rfl) (newi_ne rfl)
  intro L vs w8 nb hL hC hn E8
  have e0 : vs 0 = .pointer (some ⟨b1, 2, none⟩) := hC 0 (by simp)
  have e4 : vs 4 = .pointer (some ⟨b2, 2, none⟩) := hC 4 (by simp)
  have e8 : vs 8 = .pointer (some ⟨nb 8, 0, none⟩) := hn _ (List.mem_iff_getElem?.2 ⟨0, rfl⟩)
  have e9 : vs 9 = .pointer (some ⟨nb 9, 0, none⟩) := hn _ (List.mem_iff_getElem?.2 ⟨1, rfl⟩)
  have E : Fr w [(nb 8, 2, Fq.num ((a.den : Int) / (Int.gcd (a.den : Int) (b.den : Int) : Int))), (nb 9, 2, Fq.num ((b.den : Int) / (Int.gcd (a.den : Int) (b.den : Int) : Int))), (b5_5, 2, Fq.num (Int.gcd (a.den : Int) (b.den : Int) : Int)), (b3, 4, Fq.pair 0 0), (b2, 4, Fq.pair b.num (b.den : Int)), (b1, 4, Fq.pair a.num (a.den : Int))] w8 := E8
  rw [lay_all hL]
  simp only [putAll, dstOf, List.length_cons, List.length_nil, Nat.zero_add, Nat.reduceAdd, List.getElem?_toArray, List.getElem?_cons_zero, List.getElem?_cons_succ, Option.bind_some, Act.put, List.setIfInBounds_toArray, List.set_cons_succ, List.set_cons_zero]
  rw [e0, e4, e8, e9]
  generalize nb 8 = b8_8 at E ⊢
  generalize nb 9 = b8_9 at E ⊢
  generalize vs 1 = u8_1
  generalize vs 2 = u8_2
  generalize vs 3 = u8_3
  generalize vs 5 = u8_5
  generalize vs 6 = u8_6
  generalize vs 7 = u8_7
  clear e0 e4 e8 e9 hC hn E8 hL vs L nb
  go_upto_region 3 with (fail)
  have B9 : Hid (ab ((a.num * ((b.den : Int) / (Int.gcd (a.den : Int) (b.den : Int) : Int)))) < pw 2001) := ab_mulM hn.out B7.out (by omega)
  have B10 : Hid (ab ((b.num * ((a.den : Int) / (Int.gcd (a.den : Int) (b.den : Int) : Int)))) < pw 2001) := ab_mulM hn'.out B6.out (by omega)
  have B11 : Hid (ab (((a.num * ((b.den : Int) / (Int.gcd (a.den : Int) (b.den : Int) : Int))) + (b.num * ((a.den : Int) / (Int.gcd (a.den : Int) (b.den : Int) : Int))))) < pw 2002) := ab_addB B9.out B10.out (by omega) (by omega)
  refine region_fr (C := [Fq.is (.pointer (some ⟨b1, 0, none⟩)), Fq.num a.num, Fq.num ((b.den : Int) / (Int.gcd (a.den : Int) (b.den : Int) : Int)), Fq.num (a.num * ((b.den : Int) / (Int.gcd (a.den : Int) (b.den : Int) : Int))), Fq.is (.pointer (some ⟨b2, 0, none⟩)), Fq.num b.num, Fq.num ((a.den : Int) / (Int.gcd (a.den : Int) (b.den : Int) : Int)), Fq.num (b.num * ((a.den : Int) / (Int.gcd (a.den : Int) (b.den : Int) : Int))), Fq.num ((a.num * ((b.den : Int) / (Int.gcd (a.den : Int) (b.den : Int) : Int))) + (b.num * ((a.den : Int) / (Int.gcd (a.den : Int) (b.den : Int) : Int)))), Fq.any, Fq.any]) (ks := [none, none, none, none, none, none]) (new := [⟨9, 10, 2, Fq.num 0, Fq.num ((a.num * ((b.den : Int) / (Int.gcd (a.den : Int) (b.den : Int) : Int))) + (b.num * ((a.den : Int) / (Int.gcd (a.den : Int) (b.den : Int) : Int)))), none⟩]) E rfl (by kernel_rfl) rfl rfl (fun hp => ⟨?_, ?_, ?_, ?_, ?_, ?_, ?_, ?_, ?_, ?_, ?_, trivial⟩) ?_
  · exact q_addr (b := b1) (off := 0) (off' := 0) hp (free_of rfl) trivial (sq_out rfl rfl (fun _ _ => rfl)) (fun ρ w h => by simp [execOp, go_sem, h]) (fun _ => rfl)
  · exact q_loadInt (off := 0) hp (free_of rfl) trivial (List.mem_iff_getElem?.2 ⟨5, rfl⟩) (.inl rfl) (Nat.le_of_ble_eq_true rfl) (sq_in 0 rfl rfl (by simp) rfl (fun v w h => h)) (fun us w hl h => ld_pn hl h)
  · exact q_loadInt (off := 0) hp (free_of rfl) trivial (List.mem_iff_getElem?.2 ⟨1, rfl⟩) (.inl rfl) (Nat.le_of_ble_eq_true rfl) (sq_out rfl rfl (fun _ _ => rfl)) (fun us w hl h => ld_num hl h)
  · exact q_call2 (F := (Fq.num a.num).P) (G := (Fq.num ((b.den : Int) / (Int.gcd (a.den : Int) (b.den : Int) : Int))).P) hp (free_of rfl) trivial (enq_Mul) (sq_in 1 rfl rfl (by simp) rfl (fun v w h => h)) (sq_in 2 rfl rfl (by simp) rfl (fun v w h => h)) (fun v v' w h h' => exK (MulV h h') B9.out (by omega))
  · exact q_addr (b := b2) (off := 0) (off' := 0) hp (free_of rfl) trivial (sq_out rfl rfl (fun _ _ => rfl)) (fun ρ w h => by simp [execOp, go_sem, h]) (fun _ => rfl)
  · exact q_loadInt (off := 0) hp (free_of rfl) trivial (List.mem_iff_getElem?.2 ⟨4, rfl⟩) (.inl rfl) (Nat.le_of_ble_eq_true rfl) (sq_in 4 rfl rfl (by simp) rfl (fun v w h => h)) (fun us w hl h => ld_pn hl h)
  · exact q_loadInt (off := 0) hp (free_of rfl) trivial (List.mem_iff_getElem?.2 ⟨0, rfl⟩) (.inl rfl) (Nat.le_of_ble_eq_true rfl) (sq_out rfl rfl (fun _ _ => rfl)) (fun us w hl h => ld_num hl h)
  · exact q_call2 (F := (Fq.num b.num).P) (G := (Fq.num ((a.den : Int) / (Int.gcd (a.den : Int) (b.den : Int) : Int))).P) hp (free_of rfl) trivial (enq_Mul) (sq_in 5 rfl rfl (by simp) rfl (fun v w h => h)) (sq_in 6 rfl rfl (by simp) rfl (fun v w h => h)) (fun v v' w h h' => exK (MulV h h') B10.out (by omega))
  · exact q_call2 (F := (Fq.num (a.num * ((b.den : Int) / (Int.gcd (a.den : Int) (b.den : Int) : Int)))).P) (G := (Fq.num (b.num * ((a.den : Int) / (Int.gcd (a.den : Int) (b.den : Int) : Int)))).P) hp (free_of rfl) trivial (enq_Add) (sq_in 3 rfl rfl (by simp) rfl (fun v w h => h)) (sq_in 7 rfl rfl (by simp) rfl (fun v w h => h)) (fun v v' w h h' => exK (AddV h h') B11.out (by omega))
  · exact q_allocInt hp (List.mem_iff_getElem?.2 ⟨0, rfl⟩) rfl rfl rfl rfl (Nat.ne_of_beq_eq_false rfl) (fun _ _ => trivial) (old_ne rfl) (newk_ne rfl) (fun w => Num.zero w)
  · exact q_storeNewInt hp (List.mem_iff_getElem?.2 ⟨0, rfl⟩) rfl rfl rfl (own_ptr rfl rfl (by simp) rfl) (sq_in 8 rfl rfl (by simp) rfl (fun v w h => intV_num h)) (fun _ _ => trivial) (old_ne rfl) (newi_ne rfl)
  intro L vs w12 nb hL hC hn E12
  have e0 : vs 0 = .pointer (some ⟨b1, 0, none⟩) := hC 0 (by simp)
  have e4 : vs 4 = .pointer (some ⟨b2, 0, none⟩) := hC 4 (by simp)
  have e9 : vs 9 = .pointer (some ⟨nb 9, 0, none⟩) := hn _ (List.mem_iff_getElem?.2 ⟨0, rfl⟩)
  have E : Fr w [(nb 9, 2, Fq.num ((a.num * ((b.den : Int) / (Int.gcd (a.den : Int) (b.den : Int) : Int))) + (b.num * ((a.den : Int) / (Int.gcd (a.den : Int) (b.den : Int) : Int))))), (b8_8, 2, Fq.num ((a.den : Int) / (Int.gcd (a.den : Int) (b.den : Int) : Int))), (b8_9, 2, Fq.num ((b.den : Int) / (Int.gcd (a.den : Int) (b.den : Int) : Int))), (b5_5, 2, Fq.num (Int.gcd (a.den : Int) (b.den : Int) : Int)), (b3, 4, Fq.pair 0 0), (b2, 4, Fq.pair b.num (b.den : Int)), (b1, 4, Fq.pair a.num (a.den : Int))] w12 := E12
  rw [lay_all hL]
  simp only [putAll, dstOf, List.length_cons, List.length_nil, Nat.zero_add, Nat.reduceAdd, List.getElem?_toArray, List.getElem?_cons_zero, List.getElem?_cons_succ, Option.bind_some, Act.put, List.setIfInBounds_toArray, List.set_cons_succ, List.set_cons_zero]
  rw [e0, e4, e9]
  generalize nb 9 = b12_9 at E ⊢
  generalize vs 1 = u12_1
  generalize vs 2 = u12_2
  generalize vs 3 = u12_3
  generalize vs 5 = u12_5
  generalize vs 6 = u12_6
  generalize vs 7 = u12_7
  generalize vs 8 = u12_8
  clear e0 e4 e9 hC hn E12 hL vs L nb
  go_upto_region 4 with (fail)
  have B13 : Hid (ab ((Int.gcd ((a.num * ((b.den : Int) / (Int.gcd (a.den : Int) (b.den : Int) : Int))) + (b.num * ((a.den : Int) / (Int.gcd (a.den : Int) (b.den : Int) : Int)))) (Int.gcd (a.den : Int) (b.den : Int) : Int) : Int)) < pw 2002) := ab_gcdB B11.out B4.out (by omega) (by omega)
  refine region_fr (C := [Fq.num ((a.num * ((b.den : Int) / (Int.gcd (a.den : Int) (b.den : Int) : Int))) + (b.num * ((a.den : Int) / (Int.gcd (a.den : Int) (b.den : Int) : Int)))), Fq.num (Int.gcd (a.den : Int) (b.den : Int) : Int), Fq.num (Int.gcd ((a.num * ((b.den : Int) / (Int.gcd (a.den : Int) (b.den : Int) : Int))) + (b.num * ((a.den : Int) / (Int.gcd (a.den : Int) (b.den : Int) : Int)))) (Int.gcd (a.den : Int) (b.den : Int) : Int) : Int), Fq.any, Fq.any]) (ks := [none, none, none, none, none, none, none]) (new := [⟨3, 4, 2, Fq.num 0, Fq.num (Int.gcd ((a.num * ((b.den : Int) / (Int.gcd (a.den : Int) (b.den : Int) : Int))) + (b.num * ((a.den : Int) / (Int.gcd (a.den : Int) (b.den : Int) : Int)))) (Int.gcd (a.den : Int) (b.den : Int) : Int) : Int), none⟩]) E rfl (by kernel_rfl) rfl rfl (fun hp => ⟨?_, ?_, ?_, ?_, ?_, trivial⟩) ?_
  · exact q_loadInt (off := 0) hp (free_of rfl) trivial (List.mem_iff_getElem?.2 ⟨0, rfl⟩) (.inl rfl) (Nat.le_of_ble_eq_true rfl) (sq_out rfl rfl (fun _ _ => rfl)) (fun us w hl h => ld_num hl h)
  · exact q_loadInt (off := 0) hp (free_of rfl) trivial (List.mem_iff_getElem?.2 ⟨3, rfl⟩) (.inl rfl) (Nat.le_of_ble_eq_true rfl) (sq_out rfl rfl (fun _ _ => rfl)) (fun us w hl h => ld_num hl h)
  · exact q_call2 (F := (Fq.num ((a.num * ((b.den : Int) / (Int.gcd (a.den : Int) (b.den : Int) : Int))) + (b.num * ((a.den : Int) / (Int.gcd (a.den : Int) (b.den : Int) : Int))))).P) (G := (Fq.num (Int.gcd (a.den : Int) (b.den : Int) : Int)).P) hp (free_of rfl) trivial (enq_Gcd) (sq_in 0 rfl rfl (by simp) rfl (fun v w h => h)) (sq_in 1 rfl rfl (by simp) rfl (fun v w h => h)) (fun v v' w h h' => exK (GcdV h h') B13.out (by omega))
  · exact q_allocInt hp (List.mem_iff_getElem?.2 ⟨0, rfl⟩) rfl rfl rfl rfl (Nat.ne_of_beq_eq_false rfl) (fun _ _ => trivial) (old_ne rfl) (newk_ne rfl) (fun w => Num.zero w)
  · exact q_storeNewInt hp (List.mem_iff_getElem?.2 ⟨0, rfl⟩) rfl rfl rfl (own_ptr rfl rfl (by simp) rfl) (sq_in 2 rfl rfl (by simp) rfl (fun v w h => intV_num h)) (fun _ _ => trivial) (old_ne rfl) (newi_ne rfl)
  intro L vs w14 nb hL hC hn E14
  have e3 : vs 3 = .pointer (some ⟨nb 3, 0, none⟩) := hn _ (List.mem_iff_getElem?.2 ⟨0, rfl⟩)
  have E : Fr w [(nb 3, 2, Fq.num (Int.gcd ((a.num * ((b.den : Int) / (Int.gcd (a.den : Int) (b.den : Int) : Int))) + (b.num * ((a.den : Int) / (Int.gcd (a.den : Int) (b.den : Int) : Int)))) (Int.gcd (a.den : Int) (b.den : Int) : Int) : Int)), (b12_9, 2, Fq.num ((a.num * ((b.den : Int) / (Int.gcd (a.den : Int) (b.den : Int) : Int))) + (b.num * ((a.den : Int) / (Int.gcd (a.den : Int) (b.den : Int) : Int))))), (b8_8, 2, Fq.num ((a.den : Int) / (Int.gcd (a.den : Int) (b.den : Int) : Int))), (b8_9, 2, Fq.num ((b.den : Int) / (Int.gcd (a.den : Int) (b.den : Int) : Int))), (b5_5, 2, Fq.num (Int.gcd (a.den : Int) (b.den : Int) : Int)), (b3, 4, Fq.pair 0 0), (b2, 4, Fq.pair b.num (b.den : Int)), (b1, 4, Fq.pair a.num (a.den : Int))] w14 := E14
  rw [lay_all hL]
  simp only [putAll, dstOf, List.length_cons, List.length_nil, Nat.zero_add, Nat.reduceAdd, List.getElem?_toArray, List.getElem?_cons_zero, List.getElem?_cons_succ, Option.bind_some, Act.put, List.setIfInBounds_toArray, List.set_cons_succ, List.set_cons_zero]
  rw [e3]
  generalize nb 3 = b14_3 at E ⊢
  generalize vs 0 = u14_0
  generalize vs 1 = u14_1
  generalize vs 2 = u14_2
  clear e3 hC hn E14 hL vs L nb
  have z2 : Hid ((Int.gcd ((a.num * ((b.den : Int) / (Int.gcd (a.den : Int) (b.den : Int) : Int))) + (b.num * ((a.den : Int) / (Int.gcd (a.den : Int) (b.den : Int) : Int)))) (Int.gcd (a.den : Int) (b.den : Int) : Int) : Int) ≠ 0) := by show _ ≠ _; have := Int.gcd_pos_of_ne_zero_right ((a.num * ((b.den : Int) / (Int.gcd (a.den : Int) (b.den : Int) : Int))) + (b.num * ((a.den : Int) / (Int.gcd (a.den : Int) (b.den : Int) : Int)))) z1.out; omega
  go_upto_region 5 with (fail)
  have B15 : Hid (ab ((((a.num * ((b.den : Int) / (Int.gcd (a.den : Int) (b.den : Int) : Int))) + (b.num * ((a.den : Int) / (Int.gcd (a.den : Int) (b.den : Int) : Int)))) / (Int.gcd ((a.num * ((b.den : Int) / (Int.gcd (a.den : Int) (b.den : Int) : Int))) + (b.num * ((a.den : Int) / (Int.gcd (a.den : Int) (b.den : Int) : Int)))) (Int.gcd (a.den : Int) (b.den : Int) : Int) : Int))) < pw 2003) := ab_divB B11.out (by omega)
  have B16 : Hid (ab (((b.den : Int) / (Int.gcd ((a.num * ((b.den : Int) / (Int.gcd (a.den : Int) (b.den : Int) : Int))) + (b.num * ((a.den : Int) / (Int.gcd (a.den : Int) (b.den : Int) : Int)))) (Int.gcd (a.den : Int) (b.den : Int) : Int) : Int))) < pw 1001) := ab_divB hd'.out (by omega)
  have B17 : Hid (ab ((((a.den : Int) / (Int.gcd (a.den : Int) (b.den : Int) : Int)) * ((b.den : Int) / (Int.gcd ((a.num * ((b.den : Int) / (Int.gcd (a.den : Int) (b.den : Int) : Int))) + (b.num * ((a.den : Int) / (Int.gcd (a.den : Int) (b.den : Int) : Int)))) (Int.gcd (a.den : Int) (b.den : Int) : Int) : Int)))) < pw 2002) := ab_mulM B6.out B16.out (by omega)
  refine region_fr (C := [Fq.num ((a.num * ((b.den : Int) / (Int.gcd (a.den : Int) (b.den : Int) : Int))) + (b.num * ((a.den : Int) / (Int.gcd (a.den : Int) (b.den : Int) : Int)))), Fq.num (Int.gcd ((a.num * ((b.den : Int) / (Int.gcd (a.den : Int) (b.den : Int) : Int))) + (b.num * ((a.den : Int) / (Int.gcd (a.den : Int) (b.den : Int) : Int)))) (Int.gcd (a.den : Int) (b.den : Int) : Int) : Int), Fq.num (((a.num * ((b.den : Int) / (Int.gcd (a.den : Int) (b.den : Int) : Int))) + (b.num * ((a.den : Int) / (Int.gcd (a.den : Int) (b.den : Int) : Int)))) / (Int.gcd ((a.num * ((b.den : Int) / (Int.gcd (a.den : Int) (b.den : Int) : Int))) + (b.num * ((a.den : Int) / (Int.gcd (a.den : Int) (b.den : Int) : Int)))) (Int.gcd (a.den : Int) (b.den : Int) : Int) : Int)), Fq.num ((a.den : Int) / (Int.gcd (a.den : Int) (b.den : Int) : Int)), Fq.is (.pointer (some ⟨b2, 2, none⟩)), Fq.num (b.den : Int), Fq.num (Int.gcd ((a.num * ((b.den : Int) / (Int.gcd (a.den : Int) (b.den : Int) : Int))) + (b.num * ((a.den : Int) / (Int.gcd (a.den : Int) (b.den : Int) : Int)))) (Int.gcd (a.den : Int) (b.den : Int) : Int) : Int), Fq.num ((b.den : Int) / (Int.gcd ((a.num * ((b.den : Int) / (Int.gcd (a.den : Int) (b.den : Int) : Int))) + (b.num * ((a.den : Int) / (Int.gcd (a.den : Int) (b.den : Int) : Int)))) (Int.gcd (a.den : Int) (b.den : Int) : Int) : Int)), Fq.num (((a.den : Int) / (Int.gcd (a.den : Int) (b.den : Int) : Int)) * ((b.den : Int) / (Int.gcd ((a.num * ((b.den : Int) / (Int.gcd (a.den : Int) (b.den : Int) : Int))) + (b.num * ((a.den : Int) / (Int.gcd (a.den : Int) (b.den : Int) : Int)))) (Int.gcd (a.den : Int) (b.den : Int) : Int) : Int))), Fq.pair (((a.num * ((b.den : Int) / (Int.gcd (a.den : Int) (b.den : Int) : Int))) + (b.num * ((a.den : Int) / (Int.gcd (a.den : Int) (b.den : Int) : Int)))) / (Int.gcd ((a.num * ((b.den : Int) / (Int.gcd (a.den : Int) (b.den : Int) : Int))) + (b.num * ((a.den : Int) / (Int.gcd (a.den : Int) (b.den : Int) : Int)))) (Int.gcd (a.den : Int) (b.den : Int) : Int) : Int)) (((a.den : Int) / (Int.gcd (a.den : Int) (b.den : Int) : Int)) * ((b.den : Int) / (Int.gcd ((a.num * ((b.den : Int) / (Int.gcd (a.den : Int) (b.den : Int) : Int))) + (b.num * ((a.den : Int) / (Int.gcd (a.den : Int) (b.den : Int) : Int)))) (Int.gcd (a.den : Int) (b.den : Int) : Int) : Int))), Fq.any]) (ks := [none, none, none, none, none, some (10, Fq.pair (((a.num * ((b.den : Int) / (Int.gcd (a.den : Int) (b.den : Int) : Int))) + (b.num * ((a.den : Int) / (Int.gcd (a.den : Int) (b.den : Int) : Int)))) / (Int.gcd ((a.num * ((b.den : Int) / (Int.gcd (a.den : Int) (b.den : Int) : Int))) + (b.num * ((a.den : Int) / (Int.gcd (a.den : Int) (b.den : Int) : Int)))) (Int.gcd (a.den : Int) (b.den : Int) : Int) : Int)) (((a.den : Int) / (Int.gcd (a.den : Int) (b.den : Int) : Int)) * ((b.den : Int) / (Int.gcd ((a.num * ((b.den : Int) / (Int.gcd (a.den : Int) (b.den : Int) : Int))) + (b.num * ((a.den : Int) / (Int.gcd (a.den : Int) (b.den : Int) : Int)))) (Int.gcd (a.den : Int) (b.den : Int) : Int) : Int)))), none, none]) (new := []) E rfl (by kernel_rfl) rfl rfl (fun hp => ⟨?_, ?_, ?_, ?_, ?_, ?_, ?_, ?_, ?_, ?_, ?_, trivial⟩) ?_
  · exact q_loadInt (off := 0) hp (free_of rfl) trivial (List.mem_iff_getElem?.2 ⟨1, rfl⟩) (.inl rfl) (Nat.le_of_ble_eq_true rfl) (sq_out rfl rfl (fun _ _ => rfl)) (fun us w hl h => ld_num hl h)
  · exact q_loadInt (off := 0) hp (free_of rfl) trivial (List.mem_iff_getElem?.2 ⟨0, rfl⟩) (.inl rfl) (Nat.le_of_ble_eq_true rfl) (sq_out rfl rfl (fun _ _ => rfl)) (fun us w hl h => ld_num hl h)
  · exact q_call2 (F := (Fq.num ((a.num * ((b.den : Int) / (Int.gcd (a.den : Int) (b.den : Int) : Int))) + (b.num * ((a.den : Int) / (Int.gcd (a.den : Int) (b.den : Int) : Int))))).P) (G := (Fq.num (Int.gcd ((a.num * ((b.den : Int) / (Int.gcd (a.den : Int) (b.den : Int) : Int))) + (b.num * ((a.den : Int) / (Int.gcd (a.den : Int) (b.den : Int) : Int)))) (Int.gcd (a.den : Int) (b.den : Int) : Int) : Int)).P) hp (free_of rfl) trivial (enq_Q_quotient) (sq_in 0 rfl rfl (by simp) rfl (fun v w h => h)) (sq_in 1 rfl rfl (by simp) rfl (fun v w h => h)) (fun v v' w h h' => exQuot h h' z2.out B11.out B13.out (by omega) (by omega))
  · exact q_loadInt (off := 0) hp (free_of rfl) trivial (List.mem_iff_getElem?.2 ⟨2, rfl⟩) (.inl rfl) (Nat.le_of_ble_eq_true rfl) (sq_out rfl rfl (fun _ _ => rfl)) (fun us w hl h => ld_num hl h)
  · exact q_addr (b := b2) (off := 0) (off' := 2) hp (free_of rfl) trivial (sq_out rfl rfl (fun _ _ => rfl)) (fun ρ w h => by simp [execOp, go_sem, h]) (fun _ => rfl)
  · exact q_loadInt (off := 2) hp (free_of rfl) trivial (List.mem_iff_getElem?.2 ⟨6, rfl⟩) (.inl rfl) (Nat.le_of_ble_eq_true rfl) (sq_in 4 rfl rfl (by simp) rfl (fun v w h => h)) (fun us w hl h => ld_pd hl h)
  · exact q_loadInt (off := 0) hp (free_of rfl) trivial (List.mem_iff_getElem?.2 ⟨0, rfl⟩) (.inl rfl) (Nat.le_of_ble_eq_true rfl) (sq_out rfl rfl (fun _ _ => rfl)) (fun us w hl h => ld_num hl h)
  · exact q_call2 (F := (Fq.num (b.den : Int)).P) (G := (Fq.num (Int.gcd ((a.num * ((b.den : Int) / (Int.gcd (a.den : Int) (b.den : Int) : Int))) + (b.num * ((a.den : Int) / (Int.gcd (a.den : Int) (b.den : Int) : Int)))) (Int.gcd (a.den : Int) (b.den : Int) : Int) : Int)).P) hp (free_of rfl) trivial (enq_Q_quotient) (sq_in 5 rfl rfl (by simp) rfl (fun v w h => h)) (sq_in 6 rfl rfl (by simp) rfl (fun v w h => h)) (fun v v' w h h' => exQuot h h' z2.out hd'.out B13.out (by omega) (by omega))
  · exact q_call2 (F := (Fq.num ((a.den : Int) / (Int.gcd (a.den : Int) (b.den : Int) : Int))).P) (G := (Fq.num ((b.den : Int) / (Int.gcd ((a.num * ((b.den : Int) / (Int.gcd (a.den : Int) (b.den : Int) : Int))) + (b.num * ((a.den : Int) / (Int.gcd (a.den : Int) (b.den : Int) : Int)))) (Int.gcd (a.den : Int) (b.den : Int) : Int) : Int))).P) hp (free_of rfl) trivial (enq_Mul) (sq_in 3 rfl rfl (by simp) rfl (fun v w h => h)) (sq_in 7 rfl rfl (by simp) rfl (fun v w h => h)) (fun v v' w h h' => exK (MulV h h') B17.out (by omega))
  · exact q_buildRat (n := (((a.num * ((b.den : Int) / (Int.gcd (a.den : Int) (b.den : Int) : Int))) + (b.num * ((a.den : Int) / (Int.gcd (a.den : Int) (b.den : Int) : Int)))) / (Int.gcd ((a.num * ((b.den : Int) / (Int.gcd (a.den : Int) (b.den : Int) : Int))) + (b.num * ((a.den : Int) / (Int.gcd (a.den : Int) (b.den : Int) : Int)))) (Int.gcd (a.den : Int) (b.den : Int) : Int) : Int))) (d0 := (((a.den : Int) / (Int.gcd (a.den : Int) (b.den : Int) : Int)) * ((b.den : Int) / (Int.gcd ((a.num * ((b.den : Int) / (Int.gcd (a.den : Int) (b.den : Int) : Int))) + (b.num * ((a.den : Int) / (Int.gcd (a.den : Int) (b.den : Int) : Int)))) (Int.gcd (a.den : Int) (b.den : Int) : Int) : Int)))) hp (free_of rfl) trivial (sq_in 2 rfl rfl (by simp) rfl (fun v w h => h)) (sq_in 8 rfl rfl (by simp) rfl (fun v w h => h)) (fun v w h => h)
  · exact q_storeOldRat hp (List.mem_iff_getElem?.2 ⟨5, rfl⟩) rfl rfl (sq_out rfl rfl (fun _ _ => rfl)) (sq_in 9 rfl rfl (by simp) rfl (fun v w h => ratV_pair h)) (fun _ _ => trivial) (newik_ne rfl)
  intro L vs w18 nb hL hC hn E18
  have e4 : vs 4 = .pointer (some ⟨b2, 2, none⟩) := hC 4 (by simp)
  have E : Fr w [(b14_3, 2, Fq.num (Int.gcd ((a.num * ((b.den : Int) / (Int.gcd (a.den : Int) (b.den : Int) : Int))) + (b.num * ((a.den : Int) / (Int.gcd (a.den : Int) (b.den : Int) : Int)))) (Int.gcd (a.den : Int) (b.den : Int) : Int) : Int)), (b12_9, 2, Fq.num ((a.num * ((b.den : Int) / (Int.gcd (a.den : Int) (b.den : Int) : Int))) + (b.num * ((a.den : Int) / (Int.gcd (a.den : Int) (b.den : Int) : Int))))), (b8_8, 2, Fq.num ((a.den : Int) / (Int.gcd (a.den : Int) (b.den : Int) : Int))), (b8_9, 2, Fq.num ((b.den : Int) / (Int.gcd (a.den : Int) (b.den : Int) : Int))), (b5_5, 2, Fq.num (Int.gcd (a.den : Int) (b.den : Int) : Int)), (b3, 4, Fq.pair (((a.num * ((b.den : Int) / (Int.gcd (a.den : Int) (b.den : Int) : Int))) + (b.num * ((a.den : Int) / (Int.gcd (a.den : Int) (b.den : Int) : Int)))) / (Int.gcd ((a.num * ((b.den : Int) / (Int.gcd (a.den : Int) (b.den : Int) : Int))) + (b.num * ((a.den : Int) / (Int.gcd (a.den : Int) (b.den : Int) : Int)))) (Int.gcd (a.den : Int) (b.den : Int) : Int) : Int)) (((a.den : Int) / (Int.gcd (a.den : Int) (b.den : Int) : Int)) * ((b.den : Int) / (Int.gcd ((a.num * ((b.den : Int) / (Int.gcd (a.den : Int) (b.den : Int) : Int))) + (b.num * ((a.den : Int) / (Int.gcd (a.den : Int) (b.den : Int) : Int)))) (Int.gcd (a.den : Int) (b.den : Int) : Int) : Int)))), (b2, 4, Fq.pair b.num (b.den : Int)), (b1, 4, Fq.pair a.num (a.den : Int))] w18 := E18
  rw [lay_all hL]
  simp only [putAll, dstOf, List.length_cons, List.length_nil, Nat.zero_add, Nat.reduceAdd, List.getElem?_toArray, List.getElem?_cons_zero, List.getElem?_cons_succ, Option.bind_some, Act.put, List.setIfInBounds_toArray, List.set_cons_succ, List.set_cons_zero]
  rw [e4]
  generalize vs 0 = u18_0
  generalize vs 1 = u18_1
  generalize vs 2 = u18_2
  generalize vs 3 = u18_3
  generalize vs 5 = u18_5
  generalize vs 6 = u18_6
  generalize vs 7 = u18_7
  generalize vs 8 = u18_8
  generalize vs 9 = u18_9
  clear e4 hC hn E18 hL vs L nb
  have hf := hidd (add_frac a b rfl rfl rfl rfl rfl)
  obtain ⟨p0, p1, p2, p3, c0, c1, c2, c3, hP⟩ := box_pair (E.box 5 rfl)
  clear B4 B6 B7 B9 B10 B11 B13 B15 B16 B17 hn hd hn' hd'
  go_wp2
  refine bodyPost_ret (v := .agg #[p0, p1, p2, p3]) ?_ rfl ⟨_, rfl, E.below, by rw [← hf.out.1, ← hf.out.2]; exact hP⟩
  simp [results, Try.results10, go_sem, c0, c1, c2, c3]

end Go.Proofs.Ytlehjhlihahjhaa

/- Walks: package rational and its reference, on fractions. -/
namespace Go.Proofs.Ytlehjhlihahjhaa
open Go Go.RowKit

/-- Both parts of a fraction are below so many words. -/
def Rb (q : Rat) (k : Nat) : Prop := ab q.num < pw k ∧ ab (q.den : Int) < pw k

theorem rb_le {q : Rat} {j k : Nat} (h : Rb q j) (hk : j ≤ k) : Rb q k := ⟨Int.lt_of_lt_of_le h.1 (pw_le hk), Int.lt_of_lt_of_le h.2 (pw_le hk)⟩

theorem ab_ediv_dvd {a g : Int} (h : g ∣ a) (hg : g ≠ 0) : ab (a / g) ≤ ab a := by
  have h1 := exact_div h
  have h2 : a.natAbs = g.natAbs * (a / g).natAbs := by rw [← Int.natAbs_mul, ← h1]
  have h3 : 1 ≤ g.natAbs := by omega
  have h4 := Nat.mul_le_mul_right (a / g).natAbs h3
  unfold ab
  omega

theorem rb_divInt {n d : Int} {k : Nat} (hd : d ≠ 0) (hn : ab n < pw k) (hd' : ab d < pw k) : Rb (Rat.divInt n d) k := by
  have hp : (0 : Int) < (Int.gcd n d : Int) := by have := Int.gcd_pos_of_ne_zero_right n hd; omega
  have d1 : (Int.gcd n d : Int) ∣ n := Int.gcd_dvd_left _ _
  have d2 : (Int.gcd n d : Int) ∣ d := Int.gcd_dvd_right _ _
  obtain ⟨g, hg⟩ : ∃ g : Int, g = if d < 0 then -(Int.gcd n d : Int) else (Int.gcd n d : Int) := ⟨_, rfl⟩
  obtain ⟨e1, e2⟩ := new_frac hd hg
  have g0 : g ≠ 0 := by rw [hg]; split <;> omega
  have g1 : g ∣ n := by rw [hg]; split; exact (Int.neg_dvd).2 d1; exact d1
  have g2 : g ∣ d := by rw [hg]; split; exact (Int.neg_dvd).2 d2; exact d2
  unfold Rb
  rw [← e1, ← e2]
  have h1 := ab_ediv_dvd g1 g0
  have h2 := ab_ediv_dvd g2 g0
  omega

theorem den_ne (q : Rat) : (q.den : Int) ≠ 0 := by have := den_pos q; omega

theorem den_mul_ne (a b : Rat) : (a.den : Int) * b.den ≠ 0 := by
  have := Int.mul_pos (den_pos a) (den_pos b)
  omega

theorem rb_add {a b : Rat} {j k : Nat} (ha : Rb a j) (hb : Rb b k) : Rb (a + b) (j + k + 1) := by
  rw [add_div]
  refine rb_divInt (den_mul_ne a b) (ab_addB (j := j + k) (k := j + k) (ab_mulB ha.1 hb.2) (by rw [Nat.add_comm]; exact ab_mulB hb.1 ha.2) (by omega) (by omega)) (Int.lt_of_lt_of_le (ab_mulB ha.2 hb.2) (pw_le (by omega)))
theorem rb_floor {q : Rat} {k : Nat} (h : Rb q k) : ab q.floor < pw (k + 1) := by rw [Rat.floor_def]; exact ab_divB h.1 (by omega)
/-- Fractions are compared as their cross products. -/
def cmpQ (a b : Rat) : Int := cmpI (a.num * b.den) (b.num * a.den)
theorem cmpQ_gt {a b : Rat} : 0 < cmpQ a b ↔ b < a := by unfold cmpQ; rw [cmpIqgt, Rat.lt_iff]

theorem exAddQ {w : World} {v v' : Value} {a b : Rat} (h : Pair w v a.num a.den) (h' : Pair w v' b.num b.den) (ha : Rb a 1000) (hb : Rb b 1000) : Calls Try.prog 10 #[v, v'] w fun e w' => ∃ v', e = .returned v' ∧ Below w.heap.size w w' ∧ Pair w' v' (a + b).num ((a + b).den : Int) := exAddQ0 h h' ha.1 ha.2 hb.1 hb.2
theorem exNewP {w : World} {v v' : Value} {n d : Int} (h : Num w v n) (h' : Num w v' d) (h0 : d ≠ 0) (hn : ab n < pw 1000) (hd : ab d < pw 1000) : Calls Try.prog 34 #[v, v'] w fun e w' => ∃ v', e = .returned v' ∧ Below w.heap.size w w' ∧ (Fq.tup2 (Fq.pair (Rat.divInt n d).num ((Rat.divInt n d).den : Int)) (Fq.is (.int .i64 0))).P v' w' := by
  have := exNew h h' hn hd
  rw [if_neg h0] at this
  exact this
theorem exNewZ {w : World} {v v' : Value} {n d : Int} (h : Num w v n) (h' : Num w v' d) (h0 : d = 0) (hn : ab n < pw 1000) (hd : ab d < pw 1000) : Calls Try.prog 34 #[v, v'] w fun e w' => ∃ v', e = .returned v' ∧ Below w.heap.size w w' ∧ (Fq.tup2 (Fq.pair 0 0) (Fq.is (.int .i64 4))).P v' w' := by
  have := exNew h h' hn hd
  rw [if_pos h0] at this
  exact this

theorem bq_box {w : World} {b : Nat} {z : Int} (h : Bq w b 2 (Fq.num z)) : BoxNum w b z := by
  obtain ⟨us, hl, _, hat, _, hP⟩ := h
  match us, hl, hat, hP with
  | [p, q], _, hat, hP =>
    have hN : Num w (.agg #[p, q]) z := hP
    obtain ⟨n, ao, k, c, e⟩ := hN.parts
    have e1 := congrArg (fun v => match v with | Value.agg us => us.toList | _ => []) e
    simp at e1
    obtain ⟨rfl, rfl⟩ := e1
    exact ⟨n, ao, k, c, ⟨(hat 0 (by simp)).1, (hat 1 (by simp)).1, (hat 0 (by simp)).2, (hat 1 (by simp)).2⟩, hN⟩

theorem Fr.drop {w0 W : World} {x : Nat × Nat × Fq} {bs : List (Nat × Nat × Fq)} (h : Fr w0 (x :: bs) W) : Fr w0 bs W :=
  ⟨h.below, fun y hy => h.boxes y (List.mem_cons_of_mem _ hy), by have := h.apart; rw [List.map_cons, List.nodup_cons] at this; exact this.2⟩

theorem exRDiv {w : World} {v v' : Value} {a b : Int} (h : Num w v a) (h' : Num w v' b) (h0 : b ≠ 0) (ha : ab a < pw 900) (hb : ab b < pw 900) : Calls Try.prog 83 #[v, v'] w fun e w' => ∃ v', e = .returned v' ∧ Below w.heap.size w w' ∧ Num w' v' (a / b) :=
  exK (k := 901) (RDivV h h' (Int.lt_of_lt_of_le ha (pw_le (by omega))) (Int.lt_of_lt_of_le hb (pw_le (by omega))) h0) (ab_divB ha (by omega)) (by omega)
theorem exRMod {w : World} {v v' : Value} {a b : Int} (h : Num w v a) (h' : Num w v' b) (h0 : b ≠ 0) (ha : ab a < pw 900) (hb : ab b < pw 900) : Calls Try.prog 74 #[v, v'] w fun e w' => ∃ v', e = .returned v' ∧ Below w.heap.size w w' ∧ Num w' v' (a % b) :=
  exK (k := 900) (RModV h h' (Int.lt_of_lt_of_le ha (pw_le (by omega))) (Int.lt_of_lt_of_le hb (pw_le (by omega))) h0) (ab_modB h0 hb) (by omega)
theorem exRSame {w : World} {v v' : Value} {a b : Int} (h : Num w v a) (h' : Num w v' b) : Calls Try.prog 31 #[v, v'] w fun e w' => ∃ v', e = .returned v' ∧ Below w.heap.size w w' ∧ v' = .bool (decide (a = b)) :=
  (SameV h h').mono fun _ _ hh => ⟨_, hh.1, hh.2, rfl⟩

theorem gcd_stepQ (x y : Int) : Int.gcd y (x % y) = Int.gcd x y := by
  have e : x % y = x - y * (x / y) := by have := Int.mul_ediv_add_emod x y; omega
  rw [e, Int.gcd_sub_mul_left_right, Int.gcd_comm]

set_option maxRecDepth 100000 in
set_option maxHeartbeats 4000000 in
theorem exSignQ {w : World} {v : Value} {n d : Int} (h : Pair w v n d) :
    Calls Try.prog 15 #[v] w fun e w' => ∃ v', e = .returned v' ∧ Below w.heap.size w w' ∧ v' = .int .i64 (cmpI n 0) := by
  obtain ⟨n0, ao0, k0, c0, n0', ao0', k0', c0', rfl, _⟩ := ratV_pair h
  obtain ⟨w1, b1, hw1, hb1, hs1, E⟩ := fr_start w (F := Fq.pair n d) (us := [.bool n0, .slice ao0 k0 c0, .bool n0', .slice ao0' k0' c0']) 31 rfl (by simp) (tame_rat _ _ _ _ _ _ _ _) h
  go_enter Try.func15, Try.ntmps15
  go_upto_region 1 with (fail)
  rw [← hw1]
  rw [← hb1]
  clear hw1 hb1 hs1
  refine region_fr (C := [Fq.is (.pointer (some ⟨b1, 0, none⟩)), Fq.num n, Fq.is (.int .i64 (cmpI n 0)), Fq.is (.int .i64 (cmpI n 0))]) (ks := [none]) (new := []) E rfl (by kernel_rfl) rfl rfl (fun hp => ⟨?_, ?_, ?_, ?_, trivial⟩) ?_
  · exact q_addr (b := b1) (off := 0) (off' := 0) hp (free_of rfl) trivial (sq_out rfl rfl (fun _ _ => rfl)) (fun ρ w h => by simp [execOp, go_sem, h]) (fun _ => rfl)
  · exact q_loadInt (off := 0) hp (free_of rfl) trivial (List.mem_iff_getElem?.2 ⟨0, rfl⟩) (.inl rfl) (Nat.le_of_ble_eq_true rfl) (sq_in 0 rfl rfl (by simp) rfl (fun v w h => h)) (fun us w hl h => ld_pn hl h)
  · exact q_call1 (F := (Fq.num n).P) hp (free_of rfl) trivial (enq_Sign) (sq_in 1 rfl rfl (by simp) rfl (fun v w h => h)) (fun v w h => exSign h)
  · exact q_assign hp (free_of rfl) trivial (sq_in 2 rfl rfl (by simp) rfl (fun v w h => h))
  intro L vs w2 nb hL hC hn E2
  have e0 : vs 0 = .pointer (some ⟨b1, 0, none⟩) := hC 0 (by simp)
  have e2 : vs 2 = .int .i64 (cmpI n 0) := hC 2 (by simp)
  have e3 : vs 3 = .int .i64 (cmpI n 0) := hC 3 (by simp)
  have E : Fr w [(b1, 4, Fq.pair n d)] w2 := E2
  rw [lay_all hL]
  simp only [putAll, dstOf, List.length_cons, List.length_nil, Nat.zero_add, Nat.reduceAdd, List.getElem?_toArray, List.getElem?_cons_zero, List.getElem?_cons_succ, Option.bind_some, Act.put, List.setIfInBounds_toArray, List.set_cons_succ, List.set_cons_zero]
  rw [e0, e2, e3]
  generalize vs 1 = u2_1
  clear e0 e2 e3 hC hn E2 hL vs L nb
  go_wp2
  refine bodyPost_ret (v := .int .i64 (cmpI n 0)) ?_ rfl (by first | exact ⟨_, rfl, E.below, rfl⟩ | exact ⟨_, rfl, E.below⟩ | exact ⟨rfl, E.below⟩)
  simp [results, Try.results15, go_sem]

set_option maxRecDepth 100000 in
set_option maxHeartbeats 4000000 in
theorem exCmpQ {w : World} {v v' : Value} {a b : Rat} (h : Pair w v a.num a.den) (h' : Pair w v' b.num b.den) (ha : Rb a 1000) (hb : Rb b 1000) :
    Calls Try.prog 16 #[v, v'] w fun e w' => ∃ v', e = .returned v' ∧ Below w.heap.size w w' ∧ v' = .int .i64 (cmpQ a b) := by
  replace ha := hidd ha
  replace hb := hidd hb
  obtain ⟨n0, ao0, k0, c0, n0', ao0', k0', c0', rfl, _⟩ := ratV_pair h
  obtain ⟨n1, ao1, k1, c1, n1', ao1', k1', c1', rfl, _⟩ := ratV_pair h'
  obtain ⟨w1, b1, hw1, hb1, hs1, E⟩ := fr_start w (F := Fq.pair a.num (a.den : Int)) (us := [.bool n0, .slice ao0 k0 c0, .bool n0', .slice ao0' k0' c0']) 31 rfl (by simp) (tame_rat _ _ _ _ _ _ _ _) h
  obtain ⟨w2, b2, hw2, hb2, hs2, E⟩ := fr_more E hs1 (F := Fq.pair b.num (b.den : Int)) (us := [.bool n1, .slice ao1 k1 c1, .bool n1', .slice ao1' k1' c1']) 31 rfl (by simp) (tame_rat _ _ _ _ _ _ _ _) (h'.mono E.below)
  go_enter Try.func16, Try.ntmps16
  go_upto_region 1 with (fail)
  rw [← hw1]
  rw [← hw2]
  rw [← hb2]
  rw [← hb1]
  clear hw1 hw2 hb1 hb2 hs2 hs1
  have B3 : Hid (ab ((a.num * (b.den : Int))) < pw 2000) := ab_mulM ha.out.1 hb.out.2 (by omega)
  have B4 : Hid (ab ((b.num * (a.den : Int))) < pw 2000) := ab_mulM hb.out.1 ha.out.2 (by omega)
  refine region_fr (C := [Fq.is (.pointer (some ⟨b1, 0, none⟩)), Fq.num a.num, Fq.is (.pointer (some ⟨b2, 2, none⟩)), Fq.num (b.den : Int), Fq.num (a.num * (b.den : Int)), Fq.is (.pointer (some ⟨b2, 0, none⟩)), Fq.num b.num, Fq.is (.pointer (some ⟨b1, 2, none⟩)), Fq.num (a.den : Int), Fq.num (b.num * (a.den : Int)), Fq.is (.int .i64 (cmpI (a.num * (b.den : Int)) (b.num * (a.den : Int)))), Fq.is (.int .i64 (cmpI (a.num * (b.den : Int)) (b.num * (a.den : Int))))]) (ks := [none, none]) (new := []) E rfl (by kernel_rfl) rfl rfl (fun hp => ⟨?_, ?_, ?_, ?_, ?_, ?_, ?_, ?_, ?_, ?_, ?_, ?_, trivial⟩) ?_
  · exact q_addr (b := b1) (off := 0) (off' := 0) hp (free_of rfl) trivial (sq_out rfl rfl (fun _ _ => rfl)) (fun ρ w h => by simp [execOp, go_sem, h]) (fun _ => rfl)
  · exact q_loadInt (off := 0) hp (free_of rfl) trivial (List.mem_iff_getElem?.2 ⟨1, rfl⟩) (.inl rfl) (Nat.le_of_ble_eq_true rfl) (sq_in 0 rfl rfl (by simp) rfl (fun v w h => h)) (fun us w hl h => ld_pn hl h)
  · exact q_addr (b := b2) (off := 0) (off' := 2) hp (free_of rfl) trivial (sq_out rfl rfl (fun _ _ => rfl)) (fun ρ w h => by simp [execOp, go_sem, h]) (fun _ => rfl)
  · exact q_loadInt (off := 2) hp (free_of rfl) trivial (List.mem_iff_getElem?.2 ⟨0, rfl⟩) (.inl rfl) (Nat.le_of_ble_eq_true rfl) (sq_in 2 rfl rfl (by simp) rfl (fun v w h => h)) (fun us w hl h => ld_pd hl h)
  · exact q_call2 (F := (Fq.num a.num).P) (G := (Fq.num (b.den : Int)).P) hp (free_of rfl) trivial (enq_Mul) (sq_in 1 rfl rfl (by simp) rfl (fun v w h => h)) (sq_in 3 rfl rfl (by simp) rfl (fun v w h => h)) (fun v v' w h h' => exK (MulV h h') B3.out (by omega))
  · exact q_addr (b := b2) (off := 0) (off' := 0) hp (free_of rfl) trivial (sq_out rfl rfl (fun _ _ => rfl)) (fun ρ w h => by simp [execOp, go_sem, h]) (fun _ => rfl)
  · exact q_loadInt (off := 0) hp (free_of rfl) trivial (List.mem_iff_getElem?.2 ⟨0, rfl⟩) (.inl rfl) (Nat.le_of_ble_eq_true rfl) (sq_in 5 rfl rfl (by simp) rfl (fun v w h => h)) (fun us w hl h => ld_pn hl h)
  · exact q_addr (b := b1) (off := 0) (off' := 2) hp (free_of rfl) trivial (sq_out rfl rfl (fun _ _ => rfl)) (fun ρ w h => by simp [execOp, go_sem, h]) (fun _ => rfl)
  · exact q_loadInt (off := 2) hp (free_of rfl) trivial (List.mem_iff_getElem?.2 ⟨1, rfl⟩) (.inl rfl) (Nat.le_of_ble_eq_true rfl) (sq_in 7 rfl rfl (by simp) rfl (fun v w h => h)) (fun us w hl h => ld_pd hl h)
  · exact q_call2 (F := (Fq.num b.num).P) (G := (Fq.num (a.den : Int)).P) hp (free_of rfl) trivial (enq_Mul) (sq_in 6 rfl rfl (by simp) rfl (fun v w h => h)) (sq_in 8 rfl rfl (by simp) rfl (fun v w h => h)) (fun v v' w h h' => exK (MulV h h') B4.out (by omega))
  · exact q_call2 (F := (Fq.num (a.num * (b.den : Int))).P) (G := (Fq.num (b.num * (a.den : Int))).P) hp (free_of rfl) trivial (enq_Cmp) (sq_in 4 rfl rfl (by simp) rfl (fun v w h => h)) (sq_in 9 rfl rfl (by simp) rfl (fun v w h => h)) (fun v v' w h h' => exCmp h h')
  · exact q_assign hp (free_of rfl) trivial (sq_in 10 rfl rfl (by simp) rfl (fun v w h => h))
  intro L vs w5 nb hL hC hn E5
  have e0 : vs 0 = .pointer (some ⟨b1, 0, none⟩) := hC 0 (by simp)
  have e2 : vs 2 = .pointer (some ⟨b2, 2, none⟩) := hC 2 (by simp)
  have e5 : vs 5 = .pointer (some ⟨b2, 0, none⟩) := hC 5 (by simp)
  have e7 : vs 7 = .pointer (some ⟨b1, 2, none⟩) := hC 7 (by simp)
  have e10 : vs 10 = .int .i64 (cmpI (a.num * (b.den : Int)) (b.num * (a.den : Int))) := hC 10 (by simp)
  have e11 : vs 11 = .int .i64 (cmpI (a.num * (b.den : Int)) (b.num * (a.den : Int))) := hC 11 (by simp)
  have E : Fr w [(b2, 4, Fq.pair b.num (b.den : Int)), (b1, 4, Fq.pair a.num (a.den : Int))] w5 := E5
  rw [lay_all hL]
  simp only [putAll, dstOf, List.length_cons, List.length_nil, Nat.zero_add, Nat.reduceAdd, List.getElem?_toArray, List.getElem?_cons_zero, List.getElem?_cons_succ, Option.bind_some, Act.put, List.setIfInBounds_toArray, List.set_cons_succ, List.set_cons_zero]
  rw [e0, e2, e5, e7, e10, e11]
  generalize vs 1 = u5_1
  generalize vs 3 = u5_3
  generalize vs 4 = u5_4
  generalize vs 6 = u5_6
  generalize vs 8 = u5_8
  generalize vs 9 = u5_9
  clear e0 e2 e5 e7 e10 e11 hC hn E5 hL vs L nb
  clear B3 B4 ha hb
  go_wp2
  refine bodyPost_ret (v := .int .i64 (cmpQ a b)) ?_ rfl (by first | exact ⟨_, rfl, E.below, rfl⟩ | exact ⟨_, rfl, E.below⟩ | exact ⟨rfl, E.below⟩)
  simp [results, Try.results16, go_sem, cmpQ]

set_option maxRecDepth 100000 in
set_option maxHeartbeats 4000000 in
theorem exFloorQ {w : World} {v : Value} {a : Rat} (h : Pair w v a.num a.den) (ha : Rb a 1000) :
    Calls Try.prog 18 #[v] w fun e w' => ∃ v', e = .returned v' ∧ Below w.heap.size w w' ∧ Num w' v' a.floor := by
  replace ha := hidd ha
  obtain ⟨n0, ao0, k0, c0, n0', ao0', k0', c0', rfl, _⟩ := ratV_pair h
  obtain ⟨w1, b1, hw1, hb1, hs1, E⟩ := fr_start w (F := Fq.pair a.num (a.den : Int)) (us := [.bool n0, .slice ao0 k0 c0, .bool n0', .slice ao0' k0' c0']) 31 rfl (by simp) (tame_rat _ _ _ _ _ _ _ _) h
  obtain ⟨w2, b2, hw2, hb2, hs2, E⟩ := fr_more E hs1 (F := Fq.num 0) (us := [.bool false, .slice none 0 0]) 29 rfl (by simp) (tame_int _ _ _ _) (Num.zero _)
  go_enter Try.func18, Try.ntmps18
  go_upto_region 1 with (fail)
  rw [← hw1]
  rw [← hw2]
  rw [← hb2]
  rw [← hb1]
  clear hw1 hw2 hb1 hb2 hs2 hs1
  have B3 : Hid (ab ((a.num / (a.den : Int))) < pw 1001) := ab_divB ha.out.1 (by omega)
  refine region_fr (C := [Fq.is (.pointer (some ⟨b1, 0, none⟩)), Fq.num a.num, Fq.is (.pointer (some ⟨b1, 2, none⟩)), Fq.num (a.den : Int), Fq.num (a.num / (a.den : Int)), Fq.any]) (ks := [some (5, Fq.num (a.num / (a.den : Int))), none]) (new := []) E rfl (by kernel_rfl) rfl rfl (fun hp => ⟨?_, ?_, ?_, ?_, ?_, ?_, trivial⟩) ?_
  · exact q_addr (b := b1) (off := 0) (off' := 0) hp (free_of rfl) trivial (sq_out rfl rfl (fun _ _ => rfl)) (fun ρ w h => by simp [execOp, go_sem, h]) (fun _ => rfl)
  · exact q_loadInt (off := 0) hp (free_of rfl) trivial (List.mem_iff_getElem?.2 ⟨1, rfl⟩) (.inl rfl) (Nat.le_of_ble_eq_true rfl) (sq_in 0 rfl rfl (by simp) rfl (fun v w h => h)) (fun us w hl h => ld_pn hl h)
  · exact q_addr (b := b1) (off := 0) (off' := 2) hp (free_of rfl) trivial (sq_out rfl rfl (fun _ _ => rfl)) (fun ρ w h => by simp [execOp, go_sem, h]) (fun _ => rfl)
  · exact q_loadInt (off := 2) hp (free_of rfl) trivial (List.mem_iff_getElem?.2 ⟨1, rfl⟩) (.inl rfl) (Nat.le_of_ble_eq_true rfl) (sq_in 2 rfl rfl (by simp) rfl (fun v w h => h)) (fun us w hl h => ld_pd hl h)
  · exact q_call2 (F := (Fq.num a.num).P) (G := (Fq.num (a.den : Int)).P) hp (free_of rfl) trivial (enq_Q_quotient) (sq_in 1 rfl rfl (by simp) rfl (fun v w h => h)) (sq_in 3 rfl rfl (by simp) rfl (fun v w h => h)) (fun v v' w h h' => exQuot h h' (den_ne a) ha.out.1 ha.out.2 (by omega) (by omega))
  · exact q_storeOldInt hp (List.mem_iff_getElem?.2 ⟨0, rfl⟩) rfl rfl (sq_out rfl rfl (fun _ _ => rfl)) (sq_in 4 rfl rfl (by simp) rfl (fun v w h => intV_num h)) (fun _ _ => trivial) (newik_ne rfl)
  intro L vs w4 nb hL hC hn E4
  have e0 : vs 0 = .pointer (some ⟨b1, 0, none⟩) := hC 0 (by simp)
  have e2 : vs 2 = .pointer (some ⟨b1, 2, none⟩) := hC 2 (by simp)
  have E : Fr w [(b2, 2, Fq.num (a.num / (a.den : Int))), (b1, 4, Fq.pair a.num (a.den : Int))] w4 := E4
  rw [lay_all hL]
  simp only [putAll, dstOf, List.length_cons, List.length_nil, Nat.zero_add, Nat.reduceAdd, List.getElem?_toArray, List.getElem?_cons_zero, List.getElem?_cons_succ, Option.bind_some, Act.put, List.setIfInBounds_toArray, List.set_cons_succ, List.set_cons_zero]
  rw [e0, e2]
  generalize vs 1 = u4_1
  generalize vs 3 = u4_3
  generalize vs 4 = u4_4
  clear e0 e2 hC hn E4 hL vs L nb
  obtain ⟨p0, p1, c0, c1, hP⟩ := box_num (E.box 0 rfl)
  clear B3 ha
  go_wp2
  refine bodyPost_ret (v := .agg #[p0, p1]) ?_ rfl ⟨_, rfl, E.below, by rw [Rat.floor_def]; exact hP⟩
  simp [results, Try.results18, go_sem, c0, c1]

end Go.Proofs.Ytlehjhlihahjhaa

/- Walks: the reference's Gcd; its package of fractions. -/
namespace Go.Proofs.Ytlehjhlihahjhaa
open Go Go.RowKit

/-- A sign and words. -/
def Fq.raw (n : Bool) (a : Option Addr) (k c : Nat) (xs : List Int) : Fq := ⟨fun v w => v = .agg #[.bool n, .slice a k c] ∧ Sl w a k c xs, fun h hb => ⟨h.1, h.2.mono hb⟩, fun h ha ht hl => ⟨h.1, h.2.putAt ha ht hl⟩⟩
/-- Two signs and words. -/
def Fq.raw2 (n : Bool) (a : Option Addr) (k c : Nat) (xs : List Int) (n' : Bool) (a' : Option Addr) (k' c' : Nat) (xs' : List Int) : Fq :=
  ⟨fun v w => v = .agg #[.bool n, .slice a k c, .bool n', .slice a' k' c'] ∧ Sl w a k c xs ∧ Sl w a' k' c' xs', fun h hb => ⟨h.1, h.2.1.mono hb, h.2.2.mono hb⟩, fun h ha ht hl => ⟨h.1, h.2.1.putAt ha ht hl, h.2.2.putAt ha ht hl⟩⟩

section
variable {n n' : Bool} {a a' : Option Addr} {k c k' c' : Nat} {xs xs' : List Int}
theorem ld_raw1 {us : List Value} {w : World} (hl : us.length = 4) (h : (Fq.raw2 n a k c xs n' a' k' c' xs').P (.agg us.toArray) w) : (Fq.raw n a k c xs).P (.agg #[us.getD 0 undef, us.getD (0 + 1) undef]) w := by
  match us, hl with
  | [p, q, r, s], _ =>
    obtain ⟨e, h1, h2⟩ := h
    injection e with e
    have e2 := congrArg Array.toList e
    simp at e2
    obtain ⟨rfl, rfl, rfl, rfl⟩ := e2
    exact ⟨rfl, h1⟩
theorem ld_raw2 {us : List Value} {w : World} (hl : us.length = 4) (h : (Fq.raw2 n a k c xs n' a' k' c' xs').P (.agg us.toArray) w) : (Fq.raw n' a' k' c' xs').P (.agg #[us.getD 2 undef, us.getD (2 + 1) undef]) w := by
  match us, hl with
  | [p, q, r, s], _ =>
    obtain ⟨e, h1, h2⟩ := h
    injection e with e
    have e2 := congrArg Array.toList e
    simp at e2
    obtain ⟨rfl, rfl, rfl, rfl⟩ := e2
    exact ⟨rfl, h2⟩
end

section
variable {os : List Oper} {Q : Exit → Act → World → Prop} {a : Act} {p : Pq} {B B0 : Nat} {w0 : World}
variable {i s : Nat} {d : Option Tmp} {ty : TypeId} {ps : String} {af : Array Edge} {gd : Option (Nat × Bool)}
theorem q_loadRaw {o : Ob} {off : Nat} {x : Operand} (hp : p.Ok B B0) (hF : p.Free i) (hg : GdQ os a p B B0 w0 af gd) (ho : o ∈ p.old) (hk : o.F1 = o.F0 ∨ leadsB os 9 o.k i = true) (hoff : off + 2 ≤ o.m)
    (hx : SrcQ os a p B B0 w0 af x fun u _ => u = .pointer (some ⟨o.b, off, none⟩)) (hC : ∀ (us : List Value) (w : World), us.length = o.m → o.F0.P (.agg us.toArray) w → (p.c i).P (.agg #[us.getD off undef, us.getD (off + 1) undef]) w) :
    StepQ os Q a p B B0 w0 i { dst := d, op := .load 24 x, type := ty, pos := ps, after := af, guard := gd } := by
  refine stq_val hp hF hg fun L vs w hG hL hc hd => ?_
  obtain ⟨us, hl, h0, hat, ht, hP⟩ := box_now ho hk hG hL hc
  have e := hx L vs w hG hd
  have c0 := (hat off (by omega)).1
  have c1 := (hat (off + 1) (by omega)).1
  refine ⟨_, ?_, hC us w hl hP⟩
  generalize (lay os.toArray L vs os.toArray.size a).eval = ρ at e
  generalize us.getD off undef = u0 at c0 ⊢
  generalize us.getD (off + 1) undef = u1 at c1 ⊢
  simp [execOp, go_sem, e, c0, c1]
end

theorem exRMade {w : World} {v v' : Value} {n : Bool} {a : Option Addr} {k c : Nat} {xs : List Int} {j : Nat} (h : (Fq.raw n a k c xs).P v w) (h' : v' = .int .i64 j) (hk : k ≤ 9223372036854775807) (hj : j ≤ 900000) :
    Calls Try.prog 28 #[v, v'] w fun e w' => ∃ v', e = .returned v' ∧ Below w.heap.size w w' ∧ Num w' v' (sgn n (val (xs.take j))) := by
  obtain ⟨rfl, hs⟩ := h
  subst h'
  exact exK (Made_any _ _ _ _ _ _ hs hk j hj) (Num.ofMade hs.digs) hj

set_option maxRecDepth 100000 in
set_option maxHeartbeats 4000000 in
theorem exRGcd {w : World} {v v' : Value} {a b : Int} (h : Num w v a) (h' : Num w v' b) (ha : ab a < pw 900) (hb : ab b < pw 900) :
    Calls Try.prog 45 #[v, v'] w fun e w' => ∃ v', e = .returned v' ∧ Below w.heap.size w w' ∧ Num w' v' (Int.gcd a b : Int) := by
  replace ha := hidd ha
  replace hb := hidd hb
  obtain ⟨n0, ao0, k0, c0, rfl⟩ := h.parts
  obtain ⟨n1, ao1, k1, c1, rfl⟩ := h'.parts
  obtain ⟨w1, b1, hw1, hb1, hs1, E⟩ := fr_start w (F := Fq.num a) (us := [.bool n0, .slice ao0 k0 c0]) 29 rfl (by simp) (tame_int _ _ _ _) h
  obtain ⟨w2, b2, hw2, hb2, hs2, E⟩ := fr_more E hs1 (F := Fq.num b) (us := [.bool n1, .slice ao1 k1 c1]) 29 rfl (by simp) (tame_int _ _ _ _) (h'.mono E.below)
  obtain ⟨w3, b3, hw3, hb3, hs3, E⟩ := fr_more E hs2 (F := Fq.num 0) (us := [.bool false, .slice none 0 0]) 29 rfl (by simp) (tame_int _ _ _ _) (Num.zero _)
  go_enter Try.func45, Try.ntmps45
  go_upto_region 1 with (fail)
  rw [← hw1]
  rw [← hw2]
  rw [← hw3]
  rw [← hb3]
  rw [← hb2]
  rw [← hb1]
  clear hw1 hw2 hw3 hb1 hb2 hb3 hs3 hs1 hs2
  have B4 : Hid (ab ((Int.natAbs a : Int)) < pw 900) := ab_absB ha.out
  refine region_fr (C := [Fq.num a, Fq.num (Int.natAbs a : Int), Fq.any]) (ks := [none, none, some (2, Fq.num (Int.natAbs a : Int))]) (new := []) E rfl (by kernel_rfl) rfl rfl (fun hp => ⟨?_, ?_, ?_, trivial⟩) ?_
  · exact q_loadInt (off := 0) hp (free_of rfl) trivial (List.mem_iff_getElem?.2 ⟨2, rfl⟩) (.inr rfl) (Nat.le_of_ble_eq_true rfl) (sq_out rfl rfl (fun _ _ => rfl)) (fun us w hl h => ld_num hl h)
  · exact q_call1 (F := (Fq.num a).P) hp (free_of rfl) trivial (enq_R_Abs) (sq_in 0 rfl rfl (by simp) rfl (fun v w h => h)) (fun v w h => exK (RAbsV h) B4.out (by omega))
  · exact q_storeOldInt hp (List.mem_iff_getElem?.2 ⟨2, rfl⟩) rfl rfl (sq_out rfl rfl (fun _ _ => rfl)) (sq_in 1 rfl rfl (by simp) rfl (fun v w h => intV_num h)) (fun _ _ => trivial) (newik_ne rfl)
  intro L vs w5 nb hL hC hn E5
  have E : Fr w [(b3, 2, Fq.num 0), (b2, 2, Fq.num b), (b1, 2, Fq.num (Int.natAbs a : Int))] w5 := E5
  rw [lay_all hL]
  simp only [putAll, dstOf, List.length_cons, List.length_nil, Nat.zero_add, Nat.reduceAdd, List.getElem?_toArray, List.getElem?_cons_zero, List.getElem?_cons_succ, Option.bind_some, Act.put, List.setIfInBounds_toArray, List.set_cons_succ, List.set_cons_zero]
  generalize vs 0 = u5_0
  generalize vs 1 = u5_1
  clear  hC hn E5 hL vs L nb
  go_upto_region 2 with (fail)
  have B6 : Hid (ab ((Int.natAbs b : Int)) < pw 900) := ab_absB hb.out
  refine region_fr (C := [Fq.num b, Fq.num (Int.natAbs b : Int), Fq.any]) (ks := [none, some (2, Fq.num (Int.natAbs b : Int)), none]) (new := []) E rfl (by kernel_rfl) rfl rfl (fun hp => ⟨?_, ?_, ?_, trivial⟩) ?_
  · exact q_loadInt (off := 0) hp (free_of rfl) trivial (List.mem_iff_getElem?.2 ⟨1, rfl⟩) (.inr rfl) (Nat.le_of_ble_eq_true rfl) (sq_out rfl rfl (fun _ _ => rfl)) (fun us w hl h => ld_num hl h)
  · exact q_call1 (F := (Fq.num b).P) hp (free_of rfl) trivial (enq_R_Abs) (sq_in 0 rfl rfl (by simp) rfl (fun v w h => h)) (fun v w h => exK (RAbsV h) B6.out (by omega))
  · exact q_storeOldInt hp (List.mem_iff_getElem?.2 ⟨1, rfl⟩) rfl rfl (sq_out rfl rfl (fun _ _ => rfl)) (sq_in 1 rfl rfl (by simp) rfl (fun v w h => intV_num h)) (fun _ _ => trivial) (newik_ne rfl)
  intro L vs w7 nb hL hC hn E7
  have E : Fr w [(b3, 2, Fq.num 0), (b2, 2, Fq.num (Int.natAbs b : Int)), (b1, 2, Fq.num (Int.natAbs a : Int))] w7 := E7
  rw [lay_all hL]
  simp only [putAll, dstOf, List.length_cons, List.length_nil, Nat.zero_add, Nat.reduceAdd, List.getElem?_toArray, List.getElem?_cons_zero, List.getElem?_cons_succ, Option.bind_some, Act.put, List.setIfInBounds_toArray, List.set_cons_succ, List.set_cons_zero]
  generalize vs 0 = u7_0
  generalize vs 1 = u7_1
  clear  hC hn E7 hL vs L nb
  have HS := hidd E
  go_upto_region 3 with (fail)
  go_loopw [5] (fun _ W => ∃ x y : Int, 0 ≤ x ∧ 0 ≤ y ∧ Hid (ab x < pw 900 ∧ ab y < pw 900 ∧ Int.gcd x y = Int.gcd a b) ∧ Fr w [(b3, 2, Fq.num 0), (b2, 2, Fq.num y), (b1, 2, Fq.num x)] W) (fun _ W => boxVal W b2)
  case atStart => exact ⟨_, _, Int.natCast_nonneg _, Int.natCast_nonneg _, ⟨ab_absB ha.out, ab_absB hb.out, by rw [Int.gcd_eq_natAbs_gcd_natAbs, Int.gcd_eq_natAbs_gcd_natAbs, Int.natAbs_natCast, Int.natAbs_natCast]⟩, HS.out⟩
  case round =>
    obtain ⟨x, y, hx0, hy0, HI, E⟩ := hrel
    have HX := hidd hx0
    have HY := hidd hy0
    clear hx0 hy0 HS
    obtain ⟨n2, ao2, k2, c2, ⟨d0, d1, _, _⟩, hN2⟩ := bq_box (E.box 1 rfl)
    have hz := hN2.len_zero.1
    by_cases hy : y = 0
    · obtain rfl := hz.2 hy
      subst hy
      clear hz hN2
      go_upto_region 7 with (fail)
      refine region_fr (C := [Fq.num x, Fq.any]) (ks := [some (1, Fq.num x), none, none]) (new := []) E rfl (by kernel_rfl) rfl rfl (fun hp => ⟨?_, ?_, trivial⟩) ?_
      · exact q_loadInt (off := 0) hp (free_of rfl) trivial (List.mem_iff_getElem?.2 ⟨2, rfl⟩) (.inl rfl) (Nat.le_of_ble_eq_true rfl) (sq_out rfl rfl (fun _ _ => rfl)) (fun us w hl h => ld_num hl h)
      · exact q_storeOldInt hp (List.mem_iff_getElem?.2 ⟨0, rfl⟩) rfl rfl (sq_out rfl rfl (fun _ _ => rfl)) (sq_in 0 rfl rfl (by simp) rfl (fun v w h => intV_num h)) (fun _ _ => trivial) (newik_ne rfl)
      intro L vs w8 nb hL hC hn E8
      have E : Fr w [(b3, 2, Fq.num x), (b2, 2, Fq.num 0), (b1, 2, Fq.num x)] w8 := E8
      rw [lay_all hL]
      simp only [putAll, dstOf, List.length_cons, List.length_nil, Nat.zero_add, Nat.reduceAdd, List.getElem?_toArray, List.getElem?_cons_zero, List.getElem?_cons_succ, Option.bind_some, Act.put, List.setIfInBounds_toArray, List.set_cons_succ, List.set_cons_zero]
      generalize vs 0 = u8_0
      clear  hC hn E8 hL vs L nb
      obtain ⟨p0, p1, c0, c1, hP⟩ := box_num (E.box 0 rfl)
      clear d0 d1
      have hg : x = (Int.gcd a b : Int) := by rw [← HI.out.2.2, Int.gcd_zero]; have := HX.out; omega
      have HG := hidd hg
      clear hg ha hb
      go_wp2
      refine bodyPost_ret (v := .agg #[p0, p1]) ?_ rfl ⟨_, rfl, E.below, by rw [← HG.out]; exact hP⟩
      simp [results, Try.results45, go_sem, c0, c1]
    · have hk2 : 0 < k2 := by have := mt hz.1 hy; omega
      have HNZ := hidd hy
      clear hy hz hN2
      have HBV := hidd (boxVal_eq (bq_box (E.box 1 rfl)))
      go_upto_region 4 with (fail)
      have B9 : Hid (ab ((x % y)) < pw 900) := ab_modB HNZ.out HI.out.2.1
      refine region_fr (C := [Fq.num x, Fq.num y, Fq.num (x % y), Fq.any, Fq.any]) (ks := [none, none, none]) (new := [⟨3, 4, 2, Fq.num 0, Fq.num (x % y), none⟩]) E rfl (by kernel_rfl) rfl rfl (fun hp => ⟨?_, ?_, ?_, ?_, ?_, trivial⟩) ?_
      · exact q_loadInt (off := 0) hp (free_of rfl) trivial (List.mem_iff_getElem?.2 ⟨2, rfl⟩) (.inl rfl) (Nat.le_of_ble_eq_true rfl) (sq_out rfl rfl (fun _ _ => rfl)) (fun us w hl h => ld_num hl h)
      · exact q_loadInt (off := 0) hp (free_of rfl) trivial (List.mem_iff_getElem?.2 ⟨1, rfl⟩) (.inl rfl) (Nat.le_of_ble_eq_true rfl) (sq_out rfl rfl (fun _ _ => rfl)) (fun us w hl h => ld_num hl h)
      · exact q_call2 (F := (Fq.num x).P) (G := (Fq.num y).P) hp (free_of rfl) trivial (enq_R_Mod) (sq_in 0 rfl rfl (by simp) rfl (fun v w h => h)) (sq_in 1 rfl rfl (by simp) rfl (fun v w h => h)) (fun v v' w h h' => exRMod h h' HNZ.out (Int.lt_of_lt_of_le HI.out.1 (pw_le (by omega))) (Int.lt_of_lt_of_le HI.out.2.1 (pw_le (by omega))))
      · exact q_allocInt hp (List.mem_iff_getElem?.2 ⟨0, rfl⟩) rfl rfl rfl rfl (Nat.ne_of_beq_eq_false rfl) (fun _ _ => trivial) (old_ne rfl) (newk_ne rfl) (fun w => Num.zero w)
      · exact q_storeNewInt hp (List.mem_iff_getElem?.2 ⟨0, rfl⟩) rfl rfl rfl (own_ptr rfl rfl (by simp) rfl) (sq_in 2 rfl rfl (by simp) rfl (fun v w h => intV_num h)) (fun _ _ => trivial) (old_ne rfl) (newi_ne rfl)
      intro L vs w10 nb hL hC hn E10
      have e3 : vs 3 = .pointer (some ⟨nb 3, 0, none⟩) := hn _ (List.mem_iff_getElem?.2 ⟨0, rfl⟩)
      have E : Fr w [(nb 3, 2, Fq.num (x % y)), (b3, 2, Fq.num 0), (b2, 2, Fq.num y), (b1, 2, Fq.num x)] w10 := E10
      rw [lay_all hL]
      simp only [putAll, dstOf, List.length_cons, List.length_nil, Nat.zero_add, Nat.reduceAdd, List.getElem?_toArray, List.getElem?_cons_zero, List.getElem?_cons_succ, Option.bind_some, Act.put, List.setIfInBounds_toArray, List.set_cons_succ, List.set_cons_zero]
      rw [e3]
      generalize nb 3 = b10_3 at E ⊢
      generalize vs 0 = u10_0
      generalize vs 1 = u10_1
      generalize vs 2 = u10_2
      clear e3 hC hn E10 hL vs L nb
      clear d0 d1
      go_upto_region 5 with (fail)
      refine region_fr (C := [Fq.num y, Fq.any]) (ks := [none, none, none, some (1, Fq.num y)]) (new := []) E rfl (by kernel_rfl) rfl rfl (fun hp => ⟨?_, ?_, trivial⟩) ?_
      · exact q_loadInt (off := 0) hp (free_of rfl) trivial (List.mem_iff_getElem?.2 ⟨2, rfl⟩) (.inl rfl) (Nat.le_of_ble_eq_true rfl) (sq_out rfl rfl (fun _ _ => rfl)) (fun us w hl h => ld_num hl h)
      · exact q_storeOldInt hp (List.mem_iff_getElem?.2 ⟨3, rfl⟩) rfl rfl (sq_out rfl rfl (fun _ _ => rfl)) (sq_in 0 rfl rfl (by simp) rfl (fun v w h => intV_num h)) (fun _ _ => trivial) (newik_ne rfl)
      intro L vs w11 nb hL hC hn E11
      have E : Fr w [(b10_3, 2, Fq.num (x % y)), (b3, 2, Fq.num 0), (b2, 2, Fq.num y), (b1, 2, Fq.num y)] w11 := E11
      rw [lay_all hL]
      simp only [putAll, dstOf, List.length_cons, List.length_nil, Nat.zero_add, Nat.reduceAdd, List.getElem?_toArray, List.getElem?_cons_zero, List.getElem?_cons_succ, Option.bind_some, Act.put, List.setIfInBounds_toArray, List.set_cons_succ, List.set_cons_zero]
      generalize vs 0 = u11_0
      clear  hC hn E11 hL vs L nb
      go_upto_region 6 with (fail)
      refine region_fr (C := [Fq.num (x % y), Fq.any]) (ks := [none, none, some (1, Fq.num (x % y)), none]) (new := []) E rfl (by kernel_rfl) rfl rfl (fun hp => ⟨?_, ?_, trivial⟩) ?_
      · exact q_loadInt (off := 0) hp (free_of rfl) trivial (List.mem_iff_getElem?.2 ⟨0, rfl⟩) (.inl rfl) (Nat.le_of_ble_eq_true rfl) (sq_out rfl rfl (fun _ _ => rfl)) (fun us w hl h => ld_num hl h)
      · exact q_storeOldInt hp (List.mem_iff_getElem?.2 ⟨2, rfl⟩) rfl rfl (sq_out rfl rfl (fun _ _ => rfl)) (sq_in 0 rfl rfl (by simp) rfl (fun v w h => intV_num h)) (fun _ _ => trivial) (newik_ne rfl)
      intro L vs w12 nb hL hC hn E12
      have E : Fr w [(b10_3, 2, Fq.num (x % y)), (b3, 2, Fq.num 0), (b2, 2, Fq.num (x % y)), (b1, 2, Fq.num y)] w12 := E12
      rw [lay_all hL]
      simp only [putAll, dstOf, List.length_cons, List.length_nil, Nat.zero_add, Nat.reduceAdd, List.getElem?_toArray, List.getElem?_cons_zero, List.getElem?_cons_succ, Option.bind_some, Act.put, List.setIfInBounds_toArray, List.set_cons_succ, List.set_cons_zero]
      generalize vs 0 = u12_0
      clear  hC hn E12 hL vs L nb
      go_roundw
      case rel => exact ⟨_, _, _, _, _, _, _, _, _, _, ⟨y, x % y, HY.out, Int.emod_nonneg _ HNZ.out, ⟨HI.out.2.1, ab_modB HNZ.out HI.out.2.1, by rw [gcd_stepQ]; exact HI.out.2.2⟩, E.drop⟩, rfl⟩
      case measure => rw [boxVal_eq (bq_box (E.box 2 rfl)), HBV.out]; have h1 := Int.emod_nonneg x HNZ.out; have h2 := Int.emod_lt_of_pos x (show 0 < y by have := HNZ.out; have := HY.out; omega); omega

set_option maxRecDepth 100000 in
set_option maxHeartbeats 4000000 in
theorem exSNew {w : World} {v v' : Value} {n d : Int} (h : Num w v n) (h' : Num w v' d) (hn : ab n < pw 800) (hd : ab d < pw 800) :
    Calls Try.prog 68 #[v, v'] w fun e w' => ∃ v', e = .returned v' ∧ Below w.heap.size w w' ∧ (if d = 0 then Fq.tup2 (Fq.pair 0 0) (Fq.is (.int .i64 4)) else Fq.tup2 (Fq.pair (Rat.divInt n d).num ((Rat.divInt n d).den : Int)) (Fq.is (.int .i64 0))).P v' w' := by
  replace hn := hidd hn
  replace hd := hidd hd
  obtain ⟨n0, ao0, k0, c0, rfl⟩ := h.parts
  obtain ⟨n1, ao1, k1, c1, rfl⟩ := h'.parts
  obtain ⟨w1, b1, hw1, hb1, hs1, E⟩ := fr_start w (F := Fq.num n) (us := [.bool n0, .slice ao0 k0 c0]) 29 rfl (by simp) (tame_int _ _ _ _) h
  obtain ⟨w2, b2, hw2, hb2, hs2, E⟩ := fr_more E hs1 (F := Fq.num d) (us := [.bool n1, .slice ao1 k1 c1]) 29 rfl (by simp) (tame_int _ _ _ _) (h'.mono E.below)
  obtain ⟨w3, b3, hw3, hb3, hs3, E⟩ := fr_more E hs2 (F := Fq.pair 0 0) (us := [.bool false, .slice none 0 0, .bool false, .slice none 0 0]) 31 rfl (by simp) (tame_rat _ _ _ _ _ _ _ _) (Pair.zero _)
  go_enter Try.func68, Try.ntmps68
  go_upto_region 1 with (fail)
  rw [← hw1]
  rw [← hw2]
  rw [← hw3]
  rw [← hb3]
  rw [← hb2]
  rw [← hb1]
  clear hw1 hw2 hw3 hb1 hb2 hb3 hs3 hs1 hs2
  by_cases h0 : d = 0
  · subst h0
    refine region_fr (C := [Fq.num 0, Fq.is (.int .i64 (cmpI 0 0)), Fq.is (.bool true)]) (ks := [none, none, none]) (new := []) E rfl (by kernel_rfl) rfl rfl (fun hp => ⟨?_, ?_, ?_, trivial⟩) ?_
    · exact q_loadInt (off := 0) hp (free_of rfl) trivial (List.mem_iff_getElem?.2 ⟨1, rfl⟩) (.inl rfl) (Nat.le_of_ble_eq_true rfl) (sq_out rfl rfl (fun _ _ => rfl)) (fun us w hl h => ld_num hl h)
    · exact q_call1 (F := (Fq.num 0).P) hp (free_of rfl) trivial (enq_R_Sign) (sq_in 0 rfl rfl (by simp) rfl (fun v w h => h)) (fun v w h => exRSign h)
    · exact q_one (F := fun v _ => v = .int .i64 (cmpI 0 0)) hp (free_of rfl) trivial (sq_in 1 rfl rfl (by simp) rfl (fun v w h => h)) (fun ρ w hc h => ⟨.bool true, by simp [execOp, go_sem, h, hc, cmpI], rfl⟩)
    intro L vs w4 nb hL hC hn E4
    have e1 : vs 1 = .int .i64 (cmpI 0 0) := hC 1 (by simp)
    have e2 : vs 2 = .bool true := hC 2 (by simp)
    have E : Fr w [(b3, 4, Fq.pair 0 0), (b2, 2, Fq.num 0), (b1, 2, Fq.num n)] w4 := E4
    rw [lay_all hL]
    simp only [putAll, dstOf, List.length_cons, List.length_nil, Nat.zero_add, Nat.reduceAdd, List.getElem?_toArray, List.getElem?_cons_zero, List.getElem?_cons_succ, Option.bind_some, Act.put, List.setIfInBounds_toArray, List.set_cons_succ, List.set_cons_zero]
    rw [e1, e2]
    generalize vs 0 = u4_0
    clear e1 e2 hC hn E4 hL vs L nb
    go_upto_region 2 with (fail)
    refine region_fr (C := [Fq.pair 0 0, Fq.any, Fq.is (.int .i64 4)]) (ks := [some (1, Fq.pair 0 0), none, none]) (new := []) E rfl (by kernel_rfl) rfl rfl (fun hp => ⟨?_, ?_, ?_, trivial⟩) ?_
    · exact q_zeroRat hp (free_of rfl) trivial (fun v w h => h)
    · exact q_storeOldRat hp (List.mem_iff_getElem?.2 ⟨0, rfl⟩) rfl rfl (sq_out rfl rfl (fun _ _ => rfl)) (sq_in 0 rfl rfl (by simp) rfl (fun v w h => ratV_pair h)) (fun _ _ => trivial) (newik_ne rfl)
    · exact q_assign hp (free_of rfl) trivial (sq_const (fun _ => rfl))
    intro L vs w5 nb hL hC hn E5
    have e2 : vs 2 = .int .i64 4 := hC 2 (by simp)
    have E : Fr w [(b3, 4, Fq.pair 0 0), (b2, 2, Fq.num 0), (b1, 2, Fq.num n)] w5 := E5
    rw [lay_all hL]
    simp only [putAll, dstOf, List.length_cons, List.length_nil, Nat.zero_add, Nat.reduceAdd, List.getElem?_toArray, List.getElem?_cons_zero, List.getElem?_cons_succ, Option.bind_some, Act.put, List.setIfInBounds_toArray, List.set_cons_succ, List.set_cons_zero]
    rw [e2]
    generalize vs 0 = u5_0
    clear e2 hC hn E5 hL vs L nb
    obtain ⟨p0, p1, p2, p3, c0, c1, c2, c3, hP⟩ := box_pair (E.box 0 rfl)
    clear hn hd
    go_wp2
    refine bodyPost_ret (v := .tuple #[.agg #[p0, p1, p2, p3], .int .i64 4]) ?_ rfl ⟨_, rfl, E.below, by first | exact ⟨_, _, rfl, hP, rfl⟩ | (rw [if_pos rfl]; exact ⟨_, _, rfl, hP, rfl⟩)⟩
    simp [results, Try.results68, go_sem, c0, c1, c2, c3]
  · have T1 : Hid (¬ cmpI d 0 = 0) := fun e => h0 (cmpIq0.1 e)
    have hgp : (0 : Int) < (Int.gcd n d : Int) := by have := Int.gcd_pos_of_ne_zero_right n h0; omega
    refine region_fr (C := [Fq.num d, Fq.is (.int .i64 (cmpI d 0)), Fq.is (.bool false)]) (ks := [none, none, none]) (new := []) E rfl (by kernel_rfl) rfl rfl (fun hp => ⟨?_, ?_, ?_, trivial⟩) ?_
    · exact q_loadInt (off := 0) hp (free_of rfl) trivial (List.mem_iff_getElem?.2 ⟨1, rfl⟩) (.inl rfl) (Nat.le_of_ble_eq_true rfl) (sq_out rfl rfl (fun _ _ => rfl)) (fun us w hl h => ld_num hl h)
    · exact q_call1 (F := (Fq.num d).P) hp (free_of rfl) trivial (enq_R_Sign) (sq_in 0 rfl rfl (by simp) rfl (fun v w h => h)) (fun v w h => exRSign h)
    · exact q_one (F := fun v _ => v = .int .i64 (cmpI d 0)) hp (free_of rfl) trivial (sq_in 1 rfl rfl (by simp) rfl (fun v w h => h)) (fun ρ w hc h => ⟨.bool false, by simp [execOp, go_sem, h, hc, T1.out], rfl⟩)
    intro L vs w6 nb hL hC hn E6
    have e1 : vs 1 = .int .i64 (cmpI d 0) := hC 1 (by simp)
    have e2 : vs 2 = .bool false := hC 2 (by simp)
    have E : Fr w [(b3, 4, Fq.pair 0 0), (b2, 2, Fq.num d), (b1, 2, Fq.num n)] w6 := E6
    rw [lay_all hL]
    simp only [putAll, dstOf, List.length_cons, List.length_nil, Nat.zero_add, Nat.reduceAdd, List.getElem?_toArray, List.getElem?_cons_zero, List.getElem?_cons_succ, Option.bind_some, Act.put, List.setIfInBounds_toArray, List.set_cons_succ, List.set_cons_zero]
    rw [e1, e2]
    generalize vs 0 = u6_0
    clear e1 e2 hC hn E6 hL vs L nb
    go_upto_region 3 with (fail)
    have B7 : Hid (ab ((Int.gcd n d : Int)) < pw 800) := ab_gcdB hn.out hd.out (by omega) (by omega)
    refine region_fr (C := [Fq.num n, Fq.num d, Fq.num (Int.gcd n d : Int), Fq.any, Fq.any]) (ks := [none, none, none]) (new := [⟨3, 4, 2, Fq.num 0, Fq.num (Int.gcd n d : Int), none⟩]) E rfl (by kernel_rfl) rfl rfl (fun hp => ⟨?_, ?_, ?_, ?_, ?_, trivial⟩) ?_
    · exact q_loadInt (off := 0) hp (free_of rfl) trivial (List.mem_iff_getElem?.2 ⟨2, rfl⟩) (.inl rfl) (Nat.le_of_ble_eq_true rfl) (sq_out rfl rfl (fun _ _ => rfl)) (fun us w hl h => ld_num hl h)
    · exact q_loadInt (off := 0) hp (free_of rfl) trivial (List.mem_iff_getElem?.2 ⟨1, rfl⟩) (.inl rfl) (Nat.le_of_ble_eq_true rfl) (sq_out rfl rfl (fun _ _ => rfl)) (fun us w hl h => ld_num hl h)
    · exact q_call2 (F := (Fq.num n).P) (G := (Fq.num d).P) hp (free_of rfl) trivial (enq_R_Gcd) (sq_in 0 rfl rfl (by simp) rfl (fun v w h => h)) (sq_in 1 rfl rfl (by simp) rfl (fun v w h => h)) (fun v v' w h h' => exRGcd h h' (Int.lt_of_lt_of_le hn.out (pw_le (by omega))) (Int.lt_of_lt_of_le hd.out (pw_le (by omega))))
    · exact q_allocInt hp (List.mem_iff_getElem?.2 ⟨0, rfl⟩) rfl rfl rfl rfl (Nat.ne_of_beq_eq_false rfl) (fun _ _ => trivial) (old_ne rfl) (newk_ne rfl) (fun w => Num.zero w)
    · exact q_storeNewInt hp (List.mem_iff_getElem?.2 ⟨0, rfl⟩) rfl rfl rfl (own_ptr rfl rfl (by simp) rfl) (sq_in 2 rfl rfl (by simp) rfl (fun v w h => intV_num h)) (fun _ _ => trivial) (old_ne rfl) (newi_ne rfl)
    intro L vs w8 nb hL hC hn E8
    have e3 : vs 3 = .pointer (some ⟨nb 3, 0, none⟩) := hn _ (List.mem_iff_getElem?.2 ⟨0, rfl⟩)
    have E : Fr w [(nb 3, 2, Fq.num (Int.gcd n d : Int)), (b3, 4, Fq.pair 0 0), (b2, 2, Fq.num d), (b1, 2, Fq.num n)] w8 := E8
    rw [lay_all hL]
    simp only [putAll, dstOf, List.length_cons, List.length_nil, Nat.zero_add, Nat.reduceAdd, List.getElem?_toArray, List.getElem?_cons_zero, List.getElem?_cons_succ, Option.bind_some, Act.put, List.setIfInBounds_toArray, List.set_cons_succ, List.set_cons_zero]
    rw [e3]
    generalize nb 3 = b8_3 at E ⊢
    generalize vs 0 = u8_0
    generalize vs 1 = u8_1
    generalize vs 2 = u8_2
    clear e3 hC hn E8 hL vs L nb
    by_cases hs : d < 0
    · have T2 : Hid (cmpI d 0 < 0) := cmpIqlt.2 hs
      go_upto_region 4 with (fail)
      refine region_fr (C := [Fq.num d, Fq.is (.int .i64 (cmpI d 0)), Fq.is (.bool true)]) (ks := [none, none, none, none]) (new := []) E rfl (by kernel_rfl) rfl rfl (fun hp => ⟨?_, ?_, ?_, trivial⟩) ?_
      · exact q_loadInt (off := 0) hp (free_of rfl) trivial (List.mem_iff_getElem?.2 ⟨2, rfl⟩) (.inl rfl) (Nat.le_of_ble_eq_true rfl) (sq_out rfl rfl (fun _ _ => rfl)) (fun us w hl h => ld_num hl h)
      · exact q_call1 (F := (Fq.num d).P) hp (free_of rfl) trivial (enq_R_Sign) (sq_in 0 rfl rfl (by simp) rfl (fun v w h => h)) (fun v w h => exRSign h)
      · exact q_one (F := fun v _ => v = .int .i64 (cmpI d 0)) hp (free_of rfl) trivial (sq_in 1 rfl rfl (by simp) rfl (fun v w h => h)) (fun ρ w hc h => ⟨.bool true, by simp [execOp, go_sem, h, hc, T2.out], rfl⟩)
      intro L vs w9 nb hL hC hn E9
      have e1 : vs 1 = .int .i64 (cmpI d 0) := hC 1 (by simp)
      have e2 : vs 2 = .bool true := hC 2 (by simp)
      have E : Fr w [(b8_3, 2, Fq.num (Int.gcd n d : Int)), (b3, 4, Fq.pair 0 0), (b2, 2, Fq.num d), (b1, 2, Fq.num n)] w9 := E9
      rw [lay_all hL]
      simp only [putAll, dstOf, List.length_cons, List.length_nil, Nat.zero_add, Nat.reduceAdd, List.getElem?_toArray, List.getElem?_cons_zero, List.getElem?_cons_succ, Option.bind_some, Act.put, List.setIfInBounds_toArray, List.set_cons_succ, List.set_cons_zero]
      rw [e1, e2]
      generalize vs 0 = u9_0
      clear e1 e2 hC hn E9 hL vs L nb
      go_upto_region 5 with (fail)
      have B10 : Hid (ab ((-(Int.gcd n d : Int))) < pw 800) := ab_negB B7.out
      refine region_fr (C := [Fq.num (Int.gcd n d : Int), Fq.num (-(Int.gcd n d : Int)), Fq.any]) (ks := [some (2, Fq.num (-(Int.gcd n d : Int))), none, none, none]) (new := []) E rfl (by kernel_rfl) rfl rfl (fun hp => ⟨?_, ?_, ?_, trivial⟩) ?_
      · exact q_loadInt (off := 0) hp (free_of rfl) trivial (List.mem_iff_getElem?.2 ⟨0, rfl⟩) (.inr rfl) (Nat.le_of_ble_eq_true rfl) (sq_out rfl rfl (fun _ _ => rfl)) (fun us w hl h => ld_num hl h)
      · exact q_call1 (F := (Fq.num (Int.gcd n d : Int)).P) hp (free_of rfl) trivial (enq_R_Neg) (sq_in 0 rfl rfl (by simp) rfl (fun v w h => h)) (fun v w h => exK (RNegV h) B10.out (by omega))
      · exact q_storeOldInt hp (List.mem_iff_getElem?.2 ⟨0, rfl⟩) rfl rfl (sq_out rfl rfl (fun _ _ => rfl)) (sq_in 1 rfl rfl (by simp) rfl (fun v w h => intV_num h)) (fun _ _ => trivial) (newik_ne rfl)
      intro L vs w11 nb hL hC hn E11
      have E : Fr w [(b8_3, 2, Fq.num (-(Int.gcd n d : Int))), (b3, 4, Fq.pair 0 0), (b2, 2, Fq.num d), (b1, 2, Fq.num n)] w11 := E11
      rw [lay_all hL]
      simp only [putAll, dstOf, List.length_cons, List.length_nil, Nat.zero_add, Nat.reduceAdd, List.getElem?_toArray, List.getElem?_cons_zero, List.getElem?_cons_succ, Option.bind_some, Act.put, List.setIfInBounds_toArray, List.set_cons_succ, List.set_cons_zero]
      generalize vs 0 = u11_0
      generalize vs 1 = u11_1
      clear  hC hn E11 hL vs L nb
      go_upto_region 6 with (fail)
      have B12 : Hid (ab ((n / (-(Int.gcd n d : Int)))) < pw 801) := ab_divB hn.out (by omega)
      have B13 : Hid (ab ((d / (-(Int.gcd n d : Int)))) < pw 801) := ab_divB hd.out (by omega)
      refine region_fr (C := [Fq.num n, Fq.num (-(Int.gcd n d : Int)), Fq.num (n / (-(Int.gcd n d : Int))), Fq.num d, Fq.num (-(Int.gcd n d : Int)), Fq.num (d / (-(Int.gcd n d : Int))), Fq.pair (n / (-(Int.gcd n d : Int))) (d / (-(Int.gcd n d : Int))), Fq.any, Fq.is (.int .i64 0)]) (ks := [none, some (7, Fq.pair (n / (-(Int.gcd n d : Int))) (d / (-(Int.gcd n d : Int)))), none, none]) (new := []) E rfl (by kernel_rfl) rfl rfl (fun hp => ⟨?_, ?_, ?_, ?_, ?_, ?_, ?_, ?_, ?_, trivial⟩) ?_
      · exact q_loadInt (off := 0) hp (free_of rfl) trivial (List.mem_iff_getElem?.2 ⟨3, rfl⟩) (.inl rfl) (Nat.le_of_ble_eq_true rfl) (sq_out rfl rfl (fun _ _ => rfl)) (fun us w hl h => ld_num hl h)
      · exact q_loadInt (off := 0) hp (free_of rfl) trivial (List.mem_iff_getElem?.2 ⟨0, rfl⟩) (.inl rfl) (Nat.le_of_ble_eq_true rfl) (sq_out rfl rfl (fun _ _ => rfl)) (fun us w hl h => ld_num hl h)
      · exact q_call2 (F := (Fq.num n).P) (G := (Fq.num (-(Int.gcd n d : Int))).P) hp (free_of rfl) trivial (enq_R_Div) (sq_in 0 rfl rfl (by simp) rfl (fun v w h => h)) (sq_in 1 rfl rfl (by simp) rfl (fun v w h => h)) (fun v v' w h h' => exRDiv h h' (by omega) (Int.lt_of_lt_of_le hn.out (pw_le (by omega))) (Int.lt_of_lt_of_le B10.out (pw_le (by omega))))
      · exact q_loadInt (off := 0) hp (free_of rfl) trivial (List.mem_iff_getElem?.2 ⟨2, rfl⟩) (.inl rfl) (Nat.le_of_ble_eq_true rfl) (sq_out rfl rfl (fun _ _ => rfl)) (fun us w hl h => ld_num hl h)
      · exact q_loadInt (off := 0) hp (free_of rfl) trivial (List.mem_iff_getElem?.2 ⟨0, rfl⟩) (.inl rfl) (Nat.le_of_ble_eq_true rfl) (sq_out rfl rfl (fun _ _ => rfl)) (fun us w hl h => ld_num hl h)
      · exact q_call2 (F := (Fq.num d).P) (G := (Fq.num (-(Int.gcd n d : Int))).P) hp (free_of rfl) trivial (enq_R_Div) (sq_in 3 rfl rfl (by simp) rfl (fun v w h => h)) (sq_in 4 rfl rfl (by simp) rfl (fun v w h => h)) (fun v v' w h h' => exRDiv h h' (by omega) (Int.lt_of_lt_of_le hd.out (pw_le (by omega))) (Int.lt_of_lt_of_le B10.out (pw_le (by omega))))
      · exact q_buildRat (n := (n / (-(Int.gcd n d : Int)))) (d0 := (d / (-(Int.gcd n d : Int)))) hp (free_of rfl) trivial (sq_in 2 rfl rfl (by simp) rfl (fun v w h => h)) (sq_in 5 rfl rfl (by simp) rfl (fun v w h => h)) (fun v w h => h)
      · exact q_storeOldRat hp (List.mem_iff_getElem?.2 ⟨1, rfl⟩) rfl rfl (sq_out rfl rfl (fun _ _ => rfl)) (sq_in 6 rfl rfl (by simp) rfl (fun v w h => ratV_pair h)) (fun _ _ => trivial) (newik_ne rfl)
      · exact q_assign hp (free_of rfl) trivial (sq_const (fun _ => rfl))
      intro L vs w14 nb hL hC hn E14
      have e8 : vs 8 = .int .i64 0 := hC 8 (by simp)
      have E : Fr w [(b8_3, 2, Fq.num (-(Int.gcd n d : Int))), (b3, 4, Fq.pair (n / (-(Int.gcd n d : Int))) (d / (-(Int.gcd n d : Int)))), (b2, 2, Fq.num d), (b1, 2, Fq.num n)] w14 := E14
      rw [lay_all hL]
      simp only [putAll, dstOf, List.length_cons, List.length_nil, Nat.zero_add, Nat.reduceAdd, List.getElem?_toArray, List.getElem?_cons_zero, List.getElem?_cons_succ, Option.bind_some, Act.put, List.setIfInBounds_toArray, List.set_cons_succ, List.set_cons_zero]
      rw [e8]
      generalize vs 0 = u14_0
      generalize vs 1 = u14_1
      generalize vs 2 = u14_2
      generalize vs 3 = u14_3
      generalize vs 4 = u14_4
      generalize vs 5 = u14_5
      generalize vs 6 = u14_6
      clear e8 hC hn E14 hL vs L nb
      clear T2
      have F := hidd (new_frac (n := n) h0 (if_pos hs).symm)
      clear hs
      obtain ⟨p0, p1, p2, p3, c0, c1, c2, c3, hP⟩ := box_pair (E.box 1 rfl)
      clear B7 B10 B12 B13 hn hd
      go_wp2
      refine bodyPost_ret (v := .tuple #[.agg #[p0, p1, p2, p3], .int .i64 0]) ?_ rfl ⟨_, rfl, E.below, by have hQ := hP; rw [F.out.1, F.out.2] at hQ; first | exact ⟨_, _, rfl, hQ, rfl⟩ | (rw [if_neg h0]; exact ⟨_, _, rfl, hQ, rfl⟩)⟩
      simp [results, Try.results68, go_sem, c0, c1, c2, c3]
    · have T2 : Hid (¬ cmpI d 0 < 0) := fun e => hs (cmpIqlt.1 e)
      go_upto_region 4 with (fail)
      refine region_fr (C := [Fq.num d, Fq.is (.int .i64 (cmpI d 0)), Fq.is (.bool false)]) (ks := [none, none, none, none]) (new := []) E rfl (by kernel_rfl) rfl rfl (fun hp => ⟨?_, ?_, ?_, trivial⟩) ?_
      · exact q_loadInt (off := 0) hp (free_of rfl) trivial (List.mem_iff_getElem?.2 ⟨2, rfl⟩) (.inl rfl) (Nat.le_of_ble_eq_true rfl) (sq_out rfl rfl (fun _ _ => rfl)) (fun us w hl h => ld_num hl h)
      · exact q_call1 (F := (Fq.num d).P) hp (free_of rfl) trivial (enq_R_Sign) (sq_in 0 rfl rfl (by simp) rfl (fun v w h => h)) (fun v w h => exRSign h)
      · exact q_one (F := fun v _ => v = .int .i64 (cmpI d 0)) hp (free_of rfl) trivial (sq_in 1 rfl rfl (by simp) rfl (fun v w h => h)) (fun ρ w hc h => ⟨.bool false, by simp [execOp, go_sem, h, hc, T2.out], rfl⟩)
      intro L vs w15 nb hL hC hn E15
      have e1 : vs 1 = .int .i64 (cmpI d 0) := hC 1 (by simp)
      have e2 : vs 2 = .bool false := hC 2 (by simp)
      have E : Fr w [(b8_3, 2, Fq.num (Int.gcd n d : Int)), (b3, 4, Fq.pair 0 0), (b2, 2, Fq.num d), (b1, 2, Fq.num n)] w15 := E15
      rw [lay_all hL]
      simp only [putAll, dstOf, List.length_cons, List.length_nil, Nat.zero_add, Nat.reduceAdd, List.getElem?_toArray, List.getElem?_cons_zero, List.getElem?_cons_succ, Option.bind_some, Act.put, List.setIfInBounds_toArray, List.set_cons_succ, List.set_cons_zero]
      rw [e1, e2]
      generalize vs 0 = u15_0
      clear e1 e2 hC hn E15 hL vs L nb
      go_upto_region 6 with (fail)
      have B16 : Hid (ab ((n / (Int.gcd n d : Int))) < pw 801) := ab_divB hn.out (by omega)
      have B17 : Hid (ab ((d / (Int.gcd n d : Int))) < pw 801) := ab_divB hd.out (by omega)
      refine region_fr (C := [Fq.num n, Fq.num (Int.gcd n d : Int), Fq.num (n / (Int.gcd n d : Int)), Fq.num d, Fq.num (Int.gcd n d : Int), Fq.num (d / (Int.gcd n d : Int)), Fq.pair (n / (Int.gcd n d : Int)) (d / (Int.gcd n d : Int)), Fq.any, Fq.is (.int .i64 0)]) (ks := [none, some (7, Fq.pair (n / (Int.gcd n d : Int)) (d / (Int.gcd n d : Int))), none, none]) (new := []) E rfl (by kernel_rfl) rfl rfl (fun hp => ⟨?_, ?_, ?_, ?_, ?_, ?_, ?_, ?_, ?_, trivial⟩) ?_
      · exact q_loadInt (off := 0) hp (free_of rfl) trivial (List.mem_iff_getElem?.2 ⟨3, rfl⟩) (.inl rfl) (Nat.le_of_ble_eq_true rfl) (sq_out rfl rfl (fun _ _ => rfl)) (fun us w hl h => ld_num hl h)
      · exact q_loadInt (off := 0) hp (free_of rfl) trivial (List.mem_iff_getElem?.2 ⟨0, rfl⟩) (.inl rfl) (Nat.le_of_ble_eq_true rfl) (sq_out rfl rfl (fun _ _ => rfl)) (fun us w hl h => ld_num hl h)
      · exact q_call2 (F := (Fq.num n).P) (G := (Fq.num (Int.gcd n d : Int)).P) hp (free_of rfl) trivial (enq_R_Div) (sq_in 0 rfl rfl (by simp) rfl (fun v w h => h)) (sq_in 1 rfl rfl (by simp) rfl (fun v w h => h)) (fun v v' w h h' => exRDiv h h' (by omega) (Int.lt_of_lt_of_le hn.out (pw_le (by omega))) (Int.lt_of_lt_of_le B7.out (pw_le (by omega))))
      · exact q_loadInt (off := 0) hp (free_of rfl) trivial (List.mem_iff_getElem?.2 ⟨2, rfl⟩) (.inl rfl) (Nat.le_of_ble_eq_true rfl) (sq_out rfl rfl (fun _ _ => rfl)) (fun us w hl h => ld_num hl h)
      · exact q_loadInt (off := 0) hp (free_of rfl) trivial (List.mem_iff_getElem?.2 ⟨0, rfl⟩) (.inl rfl) (Nat.le_of_ble_eq_true rfl) (sq_out rfl rfl (fun _ _ => rfl)) (fun us w hl h => ld_num hl h)
      · exact q_call2 (F := (Fq.num d).P) (G := (Fq.num (Int.gcd n d : Int)).P) hp (free_of rfl) trivial (enq_R_Div) (sq_in 3 rfl rfl (by simp) rfl (fun v w h => h)) (sq_in 4 rfl rfl (by simp) rfl (fun v w h => h)) (fun v v' w h h' => exRDiv h h' (by omega) (Int.lt_of_lt_of_le hd.out (pw_le (by omega))) (Int.lt_of_lt_of_le B7.out (pw_le (by omega))))
      · exact q_buildRat (n := (n / (Int.gcd n d : Int))) (d0 := (d / (Int.gcd n d : Int))) hp (free_of rfl) trivial (sq_in 2 rfl rfl (by simp) rfl (fun v w h => h)) (sq_in 5 rfl rfl (by simp) rfl (fun v w h => h)) (fun v w h => h)
      · exact q_storeOldRat hp (List.mem_iff_getElem?.2 ⟨1, rfl⟩) rfl rfl (sq_out rfl rfl (fun _ _ => rfl)) (sq_in 6 rfl rfl (by simp) rfl (fun v w h => ratV_pair h)) (fun _ _ => trivial) (newik_ne rfl)
      · exact q_assign hp (free_of rfl) trivial (sq_const (fun _ => rfl))
      intro L vs w18 nb hL hC hn E18
      have e8 : vs 8 = .int .i64 0 := hC 8 (by simp)
      have E : Fr w [(b8_3, 2, Fq.num (Int.gcd n d : Int)), (b3, 4, Fq.pair (n / (Int.gcd n d : Int)) (d / (Int.gcd n d : Int))), (b2, 2, Fq.num d), (b1, 2, Fq.num n)] w18 := E18
      rw [lay_all hL]
      simp only [putAll, dstOf, List.length_cons, List.length_nil, Nat.zero_add, Nat.reduceAdd, List.getElem?_toArray, List.getElem?_cons_zero, List.getElem?_cons_succ, Option.bind_some, Act.put, List.setIfInBounds_toArray, List.set_cons_succ, List.set_cons_zero]
      rw [e8]
      generalize vs 0 = u18_0
      generalize vs 1 = u18_1
      generalize vs 2 = u18_2
      generalize vs 3 = u18_3
      generalize vs 4 = u18_4
      generalize vs 5 = u18_5
      generalize vs 6 = u18_6
      clear e8 hC hn E18 hL vs L nb
      clear T2
      have F := hidd (new_frac (n := n) h0 (if_neg hs).symm)
      obtain ⟨p0, p1, p2, p3, c0, c1, c2, c3, hP⟩ := box_pair (E.box 1 rfl)
      clear B7 B16 B17 hn hd
      go_wp2
      refine bodyPost_ret (v := .tuple #[.agg #[p0, p1, p2, p3], .int .i64 0]) ?_ rfl ⟨_, rfl, E.below, by have hQ := hP; rw [F.out.1, F.out.2] at hQ; first | exact ⟨_, _, rfl, hQ, rfl⟩ | (rw [if_neg h0]; exact ⟨_, _, rfl, hQ, rfl⟩)⟩
      simp [results, Try.results68, go_sem, c0, c1, c2, c3]

theorem exSNewP {w : World} {v v' : Value} {n d : Int} (h : Num w v n) (h' : Num w v' d) (h0 : d ≠ 0) (hn : ab n < pw 800) (hd : ab d < pw 800) : Calls Try.prog 68 #[v, v'] w fun e w' => ∃ v', e = .returned v' ∧ Below w.heap.size w w' ∧ (Fq.tup2 (Fq.pair (Rat.divInt n d).num ((Rat.divInt n d).den : Int)) (Fq.is (.int .i64 0))).P v' w' := by
  have := exSNew h h' hn hd
  rw [if_neg h0] at this
  exact this
set_option maxRecDepth 100000 in
set_option maxHeartbeats 4000000 in
theorem exSOver {w : World} {v v' : Value} {n d : Int} (h : Num w v n) (h' : Num w v' d) (h0 : d ≠ 0) (hn : ab n < pw 800) (hd : ab d < pw 800) :
    Calls Try.prog 39 #[v, v'] w fun e w' => ∃ v', e = .returned v' ∧ Below w.heap.size w w' ∧ Pair w' v' (Rat.divInt n d).num ((Rat.divInt n d).den : Int) := by
  replace hn := hidd hn
  replace hd := hidd hd
  obtain ⟨n0, ao0, k0, c0, rfl⟩ := h.parts
  obtain ⟨n1, ao1, k1, c1, rfl⟩ := h'.parts
  obtain ⟨w1, b1, hw1, hb1, hs1, E⟩ := fr_start w (F := Fq.num n) (us := [.bool n0, .slice ao0 k0 c0]) 29 rfl (by simp) (tame_int _ _ _ _) h
  obtain ⟨w2, b2, hw2, hb2, hs2, E⟩ := fr_more E hs1 (F := Fq.num d) (us := [.bool n1, .slice ao1 k1 c1]) 29 rfl (by simp) (tame_int _ _ _ _) (h'.mono E.below)
  obtain ⟨w3, b3, hw3, hb3, hs3, E⟩ := fr_more E hs2 (F := Fq.pair 0 0) (us := [.bool false, .slice none 0 0, .bool false, .slice none 0 0]) 31 rfl (by simp) (tame_rat _ _ _ _ _ _ _ _) (Pair.zero _)
  go_enter Try.func39, Try.ntmps39
  go_upto_region 1 with (fail)
  rw [← hw1]
  rw [← hw2]
  rw [← hw3]
  rw [← hb3]
  rw [← hb2]
  rw [← hb1]
  clear hw1 hw2 hw3 hb1 hb2 hb3 hs3 hs1 hs2
  have B4 : Hid (Rb (Rat.divInt n d) 800) := rb_divInt h0 (Int.lt_of_lt_of_le hn.out (pw_le (by omega))) (Int.lt_of_lt_of_le hd.out (pw_le (by omega)))
  refine region_fr (C := [Fq.num n, Fq.num d, Fq.tup2 (Fq.pair (Rat.divInt n d).num ((Rat.divInt n d).den : Int)) (Fq.is (.int .i64 0)), Fq.tup2 (Fq.pair (Rat.divInt n d).num ((Rat.divInt n d).den : Int)) (Fq.is (.int .i64 0)), Fq.pair (Rat.divInt n d).num ((Rat.divInt n d).den : Int), Fq.is (.int .i64 0), Fq.any, Fq.any, Fq.is (.int .i64 0)]) (ks := [none, none, none]) (new := [⟨6, 7, 4, Fq.pair 0 0, Fq.pair (Rat.divInt n d).num ((Rat.divInt n d).den : Int), none⟩]) E rfl (by kernel_rfl) rfl rfl (fun hp => ⟨?_, ?_, ?_, ?_, ?_, ?_, ?_, ?_, ?_, trivial⟩) ?_
  · exact q_loadInt (off := 0) hp (free_of rfl) trivial (List.mem_iff_getElem?.2 ⟨2, rfl⟩) (.inl rfl) (Nat.le_of_ble_eq_true rfl) (sq_out rfl rfl (fun _ _ => rfl)) (fun us w hl h => ld_num hl h)
  · exact q_loadInt (off := 0) hp (free_of rfl) trivial (List.mem_iff_getElem?.2 ⟨1, rfl⟩) (.inl rfl) (Nat.le_of_ble_eq_true rfl) (sq_out rfl rfl (fun _ _ => rfl)) (fun us w hl h => ld_num hl h)
  · exact q_call2 (F := (Fq.num n).P) (G := (Fq.num d).P) hp (free_of rfl) trivial (enq_S_New) (sq_in 0 rfl rfl (by simp) rfl (fun v w h => h)) (sq_in 1 rfl rfl (by simp) rfl (fun v w h => h)) (fun v v' w h h' => exSNewP h h' h0 (Int.lt_of_lt_of_le hn.out (pw_le (by omega))) (Int.lt_of_lt_of_le hd.out (pw_le (by omega))))
  · exact q_move hp (free_of rfl) trivial (sq_in 2 rfl rfl (by simp) rfl (fun v w h => h))
  · exact q_extract2 hp (free_of rfl) trivial (sq_in 3 rfl rfl (by simp) rfl (fun v w h => h)) (fun v1 v2 w h1 h2 => ⟨_, rfl, h1⟩)
  · exact q_extract2 hp (free_of rfl) trivial (sq_in 3 rfl rfl (by simp) rfl (fun v w h => h)) (fun v1 v2 w h1 h2 => ⟨_, rfl, h2⟩)
  · exact q_allocRat hp (List.mem_iff_getElem?.2 ⟨0, rfl⟩) rfl rfl rfl rfl (Nat.ne_of_beq_eq_false rfl) (fun _ _ => trivial) (old_ne rfl) (newk_ne rfl) (fun w => Pair.zero w)
  · exact q_storeNewRat hp (List.mem_iff_getElem?.2 ⟨0, rfl⟩) rfl rfl rfl (own_ptr rfl rfl (by simp) rfl) (sq_in 4 rfl rfl (by simp) rfl (fun v w h => ratV_pair h)) (fun _ _ => trivial) (old_ne rfl) (newi_ne rfl)
  · exact q_assign hp (free_of rfl) trivial (sq_in 5 rfl rfl (by simp) rfl (fun v w h => h))
  intro L vs w5 nb hL hC hn E5
  have e5 : vs 5 = .int .i64 0 := hC 5 (by simp)
  have e8 : vs 8 = .int .i64 0 := hC 8 (by simp)
  have e6 : vs 6 = .pointer (some ⟨nb 6, 0, none⟩) := hn _ (List.mem_iff_getElem?.2 ⟨0, rfl⟩)
  have E : Fr w [(nb 6, 4, Fq.pair (Rat.divInt n d).num ((Rat.divInt n d).den : Int)), (b3, 4, Fq.pair 0 0), (b2, 2, Fq.num d), (b1, 2, Fq.num n)] w5 := E5
  rw [lay_all hL]
  simp only [putAll, dstOf, List.length_cons, List.length_nil, Nat.zero_add, Nat.reduceAdd, List.getElem?_toArray, List.getElem?_cons_zero, List.getElem?_cons_succ, Option.bind_some, Act.put, List.setIfInBounds_toArray, List.set_cons_succ, List.set_cons_zero]
  rw [e5, e8, e6]
  generalize nb 6 = b5_6 at E ⊢
  generalize vs 0 = u5_0
  generalize vs 1 = u5_1
  generalize vs 2 = u5_2
  generalize vs 3 = u5_3
  generalize vs 4 = u5_4
  clear e5 e8 e6 hC hn E5 hL vs L nb
  go_upto_region 2 with (fail)
  refine region_fr (C := [Fq.pair (Rat.divInt n d).num ((Rat.divInt n d).den : Int), Fq.any]) (ks := [none, some (1, Fq.pair (Rat.divInt n d).num ((Rat.divInt n d).den : Int)), none, none]) (new := []) E rfl (by kernel_rfl) rfl rfl (fun hp => ⟨?_, ?_, trivial⟩) ?_
  · exact q_loadRat hp (free_of rfl) trivial (List.mem_iff_getElem?.2 ⟨0, rfl⟩) (.inl rfl) rfl (sq_out rfl rfl (fun _ _ => rfl)) (fun us w hl h => h)
  · exact q_storeOldRat hp (List.mem_iff_getElem?.2 ⟨1, rfl⟩) rfl rfl (sq_out rfl rfl (fun _ _ => rfl)) (sq_in 0 rfl rfl (by simp) rfl (fun v w h => ratV_pair h)) (fun _ _ => trivial) (newik_ne rfl)
  intro L vs w6 nb hL hC hn E6
  have E : Fr w [(b5_6, 4, Fq.pair (Rat.divInt n d).num ((Rat.divInt n d).den : Int)), (b3, 4, Fq.pair (Rat.divInt n d).num ((Rat.divInt n d).den : Int)), (b2, 2, Fq.num d), (b1, 2, Fq.num n)] w6 := E6
  rw [lay_all hL]
  simp only [putAll, dstOf, List.length_cons, List.length_nil, Nat.zero_add, Nat.reduceAdd, List.getElem?_toArray, List.getElem?_cons_zero, List.getElem?_cons_succ, Option.bind_some, Act.put, List.setIfInBounds_toArray, List.set_cons_succ, List.set_cons_zero]
  generalize vs 0 = u6_0
  clear  hC hn E6 hL vs L nb
  obtain ⟨p0, p1, p2, p3, c0, c1, c2, c3, hP⟩ := box_pair (E.box 1 rfl)
  clear B4 hn hd
  go_wp2
  refine bodyPost_ret (v := .agg #[p0, p1, p2, p3]) ?_ rfl ⟨_, rfl, E.below, hP⟩
  simp [results, Try.results39, go_sem, c0, c1, c2, c3]

set_option maxRecDepth 100000 in
set_option maxHeartbeats 4000000 in
theorem exSOf {w : World} {n d : Int} (h0 : d ≠ 0) (hn : Hid (ab n < pw 3 ∧ -9223372036854775808 ≤ n ∧ n ≤ 9223372036854775807)) (hd : Hid (ab d < pw 3 ∧ -9223372036854775808 ≤ d ∧ d ≤ 9223372036854775807)) :
    Calls Try.prog 19 #[.int .i64 n, .int .i64 d] w fun e w' => ∃ v', e = .returned v' ∧ Below w.heap.size w w' ∧ Pair w' v' (Rat.divInt n d).num ((Rat.divInt n d).den : Int) := by
  obtain ⟨w1, b1, hw1, hb1, hs1, E⟩ := fr_start w (F := Fq.pair 0 0) (us := [.bool false, .slice none 0 0, .bool false, .slice none 0 0]) 31 rfl (by simp) (tame_rat _ _ _ _ _ _ _ _) (Pair.zero _)
  go_enter Try.func19, Try.ntmps19
  go_upto_region 1 with (fail)
  rw [← hw1]
  rw [← hb1]
  clear hw1 hb1 hs1
  have B2 : Hid (Rb (Rat.divInt n d) 3) := rb_divInt h0 (Int.lt_of_lt_of_le hn.out.1 (pw_le (by omega))) (Int.lt_of_lt_of_le hd.out.1 (pw_le (by omega)))
  refine region_fr (C := [Fq.is (.int .i64 n), Fq.num n, Fq.is (.int .i64 d), Fq.num d, Fq.pair (Rat.divInt n d).num ((Rat.divInt n d).den : Int), Fq.any]) (ks := [some (5, Fq.pair (Rat.divInt n d).num ((Rat.divInt n d).den : Int))]) (new := []) E rfl (by kernel_rfl) rfl rfl (fun hp => ⟨?_, ?_, ?_, ?_, ?_, ?_, trivial⟩) ?_
  · exact q_move hp (free_of rfl) trivial (sq_out rfl rfl (fun _ _ => rfl))
  · exact q_call1 (F := (Fq.is (.int .i64 n)).P) hp (free_of rfl) trivial (enq_R_Of) (sq_in 0 rfl rfl (by simp) rfl (fun v w h => h)) (fun v w h => (by subst h; exact rOfK w n hn.out.2.1 hn.out.2.2))
  · exact q_move hp (free_of rfl) trivial (sq_out rfl rfl (fun _ _ => rfl))
  · exact q_call1 (F := (Fq.is (.int .i64 d)).P) hp (free_of rfl) trivial (enq_R_Of) (sq_in 2 rfl rfl (by simp) rfl (fun v w h => h)) (fun v w h => (by subst h; exact rOfK w d hd.out.2.1 hd.out.2.2))
  · exact q_call2 (F := (Fq.num n).P) (G := (Fq.num d).P) hp (free_of rfl) trivial (enq_S_over) (sq_in 1 rfl rfl (by simp) rfl (fun v w h => h)) (sq_in 3 rfl rfl (by simp) rfl (fun v w h => h)) (fun v v' w h h' => exSOver h h' h0 (Int.lt_of_lt_of_le hn.out.1 (pw_le (by omega))) (Int.lt_of_lt_of_le hd.out.1 (pw_le (by omega))))
  · exact q_storeOldRat hp (List.mem_iff_getElem?.2 ⟨0, rfl⟩) rfl rfl (sq_out rfl rfl (fun _ _ => rfl)) (sq_in 4 rfl rfl (by simp) rfl (fun v w h => ratV_pair h)) (fun _ _ => trivial) (newik_ne rfl)
  intro L vs w3 nb hL hC hn E3
  have e0 : vs 0 = .int .i64 n := hC 0 (by simp)
  have e2 : vs 2 = .int .i64 d := hC 2 (by simp)
  have E : Fr w [(b1, 4, Fq.pair (Rat.divInt n d).num ((Rat.divInt n d).den : Int))] w3 := E3
  rw [lay_all hL]
  simp only [putAll, dstOf, List.length_cons, List.length_nil, Nat.zero_add, Nat.reduceAdd, List.getElem?_toArray, List.getElem?_cons_zero, List.getElem?_cons_succ, Option.bind_some, Act.put, List.setIfInBounds_toArray, List.set_cons_succ, List.set_cons_zero]
  rw [e0, e2]
  generalize vs 1 = u3_1
  generalize vs 3 = u3_3
  generalize vs 4 = u3_4
  clear e0 e2 hC hn E3 hL vs L nb
  obtain ⟨p0, p1, p2, p3, c0, c1, c2, c3, hP⟩ := box_pair (E.box 0 rfl)
  clear B2
  go_wp2
  refine bodyPost_ret (v := .agg #[p0, p1, p2, p3]) ?_ rfl ⟨_, rfl, E.below, hP⟩
  simp [results, Try.results19, go_sem, c0, c1, c2, c3]

theorem exRSameB {w : World} {v v' : Value} {a b : Int} {t : Bool} (h : Num w v a) (h' : Num w v' b) (ht : decide (a = b) = t) : Calls Try.prog 31 #[v, v'] w fun e w' => ∃ v', e = .returned v' ∧ Below w.heap.size w w' ∧ v' = .bool t := by
  have := exRSame h h'
  rw [ht] at this
  exact this

set_option maxRecDepth 100000 in
set_option maxHeartbeats 4000000 in
theorem exSSame {w : World} {v v' : Value} {n d n' d' : Int} (h : Pair w v n d) (h' : Pair w v' n' d') :
    Calls Try.prog 12 #[v, v'] w fun e w' => ∃ v', e = .returned v' ∧ Below w.heap.size w w' ∧ v' = .bool (decide (n = n' ∧ d = d')) := by
  obtain ⟨n0, ao0, k0, c0, n0', ao0', k0', c0', rfl, _⟩ := ratV_pair h
  obtain ⟨n1, ao1, k1, c1, n1', ao1', k1', c1', rfl, _⟩ := ratV_pair h'
  obtain ⟨w1, b1, hw1, hb1, hs1, E⟩ := fr_start w (F := Fq.pair n d) (us := [.bool n0, .slice ao0 k0 c0, .bool n0', .slice ao0' k0' c0']) 31 rfl (by simp) (tame_rat _ _ _ _ _ _ _ _) h
  obtain ⟨w2, b2, hw2, hb2, hs2, E⟩ := fr_more E hs1 (F := Fq.pair (n') (d')) (us := [.bool n1, .slice ao1 k1 c1, .bool n1', .slice ao1' k1' c1']) 31 rfl (by simp) (tame_rat _ _ _ _ _ _ _ _) (h'.mono E.below)
  go_enter Try.func12, Try.ntmps12
  go_upto_region 1 with (fail)
  rw [← hw1]
  rw [← hw2]
  rw [← hb2]
  rw [← hb1]
  clear hw1 hw2 hb1 hb2 hs2 hs1
  by_cases hc : n = n'
  · subst hc
    by_cases hd : d = d'
    · subst hd
      refine region_fr (C := [Fq.is (.pointer (some ⟨b1, 0, none⟩)), Fq.num n, Fq.is (.pointer (some ⟨b2, 0, none⟩)), Fq.num n, Fq.is (.bool true), Fq.is (.bool true), Fq.is (.pointer (some ⟨b1, 2, none⟩)), Fq.num d, Fq.is (.pointer (some ⟨b2, 2, none⟩)), Fq.num d, Fq.is (.bool true), Fq.is (.bool true), Fq.is (.bool true)]) (ks := [none, none]) (new := []) E rfl (by kernel_rfl) rfl rfl (fun hp => ⟨?_, ?_, ?_, ?_, ?_, ?_, ?_, ?_, ?_, ?_, ?_, ?_, ?_, trivial⟩) ?_
      · exact q_addr (b := b1) (off := 0) (off' := 0) hp (free_of rfl) trivial (sq_out rfl rfl (fun _ _ => rfl)) (fun ρ w h => by simp [execOp, go_sem, h]) (fun _ => rfl)
      · exact q_loadInt (off := 0) hp (free_of rfl) trivial (List.mem_iff_getElem?.2 ⟨1, rfl⟩) (.inl rfl) (Nat.le_of_ble_eq_true rfl) (sq_in 0 rfl rfl (by simp) rfl (fun v w h => h)) (fun us w hl h => ld_pn hl h)
      · exact q_addr (b := b2) (off := 0) (off' := 0) hp (free_of rfl) trivial (sq_out rfl rfl (fun _ _ => rfl)) (fun ρ w h => by simp [execOp, go_sem, h]) (fun _ => rfl)
      · exact q_loadInt (off := 0) hp (free_of rfl) trivial (List.mem_iff_getElem?.2 ⟨0, rfl⟩) (.inl rfl) (Nat.le_of_ble_eq_true rfl) (sq_in 2 rfl rfl (by simp) rfl (fun v w h => h)) (fun us w hl h => ld_pn hl h)
      · exact q_call2 (F := (Fq.num n).P) (G := (Fq.num n).P) hp (free_of rfl) trivial (enq_R_Same) (sq_in 1 rfl rfl (by simp) rfl (fun v w h => h)) (sq_in 3 rfl rfl (by simp) rfl (fun v w h => h)) (fun v v' w h h' => exRSameB h h' (by simp))
      · exact q_move hp (free_of rfl) trivial (sq_in 4 rfl rfl (by simp) rfl (fun v w h => h))
      · exact q_addr (b := b1) (off := 0) (off' := 2) hp (free_of rfl) (gq_some rfl rfl (by simp) rfl (fun v w h => h)) (sq_out rfl rfl (fun _ _ => rfl)) (fun ρ w h => by simp [execOp, go_sem, h]) (fun _ => rfl)
      · exact q_loadInt (off := 2) hp (free_of rfl) (gq_some rfl rfl (by simp) rfl (fun v w h => h)) (List.mem_iff_getElem?.2 ⟨1, rfl⟩) (.inl rfl) (Nat.le_of_ble_eq_true rfl) (sq_in 6 rfl rfl (by simp) rfl (fun v w h => h)) (fun us w hl h => ld_pd hl h)
      · exact q_addr (b := b2) (off := 0) (off' := 2) hp (free_of rfl) (gq_some rfl rfl (by simp) rfl (fun v w h => h)) (sq_out rfl rfl (fun _ _ => rfl)) (fun ρ w h => by simp [execOp, go_sem, h]) (fun _ => rfl)
      · exact q_loadInt (off := 2) hp (free_of rfl) (gq_some rfl rfl (by simp) rfl (fun v w h => h)) (List.mem_iff_getElem?.2 ⟨0, rfl⟩) (.inl rfl) (Nat.le_of_ble_eq_true rfl) (sq_in 8 rfl rfl (by simp) rfl (fun v w h => h)) (fun us w hl h => ld_pd hl h)
      · exact q_call2 (F := (Fq.num d).P) (G := (Fq.num d).P) hp (free_of rfl) (gq_some rfl rfl (by simp) rfl (fun v w h => h)) (enq_R_Same) (sq_in 7 rfl rfl (by simp) rfl (fun v w h => h)) (sq_in 9 rfl rfl (by simp) rfl (fun v w h => h)) (fun v v' w h h' => exRSameB h h' (by simp))
      · exact q_two (F := fun v _ => v = .bool true) (G := fun v _ => v = .bool true) hp (free_of rfl) trivial (sq_in 5 rfl rfl (by simp) rfl (fun v w h => h)) (sq_in 10 rfl rfl (by simp) rfl (fun v w h => h)) (fun ρ w hc h h' => ⟨_, by simp [execOp, go_sem, h, h'], rfl⟩)
      · exact q_assign hp (free_of rfl) trivial (sq_in 11 rfl rfl (by simp) rfl (fun v w h => h))
      intro L vs w3 nb hL hC hn E3
      have e0 : vs 0 = .pointer (some ⟨b1, 0, none⟩) := hC 0 (by simp)
      have e2 : vs 2 = .pointer (some ⟨b2, 0, none⟩) := hC 2 (by simp)
      have e4 : vs 4 = .bool true := hC 4 (by simp)
      have e5 : vs 5 = .bool true := hC 5 (by simp)
      have e6 : vs 6 = .pointer (some ⟨b1, 2, none⟩) := hC 6 (by simp)
      have e8 : vs 8 = .pointer (some ⟨b2, 2, none⟩) := hC 8 (by simp)
      have e10 : vs 10 = .bool true := hC 10 (by simp)
      have e11 : vs 11 = .bool true := hC 11 (by simp)
      have e12 : vs 12 = .bool true := hC 12 (by simp)
      have E : Fr w [(b2, 4, Fq.pair n d), (b1, 4, Fq.pair n d)] w3 := E3
      rw [lay_all hL]
      simp only [putAll, dstOf, List.length_cons, List.length_nil, Nat.zero_add, Nat.reduceAdd, List.getElem?_toArray, List.getElem?_cons_zero, List.getElem?_cons_succ, Option.bind_some, Act.put, List.setIfInBounds_toArray, List.set_cons_succ, List.set_cons_zero]
      rw [e0, e2, e4, e5, e6, e8, e10, e11, e12]
      generalize vs 1 = u3_1
      generalize vs 3 = u3_3
      generalize vs 7 = u3_7
      generalize vs 9 = u3_9
      clear e0 e2 e4 e5 e6 e8 e10 e11 e12 hC hn E3 hL vs L nb
      go_wp2
      refine bodyPost_ret (v := .bool true) ?_ rfl (by first | exact ⟨_, rfl, E.below, by simp⟩ | exact ⟨_, rfl, E.below⟩ | exact ⟨rfl, E.below⟩)
      simp [results, Try.results12, go_sem]
    · refine region_fr (C := [Fq.is (.pointer (some ⟨b1, 0, none⟩)), Fq.num n, Fq.is (.pointer (some ⟨b2, 0, none⟩)), Fq.num n, Fq.is (.bool true), Fq.is (.bool true), Fq.is (.pointer (some ⟨b1, 2, none⟩)), Fq.num d, Fq.is (.pointer (some ⟨b2, 2, none⟩)), Fq.num (d'), Fq.is (.bool false), Fq.is (.bool false), Fq.is (.bool false)]) (ks := [none, none]) (new := []) E rfl (by kernel_rfl) rfl rfl (fun hp => ⟨?_, ?_, ?_, ?_, ?_, ?_, ?_, ?_, ?_, ?_, ?_, ?_, ?_, trivial⟩) ?_
      · exact q_addr (b := b1) (off := 0) (off' := 0) hp (free_of rfl) trivial (sq_out rfl rfl (fun _ _ => rfl)) (fun ρ w h => by simp [execOp, go_sem, h]) (fun _ => rfl)
      · exact q_loadInt (off := 0) hp (free_of rfl) trivial (List.mem_iff_getElem?.2 ⟨1, rfl⟩) (.inl rfl) (Nat.le_of_ble_eq_true rfl) (sq_in 0 rfl rfl (by simp) rfl (fun v w h => h)) (fun us w hl h => ld_pn hl h)
      · exact q_addr (b := b2) (off := 0) (off' := 0) hp (free_of rfl) trivial (sq_out rfl rfl (fun _ _ => rfl)) (fun ρ w h => by simp [execOp, go_sem, h]) (fun _ => rfl)
      · exact q_loadInt (off := 0) hp (free_of rfl) trivial (List.mem_iff_getElem?.2 ⟨0, rfl⟩) (.inl rfl) (Nat.le_of_ble_eq_true rfl) (sq_in 2 rfl rfl (by simp) rfl (fun v w h => h)) (fun us w hl h => ld_pn hl h)
      · exact q_call2 (F := (Fq.num n).P) (G := (Fq.num n).P) hp (free_of rfl) trivial (enq_R_Same) (sq_in 1 rfl rfl (by simp) rfl (fun v w h => h)) (sq_in 3 rfl rfl (by simp) rfl (fun v w h => h)) (fun v v' w h h' => exRSameB h h' (by simp))
      · exact q_move hp (free_of rfl) trivial (sq_in 4 rfl rfl (by simp) rfl (fun v w h => h))
      · exact q_addr (b := b1) (off := 0) (off' := 2) hp (free_of rfl) (gq_some rfl rfl (by simp) rfl (fun v w h => h)) (sq_out rfl rfl (fun _ _ => rfl)) (fun ρ w h => by simp [execOp, go_sem, h]) (fun _ => rfl)
      · exact q_loadInt (off := 2) hp (free_of rfl) (gq_some rfl rfl (by simp) rfl (fun v w h => h)) (List.mem_iff_getElem?.2 ⟨1, rfl⟩) (.inl rfl) (Nat.le_of_ble_eq_true rfl) (sq_in 6 rfl rfl (by simp) rfl (fun v w h => h)) (fun us w hl h => ld_pd hl h)
      · exact q_addr (b := b2) (off := 0) (off' := 2) hp (free_of rfl) (gq_some rfl rfl (by simp) rfl (fun v w h => h)) (sq_out rfl rfl (fun _ _ => rfl)) (fun ρ w h => by simp [execOp, go_sem, h]) (fun _ => rfl)
      · exact q_loadInt (off := 2) hp (free_of rfl) (gq_some rfl rfl (by simp) rfl (fun v w h => h)) (List.mem_iff_getElem?.2 ⟨0, rfl⟩) (.inl rfl) (Nat.le_of_ble_eq_true rfl) (sq_in 8 rfl rfl (by simp) rfl (fun v w h => h)) (fun us w hl h => ld_pd hl h)
      · exact q_call2 (F := (Fq.num d).P) (G := (Fq.num (d')).P) hp (free_of rfl) (gq_some rfl rfl (by simp) rfl (fun v w h => h)) (enq_R_Same) (sq_in 7 rfl rfl (by simp) rfl (fun v w h => h)) (sq_in 9 rfl rfl (by simp) rfl (fun v w h => h)) (fun v v' w h h' => exRSameB h h' (by rw [decide_eq_false hd]))
      · exact q_two (F := fun v _ => v = .bool true) (G := fun v _ => v = .bool false) hp (free_of rfl) trivial (sq_in 5 rfl rfl (by simp) rfl (fun v w h => h)) (sq_in 10 rfl rfl (by simp) rfl (fun v w h => h)) (fun ρ w hc h h' => ⟨_, by simp [execOp, go_sem, h, h'], rfl⟩)
      · exact q_assign hp (free_of rfl) trivial (sq_in 11 rfl rfl (by simp) rfl (fun v w h => h))
      intro L vs w4 nb hL hC hn E4
      have e0 : vs 0 = .pointer (some ⟨b1, 0, none⟩) := hC 0 (by simp)
      have e2 : vs 2 = .pointer (some ⟨b2, 0, none⟩) := hC 2 (by simp)
      have e4 : vs 4 = .bool true := hC 4 (by simp)
      have e5 : vs 5 = .bool true := hC 5 (by simp)
      have e6 : vs 6 = .pointer (some ⟨b1, 2, none⟩) := hC 6 (by simp)
      have e8 : vs 8 = .pointer (some ⟨b2, 2, none⟩) := hC 8 (by simp)
      have e10 : vs 10 = .bool false := hC 10 (by simp)
      have e11 : vs 11 = .bool false := hC 11 (by simp)
      have e12 : vs 12 = .bool false := hC 12 (by simp)
      have E : Fr w [(b2, 4, Fq.pair n (d')), (b1, 4, Fq.pair n d)] w4 := E4
      rw [lay_all hL]
      simp only [putAll, dstOf, List.length_cons, List.length_nil, Nat.zero_add, Nat.reduceAdd, List.getElem?_toArray, List.getElem?_cons_zero, List.getElem?_cons_succ, Option.bind_some, Act.put, List.setIfInBounds_toArray, List.set_cons_succ, List.set_cons_zero]
      rw [e0, e2, e4, e5, e6, e8, e10, e11, e12]
      generalize vs 1 = u4_1
      generalize vs 3 = u4_3
      generalize vs 7 = u4_7
      generalize vs 9 = u4_9
      clear e0 e2 e4 e5 e6 e8 e10 e11 e12 hC hn E4 hL vs L nb
      go_wp2
      refine bodyPost_ret (v := .bool false) ?_ rfl (by first | exact ⟨_, rfl, E.below, by simp [hd]⟩ | exact ⟨_, rfl, E.below⟩ | exact ⟨rfl, E.below⟩)
      simp [results, Try.results12, go_sem]
  · refine region_fr (C := [Fq.is (.pointer (some ⟨b1, 0, none⟩)), Fq.num n, Fq.is (.pointer (some ⟨b2, 0, none⟩)), Fq.num (n'), Fq.is (.bool false), Fq.is (.bool false), Fq.is (undef), Fq.is (undef), Fq.is (undef), Fq.is (undef), Fq.is (undef), Fq.is (.bool false), Fq.is (.bool false)]) (ks := [none, none]) (new := []) E rfl (by kernel_rfl) rfl rfl (fun hp => ⟨?_, ?_, ?_, ?_, ?_, ?_, ?_, ?_, ?_, ?_, ?_, ?_, ?_, trivial⟩) ?_
    · exact q_addr (b := b1) (off := 0) (off' := 0) hp (free_of rfl) trivial (sq_out rfl rfl (fun _ _ => rfl)) (fun ρ w h => by simp [execOp, go_sem, h]) (fun _ => rfl)
    · exact q_loadInt (off := 0) hp (free_of rfl) trivial (List.mem_iff_getElem?.2 ⟨1, rfl⟩) (.inl rfl) (Nat.le_of_ble_eq_true rfl) (sq_in 0 rfl rfl (by simp) rfl (fun v w h => h)) (fun us w hl h => ld_pn hl h)
    · exact q_addr (b := b2) (off := 0) (off' := 0) hp (free_of rfl) trivial (sq_out rfl rfl (fun _ _ => rfl)) (fun ρ w h => by simp [execOp, go_sem, h]) (fun _ => rfl)
    · exact q_loadInt (off := 0) hp (free_of rfl) trivial (List.mem_iff_getElem?.2 ⟨0, rfl⟩) (.inl rfl) (Nat.le_of_ble_eq_true rfl) (sq_in 2 rfl rfl (by simp) rfl (fun v w h => h)) (fun us w hl h => ld_pn hl h)
    · exact q_call2 (F := (Fq.num n).P) (G := (Fq.num (n')).P) hp (free_of rfl) trivial (enq_R_Same) (sq_in 1 rfl rfl (by simp) rfl (fun v w h => h)) (sq_in 3 rfl rfl (by simp) rfl (fun v w h => h)) (fun v v' w h h' => exRSameB h h' (by rw [decide_eq_false hc]))
    · exact q_move hp (free_of rfl) trivial (sq_in 4 rfl rfl (by simp) rfl (fun v w h => h))
    · exact q_skip hp (free_of rfl) rfl (gq_some rfl rfl (by simp) rfl (fun v w h => h)) (fun _ => rfl)
    · exact q_skip hp (free_of rfl) rfl (gq_some rfl rfl (by simp) rfl (fun v w h => h)) (fun _ => rfl)
    · exact q_skip hp (free_of rfl) rfl (gq_some rfl rfl (by simp) rfl (fun v w h => h)) (fun _ => rfl)
    · exact q_skip hp (free_of rfl) rfl (gq_some rfl rfl (by simp) rfl (fun v w h => h)) (fun _ => rfl)
    · exact q_skip hp (free_of rfl) rfl (gq_some rfl rfl (by simp) rfl (fun v w h => h)) (fun _ => rfl)
    · exact q_two (F := fun v _ => v = .bool false) (G := fun v _ => v = .bool false) hp (free_of rfl) trivial (sq_in 5 rfl rfl (by simp) rfl (fun v w h => h)) (sq_const (fun _ => rfl)) (fun ρ w hc h h' => ⟨_, by simp [execOp, go_sem, h, h'], rfl⟩)
    · exact q_assign hp (free_of rfl) trivial (sq_in 11 rfl rfl (by simp) rfl (fun v w h => h))
    intro L vs w5 nb hL hC hn E5
    have e0 : vs 0 = .pointer (some ⟨b1, 0, none⟩) := hC 0 (by simp)
    have e2 : vs 2 = .pointer (some ⟨b2, 0, none⟩) := hC 2 (by simp)
    have e4 : vs 4 = .bool false := hC 4 (by simp)
    have e5 : vs 5 = .bool false := hC 5 (by simp)
    have e6 : vs 6 = undef := hC 6 (by simp)
    have e7 : vs 7 = undef := hC 7 (by simp)
    have e8 : vs 8 = undef := hC 8 (by simp)
    have e9 : vs 9 = undef := hC 9 (by simp)
    have e10 : vs 10 = undef := hC 10 (by simp)
    have e11 : vs 11 = .bool false := hC 11 (by simp)
    have e12 : vs 12 = .bool false := hC 12 (by simp)
    have E : Fr w [(b2, 4, Fq.pair (n') (d')), (b1, 4, Fq.pair n d)] w5 := E5
    rw [lay_all hL]
    simp only [putAll, dstOf, List.length_cons, List.length_nil, Nat.zero_add, Nat.reduceAdd, List.getElem?_toArray, List.getElem?_cons_zero, List.getElem?_cons_succ, Option.bind_some, Act.put, List.setIfInBounds_toArray, List.set_cons_succ, List.set_cons_zero]
    rw [e0, e2, e4, e5, e6, e7, e8, e9, e10, e11, e12]
    generalize vs 1 = u5_1
    generalize vs 3 = u5_3
    clear e0 e2 e4 e5 e6 e7 e8 e9 e10 e11 e12 hC hn E5 hL vs L nb
    go_wp2
    refine bodyPost_ret (v := .bool false) ?_ rfl (by first | exact ⟨_, rfl, E.below, by simp [hc]⟩ | exact ⟨_, rfl, E.below⟩ | exact ⟨rfl, E.below⟩)
    simp [results, Try.results12, go_sem]

end Go.Proofs.Ytlehjhlihahjhaa
