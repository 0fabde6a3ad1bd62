/- Walks of the reference: Add, Sub, Mul. Walks of the reference: divide. Walks of the reference: divide of long sizes. -/
import Derived.Test.YtjpbmghdamcdcaaRc
import Derived.Test.YtjpbmghdamcdcaaLw
import Derived.BigRegion
namespace Go.Proofs.Ytjpbmghdamcdcaa
open Go Go.RowKit

theorem sgn_same (b : Bool) (x y : Int) : sgn b (x + y) = sgn b x + sgn b y := by cases b <;> simp [sgn]; omega

set_option maxHeartbeats 2000000 in
theorem rAdd_any (w : World) (na nb : Bool) (ax ay : Option Addr) (n m cx cy : Nat) (xs ys : List Int) (hX : Sl w ax n cx xs) (hY : Sl w ay m cy ys) (hcx : Canon xs) (hcy : Canon ys) (hb1 : n ≤ 1000000) (hb2 : m ≤ 1000000) :
    Calls Try.prog 20 #[.agg #[.bool na, .slice ax n cx], .agg #[.bool nb, .slice ay m cy]] w (GivesInt w (sgn na (val xs) + sgn nb (val ys))) := by
  obtain ⟨w0, hw0, hA, hB, hC, hbl, HS⟩ := boxes3 w (.bool na) (.slice ax n cx) (.bool nb) (.slice ay m cy) 27
  have HCX := hidd hcx
  have HCY := hidd hcy
  clear hcx hcy
  by_cases hab : na = nb
  · subst hab
    have HE : Hid (sgn na (val xs + val ys) = sgn na (val xs) + sgn na (val ys)) := sgn_same _ _ _
    have hnn : (na == na) = true := by simp
    go_enter Try.func20, Try.ntmps20
    go_wp2
    rw [← hw0]
    clear hw0
    have hXd := (hX.mono hbl).drew
    have hYd := (hY.mono hbl).drew
    have hCd : IntBox w0.drew (w.heap.size + 1 + 1) (.bool false) (.slice none 0 0) := hC
    have hcut : w.heap.size + 2 ≤ w0.heap.size := by have := HS.out; omega
    obtain ⟨ca0, ca1, _, _⟩ := hA
    obtain ⟨cb0, cb1, _, _⟩ := hB
    go_region_held3 (fun W => w.heap.size + 2 ≤ W.heap.size ∧ (∀ b o, b < w.heap.size + 2 → W.cell? ⟨b, o, none⟩ = w0.cell? ⟨b, o, none⟩) ∧ ∀ b o, b < w.heap.size + 2 → W.frozen? ⟨b, o, none⟩ = w0.frozen? ⟨b, o, none⟩)
      (first | exact Kept.start hcut | assumption | exact Kept.call (by assumption) (by assumption) | exact Kept.set (Kept.set (by assumption) (by omega) _) (by omega) _)
      (first | (go_at_call 66; (with_reducible refine (plus_any _ _ _ _ _ _ _ _ _ hXd hYd (by omega) (by omega)).mono ?_); rintro e w2 ⟨az, cz, lz, zs, rfl, hsz, hlz, hvz, hB2⟩) | (go_at_call 52; (with_reducible refine (made_any _ _ _ _ _ _ hsz (by omega)).mono ?_); rintro e w3 ⟨v, rfl, ⟨ng, ao, nn, cc, rs, rfl, hrs, hrc, hrn, hrz⟩, hb3⟩; obtain ⟨e0, e1, e2, e3⟩ := (hCd.mono hB2 hCd.lt).mono hb3 (Nat.lt_of_lt_of_le hCd.lt hB2.size)))
    go_wp2
    refine bodyPost_ret (v := .agg #[.bool ng, .slice ao nn cc]) ?_ rfl ?_
    · simp [results, Try.results20, go_sem, e0, e1]
    · have hb4 : Below w.heap.size w w3 := (hbl.drew.trans (hB2.mono (by have := HS.out; simp; omega))).trans (hb3.mono (by have := HS.out; have := hB2.size; simp at this; omega))
      exact gives_store ⟨e0, e1, e2, e3⟩ hrs hrc hrn (by rw [← hrz, hvz]; exact HE.out.symm) hb4 (by omega)
  · have hnn : (na == nb) = false := by simpa using hab
    go_enter Try.func20, Try.ntmps20
    go_wp2_with fail
    rw [← hw0]
    clear hw0
    refine (size_any _ _ _ _ _ _ _ _ _ (hX.mono hbl) (hY.mono hbl) HCX.out HCY.out (by omega) (by omega)).mono ?_
    rintro e w1 ⟨rfl, hd⟩
    have hbl1 : Below w.heap.size w w1 := hbl.trans (hd.below _)
    obtain ⟨d, hw1⟩ := hd
    have hA1 : IntBox w1 w.heap.size (.bool na) (.slice ax n cx) := by rw [hw1]; exact hA
    have hB1 : IntBox w1 (w.heap.size + 1) (.bool nb) (.slice ay m cy) := by rw [hw1]; exact hB
    have hC1 : IntBox w1 (w.heap.size + 1 + 1) (.bool false) (.slice none 0 0) := by rw [hw1]; exact hC
    have HS1 : Hid (w1.heap.size = w.heap.size + 3) := by show _ = _; rw [hw1]; exact HS.out
    clear hw1 hA hB hC hbl HS
    rename Below w.heap.size w w1 => hbl
    rename IntBox w1 w.heap.size (.bool na) (.slice ax n cx) => hA
    rename IntBox w1 (w.heap.size + 1) (.bool nb) (.slice ay m cy) => hB
    rename IntBox w1 (w.heap.size + 1 + 1) (.bool false) (.slice none 0 0) => hC
    rename Hid (w1.heap.size = w.heap.size + 3) => HS
    have hx0 := val_nonneg hX.digs
    have hy0 := val_nonneg hY.digs
    by_cases hle : val ys ≤ val xs
    · have HL := hidd hle
      have hge : decide (cmpI (val xs) (val ys) ≥ 0) = true := by
        rw [decide_eq_true_eq]; unfold cmpI; rw [if_neg (by omega)]; split <;> omega
      have HE : Hid (sgn na (val xs - val ys) = sgn na (val xs) + sgn nb (val ys)) := by
        show _ = _
        cases na <;> cases nb <;> simp [sgn] at hab ⊢ <;> omega
      clear hle hx0 hy0
      generalize cmpI (val xs) (val ys) = cc0 at *
      go_wp2
      have hXd := (hX.mono hbl).drew
      have hYd := (hY.mono hbl).drew
      have hCd : IntBox w1.drew (w.heap.size + 1 + 1) (.bool false) (.slice none 0 0) := hC
      have hcut : w.heap.size + 2 ≤ w1.heap.size := by have := HS.out; omega
      obtain ⟨ca0, ca1, _, _⟩ := hA
      obtain ⟨cb0, cb1, _, _⟩ := hB
      go_region_held3 (fun W => w.heap.size + 2 ≤ W.heap.size ∧ (∀ b o, b < w.heap.size + 2 → W.cell? ⟨b, o, none⟩ = w1.cell? ⟨b, o, none⟩) ∧ ∀ b o, b < w.heap.size + 2 → W.frozen? ⟨b, o, none⟩ = w1.frozen? ⟨b, o, none⟩)
        (first | exact Kept.start hcut | assumption | exact Kept.call (by assumption) (by assumption) | exact Kept.set (Kept.set (by assumption) (by omega) _) (by omega) _)
        (first | (go_at_call 67; (with_reducible refine (minus_any _ _ _ _ _ _ _ _ _ hXd hYd HCY.out HL.out (by omega) (by omega)).mono ?_); rintro e w2 ⟨az, cz, zs, rfl, hsz, hvz, hB2⟩) | (go_at_call 52; (with_reducible refine (made_any _ _ _ _ _ _ hsz (by omega)).mono ?_); rintro e w3 ⟨v, rfl, ⟨ng, ao, nn, cc, rs, rfl, hrs, hrc, hrn, hrz⟩, hb3⟩; obtain ⟨e0, e1, e2, e3⟩ := (hCd.mono hB2 hCd.lt).mono hb3 (Nat.lt_of_lt_of_le hCd.lt hB2.size)))
      go_wp2
      refine bodyPost_ret (v := .agg #[.bool ng, .slice ao nn cc]) ?_ rfl ?_
      · simp [results, Try.results20, go_sem, e0, e1]
      · have hb4 : Below w.heap.size w w3 := (hbl.drew.trans (hB2.mono (by have := HS.out; simp; omega))).trans (hb3.mono (by have := HS.out; have := hB2.size; simp at this; omega))
        exact gives_store ⟨e0, e1, e2, e3⟩ hrs hrc hrn (by rw [← hrz, hvz]; exact HE.out.symm) hb4 (by omega)
    · have HL : Hid (val xs ≤ val ys) := by show _ ≤ _; omega
      have hge : decide (cmpI (val xs) (val ys) ≥ 0) = false := by
        rw [decide_eq_false_iff_not]; unfold cmpI; rw [if_pos (by omega)]; omega
      have HE : Hid (sgn nb (val ys - val xs) = sgn na (val xs) + sgn nb (val ys)) := by
        show _ = _
        cases na <;> cases nb <;> simp [sgn] at hab ⊢ <;> omega
      clear hle hx0 hy0
      generalize cmpI (val xs) (val ys) = cc0 at *
      go_wp2
      have hXd := (hX.mono hbl).drew
      have hYd := (hY.mono hbl).drew
      have hCd : IntBox w1.drew (w.heap.size + 1 + 1) (.bool false) (.slice none 0 0) := hC
      have hcut : w.heap.size + 2 ≤ w1.heap.size := by have := HS.out; omega
      obtain ⟨ca0, ca1, _, _⟩ := hA
      obtain ⟨cb0, cb1, _, _⟩ := hB
      go_region_held3 (fun W => w.heap.size + 2 ≤ W.heap.size ∧ (∀ b o, b < w.heap.size + 2 → W.cell? ⟨b, o, none⟩ = w1.cell? ⟨b, o, none⟩) ∧ ∀ b o, b < w.heap.size + 2 → W.frozen? ⟨b, o, none⟩ = w1.frozen? ⟨b, o, none⟩)
        (first | exact Kept.start hcut | assumption | exact Kept.call (by assumption) (by assumption) | exact Kept.set (Kept.set (by assumption) (by omega) _) (by omega) _)
        (first | (go_at_call 67; (with_reducible refine (minus_any _ _ _ _ _ _ _ _ _ hYd hXd HCX.out HL.out (by omega) (by omega)).mono ?_); rintro e w2 ⟨az, cz, zs, rfl, hsz, hvz, hB2⟩) | (go_at_call 52; (with_reducible refine (made_any _ _ _ _ _ _ hsz (by omega)).mono ?_); rintro e w3 ⟨v, rfl, ⟨ng, ao, nn, cc, rs, rfl, hrs, hrc, hrn, hrz⟩, hb3⟩; obtain ⟨e0, e1, e2, e3⟩ := (hCd.mono hB2 hCd.lt).mono hb3 (Nat.lt_of_lt_of_le hCd.lt hB2.size)))
      go_wp2
      refine bodyPost_ret (v := .agg #[.bool ng, .slice ao nn cc]) ?_ rfl ?_
      · simp [results, Try.results20, go_sem, e0, e1]
      · have hb4 : Below w.heap.size w w3 := (hbl.drew.trans (hB2.mono (by have := HS.out; simp; omega))).trans (hb3.mono (by have := HS.out; have := hB2.size; simp at this; omega))
        exact gives_store ⟨e0, e1, e2, e3⟩ hrs hrc hrn (by rw [← hrz, hvz]; exact HE.out.symm) hb4 (by omega)
theorem RAddV {w : World} {v v' : Value} {z z' : Int} (h : Num w v z) (h' : Num w v' z') : Calls Try.prog 20 #[v, v'] w (GivesInt w (z + z')) := by
  obtain ⟨neg, ao, n, c, xs, rfl, hs, hn, rfl, hc, _⟩ := h
  obtain ⟨neg', ao', n', c', xs', rfl, hs', hn', rfl, hc', _⟩ := h'
  exact rAdd_any _ _ _ _ _ _ _ _ _ _ _ hs hs' hc hc' (by omega) (by omega)

theorem boxes3n (w : World) {n n' : Bool} {ao ao' : Option Addr} {k c k' c' : Nat} {z z' : Int} (h : Num w (.agg #[.bool n, .slice ao k c]) z) (h' : Num w (.agg #[.bool n', .slice ao' k' c']) z') (t : TypeId) :
    ∃ w0, w0 = ((w.alloc (.cells #[.bool n, .slice ao k c] t)).alloc (.cells #[.bool n', .slice ao' k' c'] t)).alloc (.cells #[.bool false, .slice none 0 0] t) ∧
      (∀ W, Below (w.heap.size + 2) w0 W → BoxNum W w.heap.size z ∧ BoxNum W (w.heap.size + 1) z' ∧ Below w.heap.size w W) ∧ BoxNum w0 (w.heap.size + 1 + 1) 0 ∧ Below w.heap.size w w0 ∧ w0.heap.size = w.heap.size + 3 := by
  obtain ⟨w0, hw0, hA, hB, hC, hbl, HS⟩ := boxes3 w (.bool n) (.slice ao k c) (.bool n') (.slice ao' k' c') t
  refine ⟨w0, hw0, fun W hb => ?_, ⟨_, _, _, _, hC, Num.zero _⟩, hbl, HS.out⟩
  have hbW : Below w.heap.size w W := hbl.trans (hb.mono (by omega))
  exact ⟨⟨_, _, _, _, hA.mono hb (by omega), h.mono hbW⟩, ⟨_, _, _, _, hB.mono hb (by omega), h'.mono hbW⟩, hbW⟩

theorem enter_rNeg (args : Array Value) (w : World) : (callFunc 26 args).run Try.prog w = .ok (.enter 26 args) w := enter_of Try.func26 (by kernel_rfl) rfl args w
theorem enter_rAdd (args : Array Value) (w : World) : (callFunc 20 args).run Try.prog w = .ok (.enter 20 args) w := enter_of Try.func20 (by kernel_rfl) rfl args w

set_option maxRecDepth 10000 in
set_option maxHeartbeats 2000000 in
theorem RSubV {w : World} {v v' : Value} {z z' : Int} (h : Num w v z) (h' : Num w v' z') {K : Nat} (hz : ab z < pw K) (hz' : ab z' < pw K) (hK : K ≤ 800000) : Calls Try.prog 22 #[v, v'] w (GivesInt w (z - z')) := by
  obtain ⟨n, ao, k, c, rfl⟩ := h.parts
  obtain ⟨n', ao', k', c', rfl⟩ := h'.parts
  obtain ⟨w0, hw0, hXW, hR, hbl, hsz⟩ := boxes3n w h h' 27
  have Bn : Hid (ab (-z') < pw K) := ab_negB hz'
  have Bs : Hid (ab (z - z') < pw (K + 1)) := ab_subB hz hz' (by omega) (by omega)
  go_enter Try.func22, Try.ntmps22
  go_upto_region 1 with (fail)
  rw [← hw0]
  clear hw0
  go_wp2
  have hp : (plan [Fc.num z, Fc.num z', Fc.num (-z'), Fc.num (z - z'), Fc.any] [(w.heap.size + 1 + 1, 4, 0, z - z')] []).Ok (w.heap.size + 2) w0.heap.size := plan_ok (by simp; omega) (by simp) (by simp) (by omega)
  have hm := PMono.of hp
  refine region_steps (p := plan [Fc.num z, Fc.num z', Fc.num (-z'), Fc.num (z - z'), Fc.any] [(w.heap.size + 1 + 1, 4, 0, z - z')] []) (B := w.heap.size + 2) (B0 := w0.heap.size) (w0 := w0) (by kernel_rfl) rfl rfl (plan_start (by simp; exact hR) (Below.refl _ _))
    ⟨?_, ?_, ?_, ?_, ?_, trivial⟩ ?_
  · exact g_load (b := w.heap.size) (z := z) hm ⟨by simp [plan], by simp [plan]⟩ trivial (src_out rfl rfl (fun W hb => ⟨rfl, (hXW W hb).1⟩)) (fun v w h => h)
  · exact g_load (b := w.heap.size + 1) (z := z') hm ⟨by simp [plan], by simp [plan]⟩ trivial (src_out rfl rfl (fun W hb => ⟨rfl, (hXW W hb).2.1⟩)) (fun v w h => h)
  · exact g_call1 (F := (Fc.num z').P) hm ⟨by simp [plan], by simp [plan]⟩ trivial enter_rNeg (src_in 1 rfl rfl (by simp) rfl (fun v w h => h)) (fun v w h => exK (RNegV h) Bn.out (by omega))
  · exact g_call2 (F := (Fc.num z).P) (G := (Fc.num (-z')).P) hm ⟨by simp [plan], by simp [plan]⟩ trivial enter_rAdd (src_in 0 rfl rfl (by simp) rfl (fun v w h => h)) (src_in 2 rfl rfl (by simp) rfl (fun v w h => h)) (fun v v' w h h' => by
      have := RAddV h h'
      rw [show z + -z' = z - z' by omega] at this
      exact exK this Bs.out (by omega))
  · exact st_storeOld (b := w.heap.size + 1 + 1) (j := 3) (z := 0) (z' := z - z') hp rfl (by simp [plan]) rfl rfl rfl (by simp) rfl (fun v w h => h) (fun _ _ => trivial) (by simp [plan]) (by simp [plan])
  · intro L vs w2 hL hG
    obtain ⟨ng, ao2, k2, c2, ⟨e0, e1, e2, e3⟩, hN⟩ : BoxNum w2 (w.heap.size + 1 + 1) (z - z') := by
      have := hG.old (w.heap.size + 1 + 1, 4, 0, z - z') (by simp [plan])
      simpa [hL 4 (by simp)] using this
    have hb : Below w.heap.size w w2 := (hXW w2 hG.below).2.2
    rw [lay_all hL]
    simp only [putAll, dstOf, List.length_cons, List.length_nil, Nat.zero_add, Nat.reduceAdd, List.getElem?_toArray, List.getElem?_cons_zero, List.getElem?_cons_succ, Option.bind_some, Act.put, List.setIfInBounds_toArray, List.set_cons_succ, List.set_cons_zero]
    clear hL hG hp
    go_wp2
    refine bodyPost_ret (v := .agg #[.bool ng, .slice ao2 k2 c2]) ?_ rfl ⟨_, rfl, hN.isInt, hb⟩
    simp [results, Try.results22, go_sem, e0, e1]

theorem rmac {i k : Nat} {us zs ys : List Int} {q x y z : Int} (hk : i + k < us.length) (h : val (us.take (i + k)) + pw (i + k) * q = val (zs.take (i + k)) + pw i * (x * val (ys.take k))) (hz : zs.getD (i + k) 0 = z) (hy : ys.getD k 0 = y) :
    val ((us.set (i + k) ((q + (x * y + z)) % 4294967296)).take (i + (k + 1))) + pw (i + (k + 1)) * ((q + (x * y + z)) / 4294967296) = val (zs.take (i + (k + 1))) + pw i * (x * val (ys.take (k + 1))) := by
  rw [show i + (k + 1) = (i + k) + 1 by omega, val_take_succ, val_take_set _ _ _ _ (Nat.le_refl _), getD_set _ _ _ hk, val_take_succ zs, val_take_succ ys, hz, hy]
  have h1 := pw_split (i + k) (q + (x * y + z))
  rw [Int.mul_add, Int.mul_add] at h1
  rw [Int.mul_add, Int.mul_add]
  have h2 : pw i * (x * (pw k * y)) = pw (i + k) * (x * y) := by rw [pw_add]; ac_rfl
  rw [h2]
  omega

set_option maxHeartbeats 2000000 in
theorem rMul_any (w : World) (na nb : Bool) (ax ay : Option Addr) (n m cx cy : Nat) (xs ys : List Int) (hX : Sl w ax n cx xs) (hY : Sl w ay m cy ys) (hb1 : n ≤ 1000000) (hb2 : m ≤ 1000000) :
    Calls Try.prog 24 #[.agg #[.bool na, .slice ax n cx], .agg #[.bool nb, .slice ay m cy]] w (GivesInt w (sgn na (val xs) * sgn nb (val ys))) := by
  obtain ⟨w0, hw0, hA, hB, hC, hbl, HS⟩ := boxes3 w (.bool na) (.slice ax n cx) (.bool nb) (.slice ay m cy) 27
  have hn := hidd hX.len
  have hm := hidd hY.len
  obtain ⟨ca0, ca1, _, _⟩ := hA
  obtain ⟨cb0, cb1, _, _⟩ := hB
  go_enter Try.func24, Try.ntmps24
  go_upto_region 1 with (fail)
  rw [← hw0]
  clear hw0
  go_wp2_with (at_make; refine wpList_make_words _ rfl _ _ 22 rfl 63 Try.underlying22 (by kernel_rfl) _ _ _ _ rfl rfl (n + m) rfl rfl (by omega) ?_; intro w1 hrow hb1' hs1)
  obtain ⟨B, hB3⟩ : ∃ B, B = w0.heap.size := ⟨_, rfl⟩
  rw [← hB3] at hrow hb1' hs1
  rw [← hB3]
  have HB4 : Hid (B = w.heap.size + 3) := by show B = _; rw [hB3]; exact HS.out
  have hBlt : w.heap.size + 2 < B := by have := HB4.out; omega
  clear hB3 HS HB4
  go_loopw [6] (fun vi wr => ∃ (i : Nat) (zs : List Int), i ≤ n ∧ vi = .int .i64 i ∧ zs.length = n + m ∧ Row wr 63 B zs ∧ Below B w0 wr ∧ val (zs.take (i + m)) = val (xs.take i) * val ys) (fun vi _ => n - (intOf vi).toNat)
  case atStart => exact ⟨0, _, Nat.zero_le _, rfl, by simp, hrow, hb1', by rw [List.take_replicate, val_replicate]; simp [val]⟩
  case round =>
    obtain ⟨i, zs, hi, rfl, hzl, hr, hbr, hv⟩ := hrel
    have HZL := hidd hzl
    have HV := hidd hv
    clear hzl hv hrow hb1' hs1
    have da0 := (hbr.cell (p := ⟨w.heap.size, 0, none⟩) (by show w.heap.size < _; omega)).trans ca0
    have da1 := (hbr.cell (p := ⟨w.heap.size, 1, none⟩) (by show w.heap.size < _; omega)).trans ca1
    have db0 := (hbr.cell (p := ⟨w.heap.size + 1, 0, none⟩) (by show w.heap.size + 1 < _; omega)).trans cb0
    have db1 := (hbr.cell (p := ⟨w.heap.size + 1, 1, none⟩) (by show w.heap.size + 1 < _; omega)).trans cb1
    have hbw : Below w.heap.size w wr := hbl.trans (hbr.mono (by omega))
    by_cases hin : i < n
    · obtain ⟨b1, off1, rfl, hbl1, x, hxc0, hx0, hx1, HX⟩ := hX.cells.at (k := i) (by rw [hn.out]; exact hin)
      go_wp2
      go_loopw [7, 8] (fun vc vk wq => ∃ (k : Nat) (q : Int) (us : List Int), k ≤ m ∧ vk = .int .i64 k ∧ vc = .int .u64 q ∧ 0 ≤ q ∧ q < 4294967296 ∧ us.length = n + m ∧ Row wq 63 B us ∧ Below B w0 wq ∧ us.drop (i + k) = zs.drop (i + k) ∧
        val (us.take (i + k)) + pw (i + k) * q = val (zs.take (i + k)) + pw i * (x * val (ys.take k))) (fun _ vk _ => m - (intOf vk).toNat)
      case atStart => exact ⟨0, 0, zs, Nat.zero_le _, rfl, rfl, by omega, by omega, HZL.out, hr, hbr, rfl, by simp [val]⟩
      case round =>
        obtain ⟨k, q, us, hk, rfl, rfl, hq0, hq1, hul, hr2, hbr2, hdr, hv2⟩ := hrel
        have HUL := hidd hul
        have HDR := hidd hdr
        have HV2 := hidd hv2
        clear hul hdr hv2 da0 da1 db0 db1 hr hbr hbw
        have da0 := (hbr2.cell (p := ⟨w.heap.size, 0, none⟩) (by show w.heap.size < _; omega)).trans ca0
        have da1 := (hbr2.cell (p := ⟨w.heap.size, 1, none⟩) (by show w.heap.size < _; omega)).trans ca1
        have db0 := (hbr2.cell (p := ⟨w.heap.size + 1, 0, none⟩) (by show w.heap.size + 1 < _; omega)).trans cb0
        have db1 := (hbr2.cell (p := ⟨w.heap.size + 1, 1, none⟩) (by show w.heap.size + 1 < _; omega)).trans cb1
        have hbw2 : Below w.heap.size w wr := hbl.trans (hbr2.mono (by omega))
        have hul := HUL.out
        by_cases hkm : k < m
        · obtain ⟨b2, off2, rfl, hbl2, y, hyc0, hy0, hy1, HY⟩ := hY.cells.at (k := k) (by rw [hm.out]; exact hkm)
          have hku : i + k < us.length := by omega
          obtain ⟨z, hzc, hz0, hz1, HZ⟩ := hr2.at hku
          have hfr := hr2.frozen (i + k)
          have hxc := (hbw2.cell (p := ⟨b1, off1 + i, none⟩) hbl1).trans hxc0
          have hyc := (hbw2.cell (p := ⟨b2, off2 + k, none⟩) hbl2).trans hyc0
          obtain ⟨hp0, hp1⟩ := mul_bd hx0 hx1 hy0 hy1
          have hw1 : IntKind.u64.wrap x = x := IntWalk.u64_in _ (by omega)
          have hw2 : IntKind.u64.wrap y = y := IntWalk.u64_in _ (by omega)
          have hw3 : IntKind.u64.wrap (x * y) = x * y := IntWalk.u64_in _ (by omega)
          have hw4 : IntKind.u64.wrap z = z := IntWalk.u64_in _ (by omega)
          have hw5 : IntKind.u64.wrap (x * y + z) = x * y + z := IntWalk.u64_in _ (by omega)
          have hw6 : IntKind.u64.wrap (q + (x * y + z)) = q + (x * y + z) := IntWalk.u64_in _ (by omega)
          have hik : IntKind.i64.wrap ((i : Int) + (k : Int)) = ((i + k : Nat) : Int) := by rw [Int.natCast_add]; exact IntWalk.i64_in _ (by omega)
          have hiknm : i + k < n + m := by omega
          clear hul
          go_wp2
          go_quiet (fail)
          obtain ⟨w2, hW2⟩ : ∃ w2, w2 = wr.drewN nq := ⟨_, rfl⟩
          rw [← hW2]
          have hrw : Row w2 63 B us := by rw [hW2]; exact hr2
          have hbw : Below B w0 w2 := by rw [hW2]; exact hbr2.trans ((Drawn.refl wr).drewN nq |>.below _)
          clear hW2 hr2 hbr2 hbw2 hzc hfr hxc hyc da0 da1 db0 db1 hw1 hw2 hw3 hw4 hw5 hw6
          have hfr := hrw.frozen (i + k)
          have hzc := hrw.cell hku
          go_wp2
          go_roundw
          case rel =>
            refine ⟨k + 1, (q + (x * y + z)) / 4294967296, us.set (i + k) ((q + (x * y + z)) % 4294967296), by omega, by go_num, by go_num, by omega, by omega, by rw [List.length_set]; exact HUL.out, hrw.set ⟨by omega, by omega⟩, hbw.setCell (Nat.le_refl _) _, ?_, ?_⟩
            · rw [List.drop_set_of_lt (by omega)]
              have := congrArg (List.drop 1) HDR.out
              simpa [List.drop_drop, Nat.add_assoc] using this
            · have hzz : zs.getD (i + k) 0 = z := by
                have := congrArg (fun l : List Int => l.getD 0 0) HDR.out
                simp only [getD_drop, Nat.add_zero] at this
                rw [← this]; exact HZ.out
              exact rmac hku HV2.out hzz HY.out
          case measure => simp [intOf]; omega
        · obtain rfl : k = m := by omega
          have hzc := hr2.cell (j := i + k) (by omega)
          have hfr := hr2.frozen (i + k)
          have hik : IntKind.i64.wrap ((i : Int) + (k : Int)) = ((i + k : Nat) : Int) := by rw [Int.natCast_add]; exact IntWalk.i64_in _ (by omega)
          have hqm : q % 4294967296 = q := by omega
          clear hul
          go_wp2
          go_roundw
          case rel =>
            refine ⟨i + 1, us.set (i + k) q, by omega, by go_num, by rw [List.length_set]; exact HUL.out, hr2.set ⟨by omega, by omega⟩, hbr2.setCell (Nat.le_refl _) _, ?_⟩
            rw [show i + 1 + k = (i + k) + 1 by omega, val_take_succ, val_take_set _ _ _ _ (Nat.le_refl _), getD_set _ _ _ (by rw [HUL.out]; omega), val_take_succ, HX.out]
            have h1 := HV2.out
            rw [HV.out, val_take_all ys (by rw [hm.out]; omega)] at h1
            rw [Int.add_mul, h1]
            congr 1
            ac_rfl
          case measure => simp [intOf]; omega
    · obtain rfl : i = n := by omega
      have HE : Hid (val zs = val xs * val ys) := by
        have h1 := HV.out
        rw [val_take_all zs (by rw [HZL.out]; omega), val_take_all xs (by rw [hn.out]; omega)] at h1
        exact h1
      have hS := hr.sl HZL.out
      have hCr := hC.mono hbr (by omega)
      go_wp2_with fail
      refine (made_any _ _ _ _ _ _ hS (by omega)).mono ?_
      rintro e w3 ⟨v, rfl, ⟨ng, ao, nn, cc, rs, rfl, hrs, hrc, hrn, hrz⟩, hb3⟩
      obtain ⟨e0, e1, e2, e3⟩ := hCr.mono hb3 hCr.lt
      have hb4 : Below w.heap.size w w3 := hbw.trans (hb3.mono hbw.size)
      have hz : sgn na (val xs) * sgn nb (val ys) = sgn ng (val rs) := by
        rw [← hrz, HE.out]
        cases na <;> cases nb <;> simp [sgn, Int.mul_neg, Int.neg_mul]
      have HZ := hidd hz
      clear hrz hz
      go_wp2
      refine bodyPost_ret (v := .agg #[.bool ng, .slice ao nn cc]) ?_ rfl ?_
      · simp [results, Try.results24, go_sem, e0, e1]
      · exact gives_store ⟨e0, e1, e2, e3⟩ hrs hrc hrn HZ.out hb4 (by omega)

theorem RMulV {w : World} {v v' : Value} {z z' : Int} (h : Num w v z) (h' : Num w v' z') : Calls Try.prog 24 #[v, v'] w (GivesInt w (z * z')) := by
  obtain ⟨neg, ao, n, c, xs, rfl, hs, hn, rfl, hc, _⟩ := h
  obtain ⟨neg', ao', n', c', xs', rfl, hs', hn', rfl, hc', _⟩ := h'
  exact rMul_any _ _ _ _ _ _ _ _ _ _ _ hs hs' (by omega) (by omega)

end Go.Proofs.Ytjpbmghdamcdcaa

namespace Go.Proofs.Ytjpbmghdamcdcaa
open Go Go.RowKit

/-- What divide leaves: a quotient and a remainder of sizes. -/
def DivR (w : World) (X Y : Int) (e : Ending) (w' : World) : Prop :=
  ∃ aq lq cq qs ar lr cr rs, e = .returned (.agg #[.slice aq lq cq, .slice ar lr cr]) ∧ Sl w' aq lq cq qs ∧ Sl w' ar lr cr rs ∧ lq ≤ 3000000 ∧ lr ≤ 3000000 ∧ val qs = X / Y ∧ val rs = X % Y ∧ Below w.heap.size w w'

/-- A size of at most two words as one number. -/
theorem val_two {xs : List Int} (h : xs.length ≤ 2) : val xs = xs.getD 0 0 + xs.getD 1 0 * 4294967296 := by
  have h1 := val_drop_any xs 0
  have h2 := val_drop_any xs 1
  rw [List.drop_of_length_le (show xs.length ≤ 1 + 1 by omega)] at h2
  rw [List.drop_zero, h2] at h1
  rw [h1]
  show _ + 4294967296 * (_ + 4294967296 * 0) = _
  omega

theorem or_pair {x y : Int} (hx0 : 0 ≤ x) (hx1 : x < 4294967296) (hy0 : 0 ≤ y) (hy1 : y < 4294967296) : bits .or .u64 x (y * 4294967296) = x + y * 4294967296 := (or_halves x y hx0 hx1 hy0 hy1).1

theorem pairs_end {w S : World} {N : Nat} (hS : S.heap.size = N) (hb : Below w.heap.size w S) (T U : Int) (hT0 : 0 ≤ T) (hT1 : T < 18446744073709551616) (hU0 : 0 ≤ U) (hU1 : U < 18446744073709551616) :
    Sl (((S.alloc (.cells #[.int .u32 (T % 4294967296), .int .u32 (T / 4294967296)] 63)).alloc (.cells #[.int .u32 (U % 4294967296), .int .u32 (U / 4294967296)] 63)).drew) (some ⟨N, 0, none⟩) 2 2 [T % 4294967296, T / 4294967296] ∧
    Sl (((S.alloc (.cells #[.int .u32 (T % 4294967296), .int .u32 (T / 4294967296)] 63)).alloc (.cells #[.int .u32 (U % 4294967296), .int .u32 (U / 4294967296)] 63)).drew) (some ⟨N + 1, 0, none⟩) 2 2 [U % 4294967296, U / 4294967296] ∧
    Below w.heap.size w (((S.alloc (.cells #[.int .u32 (T % 4294967296), .int .u32 (T / 4294967296)] 63)).alloc (.cells #[.int .u32 (U % 4294967296), .int .u32 (U / 4294967296)] 63)).drew) ∧
    val [T % 4294967296, T / 4294967296] = T ∧ val [U % 4294967296, U / 4294967296] = U := by
  subst hS
  obtain ⟨s1, v1⟩ := halves_sl S 63 rfl T hT0 hT1
  obtain ⟨s2, v2⟩ := halves_sl (S.alloc (.cells #[.int .u32 (T % 4294967296), .int .u32 (T / 4294967296)] 63)) 63 rfl U hU0 hU1
  rw [World.size_alloc] at s2
  have h1 := hb.alloc hb.size (.cells #[.int .u32 (T % 4294967296), .int .u32 (T / 4294967296)] 63)
  have h2 := h1.alloc h1.size (.cells #[.int .u32 (U % 4294967296), .int .u32 (U / 4294967296)] 63)
  exact ⟨(s1.mono (alloc_below _ _)).drew, s2.drew, h2.drew, v1.out, v2.out⟩

theorem set_pair {w w0 : World} {p q : Value} (hbl : Below w.heap.size w w0) (hI : IntBox w0 w.heap.size p q) (u v : Value) :
    ∃ S, S = (w0.setCell ⟨w.heap.size, 0, none⟩ u).setCell ⟨w.heap.size, 1, none⟩ v ∧ S.heap.size = w0.heap.size ∧ Below w.heap.size w S ∧ S.cell? ⟨w.heap.size, 0, none⟩ = some u ∧ S.cell? ⟨w.heap.size, 1, none⟩ = some v := by
  obtain ⟨e0, e1, _, _⟩ := hI
  have h1 : (w0.setCell ⟨w.heap.size, 0, none⟩ u).cell? ⟨w.heap.size, 1, none⟩ = some q := by
    rw [World.cell?_setCell_other _ _ _ _ (by intro e; cases e)]; exact e1
  refine ⟨_, rfl, by rw [World.size_setCell, World.size_setCell], (hbl.setCell (Nat.le_refl _) _).setCell (Nat.le_refl _) _, ?_, ?_⟩
  · rw [World.cell?_setCell_other _ _ _ _ (by intro e; cases e)]
    exact World.cell?_setCell_same _ _ _ e0
  · exact World.cell?_setCell_same _ _ _ h1

set_option maxHeartbeats 2000000 in
theorem divideSmall_any (w : World) (ax ay : Option Addr) (n m cx cy : Nat) (xs ys : List Int) (hX : Sl w ax n cx xs) (hY : Sl w ay m cy ys) (hy0 : 0 < val ys) (hn : n ≤ 2) (hm : m ≤ 2) :
    Calls Try.prog 58 #[.slice ax n cx, .slice ay m cy] w (DivR w (val xs) (val ys)) := by
  obtain ⟨x0, hx0⟩ : ∃ x, xs.getD 0 0 = x := ⟨_, rfl⟩
  obtain ⟨x1, hx1⟩ : ∃ x, xs.getD 1 0 = x := ⟨_, rfl⟩
  obtain ⟨y0, hy0'⟩ : ∃ x, ys.getD 0 0 = x := ⟨_, rfl⟩
  obtain ⟨y1, hy1⟩ : ∃ x, ys.getD 1 0 = x := ⟨_, rfl⟩
  have dx0 := hX.digs.getD 0
  have dx1 := hX.digs.getD 1
  have dy0 := hY.digs.getD 0
  have dy1 := hY.digs.getD 1
  have vx := val_two (show xs.length ≤ 2 by rw [hX.len]; exact hn)
  have vy := val_two (show ys.length ≤ 2 by rw [hY.len]; exact hm)
  rw [hx0] at dx0 vx
  rw [hx1] at dx1 vx
  rw [hy0'] at dy0 vy
  rw [hy1] at dy1 vy
  have ox := or_pair dx0.1 dx0.2 dx1.1 dx1.2
  have oy := or_pair dy0.1 dy0.2 dy1.1 dy1.2
  obtain ⟨X, hXe⟩ : ∃ X, X = x0 + x1 * 4294967296 := ⟨_, rfl⟩
  obtain ⟨Y, hYe⟩ : ∃ Y, Y = y0 + y1 * 4294967296 := ⟨_, rfl⟩
  rw [← hXe] at ox vx
  rw [← hYe] at oy vy
  rw [vx, vy]
  rw [vy] at hy0
  have hX0 : 0 ≤ X := by omega
  have hX1 : X < 18446744073709551616 := by omega
  have hY1 : Y < 18446744073709551616 := by omega
  have hx1m : x1 * 4294967296 < 18446744073709551616 := by omega
  have hx1n : 0 ≤ x1 * 4294967296 := by omega
  have hy1m : y1 * 4294967296 < 18446744073709551616 := by omega
  have hy1n : 0 ≤ y1 * 4294967296 := by omega
  have Hx0 := hidd hx0
  have Hx1 := hidd hx1
  have Hy0 := hidd hy0'
  have Hy1 := hidd hy1
  clear hx0 hx1 hy0' hy1 hXe hYe vx vy dx0 dx1 dy0 dy1
  obtain ⟨w0, hw0⟩ : ∃ w0, w0 = w.alloc (.cells #[.slice none 0 0, .slice none 0 0] 65) := ⟨_, rfl⟩
  have hbl : Below w.heap.size w w0 := by rw [hw0]; exact alloc_below _ _
  have hX0w := hX.mono hbl
  have hY0w := hY.mono hbl
  have hI : IntBox w0 w.heap.size (.slice none 0 0) (.slice none 0 0) := by rw [hw0]; exact IntBox.new _ _ _ _
  have hsz : w0.heap.size = w.heap.size + 1 := by rw [hw0]; simp
  have HSZ := hidd hsz
  clear hsz
  go_enter Try.func58, Try.ntmps58
  go_upto_region 1 with (fail)
  rw [← hw0]
  clear hw0
  go_wp2_with fail
  refine (word_at _ _ _ _ _ hX0w (by omega) 0 (by omega) x0 Hx0.out _ rfl).mono ?_
  rintro e w' ⟨rfl, rfl⟩
  go_wp2_with fail
  refine (word_at _ _ _ _ _ hX0w (by omega) 1 (by omega) x1 Hx1.out _ rfl).mono ?_
  rintro e w' ⟨rfl, rfl⟩
  go_wp2_with fail
  refine (word_at _ _ _ _ _ hY0w (by omega) 0 (by omega) y0 Hy0.out _ rfl).mono ?_
  rintro e w' ⟨rfl, rfl⟩
  go_wp2_with fail
  refine (word_at _ _ _ _ _ hY0w (by omega) 1 (by omega) y1 Hy1.out _ rfl).mono ?_
  rintro e w' ⟨rfl, rfl⟩
  have hq0 : 0 ≤ X / Y := Int.ediv_nonneg hX0 (by omega)
  have hq1 : X / Y < 18446744073709551616 := Int.lt_of_le_of_lt (Int.ediv_le_self _ hX0) hX1
  have hr0 : 0 ≤ X % Y := Int.emod_nonneg _ (by omega)
  have hr1 : X % Y < 18446744073709551616 := Int.lt_trans (Int.emod_lt_of_pos _ hy0) hY1
  have hYz : (Y == 0) = false := by simp; omega
  have hYn : Y ≠ 0 := by omega
  have hI2 := hI
  obtain ⟨e0, e1, e2, e3⟩ := hI
  have hlt : w.heap.size < w0.heap.size := by have := HSZ.out; omega
  have hne : ¬ w.heap.size = w0.heap.size := by omega
  have hne2 : ¬ w.heap.size = w0.heap.size + 1 := by omega
  go_wp2
  go_region
  · obtain ⟨S, hS, hsz, hbS, c0, c1⟩ := set_pair hbl hI2 (.slice (some ⟨w0.heap.size, 0, none⟩) 2 2) (.slice (some ⟨w0.heap.size + 1, 0, none⟩) 2 2)
    rw [← hS]
    obtain ⟨s1, s2, hbW, v1, v2⟩ := pairs_end hsz hbS (X / Y) (X % Y) hq0 hq1 hr0 hr1
    clear hS
    have hltS : w.heap.size < S.heap.size := by omega
    go_wp2
    refine bodyPost_ret (v := .agg #[.slice (some ⟨w0.heap.size, 0, none⟩) 2 2, .slice (some ⟨w0.heap.size + 1, 0, none⟩) 2 2]) ?_ rfl ⟨_, _, _, _, _, _, _, _, rfl, s1, s2, by omega, by omega, v1, v2, hbW⟩
    simp [results, Try.results58, go_sem, c0, c1, hltS]
  · obtain ⟨S, hS, hsz, hbS, c0, c1⟩ := set_pair hbl hI2 (.slice (some ⟨w0.heap.size + 1, 0, none⟩) 2 2) (.slice (some ⟨w0.heap.size, 0, none⟩) 2 2)
    rw [← hS]
    obtain ⟨s1, s2, hbW, v1, v2⟩ := pairs_end hsz hbS (X % Y) (X / Y) hr0 hr1 hq0 hq1
    clear hS
    have hltS : w.heap.size < S.heap.size := by omega
    go_wp2
    refine bodyPost_ret (v := .agg #[.slice (some ⟨w0.heap.size + 1, 0, none⟩) 2 2, .slice (some ⟨w0.heap.size, 0, none⟩) 2 2]) ?_ rfl ⟨_, _, _, _, _, _, _, _, rfl, s2, s1, by omega, by omega, v2, v1, hbW⟩
    simp [results, Try.results58, go_sem, c0, c1, hltS]

/-- An append onto nothing: a copy of the call's own. -/
theorem append_mine (w : World) (ty : TypeId) (g : Nat) (ao : Option Addr) (m c : Nat) (ys : List Int) (hS : Sl w ao m c ys) (hb : m ≤ 1000000) :
    ∃ ao' c' w', (Builtin.append_ #[22, 22] ty #[.slice (some ⟨g, 0, none⟩) 0 0, .slice ao m c]).run Try.prog w = .ok (.slice ao' m c') w' ∧ Below w.heap.size w w' ∧ Sl w' ao' m c' ys ∧
      (0 < m → ∃ g', ao' = some ⟨g', 0, none⟩ ∧ w.heap.size ≤ g' ∧ Mine w' g' m ys) := by
  obtain ⟨i0, hi, hz0, hz1, hz2⟩ := info_parts info_word
  by_cases h0 : m = 0
  · obtain ⟨v', w', h1, h2, ao', c', rfl, h3⟩ := append_words w ty g ao m c ys hS hb
    exact ⟨ao', c', w', h1, h2, h3, fun h => absurd h0 (by omega)⟩
  · rcases hS.cells.2 with h1 | ⟨b, off, rfl, hlt, hc⟩
    · subst h1; have := hS.len; simp at this; omega
    · obtain ⟨v', w', hrun, hown, hg⟩ := run_append_arg_grows (P := Try.prog) w 22 ty 63 i0 (.int .u32 0) 1 4 Try.underlying22 hi hz0 hz1 hz2 rfl (by decide)
        ⟨g, 0, none⟩ 0 0 [] (by simp) (by simp) ⟨b, off, none⟩ m c (ys.map (Value.int .u32)) (by simp [hS.len]) (fun j u hu => by
          have hj : j < ys.length := by have := (List.getElem?_eq_some_iff.1 hu).1; simpa using this
          rw [Go.WideShapes.add_plain, hc j hj, ← hu]
          simp [hj]) (by omega) (by unfold maxLen; omega) (by omega)
      rw [Nat.zero_add, List.nil_append, ← hS.len] at hown
      have hO : Ow w' w.heap.size v' ys := ⟨hown, hS.digs⟩
      obtain ⟨ao', c', rfl, hS'⟩ := hO.sl
      rw [hS.len] at hS' hrun hO
      refine ⟨ao', c', w', hrun, ⟨hg.os, hg.tape, hg.output, hg.size, fun k hk => hg.block k hk (by simp)⟩, hS', fun _ => ?_⟩
      rcases hO.1.2 with ⟨_, h2⟩ | ⟨g', cap', cur, h2, _⟩
      · rw [hS.len] at h2; omega
      · cases h2
        have := hO.mine
        exact ⟨g', rfl, this.2.1, this.1⟩

theorem wpList_copy_arg (w : World) {ops : Array Oper} {rest : List Oper} {o : Oper} {a : Act} {Q : Exit → Act → World → Prop} (hgd : o.guard = none) (s x : Operand)
    (hop : o.op = Op.call { callee := Callee.builtin Builtin.append, args := #[s, x], argTypes := #[22, 22] }) (g : Nat) (ao : Option Addr) (m c : Nat) (ys : List Int)
    (hs : a.eval s = .slice (some ⟨g, 0, none⟩) 0 0) (hx : a.eval x = .slice ao m c) (hS : Sl w ao m c ys) (hb : m ≤ 1000000)
    (hK : ∀ ao' c' w', Below w.heap.size w w' → Sl w' ao' m c' ys → (0 < m → ∃ g', ao' = some ⟨g', 0, none⟩ ∧ w.heap.size ≤ g' ∧ Mine w' g' m ys) → wpList Try.prog ops Q rest (a.put o.dst (.slice ao' m c')) w') :
    wpList Try.prog ops Q (o :: rest) a w := by
  refine wpList_plain hgd fun K hK' => ?_
  obtain ⟨ao', c', w', hrun, h1, h2, h3⟩ := append_mine w o.type g ao m c ys hS hb
  unfold Oper.wp
  simp [execOp, hop, resolve, invoke, builtin, hs, hx, hrun, Result.andThen]
  exact hK' _ _ (hK ao' c' w' h1 h2 h3)

theorem val_set {zs : List Int} {j : Nat} {x : Int} (hj : j < zs.length) : val (zs.set j x) = val zs + pw j * (x - zs.getD j 0) := by
  have e1 := val_split_any (zs.set j x) (j + 1)
  have e2 := val_split_any zs (j + 1)
  rw [val_take_succ, val_take_set _ _ _ _ (Nat.le_refl _), getD_set _ _ _ hj, List.drop_set_of_lt (by omega)] at e1
  rw [val_take_succ] at e2
  rw [Int.mul_sub]
  omega

theorem bit_word {qs : List Int} {j : Nat} {c : Int} (hq : Digs qs) (h : val qs = 2 ^ (j + 1) * c) : qs.getD (j / 32) 0 % 2 ^ (j % 32 + 1) = 0 := by
  have e : (2 : Int) ^ (j + 1) = pw (j / 32) * 2 ^ (j % 32 + 1) := by rw [pw_two, ← Int.pow_add]; congr 1; omega
  have e32 : (4294967296 : Int) = 2 ^ (j % 32 + 1) * 2 ^ (31 - j % 32) := by rw [← Int.pow_add, show j % 32 + 1 + (31 - j % 32) = 32 by omega]; rfl
  have e1 := val_split_any qs (j / 32)
  have e2 := val_drop_any qs (j / 32)
  have h0 := val_nonneg (hq.take (j / 32))
  have h1 := val_take_lt hq (j / 32)
  have hp := pw_pos (j / 32)
  rw [h, e, Int.mul_assoc] at e1
  generalize val (qs.take (j / 32)) = T at *
  generalize val (qs.drop (j / 32)) = D at *
  generalize val (qs.drop (j / 32 + 1)) = H at *
  generalize qs.getD (j / 32) 0 = x at *
  generalize pw (j / 32) = P at *
  rw [e32] at e2
  generalize (2 : Int) ^ (j % 32 + 1) = S at *
  generalize (2 : Int) ^ (31 - j % 32) = V at *
  have hT : T = P * (S * c - D) := by rw [Int.mul_sub]; omega
  have hz : S * c - D = 0 := by
    rcases Int.lt_trichotomy (S * c - D) 0 with h2 | h2 | h2
    · have := Int.mul_le_mul_of_nonneg_left (show S * c - D ≤ -1 by omega) (Int.le_of_lt hp)
      omega
    · exact h2
    · have := Int.mul_le_mul_of_nonneg_left (show 1 ≤ S * c - D by omega) (Int.le_of_lt hp)
      omega
  have hx : x = S * (c - V * H) := by rw [Int.mul_sub, ← Int.mul_assoc]; omega
  rw [hx]
  exact Int.mul_emod_right _ _

theorem or_bit {x : Int} {r : Nat} (hr : r < 32) (hx0 : 0 ≤ x) (hx1 : x < 4294967296) (h : x % 2 ^ (r + 1) = 0) : bits .or .u32 x (2 ^ r) = x + 2 ^ r ∧ x + 2 ^ r < 4294967296 := by
  obtain ⟨h1, h2⟩ := two_le r hr
  have h3 := pow_two_succ r
  refine ⟨(or_u32 (r + 1) x (2 ^ r) hx0 hx1 (by omega) (by omega) (by omega) h).1, ?_⟩
  have e32 : (4294967296 : Int) = 2 ^ (r + 1) * 2 ^ (31 - r) := by rw [← Int.pow_add, show r + 1 + (31 - r) = 32 by omega]; rfl
  have h4 : (4294967296 - x) % 2 ^ (r + 1) = 0 := by
    rw [Int.sub_emod, h, e32, Int.mul_emod_right]; simp
  have h5 := Int.le_of_dvd (show 0 < 4294967296 - x by omega) (Int.dvd_of_emod_eq_zero h4)
  omega

theorem bits_lt {X Y : Int} {a b : Nat} (hX : IsBits X a) (hY : IsBits Y b) (h : a < b) : X < Y := by
  have hY2 : (2 : Int) ^ (b - 1) ≤ Y := by
    rcases hY with ⟨_, h0⟩ | ⟨_, h1, _⟩
    · omega
    · exact h1
  have hX2 : X < 2 ^ a := by
    rcases hX with ⟨h1, h0⟩ | ⟨_, _, h1⟩
    · subst h0; rw [h1]; decide
    · exact h1
  have h3 := two_pow_le (show a ≤ b - 1 by omega)
  omega

theorem bits_room {X Y : Int} {a b N : Nat} (hX : IsBits X a) (hY : IsBits Y b) (hY0 : 0 < Y) (h : a = b + N) : X < Y * 2 ^ (N + 1) := by
  have hX2 : X < 2 ^ a := by
    rcases hX with ⟨h1, h0⟩ | ⟨_, _, h1⟩
    · subst h0; rw [h1]; decide
    · exact h1
  rcases hY with ⟨h1, _⟩ | ⟨h0, h1, _⟩
  · omega
  · have h3 := Int.mul_le_mul_of_nonneg_right h1 (Int.le_of_lt (pow_two_pos (N + 1)))
    rw [← Int.pow_add, show b - 1 + (N + 1) = a by omega] at h3
    omega

end Go.Proofs.Ytjpbmghdamcdcaa

namespace Go.Proofs.Ytjpbmghdamcdcaa
open Go Go.RowKit

/-- What holds ahead of a round of the long division. -/
structure DivInv (w0 : World) (B gr gq gd n lq ld : Nat) (X Y : Int) (k : Nat) (wr : World) where
  below : Below B w0 wr
  some : ∃ rs qs ds : List Int, Mine wr gr n rs ∧ Mine wr gq lq qs ∧ Mine wr gd ld ds ∧ X = val qs * Y + val rs ∧ val rs < Y * 2 ^ k ∧ (∃ c, val qs = 2 ^ k * c) ∧ (0 < k → val ds = Y * 2 ^ (k - 1))

set_option maxHeartbeats 4000000 in
theorem divideLong_any (w : World) (ax ay : Option Addr) (n m cx cy : Nat) (xs ys : List Int) (hX : Sl w ax n cx xs) (hY : Sl w ay m cy ys) (hcx : Canon xs) (hcy : Canon ys) (hy0 : 0 < val ys) (hn : n ≤ 1000000) (hm : m ≤ 1000000) (hlong : ¬ (n ≤ 2 ∧ m ≤ 2)) :
    Calls Try.prog 58 #[.slice ax n cx, .slice ay m cy] w (DivR w (val xs) (val ys)) := by
  have HCX := hidd hcx
  have HCY := hidd hcy
  have HY0 := hidd hy0
  clear hcx hcy hy0
  obtain ⟨w0, hw0⟩ : ∃ w0, w0 = w.alloc (.cells #[.slice none 0 0, .slice none 0 0] 65) := ⟨_, rfl⟩
  have hbl : Below w.heap.size w w0 := by rw [hw0]; exact alloc_below _ _
  have hI : IntBox w0 w.heap.size (.slice none 0 0) (.slice none 0 0) := by rw [hw0]; exact IntBox.new _ _ _ _
  have hlt : w.heap.size < w0.heap.size := by rw [hw0]; simp
  have hI2 := hidd hI
  obtain ⟨e0, e1, e2, e3⟩ := hI
  go_enter Try.func58, Try.ntmps58
  go_upto_region 1 with (fail)
  rw [← hw0]
  clear hw0
  rcases (by omega : 2 < n ∨ (n ≤ 2 ∧ 2 < m)) with hn2 | ⟨hn2, hm2⟩
  all_goals
    go_upto_region 5 with (fail)
  all_goals
    go_wp2_with (at_builtin; refine wpList_copy_arg _ rfl _ _ rfl _ ax n cx xs rfl rfl ((hX.mono hbl).mono (alloc_below _ _)) hn ?_; intro ar cr w1 hb1 hS1 hM1)
  all_goals
    have hbw1 : Below w0.heap.size w0 w1 := (alloc_below w0 _).trans (hb1.mono (by simp))
    clear hb1
    refine (rBits_any _ _ _ _ _ _ ((hX.mono hbl).mono hbw1) HCX.out (by omega)).mono ?_
    rintro e w2 ⟨b1, rfl, hB1, hb1n, hb2⟩
    have hbw2 := hbw1.trans (hb2.mono hbw1.size)
    go_wp2_with fail
    refine (rBits_any _ _ _ _ _ _ ((hY.mono hbl).mono hbw2) HCY.out (by omega)).mono ?_
    rintro e w3 ⟨b2, rfl, hB2, hb2m, hb3⟩
    have hbw3 := hbw2.trans (hb3.mono hbw2.size)
    have hS3 := (hS1.mono hb2).mono hb3
    have hM3 : 0 < n → ∃ g', ar = some ⟨g', 0, none⟩ ∧ w0.heap.size ≤ g' ∧ g' < w3.heap.size ∧ Mine w3 g' n xs := fun h => by
      obtain ⟨g', h1, h2, h3⟩ := hM1 h
      have h4 := (h3.mono hb2 h3.lt)
      exact ⟨g', h1, by simp at h2; omega, (h4.mono hb3 h4.lt).lt, h4.mono hb3 h4.lt⟩
    have f0 := (hbw3.cell (p := ⟨w.heap.size, 0, none⟩) hlt).trans e0
    have f1 := (hbw3.cell (p := ⟨w.heap.size, 1, none⟩) hlt).trans e1
    have f2 := (hbw3.frozen (p := ⟨w.heap.size, 0, none⟩) hlt).trans e2
    have f3 := (hbw3.frozen (p := ⟨w.heap.size, 1, none⟩) hlt).trans e3
    clear hM1 hS1 hbw1 hbw2 hb2 hb3 e0 e1 e2 e3
    have hbw : Below w.heap.size w w3 := hbl.trans (hbw3.mono hbl.size)
    by_cases hlt2 : b1 < b2
    · have HXY := hidd (bits_lt hB1 hB2 hlt2)
      have hX0 := val_nonneg hX.digs
      go_wp2
      obtain ⟨S, hS, hsz, hbS, c0, c1⟩ := set_pair hbw ⟨f0, f1, f2, f3⟩ (.slice none 0 0) (.slice ar n cr)
      rw [← hS]
      have hSS : Sl S ar n cr xs := by rw [hS]; exact (hS3.setOther f0 (by intro q h; cases h) _).setOther (by rw [World.cell?_setCell_other _ _ _ _ (by intro e; cases e)]; exact f1) (by intro q h; cases h) _
      clear hS
      refine bodyPost_ret (v := .agg #[.slice none 0 0, .slice ar n cr]) ?_ rfl ⟨_, _, _, _, _, _, _, _, rfl, Sl.nil _, hSS, by omega, by omega, ?_, ?_, hbS⟩
      · simp [results, Try.results58, go_sem, c0, c1]
      · rw [Int.ediv_eq_zero_of_lt hX0 HXY.out]; rfl
      · rw [Int.emod_eq_of_lt hX0 HXY.out]
    · obtain ⟨N, hN⟩ : ∃ N, b1 = b2 + N := ⟨b1 - b2, by omega⟩
      have HR := hidd (bits_room hB1 hB2 HY0.out hN)
      have hb20 : 0 < b2 := by
        rcases hB2 with ⟨h1, _⟩ | ⟨h1, _⟩
        · have := HY0.out; omega
        · exact h1
      obtain ⟨gr, rfl, hgr, hgr2, hMr⟩ := hM3 (by omega)
      have hNi : (b1 : Int) - (b2 : Int) = (N : Int) := by omega
      have hNb : N ≤ 32000000 := by omega
      have hcr := hS3.cap
      clear hN hlt2 hb1n hb2m hB1 hB2
      go_wp2_with (at_make; refine wpList_make_words _ rfl _ _ 22 rfl 63 Try.underlying22 (by kernel_rfl) _ _ _ _ rfl rfl (N / 32 + 1) (by omega) (by omega) (by omega) ?_; intro w4 hrow hb4 hs4)
      have hbw4 : Below w0.heap.size w0 w4 := hbw3.trans (hb4.mono hbw3.size)
      refine (left_any _ _ _ _ _ ((hY.mono hbl).mono hbw4) (by omega) N (by omega)).mono ?_
      rintro e w5 ⟨gd, ld, cd, ds0, rfl, hgd, hMd, hcd, hld, hvd, hb5⟩
      have hbw5 := hbw4.trans (hb5.mono hbw4.size)
      have hq5 : Mine w5 w3.heap.size (N / 32 + 1) (List.replicate (N / 32 + 1) 0) := by
        have := hrow.mine
        rw [List.length_replicate] at this
        exact this.mono hb5 this.lt
      have hr5 := (hMr.mono hb4 hMr.lt).mono hb5 (hMr.mono hb4 hMr.lt).lt
      obtain ⟨gq, hgq⟩ : ∃ gq, gq = w3.heap.size := ⟨_, rfl⟩
      rw [← hgq] at hq5 hgr2 hs4
      rw [← hgq]
      have hgq0 : w0.heap.size ≤ gq := by rw [hgq]; exact hbw3.size
      have hne1 : gr ≠ gq := by omega
      have hne2 : gq ≠ gd := by omega
      have hne3 : gr ≠ gd := by omega
      have hgd0 : w0.heap.size ≤ gd := by omega
      have hld2 : ld ≤ 3000000 := by omega
      have HVD := hidd hvd
      clear hvd hld hrow hb4 hb5 hbw3 hbw4 hMr hM3 hS3 hgq hs4 hgd f0 f1 f2 f3 hbw
      go_wp2
      go_loopw [11] (fun vi wr => ∃ k : Nat, k ≤ N + 1 ∧ vi = .int .i64 ((k : Int) - 1) ∧ DivInv w0 w0.heap.size gr gq gd n (N / 32 + 1) ld (val xs) (val ys) k wr) (fun vi _ => (intOf vi + 1).toNat)
      case atStart =>
        refine ⟨N + 1, Nat.le_refl _, by go_num, hbw5, xs, _, ds0, hr5, hq5, hMd, ?_, HR.out, ⟨0, ?_⟩, fun _ => HVD.out⟩
        · rw [val_replicate, Int.zero_mul, Int.zero_add]
        · rw [val_replicate, Int.mul_zero]
      case round =>
        obtain ⟨k, hk, rfl, ⟨hb, rs, qs, dd, hr, hq, hd, hXe, hrl, ⟨c, hqc⟩, hdv⟩⟩ := hrel
        have HXE := hidd hXe
        have HRL := hidd hrl
        have HQC := hidd hqc
        have HDV := hidd hdv
        clear hXe hrl hqc hdv hr5 hq5 hMd hbw5
        by_cases hk0 : 0 < k
        · obtain ⟨j, rfl⟩ : ∃ j, k = j + 1 := ⟨k - 1, by omega⟩
          have hj1 : ((j + 1 : Nat) : Int) - 1 = (j : Int) := by omega
          have HDJ : Hid (val dd = val ys * 2 ^ j) := HDV.out (by omega)
          clear HDV
          go_wp2_with fail
          refine (reaches_any _ _ _ _ _ _ _ rs dd (hr.sl hcr) (hd.sl hcd) (by omega) (by omega)).mono ?_
          rintro e w' ⟨rfl, rfl⟩
          by_cases hge : val dd ≤ val rs
          · have hged : decide (val dd ≤ val rs) = true := decide_eq_true hge
            rw [hged]
            have HGE := hidd hge
            clear hge hged
            go_wp2_with fail
            refine (take_any _ gr n cr rs hr hcr (by omega) (some ⟨gd, 0, none⟩) ld cd dd (hd.sl hcd) (by omega) (fun b' o h => by cases h; exact fun h => hne3 h.symm) HGE.out).mono ?_
            rintro e w6 ⟨rs', rfl, hr6, hv6, hg6, hs6⟩
            have hq6 := hq.other hg6 (fun h => hne1 h.symm)
            have hd6 := hd.other hg6 (fun h => hne3 h.symm)
            have hb6 : Below w0.heap.size w0 w6 := hb.grown hg6 hb.size (fun j hj => by cases hj; exact hgr)
            have HV6 := hidd hv6
            clear hv6 hr hq hd hb hg6 hs6
            have hjq : j / 32 < N / 32 + 1 := by omega
            obtain ⟨x, hx⟩ : ∃ x, qs.getD (j / 32) 0 = x := ⟨_, rfl⟩
            have hxd := hq6.digs.getD (j / 32)
            have hcell := hq6.cell hjq
            rw [hx] at hxd hcell
            have hfr := hq6.frozen (j / 32)
            have hbit := bit_word hq6.digs HQC.out
            rw [hx] at hbit
            obtain ⟨hor, hxb⟩ := or_bit (Nat.mod_lt j (by decide)) hxd.1 hxd.2 hbit
            obtain ⟨u, hu⟩ : ∃ u, u = x + 2 ^ (j % 32) := ⟨_, rfl⟩
            rw [← hu] at hor hxb
            have hp2 := two_le (j % 32) (Nat.mod_lt j (by decide))
            have Hx := hidd hx
            have Hu := hidd hu
            have Hbit := hidd hbit
            have hj32 : j % 32 < 32 := Nat.mod_lt j (by decide)
            have hu0 : 0 ≤ u := by omega
            clear hx hu hbit
            go_wp2_with fail
            have hg7 := grownBy_set w6 gq (j / 32) (.int .u32 u)
            have hq7 := hq6.set hjq hu0 hxb
            have hd7 := hd6.other hg7 (fun h => hne2 h.symm)
            have hr7 := hr6.other hg7 hne1
            have hb7 : Below w0.heap.size w0 (w6.setCell ⟨gq, j / 32, none⟩ (.int .u32 u)) := hb6.setCell hgq0 _
            generalize w6.setCell ⟨gq, j / 32, none⟩ (.int .u32 u) = w7 at *
            refine (half_any _ gd ld cd dd hd7 hcd (by omega)).mono ?_
            rintro e w8 ⟨dd', rfl, hd8, hv8, hg8, hs8⟩
            have hb8 : Below w0.heap.size w0 w8 := hb7.grown hg8 hb7.size (fun j hj => by cases hj; exact hgd0)
            have hq8 := hq7.other hg8 hne2
            have hr8 := hr7.other hg8 hne3
            have HV8 := hidd hv8
            clear hv8 hq7 hd7 hr7 hb7 hg7 hg8 hs8 hq6 hd6 hb6 hr6 hor hcell hfr
            go_wp2
            go_roundw
            case rel =>
              refine ⟨j, by omega, by go_num, hb8, rs', _, dd', hr8, hq8, hd8, ?_, ?_, ?_, ?_⟩
              · have h1 := HXE.out
                rw [val_set (by have := hq8.len; rw [List.length_set] at this; omega), Hx.out, Hu.out, show x + 2 ^ (j % 32) - x = 2 ^ (j % 32) by omega, pw_two, ← Int.pow_add, show 32 * (j / 32) + j % 32 = j by omega, HV6.out, HDJ.out, Int.add_mul, Int.mul_comm (val ys)]
                omega
              · have h1 := HRL.out
                rw [HV6.out, HDJ.out]
                rw [Int.pow_succ, ← Int.mul_assoc] at h1
                omega
              · refine ⟨2 * c + 1, ?_⟩
                rw [val_set (by have := hq8.len; rw [List.length_set] at this; omega), Hx.out, Hu.out, show x + 2 ^ (j % 32) - x = 2 ^ (j % 32) by omega, pw_two, ← Int.pow_add, show 32 * (j / 32) + j % 32 = j by omega, HQC.out, Int.pow_succ, Int.mul_add, Int.mul_one, Int.mul_assoc]
              · intro h
                rw [HV8.out, HDJ.out, show j = (j - 1) + 1 by omega, Int.pow_succ, ← Int.mul_assoc, Int.mul_ediv_cancel _ (by decide)]
                rfl
            case measure => simp [intOf]
          · have hged : decide (val dd ≤ val rs) = false := decide_eq_false hge
            rw [hged]
            have HGE := hidd hge
            clear hge hged
            go_wp2_with fail
            refine (half_any _ gd ld cd dd hd hcd (by omega)).mono ?_
            rintro e w8 ⟨dd', rfl, hd8, hv8, hg8, hs8⟩
            have hb8 : Below w0.heap.size w0 w8 := hb.grown hg8 hb.size (fun j hj => by cases hj; exact hgd0)
            have hq8 := hq.other hg8 hne2
            have hr8 := hr.other hg8 hne3
            have HV8 := hidd hv8
            clear hv8 hq hd hr hb hg8 hs8
            go_wp2
            go_roundw
            case rel =>
              refine ⟨j, by omega, by go_num, hb8, rs, qs, dd', hr8, hq8, hd8, HXE.out, ?_, ?_, ?_⟩
              · have h1 := HGE.out
                rw [HDJ.out] at h1
                omega
              · refine ⟨2 * c, ?_⟩
                rw [HQC.out, Int.pow_succ, Int.mul_assoc]
              · intro h
                rw [HV8.out, HDJ.out, show j = (j - 1) + 1 by omega, Int.pow_succ, ← Int.mul_assoc, Int.mul_ediv_cancel _ (by decide)]
                rfl
            case measure => simp [intOf]
        · obtain rfl : k = 0 := by omega
          have hbw : Below w.heap.size w wr := hbl.trans (hb.mono hbl.size)
          obtain ⟨f0, f1, f2, f3⟩ := hI2.out.mono hb hlt
          have hR0 := val_nonneg hr.digs
          have hR1 := HRL.out
          rw [Int.pow_zero, Int.mul_one] at hR1
          have hq1 := ediv_unique (a := val xs) (P := val ys) (V := val qs) (r := val rs) (by have h := HXE.out; rw [Int.mul_comm (val qs)] at h; exact h) hR0 hR1 HY0.out
          have hr1 : val rs = val xs % val ys := by
            rw [Int.emod_def, ← hq1]
            have h := HXE.out
            rw [Int.mul_comm (val qs)] at h
            omega
          have HQ := hidd hq1
          have HM := hidd hr1
          clear hR0 hR1 hq1 hr1
          have hsq := hq.sl (Nat.le_refl _)
          have hsr := hr.sl hcr
          clear hq hr hd
          go_wp2
          obtain ⟨S, hS, hsz, hbS, c0, c1⟩ := set_pair hbw ⟨f0, f1, f2, f3⟩ (.slice (some ⟨gq, 0, none⟩) (N / 32 + 1) (N / 32 + 1)) (.slice (some ⟨gr, 0, none⟩) n cr)
          rw [← hS]
          have hSq : Sl S (some ⟨gq, 0, none⟩) (N / 32 + 1) (N / 32 + 1) qs := by rw [hS]; exact (hsq.setOther f0 (by intro q h; cases h) _).setOther (by rw [World.cell?_setCell_other _ _ _ _ (by intro e; cases e)]; exact f1) (by intro q h; cases h) _
          have hSr : Sl S (some ⟨gr, 0, none⟩) n cr rs := by rw [hS]; exact (hsr.setOther f0 (by intro q h; cases h) _).setOther (by rw [World.cell?_setCell_other _ _ _ _ (by intro e; cases e)]; exact f1) (by intro q h; cases h) _
          clear hS
          refine bodyPost_ret (v := .agg #[.slice (some ⟨gq, 0, none⟩) (N / 32 + 1) (N / 32 + 1), .slice (some ⟨gr, 0, none⟩) n cr]) ?_ rfl ⟨_, _, _, _, _, _, _, _, rfl, hSq, hSr, by omega, by omega, HQ.out, HM.out, hbS⟩
          simp [results, Try.results58, go_sem, c0, c1]

theorem divide_any (w : World) (ax ay : Option Addr) (n m cx cy : Nat) (xs ys : List Int) (hX : Sl w ax n cx xs) (hY : Sl w ay m cy ys) (hcx : Canon xs) (hcy : Canon ys) (hy0 : 0 < val ys) (hn : n ≤ 1000000) (hm : m ≤ 1000000) :
    Calls Try.prog 58 #[.slice ax n cx, .slice ay m cy] w (DivR w (val xs) (val ys)) := by
  by_cases h : n ≤ 2 ∧ m ≤ 2
  · exact divideSmall_any w ax ay n m cx cy xs ys hX hY hy0 h.1 h.2
  · exact divideLong_any w ax ay n m cx cy xs ys hX hY hcx hcy hy0 hn hm h

end Go.Proofs.Ytjpbmghdamcdcaa
