/- Rh, Rk, Yc, Ye, Yf, Pa, Yg, Yh, Yi, Yj, Yr, Sa, Ma, Nt, Mb, Mc, Op, Ea, Ua, Rm, Yp. -/
import Derived.Test.YtdhkhedhnolcjaaGreatCj2
import Derived.BigRegion
import Derived.Laws.RangeAny
import Derived.Lib.OthersKept
import Derived.Laws.RangeString
import Derived.BigQuiet
import Derived.Laws.StandIn
import Derived.Laws.EntriesVeiled
import Derived.Deep.MidRow
set_option linter.unusedSimpArgs false
set_option linter.unusedVariables false
namespace Go.Proofs.YtdhkhedhnolcjaaGreat
open Go Go.RowKit

theorem sgn_same (b : Bool) (x y : Int) : sgn b (x + y) = sgn b x + sgn b y := by cases b <;> simp [sgn]; omega

set_option maxRecDepth 20000 in
set_option maxHeartbeats 2000000 in
theorem rAdd_any (w : World) (na nb : Bool) (ax ay : Option Addr) (n m cx cy : Nat) (xs ys : List Int) (hX : Sl w ax n cx xs) (hY : Sl w ay m cy ys) (hcx : Canon xs) (hcy : Canon ys) (hb1 : n ≤ 1000000) (hb2 : m ≤ 1000000) :
  Calls Tryz.prog 41 #[.agg #[.bool na, .slice ax n cx], .agg #[.bool nb, .slice ay m cy]] w (zA4 w (sgn na (val xs) + sgn nb (val ys))) := by
 obtain ⟨w0, hw0, hA, hB, hC, hbl, HS⟩ := zD1 w (.bool na) (.slice ax n cx) (.bool nb) (.slice ay m cy) 31
 have HCX := hidd hcx
 have HCY := hidd hcy
 clear hcx hcy
 by_cases hab : na = nb
 ·subst hab
  have HE : Hid (sgn na (val xs + val ys) = sgn na (val xs) + sgn na (val ys)) := sgn_same _ _ _
  have hnn : (na == na) = true := by simp
  go_enter Tryz.func41, Tryz.ntmps41
  go_wp2
  rw [← hw0]
  clear hw0
  have hXd := (hX.mono hbl).drew
  have hYd := (hY.mono hbl).drew
  have hCd : IntBox w0.drew (w.heap.size + 1 + 1) (.bool false) (.slice none 0 0) := hC
  have hcut : w.heap.size + 2 ≤ w0.heap.size := by have := HS.out; omega
  obtain ⟨ca0, ca1, _, _⟩ := hA
  obtain ⟨cb0, cb1, _, _⟩ := hB
  go_region_held3 (fun W => w.heap.size + 2 ≤ W.heap.size ∧ (∀ b o, b < w.heap.size + 2 → W.cell? ⟨b, o, none⟩ = w0.cell? ⟨b, o, none⟩) ∧ ∀ b o, b < w.heap.size + 2 → W.frozen? ⟨b, o, none⟩ = w0.frozen? ⟨b, o, none⟩)
   (first | exact Kept.start hcut | assumption | exact Kept.call (by assumption) (by assumption) | exact Kept.set (Kept.set (by assumption) (by omega) _) (by omega) _)
   (first | (go_at_call 79; (with_reducible refine (plus_any _ _ _ _ _ _ _ _ _ hXd hYd (by omega) (by omega)).mono ?_); rintro e w2 ⟨az, cz, lz, zs, rfl, hsz, hlz, hvz, hB2⟩) | (go_at_call 78; (with_reducible refine (zDi _ _ _ _ _ _ hsz (by omega)).mono ?_); rintro e w3 ⟨v, rfl, ⟨ng, ao, nn, cc, rs, rfl, hrs, hrc, hrn, hrz⟩, hb3⟩; obtain ⟨e0, e1, e2, e3⟩ := (hCd.mono hB2 hCd.lt).mono hb3 (Nat.lt_of_lt_of_le hCd.lt hB2.size)))
  go_wp2
  refine bodyPost_ret (v := .agg #[.bool ng, .slice ao nn cc]) ?_ rfl ?_
  ·simp [results, Tryz.results41, go_sem, e0, e1]
  ·have hb4 : Below w.heap.size w w3 := (hbl.drew.trans (hB2.mono (by have := HS.out; simp; omega))).trans (hb3.mono (by have := HS.out; have := hB2.size; simp at this; omega))
   exact zBv ⟨e0, e1, e2, e3⟩ hrs hrc hrn (by rw [← hrz, hvz]; exact HE.out.symm) hb4 (by omega)
 ·have hnn : (na == nb) = false := by simpa using hab
  go_enter Tryz.func41, Tryz.ntmps41
  go_wp2_with fail
  rw [← hw0]
  clear hw0
  refine (zHh _ _ _ _ _ _ _ _ _ (hX.mono hbl) (hY.mono hbl) HCX.out HCY.out (by omega) (by omega)).mono ?_
  rintro e w1 ⟨rfl, hd⟩
  have hbl1 : Below w.heap.size w w1 := hbl.trans (hd.below _)
  obtain ⟨d, hw1⟩ := hd
  have hA1 : IntBox w1 w.heap.size (.bool na) (.slice ax n cx) := by rw [hw1]; exact hA
  have hB1 : IntBox w1 (w.heap.size + 1) (.bool nb) (.slice ay m cy) := by rw [hw1]; exact hB
  have hC1 : IntBox w1 (w.heap.size + 1 + 1) (.bool false) (.slice none 0 0) := by rw [hw1]; exact hC
  have HS1 : Hid (w1.heap.size = w.heap.size + 3) := by show _ = _; rw [hw1]; exact HS.out
  clear hw1 hA hB hC hbl HS
  rename Below w.heap.size w w1 => hbl
  rename IntBox w1 w.heap.size (.bool na) (.slice ax n cx) => hA
  rename IntBox w1 (w.heap.size + 1) (.bool nb) (.slice ay m cy) => hB
  rename IntBox w1 (w.heap.size + 1 + 1) (.bool false) (.slice none 0 0) => hC
  rename Hid (w1.heap.size = w.heap.size + 3) => HS
  have hx0 := zAv hX.digs
  have hy0 := zAv hY.digs
  by_cases hle : val ys ≤ val xs
  ·have HL := hidd hle
   have hge : decide (cmpI (val xs) (val ys) ≥ 0) = true := by
    rw [decide_eq_true_eq]; unfold cmpI; rw [if_neg (by omega)]; split <;> omega
   have HE : Hid (sgn na (val xs - val ys) = sgn na (val xs) + sgn nb (val ys)) := by
    show _ = _
    cases na <;> cases nb <;> simp [sgn] at hab ⊢ <;> omega
   clear hle hx0 hy0
   generalize cmpI (val xs) (val ys) = cc0 at *
   go_wp2
   have hXd := (hX.mono hbl).drew
   have hYd := (hY.mono hbl).drew
   have hCd : IntBox w1.drew (w.heap.size + 1 + 1) (.bool false) (.slice none 0 0) := hC
   have hcut : w.heap.size + 2 ≤ w1.heap.size := by have := HS.out; omega
   obtain ⟨ca0, ca1, _, _⟩ := hA
   obtain ⟨cb0, cb1, _, _⟩ := hB
   go_region_held3 (fun W => w.heap.size + 2 ≤ W.heap.size ∧ (∀ b o, b < w.heap.size + 2 → W.cell? ⟨b, o, none⟩ = w1.cell? ⟨b, o, none⟩) ∧ ∀ b o, b < w.heap.size + 2 → W.frozen? ⟨b, o, none⟩ = w1.frozen? ⟨b, o, none⟩)
    (first | exact Kept.start hcut | assumption | exact Kept.call (by assumption) (by assumption) | exact Kept.set (Kept.set (by assumption) (by omega) _) (by omega) _)
    (first | (go_at_call 80; (with_reducible refine (zKt _ _ _ _ _ _ _ _ _ hXd hYd HCY.out HL.out (by omega) (by omega)).mono ?_); rintro e w2 ⟨az, cz, zs, rfl, hsz, hvz, hB2⟩) | (go_at_call 78; (with_reducible refine (zDi _ _ _ _ _ _ hsz (by omega)).mono ?_); rintro e w3 ⟨v, rfl, ⟨ng, ao, nn, cc, rs, rfl, hrs, hrc, hrn, hrz⟩, hb3⟩; obtain ⟨e0, e1, e2, e3⟩ := (hCd.mono hB2 hCd.lt).mono hb3 (Nat.lt_of_lt_of_le hCd.lt hB2.size)))
   go_wp2
   refine bodyPost_ret (v := .agg #[.bool ng, .slice ao nn cc]) ?_ rfl ?_
   ·simp [results, Tryz.results41, go_sem, e0, e1]
   ·have hb4 : Below w.heap.size w w3 := (hbl.drew.trans (hB2.mono (by have := HS.out; simp; omega))).trans (hb3.mono (by have := HS.out; have := hB2.size; simp at this; omega))
    exact zBv ⟨e0, e1, e2, e3⟩ hrs hrc hrn (by rw [← hrz, hvz]; exact HE.out.symm) hb4 (by omega)
  ·have HL : Hid (val xs ≤ val ys) := by show _ ≤ _; omega
   have hge : decide (cmpI (val xs) (val ys) ≥ 0) = false := by
    rw [decide_eq_false_iff_not]; unfold cmpI; rw [if_pos (by omega)]; omega
   have HE : Hid (sgn nb (val ys - val xs) = sgn na (val xs) + sgn nb (val ys)) := by
    show _ = _
    cases na <;> cases nb <;> simp [sgn] at hab ⊢ <;> omega
   clear hle hx0 hy0
   generalize cmpI (val xs) (val ys) = cc0 at *
   go_wp2
   have hXd := (hX.mono hbl).drew
   have hYd := (hY.mono hbl).drew
   have hCd : IntBox w1.drew (w.heap.size + 1 + 1) (.bool false) (.slice none 0 0) := hC
   have hcut : w.heap.size + 2 ≤ w1.heap.size := by have := HS.out; omega
   obtain ⟨ca0, ca1, _, _⟩ := hA
   obtain ⟨cb0, cb1, _, _⟩ := hB
   go_region_held3 (fun W => w.heap.size + 2 ≤ W.heap.size ∧ (∀ b o, b < w.heap.size + 2 → W.cell? ⟨b, o, none⟩ = w1.cell? ⟨b, o, none⟩) ∧ ∀ b o, b < w.heap.size + 2 → W.frozen? ⟨b, o, none⟩ = w1.frozen? ⟨b, o, none⟩)
    (first | exact Kept.start hcut | assumption | exact Kept.call (by assumption) (by assumption) | exact Kept.set (Kept.set (by assumption) (by omega) _) (by omega) _)
    (first | (go_at_call 80; (with_reducible refine (zKt _ _ _ _ _ _ _ _ _ hYd hXd HCX.out HL.out (by omega) (by omega)).mono ?_); rintro e w2 ⟨az, cz, zs, rfl, hsz, hvz, hB2⟩) | (go_at_call 78; (with_reducible refine (zDi _ _ _ _ _ _ hsz (by omega)).mono ?_); rintro e w3 ⟨v, rfl, ⟨ng, ao, nn, cc, rs, rfl, hrs, hrc, hrn, hrz⟩, hb3⟩; obtain ⟨e0, e1, e2, e3⟩ := (hCd.mono hB2 hCd.lt).mono hb3 (Nat.lt_of_lt_of_le hCd.lt hB2.size)))
   go_wp2
   refine bodyPost_ret (v := .agg #[.bool ng, .slice ao nn cc]) ?_ rfl ?_
   ·simp [results, Tryz.results41, go_sem, e0, e1]
   ·have hb4 : Below w.heap.size w w3 := (hbl.drew.trans (hB2.mono (by have := HS.out; simp; omega))).trans (hb3.mono (by have := HS.out; have := hB2.size; simp at this; omega))
    exact zBv ⟨e0, e1, e2, e3⟩ hrs hrc hrn (by rw [← hrz, hvz]; exact HE.out.symm) hb4 (by omega)
theorem zDn {w : World} {v v' : Value} {z z' : Int} (h : Num w v z) (h' : Num w v' z') : Calls Tryz.prog 41 #[v, v'] w (zA4 w (z + z')) := by
 obtain ⟨neg, ao, n, c, xs, rfl, hs, hn, rfl, hc, _⟩ := h
 obtain ⟨neg', ao', n', c', xs', rfl, hs', hn', rfl, hc', _⟩ := h'
 exact rAdd_any _ _ _ _ _ _ _ _ _ _ _ hs hs' hc hc' (by omega) (by omega)

theorem zHs (w : World) {n n' : Bool} {ao ao' : Option Addr} {k c k' c' : Nat} {z z' : Int} (h : Num w (.agg #[.bool n, .slice ao k c]) z) (h' : Num w (.agg #[.bool n', .slice ao' k' c']) z') (t : TypeId) :
  ∃ w0, w0 = ((w.alloc (.cells #[.bool n, .slice ao k c] t)).alloc (.cells #[.bool n', .slice ao' k' c'] t)).alloc (.cells #[.bool false, .slice none 0 0] t) ∧
   (∀ W, Below (w.heap.size + 2) w0 W → BoxNum W w.heap.size z ∧ BoxNum W (w.heap.size + 1) z' ∧ Below w.heap.size w W) ∧ BoxNum w0 (w.heap.size + 1 + 1) 0 ∧ Below w.heap.size w w0 ∧ w0.heap.size = w.heap.size + 3 := by
 obtain ⟨w0, hw0, hA, hB, hC, hbl, HS⟩ := zD1 w (.bool n) (.slice ao k c) (.bool n') (.slice ao' k' c') t
 refine ⟨w0, hw0, fun W hb => ?_, ⟨_, _, _, _, hC, Num.zero _⟩, hbl, HS.out⟩
 have hbW : Below w.heap.size w W := hbl.trans (hb.mono (by omega))
 exact ⟨⟨_, _, _, _, hA.mono hb (by omega), h.mono hbW⟩, ⟨_, _, _, _, hB.mono hb (by omega), h'.mono hbW⟩, hbW⟩

theorem zMy (args : Array Value) (w : World) : (callFunc 40 args).run Tryz.prog w = .ok (.enter 40 args) w := zAq Tryz.func40 (by kernel_rfl) rfl args w
theorem zGu (args : Array Value) (w : World) : (callFunc 41 args).run Tryz.prog w = .ok (.enter 41 args) w := zAq Tryz.func41 (by kernel_rfl) rfl args w

set_option maxRecDepth 10000 in
set_option maxRecDepth 20000 in
set_option maxHeartbeats 2000000 in
theorem RSubV {w : World} {v v' : Value} {z z' : Int} (h : Num w v z) (h' : Num w v' z') {K : Nat} (hz : ab z < pw K) (hz' : ab z' < pw K) (hK : K ≤ 800000) : Calls Tryz.prog 53 #[v, v'] w (zA4 w (z - z')) := by
 obtain ⟨n, ao, k, c, rfl⟩ := h.parts
 obtain ⟨n', ao', k', c', rfl⟩ := h'.parts
 obtain ⟨w0, hw0, hXW, hR, hbl, hsz⟩ := zHs w h h' 31
 have Bn : Hid (ab (-z') < pw K) := zDo hz'
 have Bs : Hid (ab (z - z') < pw (K + 1)) := zDp hz hz' (by omega) (by omega)
 go_enter Tryz.func53, Tryz.ntmps53
 go_upto_region 1 with (fail)
 rw [← hw0]
 clear hw0
 go_wp2
 have hp : (plan [Fc.num z, Fc.num z', Fc.num (-z'), Fc.num (z - z'), Fc.any] [(w.heap.size + 1 + 1, 4, 0, z - z')] []).Ok (w.heap.size + 2) w0.heap.size := zD6 (by simp; omega) (by simp) (by simp) (by omega)
 have hm := PMono.of hp
 refine zEb (p := plan [Fc.num z, Fc.num z', Fc.num (-z'), Fc.num (z - z'), Fc.any] [(w.heap.size + 1 + 1, 4, 0, z - z')] []) (B := w.heap.size + 2) (B0 := w0.heap.size) (w0 := w0) (by kernel_rfl) rfl rfl (zD7 (by simp; exact hR) (Below.refl _ _))
  ⟨?_, ?_, ?_, ?_, ?_, trivial⟩ ?_
 ·exact g_load (b := w.heap.size) (z := z) hm ⟨by simp [plan], by simp [plan]⟩ trivial (src_out rfl rfl (fun W hb => ⟨rfl, (hXW W hb).1⟩)) (fun v w h => h)
 ·exact g_load (b := w.heap.size + 1) (z := z') hm ⟨by simp [plan], by simp [plan]⟩ trivial (src_out rfl rfl (fun W hb => ⟨rfl, (hXW W hb).2.1⟩)) (fun v w h => h)
 ·exact g_call1 (F := (Fc.num z').P) hm ⟨by simp [plan], by simp [plan]⟩ trivial zMy (zBr 1 rfl rfl (by simp) rfl (fun v w h => h)) (fun v w h => exK (RNegV h) Bn.out (by omega))
 ·exact zD4 (F := (Fc.num z).P) (G := (Fc.num (-z')).P) hm ⟨by simp [plan], by simp [plan]⟩ trivial zGu (zBr 0 rfl rfl (by simp) rfl (fun v w h => h)) (zBr 2 rfl rfl (by simp) rfl (fun v w h => h)) (fun v v' w h h' => by
   have := zDn h h'
   rw [show z + -z' = z - z' by omega] at this
   exact exK this Bs.out (by omega))
 ·exact zC9 (b := w.heap.size + 1 + 1) (j := 3) (z := 0) (z' := z - z') hp rfl (by simp [plan]) rfl rfl rfl (by simp) rfl (fun v w h => h) (fun _ _ => trivial) (by simp [plan]) (by simp [plan])
 ·intro L vs w2 hL hG
  obtain ⟨ng, ao2, k2, c2, ⟨e0, e1, e2, e3⟩, hN⟩ : BoxNum w2 (w.heap.size + 1 + 1) (z - z') := by
   have := hG.old (w.heap.size + 1 + 1, 4, 0, z - z') (by simp [plan])
   simpa [hL 4 (by simp)] using this
  have hb : Below w.heap.size w w2 := (hXW w2 hG.below).2.2
  rw [zAe hL]
  simp only [SP, Nat.zero_add, Nat.reduceAdd]
  clear hL hG hp
  go_wp2
  refine bodyPost_ret (v := .agg #[.bool ng, .slice ao2 k2 c2]) ?_ rfl ⟨_, rfl, hN.isInt, hb⟩
  simp [results, Tryz.results53, go_sem, e0, e1]

theorem rmac {i k : Nat} {us zs ys : List Int} {q x y z : Int} (hk : i + k < us.length) (h : val (us.take (i + k)) + pw (i + k) * q = val (zs.take (i + k)) + pw i * (x * val (ys.take k))) (hz : zs.getD (i + k) 0 = z) (hy : ys.getD k 0 = y) :
  val ((us.set (i + k) ((q + (x * y + z)) % 4294967296)).take (i + (k + 1))) + pw (i + (k + 1)) * ((q + (x * y + z)) / 4294967296) = val (zs.take (i + (k + 1))) + pw i * (x * val (ys.take (k + 1))) := by
 rw [show i + (k + 1) = (i + k) + 1 by omega, zAu, zCp _ _ _ _ (Nat.le_refl _), zBp _ _ _ hk, zAu zs, zAu ys, hz, hy]
 have h1 := zC7 (i + k) (q + (x * y + z))
 rw [Int.mul_add, Int.mul_add] at h1
 rw [Int.mul_add, Int.mul_add]
 have h2 : pw i * (x * (pw k * y)) = pw (i + k) * (x * y) := by rw [zEf]; ac_rfl
 rw [h2]
 omega

set_option maxRecDepth 20000 in
set_option maxHeartbeats 2000000 in
theorem rMul_any (w : World) (na nb : Bool) (ax ay : Option Addr) (n m cx cy : Nat) (xs ys : List Int) (hX : Sl w ax n cx xs) (hY : Sl w ay m cy ys) (hb1 : n ≤ 1000000) (hb2 : m ≤ 1000000) :
  Calls Tryz.prog 42 #[.agg #[.bool na, .slice ax n cx], .agg #[.bool nb, .slice ay m cy]] w (zA4 w (sgn na (val xs) * sgn nb (val ys))) := by
 obtain ⟨w0, hw0, hA, hB, hC, hbl, HS⟩ := zD1 w (.bool na) (.slice ax n cx) (.bool nb) (.slice ay m cy) 31
 have hn := hidd hX.len
 have hm := hidd hY.len
 obtain ⟨ca0, ca1, _, _⟩ := hA
 obtain ⟨cb0, cb1, _, _⟩ := hB
 go_enter Tryz.func42, Tryz.ntmps42
 go_upto_region 1 with (fail)
 rw [← hw0]
 clear hw0
 go_wp2_with (at_make; refine zDx _ rfl _ _ 22 rfl 93 Tryz.underlying22 (by kernel_rfl) _ _ _ _ rfl rfl (n + m) rfl rfl (by omega) ?_; intro w1 hrow hb1' hs1)
 obtain ⟨B, hB3⟩ : ∃ B, B = w0.heap.size := ⟨_, rfl⟩
 rw [← hB3] at hrow hb1' hs1
 rw [← hB3]
 have HB4 : Hid (B = w.heap.size + 3) := by show B = _; rw [hB3]; exact HS.out
 have hBlt : w.heap.size + 2 < B := by have := HB4.out; omega
 clear hB3 HS HB4
 go_loopw [6] (fun vi wr => ∃ (i : Nat) (zs : List Int), i ≤ n ∧ vi = .int .i64 i ∧ zs.length = n + m ∧ Row wr 93 B zs ∧ Below B w0 wr ∧ val (zs.take (i + m)) = val (xs.take i) * val ys) (fun vi _ => n - (intOf vi).toNat)
 case atStart => exact ⟨0, _, Nat.zero_le _, rfl, by simp, hrow, hb1', by rw [List.take_replicate, zFh]; simp [val]⟩
 case round =>
  obtain ⟨i, zs, hi, rfl, hzl, hr, hbr, hv⟩ := hrel
  have HZL := hidd hzl
  have HV := hidd hv
  clear hzl hv hrow hb1' hs1
  have da0 := (hbr.cell (p := ⟨w.heap.size, 0, none⟩) (by show w.heap.size < _; omega)).trans ca0
  have da1 := (hbr.cell (p := ⟨w.heap.size, 1, none⟩) (by show w.heap.size < _; omega)).trans ca1
  have db0 := (hbr.cell (p := ⟨w.heap.size + 1, 0, none⟩) (by show w.heap.size + 1 < _; omega)).trans cb0
  have db1 := (hbr.cell (p := ⟨w.heap.size + 1, 1, none⟩) (by show w.heap.size + 1 < _; omega)).trans cb1
  have hbw : Below w.heap.size w wr := hbl.trans (hbr.mono (by omega))
  by_cases hin : i < n
  ·obtain ⟨b1, off1, rfl, hbl1, x, hxc0, hx0, hx1, HX⟩ := hX.cells.at (k := i) (by rw [hn.out]; exact hin)
   go_wp2
   go_loopw [7, 8] (fun vc vk wq => ∃ (k : Nat) (q : Int) (us : List Int), k ≤ m ∧ vk = .int .i64 k ∧ vc = .int .u64 q ∧ 0 ≤ q ∧ q < 4294967296 ∧ us.length = n + m ∧ Row wq 93 B us ∧ Below B w0 wq ∧ us.drop (i + k) = zs.drop (i + k) ∧
    val (us.take (i + k)) + pw (i + k) * q = val (zs.take (i + k)) + pw i * (x * val (ys.take k))) (fun _ vk _ => m - (intOf vk).toNat)
   case atStart => exact ⟨0, 0, zs, Nat.zero_le _, rfl, rfl, by omega, by omega, HZL.out, hr, hbr, rfl, by simp [val]⟩
   case round =>
    obtain ⟨k, q, us, hk, rfl, rfl, hq0, hq1, hul, hr2, hbr2, hdr, hv2⟩ := hrel
    have HUL := hidd hul
    have HDR := hidd hdr
    have HV2 := hidd hv2
    clear hul hdr hv2 da0 da1 db0 db1 hr hbr hbw
    have da0 := (hbr2.cell (p := ⟨w.heap.size, 0, none⟩) (by show w.heap.size < _; omega)).trans ca0
    have da1 := (hbr2.cell (p := ⟨w.heap.size, 1, none⟩) (by show w.heap.size < _; omega)).trans ca1
    have db0 := (hbr2.cell (p := ⟨w.heap.size + 1, 0, none⟩) (by show w.heap.size + 1 < _; omega)).trans cb0
    have db1 := (hbr2.cell (p := ⟨w.heap.size + 1, 1, none⟩) (by show w.heap.size + 1 < _; omega)).trans cb1
    have hbw2 : Below w.heap.size w wr := hbl.trans (hbr2.mono (by omega))
    have hul := HUL.out
    by_cases hkm : k < m
    ·obtain ⟨b2, off2, rfl, hbl2, y, hyc0, hy0, hy1, HY⟩ := hY.cells.at (k := k) (by rw [hm.out]; exact hkm)
     have hku : i + k < us.length := by omega
     obtain ⟨z, hzc, hz0, hz1, HZ⟩ := hr2.at hku
     have hfr := hr2.frozen (i + k)
     have hxc := (hbw2.cell (p := ⟨b1, off1 + i, none⟩) hbl1).trans hxc0
     have hyc := (hbw2.cell (p := ⟨b2, off2 + k, none⟩) hbl2).trans hyc0
     obtain ⟨hp0, hp1⟩ := zFu hx0 hx1 hy0 hy1
     have hw1 : IntKind.u64.wrap x = x := IntWalk.u64_in _ (by omega)
     have hw2 : IntKind.u64.wrap y = y := IntWalk.u64_in _ (by omega)
     have hw3 : IntKind.u64.wrap (x * y) = x * y := IntWalk.u64_in _ (by omega)
     have hw4 : IntKind.u64.wrap z = z := IntWalk.u64_in _ (by omega)
     have hw5 : IntKind.u64.wrap (x * y + z) = x * y + z := IntWalk.u64_in _ (by omega)
     have hw6 : IntKind.u64.wrap (q + (x * y + z)) = q + (x * y + z) := IntWalk.u64_in _ (by omega)
     have hik : IntKind.i64.wrap ((i : Int) + (k : Int)) = ((i + k : Nat) : Int) := by rw [Int.natCast_add]; exact IntWalk.i64_in _ (by omega)
     have hiknm : i + k < n + m := by omega
     clear hul
     go_wp2
     go_quiet (fail)
     obtain ⟨w2, hW2⟩ : ∃ w2, w2 = wr.drewN nq := ⟨_, rfl⟩
     rw [← hW2]
     have hrw : Row w2 93 B us := by rw [hW2]; exact hr2
     have hbw : Below B w0 w2 := by rw [hW2]; exact hbr2.trans ((Drawn.refl wr).drewN nq |>.below _)
     clear hW2 hr2 hbr2 hbw2 hzc hfr hxc hyc da0 da1 db0 db1 hw1 hw2 hw3 hw4 hw5 hw6
     have hfr := hrw.frozen (i + k)
     have hzc := hrw.cell hku
     go_wp2
     go_roundw
     case rel =>
      refine ⟨k + 1, (q + (x * y + z)) / 4294967296, us.set (i + k) ((q + (x * y + z)) % 4294967296), by omega, by go_num, by go_num, by omega, by omega, by rw [List.length_set]; exact HUL.out, hrw.set ⟨by omega, by omega⟩, hbw.setCell (Nat.le_refl _) _, ?_, ?_⟩
      ·rw [List.drop_set_of_lt (by omega)]
       have := congrArg (List.drop 1) HDR.out
       simpa [List.drop_drop, Nat.add_assoc] using this
      ·have hzz : zs.getD (i + k) 0 = z := by
        have := congrArg (fun l : List Int => l.getD 0 0) HDR.out
        simp only [zCi, Nat.add_zero] at this
        rw [← this]; exact HZ.out
       exact rmac hku HV2.out hzz HY.out
     case measure => simp [intOf]; omega
    ·obtain rfl : k = m := by omega
     have hzc := hr2.cell (j := i + k) (by omega)
     have hfr := hr2.frozen (i + k)
     have hik : IntKind.i64.wrap ((i : Int) + (k : Int)) = ((i + k : Nat) : Int) := by rw [Int.natCast_add]; exact IntWalk.i64_in _ (by omega)
     have hqm : q % 4294967296 = q := by omega
     clear hul
     go_wp2
     go_roundw
     case rel =>
      refine ⟨i + 1, us.set (i + k) q, by omega, by go_num, by rw [List.length_set]; exact HUL.out, hr2.set ⟨by omega, by omega⟩, hbr2.setCell (Nat.le_refl _) _, ?_⟩
      rw [show i + 1 + k = (i + k) + 1 by omega, zAu, zCp _ _ _ _ (Nat.le_refl _), zBp _ _ _ (by rw [HUL.out]; omega), zAu, HX.out]
      have h1 := HV2.out
      rw [HV.out, zAy ys (by rw [hm.out]; omega)] at h1
      rw [Int.add_mul, h1]
      congr 1
      ac_rfl
     case measure => simp [intOf]; omega
  ·obtain rfl : i = n := by omega
   have HE : Hid (val zs = val xs * val ys) := by
    have h1 := HV.out
    rw [zAy zs (by rw [HZL.out]; omega), zAy xs (by rw [hn.out]; omega)] at h1
    exact h1
   have hS := hr.sl HZL.out
   have hCr := hC.mono hbr (by omega)
   go_wp2_with fail
   refine (zDi _ _ _ _ _ _ hS (by omega)).mono ?_
   rintro e w3 ⟨v, rfl, ⟨ng, ao, nn, cc, rs, rfl, hrs, hrc, hrn, hrz⟩, hb3⟩
   obtain ⟨e0, e1, e2, e3⟩ := hCr.mono hb3 hCr.lt
   have hb4 : Below w.heap.size w w3 := hbw.trans (hb3.mono hbw.size)
   have hz : sgn na (val xs) * sgn nb (val ys) = sgn ng (val rs) := by
    rw [← hrz, HE.out]
    cases na <;> cases nb <;> simp [sgn, Int.mul_neg, Int.neg_mul]
   have HZ := hidd hz
   clear hrz hz
   go_wp2
   refine bodyPost_ret (v := .agg #[.bool ng, .slice ao nn cc]) ?_ rfl ?_
   ·simp [results, Tryz.results42, go_sem, e0, e1]
   ·exact zBv ⟨e0, e1, e2, e3⟩ hrs hrc hrn HZ.out hb4 (by omega)

theorem zBy {w : World} {v v' : Value} {z z' : Int} (h : Num w v z) (h' : Num w v' z') : Calls Tryz.prog 42 #[v, v'] w (zA4 w (z * z')) := by
 obtain ⟨neg, ao, n, c, xs, rfl, hs, hn, rfl, hc, _⟩ := h
 obtain ⟨neg', ao', n', c', xs', rfl, hs', hn', rfl, hc', _⟩ := h'
 exact rMul_any _ _ _ _ _ _ _ _ _ _ _ hs hs' (by omega) (by omega)

end Go.Proofs.YtdhkhedhnolcjaaGreat

namespace Go.Proofs.YtdhkhedhnolcjaaGreat
open Go Go.RowKit

def DivR (w : World) (X Y : Int) (e : Ending) (w' : World) : Prop :=
 ∃ aq lq cq qs ar lr cr rs, e = .returned (.agg #[.slice aq lq cq, .slice ar lr cr]) ∧ Sl w' aq lq cq qs ∧ Sl w' ar lr cr rs ∧ lq ≤ 3000000 ∧ lr ≤ 3000000 ∧ val qs = X / Y ∧ val rs = X % Y ∧ Below w.heap.size w w'

theorem val_two {xs : List Int} (h : xs.length ≤ 2) : val xs = xs.getD 0 0 + xs.getD 1 0 * 4294967296 := by
 have h1 := zEh xs 0
 have h2 := zEh xs 1
 rw [List.drop_of_length_le (show xs.length ≤ 1 + 1 by omega)] at h2
 rw [List.drop_zero, h2] at h1
 rw [h1]
 show _ + 4294967296 * (_ + 4294967296 * 0) = _
 omega

theorem or_pair {x y : Int} (hx0 : 0 ≤ x) (hx1 : x < 4294967296) (hy0 : 0 ≤ y) (hy1 : y < 4294967296) : bits .or .u64 x (y * 4294967296) = x + y * 4294967296 := (zFz x y hx0 hx1 hy0 hy1).1

theorem zK5 {w S : World} {N : Nat} (hS : S.heap.size = N) (hb : Below w.heap.size w S) (T U : Int) (hT0 : 0 ≤ T) (hT1 : T < 18446744073709551616) (hU0 : 0 ≤ U) (hU1 : U < 18446744073709551616) :
  Sl (((S.alloc (.cells #[.int .u32 (T % 4294967296), .int .u32 (T / 4294967296)] 93)).alloc (.cells #[.int .u32 (U % 4294967296), .int .u32 (U / 4294967296)] 93)).drew) (some ⟨N, 0, none⟩) 2 2 [T % 4294967296, T / 4294967296] ∧
  Sl (((S.alloc (.cells #[.int .u32 (T % 4294967296), .int .u32 (T / 4294967296)] 93)).alloc (.cells #[.int .u32 (U % 4294967296), .int .u32 (U / 4294967296)] 93)).drew) (some ⟨N + 1, 0, none⟩) 2 2 [U % 4294967296, U / 4294967296] ∧
  Below w.heap.size w (((S.alloc (.cells #[.int .u32 (T % 4294967296), .int .u32 (T / 4294967296)] 93)).alloc (.cells #[.int .u32 (U % 4294967296), .int .u32 (U / 4294967296)] 93)).drew) ∧
  val [T % 4294967296, T / 4294967296] = T ∧ val [U % 4294967296, U / 4294967296] = U := by
 subst hS
 obtain ⟨s1, v1⟩ := zIi S 93 rfl T hT0 hT1
 obtain ⟨s2, v2⟩ := zIi (S.alloc (.cells #[.int .u32 (T % 4294967296), .int .u32 (T / 4294967296)] 93)) 93 rfl U hU0 hU1
 rw [World.size_alloc] at s2
 have h1 := hb.alloc hb.size (.cells #[.int .u32 (T % 4294967296), .int .u32 (T / 4294967296)] 93)
 have h2 := h1.alloc h1.size (.cells #[.int .u32 (U % 4294967296), .int .u32 (U / 4294967296)] 93)
 exact ⟨(s1.mono (zAw _ _)).drew, s2.drew, h2.drew, v1.out, v2.out⟩

theorem zHg {w w0 : World} {p q : Value} (hbl : Below w.heap.size w w0) (hI : IntBox w0 w.heap.size p q) (u v : Value) :
  ∃ S, S = (w0.setCell ⟨w.heap.size, 0, none⟩ u).setCell ⟨w.heap.size, 1, none⟩ v ∧ S.heap.size = w0.heap.size ∧ Below w.heap.size w S ∧ S.cell? ⟨w.heap.size, 0, none⟩ = some u ∧ S.cell? ⟨w.heap.size, 1, none⟩ = some v := by
 obtain ⟨e0, e1, _, _⟩ := hI
 have h1 : (w0.setCell ⟨w.heap.size, 0, none⟩ u).cell? ⟨w.heap.size, 1, none⟩ = some q := by
  rw [World.cell?_setCell_other _ _ _ _ (by intro e; cases e)]; exact e1
 refine ⟨_, rfl, by rw [World.size_setCell, World.size_setCell], (hbl.setCell (Nat.le_refl _) _).setCell (Nat.le_refl _) _, ?_, ?_⟩
 ·rw [World.cell?_setCell_other _ _ _ _ (by intro e; cases e)]
  exact World.cell?_setCell_same _ _ _ e0
 ·exact World.cell?_setCell_same _ _ _ h1

set_option maxRecDepth 20000 in
set_option maxHeartbeats 2000000 in
theorem zMj (w : World) (ax ay : Option Addr) (n m cx cy : Nat) (xs ys : List Int) (hX : Sl w ax n cx xs) (hY : Sl w ay m cy ys) (hy0 : 0 < val ys) (hn : n ≤ 2) (hm : m ≤ 2) :
  Calls Tryz.prog 103 #[.slice ax n cx, .slice ay m cy] w (DivR w (val xs) (val ys)) := by
 obtain ⟨x0, hx0⟩ : ∃ x, xs.getD 0 0 = x := ⟨_, rfl⟩
 obtain ⟨x1, hx1⟩ : ∃ x, xs.getD 1 0 = x := ⟨_, rfl⟩
 obtain ⟨y0, hy0'⟩ : ∃ x, ys.getD 0 0 = x := ⟨_, rfl⟩
 obtain ⟨y1, hy1⟩ : ∃ x, ys.getD 1 0 = x := ⟨_, rfl⟩
 have dx0 := hX.digs.getD 0
 have dx1 := hX.digs.getD 1
 have dy0 := hY.digs.getD 0
 have dy1 := hY.digs.getD 1
 have vx := val_two (show xs.length ≤ 2 by rw [hX.len]; exact hn)
 have vy := val_two (show ys.length ≤ 2 by rw [hY.len]; exact hm)
 rw [hx0] at dx0 vx
 rw [hx1] at dx1 vx
 rw [hy0'] at dy0 vy
 rw [hy1] at dy1 vy
 have ox := or_pair dx0.1 dx0.2 dx1.1 dx1.2
 have oy := or_pair dy0.1 dy0.2 dy1.1 dy1.2
 obtain ⟨X, hXe⟩ : ∃ X, X = x0 + x1 * 4294967296 := ⟨_, rfl⟩
 obtain ⟨Y, hYe⟩ : ∃ Y, Y = y0 + y1 * 4294967296 := ⟨_, rfl⟩
 rw [← hXe] at ox vx
 rw [← hYe] at oy vy
 rw [vx, vy]
 rw [vy] at hy0
 have hX0 : 0 ≤ X := by omega
 have hX1 : X < 18446744073709551616 := by omega
 have hY1 : Y < 18446744073709551616 := by omega
 have hx1m : x1 * 4294967296 < 18446744073709551616 := by omega
 have hx1n : 0 ≤ x1 * 4294967296 := by omega
 have hy1m : y1 * 4294967296 < 18446744073709551616 := by omega
 have hy1n : 0 ≤ y1 * 4294967296 := by omega
 have Hx0 := hidd hx0
 have Hx1 := hidd hx1
 have Hy0 := hidd hy0'
 have Hy1 := hidd hy1
 clear hx0 hx1 hy0' hy1 hXe hYe vx vy dx0 dx1 dy0 dy1
 obtain ⟨w0, hw0⟩ : ∃ w0, w0 = w.alloc (.cells #[.slice none 0 0, .slice none 0 0] 109) := ⟨_, rfl⟩
 have hbl : Below w.heap.size w w0 := by rw [hw0]; exact zAw _ _
 have hX0w := hX.mono hbl
 have hY0w := hY.mono hbl
 have hI : IntBox w0 w.heap.size (.slice none 0 0) (.slice none 0 0) := by rw [hw0]; exact IntBox.new _ _ _ _
 have hsz : w0.heap.size = w.heap.size + 1 := by rw [hw0]; simp
 have HSZ := hidd hsz
 clear hsz
 go_enter Tryz.func103, Tryz.ntmps103
 go_upto_region 1 with (fail)
 rw [← hw0]
 clear hw0
 go_wp2_with fail
 refine (zDa _ _ _ _ _ hX0w (by omega) 0 (by omega) x0 Hx0.out _ rfl).mono ?_
 rintro e w' ⟨rfl, rfl⟩
 go_wp2_with fail
 refine (zDa _ _ _ _ _ hX0w (by omega) 1 (by omega) x1 Hx1.out _ rfl).mono ?_
 rintro e w' ⟨rfl, rfl⟩
 go_wp2_with fail
 refine (zDa _ _ _ _ _ hY0w (by omega) 0 (by omega) y0 Hy0.out _ rfl).mono ?_
 rintro e w' ⟨rfl, rfl⟩
 go_wp2_with fail
 refine (zDa _ _ _ _ _ hY0w (by omega) 1 (by omega) y1 Hy1.out _ rfl).mono ?_
 rintro e w' ⟨rfl, rfl⟩
 have hq0 : 0 ≤ X / Y := Int.ediv_nonneg hX0 (by omega)
 have hq1 : X / Y < 18446744073709551616 := Int.lt_of_le_of_lt (Int.ediv_le_self _ hX0) hX1
 have hr0 : 0 ≤ X % Y := Int.emod_nonneg _ (by omega)
 have hr1 : X % Y < 18446744073709551616 := Int.lt_trans (Int.emod_lt_of_pos _ hy0) hY1
 have hYz : (Y == 0) = false := by simp; omega
 have hYn : Y ≠ 0 := by omega
 have hI2 := hI
 obtain ⟨e0, e1, e2, e3⟩ := hI
 have hlt : w.heap.size < w0.heap.size := by have := HSZ.out; omega
 have hne : ¬ w.heap.size = w0.heap.size := by omega
 have hne2 : ¬ w.heap.size = w0.heap.size + 1 := by omega
 go_wp2
 go_region
 ·obtain ⟨S, hS, hsz, hbS, c0, c1⟩ := zHg hbl hI2 (.slice (some ⟨w0.heap.size, 0, none⟩) 2 2) (.slice (some ⟨w0.heap.size + 1, 0, none⟩) 2 2)
  rw [← hS]
  obtain ⟨s1, s2, hbW, v1, v2⟩ := zK5 hsz hbS (X / Y) (X % Y) hq0 hq1 hr0 hr1
  clear hS
  have hltS : w.heap.size < S.heap.size := by omega
  go_wp2
  refine bodyPost_ret (v := .agg #[.slice (some ⟨w0.heap.size, 0, none⟩) 2 2, .slice (some ⟨w0.heap.size + 1, 0, none⟩) 2 2]) ?_ rfl ⟨_, _, _, _, _, _, _, _, rfl, s1, s2, by omega, by omega, v1, v2, hbW⟩
  simp [results, Tryz.results103, go_sem, c0, c1, hltS]
 ·obtain ⟨S, hS, hsz, hbS, c0, c1⟩ := zHg hbl hI2 (.slice (some ⟨w0.heap.size + 1, 0, none⟩) 2 2) (.slice (some ⟨w0.heap.size, 0, none⟩) 2 2)
  rw [← hS]
  obtain ⟨s1, s2, hbW, v1, v2⟩ := zK5 hsz hbS (X % Y) (X / Y) hr0 hr1 hq0 hq1
  clear hS
  have hltS : w.heap.size < S.heap.size := by omega
  go_wp2
  refine bodyPost_ret (v := .agg #[.slice (some ⟨w0.heap.size + 1, 0, none⟩) 2 2, .slice (some ⟨w0.heap.size, 0, none⟩) 2 2]) ?_ rfl ⟨_, _, _, _, _, _, _, _, rfl, s2, s1, by omega, by omega, v2, v1, hbW⟩
  simp [results, Tryz.results103, go_sem, c0, c1, hltS]

theorem zMb (w : World) (ty : TypeId) (g : Nat) (ao : Option Addr) (m c : Nat) (ys : List Int) (hS : Sl w ao m c ys) (hb : m ≤ 1000000) :
  ∃ ao' c' w', (Builtin.append_ #[22, 22] ty #[.slice (some ⟨g, 0, none⟩) 0 0, .slice ao m c]).run Tryz.prog w = .ok (.slice ao' m c') w' ∧ Below w.heap.size w w' ∧ Sl w' ao' m c' ys ∧
   (0 < m → ∃ g', ao' = some ⟨g', 0, none⟩ ∧ w.heap.size ≤ g' ∧ Mine w' g' m ys) := by
 obtain ⟨i0, hi, hz0, hz1, hz2⟩ := info_parts zFs
 by_cases h0 : m = 0
 ·obtain ⟨v', w', h1, h2, ao', c', rfl, h3⟩ := zMc w ty g ao m c ys hS hb
  exact ⟨ao', c', w', h1, h2, h3, fun h => absurd h0 (by omega)⟩
 ·rcases hS.cells.2 with h1 | ⟨b, off, rfl, hlt, hc⟩
  ·subst h1; have := hS.len; simp at this; omega
  ·obtain ⟨v', w', hrun, hown, hg⟩ := run_append_arg_grows (P := Tryz.prog) w 22 ty 93 i0 (.int .u32 0) 1 4 Tryz.underlying22 hi hz0 hz1 hz2 rfl (by decide)
    ⟨g, 0, none⟩ 0 0 [] (by simp) (by simp) ⟨b, off, none⟩ m c (ys.map (Value.int .u32)) (by simp [hS.len]) (fun j u hu => by
     have hj : j < ys.length := by have := (List.getElem?_eq_some_iff.1 hu).1; simpa using this
     rw [Go.WideShapes.add_plain, hc j hj, ← hu]
     simp [hj]) (by omega) (by unfold maxLen; omega) (by omega)
   rw [Nat.zero_add, List.nil_append, ← hS.len] at hown
   have hO : Ow w' w.heap.size v' ys := ⟨hown, hS.digs⟩
   obtain ⟨ao', c', rfl, hS'⟩ := hO.sl
   rw [hS.len] at hS' hrun hO
   refine ⟨ao', c', w', hrun, ⟨hg.os, hg.tape, hg.output, hg.size, fun k hk => hg.block k hk (by simp)⟩, hS', fun _ => ?_⟩
   rcases hO.1.2 with ⟨_, h2⟩ | ⟨g', cap', cur, h2, _⟩
   ·rw [hS.len] at h2; omega
   ·cases h2
    have := hO.mine
    exact ⟨g', rfl, this.2.1, this.1⟩

theorem zPp (w : World) {ops : Array Oper} {rest : List Oper} {o : Oper} {a : Act} {Q : Exit → Act → World → Prop} (hgd : o.guard = none) (s x : Operand)
  (hop : o.op = Op.call { callee := Callee.builtin Builtin.append, args := #[s, x], argTypes := #[22, 22] }) (g : Nat) (ao : Option Addr) (m c : Nat) (ys : List Int)
  (hs : a.eval s = .slice (some ⟨g, 0, none⟩) 0 0) (hx : a.eval x = .slice ao m c) (hS : Sl w ao m c ys) (hb : m ≤ 1000000)
  (hK : ∀ ao' c' w', Below w.heap.size w w' → Sl w' ao' m c' ys → (0 < m → ∃ g', ao' = some ⟨g', 0, none⟩ ∧ w.heap.size ≤ g' ∧ Mine w' g' m ys) → wpList Tryz.prog ops Q rest (a.put o.dst (.slice ao' m c')) w') :
  wpList Tryz.prog ops Q (o :: rest) a w := by
 refine wpList_plain hgd fun K hK' => ?_
 obtain ⟨ao', c', w', hrun, h1, h2, h3⟩ := zMb w o.type g ao m c ys hS hb
 unfold Oper.wp
 simp [execOp, hop, resolve, invoke, builtin, hs, hx, hrun, Result.andThen]
 exact hK' _ _ (hK ao' c' w' h1 h2 h3)

theorem val_set {zs : List Int} {j : Nat} {x : Int} (hj : j < zs.length) : val (zs.set j x) = val zs + pw j * (x - zs.getD j 0) := by
 have e1 := zFi (zs.set j x) (j + 1)
 have e2 := zFi zs (j + 1)
 rw [zAu, zCp _ _ _ _ (Nat.le_refl _), zBp _ _ _ hj, List.drop_set_of_lt (by omega)] at e1
 rw [zAu] at e2
 rw [Int.mul_sub]
 omega

theorem bit_word {qs : List Int} {j : Nat} {c : Int} (hq : Digs qs) (h : val qs = 2 ^ (j + 1) * c) : qs.getD (j / 32) 0 % 2 ^ (j % 32 + 1) = 0 := by
 have e : (2 : Int) ^ (j + 1) = pw (j / 32) * 2 ^ (j % 32 + 1) := by rw [zCk, ← Int.pow_add]; congr 1; omega
 have e32 : (4294967296 : Int) = 2 ^ (j % 32 + 1) * 2 ^ (31 - j % 32) := by rw [← Int.pow_add, show j % 32 + 1 + (31 - j % 32) = 32 by omega]; rfl
 have e1 := zFi qs (j / 32)
 have e2 := zEh qs (j / 32)
 have h0 := zAv (hq.take (j / 32))
 have h1 := zL1 hq (j / 32)
 have hp := zA6 (j / 32)
 rw [h, e, Int.mul_assoc] at e1
 generalize val (qs.take (j / 32)) = T at *
 generalize val (qs.drop (j / 32)) = D at *
 generalize val (qs.drop (j / 32 + 1)) = H at *
 generalize qs.getD (j / 32) 0 = x at *
 generalize pw (j / 32) = P at *
 rw [e32] at e2
 generalize (2 : Int) ^ (j % 32 + 1) = S at *
 generalize (2 : Int) ^ (31 - j % 32) = V at *
 have hT : T = P * (S * c - D) := by rw [Int.mul_sub]; omega
 have hz : S * c - D = 0 := by
  rcases Int.lt_trichotomy (S * c - D) 0 with h2 | h2 | h2
  ·have := Int.mul_le_mul_of_nonneg_left (show S * c - D ≤ -1 by omega) (Int.le_of_lt hp)
   omega
  ·exact h2
  ·have := Int.mul_le_mul_of_nonneg_left (show 1 ≤ S * c - D by omega) (Int.le_of_lt hp)
   omega
 have hx : x = S * (c - V * H) := by rw [Int.mul_sub, ← Int.mul_assoc]; omega
 rw [hx]
 exact Int.mul_emod_right _ _

theorem or_bit {x : Int} {r : Nat} (hr : r < 32) (hx0 : 0 ≤ x) (hx1 : x < 4294967296) (h : x % 2 ^ (r + 1) = 0) : bits .or .u32 x (2 ^ r) = x + 2 ^ r ∧ x + 2 ^ r < 4294967296 := by
 obtain ⟨h1, h2⟩ := zF8 r hr
 have h3 := zFe r
 refine ⟨(or_u32 (r + 1) x (2 ^ r) hx0 hx1 (by omega) (by omega) (by omega) h).1, ?_⟩
 have e32 : (4294967296 : Int) = 2 ^ (r + 1) * 2 ^ (31 - r) := by rw [← Int.pow_add, show r + 1 + (31 - r) = 32 by omega]; rfl
 have h4 : (4294967296 - x) % 2 ^ (r + 1) = 0 := by
  rw [Int.sub_emod, h, e32, Int.mul_emod_right]; simp
 have h5 := Int.le_of_dvd (show 0 < 4294967296 - x by omega) (Int.dvd_of_emod_eq_zero h4)
 omega

theorem bits_lt {X Y : Int} {a b : Nat} (hX : zDb X a) (hY : zDb Y b) (h : a < b) : X < Y := by
 have hY2 : (2 : Int) ^ (b - 1) ≤ Y := by
  rcases hY with ⟨_, h0⟩ | ⟨_, h1, _⟩
  ·omega
  ·exact h1
 have hX2 : X < 2 ^ a := by
  rcases hX with ⟨h1, h0⟩ | ⟨_, _, h1⟩
  ·subst h0; rw [h1]; decide
  ·exact h1
 have h3 := zDm (show a ≤ b - 1 by omega)
 omega

theorem bits_room {X Y : Int} {a b N : Nat} (hX : zDb X a) (hY : zDb Y b) (hY0 : 0 < Y) (h : a = b + N) : X < Y * 2 ^ (N + 1) := by
 have hX2 : X < 2 ^ a := by
  rcases hX with ⟨h1, h0⟩ | ⟨_, _, h1⟩
  ·subst h0; rw [h1]; decide
  ·exact h1
 rcases hY with ⟨h1, _⟩ | ⟨h0, h1, _⟩
 ·omega
 ·have h3 := Int.mul_le_mul_of_nonneg_right h1 (Int.le_of_lt (zBe (N + 1)))
  rw [← Int.pow_add, show b - 1 + (N + 1) = a by omega] at h3
  omega

end Go.Proofs.YtdhkhedhnolcjaaGreat

namespace Go.Proofs.YtdhkhedhnolcjaaGreat
open Go Go.RowKit

structure DivInv (w0 : World) (B gr gq gd n lq ld : Nat) (X Y : Int) (k : Nat) (wr : World) where
 below : Below B w0 wr
 some : ∃ rs qs ds : List Int, Mine wr gr n rs ∧ Mine wr gq lq qs ∧ Mine wr gd ld ds ∧ X = val qs * Y + val rs ∧ val rs < Y * 2 ^ k ∧ (∃ c, val qs = 2 ^ k * c) ∧ (0 < k → val ds = Y * 2 ^ (k - 1))

set_option maxRecDepth 20000 in
set_option maxHeartbeats 4000000 in
theorem zMi (w : World) (ax ay : Option Addr) (n m cx cy : Nat) (xs ys : List Int) (hX : Sl w ax n cx xs) (hY : Sl w ay m cy ys) (hcx : Canon xs) (hcy : Canon ys) (hy0 : 0 < val ys) (hn : n ≤ 1000000) (hm : m ≤ 1000000) (hlong : ¬ (n ≤ 2 ∧ m ≤ 2)) :
  Calls Tryz.prog 103 #[.slice ax n cx, .slice ay m cy] w (DivR w (val xs) (val ys)) := by
 have HCX := hidd hcx
 have HCY := hidd hcy
 have HY0 := hidd hy0
 clear hcx hcy hy0
 obtain ⟨w0, hw0⟩ : ∃ w0, w0 = w.alloc (.cells #[.slice none 0 0, .slice none 0 0] 109) := ⟨_, rfl⟩
 have hbl : Below w.heap.size w w0 := by rw [hw0]; exact zAw _ _
 have hI : IntBox w0 w.heap.size (.slice none 0 0) (.slice none 0 0) := by rw [hw0]; exact IntBox.new _ _ _ _
 have hlt : w.heap.size < w0.heap.size := by rw [hw0]; simp
 have hI2 := hidd hI
 obtain ⟨e0, e1, e2, e3⟩ := hI
 go_enter Tryz.func103, Tryz.ntmps103
 go_upto_region 1 with (fail)
 rw [← hw0]
 clear hw0
 rcases (by omega : 2 < n ∨ (n ≤ 2 ∧ 2 < m)) with hn2 | ⟨hn2, hm2⟩
 all_goals
  go_upto_region 5 with (fail)
 all_goals
  go_wp2_with (at_builtin; refine zPp _ rfl _ _ rfl _ ax n cx xs rfl rfl ((hX.mono hbl).mono (zAw _ _)) hn ?_; intro ar cr w1 hb1 hS1 hM1)
 all_goals
  have hbw1 : Below w0.heap.size w0 w1 := (zAw w0 _).trans (hb1.mono (by simp))
  clear hb1
  refine (zI4 _ _ _ _ _ _ ((hX.mono hbl).mono hbw1) HCX.out (by omega)).mono ?_
  rintro e w2 ⟨b1, rfl, hB1, hb1n, hb2⟩
  have hbw2 := hbw1.trans (hb2.mono hbw1.size)
  go_wp2_with fail
  refine (zI4 _ _ _ _ _ _ ((hY.mono hbl).mono hbw2) HCY.out (by omega)).mono ?_
  rintro e w3 ⟨b2, rfl, hB2, hb2m, hb3⟩
  have hbw3 := hbw2.trans (hb3.mono hbw2.size)
  have hS3 := (hS1.mono hb2).mono hb3
  have hM3 : 0 < n → ∃ g', ar = some ⟨g', 0, none⟩ ∧ w0.heap.size ≤ g' ∧ g' < w3.heap.size ∧ Mine w3 g' n xs := fun h => by
   obtain ⟨g', h1, h2, h3⟩ := hM1 h
   have h4 := (h3.mono hb2 h3.lt)
   exact ⟨g', h1, by simp at h2; omega, (h4.mono hb3 h4.lt).lt, h4.mono hb3 h4.lt⟩
  have f0 := (hbw3.cell (p := ⟨w.heap.size, 0, none⟩) hlt).trans e0
  have f1 := (hbw3.cell (p := ⟨w.heap.size, 1, none⟩) hlt).trans e1
  have f2 := (hbw3.frozen (p := ⟨w.heap.size, 0, none⟩) hlt).trans e2
  have f3 := (hbw3.frozen (p := ⟨w.heap.size, 1, none⟩) hlt).trans e3
  clear hM1 hS1 hbw1 hbw2 hb2 hb3 e0 e1 e2 e3
  have hbw : Below w.heap.size w w3 := hbl.trans (hbw3.mono hbl.size)
  by_cases hlt2 : b1 < b2
  ·have HXY := hidd (bits_lt hB1 hB2 hlt2)
   have hX0 := zAv hX.digs
   go_wp2
   obtain ⟨S, hS, hsz, hbS, c0, c1⟩ := zHg hbw ⟨f0, f1, f2, f3⟩ (.slice none 0 0) (.slice ar n cr)
   rw [← hS]
   have hSS : Sl S ar n cr xs := by rw [hS]; exact (hS3.setOther f0 (by intro q h; cases h) _).setOther (by rw [World.cell?_setCell_other _ _ _ _ (by intro e; cases e)]; exact f1) (by intro q h; cases h) _
   clear hS
   refine bodyPost_ret (v := .agg #[.slice none 0 0, .slice ar n cr]) ?_ rfl ⟨_, _, _, _, _, _, _, _, rfl, Sl.nil _, hSS, by omega, by omega, ?_, ?_, hbS⟩
   ·simp [results, Tryz.results103, go_sem, c0, c1]
   ·rw [Int.ediv_eq_zero_of_lt hX0 HXY.out]; rfl
   ·rw [Int.emod_eq_of_lt hX0 HXY.out]
  ·obtain ⟨N, hN⟩ : ∃ N, b1 = b2 + N := ⟨b1 - b2, by omega⟩
   have HR := hidd (bits_room hB1 hB2 HY0.out hN)
   have hb20 : 0 < b2 := by
    rcases hB2 with ⟨h1, _⟩ | ⟨h1, _⟩
    ·have := HY0.out; omega
    ·exact h1
   obtain ⟨gr, rfl, hgr, hgr2, hMr⟩ := hM3 (by omega)
   have hNi : (b1 : Int) - (b2 : Int) = (N : Int) := by omega
   have hNb : N ≤ 32000000 := by omega
   have hcr := hS3.cap
   clear hN hlt2 hb1n hb2m hB1 hB2
   go_wp2_with (at_make; refine zDx _ rfl _ _ 22 rfl 93 Tryz.underlying22 (by kernel_rfl) _ _ _ _ rfl rfl (N / 32 + 1) (by omega) (by omega) (by omega) ?_; intro w4 hrow hb4 hs4)
   have hbw4 : Below w0.heap.size w0 w4 := hbw3.trans (hb4.mono hbw3.size)
   refine (zKm _ _ _ _ _ ((hY.mono hbl).mono hbw4) (by omega) N (by omega)).mono ?_
   rintro e w5 ⟨gd, ld, cd, ds0, rfl, hgd, hMd, hcd, hld, hvd, hb5⟩
   have hbw5 := hbw4.trans (hb5.mono hbw4.size)
   have hq5 : Mine w5 w3.heap.size (N / 32 + 1) (List.replicate (N / 32 + 1) 0) := by
    have := hrow.mine
    rw [List.length_replicate] at this
    exact this.mono hb5 this.lt
   have hr5 := (hMr.mono hb4 hMr.lt).mono hb5 (hMr.mono hb4 hMr.lt).lt
   obtain ⟨gq, hgq⟩ : ∃ gq, gq = w3.heap.size := ⟨_, rfl⟩
   rw [← hgq] at hq5 hgr2 hs4
   rw [← hgq]
   have hgq0 : w0.heap.size ≤ gq := by rw [hgq]; exact hbw3.size
   have hne1 : gr ≠ gq := by omega
   have hne2 : gq ≠ gd := by omega
   have hne3 : gr ≠ gd := by omega
   have hgd0 : w0.heap.size ≤ gd := by omega
   have hld2 : ld ≤ 3000000 := by omega
   have HVD := hidd hvd
   clear hvd hld hrow hb4 hb5 hbw3 hbw4 hMr hM3 hS3 hgq hs4 hgd f0 f1 f2 f3 hbw
   go_wp2
   go_loopw [11] (fun vi wr => ∃ k : Nat, k ≤ N + 1 ∧ vi = .int .i64 ((k : Int) - 1) ∧ DivInv w0 w0.heap.size gr gq gd n (N / 32 + 1) ld (val xs) (val ys) k wr) (fun vi _ => (intOf vi + 1).toNat)
   case atStart =>
    refine ⟨N + 1, Nat.le_refl _, by go_num, hbw5, xs, _, ds0, hr5, hq5, hMd, ?_, HR.out, ⟨0, ?_⟩, fun _ => HVD.out⟩
    ·rw [zFh, Int.zero_mul, Int.zero_add]
    ·rw [zFh, Int.mul_zero]
   case round =>
    obtain ⟨k, hk, rfl, ⟨hb, rs, qs, dd, hr, hq, hd, hXe, hrl, ⟨c, hqc⟩, hdv⟩⟩ := hrel
    have HXE := hidd hXe
    have HRL := hidd hrl
    have HQC := hidd hqc
    have HDV := hidd hdv
    clear hXe hrl hqc hdv hr5 hq5 hMd hbw5
    by_cases hk0 : 0 < k
    ·obtain ⟨j, rfl⟩ : ∃ j, k = j + 1 := ⟨k - 1, by omega⟩
     have hj1 : ((j + 1 : Nat) : Int) - 1 = (j : Int) := by omega
     have HDJ : Hid (val dd = val ys * 2 ^ j) := HDV.out (by omega)
     clear HDV
     go_wp2_with fail
     refine (zO6 _ _ _ _ _ _ _ rs dd (hr.sl hcr) (hd.sl hcd) (by omega) (by omega)).mono ?_
     rintro e w' ⟨rfl, rfl⟩
     by_cases hge : val dd ≤ val rs
     ·have hged : decide (val dd ≤ val rs) = true := decide_eq_true hge
      rw [hged]
      have HGE := hidd hge
      clear hge hged
      go_wp2_with fail
      refine (take_any _ gr n cr rs hr hcr (by omega) (some ⟨gd, 0, none⟩) ld cd dd (hd.sl hcd) (by omega) (fun b' o h => by cases h; exact fun h => hne3 h.symm) HGE.out).mono ?_
      rintro e w6 ⟨rs', rfl, hr6, hv6, hg6, hs6⟩
      have hq6 := hq.other hg6 (fun h => hne1 h.symm)
      have hd6 := hd.other hg6 (fun h => hne3 h.symm)
      have hb6 : Below w0.heap.size w0 w6 := hb.grown hg6 hb.size (fun j hj => by cases hj; exact hgr)
      have HV6 := hidd hv6
      clear hv6 hr hq hd hb hg6 hs6
      have hjq : j / 32 < N / 32 + 1 := by omega
      obtain ⟨x, hx⟩ : ∃ x, qs.getD (j / 32) 0 = x := ⟨_, rfl⟩
      have hxd := hq6.digs.getD (j / 32)
      have hcell := hq6.cell hjq
      rw [hx] at hxd hcell
      have hfr := hq6.frozen (j / 32)
      have hbit := bit_word hq6.digs HQC.out
      rw [hx] at hbit
      obtain ⟨hor, hxb⟩ := or_bit (Nat.mod_lt j (by decide)) hxd.1 hxd.2 hbit
      obtain ⟨u, hu⟩ : ∃ u, u = x + 2 ^ (j % 32) := ⟨_, rfl⟩
      rw [← hu] at hor hxb
      have hp2 := zF8 (j % 32) (Nat.mod_lt j (by decide))
      have Hx := hidd hx
      have Hu := hidd hu
      have Hbit := hidd hbit
      have hj32 : j % 32 < 32 := Nat.mod_lt j (by decide)
      have hu0 : 0 ≤ u := by omega
      clear hx hu hbit
      go_wp2_with fail
      have hg7 := zDh w6 gq (j / 32) (.int .u32 u)
      have hq7 := hq6.set hjq hu0 hxb
      have hd7 := hd6.other hg7 (fun h => hne2 h.symm)
      have hr7 := hr6.other hg7 hne1
      have hb7 : Below w0.heap.size w0 (w6.setCell ⟨gq, j / 32, none⟩ (.int .u32 u)) := hb6.setCell hgq0 _
      generalize w6.setCell ⟨gq, j / 32, none⟩ (.int .u32 u) = w7 at *
      refine (zKj _ gd ld cd dd hd7 hcd (by omega)).mono ?_
      rintro e w8 ⟨dd', rfl, hd8, hv8, hg8, hs8⟩
      have hb8 : Below w0.heap.size w0 w8 := hb7.grown hg8 hb7.size (fun j hj => by cases hj; exact hgd0)
      have hq8 := hq7.other hg8 hne2
      have hr8 := hr7.other hg8 hne3
      have HV8 := hidd hv8
      clear hv8 hq7 hd7 hr7 hb7 hg7 hg8 hs8 hq6 hd6 hb6 hr6 hor hcell hfr
      go_wp2
      go_roundw
      case rel =>
       refine ⟨j, by omega, by go_num, hb8, rs', _, dd', hr8, hq8, hd8, ?_, ?_, ?_, ?_⟩
       ·have h1 := HXE.out
        rw [val_set (by have := hq8.len; rw [List.length_set] at this; omega), Hx.out, Hu.out, show x + 2 ^ (j % 32) - x = 2 ^ (j % 32) by omega, zCk, ← Int.pow_add, show 32 * (j / 32) + j % 32 = j by omega, HV6.out, HDJ.out, Int.add_mul, Int.mul_comm (val ys)]
        omega
       ·have h1 := HRL.out
        rw [HV6.out, HDJ.out]
        rw [Int.pow_succ, ← Int.mul_assoc] at h1
        omega
       ·refine ⟨2 * c + 1, ?_⟩
        rw [val_set (by have := hq8.len; rw [List.length_set] at this; omega), Hx.out, Hu.out, show x + 2 ^ (j % 32) - x = 2 ^ (j % 32) by omega, zCk, ← Int.pow_add, show 32 * (j / 32) + j % 32 = j by omega, HQC.out, Int.pow_succ, Int.mul_add, Int.mul_one, Int.mul_assoc]
       ·intro h
        rw [HV8.out, HDJ.out, show j = (j - 1) + 1 by omega, Int.pow_succ, ← Int.mul_assoc, Int.mul_ediv_cancel _ (by decide)]
        rfl
      case measure => simp [intOf]
     ·have hged : decide (val dd ≤ val rs) = false := decide_eq_false hge
      rw [hged]
      have HGE := hidd hge
      clear hge hged
      go_wp2_with fail
      refine (zKj _ gd ld cd dd hd hcd (by omega)).mono ?_
      rintro e w8 ⟨dd', rfl, hd8, hv8, hg8, hs8⟩
      have hb8 : Below w0.heap.size w0 w8 := hb.grown hg8 hb.size (fun j hj => by cases hj; exact hgd0)
      have hq8 := hq.other hg8 hne2
      have hr8 := hr.other hg8 hne3
      have HV8 := hidd hv8
      clear hv8 hq hd hr hb hg8 hs8
      go_wp2
      go_roundw
      case rel =>
       refine ⟨j, by omega, by go_num, hb8, rs, qs, dd', hr8, hq8, hd8, HXE.out, ?_, ?_, ?_⟩
       ·have h1 := HGE.out
        rw [HDJ.out] at h1
        omega
       ·refine ⟨2 * c, ?_⟩
        rw [HQC.out, Int.pow_succ, Int.mul_assoc]
       ·intro h
        rw [HV8.out, HDJ.out, show j = (j - 1) + 1 by omega, Int.pow_succ, ← Int.mul_assoc, Int.mul_ediv_cancel _ (by decide)]
        rfl
      case measure => simp [intOf]
    ·obtain rfl : k = 0 := by omega
     have hbw : Below w.heap.size w wr := hbl.trans (hb.mono hbl.size)
     obtain ⟨f0, f1, f2, f3⟩ := hI2.out.mono hb hlt
     have hR0 := zAv hr.digs
     have hR1 := HRL.out
     rw [Int.pow_zero, Int.mul_one] at hR1
     have hq1 := zGo (a := val xs) (P := val ys) (V := val qs) (r := val rs) (by have h := HXE.out; rw [Int.mul_comm (val qs)] at h; exact h) hR0 hR1 HY0.out
     have hr1 : val rs = val xs % val ys := by
      rw [Int.emod_def, ← hq1]
      have h := HXE.out
      rw [Int.mul_comm (val qs)] at h
      omega
     have HQ := hidd hq1
     have HM := hidd hr1
     clear hR0 hR1 hq1 hr1
     have hsq := hq.sl (Nat.le_refl _)
     have hsr := hr.sl hcr
     clear hq hr hd
     go_wp2
     obtain ⟨S, hS, hsz, hbS, c0, c1⟩ := zHg hbw ⟨f0, f1, f2, f3⟩ (.slice (some ⟨gq, 0, none⟩) (N / 32 + 1) (N / 32 + 1)) (.slice (some ⟨gr, 0, none⟩) n cr)
     rw [← hS]
     have hSq : Sl S (some ⟨gq, 0, none⟩) (N / 32 + 1) (N / 32 + 1) qs := by rw [hS]; exact (hsq.setOther f0 (by intro q h; cases h) _).setOther (by rw [World.cell?_setCell_other _ _ _ _ (by intro e; cases e)]; exact f1) (by intro q h; cases h) _
     have hSr : Sl S (some ⟨gr, 0, none⟩) n cr rs := by rw [hS]; exact (hsr.setOther f0 (by intro q h; cases h) _).setOther (by rw [World.cell?_setCell_other _ _ _ _ (by intro e; cases e)]; exact f1) (by intro q h; cases h) _
     clear hS
     refine bodyPost_ret (v := .agg #[.slice (some ⟨gq, 0, none⟩) (N / 32 + 1) (N / 32 + 1), .slice (some ⟨gr, 0, none⟩) n cr]) ?_ rfl ⟨_, _, _, _, _, _, _, _, rfl, hSq, hSr, by omega, by omega, HQ.out, HM.out, hbS⟩
     simp [results, Tryz.results103, go_sem, c0, c1]

theorem zMk (w : World) (ax ay : Option Addr) (n m cx cy : Nat) (xs ys : List Int) (hX : Sl w ax n cx xs) (hY : Sl w ay m cy ys) (hcx : Canon xs) (hcy : Canon ys) (hy0 : 0 < val ys) (hn : n ≤ 1000000) (hm : m ≤ 1000000) :
  Calls Tryz.prog 103 #[.slice ax n cx, .slice ay m cy] w (DivR w (val xs) (val ys)) := by
 by_cases h : n ≤ 2 ∧ m ≤ 2
 ·exact zMj w ax ay n m cx cy xs ys hX hY hy0 h.1 h.2
 ·exact zMi w ax ay n m cx cy xs ys hX hY hcx hcy hy0 hn hm h

theorem zMw (args : Array Value) (w : World) : (callFunc 68 args).run Tryz.prog w = .ok (.enter 68 args) w := zAq Tryz.func68 (by kernel_rfl) rfl args w
theorem zJ7 (args : Array Value) (w : World) : (callFunc 53 args).run Tryz.prog w = .ok (.enter 53 args) w := zAq Tryz.func53 (by kernel_rfl) rfl args w
theorem zMx (args : Array Value) (w : World) : (callFunc 42 args).run Tryz.prog w = .ok (.enter 42 args) w := zAq Tryz.func42 (by kernel_rfl) rfl args w

theorem zEk (b : Bool) (v : Int) : ab (sgn b v) = ab v := by unfold ab; cases b <;> simp [sgn]

theorem boxes4n (w : World) {n n' : Bool} {ao ao' : Option Addr} {k c k' c' : Nat} {z z' : Int} (h : Num w (.agg #[.bool n, .slice ao k c]) z) (h' : Num w (.agg #[.bool n', .slice ao' k' c']) z') (t : TypeId) :
  ∃ w0, w0 = (((w.alloc (.cells #[.bool n, .slice ao k c] t)).alloc (.cells #[.bool n', .slice ao' k' c'] t)).alloc (.cells #[.bool false, .slice none 0 0] t)).alloc (.cells #[.bool false, .slice none 0 0] t) ∧
   BoxNum w0 w.heap.size z ∧ BoxNum w0 (w.heap.size + 1) z' ∧ BoxNum w0 (w.heap.size + 1 + 1) 0 ∧ BoxNum w0 (w.heap.size + 1 + 1 + 1) 0 ∧ Below w.heap.size w w0 := by
 obtain ⟨w0, hw0, hA, hB, hC, hD, hbl, HS⟩ := boxes4 w (.bool n) (.slice ao k c) (.bool n') (.slice ao' k' c') t
 exact ⟨w0, hw0, ⟨_, _, _, _, hA, h.mono hbl⟩, ⟨_, _, _, _, hB, h'.mono hbl⟩, ⟨_, _, _, _, hC, Num.zero _⟩, ⟨_, _, _, _, hD, Num.zero _⟩, hbl⟩

theorem zE5 {a b q r : Int} (hb : b ≠ 0) (h : a = q * b + r) (h0 : 0 ≤ r) (h1 : r < ab b) : q = a / b ∧ r = a % b := by
 have h2 : a % b = r := by
  rw [h, Int.add_comm, Int.add_mul_emod_self_right]
  rcases Int.lt_or_gt_of_ne hb with hb' | hb'
  ·rw [← Int.emod_neg, Int.emod_eq_of_lt h0 (by unfold ab at h1; omega)]
  ·exact Int.emod_eq_of_lt h0 (by unfold ab at h1; omega)
 have h3 := Int.mul_ediv_add_emod a b
 rw [h2] at h3
 have h4 : b * (a / b) = b * q := by rw [Int.mul_comm b q]; omega
 exact ⟨(Int.eq_of_mul_eq_mul_left hb h4).symm, h2.symm⟩

theorem dm_end {x y q0 r0 q r : Int} {a1 b1 a2 : Bool} (hy : y ≠ 0) (hd : ab y * q + r = ab x) (h0 : 0 ≤ r) (h1 : r < ab y) (nx : a1 = true → x < 0) (px : a1 = false → 0 ≤ x) (nx2 : a2 = true → x < 0) (px2 : a2 = false → 0 ≤ x)
  (ny : b1 = true → y < 0) (py : b1 = false → 0 ≤ y) (hq : q0 = sgn (!a1 == b1) q) (hr : r0 = sgn a2 r) :
  (0 ≤ r0 → q0 = x / y ∧ r0 = x % y) ∧ (r0 < 0 → 0 ≤ y → q0 - 1 = x / y ∧ r0 + (y.natAbs : Int) = x % y) ∧ (r0 < 0 → y < 0 → q0 + 1 = x / y ∧ r0 + (y.natAbs : Int) = x % y) := by
 have e1 : ab y = (y.natAbs : Int) := rfl
 by_cases hx : x < 0 <;> by_cases hyy : y < 0
 ·obtain rfl : a1 = true := by cases a1; exact absurd (px rfl) (by omega); rfl
  obtain rfl : a2 = true := by cases a2; exact absurd (px2 rfl) (by omega); rfl
  obtain rfl : b1 = true := by cases b1; exact absurd (py rfl) (by omega); rfl
  have ax : ab x = -x := by unfold ab; omega
  have ay : ab y = -y := by unfold ab; omega
  simp [sgn] at hq hr
  rw [ax, ay, Int.neg_mul, Int.mul_comm] at hd
  rw [ay] at h1
  subst hq
  subst hr
  refine ⟨fun h => zE5 hy (by omega) h (by rw [ay]; omega), fun h h' => by omega, fun h _ => zE5 hy (by rw [Int.add_mul, Int.one_mul]; omega) (by omega) (by rw [ay]; omega)⟩
 ·obtain rfl : a1 = true := by cases a1; exact absurd (px rfl) (by omega); rfl
  obtain rfl : a2 = true := by cases a2; exact absurd (px2 rfl) (by omega); rfl
  obtain rfl : b1 = false := by cases b1; rfl; exact absurd (ny rfl) (by omega)
  have ax : ab x = -x := by unfold ab; omega
  have ay : ab y = y := by unfold ab; omega
  simp [sgn] at hq hr
  rw [ax, ay, Int.mul_comm] at hd
  rw [ay] at h1
  subst hq
  subst hr
  refine ⟨fun h => zE5 hy (by rw [Int.neg_mul]; omega) h (by rw [ay]; omega), fun h _ => zE5 hy (by rw [Int.sub_mul, Int.one_mul, Int.neg_mul]; omega) (by omega) (by rw [ay]; omega), fun h h' => by omega⟩
 ·obtain rfl : a1 = false := by cases a1; rfl; exact absurd (nx rfl) (by omega)
  obtain rfl : a2 = false := by cases a2; rfl; exact absurd (nx2 rfl) (by omega)
  obtain rfl : b1 = true := by cases b1; exact absurd (py rfl) (by omega); rfl
  have ax : ab x = x := by unfold ab; omega
  have ay : ab y = -y := by unfold ab; omega
  simp [sgn] at hq hr
  rw [ax, ay, Int.neg_mul, Int.mul_comm] at hd
  rw [ay] at h1
  subst hq
  subst hr
  refine ⟨fun h => zE5 hy (by rw [Int.neg_mul]; omega) h (by rw [ay]; omega), fun h _ => by omega, fun h _ => by omega⟩
 ·obtain rfl : a1 = false := by cases a1; rfl; exact absurd (nx rfl) (by omega)
  obtain rfl : a2 = false := by cases a2; rfl; exact absurd (nx2 rfl) (by omega)
  obtain rfl : b1 = false := by cases b1; rfl; exact absurd (ny rfl) (by omega)
  have ax : ab x = x := by unfold ab; omega
  have ay : ab y = y := by unfold ab; omega
  simp [sgn] at hq hr
  rw [ax, ay, Int.mul_comm] at hd
  rw [ay] at h1
  subst hq
  subst hr
  refine ⟨fun h => zE5 hy (by omega) h (by rw [ay]; omega), fun h _ => by omega, fun h _ => by omega⟩

set_option maxRecDepth 100000 in
set_option maxHeartbeats 8000000 in
theorem zJj {w : World} {v v' : Value} {x y : Int} (h : Num w v x) (h' : Num w v' y) (hx : ab x < pw 1000) (hy : ab y < pw 1000) : Calls Tryz.prog 91 #[v, v'] w (zHm w x y) := by
 obtain ⟨n, ao, k, c, rfl⟩ := h.parts
 obtain ⟨n', ao', k', c', rfl⟩ := h'.parts
 have Bx := hidd hx
 have By := hidd hy
 clear hx hy
 obtain ⟨w0, hw0, XA, XB, X4, X5, HB⟩ := boxes4n w h h' 31
 go_enter Tryz.func91, Tryz.ntmps91
 go_upto_region 1 with (fail)
 rw [← hw0]
 clear hw0 h h'
 obtain ⟨na, aoa, kka, cca, ⟨a0, a1, a2, a3⟩, hNa⟩ := id XA
 obtain ⟨nb, aob, kkb, ccb, ⟨b0, b1, b2, b3⟩, hNb⟩ := id XB
 obtain ⟨xs, sx, cx, kx, zx, vx0, _, negx, posx⟩ := hNa.sign
 obtain ⟨ys, sy, cy, ky, zy, vy0, hky, negy, posy⟩ := hNb.sign
 by_cases hy0 : y = 0
 ·obtain rfl := hky.2 hy0
  obtain ⟨nc, aoc, kkc, ccc, ⟨c0, c1, c2, c3⟩, hNc⟩ := id X4
  obtain ⟨nd, aod, kkd, ccd, ⟨d0, d1, d2, d3⟩, hNd⟩ := id X5
  have hbS := (((HB.setCell (p := ⟨w.heap.size + 1 + 1, 0, none⟩) (by show w.heap.size ≤ w.heap.size + 1 + 1; omega) (.bool false)).setCell (p := ⟨w.heap.size + 1 + 1, 1, none⟩) (by show w.heap.size ≤ w.heap.size + 1 + 1; omega) (.slice none 0 0)).setCell (p := ⟨w.heap.size + 1 + 1 + 1, 0, none⟩) (by show w.heap.size ≤ w.heap.size + 1 + 1 + 1; omega) (.bool false)).setCell (p := ⟨w.heap.size + 1 + 1 + 1, 1, none⟩) (by show w.heap.size ≤ w.heap.size + 1 + 1 + 1; omega) (.slice none 0 0)
  clear hky zx zy negx posx negy posy
  go_wp2
  refine bodyPost_ret (v := .tuple #[.agg #[.bool false, .slice none 0 0], .agg #[.bool false, .slice none 0 0], .int .i64 4]) ?_ rfl ⟨hbS, .inl ⟨hy0, rfl⟩⟩
  simp [results, Tryz.results91, go_sem, c0, c1, d0, d1]
 ·have Hy0 := hidd hy0
  have hkb : ((kkb : Int) == 0) = false := by simp; exact fun h => hy0 (hky.1 h)
  have vy1 : 0 < val ys := by rcases (by omega : val ys = 0 ∨ 0 < val ys) with h | h; exact absurd (by rw [zy, h]; cases nb <;> rfl) hy0; exact h
  have Kq : Hid (ab (val xs / val ys) < pw 1000) := by have h1 := Int.ediv_le_self (val ys) vx0; have h2 := Int.ediv_nonneg vx0 (Int.le_of_lt vy1); show ab _ < _; rw [zDy h2]; have h3 := Bx.out; rw [zx, zEk, zDy vx0] at h3; omega
  have Kr : Hid (ab (val xs % val ys) < pw 1000) := by have h1 := Int.emod_lt_of_pos (val xs) vy1; have h2 := Int.emod_nonneg (val xs) (Int.ne_of_gt vy1); show ab _ < _; rw [zDy h2]; have h3 := By.out; rw [zy, zEk, zDy vy0] at h3; omega
  have Zx := hidd zx
  have Zy := hidd zy
  have Ny := hidd negy
  have Py := hidd posy
  have V0 := hidd vx0
  have V1 := hidd vy1
  clear hy0 hky zx zy negx posx negy posy vx0 vy0 vy1
  go_wp2_with fail
  clear hkb
  refine (zMk _ _ _ _ _ _ _ xs ys sx sy cx cy V1.out (by omega) (by omega)).mono ?_
  rintro e w1 ⟨aq, lq, cq, qs, ar, lr, cr, rs, rfl, sq, sr, hlq, hlr, vq, vr, hb⟩
  have Vq := hidd vq
  have Vr := hidd vr
  clear vq vr
  clear a0 a1 a2 a3 hNa b0 b1 b2 b3 hNb
  clear sx sy
  replace XA := XA.mono hb
  replace XB := XB.mono hb
  replace X4 := X4.mono hb
  replace X5 := X5.mono hb
  replace HB := HB.trans (hb.mono HB.size)
  clear hb
  go_upto_region 4 with (fail)
  obtain ⟨w2, hw2, hI7⟩ : ∃ w2, w2 = w1.alloc (.cells #[.slice aq lq cq, .slice ar lr cr] 109) ∧ IntBox w2 w1.heap.size (.slice aq lq cq) (.slice ar lr cr) := ⟨_, rfl, IntBox.new _ _ _ _⟩
  rw [← hw2]
  have hb : Below w1.heap.size w1 w2 := by rw [hw2]; exact zAw _ _
  have hlt1 := X5.lt
  clear hw2
  replace XA := XA.mono hb
  replace XB := XB.mono hb
  replace X4 := X4.mono hb
  replace X5 := X5.mono hb
  replace HB := HB.trans (hb.mono HB.size)
  replace sq := sq.mono hb
  replace sr := sr.mono hb
  clear hb
  obtain ⟨g7, hg7⟩ : ∃ g7, g7 = w1.heap.size := ⟨_, rfl⟩
  rw [← hg7] at hI7 hlt1
  rw [← hg7]
  clear hg7
  have hlt2 := hI7.lt
  obtain ⟨na, aoa, kka, cca, ⟨a0, a1, a2, a3⟩, hNa⟩ := id XA
  obtain ⟨nb, aob, kkb, ccb, ⟨b0, b1, b2, b3⟩, hNb⟩ := id XB
  have hI7c := hI7
  obtain ⟨i0, i1, _, _⟩ := hI7
  go_wp2_with fail
  obtain ⟨_, _, _, _, _, _, _, negx, posx⟩ := hNa.sign
  obtain ⟨_, _, _, _, _, _, _, negy, posy⟩ := hNb.sign
  have Nx := hidd negx
  have Px := hidd posx
  have Ny2 := hidd negy
  have Py2 := hidd posy
  clear negx posx negy posy
  have Ax : Hid (val xs = ab x) := by show val xs = ab x; rw [Zx.out, zEk, zDy V0.out]
  have Ay : Hid (val ys = ab y) := by show val ys = ab y; rw [Zy.out, zEk, zDy (Int.le_of_lt V1.out)]
  obtain ⟨q0, hq0⟩ : ∃ q0, q0 = sgn (!na == nb) (val qs) := ⟨_, rfl⟩
  have Bq0 : Hid (ab q0 < pw 1000) := by show ab q0 < _; rw [hq0, zEk, Vq.out]; exact Kq.out
  have Hq0 := hidd hq0
  clear hq0
  refine (exKP (z := q0) (by rw [Hq0.out]; exact zDi _ _ _ _ _ _ sq (by omega)) Bq0.out (by omega)).mono ?_
  rintro e w3 ⟨n3', ao3, kk3, c3', rfl, hb, hN3⟩
  replace hI7c := hI7c.mono hb hlt2
  have hlt3 := hb.size
  clear a0 a1 a2 a3 hNa b0 b1 b2 b3 hNb
  clear i0 i1
  replace XA := XA.mono hb
  replace XB := XB.mono hb
  replace X4 := X4.mono hb
  replace X5 := X5.mono hb
  replace HB := HB.trans (hb.mono HB.size)
  replace sr := sr.mono hb
  clear hb
  replace hlt2 : g7 < w3.heap.size := by omega
  clear hlt3
  go_upto_region 5 with (fail)
  obtain ⟨w11, hw11, hb, p1⟩ := zFm hN3 31
  rw [← hw11]
  clear hw11
  replace hI7c := hI7c.mono hb hlt2
  have hsz1 := hb.size
  replace XA := XA.mono hb
  replace XB := XB.mono hb
  replace X4 := X4.mono hb
  replace X5 := X5.mono hb
  replace HB := HB.trans (hb.mono HB.size)
  replace sr := sr.mono hb
  clear hb
  obtain ⟨g8, hg8⟩ : ∃ g, g = w3.heap.size := ⟨_, rfl⟩
  rw [← hg8] at p1 hlt2 hsz1
  rw [← hg8]
  clear hg8
  have X8 := p1
  have hlt8 := hlt2
  replace hlt2 : g7 < w11.heap.size := by omega
  clear p1 hsz1
  obtain ⟨na, aoa, kka, cca, ⟨a0, a1, a2, a3⟩, hNa⟩ := id XA
  have hI7d := hI7c
  obtain ⟨i0, i1, _, _⟩ := hI7c
  rename IntBox _ g7 _ _ => hI7c
  obtain ⟨_, _, _, _, _, _, _, negx, posx⟩ := hNa.sign
  have Nx2 := hidd negx
  have Px2 := hidd posx
  clear negx posx
  go_wp2_with fail
  obtain ⟨r0, hr0⟩ : ∃ r0, r0 = sgn na (val rs) := ⟨_, rfl⟩
  have Br0 : Hid (ab r0 < pw 1000) := by show ab r0 < _; rw [hr0, zEk, Vr.out]; exact Kr.out
  have Hr0 := hidd hr0
  clear hr0
  refine (exKP (z := r0) (by rw [Hr0.out]; exact zDi _ _ _ _ _ _ sr (by omega)) Br0.out (by omega)).mono ?_
  rintro e w4 ⟨n4', ao4, kk4, c4', rfl, hb, hN4⟩
  replace hI7c := hI7c.mono hb hlt2
  have hlt3 := hb.size
  clear a0 a1 a2 a3 hNa
  clear i0 i1 sr sq
  replace XA := XA.mono hb
  replace XB := XB.mono hb
  replace X4 := X4.mono hb
  replace X5 := X5.mono hb
  replace X8 := X8.mono hb
  replace HB := HB.trans (hb.mono HB.size)
  clear hb
  replace hlt2 : g7 < w4.heap.size := by omega
  have hlt38 : g8 < w4.heap.size := X8.lt
  clear hlt3
  go_upto_region 6 with (fail)
  obtain ⟨w12, hw12, hb, p2⟩ := zFm hN4 31
  rw [← hw12]
  clear hw12
  replace hI7c := hI7c.mono hb hlt2
  have hsz2 := hb.size
  replace XA := XA.mono hb
  replace XB := XB.mono hb
  replace X4 := X4.mono hb
  replace X5 := X5.mono hb
  replace X8 := X8.mono hb
  replace HB := HB.trans (hb.mono HB.size)
  clear hb
  obtain ⟨g9, hg9⟩ : ∃ g, g = w4.heap.size := ⟨_, rfl⟩
  rw [← hg9] at p2 hlt2 hsz2 hlt38
  rw [← hg9]
  clear hg9
  have X9 := p2
  have hlt9 := hlt2
  replace hlt2 : g7 < w12.heap.size := by omega
  clear p2 hsz2
  have hord : w.heap.size + 1 + 1 + 1 < g7 ∧ g7 < g8 ∧ g8 < g9 := by omega
  obtain ⟨ho7, ho8, ho9⟩ := hord
  clear hlt1 hlt2 hlt8 hlt9 hlt38 hI7c
  obtain ⟨nf, aof, kkf, ccf, ⟨f0, f1, f2, f3⟩, hNf⟩ := id X9
  obtain ⟨_, _, _, _, _, _, _, negr, posr⟩ := hNf.sign
  have Nr := hidd negr
  have Pr := hidd posr
  clear negr posr
  cases nf
  ·go_wp2
   have hEu : q0 = x / y ∧ r0 = x % y := by
    have hA := Ax.out
    have hB := Ay.out
    have h1 := Vq.out
    have h2 := Vr.out
    rw [hA, hB] at h1 h2
    have hq := Hq0.out
    have hr := Hr0.out
    rw [h1] at hq
    rw [h2] at hr
    have hv := V1.out
    rw [hB] at hv
    have hd := Int.mul_ediv_add_emod (ab x) (ab y)
    have hm0 := Int.emod_nonneg (ab x) (show ab y ≠ 0 by omega)
    have hm1 := Int.emod_lt_of_pos (ab x) hv
    have D := dm_end Hy0.out hd hm0 hm1 Nx.out Px.out Nx2.out Px2.out Ny2.out Py2.out hq hr
    have pr := Pr.out
    exact D.1 (by simpa using pr)
   have HEu := hidd hEu
   clear hEu
   have hlast := X9.lt
   have hp : (plan [Fc.num q0, Fc.num r0, Fc.any, Fc.any, Fc.is (.int .i64 (0))] [(w.heap.size, 1000, x, x), ((w.heap.size + 1), 1001, y, y), ((w.heap.size + 1 + 1), 2, 0, q0), ((w.heap.size + 1 + 1 + 1), 3, 0, r0), (g8, 1004, q0, q0), (g9, 1005, r0, r0)] []).Ok w.heap.size w12.heap.size := zD6 (by simp; omega) (by simp; try omega) (by simp) (by omega)
   have hm := PMono.of hp
   refine zEb (p := (plan [Fc.num q0, Fc.num r0, Fc.any, Fc.any, Fc.is (.int .i64 (0))] [(w.heap.size, 1000, x, x), ((w.heap.size + 1), 1001, y, y), ((w.heap.size + 1 + 1), 2, 0, q0), ((w.heap.size + 1 + 1 + 1), 3, 0, r0), (g8, 1004, q0, q0), (g9, 1005, r0, r0)] [])) (B := w.heap.size) (B0 := w12.heap.size) (w0 := w) (by kernel_rfl) rfl rfl (zD7 (by simp; exact ⟨XA, XB, X4, X5, X8, X9⟩) HB) ⟨?_, ?_, ?_, ?_, ?_, trivial⟩ ?_
   ·exact zB9 (b := g8) (k := 1004) (z := q0) (z' := q0) hp (by simp [plan]) (.inl rfl) rfl rfl (fun v w h => h) ⟨by simp [plan], by simp [plan]⟩
   ·exact zB9 (b := g9) (k := 1005) (z := r0) (z' := r0) hp (by simp [plan]) (.inl rfl) rfl rfl (fun v w h => h) ⟨by simp [plan], by simp [plan]⟩
   ·exact zC9 (b := (w.heap.size + 1 + 1)) (j := 0) (z := 0) (z' := q0) hp rfl (by simp [plan]) rfl rfl rfl (by simp) rfl (fun v w h => h) (fun _ _ => trivial) (by simp [plan]) (by simp [plan])
   ·exact zC9 (b := (w.heap.size + 1 + 1 + 1)) (j := 1) (z := 0) (z' := r0) hp rfl (by simp [plan]) rfl rfl rfl (by simp) rfl (fun v w h => h) (fun _ _ => trivial) (by simp [plan]) (by simp [plan])
   ·exact zG0 hm ⟨by simp [plan], by simp [plan]⟩ trivial (zHk (fun _ => rfl))
   intro L vs w3 hL hG
   replace XA : BoxNum w3 w.heap.size x := by have := hG.old (w.heap.size, 1000, x, x) (by simp [plan]); simpa using this
   replace XB : BoxNum w3 (w.heap.size + 1) y := by have := hG.old ((w.heap.size + 1), 1001, y, y) (by simp [plan]); simpa using this
   replace X4 : BoxNum w3 (w.heap.size + 1 + 1) q0 := by have := hG.old ((w.heap.size + 1 + 1), 2, 0, q0) (by simp [plan]); simpa [hL 2 (by simp)] using this
   replace X5 : BoxNum w3 (w.heap.size + 1 + 1 + 1) r0 := by have := hG.old ((w.heap.size + 1 + 1 + 1), 3, 0, r0) (by simp [plan]); simpa [hL 3 (by simp)] using this
   replace X8 : BoxNum w3 g8 q0 := by have := hG.old (g8, 1004, q0, q0) (by simp [plan]); simpa using this
   replace X9 : BoxNum w3 g9 r0 := by have := hG.old (g9, 1005, r0, r0) (by simp [plan]); simpa using this
   have e4 : vs 4 = .int .i64 (0) := hG.val 4 (hL 4 (by simp))
   replace HB := hG.below
   rw [zAe hL]
   simp only [SP, Nat.zero_add, Nat.reduceAdd]
   rw [e4]
   generalize vs 0 = u3_0
   generalize vs 1 = u3_1
   clear hG hm hp hL hlast vs L e4
   obtain ⟨nc, aoc, kkc, ccc, ⟨c0, c1, c2, c3⟩, hNc⟩ := id X4
   obtain ⟨nd, aod, kkd, ccd, ⟨d0, d1, d2, d3⟩, hNd⟩ := id X5
   go_wp2
   refine bodyPost_ret (v := .tuple #[.agg #[.bool nc, .slice aoc kkc ccc], .agg #[.bool nd, .slice aod kkd ccd], .int .i64 0]) ?_ rfl ⟨HB, .inr ⟨Hy0.out, _, _, rfl, by rw [← HEu.out.1]; exact hNc.isInt, by rw [← HEu.out.2]; exact hNd.isInt⟩⟩
   simp [results, Tryz.results91, go_sem, c0, c1, d0, d1]
  ·go_wp2
   have B4 : Hid (ab ((Int.natAbs y : Int)) < pw 1000) := zBg By.out
   have B5 : Hid (ab ((r0 + (Int.natAbs y : Int))) < pw 1001) := zA5 Br0.out B4.out (by omega) (by omega)
   have hlast := X9.lt
   have hp : (plan [Fc.num r0, Fc.num y, Fc.num (Int.natAbs y : Int), Fc.num (r0 + (Int.natAbs y : Int)), Fc.any] [(w.heap.size, 1000, x, x), ((w.heap.size + 1), 1001, y, y), ((w.heap.size + 1 + 1), 1002, 0, 0), ((w.heap.size + 1 + 1 + 1), 1003, 0, 0), (g8, 1004, q0, q0), (g9, 4, r0, (r0 + (Int.natAbs y : Int)))] []).Ok w.heap.size w12.heap.size := zD6 (by simp; omega) (by simp; try omega) (by simp) (by omega)
   have hm := PMono.of hp
   refine zEb (p := (plan [Fc.num r0, Fc.num y, Fc.num (Int.natAbs y : Int), Fc.num (r0 + (Int.natAbs y : Int)), Fc.any] [(w.heap.size, 1000, x, x), ((w.heap.size + 1), 1001, y, y), ((w.heap.size + 1 + 1), 1002, 0, 0), ((w.heap.size + 1 + 1 + 1), 1003, 0, 0), (g8, 1004, q0, q0), (g9, 4, r0, (r0 + (Int.natAbs y : Int)))] [])) (B := w.heap.size) (B0 := w12.heap.size) (w0 := w) (by kernel_rfl) rfl rfl (zD7 (by simp; exact ⟨XA, XB, X4, X5, X8, X9⟩) HB) ⟨?_, ?_, ?_, ?_, ?_, trivial⟩ ?_
   ·exact zB9 (b := g9) (k := 4) (z := r0) (z' := (r0 + (Int.natAbs y : Int))) hp (by simp [plan]) (.inr rfl) rfl rfl (fun v w h => h) ⟨by simp [plan], by simp [plan]⟩
   ·exact zB9 (b := (w.heap.size + 1)) (k := 1001) (z := y) (z' := y) hp (by simp [plan]) (.inl rfl) rfl rfl (fun v w h => h) ⟨by simp [plan], by simp [plan]⟩
   ·exact g_call1 (F := (Fc.num y).P) hm ⟨by simp [plan], by simp [plan]⟩ trivial zMw (zBr 1 rfl rfl (by simp) rfl (fun v w h => h)) (fun v w h => exK (zBl h) B4.out (by omega))
   ·exact zD4 (F := (Fc.num r0).P) (G := (Fc.num (Int.natAbs y : Int)).P) hm ⟨by simp [plan], by simp [plan]⟩ trivial zGu (zBr 0 rfl rfl (by simp) rfl (fun v w h => h)) (zBr 2 rfl rfl (by simp) rfl (fun v w h => h)) (fun v v' w h h' => exK (zDn h h') B5.out (by omega))
   ·exact zC9 (b := g9) (j := 3) (z := r0) (z' := (r0 + (Int.natAbs y : Int))) hp rfl (by simp [plan]) rfl rfl rfl (by simp) rfl (fun v w h => h) (fun _ _ => trivial) (by simp [plan]) (by simp [plan])
   intro L vs w6 hL hG
   replace XA : BoxNum w6 w.heap.size x := by have := hG.old (w.heap.size, 1000, x, x) (by simp [plan]); simpa using this
   replace XB : BoxNum w6 (w.heap.size + 1) y := by have := hG.old ((w.heap.size + 1), 1001, y, y) (by simp [plan]); simpa using this
   replace X4 : BoxNum w6 (w.heap.size + 1 + 1) 0 := by have := hG.old ((w.heap.size + 1 + 1), 1002, 0, 0) (by simp [plan]); simpa using this
   replace X5 : BoxNum w6 (w.heap.size + 1 + 1 + 1) 0 := by have := hG.old ((w.heap.size + 1 + 1 + 1), 1003, 0, 0) (by simp [plan]); simpa using this
   replace X8 : BoxNum w6 g8 q0 := by have := hG.old (g8, 1004, q0, q0) (by simp [plan]); simpa using this
   replace X9 : BoxNum w6 g9 (r0 + (Int.natAbs y : Int)) := by have := hG.old (g9, 4, r0, (r0 + (Int.natAbs y : Int))) (by simp [plan]); simpa [hL 4 (by simp)] using this
   replace HB := hG.below
   rw [zAe hL]
   simp only [SP, Nat.zero_add, Nat.reduceAdd]
   generalize vs 0 = u6_0
   generalize vs 1 = u6_1
   generalize vs 2 = u6_2
   generalize vs 3 = u6_3
   clear hG hm hp hL hlast vs L 
   obtain ⟨nb, aob, kkb, ccb, ⟨b0, b1, b2, b3⟩, hNb⟩ := id XB
   obtain ⟨_, _, _, _, _, _, _, negy, posy⟩ := hNb.sign
   have Ny3 := hidd negy
   have Py3 := hidd posy
   clear negy posy
   cases nb
   ·go_wp2
    have B7 : Hid (ab (1) < pw 2) := by show ab (1) < pw 2; decide
    have B8 : Hid (ab ((q0 - (1))) < pw 1001) := zDp Bq0.out B7.out (by omega) (by omega)
    have hlast := X9.lt
    have hp : (plan [Fc.num q0, Fc.num (1), Fc.num (q0 - (1)), Fc.any] [(w.heap.size, 1000, x, x), ((w.heap.size + 1), 1001, y, y), ((w.heap.size + 1 + 1), 1002, 0, 0), ((w.heap.size + 1 + 1 + 1), 1003, 0, 0), (g8, 3, q0, (q0 - (1))), (g9, 1005, (r0 + (Int.natAbs y : Int)), (r0 + (Int.natAbs y : Int)))] []).Ok w.heap.size w6.heap.size := zD6 (by simp; omega) (by simp; try omega) (by simp) (by omega)
    have hm := PMono.of hp
    refine zEb (p := (plan [Fc.num q0, Fc.num (1), Fc.num (q0 - (1)), Fc.any] [(w.heap.size, 1000, x, x), ((w.heap.size + 1), 1001, y, y), ((w.heap.size + 1 + 1), 1002, 0, 0), ((w.heap.size + 1 + 1 + 1), 1003, 0, 0), (g8, 3, q0, (q0 - (1))), (g9, 1005, (r0 + (Int.natAbs y : Int)), (r0 + (Int.natAbs y : Int)))] [])) (B := w.heap.size) (B0 := w6.heap.size) (w0 := w) (by kernel_rfl) rfl rfl (zD7 (by simp; exact ⟨XA, XB, X4, X5, X8, X9⟩) HB) ⟨?_, ?_, ?_, ?_, trivial⟩ ?_
    ·exact zB9 (b := g8) (k := 3) (z := q0) (z' := (q0 - (1))) hp (by simp [plan]) (.inr rfl) rfl rfl (fun v w h => h) ⟨by simp [plan], by simp [plan]⟩
    ·exact zIg hm ⟨by simp [plan], by simp [plan]⟩ trivial zH8 (fun w => rOfV w (1) (by omega) (by omega))
    ·exact zD4 (F := (Fc.num q0).P) (G := (Fc.num (1)).P) hm ⟨by simp [plan], by simp [plan]⟩ trivial zJ7 (zBr 0 rfl rfl (by simp) rfl (fun v w h => h)) (zBr 1 rfl rfl (by simp) rfl (fun v w h => h)) (fun v v' w h h' => exK (RSubV h h' (K := 1000) (Int.lt_of_lt_of_le Bq0.out (zAb (by omega))) (Int.lt_of_lt_of_le B7.out (zAb (by omega))) (by omega)) B8.out (by omega))
    ·exact zC9 (b := g8) (j := 2) (z := q0) (z' := (q0 - (1))) hp rfl (by simp [plan]) rfl rfl rfl (by simp) rfl (fun v w h => h) (fun _ _ => trivial) (by simp [plan]) (by simp [plan])
    intro L vs w9 hL hG
    replace XA : BoxNum w9 w.heap.size x := by have := hG.old (w.heap.size, 1000, x, x) (by simp [plan]); simpa using this
    replace XB : BoxNum w9 (w.heap.size + 1) y := by have := hG.old ((w.heap.size + 1), 1001, y, y) (by simp [plan]); simpa using this
    replace X4 : BoxNum w9 (w.heap.size + 1 + 1) 0 := by have := hG.old ((w.heap.size + 1 + 1), 1002, 0, 0) (by simp [plan]); simpa using this
    replace X5 : BoxNum w9 (w.heap.size + 1 + 1 + 1) 0 := by have := hG.old ((w.heap.size + 1 + 1 + 1), 1003, 0, 0) (by simp [plan]); simpa using this
    replace X8 : BoxNum w9 g8 (q0 - (1)) := by have := hG.old (g8, 3, q0, (q0 - (1))) (by simp [plan]); simpa [hL 3 (by simp)] using this
    replace X9 : BoxNum w9 g9 (r0 + (Int.natAbs y : Int)) := by have := hG.old (g9, 1005, (r0 + (Int.natAbs y : Int)), (r0 + (Int.natAbs y : Int))) (by simp [plan]); simpa using this
    replace HB := hG.below
    rw [zAe hL]
    simp only [SP, Nat.zero_add, Nat.reduceAdd]
    generalize vs 0 = u9_0
    generalize vs 1 = u9_1
    generalize vs 2 = u9_2
    clear hG hm hp hL hlast vs L 
    go_wp2
    have hEu : (q0 - (1)) = x / y ∧ (r0 + (Int.natAbs y : Int)) = x % y := by
     have hA := Ax.out
     have hB := Ay.out
     have h1 := Vq.out
     have h2 := Vr.out
     rw [hA, hB] at h1 h2
     have hq := Hq0.out
     have hr := Hr0.out
     rw [h1] at hq
     rw [h2] at hr
     have hv := V1.out
     rw [hB] at hv
     have hd := Int.mul_ediv_add_emod (ab x) (ab y)
     have hm0 := Int.emod_nonneg (ab x) (show ab y ≠ 0 by omega)
     have hm1 := Int.emod_lt_of_pos (ab x) hv
     have D := dm_end Hy0.out hd hm0 hm1 Nx.out Px.out Nx2.out Px2.out Ny2.out Py2.out hq hr
     have nr := Nr.out
     have ny3 := Ny3.out
     have py3 := Py3.out
     exact D.2.1 (by simpa using nr) (by simpa using py3)
    have HEu := hidd hEu
    clear hEu
    have hlast := X9.lt
    have hp : (plan [Fc.num (q0 - (1)), Fc.num (r0 + (Int.natAbs y : Int)), Fc.any, Fc.any, Fc.is (.int .i64 (0))] [(w.heap.size, 1000, x, x), ((w.heap.size + 1), 1001, y, y), ((w.heap.size + 1 + 1), 2, 0, (q0 - (1))), ((w.heap.size + 1 + 1 + 1), 3, 0, (r0 + (Int.natAbs y : Int))), (g8, 1004, (q0 - (1)), (q0 - (1))), (g9, 1005, (r0 + (Int.natAbs y : Int)), (r0 + (Int.natAbs y : Int)))] []).Ok w.heap.size w9.heap.size := zD6 (by simp; omega) (by simp; try omega) (by simp) (by omega)
    have hm := PMono.of hp
    refine zEb (p := (plan [Fc.num (q0 - (1)), Fc.num (r0 + (Int.natAbs y : Int)), Fc.any, Fc.any, Fc.is (.int .i64 (0))] [(w.heap.size, 1000, x, x), ((w.heap.size + 1), 1001, y, y), ((w.heap.size + 1 + 1), 2, 0, (q0 - (1))), ((w.heap.size + 1 + 1 + 1), 3, 0, (r0 + (Int.natAbs y : Int))), (g8, 1004, (q0 - (1)), (q0 - (1))), (g9, 1005, (r0 + (Int.natAbs y : Int)), (r0 + (Int.natAbs y : Int)))] [])) (B := w.heap.size) (B0 := w9.heap.size) (w0 := w) (by kernel_rfl) rfl rfl (zD7 (by simp; exact ⟨XA, XB, X4, X5, X8, X9⟩) HB) ⟨?_, ?_, ?_, ?_, ?_, trivial⟩ ?_
    ·exact zB9 (b := g8) (k := 1004) (z := (q0 - (1))) (z' := (q0 - (1))) hp (by simp [plan]) (.inl rfl) rfl rfl (fun v w h => h) ⟨by simp [plan], by simp [plan]⟩
    ·exact zB9 (b := g9) (k := 1005) (z := (r0 + (Int.natAbs y : Int))) (z' := (r0 + (Int.natAbs y : Int))) hp (by simp [plan]) (.inl rfl) rfl rfl (fun v w h => h) ⟨by simp [plan], by simp [plan]⟩
    ·exact zC9 (b := (w.heap.size + 1 + 1)) (j := 0) (z := 0) (z' := (q0 - (1))) hp rfl (by simp [plan]) rfl rfl rfl (by simp) rfl (fun v w h => h) (fun _ _ => trivial) (by simp [plan]) (by simp [plan])
    ·exact zC9 (b := (w.heap.size + 1 + 1 + 1)) (j := 1) (z := 0) (z' := (r0 + (Int.natAbs y : Int))) hp rfl (by simp [plan]) rfl rfl rfl (by simp) rfl (fun v w h => h) (fun _ _ => trivial) (by simp [plan]) (by simp [plan])
    ·exact zG0 hm ⟨by simp [plan], by simp [plan]⟩ trivial (zHk (fun _ => rfl))
    intro L vs w10 hL hG
    replace XA : BoxNum w10 w.heap.size x := by have := hG.old (w.heap.size, 1000, x, x) (by simp [plan]); simpa using this
    replace XB : BoxNum w10 (w.heap.size + 1) y := by have := hG.old ((w.heap.size + 1), 1001, y, y) (by simp [plan]); simpa using this
    replace X4 : BoxNum w10 (w.heap.size + 1 + 1) (q0 - (1)) := by have := hG.old ((w.heap.size + 1 + 1), 2, 0, (q0 - (1))) (by simp [plan]); simpa [hL 2 (by simp)] using this
    replace X5 : BoxNum w10 (w.heap.size + 1 + 1 + 1) (r0 + (Int.natAbs y : Int)) := by have := hG.old ((w.heap.size + 1 + 1 + 1), 3, 0, (r0 + (Int.natAbs y : Int))) (by simp [plan]); simpa [hL 3 (by simp)] using this
    replace X8 : BoxNum w10 g8 (q0 - (1)) := by have := hG.old (g8, 1004, (q0 - (1)), (q0 - (1))) (by simp [plan]); simpa using this
    replace X9 : BoxNum w10 g9 (r0 + (Int.natAbs y : Int)) := by have := hG.old (g9, 1005, (r0 + (Int.natAbs y : Int)), (r0 + (Int.natAbs y : Int))) (by simp [plan]); simpa using this
    have e4 : vs 4 = .int .i64 (0) := hG.val 4 (hL 4 (by simp))
    replace HB := hG.below
    rw [zAe hL]
    simp only [SP, Nat.zero_add, Nat.reduceAdd]
    rw [e4]
    generalize vs 0 = u10_0
    generalize vs 1 = u10_1
    clear hG hm hp hL hlast vs L e4
    obtain ⟨nc, aoc, kkc, ccc, ⟨c0, c1, c2, c3⟩, hNc⟩ := id X4
    obtain ⟨nd, aod, kkd, ccd, ⟨d0, d1, d2, d3⟩, hNd⟩ := id X5
    go_wp2
    refine bodyPost_ret (v := .tuple #[.agg #[.bool nc, .slice aoc kkc ccc], .agg #[.bool nd, .slice aod kkd ccd], .int .i64 0]) ?_ rfl ⟨HB, .inr ⟨Hy0.out, _, _, rfl, by rw [← HEu.out.1]; exact hNc.isInt, by rw [← HEu.out.2]; exact hNd.isInt⟩⟩
    simp [results, Tryz.results91, go_sem, c0, c1, d0, d1]
   ·go_wp2
    have B11 : Hid (ab (1) < pw 2) := by show ab (1) < pw 2; decide
    have B12 : Hid (ab ((q0 + (1))) < pw 1001) := zA5 Bq0.out B11.out (by omega) (by omega)
    have hlast := X9.lt
    have hp : (plan [Fc.num q0, Fc.num (1), Fc.num (q0 + (1)), Fc.any] [(w.heap.size, 1000, x, x), ((w.heap.size + 1), 1001, y, y), ((w.heap.size + 1 + 1), 1002, 0, 0), ((w.heap.size + 1 + 1 + 1), 1003, 0, 0), (g8, 3, q0, (q0 + (1))), (g9, 1005, (r0 + (Int.natAbs y : Int)), (r0 + (Int.natAbs y : Int)))] []).Ok w.heap.size w6.heap.size := zD6 (by simp; omega) (by simp; try omega) (by simp) (by omega)
    have hm := PMono.of hp
    refine zEb (p := (plan [Fc.num q0, Fc.num (1), Fc.num (q0 + (1)), Fc.any] [(w.heap.size, 1000, x, x), ((w.heap.size + 1), 1001, y, y), ((w.heap.size + 1 + 1), 1002, 0, 0), ((w.heap.size + 1 + 1 + 1), 1003, 0, 0), (g8, 3, q0, (q0 + (1))), (g9, 1005, (r0 + (Int.natAbs y : Int)), (r0 + (Int.natAbs y : Int)))] [])) (B := w.heap.size) (B0 := w6.heap.size) (w0 := w) (by kernel_rfl) rfl rfl (zD7 (by simp; exact ⟨XA, XB, X4, X5, X8, X9⟩) HB) ⟨?_, ?_, ?_, ?_, trivial⟩ ?_
    ·exact zB9 (b := g8) (k := 3) (z := q0) (z' := (q0 + (1))) hp (by simp [plan]) (.inr rfl) rfl rfl (fun v w h => h) ⟨by simp [plan], by simp [plan]⟩
    ·exact zIg hm ⟨by simp [plan], by simp [plan]⟩ trivial zH8 (fun w => rOfV w (1) (by omega) (by omega))
    ·exact zD4 (F := (Fc.num q0).P) (G := (Fc.num (1)).P) hm ⟨by simp [plan], by simp [plan]⟩ trivial zGu (zBr 0 rfl rfl (by simp) rfl (fun v w h => h)) (zBr 1 rfl rfl (by simp) rfl (fun v w h => h)) (fun v v' w h h' => exK (zDn h h') B12.out (by omega))
    ·exact zC9 (b := g8) (j := 2) (z := q0) (z' := (q0 + (1))) hp rfl (by simp [plan]) rfl rfl rfl (by simp) rfl (fun v w h => h) (fun _ _ => trivial) (by simp [plan]) (by simp [plan])
    intro L vs w13 hL hG
    replace XA : BoxNum w13 w.heap.size x := by have := hG.old (w.heap.size, 1000, x, x) (by simp [plan]); simpa using this
    replace XB : BoxNum w13 (w.heap.size + 1) y := by have := hG.old ((w.heap.size + 1), 1001, y, y) (by simp [plan]); simpa using this
    replace X4 : BoxNum w13 (w.heap.size + 1 + 1) 0 := by have := hG.old ((w.heap.size + 1 + 1), 1002, 0, 0) (by simp [plan]); simpa using this
    replace X5 : BoxNum w13 (w.heap.size + 1 + 1 + 1) 0 := by have := hG.old ((w.heap.size + 1 + 1 + 1), 1003, 0, 0) (by simp [plan]); simpa using this
    replace X8 : BoxNum w13 g8 (q0 + (1)) := by have := hG.old (g8, 3, q0, (q0 + (1))) (by simp [plan]); simpa [hL 3 (by simp)] using this
    replace X9 : BoxNum w13 g9 (r0 + (Int.natAbs y : Int)) := by have := hG.old (g9, 1005, (r0 + (Int.natAbs y : Int)), (r0 + (Int.natAbs y : Int))) (by simp [plan]); simpa using this
    replace HB := hG.below
    rw [zAe hL]
    simp only [SP, Nat.zero_add, Nat.reduceAdd]
    generalize vs 0 = u13_0
    generalize vs 1 = u13_1
    generalize vs 2 = u13_2
    clear hG hm hp hL hlast vs L 
    go_wp2
    have hEu : (q0 + (1)) = x / y ∧ (r0 + (Int.natAbs y : Int)) = x % y := by
     have hA := Ax.out
     have hB := Ay.out
     have h1 := Vq.out
     have h2 := Vr.out
     rw [hA, hB] at h1 h2
     have hq := Hq0.out
     have hr := Hr0.out
     rw [h1] at hq
     rw [h2] at hr
     have hv := V1.out
     rw [hB] at hv
     have hd := Int.mul_ediv_add_emod (ab x) (ab y)
     have hm0 := Int.emod_nonneg (ab x) (show ab y ≠ 0 by omega)
     have hm1 := Int.emod_lt_of_pos (ab x) hv
     have D := dm_end Hy0.out hd hm0 hm1 Nx.out Px.out Nx2.out Px2.out Ny2.out Py2.out hq hr
     have nr := Nr.out
     have ny3 := Ny3.out
     have py3 := Py3.out
     exact D.2.2 (by simpa using nr) (by simpa using ny3)
    have HEu := hidd hEu
    clear hEu
    have hlast := X9.lt
    have hp : (plan [Fc.num (q0 + (1)), Fc.num (r0 + (Int.natAbs y : Int)), Fc.any, Fc.any, Fc.is (.int .i64 (0))] [(w.heap.size, 1000, x, x), ((w.heap.size + 1), 1001, y, y), ((w.heap.size + 1 + 1), 2, 0, (q0 + (1))), ((w.heap.size + 1 + 1 + 1), 3, 0, (r0 + (Int.natAbs y : Int))), (g8, 1004, (q0 + (1)), (q0 + (1))), (g9, 1005, (r0 + (Int.natAbs y : Int)), (r0 + (Int.natAbs y : Int)))] []).Ok w.heap.size w13.heap.size := zD6 (by simp; omega) (by simp; try omega) (by simp) (by omega)
    have hm := PMono.of hp
    refine zEb (p := (plan [Fc.num (q0 + (1)), Fc.num (r0 + (Int.natAbs y : Int)), Fc.any, Fc.any, Fc.is (.int .i64 (0))] [(w.heap.size, 1000, x, x), ((w.heap.size + 1), 1001, y, y), ((w.heap.size + 1 + 1), 2, 0, (q0 + (1))), ((w.heap.size + 1 + 1 + 1), 3, 0, (r0 + (Int.natAbs y : Int))), (g8, 1004, (q0 + (1)), (q0 + (1))), (g9, 1005, (r0 + (Int.natAbs y : Int)), (r0 + (Int.natAbs y : Int)))] [])) (B := w.heap.size) (B0 := w13.heap.size) (w0 := w) (by kernel_rfl) rfl rfl (zD7 (by simp; exact ⟨XA, XB, X4, X5, X8, X9⟩) HB) ⟨?_, ?_, ?_, ?_, ?_, trivial⟩ ?_
    ·exact zB9 (b := g8) (k := 1004) (z := (q0 + (1))) (z' := (q0 + (1))) hp (by simp [plan]) (.inl rfl) rfl rfl (fun v w h => h) ⟨by simp [plan], by simp [plan]⟩
    ·exact zB9 (b := g9) (k := 1005) (z := (r0 + (Int.natAbs y : Int))) (z' := (r0 + (Int.natAbs y : Int))) hp (by simp [plan]) (.inl rfl) rfl rfl (fun v w h => h) ⟨by simp [plan], by simp [plan]⟩
    ·exact zC9 (b := (w.heap.size + 1 + 1)) (j := 0) (z := 0) (z' := (q0 + (1))) hp rfl (by simp [plan]) rfl rfl rfl (by simp) rfl (fun v w h => h) (fun _ _ => trivial) (by simp [plan]) (by simp [plan])
    ·exact zC9 (b := (w.heap.size + 1 + 1 + 1)) (j := 1) (z := 0) (z' := (r0 + (Int.natAbs y : Int))) hp rfl (by simp [plan]) rfl rfl rfl (by simp) rfl (fun v w h => h) (fun _ _ => trivial) (by simp [plan]) (by simp [plan])
    ·exact zG0 hm ⟨by simp [plan], by simp [plan]⟩ trivial (zHk (fun _ => rfl))
    intro L vs w14 hL hG
    replace XA : BoxNum w14 w.heap.size x := by have := hG.old (w.heap.size, 1000, x, x) (by simp [plan]); simpa using this
    replace XB : BoxNum w14 (w.heap.size + 1) y := by have := hG.old ((w.heap.size + 1), 1001, y, y) (by simp [plan]); simpa using this
    replace X4 : BoxNum w14 (w.heap.size + 1 + 1) (q0 + (1)) := by have := hG.old ((w.heap.size + 1 + 1), 2, 0, (q0 + (1))) (by simp [plan]); simpa [hL 2 (by simp)] using this
    replace X5 : BoxNum w14 (w.heap.size + 1 + 1 + 1) (r0 + (Int.natAbs y : Int)) := by have := hG.old ((w.heap.size + 1 + 1 + 1), 3, 0, (r0 + (Int.natAbs y : Int))) (by simp [plan]); simpa [hL 3 (by simp)] using this
    replace X8 : BoxNum w14 g8 (q0 + (1)) := by have := hG.old (g8, 1004, (q0 + (1)), (q0 + (1))) (by simp [plan]); simpa using this
    replace X9 : BoxNum w14 g9 (r0 + (Int.natAbs y : Int)) := by have := hG.old (g9, 1005, (r0 + (Int.natAbs y : Int)), (r0 + (Int.natAbs y : Int))) (by simp [plan]); simpa using this
    have e4 : vs 4 = .int .i64 (0) := hG.val 4 (hL 4 (by simp))
    replace HB := hG.below
    rw [zAe hL]
    simp only [SP, Nat.zero_add, Nat.reduceAdd]
    rw [e4]
    generalize vs 0 = u14_0
    generalize vs 1 = u14_1
    clear hG hm hp hL hlast vs L e4
    obtain ⟨nc, aoc, kkc, ccc, ⟨c0, c1, c2, c3⟩, hNc⟩ := id X4
    obtain ⟨nd, aod, kkd, ccd, ⟨d0, d1, d2, d3⟩, hNd⟩ := id X5
    go_wp2
    refine bodyPost_ret (v := .tuple #[.agg #[.bool nc, .slice aoc kkc ccc], .agg #[.bool nd, .slice aod kkd ccd], .int .i64 0]) ?_ rfl ⟨HB, .inr ⟨Hy0.out, _, _, rfl, by rw [← HEu.out.1]; exact hNc.isInt, by rw [← HEu.out.2]; exact hNd.isInt⟩⟩
    simp [results, Tryz.results91, go_sem, c0, c1, d0, d1]

set_option maxRecDepth 100000 in
set_option maxHeartbeats 8000000 in
theorem RDivV {w : World} {v v' : Value} {x y : Int} (h : Num w v x) (h' : Num w v' y) (hx : ab x < pw 1000) (hy : ab y < pw 1000) (hy0 : y ≠ 0) : Calls Tryz.prog 52 #[v, v'] w (zA4 w (x / y)) := by
 obtain ⟨n, ao, k, c, rfl⟩ := h.parts
 obtain ⟨n', ao', k', c', rfl⟩ := h'.parts
 have Bx := hidd hx
 have By := hidd hy
 have Hy0 := hidd hy0
 clear hx hy hy0
 obtain ⟨w0, hw0, hXW, X4, HB, _⟩ := zHs w h h' 31
 obtain ⟨XA, XB, _⟩ := hXW w0 (Below.refl _ _)
 clear hXW
 go_enter Tryz.func52, Tryz.ntmps52
 go_upto_region 1 with (fail)
 rw [← hw0]
 clear hw0 h h'
 have hlt0 := X4.lt
 obtain ⟨na, aoa, kka, cca, ⟨a0, a1, a2, a3⟩, hNa⟩ := id XA
 obtain ⟨nb, aob, kkb, ccb, ⟨b0, b1, b2, b3⟩, hNb⟩ := id XB
 go_wp2_with fail
 refine (zJj hNa hNb Bx.out By.out).mono ?_
 rintro e w1 ⟨hb, ⟨h0, _⟩ | ⟨_, vq, vr, rfl, iq, ir⟩⟩
 ·exact absurd h0 Hy0.out
 have Nq := zDj iq (zEv Bx.out (show 1000 < 1001 by omega)) (by omega)
 have Nr := zDj ir (zEw Hy0.out By.out) (by omega)
 obtain ⟨nq, aq, kq, cq, rfl⟩ := Nq.parts
 obtain ⟨nr, ar, kr, cr, rfl⟩ := Nr.parts
 clear iq ir
 clear a0 a1 a2 a3 hNa b0 b1 b2 b3 hNb
 replace XA := XA.mono hb
 replace XB := XB.mono hb
 replace X4 := X4.mono hb
 replace HB := HB.trans (hb.mono HB.size)
 clear hb
 go_upto_region 2 with (fail)
 obtain ⟨w2, hw2, hb, p5, p6⟩ := boxTwo Nq Nr 31
 rw [← hw2]
 clear hw2
 have hlt1 := X4.lt
 replace XA := XA.mono hb
 replace XB := XB.mono hb
 replace X4 := X4.mono hb
 replace HB := HB.trans (hb.mono HB.size)
 replace Nq := Nq.mono hb
 replace Nr := Nr.mono hb
 clear hb
 obtain ⟨ne, ae, ke, ce, ⟨e0, e1, _, _⟩, hNe⟩ := id p5
 obtain ⟨nc, aoc, kkc, ccc, ⟨c0, c1, c2, c3⟩, hNc⟩ := id X4
 have hNf := hNe.putBox X4 ne ae ke ce
 unfold putBox at hNf
 have hbS := (HB.setCell (p := ⟨w.heap.size + 1 + 1, 0, none⟩) (by show w.heap.size ≤ w.heap.size + 1 + 1; omega) (.bool ne)).setCell (p := ⟨w.heap.size + 1 + 1, 1, none⟩) (by show w.heap.size ≤ w.heap.size + 1 + 1; omega) (.slice ae ke ce)
 have hne1 : ¬ w1.heap.size = w.heap.size + 1 + 1 := by omega
 go_wp2
 refine bodyPost_ret (v := .agg #[.bool ne, .slice ae ke ce]) ?_ rfl ⟨_, rfl, hNf.isInt, hbS⟩
 simp [results, Tryz.results52, go_sem, c0, c1]

set_option maxRecDepth 100000 in
set_option maxHeartbeats 8000000 in
theorem RModV {w : World} {v v' : Value} {x y : Int} (h : Num w v x) (h' : Num w v' y) (hx : ab x < pw 1000) (hy : ab y < pw 1000) (hy0 : y ≠ 0) : Calls Tryz.prog 49 #[v, v'] w (zA4 w (x % y)) := by
 obtain ⟨n, ao, k, c, rfl⟩ := h.parts
 obtain ⟨n', ao', k', c', rfl⟩ := h'.parts
 have Bx := hidd hx
 have By := hidd hy
 have Hy0 := hidd hy0
 clear hx hy hy0
 obtain ⟨w0, hw0, hXW, X4, HB, _⟩ := zHs w h h' 31
 obtain ⟨XA, XB, _⟩ := hXW w0 (Below.refl _ _)
 clear hXW
 go_enter Tryz.func49, Tryz.ntmps49
 go_upto_region 1 with (fail)
 rw [← hw0]
 clear hw0 h h'
 have hlt0 := X4.lt
 obtain ⟨na, aoa, kka, cca, ⟨a0, a1, a2, a3⟩, hNa⟩ := id XA
 obtain ⟨nb, aob, kkb, ccb, ⟨b0, b1, b2, b3⟩, hNb⟩ := id XB
 go_wp2_with fail
 refine (zJj hNa hNb Bx.out By.out).mono ?_
 rintro e w1 ⟨hb, ⟨h0, _⟩ | ⟨_, vq, vr, rfl, iq, ir⟩⟩
 ·exact absurd h0 Hy0.out
 have Nq := zDj iq (zEv Bx.out (show 1000 < 1001 by omega)) (by omega)
 have Nr := zDj ir (zEw Hy0.out By.out) (by omega)
 obtain ⟨nq, aq, kq, cq, rfl⟩ := Nq.parts
 obtain ⟨nr, ar, kr, cr, rfl⟩ := Nr.parts
 clear iq ir
 clear a0 a1 a2 a3 hNa b0 b1 b2 b3 hNb
 replace XA := XA.mono hb
 replace XB := XB.mono hb
 replace X4 := X4.mono hb
 replace HB := HB.trans (hb.mono HB.size)
 clear hb
 go_upto_region 2 with (fail)
 obtain ⟨w2, hw2, hb, p5, p6⟩ := boxTwo Nq Nr 31
 rw [← hw2]
 clear hw2
 have hlt1 := X4.lt
 replace XA := XA.mono hb
 replace XB := XB.mono hb
 replace X4 := X4.mono hb
 replace HB := HB.trans (hb.mono HB.size)
 replace Nq := Nq.mono hb
 replace Nr := Nr.mono hb
 clear hb
 obtain ⟨ne, ae, ke, ce, ⟨e0, e1, _, _⟩, hNe⟩ := id p6
 obtain ⟨nc, aoc, kkc, ccc, ⟨c0, c1, c2, c3⟩, hNc⟩ := id X4
 have hNf := hNe.putBox X4 ne ae ke ce
 unfold putBox at hNf
 have hbS := (HB.setCell (p := ⟨w.heap.size + 1 + 1, 0, none⟩) (by show w.heap.size ≤ w.heap.size + 1 + 1; omega) (.bool ne)).setCell (p := ⟨w.heap.size + 1 + 1, 1, none⟩) (by show w.heap.size ≤ w.heap.size + 1 + 1; omega) (.slice ae ke ce)
 have hne1 : ¬ w1.heap.size = w.heap.size + 1 + 1 := by omega
 go_wp2
 refine bodyPost_ret (v := .agg #[.bool ne, .slice ae ke ce]) ?_ rfl ⟨_, rfl, hNf.isInt, hbS⟩
 simp [results, Tryz.results49, go_sem, c0, c1]

end Go.Proofs.YtdhkhedhnolcjaaGreat

namespace Go.Proofs.YtdhkhedhnolcjaaGreat
open Go Go.RowKit

theorem zJ6 (args : Array Value) (w : World) : (callFunc 52 args).run Tryz.prog w = .ok (.enter 52 args) w := zAq Tryz.func52 (by kernel_rfl) rfl args w
theorem zB4 {w : World} {v : Value} {z : Int} (h : Num w v z) : Calls Tryz.prog 59 #[v] w fun e w' => ∃ v', e = .returned v' ∧ Below w.heap.size w w' ∧ v' = .int .i64 (cmpI z 0) :=
 (RSignV h).mono fun _ _ hh => ⟨_, hh.1, hh.2, rfl⟩
theorem zDq (args : Array Value) (w : World) : (callFunc 69 args).run Tryz.prog w = .ok (.enter 69 args) w := zAq Tryz.func69 (by kernel_rfl) rfl args w
theorem zBj (args : Array Value) (w : World) : (callFunc 62 args).run Tryz.prog w = .ok (.enter 62 args) w := zAq Tryz.func62 (by kernel_rfl) rfl args w
theorem enq_Sub (args : Array Value) (w : World) : (callFunc 61 args).run Tryz.prog w = .ok (.enter 61 args) w := zAq Tryz.func61 (by kernel_rfl) rfl args w
theorem zGp (args : Array Value) (w : World) : (callFunc 48 args).run Tryz.prog w = .ok (.enter 48 args) w := zAq Tryz.func48 (by kernel_rfl) rfl args w
theorem zHz (args : Array Value) (w : World) : (callFunc 44 args).run Tryz.prog w = .ok (.enter 44 args) w := zAq Tryz.func44 (by kernel_rfl) rfl args w
theorem zA8 (args : Array Value) (w : World) : (callFunc 46 args).run Tryz.prog w = .ok (.enter 46 args) w := zAq Tryz.func46 (by kernel_rfl) rfl args w
theorem zCg (args : Array Value) (w : World) : (callFunc 57 args).run Tryz.prog w = .ok (.enter 57 args) w := zAq Tryz.func57 (by kernel_rfl) rfl args w
theorem zC1 (args : Array Value) (w : World) : (callFunc 45 args).run Tryz.prog w = .ok (.enter 45 args) w := zAq Tryz.func45 (by kernel_rfl) rfl args w
theorem zC3 (args : Array Value) (w : World) : (callFunc 56 args).run Tryz.prog w = .ok (.enter 56 args) w := zAq Tryz.func56 (by kernel_rfl) rfl args w
theorem zCs (args : Array Value) (w : World) : (callFunc 17 args).run Tryz.prog w = .ok (.enter 17 args) w := zAq Tryz.func17 (by kernel_rfl) rfl args w
theorem zB2 (args : Array Value) (w : World) : (callFunc 37 args).run Tryz.prog w = .ok (.enter 37 args) w := zAq Tryz.func37 (by kernel_rfl) rfl args w
theorem zBo (args : Array Value) (w : World) : (callFunc 68 args).run Tryz.prog w = .ok (.enter 68 args) w := zAq Tryz.func68 (by kernel_rfl) rfl args w
theorem zB3 (args : Array Value) (w : World) : (callFunc 59 args).run Tryz.prog w = .ok (.enter 59 args) w := zAq Tryz.func59 (by kernel_rfl) rfl args w
theorem zJx (args : Array Value) (w : World) : (callFunc 95 args).run Tryz.prog w = .ok (.enter 95 args) w := zAq Tryz.func95 (by kernel_rfl) rfl args w
theorem zH0 (args : Array Value) (w : World) : (callFunc 40 args).run Tryz.prog w = .ok (.enter 40 args) w := zAq Tryz.func40 (by kernel_rfl) rfl args w
theorem enq_R_Mod (args : Array Value) (w : World) : (callFunc 49 args).run Tryz.prog w = .ok (.enter 49 args) w := zAq Tryz.func49 (by kernel_rfl) rfl args w
theorem zEz (args : Array Value) (w : World) : (callFunc 41 args).run Tryz.prog w = .ok (.enter 41 args) w := zAq Tryz.func41 (by kernel_rfl) rfl args w
theorem zB1 (args : Array Value) (w : World) : (callFunc 42 args).run Tryz.prog w = .ok (.enter 42 args) w := zAq Tryz.func42 (by kernel_rfl) rfl args w
theorem zA2 (args : Array Value) (w : World) : (callFunc 50 args).run Tryz.prog w = .ok (.enter 50 args) w := zAq Tryz.func50 (by kernel_rfl) rfl args w
theorem zC2 (args : Array Value) (w : World) : (callFunc 58 args).run Tryz.prog w = .ok (.enter 58 args) w := zAq Tryz.func58 (by kernel_rfl) rfl args w
theorem ab_gcdB {x y : Int} {j k m : Nat} (hx : ab x < pw j) (hy : ab y < pw k) (hj : j ≤ m) (hk : k ≤ m) : ab (Int.gcd x y : Int) < pw m := by
 have h1 := zAb hj
 have h2 := zAb hk
 by_cases h : x = 0
 ·subst h
  rw [Int.zero_gcd]
  unfold ab at *
  omega
 ·have h3 := Int.gcd_le_natAbs_left y h
  unfold ab at *
  omega

theorem cmpIq0 {x y : Int} : cmpI x y = 0 ↔ x = y := by
 unfold cmpI
 split
 ·rename_i h
  constructor
  ·intro h2; omega
  ·intro h2; omega
 ·split
  ·rename_i h; exact ⟨fun _ => h, fun _ => rfl⟩
  ·rename_i h; exact ⟨fun h2 => by omega, fun h2 => absurd h2 h⟩
theorem cmpIqlt {x y : Int} : cmpI x y < 0 ↔ x < y := by
 unfold cmpI
 split
 ·rename_i h; exact ⟨fun _ => h, fun _ => by decide⟩
 ·rename_i h
  split
  ·exact ⟨fun h2 => by omega, fun h2 => absurd h2 h⟩
  ·exact ⟨fun h2 => by omega, fun h2 => absurd h2 h⟩
theorem cmpIqgt {x y : Int} : 0 < cmpI x y ↔ y < x := by
 unfold cmpI
 split
 ·rename_i h; exact ⟨fun h2 => by omega, fun h2 => by omega⟩
 ·split
  ·rename_i h; exact ⟨fun h2 => by omega, fun h2 => by omega⟩
  ·rename_i h1 h; exact ⟨fun _ => by omega, fun _ => by decide⟩

theorem zBh {c : Int} (h : ab c < 4294967296 * 4294967296 * 4294967296) : ab c < pw 3 := h

theorem exDMq {w : World} {v v' : Value} {a b : Int} (h : Num w v a) (h' : Num w v' b) (hb : b ≠ 0) {j k : Nat} (hq : ab (a / b) < pw j) (hr : ab (a % b) < pw k) (hj : j ≤ 900000) (hk : k ≤ 900000) :
  Calls Tryz.prog 44 #[v, v'] w fun e w' => ∃ v', e = .returned v' ∧ Below w.heap.size w w' ∧ (Fq.tup3 (Fq.num (a / b)) (Fq.num (a % b)) (Fq.is (.int .i64 0))).P v' w' :=
 (exDT h h' hb hq hr hj hk).mono fun _ _ ⟨v', e, hb', v1, v2, e2, h1, h2⟩ => ⟨v', e, hb', v1, v2, _, e2, h1, h2, rfl⟩

theorem OfK (w : World) (z : Int) (h0 : -9223372036854775808 ≤ z) (h1 : z ≤ 9223372036854775807) : Calls Tryz.prog 45 #[.int .i64 z] w fun e w' => ∃ v', e = .returned v' ∧ Below w.heap.size w w' ∧ Num w' v' z := OfV w z h0 h1
theorem rOfK (w : World) (z : Int) (h0 : -9223372036854775808 ≤ z) (h1 : z ≤ 9223372036854775807) : Calls Tryz.prog 37 #[.int .i64 z] w fun e w' => ∃ v', e = .returned v' ∧ Below w.heap.size w w' ∧ Num w' v' z := rOfV w z h0 h1

theorem bq_box {w : World} {b : Nat} {z : Int} (h : Bq w b 2 (Fq.num z)) : BoxNum w b z := by
 obtain ⟨us, hl, _, hat, _, hP⟩ := h
 match us, hl, hat, hP with
 | [p, q], _, hat, hP =>
  have hN : Num w (.agg #[p, q]) z := hP
  obtain ⟨n, ao, k, c, e⟩ := hN.parts
  have e1 := congrArg (fun v => match v with | Value.agg us => us.toList | _ => []) e
  simp at e1
  obtain ⟨rfl, rfl⟩ := e1
  exact ⟨n, ao, k, c, ⟨(hat 0 (by simp)).1, (hat 1 (by simp)).1, (hat 0 (by simp)).2, (hat 1 (by simp)).2⟩, hN⟩

theorem Fr.drop {w0 W : World} {x : Nat × Nat × Fq} {bs : List (Nat × Nat × Fq)} (h : Fr w0 (x :: bs) W) : Fr w0 bs W :=
 ⟨h.below, fun y hy => h.boxes y (List.mem_cons_of_mem _ hy), by have := h.apart; rw [List.map_cons, List.nodup_cons] at this; exact this.2⟩

theorem exRMod {w : World} {v v' : Value} {a b : Int} (h : Num w v a) (h' : Num w v' b) (h0 : b ≠ 0) (ha : ab a < pw 900) (hb : ab b < pw 900) : Calls Tryz.prog 49 #[v, v'] w fun e w' => ∃ v', e = .returned v' ∧ Below w.heap.size w w' ∧ Num w' v' (a % b) :=
 exK (k := 900) (RModV h h' (Int.lt_of_lt_of_le ha (zAb (by omega))) (Int.lt_of_lt_of_le hb (zAb (by omega))) h0) (zEw h0 hb) (by omega)
theorem exRSame {w : World} {v v' : Value} {a b : Int} (h : Num w v a) (h' : Num w v' b) : Calls Tryz.prog 17 #[v, v'] w fun e w' => ∃ v', e = .returned v' ∧ Below w.heap.size w w' ∧ v' = .bool (decide (a = b)) :=
 (SameV h h').mono fun _ _ hh => ⟨_, hh.1, hh.2, rfl⟩

theorem gcd_stepQ (x y : Int) : Int.gcd y (x % y) = Int.gcd x y := by
 have e : x % y = x - y * (x / y) := by have := Int.mul_ediv_add_emod x y; omega
 rw [e, Int.gcd_sub_mul_left_right, Int.gcd_comm]

section
variable {n n' : Bool} {a a' : Option Addr} {k c k' c' : Nat} {xs xs' : List Int}
end

section
variable {os : List Oper} {Q : Exit → Act → World → Prop} {a : Act} {p : Pq} {B B0 : Nat} {w0 : World}
variable {i s : Nat} {d : Option Tmp} {ty : TypeId} {ps : String} {af : Array Edge} {gd : Option (Nat × Bool)}
end

set_option maxRecDepth 100000 in
set_option maxHeartbeats 4000000 in
theorem exRGcd {w : World} {v v' : Value} {a b : Int} (h : Num w v a) (h' : Num w v' b) (ha : ab a < pw 900) (hb : ab b < pw 900) :
  Calls Tryz.prog 95 #[v, v'] w fun e w' => ∃ v', e = .returned v' ∧ Below w.heap.size w w' ∧ Num w' v' (Int.gcd a b : Int) := by
 replace ha := hidd ha
 replace hb := hidd hb
 obtain ⟨n0, ao0, k0, c0, rfl⟩ := h.parts
 obtain ⟨n1, ao1, k1, c1, rfl⟩ := h'.parts
 obtain ⟨w1, b1, hw1, hb1, hs1, E⟩ := zCu w (F := Fq.num a) (us := [.bool n0, .slice ao0 k0 c0]) 31 rfl (by simp) (zB0 _ _ _ _) h
 obtain ⟨w2, b2, hw2, hb2, hs2, E⟩ := fN E hs1 31 h'
 obtain ⟨w3, b3, hw3, hb3, hs3, E⟩ := fZ E hs2 31
 go_enter Tryz.func95, Tryz.ntmps95
 go_upto_region 1 with (fail)
 rw [← hw1]
 rw [← hw2]
 rw [← hw3]
 rw [← hb3]
 rw [← hb2]
 rw [← hb1]
 clear hw1 hw2 hw3 hb1 hb2 hb3 hs3 hs1 hs2
 have B4 : Hid (ab ((Int.natAbs a : Int)) < pw 900) := zBg ha.out
 refine rg [Fq.num a, Fq.num (Int.natAbs a : Int), Fq.any] [none, none, some (2, Fq.num (Int.natAbs a : Int))] [] E (fun hp => ⟨?_, ?_, ?_, tv⟩) ?_
 ·exact zCd (off := 0) hp fo tv (mq 2 rfl) (.inr rfl) (Nat.le_of_ble_eq_true rfl) (zCy rfl rfl (fun _ _ => rfl)) (fun us w hl h => zAp hl h)
 ·exact wXa (Fq.num a) hp zBo (sqi 0) fun v w h => exK (zBl h) B4.out (by omega)
 ·exact zFg hp (mq 2 rfl) rfl rfl (zCy rfl rfl (fun _ _ => rfl)) (zBw 1 rfl rfl (by simp) rfl (fun v w h => zEp h)) (fun _ _ => trivial) (zB7 rfl)
 intro L vs w5 nb hL hC hn E5
 have E := E5; try simp only [LM, zAd] at E
 rw [zAe hL]
 simp only [SP, Nat.zero_add, Nat.reduceAdd]
 generalize vs 0 = u5_0
 generalize vs 1 = u5_1
 clear  hC hn E5 hL vs L nb
 go_upto_region 2 with (fail)
 have B6 : Hid (ab ((Int.natAbs b : Int)) < pw 900) := zBg hb.out
 refine rg [Fq.num b, Fq.num (Int.natAbs b : Int), Fq.any] [none, some (2, Fq.num (Int.natAbs b : Int)), none] [] E (fun hp => ⟨?_, ?_, ?_, tv⟩) ?_
 ·exact zCd (off := 0) hp fo tv (mq 1 rfl) (.inr rfl) (Nat.le_of_ble_eq_true rfl) (zCy rfl rfl (fun _ _ => rfl)) (fun us w hl h => zAp hl h)
 ·exact wXa (Fq.num b) hp zBo (sqi 0) fun v w h => exK (zBl h) B6.out (by omega)
 ·exact zFg hp (mq 1 rfl) rfl rfl (zCy rfl rfl (fun _ _ => rfl)) (zBw 1 rfl rfl (by simp) rfl (fun v w h => zEp h)) (fun _ _ => trivial) (zB7 rfl)
 intro L vs w7 nb hL hC hn E7
 have E := E7; try simp only [LM, zAd] at E
 rw [zAe hL]
 simp only [SP, Nat.zero_add, Nat.reduceAdd]
 generalize vs 0 = u7_0
 generalize vs 1 = u7_1
 clear  hC hn E7 hL vs L nb
 have HS := hidd E
 go_upto_region 3 with (fail)
 go_loopw [5] (fun _ W => ∃ x y : Int, 0 ≤ x ∧ 0 ≤ y ∧ Hid (ab x < pw 900 ∧ ab y < pw 900 ∧ Int.gcd x y = Int.gcd a b) ∧ Fr w [(b3, 2, Fq.num 0), (b2, 2, Fq.num y), (b1, 2, Fq.num x)] W) (fun _ W => zGg W b2)
 case atStart => exact ⟨_, _, Int.natCast_nonneg _, Int.natCast_nonneg _, ⟨zBg ha.out, zBg hb.out, by rw [Int.gcd_eq_natAbs_gcd_natAbs, Int.gcd_eq_natAbs_gcd_natAbs, Int.natAbs_natCast, Int.natAbs_natCast]⟩, HS.out⟩
 case round =>
  obtain ⟨x, y, hx0, hy0, HI, E⟩ := hrel
  have HX := hidd hx0
  have HY := hidd hy0
  clear hx0 hy0 HS
  obtain ⟨n2, ao2, k2, c2, ⟨d0, d1, _, _⟩, hN2⟩ := bq_box (E.box 1 rfl)
  have hz := hN2.len_zero.1
  by_cases hy : y = 0
  ·obtain rfl := hz.2 hy
   subst hy
   clear hz hN2
   go_upto_region 7 with (fail)
   refine rg [Fq.num x, Fq.any] [some (1, Fq.num x), none, none] [] E (fun hp => ⟨?_, ?_, tv⟩) ?_
   ·exact zCd (off := 0) hp fo tv (mq 2 rfl) (.inl rfl) (Nat.le_of_ble_eq_true rfl) (zCy rfl rfl (fun _ _ => rfl)) (fun us w hl h => zAp hl h)
   ·exact zFg hp (mq 0 rfl) rfl rfl (zCy rfl rfl (fun _ _ => rfl)) (zBw 0 rfl rfl (by simp) rfl (fun v w h => zEp h)) (fun _ _ => trivial) (zB7 rfl)
   intro L vs w8 nb hL hC hn E8
   have E := E8; try simp only [LM, zAd] at E
   rw [zAe hL]
   simp only [SP, Nat.zero_add, Nat.reduceAdd]
   generalize vs 0 = u8_0
   clear  hC hn E8 hL vs L nb
   obtain ⟨p0, p1, c0, c1, hP⟩ := zD0 (E.box 0 rfl)
   clear d0 d1
   have hg : x = (Int.gcd a b : Int) := by rw [← HI.out.2.2, Int.gcd_zero]; have := HX.out; omega
   have HG := hidd hg
   clear hg ha hb
   go_wp2
   refine bodyPost_ret (v := .agg #[p0, p1]) ?_ rfl ⟨_, rfl, E.below, by rw [← HG.out]; exact hP⟩
   simp [results, Tryz.results95, go_sem, c0, c1]
  ·have hk2 : 0 < k2 := by have := mt hz.1 hy; omega
   have HNZ := hidd hy
   clear hy hz hN2
   have HBV := hidd (zGh (bq_box (E.box 1 rfl)))
   go_upto_region 4 with (fail)
   have B9 : Hid (ab ((x % y)) < pw 900) := zEw HNZ.out HI.out.2.1
   refine rg [Fq.num x, Fq.num y, Fq.num (x % y), Fq.any, Fq.any] N3 [⟨3, 4, 2, Fq.num 0, Fq.num (x % y), none⟩] E (fun hp => ⟨?_, ?_, ?_, ?_, ?_, tv⟩) ?_
   ·exact zCd (off := 0) hp fo tv (mq 2 rfl) (.inl rfl) (Nat.le_of_ble_eq_true rfl) (zCy rfl rfl (fun _ _ => rfl)) (fun us w hl h => zAp hl h)
   ·exact zCd (off := 0) hp fo tv (mq 1 rfl) (.inl rfl) (Nat.le_of_ble_eq_true rfl) (zCy rfl rfl (fun _ _ => rfl)) (fun us w hl h => zAp hl h)
   ·exact wXb (Fq.num x) (Fq.num y) hp enq_R_Mod (sqi 0) (sqi 1) fun v v' w h h' => exRMod h h' HNZ.out (Int.lt_of_lt_of_le HI.out.1 (zAb (by omega))) (Int.lt_of_lt_of_le HI.out.2.1 (zAb (by omega)))
   ·exact aN hp (mq 0 rfl)
   ·exact sN 2 hp (mq 0 rfl)
   intro L vs w10 nb hL hC hn E10
   have e3 : vs 3 = .pointer (some ⟨nb 3, 0, none⟩) := hn _ (mq 0 rfl)
   have E := E10; try simp only [LM, zAd] at E
   rw [zAe hL]
   simp only [SP, Nat.zero_add, Nat.reduceAdd]
   rw [e3]
   generalize nb 3 = b10_3 at E ⊢
   generalize vs 0 = u10_0
   generalize vs 1 = u10_1
   generalize vs 2 = u10_2
   clear e3 hC hn E10 hL vs L nb
   clear d0 d1
   go_upto_region 5 with (fail)
   refine rg [Fq.num y, Fq.any] [none, none, none, some (1, Fq.num y)] [] E (fun hp => ⟨?_, ?_, tv⟩) ?_
   ·exact zCd (off := 0) hp fo tv (mq 2 rfl) (.inl rfl) (Nat.le_of_ble_eq_true rfl) (zCy rfl rfl (fun _ _ => rfl)) (fun us w hl h => zAp hl h)
   ·exact zFg hp (mq 3 rfl) rfl rfl (zCy rfl rfl (fun _ _ => rfl)) (zBw 0 rfl rfl (by simp) rfl (fun v w h => zEp h)) (fun _ _ => trivial) (zB7 rfl)
   intro L vs w11 nb hL hC hn E11
   have E := E11; try simp only [LM, zAd] at E
   rw [zAe hL]
   simp only [SP, Nat.zero_add, Nat.reduceAdd]
   generalize vs 0 = u11_0
   clear  hC hn E11 hL vs L nb
   go_upto_region 6 with (fail)
   refine rg [Fq.num (x % y), Fq.any] [none, none, some (1, Fq.num (x % y)), none] [] E (fun hp => ⟨?_, ?_, tv⟩) ?_
   ·exact zCd (off := 0) hp fo tv (mq 0 rfl) (.inl rfl) (Nat.le_of_ble_eq_true rfl) (zCy rfl rfl (fun _ _ => rfl)) (fun us w hl h => zAp hl h)
   ·exact zFg hp (mq 2 rfl) rfl rfl (zCy rfl rfl (fun _ _ => rfl)) (zBw 0 rfl rfl (by simp) rfl (fun v w h => zEp h)) (fun _ _ => trivial) (zB7 rfl)
   intro L vs w12 nb hL hC hn E12
   have E := E12; try simp only [LM, zAd] at E
   rw [zAe hL]
   simp only [SP, Nat.zero_add, Nat.reduceAdd]
   generalize vs 0 = u12_0
   clear  hC hn E12 hL vs L nb
   go_roundw
   case rel => exact ⟨_, _, _, _, _, _, _, _, _, _, ⟨y, x % y, HY.out, Int.emod_nonneg _ HNZ.out, ⟨HI.out.2.1, zEw HNZ.out HI.out.2.1, by rw [gcd_stepQ]; exact HI.out.2.2⟩, E.drop⟩, rfl⟩
   case measure => rw [zGh (bq_box (E.box 2 rfl)), HBV.out]; have h1 := Int.emod_nonneg x HNZ.out; have h2 := Int.emod_lt_of_pos x (show 0 < y by have := HNZ.out; have := HY.out; omega); omega

theorem zCt {w : World} {v v' : Value} {a b : Int} {t : Bool} (h : Num w v a) (h' : Num w v' b) (ht : decide (a = b) = t) : Calls Tryz.prog 17 #[v, v'] w fun e w' => ∃ v', e = .returned v' ∧ Below w.heap.size w w' ∧ v' = .bool t := by
 have := exRSame h h'
 rw [ht] at this
 exact this

end Go.Proofs.YtdhkhedhnolcjaaGreat

namespace Go.Proofs.YtdhkhedhnolcjaaGreat
open Go Go.RowKit

theorem Ow.set {w : World} {B g n c : Nat} {zs : List Int} (h : Ow w B (.slice (some ⟨g, 0, none⟩) n c) zs) {j : Nat} (hj : j < n) {x : Int} (hx0 : 0 ≤ x) (hx1 : x < 4294967296) : Ow (w.setCell ⟨g, j, none⟩ (.int .u32 x)) B (.slice (some ⟨g, 0, none⟩) n c) (zs.set j x) := by
 obtain ⟨⟨h1, h2⟩, h3⟩ := h
 rcases h2 with ⟨h4, _⟩ | ⟨g', cap, cur, h4, h5, h6, h7, h8, h9, h10⟩
 ·cases h4
 ·cases h4
  refine ⟨⟨by simp, .inr ⟨g, c, cur.setIfInBounds j (.int .u32 x), by rw [List.length_set], h5, ?_, by rw [List.length_set]; exact h7, h8, by simpa using h9, ?_⟩⟩, h3.set j ⟨hx0, hx1⟩⟩
  ·simp only [World.setCell, Array.getElem?_modify, if_true, h6, Option.map_some, Option.isSome_none]
   simp
  ·rw [List.length_set, Array.toList_setIfInBounds, List.take_set, h10, List.map_set]

end Go.Proofs.YtdhkhedhnolcjaaGreat

namespace Go.Proofs.YtdhkhedhnolcjaaGreat
open Go Go.RowKit

theorem Ow.nil (w : World) (B : Nat) : Ow w B (.slice none 0 0) [] := ⟨World.ownsRow_nil _ _ _ _, fun _ h => by simp at h⟩

end Go.Proofs.YtdhkhedhnolcjaaGreat

namespace Go.Proofs.YtdhkhedhnolcjaaGreat
open Go Go.RowKit

theorem Fr.put {w0 W : World} {b m : Nat} {F F' : Fq} {bs : List (Nat × Nat × Fq)} (h : Fr w0 ((b, m, F) :: bs) W) {us : List Value} (hl : us.length = m) (ht : Tame us) (hF : F'.P (.agg us.toArray) W) : Fr w0 ((b, m, F') :: bs) (putFrom W b 0 us) := by
 have hb := h.boxes _ List.mem_cons_self
 refine ⟨zF1 hb.1 us 0 _ _ h.below, fun x hx => ?_, h.apart⟩
 rcases List.mem_cons.1 hx with rfl | hx
 ·exact ⟨hb.1, hb.2.same hl ht hF⟩
 ·have hx2 := h.boxes x (List.mem_cons_of_mem _ hx)
  refine ⟨hx2.1, hx2.2.other hb.2 (fun e => ?_) hl⟩
  have hn := h.apart
  rw [List.map_cons, List.nodup_cons] at hn
  exact hn.1 (by rw [show (b, m, F).1 = x.1 from e.symm]; exact List.mem_map.2 ⟨x, hx, rfl⟩)

section
variable {os : List Oper} {Q : Exit → Act → World → Prop} {a : Act} {p : Pq} {B B0 : Nat} {w0 : World}
variable {i s : Nat} {d : Option Tmp} {ty : TypeId} {ps : String} {af : Array Edge} {gd : Option (Nat × Bool)}
end

section
variable {os : List Oper} {Q : Exit → Act → World → Prop} {a : Act} {p : Pq} {B B0 : Nat} {w0 : World}
variable {i s : Nat} {d : Option Tmp} {ty : TypeId} {ps : String} {af : Array Edge} {gd : Option (Nat × Bool)}

end

inductive Fd where
 | n (z : Int)
 | v (u : Value)
 | r (n : Bool) (a : Option Addr) (k c : Nat) (xs : List Int) (z : Int)
def Fd.len : Fd → Nat
 | .n _ => 2
 | .v _ => 1
 | .r .. => 2
def sz : List Fd → Nat
 | [] => 0
 | f :: fs => f.len + sz fs
def zCn (u : Value) : Bool := u.oneCell' && (match u with | .int .u32 _ => false | _ => true)
def Fits (w : World) : List Fd → List Value → Prop
 | [], us => us = []
 | .n z :: fs, us => ∃ a b r, us = a :: b :: r ∧ Num w (.agg #[a, b]) z ∧ Fits w fs r
 | .v u :: fs, us => ∃ r, us = u :: r ∧ zCn u = true ∧ Fits w fs r
 | .r n ao k c xs z :: fs, us => ∃ r, us = .bool n :: .slice ao k c :: r ∧ (Sl w ao k c xs ∧ Num w (.agg #[.bool n, .slice ao k c]) z) ∧ Fits w fs r
theorem Fits.mono {w w' : World} (hb : Below w.heap.size w w') : ∀ {fs : List Fd} {us : List Value}, Fits w fs us → Fits w' fs us
 | [], _, h => h
 | .n _ :: _, _, ⟨a, b, r, e, h1, h2⟩ => ⟨a, b, r, e, h1.mono hb, Fits.mono hb h2⟩
 | .v _ :: _, _, ⟨r, e, h1, h2⟩ => ⟨r, e, h1, Fits.mono hb h2⟩
 | .r .. :: _, _, ⟨r, e, h1, h2⟩ => ⟨r, e, ⟨h1.1.mono hb, h1.2.mono hb⟩, Fits.mono hb h2⟩
theorem Fits.putAt {w : World} {b : Nat} {vs vs' : List Value} (ha : At w b vs) (ht : Tame vs) (hl : vs'.length = vs.length) : ∀ {fs : List Fd} {us : List Value}, Fits w fs us → Fits (putFrom w b 0 vs') fs us
 | [], _, h => h
 | .n _ :: _, _, ⟨a, b, r, e, h1, h2⟩ => ⟨a, b, r, e, h1.putAt ha ht hl, Fits.putAt ha ht hl h2⟩
 | .v _ :: _, _, ⟨r, e, h1, h2⟩ => ⟨r, e, h1, Fits.putAt ha ht hl h2⟩
 | .r .. :: _, _, ⟨r, e, h1, h2⟩ => ⟨r, e, ⟨h1.1.putAt ha ht hl, h1.2.putAt ha ht hl⟩, Fits.putAt ha ht hl h2⟩
theorem Fits.length {w : World} : ∀ {fs : List Fd} {us : List Value}, Fits w fs us → us.length = sz fs
 | [], _, h => by rw [show _ = [] from h]; rfl
 | .n _ :: _, _, ⟨_, _, _, e, _, h2⟩ => by rw [e]; simp [sz, Fd.len, Fits.length h2]; omega
 | .v _ :: _, _, ⟨_, e, _, h2⟩ => by rw [e]; simp [sz, Fd.len, Fits.length h2]; omega
 | .r .. :: _, _, ⟨_, e, _, h2⟩ => by rw [e]; simp [sz, Fd.len, Fits.length h2]; omega
theorem tameB_ne {u : Value} (h : zCn u = true) : ∀ q, u ≠ .int .u32 q := by
 rintro q rfl
 simp [zCn] at h
theorem zKz {w : World} {a b : Value} {z : Int} (h : Num w (.agg #[a, b]) z) : zCn a = true ∧ zCn b = true := by
 obtain ⟨n, ao, k, c, e⟩ := h.parts
 injection e with e
 have e2 := congrArg Array.toList e
 simp at e2
 obtain ⟨rfl, rfl⟩ := e2
 exact ⟨rfl, rfl⟩
theorem Fits.all {w : World} : ∀ {fs : List Fd} {us : List Value}, Fits w fs us → ∀ u ∈ us, zCn u = true
 | [], _, h => by rw [show _ = [] from h]; intro u hu; simp at hu
 | .n _ :: _, _, ⟨_, _, _, e, h1, h2⟩ => by
  rw [e]
  intro u hu
  rcases List.mem_cons.1 hu with rfl | hu
  ·exact (zKz h1).1
  ·rcases List.mem_cons.1 hu with rfl | hu
   ·exact (zKz h1).2
   ·exact Fits.all h2 u hu
 | .v _ :: _, _, ⟨_, e, h1, h2⟩ => by
  rw [e]
  intro u hu
  rcases List.mem_cons.1 hu with rfl | hu
  ·exact h1
  ·exact Fits.all h2 u hu
 | .r .. :: _, _, ⟨_, e, _, h2⟩ => by
  rw [e]
  intro u hu
  rcases List.mem_cons.1 hu with rfl | hu
  ·rfl
  ·rcases List.mem_cons.1 hu with rfl | hu
   ·rfl
   ·exact Fits.all h2 u hu
theorem Fits.tame {w : World} {fs : List Fd} {us : List Value} (h : Fits w fs us) : Tame us := fun u hu => tameB_ne (h.all u hu)
theorem Fits.one {w : World} {fs : List Fd} {us : List Value} (h : Fits w fs us) : ∀ u ∈ us, u.oneCell' = true := fun u hu => by
 have := h.all u hu
 simp only [zCn, Bool.and_eq_true] at this
 exact this.1
theorem Fits.append {w : World} : ∀ {fs : List Fd} {us : List Value} {gs : List Fd} {vs : List Value}, Fits w fs us → Fits w gs vs → Fits w (fs ++ gs) (us ++ vs)
 | [], _, _, _, h, g => by rw [show _ = [] from h]; exact g
 | .n _ :: _, _, _, _, ⟨a, b, r, e, h1, h2⟩, g => ⟨a, b, r ++ _, by rw [e]; rfl, h1, Fits.append h2 g⟩
 | .v _ :: _, _, _, _, ⟨r, e, h1, h2⟩, g => ⟨r ++ _, by rw [e]; rfl, h1, Fits.append h2 g⟩
 | .r .. :: _, _, _, _, ⟨r, e, h1, h2⟩, g => ⟨r ++ _, by rw [e]; rfl, h1, Fits.append h2 g⟩
def cutF : Nat → List Fd → Option (List Fd)
 | 0, fs => some fs
 | _ + 1, [] => none
 | k + 1, .v _ :: fs => cutF k fs
 | 1, .n _ :: _ => none
 | k + 2, .n _ :: fs => cutF k fs
 | 1, .r .. :: _ => none
 | k + 2, .r .. :: fs => cutF k fs
def zBc : Nat → List Fd → Option (List Fd)
 | 0, _ => some []
 | _ + 1, [] => none
 | k + 1, .v u :: fs => (zBc k fs).map (.v u :: ·)
 | 1, .n _ :: _ => none
 | k + 2, .n z :: fs => (zBc k fs).map (.n z :: ·)
 | 1, .r .. :: _ => none
 | k + 2, .r n a l c xs z :: fs => (zBc k fs).map (.r n a l c xs z :: ·)
theorem Fits.cut {w : World} : ∀ {k : Nat} {fs gs : List Fd} {us : List Value}, Fits w fs us → cutF k fs = some gs → Fits w gs (us.drop k)
 | 0, _, _, _, h, e => by cases e; exact h
 | _ + 1, [], _, _, _, e => by cases e
 | k + 1, .v _ :: _, _, _, ⟨_, e1, _, h2⟩, e => by rw [e1]; exact Fits.cut (k := k) h2 e
 | 1, .n _ :: _, _, _, _, e => by cases e
 | k + 2, .n _ :: _, _, _, ⟨_, _, _, e1, _, h2⟩, e => by rw [e1]; exact Fits.cut (k := k) h2 e
 | 1, .r .. :: _, _, _, _, e => by cases e
 | k + 2, .r .. :: _, _, _, ⟨_, e1, _, h2⟩, e => by rw [e1]; exact Fits.cut (k := k) h2 e
theorem Fits.first {w : World} : ∀ {k : Nat} {fs gs : List Fd} {us : List Value}, Fits w fs us → zBc k fs = some gs → Fits w gs (us.take k)
 | 0, _, _, _, _, e => by cases e; rfl
 | _ + 1, [], _, _, _, e => by cases e
 | k + 1, .v u :: fs, _, _, ⟨r, e1, h1, h2⟩, e => by
  cases hq : zBc k fs with
  | none => simp [zBc, hq] at e
  | some g =>
   simp [zBc, hq] at e
   subst e
   rw [e1]
   exact ⟨_, rfl, h1, Fits.first h2 hq⟩
 | 1, .n _ :: _, _, _, _, e => by cases e
 | k + 2, .n z :: fs, _, _, ⟨a, b, r, e1, h1, h2⟩, e => by
  cases hq : zBc k fs with
  | none => simp [zBc, hq] at e
  | some g =>
   simp [zBc, hq] at e
   subst e
   rw [e1]
   exact ⟨_, _, _, rfl, h1, Fits.first h2 hq⟩
 | 1, .r .. :: _, _, _, _, e => by cases e
 | k + 2, .r n a l c xs z :: fs, _, _, ⟨r, e1, h1, h2⟩, e => by
  cases hq : zBc k fs with
  | none => simp [zBc, hq] at e
  | some g =>
   simp [zBc, hq] at e
   subst e
   rw [e1]
   exact ⟨_, rfl, h1, Fits.first h2 hq⟩
def subF (off l : Nat) (fs : List Fd) : Option (List Fd) := (cutF off fs).bind (zBc l)
def putF (off : Nat) (gs fs : List Fd) : Option (List Fd) := (zBc off fs).bind fun a => (cutF (off + sz gs) fs).map fun c => a ++ (gs ++ c)
theorem Fits.sub {w : World} {off l : Nat} {fs gs : List Fd} {us : List Value} (h : Fits w fs us) (e : subF off l fs = some gs) : Fits w gs ((us.drop off).take l) := by
 unfold subF at e
 cases hq : cutF off fs with
 | none => simp [hq] at e
 | some a => rw [hq] at e; exact (h.cut hq).first e
theorem Fits.put {w : World} {off : Nat} {fs gs fs' : List Fd} {us vs : List Value} (h : Fits w fs us) (hv : Fits w gs vs) (e : putF off gs fs = some fs') : Fits w fs' (us.take off ++ (vs ++ us.drop (off + sz gs))) := by
 unfold putF at e
 cases hq : zBc off fs with
 | none => simp [hq] at e
 | some a =>
  cases hc : cutF (off + sz gs) fs with
  | none => simp [hq, hc] at e
  | some c =>
   simp [hq, hc] at e
   subst e
   exact (h.first hq).append (hv.append (h.cut hc))
theorem zGm : ∀ {k : Nat} {fs gs : List Fd}, cutF k fs = some gs → k + sz gs = sz fs
 | 0, _, _, e => by cases e; simp
 | _ + 1, [], _, e => by cases e
 | k + 1, .v _ :: _, _, e => by have := zGm (k := k) e; simp [sz, Fd.len]; omega
 | 1, .n _ :: _, _, e => by cases e
 | k + 2, .n _ :: _, _, e => by have := zGm (k := k) e; simp [sz, Fd.len]; omega
 | 1, .r .. :: _, _, e => by cases e
 | k + 2, .r .. :: _, _, e => by have := zGm (k := k) e; simp [sz, Fd.len]; omega
theorem zGz : ∀ {k : Nat} {fs gs : List Fd}, zBc k fs = some gs → sz gs = k
 | 0, _, _, e => by cases e; rfl
 | _ + 1, [], _, e => by cases e
 | k + 1, .v u :: fs, _, e => by
  cases hq : zBc k fs with
  | none => simp [zBc, hq] at e
  | some g => simp [zBc, hq] at e; subst e; have := zGz hq; simp [sz, Fd.len]; omega
 | 1, .n _ :: _, _, e => by cases e
 | k + 2, .n z :: fs, _, e => by
  cases hq : zBc k fs with
  | none => simp [zBc, hq] at e
  | some g => simp [zBc, hq] at e; subst e; have := zGz hq; simp [sz, Fd.len]; omega
 | 1, .r .. :: _, _, e => by cases e
 | k + 2, .r n a l c xs z :: fs, _, e => by
  cases hq : zBc k fs with
  | none => simp [zBc, hq] at e
  | some g => simp [zBc, hq] at e; subst e; have := zGz hq; simp [sz, Fd.len]; omega
theorem zEx {us vs : List Value} (e : Value.agg us.toArray = Value.agg vs.toArray) : us = vs := by
 injection e with e
 simpa using congrArg Array.toList e
def Fq.st (fs : List Fd) : Fq := ⟨fun v w => ∃ us : List Value, v = .agg us.toArray ∧ Fits w fs us, fun ⟨us, e, h⟩ hb => ⟨us, e, h.mono hb⟩, fun ⟨us, e, h⟩ ha ht hl => ⟨us, e, h.putAt ha ht hl⟩⟩
def FitV (gs : List Fd) (v : Value) (w : World) : Prop := Fits w gs v.cells.toList
theorem zFb {gs : List Fd} {v : Value} {w : World} (h : (Fq.st gs).P v w) : FitV gs v w := by
 obtain ⟨us, rfl, h⟩ := h
 simpa [FitV, Value.cells] using h
theorem zFr {z : Int} {v : Value} {w : World} (h : Num w v z) : FitV [.n z] v w := by
 obtain ⟨n, ao, k, c, e⟩ := h.parts
 subst e
 exact ⟨_, _, [], rfl, h, rfl⟩
theorem zAk {z : Int} {v : Value} {w : World} (h : (Fq.st [.n z]).P v w) : Num w v z := by
 obtain ⟨us, rfl, a, b, r, rfl, h1, h2⟩ := h
 rw [show r = [] from h2]
 exact h1
theorem zIw (b : Nat) : ∀ (us : List Value) (j : Nat) (w : World), putFrom w b j us = w.setCells b j us
 | [], _, _ => rfl
 | u :: us, j, w => by
  show putFrom (w.setCell ⟨b, j, none⟩ u) b (j + 1) us = _
  rw [zIw b us]
  rfl
theorem zIv (b : Nat) : ∀ (us vs : List Value) (j : Nat) (w : World), putFrom w b j (us ++ vs) = putFrom (putFrom w b j us) b (j + us.length) vs
 | [], _, _, _ => rfl
 | u :: us, vs, j, w => by
  show putFrom (w.setCell ⟨b, j, none⟩ u) b (j + 1) (us ++ vs) = putFrom (putFrom (w.setCell ⟨b, j, none⟩ u) b (j + 1) us) b _ vs
  rw [zIv b us vs]
  congr 1
  simp
  omega
theorem zPe {w : World} {a : Addr} {v : Value} (h : w.cell? a = some v) : w.setCell a v = w := by
 have e : (w.setCell a v).heap = w.heap := by
  unfold World.cell? at h
  unfold World.setCell
  apply Array.ext
  ·simp
  ·intro j h1 h2
   simp only [Array.getElem_modify]
   split
   ·rename_i hj
    subst hj
    rw [Array.getElem?_eq_getElem h2] at h
    cases hc : w.heap[a.block] with
    | cells c el fr =>
     rw [hc] at h
     simp only at h
     split at h
     ·cases h
     ·rename_i hs
      simp only [hs, Bool.false_eq_true, if_false]
      congr 1
      apply Array.ext
      ·simp
      ·intro k g1 g2
       rw [Array.getElem_setIfInBounds]
       split
       ·rename_i hk
        subst hk
        rw [Array.getElem?_eq_getElem g2] at h
        exact (Option.some.inj h).symm
       ·rfl
    | _ => rfl
   ·rfl
 have e2 : w.setCell a v = { w with heap := (w.setCell a v).heap } := rfl
 rw [e2, e]
theorem zIy (b : Nat) : ∀ (us : List Value) (j : Nat) (w : World), (∀ i, i < us.length → w.cell? ⟨b, j + i, none⟩ = some (us.getD i undef)) → putFrom w b j us = w
 | [], _, _, _ => rfl
 | u :: us, j, w, h => by
  show putFrom (w.setCell ⟨b, j, none⟩ u) b (j + 1) us = w
  have h0 := h 0 (by simp)
  rw [zPe (by simpa using h0)]
  exact zIy b us (j + 1) w fun i hi => by
   have := h (i + 1) (by simp; omega)
   rw [show j + (i + 1) = j + 1 + i by omega] at this
   simpa using this
theorem zOq {w : World} {b off : Nat} {us vs : List Value} (ha : At w b us) (hl : off + vs.length ≤ us.length) : putFrom w b off vs = putFrom w b 0 (us.take off ++ (vs ++ us.drop (off + vs.length))) := by
 have hlt : (us.take off).length = off := by simp; omega
 rw [zIv, zIy b (us.take off) 0 w fun i hi => ?_]
 ·rw [Nat.zero_add, hlt, zIv]
  refine (zIy b _ _ _ fun i hi => ?_).symm
  rw [zIw, World.cell?_setCells_out b vs off w _ (fun _ _ => .inr (by show off + vs.length ≤ off + vs.length + i; omega))]
  have hi' : off + vs.length + i < us.length := by simp at hi; omega
  rw [(ha _ hi').1]
  simp [List.getD]
 ·rw [Nat.zero_add, (ha i (by omega)).1]
  rw [hlt] at hi
  simp [List.getD, hi]

noncomputable def rowB (T l : Nat) : Bool := (match Tryz.prog.underlying T with | some d => d.isRow | none => false) && (match Tryz.prog.info? T with | some i => i.size == l | none => false)
noncomputable def zCx (T l : Nat) : Bool := match Tryz.prog.info? T with | some i => i.size == l | none => false
theorem rowB_of {T l : Nat} (h : rowB T l = true) : (∃ d, Tryz.prog.underlying T = some d ∧ d.isRow = true) ∧ (Tryz.prog.info? T).map (·.size) = some l := by
 unfold rowB at h
 cases hu : Tryz.prog.underlying T with
 | none => simp [hu] at h
 | some d =>
  cases hi : Tryz.prog.info? T with
  | none => simp [hi] at h
  | some i => simp [hu, hi] at h; exact ⟨⟨d, rfl, h.1⟩, by simp [h.2]⟩
theorem sizeB_of {T l : Nat} (h : zCx T l = true) : ∃ i, Tryz.prog.info? T = some i ∧ i.size = l := by
 unfold zCx at h
 cases hi : Tryz.prog.info? T with
 | none => simp [hi] at h
 | some i => simp [hi] at h; exact ⟨i, rfl, h⟩
theorem zPd {w : World} {b o T : Nat} {v : Value} (ht : w.there b o v.cells.size) (hi : zCx T v.cells.size = true) (h1 : ∀ u ∈ v.cells.toList, u.oneCell' = true) : (storeVar T ⟨b, o, none⟩ v).run Tryz.prog w = .ok () (w.setCells b o v.cells.toList) := by
 have := run_storeCells_cells (P := Tryz.prog) b o v.cells.toList 0 w (fun j hj => by simpa using (ht j (by simpa using hj)).1) (fun j hj => by simpa using (ht j (by simpa using hj)).2) h1
 obtain ⟨i, hq, hs⟩ := sizeB_of hi
 simp only [Nat.add_zero] at this
 simp [storeVar, sizeOf, typeInfo, hq, hs, this]

section
variable {os : List Oper} {Q : Exit → Act → World → Prop} {a : Act} {p : Pq} {B B0 : Nat} {w0 : World}
variable {i s : Nat} {d : Option Tmp} {ty : TypeId} {ps : String} {af : Array Edge} {gd : Option (Nat × Bool)}

theorem zD8 {o : Ob} {off l T : Nat} {fs gs : List Fd} {x : Operand} (hp : p.Ok B B0) (hF : p.Free i) (hg : GdQ os a p B B0 w0 af gd) (ho : o ∈ p.old) (hk : o.F1 = o.F0 ∨ zBk os 9 o.k i = true) (hf : o.F0 = Fq.st fs) (hT : rowB T l = true) (hs : subF off l fs = some gs)
  (hx : SrcQ os a p B B0 w0 af x fun u _ => u = .pointer (some ⟨o.b, off, none⟩)) (hC : ∀ v w, (Fq.st gs).P v w → (p.c i).P v w) :
  zAr os Q a p B B0 w0 i { dst := d, op := .load T x, type := ty, pos := ps, after := af, guard := gd } := by
 refine zBs hp hF hg fun L vs w hG hL hc hd => ?_
 obtain ⟨us, hl, h0, hat, ht, hP⟩ := zHr ho hk hG hL hc
 rw [hf] at hP
 obtain ⟨us', e', hfit⟩ := hP
 have e2 : us = us' := zEx e'
 subst e2
 have e := hx L vs w hG hd
 have hsub := hfit.sub hs
 obtain ⟨⟨dd, hu, hd'⟩, hi⟩ := rowB_of hT
 have hlen : ((us.drop off).take l).length = l := by
  rw [hsub.length]
  unfold subF at hs
  cases hq : cutF off fs with
  | none => simp [hq] at hs
  | some a => rw [hq] at hs; exact zGz hs
 refine ⟨.agg ((us.drop off).take l).toArray, ?_, hC _ _ ⟨_, rfl, hsub⟩⟩
 have hr : w.rangeAt o.b off ((us.drop off).take l) := by
  intro j v hv
  rw [List.getElem?_take] at hv
  split at hv
  ·rw [List.getElem?_drop] at hv
   have hj := (List.getElem?_eq_some_iff.1 hv).1
   rw [(hat _ hj).1, List.getD, hv]
   rfl
  ·cases hv
 have := run_loadVar_mid (P := Tryz.prog) w o.b off T _ dd hr hu hd' (by rw [hlen]; exact hi)
 generalize (lay os.toArray L vs os.toArray.size a).eval = ρ at e
 simp only [execOp, e, Instr.loadAt, Instr.sureAddr, Sem.run_bind, Sem.run_pure, Result.andThen_ok, this]

theorem q_load1 {o : Ob} {off T : Nat} {fs : List Fd} {u : Value} {x : Operand} (hp : p.Ok B B0) (hF : p.Free i) (hg : GdQ os a p B B0 w0 af gd) (ho : o ∈ p.old) (hk : o.F1 = o.F0 ∨ zBk os 9 o.k i = true) (hf : o.F0 = Fq.st fs) (hs : subF off 1 fs = some [.v u])
  (hT : ∀ (ρ : Operand → Value) (w : World) (b : Nat), ρ x = .pointer (some ⟨b, off, none⟩) → w.cell? ⟨b, off, none⟩ = some u → (execOp ρ { dst := d, op := .load T x, type := ty, pos := ps, after := af, guard := gd }).run Tryz.prog w = .ok (.value u) w)
  (hx : SrcQ os a p B B0 w0 af x fun u _ => u = .pointer (some ⟨o.b, off, none⟩)) (hC : ∀ w, (p.c i).P u w) :
  zAr os Q a p B B0 w0 i { dst := d, op := .load T x, type := ty, pos := ps, after := af, guard := gd } := by
 refine zBs hp hF hg fun L vs w hG hL hc hd => ?_
 obtain ⟨us, hl, h0, hat, ht, hP⟩ := zHr ho hk hG hL hc
 rw [hf] at hP
 obtain ⟨us', e', hfit⟩ := hP
 have e2 : us = us' := zEx e'
 subst e2
 have e := hx L vs w hG hd
 obtain ⟨r, hsub, _, _⟩ := hfit.sub hs
 have hoff : off < us.length := by
  rcases Nat.lt_or_ge off us.length with h | h
  ·exact h
  ·rw [List.drop_of_length_le h] at hsub; simp at hsub
 have hu : us.getD off undef = u := by
  have h2 := congrArg (fun l => l[0]?) hsub
  simp at h2
  simp [List.getD, h2]
 refine ⟨u, ?_, hC w⟩
 have c0 := (hat off hoff).1
 rw [hu] at c0
 exact hT _ _ _ e c0

theorem st_run {T b off : Nat} {x y : Operand} {fs gs fs' : List Fd} {us : List Value} {w : World} {ρ : Operand → Value} (hx : ρ x = .pointer (some ⟨b, off, none⟩)) (hv : FitV gs (ρ y) w) (ha : At w b us) (hf : Fits w fs us) (hT : zCx T (sz gs) = true) (hput : putF off gs fs = some fs') :
  ∃ us', us'.length = us.length ∧ Fits w fs' us' ∧ (execOp ρ { dst := d, op := .store T x y, type := ty, pos := ps, after := af, guard := none }).run Tryz.prog w = .ok .skip (putFrom w b 0 us') := by
 have hlen := hv.length
 have hsum : off + sz gs ≤ sz fs := by
  unfold putF at hput
  cases hq : zBc off fs with
  | none => simp [hq] at hput
  | some a =>
   cases hc : cutF (off + sz gs) fs with
   | none => simp [hq, hc] at hput
   | some c => have := zGm hc; omega
 rw [← hf.length] at hsum
 have hcs : (ρ y).cells.size = sz gs := by rw [← hlen]; simp
 refine ⟨_, ?_, hf.put hv hput, ?_⟩
 ·simp only [List.length_append, List.length_take, List.length_drop, hlen]; omega
 ·have hrun := zPd (w := w) (b := b) (o := off) (T := T) (v := ρ y) (fun j hj => by
    have := ha (off + j) (by omega)
    exact ⟨by rw [this.1]; rfl, this.2⟩) (by rw [hcs]; exact hT) hv.one
  rw [← zIw, zOq ha (by rw [hlen]; exact hsum), hlen] at hrun
  simp only [execOp, Instr.storeAt, Instr.sureAddr, hx, Sem.run_bind, Sem.run_pure, Result.andThen_ok, hrun]

theorem zDu {o0 : Ob} {off T : Nat} {x y : Operand} {fs gs fs' : List Fd} (hp : p.Ok B B0) (hi : o0 ∈ p.old) (hki : o0.k = i) (hf0 : o0.F0 = Fq.st fs) (hf1 : o0.F1 = Fq.st fs') (hT : zCx T (sz gs) = true) (hput : putF off gs fs = some fs')
  (hx : SrcQ os a p B B0 w0 af x fun u _ => u = .pointer (some ⟨o0.b, off, none⟩)) (hy : SrcQ os a p B B0 w0 af y (FitV gs))
  (hC : ∀ v w', (p.c i).P v w') (h2 : ∀ n ∈ p.new, n.i ≠ i ∧ n.k ≠ i) : zAr os Q a p B B0 w0 i { dst := none, op := .store T x y, type := ty, pos := ps, after := af, guard := none } := by
 subst hki
 intro hio L vs w hG hL hd hc
 have hv := hy L vs w hG hd
 obtain ⟨us, g1, g2, g3, g4, g5⟩ := hG.old _ hi
 rw [hL] at g5
 simp only [Bool.false_eq_true, if_false] at g5
 rw [hf0] at g5
 obtain ⟨us2, e2, hfit⟩ := g5
 have e3 : us = us2 := zEx e2
 subst e3
 obtain ⟨us', hl', hfit', hrun⟩ := st_run (d := none) (ty := ty) (ps := ps) (af := af) (hx L vs w hG hd) hv g3 hfit hT hput
 refine wpOp_step hio fun K' hK => ?_
 have hwn : Region.wanted ({ dst := none, op := .store T x y, type := ty, pos := ps, after := af, guard := none } : Oper) (yielded os.toArray (lay os.toArray L vs os.toArray.size a).tmps) = true := rfl
 rw [if_pos hwn]
 unfold Oper.wp
 rw [hrun]
 exact hK _ _ ⟨undef, rfl, hG.storeOld hp hi (us := us') (by omega) hfit'.tame (by rw [hf1]; exact ⟨_, rfl, hfit'⟩) hC h2 _⟩

theorem zO2 {n0 : Nb} {T : Nat} {x y : Operand} {fs gs : List Fd} (hp : p.Ok B B0) (hi : n0 ∈ p.new) (hki : n0.k = i) (hsl : n0.s = none) (hf0 : n0.F0 = Fq.st fs) (hf1 : n0.F1 = Fq.st gs) (hT : zCx T (sz gs) = true) (hput : putF 0 gs fs = some gs)
  (hx : ∀ L vs w, p.G B B0 w0 L vs w → (∀ e ∈ af, Region.binds .any e = true → L e.on = true) → L n0.i = true ∧ (lay os.toArray L vs os.toArray.size a).eval x = vs n0.i) (hy : SrcQ os a p B B0 w0 af y (FitV gs))
  (hC : ∀ v w', (p.c i).P v w') (h1 : ∀ o ∈ p.old, o.k ≠ i) (h2 : ∀ n ∈ p.new, n.i ≠ i) : zAr os Q a p B B0 w0 i { dst := none, op := .store T x y, type := ty, pos := ps, after := af, guard := none } := by
 subst hki
 intro hio L vs w hG hL hd hc
 obtain ⟨hLi, hxe⟩ := hx L vs w hG hd
 have hv := hy L vs w hG hd
 obtain ⟨b, e1', e2, us, g1, g2, g3, g4, g5⟩ := hG.new _ hi hLi
 rw [Nb.now_off hsl hL, hf0] at g5
 obtain ⟨us2, e4, hfit⟩ := g5
 have e3 : us = us2 := zEx e4
 subst e3
 have e1 : vs n0.i = .pointer (some ⟨b, 0, none⟩) := by rw [e1']; unfold Nb.ptr; rw [hsl]
 obtain ⟨us', hl', hfit', hrun⟩ := st_run (d := none) (ty := ty) (ps := ps) (af := af) (hxe.trans e1) hv g3 hfit hT hput
 refine wpOp_step hio fun K' hK => ?_
 have hwn : Region.wanted ({ dst := none, op := .store T x y, type := ty, pos := ps, after := af, guard := none } : Oper) (yielded os.toArray (lay os.toArray L vs os.toArray.size a).tmps) = true := rfl
 rw [if_pos hwn]
 unfold Oper.wp
 rw [hrun]
 exact hK _ _ ⟨undef, rfl, hG.storeNew hp hi hLi (us := us') (by omega) hfit'.tame (by rw [hf1]; exact ⟨_, rfl, hfit'⟩) hC h1 h2 e1' _⟩

theorem q_allocSt {n0 : Nb} {T : Nat} {us : List Value} {fs : List Fd} (hp : p.Ok B B0) (hi : n0 ∈ p.new) (hii : n0.i = i) (hsl : n0.s = none) (hm : n0.m = us.length) (h0 : 0 < us.length) (hf0 : n0.F0 = Fq.st fs) (hz : ∀ w, Fits w fs us)
  (hT : ∀ (ρ : Operand → Value) (w : World), (execOp ρ { dst := d, op := .alloc T, type := ty, pos := ps, after := af, guard := none }).run Tryz.prog w = .ok (.value (.pointer (some ⟨w.heap.size, 0, none⟩))) (w.alloc (.cells us.toArray T)))
  (hk : zBk os 9 n0.k i = true) (hki : n0.k ≠ i) (hC : ∀ v w', (p.c i).P v w') (h1 : ∀ o ∈ p.old, o.k ≠ i) (h2 : ∀ n ∈ p.new, n.k ≠ i) :
  zAr os Q a p B B0 w0 i { dst := d, op := .alloc T, type := ty, pos := ps, after := af, guard := none } := by
 subst hii
 intro hio L vs w hG hL hd hc
 refine wpOp_step hio fun K' hK => ?_
 have hwn : Region.wanted ({ dst := d, op := .alloc T, type := ty, pos := ps, after := af, guard := none } : Oper) (yielded os.toArray (lay os.toArray L vs os.toArray.size a).tmps) = true := rfl
 rw [if_pos hwn]
 unfold Oper.wp
 rw [hT]
 exact hK _ _ ⟨_, rfl, hG.alloc hp hi hsl (zEr hc hk hL) hki hC h1 h2 _ (us := us) hm.symm (by omega) (hz w).tame (fun w' => by rw [hf0]; exact ⟨_, rfl, hz w'⟩)⟩
end
theorem zBm {w : World} {b m : Nat} {fs : List Fd} (h : Bq w b m (Fq.st fs)) : ∃ us, us.length = m ∧ (∀ j, j < us.length → w.cell? ⟨b, j, none⟩ = some (us.getD j undef)) ∧ Fits w fs us := by
 obtain ⟨us, h1, _, h3, _, us', e, h5⟩ := h
 have e2 : us = us' := zEx e
 subst e2
 exact ⟨us, h1, fun j hj => (h3 j hj).1, h5⟩
section
variable {os : List Oper} {Q : Exit → Act → World → Prop} {a : Act} {p : Pq} {B B0 : Nat} {w0 : World}
variable {i s : Nat} {d : Option Tmp} {ty : TypeId} {ps : String} {af : Array Edge} {gd : Option (Nat × Bool)}
theorem wXc (off : Nat) {o : Ob} {T : Nat} {fs : List Fd} {u : Value} {x : Operand} (hp : p.Ok B B0) (ho : o ∈ p.old) (hx : SrcQ os a p B B0 w0 af x fun u _ => u = .pointer (some ⟨o.b, off, none⟩)) (hf : o.F0 = Fq.st fs := by exact rfl) (hs : subF off 1 fs = some [.v u] := by exact rfl)
  (hT : ∀ (ρ : Operand → Value) (w : World) (b : Nat), ρ x = .pointer (some ⟨b, off, none⟩) → w.cell? ⟨b, off, none⟩ = some u → (execOp ρ { dst := d, op := .load T x, type := ty, pos := ps, after := af, guard := none }).run Tryz.prog w = .ok (.value u) w := by intro ρ w b h1 h2; simp [execOp, go_sem, h1, h2])
  (hC : ∀ w, (p.c i).P u w := by exact fun _ => rfl) (hk : o.F1 = o.F0 ∨ zBk os 9 o.k i = true := by exact .inl rfl) (hF : p.Free i := by exact zD3 rfl) : zAr os Q a p B B0 w0 i { dst := d, op := .load T x, type := ty, pos := ps, after := af, guard := none } := q_load1 hp hF trivial ho hk hf hs hT hx hC
theorem sO (off j : Nat) {o0 : Ob} {T l : Nat} {x : Operand} {fs gs fs' : List Fd} (hp : p.Ok B B0) (hi : o0 ∈ p.old) (hT : zCx T l = true) (hx : SrcQ os a p B B0 w0 af x fun u _ => u = .pointer (some ⟨o0.b, off, none⟩)) (hc : p.c j = Fq.st gs := by exact rfl) (hl : sz gs = l := by exact rfl) (hki : o0.k = i := by exact rfl) (hf0 : o0.F0 = Fq.st fs := by exact rfl) (hput : putF off gs fs = some fs' := by exact rfl) (hf1 : o0.F1 = Fq.st fs' := by exact rfl) (ha : zBd (os.map (·.dst)) = true := by exact rfl) (hj : (os.map (·.dst))[j]? = some (some s) := by exact rfl) (hs : s < a.tmps.size := by simp) (hdep : depA af j = true := by exact rfl)
  (hC : ∀ v w', (p.c i).P v w' := by exact fun _ _ => trivial) (h2 : ∀ n ∈ p.new, n.i ≠ i ∧ n.k ≠ i := by exact zB7 rfl) : zAr os Q a p B B0 w0 i { dst := none, op := .store T x (.tmp s), type := ty, pos := ps, after := af, guard := none } := zDu hp hi hki hf0 hf1 (by rw [hl]; exact hT) hput hx (zBw j ha hj hs hdep fun v w h => zFb (by rw [← hc]; exact h)) hC h2
theorem sS (j : Nat) {n0 : Nb} {T l s' : Nat} {fs gs : List Fd} (hp : p.Ok B B0) (hi : n0 ∈ p.new) (hT : zCx T l = true) (hc : p.c j = Fq.st gs := by exact rfl) (hl : sz gs = l := by exact rfl) (hki : n0.k = i := by exact rfl) (hsl : n0.s = none := by exact rfl) (hf0 : n0.F0 = Fq.st fs := by exact rfl) (hf1 : n0.F1 = Fq.st gs := by exact rfl) (hput : putF 0 gs fs = some gs := by exact rfl) (ha : zBd (os.map (·.dst)) = true := by exact rfl) (hj0 : (os.map (·.dst))[n0.i]? = some (some s') := by exact rfl) (hs0 : s' < a.tmps.size := by simp) (hd0 : depA af n0.i = true := by exact rfl) (hj : (os.map (·.dst))[j]? = some (some s) := by exact rfl) (hs : s < a.tmps.size := by simp) (hdep : depA af j = true := by exact rfl)
  (hC : ∀ v w', (p.c i).P v w' := by exact fun _ _ => trivial) (h1 : ∀ o ∈ p.old, o.k ≠ i := by exact zFx rfl) (h2 : ∀ n ∈ p.new, n.i ≠ i := by exact newi_ne rfl) : zAr os Q a p B B0 w0 i { dst := none, op := .store T (.tmp s') (.tmp s), type := ty, pos := ps, after := af, guard := none } := zO2 hp hi hki hsl hf0 hf1 (by rw [hl]; exact hT) hput (own_ptr ha hj0 hs0 hd0) (zBw j ha hj hs hdep fun v w h => zFb (by rw [← hc]; exact h)) hC h1 h2
theorem aS {n0 : Nb} {T : Nat} {us : List Value} {fs : List Fd} (hp : p.Ok B B0) (hi : n0 ∈ p.new) (hz : ∀ w, Fits w fs us) (hT : ∀ (ρ : Operand → Value) (w : World), (execOp ρ { dst := d, op := .alloc T, type := ty, pos := ps, after := af, guard := none }).run Tryz.prog w = .ok (.value (.pointer (some ⟨w.heap.size, 0, none⟩))) (w.alloc (.cells us.toArray T))) (hii : n0.i = i := by exact rfl) (hsl : n0.s = none := by exact rfl) (hm : n0.m = us.length := by exact rfl) (h0 : 0 < us.length := by exact Nat.lt_of_sub_eq_succ rfl) (hf0 : n0.F0 = Fq.st fs := by exact rfl)
  (hk : zBk os 9 n0.k i = true := by exact rfl) (hki : n0.k ≠ i := by exact Nat.ne_of_beq_eq_false rfl) (hC : ∀ v w', (p.c i).P v w' := by exact fun _ _ => trivial) (h1 : ∀ o ∈ p.old, o.k ≠ i := by exact zFx rfl) (h2 : ∀ n ∈ p.new, n.k ≠ i := by exact newk_ne rfl) : zAr os Q a p B B0 w0 i { dst := d, op := .alloc T, type := ty, pos := ps, after := af, guard := none } := q_allocSt hp hi hii hsl hm h0 hf0 hz hT hk hki hC h1 h2
theorem lG (off l : Nat) {o : Ob} {T : Nat} {fs gs : List Fd} {x : Operand} (hp : p.Ok B B0) (hg : GdQ os a p B B0 w0 af gd) (ho : o ∈ p.old) (hT : rowB T l = true) (hx : SrcQ os a p B B0 w0 af x fun u _ => u = .pointer (some ⟨o.b, off, none⟩)) (hC : ∀ v w, (Fq.st gs).P v w → (p.c i).P v w) (hf : o.F0 = Fq.st fs := by exact rfl) (hs : subF off l fs = some gs := by exact rfl)
  (hk : o.F1 = o.F0 ∨ zBk os 9 o.k i = true := by exact .inl rfl) (hF : p.Free i := by exact zD3 rfl) : zAr os Q a p B B0 w0 i { dst := d, op := .load T x, type := ty, pos := ps, after := af, guard := gd } := zD8 hp hF hg ho hk hf hT hs hx hC
theorem lS (off l : Nat) {o : Ob} {T : Nat} {fs gs : List Fd} {x : Operand} (hp : p.Ok B B0) (ho : o ∈ p.old) (hT : rowB T l = true) (hx : SrcQ os a p B B0 w0 af x fun u _ => u = .pointer (some ⟨o.b, off, none⟩)) (hf : o.F0 = Fq.st fs := by exact rfl) (hs : subF off l fs = some gs := by exact rfl) (hC : ∀ v w, (Fq.st gs).P v w → (p.c i).P v w := by exact fun v w h => h)
  (hk : o.F1 = o.F0 ∨ zBk os 9 o.k i = true := by exact .inl rfl) (hF : p.Free i := by exact zD3 rfl) : zAr os Q a p B B0 w0 i { dst := d, op := .load T x, type := ty, pos := ps, after := af, guard := none } := zD8 hp hF trivial ho hk hf hT hs hx hC
theorem lN (off l : Nat) {o : Ob} {T : Nat} {fs : List Fd} {z : Int} {x : Operand} (hp : p.Ok B B0) (ho : o ∈ p.old) (hT : rowB T l = true) (hx : SrcQ os a p B B0 w0 af x fun u _ => u = .pointer (some ⟨o.b, off, none⟩)) (hf : o.F0 = Fq.st fs := by exact rfl) (hs : subF off l fs = some [.n z] := by exact rfl) (hC : ∀ v w, Num w v z → (p.c i).P v w := by exact fun v w h => h)
  (hk : o.F1 = o.F0 ∨ zBk os 9 o.k i = true := by exact .inl rfl) (hF : p.Free i := by exact zD3 rfl) : zAr os Q a p B B0 w0 i { dst := d, op := .load T x, type := ty, pos := ps, after := af, guard := none } := zD8 hp hF trivial ho hk hf hT hs hx fun v w h => hC v w (zAk h)
end
theorem fS {w W : World} {bs : List (Nat × Nat × Fq)} (E : Fr w bs W) {k : Nat} (hk : W.heap.size = k) (t : TypeId) {fs : List Fd} {us : List Value} (h : Fits w fs us) (h0 : 0 < us.length := by simp) : ∃ w' b, w' = W.alloc (.cells us.toArray t) ∧ b = k ∧ w'.heap.size = k + 1 ∧ Fr w ((b, us.length, Fq.st fs) :: bs) w' := zDf E hk (F := Fq.st fs) (us := us) t rfl h0 h.tame ((Fq.st fs).mono (show (Fq.st fs).P _ w from ⟨_, rfl, h⟩) E.below)
theorem gS (w : World) (t : TypeId) {fs : List Fd} {us : List Value} (h : Fits w fs us) (h0 : 0 < us.length := by simp) : ∃ w' b, w' = w.alloc (.cells us.toArray t) ∧ b = w.heap.size ∧ w'.heap.size = w.heap.size + 1 ∧ Fr w [(b, us.length, Fq.st fs)] w' := zCu w (F := Fq.st fs) (us := us) t rfl h0 h.tame (show (Fq.st fs).P _ w from ⟨_, rfl, h⟩)
theorem fO {w W : World} {bs : List (Nat × Nat × Fq)} (E : Fr w bs W) {k : Nat} (hk : W.heap.size = k) (t : TypeId) {fs : List Fd} {us : List Value} (h : ∀ w, Fits w fs us) (h0 : 0 < us.length := by simp) : ∃ w' b, w' = W.alloc (.cells us.toArray t) ∧ b = k ∧ w'.heap.size = k + 1 ∧ Fr w ((b, us.length, Fq.st fs) :: bs) w' := zDf E hk (F := Fq.st fs) (us := us) t rfl h0 (h w).tame ⟨_, rfl, h _⟩

theorem Pq.G.made {p : Pq} {B B0 : Nat} {w0 w w' : World} {L : Nat → Bool} {vs : Nat → Value} (h : p.G B B0 w0 L vs w) (hp : p.Ok B B0) {n0 : Nb} (hi : n0 ∈ p.new) {F : Fq} (hk : n0.now (up L n0.i true) = F)
  (hC : ∀ v w', (p.c n0.i).P v w') (h1 : ∀ o ∈ p.old, o.k ≠ n0.i) (h2 : ∀ n ∈ p.new, n.i ≠ n0.i → n.k ≠ n0.i) {b : Nat} (hbs : w.heap.size ≤ b) (hb : Below w.heap.size w w') (hbx : Bq w' b n0.m F) :
  p.G B B0 w0 (up L n0.i true) (up vs n0.i (n0.ptr b)) w' := by
 refine ⟨h.below.trans (hb.mono (Nat.le_trans hp.le h.size)), Nat.le_trans h.size hb.size, fun j hj => ?_, fun o ho => ?_, fun n hn hj => ?_, fun n hn m hm hne hj hk' => ?_⟩
 ·by_cases hji : j = n0.i
  ·subst hji; exact hC _ _
  ·rw [zAo _ _ hji] at hj ⊢; exact (p.c j).mono (h.val j hj) hb
 ·rw [zAo _ _ (h1 o ho)]; exact (h.old o ho).mono hb
 ·by_cases hni : n.i = n0.i
  ·have e := hp.newinj n hn _ hi hni
   subst e
   rw [zBt, hk]
   exact ⟨_, rfl, Nat.le_trans h.size hbs, hbx⟩
  ·rw [Nb.now_up (h2 n hn hni)]
   rw [zAo _ _ hni] at hj ⊢
   obtain ⟨b, e1, e2, e3⟩ := h.new n hn hj
   exact ⟨b, e1, e2, e3.mono hb⟩
 ·by_cases hni : n.i = n0.i
  ·have hmi : m.i ≠ n0.i := fun e => hne (hni.trans e.symm)
   rw [hni, zBt]
   rw [zAo _ _ hmi] at hk' ⊢
   obtain ⟨b, e1, e2, e3⟩ := h.new m hm hk'
   rw [e1, Nb.block_ptr, Nb.block_ptr]
   have := e3.lt
   omega
  ·rw [zAo _ _ hni] at hj ⊢
   by_cases hmi : m.i = n0.i
   ·rw [hmi, zBt]
    obtain ⟨b, e1, e2, e3⟩ := h.new n hn hj
    rw [e1, Nb.block_ptr, Nb.block_ptr]
    have := e3.lt
    omega
   ·rw [zAo _ _ hmi] at hk' ⊢
    exact h.apart n hn m hm hne hj hk'

section
variable {os : List Oper} {Q : Exit → Act → World → Prop} {a : Act} {p : Pq} {B B0 : Nat} {w0 : World}
variable {i s : Nat} {d : Option Tmp} {ty : TypeId} {ps : String} {af : Array Edge} {gd : Option (Nat × Bool)}

theorem zCb {x y z : Operand} {F G F3 : Value → World → Prop} {f : FuncId} {ts : Array TypeId} (hp : p.Ok B B0) (hF : p.Free i) (hg : GdQ os a p B B0 w0 af gd) (hen : ∀ args w, (callFunc f args).run Tryz.prog w = .ok (.enter f args) w)
  (hx : SrcQ os a p B B0 w0 af x F) (hy : SrcQ os a p B B0 w0 af y G) (hz : SrcQ os a p B B0 w0 af z F3) (hC : ∀ v v' u w, F v w → G v' w → F3 u w → Calls Tryz.prog f #[v, v', u] w fun e w' => ∃ v', e = .returned v' ∧ Below w.heap.size w w' ∧ (p.c i).P v' w') :
  zAr os Q a p B B0 w0 i { dst := d, op := .call { callee := .value (.func f), args := #[x, y, z], argTypes := ts }, type := ty, pos := ps, after := af, guard := gd } :=
 zF7 hp hF hg hen fun L vs w hG hd => ⟨#[_, _, _], by simp, hC _ _ _ _ (hx L vs w hG hd) (hy L vs w hG hd) (hz L vs w hG hd)⟩
theorem zDk {x y z t : Operand} {F G F3 F4 : Value → World → Prop} {f : FuncId} {ts : Array TypeId} (hp : p.Ok B B0) (hF : p.Free i) (hg : GdQ os a p B B0 w0 af gd) (hen : ∀ args w, (callFunc f args).run Tryz.prog w = .ok (.enter f args) w)
  (hx : SrcQ os a p B B0 w0 af x F) (hy : SrcQ os a p B B0 w0 af y G) (hz : SrcQ os a p B B0 w0 af z F3) (ht : SrcQ os a p B B0 w0 af t F4) (hC : ∀ v v' u u' w, F v w → G v' w → F3 u w → F4 u' w → Calls Tryz.prog f #[v, v', u, u'] w fun e w' => ∃ v', e = .returned v' ∧ Below w.heap.size w w' ∧ (p.c i).P v' w') :
  zAr os Q a p B B0 w0 i { dst := d, op := .call { callee := .value (.func f), args := #[x, y, z, t], argTypes := ts }, type := ty, pos := ps, after := af, guard := gd } :=
 zF7 hp hF hg hen fun L vs w hG hd => ⟨#[_, _, _, _], by simp, hC _ _ _ _ _ (hx L vs w hG hd) (hy L vs w hG hd) (hz L vs w hG hd) (ht L vs w hG hd)⟩

end

def Pr (p : Nat) : Prop := 2 ≤ p ∧ ∀ d, d ∣ p → d = 1 ∨ d = p
theorem zD2 (args : Array Value) (w : World) : (callFunc 96 args).run Tryz.prog w = .ok (.enter 96 args) w := zAq Tryz.func96 (by kernel_rfl) rfl args w
theorem zJy (args : Array Value) (w : World) : (callFunc 89 args).run Tryz.prog w = .ok (.enter 89 args) w := zAq Tryz.func89 (by kernel_rfl) rfl args w

theorem zF6 : zCx 31 2 = true := by kernel_rfl
theorem zAc : rowB 31 2 = true := by kernel_rfl
section
variable {os : List Oper} {Q : Exit → Act → World → Prop} {a : Act} {p : Pq} {B B0 : Nat} {w0 : World}
variable {i s : Nat} {d : Option Tmp} {ty : TypeId} {ps : String} {af : Array Edge} {gd : Option (Nat × Bool)}
end
inductive PE where
 | c (k : Int)
 | v (i : Nat)
 | a (x y : PE)
 | m (x y : PE)
 | n (x : PE)
def PE.den (ρ : List Int) : PE → Int
 | .c k => k
 | .v i => ρ.getD i 0
 | .a x y => x.den ρ + y.den ρ
 | .m x y => x.den ρ * y.den ρ
 | .n x => - x.den ρ
def insV (i : Nat) : List Nat → List Nat
 | [] => [i]
 | j :: r => if i ≤ j then i :: j :: r else j :: insV i r
def monD (ρ : List Int) : List Nat → Int
 | [] => 1
 | i :: r => ρ.getD i 0 * monD ρ r
def polD (ρ : List Int) : List (Int × List Nat) → Int
 | [] => 0
 | t :: r => t.1 * monD ρ t.2 + polD ρ r
theorem zKk (ρ : List Int) (i : Nat) : ∀ l, monD ρ (insV i l) = ρ.getD i 0 * monD ρ l
 | [] => rfl
 | j :: r => by
  unfold insV
  split
  ·rfl
  ·show _ * monD ρ (insV i r) = _ * (_ * monD ρ r)
   rw [zKk ρ i r, Int.mul_left_comm]
def mulM : List Nat → List Nat → List Nat
 | [], l => l
 | i :: r, l => insV i (mulM r l)
theorem zKv (ρ : List Int) : ∀ a b, monD ρ (mulM a b) = monD ρ a * monD ρ b
 | [], b => by show monD ρ b = 1 * _; rw [Int.one_mul]
 | i :: r, b => by
  show monD ρ (insV i (mulM r b)) = _ * monD ρ r * _
  rw [zKk, zKv ρ r b, Int.mul_assoc]
def addT (k : Int) (mo : List Nat) : List (Int × List Nat) → List (Int × List Nat)
 | [] => [(k, mo)]
 | t :: p => if t.2 = mo then (k + t.1, mo) :: p else t :: addT k mo p
theorem zJn (ρ : List Int) (k : Int) (mo : List Nat) : ∀ p, polD ρ (addT k mo p) = k * monD ρ mo + polD ρ p
 | [] => rfl
 | t :: p => by
  unfold addT
  split
  ·rename_i h
   show (k + t.1) * monD ρ mo + polD ρ p = _ + (t.1 * monD ρ t.2 + polD ρ p)
   rw [Int.add_mul, h]
   omega
  ·show t.1 * monD ρ t.2 + polD ρ (addT k mo p) = _ + (t.1 * monD ρ t.2 + polD ρ p)
   rw [zJn ρ k mo p]
   omega
def addQ : List (Int × List Nat) → List (Int × List Nat) → List (Int × List Nat)
 | [], q => q
 | t :: p, q => addT t.1 t.2 (addQ p q)
theorem zHo (ρ : List Int) : ∀ p q, polD ρ (addQ p q) = polD ρ p + polD ρ q
 | [], q => by show polD ρ q = 0 + _; omega
 | t :: p, q => by
  show polD ρ (addT t.1 t.2 (addQ p q)) = t.1 * monD ρ t.2 + polD ρ p + polD ρ q
  rw [zJn, zHo ρ p q]
  omega
def mulT (k : Int) (mo : List Nat) : List (Int × List Nat) → List (Int × List Nat)
 | [] => []
 | t :: p => (k * t.1, mulM mo t.2) :: mulT k mo p
theorem zIp (ρ : List Int) (k : Int) (mo : List Nat) : ∀ p, polD ρ (mulT k mo p) = k * monD ρ mo * polD ρ p
 | [] => by show (0 : Int) = _ * 0; omega
 | t :: p => by
  show k * t.1 * monD ρ (mulM mo t.2) + polD ρ (mulT k mo p) = k * monD ρ mo * (t.1 * monD ρ t.2 + polD ρ p)
  rw [zKv, zIp ρ k mo p, Int.mul_add]
  congr 1
  simp only [Int.mul_assoc, Int.mul_left_comm]
def mulQ : List (Int × List Nat) → List (Int × List Nat) → List (Int × List Nat)
 | [], _ => []
 | t :: p, q => addQ (mulT t.1 t.2 q) (mulQ p q)
theorem zKw (ρ : List Int) : ∀ p q, polD ρ (mulQ p q) = polD ρ p * polD ρ q
 | [], q => by show (0 : Int) = 0 * _; omega
 | t :: p, q => by
  show polD ρ (addQ (mulT t.1 t.2 q) (mulQ p q)) = (t.1 * monD ρ t.2 + polD ρ p) * polD ρ q
  rw [zHo, zIp, zKw ρ p q, Int.add_mul]
def PE.norm : PE → List (Int × List Nat)
 | .c k => [(k, [])]
 | .v i => [(1, [i])]
 | .a x y => addQ x.norm y.norm
 | .m x y => mulQ x.norm y.norm
 | .n x => mulT (-1) [] x.norm
theorem PE.norm_den (ρ : List Int) : ∀ e : PE, polD ρ e.norm = e.den ρ
 | .c k => by show k * 1 + 0 = k; omega
 | .v i => by show 1 * (ρ.getD i 0 * 1) + 0 = ρ.getD i 0; omega
 | .a x y => by show polD ρ (addQ _ _) = _ + _; rw [zHo, PE.norm_den ρ x, PE.norm_den ρ y]
 | .m x y => by show polD ρ (mulQ _ _) = _ * _; rw [zKw, PE.norm_den ρ x, PE.norm_den ρ y]
 | .n x => by show polD ρ (mulT _ _ _) = - _; rw [zIp, PE.norm_den ρ x]; show -1 * 1 * _ = _; omega
theorem zK7 (ρ : List Int) : ∀ p : List (Int × List Nat), p.all (fun t => t.1 == 0) = true → polD ρ p = 0
 | [], _ => rfl
 | t :: p, h => by
  simp only [List.all_cons, Bool.and_eq_true, beq_iff_eq] at h
  show t.1 * _ + polD ρ p = 0
  rw [h.1, zK7 ρ p h.2]
  omega
theorem PE.same (ρ : List Int) (x y : PE) (h : ((PE.a x (.n y)).norm.all fun t => t.1 == 0) = true) : x.den ρ = y.den ρ := by
 have h1 := zK7 ρ _ h
 rw [PE.norm_den] at h1
 have h2 : x.den ρ + - y.den ρ = 0 := h1
 omega
theorem zAs {x : Int} (h0 : -9223372036854775808 ≤ x) (h1 : x ≤ 9223372036854775807) : ab x < pw 3 := by
 have hp : pw 3 = 79228162514264337593543950336 := by decide
 rw [hp]
 unfold ab
 omega

theorem qf_val (a b c p q r s x y : Int) : (a * (p * p) + b * (p * r) + c * (r * r)) * (x * x) + (2 * (a * (p * q) + c * (r * s)) + b * (p * s + q * r)) * (x * y) + (a * (q * q) + b * (q * s) + c * (s * s)) * (y * y) = a * ((p * x + q * y) * (p * x + q * y)) + b * ((p * x + q * y) * (r * x + s * y)) + c * ((r * x + s * y) * (r * x + s * y)) := by
 have h := PE.same [a, b, c, p, q, r, s, x, y] (.a (.a (.m (.a (.a (.m (.v 0) (.m (.v 3) (.v 3))) (.m (.v 1) (.m (.v 3) (.v 5)))) (.m (.v 2) (.m (.v 5) (.v 5)))) (.m (.v 7) (.v 7))) (.m (.a (.m (.c 2) (.a (.m (.v 0) (.m (.v 3) (.v 4))) (.m (.v 2) (.m (.v 5) (.v 6))))) (.m (.v 1) (.a (.m (.v 3) (.v 6)) (.m (.v 4) (.v 5))))) (.m (.v 7) (.v 8)))) (.m (.a (.a (.m (.v 0) (.m (.v 4) (.v 4))) (.m (.v 1) (.m (.v 4) (.v 6)))) (.m (.v 2) (.m (.v 6) (.v 6)))) (.m (.v 8) (.v 8)))) (.a (.a (.m (.v 0) (.m (.a (.m (.v 3) (.v 7)) (.m (.v 4) (.v 8))) (.a (.m (.v 3) (.v 7)) (.m (.v 4) (.v 8))))) (.m (.v 1) (.m (.a (.m (.v 3) (.v 7)) (.m (.v 4) (.v 8))) (.a (.m (.v 5) (.v 7)) (.m (.v 6) (.v 8)))))) (.m (.v 2) (.m (.a (.m (.v 5) (.v 7)) (.m (.v 6) (.v 8))) (.a (.m (.v 5) (.v 7)) (.m (.v 6) (.v 8)))))) (by decide +kernel)
 simp only [PE.den, List.getD_cons_zero, List.getD_cons_succ] at h
 try simp only [Int.sub_eq_add_neg]
 exact h

theorem zI2 (a b c p q r s : Int) : (2 * (a * (p * q) + c * (r * s)) + b * (p * s + q * r)) * (2 * (a * (p * q) + c * (r * s)) + b * (p * s + q * r)) - 4 * ((a * (p * p) + b * (p * r) + c * (r * r)) * (a * (q * q) + b * (q * s) + c * (s * s))) = (b * b - 4 * (a * c)) * ((p * s - q * r) * (p * s - q * r)) := by
 have h := PE.same [a, b, c, p, q, r, s] (.a (.m (.a (.m (.c 2) (.a (.m (.v 0) (.m (.v 3) (.v 4))) (.m (.v 2) (.m (.v 5) (.v 6))))) (.m (.v 1) (.a (.m (.v 3) (.v 6)) (.m (.v 4) (.v 5))))) (.a (.m (.c 2) (.a (.m (.v 0) (.m (.v 3) (.v 4))) (.m (.v 2) (.m (.v 5) (.v 6))))) (.m (.v 1) (.a (.m (.v 3) (.v 6)) (.m (.v 4) (.v 5)))))) (.n (.m (.c 4) (.m (.a (.a (.m (.v 0) (.m (.v 3) (.v 3))) (.m (.v 1) (.m (.v 3) (.v 5)))) (.m (.v 2) (.m (.v 5) (.v 5)))) (.a (.a (.m (.v 0) (.m (.v 4) (.v 4))) (.m (.v 1) (.m (.v 4) (.v 6)))) (.m (.v 2) (.m (.v 6) (.v 6)))))))) (.m (.a (.m (.v 1) (.v 1)) (.n (.m (.c 4) (.m (.v 0) (.v 2))))) (.m (.a (.m (.v 3) (.v 6)) (.n (.m (.v 4) (.v 5)))) (.a (.m (.v 3) (.v 6)) (.n (.m (.v 4) (.v 5)))))) (by decide +kernel)
 simp only [PE.den, List.getD_cons_zero, List.getD_cons_succ] at h
 try simp only [Int.sub_eq_add_neg]
 exact h

theorem zLi (a b c p q r s : Int) : (a * (p * p) + b * (p * r) + c * (r * r)) * (s * s) + (2 * (a * (p * q) + c * (r * s)) + b * (p * s + q * r)) * (s * (-r)) + (a * (q * q) + b * (q * s) + c * (s * s)) * ((-r) * (-r)) = a * ((p * s - q * r) * (p * s - q * r)) := by
 have h := PE.same [a, b, c, p, q, r, s] (.a (.a (.m (.a (.a (.m (.v 0) (.m (.v 3) (.v 3))) (.m (.v 1) (.m (.v 3) (.v 5)))) (.m (.v 2) (.m (.v 5) (.v 5)))) (.m (.v 6) (.v 6))) (.m (.a (.m (.c 2) (.a (.m (.v 0) (.m (.v 3) (.v 4))) (.m (.v 2) (.m (.v 5) (.v 6))))) (.m (.v 1) (.a (.m (.v 3) (.v 6)) (.m (.v 4) (.v 5))))) (.m (.v 6) (.n (.v 5))))) (.m (.a (.a (.m (.v 0) (.m (.v 4) (.v 4))) (.m (.v 1) (.m (.v 4) (.v 6)))) (.m (.v 2) (.m (.v 6) (.v 6)))) (.m (.n (.v 5)) (.n (.v 5))))) (.m (.v 0) (.m (.a (.m (.v 3) (.v 6)) (.n (.m (.v 4) (.v 5)))) (.a (.m (.v 3) (.v 6)) (.n (.m (.v 4) (.v 5)))))) (by decide +kernel)
 simp only [PE.den, List.getD_cons_zero, List.getD_cons_succ] at h
 try simp only [Int.sub_eq_add_neg]
 exact h

theorem qf_inv_b (a b c p q r s : Int) : 2 * ((a * (p * p) + b * (p * r) + c * (r * r)) * (s * (-q)) + (a * (q * q) + b * (q * s) + c * (s * s)) * ((-r) * p)) + (2 * (a * (p * q) + c * (r * s)) + b * (p * s + q * r)) * (s * p + (-q) * (-r)) = b * ((p * s - q * r) * (p * s - q * r)) := by
 have h := PE.same [a, b, c, p, q, r, s] (.a (.m (.c 2) (.a (.m (.a (.a (.m (.v 0) (.m (.v 3) (.v 3))) (.m (.v 1) (.m (.v 3) (.v 5)))) (.m (.v 2) (.m (.v 5) (.v 5)))) (.m (.v 6) (.n (.v 4)))) (.m (.a (.a (.m (.v 0) (.m (.v 4) (.v 4))) (.m (.v 1) (.m (.v 4) (.v 6)))) (.m (.v 2) (.m (.v 6) (.v 6)))) (.m (.n (.v 5)) (.v 3))))) (.m (.a (.m (.c 2) (.a (.m (.v 0) (.m (.v 3) (.v 4))) (.m (.v 2) (.m (.v 5) (.v 6))))) (.m (.v 1) (.a (.m (.v 3) (.v 6)) (.m (.v 4) (.v 5))))) (.a (.m (.v 6) (.v 3)) (.m (.n (.v 4)) (.n (.v 5)))))) (.m (.v 1) (.m (.a (.m (.v 3) (.v 6)) (.n (.m (.v 4) (.v 5)))) (.a (.m (.v 3) (.v 6)) (.n (.m (.v 4) (.v 5)))))) (by decide +kernel)
 simp only [PE.den, List.getD_cons_zero, List.getD_cons_succ] at h
 try simp only [Int.sub_eq_add_neg]
 exact h

theorem qf_inv_c (a b c p q r s : Int) : (a * (p * p) + b * (p * r) + c * (r * r)) * ((-q) * (-q)) + (2 * (a * (p * q) + c * (r * s)) + b * (p * s + q * r)) * ((-q) * p) + (a * (q * q) + b * (q * s) + c * (s * s)) * (p * p) = c * ((p * s - q * r) * (p * s - q * r)) := by
 have h := PE.same [a, b, c, p, q, r, s] (.a (.a (.m (.a (.a (.m (.v 0) (.m (.v 3) (.v 3))) (.m (.v 1) (.m (.v 3) (.v 5)))) (.m (.v 2) (.m (.v 5) (.v 5)))) (.m (.n (.v 4)) (.n (.v 4)))) (.m (.a (.m (.c 2) (.a (.m (.v 0) (.m (.v 3) (.v 4))) (.m (.v 2) (.m (.v 5) (.v 6))))) (.m (.v 1) (.a (.m (.v 3) (.v 6)) (.m (.v 4) (.v 5))))) (.m (.n (.v 4)) (.v 3)))) (.m (.a (.a (.m (.v 0) (.m (.v 4) (.v 4))) (.m (.v 1) (.m (.v 4) (.v 6)))) (.m (.v 2) (.m (.v 6) (.v 6)))) (.m (.v 3) (.v 3)))) (.m (.v 2) (.m (.a (.m (.v 3) (.v 6)) (.n (.m (.v 4) (.v 5)))) (.a (.m (.v 3) (.v 6)) (.n (.m (.v 4) (.v 5)))))) (by decide +kernel)
 simp only [PE.den, List.getD_cons_zero, List.getD_cons_succ] at h
 try simp only [Int.sub_eq_add_neg]
 exact h

theorem qf_mul_a (a b c p q r s t v : Int) : (a * (p * p) + b * (p * r) + c * (r * r)) * (t * t) + (2 * (a * (p * q) + c * (r * s)) + b * (p * s + q * r)) * (t * v) + (a * (q * q) + b * (q * s) + c * (s * s)) * (v * v) = a * ((p * t + q * v) * (p * t + q * v)) + b * ((p * t + q * v) * (r * t + s * v)) + c * ((r * t + s * v) * (r * t + s * v)) := by
 have h := PE.same [a, b, c, p, q, r, s, t, v] (.a (.a (.m (.a (.a (.m (.v 0) (.m (.v 3) (.v 3))) (.m (.v 1) (.m (.v 3) (.v 5)))) (.m (.v 2) (.m (.v 5) (.v 5)))) (.m (.v 7) (.v 7))) (.m (.a (.m (.c 2) (.a (.m (.v 0) (.m (.v 3) (.v 4))) (.m (.v 2) (.m (.v 5) (.v 6))))) (.m (.v 1) (.a (.m (.v 3) (.v 6)) (.m (.v 4) (.v 5))))) (.m (.v 7) (.v 8)))) (.m (.a (.a (.m (.v 0) (.m (.v 4) (.v 4))) (.m (.v 1) (.m (.v 4) (.v 6)))) (.m (.v 2) (.m (.v 6) (.v 6)))) (.m (.v 8) (.v 8)))) (.a (.a (.m (.v 0) (.m (.a (.m (.v 3) (.v 7)) (.m (.v 4) (.v 8))) (.a (.m (.v 3) (.v 7)) (.m (.v 4) (.v 8))))) (.m (.v 1) (.m (.a (.m (.v 3) (.v 7)) (.m (.v 4) (.v 8))) (.a (.m (.v 5) (.v 7)) (.m (.v 6) (.v 8)))))) (.m (.v 2) (.m (.a (.m (.v 5) (.v 7)) (.m (.v 6) (.v 8))) (.a (.m (.v 5) (.v 7)) (.m (.v 6) (.v 8)))))) (by decide +kernel)
 simp only [PE.den, List.getD_cons_zero, List.getD_cons_succ] at h
 try simp only [Int.sub_eq_add_neg]
 exact h

theorem qf_mul_b (a b c p q r s t u v w : Int) : 2 * ((a * (p * p) + b * (p * r) + c * (r * r)) * (t * u) + (a * (q * q) + b * (q * s) + c * (s * s)) * (v * w)) + (2 * (a * (p * q) + c * (r * s)) + b * (p * s + q * r)) * (t * w + u * v) = 2 * (a * ((p * t + q * v) * (p * u + q * w)) + c * ((r * t + s * v) * (r * u + s * w))) + b * ((p * t + q * v) * (r * u + s * w) + (p * u + q * w) * (r * t + s * v)) := by
 have h := PE.same [a, b, c, p, q, r, s, t, u, v, w] (.a (.m (.c 2) (.a (.m (.a (.a (.m (.v 0) (.m (.v 3) (.v 3))) (.m (.v 1) (.m (.v 3) (.v 5)))) (.m (.v 2) (.m (.v 5) (.v 5)))) (.m (.v 7) (.v 8))) (.m (.a (.a (.m (.v 0) (.m (.v 4) (.v 4))) (.m (.v 1) (.m (.v 4) (.v 6)))) (.m (.v 2) (.m (.v 6) (.v 6)))) (.m (.v 9) (.v 10))))) (.m (.a (.m (.c 2) (.a (.m (.v 0) (.m (.v 3) (.v 4))) (.m (.v 2) (.m (.v 5) (.v 6))))) (.m (.v 1) (.a (.m (.v 3) (.v 6)) (.m (.v 4) (.v 5))))) (.a (.m (.v 7) (.v 10)) (.m (.v 8) (.v 9))))) (.a (.m (.c 2) (.a (.m (.v 0) (.m (.a (.m (.v 3) (.v 7)) (.m (.v 4) (.v 9))) (.a (.m (.v 3) (.v 8)) (.m (.v 4) (.v 10))))) (.m (.v 2) (.m (.a (.m (.v 5) (.v 7)) (.m (.v 6) (.v 9))) (.a (.m (.v 5) (.v 8)) (.m (.v 6) (.v 10))))))) (.m (.v 1) (.a (.m (.a (.m (.v 3) (.v 7)) (.m (.v 4) (.v 9))) (.a (.m (.v 5) (.v 8)) (.m (.v 6) (.v 10)))) (.m (.a (.m (.v 3) (.v 8)) (.m (.v 4) (.v 10))) (.a (.m (.v 5) (.v 7)) (.m (.v 6) (.v 9))))))) (by decide +kernel)
 simp only [PE.den, List.getD_cons_zero, List.getD_cons_succ] at h
 try simp only [Int.sub_eq_add_neg]
 exact h

theorem qf_mul_c (a b c p q r s u w : Int) : (a * (p * p) + b * (p * r) + c * (r * r)) * (u * u) + (2 * (a * (p * q) + c * (r * s)) + b * (p * s + q * r)) * (u * w) + (a * (q * q) + b * (q * s) + c * (s * s)) * (w * w) = a * ((p * u + q * w) * (p * u + q * w)) + b * ((p * u + q * w) * (r * u + s * w)) + c * ((r * u + s * w) * (r * u + s * w)) := by
 have h := PE.same [a, b, c, p, q, r, s, u, w] (.a (.a (.m (.a (.a (.m (.v 0) (.m (.v 3) (.v 3))) (.m (.v 1) (.m (.v 3) (.v 5)))) (.m (.v 2) (.m (.v 5) (.v 5)))) (.m (.v 7) (.v 7))) (.m (.a (.m (.c 2) (.a (.m (.v 0) (.m (.v 3) (.v 4))) (.m (.v 2) (.m (.v 5) (.v 6))))) (.m (.v 1) (.a (.m (.v 3) (.v 6)) (.m (.v 4) (.v 5))))) (.m (.v 7) (.v 8)))) (.m (.a (.a (.m (.v 0) (.m (.v 4) (.v 4))) (.m (.v 1) (.m (.v 4) (.v 6)))) (.m (.v 2) (.m (.v 6) (.v 6)))) (.m (.v 8) (.v 8)))) (.a (.a (.m (.v 0) (.m (.a (.m (.v 3) (.v 7)) (.m (.v 4) (.v 8))) (.a (.m (.v 3) (.v 7)) (.m (.v 4) (.v 8))))) (.m (.v 1) (.m (.a (.m (.v 3) (.v 7)) (.m (.v 4) (.v 8))) (.a (.m (.v 5) (.v 7)) (.m (.v 6) (.v 8)))))) (.m (.v 2) (.m (.a (.m (.v 5) (.v 7)) (.m (.v 6) (.v 8))) (.a (.m (.v 5) (.v 7)) (.m (.v 6) (.v 8)))))) (by decide +kernel)
 simp only [PE.den, List.getD_cons_zero, List.getD_cons_succ] at h
 try simp only [Int.sub_eq_add_neg]
 exact h

theorem qf_det (p q r s t u v w : Int) : (p * t + q * v) * (r * u + s * w) - (p * u + q * w) * (r * t + s * v) = (p * s - q * r) * (t * w - u * v) := by
 have h := PE.same [p, q, r, s, t, u, v, w] (.a (.m (.a (.m (.v 0) (.v 4)) (.m (.v 1) (.v 6))) (.a (.m (.v 2) (.v 5)) (.m (.v 3) (.v 7)))) (.n (.m (.a (.m (.v 0) (.v 5)) (.m (.v 1) (.v 7))) (.a (.m (.v 2) (.v 4)) (.m (.v 3) (.v 6)))))) (.m (.a (.m (.v 0) (.v 3)) (.n (.m (.v 1) (.v 2)))) (.a (.m (.v 4) (.v 7)) (.n (.m (.v 5) (.v 6))))) (by decide +kernel)
 simp only [PE.den, List.getD_cons_zero, List.getD_cons_succ] at h
 try simp only [Int.sub_eq_add_neg]
 exact h

theorem qf_four (a b c x y : Int) : 4 * (a * (a * (x * x) + b * (x * y) + c * (y * y))) = (2 * (a * x) + b * y) * (2 * (a * x) + b * y) - (b * b - 4 * (a * c)) * (y * y) := by
 have h := PE.same [a, b, c, x, y] (.m (.c 4) (.m (.v 0) (.a (.a (.m (.v 0) (.m (.v 3) (.v 3))) (.m (.v 1) (.m (.v 3) (.v 4)))) (.m (.v 2) (.m (.v 4) (.v 4)))))) (.a (.m (.a (.m (.c 2) (.m (.v 0) (.v 3))) (.m (.v 1) (.v 4))) (.a (.m (.c 2) (.m (.v 0) (.v 3))) (.m (.v 1) (.v 4)))) (.n (.m (.a (.m (.v 1) (.v 1)) (.n (.m (.c 4) (.m (.v 0) (.v 2))))) (.m (.v 4) (.v 4))))) (by decide +kernel)
 simp only [PE.den, List.getD_cons_zero, List.getD_cons_succ] at h
 try simp only [Int.sub_eq_add_neg]
 exact h

theorem qf_four2 (a b c x y : Int) : 4 * (c * (a * (x * x) + b * (x * y) + c * (y * y))) = (2 * (c * y) + b * x) * (2 * (c * y) + b * x) - (b * b - 4 * (a * c)) * (x * x) := by
 have h := PE.same [a, b, c, x, y] (.m (.c 4) (.m (.v 2) (.a (.a (.m (.v 0) (.m (.v 3) (.v 3))) (.m (.v 1) (.m (.v 3) (.v 4)))) (.m (.v 2) (.m (.v 4) (.v 4)))))) (.a (.m (.a (.m (.c 2) (.m (.v 2) (.v 4))) (.m (.v 1) (.v 3))) (.a (.m (.c 2) (.m (.v 2) (.v 4))) (.m (.v 1) (.v 3)))) (.n (.m (.a (.m (.v 1) (.v 1)) (.n (.m (.c 4) (.m (.v 0) (.v 2))))) (.m (.v 3) (.v 3))))) (by decide +kernel)
 simp only [PE.den, List.getD_cons_zero, List.getD_cons_succ] at h
 try simp only [Int.sub_eq_add_neg]
 exact h

def qv (a b c x y : Int) : Int := a * (x * x) + b * (x * y) + c * (y * y)
def qm (a b c p q r s : Int) : Int := 2 * (a * (p * q) + c * (r * s)) + b * (p * s + q * r)
structure Rdf (a b c : Int) : Prop where
 pos : 0 < a
 lo : -a < b
 hi : b ≤ a
 ac : a ≤ c
 eq : a = c → 0 ≤ b
theorem zOj {a b z : Int} (h1 : -a ≤ b) (h2 : b ≤ a) : -(a * (z.natAbs : Int)) ≤ b * z := by
 rcases Int.le_total 0 z with hz | hz
 ·have e : (z.natAbs : Int) = z := by omega
  rw [e]
  have := Int.mul_le_mul_of_nonneg_right h1 hz
  rw [Int.neg_mul] at this
  exact this
 ·have e : (z.natAbs : Int) = -z := by omega
  rw [e, Int.mul_neg, Int.neg_neg]
  exact Int.mul_le_mul_of_nonpos_right h2 hz
theorem zDl (x : Int) : (x.natAbs : Int) * (x.natAbs : Int) = x * x := by
 rcases Int.le_total 0 x with h | h
 ·have e : (x.natAbs : Int) = x := by omega
  rw [e]
 ·have e : (x.natAbs : Int) = -x := by omega
  rw [e, Int.neg_mul_neg]
theorem zI3 {a b c x y : Int} (h1 : -a ≤ b) (h2 : b ≤ a) (h3 : a ≤ c) (h0 : 0 < a) (hy : y ≠ 0) : c ≤ qv a b c x y := by
 have k1 := zOj (z := x * y) h1 h2
 rw [Int.natAbs_mul, Int.natCast_mul] at k1
 have kx := zDl x
 have ky := zDl y
 unfold qv
 rw [← kx, ← ky]
 obtain ⟨X, hX⟩ : ∃ X : Int, X = (x.natAbs : Int) := ⟨_, rfl⟩
 obtain ⟨Y, hY⟩ : ∃ Y : Int, Y = (y.natAbs : Int) := ⟨_, rfl⟩
 rw [← hX, ← hY] at k1 ⊢
 have hX0 : 0 ≤ X := by omega
 have hY1 : 1 ≤ Y := by omega
 clear kx ky hX hY
 generalize b * (x * y) = t at k1 ⊢
 rcases Int.lt_or_le X Y with hl | hl
 ·-- X < Y
  have e1 : a * (X * (Y - X)) ≤ c * (X * (Y - X)) := Int.mul_le_mul_of_nonneg_right h3 (Int.mul_nonneg hX0 (by omega))
  have e2 : c * 1 ≤ c * ((Y - X) * Y + X * X) := by
   refine Int.mul_le_mul_of_nonneg_left ?_ (by omega)
   have g1 : 1 * 1 ≤ (Y - X) * Y := Int.mul_le_mul (by omega) hY1 (by omega) (by omega)
   have g2 : 0 ≤ X * X := Int.mul_nonneg hX0 hX0
   omega
  have e3 : c * ((Y - X) * Y + X * X) + c * (X * (Y - X)) = c * (Y * Y) := by
   rw [← Int.mul_add]
   congr 1
   rw [Int.sub_mul, Int.mul_sub]
   omega
  have e4 : a * (X * (Y - X)) = a * (X * Y) - a * (X * X) := by rw [Int.mul_sub, Int.mul_sub]
  omega
 ·have e1 : 0 ≤ a * (X * (X - Y)) := Int.mul_nonneg (by omega) (Int.mul_nonneg hX0 (by omega))
  have e2 : c * (1 * 1) ≤ c * (Y * Y) := Int.mul_le_mul_of_nonneg_left (Int.mul_le_mul hY1 hY1 (by omega) (by omega)) (by omega)
  have e4 : a * (X * (X - Y)) = a * (X * X) - a * (X * Y) := by rw [Int.mul_sub, Int.mul_sub]
  omega
theorem zLj {a b c x y : Int} (h1 : -a ≤ b) (h2 : b ≤ a) (h3 : a ≤ c) (h0 : 0 < a) (hxy : ¬ (x = 0 ∧ y = 0)) : a ≤ qv a b c x y := by
 by_cases hy : y = 0
 ·subst hy
  have hx : x ≠ 0 := fun e => hxy ⟨e, rfl⟩
  have k := zDl x
  unfold qv
  rw [Int.mul_zero, Int.mul_zero, Int.mul_zero, Int.mul_zero, ← k]
  have e2 : a * (1 * 1) ≤ a * ((x.natAbs : Int) * (x.natAbs : Int)) := Int.mul_le_mul_of_nonneg_left (Int.mul_le_mul (by omega) (by omega) (by omega) (by omega)) (by omega)
  omega
 ·exact Int.le_trans h3 (zI3 h1 h2 h3 h0 hy)
theorem det_ne {p q r s : Int} (hd : p * s - q * r = 1) : ¬ (p = 0 ∧ r = 0) := by
 rintro ⟨rfl, rfl⟩
 rw [Int.zero_mul, Int.mul_zero] at hd
 omega
theorem zOk {p s : Int} (h : p * s = 1) : (p = 1 ∧ s = 1) ∨ (p = -1 ∧ s = -1) := by
 have h1 : p.natAbs * s.natAbs = 1 := by rw [← Int.natAbs_mul, h]; rfl
 have h2 := Nat.eq_one_of_mul_eq_one_right h1
 have h3 := Nat.eq_one_of_mul_eq_one_left h1
 rcases Int.natAbs_eq_iff.1 h2 with e | e <;> rcases Int.natAbs_eq_iff.1 h3 with g | g <;> subst e g
 ·exact .inl ⟨rfl, rfl⟩
 ·exact absurd h (by decide)
 ·exact absurd h (by decide)
 ·exact .inr ⟨rfl, rfl⟩
theorem zO5 {a b c p q r s a' b' c' : Int} (hf : Rdf a b c) (hg : Rdf a' b' c') (hd : p * s - q * r = 1) (ea : a' = qv a b c p r) (eb : b' = qm a b c p q r s) (ec : c' = qv a b c q s) : a' = a ∧ b' = b ∧ c' = c := by
 have f1 : -a ≤ b := by have := hf.lo; omega
 have g1 : -a' ≤ b' := by have := hg.lo; omega
 have ia : qv a' b' c' s (-r) = a := by
  rw [ea, eb, ec]
  have := zLi a b c p q r s
  rw [hd] at this
  simpa [qv, qm] using this
 have ha1 : a ≤ a' := by rw [ea]; exact zLj f1 hf.hi hf.ac hf.pos (det_ne hd)
 have ha2 : a' ≤ a := by
  have hn : ¬ (s = 0 ∧ -r = 0) := by
   rintro ⟨rfl, h2⟩
   have : r = 0 := by omega
   subst this
   rw [Int.mul_zero, Int.mul_zero] at hd
   omega
  have := zLj g1 hg.hi hg.ac hg.pos hn
  omega
 have haa : a' = a := by omega
 have dg : b' * b' - 4 * (a' * c') = b * b - 4 * (a * c) := by
  have := zI2 a b c p q r s
  rw [hd, Int.one_mul, Int.mul_one] at this
  rw [ea, eb, ec]
  exact this
 by_cases hr : r = 0
 ·subst hr
  rw [Int.mul_zero, Int.sub_zero] at hd
  have hb : b' = b + 2 * (a * (p * q)) := by
   rw [eb]
   unfold qm
   rw [Int.zero_mul, Int.mul_zero, Int.mul_zero, hd]
   omega
  have hq : q = 0 := by
   have hlo := hf.lo; have hhi := hf.hi; have hlo' := hg.lo; have hhi' := hg.hi; have hp := hf.pos
   rcases zOk hd with ⟨rfl, _⟩ | ⟨rfl, _⟩
   ·rw [Int.one_mul] at hb
    rcases Int.lt_trichotomy q 0 with h | h | h
    ·have := Int.mul_le_mul_of_nonneg_left (show q ≤ -1 by omega) (show 0 ≤ a by omega); omega
    ·exact h
    ·have := Int.mul_le_mul_of_nonneg_left (show 1 ≤ q by omega) (show 0 ≤ a by omega); omega
   ·rw [Int.neg_mul, Int.one_mul, Int.mul_neg] at hb
    rcases Int.lt_trichotomy q 0 with h | h | h
    ·have := Int.mul_le_mul_of_nonneg_left (show q ≤ -1 by omega) (show 0 ≤ a by omega); omega
    ·exact h
    ·have := Int.mul_le_mul_of_nonneg_left (show 1 ≤ q by omega) (show 0 ≤ a by omega); omega
  subst hq
  rw [Int.mul_zero, Int.mul_zero, Int.mul_zero, Int.add_zero] at hb
  refine ⟨haa, hb, ?_⟩
  rw [haa, hb] at dg
  have h4 : a * c' = a * c := by omega
  exact Int.eq_of_mul_eq_mul_left (by have := hf.pos; omega) h4
 ·have hc1 : c ≤ a := by
   have := zI3 (x := p) f1 hf.hi hf.ac hf.pos hr
   rw [← ea] at this
   omega
  have hc2 : c' ≤ a := by
   have := zI3 (x := s) (y := -r) g1 hg.hi hg.ac hg.pos (by omega)
   omega
  have h1 := hf.ac
  have h2 := hg.ac
  have hca : c = a := by omega
  have hca' : c' = a := by omega
  have hb0 := hf.eq hca.symm
  have hb0' := hg.eq (by omega)
  rw [haa, hca, hca'] at dg
  have hbb : b' * b' = b * b := by omega
  have hb : b' = b := by
   rcases Int.lt_trichotomy b' b with h | h | h
   ·have k1 := Int.mul_le_mul_of_nonneg_left (show b' ≤ b by omega) hb0'; have k2 := Int.mul_lt_mul_of_pos_right h (show 0 < b by omega); omega
   ·exact h
   ·have k1 := Int.mul_le_mul_of_nonneg_left (show b ≤ b' by omega) hb0; have k2 := Int.mul_lt_mul_of_pos_right h (show 0 < b' by omega); omega
  exact ⟨haa, hb, by omega⟩
structure Und (a b c p q r s a' b' c' : Int) : Prop where
 d : p * s - q * r = 1
 ea : a' = qv a b c p r
 eb : b' = qm a b c p q r s
 ec : c' = qv a b c q s
theorem Und.one (a b c : Int) : Und a b c 1 0 0 1 a b c := by
 refine ⟨by decide, ?_, ?_, ?_⟩ <;> simp [qv, qm]
theorem Und.mul {a b c p q r s a' b' c' t u v w a'' b'' c'' : Int} (h : Und a b c p q r s a' b' c') (g : Und a' b' c' t u v w a'' b'' c'') : Und a b c (p * t + q * v) (p * u + q * w) (r * t + s * v) (r * u + s * w) a'' b'' c'' := by
 refine ⟨?_, ?_, ?_, ?_⟩
 ·have := qf_det p q r s t u v w
  rw [h.d, g.d] at this
  exact this
 ·rw [g.ea, h.ea, h.eb, h.ec]; exact qf_mul_a a b c p q r s t v
 ·rw [g.eb, h.ea, h.eb, h.ec]; exact qf_mul_b a b c p q r s t u v w
 ·rw [g.ec, h.ea, h.eb, h.ec]; exact qf_mul_c a b c p q r s u w
theorem Und.disc {a b c p q r s a' b' c' : Int} (h : Und a b c p q r s a' b' c') : b' * b' - 4 * (a' * c') = b * b - 4 * (a * c) := by
 have := zI2 a b c p q r s
 rw [h.d, Int.one_mul, Int.mul_one] at this
 rw [h.ea, h.eb, h.ec]
 exact this
theorem Und.back {a b c p q r s a' b' c' : Int} (h : Und a b c p q r s a' b' c') : Und a' b' c' s (-q) (-r) p a b c := by
 have d2 := h.d
 refine ⟨?_, ?_, ?_, ?_⟩
 ·rw [Int.neg_mul_neg, Int.mul_comm s p]; exact d2
 ·have := zLi a b c p q r s
  rw [d2] at this
  rw [h.ea, h.eb, h.ec]
  simpa [qv, qm] using this.symm
 ·have := qf_inv_b a b c p q r s
  rw [d2] at this
  rw [h.ea, h.eb, h.ec]
  simpa [qv, qm] using this.symm
 ·have := qf_inv_c a b c p q r s
  rw [d2] at this
  rw [h.ea, h.eb, h.ec]
  simpa [qv, qm] using this.symm
theorem Und.uniq {a b c p q r s a' b' c' : Int} (h : Und a b c p q r s a' b' c') (hf : Rdf a b c) (hg : Rdf a' b' c') : a' = a ∧ b' = b ∧ c' = c := zO5 hf hg h.d h.ea h.eb h.ec
theorem Und.same {a b c p q r s a1 b1 c1 t u v w a2 b2 c2 : Int} (h : Und a b c p q r s a1 b1 c1) (g : Und a b c t u v w a2 b2 c2) (h1 : Rdf a1 b1 c1) (h2 : Rdf a2 b2 c2) : a2 = a1 ∧ b2 = b1 ∧ c2 = c1 := (h.back.mul g).uniq h1 h2
theorem Und.shift (a b c k : Int) : Und a b c 1 k 0 1 a (b + 2 * (a * k)) (a * (k * k) + b * k + c) := by
 refine ⟨by simp, ?_, ?_, ?_⟩ <;> simp [qv, qm]
 omega
theorem Und.swap (a b c : Int) : Und a b c 0 (-1) 1 0 c (-b) a := by
 refine ⟨by decide, ?_, ?_, ?_⟩ <;> simp [qv, qm]
def redB (a b c : Int) : Bool := decide (((b.natAbs : Int) ≤ a ∧ a ≤ c) ∧ (((b.natAbs : Int) = a ∨ a = c) → 0 ≤ b))
theorem zD9 {a b c : Int} (h0 : 0 < a) : redB a b c = true ↔ Rdf a b c := by
 simp only [redB, decide_eq_true_eq]
 constructor
 ·rintro ⟨⟨h1, h2⟩, h3⟩
  refine ⟨h0, ?_, by omega, h2, fun e => h3 (.inr e)⟩
  by_cases hb : 0 ≤ b
  ·omega
  ·have : ¬ (b.natAbs : Int) = a := fun e => hb (h3 (.inl e))
   omega
 ·intro h
  have := h.lo; have := h.hi
  refine ⟨⟨by omega, h.ac⟩, ?_⟩
  rintro (e | e)
  ·omega
  ·exact h.eq e
theorem shift_mid {a b : Int} (h0 : 0 < a) : -a < b + 2 * (a * ((a - b) / (2 * a))) ∧ b + 2 * (a * ((a - b) / (2 * a))) ≤ a := by
 have h1 := Int.mul_ediv_add_emod (a - b) (2 * a)
 have h2 := Int.emod_nonneg (a - b) (show 2 * a ≠ 0 by omega)
 have h3 := Int.emod_lt_of_pos (a - b) (show 0 < 2 * a by omega)
 rw [Int.mul_assoc] at h1
 omega
theorem zLy {a b c : Int} (h0 : 0 < a) (h1 : -a < b) (h2 : b ≤ a) (hr : ¬ Rdf a b c) : c < a ∨ (c = a ∧ b < 0 ∧ Rdf c (-b) a) := by
 by_cases hc : c < a
 ·exact .inl hc
 ·right
  by_cases he : a = c
  ·by_cases hb : 0 ≤ b
   ·exact absurd ⟨h0, h1, h2, by omega, fun _ => hb⟩ hr
   ·exact ⟨he.symm, by omega, by omega, by omega, by omega, by omega, fun _ => by omega⟩
  ·exact absurd ⟨h0, h1, h2, by omega, fun e => absurd e he⟩ hr
theorem zG3 {a b c : Int} (h0 : 0 < a) (hd : b * b - 4 * (a * c) < 0) : 0 < c := by
 have hb : 0 ≤ b * b := by rw [← zDl b]; exact Int.mul_nonneg (by omega) (by omega)
 rcases Int.lt_or_le 0 c with h | h
 ·exact h
 ·have := Int.mul_nonneg_of_nonpos_of_nonpos (show -a ≤ 0 by omega) h
  rw [Int.neg_mul] at this
  omega
theorem zDv (x : Int) : 0 ≤ x * x := by rw [← zDl x]; exact Int.mul_nonneg (by omega) (by omega)
theorem four_y {a b c x y : Int} (hd : b * b - 4 * (a * c) < 0) : y * y ≤ 4 * (a * qv a b c x y) := by
 unfold qv
 rw [qf_four]
 have h1 := zDv (2 * (a * x) + b * y)
 have h2 := Int.mul_le_mul_of_nonneg_right (show 1 ≤ -(b * b - 4 * (a * c)) by omega) (zDv y)
 rw [Int.one_mul, Int.neg_mul] at h2
 omega
theorem four_x {a b c x y : Int} (hd : b * b - 4 * (a * c) < 0) : x * x ≤ 4 * (c * qv a b c x y) := by
 unfold qv
 rw [qf_four2]
 have h1 := zDv (2 * (c * y) + b * x)
 have h2 := Int.mul_le_mul_of_nonneg_right (show 1 ≤ -(b * b - 4 * (a * c)) by omega) (zDv x)
 rw [Int.one_mul, Int.neg_mul] at h2
 omega
theorem Und.bds {a b c p q r s a' b' c' : Int} (h : Und a b c p q r s a' b' c') (hd : b * b - 4 * (a * c) < 0) : p * p ≤ 4 * (c * a') ∧ q * q ≤ 4 * (c * c') ∧ r * r ≤ 4 * (a * a') ∧ s * s ≤ 4 * (a * c') := by
 rw [h.ea, h.ec]
 exact ⟨four_x hd, four_x hd, four_y hd, four_y hd⟩
theorem qv_pos {a b c x y : Int} (h0 : 0 < a) (hd : b * b - 4 * (a * c) < 0) (hn : ¬ (x = 0 ∧ y = 0)) : 0 < qv a b c x y := by
 have hy := four_y (x := x) (y := y) hd
 have hx := four_x (x := x) (y := y) hd
 have hc := zG3 h0 hd
 rcases Int.lt_or_le 0 (qv a b c x y) with h | h
 ·exact h
 ·exfalso
  have e1 := Int.mul_nonneg_of_nonpos_of_nonpos (show -a ≤ 0 by omega) h
  have e2 := Int.mul_nonneg_of_nonpos_of_nonpos (show -c ≤ 0 by omega) h
  rw [Int.neg_mul] at e1 e2
  have sx := zDv x
  have sy := zDv y
  refine hn ⟨?_, ?_⟩
  ·exact (Int.mul_eq_zero.1 (show x * x = 0 by omega)).elim id id
  ·exact (Int.mul_eq_zero.1 (show y * y = 0 by omega)).elim id id
theorem Und.pos {a b c p q r s a' b' c' : Int} (h : Und a b c p q r s a' b' c') (h0 : 0 < a) (hd : b * b - 4 * (a * c) < 0) : 0 < a' := by
 rw [h.ea]
 exact qv_pos h0 hd (det_ne h.d)
theorem last_le {a b c : Int} (h0 : 0 < a) (h1 : -a ≤ b) (h2 : b ≤ a) (hd : b * b - 4 * (a * c) < 0) : c ≤ a * a - (b * b - 4 * (a * c)) := by
 have hb : b * b ≤ a * a := by
  rw [← zDl b]
  exact Int.mul_le_mul (by omega) (by omega) (by omega) (by omega)
 have hc := zG3 h0 hd
 have h3 := Int.mul_le_mul_of_nonneg_right (show 1 ≤ a by omega) (show 0 ≤ c by omega)
 omega

end Go.Proofs.YtdhkhedhnolcjaaGreat

namespace Go.Proofs.YtdhkhedhnolcjaaGreat
open Go Go.RowKit

theorem RBitsV {w : World} {v : Value} {z : Int} (h : Num w v z) : Calls Tryz.prog 105 #[v] w fun e w' => ∃ m : Nat, e = .returned (.int .i64 m) ∧ zDb (ab z) m ∧ m ≤ 28800000 ∧ Below w.heap.size w w' := by
 obtain ⟨neg, ao, n, c, xs, rfl, hs, hn, rfl, hc, _⟩ := h
 refine (zI4 _ _ _ _ _ _ hs hc (by omega)).mono fun e w' hh => ?_
 obtain ⟨m, rfl, hm, hm2, hb⟩ := hh
 exact ⟨m, rfl, by rw [zEk, zDy (zAv hs.digs)]; exact hm, by omega, hb⟩

end Go.Proofs.YtdhkhedhnolcjaaGreat

namespace Go.Proofs.YtdhkhedhnolcjaaGreat
open Go Go.RowKit

theorem one_sl (w : World) (t : TypeId) (ht : t = 93) : Sl (w.alloc (.cells #[.int .u32 1] t)) (some ⟨w.heap.size, 0, none⟩) 1 1 [1] := by
 subst ht
 have hr : Row (w.alloc (.cells #[.int .u32 1] 93)) 93 w.heap.size [1] := by
  refine ⟨fun x hx => ?_, ?_⟩
  ·simp at hx
   subst hx
   exact ⟨by decide, by decide⟩
  ·rw [heap_alloc_new]; rfl
 exact hr.sl (n := 1) rfl

theorem boxes3z (w : World) {n : Bool} {ao : Option Addr} {k c : Nat} {z : Int} (h : Num w (.agg #[.bool n, .slice ao k c]) z) (t : TypeId) :
  ∃ w0, w0 = ((w.alloc (.cells #[.bool n, .slice ao k c] t)).alloc (.cells #[.bool false, .slice none 0 0] t)).alloc (.cells #[.bool false, .slice none 0 0] t) ∧ BoxNum w0 w.heap.size z ∧ BoxNum w0 (w.heap.size + 1) 0 ∧ BoxNum w0 (w.heap.size + 1 + 1) 0 ∧ Below w.heap.size w w0 := by
 obtain ⟨w0, hw0, hA, hB, hC, hbl, HS⟩ := zD1 w (.bool n) (.slice ao k c) (.bool false) (.slice none 0 0) t
 exact ⟨w0, hw0, ⟨_, _, _, _, hA, h.mono hbl⟩, ⟨_, _, _, _, hB, Num.zero _⟩, ⟨_, _, _, _, hC, Num.zero _⟩, hbl⟩

theorem newt_two (X S : Int) : newt X S 2 = (S + X / S) / 2 := by
 unfold newt
 simp
 rw [Int.pow_one]

theorem zPk {X : Int} {b : Nat} (hb : zDb X b) : X < (2 ^ ((b + 1) / 2) + 1) ^ 2 := by
 have hX : X < 2 ^ b := by
  rcases hb with ⟨h1, h2⟩ | ⟨_, _, h1⟩
  ·subst h2; rw [h1]; decide
  ·exact h1
 have h2 := zDm (show b ≤ (b + 1) / 2 + (b + 1) / 2 by omega)
 rw [Int.pow_add] at h2
 have h3 := zBe ((b + 1) / 2)
 rw [Int.pow_succ, Int.pow_succ, Int.pow_zero, Int.one_mul, Int.mul_add, Int.add_mul, Int.mul_one, Int.one_mul]
 omega

theorem zMd {X : Int} {m K : Nat} (hX : X < pw K) (hm : zDb X m) : m ≤ 32 * K := by
 rw [zCk] at hX
 rcases hm with ⟨_, h2⟩ | ⟨_, h2, _⟩
 ·omega
 ·rcases Nat.lt_or_ge (m - 1) (32 * K) with h | h
  ·omega
  ·have := zDm h
   omega

theorem two_lt_pw {p K : Nat} (h : p < 32 * K) : (2 : Int) ^ p < pw K := by
 rw [zCk]
 have h1 := zDm (show p + 1 ≤ 32 * K by omega)
 have h2 := zFe p
 have h3 := zBe p
 omega

set_option maxRecDepth 100000 in
set_option maxHeartbeats 16000000 in
theorem RSqrtV {w : World} {v : Value} {a : Int} (h : Num w v a) (ha : ab a < pw 40) : Calls Tryz.prog 92 #[v] w (zHn w a) := by
 obtain ⟨n1, ao, k1, c, rfl⟩ := h.parts
 have Ba := hidd ha
 clear ha
 obtain ⟨w0, hw0, XA, X2, X3, HB⟩ := boxes3z w h 31
 go_enter Tryz.func92, Tryz.ntmps92
 go_upto_region 1 with (fail)
 rw [← hw0]
 clear hw0 h
 obtain ⟨na, aoa, kka, cca, ⟨a0, a1, a2, a3⟩, hNa⟩ := id XA
 obtain ⟨_, _, _, _, _, _, hka, nega, posa⟩ := hNa.sign
 cases na
 rotate_left
 ·have Hn := hidd (nega rfl)
  clear nega posa hka
  obtain ⟨nc, aoc, kkc, ccc, ⟨c0, c1, c2, c3⟩, hNc⟩ := id X2
  obtain ⟨nd, aod, kkd, ccd, ⟨d0, d1, d2, d3⟩, hNd⟩ := id X3
  have hbS := (((HB.setCell (p := ⟨w.heap.size + 1, 0, none⟩) (by show w.heap.size ≤ w.heap.size + 1; omega) (.bool false)).setCell (p := ⟨w.heap.size + 1, 1, none⟩) (by show w.heap.size ≤ w.heap.size + 1; omega) (.slice none 0 0)).setCell (p := ⟨w.heap.size + 1 + 1, 0, none⟩) (by show w.heap.size ≤ w.heap.size + 1 + 1; omega) (.bool false)).setCell (p := ⟨w.heap.size + 1 + 1, 1, none⟩) (by show w.heap.size ≤ w.heap.size + 1 + 1; omega) (.slice none 0 0)
  go_wp2
  refine bodyPost_ret (v := .tuple #[.agg #[.bool false, .slice none 0 0], .agg #[.bool false, .slice none 0 0], .int .i64 1]) ?_ rfl ⟨hbS, .inl ⟨Hn.out, rfl⟩⟩
  simp [results, Tryz.results92, go_sem, c0, c1, d0, d1]
 have Ha0 := hidd (posa rfl)
 clear nega posa
 by_cases hk0 : kka = 0
 ·have Hz := hidd (hka.1 hk0)
  subst hk0
  clear hka
  obtain ⟨nc, aoc, kkc, ccc, ⟨c0, c1, c2, c3⟩, hNc⟩ := id X2
  obtain ⟨nd, aod, kkd, ccd, ⟨d0, d1, d2, d3⟩, hNd⟩ := id X3
  have hbS := (((HB.setCell (p := ⟨w.heap.size + 1, 0, none⟩) (by show w.heap.size ≤ w.heap.size + 1; omega) (.bool false)).setCell (p := ⟨w.heap.size + 1, 1, none⟩) (by show w.heap.size ≤ w.heap.size + 1; omega) (.slice none 0 0)).setCell (p := ⟨w.heap.size + 1 + 1, 0, none⟩) (by show w.heap.size ≤ w.heap.size + 1 + 1; omega) (.bool false)).setCell (p := ⟨w.heap.size + 1 + 1, 1, none⟩) (by show w.heap.size ≤ w.heap.size + 1 + 1; omega) (.slice none 0 0)
  go_wp2
  refine bodyPost_ret (v := .tuple #[.agg #[.bool false, .slice none 0 0], .agg #[.bool false, .slice none 0 0], .int .i64 0]) ?_ rfl ⟨hbS, .inr ⟨Ha0.out, _, _, 0, rfl, (Num.zero _).isInt, by rw [Hz.out]; exact (Num.zero _).isInt, by rw [Hz.out]; exact ⟨Int.le_refl _, by decide, by decide⟩⟩⟩
  simp [results, Tryz.results92, go_sem, c0, c1, d0, d1]
 have hk1 : ((kka : Int) == 0) = false := by simp; omega
 have Ha1 : Hid (1 ≤ a) := by have h1 : a ≠ 0 := fun h => hk0 (hka.2 h); have := Ha0.out; show 1 ≤ a; omega
 clear hk0 hka
 go_upto_region 5 with (fail)
 clear hk1
 have hone := one_sl w0 93 rfl
 have hbo := zAw w0 (.cells #[.int .u32 1] 93)
 have hNa1 := hNa.mono hbo
 have q0 := (hbo.cell (p := ⟨w.heap.size, 0, none⟩) (World.block_lt_of_cell? _ _ a0)).trans a0
 have q1 := (hbo.cell (p := ⟨w.heap.size, 1, none⟩) (World.block_lt_of_cell? _ _ a1)).trans a1
 go_wp2_with fail
 refine (RBitsV hNa1).mono ?_
 rintro e wB ⟨m, rfl, hm, hmb, hb⟩
 have Hm := hidd hm
 clear hm
 have hbB := hbo.trans (hb.mono hbo.size)
 have hone2 := hone.mono hb
 obtain ⟨p, hp⟩ : ∃ p : Nat, p = (m + 1) / 2 := ⟨_, rfl⟩
 have hpi : ((m : Int) + 1) / 2 = (p : Int) := by omega
 have hpb : p ≤ 14400001 := by omega
 have Hp := hidd hp
 clear hp hone q0 q1 hNa1 hb hbo
 go_wp2_with fail
 clear hpi
 refine (zKm _ _ _ _ _ hone2 (by omega) p (by omega)).mono ?_
 rintro e wC ⟨gl, ll, cl, ls, rfl, _, hMl, hcl, hll, hvl, hb⟩
 have Hvl := hidd hvl
 have Hll := hidd hll
 clear hvl hll
 have hbC := hbB.trans (hb.mono hbB.size)
 clear hb hbB hone2
 go_wp2_with fail
 have hpw : Hid (p ≤ 640) := by show p ≤ 640; have h1 := zMd Ba.out Hm.out; have := Hp.out; omega
 obtain ⟨S0, hS0⟩ : ∃ S0 : Int, S0 = 2 ^ p := ⟨_, rfl⟩
 have HS0 := hidd hS0
 have BS0 : Hid (ab S0 < pw 21) := by show ab S0 < pw 21; rw [hS0, zDy (Int.le_of_lt (zBe p))]; exact two_lt_pw (by have := hpw.out; omega)
 clear hS0
 have hval : Hid (val ls = S0) := by show val ls = S0; rw [Hvl.out, HS0.out]; show (1 + 4294967296 * 0) * _ = _; rw [Int.mul_zero, Int.add_zero, Int.one_mul]
 have hmade : Calls Tryz.prog 78 #[.bool false, .slice (some ⟨gl, 0, none⟩) ll cl] wC (zA4 wC S0) := by
  have h := zDi wC false _ ll cl ls (hMl.sl hcl) (by have := Hll.out; have := hpw.out; omega)
  have e : sgn false (val ls) = S0 := by rw [hval.out]; rfl
  rw [e] at h
  exact h
 refine (exKP (z := S0) hmade BS0.out (by omega)).mono ?_
 clear hmade
 rintro e wD ⟨nD, aoD, kD, cD, rfl, hb2, hND⟩
 have hb := hbC.trans (hb2.mono hbC.size)
 clear hb2 hbC hMl hcl
 clear a0 a1 a2 a3 hNa
 replace XA := XA.mono hb
 replace X2 := X2.mono hb
 replace X3 := X3.mono hb
 replace HB := HB.trans (hb.mono HB.size)
 clear hb
 go_upto_region 6 with (fail)
 obtain ⟨w1, hw1, hb, p1_0⟩ := zFm hND 31
 rw [← hw1]
 clear hw1
 have hlt1 : (w.heap.size + 1 + 1) < wD.heap.size := X3.lt
 replace XA := XA.mono hb
 replace X2 := X2.mono hb
 replace X3 := X3.mono hb
 replace HB := HB.trans (hb.mono HB.size)
 clear hb
 obtain ⟨g5, hg5⟩ : ∃ g, g = wD.heap.size := ⟨_, rfl⟩
 rw [← hg5]
 rw [← hg5] at hlt1 p1_0
 clear hg5
 have X5 := p1_0
 clear p1_0
 clear hND
 have HI0 : Hid (1 ≤ S0 ∧ a < (S0 + 1) ^ 2) := by
  show _ ∧ _
  rw [HS0.out, Hp.out]
  have h1 := zPk Hm.out
  rw [zDy Ha0.out] at h1
  exact ⟨zBe _, h1⟩
 clear Hp Hm
 go_loopw [4] (fun _ W => ∃ s : Int, (1 ≤ s ∧ s ≤ S0 ∧ a < (s + 1) ^ 2) ∧ BoxNum W w.heap.size a ∧ BoxNum W (w.heap.size + 1) 0 ∧ BoxNum W (w.heap.size + 1 + 1) 0 ∧ BoxNum W g5 s ∧ Below w.heap.size w W) (fun _ W => zGg W g5)
 case atStart => exact ⟨S0, ⟨HI0.out.1, Int.le_refl _, HI0.out.2⟩, XA, X2, X3, X5, HB⟩
 case round =>
  obtain ⟨s, hs, YA, Y2, Y3, Y5, HB⟩ := hrel
  clear XA X2 X3 X5 HI0
  have Hs := hidd hs
  clear hs
  have XA := YA
  have X2 := Y2
  have X3 := Y3
  have X5 := Y5
  clear YA Y2 Y3 Y5
  have HBV := hidd (zGh X5)
  have Bs : Hid (ab s < pw 21) := by show ab s < pw 21; have h1 := Hs.out; have h2 := BS0.out; unfold ab at *; omega
  have B2 : Hid (ab (2) < pw 2) := by show ab (2) < pw 2; decide
  go_wp2
  have B3 : Hid (ab ((a / s)) < pw 41) := zEv Ba.out (by omega)
  have B4 : Hid (ab ((s + (a / s))) < pw 42) := zA5 Bs.out B3.out (by omega) (by omega)
  have B5 : Hid (ab (((s + (a / s)) / (2))) < pw 43) := zEv B4.out (by omega)
  have hlast := X5.lt
  have hp : (plan [Fc.num s, Fc.num a, Fc.num s, Fc.num (a / s), Fc.num (s + (a / s)), Fc.num (2), Fc.num ((s + (a / s)) / (2)), Fc.any, Fc.any] [(w.heap.size, 1000, a, a), ((w.heap.size + 1), 1001, 0, 0), ((w.heap.size + 1 + 1), 1002, 0, 0), (g5, 1003, s, s)] [(7, 8, ((s + (a / s)) / (2)))]).Ok w.heap.size wr.heap.size := zD6 (by simp; omega) (by simp; try omega) (by simp) (by omega)
  have hm := PMono.of hp
  refine zEb (p := (plan [Fc.num s, Fc.num a, Fc.num s, Fc.num (a / s), Fc.num (s + (a / s)), Fc.num (2), Fc.num ((s + (a / s)) / (2)), Fc.any, Fc.any] [(w.heap.size, 1000, a, a), ((w.heap.size + 1), 1001, 0, 0), ((w.heap.size + 1 + 1), 1002, 0, 0), (g5, 1003, s, s)] [(7, 8, ((s + (a / s)) / (2)))])) (B := w.heap.size) (B0 := wr.heap.size) (w0 := w) (by kernel_rfl) rfl rfl (zD7 (by simp; exact ⟨XA, X2, X3, X5⟩) HB) ⟨?_, ?_, ?_, ?_, ?_, ?_, ?_, ?_, ?_, trivial⟩ ?_
  ·exact zB9 (b := g5) (k := 1003) (z := s) (z' := s) hp (by simp [plan]) (.inl rfl) rfl rfl (fun v w h => h) ⟨by simp [plan], by simp [plan]⟩
  ·exact zB9 (b := w.heap.size) (k := 1000) (z := a) (z' := a) hp (by simp [plan]) (.inl rfl) rfl rfl (fun v w h => h) ⟨by simp [plan], by simp [plan]⟩
  ·exact zB9 (b := g5) (k := 1003) (z := s) (z' := s) hp (by simp [plan]) (.inl rfl) rfl rfl (fun v w h => h) ⟨by simp [plan], by simp [plan]⟩
  ·exact zD4 (F := (Fc.num a).P) (G := (Fc.num s).P) hm ⟨by simp [plan], by simp [plan]⟩ trivial zJ6 (zBr 1 rfl rfl (by simp) rfl (fun v w h => h)) (zBr 2 rfl rfl (by simp) rfl (fun v w h => h)) (fun v v' w h h' => exK (RDivV h h' (Int.lt_of_lt_of_le Ba.out (zAb (by omega))) (Int.lt_of_lt_of_le Bs.out (zAb (by omega))) (show s ≠ 0 by have := Hs.out.1; omega)) B3.out (by omega))
  ·exact zD4 (F := (Fc.num s).P) (G := (Fc.num (a / s)).P) hm ⟨by simp [plan], by simp [plan]⟩ trivial zGu (zBr 0 rfl rfl (by simp) rfl (fun v w h => h)) (zBr 3 rfl rfl (by simp) rfl (fun v w h => h)) (fun v v' w h h' => exK (zDn h h') B4.out (by omega))
  ·exact zIg hm ⟨by simp [plan], by simp [plan]⟩ trivial zH8 (fun w => rOfV w (2) (by omega) (by omega))
  ·exact zD4 (F := (Fc.num (s + (a / s))).P) (G := (Fc.num (2)).P) hm ⟨by simp [plan], by simp [plan]⟩ trivial zJ6 (zBr 4 rfl rfl (by simp) rfl (fun v w h => h)) (zBr 5 rfl rfl (by simp) rfl (fun v w h => h)) (fun v v' w h h' => exK (RDivV h h' (Int.lt_of_lt_of_le B4.out (zAb (by omega))) (Int.lt_of_lt_of_le B2.out (zAb (by omega))) (by decide)) B5.out (by omega))
  ·exact st_alloc (k := 8) (z := ((s + (a / s)) / (2))) hp (by simp [plan]) rfl (fun _ _ => trivial) (by simp [plan]) (by simp [plan])
  ·exact zPl (i0 := 7) (j := 6) (z := ((s + (a / s)) / (2))) hp rfl (by simp [plan]) rfl (by simp) rfl rfl (by simp) rfl (fun v w h => h) (fun _ _ => trivial) (by simp [plan]) (by simp [plan])
  intro L vs w6 hL hG
  replace XA : BoxNum w6 w.heap.size a := by have := hG.old (w.heap.size, 1000, a, a) (by simp [plan]); simpa using this
  replace X2 : BoxNum w6 (w.heap.size + 1) 0 := by have := hG.old ((w.heap.size + 1), 1001, 0, 0) (by simp [plan]); simpa using this
  replace X3 : BoxNum w6 (w.heap.size + 1 + 1) 0 := by have := hG.old ((w.heap.size + 1 + 1), 1002, 0, 0) (by simp [plan]); simpa using this
  replace X5 : BoxNum w6 g5 s := by have := hG.old (g5, 1003, s, s) (by simp [plan]); simpa using this
  obtain ⟨g6, e7, hgl6, x7⟩ := hG.new (7, 8, ((s + (a / s)) / (2))) (by simp [plan]) (hL 7 (by simp))
  have hlt6 : g5 < g6 := Nat.lt_of_lt_of_le hlast hgl6
  have X6 : BoxNum w6 g6 ((s + (a / s)) / (2)) := by have h := x7; simp only [hL 8 (by simp), if_true] at h; exact h
  replace HB := hG.below
  rw [zAe hL]
  simp only [SP, Nat.zero_add, Nat.reduceAdd]
  rw [e7]
  generalize vs 0 = u6_0
  generalize vs 1 = u6_1
  generalize vs 2 = u6_2
  generalize vs 3 = u6_3
  generalize vs 4 = u6_4
  generalize vs 5 = u6_5
  generalize vs 6 = u6_6
  clear hG hm hp hL hlast vs L e7 x7
  obtain ⟨na, aoa, kka, cca, ⟨a0, a1, a2, a3⟩, hNa⟩ := id X6
  obtain ⟨nb, aob, kkb, ccb, ⟨b0, b1, b2, b3⟩, hNb⟩ := id X5
  go_wp2_with fail
  refine (RCmpV hNa hNb).mono ?_
  rintro e wE ⟨rfl, hb⟩
  clear a0 a1 a2 a3 hNa b0 b1 b2 b3 hNb
  replace XA := XA.mono hb
  replace X2 := X2.mono hb
  replace X3 := X3.mono hb
  replace X5 := X5.mono hb
  replace X6 := X6.mono hb
  replace HB := HB.trans (hb.mono HB.size)
  clear hb
  have Ht : Hid (((s + (a / s)) / (2)) = newt a s 2) := (newt_two a s).symm
  by_cases hge : s ≤ ((s + (a / s)) / (2))
  ·have hc : decide (cmpI ((s + (a / s)) / (2)) s ≥ 0) = true := by simp; unfold cmpI; rw [if_neg (by omega)]; split <;> omega
   have HR : Hid (IsRoot a 2 s) := zIq (by decide) Hs.out.1 Hs.out.2.2 (by rw [← Ht.out]; exact hge)
   clear hge
   generalize cmpI ((s + (a / s)) / (2)) s = cc at *
   go_upto_region 8 with (fail)
   clear hc
   have B7 : Hid (ab ((s * s)) < pw 42) := zAt Bs.out Bs.out (by omega)
   have B8 : Hid (ab ((a - (s * s))) < pw 43) := zDp Ba.out B7.out (by omega) (by omega)
   have hlast := X6.lt
   have hp : (plan [Fc.num s, Fc.num a, Fc.num s, Fc.num s, Fc.num (s * s), Fc.num (a - (s * s)), Fc.any, Fc.any, Fc.is (.int .i64 (0))] [(w.heap.size, 1000, a, a), ((w.heap.size + 1), 6, 0, s), ((w.heap.size + 1 + 1), 7, 0, (a - (s * s))), (g5, 1003, s, s), (g6, 1004, ((s + (a / s)) / (2)), ((s + (a / s)) / (2)))] []).Ok w.heap.size wE.heap.size := zD6 (by simp; omega) (by simp; try omega) (by simp) (by omega)
   have hm := PMono.of hp
   refine zEb (p := (plan [Fc.num s, Fc.num a, Fc.num s, Fc.num s, Fc.num (s * s), Fc.num (a - (s * s)), Fc.any, Fc.any, Fc.is (.int .i64 (0))] [(w.heap.size, 1000, a, a), ((w.heap.size + 1), 6, 0, s), ((w.heap.size + 1 + 1), 7, 0, (a - (s * s))), (g5, 1003, s, s), (g6, 1004, ((s + (a / s)) / (2)), ((s + (a / s)) / (2)))] [])) (B := w.heap.size) (B0 := wE.heap.size) (w0 := w) (by kernel_rfl) rfl rfl (zD7 (by simp; exact ⟨XA, X2, X3, X5, X6⟩) HB) ⟨?_, ?_, ?_, ?_, ?_, ?_, ?_, ?_, ?_, trivial⟩ ?_
   ·exact zB9 (b := g5) (k := 1003) (z := s) (z' := s) hp (by simp [plan]) (.inl rfl) rfl rfl (fun v w h => h) ⟨by simp [plan], by simp [plan]⟩
   ·exact zB9 (b := w.heap.size) (k := 1000) (z := a) (z' := a) hp (by simp [plan]) (.inl rfl) rfl rfl (fun v w h => h) ⟨by simp [plan], by simp [plan]⟩
   ·exact zB9 (b := g5) (k := 1003) (z := s) (z' := s) hp (by simp [plan]) (.inl rfl) rfl rfl (fun v w h => h) ⟨by simp [plan], by simp [plan]⟩
   ·exact zB9 (b := g5) (k := 1003) (z := s) (z' := s) hp (by simp [plan]) (.inl rfl) rfl rfl (fun v w h => h) ⟨by simp [plan], by simp [plan]⟩
   ·exact zD4 (F := (Fc.num s).P) (G := (Fc.num s).P) hm ⟨by simp [plan], by simp [plan]⟩ trivial zMx (zBr 2 rfl rfl (by simp) rfl (fun v w h => h)) (zBr 3 rfl rfl (by simp) rfl (fun v w h => h)) (fun v v' w h h' => exK (zBy h h') B7.out (by omega))
   ·exact zD4 (F := (Fc.num a).P) (G := (Fc.num (s * s)).P) hm ⟨by simp [plan], by simp [plan]⟩ trivial zJ7 (zBr 1 rfl rfl (by simp) rfl (fun v w h => h)) (zBr 4 rfl rfl (by simp) rfl (fun v w h => h)) (fun v v' w h h' => exK (RSubV h h' (K := 42) (Int.lt_of_lt_of_le Ba.out (zAb (by omega))) (Int.lt_of_lt_of_le B7.out (zAb (by omega))) (by omega)) B8.out (by omega))
   ·exact zC9 (b := (w.heap.size + 1)) (j := 0) (z := 0) (z' := s) hp rfl (by simp [plan]) rfl rfl rfl (by simp) rfl (fun v w h => h) (fun _ _ => trivial) (by simp [plan]) (by simp [plan])
   ·exact zC9 (b := (w.heap.size + 1 + 1)) (j := 5) (z := 0) (z' := (a - (s * s))) hp rfl (by simp [plan]) rfl rfl rfl (by simp) rfl (fun v w h => h) (fun _ _ => trivial) (by simp [plan]) (by simp [plan])
   ·exact zG0 hm ⟨by simp [plan], by simp [plan]⟩ trivial (zHk (fun _ => rfl))
   intro L vs w9 hL hG
   replace XA : BoxNum w9 w.heap.size a := by have := hG.old (w.heap.size, 1000, a, a) (by simp [plan]); simpa using this
   replace X2 : BoxNum w9 (w.heap.size + 1) s := by have := hG.old ((w.heap.size + 1), 6, 0, s) (by simp [plan]); simpa [hL 6 (by simp)] using this
   replace X3 : BoxNum w9 (w.heap.size + 1 + 1) (a - (s * s)) := by have := hG.old ((w.heap.size + 1 + 1), 7, 0, (a - (s * s))) (by simp [plan]); simpa [hL 7 (by simp)] using this
   replace X5 : BoxNum w9 g5 s := by have := hG.old (g5, 1003, s, s) (by simp [plan]); simpa using this
   replace X6 : BoxNum w9 g6 ((s + (a / s)) / (2)) := by have := hG.old (g6, 1004, ((s + (a / s)) / (2)), ((s + (a / s)) / (2))) (by simp [plan]); simpa using this
   have e8 : vs 8 = .int .i64 (0) := hG.val 8 (hL 8 (by simp))
   replace HB := hG.below
   rw [zAe hL]
   simp only [SP, Nat.zero_add, Nat.reduceAdd]
   rw [e8]
   generalize vs 0 = u9_0
   generalize vs 1 = u9_1
   generalize vs 2 = u9_2
   generalize vs 3 = u9_3
   generalize vs 4 = u9_4
   generalize vs 5 = u9_5
   clear hG hm hp hL hlast vs L e8
   obtain ⟨nc, aoc, kkc, ccc, ⟨c0, c1, c2, c3⟩, hNc⟩ := id X2
   obtain ⟨nd, aod, kkd, ccd, ⟨d0, d1, d2, d3⟩, hNd⟩ := id X3
   go_wp2
   refine bodyPost_ret (v := .tuple #[.agg #[.bool nc, .slice aoc kkc ccc], .agg #[.bool nd, .slice aod kkd ccd], .int .i64 0]) ?_ rfl ⟨HB, .inr ⟨Ha0.out, _, _, s, rfl, hNc.isInt, hNd.isInt, HR.out⟩⟩
   simp [results, Tryz.results92, go_sem, c0, c1, d0, d1]
  ·have hc : decide (cmpI ((s + (a / s)) / (2)) s ≥ 0) = false := by simp; unfold cmpI; rw [if_pos (by omega)]; omega
   have HLT := hidd (Int.not_le.1 hge)
   clear hge
   generalize cmpI ((s + (a / s)) / (2)) s = cc at *
   obtain ⟨ne, aoe, kke, cce, ⟨e0, e1, e2, e3⟩, hNe⟩ := id X6
   obtain ⟨nc, aoc, kkc, ccc, ⟨c0, c1, c2, c3⟩, hNc⟩ := id X5
   go_wp2
   obtain ⟨w11, hw11⟩ : ∃ w1, w1 = putBox wE g5 ne aoe kke cce := ⟨_, rfl⟩
   rw [show (wE.setCell ⟨g5, 0, none⟩ (.bool ne)).setCell ⟨g5, 1, none⟩ (.slice aoe kke cce) = w11 from hw11.symm]
   have YA : BoxNum w11 w.heap.size a := by rw [hw11]; exact XA.putOther X5 (by omega) _ _ _ _
   have Y2 : BoxNum w11 (w.heap.size + 1) 0 := by rw [hw11]; exact X2.putOther X5 (by omega) _ _ _ _
   have Y3 : BoxNum w11 (w.heap.size + 1 + 1) 0 := by rw [hw11]; exact X3.putOther X5 (by omega) _ _ _ _
   have Y6 : BoxNum w11 g6 ((s + (a / s)) / (2)) := by rw [hw11]; exact X6.putOther X5 (by omega) _ _ _ _
   replace HB : Below w.heap.size w w11 := by rw [hw11]; exact zGe HB (by omega) _ _ _ _
   have Y5 : BoxNum w11 g5 ((s + (a / s)) / (2)) := by rw [hw11]; exact X5.putSame hNe
   replace XA := YA
   replace X2 := Y2
   replace X3 := Y3
   replace X5 := Y5
   replace X6 := Y6
   clear YA Y2 Y3 Y5 Y6
   clear hw11
   clear e0 e1 e2 e3 hNe c0 c1 c2 c3 hNc
   have h1 : 1 ≤ newt a s 2 := zG7 (by decide) Hs.out.1 (by omega) (by rw [Int.one_pow]; exact Ha1.out)
   have h2 : a < (newt a s 2 + 1) ^ 2 := by rcases zIr (X := a) (S := s) (K := 2) (by decide) Hs.out.1 with h | h; exact h; omega
   rw [← Ht.out] at h1 h2
   go_roundw
   case rel => exact ⟨_, ⟨h1, by have := HLT.out; have := Hs.out.2.1; omega, h2⟩, XA, X2, X3, X5, HB⟩
   case measure => rw [zGh X5, HBV.out]; have := HLT.out; have := Hs.out.1; omega

end Go.Proofs.YtdhkhedhnolcjaaGreat

namespace Go.Proofs.YtdhkhedhnolcjaaGreat
open Go Go.RowKit

theorem zA3 {w : World} {v v' : Value} {z z' : Int} (h : Num w v z) (h' : Num w v' z') : Calls Tryz.prog 50 #[v, v'] w fun e w' => ∃ v', e = .returned v' ∧ Below w.heap.size w w' ∧ v' = .int .i64 (cmpI z z') :=
 (RCmpV h h').mono fun _ _ hh => ⟨_, hh.1, hh.2, rfl⟩

def Fc.sz (V : Int) : Fc := ⟨fun v w => ∃ (ao : Option Addr) (l c : Nat) (zs : List Int), v = .slice ao l c ∧ Sl w ao l c zs ∧ l ≤ 3000000 ∧ val zs = V,
 fun ⟨ao, l, c, zs, e, h, h1, h2⟩ hb => ⟨ao, l, c, zs, e, h.mono hb, h1, h2⟩, fun ⟨ao, l, c, zs, e, h, h1, h2⟩ hb n' a' k' c' => by
 obtain ⟨p, q, r, t, hI, _⟩ := hb
 exact ⟨ao, l, c, zs, e, h.putBox hI n' a' k' c', h1, h2⟩⟩

section
variable {w : World} {v : Value} {n : Bool} {a : Option Addr} {k c : Nat} {xs : List Int} {m : Bool} {r : Option Addr} {l q : Nat} {ys : List Int}

end

end Go.Proofs.YtdhkhedhnolcjaaGreat
