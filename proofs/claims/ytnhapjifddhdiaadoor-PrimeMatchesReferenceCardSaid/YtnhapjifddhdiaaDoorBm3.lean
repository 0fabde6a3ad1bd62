/- Rk, Yc, Ye, Yf, Pa, Yg, Yh, Yi, Yj, Yr, Ma, Nt, Mb, Mc, Rm, Me, Mg, Mh, Mi, Mj, Mk, Pm, Pn, Pd, Pe. -/
import Derived.Test.YtnhapjifddhdiaaDoorBm2
import Derived.Laws.RangeAny
import Derived.Lib.OthersKept
import Derived.Laws.RangeString
import Derived.BigQuiet
import Derived.Laws.StandIn
import Derived.Laws.EntriesVeiled
import Derived.Shelf.Spec.TrailingZeros
import Derived.Shelf.Bits.Mul64
import Derived.Lib.BitFns
import Derived.Lib.Walk
import Derived.Lib.Small
namespace Go.Proofs.YtnhapjifddhdiaaDoor
open Go Go.RowKit

theorem enter_rAbs (args : Array Value) (w : World) : (callFunc 74 args).run Tryd.prog w = .ok (.enter 74 args) w := enter_of Tryd.func74 (by kernel_rfl) rfl args w
theorem enter_rSub (args : Array Value) (w : World) : (callFunc 34 args).run Tryd.prog w = .ok (.enter 34 args) w := enter_of Tryd.func34 (by kernel_rfl) rfl args w
theorem ab_sgn (b : Bool) (v : Int) : ab (sgn b v) = ab v := by unfold ab; cases b <;> simp [sgn]

theorem boxes4n (w : World) {n n' : Bool} {ao ao' : Option Addr} {k c k' c' : Nat} {z z' : Int} (h : Num w (.agg #[.bool n, .slice ao k c]) z) (h' : Num w (.agg #[.bool n', .slice ao' k' c']) z') (t : TypeId) :
    ∃ w0, w0 = (((w.alloc (.cells #[.bool n, .slice ao k c] t)).alloc (.cells #[.bool n', .slice ao' k' c'] t)).alloc (.cells #[.bool false, .slice none 0 0] t)).alloc (.cells #[.bool false, .slice none 0 0] t) ∧
      BoxNum w0 w.heap.size z ∧ BoxNum w0 (w.heap.size + 1) z' ∧ BoxNum w0 (w.heap.size + 1 + 1) 0 ∧ BoxNum w0 (w.heap.size + 1 + 1 + 1) 0 ∧ Below w.heap.size w w0 := by
  obtain ⟨w0, hw0, hA, hB, hC, hD, hbl, HS⟩ := boxes4 w (.bool n) (.slice ao k c) (.bool n') (.slice ao' k' c') t
  exact ⟨w0, hw0, ⟨_, _, _, _, hA, h.mono hbl⟩, ⟨_, _, _, _, hB, h'.mono hbl⟩, ⟨_, _, _, _, hC, Num.zero _⟩, ⟨_, _, _, _, hD, Num.zero _⟩, hbl⟩

theorem euclid {a b q r : Int} (hb : b ≠ 0) (h : a = q * b + r) (h0 : 0 ≤ r) (h1 : r < ab b) : q = a / b ∧ r = a % b := by
  have h2 : a % b = r := by
    rw [h, Int.add_comm, Int.add_mul_emod_self_right]
    rcases Int.lt_or_gt_of_ne hb with hb' | hb'
    · rw [← Int.emod_neg, Int.emod_eq_of_lt h0 (by unfold ab at h1; omega)]
    · exact Int.emod_eq_of_lt h0 (by unfold ab at h1; omega)
  have h3 := Int.mul_ediv_add_emod a b
  rw [h2] at h3
  have h4 : b * (a / b) = b * q := by rw [Int.mul_comm b q]; omega
  exact ⟨(Int.eq_of_mul_eq_mul_left hb h4).symm, h2.symm⟩

theorem dm_end {x y q0 r0 q r : Int} {a1 b1 a2 : Bool} (hy : y ≠ 0) (hd : ab y * q + r = ab x) (h0 : 0 ≤ r) (h1 : r < ab y) (nx : a1 = true → x < 0) (px : a1 = false → 0 ≤ x) (nx2 : a2 = true → x < 0) (px2 : a2 = false → 0 ≤ x)
    (ny : b1 = true → y < 0) (py : b1 = false → 0 ≤ y) (hq : q0 = sgn (!a1 == b1) q) (hr : r0 = sgn a2 r) :
    (0 ≤ r0 → q0 = x / y ∧ r0 = x % y) ∧ (r0 < 0 → 0 ≤ y → q0 - 1 = x / y ∧ r0 + (y.natAbs : Int) = x % y) ∧ (r0 < 0 → y < 0 → q0 + 1 = x / y ∧ r0 + (y.natAbs : Int) = x % y) := by
  have e1 : ab y = (y.natAbs : Int) := rfl
  by_cases hx : x < 0 <;> by_cases hyy : y < 0
  · obtain rfl : a1 = true := by cases a1; exact absurd (px rfl) (by omega); rfl
    obtain rfl : a2 = true := by cases a2; exact absurd (px2 rfl) (by omega); rfl
    obtain rfl : b1 = true := by cases b1; exact absurd (py rfl) (by omega); rfl
    have ax : ab x = -x := by unfold ab; omega
    have ay : ab y = -y := by unfold ab; omega
    simp [sgn] at hq hr
    rw [ax, ay, Int.neg_mul, Int.mul_comm] at hd
    rw [ay] at h1
    subst hq
    subst hr
    refine ⟨fun h => euclid hy (by omega) h (by rw [ay]; omega), fun h h' => by omega, fun h _ => euclid hy (by rw [Int.add_mul, Int.one_mul]; omega) (by omega) (by rw [ay]; omega)⟩
  · obtain rfl : a1 = true := by cases a1; exact absurd (px rfl) (by omega); rfl
    obtain rfl : a2 = true := by cases a2; exact absurd (px2 rfl) (by omega); rfl
    obtain rfl : b1 = false := by cases b1; rfl; exact absurd (ny rfl) (by omega)
    have ax : ab x = -x := by unfold ab; omega
    have ay : ab y = y := by unfold ab; omega
    simp [sgn] at hq hr
    rw [ax, ay, Int.mul_comm] at hd
    rw [ay] at h1
    subst hq
    subst hr
    refine ⟨fun h => euclid hy (by rw [Int.neg_mul]; omega) h (by rw [ay]; omega), fun h _ => euclid hy (by rw [Int.sub_mul, Int.one_mul, Int.neg_mul]; omega) (by omega) (by rw [ay]; omega), fun h h' => by omega⟩
  · obtain rfl : a1 = false := by cases a1; rfl; exact absurd (nx rfl) (by omega)
    obtain rfl : a2 = false := by cases a2; rfl; exact absurd (nx2 rfl) (by omega)
    obtain rfl : b1 = true := by cases b1; exact absurd (py rfl) (by omega); rfl
    have ax : ab x = x := by unfold ab; omega
    have ay : ab y = -y := by unfold ab; omega
    simp [sgn] at hq hr
    rw [ax, ay, Int.neg_mul, Int.mul_comm] at hd
    rw [ay] at h1
    subst hq
    subst hr
    refine ⟨fun h => euclid hy (by rw [Int.neg_mul]; omega) h (by rw [ay]; omega), fun h _ => by omega, fun h _ => by omega⟩
  · obtain rfl : a1 = false := by cases a1; rfl; exact absurd (nx rfl) (by omega)
    obtain rfl : a2 = false := by cases a2; rfl; exact absurd (nx2 rfl) (by omega)
    obtain rfl : b1 = false := by cases b1; rfl; exact absurd (ny rfl) (by omega)
    have ax : ab x = x := by unfold ab; omega
    have ay : ab y = y := by unfold ab; omega
    simp [sgn] at hq hr
    rw [ax, ay, Int.mul_comm] at hd
    rw [ay] at h1
    subst hq
    subst hr
    refine ⟨fun h => euclid hy (by omega) h (by rw [ay]; omega), fun h _ => by omega, fun h _ => by omega⟩

set_option maxRecDepth 100000 in
set_option maxHeartbeats 8000000 in
theorem RDivModV {w : World} {v v' : Value} {x y : Int} (h : Num w v x) (h' : Num w v' y) (hx : ab x < pw 1000) (hy : ab y < pw 1000) : Calls Tryd.prog 59 #[v, v'] w (DivGives w x y) := by
  obtain ⟨n, ao, k, c, rfl⟩ := h.parts
  obtain ⟨n', ao', k', c', rfl⟩ := h'.parts
  have Bx := hidd hx
  have By := hidd hy
  clear hx hy
  obtain ⟨w0, hw0, XA, XB, X4, X5, HB⟩ := boxes4n w h h' 27
  go_enter Tryd.func59, Tryd.ntmps59
  go_upto_region 1 with (fail)
  rw [← hw0]
  clear hw0 h h'
  obtain ⟨na, aoa, kka, cca, ⟨a0, a1, a2, a3⟩, hNa⟩ := id XA
  obtain ⟨nb, aob, kkb, ccb, ⟨b0, b1, b2, b3⟩, hNb⟩ := id XB
  obtain ⟨xs, sx, cx, kx, zx, vx0, _, negx, posx⟩ := hNa.sign
  obtain ⟨ys, sy, cy, ky, zy, vy0, hky, negy, posy⟩ := hNb.sign
  by_cases hy0 : y = 0
  · obtain rfl := hky.2 hy0
    obtain ⟨nc, aoc, kkc, ccc, ⟨c0, c1, c2, c3⟩, hNc⟩ := id X4
    obtain ⟨nd, aod, kkd, ccd, ⟨d0, d1, d2, d3⟩, hNd⟩ := id X5
    have hbS := (((HB.setCell (p := ⟨w.heap.size + 1 + 1, 0, none⟩) (by show w.heap.size ≤ w.heap.size + 1 + 1; omega) (.bool false)).setCell (p := ⟨w.heap.size + 1 + 1, 1, none⟩) (by show w.heap.size ≤ w.heap.size + 1 + 1; omega) (.slice none 0 0)).setCell (p := ⟨w.heap.size + 1 + 1 + 1, 0, none⟩) (by show w.heap.size ≤ w.heap.size + 1 + 1 + 1; omega) (.bool false)).setCell (p := ⟨w.heap.size + 1 + 1 + 1, 1, none⟩) (by show w.heap.size ≤ w.heap.size + 1 + 1 + 1; omega) (.slice none 0 0)
    clear hky zx zy negx posx negy posy
    go_wp2
    refine bodyPost_ret (v := .tuple #[.agg #[.bool false, .slice none 0 0], .agg #[.bool false, .slice none 0 0], .int .i64 4]) ?_ rfl ⟨hbS, .inl ⟨hy0, rfl⟩⟩
    simp [results, Tryd.results59, go_sem, c0, c1, d0, d1]
  · have Hy0 := hidd hy0
    have hkb : ((kkb : Int) == 0) = false := by simp; exact fun h => hy0 (hky.1 h)
    have vy1 : 0 < val ys := by rcases (by omega : val ys = 0 ∨ 0 < val ys) with h | h; exact absurd (by rw [zy, h]; cases nb <;> rfl) hy0; exact h
    have Kq : Hid (ab (val xs / val ys) < pw 1000) := by have h1 := Int.ediv_le_self (val ys) vx0; have h2 := Int.ediv_nonneg vx0 (Int.le_of_lt vy1); show ab _ < _; rw [ab_of h2]; have h3 := Bx.out; rw [zx, ab_sgn, ab_of vx0] at h3; omega
    have Kr : Hid (ab (val xs % val ys) < pw 1000) := by have h1 := Int.emod_lt_of_pos (val xs) vy1; have h2 := Int.emod_nonneg (val xs) (Int.ne_of_gt vy1); show ab _ < _; rw [ab_of h2]; have h3 := By.out; rw [zy, ab_sgn, ab_of vy0] at h3; omega
    have Zx := hidd zx
    have Zy := hidd zy
    have Ny := hidd negy
    have Py := hidd posy
    have V0 := hidd vx0
    have V1 := hidd vy1
    clear hy0 hky zx zy negx posx negy posy vx0 vy0 vy1
    go_wp2_with fail
    clear hkb
    refine (divide_any _ _ _ _ _ _ _ xs ys sx sy cx cy V1.out (by omega) (by omega)).mono ?_
    rintro e w1 ⟨aq, lq, cq, qs, ar, lr, cr, rs, rfl, sq, sr, hlq, hlr, vq, vr, hb⟩
    have Vq := hidd vq
    have Vr := hidd vr
    clear vq vr
    clear a0 a1 a2 a3 hNa b0 b1 b2 b3 hNb
    clear sx sy
    replace XA := XA.mono hb
    replace XB := XB.mono hb
    replace X4 := X4.mono hb
    replace X5 := X5.mono hb
    replace HB := HB.trans (hb.mono HB.size)
    clear hb
    go_upto_region 4 with (fail)
    obtain ⟨w2, hw2, hI7⟩ : ∃ w2, w2 = w1.alloc (.cells #[.slice aq lq cq, .slice ar lr cr] 90) ∧ IntBox w2 w1.heap.size (.slice aq lq cq) (.slice ar lr cr) := ⟨_, rfl, IntBox.new _ _ _ _⟩
    rw [← hw2]
    have hb : Below w1.heap.size w1 w2 := by rw [hw2]; exact alloc_below _ _
    have hlt1 := X5.lt
    clear hw2
    replace XA := XA.mono hb
    replace XB := XB.mono hb
    replace X4 := X4.mono hb
    replace X5 := X5.mono hb
    replace HB := HB.trans (hb.mono HB.size)
    replace sq := sq.mono hb
    replace sr := sr.mono hb
    clear hb
    obtain ⟨g7, hg7⟩ : ∃ g7, g7 = w1.heap.size := ⟨_, rfl⟩
    rw [← hg7] at hI7 hlt1
    rw [← hg7]
    clear hg7
    have hlt2 := hI7.lt
    obtain ⟨na, aoa, kka, cca, ⟨a0, a1, a2, a3⟩, hNa⟩ := id XA
    obtain ⟨nb, aob, kkb, ccb, ⟨b0, b1, b2, b3⟩, hNb⟩ := id XB
    have hI7c := hI7
    obtain ⟨i0, i1, _, _⟩ := hI7
    go_wp2_with fail
    obtain ⟨_, _, _, _, _, _, _, negx, posx⟩ := hNa.sign
    obtain ⟨_, _, _, _, _, _, _, negy, posy⟩ := hNb.sign
    have Nx := hidd negx
    have Px := hidd posx
    have Ny2 := hidd negy
    have Py2 := hidd posy
    clear negx posx negy posy
    have Ax : Hid (val xs = ab x) := by show val xs = ab x; rw [Zx.out, ab_sgn, ab_of V0.out]
    have Ay : Hid (val ys = ab y) := by show val ys = ab y; rw [Zy.out, ab_sgn, ab_of (Int.le_of_lt V1.out)]
    obtain ⟨q0, hq0⟩ : ∃ q0, q0 = sgn (!na == nb) (val qs) := ⟨_, rfl⟩
    have Bq0 : Hid (ab q0 < pw 1000) := by show ab q0 < _; rw [hq0, ab_sgn, Vq.out]; exact Kq.out
    have Hq0 := hidd hq0
    clear hq0
    refine (exKP (z := q0) (by rw [Hq0.out]; exact made_any _ _ _ _ _ _ sq (by omega)) Bq0.out (by omega)).mono ?_
    rintro e w3 ⟨n3', ao3, kk3, c3', rfl, hb, hN3⟩
    replace hI7c := hI7c.mono hb hlt2
    have hlt3 := hb.size
    clear a0 a1 a2 a3 hNa b0 b1 b2 b3 hNb
    clear i0 i1
    replace XA := XA.mono hb
    replace XB := XB.mono hb
    replace X4 := X4.mono hb
    replace X5 := X5.mono hb
    replace HB := HB.trans (hb.mono HB.size)
    replace sr := sr.mono hb
    clear hb
    replace hlt2 : g7 < w3.heap.size := by omega
    clear hlt3
    go_upto_region 5 with (fail)
    obtain ⟨w11, hw11, hb, p1⟩ := boxOne hN3 27
    rw [← hw11]
    clear hw11
    replace hI7c := hI7c.mono hb hlt2
    have hsz1 := hb.size
    replace XA := XA.mono hb
    replace XB := XB.mono hb
    replace X4 := X4.mono hb
    replace X5 := X5.mono hb
    replace HB := HB.trans (hb.mono HB.size)
    replace sr := sr.mono hb
    clear hb
    obtain ⟨g8, hg8⟩ : ∃ g, g = w3.heap.size := ⟨_, rfl⟩
    rw [← hg8] at p1 hlt2 hsz1
    rw [← hg8]
    clear hg8
    have X8 := p1
    have hlt8 := hlt2
    replace hlt2 : g7 < w11.heap.size := by omega
    clear p1 hsz1
    obtain ⟨na, aoa, kka, cca, ⟨a0, a1, a2, a3⟩, hNa⟩ := id XA
    have hI7d := hI7c
    obtain ⟨i0, i1, _, _⟩ := hI7c
    rename IntBox _ g7 _ _ => hI7c
    obtain ⟨_, _, _, _, _, _, _, negx, posx⟩ := hNa.sign
    have Nx2 := hidd negx
    have Px2 := hidd posx
    clear negx posx
    go_wp2_with fail
    obtain ⟨r0, hr0⟩ : ∃ r0, r0 = sgn na (val rs) := ⟨_, rfl⟩
    have Br0 : Hid (ab r0 < pw 1000) := by show ab r0 < _; rw [hr0, ab_sgn, Vr.out]; exact Kr.out
    have Hr0 := hidd hr0
    clear hr0
    refine (exKP (z := r0) (by rw [Hr0.out]; exact made_any _ _ _ _ _ _ sr (by omega)) Br0.out (by omega)).mono ?_
    rintro e w4 ⟨n4', ao4, kk4, c4', rfl, hb, hN4⟩
    replace hI7c := hI7c.mono hb hlt2
    have hlt3 := hb.size
    clear a0 a1 a2 a3 hNa
    clear i0 i1 sr sq
    replace XA := XA.mono hb
    replace XB := XB.mono hb
    replace X4 := X4.mono hb
    replace X5 := X5.mono hb
    replace X8 := X8.mono hb
    replace HB := HB.trans (hb.mono HB.size)
    clear hb
    replace hlt2 : g7 < w4.heap.size := by omega
    have hlt38 : g8 < w4.heap.size := X8.lt
    clear hlt3
    go_upto_region 6 with (fail)
    obtain ⟨w12, hw12, hb, p2⟩ := boxOne hN4 27
    rw [← hw12]
    clear hw12
    replace hI7c := hI7c.mono hb hlt2
    have hsz2 := hb.size
    replace XA := XA.mono hb
    replace XB := XB.mono hb
    replace X4 := X4.mono hb
    replace X5 := X5.mono hb
    replace X8 := X8.mono hb
    replace HB := HB.trans (hb.mono HB.size)
    clear hb
    obtain ⟨g9, hg9⟩ : ∃ g, g = w4.heap.size := ⟨_, rfl⟩
    rw [← hg9] at p2 hlt2 hsz2 hlt38
    rw [← hg9]
    clear hg9
    have X9 := p2
    have hlt9 := hlt2
    replace hlt2 : g7 < w12.heap.size := by omega
    clear p2 hsz2
    have hord : w.heap.size + 1 + 1 + 1 < g7 ∧ g7 < g8 ∧ g8 < g9 := by omega
    obtain ⟨ho7, ho8, ho9⟩ := hord
    clear hlt1 hlt2 hlt8 hlt9 hlt38 hI7c
    obtain ⟨nf, aof, kkf, ccf, ⟨f0, f1, f2, f3⟩, hNf⟩ := id X9
    obtain ⟨_, _, _, _, _, _, _, negr, posr⟩ := hNf.sign
    have Nr := hidd negr
    have Pr := hidd posr
    clear negr posr
    cases nf
    · go_wp2
      have hEu : q0 = x / y ∧ r0 = x % y := by
        have hA := Ax.out
        have hB := Ay.out
        have h1 := Vq.out
        have h2 := Vr.out
        rw [hA, hB] at h1 h2
        have hq := Hq0.out
        have hr := Hr0.out
        rw [h1] at hq
        rw [h2] at hr
        have hv := V1.out
        rw [hB] at hv
        have hd := Int.mul_ediv_add_emod (ab x) (ab y)
        have hm0 := Int.emod_nonneg (ab x) (show ab y ≠ 0 by omega)
        have hm1 := Int.emod_lt_of_pos (ab x) hv
        have D := dm_end Hy0.out hd hm0 hm1 Nx.out Px.out Nx2.out Px2.out Ny2.out Py2.out hq hr
        have pr := Pr.out
        exact D.1 (by simpa using pr)
      have HEu := hidd hEu
      clear hEu
      have hlast := X9.lt
      have hp : (plan [Fc.num q0, Fc.num r0, Fc.any, Fc.any, Fc.is (.int .i64 (0))] [(w.heap.size, 1000, x, x), ((w.heap.size + 1), 1001, y, y), ((w.heap.size + 1 + 1), 2, 0, q0), ((w.heap.size + 1 + 1 + 1), 3, 0, r0), (g8, 1004, q0, q0), (g9, 1005, r0, r0)] []).Ok w.heap.size w12.heap.size := plan_ok (by simp; omega) (by simp; try omega) (by simp) (by omega)
      have hm := PMono.of hp
      refine region_steps (p := (plan [Fc.num q0, Fc.num r0, Fc.any, Fc.any, Fc.is (.int .i64 (0))] [(w.heap.size, 1000, x, x), ((w.heap.size + 1), 1001, y, y), ((w.heap.size + 1 + 1), 2, 0, q0), ((w.heap.size + 1 + 1 + 1), 3, 0, r0), (g8, 1004, q0, q0), (g9, 1005, r0, r0)] [])) (B := w.heap.size) (B0 := w12.heap.size) (w0 := w) (by kernel_rfl) rfl rfl (plan_start (by simp; exact ⟨XA, XB, X4, X5, X8, X9⟩) HB) ⟨?_, ?_, ?_, ?_, ?_, trivial⟩ ?_
      · exact st_load (b := g8) (k := 1004) (z := q0) (z' := q0) hp (by simp [plan]) (.inl rfl) rfl rfl (fun v w h => h) ⟨by simp [plan], by simp [plan]⟩
      · exact st_load (b := g9) (k := 1005) (z := r0) (z' := r0) hp (by simp [plan]) (.inl rfl) rfl rfl (fun v w h => h) ⟨by simp [plan], by simp [plan]⟩
      · exact st_storeOld (b := (w.heap.size + 1 + 1)) (j := 0) (z := 0) (z' := q0) hp rfl (by simp [plan]) rfl rfl rfl (by simp) rfl (fun v w h => h) (fun _ _ => trivial) (by simp [plan]) (by simp [plan])
      · exact st_storeOld (b := (w.heap.size + 1 + 1 + 1)) (j := 1) (z := 0) (z' := r0) hp rfl (by simp [plan]) rfl rfl rfl (by simp) rfl (fun v w h => h) (fun _ _ => trivial) (by simp [plan]) (by simp [plan])
      · exact g_assign hm ⟨by simp [plan], by simp [plan]⟩ trivial (src_const (fun _ => rfl))
      intro L vs w3 hL hG
      replace XA : BoxNum w3 w.heap.size x := by have := hG.old (w.heap.size, 1000, x, x) (by simp [plan]); simpa using this
      replace XB : BoxNum w3 (w.heap.size + 1) y := by have := hG.old ((w.heap.size + 1), 1001, y, y) (by simp [plan]); simpa using this
      replace X4 : BoxNum w3 (w.heap.size + 1 + 1) q0 := by have := hG.old ((w.heap.size + 1 + 1), 2, 0, q0) (by simp [plan]); simpa [hL 2 (by simp)] using this
      replace X5 : BoxNum w3 (w.heap.size + 1 + 1 + 1) r0 := by have := hG.old ((w.heap.size + 1 + 1 + 1), 3, 0, r0) (by simp [plan]); simpa [hL 3 (by simp)] using this
      replace X8 : BoxNum w3 g8 q0 := by have := hG.old (g8, 1004, q0, q0) (by simp [plan]); simpa using this
      replace X9 : BoxNum w3 g9 r0 := by have := hG.old (g9, 1005, r0, r0) (by simp [plan]); simpa using this
      have e4 : vs 4 = .int .i64 (0) := hG.val 4 (hL 4 (by simp))
      replace HB := hG.below
      rw [lay_all hL]
      simp only [putAll, dstOf, List.length_cons, List.length_nil, Nat.zero_add, Nat.reduceAdd, List.getElem?_toArray, List.getElem?_cons_zero, List.getElem?_cons_succ, Option.bind_some, Act.put, List.setIfInBounds_toArray, List.set_cons_succ, List.set_cons_zero]
      rw [e4]
      generalize vs 0 = u3_0
      generalize vs 1 = u3_1
      clear hG hm hp hL hlast vs L e4
      obtain ⟨nc, aoc, kkc, ccc, ⟨c0, c1, c2, c3⟩, hNc⟩ := id X4
      obtain ⟨nd, aod, kkd, ccd, ⟨d0, d1, d2, d3⟩, hNd⟩ := id X5
      go_wp2
      refine bodyPost_ret (v := .tuple #[.agg #[.bool nc, .slice aoc kkc ccc], .agg #[.bool nd, .slice aod kkd ccd], .int .i64 0]) ?_ rfl ⟨HB, .inr ⟨Hy0.out, _, _, rfl, by rw [← HEu.out.1]; exact hNc.isInt, by rw [← HEu.out.2]; exact hNd.isInt⟩⟩
      simp [results, Tryd.results59, go_sem, c0, c1, d0, d1]
    · go_wp2
      have B4 : Hid (ab ((Int.natAbs y : Int)) < pw 1000) := ab_absB By.out
      have B5 : Hid (ab ((r0 + (Int.natAbs y : Int))) < pw 1001) := ab_addB Br0.out B4.out (by omega) (by omega)
      have hlast := X9.lt
      have hp : (plan [Fc.num r0, Fc.num y, Fc.num (Int.natAbs y : Int), Fc.num (r0 + (Int.natAbs y : Int)), Fc.any] [(w.heap.size, 1000, x, x), ((w.heap.size + 1), 1001, y, y), ((w.heap.size + 1 + 1), 1002, 0, 0), ((w.heap.size + 1 + 1 + 1), 1003, 0, 0), (g8, 1004, q0, q0), (g9, 4, r0, (r0 + (Int.natAbs y : Int)))] []).Ok w.heap.size w12.heap.size := plan_ok (by simp; omega) (by simp; try omega) (by simp) (by omega)
      have hm := PMono.of hp
      refine region_steps (p := (plan [Fc.num r0, Fc.num y, Fc.num (Int.natAbs y : Int), Fc.num (r0 + (Int.natAbs y : Int)), Fc.any] [(w.heap.size, 1000, x, x), ((w.heap.size + 1), 1001, y, y), ((w.heap.size + 1 + 1), 1002, 0, 0), ((w.heap.size + 1 + 1 + 1), 1003, 0, 0), (g8, 1004, q0, q0), (g9, 4, r0, (r0 + (Int.natAbs y : Int)))] [])) (B := w.heap.size) (B0 := w12.heap.size) (w0 := w) (by kernel_rfl) rfl rfl (plan_start (by simp; exact ⟨XA, XB, X4, X5, X8, X9⟩) HB) ⟨?_, ?_, ?_, ?_, ?_, trivial⟩ ?_
      · exact st_load (b := g9) (k := 4) (z := r0) (z' := (r0 + (Int.natAbs y : Int))) hp (by simp [plan]) (.inr rfl) rfl rfl (fun v w h => h) ⟨by simp [plan], by simp [plan]⟩
      · exact st_load (b := (w.heap.size + 1)) (k := 1001) (z := y) (z' := y) hp (by simp [plan]) (.inl rfl) rfl rfl (fun v w h => h) ⟨by simp [plan], by simp [plan]⟩
      · exact g_call1 (F := (Fc.num y).P) hm ⟨by simp [plan], by simp [plan]⟩ trivial enter_rAbs (src_in 1 rfl rfl (by simp) rfl (fun v w h => h)) (fun v w h => exK (RAbsV h) B4.out (by omega))
      · exact g_call2 (F := (Fc.num r0).P) (G := (Fc.num (Int.natAbs y : Int)).P) hm ⟨by simp [plan], by simp [plan]⟩ trivial enter_rAdd (src_in 0 rfl rfl (by simp) rfl (fun v w h => h)) (src_in 2 rfl rfl (by simp) rfl (fun v w h => h)) (fun v v' w h h' => exK (RAddV h h') B5.out (by omega))
      · exact st_storeOld (b := g9) (j := 3) (z := r0) (z' := (r0 + (Int.natAbs y : Int))) hp rfl (by simp [plan]) rfl rfl rfl (by simp) rfl (fun v w h => h) (fun _ _ => trivial) (by simp [plan]) (by simp [plan])
      intro L vs w6 hL hG
      replace XA : BoxNum w6 w.heap.size x := by have := hG.old (w.heap.size, 1000, x, x) (by simp [plan]); simpa using this
      replace XB : BoxNum w6 (w.heap.size + 1) y := by have := hG.old ((w.heap.size + 1), 1001, y, y) (by simp [plan]); simpa using this
      replace X4 : BoxNum w6 (w.heap.size + 1 + 1) 0 := by have := hG.old ((w.heap.size + 1 + 1), 1002, 0, 0) (by simp [plan]); simpa using this
      replace X5 : BoxNum w6 (w.heap.size + 1 + 1 + 1) 0 := by have := hG.old ((w.heap.size + 1 + 1 + 1), 1003, 0, 0) (by simp [plan]); simpa using this
      replace X8 : BoxNum w6 g8 q0 := by have := hG.old (g8, 1004, q0, q0) (by simp [plan]); simpa using this
      replace X9 : BoxNum w6 g9 (r0 + (Int.natAbs y : Int)) := by have := hG.old (g9, 4, r0, (r0 + (Int.natAbs y : Int))) (by simp [plan]); simpa [hL 4 (by simp)] using this
      replace HB := hG.below
      rw [lay_all hL]
      simp only [putAll, dstOf, List.length_cons, List.length_nil, Nat.zero_add, Nat.reduceAdd, List.getElem?_toArray, List.getElem?_cons_zero, List.getElem?_cons_succ, Option.bind_some, Act.put, List.setIfInBounds_toArray, List.set_cons_succ, List.set_cons_zero]
      generalize vs 0 = u6_0
      generalize vs 1 = u6_1
      generalize vs 2 = u6_2
      generalize vs 3 = u6_3
      clear hG hm hp hL hlast vs L 
      obtain ⟨nb, aob, kkb, ccb, ⟨b0, b1, b2, b3⟩, hNb⟩ := id XB
      obtain ⟨_, _, _, _, _, _, _, negy, posy⟩ := hNb.sign
      have Ny3 := hidd negy
      have Py3 := hidd posy
      clear negy posy
      cases nb
      · go_wp2
        have B7 : Hid (ab (1) < pw 2) := by show ab (1) < pw 2; decide
        have B8 : Hid (ab ((q0 - (1))) < pw 1001) := ab_subB Bq0.out B7.out (by omega) (by omega)
        have hlast := X9.lt
        have hp : (plan [Fc.num q0, Fc.num (1), Fc.num (q0 - (1)), Fc.any] [(w.heap.size, 1000, x, x), ((w.heap.size + 1), 1001, y, y), ((w.heap.size + 1 + 1), 1002, 0, 0), ((w.heap.size + 1 + 1 + 1), 1003, 0, 0), (g8, 3, q0, (q0 - (1))), (g9, 1005, (r0 + (Int.natAbs y : Int)), (r0 + (Int.natAbs y : Int)))] []).Ok w.heap.size w6.heap.size := plan_ok (by simp; omega) (by simp; try omega) (by simp) (by omega)
        have hm := PMono.of hp
        refine region_steps (p := (plan [Fc.num q0, Fc.num (1), Fc.num (q0 - (1)), Fc.any] [(w.heap.size, 1000, x, x), ((w.heap.size + 1), 1001, y, y), ((w.heap.size + 1 + 1), 1002, 0, 0), ((w.heap.size + 1 + 1 + 1), 1003, 0, 0), (g8, 3, q0, (q0 - (1))), (g9, 1005, (r0 + (Int.natAbs y : Int)), (r0 + (Int.natAbs y : Int)))] [])) (B := w.heap.size) (B0 := w6.heap.size) (w0 := w) (by kernel_rfl) rfl rfl (plan_start (by simp; exact ⟨XA, XB, X4, X5, X8, X9⟩) HB) ⟨?_, ?_, ?_, ?_, trivial⟩ ?_
        · exact st_load (b := g8) (k := 3) (z := q0) (z' := (q0 - (1))) hp (by simp [plan]) (.inr rfl) rfl rfl (fun v w h => h) ⟨by simp [plan], by simp [plan]⟩
        · exact g_callC hm ⟨by simp [plan], by simp [plan]⟩ trivial enter_rOf (fun w => rOfV w (1) (by omega) (by omega))
        · exact g_call2 (F := (Fc.num q0).P) (G := (Fc.num (1)).P) hm ⟨by simp [plan], by simp [plan]⟩ trivial enter_rSub (src_in 0 rfl rfl (by simp) rfl (fun v w h => h)) (src_in 1 rfl rfl (by simp) rfl (fun v w h => h)) (fun v v' w h h' => exK (RSubV h h' (K := 1000) (Int.lt_of_lt_of_le Bq0.out (pw_le (by omega))) (Int.lt_of_lt_of_le B7.out (pw_le (by omega))) (by omega)) B8.out (by omega))
        · exact st_storeOld (b := g8) (j := 2) (z := q0) (z' := (q0 - (1))) hp rfl (by simp [plan]) rfl rfl rfl (by simp) rfl (fun v w h => h) (fun _ _ => trivial) (by simp [plan]) (by simp [plan])
        intro L vs w9 hL hG
        replace XA : BoxNum w9 w.heap.size x := by have := hG.old (w.heap.size, 1000, x, x) (by simp [plan]); simpa using this
        replace XB : BoxNum w9 (w.heap.size + 1) y := by have := hG.old ((w.heap.size + 1), 1001, y, y) (by simp [plan]); simpa using this
        replace X4 : BoxNum w9 (w.heap.size + 1 + 1) 0 := by have := hG.old ((w.heap.size + 1 + 1), 1002, 0, 0) (by simp [plan]); simpa using this
        replace X5 : BoxNum w9 (w.heap.size + 1 + 1 + 1) 0 := by have := hG.old ((w.heap.size + 1 + 1 + 1), 1003, 0, 0) (by simp [plan]); simpa using this
        replace X8 : BoxNum w9 g8 (q0 - (1)) := by have := hG.old (g8, 3, q0, (q0 - (1))) (by simp [plan]); simpa [hL 3 (by simp)] using this
        replace X9 : BoxNum w9 g9 (r0 + (Int.natAbs y : Int)) := by have := hG.old (g9, 1005, (r0 + (Int.natAbs y : Int)), (r0 + (Int.natAbs y : Int))) (by simp [plan]); simpa using this
        replace HB := hG.below
        rw [lay_all hL]
        simp only [putAll, dstOf, List.length_cons, List.length_nil, Nat.zero_add, Nat.reduceAdd, List.getElem?_toArray, List.getElem?_cons_zero, List.getElem?_cons_succ, Option.bind_some, Act.put, List.setIfInBounds_toArray, List.set_cons_succ, List.set_cons_zero]
        generalize vs 0 = u9_0
        generalize vs 1 = u9_1
        generalize vs 2 = u9_2
        clear hG hm hp hL hlast vs L 
        go_wp2
        have hEu : (q0 - (1)) = x / y ∧ (r0 + (Int.natAbs y : Int)) = x % y := by
          have hA := Ax.out
          have hB := Ay.out
          have h1 := Vq.out
          have h2 := Vr.out
          rw [hA, hB] at h1 h2
          have hq := Hq0.out
          have hr := Hr0.out
          rw [h1] at hq
          rw [h2] at hr
          have hv := V1.out
          rw [hB] at hv
          have hd := Int.mul_ediv_add_emod (ab x) (ab y)
          have hm0 := Int.emod_nonneg (ab x) (show ab y ≠ 0 by omega)
          have hm1 := Int.emod_lt_of_pos (ab x) hv
          have D := dm_end Hy0.out hd hm0 hm1 Nx.out Px.out Nx2.out Px2.out Ny2.out Py2.out hq hr
          have nr := Nr.out
          have ny3 := Ny3.out
          have py3 := Py3.out
          exact D.2.1 (by simpa using nr) (by simpa using py3)
        have HEu := hidd hEu
        clear hEu
        have hlast := X9.lt
        have hp : (plan [Fc.num (q0 - (1)), Fc.num (r0 + (Int.natAbs y : Int)), Fc.any, Fc.any, Fc.is (.int .i64 (0))] [(w.heap.size, 1000, x, x), ((w.heap.size + 1), 1001, y, y), ((w.heap.size + 1 + 1), 2, 0, (q0 - (1))), ((w.heap.size + 1 + 1 + 1), 3, 0, (r0 + (Int.natAbs y : Int))), (g8, 1004, (q0 - (1)), (q0 - (1))), (g9, 1005, (r0 + (Int.natAbs y : Int)), (r0 + (Int.natAbs y : Int)))] []).Ok w.heap.size w9.heap.size := plan_ok (by simp; omega) (by simp; try omega) (by simp) (by omega)
        have hm := PMono.of hp
        refine region_steps (p := (plan [Fc.num (q0 - (1)), Fc.num (r0 + (Int.natAbs y : Int)), Fc.any, Fc.any, Fc.is (.int .i64 (0))] [(w.heap.size, 1000, x, x), ((w.heap.size + 1), 1001, y, y), ((w.heap.size + 1 + 1), 2, 0, (q0 - (1))), ((w.heap.size + 1 + 1 + 1), 3, 0, (r0 + (Int.natAbs y : Int))), (g8, 1004, (q0 - (1)), (q0 - (1))), (g9, 1005, (r0 + (Int.natAbs y : Int)), (r0 + (Int.natAbs y : Int)))] [])) (B := w.heap.size) (B0 := w9.heap.size) (w0 := w) (by kernel_rfl) rfl rfl (plan_start (by simp; exact ⟨XA, XB, X4, X5, X8, X9⟩) HB) ⟨?_, ?_, ?_, ?_, ?_, trivial⟩ ?_
        · exact st_load (b := g8) (k := 1004) (z := (q0 - (1))) (z' := (q0 - (1))) hp (by simp [plan]) (.inl rfl) rfl rfl (fun v w h => h) ⟨by simp [plan], by simp [plan]⟩
        · exact st_load (b := g9) (k := 1005) (z := (r0 + (Int.natAbs y : Int))) (z' := (r0 + (Int.natAbs y : Int))) hp (by simp [plan]) (.inl rfl) rfl rfl (fun v w h => h) ⟨by simp [plan], by simp [plan]⟩
        · exact st_storeOld (b := (w.heap.size + 1 + 1)) (j := 0) (z := 0) (z' := (q0 - (1))) hp rfl (by simp [plan]) rfl rfl rfl (by simp) rfl (fun v w h => h) (fun _ _ => trivial) (by simp [plan]) (by simp [plan])
        · exact st_storeOld (b := (w.heap.size + 1 + 1 + 1)) (j := 1) (z := 0) (z' := (r0 + (Int.natAbs y : Int))) hp rfl (by simp [plan]) rfl rfl rfl (by simp) rfl (fun v w h => h) (fun _ _ => trivial) (by simp [plan]) (by simp [plan])
        · exact g_assign hm ⟨by simp [plan], by simp [plan]⟩ trivial (src_const (fun _ => rfl))
        intro L vs w10 hL hG
        replace XA : BoxNum w10 w.heap.size x := by have := hG.old (w.heap.size, 1000, x, x) (by simp [plan]); simpa using this
        replace XB : BoxNum w10 (w.heap.size + 1) y := by have := hG.old ((w.heap.size + 1), 1001, y, y) (by simp [plan]); simpa using this
        replace X4 : BoxNum w10 (w.heap.size + 1 + 1) (q0 - (1)) := by have := hG.old ((w.heap.size + 1 + 1), 2, 0, (q0 - (1))) (by simp [plan]); simpa [hL 2 (by simp)] using this
        replace X5 : BoxNum w10 (w.heap.size + 1 + 1 + 1) (r0 + (Int.natAbs y : Int)) := by have := hG.old ((w.heap.size + 1 + 1 + 1), 3, 0, (r0 + (Int.natAbs y : Int))) (by simp [plan]); simpa [hL 3 (by simp)] using this
        replace X8 : BoxNum w10 g8 (q0 - (1)) := by have := hG.old (g8, 1004, (q0 - (1)), (q0 - (1))) (by simp [plan]); simpa using this
        replace X9 : BoxNum w10 g9 (r0 + (Int.natAbs y : Int)) := by have := hG.old (g9, 1005, (r0 + (Int.natAbs y : Int)), (r0 + (Int.natAbs y : Int))) (by simp [plan]); simpa using this
        have e4 : vs 4 = .int .i64 (0) := hG.val 4 (hL 4 (by simp))
        replace HB := hG.below
        rw [lay_all hL]
        simp only [putAll, dstOf, List.length_cons, List.length_nil, Nat.zero_add, Nat.reduceAdd, List.getElem?_toArray, List.getElem?_cons_zero, List.getElem?_cons_succ, Option.bind_some, Act.put, List.setIfInBounds_toArray, List.set_cons_succ, List.set_cons_zero]
        rw [e4]
        generalize vs 0 = u10_0
        generalize vs 1 = u10_1
        clear hG hm hp hL hlast vs L e4
        obtain ⟨nc, aoc, kkc, ccc, ⟨c0, c1, c2, c3⟩, hNc⟩ := id X4
        obtain ⟨nd, aod, kkd, ccd, ⟨d0, d1, d2, d3⟩, hNd⟩ := id X5
        go_wp2
        refine bodyPost_ret (v := .tuple #[.agg #[.bool nc, .slice aoc kkc ccc], .agg #[.bool nd, .slice aod kkd ccd], .int .i64 0]) ?_ rfl ⟨HB, .inr ⟨Hy0.out, _, _, rfl, by rw [← HEu.out.1]; exact hNc.isInt, by rw [← HEu.out.2]; exact hNd.isInt⟩⟩
        simp [results, Tryd.results59, go_sem, c0, c1, d0, d1]
      · go_wp2
        have B11 : Hid (ab (1) < pw 2) := by show ab (1) < pw 2; decide
        have B12 : Hid (ab ((q0 + (1))) < pw 1001) := ab_addB Bq0.out B11.out (by omega) (by omega)
        have hlast := X9.lt
        have hp : (plan [Fc.num q0, Fc.num (1), Fc.num (q0 + (1)), Fc.any] [(w.heap.size, 1000, x, x), ((w.heap.size + 1), 1001, y, y), ((w.heap.size + 1 + 1), 1002, 0, 0), ((w.heap.size + 1 + 1 + 1), 1003, 0, 0), (g8, 3, q0, (q0 + (1))), (g9, 1005, (r0 + (Int.natAbs y : Int)), (r0 + (Int.natAbs y : Int)))] []).Ok w.heap.size w6.heap.size := plan_ok (by simp; omega) (by simp; try omega) (by simp) (by omega)
        have hm := PMono.of hp
        refine region_steps (p := (plan [Fc.num q0, Fc.num (1), Fc.num (q0 + (1)), Fc.any] [(w.heap.size, 1000, x, x), ((w.heap.size + 1), 1001, y, y), ((w.heap.size + 1 + 1), 1002, 0, 0), ((w.heap.size + 1 + 1 + 1), 1003, 0, 0), (g8, 3, q0, (q0 + (1))), (g9, 1005, (r0 + (Int.natAbs y : Int)), (r0 + (Int.natAbs y : Int)))] [])) (B := w.heap.size) (B0 := w6.heap.size) (w0 := w) (by kernel_rfl) rfl rfl (plan_start (by simp; exact ⟨XA, XB, X4, X5, X8, X9⟩) HB) ⟨?_, ?_, ?_, ?_, trivial⟩ ?_
        · exact st_load (b := g8) (k := 3) (z := q0) (z' := (q0 + (1))) hp (by simp [plan]) (.inr rfl) rfl rfl (fun v w h => h) ⟨by simp [plan], by simp [plan]⟩
        · exact g_callC hm ⟨by simp [plan], by simp [plan]⟩ trivial enter_rOf (fun w => rOfV w (1) (by omega) (by omega))
        · exact g_call2 (F := (Fc.num q0).P) (G := (Fc.num (1)).P) hm ⟨by simp [plan], by simp [plan]⟩ trivial enter_rAdd (src_in 0 rfl rfl (by simp) rfl (fun v w h => h)) (src_in 1 rfl rfl (by simp) rfl (fun v w h => h)) (fun v v' w h h' => exK (RAddV h h') B12.out (by omega))
        · exact st_storeOld (b := g8) (j := 2) (z := q0) (z' := (q0 + (1))) hp rfl (by simp [plan]) rfl rfl rfl (by simp) rfl (fun v w h => h) (fun _ _ => trivial) (by simp [plan]) (by simp [plan])
        intro L vs w13 hL hG
        replace XA : BoxNum w13 w.heap.size x := by have := hG.old (w.heap.size, 1000, x, x) (by simp [plan]); simpa using this
        replace XB : BoxNum w13 (w.heap.size + 1) y := by have := hG.old ((w.heap.size + 1), 1001, y, y) (by simp [plan]); simpa using this
        replace X4 : BoxNum w13 (w.heap.size + 1 + 1) 0 := by have := hG.old ((w.heap.size + 1 + 1), 1002, 0, 0) (by simp [plan]); simpa using this
        replace X5 : BoxNum w13 (w.heap.size + 1 + 1 + 1) 0 := by have := hG.old ((w.heap.size + 1 + 1 + 1), 1003, 0, 0) (by simp [plan]); simpa using this
        replace X8 : BoxNum w13 g8 (q0 + (1)) := by have := hG.old (g8, 3, q0, (q0 + (1))) (by simp [plan]); simpa [hL 3 (by simp)] using this
        replace X9 : BoxNum w13 g9 (r0 + (Int.natAbs y : Int)) := by have := hG.old (g9, 1005, (r0 + (Int.natAbs y : Int)), (r0 + (Int.natAbs y : Int))) (by simp [plan]); simpa using this
        replace HB := hG.below
        rw [lay_all hL]
        simp only [putAll, dstOf, List.length_cons, List.length_nil, Nat.zero_add, Nat.reduceAdd, List.getElem?_toArray, List.getElem?_cons_zero, List.getElem?_cons_succ, Option.bind_some, Act.put, List.setIfInBounds_toArray, List.set_cons_succ, List.set_cons_zero]
        generalize vs 0 = u13_0
        generalize vs 1 = u13_1
        generalize vs 2 = u13_2
        clear hG hm hp hL hlast vs L 
        go_wp2
        have hEu : (q0 + (1)) = x / y ∧ (r0 + (Int.natAbs y : Int)) = x % y := by
          have hA := Ax.out
          have hB := Ay.out
          have h1 := Vq.out
          have h2 := Vr.out
          rw [hA, hB] at h1 h2
          have hq := Hq0.out
          have hr := Hr0.out
          rw [h1] at hq
          rw [h2] at hr
          have hv := V1.out
          rw [hB] at hv
          have hd := Int.mul_ediv_add_emod (ab x) (ab y)
          have hm0 := Int.emod_nonneg (ab x) (show ab y ≠ 0 by omega)
          have hm1 := Int.emod_lt_of_pos (ab x) hv
          have D := dm_end Hy0.out hd hm0 hm1 Nx.out Px.out Nx2.out Px2.out Ny2.out Py2.out hq hr
          have nr := Nr.out
          have ny3 := Ny3.out
          have py3 := Py3.out
          exact D.2.2 (by simpa using nr) (by simpa using ny3)
        have HEu := hidd hEu
        clear hEu
        have hlast := X9.lt
        have hp : (plan [Fc.num (q0 + (1)), Fc.num (r0 + (Int.natAbs y : Int)), Fc.any, Fc.any, Fc.is (.int .i64 (0))] [(w.heap.size, 1000, x, x), ((w.heap.size + 1), 1001, y, y), ((w.heap.size + 1 + 1), 2, 0, (q0 + (1))), ((w.heap.size + 1 + 1 + 1), 3, 0, (r0 + (Int.natAbs y : Int))), (g8, 1004, (q0 + (1)), (q0 + (1))), (g9, 1005, (r0 + (Int.natAbs y : Int)), (r0 + (Int.natAbs y : Int)))] []).Ok w.heap.size w13.heap.size := plan_ok (by simp; omega) (by simp; try omega) (by simp) (by omega)
        have hm := PMono.of hp
        refine region_steps (p := (plan [Fc.num (q0 + (1)), Fc.num (r0 + (Int.natAbs y : Int)), Fc.any, Fc.any, Fc.is (.int .i64 (0))] [(w.heap.size, 1000, x, x), ((w.heap.size + 1), 1001, y, y), ((w.heap.size + 1 + 1), 2, 0, (q0 + (1))), ((w.heap.size + 1 + 1 + 1), 3, 0, (r0 + (Int.natAbs y : Int))), (g8, 1004, (q0 + (1)), (q0 + (1))), (g9, 1005, (r0 + (Int.natAbs y : Int)), (r0 + (Int.natAbs y : Int)))] [])) (B := w.heap.size) (B0 := w13.heap.size) (w0 := w) (by kernel_rfl) rfl rfl (plan_start (by simp; exact ⟨XA, XB, X4, X5, X8, X9⟩) HB) ⟨?_, ?_, ?_, ?_, ?_, trivial⟩ ?_
        · exact st_load (b := g8) (k := 1004) (z := (q0 + (1))) (z' := (q0 + (1))) hp (by simp [plan]) (.inl rfl) rfl rfl (fun v w h => h) ⟨by simp [plan], by simp [plan]⟩
        · exact st_load (b := g9) (k := 1005) (z := (r0 + (Int.natAbs y : Int))) (z' := (r0 + (Int.natAbs y : Int))) hp (by simp [plan]) (.inl rfl) rfl rfl (fun v w h => h) ⟨by simp [plan], by simp [plan]⟩
        · exact st_storeOld (b := (w.heap.size + 1 + 1)) (j := 0) (z := 0) (z' := (q0 + (1))) hp rfl (by simp [plan]) rfl rfl rfl (by simp) rfl (fun v w h => h) (fun _ _ => trivial) (by simp [plan]) (by simp [plan])
        · exact st_storeOld (b := (w.heap.size + 1 + 1 + 1)) (j := 1) (z := 0) (z' := (r0 + (Int.natAbs y : Int))) hp rfl (by simp [plan]) rfl rfl rfl (by simp) rfl (fun v w h => h) (fun _ _ => trivial) (by simp [plan]) (by simp [plan])
        · exact g_assign hm ⟨by simp [plan], by simp [plan]⟩ trivial (src_const (fun _ => rfl))
        intro L vs w14 hL hG
        replace XA : BoxNum w14 w.heap.size x := by have := hG.old (w.heap.size, 1000, x, x) (by simp [plan]); simpa using this
        replace XB : BoxNum w14 (w.heap.size + 1) y := by have := hG.old ((w.heap.size + 1), 1001, y, y) (by simp [plan]); simpa using this
        replace X4 : BoxNum w14 (w.heap.size + 1 + 1) (q0 + (1)) := by have := hG.old ((w.heap.size + 1 + 1), 2, 0, (q0 + (1))) (by simp [plan]); simpa [hL 2 (by simp)] using this
        replace X5 : BoxNum w14 (w.heap.size + 1 + 1 + 1) (r0 + (Int.natAbs y : Int)) := by have := hG.old ((w.heap.size + 1 + 1 + 1), 3, 0, (r0 + (Int.natAbs y : Int))) (by simp [plan]); simpa [hL 3 (by simp)] using this
        replace X8 : BoxNum w14 g8 (q0 + (1)) := by have := hG.old (g8, 1004, (q0 + (1)), (q0 + (1))) (by simp [plan]); simpa using this
        replace X9 : BoxNum w14 g9 (r0 + (Int.natAbs y : Int)) := by have := hG.old (g9, 1005, (r0 + (Int.natAbs y : Int)), (r0 + (Int.natAbs y : Int))) (by simp [plan]); simpa using this
        have e4 : vs 4 = .int .i64 (0) := hG.val 4 (hL 4 (by simp))
        replace HB := hG.below
        rw [lay_all hL]
        simp only [putAll, dstOf, List.length_cons, List.length_nil, Nat.zero_add, Nat.reduceAdd, List.getElem?_toArray, List.getElem?_cons_zero, List.getElem?_cons_succ, Option.bind_some, Act.put, List.setIfInBounds_toArray, List.set_cons_succ, List.set_cons_zero]
        rw [e4]
        generalize vs 0 = u14_0
        generalize vs 1 = u14_1
        clear hG hm hp hL hlast vs L e4
        obtain ⟨nc, aoc, kkc, ccc, ⟨c0, c1, c2, c3⟩, hNc⟩ := id X4
        obtain ⟨nd, aod, kkd, ccd, ⟨d0, d1, d2, d3⟩, hNd⟩ := id X5
        go_wp2
        refine bodyPost_ret (v := .tuple #[.agg #[.bool nc, .slice aoc kkc ccc], .agg #[.bool nd, .slice aod kkd ccd], .int .i64 0]) ?_ rfl ⟨HB, .inr ⟨Hy0.out, _, _, rfl, by rw [← HEu.out.1]; exact hNc.isInt, by rw [← HEu.out.2]; exact hNd.isInt⟩⟩
        simp [results, Tryd.results59, go_sem, c0, c1, d0, d1]

set_option maxRecDepth 100000 in
set_option maxHeartbeats 8000000 in
theorem RDivV {w : World} {v v' : Value} {x y : Int} (h : Num w v x) (h' : Num w v' y) (hx : ab x < pw 1000) (hy : ab y < pw 1000) (hy0 : y ≠ 0) : Calls Tryd.prog 35 #[v, v'] w (GivesInt w (x / y)) := by
  obtain ⟨n, ao, k, c, rfl⟩ := h.parts
  obtain ⟨n', ao', k', c', rfl⟩ := h'.parts
  have Bx := hidd hx
  have By := hidd hy
  have Hy0 := hidd hy0
  clear hx hy hy0
  obtain ⟨w0, hw0, hXW, X4, HB, _⟩ := boxes3n w h h' 27
  obtain ⟨XA, XB, _⟩ := hXW w0 (Below.refl _ _)
  clear hXW
  go_enter Tryd.func35, Tryd.ntmps35
  go_upto_region 1 with (fail)
  rw [← hw0]
  clear hw0 h h'
  have hlt0 := X4.lt
  obtain ⟨na, aoa, kka, cca, ⟨a0, a1, a2, a3⟩, hNa⟩ := id XA
  obtain ⟨nb, aob, kkb, ccb, ⟨b0, b1, b2, b3⟩, hNb⟩ := id XB
  go_wp2_with fail
  refine (RDivModV hNa hNb Bx.out By.out).mono ?_
  rintro e w1 ⟨hb, ⟨h0, _⟩ | ⟨_, vq, vr, rfl, iq, ir⟩⟩
  · exact absurd h0 Hy0.out
  have Nq := num_of iq (ab_divB Bx.out (show 1000 < 1001 by omega)) (by omega)
  have Nr := num_of ir (ab_modB Hy0.out By.out) (by omega)
  obtain ⟨nq, aq, kq, cq, rfl⟩ := Nq.parts
  obtain ⟨nr, ar, kr, cr, rfl⟩ := Nr.parts
  clear iq ir
  clear a0 a1 a2 a3 hNa b0 b1 b2 b3 hNb
  replace XA := XA.mono hb
  replace XB := XB.mono hb
  replace X4 := X4.mono hb
  replace HB := HB.trans (hb.mono HB.size)
  clear hb
  go_upto_region 2 with (fail)
  obtain ⟨w2, hw2, hb, p5, p6⟩ := boxTwo Nq Nr 27
  rw [← hw2]
  clear hw2
  have hlt1 := X4.lt
  replace XA := XA.mono hb
  replace XB := XB.mono hb
  replace X4 := X4.mono hb
  replace HB := HB.trans (hb.mono HB.size)
  replace Nq := Nq.mono hb
  replace Nr := Nr.mono hb
  clear hb
  obtain ⟨ne, ae, ke, ce, ⟨e0, e1, _, _⟩, hNe⟩ := id p5
  obtain ⟨nc, aoc, kkc, ccc, ⟨c0, c1, c2, c3⟩, hNc⟩ := id X4
  have hNf := hNe.putBox X4 ne ae ke ce
  unfold putBox at hNf
  have hbS := (HB.setCell (p := ⟨w.heap.size + 1 + 1, 0, none⟩) (by show w.heap.size ≤ w.heap.size + 1 + 1; omega) (.bool ne)).setCell (p := ⟨w.heap.size + 1 + 1, 1, none⟩) (by show w.heap.size ≤ w.heap.size + 1 + 1; omega) (.slice ae ke ce)
  have hne1 : ¬ w1.heap.size = w.heap.size + 1 + 1 := by omega
  go_wp2
  refine bodyPost_ret (v := .agg #[.bool ne, .slice ae ke ce]) ?_ rfl ⟨_, rfl, hNf.isInt, hbS⟩
  simp [results, Tryd.results35, go_sem, c0, c1]

set_option maxRecDepth 100000 in
set_option maxHeartbeats 8000000 in
theorem RModV {w : World} {v v' : Value} {x y : Int} (h : Num w v x) (h' : Num w v' y) (hx : ab x < pw 1000) (hy : ab y < pw 1000) (hy0 : y ≠ 0) : Calls Tryd.prog 33 #[v, v'] w (GivesInt w (x % y)) := by
  obtain ⟨n, ao, k, c, rfl⟩ := h.parts
  obtain ⟨n', ao', k', c', rfl⟩ := h'.parts
  have Bx := hidd hx
  have By := hidd hy
  have Hy0 := hidd hy0
  clear hx hy hy0
  obtain ⟨w0, hw0, hXW, X4, HB, _⟩ := boxes3n w h h' 27
  obtain ⟨XA, XB, _⟩ := hXW w0 (Below.refl _ _)
  clear hXW
  go_enter Tryd.func33, Tryd.ntmps33
  go_upto_region 1 with (fail)
  rw [← hw0]
  clear hw0 h h'
  have hlt0 := X4.lt
  obtain ⟨na, aoa, kka, cca, ⟨a0, a1, a2, a3⟩, hNa⟩ := id XA
  obtain ⟨nb, aob, kkb, ccb, ⟨b0, b1, b2, b3⟩, hNb⟩ := id XB
  go_wp2_with fail
  refine (RDivModV hNa hNb Bx.out By.out).mono ?_
  rintro e w1 ⟨hb, ⟨h0, _⟩ | ⟨_, vq, vr, rfl, iq, ir⟩⟩
  · exact absurd h0 Hy0.out
  have Nq := num_of iq (ab_divB Bx.out (show 1000 < 1001 by omega)) (by omega)
  have Nr := num_of ir (ab_modB Hy0.out By.out) (by omega)
  obtain ⟨nq, aq, kq, cq, rfl⟩ := Nq.parts
  obtain ⟨nr, ar, kr, cr, rfl⟩ := Nr.parts
  clear iq ir
  clear a0 a1 a2 a3 hNa b0 b1 b2 b3 hNb
  replace XA := XA.mono hb
  replace XB := XB.mono hb
  replace X4 := X4.mono hb
  replace HB := HB.trans (hb.mono HB.size)
  clear hb
  go_upto_region 2 with (fail)
  obtain ⟨w2, hw2, hb, p5, p6⟩ := boxTwo Nq Nr 27
  rw [← hw2]
  clear hw2
  have hlt1 := X4.lt
  replace XA := XA.mono hb
  replace XB := XB.mono hb
  replace X4 := X4.mono hb
  replace HB := HB.trans (hb.mono HB.size)
  replace Nq := Nq.mono hb
  replace Nr := Nr.mono hb
  clear hb
  obtain ⟨ne, ae, ke, ce, ⟨e0, e1, _, _⟩, hNe⟩ := id p6
  obtain ⟨nc, aoc, kkc, ccc, ⟨c0, c1, c2, c3⟩, hNc⟩ := id X4
  have hNf := hNe.putBox X4 ne ae ke ce
  unfold putBox at hNf
  have hbS := (HB.setCell (p := ⟨w.heap.size + 1 + 1, 0, none⟩) (by show w.heap.size ≤ w.heap.size + 1 + 1; omega) (.bool ne)).setCell (p := ⟨w.heap.size + 1 + 1, 1, none⟩) (by show w.heap.size ≤ w.heap.size + 1 + 1; omega) (.slice ae ke ce)
  have hne1 : ¬ w1.heap.size = w.heap.size + 1 + 1 := by omega
  go_wp2
  refine bodyPost_ret (v := .agg #[.bool ne, .slice ae ke ce]) ?_ rfl ⟨_, rfl, hNf.isInt, hbS⟩
  simp [results, Tryd.results33, go_sem, c0, c1]

end Go.Proofs.YtnhapjifddhdiaaDoor

namespace Go.Proofs.YtnhapjifddhdiaaDoor
open Go Go.RowKit

end Go.Proofs.YtnhapjifddhdiaaDoor

namespace Go.Proofs.YtnhapjifddhdiaaDoor
open Go Go.RowKit

theorem enq_Add (args : Array Value) (w : World) : (callFunc 42 args).run Tryd.prog w = .ok (.enter 42 args) w := enter_of Tryd.func42 (by kernel_rfl) rfl args w
theorem enq_Mul (args : Array Value) (w : World) : (callFunc 56 args).run Tryd.prog w = .ok (.enter 56 args) w := enter_of Tryd.func56 (by kernel_rfl) rfl args w
theorem enq_Sub (args : Array Value) (w : World) : (callFunc 53 args).run Tryd.prog w = .ok (.enter 53 args) w := enter_of Tryd.func53 (by kernel_rfl) rfl args w
theorem enq_DivMod (args : Array Value) (w : World) : (callFunc 70 args).run Tryd.prog w = .ok (.enter 70 args) w := enter_of Tryd.func70 (by kernel_rfl) rfl args w
theorem enq_Cmp (args : Array Value) (w : World) : (callFunc 25 args).run Tryd.prog w = .ok (.enter 25 args) w := enter_of Tryd.func25 (by kernel_rfl) rfl args w
theorem enq_Sign (args : Array Value) (w : World) : (callFunc 18 args).run Tryd.prog w = .ok (.enter 18 args) w := enter_of Tryd.func18 (by kernel_rfl) rfl args w
theorem enq_Of (args : Array Value) (w : World) : (callFunc 26 args).run Tryd.prog w = .ok (.enter 26 args) w := enter_of Tryd.func26 (by kernel_rfl) rfl args w
theorem enq_R_Made (args : Array Value) (w : World) : (callFunc 17 args).run Tryd.prog w = .ok (.enter 17 args) w := enter_of Tryd.func17 (by kernel_rfl) rfl args w
theorem enq_R_Same (args : Array Value) (w : World) : (callFunc 16 args).run Tryd.prog w = .ok (.enter 16 args) w := enter_of Tryd.func16 (by kernel_rfl) rfl args w
theorem enq_R_Of (args : Array Value) (w : World) : (callFunc 13 args).run Tryd.prog w = .ok (.enter 13 args) w := enter_of Tryd.func13 (by kernel_rfl) rfl args w
theorem enq_R_Div (args : Array Value) (w : World) : (callFunc 35 args).run Tryd.prog w = .ok (.enter 35 args) w := enter_of Tryd.func35 (by kernel_rfl) rfl args w
theorem enq_R_Mod (args : Array Value) (w : World) : (callFunc 33 args).run Tryd.prog w = .ok (.enter 33 args) w := enter_of Tryd.func33 (by kernel_rfl) rfl args w
theorem enq_R_Mul (args : Array Value) (w : World) : (callFunc 37 args).run Tryd.prog w = .ok (.enter 37 args) w := enter_of Tryd.func37 (by kernel_rfl) rfl args w
theorem enq_R_Sub (args : Array Value) (w : World) : (callFunc 34 args).run Tryd.prog w = .ok (.enter 34 args) w := enter_of Tryd.func34 (by kernel_rfl) rfl args w
theorem enq_R_Cmp (args : Array Value) (w : World) : (callFunc 57 args).run Tryd.prog w = .ok (.enter 57 args) w := enter_of Tryd.func57 (by kernel_rfl) rfl args w
theorem cmpIq0 {x y : Int} : cmpI x y = 0 ↔ x = y := by
  unfold cmpI
  split
  · rename_i h
    constructor
    · intro h2; omega
    · intro h2; omega
  · split
    · rename_i h; exact ⟨fun _ => h, fun _ => rfl⟩
    · rename_i h; exact ⟨fun h2 => by omega, fun h2 => absurd h2 h⟩
theorem cmpIqgt {x y : Int} : 0 < cmpI x y ↔ y < x := by
  unfold cmpI
  split
  · rename_i h; exact ⟨fun h2 => by omega, fun h2 => by omega⟩
  · split
    · rename_i h; exact ⟨fun h2 => by omega, fun h2 => by omega⟩
    · rename_i h1 h; exact ⟨fun _ => by omega, fun _ => by decide⟩

theorem ab_lit {c : Int} (h : ab c < 4294967296 * 4294967296 * 4294967296) : ab c < pw 3 := h

theorem exDMq {w : World} {v v' : Value} {a b : Int} (h : Num w v a) (h' : Num w v' b) (hb : b ≠ 0) {j k : Nat} (hq : ab (a / b) < pw j) (hr : ab (a % b) < pw k) (hj : j ≤ 900000) (hk : k ≤ 900000) :
    Calls Tryd.prog 70 #[v, v'] w fun e w' => ∃ v', e = .returned v' ∧ Below w.heap.size w w' ∧ (Fq.tup3 (Fq.num (a / b)) (Fq.num (a % b)) (Fq.is (.int .i64 0))).P v' w' :=
  (exDT h h' hb hq hr hj hk).mono fun _ _ ⟨v', e, hb', v1, v2, e2, h1, h2⟩ => ⟨v', e, hb', v1, v2, _, e2, h1, h2, rfl⟩

theorem OfK (w : World) (z : Int) (h0 : -9223372036854775808 ≤ z) (h1 : z ≤ 9223372036854775807) : Calls Tryd.prog 26 #[.int .i64 z] w fun e w' => ∃ v', e = .returned v' ∧ Below w.heap.size w w' ∧ Num w' v' z := OfV w z h0 h1
theorem rOfK (w : World) (z : Int) (h0 : -9223372036854775808 ≤ z) (h1 : z ≤ 9223372036854775807) : Calls Tryd.prog 13 #[.int .i64 z] w fun e w' => ∃ v', e = .returned v' ∧ Below w.heap.size w w' ∧ Num w' v' z := rOfV w z h0 h1

end Go.Proofs.YtnhapjifddhdiaaDoor

namespace Go.Proofs.YtnhapjifddhdiaaDoor
open Go Go.RowKit

theorem Fr.drop {w0 W : World} {x : Nat × Nat × Fq} {bs : List (Nat × Nat × Fq)} (h : Fr w0 (x :: bs) W) : Fr w0 bs W :=
  ⟨h.below, fun y hy => h.boxes y (List.mem_cons_of_mem _ hy), by have := h.apart; rw [List.map_cons, List.nodup_cons] at this; exact this.2⟩

theorem exRDiv {w : World} {v v' : Value} {a b : Int} (h : Num w v a) (h' : Num w v' b) (h0 : b ≠ 0) (ha : ab a < pw 900) (hb : ab b < pw 900) : Calls Tryd.prog 35 #[v, v'] w fun e w' => ∃ v', e = .returned v' ∧ Below w.heap.size w w' ∧ Num w' v' (a / b) :=
  exK (k := 901) (RDivV h h' (Int.lt_of_lt_of_le ha (pw_le (by omega))) (Int.lt_of_lt_of_le hb (pw_le (by omega))) h0) (ab_divB ha (by omega)) (by omega)
theorem exRSame {w : World} {v v' : Value} {a b : Int} (h : Num w v a) (h' : Num w v' b) : Calls Tryd.prog 16 #[v, v'] w fun e w' => ∃ v', e = .returned v' ∧ Below w.heap.size w w' ∧ v' = .bool (decide (a = b)) :=
  (SameV h h').mono fun _ _ hh => ⟨_, hh.1, hh.2, rfl⟩

end Go.Proofs.YtnhapjifddhdiaaDoor

namespace Go.Proofs.YtnhapjifddhdiaaDoor
open Go Go.RowKit

def Fq.raw (n : Bool) (a : Option Addr) (k c : Nat) (xs : List Int) : Fq := ⟨fun v w => v = .agg #[.bool n, .slice a k c] ∧ Sl w a k c xs, fun h hb => ⟨h.1, h.2.mono hb⟩, fun h ha ht hl => ⟨h.1, h.2.putAt ha ht hl⟩⟩
section
variable {n n' : Bool} {a a' : Option Addr} {k c k' c' : Nat} {xs xs' : List Int}
theorem ld_raw {us : List Value} {w : World} (hl : us.length = 2) (h : (Fq.raw n a k c xs).P (.agg us.toArray) w) : (Fq.raw n a k c xs).P (.agg #[us.getD 0 undef, us.getD (0 + 1) undef]) w := by
  match us, hl with
  | [p, q], _ => exact h
end

section
variable {os : List Oper} {Q : Exit → Act → World → Prop} {a : Act} {p : Pq} {B B0 : Nat} {w0 : World}
variable {i s : Nat} {d : Option Tmp} {ty : TypeId} {ps : String} {af : Array Edge} {gd : Option (Nat × Bool)}
theorem q_loadRaw {o : Ob} {off : Nat} {x : Operand} (hp : p.Ok B B0) (hF : p.Free i) (hg : GdQ os a p B B0 w0 af gd) (ho : o ∈ p.old) (hk : o.F1 = o.F0 ∨ leadsB os 9 o.k i = true) (hoff : off + 2 ≤ o.m)
    (hx : SrcQ os a p B B0 w0 af x fun u _ => u = .pointer (some ⟨o.b, off, none⟩)) (hC : ∀ (us : List Value) (w : World), us.length = o.m → o.F0.P (.agg us.toArray) w → (p.c i).P (.agg #[us.getD off undef, us.getD (off + 1) undef]) w) :
    StepQ os Q a p B B0 w0 i { dst := d, op := .load 24 x, type := ty, pos := ps, after := af, guard := gd } := by
  refine stq_val hp hF hg fun L vs w hG hL hc hd => ?_
  obtain ⟨us, hl, h0, hat, ht, hP⟩ := box_now ho hk hG hL hc
  have e := hx L vs w hG hd
  have c0 := (hat off (by omega)).1
  have c1 := (hat (off + 1) (by omega)).1
  refine ⟨_, ?_, hC us w hl hP⟩
  generalize (lay os.toArray L vs os.toArray.size a).eval = ρ at e
  generalize us.getD off undef = u0 at c0 ⊢
  generalize us.getD (off + 1) undef = u1 at c1 ⊢
  simp [execOp, go_sem, e, c0, c1]
end

theorem exRMade {w : World} {v v' : Value} {n : Bool} {a : Option Addr} {k c : Nat} {xs : List Int} {j : Nat} (h : (Fq.raw n a k c xs).P v w) (h' : v' = .int .i64 j) (hk : k ≤ 9223372036854775807) (hj : j ≤ 900000) :
    Calls Tryd.prog 17 #[v, v'] w fun e w' => ∃ v', e = .returned v' ∧ Below w.heap.size w w' ∧ Num w' v' (sgn n (val (xs.take j))) := by
  obtain ⟨rfl, hs⟩ := h
  subst h'
  exact exK (Made_any _ _ _ _ _ _ hs hk j hj) (Num.ofMade hs.digs) hj

theorem exRSameB {w : World} {v v' : Value} {a b : Int} {t : Bool} (h : Num w v a) (h' : Num w v' b) (ht : decide (a = b) = t) : Calls Tryd.prog 16 #[v, v'] w fun e w' => ∃ v', e = .returned v' ∧ Below w.heap.size w w' ∧ v' = .bool t := by
  have := exRSame h h'
  rw [ht] at this
  exact this

end Go.Proofs.YtnhapjifddhdiaaDoor

namespace Go.Proofs.YtnhapjifddhdiaaDoor
open Go Go.RowKit

end Go.Proofs.YtnhapjifddhdiaaDoor

namespace Go.Proofs.YtnhapjifddhdiaaDoor
open Go Go.RowKit

theorem Ow.set {w : World} {B g n c : Nat} {zs : List Int} (h : Ow w B (.slice (some ⟨g, 0, none⟩) n c) zs) {j : Nat} (hj : j < n) {x : Int} (hx0 : 0 ≤ x) (hx1 : x < 4294967296) : Ow (w.setCell ⟨g, j, none⟩ (.int .u32 x)) B (.slice (some ⟨g, 0, none⟩) n c) (zs.set j x) := by
  obtain ⟨⟨h1, h2⟩, h3⟩ := h
  rcases h2 with ⟨h4, _⟩ | ⟨g', cap, cur, h4, h5, h6, h7, h8, h9, h10⟩
  · cases h4
  · cases h4
    refine ⟨⟨by simp, .inr ⟨g, c, cur.setIfInBounds j (.int .u32 x), by rw [List.length_set], h5, ?_, by rw [List.length_set]; exact h7, h8, by simpa using h9, ?_⟩⟩, h3.set j ⟨hx0, hx1⟩⟩
    · simp only [World.setCell, Array.getElem?_modify, if_true, h6, Option.map_some, Option.isSome_none]
      simp
    · rw [List.length_set, Array.toList_setIfInBounds, List.take_set, h10, List.map_set]

end Go.Proofs.YtnhapjifddhdiaaDoor

namespace Go.Proofs.YtnhapjifddhdiaaDoor
open Go Go.RowKit

theorem Ow.nil (w : World) (B : Nat) : Ow w B (.slice none 0 0) [] := ⟨World.ownsRow_nil _ _ _ _, fun _ h => by simp at h⟩

end Go.Proofs.YtnhapjifddhdiaaDoor

namespace Go.Proofs.YtnhapjifddhdiaaDoor
open Go Go.RowKit

end Go.Proofs.YtnhapjifddhdiaaDoor

namespace Go.Proofs.YtnhapjifddhdiaaDoor
open Go Go.RowKit

end Go.Proofs.YtnhapjifddhdiaaDoor

namespace Go.Proofs.YtnhapjifddhdiaaDoor
open Go Go.RowKit

end Go.Proofs.YtnhapjifddhdiaaDoor

namespace Go.Proofs.YtnhapjifddhdiaaDoor
open Go Go.RowKit

theorem Fr.put {w0 W : World} {b m : Nat} {F F' : Fq} {bs : List (Nat × Nat × Fq)} (h : Fr w0 ((b, m, F) :: bs) W) {us : List Value} (hl : us.length = m) (ht : Tame us) (hF : F'.P (.agg us.toArray) W) : Fr w0 ((b, m, F') :: bs) (putFrom W b 0 us) := by
  have hb := h.boxes _ List.mem_cons_self
  refine ⟨putFrom_below hb.1 us 0 _ _ h.below, fun x hx => ?_, h.apart⟩
  rcases List.mem_cons.1 hx with rfl | hx
  · exact ⟨hb.1, hb.2.same hl ht hF⟩
  · have hx2 := h.boxes x (List.mem_cons_of_mem _ hx)
    refine ⟨hx2.1, hx2.2.other hb.2 (fun e => ?_) hl⟩
    have hn := h.apart
    rw [List.map_cons, List.nodup_cons] at hn
    exact hn.1 (by rw [show (b, m, F).1 = x.1 from e.symm]; exact List.mem_map.2 ⟨x, hx, rfl⟩)

section
variable {os : List Oper} {Q : Exit → Act → World → Prop} {a : Act} {p : Pq} {B B0 : Nat} {w0 : World}
variable {i s : Nat} {d : Option Tmp} {ty : TypeId} {ps : String} {af : Array Edge} {gd : Option (Nat × Bool)}
end

end Go.Proofs.YtnhapjifddhdiaaDoor

namespace Go.Proofs.YtnhapjifddhdiaaDoor
open Go Go.RowKit

end Go.Proofs.YtnhapjifddhdiaaDoor

namespace Go.Proofs.YtnhapjifddhdiaaDoor
open Go Go.RowKit

section
variable {os : List Oper} {Q : Exit → Act → World → Prop} {a : Act} {p : Pq} {B B0 : Nat} {w0 : World}
variable {i s : Nat} {d : Option Tmp} {ty : TypeId} {ps : String} {af : Array Edge} {gd : Option (Nat × Bool)}

theorem q_lenW {x : Operand} {ad : Option Addr} {k c : Nat} (hp : p.Ok B B0) (hF : p.Free i) (hg : GdQ os a p B B0 w0 af gd) (hx : SrcQ os a p B B0 w0 af x fun v _ => v = .slice ad k c) (hC : ∀ w, (p.c i).P (.int .i64 k) w) :
    StepQ os Q a p B B0 w0 i { dst := d, op := .call { callee := .builtin .len, args := #[x], argTypes := #[22] }, type := ty, pos := ps, after := af, guard := gd } :=
  q_one hp hF hg hx fun ρ w _ h => ⟨.int .i64 k, by simp [go_sem, h], hC w⟩
end

theorem newks_ne {C : List Fq} {bs : List (Nat × Nat × Fq)} {ks : List (Option (Nat × Fq))} {new : List Nb} {len i : Nat} (h : new.all (fun n => n.i == i || n.k != i) = true) : ∀ n ∈ (plq C bs ks new len).new, n.i ≠ i → n.k ≠ i := fun n hn hi e => by
  have := List.all_eq_true.1 h n hn
  simp [e, hi] at this

end Go.Proofs.YtnhapjifddhdiaaDoor

namespace Go.Proofs.YtnhapjifddhdiaaDoor
open Go Go.RowKit

theorem Pq.G.made {p : Pq} {B B0 : Nat} {w0 w w' : World} {L : Nat → Bool} {vs : Nat → Value} (h : p.G B B0 w0 L vs w) (hp : p.Ok B B0) {n0 : Nb} (hi : n0 ∈ p.new) {F : Fq} (hk : n0.now (up L n0.i true) = F)
    (hC : ∀ v w', (p.c n0.i).P v w') (h1 : ∀ o ∈ p.old, o.k ≠ n0.i) (h2 : ∀ n ∈ p.new, n.i ≠ n0.i → n.k ≠ n0.i) {b : Nat} (hbs : w.heap.size ≤ b) (hb : Below w.heap.size w w') (hbx : Bq w' b n0.m F) :
    p.G B B0 w0 (up L n0.i true) (up vs n0.i (n0.ptr b)) w' := by
  refine ⟨h.below.trans (hb.mono (Nat.le_trans hp.le h.size)), Nat.le_trans h.size hb.size, fun j hj => ?_, fun o ho => ?_, fun n hn hj => ?_, fun n hn m hm hne hj hk' => ?_⟩
  · by_cases hji : j = n0.i
    · subst hji; exact hC _ _
    · rw [up_ne _ _ hji] at hj ⊢; exact (p.c j).mono (h.val j hj) hb
  · rw [up_ne _ _ (h1 o ho)]; exact (h.old o ho).mono hb
  · by_cases hni : n.i = n0.i
    · have e := hp.newinj n hn _ hi hni
      subst e
      rw [up_same, hk]
      exact ⟨_, rfl, Nat.le_trans h.size hbs, hbx⟩
    · rw [Nb.now_up (h2 n hn hni)]
      rw [up_ne _ _ hni] at hj ⊢
      obtain ⟨b, e1, e2, e3⟩ := h.new n hn hj
      exact ⟨b, e1, e2, e3.mono hb⟩
  · by_cases hni : n.i = n0.i
    · have hmi : m.i ≠ n0.i := fun e => hne (hni.trans e.symm)
      rw [hni, up_same]
      rw [up_ne _ _ hmi] at hk' ⊢
      obtain ⟨b, e1, e2, e3⟩ := h.new m hm hk'
      rw [e1, Nb.block_ptr, Nb.block_ptr]
      have := e3.lt
      omega
    · rw [up_ne _ _ hni] at hj ⊢
      by_cases hmi : m.i = n0.i
      · rw [hmi, up_same]
        obtain ⟨b, e1, e2, e3⟩ := h.new n hn hj
        rw [e1, Nb.block_ptr, Nb.block_ptr]
        have := e3.lt
        omega
      · rw [up_ne _ _ hmi] at hk' ⊢
        exact h.apart n hn m hm hne hj hk'

section
variable {os : List Oper} {Q : Exit → Act → World → Prop} {a : Act} {p : Pq} {B B0 : Nat} {w0 : World}
variable {i s : Nat} {d : Option Tmp} {ty : TypeId} {ps : String} {af : Array Edge} {gd : Option (Nat × Bool)}

theorem q_call3 {x y z : Operand} {F G F3 : Value → World → Prop} {f : FuncId} {ts : Array TypeId} (hp : p.Ok B B0) (hF : p.Free i) (hg : GdQ os a p B B0 w0 af gd) (hen : ∀ args w, (callFunc f args).run Tryd.prog w = .ok (.enter f args) w)
    (hx : SrcQ os a p B B0 w0 af x F) (hy : SrcQ os a p B B0 w0 af y G) (hz : SrcQ os a p B B0 w0 af z F3) (hC : ∀ v v' u w, F v w → G v' w → F3 u w → Calls Tryd.prog f #[v, v', u] w fun e w' => ∃ v', e = .returned v' ∧ Below w.heap.size w w' ∧ (p.c i).P v' w') :
    StepQ os Q a p B B0 w0 i { dst := d, op := .call { callee := .value (.func f), args := #[x, y, z], argTypes := ts }, type := ty, pos := ps, after := af, guard := gd } :=
  stq_call hp hF hg hen fun L vs w hG hd => ⟨#[_, _, _], by simp, hC _ _ _ _ (hx L vs w hG hd) (hy L vs w hG hd) (hz L vs w hG hd)⟩
end

end Go.Proofs.YtnhapjifddhdiaaDoor

namespace Go.Proofs.YtnhapjifddhdiaaDoor
open Go Go.RowKit

def prodL (f : Nat → Int) (l : List Nat) : Int := l.foldr (fun k z => f k * z) 1
def up1 (h : Nat) : List Nat := List.range' 1 h
def sg (n : Nat) (x : Int) : Int := if 2 * (x % n) < n then 1 else -1
def J (a : Int) (n : Nat) : Int := if Int.gcd a n = 1 then prodL (fun k => sg n (a * k)) (up1 ((n - 1) / 2)) else 0
def Pr (p : Nat) : Prop := 2 ≤ p ∧ ∀ d, d ∣ p → d = 1 ∨ d = p
def two (a : Int) : Int := if a % 2 = 0 then 0 else if a % 8 = 3 ∨ a % 8 = 5 then -1 else 1
theorem two_mul (a b : Int) : two (a * b) = two a * two b := by
  have h2 : (a * b) % 2 = ((a % 2) * (b % 2)) % 2 := Int.mul_emod _ _ _
  have h8 : (a * b) % 8 = ((a % 8) * (b % 8)) % 8 := Int.mul_emod _ _ _
  have ea : a % 2 = (a % 8) % 2 := by omega
  have eb : b % 2 = (b % 8) % 2 := by omega
  have ra : a % 8 = 0 ∨ a % 8 = 1 ∨ a % 8 = 2 ∨ a % 8 = 3 ∨ a % 8 = 4 ∨ a % 8 = 5 ∨ a % 8 = 6 ∨ a % 8 = 7 := by omega
  have rb : b % 8 = 0 ∨ b % 8 = 1 ∨ b % 8 = 2 ∨ b % 8 = 3 ∨ b % 8 = 4 ∨ b % 8 = 5 ∨ b % 8 = 6 ∨ b % 8 = 7 := by omega
  unfold two
  rw [h2, h8, ea, eb]
  generalize a % 8 = x at *
  generalize b % 8 = y at *
  rcases ra with rfl | rfl | rfl | rfl | rfl | rfl | rfl | rfl <;> rcases rb with rfl | rfl | rfl | rfl | rfl | rfl | rfl | rfl <;> rfl
end Go.Proofs.YtnhapjifddhdiaaDoor

namespace Go.Proofs.YtnhapjifddhdiaaDoor
open Go Go.RowKit

end Go.Proofs.YtnhapjifddhdiaaDoor

namespace Go.Proofs.YtnhapjifddhdiaaDoor
open Go Go.RowKit

theorem enq_Bits (args : Array Value) (w : World) : (callFunc 19 args).run Tryd.prog w = .ok (.enter 19 args) w := enter_of Tryd.func19 (by kernel_rfl) rfl args w
end Go.Proofs.YtnhapjifddhdiaaDoor

namespace Go.Proofs.YtnhapjifddhdiaaDoor
open Go Go.RowKit

end Go.Proofs.YtnhapjifddhdiaaDoor

namespace Go.Proofs.YtnhapjifddhdiaaDoor
open Go Go.RowKit

theorem bits_uniq {v : Int} {m m' : Nat} (h : IsBits v m) (h' : IsBits v m') : m = m' := by
  rcases h with ⟨h1, h2⟩ | ⟨h1, h2, h3⟩ <;> rcases h' with ⟨h4, h5⟩ | ⟨h4, h5, h6⟩
  · omega
  · have := pow_two_pos (m' - 1); omega
  · have := pow_two_pos (m - 1); omega
  · rcases Nat.lt_trichotomy m m' with h | h | h
    · have := two_pow_le (show m ≤ m' - 1 by omega); omega
    · exact h
    · have := two_pow_le (show m' ≤ m - 1 by omega); omega

theorem RBitsV {w : World} {v : Value} {z : Int} (h : Num w v z) : Calls Tryd.prog 62 #[v] w fun e w' => ∃ m : Nat, e = .returned (.int .i64 m) ∧ IsBits (ab z) m ∧ m ≤ 28800000 ∧ Below w.heap.size w w' := by
  obtain ⟨neg, ao, n, c, xs, rfl, hs, hn, rfl, hc, _⟩ := h
  refine (rBits_any _ _ _ _ _ _ hs hc (by omega)).mono fun e w' hh => ?_
  obtain ⟨m, rfl, hm, hm2, hb⟩ := hh
  exact ⟨m, rfl, by rw [ab_sgn, ab_of (val_nonneg hs.digs)]; exact hm, by omega, hb⟩

end Go.Proofs.YtnhapjifddhdiaaDoor

namespace Go.Proofs.YtnhapjifddhdiaaDoor
open Go Go.RowKit

end Go.Proofs.YtnhapjifddhdiaaDoor

namespace Go.Proofs.YtnhapjifddhdiaaDoor
open Go Go.RowKit

theorem exRCmp' {w : World} {v v' : Value} {z z' : Int} (h : Num w v z) (h' : Num w v' z') : Calls Tryd.prog 57 #[v, v'] w fun e w' => ∃ v', e = .returned v' ∧ Below w.heap.size w w' ∧ v' = .int .i64 (cmpI z z') :=
  (RCmpV h h').mono fun _ _ hh => ⟨_, hh.1, hh.2, rfl⟩

def Fc.sz (V : Int) : Fc := ⟨fun v w => ∃ (ao : Option Addr) (l c : Nat) (zs : List Int), v = .slice ao l c ∧ Sl w ao l c zs ∧ l ≤ 3000000 ∧ val zs = V,
  fun ⟨ao, l, c, zs, e, h, h1, h2⟩ hb => ⟨ao, l, c, zs, e, h.mono hb, h1, h2⟩, fun ⟨ao, l, c, zs, e, h, h1, h2⟩ hb n' a' k' c' => by
  obtain ⟨p, q, r, t, hI, _⟩ := hb
  exact ⟨ao, l, c, zs, e, h.putBox hI n' a' k' c', h1, h2⟩⟩

end Go.Proofs.YtnhapjifddhdiaaDoor

namespace Go.Proofs.YtnhapjifddhdiaaDoor
open Go Go.RowKit

theorem bit_of_val {xs : List Int} (hd : Digs xs) {k r : Nat} (hk : k < xs.length) (hr : r < 32) : (val xs / 2 ^ (32 * k + r)) % 2 = (xs.getD k 0 / 2 ^ r) % 2 := by
  have h1 := val_split xs (k := k) (by omega)
  have h2 := val_drop_step xs hk
  have h3 := val_lt (hd.take k)
  have h4 := val_nonneg (hd.take k)
  rw [List.length_take, Nat.min_eq_left (by omega)] at h3
  rw [Int.pow_add, ← pw_two, ← Int.ediv_ediv_of_nonneg (by have := pw_pos k; omega)]
  have e1 : val xs / pw k = xs.getD k 0 + 4294967296 * val (xs.drop (k + 1)) := by
    rw [h1, Int.add_mul_ediv_left _ _ (by have := pw_pos k; omega), Int.ediv_eq_zero_of_lt h4 h3, Int.zero_add, h2]
  rw [e1]
  have e2 : (4294967296 : Int) = 2 ^ r * 2 ^ (32 - r) := by rw [← Int.pow_add, show r + (32 - r) = 32 by omega]; rfl
  obtain ⟨m, hm⟩ : ∃ m, 32 - r = m + 1 := ⟨31 - r, by omega⟩
  rw [e2, hm, Int.mul_assoc, Int.add_mul_ediv_left _ _ (by have := pow_two_pos r; omega), pow_two_succ, Int.mul_assoc, Int.mul_left_comm, Int.add_mul_emod_self_left]

theorem and_one (x : Int) (h0 : 0 ≤ x) (h1 : x < 4294967296) : bits .and .u32 x 1 = x % 2 := by
  obtain ⟨n, rfl⟩ := Int.eq_ofNat_of_zero_le h0
  have hn : n < 4294967296 := by omega
  have h2 : (BitVec.ofInt 32 ((n : Nat) : Int)).toNat = n := by rw [BitVec.ofInt_natCast, BitVec.toNat_ofNat]; exact Nat.mod_eq_of_lt (by omega)
  show IntKind.u32.wrap (((BitVec.ofInt 32 (n : Int)) &&& (BitVec.ofInt 32 1)).toNat : Int) = _
  rw [BitVec.toNat_and, h2]
  have h3 : (BitVec.ofInt 32 1).toNat = 1 := rfl
  rw [h3, Nat.and_one_is_mod]
  simp only [IntKind.wrap, IntKind.bits, IntKind.signed]
  simp
  omega

def nbits (z : Int) : Nat := if z = 0 then 0 else z.natAbs.log2 + 1
theorem nbits_isBits (z : Int) : IsBits (ab z) (nbits z) := by
  unfold nbits IsBits ab
  by_cases h : z = 0
  · rw [if_pos h, h]; exact .inl ⟨rfl, rfl⟩
  · rw [if_neg h]
    right
    have h0 : z.natAbs ≠ 0 := by omega
    have h1 := Nat.log2_self_le h0
    have h2 := Nat.lt_log2_self (n := z.natAbs)
    refine ⟨by omega, ?_, ?_⟩
    · rw [show z.natAbs.log2 + 1 - 1 = z.natAbs.log2 by omega]
      exact_mod_cast h1
    · exact_mod_cast h2
theorem nbits_le {z : Int} {k : Nat} (h : ab z < pw k) : nbits z ≤ 32 * k := by
  rcases nbits_isBits z with ⟨_, h2⟩ | ⟨h1, h2, _⟩
  · omega
  · rw [pw_two] at h
    by_cases hc : nbits z ≤ 32 * k
    · exact hc
    · exfalso
      have h3 : (2 : Int) ^ (32 * k) ≤ 2 ^ (nbits z - 1) := two_pow_le (by omega)
      omega
theorem nbits_top {z : Int} : z.natAbs / 2 ^ nbits z = 0 := by
  rcases nbits_isBits z with ⟨h1, _⟩ | ⟨_, _, h3⟩
  · unfold ab at h1
    have : z.natAbs = 0 := by omega
    rw [this]; simp
  · unfold ab at h3
    refine Nat.div_eq_of_lt ?_
    exact_mod_cast h3

theorem exBits {w : World} {v : Value} {z : Int} (h : Num w v z) : Calls Tryd.prog 19 #[v] w fun e w' => ∃ v', e = .returned v' ∧ Below w.heap.size w w' ∧ v' = .int .i64 ((nbits z : Nat) : Int) := by
  obtain ⟨neg, ao, n, c, xs, rfl, hs, hn, rfl, hc, _⟩ := h
  refine (Bits_any _ _ _ _ _ _ hs (by omega)).mono fun e w' hh => ?_
  obtain ⟨m, rfl, hm, _, hb⟩ := hh
  refine ⟨_, rfl, hb, ?_⟩
  have h2 := nbits_isBits (sgn neg (val xs))
  rw [ab_sgn, ab_of (val_nonneg hs.digs)] at h2
  rw [bits_uniq hm h2]
theorem measP {i : Nat} : (intOf (.int .i64 ((i : Int) - 1)) + 1).toNat < (intOf (.int .i64 (i : Int)) + 1).toNat := by simp [intOf]
theorem pow_mod_mul (p m : Int) : ((p % m) * (p % m)) % m = (p * p) % m := by rw [← Int.mul_emod]
theorem pow_step {B m : Int} {N i : Nat} {z : Int} (hz : z = B ^ (N / 2 ^ (i + 1)) % m) :
    (N / 2 ^ i % 2 = 1 → (((z * z) % m) * B) % m = B ^ (N / 2 ^ i) % m) ∧ (¬ N / 2 ^ i % 2 = 1 → (z * z) % m = B ^ (N / 2 ^ i) % m) := by
  have e1 : N / 2 ^ (i + 1) = N / 2 ^ i / 2 := by rw [Nat.pow_succ, Nat.div_div_eq_div_mul]
  generalize N / 2 ^ i = q at *
  rw [e1] at hz
  have e2 : (z * z) % m = B ^ (q / 2 + q / 2) % m := by rw [hz, pow_mod_mul, Int.pow_add]
  constructor
  · intro h
    have e3 : q = q / 2 + q / 2 + 1 := by omega
    rw [e2]
    conv => rhs; rw [e3, Int.pow_succ]
    rw [Int.mul_emod, Int.emod_emod_of_dvd _ (Int.dvd_refl _), ← Int.mul_emod]
  · intro h
    have e3 : q = q / 2 + q / 2 := by omega
    rw [e2]
    conv => rhs; rw [e3]

end Go.Proofs.YtnhapjifddhdiaaDoor

namespace Go.Proofs.YtnhapjifddhdiaaDoor
open Go Go.RowKit

end Go.Proofs.YtnhapjifddhdiaaDoor

namespace Go.Proofs.YtnhapjifddhdiaaDoor
open Go Go.RowKit

theorem tz64_core (x k idx : Nat) (w : World) (hx0 : ((x : Int) == 0) = false)
    (key : IntKind.u64.wrap (bits BinOp.and IntKind.u64 (x : Int) (IntKind.u64.wrap (-(x : Int))) * 285870213051353865) / 288230376151711744 = (idx : Int))
    (hi : idx < 64) (hk : k < 64) (hcell : w.cell? ⟨1, idx, none⟩ = some (.int .u8 k)) :
    Calls Tryd.prog 50 #[.int .u64 x] w fun e w' => e = .returned (.int .i64 k) ∧ w' = w := by
  go_enter Tryd.func50, Tryd.ntmps50
  go_wp2_with (simp only [key])
  go_ret
  exact ⟨rfl, rfl⟩
end Go.Proofs.YtnhapjifddhdiaaDoor

namespace Go.Proofs.YtnhapjifddhdiaaDoor
open Go Go.RowKit

end Go.Proofs.YtnhapjifddhdiaaDoor

namespace Go.Proofs.YtnhapjifddhdiaaDoor
open Go Go.RowKit

def v2 (z : Int) : Nat := Lib.ctzFrom (nbits z) z.natAbs
section
variable {os : List Oper} {Q : Exit → Act → World → Prop} {a : Act} {p : Pq} {B B0 : Nat} {w0 : World}
variable {i s : Nat} {d : Option Tmp} {ty : TypeId} {ps : String} {af : Array Edge} {gd : Option (Nat × Bool)}
end
end Go.Proofs.YtnhapjifddhdiaaDoor

namespace Go.Proofs.YtnhapjifddhdiaaDoor
open Go Go.RowKit

section
variable {os : List Oper} {Q : Exit → Act → World → Prop} {a : Act} {p : Pq} {B B0 : Nat} {w0 : World}
variable {i s : Nat} {d : Option Tmp} {ty : TypeId} {ps : String} {af : Array Edge} {gd : Option (Nat × Bool)}
theorem q_call1W {x : Operand} {F : Value → World → Prop} {f : FuncId} {ts : Array TypeId} (hp : p.Ok B B0) (hF : p.Free i) (hg : GdQ os a p B B0 w0 af gd) (hen : ∀ args w, (callFunc f args).run Tryd.prog w = .ok (.enter f args) w) (hB : B = w0.heap.size)
    (hx : SrcQ os a p B B0 w0 af x F) (hC : ∀ v w, Below w0.heap.size w0 w → F v w → Calls Tryd.prog f #[v] w fun e w' => ∃ v', e = .returned v' ∧ Below w.heap.size w w' ∧ (p.c i).P v' w') :
    StepQ os Q a p B B0 w0 i { dst := d, op := .call { callee := .value (.func f), args := #[x], argTypes := ts }, type := ty, pos := ps, after := af, guard := gd } := by
  subst hB
  exact stq_call hp hF hg hen fun L vs w hG hd => ⟨#[_], by simp, hC _ _ hG.below (hx L vs w hG hd)⟩
theorem q_call2W {x y : Operand} {F G : Value → World → Prop} {f : FuncId} {ts : Array TypeId} (hp : p.Ok B B0) (hF : p.Free i) (hg : GdQ os a p B B0 w0 af gd) (hen : ∀ args w, (callFunc f args).run Tryd.prog w = .ok (.enter f args) w) (hB : B = w0.heap.size)
    (hx : SrcQ os a p B B0 w0 af x F) (hy : SrcQ os a p B B0 w0 af y G) (hC : ∀ v v' w, Below w0.heap.size w0 w → F v w → G v' w → Calls Tryd.prog f #[v, v'] w fun e w' => ∃ v', e = .returned v' ∧ Below w.heap.size w w' ∧ (p.c i).P v' w') :
    StepQ os Q a p B B0 w0 i { dst := d, op := .call { callee := .value (.func f), args := #[x, y], argTypes := ts }, type := ty, pos := ps, after := af, guard := gd } := by
  subst hB
  exact stq_call hp hF hg hen fun L vs w hG hd => ⟨#[_, _], by simp, hC _ _ _ hG.below (hx L vs w hG hd) (hy L vs w hG hd)⟩
theorem q_moveB (m f : Nat) {v : Value} (hp : p.Ok B B0) (hF : p.Free i) (hg : GdQ os a p B B0 w0 af gd) (ha : apartB (os.map (·.dst)) = true) (hj : (os.map (·.dst))[m]? = some (some s)) (hl : leadsB os f m i = true) (hx : a.eval (.tmp s) = v) (hv : ∀ w, (p.c i).P v w) :
    StepQ os Q a p B B0 w0 i { dst := d, op := .move (.tmp s), type := ty, pos := ps, after := af, guard := gd } := by
  refine stq_val hp hF hg fun L vs w hG hL hc hd => ⟨v, ?_, hv _⟩
  have hm := not_yet hc hl hL
  have e : (lay os.toArray L vs os.toArray.size a).eval (.tmp s) = a.eval (.tmp s) := by
    refine lay_eval_out _ _ fun j _ hj2 hd2 => ?_
    have hjm : j = m := Classical.byContradiction fun hne => apart_of ha j m s hne hd2 (by
      unfold dstOf
      simp at hj ⊢
      cases ho : os[m]? with
      | none => simp [ho] at hj
      | some o => simp [ho] at hj ⊢; exact hj)
    rw [hjm, hm] at hj2
    cases hj2
  rw [hx] at e
  have e2 : (lay os.toArray L vs os.toArray.size a).tmps.getD s undef = v := e
  simp only [execOp, go_sem]
  rw [e2]
  rfl
end
end Go.Proofs.YtnhapjifddhdiaaDoor

namespace Go.Proofs.YtnhapjifddhdiaaDoor
open Go Go.RowKit

set_option maxHeartbeats 1000000 in
theorem mul64_any (x y : Nat) (hx : x < 18446744073709551616) (hy : y < 18446744073709551616) (w : World) :
    Calls Tryd.prog 68 #[.int .u64 x, .int .u64 y] w fun e w' => e = .returned (.tuple #[.int .u64 ((x * y / 18446744073709551616 : Nat) : Int), .int .u64 ((x * y % 18446744073709551616 : Nat) : Int)]) ∧ w' = w := by
  obtain ⟨bd, bt, bw, hhi⟩ := Lib.mul64_hi x y hx hy
  have ba := Lib.half_mul_le (a := x / 4294967296) (b := y / 4294967296) (by omega) (by omega)
  have bb := Lib.half_mul_le (a := x / 4294967296) (b := y % 4294967296) (by omega) (by omega)
  have bc := Lib.half_mul_le (a := x % 4294967296) (b := y / 4294967296) (by omega) (by omega)
  have pa : x / 4294967296 * (y / 4294967296) < 18446744073709551616 := by omega
  have pb : x / 4294967296 * (y % 4294967296) < 18446744073709551616 := by omega
  have pc : x % 4294967296 * (y / 4294967296) < 18446744073709551616 := by omega
  have pd : x / 4294967296 * (y / 4294967296) + (x / 4294967296 * (y % 4294967296) + x % 4294967296 * (y % 4294967296) / 4294967296) / 4294967296 < 18446744073709551616 := by omega
  have pe : x / 4294967296 * (y / 4294967296) + (x / 4294967296 * (y % 4294967296) + x % 4294967296 * (y % 4294967296) / 4294967296) / 4294967296 + ((x / 4294967296 * (y % 4294967296) + x % 4294967296 * (y % 4294967296) / 4294967296) % 4294967296 + x % 4294967296 * (y / 4294967296)) / 4294967296 < 18446744073709551616 := by
    rw [hhi]
    have := Nat.mul_le_mul (show x ≤ 18446744073709551615 by omega) (show y ≤ 18446744073709551615 by omega)
    omega
  go_enter Tryd.func68, Tryd.ntmps68
  go_wp2
  simp only [Mul64.maskN x hx, Mul64.maskN y hy, Mul64.divN, Mul64.mulN, Mul64.addN, Mul64.wrapN _ bd, Mul64.wrapN _ pb, Mul64.wrapN _ bt, Mul64.maskN _ bt, Mul64.wrapN _ pc, Mul64.wrapN _ bw, Mul64.wrapN _ pa, Mul64.wrapN _ pd, Mul64.wrapN _ pe, Mul64.wrapM]
  rw [hhi]
  refine bodyPost_ret (v := .tuple #[.int .u64 ((x * y / 18446744073709551616 : Nat) : Int), .int .u64 ((x * y % 18446744073709551616 : Nat) : Int)]) (by simp [results, Tryd.results68, go_sem]) rfl ⟨rfl, rfl⟩
end Go.Proofs.YtnhapjifddhdiaaDoor

namespace Go.Proofs.YtnhapjifddhdiaaDoor
open Go Go.RowKit

theorem len_tab {x : Int} (s : Nat) {y : Int} (h0 : 0 ≤ x) (hx : x < 18446744073709551616) (hy : y = x / 2 ^ s) (h1 : y < 256) (hs : s = 0 ∨ (2 : Int) ^ s ≤ x) : (s : Int) + Lib.len8 (y % 256) = (Lib.bitLen x.toNat : Int) := by
  obtain ⟨n, rfl⟩ := Int.eq_ofNat_of_zero_le h0
  have e : y = ((n / 2 ^ s : Nat) : Int) := by rw [hy, Int.natCast_ediv, Int.natCast_pow]; rfl
  have h2 : 0 ≤ y := by rw [e]; exact Int.natCast_nonneg _
  rw [show y % 256 = y by omega, Lib.len8_of y h2 (by omega), e, Int.toNat_natCast, Int.toNat_natCast]
  rcases hs with hs | hs
  · subst hs; simp
  · have h2 : 2 ^ s ≤ n := by exact_mod_cast hs
    rw [Lib.bitLen_shift s n h2 (by omega)]
    omega
theorem len_out {x : Int} (s : Nat) {y : Int} (h : y.toNat < Lib.len8tab.size) (h56 : s ≤ 56) (h0 : 0 ≤ x) (hx : x < 18446744073709551616) (hy : y = x / 2 ^ s) (hy0 : 0 ≤ y) (h1 : y < 256) (hs : s = 0 ∨ (2 : Int) ^ s ≤ x) :
    wrap64 ((s : Int) + wrap64 (((Lib.len8tab[y.toNat]'h).toNat : Nat) : Int)) = (Lib.bitLen x.toNat : Int) := by
  have e := len_tab s h0 hx hy h1 hs
  have e1 : y % 256 = y := by omega
  have e2 : Lib.len8 y = (((Lib.len8tab[y.toNat]'h).toNat : Nat) : Int) := by simp [Lib.len8, h]
  have e3 := Lib.bitLen_le8' y hy0 (by omega)
  have e4 := Lib.len8_of y hy0 (by omega)
  rw [e1, e2] at e
  rw [e2] at e4
  generalize (((Lib.len8tab[y.toNat]'h).toNat : Nat) : Int) = b at *
  simp only [wrap64]
  omega
set_option maxRecDepth 1000000 in
set_option maxHeartbeats 1000000 in
theorem len64_any (x : Int) (w : World) (h0 : 0 ≤ x) (h1 : x < 18446744073709551616) :
    Calls Tryd.prog 90 #[.int .u64 x] w fun e w' => e = .returned (.int .i64 (Lib.bitLen x.toNat)) ∧ w' = w := by
  have hsz : ((Lib.len8tab.size : Nat) : Int) = 256 := by rw [Lib.len8tab_size]; rfl
  go_enter Tryd.func90, Tryd.ntmps90
  go_wp2
  all_goals first | (go_ret; refine ⟨congrArg Ending.returned (congrArg (Value.int IntKind.i64) ?_), rfl⟩) | (exfalso; omega)
  · exact len_out 56 _ (by omega) h0 h1 (by omega) (by omega) (by omega) (.inr (by omega))
  · exact len_out 48 _ (by omega) h0 h1 (by omega) (by omega) (by omega) (.inr (by omega))
  · exact len_out 40 _ (by omega) h0 h1 (by omega) (by omega) (by omega) (.inr (by omega))
  · exact len_out 32 _ (by omega) h0 h1 (by omega) (by omega) (by omega) (.inr (by omega))
  · exact len_out 24 _ (by omega) h0 h1 (by omega) (by omega) (by omega) (.inr (by omega))
  · exact len_out 16 _ (by omega) h0 h1 (by omega) (by omega) (by omega) (.inr (by omega))
  · exact len_out 8 _ (by omega) h0 h1 (by omega) (by omega) (by omega) (.inr (by omega))
  · have e := len_out 0 (x := x) (y := x) (by omega) (by omega) h0 h1 (by omega) h0 (by omega) (.inl rfl)
    simpa using e
theorem lead64_any (x : Int) (w : World) (h0 : 0 ≤ x) (h1 : x < 18446744073709551616) :
    Calls Tryd.prog 85 #[.int .u64 x] w fun e w' => e = .returned (.int .i64 (64 - Lib.bitLen x.toNat)) ∧ w' = w := by
  have hb : Lib.bitLen x.toNat ≤ 64 := Lib.bitLen_le x.toNat 64 (by omega) (by omega)
  have hw : IntKind.i64.wrap (64 - (Lib.bitLen x.toNat : Int)) = 64 - (Lib.bitLen x.toNat : Int) := IntWalk.i64_in _ (by omega)
  have hw2 : wrap64 (64 - (Lib.bitLen x.toNat : Int)) = 64 - (Lib.bitLen x.toNat : Int) := by simp only [wrap64]; omega
  go_enter Tryd.func85, Tryd.ntmps85
  go_wp2_with (go_at_call 90; refine (len64_any x w h0 h1).mono ?_; rintro e w' ⟨rfl, rfl⟩)
  go_ret
  exact ⟨by first | rfl | rw [hw2], rfl⟩
end Go.Proofs.YtnhapjifddhdiaaDoor

namespace Go.Proofs.YtnhapjifddhdiaaDoor
open Go Go.RowKit

section
variable {U Y y1 y0 B u q r : Nat}
theorem kd_lt (hU : U < Y) (hu : u < B) : (U * B + u) / Y < B := by
  rw [Nat.div_lt_iff_lt_mul (by omega)]
  have h := Nat.mul_le_mul_right B (show U + 1 ≤ Y by omega)
  rw [Nat.add_mul, Nat.one_mul, Nat.mul_comm Y B] at h
  omega
theorem kd_split (hY : Y = y1 * B + y0) (hq : q * y1 + r = U) : U * B + u = q * y1 * B + (B * r + u) ∧ q * Y = q * y1 * B + q * y0 := by
  constructor
  · rw [← hq, Nat.add_mul, Nat.mul_comm r B, Nat.add_assoc]
  · rw [hY, Nat.mul_add, Nat.mul_assoc]
theorem kd_start (hY : Y = y1 * B + y0) (h1 : 0 < y1) (hu : u < B) : (U * B + u) / Y ≤ U / y1 := by
  have hB : 0 < B := by omega
  have hYB : y1 * B ≤ Y := by omega
  have h2 : (U * B + u) / Y ≤ (U * B + u) / (y1 * B) := Nat.div_le_div_left hYB (Nat.mul_pos h1 hB)
  have h3 : (U * B + u) / (B * y1) = U / y1 := by rw [← Nat.div_div_eq_div_mul, Nat.mul_comm U B, Nat.mul_add_div hB, Nat.div_eq_of_lt hu, Nat.add_zero]
  rw [Nat.mul_comm y1 B, h3] at h2
  exact h2
theorem kd_top (hY : Y = y1 * B + y0) (h0 : y0 < B) (h1 : B ≤ 2 * y1) (hU : U < Y) : U / y1 ≤ B + 1 := by
  have hp : 0 < y1 := by omega
  refine Nat.le_of_lt_succ ((Nat.div_lt_iff_lt_mul hp).2 ?_)
  rw [show (B + 1 + 1) * y1 = y1 * B + 2 * y1 by rw [Nat.add_mul, Nat.add_mul, Nat.mul_comm B y1]; omega]
  omega
theorem kd_true (hY : Y = y1 * B + y0) (hq : q * y1 + r = U) (hU : U < Y) (hu : u < B) (h : B ≤ q ∨ B * r + u < q * y0) : (U * B + u) / Y ≤ q - 1 ∧ 0 < q := by
  have h3 : (U * B + u) / Y < q := by
    rcases h with h | h
    · exact Nat.lt_of_lt_of_le (kd_lt hU hu) h
    · obtain ⟨e1, e2⟩ := kd_split (u := u) hY hq
      rw [Nat.div_lt_iff_lt_mul (by omega)]
      omega
  generalize (U * B + u) / Y = t at *
  omega
theorem kd_false (hY : Y = y1 * B + y0) (hq : q * y1 + r = U) (hU : U < Y) (hl : (U * B + u) / Y ≤ q) (h : q * y0 ≤ B * r + u) : q = (U * B + u) / Y := by
  obtain ⟨e1, e2⟩ := kd_split (u := u) hY hq
  have h3 : q ≤ (U * B + u) / Y := (Nat.le_div_iff_mul_le (by omega)).2 (by omega)
  omega
theorem kd_big (hY : Y = y1 * B + y0) (hq : q * y1 + r = U) (hU : U < Y) (h0 : y0 < B) (hl : (U * B + u) / Y ≤ q) (hr : B ≤ r) (hqB : q ≤ B) : q = (U * B + u) / Y := by
  refine kd_false hY hq hU hl ?_
  have h1 := Nat.mul_le_mul hqB (Nat.le_of_lt h0)
  have h2 := Nat.mul_le_mul_left B hr
  omega
theorem kd_two {v : Nat} (hY : 0 < Y) : (U * B + u) / Y * B + ((U * B + u) % Y * B + v) / Y = ((U * B + u) * B + v) / Y ∧ ((U * B + u) % Y * B + v) % Y = ((U * B + u) * B + v) % Y := by
  generalize U * B + u = W
  have h := Nat.div_add_mod W Y
  have e : W * B + v = Y * (W / Y * B) + (W % Y * B + v) := by
    conv => lhs; rw [← h]
    rw [Nat.add_mul, Nat.mul_assoc, Nat.add_assoc]
  rw [e, Nat.mul_add_div hY, Nat.mul_add_mod]
  exact ⟨rfl, rfl⟩
theorem kd_shift {a y s : Nat} (_hy : 0 < y) : a * 2 ^ s / (y * 2 ^ s) = a / y ∧ a * 2 ^ s % (y * 2 ^ s) / 2 ^ s = a % y := by
  have hp := Nat.two_pow_pos s
  constructor
  · exact Nat.mul_div_mul_right a y hp
  · rw [Nat.mul_mod_mul_right, Nat.mul_div_cancel _ hp]
end
end Go.Proofs.YtnhapjifddhdiaaDoor

namespace Go.Proofs.YtnhapjifddhdiaaDoor
open Go Go.RowKit

theorem bitLen_top {y : Nat} (h0 : 0 < y) (h : y < 18446744073709551616) : y < 2 ^ Lib.bitLen y ∧ 2 ^ (Lib.bitLen y - 1) ≤ y ∧ 0 < Lib.bitLen y ∧ Lib.bitLen y ≤ 64 := by
  have h64 : y < 2 ^ 64 := h
  have hle : Lib.bitLen y ≤ 64 := Lib.bitLen_le y 64 (by omega) h64
  have hpos : 0 < Lib.bitLen y := by rw [Lib.bitLen_half y (by omega) h64]; omega
  refine ⟨?_, ?_, hpos, hle⟩
  · rcases Nat.lt_or_ge y (2 ^ Lib.bitLen y) with h1 | h1
    · exact h1
    · exfalso
      have h2 := Lib.bitLen_shift (Lib.bitLen y) y h1 h64
      have h3 : 0 < y / 2 ^ Lib.bitLen y := Nat.div_pos h1 (Nat.two_pow_pos _)
      have h4 : y / 2 ^ Lib.bitLen y < 2 ^ 64 := Nat.lt_of_le_of_lt (Nat.div_le_self _ _) h64
      have h5 := Lib.bitLen_half _ (by omega) h4
      omega
  · rcases Nat.lt_or_ge y (2 ^ (Lib.bitLen y - 1)) with h1 | h1
    · have := Lib.bitLen_le y (Lib.bitLen y - 1) (by omega) h1
      omega
    · exact h1
theorem dv_norm {y : Nat} (h0 : 0 < y) (h : y < 18446744073709551616) : 9223372036854775808 ≤ y * 2 ^ (64 - Lib.bitLen y) ∧ y * 2 ^ (64 - Lib.bitLen y) < 18446744073709551616 ∧ 64 - Lib.bitLen y < 64 := by
  obtain ⟨h1, h2, h3, h4⟩ := bitLen_top h0 h
  have e1 : 2 ^ Lib.bitLen y * 2 ^ (64 - Lib.bitLen y) = 18446744073709551616 := by rw [← Nat.pow_add, show Lib.bitLen y + (64 - Lib.bitLen y) = 64 by omega]
  have e2 : 2 ^ (Lib.bitLen y - 1) * 2 ^ (64 - Lib.bitLen y) = 9223372036854775808 := by rw [← Nat.pow_add, show Lib.bitLen y - 1 + (64 - Lib.bitLen y) = 63 by omega]
  have hp := Nat.two_pow_pos (64 - Lib.bitLen y)
  refine ⟨?_, ?_, by omega⟩
  · rw [← e2]; exact Nat.mul_le_mul_right _ h2
  · rw [← e1]; exact (Nat.mul_lt_mul_right hp).2 h1
theorem dv_split {a b s : Nat} (hs : s < 64) : (a * 18446744073709551616 + b) * 2 ^ s = (a * 2 ^ s + b / 2 ^ (64 - s)) * 18446744073709551616 + b * 2 ^ s % 18446744073709551616 := by
  have e : 18446744073709551616 = 2 ^ (64 - s) * 2 ^ s := by rw [← Nat.pow_add, show 64 - s + s = 64 by omega]
  have e1 : b * 2 ^ s % 18446744073709551616 = b % 2 ^ (64 - s) * 2 ^ s := by
    conv => lhs; rw [e]
    exact Nat.mul_mod_mul_right _ _ _
  have e2 : b / 2 ^ (64 - s) * 18446744073709551616 + b % 2 ^ (64 - s) * 2 ^ s = b * 2 ^ s := by
    conv => lhs; rw [e]
    rw [← Nat.mul_assoc, ← Nat.add_mul, Nat.mul_comm (b / 2 ^ (64 - s)), Nat.div_add_mod]
  rw [e1, Nat.add_mul, Nat.add_mul, Nat.add_assoc, e2, Nat.mul_right_comm]
theorem dv_lt {a b y s : Nat} (h : a < y) (hb : b < 18446744073709551616) (hs : s < 64) : a * 2 ^ s + b / 2 ^ (64 - s) < y * 2 ^ s ∧ b / 2 ^ (64 - s) < 2 ^ s := by
  have e : 18446744073709551616 = 2 ^ s * 2 ^ (64 - s) := by rw [← Nat.pow_add, show s + (64 - s) = 64 by omega]
  have h1 : b / 2 ^ (64 - s) < 2 ^ s := (Nat.div_lt_iff_lt_mul (Nat.two_pow_pos _)).2 (by rw [← e]; exact hb)
  have h2 := Nat.mul_le_mul_right (2 ^ s) (show a + 1 ≤ y by omega)
  rw [Nat.add_mul, Nat.one_mul] at h2
  exact ⟨by omega, h1⟩
end Go.Proofs.YtnhapjifddhdiaaDoor
