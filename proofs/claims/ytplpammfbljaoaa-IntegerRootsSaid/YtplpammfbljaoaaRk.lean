/- Walks of the reference: DivMod, Div, Mod. Walk of the reference: Bezout. -/
import Derived.Test.YtplpammfbljaoaaRh
namespace Go.Proofs.Ytplpammfbljaoaa
open Go Go.RowKit

theorem enter_rAbs (args : Array Value) (w : World) : (callFunc 28 args).run Try.prog w = .ok (.enter 28 args) w := enter_of Try.func28 (by kernel_rfl) rfl args w
theorem enter_rSub (args : Array Value) (w : World) : (callFunc 22 args).run Try.prog w = .ok (.enter 22 args) w := enter_of Try.func22 (by kernel_rfl) rfl args w
theorem enter_rMul (args : Array Value) (w : World) : (callFunc 24 args).run Try.prog w = .ok (.enter 24 args) w := enter_of Try.func24 (by kernel_rfl) rfl args w

theorem ab_sgn (b : Bool) (v : Int) : ab (sgn b v) = ab v := by unfold ab; cases b <;> simp [sgn]

theorem boxes4n (w : World) {n n' : Bool} {ao ao' : Option Addr} {k c k' c' : Nat} {z z' : Int} (h : Num w (.agg #[.bool n, .slice ao k c]) z) (h' : Num w (.agg #[.bool n', .slice ao' k' c']) z') (t : TypeId) :
    ∃ w0, w0 = (((w.alloc (.cells #[.bool n, .slice ao k c] t)).alloc (.cells #[.bool n', .slice ao' k' c'] t)).alloc (.cells #[.bool false, .slice none 0 0] t)).alloc (.cells #[.bool false, .slice none 0 0] t) ∧
      BoxNum w0 w.heap.size z ∧ BoxNum w0 (w.heap.size + 1) z' ∧ BoxNum w0 (w.heap.size + 1 + 1) 0 ∧ BoxNum w0 (w.heap.size + 1 + 1 + 1) 0 ∧ Below w.heap.size w w0 := by
  obtain ⟨w0, hw0, hA, hB, hC, hD, hbl, HS⟩ := boxes4 w (.bool n) (.slice ao k c) (.bool n') (.slice ao' k' c') t
  exact ⟨w0, hw0, ⟨_, _, _, _, hA, h.mono hbl⟩, ⟨_, _, _, _, hB, h'.mono hbl⟩, ⟨_, _, _, _, hC, Num.zero _⟩, ⟨_, _, _, _, hD, Num.zero _⟩, hbl⟩

/-- Quotient and remainder of the Euclidean division, from those of the sizes. -/
theorem euclid {a b q r : Int} (hb : b ≠ 0) (h : a = q * b + r) (h0 : 0 ≤ r) (h1 : r < ab b) : q = a / b ∧ r = a % b := by
  have h2 : a % b = r := by
    rw [h, Int.add_comm, Int.add_mul_emod_self_right]
    rcases Int.lt_or_gt_of_ne hb with hb' | hb'
    · rw [← Int.emod_neg, Int.emod_eq_of_lt h0 (by unfold ab at h1; omega)]
    · exact Int.emod_eq_of_lt h0 (by unfold ab at h1; omega)
  have h3 := Int.mul_ediv_add_emod a b
  rw [h2] at h3
  have h4 : b * (a / b) = b * q := by rw [Int.mul_comm b q]; omega
  exact ⟨(Int.eq_of_mul_eq_mul_left hb h4).symm, h2.symm⟩

/-- The ends of the division with signs. -/
theorem dm_end {x y q0 r0 q r : Int} {a1 b1 a2 : Bool} (hy : y ≠ 0) (hd : ab y * q + r = ab x) (h0 : 0 ≤ r) (h1 : r < ab y) (nx : a1 = true → x < 0) (px : a1 = false → 0 ≤ x) (nx2 : a2 = true → x < 0) (px2 : a2 = false → 0 ≤ x)
    (ny : b1 = true → y < 0) (py : b1 = false → 0 ≤ y) (hq : q0 = sgn (!a1 == b1) q) (hr : r0 = sgn a2 r) :
    (0 ≤ r0 → q0 = x / y ∧ r0 = x % y) ∧ (r0 < 0 → 0 ≤ y → q0 - 1 = x / y ∧ r0 + (y.natAbs : Int) = x % y) ∧ (r0 < 0 → y < 0 → q0 + 1 = x / y ∧ r0 + (y.natAbs : Int) = x % y) := by
  have e1 : ab y = (y.natAbs : Int) := rfl
  by_cases hx : x < 0 <;> by_cases hyy : y < 0
  · obtain rfl : a1 = true := by cases a1; exact absurd (px rfl) (by omega); rfl
    obtain rfl : a2 = true := by cases a2; exact absurd (px2 rfl) (by omega); rfl
    obtain rfl : b1 = true := by cases b1; exact absurd (py rfl) (by omega); rfl
    have ax : ab x = -x := by unfold ab; omega
    have ay : ab y = -y := by unfold ab; omega
    simp [sgn] at hq hr
    rw [ax, ay, Int.neg_mul, Int.mul_comm] at hd
    rw [ay] at h1
    subst hq
    subst hr
    refine ⟨fun h => euclid hy (by omega) h (by rw [ay]; omega), fun h h' => by omega, fun h _ => euclid hy (by rw [Int.add_mul, Int.one_mul]; omega) (by omega) (by rw [ay]; omega)⟩
  · obtain rfl : a1 = true := by cases a1; exact absurd (px rfl) (by omega); rfl
    obtain rfl : a2 = true := by cases a2; exact absurd (px2 rfl) (by omega); rfl
    obtain rfl : b1 = false := by cases b1; rfl; exact absurd (ny rfl) (by omega)
    have ax : ab x = -x := by unfold ab; omega
    have ay : ab y = y := by unfold ab; omega
    simp [sgn] at hq hr
    rw [ax, ay, Int.mul_comm] at hd
    rw [ay] at h1
    subst hq
    subst hr
    refine ⟨fun h => euclid hy (by rw [Int.neg_mul]; omega) h (by rw [ay]; omega), fun h _ => euclid hy (by rw [Int.sub_mul, Int.one_mul, Int.neg_mul]; omega) (by omega) (by rw [ay]; omega), fun h h' => by omega⟩
  · obtain rfl : a1 = false := by cases a1; rfl; exact absurd (nx rfl) (by omega)
    obtain rfl : a2 = false := by cases a2; rfl; exact absurd (nx2 rfl) (by omega)
    obtain rfl : b1 = true := by cases b1; exact absurd (py rfl) (by omega); rfl
    have ax : ab x = x := by unfold ab; omega
    have ay : ab y = -y := by unfold ab; omega
    simp [sgn] at hq hr
    rw [ax, ay, Int.neg_mul, Int.mul_comm] at hd
    rw [ay] at h1
    subst hq
    subst hr
    refine ⟨fun h => euclid hy (by rw [Int.neg_mul]; omega) h (by rw [ay]; omega), fun h _ => by omega, fun h _ => by omega⟩
  · obtain rfl : a1 = false := by cases a1; rfl; exact absurd (nx rfl) (by omega)
    obtain rfl : a2 = false := by cases a2; rfl; exact absurd (nx2 rfl) (by omega)
    obtain rfl : b1 = false := by cases b1; rfl; exact absurd (ny rfl) (by omega)
    have ax : ab x = x := by unfold ab; omega
    have ay : ab y = y := by unfold ab; omega
    simp [sgn] at hq hr
    rw [ax, ay, Int.mul_comm] at hd
    rw [ay] at h1
    subst hq
    subst hr
    refine ⟨fun h => euclid hy (by omega) h (by rw [ay]; omega), fun h _ => by omega, fun h _ => by omega⟩

set_option maxRecDepth 100000 in
set_option maxHeartbeats 8000000 in
theorem RDivModV {w : World} {v v' : Value} {x y : Int} (h : Num w v x) (h' : Num w v' y) (hx : ab x < pw 1000) (hy : ab y < pw 1000) : Calls Try.prog 14 #[v, v'] w (DivGives w x y) := by
  obtain ⟨n, ao, k, c, rfl⟩ := h.parts
  obtain ⟨n', ao', k', c', rfl⟩ := h'.parts
  have Bx := hidd hx
  have By := hidd hy
  clear hx hy
  obtain ⟨w0, hw0, XA, XB, X4, X5, HB⟩ := boxes4n w h h' 27
  go_enter Try.func14, Try.ntmps14
  go_upto_region 1 with (fail)
  rw [← hw0]
  clear hw0 h h'
  obtain ⟨na, aoa, kka, cca, ⟨a0, a1, a2, a3⟩, hNa⟩ := id XA
  obtain ⟨nb, aob, kkb, ccb, ⟨b0, b1, b2, b3⟩, hNb⟩ := id XB
  obtain ⟨xs, sx, cx, kx, zx, vx0, _, negx, posx⟩ := hNa.sign
  obtain ⟨ys, sy, cy, ky, zy, vy0, hky, negy, posy⟩ := hNb.sign
  by_cases hy0 : y = 0
  · obtain rfl := hky.2 hy0
    obtain ⟨nc, aoc, kkc, ccc, ⟨c0, c1, c2, c3⟩, hNc⟩ := id X4
    obtain ⟨nd, aod, kkd, ccd, ⟨d0, d1, d2, d3⟩, hNd⟩ := id X5
    have hbS := (((HB.setCell (p := ⟨w.heap.size + 1 + 1, 0, none⟩) (by show w.heap.size ≤ w.heap.size + 1 + 1; omega) (.bool false)).setCell (p := ⟨w.heap.size + 1 + 1, 1, none⟩) (by show w.heap.size ≤ w.heap.size + 1 + 1; omega) (.slice none 0 0)).setCell (p := ⟨w.heap.size + 1 + 1 + 1, 0, none⟩) (by show w.heap.size ≤ w.heap.size + 1 + 1 + 1; omega) (.bool false)).setCell (p := ⟨w.heap.size + 1 + 1 + 1, 1, none⟩) (by show w.heap.size ≤ w.heap.size + 1 + 1 + 1; omega) (.slice none 0 0)
    clear hky zx zy negx posx negy posy
    go_wp2
    refine bodyPost_ret (v := .tuple #[.agg #[.bool false, .slice none 0 0], .agg #[.bool false, .slice none 0 0], .int .i64 4]) ?_ rfl ⟨hbS, .inl ⟨hy0, rfl⟩⟩
    simp [results, Try.results14, go_sem, c0, c1, d0, d1]
  · have Hy0 := hidd hy0
    have hkb : ((kkb : Int) == 0) = false := by simp; exact fun h => hy0 (hky.1 h)
    have vy1 : 0 < val ys := by rcases (by omega : val ys = 0 ∨ 0 < val ys) with h | h; exact absurd (by rw [zy, h]; cases nb <;> rfl) hy0; exact h
    have Kq : Hid (ab (val xs / val ys) < pw 1000) := by have h1 := Int.ediv_le_self (val ys) vx0; have h2 := Int.ediv_nonneg vx0 (Int.le_of_lt vy1); show ab _ < _; rw [ab_of h2]; have h3 := Bx.out; rw [zx, ab_sgn, ab_of vx0] at h3; omega
    have Kr : Hid (ab (val xs % val ys) < pw 1000) := by have h1 := Int.emod_lt_of_pos (val xs) vy1; have h2 := Int.emod_nonneg (val xs) (Int.ne_of_gt vy1); show ab _ < _; rw [ab_of h2]; have h3 := By.out; rw [zy, ab_sgn, ab_of vy0] at h3; omega
    have Zx := hidd zx
    have Zy := hidd zy
    have Ny := hidd negy
    have Py := hidd posy
    have V0 := hidd vx0
    have V1 := hidd vy1
    clear hy0 hky zx zy negx posx negy posy vx0 vy0 vy1
    go_wp2_with fail
    clear hkb
    refine (divide_any _ _ _ _ _ _ _ xs ys sx sy cx cy V1.out (by omega) (by omega)).mono ?_
    rintro e w1 ⟨aq, lq, cq, qs, ar, lr, cr, rs, rfl, sq, sr, hlq, hlr, vq, vr, hb⟩
    have Vq := hidd vq
    have Vr := hidd vr
    clear vq vr
    clear a0 a1 a2 a3 hNa b0 b1 b2 b3 hNb
    clear sx sy
    replace XA := XA.mono hb
    replace XB := XB.mono hb
    replace X4 := X4.mono hb
    replace X5 := X5.mono hb
    replace HB := HB.trans (hb.mono HB.size)
    clear hb
    go_upto_region 4 with (fail)
    obtain ⟨w2, hw2, hI7⟩ : ∃ w2, w2 = w1.alloc (.cells #[.slice aq lq cq, .slice ar lr cr] 65) ∧ IntBox w2 w1.heap.size (.slice aq lq cq) (.slice ar lr cr) := ⟨_, rfl, IntBox.new _ _ _ _⟩
    rw [← hw2]
    have hb : Below w1.heap.size w1 w2 := by rw [hw2]; exact alloc_below _ _
    have hlt1 := X5.lt
    clear hw2
    replace XA := XA.mono hb
    replace XB := XB.mono hb
    replace X4 := X4.mono hb
    replace X5 := X5.mono hb
    replace HB := HB.trans (hb.mono HB.size)
    replace sq := sq.mono hb
    replace sr := sr.mono hb
    clear hb
    obtain ⟨g7, hg7⟩ : ∃ g7, g7 = w1.heap.size := ⟨_, rfl⟩
    rw [← hg7] at hI7 hlt1
    rw [← hg7]
    clear hg7
    have hlt2 := hI7.lt
    obtain ⟨na, aoa, kka, cca, ⟨a0, a1, a2, a3⟩, hNa⟩ := id XA
    obtain ⟨nb, aob, kkb, ccb, ⟨b0, b1, b2, b3⟩, hNb⟩ := id XB
    have hI7c := hI7
    obtain ⟨i0, i1, _, _⟩ := hI7
    go_wp2_with fail
    obtain ⟨_, _, _, _, _, _, _, negx, posx⟩ := hNa.sign
    obtain ⟨_, _, _, _, _, _, _, negy, posy⟩ := hNb.sign
    have Nx := hidd negx
    have Px := hidd posx
    have Ny2 := hidd negy
    have Py2 := hidd posy
    clear negx posx negy posy
    have Ax : Hid (val xs = ab x) := by show val xs = ab x; rw [Zx.out, ab_sgn, ab_of V0.out]
    have Ay : Hid (val ys = ab y) := by show val ys = ab y; rw [Zy.out, ab_sgn, ab_of (Int.le_of_lt V1.out)]
    obtain ⟨q0, hq0⟩ : ∃ q0, q0 = sgn (!na == nb) (val qs) := ⟨_, rfl⟩
    have Bq0 : Hid (ab q0 < pw 1000) := by show ab q0 < _; rw [hq0, ab_sgn, Vq.out]; exact Kq.out
    have Hq0 := hidd hq0
    clear hq0
    refine (exKP (z := q0) (by rw [Hq0.out]; exact made_any _ _ _ _ _ _ sq (by omega)) Bq0.out (by omega)).mono ?_
    rintro e w3 ⟨n3', ao3, kk3, c3', rfl, hb, hN3⟩
    replace hI7c := hI7c.mono hb hlt2
    have hlt3 := hb.size
    clear a0 a1 a2 a3 hNa b0 b1 b2 b3 hNb
    clear i0 i1
    replace XA := XA.mono hb
    replace XB := XB.mono hb
    replace X4 := X4.mono hb
    replace X5 := X5.mono hb
    replace HB := HB.trans (hb.mono HB.size)
    replace sr := sr.mono hb
    clear hb
    replace hlt2 : g7 < w3.heap.size := by omega
    clear hlt3
    go_upto_region 5 with (fail)
    obtain ⟨w11, hw11, hb, p1⟩ := boxOne hN3 27
    rw [← hw11]
    clear hw11
    replace hI7c := hI7c.mono hb hlt2
    have hsz1 := hb.size
    replace XA := XA.mono hb
    replace XB := XB.mono hb
    replace X4 := X4.mono hb
    replace X5 := X5.mono hb
    replace HB := HB.trans (hb.mono HB.size)
    replace sr := sr.mono hb
    clear hb
    obtain ⟨g8, hg8⟩ : ∃ g, g = w3.heap.size := ⟨_, rfl⟩
    rw [← hg8] at p1 hlt2 hsz1
    rw [← hg8]
    clear hg8
    have X8 := p1
    have hlt8 := hlt2
    replace hlt2 : g7 < w11.heap.size := by omega
    clear p1 hsz1
    obtain ⟨na, aoa, kka, cca, ⟨a0, a1, a2, a3⟩, hNa⟩ := id XA
    have hI7d := hI7c
    obtain ⟨i0, i1, _, _⟩ := hI7c
    rename IntBox _ g7 _ _ => hI7c
    obtain ⟨_, _, _, _, _, _, _, negx, posx⟩ := hNa.sign
    have Nx2 := hidd negx
    have Px2 := hidd posx
    clear negx posx
    go_wp2_with fail
    obtain ⟨r0, hr0⟩ : ∃ r0, r0 = sgn na (val rs) := ⟨_, rfl⟩
    have Br0 : Hid (ab r0 < pw 1000) := by show ab r0 < _; rw [hr0, ab_sgn, Vr.out]; exact Kr.out
    have Hr0 := hidd hr0
    clear hr0
    refine (exKP (z := r0) (by rw [Hr0.out]; exact made_any _ _ _ _ _ _ sr (by omega)) Br0.out (by omega)).mono ?_
    rintro e w4 ⟨n4', ao4, kk4, c4', rfl, hb, hN4⟩
    replace hI7c := hI7c.mono hb hlt2
    have hlt3 := hb.size
    clear a0 a1 a2 a3 hNa
    clear i0 i1 sr sq
    replace XA := XA.mono hb
    replace XB := XB.mono hb
    replace X4 := X4.mono hb
    replace X5 := X5.mono hb
    replace X8 := X8.mono hb
    replace HB := HB.trans (hb.mono HB.size)
    clear hb
    replace hlt2 : g7 < w4.heap.size := by omega
    have hlt38 : g8 < w4.heap.size := X8.lt
    clear hlt3
    go_upto_region 6 with (fail)
    obtain ⟨w12, hw12, hb, p2⟩ := boxOne hN4 27
    rw [← hw12]
    clear hw12
    replace hI7c := hI7c.mono hb hlt2
    have hsz2 := hb.size
    replace XA := XA.mono hb
    replace XB := XB.mono hb
    replace X4 := X4.mono hb
    replace X5 := X5.mono hb
    replace X8 := X8.mono hb
    replace HB := HB.trans (hb.mono HB.size)
    clear hb
    obtain ⟨g9, hg9⟩ : ∃ g, g = w4.heap.size := ⟨_, rfl⟩
    rw [← hg9] at p2 hlt2 hsz2 hlt38
    rw [← hg9]
    clear hg9
    have X9 := p2
    have hlt9 := hlt2
    replace hlt2 : g7 < w12.heap.size := by omega
    clear p2 hsz2
    have hord : w.heap.size + 1 + 1 + 1 < g7 ∧ g7 < g8 ∧ g8 < g9 := by omega
    obtain ⟨ho7, ho8, ho9⟩ := hord
    clear hlt1 hlt2 hlt8 hlt9 hlt38 hI7c
    obtain ⟨nf, aof, kkf, ccf, ⟨f0, f1, f2, f3⟩, hNf⟩ := id X9
    obtain ⟨_, _, _, _, _, _, _, negr, posr⟩ := hNf.sign
    have Nr := hidd negr
    have Pr := hidd posr
    clear negr posr
    cases nf
    · go_wp2
      have hEu : q0 = x / y ∧ r0 = x % y := by
        have hA := Ax.out
        have hB := Ay.out
        have h1 := Vq.out
        have h2 := Vr.out
        rw [hA, hB] at h1 h2
        have hq := Hq0.out
        have hr := Hr0.out
        rw [h1] at hq
        rw [h2] at hr
        have hv := V1.out
        rw [hB] at hv
        have hd := Int.mul_ediv_add_emod (ab x) (ab y)
        have hm0 := Int.emod_nonneg (ab x) (show ab y ≠ 0 by omega)
        have hm1 := Int.emod_lt_of_pos (ab x) hv
        have D := dm_end Hy0.out hd hm0 hm1 Nx.out Px.out Nx2.out Px2.out Ny2.out Py2.out hq hr
        have pr := Pr.out
        exact D.1 (by simpa using pr)
      have HEu := hidd hEu
      clear hEu
      have hlast := X9.lt
      have hp : (plan [Fc.num q0, Fc.num r0, Fc.any, Fc.any, Fc.is (.int .i64 (0))] [(w.heap.size, 1000, x, x), ((w.heap.size + 1), 1001, y, y), ((w.heap.size + 1 + 1), 2, 0, q0), ((w.heap.size + 1 + 1 + 1), 3, 0, r0), (g8, 1004, q0, q0), (g9, 1005, r0, r0)] []).Ok w.heap.size w12.heap.size := plan_ok (by simp; omega) (by simp; try omega) (by simp) (by omega)
      have hm := PMono.of hp
      refine region_steps (p := (plan [Fc.num q0, Fc.num r0, Fc.any, Fc.any, Fc.is (.int .i64 (0))] [(w.heap.size, 1000, x, x), ((w.heap.size + 1), 1001, y, y), ((w.heap.size + 1 + 1), 2, 0, q0), ((w.heap.size + 1 + 1 + 1), 3, 0, r0), (g8, 1004, q0, q0), (g9, 1005, r0, r0)] [])) (B := w.heap.size) (B0 := w12.heap.size) (w0 := w) (by kernel_rfl) rfl rfl (plan_start (by simp; exact ⟨XA, XB, X4, X5, X8, X9⟩) HB) ⟨?_, ?_, ?_, ?_, ?_, trivial⟩ ?_
      · exact st_load (b := g8) (k := 1004) (z := q0) (z' := q0) hp (by simp [plan]) (.inl rfl) rfl rfl (fun v w h => h) ⟨by simp [plan], by simp [plan]⟩
      · exact st_load (b := g9) (k := 1005) (z := r0) (z' := r0) hp (by simp [plan]) (.inl rfl) rfl rfl (fun v w h => h) ⟨by simp [plan], by simp [plan]⟩
      · exact st_storeOld (b := (w.heap.size + 1 + 1)) (j := 0) (z := 0) (z' := q0) hp rfl (by simp [plan]) rfl rfl rfl (by simp) rfl (fun v w h => h) (fun _ _ => trivial) (by simp [plan]) (by simp [plan])
      · exact st_storeOld (b := (w.heap.size + 1 + 1 + 1)) (j := 1) (z := 0) (z' := r0) hp rfl (by simp [plan]) rfl rfl rfl (by simp) rfl (fun v w h => h) (fun _ _ => trivial) (by simp [plan]) (by simp [plan])
      · exact g_assign hm ⟨by simp [plan], by simp [plan]⟩ trivial (src_const (fun _ => rfl))
      intro L vs w3 hL hG
      replace XA : BoxNum w3 w.heap.size x := by have := hG.old (w.heap.size, 1000, x, x) (by simp [plan]); simpa using this
      replace XB : BoxNum w3 (w.heap.size + 1) y := by have := hG.old ((w.heap.size + 1), 1001, y, y) (by simp [plan]); simpa using this
      replace X4 : BoxNum w3 (w.heap.size + 1 + 1) q0 := by have := hG.old ((w.heap.size + 1 + 1), 2, 0, q0) (by simp [plan]); simpa [hL 2 (by simp)] using this
      replace X5 : BoxNum w3 (w.heap.size + 1 + 1 + 1) r0 := by have := hG.old ((w.heap.size + 1 + 1 + 1), 3, 0, r0) (by simp [plan]); simpa [hL 3 (by simp)] using this
      replace X8 : BoxNum w3 g8 q0 := by have := hG.old (g8, 1004, q0, q0) (by simp [plan]); simpa using this
      replace X9 : BoxNum w3 g9 r0 := by have := hG.old (g9, 1005, r0, r0) (by simp [plan]); simpa using this
      have e4 : vs 4 = .int .i64 (0) := hG.val 4 (hL 4 (by simp))
      replace HB := hG.below
      rw [lay_all hL]
      simp only [putAll, dstOf, List.length_cons, List.length_nil, Nat.zero_add, Nat.reduceAdd, List.getElem?_toArray, List.getElem?_cons_zero, List.getElem?_cons_succ, Option.bind_some, Act.put, List.setIfInBounds_toArray, List.set_cons_succ, List.set_cons_zero]
      rw [e4]
      generalize vs 0 = u3_0
      generalize vs 1 = u3_1
      clear hG hm hp hL hlast vs L e4
      obtain ⟨nc, aoc, kkc, ccc, ⟨c0, c1, c2, c3⟩, hNc⟩ := id X4
      obtain ⟨nd, aod, kkd, ccd, ⟨d0, d1, d2, d3⟩, hNd⟩ := id X5
      go_wp2
      refine bodyPost_ret (v := .tuple #[.agg #[.bool nc, .slice aoc kkc ccc], .agg #[.bool nd, .slice aod kkd ccd], .int .i64 0]) ?_ rfl ⟨HB, .inr ⟨Hy0.out, _, _, rfl, by rw [← HEu.out.1]; exact hNc.isInt, by rw [← HEu.out.2]; exact hNd.isInt⟩⟩
      simp [results, Try.results14, go_sem, c0, c1, d0, d1]
    · go_wp2
      have B4 : Hid (ab ((Int.natAbs y : Int)) < pw 1000) := ab_absB By.out
      have B5 : Hid (ab ((r0 + (Int.natAbs y : Int))) < pw 1001) := ab_addB Br0.out B4.out (by omega) (by omega)
      have hlast := X9.lt
      have hp : (plan [Fc.num r0, Fc.num y, Fc.num (Int.natAbs y : Int), Fc.num (r0 + (Int.natAbs y : Int)), Fc.any] [(w.heap.size, 1000, x, x), ((w.heap.size + 1), 1001, y, y), ((w.heap.size + 1 + 1), 1002, 0, 0), ((w.heap.size + 1 + 1 + 1), 1003, 0, 0), (g8, 1004, q0, q0), (g9, 4, r0, (r0 + (Int.natAbs y : Int)))] []).Ok w.heap.size w12.heap.size := plan_ok (by simp; omega) (by simp; try omega) (by simp) (by omega)
      have hm := PMono.of hp
      refine region_steps (p := (plan [Fc.num r0, Fc.num y, Fc.num (Int.natAbs y : Int), Fc.num (r0 + (Int.natAbs y : Int)), Fc.any] [(w.heap.size, 1000, x, x), ((w.heap.size + 1), 1001, y, y), ((w.heap.size + 1 + 1), 1002, 0, 0), ((w.heap.size + 1 + 1 + 1), 1003, 0, 0), (g8, 1004, q0, q0), (g9, 4, r0, (r0 + (Int.natAbs y : Int)))] [])) (B := w.heap.size) (B0 := w12.heap.size) (w0 := w) (by kernel_rfl) rfl rfl (plan_start (by simp; exact ⟨XA, XB, X4, X5, X8, X9⟩) HB) ⟨?_, ?_, ?_, ?_, ?_, trivial⟩ ?_
      · exact st_load (b := g9) (k := 4) (z := r0) (z' := (r0 + (Int.natAbs y : Int))) hp (by simp [plan]) (.inr rfl) rfl rfl (fun v w h => h) ⟨by simp [plan], by simp [plan]⟩
      · exact st_load (b := (w.heap.size + 1)) (k := 1001) (z := y) (z' := y) hp (by simp [plan]) (.inl rfl) rfl rfl (fun v w h => h) ⟨by simp [plan], by simp [plan]⟩
      · exact g_call1 (F := (Fc.num y).P) hm ⟨by simp [plan], by simp [plan]⟩ trivial enter_rAbs (src_in 1 rfl rfl (by simp) rfl (fun v w h => h)) (fun v w h => exK (RAbsV h) B4.out (by omega))
      · exact g_call2 (F := (Fc.num r0).P) (G := (Fc.num (Int.natAbs y : Int)).P) hm ⟨by simp [plan], by simp [plan]⟩ trivial enter_rAdd (src_in 0 rfl rfl (by simp) rfl (fun v w h => h)) (src_in 2 rfl rfl (by simp) rfl (fun v w h => h)) (fun v v' w h h' => exK (RAddV h h') B5.out (by omega))
      · exact st_storeOld (b := g9) (j := 3) (z := r0) (z' := (r0 + (Int.natAbs y : Int))) hp rfl (by simp [plan]) rfl rfl rfl (by simp) rfl (fun v w h => h) (fun _ _ => trivial) (by simp [plan]) (by simp [plan])
      intro L vs w6 hL hG
      replace XA : BoxNum w6 w.heap.size x := by have := hG.old (w.heap.size, 1000, x, x) (by simp [plan]); simpa using this
      replace XB : BoxNum w6 (w.heap.size + 1) y := by have := hG.old ((w.heap.size + 1), 1001, y, y) (by simp [plan]); simpa using this
      replace X4 : BoxNum w6 (w.heap.size + 1 + 1) 0 := by have := hG.old ((w.heap.size + 1 + 1), 1002, 0, 0) (by simp [plan]); simpa using this
      replace X5 : BoxNum w6 (w.heap.size + 1 + 1 + 1) 0 := by have := hG.old ((w.heap.size + 1 + 1 + 1), 1003, 0, 0) (by simp [plan]); simpa using this
      replace X8 : BoxNum w6 g8 q0 := by have := hG.old (g8, 1004, q0, q0) (by simp [plan]); simpa using this
      replace X9 : BoxNum w6 g9 (r0 + (Int.natAbs y : Int)) := by have := hG.old (g9, 4, r0, (r0 + (Int.natAbs y : Int))) (by simp [plan]); simpa [hL 4 (by simp)] using this
      replace HB := hG.below
      rw [lay_all hL]
      simp only [putAll, dstOf, List.length_cons, List.length_nil, Nat.zero_add, Nat.reduceAdd, List.getElem?_toArray, List.getElem?_cons_zero, List.getElem?_cons_succ, Option.bind_some, Act.put, List.setIfInBounds_toArray, List.set_cons_succ, List.set_cons_zero]
      generalize vs 0 = u6_0
      generalize vs 1 = u6_1
      generalize vs 2 = u6_2
      generalize vs 3 = u6_3
      clear hG hm hp hL hlast vs L 
      obtain ⟨nb, aob, kkb, ccb, ⟨b0, b1, b2, b3⟩, hNb⟩ := id XB
      obtain ⟨_, _, _, _, _, _, _, negy, posy⟩ := hNb.sign
      have Ny3 := hidd negy
      have Py3 := hidd posy
      clear negy posy
      cases nb
      · go_wp2
        have B7 : Hid (ab (1) < pw 2) := by show ab (1) < pw 2; decide
        have B8 : Hid (ab ((q0 - (1))) < pw 1001) := ab_subB Bq0.out B7.out (by omega) (by omega)
        have hlast := X9.lt
        have hp : (plan [Fc.num q0, Fc.num (1), Fc.num (q0 - (1)), Fc.any] [(w.heap.size, 1000, x, x), ((w.heap.size + 1), 1001, y, y), ((w.heap.size + 1 + 1), 1002, 0, 0), ((w.heap.size + 1 + 1 + 1), 1003, 0, 0), (g8, 3, q0, (q0 - (1))), (g9, 1005, (r0 + (Int.natAbs y : Int)), (r0 + (Int.natAbs y : Int)))] []).Ok w.heap.size w6.heap.size := plan_ok (by simp; omega) (by simp; try omega) (by simp) (by omega)
        have hm := PMono.of hp
        refine region_steps (p := (plan [Fc.num q0, Fc.num (1), Fc.num (q0 - (1)), Fc.any] [(w.heap.size, 1000, x, x), ((w.heap.size + 1), 1001, y, y), ((w.heap.size + 1 + 1), 1002, 0, 0), ((w.heap.size + 1 + 1 + 1), 1003, 0, 0), (g8, 3, q0, (q0 - (1))), (g9, 1005, (r0 + (Int.natAbs y : Int)), (r0 + (Int.natAbs y : Int)))] [])) (B := w.heap.size) (B0 := w6.heap.size) (w0 := w) (by kernel_rfl) rfl rfl (plan_start (by simp; exact ⟨XA, XB, X4, X5, X8, X9⟩) HB) ⟨?_, ?_, ?_, ?_, trivial⟩ ?_
        · exact st_load (b := g8) (k := 3) (z := q0) (z' := (q0 - (1))) hp (by simp [plan]) (.inr rfl) rfl rfl (fun v w h => h) ⟨by simp [plan], by simp [plan]⟩
        · exact g_callC hm ⟨by simp [plan], by simp [plan]⟩ trivial enter_rOf (fun w => rOfV w (1) (by omega) (by omega))
        · exact g_call2 (F := (Fc.num q0).P) (G := (Fc.num (1)).P) hm ⟨by simp [plan], by simp [plan]⟩ trivial enter_rSub (src_in 0 rfl rfl (by simp) rfl (fun v w h => h)) (src_in 1 rfl rfl (by simp) rfl (fun v w h => h)) (fun v v' w h h' => exK (RSubV h h' (K := 1000) (Int.lt_of_lt_of_le Bq0.out (pw_le (by omega))) (Int.lt_of_lt_of_le B7.out (pw_le (by omega))) (by omega)) B8.out (by omega))
        · exact st_storeOld (b := g8) (j := 2) (z := q0) (z' := (q0 - (1))) hp rfl (by simp [plan]) rfl rfl rfl (by simp) rfl (fun v w h => h) (fun _ _ => trivial) (by simp [plan]) (by simp [plan])
        intro L vs w9 hL hG
        replace XA : BoxNum w9 w.heap.size x := by have := hG.old (w.heap.size, 1000, x, x) (by simp [plan]); simpa using this
        replace XB : BoxNum w9 (w.heap.size + 1) y := by have := hG.old ((w.heap.size + 1), 1001, y, y) (by simp [plan]); simpa using this
        replace X4 : BoxNum w9 (w.heap.size + 1 + 1) 0 := by have := hG.old ((w.heap.size + 1 + 1), 1002, 0, 0) (by simp [plan]); simpa using this
        replace X5 : BoxNum w9 (w.heap.size + 1 + 1 + 1) 0 := by have := hG.old ((w.heap.size + 1 + 1 + 1), 1003, 0, 0) (by simp [plan]); simpa using this
        replace X8 : BoxNum w9 g8 (q0 - (1)) := by have := hG.old (g8, 3, q0, (q0 - (1))) (by simp [plan]); simpa [hL 3 (by simp)] using this
        replace X9 : BoxNum w9 g9 (r0 + (Int.natAbs y : Int)) := by have := hG.old (g9, 1005, (r0 + (Int.natAbs y : Int)), (r0 + (Int.natAbs y : Int))) (by simp [plan]); simpa using this
        replace HB := hG.below
        rw [lay_all hL]
        simp only [putAll, dstOf, List.length_cons, List.length_nil, Nat.zero_add, Nat.reduceAdd, List.getElem?_toArray, List.getElem?_cons_zero, List.getElem?_cons_succ, Option.bind_some, Act.put, List.setIfInBounds_toArray, List.set_cons_succ, List.set_cons_zero]
        generalize vs 0 = u9_0
        generalize vs 1 = u9_1
        generalize vs 2 = u9_2
        clear hG hm hp hL hlast vs L 
        go_wp2
        have hEu : (q0 - (1)) = x / y ∧ (r0 + (Int.natAbs y : Int)) = x % y := by
          have hA := Ax.out
          have hB := Ay.out
          have h1 := Vq.out
          have h2 := Vr.out
          rw [hA, hB] at h1 h2
          have hq := Hq0.out
          have hr := Hr0.out
          rw [h1] at hq
          rw [h2] at hr
          have hv := V1.out
          rw [hB] at hv
          have hd := Int.mul_ediv_add_emod (ab x) (ab y)
          have hm0 := Int.emod_nonneg (ab x) (show ab y ≠ 0 by omega)
          have hm1 := Int.emod_lt_of_pos (ab x) hv
          have D := dm_end Hy0.out hd hm0 hm1 Nx.out Px.out Nx2.out Px2.out Ny2.out Py2.out hq hr
          have nr := Nr.out
          have ny3 := Ny3.out
          have py3 := Py3.out
          exact D.2.1 (by simpa using nr) (by simpa using py3)
        have HEu := hidd hEu
        clear hEu
        have hlast := X9.lt
        have hp : (plan [Fc.num (q0 - (1)), Fc.num (r0 + (Int.natAbs y : Int)), Fc.any, Fc.any, Fc.is (.int .i64 (0))] [(w.heap.size, 1000, x, x), ((w.heap.size + 1), 1001, y, y), ((w.heap.size + 1 + 1), 2, 0, (q0 - (1))), ((w.heap.size + 1 + 1 + 1), 3, 0, (r0 + (Int.natAbs y : Int))), (g8, 1004, (q0 - (1)), (q0 - (1))), (g9, 1005, (r0 + (Int.natAbs y : Int)), (r0 + (Int.natAbs y : Int)))] []).Ok w.heap.size w9.heap.size := plan_ok (by simp; omega) (by simp; try omega) (by simp) (by omega)
        have hm := PMono.of hp
        refine region_steps (p := (plan [Fc.num (q0 - (1)), Fc.num (r0 + (Int.natAbs y : Int)), Fc.any, Fc.any, Fc.is (.int .i64 (0))] [(w.heap.size, 1000, x, x), ((w.heap.size + 1), 1001, y, y), ((w.heap.size + 1 + 1), 2, 0, (q0 - (1))), ((w.heap.size + 1 + 1 + 1), 3, 0, (r0 + (Int.natAbs y : Int))), (g8, 1004, (q0 - (1)), (q0 - (1))), (g9, 1005, (r0 + (Int.natAbs y : Int)), (r0 + (Int.natAbs y : Int)))] [])) (B := w.heap.size) (B0 := w9.heap.size) (w0 := w) (by kernel_rfl) rfl rfl (plan_start (by simp; exact ⟨XA, XB, X4, X5, X8, X9⟩) HB) ⟨?_, ?_, ?_, ?_, ?_, trivial⟩ ?_
        · exact st_load (b := g8) (k := 1004) (z := (q0 - (1))) (z' := (q0 - (1))) hp (by simp [plan]) (.inl rfl) rfl rfl (fun v w h => h) ⟨by simp [plan], by simp [plan]⟩
        · exact st_load (b := g9) (k := 1005) (z := (r0 + (Int.natAbs y : Int))) (z' := (r0 + (Int.natAbs y : Int))) hp (by simp [plan]) (.inl rfl) rfl rfl (fun v w h => h) ⟨by simp [plan], by simp [plan]⟩
        · exact st_storeOld (b := (w.heap.size + 1 + 1)) (j := 0) (z := 0) (z' := (q0 - (1))) hp rfl (by simp [plan]) rfl rfl rfl (by simp) rfl (fun v w h => h) (fun _ _ => trivial) (by simp [plan]) (by simp [plan])
        · exact st_storeOld (b := (w.heap.size + 1 + 1 + 1)) (j := 1) (z := 0) (z' := (r0 + (Int.natAbs y : Int))) hp rfl (by simp [plan]) rfl rfl rfl (by simp) rfl (fun v w h => h) (fun _ _ => trivial) (by simp [plan]) (by simp [plan])
        · exact g_assign hm ⟨by simp [plan], by simp [plan]⟩ trivial (src_const (fun _ => rfl))
        intro L vs w10 hL hG
        replace XA : BoxNum w10 w.heap.size x := by have := hG.old (w.heap.size, 1000, x, x) (by simp [plan]); simpa using this
        replace XB : BoxNum w10 (w.heap.size + 1) y := by have := hG.old ((w.heap.size + 1), 1001, y, y) (by simp [plan]); simpa using this
        replace X4 : BoxNum w10 (w.heap.size + 1 + 1) (q0 - (1)) := by have := hG.old ((w.heap.size + 1 + 1), 2, 0, (q0 - (1))) (by simp [plan]); simpa [hL 2 (by simp)] using this
        replace X5 : BoxNum w10 (w.heap.size + 1 + 1 + 1) (r0 + (Int.natAbs y : Int)) := by have := hG.old ((w.heap.size + 1 + 1 + 1), 3, 0, (r0 + (Int.natAbs y : Int))) (by simp [plan]); simpa [hL 3 (by simp)] using this
        replace X8 : BoxNum w10 g8 (q0 - (1)) := by have := hG.old (g8, 1004, (q0 - (1)), (q0 - (1))) (by simp [plan]); simpa using this
        replace X9 : BoxNum w10 g9 (r0 + (Int.natAbs y : Int)) := by have := hG.old (g9, 1005, (r0 + (Int.natAbs y : Int)), (r0 + (Int.natAbs y : Int))) (by simp [plan]); simpa using this
        have e4 : vs 4 = .int .i64 (0) := hG.val 4 (hL 4 (by simp))
        replace HB := hG.below
        rw [lay_all hL]
        simp only [putAll, dstOf, List.length_cons, List.length_nil, Nat.zero_add, Nat.reduceAdd, List.getElem?_toArray, List.getElem?_cons_zero, List.getElem?_cons_succ, Option.bind_some, Act.put, List.setIfInBounds_toArray, List.set_cons_succ, List.set_cons_zero]
        rw [e4]
        generalize vs 0 = u10_0
        generalize vs 1 = u10_1
        clear hG hm hp hL hlast vs L e4
        obtain ⟨nc, aoc, kkc, ccc, ⟨c0, c1, c2, c3⟩, hNc⟩ := id X4
        obtain ⟨nd, aod, kkd, ccd, ⟨d0, d1, d2, d3⟩, hNd⟩ := id X5
        go_wp2
        refine bodyPost_ret (v := .tuple #[.agg #[.bool nc, .slice aoc kkc ccc], .agg #[.bool nd, .slice aod kkd ccd], .int .i64 0]) ?_ rfl ⟨HB, .inr ⟨Hy0.out, _, _, rfl, by rw [← HEu.out.1]; exact hNc.isInt, by rw [← HEu.out.2]; exact hNd.isInt⟩⟩
        simp [results, Try.results14, go_sem, c0, c1, d0, d1]
      · go_wp2
        have B11 : Hid (ab (1) < pw 2) := by show ab (1) < pw 2; decide
        have B12 : Hid (ab ((q0 + (1))) < pw 1001) := ab_addB Bq0.out B11.out (by omega) (by omega)
        have hlast := X9.lt
        have hp : (plan [Fc.num q0, Fc.num (1), Fc.num (q0 + (1)), Fc.any] [(w.heap.size, 1000, x, x), ((w.heap.size + 1), 1001, y, y), ((w.heap.size + 1 + 1), 1002, 0, 0), ((w.heap.size + 1 + 1 + 1), 1003, 0, 0), (g8, 3, q0, (q0 + (1))), (g9, 1005, (r0 + (Int.natAbs y : Int)), (r0 + (Int.natAbs y : Int)))] []).Ok w.heap.size w6.heap.size := plan_ok (by simp; omega) (by simp; try omega) (by simp) (by omega)
        have hm := PMono.of hp
        refine region_steps (p := (plan [Fc.num q0, Fc.num (1), Fc.num (q0 + (1)), Fc.any] [(w.heap.size, 1000, x, x), ((w.heap.size + 1), 1001, y, y), ((w.heap.size + 1 + 1), 1002, 0, 0), ((w.heap.size + 1 + 1 + 1), 1003, 0, 0), (g8, 3, q0, (q0 + (1))), (g9, 1005, (r0 + (Int.natAbs y : Int)), (r0 + (Int.natAbs y : Int)))] [])) (B := w.heap.size) (B0 := w6.heap.size) (w0 := w) (by kernel_rfl) rfl rfl (plan_start (by simp; exact ⟨XA, XB, X4, X5, X8, X9⟩) HB) ⟨?_, ?_, ?_, ?_, trivial⟩ ?_
        · exact st_load (b := g8) (k := 3) (z := q0) (z' := (q0 + (1))) hp (by simp [plan]) (.inr rfl) rfl rfl (fun v w h => h) ⟨by simp [plan], by simp [plan]⟩
        · exact g_callC hm ⟨by simp [plan], by simp [plan]⟩ trivial enter_rOf (fun w => rOfV w (1) (by omega) (by omega))
        · exact g_call2 (F := (Fc.num q0).P) (G := (Fc.num (1)).P) hm ⟨by simp [plan], by simp [plan]⟩ trivial enter_rAdd (src_in 0 rfl rfl (by simp) rfl (fun v w h => h)) (src_in 1 rfl rfl (by simp) rfl (fun v w h => h)) (fun v v' w h h' => exK (RAddV h h') B12.out (by omega))
        · exact st_storeOld (b := g8) (j := 2) (z := q0) (z' := (q0 + (1))) hp rfl (by simp [plan]) rfl rfl rfl (by simp) rfl (fun v w h => h) (fun _ _ => trivial) (by simp [plan]) (by simp [plan])
        intro L vs w13 hL hG
        replace XA : BoxNum w13 w.heap.size x := by have := hG.old (w.heap.size, 1000, x, x) (by simp [plan]); simpa using this
        replace XB : BoxNum w13 (w.heap.size + 1) y := by have := hG.old ((w.heap.size + 1), 1001, y, y) (by simp [plan]); simpa using this
        replace X4 : BoxNum w13 (w.heap.size + 1 + 1) 0 := by have := hG.old ((w.heap.size + 1 + 1), 1002, 0, 0) (by simp [plan]); simpa using this
        replace X5 : BoxNum w13 (w.heap.size + 1 + 1 + 1) 0 := by have := hG.old ((w.heap.size + 1 + 1 + 1), 1003, 0, 0) (by simp [plan]); simpa using this
        replace X8 : BoxNum w13 g8 (q0 + (1)) := by have := hG.old (g8, 3, q0, (q0 + (1))) (by simp [plan]); simpa [hL 3 (by simp)] using this
        replace X9 : BoxNum w13 g9 (r0 + (Int.natAbs y : Int)) := by have := hG.old (g9, 1005, (r0 + (Int.natAbs y : Int)), (r0 + (Int.natAbs y : Int))) (by simp [plan]); simpa using this
        replace HB := hG.below
        rw [lay_all hL]
        simp only [putAll, dstOf, List.length_cons, List.length_nil, Nat.zero_add, Nat.reduceAdd, List.getElem?_toArray, List.getElem?_cons_zero, List.getElem?_cons_succ, Option.bind_some, Act.put, List.setIfInBounds_toArray, List.set_cons_succ, List.set_cons_zero]
        generalize vs 0 = u13_0
        generalize vs 1 = u13_1
        generalize vs 2 = u13_2
        clear hG hm hp hL hlast vs L 
        go_wp2
        have hEu : (q0 + (1)) = x / y ∧ (r0 + (Int.natAbs y : Int)) = x % y := by
          have hA := Ax.out
          have hB := Ay.out
          have h1 := Vq.out
          have h2 := Vr.out
          rw [hA, hB] at h1 h2
          have hq := Hq0.out
          have hr := Hr0.out
          rw [h1] at hq
          rw [h2] at hr
          have hv := V1.out
          rw [hB] at hv
          have hd := Int.mul_ediv_add_emod (ab x) (ab y)
          have hm0 := Int.emod_nonneg (ab x) (show ab y ≠ 0 by omega)
          have hm1 := Int.emod_lt_of_pos (ab x) hv
          have D := dm_end Hy0.out hd hm0 hm1 Nx.out Px.out Nx2.out Px2.out Ny2.out Py2.out hq hr
          have nr := Nr.out
          have ny3 := Ny3.out
          have py3 := Py3.out
          exact D.2.2 (by simpa using nr) (by simpa using ny3)
        have HEu := hidd hEu
        clear hEu
        have hlast := X9.lt
        have hp : (plan [Fc.num (q0 + (1)), Fc.num (r0 + (Int.natAbs y : Int)), Fc.any, Fc.any, Fc.is (.int .i64 (0))] [(w.heap.size, 1000, x, x), ((w.heap.size + 1), 1001, y, y), ((w.heap.size + 1 + 1), 2, 0, (q0 + (1))), ((w.heap.size + 1 + 1 + 1), 3, 0, (r0 + (Int.natAbs y : Int))), (g8, 1004, (q0 + (1)), (q0 + (1))), (g9, 1005, (r0 + (Int.natAbs y : Int)), (r0 + (Int.natAbs y : Int)))] []).Ok w.heap.size w13.heap.size := plan_ok (by simp; omega) (by simp; try omega) (by simp) (by omega)
        have hm := PMono.of hp
        refine region_steps (p := (plan [Fc.num (q0 + (1)), Fc.num (r0 + (Int.natAbs y : Int)), Fc.any, Fc.any, Fc.is (.int .i64 (0))] [(w.heap.size, 1000, x, x), ((w.heap.size + 1), 1001, y, y), ((w.heap.size + 1 + 1), 2, 0, (q0 + (1))), ((w.heap.size + 1 + 1 + 1), 3, 0, (r0 + (Int.natAbs y : Int))), (g8, 1004, (q0 + (1)), (q0 + (1))), (g9, 1005, (r0 + (Int.natAbs y : Int)), (r0 + (Int.natAbs y : Int)))] [])) (B := w.heap.size) (B0 := w13.heap.size) (w0 := w) (by kernel_rfl) rfl rfl (plan_start (by simp; exact ⟨XA, XB, X4, X5, X8, X9⟩) HB) ⟨?_, ?_, ?_, ?_, ?_, trivial⟩ ?_
        · exact st_load (b := g8) (k := 1004) (z := (q0 + (1))) (z' := (q0 + (1))) hp (by simp [plan]) (.inl rfl) rfl rfl (fun v w h => h) ⟨by simp [plan], by simp [plan]⟩
        · exact st_load (b := g9) (k := 1005) (z := (r0 + (Int.natAbs y : Int))) (z' := (r0 + (Int.natAbs y : Int))) hp (by simp [plan]) (.inl rfl) rfl rfl (fun v w h => h) ⟨by simp [plan], by simp [plan]⟩
        · exact st_storeOld (b := (w.heap.size + 1 + 1)) (j := 0) (z := 0) (z' := (q0 + (1))) hp rfl (by simp [plan]) rfl rfl rfl (by simp) rfl (fun v w h => h) (fun _ _ => trivial) (by simp [plan]) (by simp [plan])
        · exact st_storeOld (b := (w.heap.size + 1 + 1 + 1)) (j := 1) (z := 0) (z' := (r0 + (Int.natAbs y : Int))) hp rfl (by simp [plan]) rfl rfl rfl (by simp) rfl (fun v w h => h) (fun _ _ => trivial) (by simp [plan]) (by simp [plan])
        · exact g_assign hm ⟨by simp [plan], by simp [plan]⟩ trivial (src_const (fun _ => rfl))
        intro L vs w14 hL hG
        replace XA : BoxNum w14 w.heap.size x := by have := hG.old (w.heap.size, 1000, x, x) (by simp [plan]); simpa using this
        replace XB : BoxNum w14 (w.heap.size + 1) y := by have := hG.old ((w.heap.size + 1), 1001, y, y) (by simp [plan]); simpa using this
        replace X4 : BoxNum w14 (w.heap.size + 1 + 1) (q0 + (1)) := by have := hG.old ((w.heap.size + 1 + 1), 2, 0, (q0 + (1))) (by simp [plan]); simpa [hL 2 (by simp)] using this
        replace X5 : BoxNum w14 (w.heap.size + 1 + 1 + 1) (r0 + (Int.natAbs y : Int)) := by have := hG.old ((w.heap.size + 1 + 1 + 1), 3, 0, (r0 + (Int.natAbs y : Int))) (by simp [plan]); simpa [hL 3 (by simp)] using this
        replace X8 : BoxNum w14 g8 (q0 + (1)) := by have := hG.old (g8, 1004, (q0 + (1)), (q0 + (1))) (by simp [plan]); simpa using this
        replace X9 : BoxNum w14 g9 (r0 + (Int.natAbs y : Int)) := by have := hG.old (g9, 1005, (r0 + (Int.natAbs y : Int)), (r0 + (Int.natAbs y : Int))) (by simp [plan]); simpa using this
        have e4 : vs 4 = .int .i64 (0) := hG.val 4 (hL 4 (by simp))
        replace HB := hG.below
        rw [lay_all hL]
        simp only [putAll, dstOf, List.length_cons, List.length_nil, Nat.zero_add, Nat.reduceAdd, List.getElem?_toArray, List.getElem?_cons_zero, List.getElem?_cons_succ, Option.bind_some, Act.put, List.setIfInBounds_toArray, List.set_cons_succ, List.set_cons_zero]
        rw [e4]
        generalize vs 0 = u14_0
        generalize vs 1 = u14_1
        clear hG hm hp hL hlast vs L e4
        obtain ⟨nc, aoc, kkc, ccc, ⟨c0, c1, c2, c3⟩, hNc⟩ := id X4
        obtain ⟨nd, aod, kkd, ccd, ⟨d0, d1, d2, d3⟩, hNd⟩ := id X5
        go_wp2
        refine bodyPost_ret (v := .tuple #[.agg #[.bool nc, .slice aoc kkc ccc], .agg #[.bool nd, .slice aod kkd ccd], .int .i64 0]) ?_ rfl ⟨HB, .inr ⟨Hy0.out, _, _, rfl, by rw [← HEu.out.1]; exact hNc.isInt, by rw [← HEu.out.2]; exact hNd.isInt⟩⟩
        simp [results, Try.results14, go_sem, c0, c1, d0, d1]

set_option maxRecDepth 100000 in
set_option maxHeartbeats 8000000 in
theorem RDivV {w : World} {v v' : Value} {x y : Int} (h : Num w v x) (h' : Num w v' y) (hx : ab x < pw 1000) (hy : ab y < pw 1000) (hy0 : y ≠ 0) : Calls Try.prog 60 #[v, v'] w (GivesInt w (x / y)) := by
  obtain ⟨n, ao, k, c, rfl⟩ := h.parts
  obtain ⟨n', ao', k', c', rfl⟩ := h'.parts
  have Bx := hidd hx
  have By := hidd hy
  have Hy0 := hidd hy0
  clear hx hy hy0
  obtain ⟨w0, hw0, hXW, X4, HB, _⟩ := boxes3n w h h' 27
  obtain ⟨XA, XB, _⟩ := hXW w0 (Below.refl _ _)
  clear hXW
  go_enter Try.func60, Try.ntmps60
  go_upto_region 1 with (fail)
  rw [← hw0]
  clear hw0 h h'
  have hlt0 := X4.lt
  obtain ⟨na, aoa, kka, cca, ⟨a0, a1, a2, a3⟩, hNa⟩ := id XA
  obtain ⟨nb, aob, kkb, ccb, ⟨b0, b1, b2, b3⟩, hNb⟩ := id XB
  go_wp2_with fail
  refine (RDivModV hNa hNb Bx.out By.out).mono ?_
  rintro e w1 ⟨hb, ⟨h0, _⟩ | ⟨_, vq, vr, rfl, iq, ir⟩⟩
  · exact absurd h0 Hy0.out
  have Nq := num_of iq (ab_divB Bx.out (show 1000 < 1001 by omega)) (by omega)
  have Nr := num_of ir (ab_modB Hy0.out By.out) (by omega)
  obtain ⟨nq, aq, kq, cq, rfl⟩ := Nq.parts
  obtain ⟨nr, ar, kr, cr, rfl⟩ := Nr.parts
  clear iq ir
  clear a0 a1 a2 a3 hNa b0 b1 b2 b3 hNb
  replace XA := XA.mono hb
  replace XB := XB.mono hb
  replace X4 := X4.mono hb
  replace HB := HB.trans (hb.mono HB.size)
  clear hb
  go_upto_region 2 with (fail)
  obtain ⟨w2, hw2, hb, p5, p6⟩ := boxTwo Nq Nr 27
  rw [← hw2]
  clear hw2
  have hlt1 := X4.lt
  replace XA := XA.mono hb
  replace XB := XB.mono hb
  replace X4 := X4.mono hb
  replace HB := HB.trans (hb.mono HB.size)
  replace Nq := Nq.mono hb
  replace Nr := Nr.mono hb
  clear hb
  obtain ⟨ne, ae, ke, ce, ⟨e0, e1, _, _⟩, hNe⟩ := id p5
  obtain ⟨nc, aoc, kkc, ccc, ⟨c0, c1, c2, c3⟩, hNc⟩ := id X4
  have hNf := hNe.putBox X4 ne ae ke ce
  unfold putBox at hNf
  have hbS := (HB.setCell (p := ⟨w.heap.size + 1 + 1, 0, none⟩) (by show w.heap.size ≤ w.heap.size + 1 + 1; omega) (.bool ne)).setCell (p := ⟨w.heap.size + 1 + 1, 1, none⟩) (by show w.heap.size ≤ w.heap.size + 1 + 1; omega) (.slice ae ke ce)
  have hne1 : ¬ w1.heap.size = w.heap.size + 1 + 1 := by omega
  go_wp2
  refine bodyPost_ret (v := .agg #[.bool ne, .slice ae ke ce]) ?_ rfl ⟨_, rfl, hNf.isInt, hbS⟩
  simp [results, Try.results60, go_sem, c0, c1]

set_option maxRecDepth 100000 in
set_option maxHeartbeats 8000000 in
theorem RModV {w : World} {v v' : Value} {x y : Int} (h : Num w v x) (h' : Num w v' y) (hx : ab x < pw 1000) (hy : ab y < pw 1000) (hy0 : y ≠ 0) : Calls Try.prog 59 #[v, v'] w (GivesInt w (x % y)) := by
  obtain ⟨n, ao, k, c, rfl⟩ := h.parts
  obtain ⟨n', ao', k', c', rfl⟩ := h'.parts
  have Bx := hidd hx
  have By := hidd hy
  have Hy0 := hidd hy0
  clear hx hy hy0
  obtain ⟨w0, hw0, hXW, X4, HB, _⟩ := boxes3n w h h' 27
  obtain ⟨XA, XB, _⟩ := hXW w0 (Below.refl _ _)
  clear hXW
  go_enter Try.func59, Try.ntmps59
  go_upto_region 1 with (fail)
  rw [← hw0]
  clear hw0 h h'
  have hlt0 := X4.lt
  obtain ⟨na, aoa, kka, cca, ⟨a0, a1, a2, a3⟩, hNa⟩ := id XA
  obtain ⟨nb, aob, kkb, ccb, ⟨b0, b1, b2, b3⟩, hNb⟩ := id XB
  go_wp2_with fail
  refine (RDivModV hNa hNb Bx.out By.out).mono ?_
  rintro e w1 ⟨hb, ⟨h0, _⟩ | ⟨_, vq, vr, rfl, iq, ir⟩⟩
  · exact absurd h0 Hy0.out
  have Nq := num_of iq (ab_divB Bx.out (show 1000 < 1001 by omega)) (by omega)
  have Nr := num_of ir (ab_modB Hy0.out By.out) (by omega)
  obtain ⟨nq, aq, kq, cq, rfl⟩ := Nq.parts
  obtain ⟨nr, ar, kr, cr, rfl⟩ := Nr.parts
  clear iq ir
  clear a0 a1 a2 a3 hNa b0 b1 b2 b3 hNb
  replace XA := XA.mono hb
  replace XB := XB.mono hb
  replace X4 := X4.mono hb
  replace HB := HB.trans (hb.mono HB.size)
  clear hb
  go_upto_region 2 with (fail)
  obtain ⟨w2, hw2, hb, p5, p6⟩ := boxTwo Nq Nr 27
  rw [← hw2]
  clear hw2
  have hlt1 := X4.lt
  replace XA := XA.mono hb
  replace XB := XB.mono hb
  replace X4 := X4.mono hb
  replace HB := HB.trans (hb.mono HB.size)
  replace Nq := Nq.mono hb
  replace Nr := Nr.mono hb
  clear hb
  obtain ⟨ne, ae, ke, ce, ⟨e0, e1, _, _⟩, hNe⟩ := id p6
  obtain ⟨nc, aoc, kkc, ccc, ⟨c0, c1, c2, c3⟩, hNc⟩ := id X4
  have hNf := hNe.putBox X4 ne ae ke ce
  unfold putBox at hNf
  have hbS := (HB.setCell (p := ⟨w.heap.size + 1 + 1, 0, none⟩) (by show w.heap.size ≤ w.heap.size + 1 + 1; omega) (.bool ne)).setCell (p := ⟨w.heap.size + 1 + 1, 1, none⟩) (by show w.heap.size ≤ w.heap.size + 1 + 1; omega) (.slice ae ke ce)
  have hne1 : ¬ w1.heap.size = w.heap.size + 1 + 1 := by omega
  go_wp2
  refine bodyPost_ret (v := .agg #[.bool ne, .slice ae ke ce]) ?_ rfl ⟨_, rfl, hNf.isInt, hbS⟩
  simp [results, Try.results59, go_sem, c0, c1]

end Go.Proofs.Ytplpammfbljaoaa

namespace Go.Proofs.Ytplpammfbljaoaa
open Go Go.RowKit

theorem enter_rSign (args : Array Value) (w : World) : (callFunc 32 args).run Try.prog w = .ok (.enter 32 args) w := enter_of Try.func32 (by kernel_rfl) rfl args w
theorem enter_rDiv (args : Array Value) (w : World) : (callFunc 60 args).run Try.prog w = .ok (.enter 60 args) w := enter_of Try.func60 (by kernel_rfl) rfl args w
theorem enter_rMod (args : Array Value) (w : World) : (callFunc 59 args).run Try.prog w = .ok (.enter 59 args) w := enter_of Try.func59 (by kernel_rfl) rfl args w
theorem exRSign {w : World} {v : Value} {z : Int} (h : Num w v z) : Calls Try.prog 32 #[v] w fun e w' => ∃ v', e = .returned v' ∧ Below w.heap.size w w' ∧ v' = .int .i64 (cmpI z 0) :=
  (RSignV h).mono fun _ _ hh => ⟨_, hh.1, hh.2, rfl⟩
theorem ab_cmp (x y : Int) : ab (cmpI x y) < pw 1 := by
  have h := cmpI_bd x y
  have h2 : (1 : Int) < pw 1 := by decide
  unfold ab
  omega

theorem rbez_start {a m : Int} (hm : 0 < m) : BezInv a m m (a % m) 0 1 := by
  have h0 := Int.emod_nonneg a (show m ≠ 0 by omega)
  have h1 := Int.emod_lt_of_pos a hm
  refine ⟨⟨1, by omega⟩, ⟨-(a / m), ?_⟩, ?_, ?_, ?_, .inr (Int.le_refl _), ?_, .inr (.inl ⟨rfl, rfl, rfl, h0⟩)⟩
  · have := Int.mul_ediv_add_emod a m
    rw [Int.neg_mul, Int.mul_comm (a / m)]; omega
  · exact gcd_step' a m
  · unfold ab; omega
  · unfold ab; omega
  · unfold ab; omega

theorem rbez_pos {a m r u uu : Int} (hm : 0 < m) (h : BezInv a m r 0 u uu) : 0 < r := by
  obtain ⟨_, _, _, _, _, _, _, hph⟩ := h
  rcases hph with ⟨_, _, _, h1⟩ | ⟨_, _, h1, _⟩ | ⟨h1, _, _⟩
  · omega
  · omega
  · exact h1

theorem bez_bounds {a m r rr u uu : Int} {K : Nat} (_ : 1 ≤ K) (ha : ab a < pw K) (hm : ab m < pw K) (h : BezInv a m r rr u uu) : ab r < pw K ∧ ab rr < pw K ∧ ab u < pw (K + 1) ∧ ab uu < pw (K + 1) := by
  obtain ⟨_, _, _, h1, h2, h3, h4, _⟩ := h
  have := pw_succ K
  have := pw_pos K
  exact ⟨by omega, by omega, by omega, by omega⟩

set_option maxRecDepth 100000 in
set_option maxHeartbeats 16000000 in
theorem RBezoutV {w : World} {v v' : Value} {a b : Int} (h : Num w v a) (h' : Num w v' b) (ha : ab a < pw 40) (hb : ab b < pw 40) : Calls Try.prog 16 #[v, v'] w (BezGives w a b) := by
  obtain ⟨n, ao, k, c, rfl⟩ := h.parts
  obtain ⟨n', ao', k', c', rfl⟩ := h'.parts
  have Ba := hidd ha
  have Bb := hidd hb
  clear ha hb
  go_enter Try.func16, Try.ntmps16
  go_upto_region 1 with (fail)
  obtain ⟨w0, hw0, XA, XB, X4, X5, X6, HB, HS⟩ := boxes5 w h h' 27
  rw [← hw0]
  clear hw0 h h' HS
  obtain ⟨nb, aob, kkb, ccb, ⟨b0, b1, b2, b3⟩, hNb⟩ := id XB
  by_cases hb0 : b = 0
  · obtain rfl := hNb.len_zero.1.2 hb0
    go_wp2
    clear b0 b1 b2 b3 hNb
    have B1 : Hid (ab ((Int.natAbs a : Int)) < pw 40) := ab_absB Ba.out
    have B2 : Hid (ab ((cmpI a 0)) < pw 1) := by show ab (cmpI a 0) < pw 1; exact ab_cmp _ _
    have hlast := X6.lt
    have hp : (plan [Fc.num a, Fc.num (Int.natAbs a : Int), Fc.num a, Fc.is (.int .i64 (cmpI a 0)), Fc.num (cmpI a 0), Fc.num 0, Fc.any, Fc.any, Fc.any] [(w.heap.size, 1000, a, a), ((w.heap.size + 1), 1001, b, b), ((w.heap.size + 1 + 1), 6, 0, (Int.natAbs a : Int)), ((w.heap.size + 1 + 1 + 1), 7, 0, (cmpI a 0)), ((w.heap.size + 1 + 1 + 1 + 1), 8, 0, 0)] []).Ok w.heap.size w0.heap.size := plan_ok (by simp; omega) (by simp; try omega) (by simp) (by omega)
    have hm := PMono.of hp
    refine region_steps (p := (plan [Fc.num a, Fc.num (Int.natAbs a : Int), Fc.num a, Fc.is (.int .i64 (cmpI a 0)), Fc.num (cmpI a 0), Fc.num 0, Fc.any, Fc.any, Fc.any] [(w.heap.size, 1000, a, a), ((w.heap.size + 1), 1001, b, b), ((w.heap.size + 1 + 1), 6, 0, (Int.natAbs a : Int)), ((w.heap.size + 1 + 1 + 1), 7, 0, (cmpI a 0)), ((w.heap.size + 1 + 1 + 1 + 1), 8, 0, 0)] [])) (B := w.heap.size) (B0 := w0.heap.size) (w0 := w) (by kernel_rfl) rfl rfl (plan_start (by simp; exact ⟨XA, XB, X4, X5, X6⟩) HB) ⟨?_, ?_, ?_, ?_, ?_, ?_, ?_, ?_, ?_, trivial⟩ ?_
    · exact st_load (b := w.heap.size) (k := 1000) (z := a) (z' := a) hp (by simp [plan]) (.inl rfl) rfl rfl (fun v w h => h) ⟨by simp [plan], by simp [plan]⟩
    · exact g_call1 (F := (Fc.num a).P) hm ⟨by simp [plan], by simp [plan]⟩ trivial enter_rAbs (src_in 0 rfl rfl (by simp) rfl (fun v w h => h)) (fun v w h => exK (RAbsV h) B1.out (by omega))
    · exact st_load (b := w.heap.size) (k := 1000) (z := a) (z' := a) hp (by simp [plan]) (.inl rfl) rfl rfl (fun v w h => h) ⟨by simp [plan], by simp [plan]⟩
    · exact g_call1 (F := (Fc.num a).P) hm ⟨by simp [plan], by simp [plan]⟩ trivial enter_rSign (src_in 2 rfl rfl (by simp) rfl (fun v w h => h)) (fun v w h => exRSign h)
    · exact g_call1 (F := fun v _ => v = .int .i64 (cmpI a 0)) hm ⟨by simp [plan], by simp [plan]⟩ trivial enter_rOf (src_in 3 rfl rfl (by simp) rfl (fun v w h => h)) (fun v w h => by subst h; exact rOfV w _ (by have := cmpI_bd a 0; omega) (by have := cmpI_bd a 0; omega))
    · exact g_zero hm ⟨by simp [plan], by simp [plan]⟩ trivial (fun w => Num.zero w)
    · exact st_storeOld (b := (w.heap.size + 1 + 1)) (j := 1) (z := 0) (z' := (Int.natAbs a : Int)) hp rfl (by simp [plan]) rfl rfl rfl (by simp) rfl (fun v w h => h) (fun _ _ => trivial) (by simp [plan]) (by simp [plan])
    · exact st_storeOld (b := (w.heap.size + 1 + 1 + 1)) (j := 4) (z := 0) (z' := (cmpI a 0)) hp rfl (by simp [plan]) rfl rfl rfl (by simp) rfl (fun v w h => h) (fun _ _ => trivial) (by simp [plan]) (by simp [plan])
    · exact st_storeOld (b := (w.heap.size + 1 + 1 + 1 + 1)) (j := 5) (z := 0) (z' := 0) hp rfl (by simp [plan]) rfl rfl rfl (by simp) rfl (fun v w h => h) (fun _ _ => trivial) (by simp [plan]) (by simp [plan])
    intro L vs w3 hL hG
    replace XA : BoxNum w3 w.heap.size a := by have := hG.old (w.heap.size, 1000, a, a) (by simp [plan]); simpa using this
    replace XB : BoxNum w3 (w.heap.size + 1) b := by have := hG.old ((w.heap.size + 1), 1001, b, b) (by simp [plan]); simpa using this
    replace X4 : BoxNum w3 (w.heap.size + 1 + 1) (Int.natAbs a : Int) := by have := hG.old ((w.heap.size + 1 + 1), 6, 0, (Int.natAbs a : Int)) (by simp [plan]); simpa [hL 6 (by simp)] using this
    replace X5 : BoxNum w3 (w.heap.size + 1 + 1 + 1) (cmpI a 0) := by have := hG.old ((w.heap.size + 1 + 1 + 1), 7, 0, (cmpI a 0)) (by simp [plan]); simpa [hL 7 (by simp)] using this
    replace X6 : BoxNum w3 (w.heap.size + 1 + 1 + 1 + 1) 0 := by have := hG.old ((w.heap.size + 1 + 1 + 1 + 1), 8, 0, 0) (by simp [plan]); simpa [hL 8 (by simp)] using this
    have e3 : vs 3 = .int .i64 (cmpI a 0) := hG.val 3 (hL 3 (by simp))
    replace HB := hG.below
    rw [lay_all hL]
    simp only [putAll, dstOf, List.length_cons, List.length_nil, Nat.zero_add, Nat.reduceAdd, List.getElem?_toArray, List.getElem?_cons_zero, List.getElem?_cons_succ, Option.bind_some, Act.put, List.setIfInBounds_toArray, List.set_cons_succ, List.set_cons_zero]
    rw [e3]
    generalize vs 0 = u3_0
    generalize vs 1 = u3_1
    generalize vs 2 = u3_2
    generalize vs 4 = u3_4
    generalize vs 5 = u3_5
    clear hG hm hp hL hlast vs L e3
    obtain ⟨nc, aoc, kkc, ccc, ⟨c0, c1, c2, c3⟩, hNc⟩ := id X4
    obtain ⟨nd, aod, kkd, ccd, ⟨d0, d1, d2, d3⟩, hNd⟩ := id X5
    obtain ⟨ne, aoe, kke, cce, ⟨e0, e1, e2, e3⟩, hNe⟩ := id X6
    go_wp2
    refine bodyPost_ret (v := .tuple #[.agg #[.bool nc, .slice aoc kkc ccc], .agg #[.bool nd, .slice aod kkd ccd], .agg #[.bool ne, .slice aoe kke cce]]) ?_ rfl ⟨HB, _, _, _, (Int.gcd a b : Int), _, _, rfl, by rw [hb0, Int.gcd_zero_right]; exact hNc, hNd, hNe, rfl, .inl ⟨hb0, rfl, rfl⟩⟩
    simp [results, Try.results16, go_sem, c0, c1, d0, d1, e0, e1]
  · have Hb0 := hidd hb0
    have hkb : ((kkb : Int) == 0) = false := by simp; exact fun h => hb0 (hNb.len_zero.1.1 h)
    clear hb0
    obtain ⟨m, hm⟩ : ∃ m : Int, m = (Int.natAbs b : Int) := ⟨_, rfl⟩
    have Hm := hidd hm
    have Hmp : Hid (0 < m) := by have := Hb0.out; show 0 < m; omega
    have Bm : Hid (ab m < pw 40) := by have := Bb.out; unfold ab at this; show ab m < _; unfold ab; rw [hm]; exact this
    clear hm
    go_wp2_with fail
    clear hkb
    refine (exKP (z := m) (by rw [Hm.out]; exact RAbsV hNb) Bm.out (by omega)).mono ?_
    rintro e w4 ⟨n4', ao4, kk4, c4', rfl, hb, hN4⟩
    clear b0 b1 b2 b3 hNb
    replace XA := XA.mono hb
    replace XB := XB.mono hb
    replace X4 := X4.mono hb
    replace X5 := X5.mono hb
    replace X6 := X6.mono hb
    replace HB := HB.trans (hb.mono HB.size)
    clear hb
    go_upto_region 4 with (fail)
    obtain ⟨w5, hw5, hb, p5_0⟩ := boxOne hN4 27
    rw [← hw5]
    clear hw5
    have hlt5 : (w.heap.size + 1 + 1 + 1 + 1) < w4.heap.size := X6.lt
    replace XA := XA.mono hb
    replace XB := XB.mono hb
    replace X4 := X4.mono hb
    replace X5 := X5.mono hb
    replace X6 := X6.mono hb
    replace HB := HB.trans (hb.mono HB.size)
    clear hb
    obtain ⟨g7, hg7⟩ : ∃ g, g = w4.heap.size := ⟨_, rfl⟩
    rw [← hg7]
    rw [← hg7] at hlt5 p5_0
    clear hg7
    have X7 := p5_0
    clear p5_0
    obtain ⟨na, aoa, kka, cca, ⟨a0, a1, a2, a3⟩, hNa⟩ := id XA
    obtain ⟨nb, aob, kkb, ccb, ⟨b0, b1, b2, b3⟩, hNb⟩ := id X7
    go_wp2_with fail
    have B6 : Hid (ab ((a % m)) < pw 40) := ab_modB (show m ≠ 0 by have := Hmp.out; omega) Bm.out
    refine (exKP (z := (a % m)) (RModV hNa hNb (Int.lt_of_lt_of_le Ba.out (pw_le (by omega))) (Int.lt_of_lt_of_le Bm.out (pw_le (by omega))) (by have := Hmp.out; omega)) B6.out (by omega)).mono ?_
    rintro e w7 ⟨n7', ao7, kk7, c7', rfl, hb, hN7⟩
    clear a0 a1 a2 a3 hNa b0 b1 b2 b3 hNb
    replace XA := XA.mono hb
    replace XB := XB.mono hb
    replace X4 := X4.mono hb
    replace X5 := X5.mono hb
    replace X6 := X6.mono hb
    replace X7 := X7.mono hb
    replace HB := HB.trans (hb.mono HB.size)
    clear hb
    go_upto_region 5 with (fail)
    obtain ⟨w8, hw8, hb, p8_0⟩ := boxOne hN7 27
    rw [← hw8]
    clear hw8
    have hlt8 : g7 < w7.heap.size := X7.lt
    replace XA := XA.mono hb
    replace XB := XB.mono hb
    replace X4 := X4.mono hb
    replace X5 := X5.mono hb
    replace X6 := X6.mono hb
    replace X7 := X7.mono hb
    replace HB := HB.trans (hb.mono HB.size)
    clear hb
    obtain ⟨g8, hg8⟩ : ∃ g, g = w7.heap.size := ⟨_, rfl⟩
    rw [← hg8]
    rw [← hg8] at hlt8 p8_0
    clear hg8
    have X8 := p8_0
    clear p8_0
    obtain ⟨nb, aob, kkb, ccb, ⟨b0, b1, b2, b3⟩, hNb⟩ := id X7
    go_upto_region 6 with (fail)
    obtain ⟨w9, hw9, hb, p9_0⟩ := boxOne hNb 27
    rw [← hw9]
    clear hw9
    have hlt9 : g8 < w8.heap.size := X8.lt
    replace XA := XA.mono hb
    replace XB := XB.mono hb
    replace X4 := X4.mono hb
    replace X5 := X5.mono hb
    replace X6 := X6.mono hb
    replace X7 := X7.mono hb
    replace X8 := X8.mono hb
    replace HB := HB.trans (hb.mono HB.size)
    clear hb
    obtain ⟨g9, hg9⟩ : ∃ g, g = w8.heap.size := ⟨_, rfl⟩
    rw [← hg9]
    rw [← hg9] at hlt9 p9_0
    clear hg9
    have X9 := p9_0
    clear p9_0
    clear b0 b1 b2 b3 hNb
    have B10 : Hid (ab (1) < pw 2) := by show ab (1) < pw 2; decide
    go_wp2_with fail
    refine (rOfV _ (1) (by omega) (by omega)).mono ?_
    rintro e w11 ⟨v1, rfl, hb, hN1⟩
    obtain ⟨n1, ao1, kk1, c1, rfl⟩ := hN1.parts
    replace XA := XA.mono hb
    replace XB := XB.mono hb
    replace X4 := X4.mono hb
    replace X5 := X5.mono hb
    replace X6 := X6.mono hb
    replace X7 := X7.mono hb
    replace X8 := X8.mono hb
    replace X9 := X9.mono hb
    replace HB := HB.trans (hb.mono HB.size)
    clear hb
    go_upto_region 7 with (fail)
    obtain ⟨w12, hw12, hb, p12_0⟩ := boxOne hN1 27
    rw [← hw12]
    clear hw12
    have hlt12 : g9 < w11.heap.size := X9.lt
    replace XA := XA.mono hb
    replace XB := XB.mono hb
    replace X4 := X4.mono hb
    replace X5 := X5.mono hb
    replace X6 := X6.mono hb
    replace X7 := X7.mono hb
    replace X8 := X8.mono hb
    replace X9 := X9.mono hb
    replace HB := HB.trans (hb.mono HB.size)
    clear hb
    obtain ⟨g10, hg10⟩ : ∃ g, g = w11.heap.size := ⟨_, rfl⟩
    rw [← hg10]
    rw [← hg10] at hlt12 p12_0
    clear hg10
    have X10 := p12_0
    clear p12_0
    go_upto_region 8 with (fail)
    obtain ⟨w13, hw13, hb, p13_0⟩ := boxOne (Num.zero w12) 27
    rw [← hw13]
    clear hw13
    have hlt13 : g10 < w12.heap.size := X10.lt
    replace XA := XA.mono hb
    replace XB := XB.mono hb
    replace X4 := X4.mono hb
    replace X5 := X5.mono hb
    replace X6 := X6.mono hb
    replace X7 := X7.mono hb
    replace X8 := X8.mono hb
    replace X9 := X9.mono hb
    replace X10 := X10.mono hb
    replace HB := HB.trans (hb.mono HB.size)
    clear hb
    obtain ⟨g11, hg11⟩ : ∃ g, g = w12.heap.size := ⟨_, rfl⟩
    rw [← hg11]
    rw [← hg11] at hlt13 p13_0
    clear hg11
    have X11 := p13_0
    clear p13_0
    have hI0 := rbez_start (a := a) Hmp.out
    have HI0 := hidd hI0
    clear hI0
    trace_state
    go_loopw [14] (fun _ W => ∃ r rr u uu, BezInv a m r rr u uu ∧ BoxNum W w.heap.size a ∧ BoxNum W (w.heap.size + 1) b ∧ BoxNum W (w.heap.size + 1 + 1) 0 ∧ BoxNum W (w.heap.size + 1 + 1 + 1) 0 ∧ BoxNum W (w.heap.size + 1 + 1 + 1 + 1) 0 ∧ BoxNum W g7 m ∧ BoxNum W g8 rr ∧ BoxNum W g9 r ∧ BoxNum W g10 uu ∧ BoxNum W g11 u ∧ Below w.heap.size w W) (fun _ W => boxVal W g8)
    case atStart => exact ⟨m, a % m, 0, 1, HI0.out, XA, XB, X4, X5, X6, X7, X8, X9, X10, X11, HB⟩
    case round =>
      obtain ⟨r, rr, u, uu, hI, YA, YB, Y4, Y5, Y6, Y7, Y8, Y9, Y10, Y11, HB⟩ := hrel
      have HI := hidd hI
      clear hI XA XB X4 X5 X6 X7 X8 X9 X10 X11 HI0
      have XA := YA
      have XB := YB
      have X4 := Y4
      have X5 := Y5
      have X6 := Y6
      have X7 := Y7
      have X8 := Y8
      have X9 := Y9
      have X10 := Y10
      have X11 := Y11
      clear YA YB Y4 Y5 Y6 Y7 Y8 Y9 Y10 Y11
      have Br : Hid (ab r < pw 40) := (bez_bounds (by omega) Ba.out Bm.out HI.out).1
      have Brr : Hid (ab rr < pw 40) := (bez_bounds (by omega) Ba.out Bm.out HI.out).2.1
      have Bu : Hid (ab u < pw 41) := (bez_bounds (by omega) Ba.out Bm.out HI.out).2.2.1
      have Buu : Hid (ab uu < pw 41) := (bez_bounds (by omega) Ba.out Bm.out HI.out).2.2.2
      have HBV := hidd (boxVal_eq X8)
      obtain ⟨nb, aob, kkb, ccb, ⟨b0, b1, b2, b3⟩, hNb⟩ := id X8
      by_cases h0 : rr = 0
      · subst h0
        obtain rfl := hNb.len_zero.1.2 rfl
        go_upto_region 15 with (fail)
        clear b0 b1 b2 b3 hNb
        obtain ⟨na, aoa, kka, cca, ⟨a0, a1, a2, a3⟩, hNa⟩ := id X9
        go_upto_region 15 with (fail)
        go_upto_region 16 with (fail)
        obtain ⟨w14, hw14, hb, p14_0⟩ := boxOne hNa 27
        rw [← hw14]
        clear hw14
        have hlt14 : g11 < wr.heap.size := X11.lt
        replace XA := XA.mono hb
        replace XB := XB.mono hb
        replace X4 := X4.mono hb
        replace X5 := X5.mono hb
        replace X6 := X6.mono hb
        replace X7 := X7.mono hb
        replace X8 := X8.mono hb
        replace X9 := X9.mono hb
        replace X10 := X10.mono hb
        replace X11 := X11.mono hb
        replace HB := HB.trans (hb.mono HB.size)
        clear hb
        obtain ⟨g16, hg16⟩ : ∃ g, g = wr.heap.size := ⟨_, rfl⟩
        rw [← hg16]
        rw [← hg16] at hlt14 p14_0
        clear hg16
        have X16 := p14_0
        clear p14_0
        clear a0 a1 a2 a3 hNa
        have hrp := rbez_pos Hmp.out HI.out
        obtain ⟨z1, z2, z3, z4⟩ := bez_end (show m ≠ 0 by have := Hmp.out; omega) HI.out
        rw [ab_of (Int.le_of_lt hrp)] at z1 z3
        obtain ⟨l1, l2, l3, l4⟩ := bez_last (show m ≠ 0 by have := Hmp.out; omega) z1 z3
        rw [ab_of (Int.le_of_lt Hmp.out)] at l1 l2 l3 l4
        have Hrp := hidd hrp
        have Z1 := hidd z1
        have L1 := hidd l1
        have L2 := hidd l2
        have L3 := hidd l3
        have L4 := hidd l4
        clear hrp z1 z2 z3 z4 l1 l2 l3 l4
        have B15 : Hid (ab ((m / r)) < pw 41) := ab_divB Bm.out (by omega)
        have B16 : Hid (ab ((u % (m / r))) < pw 41) := ab_modB (show m / r ≠ 0 by have := L1.out; omega) B15.out
        have hlast := X16.lt
        have hp : (plan [Fc.num u, Fc.num m, Fc.num r, Fc.num (m / r), Fc.num (u % (m / r)), Fc.any] [(w.heap.size, 1000, a, a), ((w.heap.size + 1), 1001, b, b), ((w.heap.size + 1 + 1), 1002, 0, 0), ((w.heap.size + 1 + 1 + 1), 1003, 0, 0), ((w.heap.size + 1 + 1 + 1 + 1), 1004, 0, 0), (g7, 1005, m, m), (g8, 1006, 0, 0), (g9, 1007, r, r), (g10, 1008, uu, uu), (g11, 5, u, (u % (m / r))), (g16, 1010, r, r)] []).Ok w.heap.size w14.heap.size := plan_ok (by simp; omega) (by simp; try omega) (by simp) (by omega)
        have hm := PMono.of hp
        refine region_steps (p := (plan [Fc.num u, Fc.num m, Fc.num r, Fc.num (m / r), Fc.num (u % (m / r)), Fc.any] [(w.heap.size, 1000, a, a), ((w.heap.size + 1), 1001, b, b), ((w.heap.size + 1 + 1), 1002, 0, 0), ((w.heap.size + 1 + 1 + 1), 1003, 0, 0), ((w.heap.size + 1 + 1 + 1 + 1), 1004, 0, 0), (g7, 1005, m, m), (g8, 1006, 0, 0), (g9, 1007, r, r), (g10, 1008, uu, uu), (g11, 5, u, (u % (m / r))), (g16, 1010, r, r)] [])) (B := w.heap.size) (B0 := w14.heap.size) (w0 := w) (by kernel_rfl) rfl rfl (plan_start (by simp; exact ⟨XA, XB, X4, X5, X6, X7, X8, X9, X10, X11, X16⟩) HB) ⟨?_, ?_, ?_, ?_, ?_, ?_, trivial⟩ ?_
        · exact st_load (b := g11) (k := 5) (z := u) (z' := (u % (m / r))) hp (by simp [plan]) (.inr rfl) rfl rfl (fun v w h => h) ⟨by simp [plan], by simp [plan]⟩
        · exact st_load (b := g7) (k := 1005) (z := m) (z' := m) hp (by simp [plan]) (.inl rfl) rfl rfl (fun v w h => h) ⟨by simp [plan], by simp [plan]⟩
        · exact st_load (b := g16) (k := 1010) (z := r) (z' := r) hp (by simp [plan]) (.inl rfl) rfl rfl (fun v w h => h) ⟨by simp [plan], by simp [plan]⟩
        · exact g_call2 (F := (Fc.num m).P) (G := (Fc.num r).P) hm ⟨by simp [plan], by simp [plan]⟩ trivial enter_rDiv (src_in 1 rfl rfl (by simp) rfl (fun v w h => h)) (src_in 2 rfl rfl (by simp) rfl (fun v w h => h)) (fun v v' w h h' => exK (RDivV h h' (Int.lt_of_lt_of_le Bm.out (pw_le (by omega))) (Int.lt_of_lt_of_le Br.out (pw_le (by omega))) (show r ≠ 0 by have := Hrp.out; omega)) B15.out (by omega))
        · exact g_call2 (F := (Fc.num u).P) (G := (Fc.num (m / r)).P) hm ⟨by simp [plan], by simp [plan]⟩ trivial enter_rMod (src_in 0 rfl rfl (by simp) rfl (fun v w h => h)) (src_in 3 rfl rfl (by simp) rfl (fun v w h => h)) (fun v v' w h h' => exK (RModV h h' (Int.lt_of_lt_of_le Bu.out (pw_le (by omega))) (Int.lt_of_lt_of_le B15.out (pw_le (by omega))) (show m / r ≠ 0 by have := L1.out; omega)) B16.out (by omega))
        · exact st_storeOld (b := g11) (j := 4) (z := u) (z' := (u % (m / r))) hp rfl (by simp [plan]) rfl rfl rfl (by simp) rfl (fun v w h => h) (fun _ _ => trivial) (by simp [plan]) (by simp [plan])
        intro L vs w17 hL hG
        replace XA : BoxNum w17 w.heap.size a := by have := hG.old (w.heap.size, 1000, a, a) (by simp [plan]); simpa using this
        replace XB : BoxNum w17 (w.heap.size + 1) b := by have := hG.old ((w.heap.size + 1), 1001, b, b) (by simp [plan]); simpa using this
        replace X4 : BoxNum w17 (w.heap.size + 1 + 1) 0 := by have := hG.old ((w.heap.size + 1 + 1), 1002, 0, 0) (by simp [plan]); simpa using this
        replace X5 : BoxNum w17 (w.heap.size + 1 + 1 + 1) 0 := by have := hG.old ((w.heap.size + 1 + 1 + 1), 1003, 0, 0) (by simp [plan]); simpa using this
        replace X6 : BoxNum w17 (w.heap.size + 1 + 1 + 1 + 1) 0 := by have := hG.old ((w.heap.size + 1 + 1 + 1 + 1), 1004, 0, 0) (by simp [plan]); simpa using this
        replace X7 : BoxNum w17 g7 m := by have := hG.old (g7, 1005, m, m) (by simp [plan]); simpa using this
        replace X8 : BoxNum w17 g8 0 := by have := hG.old (g8, 1006, 0, 0) (by simp [plan]); simpa using this
        replace X9 : BoxNum w17 g9 r := by have := hG.old (g9, 1007, r, r) (by simp [plan]); simpa using this
        replace X10 : BoxNum w17 g10 uu := by have := hG.old (g10, 1008, uu, uu) (by simp [plan]); simpa using this
        replace X11 : BoxNum w17 g11 (u % (m / r)) := by have := hG.old (g11, 5, u, (u % (m / r))) (by simp [plan]); simpa [hL 5 (by simp)] using this
        replace X16 : BoxNum w17 g16 r := by have := hG.old (g16, 1010, r, r) (by simp [plan]); simpa using this
        replace HB := hG.below
        rw [lay_all hL]
        simp only [putAll, dstOf, List.length_cons, List.length_nil, Nat.zero_add, Nat.reduceAdd, List.getElem?_toArray, List.getElem?_cons_zero, List.getElem?_cons_succ, Option.bind_some, Act.put, List.setIfInBounds_toArray, List.set_cons_succ, List.set_cons_zero]
        generalize vs 0 = u17_0
        generalize vs 1 = u17_1
        generalize vs 2 = u17_2
        generalize vs 3 = u17_3
        generalize vs 4 = u17_4
        clear hG hm hp hL hlast vs L 
        go_wp2
        have B18 : Hid (ab (((u % (m / r)) * a)) < pw 81) := ab_mulM B16.out Ba.out (by omega)
        have B19 : Hid (ab ((r - ((u % (m / r)) * a))) < pw 82) := ab_subB Br.out B18.out (by omega) (by omega)
        have B20 : Hid (ab (((r - ((u % (m / r)) * a)) / b)) < pw 83) := ab_divB B19.out (by omega)
        have hlast := X16.lt
        have hp : (plan [Fc.num r, Fc.num (u % (m / r)), Fc.num r, Fc.num (u % (m / r)), Fc.num a, Fc.num ((u % (m / r)) * a), Fc.num (r - ((u % (m / r)) * a)), Fc.num b, Fc.num ((r - ((u % (m / r)) * a)) / b), Fc.any, Fc.any, Fc.any] [(w.heap.size, 1000, a, a), ((w.heap.size + 1), 1001, b, b), ((w.heap.size + 1 + 1), 9, 0, r), ((w.heap.size + 1 + 1 + 1), 10, 0, (u % (m / r))), ((w.heap.size + 1 + 1 + 1 + 1), 11, 0, ((r - ((u % (m / r)) * a)) / b)), (g7, 1005, m, m), (g8, 1006, 0, 0), (g9, 1007, r, r), (g10, 1008, uu, uu), (g11, 1009, (u % (m / r)), (u % (m / r))), (g16, 1010, r, r)] []).Ok w.heap.size w17.heap.size := plan_ok (by simp; omega) (by simp; try omega) (by simp) (by omega)
        have hm := PMono.of hp
        refine region_steps (p := (plan [Fc.num r, Fc.num (u % (m / r)), Fc.num r, Fc.num (u % (m / r)), Fc.num a, Fc.num ((u % (m / r)) * a), Fc.num (r - ((u % (m / r)) * a)), Fc.num b, Fc.num ((r - ((u % (m / r)) * a)) / b), Fc.any, Fc.any, Fc.any] [(w.heap.size, 1000, a, a), ((w.heap.size + 1), 1001, b, b), ((w.heap.size + 1 + 1), 9, 0, r), ((w.heap.size + 1 + 1 + 1), 10, 0, (u % (m / r))), ((w.heap.size + 1 + 1 + 1 + 1), 11, 0, ((r - ((u % (m / r)) * a)) / b)), (g7, 1005, m, m), (g8, 1006, 0, 0), (g9, 1007, r, r), (g10, 1008, uu, uu), (g11, 1009, (u % (m / r)), (u % (m / r))), (g16, 1010, r, r)] [])) (B := w.heap.size) (B0 := w17.heap.size) (w0 := w) (by kernel_rfl) rfl rfl (plan_start (by simp; exact ⟨XA, XB, X4, X5, X6, X7, X8, X9, X10, X11, X16⟩) HB) ⟨?_, ?_, ?_, ?_, ?_, ?_, ?_, ?_, ?_, ?_, ?_, ?_, trivial⟩ ?_
        · exact st_load (b := g16) (k := 1010) (z := r) (z' := r) hp (by simp [plan]) (.inl rfl) rfl rfl (fun v w h => h) ⟨by simp [plan], by simp [plan]⟩
        · exact st_load (b := g11) (k := 1009) (z := (u % (m / r))) (z' := (u % (m / r))) hp (by simp [plan]) (.inl rfl) rfl rfl (fun v w h => h) ⟨by simp [plan], by simp [plan]⟩
        · exact st_load (b := g16) (k := 1010) (z := r) (z' := r) hp (by simp [plan]) (.inl rfl) rfl rfl (fun v w h => h) ⟨by simp [plan], by simp [plan]⟩
        · exact st_load (b := g11) (k := 1009) (z := (u % (m / r))) (z' := (u % (m / r))) hp (by simp [plan]) (.inl rfl) rfl rfl (fun v w h => h) ⟨by simp [plan], by simp [plan]⟩
        · exact st_load (b := w.heap.size) (k := 1000) (z := a) (z' := a) hp (by simp [plan]) (.inl rfl) rfl rfl (fun v w h => h) ⟨by simp [plan], by simp [plan]⟩
        · exact g_call2 (F := (Fc.num (u % (m / r))).P) (G := (Fc.num a).P) hm ⟨by simp [plan], by simp [plan]⟩ trivial enter_rMul (src_in 3 rfl rfl (by simp) rfl (fun v w h => h)) (src_in 4 rfl rfl (by simp) rfl (fun v w h => h)) (fun v v' w h h' => exK (RMulV h h') B18.out (by omega))
        · exact g_call2 (F := (Fc.num r).P) (G := (Fc.num ((u % (m / r)) * a)).P) hm ⟨by simp [plan], by simp [plan]⟩ trivial enter_rSub (src_in 2 rfl rfl (by simp) rfl (fun v w h => h)) (src_in 5 rfl rfl (by simp) rfl (fun v w h => h)) (fun v v' w h h' => exK (RSubV h h' (K := 81) (Int.lt_of_lt_of_le Br.out (pw_le (by omega))) (Int.lt_of_lt_of_le B18.out (pw_le (by omega))) (by omega)) B19.out (by omega))
        · exact st_load (b := (w.heap.size + 1)) (k := 1001) (z := b) (z' := b) hp (by simp [plan]) (.inl rfl) rfl rfl (fun v w h => h) ⟨by simp [plan], by simp [plan]⟩
        · exact g_call2 (F := (Fc.num (r - ((u % (m / r)) * a))).P) (G := (Fc.num b).P) hm ⟨by simp [plan], by simp [plan]⟩ trivial enter_rDiv (src_in 6 rfl rfl (by simp) rfl (fun v w h => h)) (src_in 7 rfl rfl (by simp) rfl (fun v w h => h)) (fun v v' w h h' => exK (RDivV h h' (Int.lt_of_lt_of_le B19.out (pw_le (by omega))) (Int.lt_of_lt_of_le Bb.out (pw_le (by omega))) Hb0.out) B20.out (by omega))
        · exact st_storeOld (b := (w.heap.size + 1 + 1)) (j := 0) (z := 0) (z' := r) hp rfl (by simp [plan]) rfl rfl rfl (by simp) rfl (fun v w h => h) (fun _ _ => trivial) (by simp [plan]) (by simp [plan])
        · exact st_storeOld (b := (w.heap.size + 1 + 1 + 1)) (j := 1) (z := 0) (z' := (u % (m / r))) hp rfl (by simp [plan]) rfl rfl rfl (by simp) rfl (fun v w h => h) (fun _ _ => trivial) (by simp [plan]) (by simp [plan])
        · exact st_storeOld (b := (w.heap.size + 1 + 1 + 1 + 1)) (j := 8) (z := 0) (z' := ((r - ((u % (m / r)) * a)) / b)) hp rfl (by simp [plan]) rfl rfl rfl (by simp) rfl (fun v w h => h) (fun _ _ => trivial) (by simp [plan]) (by simp [plan])
        intro L vs w21 hL hG
        replace XA : BoxNum w21 w.heap.size a := by have := hG.old (w.heap.size, 1000, a, a) (by simp [plan]); simpa using this
        replace XB : BoxNum w21 (w.heap.size + 1) b := by have := hG.old ((w.heap.size + 1), 1001, b, b) (by simp [plan]); simpa using this
        replace X4 : BoxNum w21 (w.heap.size + 1 + 1) r := by have := hG.old ((w.heap.size + 1 + 1), 9, 0, r) (by simp [plan]); simpa [hL 9 (by simp)] using this
        replace X5 : BoxNum w21 (w.heap.size + 1 + 1 + 1) (u % (m / r)) := by have := hG.old ((w.heap.size + 1 + 1 + 1), 10, 0, (u % (m / r))) (by simp [plan]); simpa [hL 10 (by simp)] using this
        replace X6 : BoxNum w21 (w.heap.size + 1 + 1 + 1 + 1) ((r - ((u % (m / r)) * a)) / b) := by have := hG.old ((w.heap.size + 1 + 1 + 1 + 1), 11, 0, ((r - ((u % (m / r)) * a)) / b)) (by simp [plan]); simpa [hL 11 (by simp)] using this
        replace X7 : BoxNum w21 g7 m := by have := hG.old (g7, 1005, m, m) (by simp [plan]); simpa using this
        replace X8 : BoxNum w21 g8 0 := by have := hG.old (g8, 1006, 0, 0) (by simp [plan]); simpa using this
        replace X9 : BoxNum w21 g9 r := by have := hG.old (g9, 1007, r, r) (by simp [plan]); simpa using this
        replace X10 : BoxNum w21 g10 uu := by have := hG.old (g10, 1008, uu, uu) (by simp [plan]); simpa using this
        replace X11 : BoxNum w21 g11 (u % (m / r)) := by have := hG.old (g11, 1009, (u % (m / r)), (u % (m / r))) (by simp [plan]); simpa using this
        replace X16 : BoxNum w21 g16 r := by have := hG.old (g16, 1010, r, r) (by simp [plan]); simpa using this
        replace HB := hG.below
        rw [lay_all hL]
        simp only [putAll, dstOf, List.length_cons, List.length_nil, Nat.zero_add, Nat.reduceAdd, List.getElem?_toArray, List.getElem?_cons_zero, List.getElem?_cons_succ, Option.bind_some, Act.put, List.setIfInBounds_toArray, List.set_cons_succ, List.set_cons_zero]
        generalize vs 0 = u21_0
        generalize vs 1 = u21_1
        generalize vs 2 = u21_2
        generalize vs 3 = u21_3
        generalize vs 4 = u21_4
        generalize vs 5 = u21_5
        generalize vs 6 = u21_6
        generalize vs 7 = u21_7
        generalize vs 8 = u21_8
        clear hG hm hp hL hlast vs L 
        have hg1 : (Int.gcd a m : Int) = (Int.gcd a b : Int) := by rw [Hm.out]; simp [Int.gcd]
        have hmb : ab b = m := Hm.out.symm
        have ht : (u % (m / r)) * a + ((r - ((u % (m / r)) * a)) / b) * b = r := by
          have h1 := L4.out
          have h2 : m ∣ (r - (u % (m / r)) * a) := Int.dvd_of_emod_eq_zero (by have h3 := Int.mul_ediv_add_emod (r - (u % (m / r)) * a) m; rw [Int.mul_comm] at h3; omega)
          have h3 : b ∣ (r - (u % (m / r)) * a) := Int.dvd_trans (by rw [Hm.out]; exact Int.dvd_natAbs.2 (Int.dvd_refl b)) h2
          have h4 := Int.ediv_mul_cancel h3
          omega
        have HT := hidd ht
        have HG1 := hidd hg1
        have HMB := hidd hmb
        clear ht hg1 hmb
        obtain ⟨nc, aoc, kkc, ccc, ⟨c0, c1, c2, c3⟩, hNc⟩ := id X4
        obtain ⟨nd, aod, kkd, ccd, ⟨d0, d1, d2, d3⟩, hNd⟩ := id X5
        obtain ⟨ne, aoe, kke, cce, ⟨e0, e1, e2, e3⟩, hNe⟩ := id X6
        go_wp2
        refine bodyPost_ret (v := .tuple #[.agg #[.bool nc, .slice aoc kkc ccc], .agg #[.bool nd, .slice aod kkd ccd], .agg #[.bool ne, .slice aoe kke cce]]) ?_ rfl ⟨HB, _, _, _, r, (u % (m / r)), ((r - ((u % (m / r)) * a)) / b), rfl, hNc, hNd, hNe, Z1.out.trans HG1.out, .inr ⟨Hb0.out, L2.out, by rw [HMB.out]; exact L3.out, HT.out⟩⟩
        simp [results, Try.results16, go_sem, c0, c1, d0, d1, e0, e1]
      · have Hr0 := hidd h0
        have hkb : 0 < kkb := by have := hNb.len_zero.1; omega
        clear h0
        obtain ⟨na, aoa, kka, cca, ⟨a0, a1, a2, a3⟩, hNa⟩ := id X9
        go_wp2_with fail
        clear hkb
        have B22 : Hid (ab ((r / rr)) < pw 41) := ab_divB Br.out (by omega)
        have B23 : Hid (ab ((r % rr)) < pw 40) := ab_modB Hr0.out Brr.out
        refine (RDivModV hNa hNb (Int.lt_of_lt_of_le Br.out (pw_le (by omega))) (Int.lt_of_lt_of_le Brr.out (pw_le (by omega)))).mono ?_
        rintro e w8 ⟨hb, ⟨h0, _⟩ | ⟨_, vq, vr, rfl, iq, ir⟩⟩
        · exact absurd h0 Hr0.out
        have Nq := num_of iq B22.out (by omega)
        have Nr := num_of ir B23.out (by omega)
        obtain ⟨nq, aq, kq, cq, rfl⟩ := Nq.parts
        obtain ⟨nr, ar, kr, cr, rfl⟩ := Nr.parts
        clear iq ir
        clear a0 a1 a2 a3 hNa b0 b1 b2 b3 hNb
        replace XA := XA.mono hb
        replace XB := XB.mono hb
        replace X4 := X4.mono hb
        replace X5 := X5.mono hb
        replace X6 := X6.mono hb
        replace X7 := X7.mono hb
        replace X8 := X8.mono hb
        replace X9 := X9.mono hb
        replace X10 := X10.mono hb
        replace X11 := X11.mono hb
        replace HB := HB.trans (hb.mono HB.size)
        clear hb
        go_upto_region 10 with (fail)
        obtain ⟨w24, hw24, hb, p24_0, p24_1⟩ := boxTwo Nq Nr 27
        rw [← hw24]
        clear hw24
        have hlt24 : g11 < w8.heap.size := X11.lt
        replace XA := XA.mono hb
        replace XB := XB.mono hb
        replace X4 := X4.mono hb
        replace X5 := X5.mono hb
        replace X6 := X6.mono hb
        replace X7 := X7.mono hb
        replace X8 := X8.mono hb
        replace X9 := X9.mono hb
        replace X10 := X10.mono hb
        replace X11 := X11.mono hb
        replace HB := HB.trans (hb.mono HB.size)
        clear hb
        obtain ⟨g12, hg12⟩ : ∃ g, g = w8.heap.size := ⟨_, rfl⟩
        rw [← hg12]
        rw [← hg12] at hlt24 p24_0 p24_1
        clear hg12
        have X12 := p24_0
        have X13 := p24_1
        clear p24_0 p24_1
        clear Nq Nr
        have B25 : Hid (ab (((r / rr) * uu)) < pw 82) := ab_mulM B22.out Buu.out (by omega)
        have B26 : Hid (ab ((u - ((r / rr) * uu))) < pw 83) := ab_subB Bu.out B25.out (by omega) (by omega)
        have hlast := X13.lt
        have hp : (plan [Fc.num u, Fc.num (r / rr), Fc.num uu, Fc.num ((r / rr) * uu), Fc.num (u - ((r / rr) * uu)), Fc.any, Fc.any] [(w.heap.size, 1000, a, a), ((w.heap.size + 1), 1001, b, b), ((w.heap.size + 1 + 1), 1002, 0, 0), ((w.heap.size + 1 + 1 + 1), 1003, 0, 0), ((w.heap.size + 1 + 1 + 1 + 1), 1004, 0, 0), (g7, 1005, m, m), (g8, 1006, rr, rr), (g9, 1007, r, r), (g10, 1008, uu, uu), (g11, 1009, u, u), (g12, 1010, (r / rr), (r / rr)), ((g12 + 1), 1011, (r % rr), (r % rr))] [(5, 6, (u - ((r / rr) * uu)))]).Ok w.heap.size w24.heap.size := plan_ok (by simp; omega) (by simp; try omega) (by simp) (by omega)
        have hm := PMono.of hp
        refine region_steps (p := (plan [Fc.num u, Fc.num (r / rr), Fc.num uu, Fc.num ((r / rr) * uu), Fc.num (u - ((r / rr) * uu)), Fc.any, Fc.any] [(w.heap.size, 1000, a, a), ((w.heap.size + 1), 1001, b, b), ((w.heap.size + 1 + 1), 1002, 0, 0), ((w.heap.size + 1 + 1 + 1), 1003, 0, 0), ((w.heap.size + 1 + 1 + 1 + 1), 1004, 0, 0), (g7, 1005, m, m), (g8, 1006, rr, rr), (g9, 1007, r, r), (g10, 1008, uu, uu), (g11, 1009, u, u), (g12, 1010, (r / rr), (r / rr)), ((g12 + 1), 1011, (r % rr), (r % rr))] [(5, 6, (u - ((r / rr) * uu)))])) (B := w.heap.size) (B0 := w24.heap.size) (w0 := w) (by kernel_rfl) rfl rfl (plan_start (by simp; exact ⟨XA, XB, X4, X5, X6, X7, X8, X9, X10, X11, X12, X13⟩) HB) ⟨?_, ?_, ?_, ?_, ?_, ?_, ?_, trivial⟩ ?_
        · exact st_load (b := g11) (k := 1009) (z := u) (z' := u) hp (by simp [plan]) (.inl rfl) rfl rfl (fun v w h => h) ⟨by simp [plan], by simp [plan]⟩
        · exact st_load (b := g12) (k := 1010) (z := (r / rr)) (z' := (r / rr)) hp (by simp [plan]) (.inl rfl) rfl rfl (fun v w h => h) ⟨by simp [plan], by simp [plan]⟩
        · exact st_load (b := g10) (k := 1008) (z := uu) (z' := uu) hp (by simp [plan]) (.inl rfl) rfl rfl (fun v w h => h) ⟨by simp [plan], by simp [plan]⟩
        · exact g_call2 (F := (Fc.num (r / rr)).P) (G := (Fc.num uu).P) hm ⟨by simp [plan], by simp [plan]⟩ trivial enter_rMul (src_in 1 rfl rfl (by simp) rfl (fun v w h => h)) (src_in 2 rfl rfl (by simp) rfl (fun v w h => h)) (fun v v' w h h' => exK (RMulV h h') B25.out (by omega))
        · exact g_call2 (F := (Fc.num u).P) (G := (Fc.num ((r / rr) * uu)).P) hm ⟨by simp [plan], by simp [plan]⟩ trivial enter_rSub (src_in 0 rfl rfl (by simp) rfl (fun v w h => h)) (src_in 3 rfl rfl (by simp) rfl (fun v w h => h)) (fun v v' w h h' => exK (RSubV h h' (K := 82) (Int.lt_of_lt_of_le Bu.out (pw_le (by omega))) (Int.lt_of_lt_of_le B25.out (pw_le (by omega))) (by omega)) B26.out (by omega))
        · exact st_alloc (k := 6) (z := (u - ((r / rr) * uu))) hp (by simp [plan]) rfl (fun _ _ => trivial) (by simp [plan]) (by simp [plan])
        · exact st_storeNew (i0 := 5) (j := 4) (z := (u - ((r / rr) * uu))) hp rfl (by simp [plan]) rfl (by simp) rfl rfl (by simp) rfl (fun v w h => h) (fun _ _ => trivial) (by simp [plan]) (by simp [plan])
        intro L vs w27 hL hG
        replace XA : BoxNum w27 w.heap.size a := by have := hG.old (w.heap.size, 1000, a, a) (by simp [plan]); simpa using this
        replace XB : BoxNum w27 (w.heap.size + 1) b := by have := hG.old ((w.heap.size + 1), 1001, b, b) (by simp [plan]); simpa using this
        replace X4 : BoxNum w27 (w.heap.size + 1 + 1) 0 := by have := hG.old ((w.heap.size + 1 + 1), 1002, 0, 0) (by simp [plan]); simpa using this
        replace X5 : BoxNum w27 (w.heap.size + 1 + 1 + 1) 0 := by have := hG.old ((w.heap.size + 1 + 1 + 1), 1003, 0, 0) (by simp [plan]); simpa using this
        replace X6 : BoxNum w27 (w.heap.size + 1 + 1 + 1 + 1) 0 := by have := hG.old ((w.heap.size + 1 + 1 + 1 + 1), 1004, 0, 0) (by simp [plan]); simpa using this
        replace X7 : BoxNum w27 g7 m := by have := hG.old (g7, 1005, m, m) (by simp [plan]); simpa using this
        replace X8 : BoxNum w27 g8 rr := by have := hG.old (g8, 1006, rr, rr) (by simp [plan]); simpa using this
        replace X9 : BoxNum w27 g9 r := by have := hG.old (g9, 1007, r, r) (by simp [plan]); simpa using this
        replace X10 : BoxNum w27 g10 uu := by have := hG.old (g10, 1008, uu, uu) (by simp [plan]); simpa using this
        replace X11 : BoxNum w27 g11 u := by have := hG.old (g11, 1009, u, u) (by simp [plan]); simpa using this
        replace X12 : BoxNum w27 g12 (r / rr) := by have := hG.old (g12, 1010, (r / rr), (r / rr)) (by simp [plan]); simpa using this
        replace X13 : BoxNum w27 (g12 + 1) (r % rr) := by have := hG.old ((g12 + 1), 1011, (r % rr), (r % rr)) (by simp [plan]); simpa using this
        obtain ⟨g15, e5, hgl15, x5⟩ := hG.new (5, 6, (u - ((r / rr) * uu))) (by simp [plan]) (hL 5 (by simp))
        have hlt15 : (g12 + 1) < g15 := Nat.lt_of_lt_of_le hlast hgl15
        have X15 : BoxNum w27 g15 (u - ((r / rr) * uu)) := by have h := x5; simp only [hL 6 (by simp), if_true] at h; exact h
        replace HB := hG.below
        rw [lay_all hL]
        simp only [putAll, dstOf, List.length_cons, List.length_nil, Nat.zero_add, Nat.reduceAdd, List.getElem?_toArray, List.getElem?_cons_zero, List.getElem?_cons_succ, Option.bind_some, Act.put, List.setIfInBounds_toArray, List.set_cons_succ, List.set_cons_zero]
        rw [e5]
        generalize vs 0 = u27_0
        generalize vs 1 = u27_1
        generalize vs 2 = u27_2
        generalize vs 3 = u27_3
        generalize vs 4 = u27_4
        clear hG hm hp hL hlast vs L e5 x5
        go_upto_region 11 with (fail)
        obtain ⟨ne, aoe, kke, cce, ⟨e0, e1, e2, e3⟩, hNe⟩ := id X8
        obtain ⟨nc, aoc, kkc, ccc, ⟨c0, c1, c2, c3⟩, hNc⟩ := id X9
        go_upto_region 12 with (fail)
        obtain ⟨w29, hw29⟩ : ∃ w1, w1 = putBox w27 g9 ne aoe kke cce := ⟨_, rfl⟩
        rw [show (w27.setCell ⟨g9, 0, none⟩ (.bool ne)).setCell ⟨g9, 1, none⟩ (.slice aoe kke cce) = w29 from hw29.symm]
        have YA : BoxNum w29 w.heap.size a := by rw [hw29]; exact XA.putOther X9 (by omega) _ _ _ _
        have YB : BoxNum w29 (w.heap.size + 1) b := by rw [hw29]; exact XB.putOther X9 (by omega) _ _ _ _
        have Y4 : BoxNum w29 (w.heap.size + 1 + 1) 0 := by rw [hw29]; exact X4.putOther X9 (by omega) _ _ _ _
        have Y5 : BoxNum w29 (w.heap.size + 1 + 1 + 1) 0 := by rw [hw29]; exact X5.putOther X9 (by omega) _ _ _ _
        have Y6 : BoxNum w29 (w.heap.size + 1 + 1 + 1 + 1) 0 := by rw [hw29]; exact X6.putOther X9 (by omega) _ _ _ _
        have Y7 : BoxNum w29 g7 m := by rw [hw29]; exact X7.putOther X9 (by omega) _ _ _ _
        have Y8 : BoxNum w29 g8 rr := by rw [hw29]; exact X8.putOther X9 (by omega) _ _ _ _
        have Y10 : BoxNum w29 g10 uu := by rw [hw29]; exact X10.putOther X9 (by omega) _ _ _ _
        have Y11 : BoxNum w29 g11 u := by rw [hw29]; exact X11.putOther X9 (by omega) _ _ _ _
        have Y12 : BoxNum w29 g12 (r / rr) := by rw [hw29]; exact X12.putOther X9 (by omega) _ _ _ _
        have Y13 : BoxNum w29 (g12 + 1) (r % rr) := by rw [hw29]; exact X13.putOther X9 (by omega) _ _ _ _
        have Y15 : BoxNum w29 g15 (u - ((r / rr) * uu)) := by rw [hw29]; exact X15.putOther X9 (by omega) _ _ _ _
        replace HB : Below w.heap.size w w29 := by rw [hw29]; exact belowPut HB (by omega) _ _ _ _
        have Y9 : BoxNum w29 g9 rr := by rw [hw29]; exact X9.putSame hNe
        replace XA := YA
        replace XB := YB
        replace X4 := Y4
        replace X5 := Y5
        replace X6 := Y6
        replace X7 := Y7
        replace X8 := Y8
        replace X9 := Y9
        replace X10 := Y10
        replace X11 := Y11
        replace X12 := Y12
        replace X13 := Y13
        replace X15 := Y15
        clear YA YB Y4 Y5 Y6 Y7 Y8 Y9 Y10 Y11 Y12 Y13 Y15
        clear hw29
        clear e0 e1 e2 e3 hNe c0 c1 c2 c3 hNc
        obtain ⟨ne, aoe, kke, cce, ⟨e0, e1, e2, e3⟩, hNe⟩ := id X10
        obtain ⟨nc, aoc, kkc, ccc, ⟨c0, c1, c2, c3⟩, hNc⟩ := id X11
        go_upto_region 13 with (fail)
        obtain ⟨w31, hw31⟩ : ∃ w1, w1 = putBox w29 g11 ne aoe kke cce := ⟨_, rfl⟩
        rw [show (w29.setCell ⟨g11, 0, none⟩ (.bool ne)).setCell ⟨g11, 1, none⟩ (.slice aoe kke cce) = w31 from hw31.symm]
        have YA : BoxNum w31 w.heap.size a := by rw [hw31]; exact XA.putOther X11 (by omega) _ _ _ _
        have YB : BoxNum w31 (w.heap.size + 1) b := by rw [hw31]; exact XB.putOther X11 (by omega) _ _ _ _
        have Y4 : BoxNum w31 (w.heap.size + 1 + 1) 0 := by rw [hw31]; exact X4.putOther X11 (by omega) _ _ _ _
        have Y5 : BoxNum w31 (w.heap.size + 1 + 1 + 1) 0 := by rw [hw31]; exact X5.putOther X11 (by omega) _ _ _ _
        have Y6 : BoxNum w31 (w.heap.size + 1 + 1 + 1 + 1) 0 := by rw [hw31]; exact X6.putOther X11 (by omega) _ _ _ _
        have Y7 : BoxNum w31 g7 m := by rw [hw31]; exact X7.putOther X11 (by omega) _ _ _ _
        have Y8 : BoxNum w31 g8 rr := by rw [hw31]; exact X8.putOther X11 (by omega) _ _ _ _
        have Y9 : BoxNum w31 g9 rr := by rw [hw31]; exact X9.putOther X11 (by omega) _ _ _ _
        have Y10 : BoxNum w31 g10 uu := by rw [hw31]; exact X10.putOther X11 (by omega) _ _ _ _
        have Y12 : BoxNum w31 g12 (r / rr) := by rw [hw31]; exact X12.putOther X11 (by omega) _ _ _ _
        have Y13 : BoxNum w31 (g12 + 1) (r % rr) := by rw [hw31]; exact X13.putOther X11 (by omega) _ _ _ _
        have Y15 : BoxNum w31 g15 (u - ((r / rr) * uu)) := by rw [hw31]; exact X15.putOther X11 (by omega) _ _ _ _
        replace HB : Below w.heap.size w w31 := by rw [hw31]; exact belowPut HB (by omega) _ _ _ _
        have Y11 : BoxNum w31 g11 uu := by rw [hw31]; exact X11.putSame hNe
        replace XA := YA
        replace XB := YB
        replace X4 := Y4
        replace X5 := Y5
        replace X6 := Y6
        replace X7 := Y7
        replace X8 := Y8
        replace X9 := Y9
        replace X10 := Y10
        replace X11 := Y11
        replace X12 := Y12
        replace X13 := Y13
        replace X15 := Y15
        clear YA YB Y4 Y5 Y6 Y7 Y8 Y9 Y10 Y11 Y12 Y13 Y15
        clear hw31
        clear e0 e1 e2 e3 hNe c0 c1 c2 c3 hNc
        obtain ⟨ne, aoe, kke, cce, ⟨e0, e1, e2, e3⟩, hNe⟩ := id X13
        obtain ⟨nc, aoc, kkc, ccc, ⟨c0, c1, c2, c3⟩, hNc⟩ := id X8
        go_upto_region 14 with (fail)
        obtain ⟨w33, hw33⟩ : ∃ w1, w1 = putBox w31 g8 ne aoe kke cce := ⟨_, rfl⟩
        rw [show (w31.setCell ⟨g8, 0, none⟩ (.bool ne)).setCell ⟨g8, 1, none⟩ (.slice aoe kke cce) = w33 from hw33.symm]
        have YA : BoxNum w33 w.heap.size a := by rw [hw33]; exact XA.putOther X8 (by omega) _ _ _ _
        have YB : BoxNum w33 (w.heap.size + 1) b := by rw [hw33]; exact XB.putOther X8 (by omega) _ _ _ _
        have Y4 : BoxNum w33 (w.heap.size + 1 + 1) 0 := by rw [hw33]; exact X4.putOther X8 (by omega) _ _ _ _
        have Y5 : BoxNum w33 (w.heap.size + 1 + 1 + 1) 0 := by rw [hw33]; exact X5.putOther X8 (by omega) _ _ _ _
        have Y6 : BoxNum w33 (w.heap.size + 1 + 1 + 1 + 1) 0 := by rw [hw33]; exact X6.putOther X8 (by omega) _ _ _ _
        have Y7 : BoxNum w33 g7 m := by rw [hw33]; exact X7.putOther X8 (by omega) _ _ _ _
        have Y9 : BoxNum w33 g9 rr := by rw [hw33]; exact X9.putOther X8 (by omega) _ _ _ _
        have Y10 : BoxNum w33 g10 uu := by rw [hw33]; exact X10.putOther X8 (by omega) _ _ _ _
        have Y11 : BoxNum w33 g11 uu := by rw [hw33]; exact X11.putOther X8 (by omega) _ _ _ _
        have Y12 : BoxNum w33 g12 (r / rr) := by rw [hw33]; exact X12.putOther X8 (by omega) _ _ _ _
        have Y13 : BoxNum w33 (g12 + 1) (r % rr) := by rw [hw33]; exact X13.putOther X8 (by omega) _ _ _ _
        have Y15 : BoxNum w33 g15 (u - ((r / rr) * uu)) := by rw [hw33]; exact X15.putOther X8 (by omega) _ _ _ _
        replace HB : Below w.heap.size w w33 := by rw [hw33]; exact belowPut HB (by omega) _ _ _ _
        have Y8 : BoxNum w33 g8 (r % rr) := by rw [hw33]; exact X8.putSame hNe
        replace XA := YA
        replace XB := YB
        replace X4 := Y4
        replace X5 := Y5
        replace X6 := Y6
        replace X7 := Y7
        replace X8 := Y8
        replace X9 := Y9
        replace X10 := Y10
        replace X11 := Y11
        replace X12 := Y12
        replace X13 := Y13
        replace X15 := Y15
        clear YA YB Y4 Y5 Y6 Y7 Y8 Y9 Y10 Y11 Y12 Y13 Y15
        clear hw33
        clear e0 e1 e2 e3 hNe c0 c1 c2 c3 hNc
        obtain ⟨ne, aoe, kke, cce, ⟨e0, e1, e2, e3⟩, hNe⟩ := id X15
        obtain ⟨nc, aoc, kkc, ccc, ⟨c0, c1, c2, c3⟩, hNc⟩ := id X10
        go_wp2
        obtain ⟨w35, hw35⟩ : ∃ w1, w1 = putBox w33 g10 ne aoe kke cce := ⟨_, rfl⟩
        rw [show (w33.setCell ⟨g10, 0, none⟩ (.bool ne)).setCell ⟨g10, 1, none⟩ (.slice aoe kke cce) = w35 from hw35.symm]
        have YA : BoxNum w35 w.heap.size a := by rw [hw35]; exact XA.putOther X10 (by omega) _ _ _ _
        have YB : BoxNum w35 (w.heap.size + 1) b := by rw [hw35]; exact XB.putOther X10 (by omega) _ _ _ _
        have Y4 : BoxNum w35 (w.heap.size + 1 + 1) 0 := by rw [hw35]; exact X4.putOther X10 (by omega) _ _ _ _
        have Y5 : BoxNum w35 (w.heap.size + 1 + 1 + 1) 0 := by rw [hw35]; exact X5.putOther X10 (by omega) _ _ _ _
        have Y6 : BoxNum w35 (w.heap.size + 1 + 1 + 1 + 1) 0 := by rw [hw35]; exact X6.putOther X10 (by omega) _ _ _ _
        have Y7 : BoxNum w35 g7 m := by rw [hw35]; exact X7.putOther X10 (by omega) _ _ _ _
        have Y8 : BoxNum w35 g8 (r % rr) := by rw [hw35]; exact X8.putOther X10 (by omega) _ _ _ _
        have Y9 : BoxNum w35 g9 rr := by rw [hw35]; exact X9.putOther X10 (by omega) _ _ _ _
        have Y11 : BoxNum w35 g11 uu := by rw [hw35]; exact X11.putOther X10 (by omega) _ _ _ _
        have Y12 : BoxNum w35 g12 (r / rr) := by rw [hw35]; exact X12.putOther X10 (by omega) _ _ _ _
        have Y13 : BoxNum w35 (g12 + 1) (r % rr) := by rw [hw35]; exact X13.putOther X10 (by omega) _ _ _ _
        have Y15 : BoxNum w35 g15 (u - ((r / rr) * uu)) := by rw [hw35]; exact X15.putOther X10 (by omega) _ _ _ _
        replace HB : Below w.heap.size w w35 := by rw [hw35]; exact belowPut HB (by omega) _ _ _ _
        have Y10 : BoxNum w35 g10 (u - ((r / rr) * uu)) := by rw [hw35]; exact X10.putSame hNe
        replace XA := YA
        replace XB := YB
        replace X4 := Y4
        replace X5 := Y5
        replace X6 := Y6
        replace X7 := Y7
        replace X8 := Y8
        replace X9 := Y9
        replace X10 := Y10
        replace X11 := Y11
        replace X12 := Y12
        replace X13 := Y13
        replace X15 := Y15
        clear YA YB Y4 Y5 Y6 Y7 Y8 Y9 Y10 Y11 Y12 Y13 Y15
        clear hw35
        clear e0 e1 e2 e3 hNe c0 c1 c2 c3 hNc
        have hst := bez_step (show m ≠ 0 by have := Hmp.out; omega) HI.out Hr0.out
        go_roundw
        case rel => exact ⟨rr, r % rr, uu, u - r / rr * uu, hst.1, XA, XB, X4, X5, X6, X7, X8, X9, X10, X11, HB⟩
        case measure =>
          rw [boxVal_eq X8, HBV.out]
          have := hst.2.1; unfold ab at this; omega

end Go.Proofs.Ytplpammfbljaoaa
