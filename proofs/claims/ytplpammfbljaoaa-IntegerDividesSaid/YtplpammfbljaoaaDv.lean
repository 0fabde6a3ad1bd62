/- Walk of the law on quotients and remainders. -/
import Derived.Test.YtplpammfbljaoaaLw
namespace Go.Proofs.Ytplpammfbljaoaa
open Go Go.RowKit

set_option maxRecDepth 100000 in
set_option maxHeartbeats 16000000 in
theorem IntegerDivides_any (w : World) (n1 : Bool) (a1 : Option Addr) (k1 c1 : Nat) (xs1 : List Int) (h1 : Sl w a1 k1 c1 xs1) (hk1 : k1 ≤ 9223372036854775807) (n2 : Bool) (a2 : Option Addr) (k2 c2 : Nat) (xs2 : List Int) (h2 : Sl w a2 k2 c2 xs2) (hk2 : k2 ≤ 9223372036854775807) (n3 : Bool) (a3 : Option Addr) (k3 c3 : Nat) (xs3 : List Int) (h3 : Sl w a3 k3 c3 xs3) (hk3 : k3 ≤ 9223372036854775807) :
    Calls Try.prog 6 #[.agg #[.bool n1, .slice a1 k1 c1], .agg #[.bool n2, .slice a2 k2 c2], .agg #[.bool n3, .slice a3 k3 c3]] w fun e w' => e = .returned (.bool true) ∧ Below w.heap.size w w' := by
  obtain ⟨x, hx⟩ : ∃ x, x = sgn n1 (val (xs1.take 12)) := ⟨_, rfl⟩
  have Bx : Hid (ab x < pw 12) := by rw [hx]; exact Num.ofMade h1.digs
  have Hx := hidd hx
  clear hx
  obtain ⟨y, hy⟩ : ∃ y, y = sgn n2 (val (xs2.take 12)) := ⟨_, rfl⟩
  have By : Hid (ab y < pw 12) := by rw [hy]; exact Num.ofMade h2.digs
  have Hy := hidd hy
  clear hy
  obtain ⟨z, hz⟩ : ∃ z, z = sgn n3 (val (xs3.take 12)) := ⟨_, rfl⟩
  have Bz : Hid (ab z < pw 12) := by rw [hz]; exact Num.ofMade h3.digs
  have Hz := hidd hz
  clear hz
  go_enter Try.func6, Try.ntmps6
  go_upto_region 1 with (fail)
  obtain ⟨w0, hw0, E⟩ := raw_boxes3 w (n1 := n1) (n2 := n2) (n3 := n3) h1 h2 h3 24
  rw [← hw0]
  clear hw0
  go_wp2_with fail
  refine (examples_any _).mono ?_
  rintro e w1 ⟨rfl, hb⟩
  replace E := E.mono hb
  clear hb
  obtain ⟨⟨d0, d1, d2, d3⟩, hS⟩ := E.raws.1
  go_wp2_with fail
  refine (exKP (z := x) (by rw [Hx.out]; exact Made_any _ _ _ _ _ _ hS hk1 12 (by omega)) Bx.out (by omega)).mono ?_
  rintro e w2 ⟨n2', ao2, kk2, c2', rfl, hb, hN2⟩
  replace E := E.mono hb
  clear hb
  clear d0 d1 d2 d3 hS
  go_upto_region 5 with (fail)
  obtain ⟨w3, hw3, hb, p3_0⟩ := boxOne hN2 27
  rw [← hw3]
  clear hw3
  replace E := E.mono hb
  replace E := E.push p3_0
  clear hb p3_0
  obtain ⟨⟨d0, d1, d2, d3⟩, hS⟩ := E.raws.2.1
  go_wp2_with fail
  refine (exKP (z := y) (by rw [Hy.out]; exact Made_any _ _ _ _ _ _ hS hk2 12 (by omega)) By.out (by omega)).mono ?_
  rintro e w4 ⟨n4', ao4, kk4, c4', rfl, hb, hN4⟩
  replace E := E.mono hb
  clear hb
  clear d0 d1 d2 d3 hS
  go_upto_region 6 with (fail)
  obtain ⟨w5, hw5, hb, p5_0⟩ := boxOne hN4 27
  rw [← hw5]
  clear hw5
  replace E := E.mono hb
  replace E := E.push p5_0
  clear hb p5_0
  obtain ⟨⟨d0, d1, d2, d3⟩, hS⟩ := E.raws.2.2.1
  go_wp2_with fail
  refine (exKP (z := z) (by rw [Hz.out]; exact Made_any _ _ _ _ _ _ hS hk3 12 (by omega)) Bz.out (by omega)).mono ?_
  rintro e w6 ⟨n6', ao6, kk6, c6', rfl, hb, hN6⟩
  replace E := E.mono hb
  clear hb
  clear d0 d1 d2 d3 hS
  go_upto_region 7 with (fail)
  obtain ⟨w7, hw7, hb, p7_0⟩ := boxOne hN6 27
  rw [← hw7]
  clear hw7
  replace E := E.mono hb
  replace E := E.push p7_0
  clear hb p7_0
  by_cases hy : y = 0
  · subst hy
    obtain ⟨nd, aod, kkd, ccd, ⟨d0, d1, d2, d3⟩, hNd⟩ := E.bs.2.2.1
    obtain ⟨nf, aof, kkf, ccf, ⟨f0, f1, f2, f3⟩, hNf⟩ := E.bs.2.1
    go_wp2_with fail
    refine (DivModV hNd hNf).mono ?_
    rintro e w8 ⟨hb, ⟨h0, rfl⟩ | ⟨h0, _⟩⟩
    rotate_left
    · exact absurd rfl h0
    replace E := E.mono hb
    clear hb
    clear d0 d1 d2 d3 hNd f0 f1 f2 f3 hNf
    clear h0
    go_upto_region 8 with (fail)
    obtain ⟨w9, hw9, hb, p9_0, p9_1⟩ := boxTwo (Num.zero w8) (Num.zero w8) 27
    rw [← hw9]
    clear hw9
    replace E := E.mono hb
    replace E := E.push p9_0
    replace E := E.push p9_1
    clear hb p9_0 p9_1
    obtain ⟨nd, aod, kkd, ccd, ⟨d0, d1, d2, d3⟩, hNd⟩ := E.bs.2.2.2.1
    obtain rfl := hNd.len_zero.1.2 rfl
    obtain ⟨nf, aof, kkf, ccf, ⟨f0, f1, f2, f3⟩, hNf⟩ := E.bs.2.1
    obtain rfl := hNf.len_zero.1.2 rfl
    obtain ⟨nm, aom, kkm, ccm, ⟨m0, m1, m2, m3⟩, hNm⟩ := E.bs.1
    obtain rfl := hNm.len_zero.1.2 rfl
    go_wp2
    go_ret
    exact ⟨rfl, E.below⟩
  · have Hy := hidd hy
    have B10 : Hid (ab ((x / y)) < pw 13) := ab_divB Bx.out (by omega)
    have B11 : Hid (ab ((x % y)) < pw 12) := ab_modB Hy.out By.out
    obtain ⟨nd, aod, kkd, ccd, ⟨d0, d1, d2, d3⟩, hNd⟩ := E.bs.2.2.1
    obtain ⟨nf, aof, kkf, ccf, ⟨f0, f1, f2, f3⟩, hNf⟩ := E.bs.2.1
    go_wp2_with fail
    refine (exDK hNd hNf Hy.out B10.out B11.out (by omega) (by omega)).mono ?_
    rintro e w12 ⟨n12, ao12, k12, c12, n12', ao12', k12', c12', rfl, hb, hq12, hr12⟩
    replace E := E.mono hb
    clear hb
    clear d0 d1 d2 d3 hNd f0 f1 f2 f3 hNf
    go_upto_region 8 with (fail)
    obtain ⟨w13, hw13, hb, p13_0, p13_1⟩ := boxTwo hq12 hr12 27
    rw [← hw13]
    clear hw13
    replace E := E.mono hb
    replace E := E.push p13_0
    replace E := E.push p13_1
    clear hb p13_0 p13_1
    have B14 : Hid (ab ((z / y)) < pw 13) := ab_divB Bz.out (by omega)
    have B15 : Hid (ab ((z % y)) < pw 12) := ab_modB Hy.out By.out
    obtain ⟨nd, aod, kkd, ccd, ⟨d0, d1, d2, d3⟩, hNd⟩ := E.bs.2.2.1
    obtain ⟨nf, aof, kkf, ccf, ⟨f0, f1, f2, f3⟩, hNf⟩ := E.bs.2.2.2.1
    have hkf : ((kkf : Int) == 0) = false := by simp; exact fun h => Hy.out (hNf.len_zero.1.1 h)
    clear hy
    go_wp2_with fail
    clear hkf
    refine (exDK hNd hNf Hy.out B14.out B15.out (by omega) (by omega)).mono ?_
    rintro e w16 ⟨n16, ao16, k16, c16, n16', ao16', k16', c16', rfl, hb, hq16, hr16⟩
    replace E := E.mono hb
    clear hb
    clear d0 d1 d2 d3 hNd f0 f1 f2 f3 hNf
    go_upto_region 11 with (fail)
    obtain ⟨w17, hw17, hb, p17_0, p17_1⟩ := boxTwo hq16 hr16 27
    rw [← hw17]
    clear hw17
    replace E := E.mono hb
    replace E := E.push p17_0
    replace E := E.push p17_1
    clear hb p17_0 p17_1
    have B18 : Hid (ab ((x + z)) < pw 13) := ab_addB Bx.out Bz.out (by omega) (by omega)
    have B19 : Hid (ab (((x + z) / y)) < pw 14) := ab_divB B18.out (by omega)
    have B20 : Hid (ab (((x + z) % y)) < pw 12) := ab_modB Hy.out By.out
    have X3_0 := E.bs.2.2.2.2.2.2.1
    have X7_0 := E.bs.2.2.2.2.1
    have X5_0 := E.bs.2.2.2.2.2.1
    have hp : (plan [Fc.num x, Fc.num z, Fc.num (x + z), Fc.num y, Fc.tup ((x + z) / y) ((x + z) % y), Fc.tup ((x + z) / y) ((x + z) % y), Fc.num ((x + z) / y), Fc.num ((x + z) % y), Fc.is (.int .i64 0), Fc.any, Fc.any, Fc.any, Fc.any, Fc.is (.int .i64 0)] [] [(9, 11, ((x + z) / y)), (10, 12, ((x + z) % y))]).Ok w17.heap.size w17.heap.size := plan_ok (by simp) (by simp) (by simp) (by omega)
    refine region_steps (p := (plan [Fc.num x, Fc.num z, Fc.num (x + z), Fc.num y, Fc.tup ((x + z) / y) ((x + z) % y), Fc.tup ((x + z) / y) ((x + z) % y), Fc.num ((x + z) / y), Fc.num ((x + z) % y), Fc.is (.int .i64 0), Fc.any, Fc.any, Fc.any, Fc.any, Fc.is (.int .i64 0)] [] [(9, 11, ((x + z) / y)), (10, 12, ((x + z) % y))])) (B := w17.heap.size) (B0 := w17.heap.size) (w0 := w17) (by kernel_rfl) rfl rfl (plan_start (by simp) (Below.refl _ _)) ⟨?_, ?_, ?_, ?_, ?_, ?_, ?_, ?_, ?_, ?_, ?_, ?_, ?_, ?_, trivial⟩ ?_
    · exact g_load (z := x) hp ⟨by simp [plan], by simp [plan]⟩ trivial (src_out rfl rfl (fun w h => ⟨rfl, X3_0.mono h⟩)) (fun v w h => h)
    · exact g_load (z := z) hp ⟨by simp [plan], by simp [plan]⟩ trivial (src_out rfl rfl (fun w h => ⟨rfl, X7_0.mono h⟩)) (fun v w h => h)
    · exact g_call2 (F := (Fc.num x).P) (G := (Fc.num z).P) hp ⟨by simp [plan], by simp [plan]⟩ trivial enter_Add' (src_in 0 rfl rfl (by simp) rfl (fun v w h => h)) (src_in 1 rfl rfl (by simp) rfl (fun v w h => h)) (fun v v' w h h' => exK (AddV h h') B18.out (by omega))
    · exact g_load (z := y) hp ⟨by simp [plan], by simp [plan]⟩ trivial (src_out rfl rfl (fun w h => ⟨rfl, X5_0.mono h⟩)) (fun v w h => h)
    · exact g_call2 (F := (Fc.num (x + z)).P) (G := (Fc.num y).P) hp ⟨by simp [plan], by simp [plan]⟩ trivial enter_DivMod' (src_in 2 rfl rfl (by simp) rfl (fun v w h => h)) (src_in 3 rfl rfl (by simp) rfl (fun v w h => h)) (fun v v' w h h' => exDT h h' Hy.out B19.out B20.out (by omega) (by omega))
    · exact g_move hp ⟨by simp [plan], by simp [plan]⟩ trivial (src_in 4 rfl rfl (by simp) rfl (fun v w h => h))
    · exact g_extract hp ⟨by simp [plan], by simp [plan]⟩ trivial (src_in 5 rfl rfl (by simp) rfl (fun v w h => by obtain ⟨v1, v2, e, h1, h2⟩ := h; exact ⟨_, v1, e, rfl, h1⟩))
    · exact g_extract hp ⟨by simp [plan], by simp [plan]⟩ trivial (src_in 5 rfl rfl (by simp) rfl (fun v w h => by obtain ⟨v1, v2, e, h1, h2⟩ := h; exact ⟨_, v2, e, rfl, h2⟩))
    · exact g_extract hp ⟨by simp [plan], by simp [plan]⟩ trivial (src_in 5 rfl rfl (by simp) rfl (fun v w h => by obtain ⟨v1, v2, e, h1, h2⟩ := h; exact ⟨_, _, e, rfl, rfl⟩))
    · exact st_alloc (k := 11) (z := ((x + z) / y)) hp (by simp [plan]) rfl (fun _ _ => trivial) (by simp [plan]) (by simp [plan])
    · exact st_alloc (k := 12) (z := ((x + z) % y)) hp (by simp [plan]) rfl (fun _ _ => trivial) (by simp [plan]) (by simp [plan])
    · exact st_storeNew (i0 := 9) (j := 6) (z := ((x + z) / y)) hp rfl (by simp [plan]) rfl (by simp) rfl rfl (by simp) rfl (fun v w h => h) (fun _ _ => trivial) (by simp [plan]) (by simp [plan])
    · exact st_storeNew (i0 := 10) (j := 7) (z := ((x + z) % y)) hp rfl (by simp [plan]) rfl (by simp) rfl rfl (by simp) rfl (fun v w h => h) (fun _ _ => trivial) (by simp [plan]) (by simp [plan])
    · exact g_assign hp ⟨by simp [plan], by simp [plan]⟩ trivial (src_in 8 rfl rfl (by simp) rfl (fun v w h => h))
    intro L vs w21 hL hG
    have e8 : vs 8 = .int .i64 0 := hG.val 8 (hL 8 (by simp))
    obtain ⟨b21_9, e9, _, x9⟩ := hG.new (9, 11, ((x + z) / y)) (by simp [plan]) (hL 9 (by simp))
    have x9' : BoxNum w21 b21_9 ((x + z) / y) := by have h := x9; simp only [hL 11 (by simp), if_true] at h; exact h
    obtain ⟨b21_10, e10, _, x10⟩ := hG.new (10, 12, ((x + z) % y)) (by simp [plan]) (hL 10 (by simp))
    have x10' : BoxNum w21 b21_10 ((x + z) % y) := by have h := x10; simp only [hL 12 (by simp), if_true] at h; exact h
    have e13 : vs 13 = .int .i64 0 := hG.val 13 (hL 13 (by simp))
    have hb := hG.below
    replace E := E.mono hb
    replace E := E.push x9'
    replace E := E.push x10'
    rw [lay_all hL]
    simp only [putAll, dstOf, List.length_cons, List.length_nil, Nat.zero_add, Nat.reduceAdd, List.getElem?_toArray, List.getElem?_cons_zero, List.getElem?_cons_succ, Option.bind_some, Act.put, List.setIfInBounds_toArray, List.set_cons_succ, List.set_cons_zero]
    rw [e8, e9, e10, e13]
    generalize vs 0 = u21_0
    generalize vs 1 = u21_1
    generalize vs 2 = u21_2
    generalize vs 3 = u21_3
    generalize vs 4 = u21_4
    generalize vs 5 = u21_5
    generalize vs 6 = u21_6
    generalize vs 7 = u21_7
    clear hb hG hp hL vs L e8 e9 e10 e13 x9 x10 x9' x10' X3_0 X7_0 X5_0
    go_wp2
    have B22 : Hid (ab (((x % y) + (z % y))) < pw 13) := ab_addB B11.out B15.out (by omega) (by omega)
    have B23 : Hid (ab ((((x % y) + (z % y)) / y)) < pw 14) := ab_divB B22.out (by omega)
    have B24 : Hid (ab ((((x % y) + (z % y)) % y)) < pw 12) := ab_modB Hy.out By.out
    have X13_1 := E.bs.2.2.2.2.1
    have X17_1 := E.bs.2.2.1
    have X5_0 := E.bs.2.2.2.2.2.2.2.1
    have hp : (plan [Fc.num (x % y), Fc.num (z % y), Fc.num ((x % y) + (z % y)), Fc.num y, Fc.tup (((x % y) + (z % y)) / y) (((x % y) + (z % y)) % y), Fc.tup (((x % y) + (z % y)) / y) (((x % y) + (z % y)) % y), Fc.num (((x % y) + (z % y)) / y), Fc.num (((x % y) + (z % y)) % y), Fc.is (.int .i64 0), Fc.any, Fc.any, Fc.any, Fc.any, Fc.is (.int .i64 0)] [] [(9, 11, (((x % y) + (z % y)) / y)), (10, 12, (((x % y) + (z % y)) % y))]).Ok w21.heap.size w21.heap.size := plan_ok (by simp) (by simp) (by simp) (by omega)
    refine region_steps (p := (plan [Fc.num (x % y), Fc.num (z % y), Fc.num ((x % y) + (z % y)), Fc.num y, Fc.tup (((x % y) + (z % y)) / y) (((x % y) + (z % y)) % y), Fc.tup (((x % y) + (z % y)) / y) (((x % y) + (z % y)) % y), Fc.num (((x % y) + (z % y)) / y), Fc.num (((x % y) + (z % y)) % y), Fc.is (.int .i64 0), Fc.any, Fc.any, Fc.any, Fc.any, Fc.is (.int .i64 0)] [] [(9, 11, (((x % y) + (z % y)) / y)), (10, 12, (((x % y) + (z % y)) % y))])) (B := w21.heap.size) (B0 := w21.heap.size) (w0 := w21) (by kernel_rfl) rfl rfl (plan_start (by simp) (Below.refl _ _)) ⟨?_, ?_, ?_, ?_, ?_, ?_, ?_, ?_, ?_, ?_, ?_, ?_, ?_, ?_, trivial⟩ ?_
    · exact g_load (z := (x % y)) hp ⟨by simp [plan], by simp [plan]⟩ trivial (src_out rfl rfl (fun w h => ⟨rfl, X13_1.mono h⟩)) (fun v w h => h)
    · exact g_load (z := (z % y)) hp ⟨by simp [plan], by simp [plan]⟩ trivial (src_out rfl rfl (fun w h => ⟨rfl, X17_1.mono h⟩)) (fun v w h => h)
    · exact g_call2 (F := (Fc.num (x % y)).P) (G := (Fc.num (z % y)).P) hp ⟨by simp [plan], by simp [plan]⟩ trivial enter_Add' (src_in 0 rfl rfl (by simp) rfl (fun v w h => h)) (src_in 1 rfl rfl (by simp) rfl (fun v w h => h)) (fun v v' w h h' => exK (AddV h h') B22.out (by omega))
    · exact g_load (z := y) hp ⟨by simp [plan], by simp [plan]⟩ trivial (src_out rfl rfl (fun w h => ⟨rfl, X5_0.mono h⟩)) (fun v w h => h)
    · exact g_call2 (F := (Fc.num ((x % y) + (z % y))).P) (G := (Fc.num y).P) hp ⟨by simp [plan], by simp [plan]⟩ trivial enter_DivMod' (src_in 2 rfl rfl (by simp) rfl (fun v w h => h)) (src_in 3 rfl rfl (by simp) rfl (fun v w h => h)) (fun v v' w h h' => exDT h h' Hy.out B23.out B24.out (by omega) (by omega))
    · exact g_move hp ⟨by simp [plan], by simp [plan]⟩ trivial (src_in 4 rfl rfl (by simp) rfl (fun v w h => h))
    · exact g_extract hp ⟨by simp [plan], by simp [plan]⟩ trivial (src_in 5 rfl rfl (by simp) rfl (fun v w h => by obtain ⟨v1, v2, e, h1, h2⟩ := h; exact ⟨_, v1, e, rfl, h1⟩))
    · exact g_extract hp ⟨by simp [plan], by simp [plan]⟩ trivial (src_in 5 rfl rfl (by simp) rfl (fun v w h => by obtain ⟨v1, v2, e, h1, h2⟩ := h; exact ⟨_, v2, e, rfl, h2⟩))
    · exact g_extract hp ⟨by simp [plan], by simp [plan]⟩ trivial (src_in 5 rfl rfl (by simp) rfl (fun v w h => by obtain ⟨v1, v2, e, h1, h2⟩ := h; exact ⟨_, _, e, rfl, rfl⟩))
    · exact st_alloc (k := 11) (z := (((x % y) + (z % y)) / y)) hp (by simp [plan]) rfl (fun _ _ => trivial) (by simp [plan]) (by simp [plan])
    · exact st_alloc (k := 12) (z := (((x % y) + (z % y)) % y)) hp (by simp [plan]) rfl (fun _ _ => trivial) (by simp [plan]) (by simp [plan])
    · exact st_storeNew (i0 := 9) (j := 6) (z := (((x % y) + (z % y)) / y)) hp rfl (by simp [plan]) rfl (by simp) rfl rfl (by simp) rfl (fun v w h => h) (fun _ _ => trivial) (by simp [plan]) (by simp [plan])
    · exact st_storeNew (i0 := 10) (j := 7) (z := (((x % y) + (z % y)) % y)) hp rfl (by simp [plan]) rfl (by simp) rfl rfl (by simp) rfl (fun v w h => h) (fun _ _ => trivial) (by simp [plan]) (by simp [plan])
    · exact g_assign hp ⟨by simp [plan], by simp [plan]⟩ trivial (src_in 8 rfl rfl (by simp) rfl (fun v w h => h))
    intro L vs w25 hL hG
    have e8 : vs 8 = .int .i64 0 := hG.val 8 (hL 8 (by simp))
    obtain ⟨b25_9, e9, _, x9⟩ := hG.new (9, 11, (((x % y) + (z % y)) / y)) (by simp [plan]) (hL 9 (by simp))
    have x9' : BoxNum w25 b25_9 (((x % y) + (z % y)) / y) := by have h := x9; simp only [hL 11 (by simp), if_true] at h; exact h
    obtain ⟨b25_10, e10, _, x10⟩ := hG.new (10, 12, (((x % y) + (z % y)) % y)) (by simp [plan]) (hL 10 (by simp))
    have x10' : BoxNum w25 b25_10 (((x % y) + (z % y)) % y) := by have h := x10; simp only [hL 12 (by simp), if_true] at h; exact h
    have e13 : vs 13 = .int .i64 0 := hG.val 13 (hL 13 (by simp))
    have hb := hG.below
    replace E := E.mono hb
    replace E := E.push x9'
    replace E := E.push x10'
    rw [lay_all hL]
    simp only [putAll, dstOf, List.length_cons, List.length_nil, Nat.zero_add, Nat.reduceAdd, List.getElem?_toArray, List.getElem?_cons_zero, List.getElem?_cons_succ, Option.bind_some, Act.put, List.setIfInBounds_toArray, List.set_cons_succ, List.set_cons_zero]
    rw [e8, e9, e10, e13]
    generalize vs 0 = u25_0
    generalize vs 1 = u25_1
    generalize vs 2 = u25_2
    generalize vs 3 = u25_3
    generalize vs 4 = u25_4
    generalize vs 5 = u25_5
    generalize vs 6 = u25_6
    generalize vs 7 = u25_7
    clear hb hG hp hL vs L e8 e9 e10 e13 x9 x10 x9' x10' X13_1 X17_1 X5_0
    go_wp2
    have B26 : Hid (ab ((x * z)) < pw 24) := ab_mulM Bx.out Bz.out (by omega)
    have B27 : Hid (ab (((x * z) / y)) < pw 25) := ab_divB B26.out (by omega)
    have B28 : Hid (ab (((x * z) % y)) < pw 12) := ab_modB Hy.out By.out
    have X3_0 := E.bs.2.2.2.2.2.2.2.2.2.2.1
    have X7_0 := E.bs.2.2.2.2.2.2.2.2.1
    have X5_0 := E.bs.2.2.2.2.2.2.2.2.2.1
    have hp : (plan [Fc.num x, Fc.num z, Fc.num (x * z), Fc.num y, Fc.tup ((x * z) / y) ((x * z) % y), Fc.tup ((x * z) / y) ((x * z) % y), Fc.num ((x * z) / y), Fc.num ((x * z) % y), Fc.is (.int .i64 0), Fc.any, Fc.any, Fc.any, Fc.any, Fc.is (.int .i64 0)] [] [(9, 11, ((x * z) / y)), (10, 12, ((x * z) % y))]).Ok w25.heap.size w25.heap.size := plan_ok (by simp) (by simp) (by simp) (by omega)
    refine region_steps (p := (plan [Fc.num x, Fc.num z, Fc.num (x * z), Fc.num y, Fc.tup ((x * z) / y) ((x * z) % y), Fc.tup ((x * z) / y) ((x * z) % y), Fc.num ((x * z) / y), Fc.num ((x * z) % y), Fc.is (.int .i64 0), Fc.any, Fc.any, Fc.any, Fc.any, Fc.is (.int .i64 0)] [] [(9, 11, ((x * z) / y)), (10, 12, ((x * z) % y))])) (B := w25.heap.size) (B0 := w25.heap.size) (w0 := w25) (by kernel_rfl) rfl rfl (plan_start (by simp) (Below.refl _ _)) ⟨?_, ?_, ?_, ?_, ?_, ?_, ?_, ?_, ?_, ?_, ?_, ?_, ?_, ?_, trivial⟩ ?_
    · exact g_load (z := x) hp ⟨by simp [plan], by simp [plan]⟩ trivial (src_out rfl rfl (fun w h => ⟨rfl, X3_0.mono h⟩)) (fun v w h => h)
    · exact g_load (z := z) hp ⟨by simp [plan], by simp [plan]⟩ trivial (src_out rfl rfl (fun w h => ⟨rfl, X7_0.mono h⟩)) (fun v w h => h)
    · exact g_call2 (F := (Fc.num x).P) (G := (Fc.num z).P) hp ⟨by simp [plan], by simp [plan]⟩ trivial enter_Mul (src_in 0 rfl rfl (by simp) rfl (fun v w h => h)) (src_in 1 rfl rfl (by simp) rfl (fun v w h => h)) (fun v v' w h h' => exK (MulV h h') B26.out (by omega))
    · exact g_load (z := y) hp ⟨by simp [plan], by simp [plan]⟩ trivial (src_out rfl rfl (fun w h => ⟨rfl, X5_0.mono h⟩)) (fun v w h => h)
    · exact g_call2 (F := (Fc.num (x * z)).P) (G := (Fc.num y).P) hp ⟨by simp [plan], by simp [plan]⟩ trivial enter_DivMod' (src_in 2 rfl rfl (by simp) rfl (fun v w h => h)) (src_in 3 rfl rfl (by simp) rfl (fun v w h => h)) (fun v v' w h h' => exDT h h' Hy.out B27.out B28.out (by omega) (by omega))
    · exact g_move hp ⟨by simp [plan], by simp [plan]⟩ trivial (src_in 4 rfl rfl (by simp) rfl (fun v w h => h))
    · exact g_extract hp ⟨by simp [plan], by simp [plan]⟩ trivial (src_in 5 rfl rfl (by simp) rfl (fun v w h => by obtain ⟨v1, v2, e, h1, h2⟩ := h; exact ⟨_, v1, e, rfl, h1⟩))
    · exact g_extract hp ⟨by simp [plan], by simp [plan]⟩ trivial (src_in 5 rfl rfl (by simp) rfl (fun v w h => by obtain ⟨v1, v2, e, h1, h2⟩ := h; exact ⟨_, v2, e, rfl, h2⟩))
    · exact g_extract hp ⟨by simp [plan], by simp [plan]⟩ trivial (src_in 5 rfl rfl (by simp) rfl (fun v w h => by obtain ⟨v1, v2, e, h1, h2⟩ := h; exact ⟨_, _, e, rfl, rfl⟩))
    · exact st_alloc (k := 11) (z := ((x * z) / y)) hp (by simp [plan]) rfl (fun _ _ => trivial) (by simp [plan]) (by simp [plan])
    · exact st_alloc (k := 12) (z := ((x * z) % y)) hp (by simp [plan]) rfl (fun _ _ => trivial) (by simp [plan]) (by simp [plan])
    · exact st_storeNew (i0 := 9) (j := 6) (z := ((x * z) / y)) hp rfl (by simp [plan]) rfl (by simp) rfl rfl (by simp) rfl (fun v w h => h) (fun _ _ => trivial) (by simp [plan]) (by simp [plan])
    · exact st_storeNew (i0 := 10) (j := 7) (z := ((x * z) % y)) hp rfl (by simp [plan]) rfl (by simp) rfl rfl (by simp) rfl (fun v w h => h) (fun _ _ => trivial) (by simp [plan]) (by simp [plan])
    · exact g_assign hp ⟨by simp [plan], by simp [plan]⟩ trivial (src_in 8 rfl rfl (by simp) rfl (fun v w h => h))
    intro L vs w29 hL hG
    have e8 : vs 8 = .int .i64 0 := hG.val 8 (hL 8 (by simp))
    obtain ⟨b29_9, e9, _, x9⟩ := hG.new (9, 11, ((x * z) / y)) (by simp [plan]) (hL 9 (by simp))
    have x9' : BoxNum w29 b29_9 ((x * z) / y) := by have h := x9; simp only [hL 11 (by simp), if_true] at h; exact h
    obtain ⟨b29_10, e10, _, x10⟩ := hG.new (10, 12, ((x * z) % y)) (by simp [plan]) (hL 10 (by simp))
    have x10' : BoxNum w29 b29_10 ((x * z) % y) := by have h := x10; simp only [hL 12 (by simp), if_true] at h; exact h
    have e13 : vs 13 = .int .i64 0 := hG.val 13 (hL 13 (by simp))
    have hb := hG.below
    replace E := E.mono hb
    replace E := E.push x9'
    replace E := E.push x10'
    rw [lay_all hL]
    simp only [putAll, dstOf, List.length_cons, List.length_nil, Nat.zero_add, Nat.reduceAdd, List.getElem?_toArray, List.getElem?_cons_zero, List.getElem?_cons_succ, Option.bind_some, Act.put, List.setIfInBounds_toArray, List.set_cons_succ, List.set_cons_zero]
    rw [e8, e9, e10, e13]
    generalize vs 0 = u29_0
    generalize vs 1 = u29_1
    generalize vs 2 = u29_2
    generalize vs 3 = u29_3
    generalize vs 4 = u29_4
    generalize vs 5 = u29_5
    generalize vs 6 = u29_6
    generalize vs 7 = u29_7
    clear hb hG hp hL vs L e8 e9 e10 e13 x9 x10 x9' x10' X3_0 X7_0 X5_0
    go_wp2
    have B30 : Hid (ab (((x % y) * (z % y))) < pw 24) := ab_mulM B11.out B15.out (by omega)
    have B31 : Hid (ab ((((x % y) * (z % y)) / y)) < pw 25) := ab_divB B30.out (by omega)
    have B32 : Hid (ab ((((x % y) * (z % y)) % y)) < pw 12) := ab_modB Hy.out By.out
    have X13_1 := E.bs.2.2.2.2.2.2.2.2.1
    have X17_1 := E.bs.2.2.2.2.2.2.1
    have X5_0 := E.bs.2.2.2.2.2.2.2.2.2.2.2.1
    have hp : (plan [Fc.num (x % y), Fc.num (z % y), Fc.num ((x % y) * (z % y)), Fc.num y, Fc.tup (((x % y) * (z % y)) / y) (((x % y) * (z % y)) % y), Fc.tup (((x % y) * (z % y)) / y) (((x % y) * (z % y)) % y), Fc.num (((x % y) * (z % y)) / y), Fc.num (((x % y) * (z % y)) % y), Fc.is (.int .i64 0), Fc.any, Fc.any, Fc.any, Fc.any, Fc.is (.int .i64 0)] [] [(9, 11, (((x % y) * (z % y)) / y)), (10, 12, (((x % y) * (z % y)) % y))]).Ok w29.heap.size w29.heap.size := plan_ok (by simp) (by simp) (by simp) (by omega)
    refine region_steps (p := (plan [Fc.num (x % y), Fc.num (z % y), Fc.num ((x % y) * (z % y)), Fc.num y, Fc.tup (((x % y) * (z % y)) / y) (((x % y) * (z % y)) % y), Fc.tup (((x % y) * (z % y)) / y) (((x % y) * (z % y)) % y), Fc.num (((x % y) * (z % y)) / y), Fc.num (((x % y) * (z % y)) % y), Fc.is (.int .i64 0), Fc.any, Fc.any, Fc.any, Fc.any, Fc.is (.int .i64 0)] [] [(9, 11, (((x % y) * (z % y)) / y)), (10, 12, (((x % y) * (z % y)) % y))])) (B := w29.heap.size) (B0 := w29.heap.size) (w0 := w29) (by kernel_rfl) rfl rfl (plan_start (by simp) (Below.refl _ _)) ⟨?_, ?_, ?_, ?_, ?_, ?_, ?_, ?_, ?_, ?_, ?_, ?_, ?_, ?_, trivial⟩ ?_
    · exact g_load (z := (x % y)) hp ⟨by simp [plan], by simp [plan]⟩ trivial (src_out rfl rfl (fun w h => ⟨rfl, X13_1.mono h⟩)) (fun v w h => h)
    · exact g_load (z := (z % y)) hp ⟨by simp [plan], by simp [plan]⟩ trivial (src_out rfl rfl (fun w h => ⟨rfl, X17_1.mono h⟩)) (fun v w h => h)
    · exact g_call2 (F := (Fc.num (x % y)).P) (G := (Fc.num (z % y)).P) hp ⟨by simp [plan], by simp [plan]⟩ trivial enter_Mul (src_in 0 rfl rfl (by simp) rfl (fun v w h => h)) (src_in 1 rfl rfl (by simp) rfl (fun v w h => h)) (fun v v' w h h' => exK (MulV h h') B30.out (by omega))
    · exact g_load (z := y) hp ⟨by simp [plan], by simp [plan]⟩ trivial (src_out rfl rfl (fun w h => ⟨rfl, X5_0.mono h⟩)) (fun v w h => h)
    · exact g_call2 (F := (Fc.num ((x % y) * (z % y))).P) (G := (Fc.num y).P) hp ⟨by simp [plan], by simp [plan]⟩ trivial enter_DivMod' (src_in 2 rfl rfl (by simp) rfl (fun v w h => h)) (src_in 3 rfl rfl (by simp) rfl (fun v w h => h)) (fun v v' w h h' => exDT h h' Hy.out B31.out B32.out (by omega) (by omega))
    · exact g_move hp ⟨by simp [plan], by simp [plan]⟩ trivial (src_in 4 rfl rfl (by simp) rfl (fun v w h => h))
    · exact g_extract hp ⟨by simp [plan], by simp [plan]⟩ trivial (src_in 5 rfl rfl (by simp) rfl (fun v w h => by obtain ⟨v1, v2, e, h1, h2⟩ := h; exact ⟨_, v1, e, rfl, h1⟩))
    · exact g_extract hp ⟨by simp [plan], by simp [plan]⟩ trivial (src_in 5 rfl rfl (by simp) rfl (fun v w h => by obtain ⟨v1, v2, e, h1, h2⟩ := h; exact ⟨_, v2, e, rfl, h2⟩))
    · exact g_extract hp ⟨by simp [plan], by simp [plan]⟩ trivial (src_in 5 rfl rfl (by simp) rfl (fun v w h => by obtain ⟨v1, v2, e, h1, h2⟩ := h; exact ⟨_, _, e, rfl, rfl⟩))
    · exact st_alloc (k := 11) (z := (((x % y) * (z % y)) / y)) hp (by simp [plan]) rfl (fun _ _ => trivial) (by simp [plan]) (by simp [plan])
    · exact st_alloc (k := 12) (z := (((x % y) * (z % y)) % y)) hp (by simp [plan]) rfl (fun _ _ => trivial) (by simp [plan]) (by simp [plan])
    · exact st_storeNew (i0 := 9) (j := 6) (z := (((x % y) * (z % y)) / y)) hp rfl (by simp [plan]) rfl (by simp) rfl rfl (by simp) rfl (fun v w h => h) (fun _ _ => trivial) (by simp [plan]) (by simp [plan])
    · exact st_storeNew (i0 := 10) (j := 7) (z := (((x % y) * (z % y)) % y)) hp rfl (by simp [plan]) rfl (by simp) rfl rfl (by simp) rfl (fun v w h => h) (fun _ _ => trivial) (by simp [plan]) (by simp [plan])
    · exact g_assign hp ⟨by simp [plan], by simp [plan]⟩ trivial (src_in 8 rfl rfl (by simp) rfl (fun v w h => h))
    intro L vs w33 hL hG
    have e8 : vs 8 = .int .i64 0 := hG.val 8 (hL 8 (by simp))
    obtain ⟨b33_9, e9, _, x9⟩ := hG.new (9, 11, (((x % y) * (z % y)) / y)) (by simp [plan]) (hL 9 (by simp))
    have x9' : BoxNum w33 b33_9 (((x % y) * (z % y)) / y) := by have h := x9; simp only [hL 11 (by simp), if_true] at h; exact h
    obtain ⟨b33_10, e10, _, x10⟩ := hG.new (10, 12, (((x % y) * (z % y)) % y)) (by simp [plan]) (hL 10 (by simp))
    have x10' : BoxNum w33 b33_10 (((x % y) * (z % y)) % y) := by have h := x10; simp only [hL 12 (by simp), if_true] at h; exact h
    have e13 : vs 13 = .int .i64 0 := hG.val 13 (hL 13 (by simp))
    have hb := hG.below
    replace E := E.mono hb
    replace E := E.push x9'
    replace E := E.push x10'
    rw [lay_all hL]
    simp only [putAll, dstOf, List.length_cons, List.length_nil, Nat.zero_add, Nat.reduceAdd, List.getElem?_toArray, List.getElem?_cons_zero, List.getElem?_cons_succ, Option.bind_some, Act.put, List.setIfInBounds_toArray, List.set_cons_succ, List.set_cons_zero]
    rw [e8, e9, e10, e13]
    generalize vs 0 = u33_0
    generalize vs 1 = u33_1
    generalize vs 2 = u33_2
    generalize vs 3 = u33_3
    generalize vs 4 = u33_4
    generalize vs 5 = u33_5
    generalize vs 6 = u33_6
    generalize vs 7 = u33_7
    clear hb hG hp hL vs L e8 e9 e10 e13 x9 x10 x9' x10' X13_1 X17_1 X5_0
    go_wp2
    have B34 : Hid (ab ((x * y)) < pw 24) := ab_mulM Bx.out By.out (by omega)
    have B35 : Hid (ab (((x * y) / y)) < pw 25) := ab_divB B34.out (by omega)
    have B36 : Hid (ab (((x * y) % y)) < pw 12) := ab_modB Hy.out By.out
    have X3_0 := E.bs.2.2.2.2.2.2.2.2.2.2.2.2.2.2.1
    have X5_0 := E.bs.2.2.2.2.2.2.2.2.2.2.2.2.2.1
    have hp : (plan [Fc.num x, Fc.num y, Fc.num (x * y), Fc.num y, Fc.tup ((x * y) / y) ((x * y) % y), Fc.tup ((x * y) / y) ((x * y) % y), Fc.num ((x * y) / y), Fc.num ((x * y) % y), Fc.is (.int .i64 0), Fc.any, Fc.any, Fc.any, Fc.any, Fc.is (.int .i64 0)] [] [(9, 11, ((x * y) / y)), (10, 12, ((x * y) % y))]).Ok w33.heap.size w33.heap.size := plan_ok (by simp) (by simp) (by simp) (by omega)
    refine region_steps (p := (plan [Fc.num x, Fc.num y, Fc.num (x * y), Fc.num y, Fc.tup ((x * y) / y) ((x * y) % y), Fc.tup ((x * y) / y) ((x * y) % y), Fc.num ((x * y) / y), Fc.num ((x * y) % y), Fc.is (.int .i64 0), Fc.any, Fc.any, Fc.any, Fc.any, Fc.is (.int .i64 0)] [] [(9, 11, ((x * y) / y)), (10, 12, ((x * y) % y))])) (B := w33.heap.size) (B0 := w33.heap.size) (w0 := w33) (by kernel_rfl) rfl rfl (plan_start (by simp) (Below.refl _ _)) ⟨?_, ?_, ?_, ?_, ?_, ?_, ?_, ?_, ?_, ?_, ?_, ?_, ?_, ?_, trivial⟩ ?_
    · exact g_load (z := x) hp ⟨by simp [plan], by simp [plan]⟩ trivial (src_out rfl rfl (fun w h => ⟨rfl, X3_0.mono h⟩)) (fun v w h => h)
    · exact g_load (z := y) hp ⟨by simp [plan], by simp [plan]⟩ trivial (src_out rfl rfl (fun w h => ⟨rfl, X5_0.mono h⟩)) (fun v w h => h)
    · exact g_call2 (F := (Fc.num x).P) (G := (Fc.num y).P) hp ⟨by simp [plan], by simp [plan]⟩ trivial enter_Mul (src_in 0 rfl rfl (by simp) rfl (fun v w h => h)) (src_in 1 rfl rfl (by simp) rfl (fun v w h => h)) (fun v v' w h h' => exK (MulV h h') B34.out (by omega))
    · exact g_load (z := y) hp ⟨by simp [plan], by simp [plan]⟩ trivial (src_out rfl rfl (fun w h => ⟨rfl, X5_0.mono h⟩)) (fun v w h => h)
    · exact g_call2 (F := (Fc.num (x * y)).P) (G := (Fc.num y).P) hp ⟨by simp [plan], by simp [plan]⟩ trivial enter_DivMod' (src_in 2 rfl rfl (by simp) rfl (fun v w h => h)) (src_in 3 rfl rfl (by simp) rfl (fun v w h => h)) (fun v v' w h h' => exDT h h' Hy.out B35.out B36.out (by omega) (by omega))
    · exact g_move hp ⟨by simp [plan], by simp [plan]⟩ trivial (src_in 4 rfl rfl (by simp) rfl (fun v w h => h))
    · exact g_extract hp ⟨by simp [plan], by simp [plan]⟩ trivial (src_in 5 rfl rfl (by simp) rfl (fun v w h => by obtain ⟨v1, v2, e, h1, h2⟩ := h; exact ⟨_, v1, e, rfl, h1⟩))
    · exact g_extract hp ⟨by simp [plan], by simp [plan]⟩ trivial (src_in 5 rfl rfl (by simp) rfl (fun v w h => by obtain ⟨v1, v2, e, h1, h2⟩ := h; exact ⟨_, v2, e, rfl, h2⟩))
    · exact g_extract hp ⟨by simp [plan], by simp [plan]⟩ trivial (src_in 5 rfl rfl (by simp) rfl (fun v w h => by obtain ⟨v1, v2, e, h1, h2⟩ := h; exact ⟨_, _, e, rfl, rfl⟩))
    · exact st_alloc (k := 11) (z := ((x * y) / y)) hp (by simp [plan]) rfl (fun _ _ => trivial) (by simp [plan]) (by simp [plan])
    · exact st_alloc (k := 12) (z := ((x * y) % y)) hp (by simp [plan]) rfl (fun _ _ => trivial) (by simp [plan]) (by simp [plan])
    · exact st_storeNew (i0 := 9) (j := 6) (z := ((x * y) / y)) hp rfl (by simp [plan]) rfl (by simp) rfl rfl (by simp) rfl (fun v w h => h) (fun _ _ => trivial) (by simp [plan]) (by simp [plan])
    · exact st_storeNew (i0 := 10) (j := 7) (z := ((x * y) % y)) hp rfl (by simp [plan]) rfl (by simp) rfl rfl (by simp) rfl (fun v w h => h) (fun _ _ => trivial) (by simp [plan]) (by simp [plan])
    · exact g_assign hp ⟨by simp [plan], by simp [plan]⟩ trivial (src_in 8 rfl rfl (by simp) rfl (fun v w h => h))
    intro L vs w37 hL hG
    have e8 : vs 8 = .int .i64 0 := hG.val 8 (hL 8 (by simp))
    obtain ⟨b37_9, e9, _, x9⟩ := hG.new (9, 11, ((x * y) / y)) (by simp [plan]) (hL 9 (by simp))
    have x9' : BoxNum w37 b37_9 ((x * y) / y) := by have h := x9; simp only [hL 11 (by simp), if_true] at h; exact h
    obtain ⟨b37_10, e10, _, x10⟩ := hG.new (10, 12, ((x * y) % y)) (by simp [plan]) (hL 10 (by simp))
    have x10' : BoxNum w37 b37_10 ((x * y) % y) := by have h := x10; simp only [hL 12 (by simp), if_true] at h; exact h
    have e13 : vs 13 = .int .i64 0 := hG.val 13 (hL 13 (by simp))
    have hb := hG.below
    replace E := E.mono hb
    replace E := E.push x9'
    replace E := E.push x10'
    rw [lay_all hL]
    simp only [putAll, dstOf, List.length_cons, List.length_nil, Nat.zero_add, Nat.reduceAdd, List.getElem?_toArray, List.getElem?_cons_zero, List.getElem?_cons_succ, Option.bind_some, Act.put, List.setIfInBounds_toArray, List.set_cons_succ, List.set_cons_zero]
    rw [e8, e9, e10, e13]
    generalize vs 0 = u37_0
    generalize vs 1 = u37_1
    generalize vs 2 = u37_2
    generalize vs 3 = u37_3
    generalize vs 4 = u37_4
    generalize vs 5 = u37_5
    generalize vs 6 = u37_6
    generalize vs 7 = u37_7
    clear hb hG hp hL vs L e8 e9 e10 e13 x9 x10 x9' x10' X3_0 X5_0
    go_wp2
    have E1 : Hid ((((x / y) * y) + (x % y)) = x) := by have h := Int.mul_ediv_add_emod x y; rw [Int.mul_comm] at h; exact h
    have E2 : Hid (((x + z) % y) = (((x % y) + (z % y)) % y)) := Int.add_emod _ _ _
    have E3 : Hid (((x * z) % y) = (((x % y) * (z % y)) % y)) := Int.mul_emod _ _ _
    have E4 : Hid (((x * y) / y) = x) := Int.mul_ediv_cancel _ Hy.out
    have E5 : Hid (((x * y) % y) = 0) := Int.mul_emod_left _ _
    have T1 : Hid (0 ≤ cmpI (x % y) 0) := by have h := Int.emod_nonneg x Hy.out; show 0 ≤ cmpI _ _; unfold cmpI; split <;> (try split) <;> omega
    have T2 : Hid (cmpI (x % y) (Int.natAbs y : Int) < 0) := by have h := Int.emod_lt x Hy.out; show cmpI _ _ < 0; unfold cmpI; split <;> omega
    have B38 : Hid (ab (((x / y) * y)) < pw 25) := ab_mulM B10.out By.out (by omega)
    have B39 : Hid (ab ((((x / y) * y) + (x % y))) < pw 26) := ab_addB B38.out B11.out (by omega) (by omega)
    have B40 : Hid (ab ((Int.natAbs y : Int)) < pw 12) := ab_absB By.out
    have X13_0 := E.bs.2.2.2.2.2.2.2.2.2.2.2.2.2.1
    have X5_0 := E.bs.2.2.2.2.2.2.2.2.2.2.2.2.2.2.2.1
    have X13_1 := E.bs.2.2.2.2.2.2.2.2.2.2.2.2.1
    have X3_0 := E.bs.2.2.2.2.2.2.2.2.2.2.2.2.2.2.2.2.1
    have X21_10 := E.bs.2.2.2.2.2.2.2.2.1
    have X25_10 := E.bs.2.2.2.2.2.2.1
    have X29_10 := E.bs.2.2.2.2.1
    have X33_10 := E.bs.2.2.1
    have X37_9 := E.bs.2.1
    have X37_10 := E.bs.1
    have hp : (plan [Fc.is (.bool true), Fc.is (.bool true), Fc.num (x / y), Fc.num y, Fc.num ((x / y) * y), Fc.num (x % y), Fc.num (((x / y) * y) + (x % y)), Fc.num x, Fc.is (.bool true), Fc.is (.bool true), Fc.is (.bool true), Fc.num (x % y), Fc.is (.int .i64 (cmpI (x % y) 0)), Fc.is (.bool true), Fc.is (.bool true), Fc.is (.bool true), Fc.num (x % y), Fc.num y, Fc.num (Int.natAbs y : Int), Fc.is (.int .i64 (cmpI (x % y) (Int.natAbs y : Int))), Fc.is (.bool true), Fc.is (.bool true), Fc.is (.bool true), Fc.num ((x + z) % y), Fc.num (((x % y) + (z % y)) % y), Fc.is (.bool true), Fc.is (.bool true), Fc.is (.bool true), Fc.num ((x * z) % y), Fc.num (((x % y) * (z % y)) % y), Fc.is (.bool true), Fc.is (.bool true), Fc.is (.bool true), Fc.num ((x * y) / y), Fc.num x, Fc.is (.bool true), Fc.is (.bool true), Fc.is (.bool true), Fc.is (.pointer (some ⟨b37_10, 1, none⟩)), Fc.pre (MagOf ((x * y) % y)), Fc.pre (LenOf ((x * y) % y)), Fc.is (.bool true), Fc.is (.bool true), Fc.is (.bool true)] [] []).Ok w37.heap.size w37.heap.size := plan_ok (by simp) (by simp) (by simp) (by omega)
    refine region_steps (p := (plan [Fc.is (.bool true), Fc.is (.bool true), Fc.num (x / y), Fc.num y, Fc.num ((x / y) * y), Fc.num (x % y), Fc.num (((x / y) * y) + (x % y)), Fc.num x, Fc.is (.bool true), Fc.is (.bool true), Fc.is (.bool true), Fc.num (x % y), Fc.is (.int .i64 (cmpI (x % y) 0)), Fc.is (.bool true), Fc.is (.bool true), Fc.is (.bool true), Fc.num (x % y), Fc.num y, Fc.num (Int.natAbs y : Int), Fc.is (.int .i64 (cmpI (x % y) (Int.natAbs y : Int))), Fc.is (.bool true), Fc.is (.bool true), Fc.is (.bool true), Fc.num ((x + z) % y), Fc.num (((x % y) + (z % y)) % y), Fc.is (.bool true), Fc.is (.bool true), Fc.is (.bool true), Fc.num ((x * z) % y), Fc.num (((x % y) * (z % y)) % y), Fc.is (.bool true), Fc.is (.bool true), Fc.is (.bool true), Fc.num ((x * y) / y), Fc.num x, Fc.is (.bool true), Fc.is (.bool true), Fc.is (.bool true), Fc.is (.pointer (some ⟨b37_10, 1, none⟩)), Fc.pre (MagOf ((x * y) % y)), Fc.pre (LenOf ((x * y) % y)), Fc.is (.bool true), Fc.is (.bool true), Fc.is (.bool true)] [] [])) (B := w37.heap.size) (B0 := w37.heap.size) (w0 := w37) (by kernel_rfl) rfl rfl (plan_start (by simp) (Below.refl _ _)) ⟨?_, ?_, ?_, ?_, ?_, ?_, ?_, ?_, ?_, ?_, ?_, ?_, ?_, ?_, ?_, ?_, ?_, ?_, ?_, ?_, ?_, ?_, ?_, ?_, ?_, ?_, ?_, ?_, ?_, ?_, ?_, ?_, ?_, ?_, ?_, ?_, ?_, ?_, ?_, ?_, ?_, ?_, ?_, ?_, trivial⟩ ?_
    · exact g_move hp ⟨by simp [plan], by simp [plan]⟩ trivial (src_out rfl rfl (fun _ _ => rfl))
    · exact g_move hp ⟨by simp [plan], by simp [plan]⟩ trivial (src_in 0 rfl rfl (by simp) rfl (fun v w h => h))
    · exact g_load (z := (x / y)) hp ⟨by simp [plan], by simp [plan]⟩ (gd_some rfl rfl (by simp) rfl (fun v w h => h)) (src_out rfl rfl (fun w h => ⟨rfl, X13_0.mono h⟩)) (fun v w h => h)
    · exact g_load (z := y) hp ⟨by simp [plan], by simp [plan]⟩ (gd_some rfl rfl (by simp) rfl (fun v w h => h)) (src_out rfl rfl (fun w h => ⟨rfl, X5_0.mono h⟩)) (fun v w h => h)
    · exact g_call2 (F := (Fc.num (x / y)).P) (G := (Fc.num y).P) hp ⟨by simp [plan], by simp [plan]⟩ (gd_some rfl rfl (by simp) rfl (fun v w h => h)) enter_Mul (src_in 2 rfl rfl (by simp) rfl (fun v w h => h)) (src_in 3 rfl rfl (by simp) rfl (fun v w h => h)) (fun v v' w h h' => exK (MulV h h') B38.out (by omega))
    · exact g_load (z := (x % y)) hp ⟨by simp [plan], by simp [plan]⟩ (gd_some rfl rfl (by simp) rfl (fun v w h => h)) (src_out rfl rfl (fun w h => ⟨rfl, X13_1.mono h⟩)) (fun v w h => h)
    · exact g_call2 (F := (Fc.num ((x / y) * y)).P) (G := (Fc.num (x % y)).P) hp ⟨by simp [plan], by simp [plan]⟩ (gd_some rfl rfl (by simp) rfl (fun v w h => h)) enter_Add' (src_in 4 rfl rfl (by simp) rfl (fun v w h => h)) (src_in 5 rfl rfl (by simp) rfl (fun v w h => h)) (fun v v' w h h' => exK (AddV h h') B39.out (by omega))
    · exact g_load (z := x) hp ⟨by simp [plan], by simp [plan]⟩ (gd_some rfl rfl (by simp) rfl (fun v w h => h)) (src_out rfl rfl (fun w h => ⟨rfl, X3_0.mono h⟩)) (fun v w h => h)
    · exact g_call2 (F := (Fc.num (((x / y) * y) + (x % y))).P) (G := (Fc.num x).P) hp ⟨by simp [plan], by simp [plan]⟩ (gd_some rfl rfl (by simp) rfl (fun v w h => h)) enter_Same (src_in 6 rfl rfl (by simp) rfl (fun v w h => h)) (src_in 7 rfl rfl (by simp) rfl (fun v w h => h)) (fun v v' w h h' => exSame h h' E1.out)
    · exact g_pick hp ⟨by simp [plan], by simp [plan]⟩ trivial (src_in 1 rfl rfl (by simp) rfl (fun v w h => h)) (src_in 8 rfl rfl (by simp) rfl (fun v w h => h))
    · exact g_move hp ⟨by simp [plan], by simp [plan]⟩ trivial (src_in 9 rfl rfl (by simp) rfl (fun v w h => h))
    · exact g_load (z := (x % y)) hp ⟨by simp [plan], by simp [plan]⟩ (gd_some rfl rfl (by simp) rfl (fun v w h => h)) (src_out rfl rfl (fun w h => ⟨rfl, X13_1.mono h⟩)) (fun v w h => h)
    · exact g_call1 (F := (Fc.num (x % y)).P) hp ⟨by simp [plan], by simp [plan]⟩ (gd_some rfl rfl (by simp) rfl (fun v w h => h)) enter_Sign (src_in 11 rfl rfl (by simp) rfl (fun v w h => h)) (fun v w h => exSign h)
    · exact g_one (F := fun v _ => v = .int .i64 (cmpI (x % y) 0)) hp ⟨by simp [plan], by simp [plan]⟩ (gd_some rfl rfl (by simp) rfl (fun v w h => h)) (src_in 12 rfl rfl (by simp) rfl (fun v w h => h)) (fun ρ w hc h => ⟨.bool true, by simp [execOp, go_sem, h, hc, T1.out], rfl⟩)
    · exact g_pick hp ⟨by simp [plan], by simp [plan]⟩ trivial (src_in 10 rfl rfl (by simp) rfl (fun v w h => h)) (src_in 13 rfl rfl (by simp) rfl (fun v w h => h))
    · exact g_move hp ⟨by simp [plan], by simp [plan]⟩ trivial (src_in 14 rfl rfl (by simp) rfl (fun v w h => h))
    · exact g_load (z := (x % y)) hp ⟨by simp [plan], by simp [plan]⟩ (gd_some rfl rfl (by simp) rfl (fun v w h => h)) (src_out rfl rfl (fun w h => ⟨rfl, X13_1.mono h⟩)) (fun v w h => h)
    · exact g_load (z := y) hp ⟨by simp [plan], by simp [plan]⟩ (gd_some rfl rfl (by simp) rfl (fun v w h => h)) (src_out rfl rfl (fun w h => ⟨rfl, X5_0.mono h⟩)) (fun v w h => h)
    · exact g_call1 (F := (Fc.num y).P) hp ⟨by simp [plan], by simp [plan]⟩ (gd_some rfl rfl (by simp) rfl (fun v w h => h)) enter_Abs (src_in 17 rfl rfl (by simp) rfl (fun v w h => h)) (fun v w h => exK (AbsV h) B40.out (by omega))
    · exact g_call2 (F := (Fc.num (x % y)).P) (G := (Fc.num (Int.natAbs y : Int)).P) hp ⟨by simp [plan], by simp [plan]⟩ (gd_some rfl rfl (by simp) rfl (fun v w h => h)) enter_Cmp (src_in 16 rfl rfl (by simp) rfl (fun v w h => h)) (src_in 18 rfl rfl (by simp) rfl (fun v w h => h)) (fun v v' w h h' => exCmp h h')
    · exact g_one (F := fun v _ => v = .int .i64 (cmpI (x % y) (Int.natAbs y : Int))) hp ⟨by simp [plan], by simp [plan]⟩ (gd_some rfl rfl (by simp) rfl (fun v w h => h)) (src_in 19 rfl rfl (by simp) rfl (fun v w h => h)) (fun ρ w hc h => ⟨.bool true, by simp [execOp, go_sem, h, hc, T2.out], rfl⟩)
    · exact g_pick hp ⟨by simp [plan], by simp [plan]⟩ trivial (src_in 15 rfl rfl (by simp) rfl (fun v w h => h)) (src_in 20 rfl rfl (by simp) rfl (fun v w h => h))
    · exact g_move hp ⟨by simp [plan], by simp [plan]⟩ trivial (src_in 21 rfl rfl (by simp) rfl (fun v w h => h))
    · exact g_load (z := ((x + z) % y)) hp ⟨by simp [plan], by simp [plan]⟩ (gd_some rfl rfl (by simp) rfl (fun v w h => h)) (src_out rfl rfl (fun w h => ⟨rfl, X21_10.mono h⟩)) (fun v w h => h)
    · exact g_load (z := (((x % y) + (z % y)) % y)) hp ⟨by simp [plan], by simp [plan]⟩ (gd_some rfl rfl (by simp) rfl (fun v w h => h)) (src_out rfl rfl (fun w h => ⟨rfl, X25_10.mono h⟩)) (fun v w h => h)
    · exact g_call2 (F := (Fc.num ((x + z) % y)).P) (G := (Fc.num (((x % y) + (z % y)) % y)).P) hp ⟨by simp [plan], by simp [plan]⟩ (gd_some rfl rfl (by simp) rfl (fun v w h => h)) enter_Same (src_in 23 rfl rfl (by simp) rfl (fun v w h => h)) (src_in 24 rfl rfl (by simp) rfl (fun v w h => h)) (fun v v' w h h' => exSame h h' E2.out)
    · exact g_pick hp ⟨by simp [plan], by simp [plan]⟩ trivial (src_in 22 rfl rfl (by simp) rfl (fun v w h => h)) (src_in 25 rfl rfl (by simp) rfl (fun v w h => h))
    · exact g_move hp ⟨by simp [plan], by simp [plan]⟩ trivial (src_in 26 rfl rfl (by simp) rfl (fun v w h => h))
    · exact g_load (z := ((x * z) % y)) hp ⟨by simp [plan], by simp [plan]⟩ (gd_some rfl rfl (by simp) rfl (fun v w h => h)) (src_out rfl rfl (fun w h => ⟨rfl, X29_10.mono h⟩)) (fun v w h => h)
    · exact g_load (z := (((x % y) * (z % y)) % y)) hp ⟨by simp [plan], by simp [plan]⟩ (gd_some rfl rfl (by simp) rfl (fun v w h => h)) (src_out rfl rfl (fun w h => ⟨rfl, X33_10.mono h⟩)) (fun v w h => h)
    · exact g_call2 (F := (Fc.num ((x * z) % y)).P) (G := (Fc.num (((x % y) * (z % y)) % y)).P) hp ⟨by simp [plan], by simp [plan]⟩ (gd_some rfl rfl (by simp) rfl (fun v w h => h)) enter_Same (src_in 28 rfl rfl (by simp) rfl (fun v w h => h)) (src_in 29 rfl rfl (by simp) rfl (fun v w h => h)) (fun v v' w h h' => exSame h h' E3.out)
    · exact g_pick hp ⟨by simp [plan], by simp [plan]⟩ trivial (src_in 27 rfl rfl (by simp) rfl (fun v w h => h)) (src_in 30 rfl rfl (by simp) rfl (fun v w h => h))
    · exact g_move hp ⟨by simp [plan], by simp [plan]⟩ trivial (src_in 31 rfl rfl (by simp) rfl (fun v w h => h))
    · exact g_load (z := ((x * y) / y)) hp ⟨by simp [plan], by simp [plan]⟩ (gd_some rfl rfl (by simp) rfl (fun v w h => h)) (src_out rfl rfl (fun w h => ⟨rfl, X37_9.mono h⟩)) (fun v w h => h)
    · exact g_load (z := x) hp ⟨by simp [plan], by simp [plan]⟩ (gd_some rfl rfl (by simp) rfl (fun v w h => h)) (src_out rfl rfl (fun w h => ⟨rfl, X3_0.mono h⟩)) (fun v w h => h)
    · exact g_call2 (F := (Fc.num ((x * y) / y)).P) (G := (Fc.num x).P) hp ⟨by simp [plan], by simp [plan]⟩ (gd_some rfl rfl (by simp) rfl (fun v w h => h)) enter_Same (src_in 33 rfl rfl (by simp) rfl (fun v w h => h)) (src_in 34 rfl rfl (by simp) rfl (fun v w h => h)) (fun v v' w h h' => exSame h h' E4.out)
    · exact g_pick hp ⟨by simp [plan], by simp [plan]⟩ trivial (src_in 32 rfl rfl (by simp) rfl (fun v w h => h)) (src_in 35 rfl rfl (by simp) rfl (fun v w h => h))
    · exact g_move hp ⟨by simp [plan], by simp [plan]⟩ trivial (src_in 36 rfl rfl (by simp) rfl (fun v w h => h))
    · exact g_magAddr hp ⟨by simp [plan], by simp [plan]⟩ (gd_some rfl rfl (by simp) rfl (fun v w h => h)) (src_out rfl rfl (fun _ _ => rfl)) (fun _ => rfl)
    · exact g_magLoad (z := ((x * y) % y)) hp ⟨by simp [plan], by simp [plan]⟩ (gd_some rfl rfl (by simp) rfl (fun v w h => h)) (src_in 38 rfl rfl (by simp) rfl (fun v w h => h)) X37_10 rfl (fun v w h => h)
    · exact g_magLen (z := ((x * y) % y)) hp ⟨by simp [plan], by simp [plan]⟩ rfl (gd_some rfl rfl (by simp) rfl (fun v w h => h)) (src_in 39 rfl rfl (by simp) rfl (fun v w h => h)) (fun v w h => h)
    · exact g_lenNone hp ⟨by simp [plan], by simp [plan]⟩ (gd_some rfl rfl (by simp) rfl (fun v w h => h)) (src_in 40 rfl rfl (by simp) rfl (fun v w h => by rw [← E5.out]; exact h)) (fun _ => rfl)
    · exact g_pick hp ⟨by simp [plan], by simp [plan]⟩ trivial (src_in 37 rfl rfl (by simp) rfl (fun v w h => h)) (src_in 41 rfl rfl (by simp) rfl (fun v w h => h))
    · exact g_assign hp ⟨by simp [plan], by simp [plan]⟩ trivial (src_in 42 rfl rfl (by simp) rfl (fun v w h => h))
    intro L vs w41 hL hG
    have e0 : vs 0 = .bool true := hG.val 0 (hL 0 (by simp))
    have e1 : vs 1 = .bool true := hG.val 1 (hL 1 (by simp))
    have e8 : vs 8 = .bool true := hG.val 8 (hL 8 (by simp))
    have e9 : vs 9 = .bool true := hG.val 9 (hL 9 (by simp))
    have e10 : vs 10 = .bool true := hG.val 10 (hL 10 (by simp))
    have e12 : vs 12 = .int .i64 (cmpI (x % y) 0) := hG.val 12 (hL 12 (by simp))
    have e13 : vs 13 = .bool true := hG.val 13 (hL 13 (by simp))
    have e14 : vs 14 = .bool true := hG.val 14 (hL 14 (by simp))
    have e15 : vs 15 = .bool true := hG.val 15 (hL 15 (by simp))
    have e19 : vs 19 = .int .i64 (cmpI (x % y) (Int.natAbs y : Int)) := hG.val 19 (hL 19 (by simp))
    have e20 : vs 20 = .bool true := hG.val 20 (hL 20 (by simp))
    have e21 : vs 21 = .bool true := hG.val 21 (hL 21 (by simp))
    have e22 : vs 22 = .bool true := hG.val 22 (hL 22 (by simp))
    have e25 : vs 25 = .bool true := hG.val 25 (hL 25 (by simp))
    have e26 : vs 26 = .bool true := hG.val 26 (hL 26 (by simp))
    have e27 : vs 27 = .bool true := hG.val 27 (hL 27 (by simp))
    have e30 : vs 30 = .bool true := hG.val 30 (hL 30 (by simp))
    have e31 : vs 31 = .bool true := hG.val 31 (hL 31 (by simp))
    have e32 : vs 32 = .bool true := hG.val 32 (hL 32 (by simp))
    have e35 : vs 35 = .bool true := hG.val 35 (hL 35 (by simp))
    have e36 : vs 36 = .bool true := hG.val 36 (hL 36 (by simp))
    have e37 : vs 37 = .bool true := hG.val 37 (hL 37 (by simp))
    have e41 : vs 41 = .bool true := hG.val 41 (hL 41 (by simp))
    have e42 : vs 42 = .bool true := hG.val 42 (hL 42 (by simp))
    have e43 : vs 43 = .bool true := hG.val 43 (hL 43 (by simp))
    have hb := hG.below
    replace E := E.mono hb
    rw [lay_all hL]
    simp only [putAll, dstOf, List.length_cons, List.length_nil, Nat.zero_add, Nat.reduceAdd, List.getElem?_toArray, List.getElem?_cons_zero, List.getElem?_cons_succ, Option.bind_some, Act.put, List.setIfInBounds_toArray, List.set_cons_succ, List.set_cons_zero]
    rw [e0, e1, e8, e9, e10, e12, e13, e14, e15, e19, e20, e21, e22, e25, e26, e27, e30, e31, e32, e35, e36, e37, e41, e42, e43]
    generalize vs 2 = u41_2
    generalize vs 3 = u41_3
    generalize vs 4 = u41_4
    generalize vs 5 = u41_5
    generalize vs 6 = u41_6
    generalize vs 7 = u41_7
    generalize vs 11 = u41_11
    generalize vs 16 = u41_16
    generalize vs 17 = u41_17
    generalize vs 18 = u41_18
    generalize vs 23 = u41_23
    generalize vs 24 = u41_24
    generalize vs 28 = u41_28
    generalize vs 29 = u41_29
    generalize vs 33 = u41_33
    generalize vs 34 = u41_34
    generalize vs 38 = u41_38
    generalize vs 39 = u41_39
    generalize vs 40 = u41_40
    clear hb hG hp hL vs L e0 e1 e8 e9 e10 e12 e13 e14 e15 e19 e20 e21 e22 e25 e26 e27 e30 e31 e32 e35 e36 e37 e41 e42 e43 X13_0 X5_0 X13_1 X3_0 X21_10 X25_10 X29_10 X33_10 X37_9 X37_10
    go_wp2
    go_ret
    exact ⟨rfl, E.below⟩

end Go.Proofs.Ytplpammfbljaoaa
