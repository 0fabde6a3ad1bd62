/- Walk of the law on sums and products. -/
import Derived.Test.YtplpammfbljaoaaLw
namespace Go.Proofs.Ytplpammfbljaoaa
open Go Go.RowKit

/-- A slice of five integers. -/
def FiveAt (zs : List Int) (g : Nat) (w : World) : Prop :=
  g < w.heap.size ∧ ∀ j, j < 5 → ∃ (n : Bool) (ao : Option Addr) (k c : Nat), w.cell? ⟨g, 2 * j, none⟩ = some (.bool n) ∧ w.cell? ⟨g, 2 * j + 1, none⟩ = some (.slice ao k c) ∧ Num w (.agg #[.bool n, .slice ao k c]) (zs.getD j 0)

theorem FiveAt.mono {zs : List Int} {g : Nat} {w w' : World} (h : FiveAt zs g w) (hb : Below w.heap.size w w') : FiveAt zs g w' := by
  refine ⟨Nat.lt_of_lt_of_le h.1 hb.size, fun j hj => ?_⟩
  obtain ⟨n, ao, k, c, h1, h2, h3⟩ := h.2 j hj
  exact ⟨n, ao, k, c, (hb.cell (p := ⟨g, 2 * j, none⟩) h.1).trans h1, (hb.cell (p := ⟨g, 2 * j + 1, none⟩) h.1).trans h2, h3.mono hb⟩

def Fm.five (zs : List Int) : Fm := ⟨fun v w => ∃ g, v = .slice (some ⟨g, 0, none⟩) 5 5 ∧ FiveAt zs g w, fun ⟨g, e, h⟩ hb => ⟨g, e, h.mono hb⟩⟩

section
variable {os : List Oper} {Q : Exit → Act → World → Prop} {a : Act} {p : Plan} {B B0 : Nat} {w0 : World}
variable {i s : Nat} {d : Option Tmp} {ty : TypeId} {ps : String} {af : Array Edge} {gd : Option (Nat × Bool)}

theorem g_five {z0 z1 z2 z3 z4 : Int} {x0 x1 x2 x3 x4 : Operand} (hp : PMono p B B0) (hF : p.Free i) (hg : Gd os a p B B0 w0 af gd)
    (h0 : Src os a p B B0 w0 af x0 (Fc.num z0).P) (h1 : Src os a p B B0 w0 af x1 (Fc.num z1).P) (h2 : Src os a p B B0 w0 af x2 (Fc.num z2).P) (h3 : Src os a p B B0 w0 af x3 (Fc.num z3).P) (h4 : Src os a p B B0 w0 af x4 (Fc.num z4).P)
    (hC : ∀ v w, (Fm.five [z0, z1, z2, z3, z4]).P v w → p.C i v w) : Step os Q a p B B0 w0 i { dst := d, op := .buildSlice 46 5 #[(0, x0), (1, x1), (2, x2), (3, x3), (4, x4)], type := ty, pos := ps, after := af, guard := gd } := by
  refine stg_run hp hF hg fun L vs w hG hd => ?_
  have n0 : Num w _ z0 := h0 L vs w hG hd
  have n1 : Num w _ z1 := h1 L vs w hG hd
  have n2 : Num w _ z2 := h2 L vs w hG hd
  have n3 : Num w _ z3 := h3 L vs w hG hd
  have n4 : Num w _ z4 := h4 L vs w hG hd
  generalize (lay os.toArray L vs os.toArray.size a).eval = ρ at n0 n1 n2 n3 n4
  obtain ⟨b0, a0, k0, c0, e0⟩ := n0.parts
  obtain ⟨b1, a1, k1, c1, e1⟩ := n1.parts
  obtain ⟨b2, a2, k2, c2, e2⟩ := n2.parts
  obtain ⟨b3, a3, k3, c3, e3⟩ := n3.parts
  obtain ⟨b4, a4, k4, c4, e4⟩ := n4.parts
  rw [e0] at n0
  rw [e1] at n1
  rw [e2] at n2
  rw [e3] at n3
  rw [e4] at n4
  obtain ⟨w', hw'⟩ : ∃ w', w' = w.alloc (.cells #[.bool b0, .slice a0 k0 c0, .bool b1, .slice a1 k1 c1, .bool b2, .slice a2 k2 c2, .bool b3, .slice a3 k3 c3, .bool b4, .slice a4 k4 c4] 27) := ⟨_, rfl⟩
  have hb : Below w.heap.size w w' := by rw [hw']; exact alloc_below _ _
  have hc : ∀ j, w'.cell? ⟨w.heap.size, j, none⟩ = #[Value.bool b0, .slice a0 k0 c0, .bool b1, .slice a1 k1 c1, .bool b2, .slice a2 k2 c2, .bool b3, .slice a3 k3 c3, .bool b4, .slice a4 k4 c4][j]? := fun j => by
    rw [hw']
    exact cell_of_row _ _ _ _ _ _ (heap_alloc_new w _)
  refine ⟨.slice (some ⟨w.heap.size, 0, none⟩) 5 5, w', ?_, hb, hC _ _ ⟨w.heap.size, rfl, ?_, fun j hj => ?_⟩⟩
  · rw [hw']
    simp [execOp, go_sem, e0, e1, e2, e3, e4]
  · rw [hw', World.size_alloc]; omega
  · rw [hc, hc]
    rcases (by omega : j = 0 ∨ j = 1 ∨ j = 2 ∨ j = 3 ∨ j = 4) with rfl | rfl | rfl | rfl | rfl
    · exact ⟨b0, a0, k0, c0, rfl, rfl, n0.mono hb⟩
    · exact ⟨b1, a1, k1, c1, rfl, rfl, n1.mono hb⟩
    · exact ⟨b2, a2, k2, c2, rfl, rfl, n2.mono hb⟩
    · exact ⟨b3, a3, k3, c3, rfl, rfl, n3.mono hb⟩
    · exact ⟨b4, a4, k4, c4, rfl, rfl, n4.mono hb⟩
end

theorem meas {n k : Nat} (h : k < n) : n - (intOf (.int .i64 ((k : Int) + 1))).toNat < n - (intOf (.int .i64 (k : Int))).toNat := by simp [intOf]; omega

theorem cmp_lt {x y : Int} (h : x < y) : cmpI x y = -1 := by unfold cmpI; rw [if_pos h]
theorem cmp_eq {x y : Int} (h : x = y) : cmpI x y = 0 := by subst h; unfold cmpI; rw [if_neg (by omega), if_pos rfl]
theorem cmp_gt {x y : Int} (h : y < x) : cmpI x y = 1 := by unfold cmpI; rw [if_neg (by omega), if_neg (by omega)]
theorem cmp_three (x y : Int) : (x < y ∧ cmpI x y = -1) ∨ (x = y ∧ cmpI x y = 0) ∨ (y < x ∧ cmpI x y = 1) := by
  rcases Int.lt_trichotomy x y with h | h | h
  · exact .inl ⟨h, cmp_lt h⟩
  · exact .inr (.inl ⟨h, cmp_eq h⟩)
  · exact .inr (.inr ⟨h, cmp_gt h⟩)
theorem cmp_neg_wrap (x y : Int) : IntKind.i64.wrap (-(cmpI x y)) = -(cmpI x y) := by
  rcases cmp_three x y with ⟨_, h⟩ | ⟨_, h⟩ | ⟨_, h⟩ <;> rw [h] <;> rfl
theorem cmp_mul_wrap (x y z t : Int) : IntKind.i64.wrap (cmpI x y * cmpI z t) = cmpI x y * cmpI z t := by
  rcases cmp_three x y with ⟨_, h⟩ | ⟨_, h⟩ | ⟨_, h⟩ <;> rcases cmp_three z t with ⟨_, h'⟩ | ⟨_, h'⟩ | ⟨_, h'⟩ <;> rw [h, h'] <;> rfl
theorem cmp_add (x y z : Int) : cmpI x y = cmpI (x + z) (y + z) := by
  rcases cmp_three x y with ⟨h, e⟩ | ⟨h, e⟩ | ⟨h, e⟩ <;> rw [e]
  · exact (cmp_lt (by omega)).symm
  · exact (cmp_eq (by omega)).symm
  · exact (cmp_gt (by omega)).symm
theorem cmp_swap (x y : Int) : cmpI x y = -(cmpI y x) := by
  rcases cmp_three x y with ⟨h, e⟩ | ⟨h, e⟩ | ⟨h, e⟩ <;> rw [e]
  · rw [cmp_gt h]
  · rw [cmp_eq h.symm]; rfl
  · rw [cmp_lt h]; rfl
theorem cmp_sub (x y : Int) : cmpI x y = cmpI (x - y) 0 := by
  rcases cmp_three x y with ⟨h, e⟩ | ⟨h, e⟩ | ⟨h, e⟩ <;> rw [e]
  · exact (cmp_lt (by omega)).symm
  · exact (cmp_eq (by omega)).symm
  · exact (cmp_gt (by omega)).symm
theorem cmp_times (x y z : Int) : cmpI x y * cmpI z 0 = cmpI (x * z) (y * z) := by
  rcases cmp_three z 0 with ⟨hz, e'⟩ | ⟨hz, e'⟩ | ⟨hz, e'⟩ <;> rw [e']
  · rcases cmp_three x y with ⟨h, e⟩ | ⟨h, e⟩ | ⟨h, e⟩ <;> rw [e]
    · exact (cmp_gt (Int.mul_lt_mul_of_neg_right h hz)).symm
    · exact (cmp_eq (by rw [h])).symm
    · exact (cmp_lt (Int.mul_lt_mul_of_neg_right h hz)).symm
  · subst hz
    rw [Int.mul_zero, Int.mul_zero, Int.mul_zero]
    exact (cmp_eq rfl).symm
  · rcases cmp_three x y with ⟨h, e⟩ | ⟨h, e⟩ | ⟨h, e⟩ <;> rw [e]
    · exact (cmp_lt (Int.mul_lt_mul_of_pos_right h hz)).symm
    · exact (cmp_eq (by rw [h])).symm
    · exact (cmp_gt (Int.mul_lt_mul_of_pos_right h hz)).symm
theorem cmp_prod (x y : Int) : cmpI (x * y) 0 = cmpI x 0 * cmpI y 0 := by
  have h := cmp_times x 0 y
  rw [Int.zero_mul] at h
  exact h.symm

theorem valid_canon {neg : Bool} {xs : List Int} (hc : Canon xs) (hn : neg = true → xs.length ≠ 0) : validB neg xs = true := by
  unfold validB
  by_cases h : xs.length = 0
  · rw [if_pos h]
    cases neg with
    | false => rfl
    | true => exact absurd h (hn rfl)
  · rw [if_neg h]
    have h1 : pw (xs.length - 1) ≤ val xs := hc.2.resolve_left h
    have h2 := val_take_succ xs (xs.length - 1)
    rw [show xs.length - 1 + 1 = xs.length by omega, List.take_length] at h2
    have h3 := val_lt (hc.1.take (xs.length - 1))
    rw [List.length_take, Nat.min_eq_left (by omega)] at h3
    simp only [bne_iff_ne, ne_eq]
    intro h0
    rw [h0, Int.mul_zero] at h2
    omega

theorem exValid {w : World} {n : Bool} {ao : Option Addr} {k c : Nat} {z : Int} (h : Num w (.agg #[.bool n, .slice ao k c]) z) : Calls Try.prog 43 #[.agg #[.bool n, .slice ao k c]] w fun e w' => e = .returned (.bool true) ∧ Below w.heap.size w w' := by
  obtain ⟨neg, ao', k', c', xs, hv, hs, hn, hz, hc, hnn⟩ := h
  obtain ⟨rfl, rfl, rfl, rfl⟩ : n = neg ∧ ao = ao' ∧ k = k' ∧ c = c' := by
    simp at hv; exact ⟨hv.1, hv.2.1, hv.2.2.1, hv.2.2.2⟩
  have := Valid_any w n ao k c xs hs (by omega)
  rw [valid_canon hc (by rw [hs.len]; exact hnn)] at this
  exact this

theorem exRValid {w : World} {n : Bool} {ao : Option Addr} {k c : Nat} {z : Int} (h : Num w (.agg #[.bool n, .slice ao k c]) z) : Calls Try.prog 44 #[.agg #[.bool n, .slice ao k c]] w fun e w' => e = .returned (.bool true) ∧ Below w.heap.size w w' := by
  obtain ⟨neg, ao', k', c', xs, hv, hs, hn, hz, hc, hnn⟩ := h
  obtain ⟨rfl, rfl, rfl, rfl⟩ : n = neg ∧ ao = ao' ∧ k = k' ∧ c = c' := by
    simp at hv; exact ⟨hv.1, hv.2.1, hv.2.2.1, hv.2.2.2⟩
  have := rValid_any w n ao k c xs hs (by omega)
  rw [valid_canon hc (by rw [hs.len]; exact hnn)] at this
  exact this

set_option maxRecDepth 100000 in
set_option maxHeartbeats 16000000 in
theorem IntegerRing_any (w : World) (n1 : Bool) (a1 : Option Addr) (k1 c1 : Nat) (xs1 : List Int) (h1 : Sl w a1 k1 c1 xs1) (hk1 : k1 ≤ 9223372036854775807) (n2 : Bool) (a2 : Option Addr) (k2 c2 : Nat) (xs2 : List Int) (h2 : Sl w a2 k2 c2 xs2) (hk2 : k2 ≤ 9223372036854775807) (n3 : Bool) (a3 : Option Addr) (k3 c3 : Nat) (xs3 : List Int) (h3 : Sl w a3 k3 c3 xs3) (hk3 : k3 ≤ 9223372036854775807) :
    Calls Try.prog 5 #[.agg #[.bool n1, .slice a1 k1 c1], .agg #[.bool n2, .slice a2 k2 c2], .agg #[.bool n3, .slice a3 k3 c3]] w fun e w' => e = .returned (.bool true) ∧ Below w.heap.size w w' := by
  obtain ⟨x, hx⟩ : ∃ x, x = sgn n1 (val (xs1.take 12)) := ⟨_, rfl⟩
  have Bx : Hid (ab x < pw 12) := by rw [hx]; exact Num.ofMade h1.digs
  have Hx := hidd hx
  clear hx
  obtain ⟨y, hy⟩ : ∃ y, y = sgn n2 (val (xs2.take 12)) := ⟨_, rfl⟩
  have By : Hid (ab y < pw 12) := by rw [hy]; exact Num.ofMade h2.digs
  have Hy := hidd hy
  clear hy
  obtain ⟨z, hz⟩ : ∃ z, z = sgn n3 (val (xs3.take 12)) := ⟨_, rfl⟩
  have Bz : Hid (ab z < pw 12) := by rw [hz]; exact Num.ofMade h3.digs
  have Hz := hidd hz
  clear hz
  go_enter Try.func5, Try.ntmps5
  go_upto_region 1 with (fail)
  obtain ⟨w0, hw0, E⟩ := raw_boxes3 w (n1 := n1) (n2 := n2) (n3 := n3) h1 h2 h3 24
  rw [← hw0]
  clear hw0
  go_wp2_with fail
  refine (examples_any _).mono ?_
  rintro e w1 ⟨rfl, hb⟩
  replace E := E.mono hb
  clear hb
  obtain ⟨⟨d0, d1, d2, d3⟩, hS⟩ := E.raws.1
  go_wp2_with fail
  refine (exKP (z := x) (by rw [Hx.out]; exact Made_any _ _ _ _ _ _ hS hk1 12 (by omega)) Bx.out (by omega)).mono ?_
  rintro e w2 ⟨n2', ao2, kk2, c2', rfl, hb, hN2⟩
  replace E := E.mono hb
  clear hb
  clear d0 d1 d2 d3 hS
  go_upto_region 5 with (fail)
  obtain ⟨w3, hw3, hb, p3_0⟩ := boxOne hN2 27
  rw [← hw3]
  clear hw3
  replace E := E.mono hb
  replace E := E.push p3_0
  clear hb p3_0
  obtain ⟨⟨d0, d1, d2, d3⟩, hS⟩ := E.raws.2.1
  go_wp2_with fail
  refine (exKP (z := y) (by rw [Hy.out]; exact Made_any _ _ _ _ _ _ hS hk2 12 (by omega)) By.out (by omega)).mono ?_
  rintro e w4 ⟨n4', ao4, kk4, c4', rfl, hb, hN4⟩
  replace E := E.mono hb
  clear hb
  clear d0 d1 d2 d3 hS
  go_upto_region 6 with (fail)
  obtain ⟨w5, hw5, hb, p5_0⟩ := boxOne hN4 27
  rw [← hw5]
  clear hw5
  replace E := E.mono hb
  replace E := E.push p5_0
  clear hb p5_0
  obtain ⟨⟨d0, d1, d2, d3⟩, hS⟩ := E.raws.2.2.1
  go_wp2_with fail
  refine (exKP (z := z) (by rw [Hz.out]; exact Made_any _ _ _ _ _ _ hS hk3 12 (by omega)) Bz.out (by omega)).mono ?_
  rintro e w6 ⟨n6', ao6, kk6, c6', rfl, hb, hN6⟩
  replace E := E.mono hb
  clear hb
  clear d0 d1 d2 d3 hS
  go_upto_region 7 with (fail)
  obtain ⟨w7, hw7, hb, p7_0⟩ := boxOne hN6 27
  rw [← hw7]
  clear hw7
  replace E := E.mono hb
  replace E := E.push p7_0
  clear hb p7_0
  have B8 : Hid (ab ((x + y)) < pw 13) := ab_addB Bx.out By.out (by omega) (by omega)
  have B9 : Hid (ab ((x * y)) < pw 24) := ab_mulM Bx.out By.out (by omega)
  obtain ⟨nd, aod, kkd, ccd, ⟨d0, d1, d2, d3⟩, hNd⟩ := E.bs.2.2.1
  obtain ⟨nf, aof, kkf, ccf, ⟨f0, f1, f2, f3⟩, hNf⟩ := E.bs.2.1
  go_wp2_with fail
  refine (exKP (AddV hNd hNf) B8.out (by omega)).mono ?_
  rintro e w10 ⟨n10', ao10, kk10, c10', rfl, hb, hN10⟩
  replace E := E.mono hb
  clear hb
  clear d0 d1 d2 d3 hNd f0 f1 f2 f3 hNf
  go_upto_region 8 with (fail)
  obtain ⟨w11, hw11, hb, p11_0⟩ := boxOne hN10 27
  rw [← hw11]
  clear hw11
  replace E := E.mono hb
  replace E := E.push p11_0
  clear hb p11_0
  obtain ⟨nd, aod, kkd, ccd, ⟨d0, d1, d2, d3⟩, hNd⟩ := E.bs.2.2.2.1
  obtain ⟨nf, aof, kkf, ccf, ⟨f0, f1, f2, f3⟩, hNf⟩ := E.bs.2.2.1
  go_wp2_with fail
  refine (exKP (MulV hNd hNf) B9.out (by omega)).mono ?_
  rintro e w12 ⟨n12', ao12, kk12, c12', rfl, hb, hN12⟩
  replace E := E.mono hb
  clear hb
  clear d0 d1 d2 d3 hNd f0 f1 f2 f3 hNf
  go_upto_region 9 with (fail)
  obtain ⟨w13, hw13, hb, p13_0⟩ := boxOne hN12 27
  rw [← hw13]
  clear hw13
  replace E := E.mono hb
  replace E := E.push p13_0
  clear hb p13_0
  have B14 : Hid (ab ((x - y)) < pw 13) := ab_subB Bx.out By.out (by omega) (by omega)
  have B15 : Hid (ab ((-x)) < pw 12) := ab_negB Bx.out
  have B16 : Hid (ab ((Int.natAbs x : Int)) < pw 12) := ab_absB Bx.out
  have X11_0 := E.bs.2.1
  have X13_0 := E.bs.1
  have X3_0 := E.bs.2.2.2.2.1
  have X5_0 := E.bs.2.2.2.1
  have hm := planM_ok [(Fm.of (Fc.num (x + y))), (Fm.of (Fc.num (x * y))), (Fm.of (Fc.num x)), (Fm.of (Fc.num y)), (Fm.of (Fc.num (x - y))), (Fm.of (Fc.num x)), (Fm.of (Fc.num (-x))), (Fm.of (Fc.num x)), (Fm.of (Fc.num (Int.natAbs x : Int))), (Fm.five [(x + y), (x * y), (x - y), (-x), (Int.natAbs x : Int)]), (Fm.five [(x + y), (x * y), (x - y), (-x), (Int.natAbs x : Int)])] w13.heap.size
  refine region_steps (p := (planM [(Fm.of (Fc.num (x + y))), (Fm.of (Fc.num (x * y))), (Fm.of (Fc.num x)), (Fm.of (Fc.num y)), (Fm.of (Fc.num (x - y))), (Fm.of (Fc.num x)), (Fm.of (Fc.num (-x))), (Fm.of (Fc.num x)), (Fm.of (Fc.num (Int.natAbs x : Int))), (Fm.five [(x + y), (x * y), (x - y), (-x), (Int.natAbs x : Int)]), (Fm.five [(x + y), (x * y), (x - y), (-x), (Int.natAbs x : Int)])])) (B := w13.heap.size) (B0 := w13.heap.size) (w0 := w13) (by kernel_rfl) rfl rfl (planM_start _ _) ⟨?_, ?_, ?_, ?_, ?_, ?_, ?_, ?_, ?_, ?_, ?_, trivial⟩ ?_
  · exact g_load (z := (x + y)) hm ⟨by simp [planM], by simp [planM]⟩ trivial (src_out rfl rfl (fun w h => ⟨rfl, X11_0.mono h⟩)) (fun v w h => h)
  · exact g_load (z := (x * y)) hm ⟨by simp [planM], by simp [planM]⟩ trivial (src_out rfl rfl (fun w h => ⟨rfl, X13_0.mono h⟩)) (fun v w h => h)
  · exact g_load (z := x) hm ⟨by simp [planM], by simp [planM]⟩ trivial (src_out rfl rfl (fun w h => ⟨rfl, X3_0.mono h⟩)) (fun v w h => h)
  · exact g_load (z := y) hm ⟨by simp [planM], by simp [planM]⟩ trivial (src_out rfl rfl (fun w h => ⟨rfl, X5_0.mono h⟩)) (fun v w h => h)
  · exact g_call2 (F := (Fc.num x).P) (G := (Fc.num y).P) hm ⟨by simp [planM], by simp [planM]⟩ trivial enter_Sub (src_in 2 rfl rfl (by simp) rfl (fun v w h => h)) (src_in 3 rfl rfl (by simp) rfl (fun v w h => h)) (fun v v' w h h' => exK (SubV h h') B14.out (by omega))
  · exact g_load (z := x) hm ⟨by simp [planM], by simp [planM]⟩ trivial (src_out rfl rfl (fun w h => ⟨rfl, X3_0.mono h⟩)) (fun v w h => h)
  · exact g_call1 (F := (Fc.num x).P) hm ⟨by simp [planM], by simp [planM]⟩ trivial enter_Neg (src_in 5 rfl rfl (by simp) rfl (fun v w h => h)) (fun v w h => exK (NegV h) B15.out (by omega))
  · exact g_load (z := x) hm ⟨by simp [planM], by simp [planM]⟩ trivial (src_out rfl rfl (fun w h => ⟨rfl, X3_0.mono h⟩)) (fun v w h => h)
  · exact g_call1 (F := (Fc.num x).P) hm ⟨by simp [planM], by simp [planM]⟩ trivial enter_Abs (src_in 7 rfl rfl (by simp) rfl (fun v w h => h)) (fun v w h => exK (AbsV h) B16.out (by omega))
  · exact g_five (z0 := (x + y)) (z1 := (x * y)) (z2 := (x - y)) (z3 := (-x)) (z4 := (Int.natAbs x : Int)) hm ⟨by simp [planM], by simp [planM]⟩ trivial (src_in 0 rfl rfl (by simp) rfl (fun v w h => h)) (src_in 1 rfl rfl (by simp) rfl (fun v w h => h)) (src_in 4 rfl rfl (by simp) rfl (fun v w h => h)) (src_in 6 rfl rfl (by simp) rfl (fun v w h => h)) (src_in 8 rfl rfl (by simp) rfl (fun v w h => h)) (fun v w h => h)
  · exact g_assign hm ⟨by simp [planM], by simp [planM]⟩ trivial (src_in 9 rfl rfl (by simp) rfl (fun v w h => h))
  intro L vs w17 hL hG
  obtain ⟨g17, e10, h5⟩ : ∃ g, vs 10 = .slice (some ⟨g, 0, none⟩) 5 5 ∧ FiveAt [(x + y), (x * y), (x - y), (-x), (Int.natAbs x : Int)] g w17 := hG.val 10 (hL 10 (by simp))
  have hb := hG.below
  replace E := E.mono hb
  rw [lay_all hL]
  simp only [putAll, dstOf, List.length_cons, List.length_nil, Nat.zero_add, Nat.reduceAdd, List.getElem?_toArray, List.getElem?_cons_zero, List.getElem?_cons_succ, Option.bind_some, Act.put, List.setIfInBounds_toArray, List.set_cons_succ, List.set_cons_zero]
  rw [e10]
  generalize vs 0 = u17_0
  generalize vs 1 = u17_1
  generalize vs 2 = u17_2
  generalize vs 3 = u17_3
  generalize vs 4 = u17_4
  generalize vs 5 = u17_5
  generalize vs 6 = u17_6
  generalize vs 7 = u17_7
  generalize vs 8 = u17_8
  generalize vs 9 = u17_9
  clear hb hG hm hL vs L e10 X11_0 X13_0 X3_0 X5_0
  go_wp2
  go_loopw [14] (fun i W => ∃ k : Nat, k ≤ 5 ∧ i = .int .i64 k ∧ Below w17.heap.size w17 W) (fun i _ => 5 - (intOf i).toNat)
  case atStart => exact ⟨0, by omega, rfl, Below.refl _ _⟩
  case round =>
    obtain ⟨k, hk, rfl, hB⟩ := hrel
    by_cases h0 : k < 5
    · obtain ⟨nd, aod, kkd, ccd, d0, d1, hNd⟩ := (h5.mono hB).2 k h0
      have hkk : ((k : Int) < 5) = True := by simp; omega
      have hw : wrap64 ((k : Int) + 1) = (k : Int) + 1 := by simp only [wrap64]; omega
      have H0 := hidd h0
      clear h0 hk
      rw [Nat.mul_comm] at d0 d1
      go_wp2_with fail
      refine (exValid hNd).mono ?_
      rintro e wa ⟨rfl, hb⟩
      replace d0 := (hb.cell (p := ⟨_, k * 2, none⟩) (World.block_lt_of_cell? _ _ d0)).trans d0
      replace d1 := (hb.cell (p := ⟨_, k * 2 + 1, none⟩) (World.block_lt_of_cell? _ _ d1)).trans d1
      replace hNd := hNd.mono hb
      replace hB := hB.trans (hb.mono hB.size)
      clear hb
      go_wp2_with fail
      refine (exRValid hNd).mono ?_
      rintro e wb ⟨rfl, hb⟩
      replace hB := hB.trans (hb.mono hB.size)
      clear hb
      go_wp2
      go_roundw
      case rel => exact ⟨k + 1, by have := H0.out; omega, by first | go_num | (rw [hw]; go_num), hB⟩
      case measure => first | exact meas H0.out | (rw [hw]; exact meas H0.out)
    · obtain rfl : k = 5 := by omega
      replace E := E.mono hB
      clear hB h5
      go_wp2
      have E1 : Hid ((x + y) = (y + x)) := Int.add_comm _ _
      have E2 : Hid ((x * y) = (y * x)) := Int.mul_comm _ _
      have E3 : Hid (((x + y) + z) = (x + (y + z))) := Int.add_assoc _ _ _
      have E4 : Hid (((x * y) * z) = (x * (y * z))) := Int.mul_assoc _ _ _
      have E5 : Hid (((x + y) * z) = ((x * z) + (y * z))) := Int.add_mul _ _ _
      have E6 : Hid (((x + y) - y) = x) := Int.add_sub_cancel _ _
      have E7 : Hid ((x + (-x)) = 0) := Int.add_right_neg _
      have E8 : Hid ((x * (1)) = x) := Int.mul_one _
      have B18 : Hid (ab ((y + x)) < pw 13) := ab_addB By.out Bx.out (by omega) (by omega)
      have B19 : Hid (ab ((y * x)) < pw 24) := ab_mulM By.out Bx.out (by omega)
      have B20 : Hid (ab (((x + y) + z)) < pw 14) := ab_addB B8.out Bz.out (by omega) (by omega)
      have B21 : Hid (ab ((y + z)) < pw 13) := ab_addB By.out Bz.out (by omega) (by omega)
      have B22 : Hid (ab ((x + (y + z))) < pw 14) := ab_addB Bx.out B21.out (by omega) (by omega)
      have B23 : Hid (ab (((x * y) * z)) < pw 36) := ab_mulM B9.out Bz.out (by omega)
      have B24 : Hid (ab ((y * z)) < pw 24) := ab_mulM By.out Bz.out (by omega)
      have B25 : Hid (ab ((x * (y * z))) < pw 36) := ab_mulM Bx.out B24.out (by omega)
      have X11_0 := E.bs.2.1
      have X5_0 := E.bs.2.2.2.1
      have X3_0 := E.bs.2.2.2.2.1
      have X13_0 := E.bs.1
      have X7_0 := E.bs.2.2.1
      have hp : (plan [Fc.num (x + y), Fc.num y, Fc.num x, Fc.num (y + x), Fc.is (.bool true), Fc.is (.bool false), Fc.is (.bool false), Fc.num (x * y), Fc.num y, Fc.num x, Fc.num (y * x), Fc.is (.bool true), Fc.is (.bool false), Fc.is (.bool false), Fc.is (.bool false), Fc.num (x + y), Fc.num z, Fc.num ((x + y) + z), Fc.num x, Fc.num y, Fc.num z, Fc.num (y + z), Fc.num (x + (y + z)), Fc.is (.bool true), Fc.is (.bool false), Fc.is (.bool false), Fc.is (.bool false), Fc.num (x * y), Fc.num z, Fc.num ((x * y) * z), Fc.num x, Fc.num y, Fc.num z, Fc.num (y * z), Fc.num (x * (y * z)), Fc.is (.bool true), Fc.is (.bool false), Fc.is (.bool false)] [] []).Ok wr.heap.size wr.heap.size := plan_ok (by simp) (by simp) (by simp) (by omega)
      have hm := PMono.of hp
      refine region_steps (p := (plan [Fc.num (x + y), Fc.num y, Fc.num x, Fc.num (y + x), Fc.is (.bool true), Fc.is (.bool false), Fc.is (.bool false), Fc.num (x * y), Fc.num y, Fc.num x, Fc.num (y * x), Fc.is (.bool true), Fc.is (.bool false), Fc.is (.bool false), Fc.is (.bool false), Fc.num (x + y), Fc.num z, Fc.num ((x + y) + z), Fc.num x, Fc.num y, Fc.num z, Fc.num (y + z), Fc.num (x + (y + z)), Fc.is (.bool true), Fc.is (.bool false), Fc.is (.bool false), Fc.is (.bool false), Fc.num (x * y), Fc.num z, Fc.num ((x * y) * z), Fc.num x, Fc.num y, Fc.num z, Fc.num (y * z), Fc.num (x * (y * z)), Fc.is (.bool true), Fc.is (.bool false), Fc.is (.bool false)] [] [])) (B := wr.heap.size) (B0 := wr.heap.size) (w0 := wr) (by kernel_rfl) rfl rfl (plan_start (by simp) (Below.refl _ _)) ⟨?_, ?_, ?_, ?_, ?_, ?_, ?_, ?_, ?_, ?_, ?_, ?_, ?_, ?_, ?_, ?_, ?_, ?_, ?_, ?_, ?_, ?_, ?_, ?_, ?_, ?_, ?_, ?_, ?_, ?_, ?_, ?_, ?_, ?_, ?_, ?_, ?_, ?_, trivial⟩ ?_
      · exact g_load (z := (x + y)) hm ⟨by simp [plan], by simp [plan]⟩ trivial (src_out rfl rfl (fun w h => ⟨rfl, X11_0.mono h⟩)) (fun v w h => h)
      · exact g_load (z := y) hm ⟨by simp [plan], by simp [plan]⟩ trivial (src_out rfl rfl (fun w h => ⟨rfl, X5_0.mono h⟩)) (fun v w h => h)
      · exact g_load (z := x) hm ⟨by simp [plan], by simp [plan]⟩ trivial (src_out rfl rfl (fun w h => ⟨rfl, X3_0.mono h⟩)) (fun v w h => h)
      · exact g_call2 (F := (Fc.num y).P) (G := (Fc.num x).P) hm ⟨by simp [plan], by simp [plan]⟩ trivial enter_Add' (src_in 1 rfl rfl (by simp) rfl (fun v w h => h)) (src_in 2 rfl rfl (by simp) rfl (fun v w h => h)) (fun v v' w h h' => exK (AddV h h') B18.out (by omega))
      · exact g_call2 (F := (Fc.num (x + y)).P) (G := (Fc.num (y + x)).P) hm ⟨by simp [plan], by simp [plan]⟩ trivial enter_Same (src_in 0 rfl rfl (by simp) rfl (fun v w h => h)) (src_in 3 rfl rfl (by simp) rfl (fun v w h => h)) (fun v v' w h h' => exSame h h' E1.out)
      · exact g_not (b := true) hm ⟨by simp [plan], by simp [plan]⟩ trivial (src_in 4 rfl rfl (by simp) rfl (fun v w h => h)) (fun _ => rfl)
      · exact g_move hm ⟨by simp [plan], by simp [plan]⟩ trivial (src_in 5 rfl rfl (by simp) rfl (fun v w h => h))
      · exact g_load (z := (x * y)) hm ⟨by simp [plan], by simp [plan]⟩ (gd_some rfl rfl (by simp) rfl (fun v w h => h)) (src_out rfl rfl (fun w h => ⟨rfl, X13_0.mono h⟩)) (fun v w h => h)
      · exact g_load (z := y) hm ⟨by simp [plan], by simp [plan]⟩ (gd_some rfl rfl (by simp) rfl (fun v w h => h)) (src_out rfl rfl (fun w h => ⟨rfl, X5_0.mono h⟩)) (fun v w h => h)
      · exact g_load (z := x) hm ⟨by simp [plan], by simp [plan]⟩ (gd_some rfl rfl (by simp) rfl (fun v w h => h)) (src_out rfl rfl (fun w h => ⟨rfl, X3_0.mono h⟩)) (fun v w h => h)
      · exact g_call2 (F := (Fc.num y).P) (G := (Fc.num x).P) hm ⟨by simp [plan], by simp [plan]⟩ (gd_some rfl rfl (by simp) rfl (fun v w h => h)) enter_Mul (src_in 8 rfl rfl (by simp) rfl (fun v w h => h)) (src_in 9 rfl rfl (by simp) rfl (fun v w h => h)) (fun v v' w h h' => exK (MulV h h') B19.out (by omega))
      · exact g_call2 (F := (Fc.num (x * y)).P) (G := (Fc.num (y * x)).P) hm ⟨by simp [plan], by simp [plan]⟩ (gd_some rfl rfl (by simp) rfl (fun v w h => h)) enter_Same (src_in 7 rfl rfl (by simp) rfl (fun v w h => h)) (src_in 10 rfl rfl (by simp) rfl (fun v w h => h)) (fun v v' w h h' => exSame h h' E2.out)
      · exact g_not (b := true) hm ⟨by simp [plan], by simp [plan]⟩ (gd_some rfl rfl (by simp) rfl (fun v w h => h)) (src_in 11 rfl rfl (by simp) rfl (fun v w h => h)) (fun _ => rfl)
      · exact g_pickF hm ⟨by simp [plan], by simp [plan]⟩ trivial (src_in 6 rfl rfl (by simp) rfl (fun v w h => h)) (src_in 12 rfl rfl (by simp) rfl (fun v w h => h))
      · exact g_move hm ⟨by simp [plan], by simp [plan]⟩ trivial (src_in 13 rfl rfl (by simp) rfl (fun v w h => h))
      · exact g_load (z := (x + y)) hm ⟨by simp [plan], by simp [plan]⟩ (gd_some rfl rfl (by simp) rfl (fun v w h => h)) (src_out rfl rfl (fun w h => ⟨rfl, X11_0.mono h⟩)) (fun v w h => h)
      · exact g_load (z := z) hm ⟨by simp [plan], by simp [plan]⟩ (gd_some rfl rfl (by simp) rfl (fun v w h => h)) (src_out rfl rfl (fun w h => ⟨rfl, X7_0.mono h⟩)) (fun v w h => h)
      · exact g_call2 (F := (Fc.num (x + y)).P) (G := (Fc.num z).P) hm ⟨by simp [plan], by simp [plan]⟩ (gd_some rfl rfl (by simp) rfl (fun v w h => h)) enter_Add' (src_in 15 rfl rfl (by simp) rfl (fun v w h => h)) (src_in 16 rfl rfl (by simp) rfl (fun v w h => h)) (fun v v' w h h' => exK (AddV h h') B20.out (by omega))
      · exact g_load (z := x) hm ⟨by simp [plan], by simp [plan]⟩ (gd_some rfl rfl (by simp) rfl (fun v w h => h)) (src_out rfl rfl (fun w h => ⟨rfl, X3_0.mono h⟩)) (fun v w h => h)
      · exact g_load (z := y) hm ⟨by simp [plan], by simp [plan]⟩ (gd_some rfl rfl (by simp) rfl (fun v w h => h)) (src_out rfl rfl (fun w h => ⟨rfl, X5_0.mono h⟩)) (fun v w h => h)
      · exact g_load (z := z) hm ⟨by simp [plan], by simp [plan]⟩ (gd_some rfl rfl (by simp) rfl (fun v w h => h)) (src_out rfl rfl (fun w h => ⟨rfl, X7_0.mono h⟩)) (fun v w h => h)
      · exact g_call2 (F := (Fc.num y).P) (G := (Fc.num z).P) hm ⟨by simp [plan], by simp [plan]⟩ (gd_some rfl rfl (by simp) rfl (fun v w h => h)) enter_Add' (src_in 19 rfl rfl (by simp) rfl (fun v w h => h)) (src_in 20 rfl rfl (by simp) rfl (fun v w h => h)) (fun v v' w h h' => exK (AddV h h') B21.out (by omega))
      · exact g_call2 (F := (Fc.num x).P) (G := (Fc.num (y + z)).P) hm ⟨by simp [plan], by simp [plan]⟩ (gd_some rfl rfl (by simp) rfl (fun v w h => h)) enter_Add' (src_in 18 rfl rfl (by simp) rfl (fun v w h => h)) (src_in 21 rfl rfl (by simp) rfl (fun v w h => h)) (fun v v' w h h' => exK (AddV h h') B22.out (by omega))
      · exact g_call2 (F := (Fc.num ((x + y) + z)).P) (G := (Fc.num (x + (y + z))).P) hm ⟨by simp [plan], by simp [plan]⟩ (gd_some rfl rfl (by simp) rfl (fun v w h => h)) enter_Same (src_in 17 rfl rfl (by simp) rfl (fun v w h => h)) (src_in 22 rfl rfl (by simp) rfl (fun v w h => h)) (fun v v' w h h' => exSame h h' E3.out)
      · exact g_not (b := true) hm ⟨by simp [plan], by simp [plan]⟩ (gd_some rfl rfl (by simp) rfl (fun v w h => h)) (src_in 23 rfl rfl (by simp) rfl (fun v w h => h)) (fun _ => rfl)
      · exact g_pickF hm ⟨by simp [plan], by simp [plan]⟩ trivial (src_in 14 rfl rfl (by simp) rfl (fun v w h => h)) (src_in 24 rfl rfl (by simp) rfl (fun v w h => h))
      · exact g_move hm ⟨by simp [plan], by simp [plan]⟩ trivial (src_in 25 rfl rfl (by simp) rfl (fun v w h => h))
      · exact g_load (z := (x * y)) hm ⟨by simp [plan], by simp [plan]⟩ (gd_some rfl rfl (by simp) rfl (fun v w h => h)) (src_out rfl rfl (fun w h => ⟨rfl, X13_0.mono h⟩)) (fun v w h => h)
      · exact g_load (z := z) hm ⟨by simp [plan], by simp [plan]⟩ (gd_some rfl rfl (by simp) rfl (fun v w h => h)) (src_out rfl rfl (fun w h => ⟨rfl, X7_0.mono h⟩)) (fun v w h => h)
      · exact g_call2 (F := (Fc.num (x * y)).P) (G := (Fc.num z).P) hm ⟨by simp [plan], by simp [plan]⟩ (gd_some rfl rfl (by simp) rfl (fun v w h => h)) enter_Mul (src_in 27 rfl rfl (by simp) rfl (fun v w h => h)) (src_in 28 rfl rfl (by simp) rfl (fun v w h => h)) (fun v v' w h h' => exK (MulV h h') B23.out (by omega))
      · exact g_load (z := x) hm ⟨by simp [plan], by simp [plan]⟩ (gd_some rfl rfl (by simp) rfl (fun v w h => h)) (src_out rfl rfl (fun w h => ⟨rfl, X3_0.mono h⟩)) (fun v w h => h)
      · exact g_load (z := y) hm ⟨by simp [plan], by simp [plan]⟩ (gd_some rfl rfl (by simp) rfl (fun v w h => h)) (src_out rfl rfl (fun w h => ⟨rfl, X5_0.mono h⟩)) (fun v w h => h)
      · exact g_load (z := z) hm ⟨by simp [plan], by simp [plan]⟩ (gd_some rfl rfl (by simp) rfl (fun v w h => h)) (src_out rfl rfl (fun w h => ⟨rfl, X7_0.mono h⟩)) (fun v w h => h)
      · exact g_call2 (F := (Fc.num y).P) (G := (Fc.num z).P) hm ⟨by simp [plan], by simp [plan]⟩ (gd_some rfl rfl (by simp) rfl (fun v w h => h)) enter_Mul (src_in 31 rfl rfl (by simp) rfl (fun v w h => h)) (src_in 32 rfl rfl (by simp) rfl (fun v w h => h)) (fun v v' w h h' => exK (MulV h h') B24.out (by omega))
      · exact g_call2 (F := (Fc.num x).P) (G := (Fc.num (y * z)).P) hm ⟨by simp [plan], by simp [plan]⟩ (gd_some rfl rfl (by simp) rfl (fun v w h => h)) enter_Mul (src_in 30 rfl rfl (by simp) rfl (fun v w h => h)) (src_in 33 rfl rfl (by simp) rfl (fun v w h => h)) (fun v v' w h h' => exK (MulV h h') B25.out (by omega))
      · exact g_call2 (F := (Fc.num ((x * y) * z)).P) (G := (Fc.num (x * (y * z))).P) hm ⟨by simp [plan], by simp [plan]⟩ (gd_some rfl rfl (by simp) rfl (fun v w h => h)) enter_Same (src_in 29 rfl rfl (by simp) rfl (fun v w h => h)) (src_in 34 rfl rfl (by simp) rfl (fun v w h => h)) (fun v v' w h h' => exSame h h' E4.out)
      · exact g_not (b := true) hm ⟨by simp [plan], by simp [plan]⟩ (gd_some rfl rfl (by simp) rfl (fun v w h => h)) (src_in 35 rfl rfl (by simp) rfl (fun v w h => h)) (fun _ => rfl)
      · exact g_pickF hm ⟨by simp [plan], by simp [plan]⟩ trivial (src_in 26 rfl rfl (by simp) rfl (fun v w h => h)) (src_in 36 rfl rfl (by simp) rfl (fun v w h => h))
      intro L vs w26 hL hG
      have e4 : vs 4 = .bool true := hG.val 4 (hL 4 (by simp))
      have e5 : vs 5 = .bool false := hG.val 5 (hL 5 (by simp))
      have e6 : vs 6 = .bool false := hG.val 6 (hL 6 (by simp))
      have e11 : vs 11 = .bool true := hG.val 11 (hL 11 (by simp))
      have e12 : vs 12 = .bool false := hG.val 12 (hL 12 (by simp))
      have e13 : vs 13 = .bool false := hG.val 13 (hL 13 (by simp))
      have e14 : vs 14 = .bool false := hG.val 14 (hL 14 (by simp))
      have e23 : vs 23 = .bool true := hG.val 23 (hL 23 (by simp))
      have e24 : vs 24 = .bool false := hG.val 24 (hL 24 (by simp))
      have e25 : vs 25 = .bool false := hG.val 25 (hL 25 (by simp))
      have e26 : vs 26 = .bool false := hG.val 26 (hL 26 (by simp))
      have e35 : vs 35 = .bool true := hG.val 35 (hL 35 (by simp))
      have e36 : vs 36 = .bool false := hG.val 36 (hL 36 (by simp))
      have e37 : vs 37 = .bool false := hG.val 37 (hL 37 (by simp))
      have hb := hG.below
      replace E := E.mono hb
      rw [lay_all hL]
      simp only [putAll, dstOf, List.length_cons, List.length_nil, Nat.zero_add, Nat.reduceAdd, List.getElem?_toArray, List.getElem?_cons_zero, List.getElem?_cons_succ, Option.bind_some, Act.put, List.setIfInBounds_toArray, List.set_cons_succ, List.set_cons_zero]
      rw [e4, e5, e6, e11, e12, e13, e14, e23, e24, e25, e26, e35, e36, e37]
      generalize vs 0 = u26_0
      generalize vs 1 = u26_1
      generalize vs 2 = u26_2
      generalize vs 3 = u26_3
      generalize vs 7 = u26_7
      generalize vs 8 = u26_8
      generalize vs 9 = u26_9
      generalize vs 10 = u26_10
      generalize vs 15 = u26_15
      generalize vs 16 = u26_16
      generalize vs 17 = u26_17
      generalize vs 18 = u26_18
      generalize vs 19 = u26_19
      generalize vs 20 = u26_20
      generalize vs 21 = u26_21
      generalize vs 22 = u26_22
      generalize vs 27 = u26_27
      generalize vs 28 = u26_28
      generalize vs 29 = u26_29
      generalize vs 30 = u26_30
      generalize vs 31 = u26_31
      generalize vs 32 = u26_32
      generalize vs 33 = u26_33
      generalize vs 34 = u26_34
      clear hb hG hp hm hL vs L e4 e5 e6 e11 e12 e13 e14 e23 e24 e25 e26 e35 e36 e37 X11_0 X5_0 X3_0 X13_0 X7_0
      go_wp2
      have B27 : Hid (ab (((x + y) * z)) < pw 25) := ab_mulM B8.out Bz.out (by omega)
      have B28 : Hid (ab ((x * z)) < pw 24) := ab_mulM Bx.out Bz.out (by omega)
      have B29 : Hid (ab (((x * z) + (y * z))) < pw 25) := ab_addB B28.out B24.out (by omega) (by omega)
      have B30 : Hid (ab (((x + y) - y)) < pw 14) := ab_subB B8.out By.out (by omega) (by omega)
      have B31 : Hid (ab ((x + (-x))) < pw 13) := ab_addB Bx.out B15.out (by omega) (by omega)
      have B32 : Hid (ab (1) < pw 2) := by show ab (1) < pw 2; decide
      have B33 : Hid (ab ((x * (1))) < pw 14) := ab_mulM Bx.out B32.out (by omega)
      have X3_0 := E.bs.2.2.2.2.1
      have X5_0 := E.bs.2.2.2.1
      have X7_0 := E.bs.2.2.1
      have X11_0 := E.bs.2.1
      have hp : (plan [Fc.num x, Fc.num y, Fc.num (x + y), Fc.num z, Fc.num ((x + y) * z), Fc.num x, Fc.num z, Fc.num (x * z), Fc.num y, Fc.num z, Fc.num (y * z), Fc.num ((x * z) + (y * z)), Fc.is (.bool true), Fc.is (.bool false), Fc.is (.bool false), Fc.num (x + y), Fc.num y, Fc.num ((x + y) - y), Fc.num x, Fc.is (.bool true), Fc.is (.bool false), Fc.is (.bool false), Fc.is (.bool false), Fc.num x, Fc.num x, Fc.num (-x), Fc.num (x + (-x)), Fc.num 0, Fc.is (.bool true), Fc.is (.bool false), Fc.is (.bool false), Fc.is (.bool false), Fc.num x, Fc.num (1), Fc.num (x * (1)), Fc.num x, Fc.is (.bool true), Fc.is (.bool false), Fc.is (.bool false)] [] []).Ok w26.heap.size w26.heap.size := plan_ok (by simp) (by simp) (by simp) (by omega)
      have hm := PMono.of hp
      refine region_steps (p := (plan [Fc.num x, Fc.num y, Fc.num (x + y), Fc.num z, Fc.num ((x + y) * z), Fc.num x, Fc.num z, Fc.num (x * z), Fc.num y, Fc.num z, Fc.num (y * z), Fc.num ((x * z) + (y * z)), Fc.is (.bool true), Fc.is (.bool false), Fc.is (.bool false), Fc.num (x + y), Fc.num y, Fc.num ((x + y) - y), Fc.num x, Fc.is (.bool true), Fc.is (.bool false), Fc.is (.bool false), Fc.is (.bool false), Fc.num x, Fc.num x, Fc.num (-x), Fc.num (x + (-x)), Fc.num 0, Fc.is (.bool true), Fc.is (.bool false), Fc.is (.bool false), Fc.is (.bool false), Fc.num x, Fc.num (1), Fc.num (x * (1)), Fc.num x, Fc.is (.bool true), Fc.is (.bool false), Fc.is (.bool false)] [] [])) (B := w26.heap.size) (B0 := w26.heap.size) (w0 := w26) (by kernel_rfl) rfl rfl (plan_start (by simp) (Below.refl _ _)) ⟨?_, ?_, ?_, ?_, ?_, ?_, ?_, ?_, ?_, ?_, ?_, ?_, ?_, ?_, ?_, ?_, ?_, ?_, ?_, ?_, ?_, ?_, ?_, ?_, ?_, ?_, ?_, ?_, ?_, ?_, ?_, ?_, ?_, ?_, ?_, ?_, ?_, ?_, ?_, trivial⟩ ?_
      · exact g_load (z := x) hm ⟨by simp [plan], by simp [plan]⟩ trivial (src_out rfl rfl (fun w h => ⟨rfl, X3_0.mono h⟩)) (fun v w h => h)
      · exact g_load (z := y) hm ⟨by simp [plan], by simp [plan]⟩ trivial (src_out rfl rfl (fun w h => ⟨rfl, X5_0.mono h⟩)) (fun v w h => h)
      · exact g_call2 (F := (Fc.num x).P) (G := (Fc.num y).P) hm ⟨by simp [plan], by simp [plan]⟩ trivial enter_Add' (src_in 0 rfl rfl (by simp) rfl (fun v w h => h)) (src_in 1 rfl rfl (by simp) rfl (fun v w h => h)) (fun v v' w h h' => exK (AddV h h') B8.out (by omega))
      · exact g_load (z := z) hm ⟨by simp [plan], by simp [plan]⟩ trivial (src_out rfl rfl (fun w h => ⟨rfl, X7_0.mono h⟩)) (fun v w h => h)
      · exact g_call2 (F := (Fc.num (x + y)).P) (G := (Fc.num z).P) hm ⟨by simp [plan], by simp [plan]⟩ trivial enter_Mul (src_in 2 rfl rfl (by simp) rfl (fun v w h => h)) (src_in 3 rfl rfl (by simp) rfl (fun v w h => h)) (fun v v' w h h' => exK (MulV h h') B27.out (by omega))
      · exact g_load (z := x) hm ⟨by simp [plan], by simp [plan]⟩ trivial (src_out rfl rfl (fun w h => ⟨rfl, X3_0.mono h⟩)) (fun v w h => h)
      · exact g_load (z := z) hm ⟨by simp [plan], by simp [plan]⟩ trivial (src_out rfl rfl (fun w h => ⟨rfl, X7_0.mono h⟩)) (fun v w h => h)
      · exact g_call2 (F := (Fc.num x).P) (G := (Fc.num z).P) hm ⟨by simp [plan], by simp [plan]⟩ trivial enter_Mul (src_in 5 rfl rfl (by simp) rfl (fun v w h => h)) (src_in 6 rfl rfl (by simp) rfl (fun v w h => h)) (fun v v' w h h' => exK (MulV h h') B28.out (by omega))
      · exact g_load (z := y) hm ⟨by simp [plan], by simp [plan]⟩ trivial (src_out rfl rfl (fun w h => ⟨rfl, X5_0.mono h⟩)) (fun v w h => h)
      · exact g_load (z := z) hm ⟨by simp [plan], by simp [plan]⟩ trivial (src_out rfl rfl (fun w h => ⟨rfl, X7_0.mono h⟩)) (fun v w h => h)
      · exact g_call2 (F := (Fc.num y).P) (G := (Fc.num z).P) hm ⟨by simp [plan], by simp [plan]⟩ trivial enter_Mul (src_in 8 rfl rfl (by simp) rfl (fun v w h => h)) (src_in 9 rfl rfl (by simp) rfl (fun v w h => h)) (fun v v' w h h' => exK (MulV h h') B24.out (by omega))
      · exact g_call2 (F := (Fc.num (x * z)).P) (G := (Fc.num (y * z)).P) hm ⟨by simp [plan], by simp [plan]⟩ trivial enter_Add' (src_in 7 rfl rfl (by simp) rfl (fun v w h => h)) (src_in 10 rfl rfl (by simp) rfl (fun v w h => h)) (fun v v' w h h' => exK (AddV h h') B29.out (by omega))
      · exact g_call2 (F := (Fc.num ((x + y) * z)).P) (G := (Fc.num ((x * z) + (y * z))).P) hm ⟨by simp [plan], by simp [plan]⟩ trivial enter_Same (src_in 4 rfl rfl (by simp) rfl (fun v w h => h)) (src_in 11 rfl rfl (by simp) rfl (fun v w h => h)) (fun v v' w h h' => exSame h h' E5.out)
      · exact g_not (b := true) hm ⟨by simp [plan], by simp [plan]⟩ trivial (src_in 12 rfl rfl (by simp) rfl (fun v w h => h)) (fun _ => rfl)
      · exact g_move hm ⟨by simp [plan], by simp [plan]⟩ trivial (src_in 13 rfl rfl (by simp) rfl (fun v w h => h))
      · exact g_load (z := (x + y)) hm ⟨by simp [plan], by simp [plan]⟩ (gd_some rfl rfl (by simp) rfl (fun v w h => h)) (src_out rfl rfl (fun w h => ⟨rfl, X11_0.mono h⟩)) (fun v w h => h)
      · exact g_load (z := y) hm ⟨by simp [plan], by simp [plan]⟩ (gd_some rfl rfl (by simp) rfl (fun v w h => h)) (src_out rfl rfl (fun w h => ⟨rfl, X5_0.mono h⟩)) (fun v w h => h)
      · exact g_call2 (F := (Fc.num (x + y)).P) (G := (Fc.num y).P) hm ⟨by simp [plan], by simp [plan]⟩ (gd_some rfl rfl (by simp) rfl (fun v w h => h)) enter_Sub (src_in 15 rfl rfl (by simp) rfl (fun v w h => h)) (src_in 16 rfl rfl (by simp) rfl (fun v w h => h)) (fun v v' w h h' => exK (SubV h h') B30.out (by omega))
      · exact g_load (z := x) hm ⟨by simp [plan], by simp [plan]⟩ (gd_some rfl rfl (by simp) rfl (fun v w h => h)) (src_out rfl rfl (fun w h => ⟨rfl, X3_0.mono h⟩)) (fun v w h => h)
      · exact g_call2 (F := (Fc.num ((x + y) - y)).P) (G := (Fc.num x).P) hm ⟨by simp [plan], by simp [plan]⟩ (gd_some rfl rfl (by simp) rfl (fun v w h => h)) enter_Same (src_in 17 rfl rfl (by simp) rfl (fun v w h => h)) (src_in 18 rfl rfl (by simp) rfl (fun v w h => h)) (fun v v' w h h' => exSame h h' E6.out)
      · exact g_not (b := true) hm ⟨by simp [plan], by simp [plan]⟩ (gd_some rfl rfl (by simp) rfl (fun v w h => h)) (src_in 19 rfl rfl (by simp) rfl (fun v w h => h)) (fun _ => rfl)
      · exact g_pickF hm ⟨by simp [plan], by simp [plan]⟩ trivial (src_in 14 rfl rfl (by simp) rfl (fun v w h => h)) (src_in 20 rfl rfl (by simp) rfl (fun v w h => h))
      · exact g_move hm ⟨by simp [plan], by simp [plan]⟩ trivial (src_in 21 rfl rfl (by simp) rfl (fun v w h => h))
      · exact g_load (z := x) hm ⟨by simp [plan], by simp [plan]⟩ (gd_some rfl rfl (by simp) rfl (fun v w h => h)) (src_out rfl rfl (fun w h => ⟨rfl, X3_0.mono h⟩)) (fun v w h => h)
      · exact g_load (z := x) hm ⟨by simp [plan], by simp [plan]⟩ (gd_some rfl rfl (by simp) rfl (fun v w h => h)) (src_out rfl rfl (fun w h => ⟨rfl, X3_0.mono h⟩)) (fun v w h => h)
      · exact g_call1 (F := (Fc.num x).P) hm ⟨by simp [plan], by simp [plan]⟩ (gd_some rfl rfl (by simp) rfl (fun v w h => h)) enter_Neg (src_in 24 rfl rfl (by simp) rfl (fun v w h => h)) (fun v w h => exK (NegV h) B15.out (by omega))
      · exact g_call2 (F := (Fc.num x).P) (G := (Fc.num (-x)).P) hm ⟨by simp [plan], by simp [plan]⟩ (gd_some rfl rfl (by simp) rfl (fun v w h => h)) enter_Add' (src_in 23 rfl rfl (by simp) rfl (fun v w h => h)) (src_in 25 rfl rfl (by simp) rfl (fun v w h => h)) (fun v v' w h h' => exK (AddV h h') B31.out (by omega))
      · exact g_zero hm ⟨by simp [plan], by simp [plan]⟩ (gd_some rfl rfl (by simp) rfl (fun v w h => h)) (fun w => Num.zero w)
      · exact g_call2 (F := (Fc.num (x + (-x))).P) (G := (Fc.num 0).P) hm ⟨by simp [plan], by simp [plan]⟩ (gd_some rfl rfl (by simp) rfl (fun v w h => h)) enter_Same (src_in 26 rfl rfl (by simp) rfl (fun v w h => h)) (src_in 27 rfl rfl (by simp) rfl (fun v w h => h)) (fun v v' w h h' => exSame h h' E7.out)
      · exact g_not (b := true) hm ⟨by simp [plan], by simp [plan]⟩ (gd_some rfl rfl (by simp) rfl (fun v w h => h)) (src_in 28 rfl rfl (by simp) rfl (fun v w h => h)) (fun _ => rfl)
      · exact g_pickF hm ⟨by simp [plan], by simp [plan]⟩ trivial (src_in 22 rfl rfl (by simp) rfl (fun v w h => h)) (src_in 29 rfl rfl (by simp) rfl (fun v w h => h))
      · exact g_move hm ⟨by simp [plan], by simp [plan]⟩ trivial (src_in 30 rfl rfl (by simp) rfl (fun v w h => h))
      · exact g_load (z := x) hm ⟨by simp [plan], by simp [plan]⟩ (gd_some rfl rfl (by simp) rfl (fun v w h => h)) (src_out rfl rfl (fun w h => ⟨rfl, X3_0.mono h⟩)) (fun v w h => h)
      · exact g_callC hm ⟨by simp [plan], by simp [plan]⟩ (gd_some rfl rfl (by simp) rfl (fun v w h => h)) enter_Of (fun w => OfV w (1) (by omega) (by omega))
      · exact g_call2 (F := (Fc.num x).P) (G := (Fc.num (1)).P) hm ⟨by simp [plan], by simp [plan]⟩ (gd_some rfl rfl (by simp) rfl (fun v w h => h)) enter_Mul (src_in 32 rfl rfl (by simp) rfl (fun v w h => h)) (src_in 33 rfl rfl (by simp) rfl (fun v w h => h)) (fun v v' w h h' => exK (MulV h h') B33.out (by omega))
      · exact g_load (z := x) hm ⟨by simp [plan], by simp [plan]⟩ (gd_some rfl rfl (by simp) rfl (fun v w h => h)) (src_out rfl rfl (fun w h => ⟨rfl, X3_0.mono h⟩)) (fun v w h => h)
      · exact g_call2 (F := (Fc.num (x * (1))).P) (G := (Fc.num x).P) hm ⟨by simp [plan], by simp [plan]⟩ (gd_some rfl rfl (by simp) rfl (fun v w h => h)) enter_Same (src_in 34 rfl rfl (by simp) rfl (fun v w h => h)) (src_in 35 rfl rfl (by simp) rfl (fun v w h => h)) (fun v v' w h h' => exSame h h' E8.out)
      · exact g_not (b := true) hm ⟨by simp [plan], by simp [plan]⟩ (gd_some rfl rfl (by simp) rfl (fun v w h => h)) (src_in 36 rfl rfl (by simp) rfl (fun v w h => h)) (fun _ => rfl)
      · exact g_pickF hm ⟨by simp [plan], by simp [plan]⟩ trivial (src_in 31 rfl rfl (by simp) rfl (fun v w h => h)) (src_in 37 rfl rfl (by simp) rfl (fun v w h => h))
      intro L vs w34 hL hG
      have e12 : vs 12 = .bool true := hG.val 12 (hL 12 (by simp))
      have e13 : vs 13 = .bool false := hG.val 13 (hL 13 (by simp))
      have e14 : vs 14 = .bool false := hG.val 14 (hL 14 (by simp))
      have e19 : vs 19 = .bool true := hG.val 19 (hL 19 (by simp))
      have e20 : vs 20 = .bool false := hG.val 20 (hL 20 (by simp))
      have e21 : vs 21 = .bool false := hG.val 21 (hL 21 (by simp))
      have e22 : vs 22 = .bool false := hG.val 22 (hL 22 (by simp))
      have e28 : vs 28 = .bool true := hG.val 28 (hL 28 (by simp))
      have e29 : vs 29 = .bool false := hG.val 29 (hL 29 (by simp))
      have e30 : vs 30 = .bool false := hG.val 30 (hL 30 (by simp))
      have e31 : vs 31 = .bool false := hG.val 31 (hL 31 (by simp))
      have e36 : vs 36 = .bool true := hG.val 36 (hL 36 (by simp))
      have e37 : vs 37 = .bool false := hG.val 37 (hL 37 (by simp))
      have e38 : vs 38 = .bool false := hG.val 38 (hL 38 (by simp))
      have hb := hG.below
      replace E := E.mono hb
      rw [lay_all hL]
      simp only [putAll, dstOf, List.length_cons, List.length_nil, Nat.zero_add, Nat.reduceAdd, List.getElem?_toArray, List.getElem?_cons_zero, List.getElem?_cons_succ, Option.bind_some, Act.put, List.setIfInBounds_toArray, List.set_cons_succ, List.set_cons_zero]
      rw [e12, e13, e14, e19, e20, e21, e22, e28, e29, e30, e31, e36, e37, e38]
      generalize vs 0 = u34_0
      generalize vs 1 = u34_1
      generalize vs 2 = u34_2
      generalize vs 3 = u34_3
      generalize vs 4 = u34_4
      generalize vs 5 = u34_5
      generalize vs 6 = u34_6
      generalize vs 7 = u34_7
      generalize vs 8 = u34_8
      generalize vs 9 = u34_9
      generalize vs 10 = u34_10
      generalize vs 11 = u34_11
      generalize vs 15 = u34_15
      generalize vs 16 = u34_16
      generalize vs 17 = u34_17
      generalize vs 18 = u34_18
      generalize vs 23 = u34_23
      generalize vs 24 = u34_24
      generalize vs 25 = u34_25
      generalize vs 26 = u34_26
      generalize vs 27 = u34_27
      generalize vs 32 = u34_32
      generalize vs 33 = u34_33
      generalize vs 34 = u34_34
      generalize vs 35 = u34_35
      clear hb hG hp hm hL vs L e12 e13 e14 e19 e20 e21 e22 e28 e29 e30 e31 e36 e37 e38 X3_0 X5_0 X7_0 X11_0
      obtain ⟨nd, aod, kkd, ccd, ⟨d0, d1, d2, d3⟩, hNd⟩ := E.bs.2.2.2.2.1
      obtain ⟨nf, aof, kkf, ccf, ⟨f0, f1, f2, f3⟩, hNf⟩ := E.bs.2.2.2.1
      go_wp2_with fail
      refine (exCmp hNd hNf).mono ?_
      rintro e w35 ⟨_, rfl, hb, rfl⟩
      replace E := E.mono hb
      clear hb
      clear d0 d1 d2 d3 hNd f0 f1 f2 f3 hNf
      go_wp2
      have T1 : Hid (cmpI x y = cmpI (x + z) (y + z)) := cmp_add _ _ _
      have T2 : Hid (cmpI x y = -(cmpI y x)) := cmp_swap _ _
      have T3 : Hid (cmpI x y * cmpI z 0 = cmpI (x * z) (y * z)) := cmp_times _ _ _
      have T4 : Hid (cmpI (x * y) 0 = cmpI x 0 * cmpI y 0) := cmp_prod _ _
      have T5 : Hid (cmpI x y = cmpI (x - y) 0) := cmp_sub _ _
      have B36 : Hid (ab ((x + z)) < pw 13) := ab_addB Bx.out Bz.out (by omega) (by omega)
      have X3_0 := E.bs.2.2.2.2.1
      have X7_0 := E.bs.2.2.1
      have X5_0 := E.bs.2.2.2.1
      have X13_0 := E.bs.1
      have hp : (plan [Fc.is (.bool true), Fc.is (.bool true), Fc.is (.int .i64 (cmpI x y)), Fc.num x, Fc.num z, Fc.num (x + z), Fc.num y, Fc.num z, Fc.num (y + z), Fc.is (.int .i64 (cmpI (x + z) (y + z))), Fc.is (.bool true), Fc.is (.bool true), Fc.is (.bool true), Fc.is (.int .i64 (cmpI x y)), Fc.num y, Fc.num x, Fc.is (.int .i64 (cmpI y x)), Fc.is (.int .i64 (-(cmpI y x))), Fc.is (.bool true), Fc.is (.bool true), Fc.is (.bool true), Fc.is (.int .i64 (cmpI x y)), Fc.num z, Fc.is (.int .i64 (cmpI z 0)), Fc.is (.int .i64 ((cmpI x y) * (cmpI z 0))), Fc.num x, Fc.num z, Fc.num (x * z), Fc.num y, Fc.num z, Fc.num (y * z), Fc.is (.int .i64 (cmpI (x * z) (y * z))), Fc.is (.bool true), Fc.is (.bool true), Fc.is (.bool true), Fc.num (x * y), Fc.is (.int .i64 (cmpI (x * y) 0)), Fc.num x, Fc.is (.int .i64 (cmpI x 0)), Fc.num y, Fc.is (.int .i64 (cmpI y 0)), Fc.is (.int .i64 ((cmpI x 0) * (cmpI y 0))), Fc.is (.bool true), Fc.is (.bool true), Fc.is (.bool true), Fc.is (.int .i64 (cmpI x y)), Fc.num x, Fc.num y, Fc.num (x - y), Fc.is (.int .i64 (cmpI (x - y) 0)), Fc.is (.bool true), Fc.is (.bool true), Fc.is (.bool true)] [] []).Ok w35.heap.size w35.heap.size := plan_ok (by simp) (by simp) (by simp) (by omega)
      have hm := PMono.of hp
      refine region_steps (p := (plan [Fc.is (.bool true), Fc.is (.bool true), Fc.is (.int .i64 (cmpI x y)), Fc.num x, Fc.num z, Fc.num (x + z), Fc.num y, Fc.num z, Fc.num (y + z), Fc.is (.int .i64 (cmpI (x + z) (y + z))), Fc.is (.bool true), Fc.is (.bool true), Fc.is (.bool true), Fc.is (.int .i64 (cmpI x y)), Fc.num y, Fc.num x, Fc.is (.int .i64 (cmpI y x)), Fc.is (.int .i64 (-(cmpI y x))), Fc.is (.bool true), Fc.is (.bool true), Fc.is (.bool true), Fc.is (.int .i64 (cmpI x y)), Fc.num z, Fc.is (.int .i64 (cmpI z 0)), Fc.is (.int .i64 ((cmpI x y) * (cmpI z 0))), Fc.num x, Fc.num z, Fc.num (x * z), Fc.num y, Fc.num z, Fc.num (y * z), Fc.is (.int .i64 (cmpI (x * z) (y * z))), Fc.is (.bool true), Fc.is (.bool true), Fc.is (.bool true), Fc.num (x * y), Fc.is (.int .i64 (cmpI (x * y) 0)), Fc.num x, Fc.is (.int .i64 (cmpI x 0)), Fc.num y, Fc.is (.int .i64 (cmpI y 0)), Fc.is (.int .i64 ((cmpI x 0) * (cmpI y 0))), Fc.is (.bool true), Fc.is (.bool true), Fc.is (.bool true), Fc.is (.int .i64 (cmpI x y)), Fc.num x, Fc.num y, Fc.num (x - y), Fc.is (.int .i64 (cmpI (x - y) 0)), Fc.is (.bool true), Fc.is (.bool true), Fc.is (.bool true)] [] [])) (B := w35.heap.size) (B0 := w35.heap.size) (w0 := w35) (by kernel_rfl) rfl rfl (plan_start (by simp) (Below.refl _ _)) ⟨?_, ?_, ?_, ?_, ?_, ?_, ?_, ?_, ?_, ?_, ?_, ?_, ?_, ?_, ?_, ?_, ?_, ?_, ?_, ?_, ?_, ?_, ?_, ?_, ?_, ?_, ?_, ?_, ?_, ?_, ?_, ?_, ?_, ?_, ?_, ?_, ?_, ?_, ?_, ?_, ?_, ?_, ?_, ?_, ?_, ?_, ?_, ?_, ?_, ?_, ?_, ?_, ?_, trivial⟩ ?_
      · exact g_move hm ⟨by simp [plan], by simp [plan]⟩ trivial (src_out rfl rfl (fun _ _ => rfl))
      · exact g_move hm ⟨by simp [plan], by simp [plan]⟩ trivial (src_in 0 rfl rfl (by simp) rfl (fun v w h => h))
      · exact g_move hm ⟨by simp [plan], by simp [plan]⟩ (gd_some rfl rfl (by simp) rfl (fun v w h => h)) (src_out rfl rfl (fun _ _ => rfl))
      · exact g_load (z := x) hm ⟨by simp [plan], by simp [plan]⟩ (gd_some rfl rfl (by simp) rfl (fun v w h => h)) (src_out rfl rfl (fun w h => ⟨rfl, X3_0.mono h⟩)) (fun v w h => h)
      · exact g_load (z := z) hm ⟨by simp [plan], by simp [plan]⟩ (gd_some rfl rfl (by simp) rfl (fun v w h => h)) (src_out rfl rfl (fun w h => ⟨rfl, X7_0.mono h⟩)) (fun v w h => h)
      · exact g_call2 (F := (Fc.num x).P) (G := (Fc.num z).P) hm ⟨by simp [plan], by simp [plan]⟩ (gd_some rfl rfl (by simp) rfl (fun v w h => h)) enter_Add' (src_in 3 rfl rfl (by simp) rfl (fun v w h => h)) (src_in 4 rfl rfl (by simp) rfl (fun v w h => h)) (fun v v' w h h' => exK (AddV h h') B36.out (by omega))
      · exact g_load (z := y) hm ⟨by simp [plan], by simp [plan]⟩ (gd_some rfl rfl (by simp) rfl (fun v w h => h)) (src_out rfl rfl (fun w h => ⟨rfl, X5_0.mono h⟩)) (fun v w h => h)
      · exact g_load (z := z) hm ⟨by simp [plan], by simp [plan]⟩ (gd_some rfl rfl (by simp) rfl (fun v w h => h)) (src_out rfl rfl (fun w h => ⟨rfl, X7_0.mono h⟩)) (fun v w h => h)
      · exact g_call2 (F := (Fc.num y).P) (G := (Fc.num z).P) hm ⟨by simp [plan], by simp [plan]⟩ (gd_some rfl rfl (by simp) rfl (fun v w h => h)) enter_Add' (src_in 6 rfl rfl (by simp) rfl (fun v w h => h)) (src_in 7 rfl rfl (by simp) rfl (fun v w h => h)) (fun v v' w h h' => exK (AddV h h') B21.out (by omega))
      · exact g_call2 (F := (Fc.num (x + z)).P) (G := (Fc.num (y + z)).P) hm ⟨by simp [plan], by simp [plan]⟩ (gd_some rfl rfl (by simp) rfl (fun v w h => h)) enter_Cmp (src_in 5 rfl rfl (by simp) rfl (fun v w h => h)) (src_in 8 rfl rfl (by simp) rfl (fun v w h => h)) (fun v v' w h h' => exCmp h h')
      · exact g_two (u := .int .i64 (cmpI x y)) (v := .int .i64 (cmpI (x + z) (y + z))) (r := .bool true) hm ⟨by simp [plan], by simp [plan]⟩ (gd_some rfl rfl (by simp) rfl (fun v w h => h)) (src_in 2 rfl rfl (by simp) rfl (fun v w h => h)) (src_in 9 rfl rfl (by simp) rfl (fun v w h => h)) (fun ρ w _ h h' => by simp [execOp, go_sem, h, h', T1.out]) (fun _ => rfl)
      · exact g_pick hm ⟨by simp [plan], by simp [plan]⟩ trivial (src_in 1 rfl rfl (by simp) rfl (fun v w h => h)) (src_in 10 rfl rfl (by simp) rfl (fun v w h => h))
      · exact g_move hm ⟨by simp [plan], by simp [plan]⟩ trivial (src_in 11 rfl rfl (by simp) rfl (fun v w h => h))
      · exact g_move hm ⟨by simp [plan], by simp [plan]⟩ (gd_some rfl rfl (by simp) rfl (fun v w h => h)) (src_out rfl rfl (fun _ _ => rfl))
      · exact g_load (z := y) hm ⟨by simp [plan], by simp [plan]⟩ (gd_some rfl rfl (by simp) rfl (fun v w h => h)) (src_out rfl rfl (fun w h => ⟨rfl, X5_0.mono h⟩)) (fun v w h => h)
      · exact g_load (z := x) hm ⟨by simp [plan], by simp [plan]⟩ (gd_some rfl rfl (by simp) rfl (fun v w h => h)) (src_out rfl rfl (fun w h => ⟨rfl, X3_0.mono h⟩)) (fun v w h => h)
      · exact g_call2 (F := (Fc.num y).P) (G := (Fc.num x).P) hm ⟨by simp [plan], by simp [plan]⟩ (gd_some rfl rfl (by simp) rfl (fun v w h => h)) enter_Cmp (src_in 14 rfl rfl (by simp) rfl (fun v w h => h)) (src_in 15 rfl rfl (by simp) rfl (fun v w h => h)) (fun v v' w h h' => exCmp h h')
      · exact g_one (F := fun v _ => v = .int .i64 (cmpI y x)) hm ⟨by simp [plan], by simp [plan]⟩ (gd_some rfl rfl (by simp) rfl (fun v w h => h)) (src_in 16 rfl rfl (by simp) rfl (fun v w h => h)) (fun ρ w _ h => ⟨.int .i64 (-(cmpI y x)), by simp [execOp, go_sem, h, cmp_neg_wrap y x], rfl⟩)
      · exact g_two (u := .int .i64 (cmpI x y)) (v := .int .i64 (-(cmpI y x))) (r := .bool true) hm ⟨by simp [plan], by simp [plan]⟩ (gd_some rfl rfl (by simp) rfl (fun v w h => h)) (src_in 13 rfl rfl (by simp) rfl (fun v w h => h)) (src_in 17 rfl rfl (by simp) rfl (fun v w h => h)) (fun ρ w _ h h' => by simp [execOp, go_sem, h, h', T2.out]) (fun _ => rfl)
      · exact g_pick hm ⟨by simp [plan], by simp [plan]⟩ trivial (src_in 12 rfl rfl (by simp) rfl (fun v w h => h)) (src_in 18 rfl rfl (by simp) rfl (fun v w h => h))
      · exact g_move hm ⟨by simp [plan], by simp [plan]⟩ trivial (src_in 19 rfl rfl (by simp) rfl (fun v w h => h))
      · exact g_move hm ⟨by simp [plan], by simp [plan]⟩ (gd_some rfl rfl (by simp) rfl (fun v w h => h)) (src_out rfl rfl (fun _ _ => rfl))
      · exact g_load (z := z) hm ⟨by simp [plan], by simp [plan]⟩ (gd_some rfl rfl (by simp) rfl (fun v w h => h)) (src_out rfl rfl (fun w h => ⟨rfl, X7_0.mono h⟩)) (fun v w h => h)
      · exact g_call1 (F := (Fc.num z).P) hm ⟨by simp [plan], by simp [plan]⟩ (gd_some rfl rfl (by simp) rfl (fun v w h => h)) enter_Sign (src_in 22 rfl rfl (by simp) rfl (fun v w h => h)) (fun v w h => exSign h)
      · exact g_two (u := .int .i64 (cmpI x y)) (v := .int .i64 (cmpI z 0)) (r := .int .i64 ((cmpI x y) * (cmpI z 0))) hm ⟨by simp [plan], by simp [plan]⟩ (gd_some rfl rfl (by simp) rfl (fun v w h => h)) (src_in 21 rfl rfl (by simp) rfl (fun v w h => h)) (src_in 23 rfl rfl (by simp) rfl (fun v w h => h)) (fun ρ w _ h h' => by simp [execOp, go_sem, h, h', cmp_mul_wrap x y z 0]) (fun _ => rfl)
      · exact g_load (z := x) hm ⟨by simp [plan], by simp [plan]⟩ (gd_some rfl rfl (by simp) rfl (fun v w h => h)) (src_out rfl rfl (fun w h => ⟨rfl, X3_0.mono h⟩)) (fun v w h => h)
      · exact g_load (z := z) hm ⟨by simp [plan], by simp [plan]⟩ (gd_some rfl rfl (by simp) rfl (fun v w h => h)) (src_out rfl rfl (fun w h => ⟨rfl, X7_0.mono h⟩)) (fun v w h => h)
      · exact g_call2 (F := (Fc.num x).P) (G := (Fc.num z).P) hm ⟨by simp [plan], by simp [plan]⟩ (gd_some rfl rfl (by simp) rfl (fun v w h => h)) enter_Mul (src_in 25 rfl rfl (by simp) rfl (fun v w h => h)) (src_in 26 rfl rfl (by simp) rfl (fun v w h => h)) (fun v v' w h h' => exK (MulV h h') B28.out (by omega))
      · exact g_load (z := y) hm ⟨by simp [plan], by simp [plan]⟩ (gd_some rfl rfl (by simp) rfl (fun v w h => h)) (src_out rfl rfl (fun w h => ⟨rfl, X5_0.mono h⟩)) (fun v w h => h)
      · exact g_load (z := z) hm ⟨by simp [plan], by simp [plan]⟩ (gd_some rfl rfl (by simp) rfl (fun v w h => h)) (src_out rfl rfl (fun w h => ⟨rfl, X7_0.mono h⟩)) (fun v w h => h)
      · exact g_call2 (F := (Fc.num y).P) (G := (Fc.num z).P) hm ⟨by simp [plan], by simp [plan]⟩ (gd_some rfl rfl (by simp) rfl (fun v w h => h)) enter_Mul (src_in 28 rfl rfl (by simp) rfl (fun v w h => h)) (src_in 29 rfl rfl (by simp) rfl (fun v w h => h)) (fun v v' w h h' => exK (MulV h h') B24.out (by omega))
      · exact g_call2 (F := (Fc.num (x * z)).P) (G := (Fc.num (y * z)).P) hm ⟨by simp [plan], by simp [plan]⟩ (gd_some rfl rfl (by simp) rfl (fun v w h => h)) enter_Cmp (src_in 27 rfl rfl (by simp) rfl (fun v w h => h)) (src_in 30 rfl rfl (by simp) rfl (fun v w h => h)) (fun v v' w h h' => exCmp h h')
      · exact g_two (u := .int .i64 ((cmpI x y) * (cmpI z 0))) (v := .int .i64 (cmpI (x * z) (y * z))) (r := .bool true) hm ⟨by simp [plan], by simp [plan]⟩ (gd_some rfl rfl (by simp) rfl (fun v w h => h)) (src_in 24 rfl rfl (by simp) rfl (fun v w h => h)) (src_in 31 rfl rfl (by simp) rfl (fun v w h => h)) (fun ρ w _ h h' => by simp [execOp, go_sem, h, h', T3.out]) (fun _ => rfl)
      · exact g_pick hm ⟨by simp [plan], by simp [plan]⟩ trivial (src_in 20 rfl rfl (by simp) rfl (fun v w h => h)) (src_in 32 rfl rfl (by simp) rfl (fun v w h => h))
      · exact g_move hm ⟨by simp [plan], by simp [plan]⟩ trivial (src_in 33 rfl rfl (by simp) rfl (fun v w h => h))
      · exact g_load (z := (x * y)) hm ⟨by simp [plan], by simp [plan]⟩ (gd_some rfl rfl (by simp) rfl (fun v w h => h)) (src_out rfl rfl (fun w h => ⟨rfl, X13_0.mono h⟩)) (fun v w h => h)
      · exact g_call1 (F := (Fc.num (x * y)).P) hm ⟨by simp [plan], by simp [plan]⟩ (gd_some rfl rfl (by simp) rfl (fun v w h => h)) enter_Sign (src_in 35 rfl rfl (by simp) rfl (fun v w h => h)) (fun v w h => exSign h)
      · exact g_load (z := x) hm ⟨by simp [plan], by simp [plan]⟩ (gd_some rfl rfl (by simp) rfl (fun v w h => h)) (src_out rfl rfl (fun w h => ⟨rfl, X3_0.mono h⟩)) (fun v w h => h)
      · exact g_call1 (F := (Fc.num x).P) hm ⟨by simp [plan], by simp [plan]⟩ (gd_some rfl rfl (by simp) rfl (fun v w h => h)) enter_Sign (src_in 37 rfl rfl (by simp) rfl (fun v w h => h)) (fun v w h => exSign h)
      · exact g_load (z := y) hm ⟨by simp [plan], by simp [plan]⟩ (gd_some rfl rfl (by simp) rfl (fun v w h => h)) (src_out rfl rfl (fun w h => ⟨rfl, X5_0.mono h⟩)) (fun v w h => h)
      · exact g_call1 (F := (Fc.num y).P) hm ⟨by simp [plan], by simp [plan]⟩ (gd_some rfl rfl (by simp) rfl (fun v w h => h)) enter_Sign (src_in 39 rfl rfl (by simp) rfl (fun v w h => h)) (fun v w h => exSign h)
      · exact g_two (u := .int .i64 (cmpI x 0)) (v := .int .i64 (cmpI y 0)) (r := .int .i64 ((cmpI x 0) * (cmpI y 0))) hm ⟨by simp [plan], by simp [plan]⟩ (gd_some rfl rfl (by simp) rfl (fun v w h => h)) (src_in 38 rfl rfl (by simp) rfl (fun v w h => h)) (src_in 40 rfl rfl (by simp) rfl (fun v w h => h)) (fun ρ w _ h h' => by simp [execOp, go_sem, h, h', cmp_mul_wrap x 0 y 0]) (fun _ => rfl)
      · exact g_two (u := .int .i64 (cmpI (x * y) 0)) (v := .int .i64 ((cmpI x 0) * (cmpI y 0))) (r := .bool true) hm ⟨by simp [plan], by simp [plan]⟩ (gd_some rfl rfl (by simp) rfl (fun v w h => h)) (src_in 36 rfl rfl (by simp) rfl (fun v w h => h)) (src_in 41 rfl rfl (by simp) rfl (fun v w h => h)) (fun ρ w _ h h' => by simp [execOp, go_sem, h, h', T4.out]) (fun _ => rfl)
      · exact g_pick hm ⟨by simp [plan], by simp [plan]⟩ trivial (src_in 34 rfl rfl (by simp) rfl (fun v w h => h)) (src_in 42 rfl rfl (by simp) rfl (fun v w h => h))
      · exact g_move hm ⟨by simp [plan], by simp [plan]⟩ trivial (src_in 43 rfl rfl (by simp) rfl (fun v w h => h))
      · exact g_move hm ⟨by simp [plan], by simp [plan]⟩ (gd_some rfl rfl (by simp) rfl (fun v w h => h)) (src_out rfl rfl (fun _ _ => rfl))
      · exact g_load (z := x) hm ⟨by simp [plan], by simp [plan]⟩ (gd_some rfl rfl (by simp) rfl (fun v w h => h)) (src_out rfl rfl (fun w h => ⟨rfl, X3_0.mono h⟩)) (fun v w h => h)
      · exact g_load (z := y) hm ⟨by simp [plan], by simp [plan]⟩ (gd_some rfl rfl (by simp) rfl (fun v w h => h)) (src_out rfl rfl (fun w h => ⟨rfl, X5_0.mono h⟩)) (fun v w h => h)
      · exact g_call2 (F := (Fc.num x).P) (G := (Fc.num y).P) hm ⟨by simp [plan], by simp [plan]⟩ (gd_some rfl rfl (by simp) rfl (fun v w h => h)) enter_Sub (src_in 46 rfl rfl (by simp) rfl (fun v w h => h)) (src_in 47 rfl rfl (by simp) rfl (fun v w h => h)) (fun v v' w h h' => exK (SubV h h') B14.out (by omega))
      · exact g_call1 (F := (Fc.num (x - y)).P) hm ⟨by simp [plan], by simp [plan]⟩ (gd_some rfl rfl (by simp) rfl (fun v w h => h)) enter_Sign (src_in 48 rfl rfl (by simp) rfl (fun v w h => h)) (fun v w h => exSign h)
      · exact g_two (u := .int .i64 (cmpI x y)) (v := .int .i64 (cmpI (x - y) 0)) (r := .bool true) hm ⟨by simp [plan], by simp [plan]⟩ (gd_some rfl rfl (by simp) rfl (fun v w h => h)) (src_in 45 rfl rfl (by simp) rfl (fun v w h => h)) (src_in 49 rfl rfl (by simp) rfl (fun v w h => h)) (fun ρ w _ h h' => by simp [execOp, go_sem, h, h', T5.out]) (fun _ => rfl)
      · exact g_pick hm ⟨by simp [plan], by simp [plan]⟩ trivial (src_in 44 rfl rfl (by simp) rfl (fun v w h => h)) (src_in 50 rfl rfl (by simp) rfl (fun v w h => h))
      · exact g_assign hm ⟨by simp [plan], by simp [plan]⟩ trivial (src_in 51 rfl rfl (by simp) rfl (fun v w h => h))
      intro L vs w37 hL hG
      have e0 : vs 0 = .bool true := hG.val 0 (hL 0 (by simp))
      have e1 : vs 1 = .bool true := hG.val 1 (hL 1 (by simp))
      have e2 : vs 2 = .int .i64 (cmpI x y) := hG.val 2 (hL 2 (by simp))
      have e9 : vs 9 = .int .i64 (cmpI (x + z) (y + z)) := hG.val 9 (hL 9 (by simp))
      have e10 : vs 10 = .bool true := hG.val 10 (hL 10 (by simp))
      have e11 : vs 11 = .bool true := hG.val 11 (hL 11 (by simp))
      have e12 : vs 12 = .bool true := hG.val 12 (hL 12 (by simp))
      have e13 : vs 13 = .int .i64 (cmpI x y) := hG.val 13 (hL 13 (by simp))
      have e16 : vs 16 = .int .i64 (cmpI y x) := hG.val 16 (hL 16 (by simp))
      have e17 : vs 17 = .int .i64 (-(cmpI y x)) := hG.val 17 (hL 17 (by simp))
      have e18 : vs 18 = .bool true := hG.val 18 (hL 18 (by simp))
      have e19 : vs 19 = .bool true := hG.val 19 (hL 19 (by simp))
      have e20 : vs 20 = .bool true := hG.val 20 (hL 20 (by simp))
      have e21 : vs 21 = .int .i64 (cmpI x y) := hG.val 21 (hL 21 (by simp))
      have e23 : vs 23 = .int .i64 (cmpI z 0) := hG.val 23 (hL 23 (by simp))
      have e24 : vs 24 = .int .i64 ((cmpI x y) * (cmpI z 0)) := hG.val 24 (hL 24 (by simp))
      have e31 : vs 31 = .int .i64 (cmpI (x * z) (y * z)) := hG.val 31 (hL 31 (by simp))
      have e32 : vs 32 = .bool true := hG.val 32 (hL 32 (by simp))
      have e33 : vs 33 = .bool true := hG.val 33 (hL 33 (by simp))
      have e34 : vs 34 = .bool true := hG.val 34 (hL 34 (by simp))
      have e36 : vs 36 = .int .i64 (cmpI (x * y) 0) := hG.val 36 (hL 36 (by simp))
      have e38 : vs 38 = .int .i64 (cmpI x 0) := hG.val 38 (hL 38 (by simp))
      have e40 : vs 40 = .int .i64 (cmpI y 0) := hG.val 40 (hL 40 (by simp))
      have e41 : vs 41 = .int .i64 ((cmpI x 0) * (cmpI y 0)) := hG.val 41 (hL 41 (by simp))
      have e42 : vs 42 = .bool true := hG.val 42 (hL 42 (by simp))
      have e43 : vs 43 = .bool true := hG.val 43 (hL 43 (by simp))
      have e44 : vs 44 = .bool true := hG.val 44 (hL 44 (by simp))
      have e45 : vs 45 = .int .i64 (cmpI x y) := hG.val 45 (hL 45 (by simp))
      have e49 : vs 49 = .int .i64 (cmpI (x - y) 0) := hG.val 49 (hL 49 (by simp))
      have e50 : vs 50 = .bool true := hG.val 50 (hL 50 (by simp))
      have e51 : vs 51 = .bool true := hG.val 51 (hL 51 (by simp))
      have e52 : vs 52 = .bool true := hG.val 52 (hL 52 (by simp))
      have hb := hG.below
      replace E := E.mono hb
      rw [lay_all hL]
      simp only [putAll, dstOf, List.length_cons, List.length_nil, Nat.zero_add, Nat.reduceAdd, List.getElem?_toArray, List.getElem?_cons_zero, List.getElem?_cons_succ, Option.bind_some, Act.put, List.setIfInBounds_toArray, List.set_cons_succ, List.set_cons_zero]
      rw [e0, e1, e2, e9, e10, e11, e12, e13, e16, e17, e18, e19, e20, e21, e23, e24, e31, e32, e33, e34, e36, e38, e40, e41, e42, e43, e44, e45, e49, e50, e51, e52]
      generalize vs 3 = u37_3
      generalize vs 4 = u37_4
      generalize vs 5 = u37_5
      generalize vs 6 = u37_6
      generalize vs 7 = u37_7
      generalize vs 8 = u37_8
      generalize vs 14 = u37_14
      generalize vs 15 = u37_15
      generalize vs 22 = u37_22
      generalize vs 25 = u37_25
      generalize vs 26 = u37_26
      generalize vs 27 = u37_27
      generalize vs 28 = u37_28
      generalize vs 29 = u37_29
      generalize vs 30 = u37_30
      generalize vs 35 = u37_35
      generalize vs 37 = u37_37
      generalize vs 39 = u37_39
      generalize vs 46 = u37_46
      generalize vs 47 = u37_47
      generalize vs 48 = u37_48
      clear hb hG hp hm hL vs L e0 e1 e2 e9 e10 e11 e12 e13 e16 e17 e18 e19 e20 e21 e23 e24 e31 e32 e33 e34 e36 e38 e40 e41 e42 e43 e44 e45 e49 e50 e51 e52 X3_0 X7_0 X5_0 X13_0
      go_wp2
      go_ret
      exact ⟨rfl, E.below⟩

end Go.Proofs.Ytplpammfbljaoaa
