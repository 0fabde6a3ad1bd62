/- Walk of the law on roots and powers against the reference. -/
import Derived.Test.YtplpammfbljaoaaRm
namespace Go.Proofs.Ytplpammfbljaoaa
open Go Go.RowKit

theorem enter_rMade (args : Array Value) (w : World) : (callFunc 12 args).run Try.prog w = .ok (.enter 12 args) w := enter_of Try.func12 (by kernel_rfl) rfl args w
theorem exRCmp {w : World} {v v' : Value} {z z' : Int} (h : Num w v z) (h' : Num w v' z') : Calls Try.prog 30 #[v, v'] w fun e w' => ∃ v', e = .returned v' ∧ Below w.heap.size w w' ∧ v' = .int .i64 (cmpI z z') := exRCmp' h h'
theorem enter_rCmp (args : Array Value) (w : World) : (callFunc 30 args).run Try.prog w = .ok (.enter 30 args) w := enter_rCmp' args w

open Classical in
noncomputable def rootOf (X : Int) (K : Nat) : Int := if h : ∃ r, IsRoot X K r then Classical.choose h else 0

theorem rootOf_eq {X : Int} {K : Nat} {r : Int} (h : IsRoot X K r) : r = rootOf X K := by
  have he : ∃ r, IsRoot X K r := ⟨r, h⟩
  unfold rootOf
  rw [dif_pos he]
  exact h.unique (Classical.choose_spec he)

def sqE (x : Int) : Int := if x < 0 then 1 else 0
noncomputable def sqS (x : Int) : Int := if x < 0 then 0 else rootOf x 2
noncomputable def sqT (x : Int) : Int := if x < 0 then 0 else x - rootOf x 2 * rootOf x 2
def roE (x k : Int) : Int := if x < 0 ∨ k < 1 then 1 else 0
noncomputable def roV (x k : Int) : Int := if x < 0 ∨ k < 1 then 0 else rootOf x k.toNat
open Classical in
noncomputable def poE (z k : Int) : Int := if k < 0 ∨ 4096 < k then 1 else if lim 4096 ≤ z ^ k.toNat ∨ z ^ k.toNat ≤ -lim 4096 then 2 else 0
open Classical in
noncomputable def poV (z k : Int) : Int := if k < 0 ∨ 4096 < k then 0 else if lim 4096 ≤ z ^ k.toNat ∨ z ^ k.toNat ≤ -lim 4096 then 0 else z ^ k.toNat

/-- One number and an error. -/
def OneE (w : World) (z er : Int) (e : Ending) (w' : World) : Prop :=
  ∃ (n : Bool) (ao : Option Addr) (k c : Nat), e = .returned (.tuple #[.agg #[.bool n, .slice ao k c], .int .i64 er]) ∧ Below w.heap.size w w' ∧ Num w' (.agg #[.bool n, .slice ao k c]) z
/-- Two numbers and an error. -/
def TwoE (w : World) (z z' er : Int) (e : Ending) (w' : World) : Prop :=
  ∃ (n : Bool) (ao : Option Addr) (k c : Nat) (n' : Bool) (ao' : Option Addr) (k' c' : Nat), e = .returned (.tuple #[.agg #[.bool n, .slice ao k c], .agg #[.bool n', .slice ao' k' c'], .int .i64 er]) ∧ Below w.heap.size w w' ∧
    Num w' (.agg #[.bool n, .slice ao k c]) z ∧ Num w' (.agg #[.bool n', .slice ao' k' c']) z'

theorem sqrtU {w : World} {x : Int} {e : Ending} {w' : World} (h : SqrtGives w x e w') {K : Nat} (hx : ab x < pw K) (hK : K ≤ 900000) : TwoE w (sqS x) (sqT x) (sqE x) e w' := by
  obtain ⟨hb, ⟨h0, rfl⟩ | ⟨h0, v, v', r, rfl, i1, i2, hr⟩⟩ := h
  · have e1 : sqS x = 0 := if_pos h0
    have e2 : sqT x = 0 := if_pos h0
    have e3 : sqE x = 1 := if_pos h0
    rw [e1, e2, e3]
    exact ⟨_, _, _, _, _, _, _, _, rfl, hb, Num.zero _, Num.zero _⟩
  · have hr1 := rootOf_eq hr
    have e1 : sqS x = r := by rw [hr1]; exact if_neg (by omega)
    have e2 : sqT x = x - r * r := by rw [hr1]; exact if_neg (by omega)
    have e3 : sqE x = 0 := if_neg (by omega)
    have h2 := root_le (by decide) hr.1 hr.2.1 h0
    have h3 : r * r ≤ x := by have := hr.2.1; rw [Int.pow_succ, Int.pow_succ, Int.pow_zero, Int.one_mul] at this; exact this
    have h4 := Int.mul_nonneg hr.1 hr.1
    have n1 := num_of i1 (k := K) (by have := hr.1; unfold ab at *; omega) hK
    have n2 := num_of i2 (k := K) (by unfold ab at *; omega) hK
    obtain ⟨n, ao, k, c, rfl⟩ := n1.parts
    obtain ⟨n', ao', k', c', rfl⟩ := n2.parts
    rw [e1, e2, e3]
    exact ⟨_, _, _, _, _, _, _, _, rfl, hb, n1, n2⟩

theorem rootU {w : World} {x k : Int} {e : Ending} {w' : World} (h : RootGives w x k e w') {K : Nat} (hx : ab x < pw K) (hK : K ≤ 900000) : OneE w (roV x k) (roE x k) e w' ∧ (¬ (x < 0 ∨ k < 1) → IsRoot x k.toNat (roV x k)) := by
  obtain ⟨hb, ⟨h0, rfl⟩ | ⟨⟨h0, h1⟩, v, r, rfl, i1, hr⟩⟩ := h
  · have e1 : roV x k = 0 := if_pos h0
    have e3 : roE x k = 1 := if_pos h0
    rw [e1, e3]
    exact ⟨⟨_, _, _, _, rfl, hb, Num.zero _⟩, fun h => absurd h0 h⟩
  · have e1 : roV x k = r := by rw [rootOf_eq hr]; exact if_neg (by omega)
    have e3 : roE x k = 0 := if_neg (by omega)
    have h2 := root_le (by omega) hr.1 hr.2.1 h0
    have n1 := num_of i1 (k := K) (by have := hr.1; unfold ab at *; omega) hK
    obtain ⟨n, ao, kk, c, rfl⟩ := n1.parts
    rw [e1, e3]
    exact ⟨⟨_, _, _, _, rfl, hb, n1⟩, fun _ => hr⟩

theorem lim_pwR (k j : Nat) (h : 32 * j = k) : lim k = pw j := by unfold lim; rw [pw_two, h]

theorem powU {w : World} {z k : Int} {e : Ending} {w' : World} (h : PowGives w z k e w') : OneE w (poV z k) (poE z k) e w' := by
  obtain ⟨hb, ⟨h0, rfl⟩ | ⟨h0, h1, h2, rfl⟩ | ⟨h0, h1, h2, h3, v, rfl, i1⟩⟩ := h
  · have e1 : poV z k = 0 := if_pos h0
    have e3 : poE z k = 1 := if_pos h0
    rw [e1, e3]
    exact ⟨_, _, _, _, rfl, hb, Num.zero _⟩
  · have e1 : poV z k = 0 := (if_neg (by omega)).trans (if_pos h2)
    have e3 : poE z k = 2 := (if_neg (by omega)).trans (if_pos h2)
    rw [e1, e3]
    exact ⟨_, _, _, _, rfl, hb, Num.zero _⟩
  · have e1 : poV z k = z ^ k.toNat := (if_neg (by omega)).trans (if_neg (by omega))
    have e3 : poE z k = 0 := (if_neg (by omega)).trans (if_neg (by omega))
    have n1 := num_of i1 (k := 128) (by rw [← lim_pwR 4096 128 rfl]; unfold ab; omega) (by omega)
    obtain ⟨n, ao, kk, c, rfl⟩ := n1.parts
    rw [e1, e3]
    exact ⟨_, _, _, _, rfl, hb, n1⟩

/-- A sign and words as a value. -/
def Fc.rawv (n : Bool) (a : Option Addr) (m c : Nat) (ys : List Int) : Fc := ⟨fun v w => v = .agg #[.bool n, .slice a m c] ∧ Sl w a m c ys, fun h hb => ⟨h.1, h.2.mono hb⟩, fun h hb n' a' k' c' => by
  obtain ⟨p, q, r, t, hI, _⟩ := hb
  exact ⟨h.1, h.2.putBox hI n' a' k' c'⟩⟩

theorem ab_powR {x : Int} {k : Nat} (hx : ab x < pw k) (n : Nat) : ab (x ^ n) < pw (k * n + 1) := by
  induction n with
  | zero => show ab (x ^ 0) < pw 1; rw [Int.pow_zero]; decide
  | succ n ih =>
    rw [Int.pow_succ, show k * (n + 1) + 1 = (k * n + 1) + k by rw [Nat.mul_succ]; omega]
    exact ab_mulB ih hx

theorem powers_bd {x : Int} {k : Nat} (hx : ab x < pw k) (hk : k ≤ 9) {K : Nat} (hK : K ≤ 40) : ∀ j, j ≤ 2 * K + 1 → ab (x ^ j) < pw 60600 := fun j hj => by
  have h1 := ab_powR hx j
  have h2 := Nat.mul_le_mul hk (show j ≤ 81 by omega)
  have h3 := pw_le (show k * j + 1 ≤ 60600 by omega)
  omega

set_option maxRecDepth 100000 in
set_option maxHeartbeats 16000000 in
theorem IntegerRoots_any (w : World) (n1 : Bool) (a1 : Option Addr) (k1 c1 : Nat) (xs1 : List Int) (h1 : Sl w a1 k1 c1 xs1) (hk1 : k1 ≤ 9223372036854775807) (p : Int) (hp1 : -9223372036854775808 ≤ p) (hp2 : p ≤ 9223372036854775807) (q : Int) (hq1 : -9223372036854775808 ≤ q) (hq2 : q ≤ 9223372036854775807) :
    Calls Try.prog 4 #[.agg #[.bool n1, .slice a1 k1 c1], .int .i64 p, .int .i64 q] w fun e w' => e = .returned (.bool true) ∧ Below w.heap.size w w' := by
  obtain ⟨x, hx⟩ : ∃ x, x = sgn n1 (val (xs1.take 8)) := ⟨_, rfl⟩
  have Bx : Hid (ab x < pw 8) := by rw [hx]; exact Num.ofMade h1.digs
  have Hx := hidd hx
  clear hx
  go_enter Try.func4, Try.ntmps4
  go_upto_region 1 with (fail)
  obtain ⟨w0, hw0, E⟩ := raw_boxes1 w (n1 := n1) h1 24
  rw [← hw0]
  clear hw0
  go_wp2_with fail
  refine (examples_any _).mono ?_
  rintro e w1 ⟨rfl, hb⟩
  replace E := E.mono hb
  clear hb
  obtain ⟨⟨d0, d1, d2, d3⟩, hS⟩ := E.raws.1
  go_wp2_with fail
  refine (exKP (z := x) (by rw [Hx.out]; exact Made_any _ _ _ _ _ _ hS hk1 8 (by omega)) Bx.out (by omega)).mono ?_
  rintro e w2 ⟨n2', ao2, kk2, c2', rfl, hb, hN2⟩
  replace E := E.mono hb
  clear hb
  clear d0 d1 d2 d3 hS
  go_upto_region 5 with (fail)
  obtain ⟨w3, hw3, hb, p3_0⟩ := boxOne hN2 27
  rw [← hw3]
  clear hw3
  replace E := E.mono hb
  replace E := E.push p3_0
  clear hb p3_0
  have Hp := hidd (show -9223372036854775808 ≤ p ∧ p ≤ 9223372036854775807 from ⟨hp1, hp2⟩)
  have Hq := hidd (show -9223372036854775808 ≤ q ∧ q ≤ 9223372036854775807 from ⟨hq1, hq2⟩)
  obtain ⟨nd, aod, kkd, ccd, ⟨d0, d1, d2, d3⟩, hNd⟩ := E.bs.1
  go_wp2_with fail
  refine (SqrtV hNd (Int.lt_of_lt_of_le Bx.out (pw_le (by omega)))).mono fun e w' hh => ?_
  replace hh := sqrtU hh Bx.out (by omega)
  revert hh; revert w'; revert e
  rintro e w4 ⟨n4, ao4, k4, c4, n4', ao4', k4', c4', rfl, hb, hq4, hr4⟩
  replace E := E.mono hb
  clear hb
  clear d0 d1 d2 d3 hNd
  go_upto_region 6 with (fail)
  obtain ⟨w5, hw5, hb, p5_0, p5_1⟩ := boxTwo hq4 hr4 27
  rw [← hw5]
  clear hw5
  replace E := E.mono hb
  replace E := E.push p5_0
  replace E := E.push p5_1
  clear hb p5_0 p5_1
  obtain ⟨nd, aod, kkd, ccd, ⟨d0, d1, d2, d3⟩, hNd⟩ := E.bs.2.2.1
  go_wp2_with fail
  refine (RSqrtV hNd (Int.lt_of_lt_of_le Bx.out (pw_le (by omega)))).mono fun e w' hh => ?_
  replace hh := sqrtU hh Bx.out (by omega)
  revert hh; revert w'; revert e
  rintro e w6 ⟨n6, ao6, k6, c6, n6', ao6', k6', c6', rfl, hb, hq6, hr6⟩
  replace E := E.mono hb
  clear hb
  clear d0 d1 d2 d3 hNd
  go_upto_region 7 with (fail)
  obtain ⟨w7, hw7, hb, p7_0, p7_1⟩ := boxTwo hq6 hr6 27
  rw [← hw7]
  clear hw7
  replace E := E.mono hb
  replace E := E.push p7_0
  replace E := E.push p7_1
  clear hb p7_0 p7_1
  obtain ⟨nd, aod, kkd, ccd, ⟨d0, d1, d2, d3⟩, hNd⟩ := E.bs.2.2.2.2.1
  go_wp2_with fail
  refine (RootV hNd (Int.lt_of_lt_of_le Bx.out (pw_le (by omega))) p Hp.out.1 Hp.out.2).mono fun e w' hh => ?_
  replace hh := rootU hh Bx.out (by omega)
  revert hh; revert w'; revert e
  rintro e w8 ⟨⟨n8, ao8, k8, c8, rfl, hb, hq8⟩, hroot⟩
  have HRoot := hidd hroot
  clear hroot
  replace E := E.mono hb
  clear hb
  clear d0 d1 d2 d3 hNd
  go_upto_region 8 with (fail)
  obtain ⟨w9, hw9, hb, p9_0⟩ := boxOne hq8 27
  rw [← hw9]
  clear hw9
  replace E := E.mono hb
  replace E := E.push p9_0
  clear hb p9_0
  obtain ⟨nd, aod, kkd, ccd, ⟨d0, d1, d2, d3⟩, hNd⟩ := E.bs.2.2.2.2.2.1
  go_wp2_with fail
  refine (RRootV hNd (Int.lt_of_lt_of_le Bx.out (pw_le (by omega))) p Hp.out.1 Hp.out.2).mono fun e w' hh => ?_
  replace hh := rootU hh Bx.out (by omega)
  revert hh; revert w'; revert e
  rintro e w10 ⟨⟨n10, ao10, k10, c10, rfl, hb, hq10⟩, hroot⟩
  have HRoot := hidd hroot
  clear hroot
  replace E := E.mono hb
  clear hb
  clear d0 d1 d2 d3 hNd
  go_upto_region 9 with (fail)
  obtain ⟨w11, hw11, hb, p11_0⟩ := boxOne hq10 27
  rw [← hw11]
  clear hw11
  replace E := E.mono hb
  replace E := E.push p11_0
  clear hb p11_0
  obtain ⟨⟨d0, d1, d2, d3⟩, hS⟩ := E.raws.1
  have hlr : w.heap.size < w11.heap.size := World.block_lt_of_cell? _ _ d0
  obtain ⟨m, hm⟩ : ∃ m : Nat, m = min k1 2 := ⟨_, rfl⟩
  have hmi : (if (2 : Int) < (k1 : Int) then (2 : Int) else (k1 : Int)) = (m : Int) := by split <;> omega
  have hmn : m ≤ k1 := by omega
  clear hm
  have hcm : ¬ c1 < m := by have := hS.cap; omega
  obtain ⟨y, hy⟩ : ∃ y, y = sgn n1 (val ((xs1.take m).take 2)) := ⟨_, rfl⟩
  have By : Hid (ab y < pw 2) := by rw [hy]; exact Num.ofMade (hS.digs.take m)
  have Hy := hidd hy
  clear hy
  have q0 : ∀ W, Below w11.heap.size w11 W → W.cell? ⟨w.heap.size, 0, none⟩ = some (.bool n1) := fun W h => (h.cell (p := ⟨w.heap.size, 0, none⟩) hlr).trans d0
  have q1 : ∀ W, Below w11.heap.size w11 W → W.cell? ⟨w.heap.size, 1, none⟩ = some (.slice a1 k1 c1) := fun W h => (h.cell (p := ⟨w.heap.size, 1, none⟩) hlr).trans d1
  go_wp2
  have hp : (plan [Fc.is (.pointer (some ⟨w.heap.size, 0, none⟩)), Fc.is (.bool n1), Fc.is (.pointer (some ⟨w.heap.size, 1, none⟩)), Fc.is (.slice a1 k1 c1), Fc.is (.pointer (some ⟨w.heap.size, 1, none⟩)), Fc.is (.slice a1 k1 c1), Fc.is (.int .i64 k1), Fc.is (.int .i64 m), Fc.is (.slice a1 m c1), Fc.rawv n1 a1 m c1 (xs1.take m), Fc.num y, Fc.any, Fc.any] [] [(11, 12, y)]).Ok w11.heap.size w11.heap.size := plan_ok (by simp) (by simp) (by simp) (by omega)
  have hm := PMono.of hp
  refine region_steps (p := (plan [Fc.is (.pointer (some ⟨w.heap.size, 0, none⟩)), Fc.is (.bool n1), Fc.is (.pointer (some ⟨w.heap.size, 1, none⟩)), Fc.is (.slice a1 k1 c1), Fc.is (.pointer (some ⟨w.heap.size, 1, none⟩)), Fc.is (.slice a1 k1 c1), Fc.is (.int .i64 k1), Fc.is (.int .i64 m), Fc.is (.slice a1 m c1), Fc.rawv n1 a1 m c1 (xs1.take m), Fc.num y, Fc.any, Fc.any] [] [(11, 12, y)])) (B := w11.heap.size) (B0 := w11.heap.size) (w0 := w11) (by kernel_rfl) rfl rfl (plan_start (by simp) (Below.refl _ _)) ⟨?_, ?_, ?_, ?_, ?_, ?_, ?_, ?_, ?_, ?_, ?_, ?_, ?_, trivial⟩ ?_
  · exact g_one (x := .tmp 3) (F := fun v _ => v = .pointer (some ⟨w.heap.size, 0, none⟩)) hm ⟨by simp [plan], by simp [plan]⟩ trivial (src_out rfl rfl (fun _ _ => rfl)) (fun ρ W _ h => ⟨_, by simp [execOp, go_sem, h], rfl⟩)
  · exact g_one (x := .tmp 54) (F := fun v W => v = .pointer (some ⟨w.heap.size, 0, none⟩) ∧ W.cell? ⟨w.heap.size, 0, none⟩ = some (.bool n1)) hm ⟨by simp [plan], by simp [plan]⟩ trivial (fun L vs W hG hd => ⟨src_in 0 rfl rfl (by simp) rfl (fun v w h => h) L vs W hG hd, q0 W hG.below⟩) (fun ρ W _ h => ⟨_, by simp [execOp, go_sem, h.1, h.2], rfl⟩)
  · exact g_one (x := .tmp 3) (F := fun v _ => v = .pointer (some ⟨w.heap.size, 0, none⟩)) hm ⟨by simp [plan], by simp [plan]⟩ trivial (src_out rfl rfl (fun _ _ => rfl)) (fun ρ W _ h => ⟨_, by simp [execOp, go_sem, h], rfl⟩)
  · exact g_one (x := .tmp 56) (F := fun v W => v = .pointer (some ⟨w.heap.size, 1, none⟩) ∧ W.cell? ⟨w.heap.size, 1, none⟩ = some (.slice a1 k1 c1)) hm ⟨by simp [plan], by simp [plan]⟩ trivial (fun L vs W hG hd => ⟨src_in 2 rfl rfl (by simp) rfl (fun v w h => h) L vs W hG hd, q1 W hG.below⟩) (fun ρ W _ h => ⟨_, by simp [execOp, go_sem, h.1, h.2], rfl⟩)
  · exact g_one (x := .tmp 3) (F := fun v _ => v = .pointer (some ⟨w.heap.size, 0, none⟩)) hm ⟨by simp [plan], by simp [plan]⟩ trivial (src_out rfl rfl (fun _ _ => rfl)) (fun ρ W _ h => ⟨_, by simp [execOp, go_sem, h], rfl⟩)
  · exact g_one (x := .tmp 58) (F := fun v W => v = .pointer (some ⟨w.heap.size, 1, none⟩) ∧ W.cell? ⟨w.heap.size, 1, none⟩ = some (.slice a1 k1 c1)) hm ⟨by simp [plan], by simp [plan]⟩ trivial (fun L vs W hG hd => ⟨src_in 4 rfl rfl (by simp) rfl (fun v w h => h) L vs W hG hd, q1 W hG.below⟩) (fun ρ W _ h => ⟨_, by simp [execOp, go_sem, h.1, h.2], rfl⟩)
  · exact g_one (x := .tmp 59) (F := fun v _ => v = .slice a1 k1 c1) hm ⟨by simp [plan], by simp [plan]⟩ trivial (src_in 5 rfl rfl (by simp) rfl (fun v w h => h)) (fun ρ W _ h => ⟨_, by simp [go_sem, h], rfl⟩)
  · exact g_one (x := .tmp 60) (F := fun v _ => v = .int .i64 k1) hm ⟨by simp [plan], by simp [plan]⟩ trivial (src_in 6 rfl rfl (by simp) rfl (fun v w h => h)) (fun ρ W hc h => ⟨.int .i64 m, by simp [go_sem, h, hc, hmi], rfl⟩)
  · exact g_two (x := .tmp 57) (y := .tmp 61) (u := .slice a1 k1 c1) (v := .int .i64 m) (r := .slice a1 m c1) hm ⟨by simp [plan], by simp [plan]⟩ trivial (src_in 3 rfl rfl (by simp) rfl (fun v w h => h)) (src_in 7 rfl rfl (by simp) rfl (fun v w h => h)) (fun ρ W _ h1 h2 => by simp [execOp, go_sem, h1, h2, hcm]) (fun _ => rfl)
  · exact g_run2 (x := .tmp 55) (y := .tmp 62) (F := fun v _ => v = .bool n1) (G := fun v _ => v = .slice a1 m c1) hm ⟨by simp [plan], by simp [plan]⟩ trivial (src_in 1 rfl rfl (by simp) rfl (fun v w h => h)) (src_in 8 rfl rfl (by simp) rfl (fun v w h => h)) (fun ρ W _ hW h1 h2 => ⟨.agg #[.bool n1, .slice a1 m c1], W, by simp [execOp, go_sem, h1, h2], Below.refl _ _, rfl, (hS.take hmn).mono hW⟩)
  · exact g_call2 (F := (Fc.rawv n1 a1 m c1 (xs1.take m)).P) (G := fun v _ => v = .int .i64 2) hm ⟨by simp [plan], by simp [plan]⟩ trivial enter_rMade (src_in 9 rfl rfl (by simp) rfl (fun v w h => h)) (src_const (fun _ => rfl)) (fun v v' W h h' => by obtain ⟨rfl, hs⟩ := h; subst h'; exact exK (by rw [Hy.out]; exact Made_any _ _ _ _ _ _ hs (by omega) 2 (by omega)) By.out (by omega))
  · exact st_alloc (k := 12) (z := y) hp (by simp [plan]) rfl (fun _ _ => trivial) (by simp [plan]) (by simp [plan])
  · exact st_storeNew (i0 := 11) (j := 10) (z := y) hp rfl (by simp [plan]) rfl (by simp) rfl rfl (by simp) rfl (fun v w h => h) (fun _ _ => trivial) (by simp [plan]) (by simp [plan])
  intro L vs w12 hL hG
  obtain ⟨b19, e11, _, x11⟩ := hG.new (11, 12, y) (by simp [plan]) (hL 11 (by simp))
  have X19 : BoxNum w12 b19 y := by have h := x11; simp only [hL 12 (by simp), if_true] at h; exact h
  have hb := hG.below
  replace E := E.mono hb
  replace E := E.push X19
  rw [lay_all hL]
  simp only [putAll, dstOf, List.length_cons, List.length_nil, Nat.zero_add, Nat.reduceAdd, List.getElem?_toArray, List.getElem?_cons_zero, List.getElem?_cons_succ, Option.bind_some, Act.put, List.setIfInBounds_toArray, List.set_cons_succ, List.set_cons_zero]
  rw [e11]
  generalize vs 0 = u12_0
  generalize vs 1 = u12_1
  generalize vs 2 = u12_2
  generalize vs 3 = u12_3
  generalize vs 4 = u12_4
  generalize vs 5 = u12_5
  generalize vs 6 = u12_6
  generalize vs 7 = u12_7
  generalize vs 8 = u12_8
  generalize vs 9 = u12_9
  generalize vs 10 = u12_10
  clear hb hG hp hm hL vs L e11 x11 X19 q0 q1 hmi hmn hcm d0 d1 d2 d3 hS hlr
  obtain ⟨nd, aod, kkd, ccd, ⟨d0, d1, d2, d3⟩, hNd⟩ := E.bs.1
  go_wp2_with fail
  refine (PowV hNd (Int.lt_of_lt_of_le By.out (pw_le (by omega))) q Hq.out.1 Hq.out.2).mono fun e w' hh => ?_
  replace hh := powU hh
  revert hh; revert w'; revert e
  rintro e w13 ⟨n13, ao13, k13, c13, rfl, hb, hq13⟩
  replace E := E.mono hb
  clear hb
  clear d0 d1 d2 d3 hNd
  go_upto_region 11 with (fail)
  obtain ⟨w14, hw14, hb, p14_0⟩ := boxOne hq13 27
  rw [← hw14]
  clear hw14
  replace E := E.mono hb
  replace E := E.push p14_0
  clear hb p14_0
  obtain ⟨nd, aod, kkd, ccd, ⟨d0, d1, d2, d3⟩, hNd⟩ := E.bs.2.1
  go_wp2_with fail
  refine (RPowV hNd (Int.lt_of_lt_of_le By.out (pw_le (by omega))) q Hq.out.1 Hq.out.2).mono fun e w' hh => ?_
  replace hh := powU hh
  revert hh; revert w'; revert e
  rintro e w15 ⟨n15, ao15, k15, c15, rfl, hb, hq15⟩
  replace E := E.mono hb
  clear hb
  clear d0 d1 d2 d3 hNd
  go_upto_region 12 with (fail)
  obtain ⟨w16, hw16, hb, p16_0⟩ := boxOne hq15 27
  rw [← hw16]
  clear hw16
  replace E := E.mono hb
  replace E := E.push p16_0
  clear hb p16_0
  obtain ⟨nd, aod, kkd, ccd, ⟨d0, d1, d2, d3⟩, hNd⟩ := E.bs.2.2.2.2.2.2.2.2.1
  obtain ⟨nf, aof, kkf, ccf, ⟨f0, f1, f2, f3⟩, hNf⟩ := E.bs.2.2.2.2.2.2.1
  go_wp2_with fail
  refine (exSame hNd hNf rfl).mono ?_
  rintro e w17 ⟨_, rfl, hb, rfl⟩
  replace E := E.mono hb
  clear hb
  clear d0 d1 d2 d3 hNd f0 f1 f2 f3 hNf
  obtain ⟨nd, aod, kkd, ccd, ⟨d0, d1, d2, d3⟩, hNd⟩ := E.bs.2.2.2.2.2.2.2.1
  obtain ⟨nf, aof, kkf, ccf, ⟨f0, f1, f2, f3⟩, hNf⟩ := E.bs.2.2.2.2.2.1
  go_wp2_with fail
  refine (exSame hNd hNf rfl).mono ?_
  rintro e w18 ⟨_, rfl, hb, rfl⟩
  replace E := E.mono hb
  clear hb
  clear d0 d1 d2 d3 hNd f0 f1 f2 f3 hNf
  obtain ⟨nd, aod, kkd, ccd, ⟨d0, d1, d2, d3⟩, hNd⟩ := E.bs.2.2.2.2.1
  obtain ⟨nf, aof, kkf, ccf, ⟨f0, f1, f2, f3⟩, hNf⟩ := E.bs.2.2.2.1
  go_wp2_with fail
  refine (exSame hNd hNf rfl).mono ?_
  rintro e w19 ⟨_, rfl, hb, rfl⟩
  replace E := E.mono hb
  clear hb
  clear d0 d1 d2 d3 hNd f0 f1 f2 f3 hNf
  obtain ⟨nd, aod, kkd, ccd, ⟨d0, d1, d2, d3⟩, hNd⟩ := E.bs.2.1
  obtain ⟨nf, aof, kkf, ccf, ⟨f0, f1, f2, f3⟩, hNf⟩ := E.bs.1
  go_wp2_with fail
  refine (exSame hNd hNf rfl).mono ?_
  rintro e w20 ⟨_, rfl, hb, rfl⟩
  replace E := E.mono hb
  clear hb
  clear d0 d1 d2 d3 hNd f0 f1 f2 f3 hNf
  go_upto_region 14 with (fail)
  by_cases hA : x < 0 ∨ p < 1
  · have hre : roE x p = 1 := if_pos hA
    rw [hre]
    clear hre hA
    go_wp2
    go_ret
    exact ⟨rfl, E.below⟩
  · have hre : roE x p = 0 := if_neg hA
    rw [hre]
    obtain ⟨K, hK⟩ : ∃ K : Nat, p = K := ⟨p.toNat, by omega⟩
    have HA := hidd (show 0 ≤ x ∧ 1 ≤ K by omega)
    clear hre hA
    subst hK
    by_cases hB : 40 < K
    · have hB2 : ((40 : Int) < (K : Int)) = True := by simp; omega
      clear hB
      go_wp2
      go_ret
      exact ⟨rfl, E.below⟩
    · have HKb := hidd (show K ≤ 40 by omega)
      have hB2 : ((40 : Int) < (K : Int)) = False := by simp; omega
      clear hB
      go_wp2_with fail
      clear hB2
      refine (rOfV _ (1) (by omega) (by omega)).mono ?_
      rintro e wO ⟨v1, rfl, hb, hN1⟩
      obtain ⟨nO, aoO, kO, cO, rfl⟩ := hN1.parts
      replace E := E.mono hb
      clear hb
      have B1o : Hid (ab (1) < pw 2) := by show ab 1 < pw 2; decide
      go_upto_region 17 with (fail)
      obtain ⟨w21, hw21, hb, p21_0⟩ := boxOne hN1 27
      rw [← hw21]
      clear hw21
      replace E := E.mono hb
      replace E := E.push p21_0
      clear hb p21_0
      have hr : IsRoot x K (roV x (K : Int)) := by have h := HRoot.out (by have := HA.out; omega); rw [Int.toNat_natCast] at h; exact h
      have HR := hidd hr
      clear hr
      have BR : Hid (ab (roV x (K : Int)) < pw 8) := by show ab _ < pw 8; rw [ab_of HR.out.1]; have h1 := root_le HA.out.2 HR.out.1 HR.out.2.1 HA.out.1; have h2 := Bx.out; rw [ab_of HA.out.1] at h2; omega
      have BR1 : Hid (ab ((roV x (K : Int)) + (1)) < pw 9) := ab_addB BR.out B1o.out (by omega) (by omega)
      have HB1 := hidd (powers_bd BR.out (by omega) HKb.out)
      have HB2 := hidd (powers_bd BR1.out (by omega) HKb.out)
      have T1 : Hid (cmpI ((roV x (K : Int)) ^ K) x ≤ 0) := by have := HR.out.2.1; show cmpI _ _ ≤ 0; unfold cmpI; split; omega; split <;> omega
      have T2 : Hid (0 < cmpI (((roV x (K : Int)) + (1)) ^ K) x) := by have := HR.out.2.2; show 0 < cmpI _ _; unfold cmpI; rw [if_neg (by omega), if_neg (by omega)]; omega
      have B22 : Hid (ab (((roV x (K : Int)) + (1))) < pw 9) := ab_addB BR.out B1o.out (by omega) (by omega)
      have X9_0 := E.bs.2.2.2.2.2.1
      have X3_0 := E.bs.2.2.2.2.2.2.2.2.2.2.1
      have X21_0 := E.bs.1
      have hp : (plan [Fc.is (.bool true), Fc.is (.bool true), Fc.num (roV x (K : Int)), Fc.is (.int .i64 (K : Int)), Fc.num ((roV x (K : Int)) ^ K), Fc.num x, Fc.is (.int .i64 (cmpI ((roV x (K : Int)) ^ K) x)), Fc.is (.bool true), Fc.is (.bool true), Fc.is (.bool true), Fc.num (roV x (K : Int)), Fc.num (1), Fc.num ((roV x (K : Int)) + (1)), Fc.is (.int .i64 (K : Int)), Fc.num (((roV x (K : Int)) + (1)) ^ K), Fc.num x, Fc.is (.int .i64 (cmpI (((roV x (K : Int)) + (1)) ^ K) x)), Fc.is (.bool true), Fc.is (.bool true), Fc.is (.bool true)] [] []).Ok w21.heap.size w21.heap.size := plan_ok (by simp) (by simp) (by simp) (by omega)
      have hm := PMono.of hp
      refine region_steps (p := (plan [Fc.is (.bool true), Fc.is (.bool true), Fc.num (roV x (K : Int)), Fc.is (.int .i64 (K : Int)), Fc.num ((roV x (K : Int)) ^ K), Fc.num x, Fc.is (.int .i64 (cmpI ((roV x (K : Int)) ^ K) x)), Fc.is (.bool true), Fc.is (.bool true), Fc.is (.bool true), Fc.num (roV x (K : Int)), Fc.num (1), Fc.num ((roV x (K : Int)) + (1)), Fc.is (.int .i64 (K : Int)), Fc.num (((roV x (K : Int)) + (1)) ^ K), Fc.num x, Fc.is (.int .i64 (cmpI (((roV x (K : Int)) + (1)) ^ K) x)), Fc.is (.bool true), Fc.is (.bool true), Fc.is (.bool true)] [] [])) (B := w21.heap.size) (B0 := w21.heap.size) (w0 := w21) (by kernel_rfl) rfl rfl (plan_start (by simp) (Below.refl _ _)) ⟨?_, ?_, ?_, ?_, ?_, ?_, ?_, ?_, ?_, ?_, ?_, ?_, ?_, ?_, ?_, ?_, ?_, ?_, ?_, ?_, trivial⟩ ?_
      · exact g_move hm ⟨by simp [plan], by simp [plan]⟩ trivial (src_out rfl rfl (fun _ _ => rfl))
      · exact g_move hm ⟨by simp [plan], by simp [plan]⟩ trivial (src_in 0 rfl rfl (by simp) rfl (fun v w h => h))
      · exact g_load (z := (roV x (K : Int))) hm ⟨by simp [plan], by simp [plan]⟩ (gd_some rfl rfl (by simp) rfl (fun v w h => h)) (src_out rfl rfl (fun w h => ⟨rfl, X9_0.mono h⟩)) (fun v w h => h)
      · exact g_move hm ⟨by simp [plan], by simp [plan]⟩ (gd_some rfl rfl (by simp) rfl (fun v w h => h)) (src_out rfl rfl (fun _ _ => rfl))
      · exact g_call2 (F := (Fc.num (roV x (K : Int))).P) (G := fun v _ => v = .int .i64 (K : Int)) hm ⟨by simp [plan], by simp [plan]⟩ (gd_some rfl rfl (by simp) rfl (fun v w h => h)) enter_rPower (src_in 2 rfl rfl (by simp) rfl (fun v w h => h)) (src_in 3 rfl rfl (by simp) rfl (fun v w h => h)) (fun v v' w h h' => by subst h'; exact exK (RPowerV h K (by have := HKb.out; omega) HB1.out (by omega)) (HB1.out K (by omega)) (by omega))
      · exact g_load (z := x) hm ⟨by simp [plan], by simp [plan]⟩ (gd_some rfl rfl (by simp) rfl (fun v w h => h)) (src_out rfl rfl (fun w h => ⟨rfl, X3_0.mono h⟩)) (fun v w h => h)
      · exact g_call2 (F := (Fc.num ((roV x (K : Int)) ^ K)).P) (G := (Fc.num x).P) hm ⟨by simp [plan], by simp [plan]⟩ (gd_some rfl rfl (by simp) rfl (fun v w h => h)) enter_rCmp (src_in 4 rfl rfl (by simp) rfl (fun v w h => h)) (src_in 5 rfl rfl (by simp) rfl (fun v w h => h)) (fun v v' w h h' => exRCmp h h')
      · exact g_one (F := fun v _ => v = .int .i64 (cmpI ((roV x (K : Int)) ^ K) x)) hm ⟨by simp [plan], by simp [plan]⟩ (gd_some rfl rfl (by simp) rfl (fun v w h => h)) (src_in 6 rfl rfl (by simp) rfl (fun v w h => h)) (fun ρ w hc h => ⟨.bool true, by simp [execOp, go_sem, h, hc, T1.out], rfl⟩)
      · exact g_pick hm ⟨by simp [plan], by simp [plan]⟩ trivial (src_in 1 rfl rfl (by simp) rfl (fun v w h => h)) (src_in 7 rfl rfl (by simp) rfl (fun v w h => h))
      · exact g_move hm ⟨by simp [plan], by simp [plan]⟩ trivial (src_in 8 rfl rfl (by simp) rfl (fun v w h => h))
      · exact g_load (z := (roV x (K : Int))) hm ⟨by simp [plan], by simp [plan]⟩ (gd_some rfl rfl (by simp) rfl (fun v w h => h)) (src_out rfl rfl (fun w h => ⟨rfl, X9_0.mono h⟩)) (fun v w h => h)
      · exact g_load (z := (1)) hm ⟨by simp [plan], by simp [plan]⟩ (gd_some rfl rfl (by simp) rfl (fun v w h => h)) (src_out rfl rfl (fun w h => ⟨rfl, X21_0.mono h⟩)) (fun v w h => h)
      · exact g_call2 (F := (Fc.num (roV x (K : Int))).P) (G := (Fc.num (1)).P) hm ⟨by simp [plan], by simp [plan]⟩ (gd_some rfl rfl (by simp) rfl (fun v w h => h)) enter_rAdd (src_in 10 rfl rfl (by simp) rfl (fun v w h => h)) (src_in 11 rfl rfl (by simp) rfl (fun v w h => h)) (fun v v' w h h' => exK (RAddV h h') B22.out (by omega))
      · exact g_move hm ⟨by simp [plan], by simp [plan]⟩ (gd_some rfl rfl (by simp) rfl (fun v w h => h)) (src_out rfl rfl (fun _ _ => rfl))
      · exact g_call2 (F := (Fc.num ((roV x (K : Int)) + (1))).P) (G := fun v _ => v = .int .i64 (K : Int)) hm ⟨by simp [plan], by simp [plan]⟩ (gd_some rfl rfl (by simp) rfl (fun v w h => h)) enter_rPower (src_in 12 rfl rfl (by simp) rfl (fun v w h => h)) (src_in 13 rfl rfl (by simp) rfl (fun v w h => h)) (fun v v' w h h' => by subst h'; exact exK (RPowerV h K (by have := HKb.out; omega) HB2.out (by omega)) (HB2.out K (by omega)) (by omega))
      · exact g_load (z := x) hm ⟨by simp [plan], by simp [plan]⟩ (gd_some rfl rfl (by simp) rfl (fun v w h => h)) (src_out rfl rfl (fun w h => ⟨rfl, X3_0.mono h⟩)) (fun v w h => h)
      · exact g_call2 (F := (Fc.num (((roV x (K : Int)) + (1)) ^ K)).P) (G := (Fc.num x).P) hm ⟨by simp [plan], by simp [plan]⟩ (gd_some rfl rfl (by simp) rfl (fun v w h => h)) enter_rCmp (src_in 14 rfl rfl (by simp) rfl (fun v w h => h)) (src_in 15 rfl rfl (by simp) rfl (fun v w h => h)) (fun v v' w h h' => exRCmp h h')
      · exact g_one (F := fun v _ => v = .int .i64 (cmpI (((roV x (K : Int)) + (1)) ^ K) x)) hm ⟨by simp [plan], by simp [plan]⟩ (gd_some rfl rfl (by simp) rfl (fun v w h => h)) (src_in 16 rfl rfl (by simp) rfl (fun v w h => h)) (fun ρ w hc h => ⟨.bool true, by simp [execOp, go_sem, h, hc, T2.out], rfl⟩)
      · exact g_pick hm ⟨by simp [plan], by simp [plan]⟩ trivial (src_in 9 rfl rfl (by simp) rfl (fun v w h => h)) (src_in 17 rfl rfl (by simp) rfl (fun v w h => h))
      · exact g_assign hm ⟨by simp [plan], by simp [plan]⟩ trivial (src_in 18 rfl rfl (by simp) rfl (fun v w h => h))
      intro L vs w23 hL hG
      have e0 : vs 0 = .bool true := hG.val 0 (hL 0 (by simp))
      have e1 : vs 1 = .bool true := hG.val 1 (hL 1 (by simp))
      have e3 : vs 3 = .int .i64 (K : Int) := hG.val 3 (hL 3 (by simp))
      have e6 : vs 6 = .int .i64 (cmpI ((roV x (K : Int)) ^ K) x) := hG.val 6 (hL 6 (by simp))
      have e7 : vs 7 = .bool true := hG.val 7 (hL 7 (by simp))
      have e8 : vs 8 = .bool true := hG.val 8 (hL 8 (by simp))
      have e9 : vs 9 = .bool true := hG.val 9 (hL 9 (by simp))
      have e13 : vs 13 = .int .i64 (K : Int) := hG.val 13 (hL 13 (by simp))
      have e16 : vs 16 = .int .i64 (cmpI (((roV x (K : Int)) + (1)) ^ K) x) := hG.val 16 (hL 16 (by simp))
      have e17 : vs 17 = .bool true := hG.val 17 (hL 17 (by simp))
      have e18 : vs 18 = .bool true := hG.val 18 (hL 18 (by simp))
      have e19 : vs 19 = .bool true := hG.val 19 (hL 19 (by simp))
      have hb := hG.below
      replace E := E.mono hb
      rw [lay_all hL]
      simp only [putAll, dstOf, List.length_cons, List.length_nil, Nat.zero_add, Nat.reduceAdd, List.getElem?_toArray, List.getElem?_cons_zero, List.getElem?_cons_succ, Option.bind_some, Act.put, List.setIfInBounds_toArray, List.set_cons_succ, List.set_cons_zero]
      rw [e0, e1, e3, e6, e7, e8, e9, e13, e16, e17, e18, e19]
      generalize vs 2 = u23_2
      generalize vs 4 = u23_4
      generalize vs 5 = u23_5
      generalize vs 10 = u23_10
      generalize vs 11 = u23_11
      generalize vs 12 = u23_12
      generalize vs 14 = u23_14
      generalize vs 15 = u23_15
      clear hb hG hp hm hL vs L e0 e1 e3 e6 e7 e8 e9 e13 e16 e17 e18 e19 X9_0 X3_0 X21_0
      go_wp2
      go_ret
      exact ⟨rfl, E.below⟩

end Go.Proofs.Ytplpammfbljaoaa
