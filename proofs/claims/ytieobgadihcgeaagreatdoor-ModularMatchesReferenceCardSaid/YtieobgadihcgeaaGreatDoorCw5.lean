/- Nl, Lf, Lg, La, Lt, Mi, Mj, Mk, Ml, Mm, Mo, Mq, Ms. -/
import Derived.Test.YtieobgadihcgeaaGreatDoorCw4
import Derived.Test.YtieobgadihcgeaaGreatDoorRows
import Derived.ProofKit
import Derived.LaidMore
import Derived.OpenShut
import Derived.Stop.Joined
import Derived.Test.YtieobgadihcgeaaGreatDoorChecked
import Derived.Lib.SmallJoins
import Derived.Deep.Strs
namespace Go.Proofs.YtieobgadihcgeaaGreatDoor
open Go Go.ChangeShapes Go.WideShapes Go.RowKit

def laidTabs : List (String × DataW Unit) := [("math/bits.deBruijn32tab", Rows.laid_math_bits_deBruijn32tab), ("math/bits.deBruijn64tab", Rows.laid_math_bits_deBruijn64tab)]
theorem ownK : ownKnob Tryz.prog.godebug = none := by kernel_rfl
theorem g32tab : Tryz.prog.globalNamed "math/bits.deBruijn32tab" = some 0 := by kernel_rfl
theorem g64tab : Tryz.prog.globalNamed "math/bits.deBruijn64tab" = some 1 := by kernel_rfl
theorem t32tab : (Tryz.prog.globals[0]?).map (·.type) = some 90 := by kernel_rfl
theorem t64tab : (Tryz.prog.globals[1]?).map (·.type) = some 99 := by kernel_rfl
theorem laid32 : (Rows.laid_math_bits_deBruijn32tab : DataW Unit) = .agg (Lib.deBruijn32tab.map fun x : Nat => DataW.lit (.int .u8 (x : Int))) := by kernel_rfl
theorem laid64 : (Rows.laid_math_bits_deBruijn64tab : DataW Unit) = .agg (Lib.deBruijn64tab.map fun x : Nat => DataW.lit (.int .u8 (x : Int))) := by kernel_rfl

theorem tab_of_trod {W : World} {nm : String} {g n : Nat} {t : TypeId} {fuel : Nat} {cs : Array Value} {q : List MemPlace} {tab : List Nat} (hg : Tryz.prog.globalNamed nm = some g) (hv : W.var? Tryz.prog nm = some cs) (ht : Tryz.prog.underlying t = some (.array n 5)) (hn : tab.length = n)
    (h : DataW.trod (fun _ => ()) Tryz.prog W 0 (fun _ => true) false fuel t cs.toList = some (.agg (tab.map fun x : Nat => DataW.lit (.int .u8 (x : Int))), q)) : TabAt g tab W := by
  intro j hj
  obtain ⟨xs, m, rfl, hx, hlen, hxn, hel⟩ := DataW.trod_array ht h
  have c1 : Tryz.prog.cellsOf 5 = 1 := by kernel_rfl
  have h0 := hel j (by omega)
  rw [c1, Nat.mul_one] at h0
  have hjx : j < xs.length := by omega
  rw [List.getElem?_eq_getElem hjx] at h0
  obtain ⟨k, e1, e2, _⟩ := DataW.trod_int Tryz.underlying5 h0
  simp only [Prod.mk.injEq, DataW.agg.injEq] at hx
  have e3 := congrArg (fun l => l[j]?) hx.1
  simp only [List.getElem?_map, List.getElem?_eq_getElem hj, List.getElem?_eq_getElem hjx, Option.map_some, e2, Option.some.injEq, DataW.lit.injEq, Lit.int.injEq, true_and] at e3
  rw [World.var?_cell hg hv j, show tab.getD j 0 = tab[j] by simp [hj], e3]
  have hjl : j < cs.toList.length := by
    rcases Nat.lt_or_ge j cs.toList.length with h | h
    · exact h
    · rw [List.drop_eq_nil_of_le h] at e1; cases e1
  rw [List.drop_eq_getElem_cons hjl] at e1
  simp only [List.take_succ_cons, List.take_zero, List.cons.injEq, and_true] at e1
  rw [← Array.getElem?_toList, List.getElem?_eq_getElem hjl, e1]

theorem tabs_of_laid {W : World} (h : laidMetH Tryz.prog laidTabs W) : Tabs W := by
  rw [MakeChecks.laidMetH_plain _ _ _ (by kernel_rfl)] at h
  obtain ⟨ps, ⟨g0, t0, cs0, f0, p0, q0, hg0, ht0, hv0, hd0, ⟨g1, t1, cs1, f1, p1, q1, hg1, ht1, hv1, hd1, _, _⟩, _⟩, _, _⟩ := h
  obtain rfl := Option.some.inj (g32tab.symm.trans hg0)
  obtain rfl := Option.some.inj (g64tab.symm.trans hg1)
  obtain rfl := Option.some.inj (t32tab.symm.trans ht0)
  obtain rfl := Option.some.inj (t64tab.symm.trans ht1)
  rw [laid32] at hd0
  rw [laid64] at hd1
  exact ⟨tab_of_trod hg0 hv0 Tryz.underlying90 rfl hd0, tab_of_trod hg1 hv1 Tryz.underlying99 rfl hd1⟩

theorem door_met (os : Os) (args : Array Value) : laidMetH Tryz.prog laidTabs ((World.doorLaid Tryz.prog 400 os).forCall (fun _ _ => 0) ⟨#[], args, []⟩).memory :=
  laidMetH_of_parts3 (fuel := 8) (laidMet_of_run' 8 (by kernel_rfl) (by kernel_rfl)) (by kernel_rfl) (by kernel_rfl)
end Go.Proofs.YtieobgadihcgeaaGreatDoor

namespace Go.Proofs.YtieobgadihcgeaaGreatDoor
open Go Go.ChangeShapes Go.WideShapes Go.ChangeAt Go.RowKit Go.Joins Go.Deep

theorem own : ownKnob Tryz.prog.godebug = none := by kernel_rfl
theorem laidOut : laidOutB Tryz.prog = true := by kernel_rfl

end Go.Proofs.YtieobgadihcgeaaGreatDoor

namespace Go.Proofs.YtieobgadihcgeaaGreatDoor
open Go Go.ChangeShapes Go.WideShapes Go.ChangeAt Go.RowKit Go.Joins Go.Deep

set_option maxRecDepth 20000 in
theorem raw_cells {H : Type} {enc : TypeId × Value → H} {W : World} {t : TypeId} {f0 f1 : Field} (hs : Tryz.prog.underlying t = some (.struct #[f0, f1])) (h0 : f0.type = 4) (h1 : f1.type = 22) (hone : oneCellFields Tryz.prog #[f0, f1] = true)
    {fuel : Nat} {e0 e1 : Value} {x : DataW H × List MemPlace} (h : DataW.trod enc Tryz.prog W 0 (fun _ => true) true fuel t [e0, e1] = some x) (hlt : ∀ m ∈ x.2, m.block < W.heap.size) :
    ∃ (neg : Bool) (ao : Option Addr) (n c : Nat) (xs : List Int), e0 = .bool neg ∧ e1 = .slice ao n c ∧ Sl W ao n c xs ∧ n ≤ 9223372036854775807 := by
  obtain ⟨y0, y1, n, hx, _, t0', t1'⟩ := trod_struct2 hs h
  obtain ⟨o0, k0⟩ := hone_of hone 0 f0 rfl
  obtain ⟨o1, k1⟩ := hone_of hone 1 f1 rfl
  have t0 : DataW.trod enc Tryz.prog W 0 (fun _ => true) true n f0.type [e0] = some y0 := by simpa [o0, k0] using t0'
  have t1 : DataW.trod enc Tryz.prog W 0 (fun _ => true) true n f1.type [e1] = some y1 := by simpa [o1, k1] using t1'
  rw [h0] at t0
  rw [h1] at t1
  have hp : x.2 = y0.2 ++ y1.2 := by rw [hx]
  obtain ⟨neg, hneg, _⟩ := DataW.trod_bool Tryz.underlying4 t0
  simp at hneg
  subst hneg
  rcases open_ints Tryz.underlying22 Tryz.underlying61 (by kernel_rfl) t1 with ⟨hcs, _⟩ | ⟨a, len, cap, zs, hcs, _, hl, hm, hz, hx1, hcell, hw⟩
  · simp at hcs
    subst hcs
    exact ⟨neg, none, 0, 0, [], rfl, rfl, Sl.nil W, by omega⟩
  · simp at hcs
    subst hcs
    simp only [if_true] at hz
    have hd : Digs (zs.take len) := fun y hy => by
      have := hw y (List.mem_of_mem_take hy)
      simp only [Lit.wf, IntKind.min, IntKind.max, IntKind.signed, IntKind.bits, Bool.and_eq_true] at this
      unfold Dig
      simp at this
      omega
    refine ⟨neg, some a, len, cap, zs.take len, rfl, rfl, ⟨by rw [List.length_take]; omega, hl, hd, ?_⟩, by unfold maxLen at hm; omega⟩
    by_cases hl0 : len = 0
    · left; rw [hl0]; simp
    · right
      obtain ⟨b, off, spot⟩ := a
      have hspot : spot = none := by simpa [Addr.add] using World.cell?_spot (hcell 0 (by omega))
      subst hspot
      refine ⟨b, off, rfl, hlt (.cell b off) ?_, fun j hj => ?_⟩
      · rw [hp, hx1]
        exact List.mem_append_right _ (MemPlace.mem_row.2 ⟨0, by omega, by simp⟩)
      · have hj2 : j < len := by rw [List.length_take] at hj; omega
        rw [← add_plain, hcell j (by omega)]
        simp [List.getD, hj2]

end Go.Proofs.YtieobgadihcgeaaGreatDoor

namespace Go.Proofs.YtieobgadihcgeaaGreatDoor
open Go Go.ChangeShapes Go.WideShapes Go.ChangeAt Go.RowKit Go.Joins Go.Deep

end Go.Proofs.YtieobgadihcgeaaGreatDoor

namespace Go.Proofs.YtieobgadihcgeaaGreatDoor
open Go Go.ChangeShapes Go.WideShapes Go.ChangeAt Go.RowKit Go.Joins Go.Deep

theorem array6 {cs : Array Value} (h : cs.size = 6) : ∃ e0 e1 e2 e3 e4 e5, cs = #[e0, e1, e2, e3, e4, e5] := by
  obtain ⟨l⟩ := cs
  match l, h with
  | [e0, e1, e2, e3, e4, e5], _ => exact ⟨e0, e1, e2, e3, e4, e5, rfl⟩
set_option maxRecDepth 20000 in
theorem open_three {H : Type} {enc : TypeId × Value → H} {W : World} {r : Reach} {b0 : Nat} {t u : TypeId} {F0 F1 F2 f0 f1 : Field} (hs : Tryz.prog.underlying t = some (.struct #[F0, F1, F2])) (hF0 : F0.type = u) (hF1 : F1.type = u) (hF2 : F2.type = u) (hO0 : F0.offset = 0) (hO1 : F1.offset = 2) (hO2 : F2.offset = 4) (hcu : Tryz.prog.cellsOf u = 2) (hC : Tryz.prog.cellsOf t = 6)
    (hu : Tryz.prog.underlying u = some (.struct #[f0, f1])) (h0 : f0.type = 4) (h1 : f1.type = 22) (hone : oneCellFields Tryz.prog #[f0, f1] = true)
    {v : Value} {d : DataW H} {p : List MemPlace} (hv : Value.okWide Tryz.prog W r b0 t v) (h : DataW.Trod enc Tryz.prog W 0 (fun _ => true) true t v d p) (hlt : ∀ x ∈ p, x.block < W.heap.size) :
    ∃ (n1 : Bool) (a1 : Option Addr) (k1 c1 : Nat) (xs1 : List Int) (n2 : Bool) (a2 : Option Addr) (k2 c2 : Nat) (xs2 : List Int) (n3 : Bool) (a3 : Option Addr) (k3 c3 : Nat) (xs3 : List Int), v = .agg #[.bool n1, .slice a1 k1 c1, .bool n2, .slice a2 k2 c2, .bool n3, .slice a3 k3 c3] ∧ (Sl W a1 k1 c1 xs1 ∧ k1 ≤ 9223372036854775807) ∧ (Sl W a2 k2 c2 xs2 ∧ k2 ≤ 9223372036854775807) ∧ Sl W a3 k3 c3 xs3 ∧ k3 ≤ 9223372036854775807 := by
  obtain ⟨cs, rfl, hsz⟩ := okWide_struct hs hv
  obtain ⟨e0, e1, e2, e3, e4, e5, rfl⟩ := array6 (hsz.trans hC)
  obtain ⟨fuel, hf⟩ := h
  obtain ⟨y0, y1, y2, n, hx, _, t0, t1, t2⟩ := trod_struct3 hs hf
  rw [hF0, hO0, hcu] at t0
  rw [hF1, hO1, hcu] at t1
  rw [hF2, hO2, hcu] at t2
  simp only [Value.cells] at t0 t1 t2
  have s0 : DataW.trod enc Tryz.prog W 0 (fun _ => true) true n u [e0, e1] = some y0 := by simpa using t0
  have s1 : DataW.trod enc Tryz.prog W 0 (fun _ => true) true n u [e2, e3] = some y1 := by simpa using t1
  have s2 : DataW.trod enc Tryz.prog W 0 (fun _ => true) true n u [e4, e5] = some y2 := by simpa using t2
  simp only [Prod.mk.injEq] at hx
  obtain ⟨n1, a1, k1, c1, xs1, rfl, rfl, hS1, hk1⟩ := raw_cells hu h0 h1 hone s0 (fun m hm => hlt m (by rw [hx.2]; simp [hm]))
  obtain ⟨n2, a2, k2, c2, xs2, rfl, rfl, hS2, hk2⟩ := raw_cells hu h0 h1 hone s1 (fun m hm => hlt m (by rw [hx.2]; simp [hm]))
  obtain ⟨n3, a3, k3, c3, xs3, rfl, rfl, hS3, hk3⟩ := raw_cells hu h0 h1 hone s2 (fun m hm => hlt m (by rw [hx.2]; simp [hm]))
  exact ⟨n1, a1, k1, c1, xs1, n2, a2, k2, c2, xs2, n3, a3, k3, c3, xs3, rfl, ⟨hS1, hk1⟩, ⟨hS2, hk2⟩, hS3, hk3⟩
end Go.Proofs.YtieobgadihcgeaaGreatDoor

namespace Go.Proofs.YtieobgadihcgeaaGreatDoor
open Go Go.RowKit

def twosZ (k n : Int) : Int := if k % 2 = 1 ∧ (n % 8 = 3 ∨ n % 8 = 5) then -1 else 1
def turnZ (a n : Int) : Int := if a % 4 = 3 ∧ n % 4 = 3 then -1 else 1
theorem ofTwosZ (w : World) {k n : Int} (k0 : 0 ≤ k) (k1 : k < 9223372036854775808) (n0 : 0 ≤ n) (n1 : n < 4294967296) :
    Calls Tryz.prog 38 #[.int .i64 k, .int .u32 n] w fun e w' => e = .returned (.int .i64 (twosZ k n)) ∧ w' = w := by
  obtain ⟨k', rfl⟩ := Int.eq_ofNat_of_zero_le k0
  obtain ⟨n', rfl⟩ := Int.eq_ofNat_of_zero_le n0
  have e : twosZ (k' : Int) (n' : Int) = twosI k' n' := by
    unfold twosZ twosI
    by_cases h : k' % 2 = 1 ∧ (n' % 8 = 3 ∨ n' % 8 = 5)
    · rw [if_pos h, if_pos (by omega)]
    · rw [if_neg h, if_neg (by omega)]
  rw [e]
  exact ofTwos_any w k' n' (by omega) (by omega)
theorem turnedZ (w : World) {a n : Int} (k0 : 0 ≤ a) (k1 : a < 4294967296) (n0 : 0 ≤ n) (n1 : n < 4294967296) :
    Calls Tryz.prog 68 #[.int .u32 a, .int .u32 n] w fun e w' => e = .returned (.int .i64 (turnZ a n)) ∧ w' = w := by
  obtain ⟨k', rfl⟩ := Int.eq_ofNat_of_zero_le k0
  obtain ⟨n', rfl⟩ := Int.eq_ofNat_of_zero_le n0
  have e : turnZ (k' : Int) (n' : Int) = turnI k' n' := by
    unfold turnZ turnI
    by_cases h : k' % 4 = 3 ∧ n' % 4 = 3
    · rw [if_pos h, if_pos (by omega)]
    · rw [if_neg h, if_neg (by omega)]
  rw [e]
  exact turned_any w k' n' (by omega) (by omega)
theorem twosZ_or (k n : Int) : twosZ k n = 1 ∨ twosZ k n = -1 := by unfold twosZ; split <;> simp
theorem turnZ_or (a n : Int) : turnZ a n = 1 ∨ turnZ a n = -1 := by unfold turnZ; split <;> simp

theorem J_pow2 {n : Nat} (ho : n % 2 = 1) (a : Int) : ∀ t : Nat, J (2 ^ t * a) n = twosZ t n * J a n
  | 0 => by
    have : twosZ ((0 : Nat) : Int) n = 1 := by unfold twosZ; rw [if_neg (by omega)]
    rw [this, Int.pow_zero, Int.one_mul, Int.one_mul]
  | t + 1 => by
    have ih := J_pow2 ho a t
    have e : (2 : Int) ^ (t + 1) * a = 2 * (2 ^ t * a) := by rw [Int.pow_succ]; ac_rfl
    rw [e, J_mul ho, ih, J_two ho, ← Int.mul_assoc]
    congr 1
    unfold twosZ
    by_cases h : n % 8 = 3 ∨ n % 8 = 5
    · rw [if_pos h]
      by_cases ht : t % 2 = 1
      · rw [if_pos (by omega), if_neg (by omega)]; rfl
      · rw [if_neg (by omega), if_pos (by omega)]; rfl
    · rw [if_neg h, if_neg (by omega), if_neg (by omega)]; rfl
theorem J_swap {a n : Nat} (ha : a % 2 = 1) (hn : n % 2 = 1) : J a n = turnZ a n * J ((n : Int) % a) a := by
  rw [J_rec ha hn, J_mod]
  congr 1
  unfold turnZ
  by_cases h : a % 4 = 3 ∧ n % 4 = 3
  · rw [if_pos h, if_pos (by omega)]
  · rw [if_neg h, if_neg (by omega)]
theorem J_step {t o n : Nat} (ho : o % 2 = 1) (hn : n % 2 = 1) : J ((2 ^ t * o : Nat) : Int) n = twosZ t n * turnZ o n * J ((n : Int) % o) o := by
  have : ((2 ^ t * o : Nat) : Int) = 2 ^ t * (o : Int) := by simp
  rw [this, J_pow2 hn, J_swap ho hn, Int.mul_assoc]
theorem twosZ_mod (k n : Int) : twosZ k (n % 4294967296) = twosZ k n := by
  unfold twosZ
  have : (n % 4294967296) % 8 = n % 8 := by omega
  rw [this]
theorem turnZ_mod (a n : Int) : turnZ (a % 4294967296) (n % 4294967296) = turnZ a n := by
  unfold turnZ
  have e1 : (a % 4294967296) % 4 = a % 4 := by omega
  have e2 : (n % 4294967296) % 4 = n % 4 := by omega
  rw [e1, e2]
theorem J_zero {n : Nat} : J 0 n = if n = 1 then 1 else 0 := by
  by_cases h : n = 1
  · subst h
    rw [if_pos rfl]
    rfl
  · rw [if_neg h, J_not]
    simpa using h

theorem measJ' {n o a : Nat} (h0 : 0 < o) (h : o ≤ a) : (intOf (.int .u64 ((n : Int) % (o : Int)))).toNat < (intOf (.int .u64 (a : Int))).toNat := by
  have h1 := Int.emod_nonneg (n : Int) (show (o : Int) ≠ 0 by omega)
  have h2 := Int.emod_lt_of_pos (n : Int) (show (0 : Int) < o by omega)
  simp only [intOf]
  omega

set_option maxRecDepth 20000 in
set_option maxHeartbeats 2000000 in
theorem jacobiWords_any (w : World) (hT : Tabs w) (a0 n0 : Nat) (ha : a0 < 18446744073709551616) (hn : n0 < 18446744073709551616) (ho : n0 % 2 = 1) :
    Calls Tryz.prog 69 #[.int .u64 (a0 : Int), .int .u64 (n0 : Int)] w fun e w' => e = .returned (.int .i64 (J a0 n0)) ∧ w' = w := by
  go_enter Tryz.func69, Tryz.ntmps69
  go_wp2
  go_loopw [0, 1, 5] (fun va vn vs W => ∃ (a n : Nat) (s : Int), va = .int .u64 (a : Int) ∧ vn = .int .u64 (n : Int) ∧ vs = .int .i64 s ∧ W = w ∧ a < 18446744073709551616 ∧ n < 18446744073709551616 ∧ n % 2 = 1 ∧ (s = 1 ∨ s = -1) ∧ J a0 n0 = s * J a n) (fun va _ _ _ => (intOf va).toNat)
  case atStart => exact ⟨a0, n0, 1, rfl, rfl, rfl, rfl, ha, hn, ho, .inl rfl, by rw [Int.one_mul]⟩
  case round =>
    obtain ⟨a, n, s, rfl, rfl, rfl, rfl, h1, h2, h3, hs, hJ⟩ := hrel
    have HT := hidd hT
    clear hT
    by_cases h0 : a = 0
    · subst h0
      rw [show ((0 : Nat) : Int) = 0 from rfl, J_zero] at hJ
      by_cases hn1 : n = 1
      · subst hn1
        rw [if_pos rfl, Int.mul_one] at hJ
        have HJ := hidd hJ
        clear hJ
        go_wp2
        go_ret
        exact ⟨by rw [HJ.out]; rfl, rfl⟩
      · have f1 : ((n : Int) != 1) = true := by simp; omega
        rw [if_neg hn1, Int.mul_zero] at hJ
        have HJ := hidd hJ
        clear hJ hn1
        go_wp2
        go_ret
        exact ⟨by rw [HJ.out]; rfl, rfl⟩
    · have f0 : ((a : Int) != 0) = true := by simp; omega
      obtain ⟨m, hm, hk⟩ := Lib.ctzFrom_spec 64 a (by omega) (by omega)
      have hc := tz64_any a h1 h0 wr HT.out
      have ec : Lib.ctz 64 a = Lib.ctzFrom 64 a := by unfold Lib.ctz; rw [if_neg h0]
      rw [ec] at hc
      obtain ⟨t, ht⟩ : ∃ t, t = Lib.ctzFrom 64 a := ⟨_, rfl⟩
      rw [← ht] at hm hk hc
      obtain ⟨o, ho2⟩ : ∃ o, o = 2 * m + 1 := ⟨_, rfl⟩
      rw [← ho2] at hm
      have hoo : o % 2 = 1 := by omega
      have hp : 0 < 2 ^ t := Nat.two_pow_pos t
      have hoa : o ≤ a := by rw [hm]; exact Nat.le_mul_of_pos_left o hp
      have hdiv : (a : Int) / 2 ^ min t 64 = (o : Int) := by
        rw [Nat.min_eq_left (by omega)]
        have : (a : Int) = 2 ^ t * (o : Int) := by rw [hm]; simp
        rw [this]
        exact Int.mul_ediv_cancel_left _ (by have := pow_two_pos t; omega)
      have hstep := J_step (t := t) hoo h3
      rw [← hm] at hstep
      have cA := ofTwosZ wr (k := (t : Int)) (n := (n : Int) % 4294967296) (by omega) (by omega) (by omega) (by omega)
      have cB := turnedZ wr (a := (o : Int) % 4294967296) (n := (n : Int) % 4294967296) (by omega) (by omega) (by omega) (by omega)
      rw [twosZ_mod] at cA
      rw [turnZ_mod] at cB
      have hA := twosZ_or t n
      have hB := turnZ_or o n
      generalize twosZ (t : Int) (n : Int) = A at *
      generalize turnZ (o : Int) (n : Int) = B at *
      have g1 : IntKind.i64.wrap (A * B) = A * B := IntWalk.i64_in _ (by rcases hA with rfl | rfl <;> rcases hB with rfl | rfl <;> decide)
      have g2 : IntKind.i64.wrap (s * (A * B)) = s * (A * B) := IntWalk.i64_in _ (by rcases hs with rfl | rfl <;> rcases hA with rfl | rfl <;> rcases hB with rfl | rfl <;> decide)
      have g3 : ((o : Int) == 0) = false := by simp; omega
      have g4 : ¬ (o : Int) = 0 := by omega
      have g5 : ¬ o = 0 := by omega
      have HS : Hid ((s * (A * B) = 1 ∨ s * (A * B) = -1) ∧ J a0 n0 = s * (A * B) * J ((n : Int) % o) o) := by
        refine ⟨by rcases hs with rfl | rfl <;> rcases hA with rfl | rfl <;> rcases hB with rfl | rfl <;> simp, ?_⟩
        rw [hJ, hstep]
        ac_rfl
      have HC := hidd hc
      have CA := hidd cA
      have CB := hidd cB
      have HO := hidd (show 0 < o ∧ o ≤ a ∧ o < 18446744073709551616 ∧ o % 2 = 1 by omega)
      clear hm hk ht hp hoo hoa ho2 hJ hstep hs hA hB hc cA cB ec h0
      go_wp2_with (first | (go_at_call 83; (with_reducible refine (Calls.mono HC.out ?_)); rintro e w' ⟨rfl, rfl⟩) | (go_at_call 38; (with_reducible refine (Calls.mono CA.out ?_)); rintro e w' ⟨rfl, rfl⟩) | (go_at_call 68; (with_reducible refine (Calls.mono CB.out ?_)); rintro e w' ⟨rfl, rfl⟩))
      refine ⟨⟨n % o, o, _, rfl, rfl, rfl, trivial, ?_, HO.out.2.2.1, HO.out.2.2.2, HS.out.1, by simpa using HS.out.2⟩, measJ' HO.out.1 HO.out.2.1⟩
      have := Nat.mod_lt n HO.out.1
      have := HO.out
      omega

end Go.Proofs.YtieobgadihcgeaaGreatDoor

namespace Go.Proofs.YtieobgadihcgeaaGreatDoor
open Go Go.RowKit

theorem two_uniq {a b m n : Nat} (h : 2 ^ a * (2 * m + 1) = 2 ^ b * (2 * n + 1)) : a = b := by
  rcases Nat.lt_trichotomy a b with hl | hl | hl
  · exfalso
    obtain ⟨d, rfl⟩ : ∃ d, b = a + (d + 1) := ⟨b - a - 1, by omega⟩
    rw [Nat.pow_add, Nat.mul_assoc, Nat.pow_succ] at h
    have := Nat.eq_of_mul_eq_mul_left (Nat.two_pow_pos a) h
    rw [Nat.mul_comm (2 ^ d) 2, Nat.mul_assoc] at this
    omega
  · exact hl
  · exfalso
    obtain ⟨d, rfl⟩ : ∃ d, a = b + (d + 1) := ⟨a - b - 1, by omega⟩
    rw [Nat.pow_add, Nat.mul_assoc, Nat.pow_succ] at h
    have := Nat.eq_of_mul_eq_mul_left (Nat.two_pow_pos b) h
    rw [Nat.mul_comm (2 ^ d) 2, Nat.mul_assoc] at this
    omega
def v2 (z : Int) : Nat := Lib.ctzFrom (nbits z) z.natAbs
theorem v2_spec {z : Int} (h : z ≠ 0) : ∃ m : Nat, z.natAbs = 2 ^ v2 z * (2 * m + 1) ∧ v2 z < nbits z := by
  refine Lib.ctzFrom_spec _ _ (by omega) ?_
  rcases nbits_isBits z with ⟨h1, _⟩ | ⟨_, _, h3⟩
  · unfold ab at h1; omega
  · unfold ab at h3; exact_mod_cast h3
theorem v2_eq {z : Int} (h : z ≠ 0) {t m : Nat} (e : z.natAbs = 2 ^ t * (2 * m + 1)) : v2 z = t := by
  obtain ⟨n, h1, _⟩ := v2_spec h
  exact two_uniq (h1.symm.trans e)
theorem v2_div {z : Int} (h : z ≠ 0) : z = 2 ^ v2 z * (z / 2 ^ v2 z) ∧ (z / 2 ^ v2 z) % 2 = 1 := by
  obtain ⟨m, h1, _⟩ := v2_spec h
  generalize v2 z = t at *
  have hp := pow_two_pos t
  have e : z = 2 ^ t * (2 * (m : Int) + 1) ∨ z = 2 ^ t * (2 * (-(m : Int) - 1) + 1) := by
    have h2 : (z.natAbs : Int) = 2 ^ t * (2 * (m : Int) + 1) := by rw [h1]; simp
    have h3 : (2 : Int) ^ t * (2 * (-(m : Int) - 1) + 1) = -(2 ^ t * (2 * (m : Int) + 1)) := by
      rw [← Int.mul_neg]; congr 1; omega
    rw [h3]
    omega
  rcases e with e | e
  · have : z / 2 ^ t = 2 * (m : Int) + 1 := by rw [e]; exact Int.mul_ediv_cancel_left _ (by omega)
    rw [this]; exact ⟨e, by omega⟩
  · have : z / 2 ^ t = 2 * (-(m : Int) - 1) + 1 := by rw [e]; exact Int.mul_ediv_cancel_left _ (by omega)
    rw [this]; exact ⟨e, by omega⟩
theorem val_low {xs : List Int} : ∀ {j : Nat}, j ≤ xs.length → (∀ i, i < j → xs.getD i 0 = 0) → val xs = pw j * val (xs.drop j)
  | 0, _, _ => by rw [pw_zero, List.drop_zero, Int.one_mul]
  | j + 1, hj, h => by
    rw [val_low (j := j) (by omega) (fun i hi => h i (by omega)), val_drop_step xs (by omega), h j (by omega), Int.zero_add, pw_succ, Int.mul_assoc]
theorem val_twos {xs : List Int} {j : Nat} (hd : Digs xs) (hj : j < xs.length) (h : ∀ i, i < j → xs.getD i 0 = 0) {x : Nat} (hx : xs.getD j 0 = (x : Int)) (h0 : x ≠ 0) (h1 : x < 4294967296) :
    ∃ m : Nat, (val xs).natAbs = 2 ^ (32 * j + Lib.ctz 32 x) * (2 * m + 1) ∧ Lib.ctz 32 x < 32 := by
  obtain ⟨m, hm, hk⟩ := Lib.ctzFrom_spec 32 x (by omega) h1
  have ec : Lib.ctz 32 x = Lib.ctzFrom 32 x := by unfold Lib.ctz; rw [if_neg h0]
  rw [ec]
  generalize Lib.ctzFrom 32 x = c at *
  have hr := val_nonneg (hd.drop (j + 1))
  obtain ⟨r, hr⟩ := Int.eq_ofNat_of_zero_le hr
  have e := val_low (Nat.le_of_lt hj) h
  rw [val_drop_step xs hj, hx, hr] at e
  refine ⟨m + 2 ^ (31 - c) * r, ?_, hk⟩
  have e2 : val xs = ((2 ^ (32 * j) * (x + 4294967296 * r) : Nat) : Int) := by rw [e, pw_two]; simp
  rw [e2, Int.natAbs_natCast, Nat.pow_add, Nat.mul_assoc]
  congr 1
  have e3 : 4294967296 = 2 ^ c * (2 * 2 ^ (31 - c)) := by
    have : (4294967296 : Nat) = 2 ^ (c + ((31 - c) + 1)) := by rw [show c + ((31 - c) + 1) = 32 by omega]
    rw [this, Nat.pow_add, Nat.pow_succ, Nat.mul_comm (2 ^ (31 - c)) 2]
  rw [e3, hm, Nat.mul_assoc, ← Nat.mul_add]
  congr 1
  rw [Nat.mul_add, Nat.mul_assoc]
  omega
theorem val_unit (j : Nat) (x : Int) : val ((List.replicate (j + 1) 0).set j x) = pw j * x := by
  have h := val_take_succ ((List.replicate (j + 1) (0 : Int)).set j x) j
  rw [val_take_all _ (by simp), val_take_set _ _ _ _ (Nat.le_refl _), List.take_replicate, val_replicate, getD_set _ _ _ (by simp), Int.zero_add] at h
  exact h

theorem exTz32 {w : World} {x : Int} (hT : Tabs w) (h0 : 0 < x) (h1 : x < 4294967296) : Calls Tryz.prog 67 #[.int .u32 x] w fun e w' => e = .returned (.int .i64 (Lib.ctz 32 x.toNat)) ∧ w' = w := by
  obtain ⟨n, rfl⟩ := Int.eq_ofNat_of_zero_le (show 0 ≤ x by omega)
  exact tz32_any n (by omega) (by omega) w hT

theorem wrd_aux {t n : Nat} (h : t < 32 * n) (hn : n ≤ 300) : wrap64 ((t : Int) / 32) = (t : Int) / 32 ∧ wrap64 ((t : Int) / 32 + 1) = (t : Int) / 32 + 1 ∧ t / 32 + 1 ≤ 1000 := by
  simp only [wrap64]
  omega
theorem cast_div32 (t : Nat) : (t : Int) / 32 + 1 = ((t / 32 + 1 : Nat) : Int) := by omega
theorem idx_aux (t : Nat) : (0 : Int) ≤ (t : Int) / 32 ∧ (t : Int) / 32 < ((t / 32 + 1 : Nat) : Int) ∧ (0 : Int) ≤ (t : Int) % 32 := by omega
theorem pow_word (t : Nat) : Dig ((2 : Int) ^ (t % 32) % 4294967296) ∧ (2 : Int) ^ (t % 32) % 4294967296 = 2 ^ (t % 32) := by
  have h : (2 : Int) ^ (t % 32) ≤ 2 ^ 31 := two_pow_le (by omega)
  have h0 := pow_two_pos (t % 32)
  unfold Dig
  omega
theorem pow_num {w : World} {e : TypeId} {b t : Nat} (h : Row w e b ((List.replicate (t / 32 + 1) 0).set (t / 32) (2 ^ (t % 32) % 4294967296))) (ht : t / 32 + 1 ≤ 1000) :
    Num w (.agg #[.bool false, .slice (some ⟨b, 0, none⟩) (t / 32 + 1) (t / 32 + 1)]) (2 ^ t) := by
  have hl : ((List.replicate (t / 32 + 1) (0 : Int)).set (t / 32) (2 ^ (t % 32) % 4294967296)).length = t / 32 + 1 := by simp
  have hs := h.sl hl
  have hv := val_unit (t / 32) ((2 : Int) ^ (t % 32) % 4294967296)
  rw [(pow_word t).2] at hv
  have e2 : pw (t / 32) * (2 : Int) ^ (t % 32) = 2 ^ t := by rw [pw_two, ← Int.pow_add]; congr 1; omega
  rw [e2] at hv
  have hp := pow_two_pos (t % 32)
  refine ⟨false, _, _, _, _, rfl, hs, by omega, ?_, ⟨hs.digs, .inr ?_⟩, fun h => by cases h⟩
  · rw [(pow_word t).2, hv]; rfl
  · rw [hl, Nat.add_sub_cancel, (pow_word t).2, hv, ← e2]
    have := Int.mul_le_mul_of_nonneg_left (show 1 ≤ (2 : Int) ^ (t % 32) by omega) (show 0 ≤ pw (t / 32) by have := pw_pos (t / 32); omega)
    omega
theorem pow_boundM {t m : Nat} (h : t ≤ 32 * m) : ab ((2 : Int) ^ t) < pw (m + 1) := by
  have h0 := pow_two_pos t
  rw [ab_of (by omega)]
  have h1 : (2 : Int) ^ t ≤ 2 ^ (32 * m) := two_pow_le h
  rw [← pw_two] at h1
  rw [pw_succ]
  have := pw_pos m
  omega
theorem pow_bound {t n : Nat} (h : t < 32 * n) (hn : n ≤ 300) : ab ((2 : Int) ^ t) < pw 301 := pow_boundM (m := 300) (by omega)
def Fq.numAnd (z : Int) (v0 : Value) (e : Int) : Fq := ⟨fun v w => Num w v z ∧ Num w v0 e, fun h hb => ⟨h.1.mono hb, h.2.mono hb⟩, fun h ha ht hl => ⟨h.1.putAt ha ht hl, h.2.putAt ha ht hl⟩⟩
theorem Fr.numAnd {w0 W : World} {b b' : Nat} {z z' e : Int} {v0 : Value} (h : Fr w0 [(b', 2, Fq.num z'), (b, 2, Fq.num z)] W) (hv : Num W v0 e) : Fr w0 [(b', 2, Fq.num z'), (b, 2, Fq.numAnd z v0 e)] W := by
  refine ⟨h.below, fun x hx => ?_, h.apart⟩
  rcases List.mem_cons.1 hx with rfl | hx
  · exact h.boxes _ (List.mem_cons_self ..)
  · rw [List.mem_singleton] at hx
    subst hx
    obtain ⟨h1, us, a1, a2, a3, a4, a5⟩ := h.boxes (b, 2, Fq.num z) (by simp)
    exact ⟨h1, us, a1, a2, a3, a4, a5, hv⟩
section
variable {os : List Oper} {Q : Exit → Act → World → Prop} {a : Act} {p : Pq} {B B0 : Nat} {w0 : World}
variable {i s : Nat} {d : Option Tmp} {ty : TypeId} {ps : String} {af : Array Edge} {gd : Option (Nat × Bool)}
theorem q_buildMag {o : Ob} {y : Operand} {ao : Option Addr} {k c : Nat} {z e : Int} (hp : p.Ok B B0) (hF : p.Free i) (hg : GdQ os a p B B0 w0 af gd) (ho : o ∈ p.old) (hk : o.F1 = o.F0) (hf : o.F0 = Fq.numAnd z (.agg #[.bool false, .slice ao k c]) e)
    (hy : SrcQ os a p B B0 w0 af y fun v _ => v = .slice ao k c) (hC : ∀ v w, Num w v e → (p.c i).P v w) :
    StepQ os Q a p B B0 w0 i { dst := d, op := .build 29 #[(1, y)], type := ty, pos := ps, after := af, guard := gd } := by
  refine stq_val hp hF hg fun L vs w hG hL hc hd => ?_
  have h2 := hy L vs w hG hd
  have hb := hG.old o ho
  rw [hk, ite_self] at hb
  rw [hf] at hb
  obtain ⟨_, _, _, _, _, hv⟩ := hb
  refine ⟨.agg #[.bool false, .slice ao k c], ?_, hC _ _ hv.2⟩
  generalize (lay os.toArray L vs os.toArray.size a).eval = ρ at h2
  simp [execOp, go_sem, h2]
end
theorem tlt_aux {k c n : Nat} (h : k % 32 = 0) (h1 : k / 32 < n) (h2 : c < 32) : k + c < 32 * n := by omega
theorem measO {n k : Nat} (h : k / 32 + 1 < n) : 32 * n - (intOf (.int .i64 ((k : Int) + 32))).toNat < 32 * n - (intOf (.int .i64 (k : Int))).toNat := by simp [intOf]; omega

set_option maxRecDepth 100000 in
set_option maxHeartbeats 4000000 in
theorem exOddPartK {w : World} {v : Value} {z : Int} {K : Nat} (h : Num w v z) (hT : Tabs w) (hz : z ≠ 0) (hb : ab z < pw K) (hK : K ≤ 300) :
    Calls Tryz.prog 37 #[v] w fun e w' => ∃ v', e = .returned v' ∧ Below w.heap.size w w' ∧ (Fq.tup2 (Fq.num (z / 2 ^ v2 z)) (Fq.is (.int .i64 (v2 z : Int)))).P v' w' := by
  obtain ⟨n0, ao0, k0, cc0, rfl⟩ := h.parts
  obtain ⟨w1, b1, hw1, hb1, hs1, E⟩ := fr_start w (F := Fq.num z) (us := [.bool n0, .slice ao0 k0 cc0]) 29 rfl (by simp) (tame_int _ _ _ _) h
  obtain ⟨w2, b2, hw2, hb2, hs2, E⟩ := fr_more E hs1 (F := Fq.num 0) (us := [.bool false, .slice none 0 0]) 29 rfl (by simp) (tame_int _ _ _ _) (Num.zero _)
  have HT := hidd (hT.mono E.below)
  clear hT
  go_enter Tryz.func37, Tryz.ntmps37
  go_upto_region 1 with (fail)
  rw [← hw1]
  rw [← hw2]
  rw [← hb2]
  rw [← hb1]
  clear hw1 hw2 hb1 hb2 hs2 hs1
  obtain ⟨p0, p1, c0, c1, hP⟩ := box_num (E.box 1 rfl)
  obtain ⟨q0, q1, d0, d1, hQ⟩ := box_num (E.box 0 rfl)
  have hP0 := hidd hP
  obtain ⟨neg, ax, n, cx, xs, eP, hX, hn, hzz, hc, _⟩ := hP
  obtain ⟨rfl, rfl⟩ : p0 = .bool neg ∧ p1 = .slice ax n cx := by
    injection eP with eP
    have := congrArg Array.toList eP
    simpa using this
  have hv0 : ab z = val xs := by rw [hzz, ab_sgn, ab_of (val_nonneg hX.digs)]
  have hvn : (val xs).natAbs = z.natAbs := by unfold ab at hv0; omega
  have hvz : val xs ≠ 0 := by unfold ab at hv0; omega
  have hn3 : n ≤ 300 := by
    have := hc.length_le (by rw [← hv0]; exact hb)
    rw [hX.len] at this
    omega
  have hn0 : 0 < n := by
    rcases Nat.eq_zero_or_pos n with h0 | h0
    · exfalso; apply hvz; have := hX.len; rw [h0] at this; rw [List.eq_nil_of_length_eq_zero this]; rfl
    · exact h0
  have HVN := hidd hvn
  have HVZ := hidd hvz
  have HN := hidd (show 0 < n ∧ n ≤ 300 from ⟨hn0, hn3⟩)
  have HB := hidd hb
  have HZ := hidd hz
  have HKK := hidd hK
  clear hzz hv0 hvn hvz hb hn3 hn hn0 eP hQ hz hK
  go_wp2
  go_loopw [4] (fun vk W => ∃ k : Nat, k % 32 = 0 ∧ k / 32 < n ∧ vk = .int .i64 (k : Int) ∧ W = w2 ∧ ∀ i, i < k / 32 → xs.getD i 0 = 0) (fun vk _ => 32 * n - (intOf vk).toNat)
  case atStart => exact ⟨0, rfl, by have := HN.out; omega, rfl, rfl, fun i hi => by omega⟩
  case round =>
    obtain ⟨k, hk32, hkn, rfl, rfl, hlow⟩ := hrel
    obtain ⟨b, off, rfl, hbl, x, hxc, hx0, hx1, HX⟩ := hX.cells.at (k := k / 32) (by rw [hX.len]; exact hkn)
    have g1 : (0 : Int) ≤ (k : Int) / 32 ∧ (k : Int) / 32 < n := by omega
    have hq : wrap64 ((k : Int) / 32) = (k : Int) / 32 := by have := HN.out; simp only [wrap64]; omega
    by_cases hxz : x = 0
    · subst hxz
      have hk2 : k / 32 + 1 < n := by
        rcases Nat.lt_or_ge (k / 32 + 1) n with h0 | h0
        · exact h0
        · exfalso
          apply HVZ.out
          rw [val_low (j := n) (by rw [hX.len]; exact Nat.le_refl _) (fun i hi => by
            rcases Nat.lt_or_ge i (k / 32) with h1 | h1
            · exact hlow i h1
            · rw [show i = k / 32 by omega]; exact HX.out), List.drop_of_length_le (by rw [hX.len]; exact Nat.le_refl _)]
          show pw n * 0 = 0
          rw [Int.mul_zero]
      have hw : IntKind.i64.wrap ((k : Int) + 32) = (k : Int) + 32 := IntWalk.i64_in _ (by have := HN.out; omega)
      have hw2 : wrap64 ((k : Int) + 32) = (k : Int) + 32 := by have := HN.out; simp only [wrap64]; omega
      have HL := hidd hlow
      have HK := hidd (show k % 32 = 0 ∧ k / 32 + 1 < n from ⟨hk32, hk2⟩)
      clear hlow hk32 hk2
      go_wp2
      go_roundw
      case rel =>
        refine ⟨k + 32, by have := HK.out; omega, by have := HK.out; omega, by first | rfl | (rw [hw2]; rfl), by trivial, fun i hi => ?_⟩
        rcases Nat.lt_or_ge i (k / 32) with h1 | h1
        · exact HL.out i h1
        · rw [show i = k / 32 by omega]; exact HX.out
      case measure => first | exact measO HK.out.2 | (rw [hw2]; exact measO HK.out.2)
    · have fx : (x == 0) = false := by simp; exact hxz
      obtain ⟨y, rfl⟩ := Int.eq_ofNat_of_zero_le hx0
      have hy0 : y ≠ 0 := by omega
      have hy1 : y < 4294967296 := by omega
      obtain ⟨m, hm, hc32⟩ := val_twos hX.digs (by rw [hX.len]; exact hkn) hlow HX.out hy0 hy1
      rw [show 32 * (k / 32) = k by omega, HVN.out] at hm
      have hv2 := v2_eq HZ.out hm
      have hy2 : (0 : Int) < (y : Int) := by omega
      have cT := exTz32 (x := (y : Int)) HT.out hy2 hx1
      rw [Int.toNat_natCast] at cT
      clear hy2
      obtain ⟨c, hcc⟩ : ∃ c, c = Lib.ctz 32 y := ⟨_, rfl⟩
      rw [← hcc] at hm hc32 hv2 cT
      replace cT := hidd cT
      have hw : IntKind.i64.wrap ((k : Int) + (c : Int)) = ((k + c : Nat) : Int) := by rw [IntWalk.i64_in _ (by have := HN.out; omega)]; rfl
      have hw2 : wrap64 ((k : Int) + (c : Int)) = ((k + c : Nat) : Int) := by have := HN.out; simp only [wrap64]; omega
      obtain ⟨t, ht⟩ : ∃ t, t = k + c := ⟨_, rfl⟩
      rw [← ht] at hw hw2 hm hv2
      have HT2 := hidd (show t = k + c ∧ t < 32 * n from ⟨ht, by rw [ht]; exact tlt_aux hk32 hkn hc32⟩)
      have HV2 := hidd hv2
      clear hm hc32 hcc ht hlow hk32 hv2
      go_upto_region 5 with (first | (go_at_call 67; (with_reducible refine (Calls.mono cT.out ?_)); rintro e w' ⟨rfl, rfl⟩))
      obtain ⟨us0, hl0, _, hat0, htm0, _⟩ := (E.boxes _ (List.mem_cons_self ..)).2
      have z0 := (hat0 0 (by rw [hl0]; exact Nat.le_of_ble_eq_true rfl)).2
      have z1 := (hat0 1 (by rw [hl0]; exact Nat.le_of_ble_eq_true rfl)).2
      by_cases ht0 : t = 0
      · have f0 : (((t : Nat) : Int) == 0) = true := by simp; exact ht0
        have HV3 : Hid ((v2 z : Int) = 0 ∧ z / 2 ^ v2 z = z) := by
          rw [HV2.out, ht0]
          exact ⟨rfl, by rw [Int.pow_zero, Int.ediv_one]⟩
        clear hat0 htm0 hl0 ht0
        go_upto_region 6 with (fail)
        clear hw hw2 hX hxc cT fx g1 hq hy0 hy1 hx0 hx1 hxz hbl hkn f0
        have E2 := E.put (F' := Fq.num z) (us := [.bool neg, .slice (some ⟨b, off, none⟩) n cx]) rfl (tame_int _ _ _ _) hP0.out
        obtain ⟨wZ, hwZ⟩ : ∃ wZ, wZ = putFrom w' b2 0 [.bool neg, .slice (some ⟨b, off, none⟩) n cx] := ⟨_, rfl⟩
        rw [← hwZ] at E2
        have hwZ2 : wZ = (w'.setCell ⟨b2, 0, none⟩ (.bool neg)).setCell ⟨b2, 1, none⟩ (.slice (some ⟨b, off, none⟩) n cx) := hwZ
        obtain ⟨r0, r1, e0, e1, hR⟩ := box_num (E2.box 0 rfl)
        go_wp2
        rw [← hwZ2]
        refine bodyPost_ret (v := .tuple #[.agg #[r0, r1], .int .i64 0]) ?_ rfl ⟨_, rfl, E2.below, _, _, rfl, by rw [HV3.out.2]; exact hR, by rw [HV3.out.1]; rfl⟩
        simp [results, Tryz.results37, go_sem, e0, e1]
      · have f0 : (((t : Nat) : Int) == 0) = false := by simp; exact ht0
        obtain ⟨g2, g3, htn⟩ := wrd_aux HT2.out.2 HN.out.2
        replace htn := hidd htn
        clear ht0
        go_upto_region 7 with (fail)
        clear hw hw2 hX hxc cT fx g1 hq hy0 hy1 hx0 hx1 hxz hbl hkn f0 hat0 htm0 hl0
        go_upto_region 8 with (at_make; refine wpList_make_words _ rfl _ _ 22 rfl 61 Tryz.underlying22 (by kernel_rfl) _ _ _ _ rfl rfl (t / 32 + 1) (g3.trans (cast_div32 t)) (g3.trans (cast_div32 t)) (Nat.le_trans htn.out (Nat.le_of_ble_eq_true rfl)) ?_; intro w3 hrow hb3 hs3)
        have hfr := hrow.frozen (t / 32)
        obtain ⟨z9, hzc9, _, _, _⟩ := hrow.at (j := t / 32) (by simp)
        obtain ⟨g4, g5, g6⟩ := idx_aux t
        replace hs3 := hidd hs3
        have hrow2 := hidd hrow
        clear hrow
        go_upto_region 9 with (fail)
        clear g2 g3 g4 g5 g6 hfr hzc9 z0 z1
        have hx := pow_word t
        obtain ⟨w4, hw4⟩ : ∃ w4, w4 = w3.setCell ⟨w'.heap.size, t / 32, none⟩ (.int .u32 (2 ^ (t % 32) % 4294967296)) := ⟨_, rfl⟩
        have hrow4 : Row w4 61 w'.heap.size ((List.replicate (t / 32 + 1) 0).set (t / 32) (2 ^ (t % 32) % 4294967296)) := by rw [hw4]; exact hrow2.out.set hx.1
        have hb4 : Below w'.heap.size w' w4 := by rw [hw4]; exact hb3.setCell (Nat.le_refl _) _
        rw [← hw4]
        obtain ⟨bR, hbR⟩ : ∃ x, x = w'.heap.size := ⟨_, rfl⟩
        rw [← hbR] at hrow4
        rw [← hbR]
        have hPW : Num w4 (.agg #[.bool false, .slice (some ⟨bR, 0, none⟩) (t / 32 + 1) (t / 32 + 1)]) (2 ^ t) := pow_num hrow4 htn.out
        replace E := E.mono hb4
        replace E : Fr w [(b2, 2, Fq.num 0), (b1, 2, Fq.numAnd z (.agg #[.bool false, .slice (some ⟨bR, 0, none⟩) (t / 32 + 1) (t / 32 + 1)]) (2 ^ t))] w4 := E.numAnd hPW
        have HV3 : Hid ((v2 z : Int) = t ∧ z / 2 ^ v2 z = z / 2 ^ t) := by rw [HV2.out]; exact ⟨rfl, rfl⟩
        have BZ : Hid (ab z < pw K) := HB.out
        have BP : Hid (ab ((2 : Int) ^ t) < pw 301) := pow_bound HT2.out.2 HN.out.2
        have NZ : Hid ((2 : Int) ^ t ≠ 0) := by have := pow_two_pos t; show _ ≠ _; omega
        have BQ : Hid (ab (z / 2 ^ t) < pw (K + 1)) := ab_divB BZ.out (by omega)
        have BR : Hid (ab (z % 2 ^ t) < pw 301) := ab_modB NZ.out BP.out
        clear hrow4 hb4 hb3 hw4 hx hPW hrow2 hs3 htn HV2 HB hP0 hbR d0 d1 c0 c1
        refine region_fr (C := [Fq.num z, Fq.is (.slice (some ⟨bR, 0, none⟩) (t / 32 + 1) (t / 32 + 1)), Fq.num (2 ^ t), Fq.tup3 (Fq.num (z / 2 ^ t)) (Fq.num (z % 2 ^ t)) (Fq.is (.int .i64 0)), Fq.tup3 (Fq.num (z / 2 ^ t)) (Fq.num (z % 2 ^ t)) (Fq.is (.int .i64 0)), Fq.num (z / 2 ^ t), Fq.num (z % 2 ^ t), Fq.is (.int .i64 0), Fq.any, Fq.any, Fq.any, Fq.any, Fq.is (.int .i64 0)]) (ks := [none, none]) (new := [⟨8, 10, 2, Fq.num 0, Fq.num (z / 2 ^ t), none⟩, ⟨9, 11, 2, Fq.num 0, Fq.num (z % 2 ^ t), none⟩]) E rfl (by kernel_rfl) rfl rfl (fun hp => ⟨?_, ?_, ?_, ?_, ?_, ?_, ?_, ?_, ?_, ?_, ?_, ?_, ?_, trivial⟩) ?_
        · exact q_loadInt (off := 0) hp (free_of rfl) trivial (List.mem_iff_getElem?.2 ⟨1, rfl⟩) (.inl rfl) (Nat.le_of_ble_eq_true rfl) (sq_out rfl rfl (fun _ _ => rfl)) (fun us w hl h => ld_num hl h.1)
        · exact q_move hp (free_of rfl) trivial (sq_out rfl rfl (fun _ _ => rfl))
        · exact q_buildMag hp (free_of rfl) trivial (List.mem_iff_getElem?.2 ⟨1, rfl⟩) rfl rfl (sqi 1) (fun v w h => h)
        · exact q_call2 (F := (Fq.num z).P) (G := (Fq.num (2 ^ t)).P) hp (free_of rfl) trivial (enq_DivMod) (sqi 0) (sqi 2) (fun v v' w h h' => exDMq h h' NZ.out BQ.out BR.out (by have := HKK.out; omega) (by omega))
        · exact q_move hp (free_of rfl) trivial (sqi 3)
        · exact q_extract3 hp (free_of rfl) trivial (sqi 4) (fun v1 v2 v3 w h1 h2 h3 => ⟨_, rfl, h1⟩)
        · exact q_extract3 hp (free_of rfl) trivial (sqi 4) (fun v1 v2 v3 w h1 h2 h3 => ⟨_, rfl, h2⟩)
        · exact q_extract3 hp (free_of rfl) trivial (sqi 4) (fun v1 v2 v3 w h1 h2 h3 => ⟨_, rfl, h3⟩)
        · exact q_allocInt hp (List.mem_iff_getElem?.2 ⟨0, rfl⟩) rfl rfl rfl rfl (Nat.ne_of_beq_eq_false rfl) (fun _ _ => trivial) (old_ne rfl) (newk_ne rfl) (fun w => Num.zero w)
        · exact q_allocInt hp (List.mem_iff_getElem?.2 ⟨1, rfl⟩) rfl rfl rfl rfl (Nat.ne_of_beq_eq_false rfl) (fun _ _ => trivial) (old_ne rfl) (newk_ne rfl) (fun w => Num.zero w)
        · exact q_storeNewInt hp (List.mem_iff_getElem?.2 ⟨0, rfl⟩) rfl rfl rfl (own_ptr rfl rfl (by simp) rfl) (sq_in 5 rfl rfl (by simp) rfl (fun v w h => intV_num h)) (fun _ _ => trivial) (old_ne rfl) (newi_ne rfl)
        · exact q_storeNewInt hp (List.mem_iff_getElem?.2 ⟨1, rfl⟩) rfl rfl rfl (own_ptr rfl rfl (by simp) rfl) (sq_in 6 rfl rfl (by simp) rfl (fun v w h => intV_num h)) (fun _ _ => trivial) (old_ne rfl) (newi_ne rfl)
        · exact q_assign hp (free_of rfl) trivial (sqi 7)
        intro L vs w1 nb hL hC hn E1
        have e1 : vs 1 = .slice (some ⟨bR, 0, none⟩) (t / 32 + 1) (t / 32 + 1) := hC 1 (by simp)
        have e7 : vs 7 = .int .i64 0 := hC 7 (by simp)
        have e12 : vs 12 = .int .i64 0 := hC 12 (by simp)
        have e8 : vs 8 = .pointer (some ⟨nb 8, 0, none⟩) := hn _ (List.mem_iff_getElem?.2 ⟨0, rfl⟩)
        have e9 : vs 9 = .pointer (some ⟨nb 9, 0, none⟩) := hn _ (List.mem_iff_getElem?.2 ⟨1, rfl⟩)
        have E : Fr w [(nb 8, 2, Fq.num (z / 2 ^ t)), (nb 9, 2, Fq.num (z % 2 ^ t)), (b2, 2, Fq.num 0), (b1, 2, Fq.numAnd z (.agg #[.bool false, .slice (some ⟨bR, 0, none⟩) (t / 32 + 1) (t / 32 + 1)]) (2 ^ t))] w1 := E1
        rw [lay_all hL]
        simp only [putAll, dstOf, List.length_cons, List.length_nil, Nat.zero_add, Nat.reduceAdd, List.getElem?_toArray, List.getElem?_cons_zero, List.getElem?_cons_succ, Option.bind_some, Act.put, List.setIfInBounds_toArray, List.set_cons_succ, List.set_cons_zero]
        rw [e1, e7, e12, e8, e9]
        generalize nb 8 = b1_8 at E ⊢
        generalize nb 9 = b1_9 at E ⊢
        generalize vs 0 = u1_0
        generalize vs 2 = u1_2
        generalize vs 3 = u1_3
        generalize vs 4 = u1_4
        generalize vs 5 = u1_5
        generalize vs 6 = u1_6
        clear e1 e7 e12 e8 e9 hC hn E1 hL vs L nb
        go_upto_region 10 with (fail)
        refine region_fr (C := [Fq.num (z / 2 ^ t), Fq.is (.int .i64 (t : Int)), Fq.any, Fq.is (.int .i64 (t : Int))]) (ks := [none, none, some (2, Fq.num (z / 2 ^ t)), none]) (new := []) E rfl (by kernel_rfl) rfl rfl (fun hp => ⟨?_, ?_, ?_, ?_, trivial⟩) ?_
        · exact q_loadInt (off := 0) hp (free_of rfl) trivial (List.mem_iff_getElem?.2 ⟨0, rfl⟩) (.inl rfl) (Nat.le_of_ble_eq_true rfl) (sq_out rfl rfl (fun _ _ => rfl)) (fun us w hl h => ld_num hl h)
        · exact q_move hp (free_of rfl) trivial (sq_out rfl rfl (fun _ _ => rfl))
        · exact q_storeOldInt hp (List.mem_iff_getElem?.2 ⟨2, rfl⟩) rfl rfl (sq_out rfl rfl (fun _ _ => rfl)) (sq_in 0 rfl rfl (by simp) rfl (fun v w h => intV_num h)) (fun _ _ => trivial) (newik_ne rfl)
        · exact q_assign hp (free_of rfl) trivial (sqi 1)
        intro L vs w2 nb hL hC hn E2
        have e1 : vs 1 = .int .i64 (t : Int) := hC 1 (by simp)
        have e3 : vs 3 = .int .i64 (t : Int) := hC 3 (by simp)
        have E : Fr w [(b1_8, 2, Fq.num (z / 2 ^ t)), (b1_9, 2, Fq.num (z % 2 ^ t)), (b2, 2, Fq.num (z / 2 ^ t)), (b1, 2, Fq.numAnd z (.agg #[.bool false, .slice (some ⟨bR, 0, none⟩) (t / 32 + 1) (t / 32 + 1)]) (2 ^ t))] w2 := E2
        rw [lay_all hL]
        simp only [putAll, dstOf, List.length_cons, List.length_nil, Nat.zero_add, Nat.reduceAdd, List.getElem?_toArray, List.getElem?_cons_zero, List.getElem?_cons_succ, Option.bind_some, Act.put, List.setIfInBounds_toArray, List.set_cons_succ, List.set_cons_zero]
        rw [e1, e3]
        generalize vs 0 = u2_0
        clear e1 e3 hC hn E2 hL vs L nb
        obtain ⟨p0, p1, e0, e1, hP⟩ := box_num (E.box 2 rfl)
        clear BZ BP BQ BR NZ HN HT2 HVN HVZ HZ HKK HT
        go_wp2
        refine bodyPost_ret (v := .tuple #[.agg #[p0, p1], .int .i64 (t : Int)]) ?_ rfl ⟨_, rfl, E.below, _, _, rfl, by rw [HV3.out.2]; exact hP, by rw [HV3.out.1]; rfl⟩
        simp [results, Tryz.results37, go_sem, e0, e1]

end Go.Proofs.YtieobgadihcgeaaGreatDoor

namespace Go.Proofs.YtieobgadihcgeaaGreatDoor
open Go Go.RowKit

section
variable {os : List Oper} {Q : Exit → Act → World → Prop} {a : Act} {p : Pq} {B B0 : Nat} {w0 : World}
variable {i s : Nat} {d : Option Tmp} {ty : TypeId} {ps : String} {af : Array Edge} {gd : Option (Nat × Bool)}
theorem q_call1W {x : Operand} {F : Value → World → Prop} {f : FuncId} {ts : Array TypeId} (hp : p.Ok B B0) (hF : p.Free i) (hg : GdQ os a p B B0 w0 af gd) (hen : ∀ args w, (callFunc f args).run Tryz.prog w = .ok (.enter f args) w) (hB : B = w0.heap.size)
    (hx : SrcQ os a p B B0 w0 af x F) (hC : ∀ v w, Below w0.heap.size w0 w → F v w → Calls Tryz.prog f #[v] w fun e w' => ∃ v', e = .returned v' ∧ Below w.heap.size w w' ∧ (p.c i).P v' w') :
    StepQ os Q a p B B0 w0 i { dst := d, op := .call { callee := .value (.func f), args := #[x], argTypes := ts }, type := ty, pos := ps, after := af, guard := gd } := by
  subst hB
  exact stq_call hp hF hg hen fun L vs w hG hd => ⟨#[_], by simp, hC _ _ hG.below (hx L vs w hG hd)⟩
theorem q_call2W {x y : Operand} {F G : Value → World → Prop} {f : FuncId} {ts : Array TypeId} (hp : p.Ok B B0) (hF : p.Free i) (hg : GdQ os a p B B0 w0 af gd) (hen : ∀ args w, (callFunc f args).run Tryz.prog w = .ok (.enter f args) w) (hB : B = w0.heap.size)
    (hx : SrcQ os a p B B0 w0 af x F) (hy : SrcQ os a p B B0 w0 af y G) (hC : ∀ v v' w, Below w0.heap.size w0 w → F v w → G v' w → Calls Tryz.prog f #[v, v'] w fun e w' => ∃ v', e = .returned v' ∧ Below w.heap.size w w' ∧ (p.c i).P v' w') :
    StepQ os Q a p B B0 w0 i { dst := d, op := .call { callee := .value (.func f), args := #[x, y], argTypes := ts }, type := ty, pos := ps, after := af, guard := gd } := by
  subst hB
  exact stq_call hp hF hg hen fun L vs w hG hd => ⟨#[_, _], by simp, hC _ _ _ hG.below (hx L vs w hG hd) (hy L vs w hG hd)⟩
theorem q_moveB (m f : Nat) {v : Value} (hp : p.Ok B B0) (hF : p.Free i) (hg : GdQ os a p B B0 w0 af gd) (ha : apartB (os.map (·.dst)) = true) (hj : (os.map (·.dst))[m]? = some (some s)) (hl : leadsB os f m i = true) (hx : a.eval (.tmp s) = v) (hv : ∀ w, (p.c i).P v w) :
    StepQ os Q a p B B0 w0 i { dst := d, op := .move (.tmp s), type := ty, pos := ps, after := af, guard := gd } := by
  refine stq_val hp hF hg fun L vs w hG hL hc hd => ⟨v, ?_, hv _⟩
  have hm := not_yet hc hl hL
  have e : (lay os.toArray L vs os.toArray.size a).eval (.tmp s) = a.eval (.tmp s) := by
    refine lay_eval_out _ _ fun j _ hj2 hd2 => ?_
    have hjm : j = m := Classical.byContradiction fun hne => apart_of ha j m s hne hd2 (by
      unfold dstOf
      simp at hj ⊢
      cases ho : os[m]? with
      | none => simp [ho] at hj
      | some o => simp [ho] at hj ⊢; exact hj)
    rw [hjm, hm] at hj2
    cases hj2
  rw [hx] at e
  have e2 : (lay os.toArray L vs os.toArray.size a).tmps.getD s undef = v := e
  simp only [execOp, go_sem]
  rw [e2]
  rfl
end
theorem exOddPart {w : World} {v : Value} {z : Int} (h : Num w v z) (hT : Tabs w) (hz : z ≠ 0) (hb : ab z < pw 300) :
    Calls Tryz.prog 37 #[v] w fun e w' => ∃ v', e = .returned v' ∧ Below w.heap.size w w' ∧ (Fq.tup2 (Fq.num (z / 2 ^ v2 z)) (Fq.is (.int .i64 (v2 z : Int)))).P v' w' := exOddPartK h hT hz hb (Nat.le_refl _)
theorem exOfTwos {w : World} {v v' : Value} {k n r : Int} (h : v = .int .i64 k) (h' : v' = .int .u32 n) (k0 : 0 ≤ k ∧ k < 9223372036854775808) (n0 : 0 ≤ n ∧ n < 4294967296) (hr : twosZ k n = r) :
    Calls Tryz.prog 38 #[v, v'] w fun e w' => ∃ v', e = .returned v' ∧ Below w.heap.size w w' ∧ v' = .int .i64 r := by
  subst h h' hr
  exact (ofTwosZ w k0.1 k0.2 n0.1 n0.2).mono fun e w' ⟨he, hw⟩ => ⟨_, he, by rw [hw]; exact Below.refl _ _, rfl⟩
theorem exTurned {w : World} {v v' : Value} {k n r : Int} (h : v = .int .u32 k) (h' : v' = .int .u32 n) (k0 : 0 ≤ k ∧ k < 4294967296) (n0 : 0 ≤ n ∧ n < 4294967296) (hr : turnZ k n = r) :
    Calls Tryz.prog 68 #[v, v'] w fun e w' => ∃ v', e = .returned v' ∧ Below w.heap.size w w' ∧ v' = .int .i64 r := by
  subst h h' hr
  exact (turnedZ w k0.1 k0.2 n0.1 n0.2).mono fun e w' ⟨he, hw⟩ => ⟨_, he, by rw [hw]; exact Below.refl _ _, rfl⟩
theorem exJacWords {w : World} {v v' : Value} {a n : Int} (hT : Tabs w) (h : v = .int .u64 a) (h' : v' = .int .u64 n) (a0 : 0 ≤ a ∧ a < 18446744073709551616) (n0 : 0 ≤ n ∧ n < 18446744073709551616) (ho : n % 2 = 1) :
    Calls Tryz.prog 69 #[v, v'] w fun e w' => ∃ v', e = .returned v' ∧ Below w.heap.size w w' ∧ v' = .int .i64 (J a n.toNat) := by
  subst h h'
  obtain ⟨a', rfl⟩ := Int.eq_ofNat_of_zero_le a0.1
  obtain ⟨n', rfl⟩ := Int.eq_ofNat_of_zero_le n0.1
  exact (jacobiWords_any w hT a' n' (by omega) (by omega) (by omega)).mono fun e w' ⟨he, hw⟩ => ⟨_, he, by rw [hw]; exact Below.refl _ _, by rw [Int.toNat_natCast]⟩
theorem v2_lt {z : Int} (hz : z ≠ 0) (h : ab z < pw 100) : (v2 z : Int) < 9223372036854775808 := by
  obtain ⟨m, _, h1⟩ := v2_spec hz
  have := nbits_le h
  omega
theorem word_range (z : Int) : 0 ≤ ab z % 4294967296 ∧ ab z % 4294967296 < 4294967296 := by omega
theorem sgnp_mul {s t : Int} (hs : s = 1 ∨ s = -1) (ht : t = 1 ∨ t = -1) : s * t = 1 ∨ s * t = -1 := by rcases hs with rfl | rfl <;> rcases ht with rfl | rfl <;> simp
theorem sgn_wrap {s t : Int} (hs : s = 1 ∨ s = -1) (ht : t = 1 ∨ t = -1) : IntKind.i64.wrap (s * t) = s * t := IntWalk.i64_in _ (by rcases sgnp_mul hs ht with h | h <;> rw [h] <;> decide)
theorem J_range (a : Int) (n : Nat) : J a n = 0 ∨ J a n = 1 ∨ J a n = -1 := by
  by_cases h : Int.gcd a n = 1
  · exact .inr (J_or h)
  · exact .inl (J_not h)
theorem sgn_wrapJ {s t : Int} (hs : s = 1 ∨ s = -1) (ht : t = 0 ∨ t = 1 ∨ t = -1) : IntKind.i64.wrap (s * t) = s * t := IntWalk.i64_in _ (by rcases hs with rfl | rfl <;> rcases ht with rfl | rfl | rfl <;> decide)
theorem J_round {x y : Int} (hx : 0 < x) (hy : 0 < y) (ho : y % 2 = 1) :
    (0 < x / 2 ^ v2 x ∧ (x / 2 ^ v2 x) % 2 = 1 ∧ x / 2 ^ v2 x ≤ x) ∧
    J x y.toNat = (twosZ (v2 x : Int) (ab y % 4294967296) * turnZ (ab (x / 2 ^ v2 x) % 4294967296) (ab y % 4294967296)) * J (y % (x / 2 ^ v2 x)) (x / 2 ^ v2 x).toNat := by
  obtain ⟨h1, h2⟩ := v2_div (z := x) (by omega)
  have hp := pow_two_pos (v2 x)
  rw [twosZ_mod, turnZ_mod]
  generalize hO : x / 2 ^ v2 x = o at *
  have ho0 : 0 < o := by
    rcases Int.lt_or_le 0 o with h | h
    · exact h
    · have := Int.mul_le_mul_of_nonneg_left h (show (0 : Int) ≤ 2 ^ v2 x by omega)
      omega
  have hle : o ≤ x := by
    have := Int.mul_le_mul_of_nonneg_right (show (1 : Int) ≤ 2 ^ v2 x by omega) (show 0 ≤ o by omega)
    omega
  refine ⟨⟨ho0, h2, hle⟩, ?_⟩
  obtain ⟨O, rfl⟩ := Int.eq_ofNat_of_zero_le (show 0 ≤ o by omega)
  obtain ⟨Y, rfl⟩ := Int.eq_ofNat_of_zero_le (show 0 ≤ y by omega)
  have hs := J_step (t := v2 x) (o := O) (n := Y) (by omega) (by omega)
  have e : ((2 ^ v2 x * O : Nat) : Int) = x := by
    rw [Int.natCast_mul, Int.natCast_pow]
    exact h1.symm
  rw [e] at hs
  rw [Int.toNat_natCast, Int.toNat_natCast, ab_of (by omega), ab_of (by omega)]
  exact hs
theorem nbits_gt {y : Int} (hy : 0 < y) (h : 63 < nbits y) : y.toNat ≠ 1 := by
  rcases nbits_isBits y with ⟨h1, h2⟩ | ⟨_, h2, _⟩
  · omega
  · have h3 : (2 : Int) ^ 63 ≤ 2 ^ (nbits y - 1) := two_pow_le (by omega)
    rw [ab_of (by omega)] at h2
    have : (2 : Int) ^ 63 = 9223372036854775808 := by decide
    omega
theorem nbits_le63 {y : Int} (hy : 0 < y) (h : ¬ 63 < nbits y) : y ≤ 9223372036854775807 := by
  rcases nbits_isBits y with ⟨h1, h2⟩ | ⟨_, _, h2⟩
  · rw [ab_of (by omega)] at h1; omega
  · have h3 : (2 : Int) ^ nbits y ≤ 2 ^ 63 := two_pow_le (by omega)
    rw [ab_of (by omega)] at h2
    have : (2 : Int) ^ 63 = 9223372036854775808 := by decide
    omega

set_option maxRecDepth 100000 in
set_option maxHeartbeats 4000000 in
theorem exJacobi {w : World} {v v' : Value} {a n : Int} (h : Num w v a) (h' : Num w v' n) (hT : Tabs w) (ha : ab a < pw 100) (hn : ab n < pw 100) (hi : 0 ≤ a ∧ a < n ∧ n % 2 = 1) :
    Calls Tryz.prog 39 #[v, v'] w fun e w' => ∃ v', e = .returned v' ∧ Below w.heap.size w w' ∧ v' = .int .i64 (J a n.toNat) := by
  replace ha := hidd ha
  replace hn := hidd hn
  have HT := hidd hT
  have HI0 := hidd hi
  clear hT hi
  obtain ⟨n0, ao0, k0, c0, rfl⟩ := h.parts
  obtain ⟨n1, ao1, k1, c1, rfl⟩ := h'.parts
  obtain ⟨w1, b1, hw1, hb1, hs1, E⟩ := fr_start w (F := Fq.num a) (us := [.bool n0, .slice ao0 k0 c0]) 29 rfl (by simp) (tame_int _ _ _ _) h
  obtain ⟨w2, b2, hw2, hb2, hs2, E⟩ := fr_more E hs1 (F := Fq.num n) (us := [.bool n1, .slice ao1 k1 c1]) 29 rfl (by simp) (tame_int _ _ _ _) (h'.mono E.below)
  go_enter Tryz.func39, Tryz.ntmps39
  go_upto_region 1 with (fail)
  rw [← hw1]
  rw [← hw2]
  rw [← hb2]
  rw [← hb1]
  clear hw1 hw2 hb1 hb2 hs2 hs1
  refine region_fr (C := [Fq.is (.int .i64 1)]) (ks := [none, none]) (new := []) E rfl (by kernel_rfl) rfl rfl (fun hp => ⟨?_, trivial⟩) ?_
  · exact q_assign hp (free_of rfl) trivial (sq_const (fun _ => rfl))
  intro L vs w3 nb hL hC hn E3
  have e0 : vs 0 = .int .i64 1 := hC 0 (by simp)
  have E : Fr w [(b2, 2, Fq.num n), (b1, 2, Fq.num a)] w3 := E3
  rw [lay_all hL]
  simp only [putAll, dstOf, List.length_cons, List.length_nil, Nat.zero_add, List.getElem?_toArray, List.getElem?_cons_zero, Option.bind_some, Act.put, List.setIfInBounds_toArray, List.set_cons_succ, List.set_cons_zero]
  rw [e0]
  clear e0 hC hn E3 hL vs L nb
  have HS := hidd E
  go_upto_region 2 with (fail)
  go_loopw [5] (fun vs W => ∃ x y s : Int, vs = .int .i64 s ∧ Hid (ab x < pw 100 ∧ ab y < pw 100) ∧ Hid (0 ≤ x ∧ x < y ∧ y % 2 = 1 ∧ (s = 1 ∨ s = -1) ∧ J a n.toNat = s * J x y.toNat) ∧ Fr w [(b2, 2, Fq.num y), (b1, 2, Fq.num x)] W) (fun _ W => boxVal W b1)
  case atStart => exact ⟨a, n, 1, rfl, ⟨ha.out, hn.out⟩, ⟨HI0.out.1, HI0.out.2.1, HI0.out.2.2, .inl rfl, by rw [Int.one_mul]⟩, HS.out⟩
  case round =>
    obtain ⟨x, y, s, rfl, HB, HI, E⟩ := hrel
    clear HS HI0 ha hn
    by_cases hb : 63 < nbits y
    · have TB : Hid ((63 : Int) < ((nbits y : Nat) : Int)) := by show _ < _; omega
      by_cases hx : x = 0
      · subst hx
        have T0 : Hid (cmpI (0 : Int) 0 = 0) := cmpIq0.2 rfl
        have HJ : Hid (J a n.toNat = 0) := by have := HI.out; show _ = _; rw [this.2.2.2.2, J_zero, if_neg (nbits_gt (by omega) hb), Int.mul_zero]
        clear hb
        go_upto_region 2 with (fail)
        refine region_fr (C := [Fq.num y, Fq.is (.int .i64 ((nbits y : Nat) : Int)), Fq.is (.bool true)]) (ks := [none, none]) (new := []) E rfl (by kernel_rfl) rfl rfl (fun hp => ⟨?_, ?_, ?_, trivial⟩) ?_
        · exact q_loadInt (off := 0) hp (free_of rfl) trivial (List.mem_iff_getElem?.2 ⟨0, rfl⟩) (.inl rfl) (Nat.le_of_ble_eq_true rfl) (sq_out rfl rfl (fun _ _ => rfl)) (fun us w hl h => ld_num hl h)
        · exact q_call1 (F := (Fq.num y).P) hp (free_of rfl) trivial (enq_Bits) (sqi 0) (fun v w h => exBits h)
        · exact q_one (F := fun v _ => v = .int .i64 ((nbits y : Nat) : Int)) hp (free_of rfl) trivial (sqi 1) (fun ρ w hc h => ⟨.bool true, by simp [execOp, go_sem, h, hc, TB.out], rfl⟩)
        intro L vs w4 nb hL hC hn E4
        have e1 : vs 1 = .int .i64 ((nbits y : Nat) : Int) := hC 1 (by simp)
        have e2 : vs 2 = .bool true := hC 2 (by simp)
        have E : Fr w [(b2, 2, Fq.num y), (b1, 2, Fq.num 0)] w4 := E4
        rw [lay_all hL]
        simp only [putAll, dstOf, List.length_cons, List.length_nil, Nat.zero_add, Nat.reduceAdd, List.getElem?_toArray, List.getElem?_cons_zero, List.getElem?_cons_succ, Option.bind_some, Act.put, List.setIfInBounds_toArray, List.set_cons_succ, List.set_cons_zero]
        rw [e1, e2]
        generalize vs 0 = u4_0
        clear e1 e2 hC hn E4 hL vs L nb
        go_upto_region 3 with (fail)
        refine region_fr (C := [Fq.num 0, Fq.is (.int .i64 (cmpI 0 0)), Fq.is (.bool true)]) (ks := [none, none]) (new := []) E rfl (by kernel_rfl) rfl rfl (fun hp => ⟨?_, ?_, ?_, trivial⟩) ?_
        · exact q_loadInt (off := 0) hp (free_of rfl) trivial (List.mem_iff_getElem?.2 ⟨1, rfl⟩) (.inl rfl) (Nat.le_of_ble_eq_true rfl) (sq_out rfl rfl (fun _ _ => rfl)) (fun us w hl h => ld_num hl h)
        · exact q_call1 (F := (Fq.num 0).P) hp (free_of rfl) trivial (enq_Sign) (sqi 0) (fun v w h => exSign h)
        · exact q_one (F := fun v _ => v = .int .i64 (cmpI 0 0)) hp (free_of rfl) trivial (sqi 1) (fun ρ w hc h => ⟨.bool true, by simp [execOp, go_sem, h, hc, T0.out], rfl⟩)
        intro L vs w5 nb hL hC hn E5
        have e1 : vs 1 = .int .i64 (cmpI 0 0) := hC 1 (by simp)
        have e2 : vs 2 = .bool true := hC 2 (by simp)
        have E : Fr w [(b2, 2, Fq.num y), (b1, 2, Fq.num 0)] w5 := E5
        rw [lay_all hL]
        simp only [putAll, dstOf, List.length_cons, List.length_nil, Nat.zero_add, Nat.reduceAdd, List.getElem?_toArray, List.getElem?_cons_zero, List.getElem?_cons_succ, Option.bind_some, Act.put, List.setIfInBounds_toArray, List.set_cons_succ, List.set_cons_zero]
        rw [e1, e2]
        generalize vs 0 = u5_0
        clear e1 e2 hC hn E5 hL vs L nb
        clear TB T0 HB HI HT
        go_wp2
        refine bodyPost_ret (v := .int .i64 0) ?_ rfl (by first | exact ⟨_, rfl, E.below, by rw [HJ.out]⟩ | exact ⟨_, rfl, E.below⟩ | exact ⟨rfl, E.below⟩)
        simp [results, Tryz.results39, go_sem]
      · have T0 : Hid (¬ cmpI x 0 = 0) := fun e => hx (cmpIq0.1 e)
        have HX : Hid (x ≠ 0) := hx
        obtain ⟨⟨o1, o2, o3⟩, hJ⟩ := J_round (x := x) (y := y) (by have := HI.out; omega) (by have := HI.out; omega) HI.out.2.2.1
        have hA := twosZ_or (v2 x : Int) (ab y % 4294967296)
        have hC := turnZ_or (ab (x / 2 ^ v2 x) % 4294967296) (ab y % 4294967296)
        obtain ⟨A, eA⟩ : ∃ A, twosZ (v2 x : Int) (ab y % 4294967296) = A := ⟨_, rfl⟩
        obtain ⟨C, eC⟩ : ∃ C, turnZ (ab (x / 2 ^ v2 x) % 4294967296) (ab y % 4294967296) = C := ⟨_, rfl⟩
        rw [eA] at hA hJ
        rw [eC] at hC hJ
        have HA := hidd eA
        have HC := hidd eC
        have G1 := hidd (sgn_wrap hA hC)
        have G2 := hidd (sgn_wrap HI.out.2.2.2.1 (sgnp_mul hA hC))
        have HO : Hid (0 < x / 2 ^ v2 x ∧ (x / 2 ^ v2 x) % 2 = 1 ∧ x / 2 ^ v2 x ≤ x) := ⟨o1, o2, o3⟩
        have HOZ : Hid (x / 2 ^ v2 x ≠ 0) := by show _ ≠ _; omega
        have HJ : Hid ((s * (A * C) = 1 ∨ s * (A * C) = -1) ∧ J a n.toNat = s * (A * C) * J (y % (x / 2 ^ v2 x)) (x / 2 ^ v2 x).toNat) := ⟨sgnp_mul HI.out.2.2.2.1 (sgnp_mul hA hC), by rw [HI.out.2.2.2.2, hJ]; ac_rfl⟩
        have BO : Hid (ab (x / 2 ^ v2 x) < pw 100) := by have h1 := HB.out.1; have h2 := HI.out; show _ < _; unfold ab at *; omega
        have HK : Hid ((v2 x : Int) < 9223372036854775808) := v2_lt (by have := HX.out; exact this) HB.out.1
        clear hx hb o1 o2 o3 hJ hA hC eA eC
        have HBV := hidd (boxVal_eq (bq_box (E.box 1 rfl)))
        go_upto_region 2 with (fail)
        refine region_fr (C := [Fq.num y, Fq.is (.int .i64 ((nbits y : Nat) : Int)), Fq.is (.bool true)]) (ks := [none, none]) (new := []) E rfl (by kernel_rfl) rfl rfl (fun hp => ⟨?_, ?_, ?_, trivial⟩) ?_
        · exact q_loadInt (off := 0) hp (free_of rfl) trivial (List.mem_iff_getElem?.2 ⟨0, rfl⟩) (.inl rfl) (Nat.le_of_ble_eq_true rfl) (sq_out rfl rfl (fun _ _ => rfl)) (fun us w hl h => ld_num hl h)
        · exact q_call1 (F := (Fq.num y).P) hp (free_of rfl) trivial (enq_Bits) (sqi 0) (fun v w h => exBits h)
        · exact q_one (F := fun v _ => v = .int .i64 ((nbits y : Nat) : Int)) hp (free_of rfl) trivial (sqi 1) (fun ρ w hc h => ⟨.bool true, by simp [execOp, go_sem, h, hc, TB.out], rfl⟩)
        intro L vs w6 nb hL hC hn E6
        have e1 : vs 1 = .int .i64 ((nbits y : Nat) : Int) := hC 1 (by simp)
        have e2 : vs 2 = .bool true := hC 2 (by simp)
        have E : Fr w [(b2, 2, Fq.num y), (b1, 2, Fq.num x)] w6 := E6
        rw [lay_all hL]
        simp only [putAll, dstOf, List.length_cons, List.length_nil, Nat.zero_add, Nat.reduceAdd, List.getElem?_toArray, List.getElem?_cons_zero, List.getElem?_cons_succ, Option.bind_some, Act.put, List.setIfInBounds_toArray, List.set_cons_succ, List.set_cons_zero]
        rw [e1, e2]
        generalize vs 0 = u6_0
        clear e1 e2 hC hn E6 hL vs L nb
        go_upto_region 3 with (fail)
        refine region_fr (C := [Fq.num x, Fq.is (.int .i64 (cmpI x 0)), Fq.is (.bool false)]) (ks := [none, none]) (new := []) E rfl (by kernel_rfl) rfl rfl (fun hp => ⟨?_, ?_, ?_, trivial⟩) ?_
        · exact q_loadInt (off := 0) hp (free_of rfl) trivial (List.mem_iff_getElem?.2 ⟨1, rfl⟩) (.inl rfl) (Nat.le_of_ble_eq_true rfl) (sq_out rfl rfl (fun _ _ => rfl)) (fun us w hl h => ld_num hl h)
        · exact q_call1 (F := (Fq.num x).P) hp (free_of rfl) trivial (enq_Sign) (sqi 0) (fun v w h => exSign h)
        · exact q_one (F := fun v _ => v = .int .i64 (cmpI x 0)) hp (free_of rfl) trivial (sqi 1) (fun ρ w hc h => ⟨.bool false, by simp [execOp, go_sem, h, hc, T0.out], rfl⟩)
        intro L vs w7 nb hL hC hn E7
        have e1 : vs 1 = .int .i64 (cmpI x 0) := hC 1 (by simp)
        have e2 : vs 2 = .bool false := hC 2 (by simp)
        have E : Fr w [(b2, 2, Fq.num y), (b1, 2, Fq.num x)] w7 := E7
        rw [lay_all hL]
        simp only [putAll, dstOf, List.length_cons, List.length_nil, Nat.zero_add, Nat.reduceAdd, List.getElem?_toArray, List.getElem?_cons_zero, List.getElem?_cons_succ, Option.bind_some, Act.put, List.setIfInBounds_toArray, List.set_cons_succ, List.set_cons_zero]
        rw [e1, e2]
        generalize vs 0 = u7_0
        clear e1 e2 hC hn E7 hL vs L nb
        clear TB T0
        go_upto_region 5 with (fail)
        refine region_fr (C := [Fq.num x, Fq.tup2 (Fq.num (x / 2 ^ v2 x)) (Fq.is (.int .i64 (v2 x : Int))), Fq.tup2 (Fq.num (x / 2 ^ v2 x)) (Fq.is (.int .i64 (v2 x : Int))), Fq.num (x / 2 ^ v2 x), Fq.is (.int .i64 (v2 x : Int)), Fq.any, Fq.any, Fq.is (.int .i64 (v2 x : Int))]) (ks := [none, none]) (new := [⟨5, 6, 2, Fq.num 0, Fq.num (x / 2 ^ v2 x), none⟩]) E rfl (by kernel_rfl) rfl rfl (fun hp => ⟨?_, ?_, ?_, ?_, ?_, ?_, ?_, ?_, trivial⟩) ?_
        · exact q_loadInt (off := 0) hp (free_of rfl) trivial (List.mem_iff_getElem?.2 ⟨1, rfl⟩) (.inl rfl) (Nat.le_of_ble_eq_true rfl) (sq_out rfl rfl (fun _ _ => rfl)) (fun us w hl h => ld_num hl h)
        · exact q_call1W (F := (Fq.num x).P) hp (free_of rfl) trivial (enq_M_oddPart) rfl (sqi 0) (fun v w hbw h => exOddPart h (HT.out.mono hbw) HX.out (Int.lt_of_lt_of_le HB.out.1 (pw_le (by omega))))
        · exact q_move hp (free_of rfl) trivial (sqi 1)
        · exact q_extract2 hp (free_of rfl) trivial (sqi 2) (fun v1 v2 w h1 h2 => ⟨_, rfl, h1⟩)
        · exact q_extract2 hp (free_of rfl) trivial (sqi 2) (fun v1 v2 w h1 h2 => ⟨_, rfl, h2⟩)
        · exact q_allocInt hp (List.mem_iff_getElem?.2 ⟨0, rfl⟩) rfl rfl rfl rfl (Nat.ne_of_beq_eq_false rfl) (fun _ _ => trivial) (old_ne rfl) (newk_ne rfl) (fun w => Num.zero w)
        · exact q_storeNewInt hp (List.mem_iff_getElem?.2 ⟨0, rfl⟩) rfl rfl rfl (own_ptr rfl rfl (by simp) rfl) (sq_in 3 rfl rfl (by simp) rfl (fun v w h => intV_num h)) (fun _ _ => trivial) (old_ne rfl) (newi_ne rfl)
        · exact q_assign hp (free_of rfl) trivial (sqi 4)
        intro L vs w8 nb hL hC hn E8
        have e4 : vs 4 = .int .i64 (v2 x : Int) := hC 4 (by simp)
        have e7 : vs 7 = .int .i64 (v2 x : Int) := hC 7 (by simp)
        have e5 : vs 5 = .pointer (some ⟨nb 5, 0, none⟩) := hn _ (List.mem_iff_getElem?.2 ⟨0, rfl⟩)
        have E : Fr w [(nb 5, 2, Fq.num (x / 2 ^ v2 x)), (b2, 2, Fq.num y), (b1, 2, Fq.num x)] w8 := E8
        rw [lay_all hL]
        simp only [putAll, dstOf, List.length_cons, List.length_nil, Nat.zero_add, Nat.reduceAdd, List.getElem?_toArray, List.getElem?_cons_zero, List.getElem?_cons_succ, Option.bind_some, Act.put, List.setIfInBounds_toArray, List.set_cons_succ, List.set_cons_zero]
        rw [e4, e7, e5]
        generalize nb 5 = b8_5 at E ⊢
        generalize vs 0 = u8_0
        generalize vs 1 = u8_1
        generalize vs 2 = u8_2
        generalize vs 3 = u8_3
        clear e4 e7 e5 hC hn E8 hL vs L nb
        go_upto_region 6 with (fail)
        refine region_fr (C := [Fq.is (.int .i64 s), Fq.is (.int .i64 (v2 x : Int)), Fq.num y, Fq.is (.int .u32 (ab y % 4294967296)), Fq.is (.int .i64 A), Fq.num (x / 2 ^ v2 x), Fq.is (.int .u32 (ab (x / 2 ^ v2 x) % 4294967296)), Fq.num y, Fq.is (.int .u32 (ab y % 4294967296)), Fq.is (.int .i64 C), Fq.is (.int .i64 (A * C)), Fq.is (.int .i64 (s * (A * C))), Fq.is (.int .i64 (s * (A * C)))]) (ks := [none, none, none]) (new := []) E rfl (by kernel_rfl) rfl rfl (fun hp => ⟨?_, ?_, ?_, ?_, ?_, ?_, ?_, ?_, ?_, ?_, ?_, ?_, ?_, trivial⟩) ?_
        · exact q_moveB 12 3 hp (free_of rfl) trivial rfl rfl rfl rfl (fun _ => rfl)
        · exact q_move hp (free_of rfl) trivial (sq_out rfl rfl (fun _ _ => rfl))
        · exact q_loadInt (off := 0) hp (free_of rfl) trivial (List.mem_iff_getElem?.2 ⟨1, rfl⟩) (.inl rfl) (Nat.le_of_ble_eq_true rfl) (sq_out rfl rfl (fun _ _ => rfl)) (fun us w hl h => ld_num hl h)
        · exact q_call1 (F := (Fq.num y).P) hp (free_of rfl) trivial (enq_M_low) (sqi 2) (fun v w h => exLow h)
        · exact q_call2 (F := (Fq.is (.int .i64 (v2 x : Int))).P) (G := (Fq.is (.int .u32 (ab y % 4294967296))).P) hp (free_of rfl) trivial (enq_M_ofTwos) (sqi 1) (sqi 3) (fun v v' w h h' => exOfTwos h h' ⟨by omega, HK.out⟩ (word_range _) HA.out)
        · exact q_loadInt (off := 0) hp (free_of rfl) trivial (List.mem_iff_getElem?.2 ⟨0, rfl⟩) (.inl rfl) (Nat.le_of_ble_eq_true rfl) (sq_out rfl rfl (fun _ _ => rfl)) (fun us w hl h => ld_num hl h)
        · exact q_call1 (F := (Fq.num (x / 2 ^ v2 x)).P) hp (free_of rfl) trivial (enq_M_low) (sqi 5) (fun v w h => exLow h)
        · exact q_loadInt (off := 0) hp (free_of rfl) trivial (List.mem_iff_getElem?.2 ⟨1, rfl⟩) (.inl rfl) (Nat.le_of_ble_eq_true rfl) (sq_out rfl rfl (fun _ _ => rfl)) (fun us w hl h => ld_num hl h)
        · exact q_call1 (F := (Fq.num y).P) hp (free_of rfl) trivial (enq_M_low) (sqi 7) (fun v w h => exLow h)
        · exact q_call2 (F := (Fq.is (.int .u32 (ab (x / 2 ^ v2 x) % 4294967296))).P) (G := (Fq.is (.int .u32 (ab y % 4294967296))).P) hp (free_of rfl) trivial (enq_M_turned) (sqi 6) (sqi 8) (fun v v' w h h' => exTurned h h' (word_range _) (word_range _) HC.out)
        · exact q_two (F := fun v _ => v = .int .i64 A) (G := fun v _ => v = .int .i64 C) hp (free_of rfl) trivial (sqi 4) (sqi 9) (fun ρ w hc h h' => ⟨.int .i64 (A * C), by simp [execOp, go_sem, h, h', G1.out], rfl⟩)
        · exact q_two (F := fun v _ => v = .int .i64 s) (G := fun v _ => v = .int .i64 (A * C)) hp (free_of rfl) trivial (sqi 0) (sqi 10) (fun ρ w hc h h' => ⟨.int .i64 (s * (A * C)), by simp [execOp, go_sem, h, h', G2.out], rfl⟩)
        · exact q_assign hp (free_of rfl) trivial (sqi 11)
        intro L vs w9 nb hL hC hn E9
        have e0 : vs 0 = .int .i64 s := hC 0 (by simp)
        have e1 : vs 1 = .int .i64 (v2 x : Int) := hC 1 (by simp)
        have e3 : vs 3 = .int .u32 (ab y % 4294967296) := hC 3 (by simp)
        have e4 : vs 4 = .int .i64 A := hC 4 (by simp)
        have e6 : vs 6 = .int .u32 (ab (x / 2 ^ v2 x) % 4294967296) := hC 6 (by simp)
        have e8 : vs 8 = .int .u32 (ab y % 4294967296) := hC 8 (by simp)
        have e9 : vs 9 = .int .i64 C := hC 9 (by simp)
        have e10 : vs 10 = .int .i64 (A * C) := hC 10 (by simp)
        have e11 : vs 11 = .int .i64 (s * (A * C)) := hC 11 (by simp)
        have e12 : vs 12 = .int .i64 (s * (A * C)) := hC 12 (by simp)
        have E : Fr w [(b8_5, 2, Fq.num (x / 2 ^ v2 x)), (b2, 2, Fq.num y), (b1, 2, Fq.num x)] w9 := E9
        rw [lay_all hL]
        simp only [putAll, dstOf, List.length_cons, List.length_nil, Nat.zero_add, Nat.reduceAdd, List.getElem?_toArray, List.getElem?_cons_zero, List.getElem?_cons_succ, Option.bind_some, Act.put, List.setIfInBounds_toArray, List.set_cons_succ, List.set_cons_zero]
        rw [e0, e1, e3, e4, e6, e8, e9, e10, e11, e12]
        generalize vs 2 = u9_2
        generalize vs 5 = u9_5
        generalize vs 7 = u9_7
        clear e0 e1 e3 e4 e6 e8 e9 e10 e11 e12 hC hn E9 hL vs L nb
        clear G1 G2
        go_upto_region 7 with (fail)
        have B10 : Hid (ab ((y % (x / 2 ^ v2 x))) < pw 100) := ab_modB HOZ.out BO.out
        refine region_fr (C := [Fq.num (x / 2 ^ v2 x), Fq.any, Fq.num y, Fq.num (y % (x / 2 ^ v2 x)), Fq.num (x / 2 ^ v2 x), Fq.any, Fq.any]) (ks := [none, some (6, Fq.num (x / 2 ^ v2 x)), some (5, Fq.num (y % (x / 2 ^ v2 x)))]) (new := [⟨1, 1, 2, Fq.num (x / 2 ^ v2 x), Fq.num (x / 2 ^ v2 x), (some (.clo 57))⟩]) E rfl (by kernel_rfl) rfl rfl (fun hp => ⟨?_, ?_, ?_, ?_, ?_, ?_, ?_, trivial⟩) ?_
        · exact q_loadInt (off := 0) hp (free_of rfl) trivial (List.mem_iff_getElem?.2 ⟨0, rfl⟩) (.inl rfl) (Nat.le_of_ble_eq_true rfl) (sq_out rfl rfl (fun _ _ => rfl)) (fun us w hl h => ld_num hl h)
        · exact q_callMake (F := (Fq.num (x / 2 ^ v2 x)).P) hp enq_M_within (List.mem_iff_getElem?.2 ⟨0, rfl⟩) rfl rfl rfl (sqi 0) (fun v w h => exWithin h) (fun _ _ => trivial) (old_ne rfl) (newks_ne rfl)
        · exact q_loadInt (off := 0) hp (free_of rfl) trivial (List.mem_iff_getElem?.2 ⟨1, rfl⟩) (.inr rfl) (Nat.le_of_ble_eq_true rfl) (sq_out rfl rfl (fun _ _ => rfl)) (fun us w hl h => ld_num hl h)
        · exact q_callCloIn (F := (Fq.num y).P) hp (free_of rfl) trivial enq_M_within1 (List.mem_iff_getElem?.2 ⟨0, rfl⟩) rfl (own_ptr rfl rfl (by simp) rfl) (sqi 2) (fun v b w h hb => exResidue h hb HOZ.out (Int.lt_of_lt_of_le HB.out.2 (pw_le (by omega))) (Int.lt_of_lt_of_le BO.out (pw_le (by omega))))
        · exact q_loadInt (off := 0) hp (free_of rfl) trivial (List.mem_iff_getElem?.2 ⟨0, rfl⟩) (.inl rfl) (Nat.le_of_ble_eq_true rfl) (sq_out rfl rfl (fun _ _ => rfl)) (fun us w hl h => ld_num hl h)
        · exact q_storeOldInt hp (List.mem_iff_getElem?.2 ⟨2, rfl⟩) rfl rfl (sq_out rfl rfl (fun _ _ => rfl)) (sq_in 3 rfl rfl (by simp) rfl (fun v w h => intV_num h)) (fun _ _ => trivial) (newik_ne rfl)
        · exact q_storeOldInt hp (List.mem_iff_getElem?.2 ⟨1, rfl⟩) rfl rfl (sq_out rfl rfl (fun _ _ => rfl)) (sq_in 4 rfl rfl (by simp) rfl (fun v w h => intV_num h)) (fun _ _ => trivial) (newik_ne rfl)
        intro L vs w11 nb hL hC hn E11
        have e1 : vs 1 = cloV 57 (nb 1) := hn _ (List.mem_iff_getElem?.2 ⟨0, rfl⟩)
        have E : Fr w [(nb 1, 2, Fq.num (x / 2 ^ v2 x)), (b8_5, 2, Fq.num (x / 2 ^ v2 x)), (b2, 2, Fq.num (x / 2 ^ v2 x)), (b1, 2, Fq.num (y % (x / 2 ^ v2 x)))] w11 := E11
        rw [lay_all hL]
        simp only [putAll, dstOf, List.length_cons, List.length_nil, Nat.zero_add, Nat.reduceAdd, List.getElem?_toArray, List.getElem?_cons_zero, List.getElem?_cons_succ, Option.bind_some, Act.put, List.setIfInBounds_toArray, List.set_cons_succ, List.set_cons_zero]
        rw [e1]
        generalize nb 1 = b11_1 at E ⊢
        generalize vs 0 = u11_0
        generalize vs 2 = u11_2
        generalize vs 3 = u11_3
        generalize vs 4 = u11_4
        clear e1 hC hn E11 hL vs L nb
        go_roundw
        case rel => (repeat apply Exists.intro); exact ⟨⟨y % (x / 2 ^ v2 x), x / 2 ^ v2 x, s * (A * C), rfl, ⟨ab_modB HOZ.out BO.out, BO.out⟩, ⟨Int.emod_nonneg _ HOZ.out, Int.emod_lt_of_pos _ HO.out.1, HO.out.2.1, HJ.out.1, HJ.out.2⟩, E.drop.drop⟩, rfl⟩
        case measure => rw [boxVal_eq (bq_box (E.box 3 rfl)), HBV.out]; have h1 := HO.out; have h2 := Int.emod_lt_of_pos y h1.1; have h3 := Int.emod_nonneg y HOZ.out; have h4 := HI.out.1; omega
    · have TB : Hid (¬ (63 : Int) < ((nbits y : Nat) : Int)) := by show ¬ _; omega
      have hy := nbits_le63 (y := y) (by have := HI.out; omega) hb
      have HL1 := hidd (lowV_in (z := x) (by have := HI.out; omega) (by have := HI.out; omega))
      have HL2 := hidd (lowV_in (z := y) (by have := HI.out; omega) hy)
      have W1 : Hid (IntKind.u64.wrap x = x) := by have := HI.out; show _ = _; rw [u64_wrap]; omega
      have W2 : Hid (IntKind.u64.wrap y = y) := by have := HI.out; show _ = _; rw [u64_wrap]; omega
      have HR : Hid (0 ≤ x ∧ x < 18446744073709551616 ∧ 0 ≤ y ∧ y < 18446744073709551616) := by have := HI.out; show _ ∧ _; omega
      have G1 := hidd (sgn_wrapJ HI.out.2.2.2.1 (J_range x y.toNat))
      clear hb hy
      go_upto_region 2 with (fail)
      refine region_fr (C := [Fq.num y, Fq.is (.int .i64 ((nbits y : Nat) : Int)), Fq.is (.bool false)]) (ks := [none, none]) (new := []) E rfl (by kernel_rfl) rfl rfl (fun hp => ⟨?_, ?_, ?_, trivial⟩) ?_
      · exact q_loadInt (off := 0) hp (free_of rfl) trivial (List.mem_iff_getElem?.2 ⟨0, rfl⟩) (.inl rfl) (Nat.le_of_ble_eq_true rfl) (sq_out rfl rfl (fun _ _ => rfl)) (fun us w hl h => ld_num hl h)
      · exact q_call1 (F := (Fq.num y).P) hp (free_of rfl) trivial (enq_Bits) (sqi 0) (fun v w h => exBits h)
      · exact q_one (F := fun v _ => v = .int .i64 ((nbits y : Nat) : Int)) hp (free_of rfl) trivial (sqi 1) (fun ρ w hc h => ⟨.bool false, by simp [execOp, go_sem, h, hc, TB.out], rfl⟩)
      intro L vs w12 nb hL hC hn E12
      have e1 : vs 1 = .int .i64 ((nbits y : Nat) : Int) := hC 1 (by simp)
      have e2 : vs 2 = .bool false := hC 2 (by simp)
      have E : Fr w [(b2, 2, Fq.num y), (b1, 2, Fq.num x)] w12 := E12
      rw [lay_all hL]
      simp only [putAll, dstOf, List.length_cons, List.length_nil, Nat.zero_add, Nat.reduceAdd, List.getElem?_toArray, List.getElem?_cons_zero, List.getElem?_cons_succ, Option.bind_some, Act.put, List.setIfInBounds_toArray, List.set_cons_succ, List.set_cons_zero]
      rw [e1, e2]
      generalize vs 0 = u12_0
      clear e1 e2 hC hn E12 hL vs L nb
      clear TB
      go_upto_region 8 with (fail)
      refine region_fr (C := [Fq.num x, Fq.tup2 (Fq.is (.int .i64 x)) (Fq.is (.bool true)), Fq.tup2 (Fq.is (.int .i64 x)) (Fq.is (.bool true)), Fq.is (.int .i64 x), Fq.is (.bool true), Fq.is (.int .i64 x), Fq.is (.bool true)]) (ks := [none, none]) (new := []) E rfl (by kernel_rfl) rfl rfl (fun hp => ⟨?_, ?_, ?_, ?_, ?_, ?_, ?_, trivial⟩) ?_
      · exact q_loadInt (off := 0) hp (free_of rfl) trivial (List.mem_iff_getElem?.2 ⟨1, rfl⟩) (.inl rfl) (Nat.le_of_ble_eq_true rfl) (sq_out rfl rfl (fun _ _ => rfl)) (fun us w hl h => ld_num hl h)
      · exact q_call1 (F := (Fq.num x).P) hp (free_of rfl) trivial (enq_Low) (sqi 0) (fun v w h => exLowQ h HL1.out)
      · exact q_move hp (free_of rfl) trivial (sqi 1)
      · exact q_extract2 hp (free_of rfl) trivial (sqi 2) (fun v1 v2 w h1 h2 => ⟨_, rfl, h1⟩)
      · exact q_extract2 hp (free_of rfl) trivial (sqi 2) (fun v1 v2 w h1 h2 => ⟨_, rfl, h2⟩)
      · exact q_assign hp (free_of rfl) trivial (sqi 3)
      · exact q_assign hp (free_of rfl) trivial (sqi 4)
      intro L vs w13 nb hL hC hn E13
      have e3 : vs 3 = .int .i64 x := hC 3 (by simp)
      have e4 : vs 4 = .bool true := hC 4 (by simp)
      have e5 : vs 5 = .int .i64 x := hC 5 (by simp)
      have e6 : vs 6 = .bool true := hC 6 (by simp)
      have E : Fr w [(b2, 2, Fq.num y), (b1, 2, Fq.num x)] w13 := E13
      rw [lay_all hL]
      simp only [putAll, dstOf, List.length_cons, List.length_nil, Nat.zero_add, Nat.reduceAdd, List.getElem?_toArray, List.getElem?_cons_zero, List.getElem?_cons_succ, Option.bind_some, Act.put, List.setIfInBounds_toArray, List.set_cons_succ, List.set_cons_zero]
      rw [e3, e4, e5, e6]
      generalize vs 0 = u13_0
      generalize vs 1 = u13_1
      generalize vs 2 = u13_2
      clear e3 e4 e5 e6 hC hn E13 hL vs L nb
      go_upto_region 9 with (fail)
      refine region_fr (C := [Fq.num y, Fq.tup2 (Fq.is (.int .i64 y)) (Fq.is (.bool true)), Fq.tup2 (Fq.is (.int .i64 y)) (Fq.is (.bool true)), Fq.is (.int .i64 y), Fq.is (.bool true), Fq.is (.int .i64 y), Fq.is (.bool true)]) (ks := [none, none]) (new := []) E rfl (by kernel_rfl) rfl rfl (fun hp => ⟨?_, ?_, ?_, ?_, ?_, ?_, ?_, trivial⟩) ?_
      · exact q_loadInt (off := 0) hp (free_of rfl) trivial (List.mem_iff_getElem?.2 ⟨0, rfl⟩) (.inl rfl) (Nat.le_of_ble_eq_true rfl) (sq_out rfl rfl (fun _ _ => rfl)) (fun us w hl h => ld_num hl h)
      · exact q_call1 (F := (Fq.num y).P) hp (free_of rfl) trivial (enq_Low) (sqi 0) (fun v w h => exLowQ h HL2.out)
      · exact q_move hp (free_of rfl) trivial (sqi 1)
      · exact q_extract2 hp (free_of rfl) trivial (sqi 2) (fun v1 v2 w h1 h2 => ⟨_, rfl, h1⟩)
      · exact q_extract2 hp (free_of rfl) trivial (sqi 2) (fun v1 v2 w h1 h2 => ⟨_, rfl, h2⟩)
      · exact q_assign hp (free_of rfl) trivial (sqi 3)
      · exact q_assign hp (free_of rfl) trivial (sqi 4)
      intro L vs w14 nb hL hC hn E14
      have e3 : vs 3 = .int .i64 y := hC 3 (by simp)
      have e4 : vs 4 = .bool true := hC 4 (by simp)
      have e5 : vs 5 = .int .i64 y := hC 5 (by simp)
      have e6 : vs 6 = .bool true := hC 6 (by simp)
      have E : Fr w [(b2, 2, Fq.num y), (b1, 2, Fq.num x)] w14 := E14
      rw [lay_all hL]
      simp only [putAll, dstOf, List.length_cons, List.length_nil, Nat.zero_add, Nat.reduceAdd, List.getElem?_toArray, List.getElem?_cons_zero, List.getElem?_cons_succ, Option.bind_some, Act.put, List.setIfInBounds_toArray, List.set_cons_succ, List.set_cons_zero]
      rw [e3, e4, e5, e6]
      generalize vs 0 = u14_0
      generalize vs 1 = u14_1
      generalize vs 2 = u14_2
      clear e3 e4 e5 e6 hC hn E14 hL vs L nb
      go_upto_region 10 with (fail)
      refine region_fr (C := [Fq.is (.int .i64 s), Fq.is (.int .i64 x), Fq.is (.int .u64 x), Fq.is (.int .i64 y), Fq.is (.int .u64 y), Fq.is (.int .i64 (J x y.toNat)), Fq.is (.int .i64 (s * J x y.toNat)), Fq.is (.int .i64 (s * J x y.toNat))]) (ks := [none, none]) (new := []) E rfl (by kernel_rfl) rfl rfl (fun hp => ⟨?_, ?_, ?_, ?_, ?_, ?_, ?_, ?_, trivial⟩) ?_
      · exact q_move hp (free_of rfl) trivial (sq_out rfl rfl (fun _ _ => rfl))
      · exact q_move hp (free_of rfl) trivial (sq_out rfl rfl (fun _ _ => rfl))
      · exact q_one (F := fun v _ => v = .int .i64 x) hp (free_of rfl) trivial (sqi 1) (fun ρ w hc h => ⟨.int .u64 x, by simp [execOp, go_sem, h, W1.out], rfl⟩)
      · exact q_move hp (free_of rfl) trivial (sq_out rfl rfl (fun _ _ => rfl))
      · exact q_one (F := fun v _ => v = .int .i64 y) hp (free_of rfl) trivial (sqi 3) (fun ρ w hc h => ⟨.int .u64 y, by simp [execOp, go_sem, h, W2.out], rfl⟩)
      · exact q_call2W (F := (Fq.is (.int .u64 x)).P) (G := (Fq.is (.int .u64 y)).P) hp (free_of rfl) trivial (enq_M_jacobiWords) rfl (sqi 2) (sqi 4) (fun v v' w hbw h h' => exJacWords (HT.out.mono hbw) h h' ⟨HR.out.1, HR.out.2.1⟩ HR.out.2.2 HI.out.2.2.1)
      · exact q_two (F := fun v _ => v = .int .i64 s) (G := fun v _ => v = .int .i64 (J x y.toNat)) hp (free_of rfl) trivial (sqi 0) (sqi 5) (fun ρ w hc h h' => ⟨.int .i64 (s * J x y.toNat), by simp [execOp, go_sem, h, h', G1.out], rfl⟩)
      · exact q_assign hp (free_of rfl) trivial (sqi 6)
      intro L vs w15 nb hL hC hn E15
      have e0 : vs 0 = .int .i64 s := hC 0 (by simp)
      have e1 : vs 1 = .int .i64 x := hC 1 (by simp)
      have e2 : vs 2 = .int .u64 x := hC 2 (by simp)
      have e3 : vs 3 = .int .i64 y := hC 3 (by simp)
      have e4 : vs 4 = .int .u64 y := hC 4 (by simp)
      have e5 : vs 5 = .int .i64 (J x y.toNat) := hC 5 (by simp)
      have e6 : vs 6 = .int .i64 (s * J x y.toNat) := hC 6 (by simp)
      have e7 : vs 7 = .int .i64 (s * J x y.toNat) := hC 7 (by simp)
      have E : Fr w [(b2, 2, Fq.num y), (b1, 2, Fq.num x)] w15 := E15
      rw [lay_all hL]
      simp only [putAll, dstOf, List.length_cons, List.length_nil, Nat.zero_add, Nat.reduceAdd, List.getElem?_toArray, List.getElem?_cons_zero, List.getElem?_cons_succ, Option.bind_some, Act.put, List.setIfInBounds_toArray, List.set_cons_succ, List.set_cons_zero]
      rw [e0, e1, e2, e3, e4, e5, e6, e7]
      clear e0 e1 e2 e3 e4 e5 e6 e7 hC hn E15 hL vs L nb
      have HJ := hidd HI.out.2.2.2.2
      clear HL1 HL2 W1 W2 HR G1 HI HB HT
      go_wp2
      refine bodyPost_ret (v := .int .i64 (s * J x y.toNat)) ?_ rfl (by first | exact ⟨_, rfl, E.below, by rw [HJ.out]⟩ | exact ⟨_, rfl, E.below⟩ | exact ⟨rfl, E.below⟩)
      simp [results, Tryz.results39, go_sem]

end Go.Proofs.YtieobgadihcgeaaGreatDoor

namespace Go.Proofs.YtieobgadihcgeaaGreatDoor
open Go Go.RowKit

theorem neg_pow : ∀ t : Nat, (-1 : Int) ^ t = if t % 2 = 1 then -1 else 1
  | 0 => rfl
  | t + 1 => by
    rw [Int.pow_succ, neg_pow t]
    by_cases h : t % 2 = 1
    · rw [if_pos h, if_neg (by omega)]; rfl
    · rw [if_neg h, if_pos (by omega)]; rfl
theorem one_powI : ∀ t : Nat, (1 : Int) ^ t = 1
  | 0 => rfl
  | t + 1 => by rw [Int.pow_succ, one_powI t]; rfl
theorem kro_twos (a : Int) {N : Nat} (hN : N ≠ 0) : ∀ t : Nat, kro a (2 ^ t * N) = two a ^ t * kro a N
  | 0 => by rw [Nat.pow_zero, Nat.one_mul, Int.pow_zero, Int.one_mul]
  | t + 1 => by
    have h : 2 ^ t * N ≠ 0 := Nat.mul_ne_zero (by have := Nat.two_pow_pos t; omega) hN
    rw [Nat.pow_succ, Nat.mul_comm (2 ^ t) 2, Nat.mul_assoc, kro_even h, kro_twos a hN t, Int.pow_succ]
    ac_rfl
theorem two_twosZ {a : Int} {t : Nat} (h : a % 2 = 1 ∨ t = 0) : two a ^ t = twosZ (t : Int) (ab a % 4294967296) := by
  rcases Nat.eq_zero_or_pos t with rfl | ht
  · rw [Int.pow_zero]; unfold twosZ; rw [if_neg (by omega)]
  · have ha : a % 2 = 1 := by omega
    unfold twosZ two ab
    rw [if_neg (by omega)]
    by_cases h3 : a % 8 = 3 ∨ a % 8 = 5
    · rw [if_pos h3, neg_pow]
      by_cases h2 : t % 2 = 1
      · rw [if_pos h2, if_pos (by omega)]
      · rw [if_neg h2, if_neg (by omega)]
    · rw [if_neg h3, if_neg (by omega), one_powI]
def sg2 (a n : Int) : Int := if a < 0 ∧ n < 0 then -1 else 1
theorem sg2_or (a n : Int) : sg2 a n = 1 ∨ sg2 a n = -1 := by unfold sg2; split <;> simp
theorem kron_split {a n : Int} (hn : n ≠ 0) (hp : ¬ (a % 2 = 0 ∧ n % 2 = 0)) :
    (0 < (Int.natAbs (n / 2 ^ v2 n) : Int) ∧ (Int.natAbs (n / 2 ^ v2 n) : Int) % 2 = 1 ∧ ab (n / 2 ^ v2 n) ≤ ab n) ∧
    kron a n = sg2 a n * twosZ (v2 n : Int) (ab a % 4294967296) * J (a % (Int.natAbs (n / 2 ^ v2 n) : Int)) (Int.natAbs (n / 2 ^ v2 n) : Int).toNat := by
  obtain ⟨h1, h2⟩ := v2_div (z := n) hn
  generalize ht : v2 n = t at *
  generalize hO : n / 2 ^ t = o at *
  have hn2 : n.natAbs = 2 ^ t * o.natAbs := by
    have := congrArg Int.natAbs h1
    rw [Int.natAbs_mul, Int.natAbs_pow] at this
    exact this
  have ho : o.natAbs % 2 = 1 := by omega
  have hle : o.natAbs ≤ n.natAbs := by
    rw [hn2]
    exact Nat.le_mul_of_pos_left _ (Nat.two_pow_pos t)
  refine ⟨⟨by omega, by omega, by unfold ab; omega⟩, ?_⟩
  have hodd : a % 2 = 1 ∨ t = 0 := by
    rcases Nat.eq_zero_or_pos t with h | h
    · exact .inr h
    · obtain ⟨s, rfl⟩ : ∃ s, t = s + 1 := ⟨t - 1, by omega⟩
      rw [Nat.pow_succ, Nat.mul_comm (2 ^ s) 2, Nat.mul_assoc] at hn2
      generalize 2 ^ s * o.natAbs = q at hn2
      omega
  rw [Int.toNat_natCast, J_mod]
  unfold kron sg2
  rw [if_neg hn, hn2, kro_twos a (by omega), two_twosZ hodd, kro_odd ho]
  ac_rfl
theorem kron_even {a n : Int} (hn : n ≠ 0) (hp : a % 2 = 0 ∧ n % 2 = 0) : kron a n = 0 := by
  have h : kro a n.natAbs = 0 := by
    refine (kro_zero n.natAbs (by omega)).2 fun e => ?_
    have h2 : ((2 : Nat) : Int) ∣ (Int.gcd a n.natAbs : Nat) := Int.ofNat_dvd.2 (Int.dvd_gcd (Int.dvd_of_emod_eq_zero hp.1) (by omega))
    rw [e] at h2
    omega
  unfold kron
  rw [if_neg hn, h, Int.mul_zero]
theorem and_oneM {z : Int} : bits .and .u32 (ab z % 4294967296) 1 = ab z % 2 := by
  obtain ⟨x, hx⟩ := Int.eq_ofNat_of_zero_le (show 0 ≤ ab z by unfold ab; omega)
  have h := and_u32 (x % 4294967296) 1 (by omega) (by decide)
  have e : (x % 4294967296) &&& 1 = x % 2 := by rw [Nat.and_one_is_mod]; omega
  rw [e] at h
  rw [hx]
  have e2 : ((x % 4294967296 : Nat) : Int) = (x : Int) % 4294967296 := by omega
  rw [e2] at h
  exact h.trans (by omega)
theorem exJacobiR {w : World} {v v' : Value} {a n r : Int} (h : Num w v a) (h' : Num w v' n) (hT : Tabs w) (ha : ab a < pw 100) (hn : ab n < pw 100) (hi : 0 ≤ a ∧ a < n ∧ n % 2 = 1) (hr : J a n.toNat = r) :
    Calls Tryz.prog 39 #[v, v'] w fun e w' => ∃ v', e = .returned v' ∧ Below w.heap.size w w' ∧ v' = .int .i64 r := by
  subst hr
  exact exJacobi h h' hT ha hn hi
set_option maxRecDepth 100000 in
set_option maxHeartbeats 4000000 in
theorem exKronecker {w : World} {v v' : Value} {a n : Int} (h : Num w v a) (h' : Num w v' n) (hT : Tabs w) (ha : ab a < pw 100) (hn : ab n < pw 100) :
    Calls Tryz.prog 14 #[v, v'] w fun e w' => ∃ v', e = .returned v' ∧ Below w.heap.size w w' ∧ v' = .int .i64 (kron a n) := by
  replace ha := hidd ha
  replace hn := hidd hn
  have HT := hidd hT
  clear hT
  obtain ⟨n0, ao0, k0, c0, rfl⟩ := h.parts
  obtain ⟨n1, ao1, k1, c1, rfl⟩ := h'.parts
  obtain ⟨w1, b1, hw1, hb1, hs1, E⟩ := fr_start w (F := Fq.num a) (us := [.bool n0, .slice ao0 k0 c0]) 29 rfl (by simp) (tame_int _ _ _ _) h
  obtain ⟨w2, b2, hw2, hb2, hs2, E⟩ := fr_more E hs1 (F := Fq.num n) (us := [.bool n1, .slice ao1 k1 c1]) 29 rfl (by simp) (tame_int _ _ _ _) (h'.mono E.below)
  go_enter Tryz.func14, Tryz.ntmps14
  go_upto_region 1 with (fail)
  rw [← hw1]
  rw [← hw2]
  rw [← hb2]
  rw [← hb1]
  clear hw1 hw2 hb1 hb2 hs2 hs1
  have HA1 := hidd (and_oneM (z := a))
  have HN1 := hidd (and_oneM (z := n))
  by_cases h0 : n = 0
  · subst h0
    have T0 : Hid (cmpI (0 : Int) 0 = 0) := cmpIq0.2 rfl
    refine region_fr (C := [Fq.num 0, Fq.is (.int .i64 (cmpI 0 0)), Fq.is (.bool true)]) (ks := [none, none]) (new := []) E rfl (by kernel_rfl) rfl rfl (fun hp => ⟨?_, ?_, ?_, trivial⟩) ?_
    · exact q_loadInt (off := 0) hp (free_of rfl) trivial (List.mem_iff_getElem?.2 ⟨0, rfl⟩) (.inl rfl) (Nat.le_of_ble_eq_true rfl) (sq_out rfl rfl (fun _ _ => rfl)) (fun us w hl h => ld_num hl h)
    · exact q_call1 (F := (Fq.num 0).P) hp (free_of rfl) trivial (enq_Sign) (sqi 0) (fun v w h => exSign h)
    · exact q_one (F := fun v _ => v = .int .i64 (cmpI 0 0)) hp (free_of rfl) trivial (sqi 1) (fun ρ w hc h => ⟨.bool true, by simp [execOp, go_sem, h, hc, T0.out], rfl⟩)
    intro L vs w3 nb hL hC hn E3
    have e1 : vs 1 = .int .i64 (cmpI 0 0) := hC 1 (by simp)
    have e2 : vs 2 = .bool true := hC 2 (by simp)
    have E : Fr w [(b2, 2, Fq.num 0), (b1, 2, Fq.num a)] w3 := E3
    rw [lay_all hL]
    simp only [putAll, dstOf, List.length_cons, List.length_nil, Nat.zero_add, Nat.reduceAdd, List.getElem?_toArray, List.getElem?_cons_zero, List.getElem?_cons_succ, Option.bind_some, Act.put, List.setIfInBounds_toArray, List.set_cons_succ, List.set_cons_zero]
    rw [e1, e2]
    generalize vs 0 = u3_0
    clear e1 e2 hC hn E3 hL vs L nb
    clear T0
    by_cases h1 : a.natAbs = 1
    · have T2 : Hid (decide ((Int.natAbs a : Int) = 1) = true) := decide_eq_true (by omega)
      have HK : Hid (kron a 0 = 1) := by show _ = _; unfold kron; rw [if_pos rfl, if_pos h1]
      clear h1
      go_upto_region 2 with (fail)
      have B4 : Hid (ab ((Int.natAbs a : Int)) < pw 100) := ab_absB ha.out
      refine region_fr (C := [Fq.num a, Fq.num (Int.natAbs a : Int), Fq.is (.bool true)]) (ks := [none, none]) (new := []) E rfl (by kernel_rfl) rfl rfl (fun hp => ⟨?_, ?_, ?_, trivial⟩) ?_
      · exact q_loadInt (off := 0) hp (free_of rfl) trivial (List.mem_iff_getElem?.2 ⟨1, rfl⟩) (.inl rfl) (Nat.le_of_ble_eq_true rfl) (sq_out rfl rfl (fun _ _ => rfl)) (fun us w hl h => ld_num hl h)
      · exact q_call1 (F := (Fq.num a).P) hp (free_of rfl) trivial (enq_Abs) (sqi 0) (fun v w h => exK (AbsV h) B4.out (by omega))
      · exact q_call1 (F := (Fq.num (Int.natAbs a : Int)).P) hp (free_of rfl) trivial (enq_M_isOne) (sqi 1) (fun v w h => exIsOneMB h T2.out)
      intro L vs w5 nb hL hC hn E5
      have e2 : vs 2 = .bool true := hC 2 (by simp)
      have E : Fr w [(b2, 2, Fq.num 0), (b1, 2, Fq.num a)] w5 := E5
      rw [lay_all hL]
      simp only [putAll, dstOf, List.length_cons, List.length_nil, Nat.zero_add, Nat.reduceAdd, List.getElem?_toArray, List.getElem?_cons_zero, List.getElem?_cons_succ, Option.bind_some, Act.put, List.setIfInBounds_toArray, List.set_cons_succ, List.set_cons_zero]
      rw [e2]
      generalize vs 0 = u5_0
      generalize vs 1 = u5_1
      clear e2 hC hn E5 hL vs L nb
      clear T2 HT HA1 HN1
      go_upto_region 3 with (fail)
      refine region_fr (C := [Fq.is (.int .i64 1)]) (ks := [none, none]) (new := []) E rfl (by kernel_rfl) rfl rfl (fun hp => ⟨?_, trivial⟩) ?_
      · exact q_assign hp (free_of rfl) trivial (sq_const (fun _ => rfl))
      intro L vs w6 nb hL hC hn E6
      have e0 : vs 0 = .int .i64 1 := hC 0 (by simp)
      have E : Fr w [(b2, 2, Fq.num 0), (b1, 2, Fq.num a)] w6 := E6
      rw [lay_all hL]
      simp only [putAll, dstOf, List.length_cons, List.length_nil, Nat.zero_add, List.getElem?_toArray, List.getElem?_cons_zero, Option.bind_some, Act.put, List.setIfInBounds_toArray, List.set_cons_succ, List.set_cons_zero]
      rw [e0]
      clear e0 hC hn E6 hL vs L nb
      clear B4 ha hn
      go_wp2
      refine bodyPost_ret (v := .int .i64 1) ?_ rfl (by first | exact ⟨_, rfl, E.below, by rw [HK.out]⟩ | exact ⟨_, rfl, E.below⟩ | exact ⟨rfl, E.below⟩)
      simp [results, Tryz.results14, go_sem]
    · have T2 : Hid (decide ((Int.natAbs a : Int) = 1) = false) := decide_eq_false (by omega)
      have HK : Hid (kron a 0 = 0) := by show _ = _; unfold kron; rw [if_pos rfl, if_neg h1]
      clear h1
      go_upto_region 2 with (fail)
      have B7 : Hid (ab ((Int.natAbs a : Int)) < pw 100) := ab_absB ha.out
      refine region_fr (C := [Fq.num a, Fq.num (Int.natAbs a : Int), Fq.is (.bool false)]) (ks := [none, none]) (new := []) E rfl (by kernel_rfl) rfl rfl (fun hp => ⟨?_, ?_, ?_, trivial⟩) ?_
      · exact q_loadInt (off := 0) hp (free_of rfl) trivial (List.mem_iff_getElem?.2 ⟨1, rfl⟩) (.inl rfl) (Nat.le_of_ble_eq_true rfl) (sq_out rfl rfl (fun _ _ => rfl)) (fun us w hl h => ld_num hl h)
      · exact q_call1 (F := (Fq.num a).P) hp (free_of rfl) trivial (enq_Abs) (sqi 0) (fun v w h => exK (AbsV h) B7.out (by omega))
      · exact q_call1 (F := (Fq.num (Int.natAbs a : Int)).P) hp (free_of rfl) trivial (enq_M_isOne) (sqi 1) (fun v w h => exIsOneMB h T2.out)
      intro L vs w8 nb hL hC hn E8
      have e2 : vs 2 = .bool false := hC 2 (by simp)
      have E : Fr w [(b2, 2, Fq.num 0), (b1, 2, Fq.num a)] w8 := E8
      rw [lay_all hL]
      simp only [putAll, dstOf, List.length_cons, List.length_nil, Nat.zero_add, Nat.reduceAdd, List.getElem?_toArray, List.getElem?_cons_zero, List.getElem?_cons_succ, Option.bind_some, Act.put, List.setIfInBounds_toArray, List.set_cons_succ, List.set_cons_zero]
      rw [e2]
      generalize vs 0 = u8_0
      generalize vs 1 = u8_1
      clear e2 hC hn E8 hL vs L nb
      clear T2 HT HA1 HN1
      go_upto_region 4 with (fail)
      refine region_fr (C := [Fq.is (.int .i64 0)]) (ks := [none, none]) (new := []) E rfl (by kernel_rfl) rfl rfl (fun hp => ⟨?_, trivial⟩) ?_
      · exact q_assign hp (free_of rfl) trivial (sq_const (fun _ => rfl))
      intro L vs w9 nb hL hC hn E9
      have e0 : vs 0 = .int .i64 0 := hC 0 (by simp)
      have E : Fr w [(b2, 2, Fq.num 0), (b1, 2, Fq.num a)] w9 := E9
      rw [lay_all hL]
      simp only [putAll, dstOf, List.length_cons, List.length_nil, Nat.zero_add, List.getElem?_toArray, List.getElem?_cons_zero, Option.bind_some, Act.put, List.setIfInBounds_toArray, List.set_cons_succ, List.set_cons_zero]
      rw [e0]
      clear e0 hC hn E9 hL vs L nb
      clear B7 ha hn
      go_wp2
      refine bodyPost_ret (v := .int .i64 0) ?_ rfl (by first | exact ⟨_, rfl, E.below, by rw [HK.out]⟩ | exact ⟨_, rfl, E.below⟩ | exact ⟨rfl, E.below⟩)
      simp [results, Tryz.results14, go_sem]
  · have HNZ := hidd h0
    have T0 : Hid (¬ cmpI n 0 = 0) := fun e => h0 (cmpIq0.1 e)
    clear h0
    refine region_fr (C := [Fq.num n, Fq.is (.int .i64 (cmpI n 0)), Fq.is (.bool false)]) (ks := [none, none]) (new := []) E rfl (by kernel_rfl) rfl rfl (fun hp => ⟨?_, ?_, ?_, trivial⟩) ?_
    · exact q_loadInt (off := 0) hp (free_of rfl) trivial (List.mem_iff_getElem?.2 ⟨0, rfl⟩) (.inl rfl) (Nat.le_of_ble_eq_true rfl) (sq_out rfl rfl (fun _ _ => rfl)) (fun us w hl h => ld_num hl h)
    · exact q_call1 (F := (Fq.num n).P) hp (free_of rfl) trivial (enq_Sign) (sqi 0) (fun v w h => exSign h)
    · exact q_one (F := fun v _ => v = .int .i64 (cmpI n 0)) hp (free_of rfl) trivial (sqi 1) (fun ρ w hc h => ⟨.bool false, by simp [execOp, go_sem, h, hc, T0.out], rfl⟩)
    intro L vs w10 nb hL hC hn E10
    have e1 : vs 1 = .int .i64 (cmpI n 0) := hC 1 (by simp)
    have e2 : vs 2 = .bool false := hC 2 (by simp)
    have E : Fr w [(b2, 2, Fq.num n), (b1, 2, Fq.num a)] w10 := E10
    rw [lay_all hL]
    simp only [putAll, dstOf, List.length_cons, List.length_nil, Nat.zero_add, Nat.reduceAdd, List.getElem?_toArray, List.getElem?_cons_zero, List.getElem?_cons_succ, Option.bind_some, Act.put, List.setIfInBounds_toArray, List.set_cons_succ, List.set_cons_zero]
    rw [e1, e2]
    generalize vs 0 = u10_0
    clear e1 e2 hC hn E10 hL vs L nb
    clear T0
    by_cases hb : a % 2 = 0 ∧ n % 2 = 0
    · have HK := hidd (kron_even HNZ.out hb)
      have P1 : Hid (ab a % 2 = 0) := by show _ = _; unfold ab; omega
      have P2 : Hid (ab n % 2 = 0) := by show _ = _; unfold ab; omega
      clear hb
      go_upto_region 5 with (fail)
      refine region_fr (C := [Fq.num a, Fq.is (.int .u32 (ab a % 4294967296)), Fq.is (.int .u32 (ab a % 2)), Fq.is (.bool true), Fq.is (.bool true), Fq.num n, Fq.is (.int .u32 (ab n % 4294967296)), Fq.is (.int .u32 (ab n % 2)), Fq.is (.bool true), Fq.is (.bool true)]) (ks := [none, none]) (new := []) E rfl (by kernel_rfl) rfl rfl (fun hp => ⟨?_, ?_, ?_, ?_, ?_, ?_, ?_, ?_, ?_, ?_, trivial⟩) ?_
      · exact q_loadInt (off := 0) hp (free_of rfl) trivial (List.mem_iff_getElem?.2 ⟨1, rfl⟩) (.inl rfl) (Nat.le_of_ble_eq_true rfl) (sq_out rfl rfl (fun _ _ => rfl)) (fun us w hl h => ld_num hl h)
      · exact q_call1 (F := (Fq.num a).P) hp (free_of rfl) trivial (enq_M_low) (sqi 0) (fun v w h => exLow h)
      · exact q_one (F := fun v _ => v = .int .u32 (ab a % 4294967296)) hp (free_of rfl) trivial (sqi 1) (fun ρ w hc h => ⟨.int .u32 (ab a % 2), by simp [execOp, go_sem, h, hc, HA1.out], rfl⟩)
      · exact q_one (F := fun v _ => v = .int .u32 (ab a % 2)) hp (free_of rfl) trivial (sqi 2) (fun ρ w hc h => ⟨.bool true, by simp [execOp, go_sem, h, hc, P1.out], rfl⟩)
      · exact q_move hp (free_of rfl) trivial (sqi 3)
      · exact q_loadInt (off := 0) hp (free_of rfl) (gq_some rfl rfl (by simp) rfl (fun v w h => h)) (List.mem_iff_getElem?.2 ⟨0, rfl⟩) (.inl rfl) (Nat.le_of_ble_eq_true rfl) (sq_out rfl rfl (fun _ _ => rfl)) (fun us w hl h => ld_num hl h)
      · exact q_call1 (F := (Fq.num n).P) hp (free_of rfl) (gq_some rfl rfl (by simp) rfl (fun v w h => h)) (enq_M_low) (sqi 5) (fun v w h => exLow h)
      · exact q_one (F := fun v _ => v = .int .u32 (ab n % 4294967296)) hp (free_of rfl) (gq_some rfl rfl (by simp) rfl (fun v w h => h)) (sqi 6) (fun ρ w hc h => ⟨.int .u32 (ab n % 2), by simp [execOp, go_sem, h, hc, HN1.out], rfl⟩)
      · exact q_one (F := fun v _ => v = .int .u32 (ab n % 2)) hp (free_of rfl) (gq_some rfl rfl (by simp) rfl (fun v w h => h)) (sqi 7) (fun ρ w hc h => ⟨.bool true, by simp [execOp, go_sem, h, hc, P2.out], rfl⟩)
      · exact q_two (F := fun v _ => v = .bool true) (G := fun v _ => v = .bool true) hp (free_of rfl) trivial (sqi 4) (sqi 8) (fun ρ w hc h h' => ⟨_, by simp [execOp, go_sem, h, h'], rfl⟩)
      intro L vs w11 nb hL hC hn E11
      have e1 : vs 1 = .int .u32 (ab a % 4294967296) := hC 1 (by simp)
      have e2 : vs 2 = .int .u32 (ab a % 2) := hC 2 (by simp)
      have e3 : vs 3 = .bool true := hC 3 (by simp)
      have e4 : vs 4 = .bool true := hC 4 (by simp)
      have e6 : vs 6 = .int .u32 (ab n % 4294967296) := hC 6 (by simp)
      have e7 : vs 7 = .int .u32 (ab n % 2) := hC 7 (by simp)
      have e8 : vs 8 = .bool true := hC 8 (by simp)
      have e9 : vs 9 = .bool true := hC 9 (by simp)
      have E : Fr w [(b2, 2, Fq.num n), (b1, 2, Fq.num a)] w11 := E11
      rw [lay_all hL]
      simp only [putAll, dstOf, List.length_cons, List.length_nil, Nat.zero_add, Nat.reduceAdd, List.getElem?_toArray, List.getElem?_cons_zero, List.getElem?_cons_succ, Option.bind_some, Act.put, List.setIfInBounds_toArray, List.set_cons_succ, List.set_cons_zero]
      rw [e1, e2, e3, e4, e6, e7, e8, e9]
      generalize vs 0 = u11_0
      generalize vs 5 = u11_5
      clear e1 e2 e3 e4 e6 e7 e8 e9 hC hn E11 hL vs L nb
      clear P1 P2 HA1 HN1 HT
      go_upto_region 6 with (fail)
      refine region_fr (C := [Fq.is (.int .i64 0)]) (ks := [none, none]) (new := []) E rfl (by kernel_rfl) rfl rfl (fun hp => ⟨?_, trivial⟩) ?_
      · exact q_assign hp (free_of rfl) trivial (sq_const (fun _ => rfl))
      intro L vs w12 nb hL hC hn E12
      have e0 : vs 0 = .int .i64 0 := hC 0 (by simp)
      have E : Fr w [(b2, 2, Fq.num n), (b1, 2, Fq.num a)] w12 := E12
      rw [lay_all hL]
      simp only [putAll, dstOf, List.length_cons, List.length_nil, Nat.zero_add, List.getElem?_toArray, List.getElem?_cons_zero, Option.bind_some, Act.put, List.setIfInBounds_toArray, List.set_cons_succ, List.set_cons_zero]
      rw [e0]
      clear e0 hC hn E12 hL vs L nb
      clear ha hn
      go_wp2
      refine bodyPost_ret (v := .int .i64 0) ?_ rfl (by first | exact ⟨_, rfl, E.below, by rw [HK.out]⟩ | exact ⟨_, rfl, E.below⟩ | exact ⟨rfl, E.below⟩)
      simp [results, Tryz.results14, go_sem]
    · go_upto_region 5 with (fail)
      go_cut [22] from 13 (fun s W => s = .bool false ∧ Fr w [(b2, 2, Fq.num n), (b1, 2, Fq.num a)] W)
      case first =>
        by_cases ho : a % 2 = 1
        · have P1 : Hid (¬ ab a % 2 = 0) := by show ¬ _; unfold ab; omega
          clear ho hb
          refine region_fr (C := [Fq.num a, Fq.is (.int .u32 (ab a % 4294967296)), Fq.is (.int .u32 (ab a % 2)), Fq.is (.bool false), Fq.is (.bool false), Fq.is (undef), Fq.is (undef), Fq.is (undef), Fq.is (undef), Fq.is (.bool false)]) (ks := [none, none]) (new := []) E rfl (by kernel_rfl) rfl rfl (fun hp => ⟨?_, ?_, ?_, ?_, ?_, ?_, ?_, ?_, ?_, ?_, trivial⟩) ?_
          · exact q_loadInt (off := 0) hp (free_of rfl) trivial (List.mem_iff_getElem?.2 ⟨1, rfl⟩) (.inl rfl) (Nat.le_of_ble_eq_true rfl) (sq_out rfl rfl (fun _ _ => rfl)) (fun us w hl h => ld_num hl h)
          · exact q_call1 (F := (Fq.num a).P) hp (free_of rfl) trivial (enq_M_low) (sqi 0) (fun v w h => exLow h)
          · exact q_one (F := fun v _ => v = .int .u32 (ab a % 4294967296)) hp (free_of rfl) trivial (sqi 1) (fun ρ w hc h => ⟨.int .u32 (ab a % 2), by simp [execOp, go_sem, h, hc, HA1.out], rfl⟩)
          · exact q_one (F := fun v _ => v = .int .u32 (ab a % 2)) hp (free_of rfl) trivial (sqi 2) (fun ρ w hc h => ⟨.bool false, by simp [execOp, go_sem, h, hc, P1.out], rfl⟩)
          · exact q_move hp (free_of rfl) trivial (sqi 3)
          · exact q_skip hp (free_of rfl) rfl (gq_some rfl rfl (by simp) rfl (fun v w h => h)) (fun _ => rfl)
          · exact q_skip hp (free_of rfl) rfl (gq_some rfl rfl (by simp) rfl (fun v w h => h)) (fun _ => rfl)
          · exact q_skip hp (free_of rfl) rfl (gq_some rfl rfl (by simp) rfl (fun v w h => h)) (fun _ => rfl)
          · exact q_skip hp (free_of rfl) rfl (gq_some rfl rfl (by simp) rfl (fun v w h => h)) (fun _ => rfl)
          · exact q_two (F := fun v _ => v = .bool false) (G := fun v _ => v = .bool false) hp (free_of rfl) trivial (sqi 4) (sq_const (fun _ => rfl)) (fun ρ w hc h h' => ⟨_, by simp [execOp, go_sem, h, h'], rfl⟩)
          intro L vs w13 nb hL hC hn E13
          have e1 : vs 1 = .int .u32 (ab a % 4294967296) := hC 1 (by simp)
          have e2 : vs 2 = .int .u32 (ab a % 2) := hC 2 (by simp)
          have e3 : vs 3 = .bool false := hC 3 (by simp)
          have e4 : vs 4 = .bool false := hC 4 (by simp)
          have e5 : vs 5 = undef := hC 5 (by simp)
          have e6 : vs 6 = undef := hC 6 (by simp)
          have e7 : vs 7 = undef := hC 7 (by simp)
          have e8 : vs 8 = undef := hC 8 (by simp)
          have e9 : vs 9 = .bool false := hC 9 (by simp)
          have E : Fr w [(b2, 2, Fq.num n), (b1, 2, Fq.num a)] w13 := E13
          rw [lay_all hL]
          simp only [putAll, dstOf, List.length_cons, List.length_nil, Nat.zero_add, Nat.reduceAdd, List.getElem?_toArray, List.getElem?_cons_zero, List.getElem?_cons_succ, Option.bind_some, Act.put, List.setIfInBounds_toArray, List.set_cons_succ, List.set_cons_zero]
          rw [e1, e2, e3, e4, e5, e6, e7, e8, e9]
          generalize vs 0 = u13_0
          clear e1 e2 e3 e4 e5 e6 e7 e8 e9 hC hn E13 hL vs L nb
          go_wp2_with (fail)
          go_meet
          case rel => exact ⟨rfl, E⟩
        · have P1 : Hid (ab a % 2 = 0) := by show _ = _; unfold ab; omega
          have P2 : Hid (¬ ab n % 2 = 0) := by show ¬ _; unfold ab; omega
          clear ho hb
          refine region_fr (C := [Fq.num a, Fq.is (.int .u32 (ab a % 4294967296)), Fq.is (.int .u32 (ab a % 2)), Fq.is (.bool true), Fq.is (.bool true), Fq.num n, Fq.is (.int .u32 (ab n % 4294967296)), Fq.is (.int .u32 (ab n % 2)), Fq.is (.bool false), Fq.is (.bool false)]) (ks := [none, none]) (new := []) E rfl (by kernel_rfl) rfl rfl (fun hp => ⟨?_, ?_, ?_, ?_, ?_, ?_, ?_, ?_, ?_, ?_, trivial⟩) ?_
          · exact q_loadInt (off := 0) hp (free_of rfl) trivial (List.mem_iff_getElem?.2 ⟨1, rfl⟩) (.inl rfl) (Nat.le_of_ble_eq_true rfl) (sq_out rfl rfl (fun _ _ => rfl)) (fun us w hl h => ld_num hl h)
          · exact q_call1 (F := (Fq.num a).P) hp (free_of rfl) trivial (enq_M_low) (sqi 0) (fun v w h => exLow h)
          · exact q_one (F := fun v _ => v = .int .u32 (ab a % 4294967296)) hp (free_of rfl) trivial (sqi 1) (fun ρ w hc h => ⟨.int .u32 (ab a % 2), by simp [execOp, go_sem, h, hc, HA1.out], rfl⟩)
          · exact q_one (F := fun v _ => v = .int .u32 (ab a % 2)) hp (free_of rfl) trivial (sqi 2) (fun ρ w hc h => ⟨.bool true, by simp [execOp, go_sem, h, hc, P1.out], rfl⟩)
          · exact q_move hp (free_of rfl) trivial (sqi 3)
          · exact q_loadInt (off := 0) hp (free_of rfl) (gq_some rfl rfl (by simp) rfl (fun v w h => h)) (List.mem_iff_getElem?.2 ⟨0, rfl⟩) (.inl rfl) (Nat.le_of_ble_eq_true rfl) (sq_out rfl rfl (fun _ _ => rfl)) (fun us w hl h => ld_num hl h)
          · exact q_call1 (F := (Fq.num n).P) hp (free_of rfl) (gq_some rfl rfl (by simp) rfl (fun v w h => h)) (enq_M_low) (sqi 5) (fun v w h => exLow h)
          · exact q_one (F := fun v _ => v = .int .u32 (ab n % 4294967296)) hp (free_of rfl) (gq_some rfl rfl (by simp) rfl (fun v w h => h)) (sqi 6) (fun ρ w hc h => ⟨.int .u32 (ab n % 2), by simp [execOp, go_sem, h, hc, HN1.out], rfl⟩)
          · exact q_one (F := fun v _ => v = .int .u32 (ab n % 2)) hp (free_of rfl) (gq_some rfl rfl (by simp) rfl (fun v w h => h)) (sqi 7) (fun ρ w hc h => ⟨.bool false, by simp [execOp, go_sem, h, hc, P2.out], rfl⟩)
          · exact q_two (F := fun v _ => v = .bool true) (G := fun v _ => v = .bool false) hp (free_of rfl) trivial (sqi 4) (sqi 8) (fun ρ w hc h h' => ⟨_, by simp [execOp, go_sem, h, h'], rfl⟩)
          intro L vs w14 nb hL hC hn E14
          have e1 : vs 1 = .int .u32 (ab a % 4294967296) := hC 1 (by simp)
          have e2 : vs 2 = .int .u32 (ab a % 2) := hC 2 (by simp)
          have e3 : vs 3 = .bool true := hC 3 (by simp)
          have e4 : vs 4 = .bool true := hC 4 (by simp)
          have e6 : vs 6 = .int .u32 (ab n % 4294967296) := hC 6 (by simp)
          have e7 : vs 7 = .int .u32 (ab n % 2) := hC 7 (by simp)
          have e8 : vs 8 = .bool false := hC 8 (by simp)
          have e9 : vs 9 = .bool false := hC 9 (by simp)
          have E : Fr w [(b2, 2, Fq.num n), (b1, 2, Fq.num a)] w14 := E14
          rw [lay_all hL]
          simp only [putAll, dstOf, List.length_cons, List.length_nil, Nat.zero_add, Nat.reduceAdd, List.getElem?_toArray, List.getElem?_cons_zero, List.getElem?_cons_succ, Option.bind_some, Act.put, List.setIfInBounds_toArray, List.set_cons_succ, List.set_cons_zero]
          rw [e1, e2, e3, e4, e6, e7, e8, e9]
          generalize vs 0 = u14_0
          generalize vs 5 = u14_5
          clear e1 e2 e3 e4 e6 e7 e8 e9 hC hn E14 hL vs L nb
          go_wp2_with (fail)
          go_meet
          case rel => exact ⟨rfl, E⟩
      case rest =>
        clear E
        obtain ⟨rfl, E⟩ := hcut
        clear HA1 HN1
        obtain ⟨⟨k1, k2, k3⟩, hk⟩ := kron_split HNZ.out hb
        clear hb
        have hS := sg2_or a n
        have hA := twosZ_or (v2 n : Int) (ab a % 4294967296)
        have hR := J_range (a % (Int.natAbs (n / 2 ^ v2 n) : Int)) (Int.natAbs (n / 2 ^ v2 n) : Int).toNat
        obtain ⟨S, eS⟩ : ∃ S, sg2 a n = S := ⟨_, rfl⟩
        obtain ⟨A, eA⟩ : ∃ A, twosZ (v2 n : Int) (ab a % 4294967296) = A := ⟨_, rfl⟩
        obtain ⟨R, eR⟩ : ∃ R, J (a % (Int.natAbs (n / 2 ^ v2 n) : Int)) (Int.natAbs (n / 2 ^ v2 n) : Int).toNat = R := ⟨_, rfl⟩
        rw [eS, eA, eR] at hk
        rw [eS] at hS
        rw [eA] at hA
        rw [eR] at hR
        have HS := hidd eS
        have HA := hidd eA
        have HR := hidd eR
        have HK := hidd hk
        have G1 := hidd (sgn_wrap hS hA)
        have G2 := hidd (sgn_wrapJ (sgnp_mul hS hA) hR)
        clear hS hA hR eS eA eR hk
        have BO : Hid (ab (n / 2 ^ v2 n) < pw 100) := Int.lt_of_le_of_lt k3 hn.out
        have HM0 : Hid ((Int.natAbs (n / 2 ^ v2 n) : Int) ≠ 0) := by show _ ≠ _; omega
        have HI : Hid (0 ≤ a % (Int.natAbs (n / 2 ^ v2 n) : Int) ∧ a % (Int.natAbs (n / 2 ^ v2 n) : Int) < (Int.natAbs (n / 2 ^ v2 n) : Int) ∧ (Int.natAbs (n / 2 ^ v2 n) : Int) % 2 = 1) := ⟨Int.emod_nonneg _ (by omega), Int.emod_lt_of_pos _ k1, k2⟩
        have HK2 : Hid ((v2 n : Int) < 9223372036854775808) := v2_lt HNZ.out hn.out
        clear k1 k2 k3
        go_upto_region 7 with (fail)
        refine region_fr (C := [Fq.is (.int .i64 1)]) (ks := [none, none]) (new := []) E rfl (by kernel_rfl) rfl rfl (fun hp => ⟨?_, trivial⟩) ?_
        · exact q_assign hp (free_of rfl) trivial (sq_const (fun _ => rfl))
        intro L vs w15 nb hL hC hn E15
        have e0 : vs 0 = .int .i64 1 := hC 0 (by simp)
        have E : Fr w [(b2, 2, Fq.num n), (b1, 2, Fq.num a)] w15 := E15
        rw [lay_all hL]
        simp only [putAll, dstOf, List.length_cons, List.length_nil, Nat.zero_add, List.getElem?_toArray, List.getElem?_cons_zero, Option.bind_some, Act.put, List.setIfInBounds_toArray, List.set_cons_succ, List.set_cons_zero]
        rw [e0]
        clear e0 hC hn E15 hL vs L nb
        by_cases h1 : a < 0
        · have P1 : Hid (cmpI a 0 < 0) := cmpIqlt.2 h1
          by_cases h2 : n < 0
          · have P2 : Hid (cmpI n 0 < 0) := cmpIqlt.2 h2
            have P3 : Hid (S = -1) := by show _ = _; rw [← HS.out]; unfold sg2; rw [if_pos ⟨h1, h2⟩]
            clear h1 h2
            go_upto_region 8 with (fail)
            refine region_fr (C := [Fq.num a, Fq.is (.int .i64 (cmpI a 0)), Fq.is (.bool true), Fq.is (.bool true), Fq.num n, Fq.is (.int .i64 (cmpI n 0)), Fq.is (.bool true), Fq.is (.bool true)]) (ks := [none, none]) (new := []) E rfl (by kernel_rfl) rfl rfl (fun hp => ⟨?_, ?_, ?_, ?_, ?_, ?_, ?_, ?_, trivial⟩) ?_
            · exact q_loadInt (off := 0) hp (free_of rfl) trivial (List.mem_iff_getElem?.2 ⟨1, rfl⟩) (.inl rfl) (Nat.le_of_ble_eq_true rfl) (sq_out rfl rfl (fun _ _ => rfl)) (fun us w hl h => ld_num hl h)
            · exact q_call1 (F := (Fq.num a).P) hp (free_of rfl) trivial (enq_Sign) (sqi 0) (fun v w h => exSign h)
            · exact q_one (F := fun v _ => v = .int .i64 (cmpI a 0)) hp (free_of rfl) trivial (sqi 1) (fun ρ w hc h => ⟨.bool true, by simp [execOp, go_sem, h, hc, P1.out], rfl⟩)
            · exact q_move hp (free_of rfl) trivial (sqi 2)
            · exact q_loadInt (off := 0) hp (free_of rfl) (gq_some rfl rfl (by simp) rfl (fun v w h => h)) (List.mem_iff_getElem?.2 ⟨0, rfl⟩) (.inl rfl) (Nat.le_of_ble_eq_true rfl) (sq_out rfl rfl (fun _ _ => rfl)) (fun us w hl h => ld_num hl h)
            · exact q_call1 (F := (Fq.num n).P) hp (free_of rfl) (gq_some rfl rfl (by simp) rfl (fun v w h => h)) (enq_Sign) (sqi 4) (fun v w h => exSign h)
            · exact q_one (F := fun v _ => v = .int .i64 (cmpI n 0)) hp (free_of rfl) (gq_some rfl rfl (by simp) rfl (fun v w h => h)) (sqi 5) (fun ρ w hc h => ⟨.bool true, by simp [execOp, go_sem, h, hc, P2.out], rfl⟩)
            · exact q_two (F := fun v _ => v = .bool true) (G := fun v _ => v = .bool true) hp (free_of rfl) trivial (sqi 3) (sqi 6) (fun ρ w hc h h' => ⟨_, by simp [execOp, go_sem, h, h'], rfl⟩)
            intro L vs w16 nb hL hC hn E16
            have e1 : vs 1 = .int .i64 (cmpI a 0) := hC 1 (by simp)
            have e2 : vs 2 = .bool true := hC 2 (by simp)
            have e3 : vs 3 = .bool true := hC 3 (by simp)
            have e5 : vs 5 = .int .i64 (cmpI n 0) := hC 5 (by simp)
            have e6 : vs 6 = .bool true := hC 6 (by simp)
            have e7 : vs 7 = .bool true := hC 7 (by simp)
            have E : Fr w [(b2, 2, Fq.num n), (b1, 2, Fq.num a)] w16 := E16
            rw [lay_all hL]
            simp only [putAll, dstOf, List.length_cons, List.length_nil, Nat.zero_add, Nat.reduceAdd, List.getElem?_toArray, List.getElem?_cons_zero, List.getElem?_cons_succ, Option.bind_some, Act.put, List.setIfInBounds_toArray, List.set_cons_succ, List.set_cons_zero]
            rw [e1, e2, e3, e5, e6, e7]
            generalize vs 0 = u16_0
            generalize vs 4 = u16_4
            clear e1 e2 e3 e5 e6 e7 hC hn E16 hL vs L nb
            clear P1 P2
            go_upto_region 9 with (fail)
            refine region_fr (C := [Fq.is (.int .i64 (-1))]) (ks := [none, none]) (new := []) E rfl (by kernel_rfl) rfl rfl (fun hp => ⟨?_, trivial⟩) ?_
            · exact q_assign hp (free_of rfl) trivial (sq_const (fun _ => rfl))
            intro L vs w17 nb hL hC hn E17
            have e0 : vs 0 = .int .i64 (-1) := hC 0 (by simp)
            have E : Fr w [(b2, 2, Fq.num n), (b1, 2, Fq.num a)] w17 := E17
            rw [lay_all hL]
            simp only [putAll, dstOf, List.length_cons, List.length_nil, Nat.zero_add, List.getElem?_toArray, List.getElem?_cons_zero, Option.bind_some, Act.put, List.setIfInBounds_toArray, List.set_cons_succ, List.set_cons_zero]
            rw [e0]
            clear e0 hC hn E17 hL vs L nb
            replace G1 := hidd (show IntKind.i64.wrap (-A) = S * A by have := G1.out; rw [P3.out] at this ⊢; rw [show -A = -1 * A by omega]; exact this)
            clear HS P3
            go_upto_region 10 with (fail)
            refine region_fr (C := [Fq.num n, Fq.tup2 (Fq.num (n / 2 ^ v2 n)) (Fq.is (.int .i64 (v2 n : Int))), Fq.tup2 (Fq.num (n / 2 ^ v2 n)) (Fq.is (.int .i64 (v2 n : Int))), Fq.num (n / 2 ^ v2 n), Fq.is (.int .i64 (v2 n : Int)), Fq.any, Fq.is (.int .i64 (v2 n : Int))]) (ks := [some (5, Fq.num (n / 2 ^ v2 n)), none]) (new := []) E rfl (by kernel_rfl) rfl rfl (fun hp => ⟨?_, ?_, ?_, ?_, ?_, ?_, ?_, trivial⟩) ?_
            · exact q_loadInt (off := 0) hp (free_of rfl) trivial (List.mem_iff_getElem?.2 ⟨0, rfl⟩) (.inr rfl) (Nat.le_of_ble_eq_true rfl) (sq_out rfl rfl (fun _ _ => rfl)) (fun us w hl h => ld_num hl h)
            · exact q_call1W (F := (Fq.num n).P) hp (free_of rfl) trivial (enq_M_oddPart) rfl (sqi 0) (fun v w hbw h => exOddPart h (HT.out.mono hbw) HNZ.out (Int.lt_of_lt_of_le hn.out (pw_le (by omega))))
            · exact q_move hp (free_of rfl) trivial (sqi 1)
            · exact q_extract2 hp (free_of rfl) trivial (sqi 2) (fun v1 v2 w h1 h2 => ⟨_, rfl, h1⟩)
            · exact q_extract2 hp (free_of rfl) trivial (sqi 2) (fun v1 v2 w h1 h2 => ⟨_, rfl, h2⟩)
            · exact q_storeOldInt hp (List.mem_iff_getElem?.2 ⟨0, rfl⟩) rfl rfl (sq_out rfl rfl (fun _ _ => rfl)) (sq_in 3 rfl rfl (by simp) rfl (fun v w h => intV_num h)) (fun _ _ => trivial) (newik_ne rfl)
            · exact q_assign hp (free_of rfl) trivial (sqi 4)
            intro L vs w18 nb hL hC hn E18
            have e4 : vs 4 = .int .i64 (v2 n : Int) := hC 4 (by simp)
            have e6 : vs 6 = .int .i64 (v2 n : Int) := hC 6 (by simp)
            have E : Fr w [(b2, 2, Fq.num (n / 2 ^ v2 n)), (b1, 2, Fq.num a)] w18 := E18
            rw [lay_all hL]
            simp only [putAll, dstOf, List.length_cons, List.length_nil, Nat.zero_add, Nat.reduceAdd, List.getElem?_toArray, List.getElem?_cons_zero, List.getElem?_cons_succ, Option.bind_some, Act.put, List.setIfInBounds_toArray, List.set_cons_succ, List.set_cons_zero]
            rw [e4, e6]
            generalize vs 0 = u18_0
            generalize vs 1 = u18_1
            generalize vs 2 = u18_2
            generalize vs 3 = u18_3
            clear e4 e6 hC hn E18 hL vs L nb
            go_upto_region 11 with (fail)
            refine region_fr (C := [Fq.is (.int .i64 (-1)), Fq.is (.int .i64 (v2 n : Int)), Fq.num a, Fq.is (.int .u32 (ab a % 4294967296)), Fq.is (.int .i64 A), Fq.is (.int .i64 (S * A)), Fq.is (.int .i64 (S * A))]) (ks := [none, none]) (new := []) E rfl (by kernel_rfl) rfl rfl (fun hp => ⟨?_, ?_, ?_, ?_, ?_, ?_, ?_, trivial⟩) ?_
            · exact q_moveB 6 3 hp (free_of rfl) trivial rfl rfl rfl rfl (fun _ => rfl)
            · exact q_move hp (free_of rfl) trivial (sq_out rfl rfl (fun _ _ => rfl))
            · exact q_loadInt (off := 0) hp (free_of rfl) trivial (List.mem_iff_getElem?.2 ⟨1, rfl⟩) (.inl rfl) (Nat.le_of_ble_eq_true rfl) (sq_out rfl rfl (fun _ _ => rfl)) (fun us w hl h => ld_num hl h)
            · exact q_call1 (F := (Fq.num a).P) hp (free_of rfl) trivial (enq_M_low) (sqi 2) (fun v w h => exLow h)
            · exact q_call2 (F := (Fq.is (.int .i64 (v2 n : Int))).P) (G := (Fq.is (.int .u32 (ab a % 4294967296))).P) hp (free_of rfl) trivial (enq_M_ofTwos) (sqi 1) (sqi 3) (fun v v' w h h' => exOfTwos h h' ⟨by omega, HK2.out⟩ (word_range _) HA.out)
            · exact q_two (F := fun v _ => v = .int .i64 (-1)) (G := fun v _ => v = .int .i64 A) hp (free_of rfl) trivial (sqi 0) (sqi 4) (fun ρ w hc h h' => ⟨.int .i64 (S * A), by simp [execOp, go_sem, h, h', G1.out], rfl⟩)
            · exact q_assign hp (free_of rfl) trivial (sqi 5)
            intro L vs w19 nb hL hC hn E19
            have e0 : vs 0 = .int .i64 (-1) := hC 0 (by simp)
            have e1 : vs 1 = .int .i64 (v2 n : Int) := hC 1 (by simp)
            have e3 : vs 3 = .int .u32 (ab a % 4294967296) := hC 3 (by simp)
            have e4 : vs 4 = .int .i64 A := hC 4 (by simp)
            have e5 : vs 5 = .int .i64 (S * A) := hC 5 (by simp)
            have e6 : vs 6 = .int .i64 (S * A) := hC 6 (by simp)
            have E : Fr w [(b2, 2, Fq.num (n / 2 ^ v2 n)), (b1, 2, Fq.num a)] w19 := E19
            rw [lay_all hL]
            simp only [putAll, dstOf, List.length_cons, List.length_nil, Nat.zero_add, Nat.reduceAdd, List.getElem?_toArray, List.getElem?_cons_zero, List.getElem?_cons_succ, Option.bind_some, Act.put, List.setIfInBounds_toArray, List.set_cons_succ, List.set_cons_zero]
            rw [e0, e1, e3, e4, e5, e6]
            generalize vs 2 = u19_2
            clear e0 e1 e3 e4 e5 e6 hC hn E19 hL vs L nb
            go_upto_region 12 with (fail)
            have B20 : Hid (ab ((Int.natAbs (n / 2 ^ v2 n) : Int)) < pw 100) := ab_absB BO.out
            refine region_fr (C := [Fq.num (n / 2 ^ v2 n), Fq.num (Int.natAbs (n / 2 ^ v2 n) : Int), Fq.any]) (ks := [some (2, Fq.num (Int.natAbs (n / 2 ^ v2 n) : Int)), none]) (new := []) E rfl (by kernel_rfl) rfl rfl (fun hp => ⟨?_, ?_, ?_, trivial⟩) ?_
            · exact q_loadInt (off := 0) hp (free_of rfl) trivial (List.mem_iff_getElem?.2 ⟨0, rfl⟩) (.inr rfl) (Nat.le_of_ble_eq_true rfl) (sq_out rfl rfl (fun _ _ => rfl)) (fun us w hl h => ld_num hl h)
            · exact q_call1 (F := (Fq.num (n / 2 ^ v2 n)).P) hp (free_of rfl) trivial (enq_Abs) (sqi 0) (fun v w h => exK (AbsV h) B20.out (by omega))
            · exact q_storeOldInt hp (List.mem_iff_getElem?.2 ⟨0, rfl⟩) rfl rfl (sq_out rfl rfl (fun _ _ => rfl)) (sq_in 1 rfl rfl (by simp) rfl (fun v w h => intV_num h)) (fun _ _ => trivial) (newik_ne rfl)
            intro L vs w21 nb hL hC hn E21
            have E : Fr w [(b2, 2, Fq.num (Int.natAbs (n / 2 ^ v2 n) : Int)), (b1, 2, Fq.num a)] w21 := E21
            rw [lay_all hL]
            simp only [putAll, dstOf, List.length_cons, List.length_nil, Nat.zero_add, Nat.reduceAdd, List.getElem?_toArray, List.getElem?_cons_zero, List.getElem?_cons_succ, Option.bind_some, Act.put, List.setIfInBounds_toArray, List.set_cons_succ, List.set_cons_zero]
            generalize vs 0 = u21_0
            generalize vs 1 = u21_1
            clear  hC hn E21 hL vs L nb
            go_upto_region 13 with (fail)
            have B22 : Hid (ab ((a % (Int.natAbs (n / 2 ^ v2 n) : Int))) < pw 100) := ab_modB HM0.out B20.out
            refine region_fr (C := [Fq.is (.int .i64 (S * A)), Fq.num (Int.natAbs (n / 2 ^ v2 n) : Int), Fq.any, Fq.num a, Fq.num (a % (Int.natAbs (n / 2 ^ v2 n) : Int)), Fq.num (Int.natAbs (n / 2 ^ v2 n) : Int), Fq.is (.int .i64 R), Fq.is (.int .i64 (S * A * R)), Fq.is (.int .i64 (S * A * R))]) (ks := [none, none]) (new := [⟨2, 2, 2, Fq.num (Int.natAbs (n / 2 ^ v2 n) : Int), Fq.num (Int.natAbs (n / 2 ^ v2 n) : Int), (some (.clo 57))⟩]) E rfl (by kernel_rfl) rfl rfl (fun hp => ⟨?_, ?_, ?_, ?_, ?_, ?_, ?_, ?_, ?_, trivial⟩) ?_
            · exact q_move hp (free_of rfl) trivial (sq_out rfl rfl (fun _ _ => rfl))
            · exact q_loadInt (off := 0) hp (free_of rfl) trivial (List.mem_iff_getElem?.2 ⟨0, rfl⟩) (.inl rfl) (Nat.le_of_ble_eq_true rfl) (sq_out rfl rfl (fun _ _ => rfl)) (fun us w hl h => ld_num hl h)
            · exact q_callMake (F := (Fq.num (Int.natAbs (n / 2 ^ v2 n) : Int)).P) hp enq_M_within (List.mem_iff_getElem?.2 ⟨0, rfl⟩) rfl rfl rfl (sqi 1) (fun v w h => exWithin h) (fun _ _ => trivial) (old_ne rfl) (newks_ne rfl)
            · exact q_loadInt (off := 0) hp (free_of rfl) trivial (List.mem_iff_getElem?.2 ⟨1, rfl⟩) (.inl rfl) (Nat.le_of_ble_eq_true rfl) (sq_out rfl rfl (fun _ _ => rfl)) (fun us w hl h => ld_num hl h)
            · exact q_callCloIn (F := (Fq.num a).P) hp (free_of rfl) trivial enq_M_within1 (List.mem_iff_getElem?.2 ⟨0, rfl⟩) rfl (own_ptr rfl rfl (by simp) rfl) (sqi 3) (fun v b w h hb => exResidue h hb HM0.out (Int.lt_of_lt_of_le ha.out (pw_le (by omega))) (Int.lt_of_lt_of_le B20.out (pw_le (by omega))))
            · exact q_loadInt (off := 0) hp (free_of rfl) trivial (List.mem_iff_getElem?.2 ⟨0, rfl⟩) (.inl rfl) (Nat.le_of_ble_eq_true rfl) (sq_out rfl rfl (fun _ _ => rfl)) (fun us w hl h => ld_num hl h)
            · exact q_call2W (F := (Fq.num (a % (Int.natAbs (n / 2 ^ v2 n) : Int))).P) (G := (Fq.num (Int.natAbs (n / 2 ^ v2 n) : Int)).P) hp (free_of rfl) trivial (enq_M_jacobi) rfl (sqi 4) (sqi 5) (fun v v' w hbw h h' => exJacobiR h h' (HT.out.mono hbw) (Int.lt_of_lt_of_le B22.out (pw_le (by omega))) (Int.lt_of_lt_of_le B20.out (pw_le (by omega))) HI.out HR.out)
            · exact q_two (F := fun v _ => v = .int .i64 (S * A)) (G := fun v _ => v = .int .i64 R) hp (free_of rfl) trivial (sqi 0) (sqi 6) (fun ρ w hc h h' => ⟨.int .i64 (S * A * R), by simp [execOp, go_sem, h, h', G2.out], rfl⟩)
            · exact q_assign hp (free_of rfl) trivial (sqi 7)
            intro L vs w23 nb hL hC hn E23
            have e0 : vs 0 = .int .i64 (S * A) := hC 0 (by simp)
            have e6 : vs 6 = .int .i64 R := hC 6 (by simp)
            have e7 : vs 7 = .int .i64 (S * A * R) := hC 7 (by simp)
            have e8 : vs 8 = .int .i64 (S * A * R) := hC 8 (by simp)
            have e2 : vs 2 = cloV 57 (nb 2) := hn _ (List.mem_iff_getElem?.2 ⟨0, rfl⟩)
            have E : Fr w [(nb 2, 2, Fq.num (Int.natAbs (n / 2 ^ v2 n) : Int)), (b2, 2, Fq.num (Int.natAbs (n / 2 ^ v2 n) : Int)), (b1, 2, Fq.num a)] w23 := E23
            rw [lay_all hL]
            simp only [putAll, dstOf, List.length_cons, List.length_nil, Nat.zero_add, Nat.reduceAdd, List.getElem?_toArray, List.getElem?_cons_zero, List.getElem?_cons_succ, Option.bind_some, Act.put, List.setIfInBounds_toArray, List.set_cons_succ, List.set_cons_zero]
            rw [e0, e6, e7, e8, e2]
            generalize nb 2 = b23_2 at E ⊢
            generalize vs 1 = u23_1
            generalize vs 3 = u23_3
            generalize vs 4 = u23_4
            generalize vs 5 = u23_5
            clear e0 e6 e7 e8 e2 hC hn E23 hL vs L nb
            clear HT HA HR G1 G2 HI HK2 HM0 HNZ BO
            clear B20 B22 ha hn
            go_wp2
            refine bodyPost_ret (v := .int .i64 (S * A * R)) ?_ rfl (by first | exact ⟨_, rfl, E.below, by rw [HK.out]⟩ | exact ⟨_, rfl, E.below⟩ | exact ⟨rfl, E.below⟩)
            simp [results, Tryz.results14, go_sem]
          · have P2 : Hid (¬ cmpI n 0 < 0) := mt cmpIqlt.1 h2
            have P3 : Hid (S = 1) := by show _ = _; rw [← HS.out]; unfold sg2; rw [if_neg (fun h => h2 h.2)]
            clear h1 h2
            go_upto_region 8 with (fail)
            refine region_fr (C := [Fq.num a, Fq.is (.int .i64 (cmpI a 0)), Fq.is (.bool true), Fq.is (.bool true), Fq.num n, Fq.is (.int .i64 (cmpI n 0)), Fq.is (.bool false), Fq.is (.bool false)]) (ks := [none, none]) (new := []) E rfl (by kernel_rfl) rfl rfl (fun hp => ⟨?_, ?_, ?_, ?_, ?_, ?_, ?_, ?_, trivial⟩) ?_
            · exact q_loadInt (off := 0) hp (free_of rfl) trivial (List.mem_iff_getElem?.2 ⟨1, rfl⟩) (.inl rfl) (Nat.le_of_ble_eq_true rfl) (sq_out rfl rfl (fun _ _ => rfl)) (fun us w hl h => ld_num hl h)
            · exact q_call1 (F := (Fq.num a).P) hp (free_of rfl) trivial (enq_Sign) (sqi 0) (fun v w h => exSign h)
            · exact q_one (F := fun v _ => v = .int .i64 (cmpI a 0)) hp (free_of rfl) trivial (sqi 1) (fun ρ w hc h => ⟨.bool true, by simp [execOp, go_sem, h, hc, P1.out], rfl⟩)
            · exact q_move hp (free_of rfl) trivial (sqi 2)
            · exact q_loadInt (off := 0) hp (free_of rfl) (gq_some rfl rfl (by simp) rfl (fun v w h => h)) (List.mem_iff_getElem?.2 ⟨0, rfl⟩) (.inl rfl) (Nat.le_of_ble_eq_true rfl) (sq_out rfl rfl (fun _ _ => rfl)) (fun us w hl h => ld_num hl h)
            · exact q_call1 (F := (Fq.num n).P) hp (free_of rfl) (gq_some rfl rfl (by simp) rfl (fun v w h => h)) (enq_Sign) (sqi 4) (fun v w h => exSign h)
            · exact q_one (F := fun v _ => v = .int .i64 (cmpI n 0)) hp (free_of rfl) (gq_some rfl rfl (by simp) rfl (fun v w h => h)) (sqi 5) (fun ρ w hc h => ⟨.bool false, by simp [execOp, go_sem, h, hc, P2.out], rfl⟩)
            · exact q_two (F := fun v _ => v = .bool true) (G := fun v _ => v = .bool false) hp (free_of rfl) trivial (sqi 3) (sqi 6) (fun ρ w hc h h' => ⟨_, by simp [execOp, go_sem, h, h'], rfl⟩)
            intro L vs w24 nb hL hC hn E24
            have e1 : vs 1 = .int .i64 (cmpI a 0) := hC 1 (by simp)
            have e2 : vs 2 = .bool true := hC 2 (by simp)
            have e3 : vs 3 = .bool true := hC 3 (by simp)
            have e5 : vs 5 = .int .i64 (cmpI n 0) := hC 5 (by simp)
            have e6 : vs 6 = .bool false := hC 6 (by simp)
            have e7 : vs 7 = .bool false := hC 7 (by simp)
            have E : Fr w [(b2, 2, Fq.num n), (b1, 2, Fq.num a)] w24 := E24
            rw [lay_all hL]
            simp only [putAll, dstOf, List.length_cons, List.length_nil, Nat.zero_add, Nat.reduceAdd, List.getElem?_toArray, List.getElem?_cons_zero, List.getElem?_cons_succ, Option.bind_some, Act.put, List.setIfInBounds_toArray, List.set_cons_succ, List.set_cons_zero]
            rw [e1, e2, e3, e5, e6, e7]
            generalize vs 0 = u24_0
            generalize vs 4 = u24_4
            clear e1 e2 e3 e5 e6 e7 hC hn E24 hL vs L nb
            clear P1 P2
            replace G1 := hidd (show IntKind.i64.wrap A = S * A by have := G1.out; rw [P3.out] at this ⊢; rw [Int.one_mul] at this ⊢; exact this)
            clear HS P3
            go_upto_region 10 with (fail)
            refine region_fr (C := [Fq.num n, Fq.tup2 (Fq.num (n / 2 ^ v2 n)) (Fq.is (.int .i64 (v2 n : Int))), Fq.tup2 (Fq.num (n / 2 ^ v2 n)) (Fq.is (.int .i64 (v2 n : Int))), Fq.num (n / 2 ^ v2 n), Fq.is (.int .i64 (v2 n : Int)), Fq.any, Fq.is (.int .i64 (v2 n : Int))]) (ks := [some (5, Fq.num (n / 2 ^ v2 n)), none]) (new := []) E rfl (by kernel_rfl) rfl rfl (fun hp => ⟨?_, ?_, ?_, ?_, ?_, ?_, ?_, trivial⟩) ?_
            · exact q_loadInt (off := 0) hp (free_of rfl) trivial (List.mem_iff_getElem?.2 ⟨0, rfl⟩) (.inr rfl) (Nat.le_of_ble_eq_true rfl) (sq_out rfl rfl (fun _ _ => rfl)) (fun us w hl h => ld_num hl h)
            · exact q_call1W (F := (Fq.num n).P) hp (free_of rfl) trivial (enq_M_oddPart) rfl (sqi 0) (fun v w hbw h => exOddPart h (HT.out.mono hbw) HNZ.out (Int.lt_of_lt_of_le hn.out (pw_le (by omega))))
            · exact q_move hp (free_of rfl) trivial (sqi 1)
            · exact q_extract2 hp (free_of rfl) trivial (sqi 2) (fun v1 v2 w h1 h2 => ⟨_, rfl, h1⟩)
            · exact q_extract2 hp (free_of rfl) trivial (sqi 2) (fun v1 v2 w h1 h2 => ⟨_, rfl, h2⟩)
            · exact q_storeOldInt hp (List.mem_iff_getElem?.2 ⟨0, rfl⟩) rfl rfl (sq_out rfl rfl (fun _ _ => rfl)) (sq_in 3 rfl rfl (by simp) rfl (fun v w h => intV_num h)) (fun _ _ => trivial) (newik_ne rfl)
            · exact q_assign hp (free_of rfl) trivial (sqi 4)
            intro L vs w25 nb hL hC hn E25
            have e4 : vs 4 = .int .i64 (v2 n : Int) := hC 4 (by simp)
            have e6 : vs 6 = .int .i64 (v2 n : Int) := hC 6 (by simp)
            have E : Fr w [(b2, 2, Fq.num (n / 2 ^ v2 n)), (b1, 2, Fq.num a)] w25 := E25
            rw [lay_all hL]
            simp only [putAll, dstOf, List.length_cons, List.length_nil, Nat.zero_add, Nat.reduceAdd, List.getElem?_toArray, List.getElem?_cons_zero, List.getElem?_cons_succ, Option.bind_some, Act.put, List.setIfInBounds_toArray, List.set_cons_succ, List.set_cons_zero]
            rw [e4, e6]
            generalize vs 0 = u25_0
            generalize vs 1 = u25_1
            generalize vs 2 = u25_2
            generalize vs 3 = u25_3
            clear e4 e6 hC hn E25 hL vs L nb
            go_upto_region 11 with (fail)
            refine region_fr (C := [Fq.is (.int .i64 1), Fq.is (.int .i64 (v2 n : Int)), Fq.num a, Fq.is (.int .u32 (ab a % 4294967296)), Fq.is (.int .i64 A), Fq.is (.int .i64 (S * A)), Fq.is (.int .i64 (S * A))]) (ks := [none, none]) (new := []) E rfl (by kernel_rfl) rfl rfl (fun hp => ⟨?_, ?_, ?_, ?_, ?_, ?_, ?_, trivial⟩) ?_
            · exact q_moveB 6 3 hp (free_of rfl) trivial rfl rfl rfl rfl (fun _ => rfl)
            · exact q_move hp (free_of rfl) trivial (sq_out rfl rfl (fun _ _ => rfl))
            · exact q_loadInt (off := 0) hp (free_of rfl) trivial (List.mem_iff_getElem?.2 ⟨1, rfl⟩) (.inl rfl) (Nat.le_of_ble_eq_true rfl) (sq_out rfl rfl (fun _ _ => rfl)) (fun us w hl h => ld_num hl h)
            · exact q_call1 (F := (Fq.num a).P) hp (free_of rfl) trivial (enq_M_low) (sqi 2) (fun v w h => exLow h)
            · exact q_call2 (F := (Fq.is (.int .i64 (v2 n : Int))).P) (G := (Fq.is (.int .u32 (ab a % 4294967296))).P) hp (free_of rfl) trivial (enq_M_ofTwos) (sqi 1) (sqi 3) (fun v v' w h h' => exOfTwos h h' ⟨by omega, HK2.out⟩ (word_range _) HA.out)
            · exact q_two (F := fun v _ => v = .int .i64 1) (G := fun v _ => v = .int .i64 A) hp (free_of rfl) trivial (sqi 0) (sqi 4) (fun ρ w hc h h' => ⟨.int .i64 (S * A), by simp [execOp, go_sem, h, h', G1.out], rfl⟩)
            · exact q_assign hp (free_of rfl) trivial (sqi 5)
            intro L vs w26 nb hL hC hn E26
            have e0 : vs 0 = .int .i64 1 := hC 0 (by simp)
            have e1 : vs 1 = .int .i64 (v2 n : Int) := hC 1 (by simp)
            have e3 : vs 3 = .int .u32 (ab a % 4294967296) := hC 3 (by simp)
            have e4 : vs 4 = .int .i64 A := hC 4 (by simp)
            have e5 : vs 5 = .int .i64 (S * A) := hC 5 (by simp)
            have e6 : vs 6 = .int .i64 (S * A) := hC 6 (by simp)
            have E : Fr w [(b2, 2, Fq.num (n / 2 ^ v2 n)), (b1, 2, Fq.num a)] w26 := E26
            rw [lay_all hL]
            simp only [putAll, dstOf, List.length_cons, List.length_nil, Nat.zero_add, Nat.reduceAdd, List.getElem?_toArray, List.getElem?_cons_zero, List.getElem?_cons_succ, Option.bind_some, Act.put, List.setIfInBounds_toArray, List.set_cons_succ, List.set_cons_zero]
            rw [e0, e1, e3, e4, e5, e6]
            generalize vs 2 = u26_2
            clear e0 e1 e3 e4 e5 e6 hC hn E26 hL vs L nb
            go_upto_region 12 with (fail)
            have B27 : Hid (ab ((Int.natAbs (n / 2 ^ v2 n) : Int)) < pw 100) := ab_absB BO.out
            refine region_fr (C := [Fq.num (n / 2 ^ v2 n), Fq.num (Int.natAbs (n / 2 ^ v2 n) : Int), Fq.any]) (ks := [some (2, Fq.num (Int.natAbs (n / 2 ^ v2 n) : Int)), none]) (new := []) E rfl (by kernel_rfl) rfl rfl (fun hp => ⟨?_, ?_, ?_, trivial⟩) ?_
            · exact q_loadInt (off := 0) hp (free_of rfl) trivial (List.mem_iff_getElem?.2 ⟨0, rfl⟩) (.inr rfl) (Nat.le_of_ble_eq_true rfl) (sq_out rfl rfl (fun _ _ => rfl)) (fun us w hl h => ld_num hl h)
            · exact q_call1 (F := (Fq.num (n / 2 ^ v2 n)).P) hp (free_of rfl) trivial (enq_Abs) (sqi 0) (fun v w h => exK (AbsV h) B27.out (by omega))
            · exact q_storeOldInt hp (List.mem_iff_getElem?.2 ⟨0, rfl⟩) rfl rfl (sq_out rfl rfl (fun _ _ => rfl)) (sq_in 1 rfl rfl (by simp) rfl (fun v w h => intV_num h)) (fun _ _ => trivial) (newik_ne rfl)
            intro L vs w28 nb hL hC hn E28
            have E : Fr w [(b2, 2, Fq.num (Int.natAbs (n / 2 ^ v2 n) : Int)), (b1, 2, Fq.num a)] w28 := E28
            rw [lay_all hL]
            simp only [putAll, dstOf, List.length_cons, List.length_nil, Nat.zero_add, Nat.reduceAdd, List.getElem?_toArray, List.getElem?_cons_zero, List.getElem?_cons_succ, Option.bind_some, Act.put, List.setIfInBounds_toArray, List.set_cons_succ, List.set_cons_zero]
            generalize vs 0 = u28_0
            generalize vs 1 = u28_1
            clear  hC hn E28 hL vs L nb
            go_upto_region 13 with (fail)
            have B29 : Hid (ab ((a % (Int.natAbs (n / 2 ^ v2 n) : Int))) < pw 100) := ab_modB HM0.out B27.out
            refine region_fr (C := [Fq.is (.int .i64 (S * A)), Fq.num (Int.natAbs (n / 2 ^ v2 n) : Int), Fq.any, Fq.num a, Fq.num (a % (Int.natAbs (n / 2 ^ v2 n) : Int)), Fq.num (Int.natAbs (n / 2 ^ v2 n) : Int), Fq.is (.int .i64 R), Fq.is (.int .i64 (S * A * R)), Fq.is (.int .i64 (S * A * R))]) (ks := [none, none]) (new := [⟨2, 2, 2, Fq.num (Int.natAbs (n / 2 ^ v2 n) : Int), Fq.num (Int.natAbs (n / 2 ^ v2 n) : Int), (some (.clo 57))⟩]) E rfl (by kernel_rfl) rfl rfl (fun hp => ⟨?_, ?_, ?_, ?_, ?_, ?_, ?_, ?_, ?_, trivial⟩) ?_
            · exact q_move hp (free_of rfl) trivial (sq_out rfl rfl (fun _ _ => rfl))
            · exact q_loadInt (off := 0) hp (free_of rfl) trivial (List.mem_iff_getElem?.2 ⟨0, rfl⟩) (.inl rfl) (Nat.le_of_ble_eq_true rfl) (sq_out rfl rfl (fun _ _ => rfl)) (fun us w hl h => ld_num hl h)
            · exact q_callMake (F := (Fq.num (Int.natAbs (n / 2 ^ v2 n) : Int)).P) hp enq_M_within (List.mem_iff_getElem?.2 ⟨0, rfl⟩) rfl rfl rfl (sqi 1) (fun v w h => exWithin h) (fun _ _ => trivial) (old_ne rfl) (newks_ne rfl)
            · exact q_loadInt (off := 0) hp (free_of rfl) trivial (List.mem_iff_getElem?.2 ⟨1, rfl⟩) (.inl rfl) (Nat.le_of_ble_eq_true rfl) (sq_out rfl rfl (fun _ _ => rfl)) (fun us w hl h => ld_num hl h)
            · exact q_callCloIn (F := (Fq.num a).P) hp (free_of rfl) trivial enq_M_within1 (List.mem_iff_getElem?.2 ⟨0, rfl⟩) rfl (own_ptr rfl rfl (by simp) rfl) (sqi 3) (fun v b w h hb => exResidue h hb HM0.out (Int.lt_of_lt_of_le ha.out (pw_le (by omega))) (Int.lt_of_lt_of_le B27.out (pw_le (by omega))))
            · exact q_loadInt (off := 0) hp (free_of rfl) trivial (List.mem_iff_getElem?.2 ⟨0, rfl⟩) (.inl rfl) (Nat.le_of_ble_eq_true rfl) (sq_out rfl rfl (fun _ _ => rfl)) (fun us w hl h => ld_num hl h)
            · exact q_call2W (F := (Fq.num (a % (Int.natAbs (n / 2 ^ v2 n) : Int))).P) (G := (Fq.num (Int.natAbs (n / 2 ^ v2 n) : Int)).P) hp (free_of rfl) trivial (enq_M_jacobi) rfl (sqi 4) (sqi 5) (fun v v' w hbw h h' => exJacobiR h h' (HT.out.mono hbw) (Int.lt_of_lt_of_le B29.out (pw_le (by omega))) (Int.lt_of_lt_of_le B27.out (pw_le (by omega))) HI.out HR.out)
            · exact q_two (F := fun v _ => v = .int .i64 (S * A)) (G := fun v _ => v = .int .i64 R) hp (free_of rfl) trivial (sqi 0) (sqi 6) (fun ρ w hc h h' => ⟨.int .i64 (S * A * R), by simp [execOp, go_sem, h, h', G2.out], rfl⟩)
            · exact q_assign hp (free_of rfl) trivial (sqi 7)
            intro L vs w30 nb hL hC hn E30
            have e0 : vs 0 = .int .i64 (S * A) := hC 0 (by simp)
            have e6 : vs 6 = .int .i64 R := hC 6 (by simp)
            have e7 : vs 7 = .int .i64 (S * A * R) := hC 7 (by simp)
            have e8 : vs 8 = .int .i64 (S * A * R) := hC 8 (by simp)
            have e2 : vs 2 = cloV 57 (nb 2) := hn _ (List.mem_iff_getElem?.2 ⟨0, rfl⟩)
            have E : Fr w [(nb 2, 2, Fq.num (Int.natAbs (n / 2 ^ v2 n) : Int)), (b2, 2, Fq.num (Int.natAbs (n / 2 ^ v2 n) : Int)), (b1, 2, Fq.num a)] w30 := E30
            rw [lay_all hL]
            simp only [putAll, dstOf, List.length_cons, List.length_nil, Nat.zero_add, Nat.reduceAdd, List.getElem?_toArray, List.getElem?_cons_zero, List.getElem?_cons_succ, Option.bind_some, Act.put, List.setIfInBounds_toArray, List.set_cons_succ, List.set_cons_zero]
            rw [e0, e6, e7, e8, e2]
            generalize nb 2 = b30_2 at E ⊢
            generalize vs 1 = u30_1
            generalize vs 3 = u30_3
            generalize vs 4 = u30_4
            generalize vs 5 = u30_5
            clear e0 e6 e7 e8 e2 hC hn E30 hL vs L nb
            clear HT HA HR G1 G2 HI HK2 HM0 HNZ BO
            clear B27 B29 ha hn
            go_wp2
            refine bodyPost_ret (v := .int .i64 (S * A * R)) ?_ rfl (by first | exact ⟨_, rfl, E.below, by rw [HK.out]⟩ | exact ⟨_, rfl, E.below⟩ | exact ⟨rfl, E.below⟩)
            simp [results, Tryz.results14, go_sem]
        · have P1 : Hid (¬ cmpI a 0 < 0) := mt cmpIqlt.1 h1
          have P3 : Hid (S = 1) := by show _ = _; rw [← HS.out]; unfold sg2; rw [if_neg (fun h => h1 h.1)]
          clear h1
          go_upto_region 8 with (fail)
          refine region_fr (C := [Fq.num a, Fq.is (.int .i64 (cmpI a 0)), Fq.is (.bool false), Fq.is (.bool false), Fq.is (undef), Fq.is (undef), Fq.is (undef), Fq.is (.bool false)]) (ks := [none, none]) (new := []) E rfl (by kernel_rfl) rfl rfl (fun hp => ⟨?_, ?_, ?_, ?_, ?_, ?_, ?_, ?_, trivial⟩) ?_
          · exact q_loadInt (off := 0) hp (free_of rfl) trivial (List.mem_iff_getElem?.2 ⟨1, rfl⟩) (.inl rfl) (Nat.le_of_ble_eq_true rfl) (sq_out rfl rfl (fun _ _ => rfl)) (fun us w hl h => ld_num hl h)
          · exact q_call1 (F := (Fq.num a).P) hp (free_of rfl) trivial (enq_Sign) (sqi 0) (fun v w h => exSign h)
          · exact q_one (F := fun v _ => v = .int .i64 (cmpI a 0)) hp (free_of rfl) trivial (sqi 1) (fun ρ w hc h => ⟨.bool false, by simp [execOp, go_sem, h, hc, P1.out], rfl⟩)
          · exact q_move hp (free_of rfl) trivial (sqi 2)
          · exact q_skip hp (free_of rfl) rfl (gq_some rfl rfl (by simp) rfl (fun v w h => h)) (fun _ => rfl)
          · exact q_skip hp (free_of rfl) rfl (gq_some rfl rfl (by simp) rfl (fun v w h => h)) (fun _ => rfl)
          · exact q_skip hp (free_of rfl) rfl (gq_some rfl rfl (by simp) rfl (fun v w h => h)) (fun _ => rfl)
          · exact q_two (F := fun v _ => v = .bool false) (G := fun v _ => v = .bool false) hp (free_of rfl) trivial (sqi 3) (sq_const (fun _ => rfl)) (fun ρ w hc h h' => ⟨_, by simp [execOp, go_sem, h, h'], rfl⟩)
          intro L vs w31 nb hL hC hn E31
          have e1 : vs 1 = .int .i64 (cmpI a 0) := hC 1 (by simp)
          have e2 : vs 2 = .bool false := hC 2 (by simp)
          have e3 : vs 3 = .bool false := hC 3 (by simp)
          have e4 : vs 4 = undef := hC 4 (by simp)
          have e5 : vs 5 = undef := hC 5 (by simp)
          have e6 : vs 6 = undef := hC 6 (by simp)
          have e7 : vs 7 = .bool false := hC 7 (by simp)
          have E : Fr w [(b2, 2, Fq.num n), (b1, 2, Fq.num a)] w31 := E31
          rw [lay_all hL]
          simp only [putAll, dstOf, List.length_cons, List.length_nil, Nat.zero_add, Nat.reduceAdd, List.getElem?_toArray, List.getElem?_cons_zero, List.getElem?_cons_succ, Option.bind_some, Act.put, List.setIfInBounds_toArray, List.set_cons_succ, List.set_cons_zero]
          rw [e1, e2, e3, e4, e5, e6, e7]
          generalize vs 0 = u31_0
          clear e1 e2 e3 e4 e5 e6 e7 hC hn E31 hL vs L nb
          clear P1
          replace G1 := hidd (show IntKind.i64.wrap A = S * A by have := G1.out; rw [P3.out] at this ⊢; rw [Int.one_mul] at this ⊢; exact this)
          clear HS P3
          go_upto_region 10 with (fail)
          refine region_fr (C := [Fq.num n, Fq.tup2 (Fq.num (n / 2 ^ v2 n)) (Fq.is (.int .i64 (v2 n : Int))), Fq.tup2 (Fq.num (n / 2 ^ v2 n)) (Fq.is (.int .i64 (v2 n : Int))), Fq.num (n / 2 ^ v2 n), Fq.is (.int .i64 (v2 n : Int)), Fq.any, Fq.is (.int .i64 (v2 n : Int))]) (ks := [some (5, Fq.num (n / 2 ^ v2 n)), none]) (new := []) E rfl (by kernel_rfl) rfl rfl (fun hp => ⟨?_, ?_, ?_, ?_, ?_, ?_, ?_, trivial⟩) ?_
          · exact q_loadInt (off := 0) hp (free_of rfl) trivial (List.mem_iff_getElem?.2 ⟨0, rfl⟩) (.inr rfl) (Nat.le_of_ble_eq_true rfl) (sq_out rfl rfl (fun _ _ => rfl)) (fun us w hl h => ld_num hl h)
          · exact q_call1W (F := (Fq.num n).P) hp (free_of rfl) trivial (enq_M_oddPart) rfl (sqi 0) (fun v w hbw h => exOddPart h (HT.out.mono hbw) HNZ.out (Int.lt_of_lt_of_le hn.out (pw_le (by omega))))
          · exact q_move hp (free_of rfl) trivial (sqi 1)
          · exact q_extract2 hp (free_of rfl) trivial (sqi 2) (fun v1 v2 w h1 h2 => ⟨_, rfl, h1⟩)
          · exact q_extract2 hp (free_of rfl) trivial (sqi 2) (fun v1 v2 w h1 h2 => ⟨_, rfl, h2⟩)
          · exact q_storeOldInt hp (List.mem_iff_getElem?.2 ⟨0, rfl⟩) rfl rfl (sq_out rfl rfl (fun _ _ => rfl)) (sq_in 3 rfl rfl (by simp) rfl (fun v w h => intV_num h)) (fun _ _ => trivial) (newik_ne rfl)
          · exact q_assign hp (free_of rfl) trivial (sqi 4)
          intro L vs w32 nb hL hC hn E32
          have e4 : vs 4 = .int .i64 (v2 n : Int) := hC 4 (by simp)
          have e6 : vs 6 = .int .i64 (v2 n : Int) := hC 6 (by simp)
          have E : Fr w [(b2, 2, Fq.num (n / 2 ^ v2 n)), (b1, 2, Fq.num a)] w32 := E32
          rw [lay_all hL]
          simp only [putAll, dstOf, List.length_cons, List.length_nil, Nat.zero_add, Nat.reduceAdd, List.getElem?_toArray, List.getElem?_cons_zero, List.getElem?_cons_succ, Option.bind_some, Act.put, List.setIfInBounds_toArray, List.set_cons_succ, List.set_cons_zero]
          rw [e4, e6]
          generalize vs 0 = u32_0
          generalize vs 1 = u32_1
          generalize vs 2 = u32_2
          generalize vs 3 = u32_3
          clear e4 e6 hC hn E32 hL vs L nb
          go_upto_region 11 with (fail)
          refine region_fr (C := [Fq.is (.int .i64 1), Fq.is (.int .i64 (v2 n : Int)), Fq.num a, Fq.is (.int .u32 (ab a % 4294967296)), Fq.is (.int .i64 A), Fq.is (.int .i64 (S * A)), Fq.is (.int .i64 (S * A))]) (ks := [none, none]) (new := []) E rfl (by kernel_rfl) rfl rfl (fun hp => ⟨?_, ?_, ?_, ?_, ?_, ?_, ?_, trivial⟩) ?_
          · exact q_moveB 6 3 hp (free_of rfl) trivial rfl rfl rfl rfl (fun _ => rfl)
          · exact q_move hp (free_of rfl) trivial (sq_out rfl rfl (fun _ _ => rfl))
          · exact q_loadInt (off := 0) hp (free_of rfl) trivial (List.mem_iff_getElem?.2 ⟨1, rfl⟩) (.inl rfl) (Nat.le_of_ble_eq_true rfl) (sq_out rfl rfl (fun _ _ => rfl)) (fun us w hl h => ld_num hl h)
          · exact q_call1 (F := (Fq.num a).P) hp (free_of rfl) trivial (enq_M_low) (sqi 2) (fun v w h => exLow h)
          · exact q_call2 (F := (Fq.is (.int .i64 (v2 n : Int))).P) (G := (Fq.is (.int .u32 (ab a % 4294967296))).P) hp (free_of rfl) trivial (enq_M_ofTwos) (sqi 1) (sqi 3) (fun v v' w h h' => exOfTwos h h' ⟨by omega, HK2.out⟩ (word_range _) HA.out)
          · exact q_two (F := fun v _ => v = .int .i64 1) (G := fun v _ => v = .int .i64 A) hp (free_of rfl) trivial (sqi 0) (sqi 4) (fun ρ w hc h h' => ⟨.int .i64 (S * A), by simp [execOp, go_sem, h, h', G1.out], rfl⟩)
          · exact q_assign hp (free_of rfl) trivial (sqi 5)
          intro L vs w33 nb hL hC hn E33
          have e0 : vs 0 = .int .i64 1 := hC 0 (by simp)
          have e1 : vs 1 = .int .i64 (v2 n : Int) := hC 1 (by simp)
          have e3 : vs 3 = .int .u32 (ab a % 4294967296) := hC 3 (by simp)
          have e4 : vs 4 = .int .i64 A := hC 4 (by simp)
          have e5 : vs 5 = .int .i64 (S * A) := hC 5 (by simp)
          have e6 : vs 6 = .int .i64 (S * A) := hC 6 (by simp)
          have E : Fr w [(b2, 2, Fq.num (n / 2 ^ v2 n)), (b1, 2, Fq.num a)] w33 := E33
          rw [lay_all hL]
          simp only [putAll, dstOf, List.length_cons, List.length_nil, Nat.zero_add, Nat.reduceAdd, List.getElem?_toArray, List.getElem?_cons_zero, List.getElem?_cons_succ, Option.bind_some, Act.put, List.setIfInBounds_toArray, List.set_cons_succ, List.set_cons_zero]
          rw [e0, e1, e3, e4, e5, e6]
          generalize vs 2 = u33_2
          clear e0 e1 e3 e4 e5 e6 hC hn E33 hL vs L nb
          go_upto_region 12 with (fail)
          have B34 : Hid (ab ((Int.natAbs (n / 2 ^ v2 n) : Int)) < pw 100) := ab_absB BO.out
          refine region_fr (C := [Fq.num (n / 2 ^ v2 n), Fq.num (Int.natAbs (n / 2 ^ v2 n) : Int), Fq.any]) (ks := [some (2, Fq.num (Int.natAbs (n / 2 ^ v2 n) : Int)), none]) (new := []) E rfl (by kernel_rfl) rfl rfl (fun hp => ⟨?_, ?_, ?_, trivial⟩) ?_
          · exact q_loadInt (off := 0) hp (free_of rfl) trivial (List.mem_iff_getElem?.2 ⟨0, rfl⟩) (.inr rfl) (Nat.le_of_ble_eq_true rfl) (sq_out rfl rfl (fun _ _ => rfl)) (fun us w hl h => ld_num hl h)
          · exact q_call1 (F := (Fq.num (n / 2 ^ v2 n)).P) hp (free_of rfl) trivial (enq_Abs) (sqi 0) (fun v w h => exK (AbsV h) B34.out (by omega))
          · exact q_storeOldInt hp (List.mem_iff_getElem?.2 ⟨0, rfl⟩) rfl rfl (sq_out rfl rfl (fun _ _ => rfl)) (sq_in 1 rfl rfl (by simp) rfl (fun v w h => intV_num h)) (fun _ _ => trivial) (newik_ne rfl)
          intro L vs w35 nb hL hC hn E35
          have E : Fr w [(b2, 2, Fq.num (Int.natAbs (n / 2 ^ v2 n) : Int)), (b1, 2, Fq.num a)] w35 := E35
          rw [lay_all hL]
          simp only [putAll, dstOf, List.length_cons, List.length_nil, Nat.zero_add, Nat.reduceAdd, List.getElem?_toArray, List.getElem?_cons_zero, List.getElem?_cons_succ, Option.bind_some, Act.put, List.setIfInBounds_toArray, List.set_cons_succ, List.set_cons_zero]
          generalize vs 0 = u35_0
          generalize vs 1 = u35_1
          clear  hC hn E35 hL vs L nb
          go_upto_region 13 with (fail)
          have B36 : Hid (ab ((a % (Int.natAbs (n / 2 ^ v2 n) : Int))) < pw 100) := ab_modB HM0.out B34.out
          refine region_fr (C := [Fq.is (.int .i64 (S * A)), Fq.num (Int.natAbs (n / 2 ^ v2 n) : Int), Fq.any, Fq.num a, Fq.num (a % (Int.natAbs (n / 2 ^ v2 n) : Int)), Fq.num (Int.natAbs (n / 2 ^ v2 n) : Int), Fq.is (.int .i64 R), Fq.is (.int .i64 (S * A * R)), Fq.is (.int .i64 (S * A * R))]) (ks := [none, none]) (new := [⟨2, 2, 2, Fq.num (Int.natAbs (n / 2 ^ v2 n) : Int), Fq.num (Int.natAbs (n / 2 ^ v2 n) : Int), (some (.clo 57))⟩]) E rfl (by kernel_rfl) rfl rfl (fun hp => ⟨?_, ?_, ?_, ?_, ?_, ?_, ?_, ?_, ?_, trivial⟩) ?_
          · exact q_move hp (free_of rfl) trivial (sq_out rfl rfl (fun _ _ => rfl))
          · exact q_loadInt (off := 0) hp (free_of rfl) trivial (List.mem_iff_getElem?.2 ⟨0, rfl⟩) (.inl rfl) (Nat.le_of_ble_eq_true rfl) (sq_out rfl rfl (fun _ _ => rfl)) (fun us w hl h => ld_num hl h)
          · exact q_callMake (F := (Fq.num (Int.natAbs (n / 2 ^ v2 n) : Int)).P) hp enq_M_within (List.mem_iff_getElem?.2 ⟨0, rfl⟩) rfl rfl rfl (sqi 1) (fun v w h => exWithin h) (fun _ _ => trivial) (old_ne rfl) (newks_ne rfl)
          · exact q_loadInt (off := 0) hp (free_of rfl) trivial (List.mem_iff_getElem?.2 ⟨1, rfl⟩) (.inl rfl) (Nat.le_of_ble_eq_true rfl) (sq_out rfl rfl (fun _ _ => rfl)) (fun us w hl h => ld_num hl h)
          · exact q_callCloIn (F := (Fq.num a).P) hp (free_of rfl) trivial enq_M_within1 (List.mem_iff_getElem?.2 ⟨0, rfl⟩) rfl (own_ptr rfl rfl (by simp) rfl) (sqi 3) (fun v b w h hb => exResidue h hb HM0.out (Int.lt_of_lt_of_le ha.out (pw_le (by omega))) (Int.lt_of_lt_of_le B34.out (pw_le (by omega))))
          · exact q_loadInt (off := 0) hp (free_of rfl) trivial (List.mem_iff_getElem?.2 ⟨0, rfl⟩) (.inl rfl) (Nat.le_of_ble_eq_true rfl) (sq_out rfl rfl (fun _ _ => rfl)) (fun us w hl h => ld_num hl h)
          · exact q_call2W (F := (Fq.num (a % (Int.natAbs (n / 2 ^ v2 n) : Int))).P) (G := (Fq.num (Int.natAbs (n / 2 ^ v2 n) : Int)).P) hp (free_of rfl) trivial (enq_M_jacobi) rfl (sqi 4) (sqi 5) (fun v v' w hbw h h' => exJacobiR h h' (HT.out.mono hbw) (Int.lt_of_lt_of_le B36.out (pw_le (by omega))) (Int.lt_of_lt_of_le B34.out (pw_le (by omega))) HI.out HR.out)
          · exact q_two (F := fun v _ => v = .int .i64 (S * A)) (G := fun v _ => v = .int .i64 R) hp (free_of rfl) trivial (sqi 0) (sqi 6) (fun ρ w hc h h' => ⟨.int .i64 (S * A * R), by simp [execOp, go_sem, h, h', G2.out], rfl⟩)
          · exact q_assign hp (free_of rfl) trivial (sqi 7)
          intro L vs w37 nb hL hC hn E37
          have e0 : vs 0 = .int .i64 (S * A) := hC 0 (by simp)
          have e6 : vs 6 = .int .i64 R := hC 6 (by simp)
          have e7 : vs 7 = .int .i64 (S * A * R) := hC 7 (by simp)
          have e8 : vs 8 = .int .i64 (S * A * R) := hC 8 (by simp)
          have e2 : vs 2 = cloV 57 (nb 2) := hn _ (List.mem_iff_getElem?.2 ⟨0, rfl⟩)
          have E : Fr w [(nb 2, 2, Fq.num (Int.natAbs (n / 2 ^ v2 n) : Int)), (b2, 2, Fq.num (Int.natAbs (n / 2 ^ v2 n) : Int)), (b1, 2, Fq.num a)] w37 := E37
          rw [lay_all hL]
          simp only [putAll, dstOf, List.length_cons, List.length_nil, Nat.zero_add, Nat.reduceAdd, List.getElem?_toArray, List.getElem?_cons_zero, List.getElem?_cons_succ, Option.bind_some, Act.put, List.setIfInBounds_toArray, List.set_cons_succ, List.set_cons_zero]
          rw [e0, e6, e7, e8, e2]
          generalize nb 2 = b37_2 at E ⊢
          generalize vs 1 = u37_1
          generalize vs 3 = u37_3
          generalize vs 4 = u37_4
          generalize vs 5 = u37_5
          clear e0 e6 e7 e8 e2 hC hn E37 hL vs L nb
          clear HT HA HR G1 G2 HI HK2 HM0 HNZ BO
          clear B34 B36 ha hn
          go_wp2
          refine bodyPost_ret (v := .int .i64 (S * A * R)) ?_ rfl (by first | exact ⟨_, rfl, E.below, by rw [HK.out]⟩ | exact ⟨_, rfl, E.below⟩ | exact ⟨rfl, E.below⟩)
          simp [results, Tryz.results14, go_sem]

end Go.Proofs.YtieobgadihcgeaaGreatDoor

namespace Go.Proofs.YtieobgadihcgeaaGreatDoor
open Go Go.RowKit

def Got (w : World) (v : Value) (z r : Int) : Prop := ∃ n ao k c, v = .agg #[.bool n, .slice ao k c, .int .i64 r] ∧ Num w (.agg #[.bool n, .slice ao k c]) z
def Fq.got (z r : Int) : Fq := ⟨fun v w => Got w v z r, fun ⟨n, ao, k, c, e, h⟩ hb => ⟨n, ao, k, c, e, h.mono hb⟩, fun ⟨n, ao, k, c, e, h⟩ ha ht hl => ⟨n, ao, k, c, e, (Fq.num z).put h ha ht hl⟩⟩
def GotV (F : Fq) (v : Value) (w : World) : Prop := ∃ n ao k c r, v = .agg #[.bool n, .slice ao k c, .int .i64 r] ∧ F.P v w
theorem Got.partsV {w : World} {v : Value} {z r : Int} (h : Got w v z r) : GotV (Fq.got z r) v w := by
  have h0 := h
  obtain ⟨n, ao, k, c, e, h1⟩ := h
  exact ⟨n, ao, k, c, r, e, h0⟩
theorem Got.parts {w : World} {v : Value} {z r : Int} (h : Got w v z r) : ∃ n ao k c, v = .agg #[.bool n, .slice ao k c, .int .i64 r] ∧ Num w (.agg #[.bool n, .slice ao k c]) z := h
def zeroGot : List Value := [.bool false, .slice none 0 0, .int .i64 0]
theorem Got.zero (w : World) : Got w (.agg zeroGot.toArray) 0 0 := ⟨_, _, _, _, rfl, Num.zero w⟩
theorem tame_got (n : Bool) (ao : Option Addr) (k c : Nat) (r : Int) : Tame [.bool n, .slice ao k c, .int .i64 r] := by
  intro u hu q e
  simp at hu
  rcases hu with rfl | rfl | rfl <;> cases e
theorem ld_got {us : List Value} {w : World} {z r : Int} (hl : us.length = 3) (h : (Fq.got z r).P (.agg us.toArray) w) : Num w (.agg #[us.getD 0 undef, us.getD (0 + 1) undef]) z := by
  match us, hl with
  | [u0, u1, u2], _ =>
    obtain ⟨n, ao, k, c, e, h1⟩ := h
    injection e with e
    have e2 := congrArg Array.toList e
    simp at e2
    obtain ⟨rfl, rfl, rfl⟩ := e2
    exact h1
theorem ld_got2 {us : List Value} {w : World} {z r : Int} (hl : us.length = 3) (h : (Fq.got z r).P (.agg us.toArray) w) : us.getD 2 undef = .int .i64 r := by
  match us, hl with
  | [u0, u1, u2], _ =>
    obtain ⟨n, ao, k, c, e, h1⟩ := h
    injection e with e
    have e2 := congrArg Array.toList e
    simp at e2
    obtain ⟨rfl, rfl, rfl⟩ := e2
    rfl
theorem box_got {w : World} {b : Nat} {z r : Int} (h : Bq w b 3 (Fq.got z r)) : ∃ p0 p1 p2, w.cell? ⟨b, 0, none⟩ = some p0 ∧ w.cell? ⟨b, 1, none⟩ = some p1 ∧ w.cell? ⟨b, 2, none⟩ = some p2 ∧ Got w (.agg #[p0, p1, p2]) z r := by
  obtain ⟨us, hl, _, hat, _, hP⟩ := h
  match us, hl, hat with
  | [p, q, r], _, hat => exact ⟨p, q, r, (hat 0 (by simp)).1, (hat 1 (by simp)).1, (hat 2 (by simp)).1, hP⟩

section
variable {os : List Oper} {Q : Exit → Act → World → Prop} {a : Act} {p : Pq} {B B0 : Nat} {w0 : World}
variable {i s : Nat} {d : Option Tmp} {ty : TypeId} {ps : String} {af : Array Edge} {gd : Option (Nat × Bool)}
theorem q_loadErr {o : Ob} {x : Operand} {r : Int} (hp : p.Ok B B0) (hF : p.Free i) (hg : GdQ os a p B B0 w0 af gd) (ho : o ∈ p.old) (hk : o.F1 = o.F0 ∨ leadsB os 9 o.k i = true) (hm : o.m = 3)
    (hx : SrcQ os a p B B0 w0 af x fun u _ => u = .pointer (some ⟨o.b, 2, none⟩)) (hC : ∀ (us : List Value) (w : World), us.length = o.m → o.F0.P (.agg us.toArray) w → us.getD 2 undef = .int .i64 r) (hI : ∀ w, (p.c i).P (.int .i64 r) w) :
    StepQ os Q a p B B0 w0 i { dst := d, op := .load 31 x, type := ty, pos := ps, after := af, guard := gd } := by
  refine stq_val hp hF hg fun L vs w hG hL hc hd => ?_
  obtain ⟨us, hl, h0, hat, ht, hP⟩ := box_now ho hk hG hL hc
  have e := hx L vs w hG hd
  have c2 := (hat 2 (by omega)).1
  rw [hC us w hl hP] at c2
  refine ⟨_, ?_, hI w⟩
  generalize (lay os.toArray L vs os.toArray.size a).eval = ρ at e
  simp [execOp, go_sem, e, c2]
theorem q_buildGot {x y : Operand} {z r : Int} (hp : p.Ok B B0) (hF : p.Free i) (hg : GdQ os a p B B0 w0 af gd) (hx : SrcQ os a p B B0 w0 af x fun v w => Num w v z) (hy : SrcQ os a p B B0 w0 af y fun v _ => v = .int .i64 r) (hC : ∀ v w, Got w v z r → (p.c i).P v w) :
    StepQ os Q a p B B0 w0 i { dst := d, op := .build 38 #[(0, x), (1, y)], type := ty, pos := ps, after := af, guard := gd } := by
  refine stq_val hp hF hg fun L vs w hG hL hc hd => ?_
  have h1 := hx L vs w hG hd
  have e2 := hy L vs w hG hd
  obtain ⟨n, ao, k, c, e1⟩ := h1.parts
  refine ⟨.agg #[.bool n, .slice ao k c, .int .i64 r], ?_, hC _ _ ⟨_, _, _, _, rfl, by rw [← e1]; exact h1⟩⟩
  generalize (lay os.toArray L vs os.toArray.size a).eval = ρ at e1 e2
  simp [execOp, go_sem, e1, e2]
theorem op_storeGot {ops : Array Oper} {K : Act → World → Prop} {w : World} {x y : Operand} {b : Nat} {us : List Value} {n : Bool} {ao : Option Addr} {k c : Nat} {r : Int} (ho : ops[i]? = some { dst := d, op := .store 38 x y, type := ty, pos := ps, after := af, guard := none }) (hx : a.eval x = .pointer (some ⟨b, 0, none⟩)) (hy : a.eval y = .agg #[.bool n, .slice ao k c, .int .i64 r]) (hat : At w b us) (hl : us.length = 3)
    (h : K (a.put d undef) (putFrom w b 0 [.bool n, .slice ao k c, .int .i64 r])) : wpOp Tryz.prog ops Q i K a w := by
  refine wpOp_step ho fun K' hK => ?_
  obtain ⟨e0, f0⟩ := hat 0 (by omega)
  obtain ⟨e1, f1⟩ := hat 1 (by omega)
  obtain ⟨e2, f2⟩ := hat 2 (by omega)
  generalize us.getD 0 undef = u0 at e0
  generalize us.getD 1 undef = u1 at e1
  generalize us.getD 2 undef = u2 at e2
  have e : (execOp a.eval ({ dst := d, op := .store 38 x y, type := ty, pos := ps, after := af, guard := none } : Oper)).run Tryz.prog w = (.ok .skip (putFrom w b 0 [.bool n, .slice ao k c, .int .i64 r])) := by
    generalize a.eval = ρ at hx hy
    simp [execOp, go_sem, hx, hy, e0, e1, e2, f0, f1, f2, putFrom]
  have hwn : Region.wanted ({ dst := d, op := .store 38 x y, type := ty, pos := ps, after := af, guard := none } : Oper) (yielded ops a.tmps) = true := rfl
  rw [if_pos hwn]
  unfold Oper.wp
  rw [e]
  exact hK _ _ h
theorem q_storeOldGot {o0 : Ob} {x y : Operand} (hp : p.Ok B B0) (hi : o0 ∈ p.old) (hki : o0.k = i) (hm : o0.m = 3) (hx : SrcQ os a p B B0 w0 af x fun u _ => u = .pointer (some ⟨o0.b, 0, none⟩)) (hy : SrcQ os a p B B0 w0 af y (GotV o0.F1))
    (hC : ∀ v w', (p.c i).P v w') (h2 : ∀ n ∈ p.new, n.i ≠ i ∧ n.k ≠ i) : StepQ os Q a p B B0 w0 i { dst := none, op := .store 38 x y, type := ty, pos := ps, after := af, guard := none } := by
  subst hki
  intro hio L vs w hG hL hd hc
  obtain ⟨n, ao, k, c, r, e, hP⟩ := hy L vs w hG hd
  obtain ⟨us, g1, g2, g3, g4, g5⟩ := hG.old _ hi
  rw [e] at hP
  exact op_storeGot hio (hx L vs w hG hd) e g3 (by omega) ⟨undef, rfl, hG.storeOld hp hi (us := [.bool n, .slice ao k c, .int .i64 r]) hm.symm (tame_got _ _ _ _ _) hP hC h2 _⟩
end
set_option maxRecDepth 100000 in
set_option maxHeartbeats 4000000 in
theorem exVOf {w : World} {z : Int} (h0 : -9223372036854775808 ≤ z ∧ z ≤ 9223372036854775807) :
    Calls Tryz.prog 17 #[.int .i64 z] w fun e w' => ∃ v', e = .returned v' ∧ Below w.heap.size w w' ∧ Num w' v' z := by
  replace h0 := hidd h0
  obtain ⟨w1, b1, hw1, hb1, hs1, E⟩ := fr_start w (F := Fq.num 0) (us := [.bool false, .slice none 0 0]) 29 rfl (by simp) (tame_int _ _ _ _) (Num.zero _)
  go_enter Tryz.func17, Tryz.ntmps17
  go_upto_region 1 with (fail)
  rw [← hw1]
  rw [← hb1]
  clear hw1 hb1 hs1
  refine region_fr (C := [Fq.is (.int .i64 z), Fq.num z, Fq.any]) (ks := [some (2, Fq.num z)]) (new := []) E rfl (by kernel_rfl) rfl rfl (fun hp => ⟨?_, ?_, ?_, trivial⟩) ?_
  · exact q_move hp (free_of rfl) trivial (sq_out rfl rfl (fun _ _ => rfl))
  · exact q_call1 (F := (Fq.is (.int .i64 z)).P) hp (free_of rfl) trivial (enq_R_Of) (sqi 0) (fun v w h => by rw [h]; exact rOfK w z h0.out.1 h0.out.2)
  · exact q_storeOldInt hp (List.mem_iff_getElem?.2 ⟨0, rfl⟩) rfl rfl (sq_out rfl rfl (fun _ _ => rfl)) (sq_in 1 rfl rfl (by simp) rfl (fun v w h => intV_num h)) (fun _ _ => trivial) (newik_ne rfl)
  intro L vs w2 nb hL hC hn E2
  have e0 : vs 0 = .int .i64 z := hC 0 (by simp)
  have E : Fr w [(b1, 2, Fq.num z)] w2 := E2
  rw [lay_all hL]
  simp only [putAll, dstOf, List.length_cons, List.length_nil, Nat.zero_add, Nat.reduceAdd, List.getElem?_toArray, List.getElem?_cons_zero, List.getElem?_cons_succ, Option.bind_some, Act.put, List.setIfInBounds_toArray, List.set_cons_succ, List.set_cons_zero]
  rw [e0]
  generalize vs 1 = u2_1
  clear e0 hC hn E2 hL vs L nb
  clear h0
  obtain ⟨p0, p1, c0, c1, hP⟩ := box_num (E.box 0 rfl)
  go_wp2
  refine bodyPost_ret (v := .agg #[p0, p1]) ?_ rfl ⟨_, rfl, E.below, hP⟩
  simp [results, Tryz.results17, go_sem, c0, c1]

set_option maxRecDepth 100000 in
set_option maxHeartbeats 4000000 in
theorem exVInv {w : World} {v v' : Value} {a m z r : Int} (h : Num w v a) (h' : Num w v' m) (hC : ∀ (x x' : Value) (w1 : World), Below w.heap.size w w1 → Num w1 x a → Num w1 x' m → Calls Tryz.prog 32 #[x, x'] w1 fun e w' => ∃ v', e = .returned v' ∧ Below w1.heap.size w1 w' ∧ (Fq.tup2 (Fq.num z) (Fq.is (.int .i64 r))).P v' w') :
    Calls Tryz.prog 12 #[v, v'] w fun e w' => ∃ v', e = .returned v' ∧ Below w.heap.size w w' ∧ Got w' v' z r := by
  replace hC := hidd hC
  obtain ⟨n0, ao0, k0, c0, rfl⟩ := h.parts
  obtain ⟨n1, ao1, k1, c1, rfl⟩ := h'.parts
  obtain ⟨w1, b1, hw1, hb1, hs1, E⟩ := fr_start w (F := Fq.num a) (us := [.bool n0, .slice ao0 k0 c0]) 29 rfl (by simp) (tame_int _ _ _ _) h
  obtain ⟨w2, b2, hw2, hb2, hs2, E⟩ := fr_more E hs1 (F := Fq.num m) (us := [.bool n1, .slice ao1 k1 c1]) 29 rfl (by simp) (tame_int _ _ _ _) (h'.mono E.below)
  obtain ⟨w3, b3, hw3, hb3, hs3, E⟩ := fr_more E hs2 (F := Fq.got 0 0) (us := [.bool false, .slice none 0 0, .int .i64 0]) 38 rfl (by simp) (tame_got _ _ _ _ _) (Got.zero _)
  go_enter Tryz.func12, Tryz.ntmps12
  go_upto_region 1 with (fail)
  rw [← hw1]
  rw [← hw2]
  rw [← hw3]
  rw [← hb3]
  rw [← hb2]
  rw [← hb1]
  clear hw1 hw2 hw3 hb1 hb2 hb3 hs3 hs1 hs2
  refine region_fr (C := [Fq.num a, Fq.num m, Fq.tup2 (Fq.num z) (Fq.is (.int .i64 r)), Fq.tup2 (Fq.num z) (Fq.is (.int .i64 r)), Fq.num z, Fq.is (.int .i64 r), Fq.any, Fq.any, Fq.is (.int .i64 r)]) (ks := [none, none, none]) (new := [⟨6, 7, 2, Fq.num 0, Fq.num z, none⟩]) E rfl (by kernel_rfl) rfl rfl (fun hp => ⟨?_, ?_, ?_, ?_, ?_, ?_, ?_, ?_, ?_, trivial⟩) ?_
  · exact q_loadInt (off := 0) hp (free_of rfl) trivial (List.mem_iff_getElem?.2 ⟨2, rfl⟩) (.inl rfl) (Nat.le_of_ble_eq_true rfl) (sq_out rfl rfl (fun _ _ => rfl)) (fun us w hl h => ld_num hl h)
  · exact q_loadInt (off := 0) hp (free_of rfl) trivial (List.mem_iff_getElem?.2 ⟨1, rfl⟩) (.inl rfl) (Nat.le_of_ble_eq_true rfl) (sq_out rfl rfl (fun _ _ => rfl)) (fun us w hl h => ld_num hl h)
  · exact q_call2W (F := (Fq.num a).P) (G := (Fq.num m).P) hp (free_of rfl) trivial (enq_M_Inv) rfl (sqi 0) (sqi 1) (fun v v' w hbw h h' => hC.out _ _ _ hbw h h')
  · exact q_move hp (free_of rfl) trivial (sqi 2)
  · exact q_extract2 hp (free_of rfl) trivial (sqi 3) (fun v1 v2 w h1 h2 => ⟨_, rfl, h1⟩)
  · exact q_extract2 hp (free_of rfl) trivial (sqi 3) (fun v1 v2 w h1 h2 => ⟨_, rfl, h2⟩)
  · exact q_allocInt hp (List.mem_iff_getElem?.2 ⟨0, rfl⟩) rfl rfl rfl rfl (Nat.ne_of_beq_eq_false rfl) (fun _ _ => trivial) (old_ne rfl) (newk_ne rfl) (fun w => Num.zero w)
  · exact q_storeNewInt hp (List.mem_iff_getElem?.2 ⟨0, rfl⟩) rfl rfl rfl (own_ptr rfl rfl (by simp) rfl) (sq_in 4 rfl rfl (by simp) rfl (fun v w h => intV_num h)) (fun _ _ => trivial) (old_ne rfl) (newi_ne rfl)
  · exact q_assign hp (free_of rfl) trivial (sqi 5)
  intro L vs w4 nb hL hC hn E4
  have e5 : vs 5 = .int .i64 r := hC 5 (by simp)
  have e8 : vs 8 = .int .i64 r := hC 8 (by simp)
  have e6 : vs 6 = .pointer (some ⟨nb 6, 0, none⟩) := hn _ (List.mem_iff_getElem?.2 ⟨0, rfl⟩)
  have E : Fr w [(nb 6, 2, Fq.num z), (b3, 3, Fq.got 0 0), (b2, 2, Fq.num m), (b1, 2, Fq.num a)] w4 := E4
  rw [lay_all hL]
  simp only [putAll, dstOf, List.length_cons, List.length_nil, Nat.zero_add, Nat.reduceAdd, List.getElem?_toArray, List.getElem?_cons_zero, List.getElem?_cons_succ, Option.bind_some, Act.put, List.setIfInBounds_toArray, List.set_cons_succ, List.set_cons_zero]
  rw [e5, e8, e6]
  generalize nb 6 = b4_6 at E ⊢
  generalize vs 0 = u4_0
  generalize vs 1 = u4_1
  generalize vs 2 = u4_2
  generalize vs 3 = u4_3
  generalize vs 4 = u4_4
  clear e5 e8 e6 hC hn E4 hL vs L nb
  go_upto_region 2 with (fail)
  refine region_fr (C := [Fq.num z, Fq.is (.int .i64 r), Fq.got z r, Fq.any]) (ks := [none, some (3, Fq.got z r), none, none]) (new := []) E rfl (by kernel_rfl) rfl rfl (fun hp => ⟨?_, ?_, ?_, ?_, trivial⟩) ?_
  · exact q_loadInt (off := 0) hp (free_of rfl) trivial (List.mem_iff_getElem?.2 ⟨0, rfl⟩) (.inl rfl) (Nat.le_of_ble_eq_true rfl) (sq_out rfl rfl (fun _ _ => rfl)) (fun us w hl h => ld_num hl h)
  · exact q_move hp (free_of rfl) trivial (sq_out rfl rfl (fun _ _ => rfl))
  · exact q_buildGot (z := z) (r := r) hp (free_of rfl) trivial (sqi 0) (sqi 1) (fun v w h => h)
  · exact q_storeOldGot hp (List.mem_iff_getElem?.2 ⟨1, rfl⟩) rfl rfl (sq_out rfl rfl (fun _ _ => rfl)) (sq_in 2 rfl rfl (by simp) rfl (fun v w h => h.partsV)) (fun _ _ => trivial) (newik_ne rfl)
  intro L vs w5 nb hL hC hn E5
  have e1 : vs 1 = .int .i64 r := hC 1 (by simp)
  have E : Fr w [(b4_6, 2, Fq.num z), (b3, 3, Fq.got z r), (b2, 2, Fq.num m), (b1, 2, Fq.num a)] w5 := E5
  rw [lay_all hL]
  simp only [putAll, dstOf, List.length_cons, List.length_nil, Nat.zero_add, Nat.reduceAdd, List.getElem?_toArray, List.getElem?_cons_zero, List.getElem?_cons_succ, Option.bind_some, Act.put, List.setIfInBounds_toArray, List.set_cons_succ, List.set_cons_zero]
  rw [e1]
  generalize vs 0 = u5_0
  generalize vs 2 = u5_2
  clear e1 hC hn E5 hL vs L nb
  clear hC
  obtain ⟨p0, p1, p2, c0, c1, c2, hP⟩ := box_got (E.box 1 rfl)
  go_wp2
  refine bodyPost_ret (v := .agg #[p0, p1, p2]) ?_ rfl ⟨_, rfl, E.below, hP⟩
  simp [results, Tryz.results12, go_sem, c0, c1, c2]

set_option maxRecDepth 100000 in
set_option maxHeartbeats 4000000 in
theorem exVRoot {w : World} {v v' : Value} {a m z r : Int} (h : Num w v a) (h' : Num w v' m) (hC : ∀ (x x' : Value) (w1 : World), Below w.heap.size w w1 → Num w1 x a → Num w1 x' m → Calls Tryz.prog 54 #[x, x'] w1 fun e w' => ∃ v', e = .returned v' ∧ Below w1.heap.size w1 w' ∧ (Fq.tup2 (Fq.num z) (Fq.is (.int .i64 r))).P v' w') :
    Calls Tryz.prog 20 #[v, v'] w fun e w' => ∃ v', e = .returned v' ∧ Below w.heap.size w w' ∧ Got w' v' z r := by
  replace hC := hidd hC
  obtain ⟨n0, ao0, k0, c0, rfl⟩ := h.parts
  obtain ⟨n1, ao1, k1, c1, rfl⟩ := h'.parts
  obtain ⟨w1, b1, hw1, hb1, hs1, E⟩ := fr_start w (F := Fq.num a) (us := [.bool n0, .slice ao0 k0 c0]) 29 rfl (by simp) (tame_int _ _ _ _) h
  obtain ⟨w2, b2, hw2, hb2, hs2, E⟩ := fr_more E hs1 (F := Fq.num m) (us := [.bool n1, .slice ao1 k1 c1]) 29 rfl (by simp) (tame_int _ _ _ _) (h'.mono E.below)
  obtain ⟨w3, b3, hw3, hb3, hs3, E⟩ := fr_more E hs2 (F := Fq.got 0 0) (us := [.bool false, .slice none 0 0, .int .i64 0]) 38 rfl (by simp) (tame_got _ _ _ _ _) (Got.zero _)
  go_enter Tryz.func20, Tryz.ntmps20
  go_upto_region 1 with (fail)
  rw [← hw1]
  rw [← hw2]
  rw [← hw3]
  rw [← hb3]
  rw [← hb2]
  rw [← hb1]
  clear hw1 hw2 hw3 hb1 hb2 hb3 hs3 hs1 hs2
  refine region_fr (C := [Fq.num a, Fq.num m, Fq.tup2 (Fq.num z) (Fq.is (.int .i64 r)), Fq.tup2 (Fq.num z) (Fq.is (.int .i64 r)), Fq.num z, Fq.is (.int .i64 r), Fq.any, Fq.any, Fq.is (.int .i64 r)]) (ks := [none, none, none]) (new := [⟨6, 7, 2, Fq.num 0, Fq.num z, none⟩]) E rfl (by kernel_rfl) rfl rfl (fun hp => ⟨?_, ?_, ?_, ?_, ?_, ?_, ?_, ?_, ?_, trivial⟩) ?_
  · exact q_loadInt (off := 0) hp (free_of rfl) trivial (List.mem_iff_getElem?.2 ⟨2, rfl⟩) (.inl rfl) (Nat.le_of_ble_eq_true rfl) (sq_out rfl rfl (fun _ _ => rfl)) (fun us w hl h => ld_num hl h)
  · exact q_loadInt (off := 0) hp (free_of rfl) trivial (List.mem_iff_getElem?.2 ⟨1, rfl⟩) (.inl rfl) (Nat.le_of_ble_eq_true rfl) (sq_out rfl rfl (fun _ _ => rfl)) (fun us w hl h => ld_num hl h)
  · exact q_call2W (F := (Fq.num a).P) (G := (Fq.num m).P) hp (free_of rfl) trivial (enq_M_Sqrt) rfl (sqi 0) (sqi 1) (fun v v' w hbw h h' => hC.out _ _ _ hbw h h')
  · exact q_move hp (free_of rfl) trivial (sqi 2)
  · exact q_extract2 hp (free_of rfl) trivial (sqi 3) (fun v1 v2 w h1 h2 => ⟨_, rfl, h1⟩)
  · exact q_extract2 hp (free_of rfl) trivial (sqi 3) (fun v1 v2 w h1 h2 => ⟨_, rfl, h2⟩)
  · exact q_allocInt hp (List.mem_iff_getElem?.2 ⟨0, rfl⟩) rfl rfl rfl rfl (Nat.ne_of_beq_eq_false rfl) (fun _ _ => trivial) (old_ne rfl) (newk_ne rfl) (fun w => Num.zero w)
  · exact q_storeNewInt hp (List.mem_iff_getElem?.2 ⟨0, rfl⟩) rfl rfl rfl (own_ptr rfl rfl (by simp) rfl) (sq_in 4 rfl rfl (by simp) rfl (fun v w h => intV_num h)) (fun _ _ => trivial) (old_ne rfl) (newi_ne rfl)
  · exact q_assign hp (free_of rfl) trivial (sqi 5)
  intro L vs w4 nb hL hC hn E4
  have e5 : vs 5 = .int .i64 r := hC 5 (by simp)
  have e8 : vs 8 = .int .i64 r := hC 8 (by simp)
  have e6 : vs 6 = .pointer (some ⟨nb 6, 0, none⟩) := hn _ (List.mem_iff_getElem?.2 ⟨0, rfl⟩)
  have E : Fr w [(nb 6, 2, Fq.num z), (b3, 3, Fq.got 0 0), (b2, 2, Fq.num m), (b1, 2, Fq.num a)] w4 := E4
  rw [lay_all hL]
  simp only [putAll, dstOf, List.length_cons, List.length_nil, Nat.zero_add, Nat.reduceAdd, List.getElem?_toArray, List.getElem?_cons_zero, List.getElem?_cons_succ, Option.bind_some, Act.put, List.setIfInBounds_toArray, List.set_cons_succ, List.set_cons_zero]
  rw [e5, e8, e6]
  generalize nb 6 = b4_6 at E ⊢
  generalize vs 0 = u4_0
  generalize vs 1 = u4_1
  generalize vs 2 = u4_2
  generalize vs 3 = u4_3
  generalize vs 4 = u4_4
  clear e5 e8 e6 hC hn E4 hL vs L nb
  go_upto_region 2 with (fail)
  refine region_fr (C := [Fq.num z, Fq.is (.int .i64 r), Fq.got z r, Fq.any]) (ks := [none, some (3, Fq.got z r), none, none]) (new := []) E rfl (by kernel_rfl) rfl rfl (fun hp => ⟨?_, ?_, ?_, ?_, trivial⟩) ?_
  · exact q_loadInt (off := 0) hp (free_of rfl) trivial (List.mem_iff_getElem?.2 ⟨0, rfl⟩) (.inl rfl) (Nat.le_of_ble_eq_true rfl) (sq_out rfl rfl (fun _ _ => rfl)) (fun us w hl h => ld_num hl h)
  · exact q_move hp (free_of rfl) trivial (sq_out rfl rfl (fun _ _ => rfl))
  · exact q_buildGot (z := z) (r := r) hp (free_of rfl) trivial (sqi 0) (sqi 1) (fun v w h => h)
  · exact q_storeOldGot hp (List.mem_iff_getElem?.2 ⟨1, rfl⟩) rfl rfl (sq_out rfl rfl (fun _ _ => rfl)) (sq_in 2 rfl rfl (by simp) rfl (fun v w h => h.partsV)) (fun _ _ => trivial) (newik_ne rfl)
  intro L vs w5 nb hL hC hn E5
  have e1 : vs 1 = .int .i64 r := hC 1 (by simp)
  have E : Fr w [(b4_6, 2, Fq.num z), (b3, 3, Fq.got z r), (b2, 2, Fq.num m), (b1, 2, Fq.num a)] w5 := E5
  rw [lay_all hL]
  simp only [putAll, dstOf, List.length_cons, List.length_nil, Nat.zero_add, Nat.reduceAdd, List.getElem?_toArray, List.getElem?_cons_zero, List.getElem?_cons_succ, Option.bind_some, Act.put, List.setIfInBounds_toArray, List.set_cons_succ, List.set_cons_zero]
  rw [e1]
  generalize vs 0 = u5_0
  generalize vs 2 = u5_2
  clear e1 hC hn E5 hL vs L nb
  clear hC
  obtain ⟨p0, p1, p2, c0, c1, c2, hP⟩ := box_got (E.box 1 rfl)
  go_wp2
  refine bodyPost_ret (v := .agg #[p0, p1, p2]) ?_ rfl ⟨_, rfl, E.below, hP⟩
  simp [results, Tryz.results20, go_sem, c0, c1, c2]

set_option maxRecDepth 100000 in
set_option maxHeartbeats 4000000 in
theorem exVPow {w : World} {v v' u : Value} {a n m z r : Int} (h : Num w v a) (h' : Num w v' n) (g : Num w u m) (hC : ∀ (x x' y : Value) (w1 : World), Num w1 x a → Num w1 x' n → Num w1 y m → Calls Tryz.prog 33 #[x, x', y] w1 fun e w' => ∃ v', e = .returned v' ∧ Below w1.heap.size w1 w' ∧ (Fq.tup2 (Fq.num z) (Fq.is (.int .i64 r))).P v' w') :
    Calls Tryz.prog 13 #[v, v', u] w fun e w' => ∃ v', e = .returned v' ∧ Below w.heap.size w w' ∧ Got w' v' z r := by
  replace hC := hidd hC
  obtain ⟨n0, ao0, k0, c0, rfl⟩ := h.parts
  obtain ⟨n1, ao1, k1, c1, rfl⟩ := h'.parts
  obtain ⟨n2, ao2, k2, c2, rfl⟩ := g.parts
  obtain ⟨w1, b1, hw1, hb1, hs1, E⟩ := fr_start w (F := Fq.num a) (us := [.bool n0, .slice ao0 k0 c0]) 29 rfl (by simp) (tame_int _ _ _ _) h
  obtain ⟨w2, b2, hw2, hb2, hs2, E⟩ := fr_more E hs1 (F := Fq.num n) (us := [.bool n1, .slice ao1 k1 c1]) 29 rfl (by simp) (tame_int _ _ _ _) (h'.mono E.below)
  obtain ⟨w3, b3, hw3, hb3, hs3, E⟩ := fr_more E hs2 (F := Fq.num m) (us := [.bool n2, .slice ao2 k2 c2]) 29 rfl (by simp) (tame_int _ _ _ _) (g.mono E.below)
  obtain ⟨w4, b4, hw4, hb4, hs4, E⟩ := fr_more E hs3 (F := Fq.got 0 0) (us := [.bool false, .slice none 0 0, .int .i64 0]) 38 rfl (by simp) (tame_got _ _ _ _ _) (Got.zero _)
  go_enter Tryz.func13, Tryz.ntmps13
  go_upto_region 1 with (fail)
  rw [← hw1]
  rw [← hw2]
  rw [← hw3]
  rw [← hw4]
  rw [← hb4]
  rw [← hb3]
  rw [← hb2]
  rw [← hb1]
  clear hw1 hw2 hw3 hw4 hb1 hb2 hb3 hb4 hs4 hs1 hs2 hs3
  refine region_fr (C := [Fq.num a, Fq.num n, Fq.num m, Fq.tup2 (Fq.num z) (Fq.is (.int .i64 r)), Fq.tup2 (Fq.num z) (Fq.is (.int .i64 r)), Fq.num z, Fq.is (.int .i64 r), Fq.any, Fq.any, Fq.is (.int .i64 r)]) (ks := [none, none, none, none]) (new := [⟨7, 8, 2, Fq.num 0, Fq.num z, none⟩]) E rfl (by kernel_rfl) rfl rfl (fun hp => ⟨?_, ?_, ?_, ?_, ?_, ?_, ?_, ?_, ?_, ?_, trivial⟩) ?_
  · exact q_loadInt (off := 0) hp (free_of rfl) trivial (List.mem_iff_getElem?.2 ⟨3, rfl⟩) (.inl rfl) (Nat.le_of_ble_eq_true rfl) (sq_out rfl rfl (fun _ _ => rfl)) (fun us w hl h => ld_num hl h)
  · exact q_loadInt (off := 0) hp (free_of rfl) trivial (List.mem_iff_getElem?.2 ⟨2, rfl⟩) (.inl rfl) (Nat.le_of_ble_eq_true rfl) (sq_out rfl rfl (fun _ _ => rfl)) (fun us w hl h => ld_num hl h)
  · exact q_loadInt (off := 0) hp (free_of rfl) trivial (List.mem_iff_getElem?.2 ⟨1, rfl⟩) (.inl rfl) (Nat.le_of_ble_eq_true rfl) (sq_out rfl rfl (fun _ _ => rfl)) (fun us w hl h => ld_num hl h)
  · exact q_call3 (F := (Fq.num a).P) (G := (Fq.num n).P) (F3 := (Fq.num m).P) hp (free_of rfl) trivial (enq_M_Pow) (sqi 0) (sqi 1) (sqi 2) (fun v v' u w h h' g => hC.out _ _ _ _ h h' g)
  · exact q_move hp (free_of rfl) trivial (sqi 3)
  · exact q_extract2 hp (free_of rfl) trivial (sqi 4) (fun v1 v2 w h1 h2 => ⟨_, rfl, h1⟩)
  · exact q_extract2 hp (free_of rfl) trivial (sqi 4) (fun v1 v2 w h1 h2 => ⟨_, rfl, h2⟩)
  · exact q_allocInt hp (List.mem_iff_getElem?.2 ⟨0, rfl⟩) rfl rfl rfl rfl (Nat.ne_of_beq_eq_false rfl) (fun _ _ => trivial) (old_ne rfl) (newk_ne rfl) (fun w => Num.zero w)
  · exact q_storeNewInt hp (List.mem_iff_getElem?.2 ⟨0, rfl⟩) rfl rfl rfl (own_ptr rfl rfl (by simp) rfl) (sq_in 5 rfl rfl (by simp) rfl (fun v w h => intV_num h)) (fun _ _ => trivial) (old_ne rfl) (newi_ne rfl)
  · exact q_assign hp (free_of rfl) trivial (sqi 6)
  intro L vs w5 nb hL hC hn E5
  have e6 : vs 6 = .int .i64 r := hC 6 (by simp)
  have e9 : vs 9 = .int .i64 r := hC 9 (by simp)
  have e7 : vs 7 = .pointer (some ⟨nb 7, 0, none⟩) := hn _ (List.mem_iff_getElem?.2 ⟨0, rfl⟩)
  have E : Fr w [(nb 7, 2, Fq.num z), (b4, 3, Fq.got 0 0), (b3, 2, Fq.num m), (b2, 2, Fq.num n), (b1, 2, Fq.num a)] w5 := E5
  rw [lay_all hL]
  simp only [putAll, dstOf, List.length_cons, List.length_nil, Nat.zero_add, Nat.reduceAdd, List.getElem?_toArray, List.getElem?_cons_zero, List.getElem?_cons_succ, Option.bind_some, Act.put, List.setIfInBounds_toArray, List.set_cons_succ, List.set_cons_zero]
  rw [e6, e9, e7]
  generalize nb 7 = b5_7 at E ⊢
  generalize vs 0 = u5_0
  generalize vs 1 = u5_1
  generalize vs 2 = u5_2
  generalize vs 3 = u5_3
  generalize vs 4 = u5_4
  generalize vs 5 = u5_5
  clear e6 e9 e7 hC hn E5 hL vs L nb
  go_upto_region 2 with (fail)
  refine region_fr (C := [Fq.num z, Fq.is (.int .i64 r), Fq.got z r, Fq.any]) (ks := [none, some (3, Fq.got z r), none, none, none]) (new := []) E rfl (by kernel_rfl) rfl rfl (fun hp => ⟨?_, ?_, ?_, ?_, trivial⟩) ?_
  · exact q_loadInt (off := 0) hp (free_of rfl) trivial (List.mem_iff_getElem?.2 ⟨0, rfl⟩) (.inl rfl) (Nat.le_of_ble_eq_true rfl) (sq_out rfl rfl (fun _ _ => rfl)) (fun us w hl h => ld_num hl h)
  · exact q_move hp (free_of rfl) trivial (sq_out rfl rfl (fun _ _ => rfl))
  · exact q_buildGot (z := z) (r := r) hp (free_of rfl) trivial (sqi 0) (sqi 1) (fun v w h => h)
  · exact q_storeOldGot hp (List.mem_iff_getElem?.2 ⟨1, rfl⟩) rfl rfl (sq_out rfl rfl (fun _ _ => rfl)) (sq_in 2 rfl rfl (by simp) rfl (fun v w h => h.partsV)) (fun _ _ => trivial) (newik_ne rfl)
  intro L vs w6 nb hL hC hn E6
  have e1 : vs 1 = .int .i64 r := hC 1 (by simp)
  have E : Fr w [(b5_7, 2, Fq.num z), (b4, 3, Fq.got z r), (b3, 2, Fq.num m), (b2, 2, Fq.num n), (b1, 2, Fq.num a)] w6 := E6
  rw [lay_all hL]
  simp only [putAll, dstOf, List.length_cons, List.length_nil, Nat.zero_add, Nat.reduceAdd, List.getElem?_toArray, List.getElem?_cons_zero, List.getElem?_cons_succ, Option.bind_some, Act.put, List.setIfInBounds_toArray, List.set_cons_succ, List.set_cons_zero]
  rw [e1]
  generalize vs 0 = u6_0
  generalize vs 2 = u6_2
  clear e1 hC hn E6 hL vs L nb
  clear hC
  obtain ⟨p0, p1, p2, c0, c1, c2, hP⟩ := box_got (E.box 1 rfl)
  go_wp2
  refine bodyPost_ret (v := .agg #[p0, p1, p2]) ?_ rfl ⟨_, rfl, E.below, hP⟩
  simp [results, Tryz.results13, go_sem, c0, c1, c2]

set_option maxRecDepth 100000 in
set_option maxHeartbeats 4000000 in
theorem exVIs {w : World} {v : Value} {z r n : Int} {t : Bool} (h : Got w v z r) (h0 : -9223372036854775808 ≤ n ∧ n ≤ 9223372036854775807) (hr : r = 0) (ht : decide (z = n) = t) :
    Calls Tryz.prog 19 #[v, .int .i64 n] w fun e w' => ∃ v', e = .returned v' ∧ Below w.heap.size w w' ∧ v' = .bool t := by
  replace h0 := hidd h0
  replace hr := hidd hr
  replace ht := hidd ht
  obtain ⟨n0, ao0, k0, c0, rfl, _⟩ := h.parts
  obtain ⟨w1, b1, hw1, hb1, hs1, E⟩ := fr_start w (F := Fq.got z r) (us := [.bool n0, .slice ao0 k0 c0, .int .i64 r]) 38 rfl (by simp) (tame_got _ _ _ _ _) h
  go_enter Tryz.func19, Tryz.ntmps19
  go_upto_region 1 with (fail)
  rw [← hw1]
  rw [← hb1]
  clear hw1 hb1 hs1
  refine region_fr (C := [Fq.is (.pointer (some ⟨b1, 2, none⟩)), Fq.is (.int .i64 r), Fq.is (.bool true), Fq.is (.bool true), Fq.is (.pointer (some ⟨b1, 0, none⟩)), Fq.num z, Fq.is (.int .i64 n), Fq.num n, Fq.is (.bool t), Fq.is (.bool t), Fq.is (.bool t)]) (ks := [none]) (new := []) E rfl (by kernel_rfl) rfl rfl (fun hp => ⟨?_, ?_, ?_, ?_, ?_, ?_, ?_, ?_, ?_, ?_, ?_, trivial⟩) ?_
  · exact q_addr (b := b1) (off := 0) (off' := 2) hp (free_of rfl) trivial (sq_out rfl rfl (fun _ _ => rfl)) (fun ρ w h => by simp [execOp, go_sem, h]) (fun _ => rfl)
  · exact q_loadErr (r := r) hp (free_of rfl) trivial (List.mem_iff_getElem?.2 ⟨0, rfl⟩) (.inl rfl) rfl (sqi 0) (fun us w hl h => ld_got2 hl h) (fun _ => rfl)
  · exact q_one (F := fun v _ => v = .int .i64 r) hp (free_of rfl) trivial (sqi 1) (fun ρ w hc h => ⟨.bool true, by simp [execOp, go_sem, h, hc, hr.out], rfl⟩)
  · exact q_move hp (free_of rfl) trivial (sqi 2)
  · exact q_addr (b := b1) (off := 0) (off' := 0) hp (free_of rfl) (gq_some rfl rfl (by simp) rfl (fun v w h => h)) (sq_out rfl rfl (fun _ _ => rfl)) (fun ρ w h => by simp [execOp, go_sem, h]) (fun _ => rfl)
  · exact q_loadInt (off := 0) hp (free_of rfl) (gq_some rfl rfl (by simp) rfl (fun v w h => h)) (List.mem_iff_getElem?.2 ⟨0, rfl⟩) (.inl rfl) (Nat.le_of_ble_eq_true rfl) (sqi 4) (fun us w hl h => ld_got hl h)
  · exact q_move hp (free_of rfl) (gq_some rfl rfl (by simp) rfl (fun v w h => h)) (sq_out rfl rfl (fun _ _ => rfl))
  · exact q_call1 (F := (Fq.is (.int .i64 n)).P) hp (free_of rfl) (gq_some rfl rfl (by simp) rfl (fun v w h => h)) (enq_V_of) (sqi 6) (fun v w h => by rw [h]; exact exVOf h0.out)
  · exact q_call2 (F := (Fq.num z).P) (G := (Fq.num n).P) hp (free_of rfl) (gq_some rfl rfl (by simp) rfl (fun v w h => h)) (enq_R_Same) (sqi 5) (sqi 7) (fun v v' w h h' => exRSameB h h' ht.out)
  · exact q_two (F := fun v _ => v = .bool true) (G := fun v _ => v = .bool t) hp (free_of rfl) trivial (sqi 3) (sqi 8) (fun ρ w hc h h' => ⟨_, by simp [execOp, go_sem, h, h'], rfl⟩)
  · exact q_assign hp (free_of rfl) trivial (sqi 9)
  intro L vs w2 nb hL hC hn E2
  have e0 : vs 0 = .pointer (some ⟨b1, 2, none⟩) := hC 0 (by simp)
  have e1 : vs 1 = .int .i64 r := hC 1 (by simp)
  have e2 : vs 2 = .bool true := hC 2 (by simp)
  have e3 : vs 3 = .bool true := hC 3 (by simp)
  have e4 : vs 4 = .pointer (some ⟨b1, 0, none⟩) := hC 4 (by simp)
  have e6 : vs 6 = .int .i64 n := hC 6 (by simp)
  have e8 : vs 8 = .bool t := hC 8 (by simp)
  have e9 : vs 9 = .bool t := hC 9 (by simp)
  have e10 : vs 10 = .bool t := hC 10 (by simp)
  have E : Fr w [(b1, 3, Fq.got z r)] w2 := E2
  rw [lay_all hL]
  simp only [putAll, dstOf, List.length_cons, List.length_nil, Nat.zero_add, Nat.reduceAdd, List.getElem?_toArray, List.getElem?_cons_zero, List.getElem?_cons_succ, Option.bind_some, Act.put, List.setIfInBounds_toArray, List.set_cons_succ, List.set_cons_zero]
  rw [e0, e1, e2, e3, e4, e6, e8, e9, e10]
  generalize vs 5 = u2_5
  generalize vs 7 = u2_7
  clear e0 e1 e2 e3 e4 e6 e8 e9 e10 hC hn E2 hL vs L nb
  clear h0 hr ht
  go_wp2
  refine bodyPost_ret (v := .bool t) ?_ rfl (by first | exact ⟨_, rfl, E.below, rfl⟩ | exact ⟨_, rfl, E.below⟩ | exact ⟨rfl, E.below⟩)
  simp [results, Tryz.results19, go_sem]

end Go.Proofs.YtieobgadihcgeaaGreatDoor

namespace Go.Proofs.YtieobgadihcgeaaGreatDoor
open Go Go.RowKit

section
variable {os : List Oper} {Q : Exit → Act → World → Prop} {a : Act} {p : Pq} {B B0 : Nat} {w0 : World}
variable {i s : Nat} {d : Option Tmp} {ty : TypeId} {ps : String} {af : Array Edge} {gd : Option (Nat × Bool)}
end
theorem powM_ab {a n m : Int} {k : Nat} (hm : 0 < m) (h : ab m < pw k) : ab (powM a n m) < pw k := ab_modB (by omega) h
theorem exPowPQ {w : World} {v v' u : Value} {a n m : Int} (h : Num w v a) (h' : Num w v' n) (g : Num w u m) (ha : ab a < pw 100) (hn : ab n < pw 100) (hm : ab m < pw 100) (h0 : 0 < m) (h1 : 0 ≤ n) :
    Calls Tryz.prog 33 #[v, v', u] w fun e w' => ∃ v', e = .returned v' ∧ Below w.heap.size w w' ∧ (Fq.tup2 (Fq.num (powM a n m)) (Fq.is (.int .i64 0))).P v' w' := exPowP h h' g ha hn hm h0 h1
set_option maxRecDepth 100000 in
set_option maxHeartbeats 4000000 in
theorem exSomeRoot3 {w : World} {v v' : Value} {r p : Int} (h : Num w v r) (h' : Num w v' p) (hr : ab r < pw 90) (hm : ab p < pw 90) (h0 : 2 ≤ p) (h1 : decide (p % (4) = 1) = false) :
    Calls Tryz.prog 79 #[v, v'] w fun e w' => ∃ v', e = .returned v' ∧ Below w.heap.size w w' ∧ Num w' v' (powM r ((p / (4)) + (1)) p) := by
  replace hr := hidd hr
  replace hm := hidd hm
  replace h0 := hidd h0
  replace h1 := hidd h1
  obtain ⟨n0, ao0, k0, c0, rfl⟩ := h.parts
  obtain ⟨n1, ao1, k1, c1, rfl⟩ := h'.parts
  obtain ⟨w1, b1, hw1, hb1, hs1, E⟩ := fr_start w (F := Fq.num r) (us := [.bool n0, .slice ao0 k0 c0]) 29 rfl (by simp) (tame_int _ _ _ _) h
  obtain ⟨w2, b2, hw2, hb2, hs2, E⟩ := fr_more E hs1 (F := Fq.num p) (us := [.bool n1, .slice ao1 k1 c1]) 29 rfl (by simp) (tame_int _ _ _ _) (h'.mono E.below)
  obtain ⟨w3, b3, hw3, hb3, hs3, E⟩ := fr_more E hs2 (F := Fq.num 0) (us := [.bool false, .slice none 0 0]) 29 rfl (by simp) (tame_int _ _ _ _) (Num.zero _)
  go_enter Tryz.func79, Tryz.ntmps79
  go_upto_region 1 with (fail)
  rw [← hw1]
  rw [← hw2]
  rw [← hw3]
  rw [← hb3]
  rw [← hb2]
  rw [← hb1]
  clear hw1 hw2 hw3 hb1 hb2 hb3 hs3 hs1 hs2
  have N4 : Hid ((4 : Int) ≠ 0) := by show _ ≠ _; omega
  have B4 : Hid (ab ((4)) < pw 3) := ab_lit (by decide)
  have B5 : Hid (ab ((p / (4))) < pw 91) := ab_divB hm.out (by omega)
  have B6 : Hid (ab ((p % (4))) < pw 3) := ab_modB N4.out B4.out
  refine region_fr (C := [Fq.num p, Fq.num (4), Fq.tup3 (Fq.num (p / (4))) (Fq.num (p % (4))) (Fq.is (.int .i64 0)), Fq.tup3 (Fq.num (p / (4))) (Fq.num (p % (4))) (Fq.is (.int .i64 0)), Fq.num (p / (4)), Fq.num (p % (4)), Fq.is (.int .i64 0), Fq.any, Fq.any, Fq.any, Fq.any, Fq.is (.int .i64 0)]) (ks := [none, none, none]) (new := [⟨7, 9, 2, Fq.num 0, Fq.num (p / (4)), none⟩, ⟨8, 10, 2, Fq.num 0, Fq.num (p % (4)), none⟩]) E rfl (by kernel_rfl) rfl rfl (fun hp => ⟨?_, ?_, ?_, ?_, ?_, ?_, ?_, ?_, ?_, ?_, ?_, ?_, trivial⟩) ?_
  · exact q_loadInt (off := 0) hp (free_of rfl) trivial (List.mem_iff_getElem?.2 ⟨1, rfl⟩) (.inl rfl) (Nat.le_of_ble_eq_true rfl) (sq_out rfl rfl (fun _ _ => rfl)) (fun us w hl h => ld_num hl h)
  · exact q_call1 (F := (Fq.is (.int .i64 4)).P) hp (free_of rfl) trivial (enq_Of) (sq_const (fun _ => rfl)) (fun v w h => (by subst h; exact OfK w (4) (by omega) (by omega)))
  · exact q_call2 (F := (Fq.num p).P) (G := (Fq.num (4)).P) hp (free_of rfl) trivial (enq_DivMod) (sqi 0) (sqi 1) (fun v v' w h h' => exDMq h h' N4.out B5.out B6.out (by omega) (by omega))
  · exact q_move hp (free_of rfl) trivial (sqi 2)
  · exact q_extract3 hp (free_of rfl) trivial (sqi 3) (fun v1 v2 v3 w h1 h2 h3 => ⟨_, rfl, h1⟩)
  · exact q_extract3 hp (free_of rfl) trivial (sqi 3) (fun v1 v2 v3 w h1 h2 h3 => ⟨_, rfl, h2⟩)
  · exact q_extract3 hp (free_of rfl) trivial (sqi 3) (fun v1 v2 v3 w h1 h2 h3 => ⟨_, rfl, h3⟩)
  · exact q_allocInt hp (List.mem_iff_getElem?.2 ⟨0, rfl⟩) rfl rfl rfl rfl (Nat.ne_of_beq_eq_false rfl) (fun _ _ => trivial) (old_ne rfl) (newk_ne rfl) (fun w => Num.zero w)
  · exact q_allocInt hp (List.mem_iff_getElem?.2 ⟨1, rfl⟩) rfl rfl rfl rfl (Nat.ne_of_beq_eq_false rfl) (fun _ _ => trivial) (old_ne rfl) (newk_ne rfl) (fun w => Num.zero w)
  · exact q_storeNewInt hp (List.mem_iff_getElem?.2 ⟨0, rfl⟩) rfl rfl rfl (own_ptr rfl rfl (by simp) rfl) (sq_in 4 rfl rfl (by simp) rfl (fun v w h => intV_num h)) (fun _ _ => trivial) (old_ne rfl) (newi_ne rfl)
  · exact q_storeNewInt hp (List.mem_iff_getElem?.2 ⟨1, rfl⟩) rfl rfl rfl (own_ptr rfl rfl (by simp) rfl) (sq_in 5 rfl rfl (by simp) rfl (fun v w h => intV_num h)) (fun _ _ => trivial) (old_ne rfl) (newi_ne rfl)
  · exact q_assign hp (free_of rfl) trivial (sqi 6)
  intro L vs w7 nb hL hC hn E7
  have e6 : vs 6 = .int .i64 0 := hC 6 (by simp)
  have e11 : vs 11 = .int .i64 0 := hC 11 (by simp)
  have e7 : vs 7 = .pointer (some ⟨nb 7, 0, none⟩) := hn _ (List.mem_iff_getElem?.2 ⟨0, rfl⟩)
  have e8 : vs 8 = .pointer (some ⟨nb 8, 0, none⟩) := hn _ (List.mem_iff_getElem?.2 ⟨1, rfl⟩)
  have E : Fr w [(nb 7, 2, Fq.num (p / (4))), (nb 8, 2, Fq.num (p % (4))), (b3, 2, Fq.num 0), (b2, 2, Fq.num p), (b1, 2, Fq.num r)] w7 := E7
  rw [lay_all hL]
  simp only [putAll, dstOf, List.length_cons, List.length_nil, Nat.zero_add, Nat.reduceAdd, List.getElem?_toArray, List.getElem?_cons_zero, List.getElem?_cons_succ, Option.bind_some, Act.put, List.setIfInBounds_toArray, List.set_cons_succ, List.set_cons_zero]
  rw [e6, e11, e7, e8]
  generalize nb 7 = b7_7 at E ⊢
  generalize nb 8 = b7_8 at E ⊢
  generalize vs 0 = u7_0
  generalize vs 1 = u7_1
  generalize vs 2 = u7_2
  generalize vs 3 = u7_3
  generalize vs 4 = u7_4
  generalize vs 5 = u7_5
  clear e6 e11 e7 e8 hC hn E7 hL vs L nb
  go_upto_region 2 with (fail)
  refine region_fr (C := [Fq.num (p % (4)), Fq.is (.bool false)]) (ks := [none, none, none, none, none]) (new := []) E rfl (by kernel_rfl) rfl rfl (fun hp => ⟨?_, ?_, trivial⟩) ?_
  · exact q_loadInt (off := 0) hp (free_of rfl) trivial (List.mem_iff_getElem?.2 ⟨1, rfl⟩) (.inl rfl) (Nat.le_of_ble_eq_true rfl) (sq_out rfl rfl (fun _ _ => rfl)) (fun us w hl h => ld_num hl h)
  · exact q_call1 (F := (Fq.num (p % (4))).P) hp (free_of rfl) trivial (enq_M_isOne) (sqi 0) (fun v w h => exIsOneMB h h1.out)
  intro L vs w8 nb hL hC hn E8
  have e1 : vs 1 = .bool false := hC 1 (by simp)
  have E : Fr w [(b7_7, 2, Fq.num (p / (4))), (b7_8, 2, Fq.num (p % (4))), (b3, 2, Fq.num 0), (b2, 2, Fq.num p), (b1, 2, Fq.num r)] w8 := E8
  rw [lay_all hL]
  simp only [putAll, dstOf, List.length_cons, List.length_nil, Nat.zero_add, Nat.reduceAdd, List.getElem?_toArray, List.getElem?_cons_zero, List.getElem?_cons_succ, Option.bind_some, Act.put, List.setIfInBounds_toArray, List.set_cons_succ, List.set_cons_zero]
  rw [e1]
  generalize vs 0 = u8_0
  clear e1 hC hn E8 hL vs L nb
  have H1 : Hid (0 ≤ (p / (4)) + (1)) := by have := h0.out; show _ ≤ _; omega
  have HP : Hid (0 < p) := by have := h0.out; show _ < _; omega
  go_upto_region 4 with (fail)
  have B9 : Hid (ab ((1)) < pw 3) := ab_lit (by decide)
  have B10 : Hid (ab (((p / (4)) + (1))) < pw 92) := ab_addB B5.out B9.out (by omega) (by omega)
  have B11 : Hid (ab (powM r ((p / (4)) + (1)) p) < pw 90) := powM_ab HP.out hm.out
  refine region_fr (C := [Fq.num r, Fq.num (p / (4)), Fq.num (1), Fq.num ((p / (4)) + (1)), Fq.num p, Fq.tup2 (Fq.num (powM r ((p / (4)) + (1)) p)) (Fq.is (.int .i64 0)), Fq.tup2 (Fq.num (powM r ((p / (4)) + (1)) p)) (Fq.is (.int .i64 0)), Fq.num (powM r ((p / (4)) + (1)) p), Fq.is (.int .i64 0), Fq.any, Fq.any, Fq.is (.int .i64 0)]) (ks := [none, none, none, none, none]) (new := [⟨9, 10, 2, Fq.num 0, Fq.num (powM r ((p / (4)) + (1)) p), none⟩]) E rfl (by kernel_rfl) rfl rfl (fun hp => ⟨?_, ?_, ?_, ?_, ?_, ?_, ?_, ?_, ?_, ?_, ?_, ?_, trivial⟩) ?_
  · exact q_loadInt (off := 0) hp (free_of rfl) trivial (List.mem_iff_getElem?.2 ⟨4, rfl⟩) (.inl rfl) (Nat.le_of_ble_eq_true rfl) (sq_out rfl rfl (fun _ _ => rfl)) (fun us w hl h => ld_num hl h)
  · exact q_loadInt (off := 0) hp (free_of rfl) trivial (List.mem_iff_getElem?.2 ⟨0, rfl⟩) (.inl rfl) (Nat.le_of_ble_eq_true rfl) (sq_out rfl rfl (fun _ _ => rfl)) (fun us w hl h => ld_num hl h)
  · exact q_call1 (F := (Fq.is (.int .i64 1)).P) hp (free_of rfl) trivial (enq_Of) (sq_const (fun _ => rfl)) (fun v w h => (by subst h; exact OfK w (1) (by omega) (by omega)))
  · exact q_call2 (F := (Fq.num (p / (4))).P) (G := (Fq.num (1)).P) hp (free_of rfl) trivial (enq_Add) (sqi 1) (sqi 2) (fun v v' w h h' => exK (AddV h h') B10.out (by omega))
  · exact q_loadInt (off := 0) hp (free_of rfl) trivial (List.mem_iff_getElem?.2 ⟨3, rfl⟩) (.inl rfl) (Nat.le_of_ble_eq_true rfl) (sq_out rfl rfl (fun _ _ => rfl)) (fun us w hl h => ld_num hl h)
  · exact q_call3 (F := (Fq.num r).P) (G := (Fq.num ((p / (4)) + (1))).P) (F3 := (Fq.num p).P) hp (free_of rfl) trivial (enq_M_Pow) (sqi 0) (sqi 3) (sqi 4) (fun v v' u w h h' g => exPowPQ h h' g (Int.lt_of_lt_of_le hr.out (pw_le (by omega))) (Int.lt_of_lt_of_le B10.out (pw_le (by omega))) (Int.lt_of_lt_of_le hm.out (pw_le (by omega))) HP.out H1.out)
  · exact q_move hp (free_of rfl) trivial (sqi 5)
  · exact q_extract2 hp (free_of rfl) trivial (sqi 6) (fun v1 v2 w h1 h2 => ⟨_, rfl, h1⟩)
  · exact q_extract2 hp (free_of rfl) trivial (sqi 6) (fun v1 v2 w h1 h2 => ⟨_, rfl, h2⟩)
  · exact q_allocInt hp (List.mem_iff_getElem?.2 ⟨0, rfl⟩) rfl rfl rfl rfl (Nat.ne_of_beq_eq_false rfl) (fun _ _ => trivial) (old_ne rfl) (newk_ne rfl) (fun w => Num.zero w)
  · exact q_storeNewInt hp (List.mem_iff_getElem?.2 ⟨0, rfl⟩) rfl rfl rfl (own_ptr rfl rfl (by simp) rfl) (sq_in 7 rfl rfl (by simp) rfl (fun v w h => intV_num h)) (fun _ _ => trivial) (old_ne rfl) (newi_ne rfl)
  · exact q_assign hp (free_of rfl) trivial (sqi 8)
  intro L vs w12 nb hL hC hn E12
  have e8 : vs 8 = .int .i64 0 := hC 8 (by simp)
  have e11 : vs 11 = .int .i64 0 := hC 11 (by simp)
  have e9 : vs 9 = .pointer (some ⟨nb 9, 0, none⟩) := hn _ (List.mem_iff_getElem?.2 ⟨0, rfl⟩)
  have E : Fr w [(nb 9, 2, Fq.num (powM r ((p / (4)) + (1)) p)), (b7_7, 2, Fq.num (p / (4))), (b7_8, 2, Fq.num (p % (4))), (b3, 2, Fq.num 0), (b2, 2, Fq.num p), (b1, 2, Fq.num r)] w12 := E12
  rw [lay_all hL]
  simp only [putAll, dstOf, List.length_cons, List.length_nil, Nat.zero_add, Nat.reduceAdd, List.getElem?_toArray, List.getElem?_cons_zero, List.getElem?_cons_succ, Option.bind_some, Act.put, List.setIfInBounds_toArray, List.set_cons_succ, List.set_cons_zero]
  rw [e8, e11, e9]
  generalize nb 9 = b12_9 at E ⊢
  generalize vs 0 = u12_0
  generalize vs 1 = u12_1
  generalize vs 2 = u12_2
  generalize vs 3 = u12_3
  generalize vs 4 = u12_4
  generalize vs 5 = u12_5
  generalize vs 6 = u12_6
  generalize vs 7 = u12_7
  clear e8 e11 e9 hC hn E12 hL vs L nb
  go_upto_region 5 with (fail)
  refine region_fr (C := [Fq.num (powM r ((p / (4)) + (1)) p), Fq.any]) (ks := [none, none, none, some (1, Fq.num (powM r ((p / (4)) + (1)) p)), none, none]) (new := []) E rfl (by kernel_rfl) rfl rfl (fun hp => ⟨?_, ?_, trivial⟩) ?_
  · exact q_loadInt (off := 0) hp (free_of rfl) trivial (List.mem_iff_getElem?.2 ⟨0, rfl⟩) (.inl rfl) (Nat.le_of_ble_eq_true rfl) (sq_out rfl rfl (fun _ _ => rfl)) (fun us w hl h => ld_num hl h)
  · exact q_storeOldInt hp (List.mem_iff_getElem?.2 ⟨3, rfl⟩) rfl rfl (sq_out rfl rfl (fun _ _ => rfl)) (sq_in 0 rfl rfl (by simp) rfl (fun v w h => intV_num h)) (fun _ _ => trivial) (newik_ne rfl)
  intro L vs w13 nb hL hC hn E13
  have E : Fr w [(b12_9, 2, Fq.num (powM r ((p / (4)) + (1)) p)), (b7_7, 2, Fq.num (p / (4))), (b7_8, 2, Fq.num (p % (4))), (b3, 2, Fq.num (powM r ((p / (4)) + (1)) p)), (b2, 2, Fq.num p), (b1, 2, Fq.num r)] w13 := E13
  rw [lay_all hL]
  simp only [putAll, dstOf, List.length_cons, List.length_nil, Nat.zero_add, Nat.reduceAdd, List.getElem?_toArray, List.getElem?_cons_zero, List.getElem?_cons_succ, Option.bind_some, Act.put, List.setIfInBounds_toArray, List.set_cons_succ, List.set_cons_zero]
  generalize vs 0 = u13_0
  clear  hC hn E13 hL vs L nb
  clear N4 h0 h1 H1 HP
  obtain ⟨p0, p1, c0, c1, hP⟩ := box_num (E.box 3 rfl)
  clear B4 B5 B6 B9 B10 B11 hr hm
  go_wp2
  refine bodyPost_ret (v := .agg #[p0, p1]) ?_ rfl ⟨_, rfl, E.below, hP⟩
  simp [results, Tryz.results79, go_sem, c0, c1]

set_option maxRecDepth 100000 in
set_option maxHeartbeats 4000000 in
theorem exMSqrtXL {w : World} {v v' : Value} {a p x : Int} (h : Num w v a) (h' : Num w v' p) (ha : ab a < pw 90) (hm : ab p < pw 90) (hT : Tabs w) (h0 : 2 ≤ p) (hb : 1 < nbits (a % p)) (hk : kron (a % p) p = 1) (hx : ab x < pw 90) (hC : ∀ (y y' : Value) (w1 : World), Below w.heap.size w w1 → Num w1 y (a % p) → Num w1 y' p → Calls Tryz.prog 79 #[y, y'] w1 fun e w' => ∃ v', e = .returned v' ∧ Below w1.heap.size w1 w' ∧ Num w' v' x) (hq : (x * x) % p = a % p) (hl : p - x < x) :
    Calls Tryz.prog 54 #[v, v'] w fun e w' => ∃ v', e = .returned v' ∧ Below w.heap.size w w' ∧ (Fq.tup2 (Fq.num (p - x)) (Fq.is (.int .i64 0))).P v' w' := by
  replace ha := hidd ha
  replace hm := hidd hm
  replace hl := hidd hl
  replace hC := hidd hC
  replace hx := hidd hx
  replace hq := hidd hq
  replace hT := hidd hT
  replace hk := hidd hk
  obtain ⟨n0, ao0, k0, c0, rfl⟩ := h.parts
  obtain ⟨n1, ao1, k1, c1, rfl⟩ := h'.parts
  obtain ⟨w1, b1, hw1, hb1, hs1, E⟩ := fr_start w (F := Fq.num a) (us := [.bool n0, .slice ao0 k0 c0]) 29 rfl (by simp) (tame_int _ _ _ _) h
  obtain ⟨w2, b2, hw2, hb2, hs2, E⟩ := fr_more E hs1 (F := Fq.num p) (us := [.bool n1, .slice ao1 k1 c1]) 29 rfl (by simp) (tame_int _ _ _ _) (h'.mono E.below)
  obtain ⟨w3, b3, hw3, hb3, hs3, E⟩ := fr_more E hs2 (F := Fq.num 0) (us := [.bool false, .slice none 0 0]) 29 rfl (by simp) (tame_int _ _ _ _) (Num.zero _)
  go_enter Tryz.func54, Tryz.ntmps54
  go_upto_region 1 with (fail)
  rw [← hw1]
  rw [← hw2]
  rw [← hw3]
  rw [← hb3]
  rw [← hb2]
  rw [← hb1]
  clear hw1 hw2 hw3 hb1 hb2 hb3 hs3 hs1 hs2
  have T1 : Hid (¬ cmpI p (2) < 0) := fun e => by have := cmpIqlt.1 e; omega
  have HN : Hid (p ≠ 0) := by show _ ≠ _; omega
  clear h0
  have B4 : Hid (ab ((2)) < pw 3) := ab_lit (by decide)
  refine region_fr (C := [Fq.num p, Fq.num (2), Fq.is (.int .i64 (cmpI p (2))), Fq.is (.bool false)]) (ks := [none, none, none]) (new := []) E rfl (by kernel_rfl) rfl rfl (fun hp => ⟨?_, ?_, ?_, ?_, trivial⟩) ?_
  · exact q_loadInt (off := 0) hp (free_of rfl) trivial (List.mem_iff_getElem?.2 ⟨1, rfl⟩) (.inl rfl) (Nat.le_of_ble_eq_true rfl) (sq_out rfl rfl (fun _ _ => rfl)) (fun us w hl h => ld_num hl h)
  · exact q_call1 (F := (Fq.is (.int .i64 2)).P) hp (free_of rfl) trivial (enq_Of) (sq_const (fun _ => rfl)) (fun v w h => (by subst h; exact OfK w (2) (by omega) (by omega)))
  · exact q_call2 (F := (Fq.num p).P) (G := (Fq.num (2)).P) hp (free_of rfl) trivial (enq_Cmp) (sqi 0) (sqi 1) (fun v v' w h h' => exCmp h h')
  · exact q_one (F := fun v _ => v = .int .i64 (cmpI p (2))) hp (free_of rfl) trivial (sqi 2) (fun ρ w hc h => ⟨.bool false, by simp [execOp, go_sem, h, hc, T1.out], rfl⟩)
  intro L vs w5 nb hL hC hn E5
  have e2 : vs 2 = .int .i64 (cmpI p (2)) := hC 2 (by simp)
  have e3 : vs 3 = .bool false := hC 3 (by simp)
  have E : Fr w [(b3, 2, Fq.num 0), (b2, 2, Fq.num p), (b1, 2, Fq.num a)] w5 := E5
  rw [lay_all hL]
  simp only [putAll, dstOf, List.length_cons, List.length_nil, Nat.zero_add, Nat.reduceAdd, List.getElem?_toArray, List.getElem?_cons_zero, List.getElem?_cons_succ, Option.bind_some, Act.put, List.setIfInBounds_toArray, List.set_cons_succ, List.set_cons_zero]
  rw [e2, e3]
  generalize vs 0 = u5_0
  generalize vs 1 = u5_1
  clear e2 e3 hC hn E5 hL vs L nb
  clear T1
  go_upto_region 3 with (fail)
  refine region_frS (same := [(2, 1)]) (C := [Fq.num p, Fq.any, Fq.any]) (ks := [none, none, none]) (new := [⟨1, 1, 2, Fq.num p, Fq.num p, (some (.clo 57))⟩]) E rfl (by kernel_rfl) rfl rfl (fun hp => ⟨?_, ?_, ?_, trivial⟩) ?_
  · exact stepS_of (q_loadInt (off := 0) hp (free_of rfl) trivial (List.mem_iff_getElem?.2 ⟨1, rfl⟩) (.inl rfl) (Nat.le_of_ble_eq_true rfl) (sq_out rfl rfl (fun _ _ => rfl)) (fun us w hl h => ld_num hl h)) rfl
  · exact stepS_of (q_callMake (F := (Fq.num p).P) hp enq_M_within (List.mem_iff_getElem?.2 ⟨0, rfl⟩) rfl rfl rfl (sqi 0) (fun v w h => exWithin h) (fun _ _ => trivial) (old_ne rfl) (newks_ne rfl)) rfl
  · exact stepS_assign hp (free_of rfl) rfl (j := 1) rfl (by simp) rfl (fun _ _ => trivial) rfl (Nat.ne_of_beq_eq_false rfl)
  intro L vs w6 nb hsm hL hC hn E6
  have e1 : vs 1 = cloV 57 (nb 1) := hn _ (List.mem_iff_getElem?.2 ⟨0, rfl⟩)
  have e2 : vs 2 = cloV 57 (nb 1) := (hsm (2, 1) (by simp) (Nat.lt_of_sub_eq_succ rfl)).trans e1
  have E : Fr w [(nb 1, 2, Fq.num p), (b3, 2, Fq.num 0), (b2, 2, Fq.num p), (b1, 2, Fq.num a)] w6 := E6
  rw [lay_all hL]
  simp only [putAll, dstOf, List.length_cons, List.length_nil, Nat.zero_add, Nat.reduceAdd, List.getElem?_toArray, List.getElem?_cons_zero, List.getElem?_cons_succ, Option.bind_some, Act.put, List.setIfInBounds_toArray, List.set_cons_succ, List.set_cons_zero]
  rw [e1, e2]
  generalize nb 1 = b6_1 at E ⊢
  generalize vs 0 = u6_0
  clear e1 e2 hsm hC hn E6 hL vs L nb
  go_upto_region 4 with (fail)
  have B7 : Hid (ab ((a % p)) < pw 90) := ab_modB HN.out hm.out
  refine region_fr (C := [Fq.is (cloV 57 b6_1), Fq.num a, Fq.num (a % p), Fq.any, Fq.any]) (ks := [none, none, none, none]) (new := [⟨3, 4, 2, Fq.num 0, Fq.num (a % p), none⟩]) E rfl (by kernel_rfl) rfl rfl (fun hp => ⟨?_, ?_, ?_, ?_, ?_, trivial⟩) ?_
  · exact q_move hp (free_of rfl) trivial (sq_out rfl rfl (fun _ _ => rfl))
  · exact q_loadInt (off := 0) hp (free_of rfl) trivial (List.mem_iff_getElem?.2 ⟨3, rfl⟩) (.inl rfl) (Nat.le_of_ble_eq_true rfl) (sq_out rfl rfl (fun _ _ => rfl)) (fun us w hl h => ld_num hl h)
  · exact q_callCloOut (F := (Fq.num a).P) hp (free_of rfl) trivial enq_M_within1 (List.mem_iff_getElem?.2 ⟨0, rfl⟩) rfl (sqi 0) (sqi 1) (fun v w h hb => exResidue h hb HN.out (Int.lt_of_lt_of_le ha.out (pw_le (by omega))) (Int.lt_of_lt_of_le hm.out (pw_le (by omega))))
  · exact q_allocInt hp (List.mem_iff_getElem?.2 ⟨0, rfl⟩) rfl rfl rfl rfl (Nat.ne_of_beq_eq_false rfl) (fun _ _ => trivial) (old_ne rfl) (newk_ne rfl) (fun w => Num.zero w)
  · exact q_storeNewInt hp (List.mem_iff_getElem?.2 ⟨0, rfl⟩) rfl rfl rfl (own_ptr rfl rfl (by simp) rfl) (sq_in 2 rfl rfl (by simp) rfl (fun v w h => intV_num h)) (fun _ _ => trivial) (old_ne rfl) (newi_ne rfl)
  intro L vs w8 nb hL hC hn E8
  have e0 : vs 0 = cloV 57 b6_1 := hC 0 (by simp)
  have e3 : vs 3 = .pointer (some ⟨nb 3, 0, none⟩) := hn _ (List.mem_iff_getElem?.2 ⟨0, rfl⟩)
  have E : Fr w [(nb 3, 2, Fq.num (a % p)), (b6_1, 2, Fq.num p), (b3, 2, Fq.num 0), (b2, 2, Fq.num p), (b1, 2, Fq.num a)] w8 := E8
  rw [lay_all hL]
  simp only [putAll, dstOf, List.length_cons, List.length_nil, Nat.zero_add, Nat.reduceAdd, List.getElem?_toArray, List.getElem?_cons_zero, List.getElem?_cons_succ, Option.bind_some, Act.put, List.setIfInBounds_toArray, List.set_cons_succ, List.set_cons_zero]
  rw [e0, e3]
  generalize nb 3 = b8_3 at E ⊢
  generalize vs 1 = u8_1
  generalize vs 2 = u8_2
  clear e0 e3 hC hn E8 hL vs L nb
  replace hb := hidd hb
  have T2 : Hid (¬ ((nbits (a % p) : Nat) : Int) ≤ 1) := by have := hb.out; show ¬ _; omega
  go_upto_region 5 with (fail)
  refine region_fr (C := [Fq.num (a % p), Fq.is (.int .i64 ((nbits (a % p) : Nat) : Int)), Fq.is (.bool false)]) (ks := [none, none, none, none, none]) (new := []) E rfl (by kernel_rfl) rfl rfl (fun hp => ⟨?_, ?_, ?_, trivial⟩) ?_
  · exact q_loadInt (off := 0) hp (free_of rfl) trivial (List.mem_iff_getElem?.2 ⟨0, rfl⟩) (.inl rfl) (Nat.le_of_ble_eq_true rfl) (sq_out rfl rfl (fun _ _ => rfl)) (fun us w hl h => ld_num hl h)
  · exact q_call1 (F := (Fq.num (a % p)).P) hp (free_of rfl) trivial (enq_Bits) (sqi 0) (fun v w h => exBits h)
  · exact q_one (F := fun v _ => v = .int .i64 ((nbits (a % p) : Nat) : Int)) hp (free_of rfl) trivial (sqi 1) (fun ρ w hc h => ⟨.bool false, by simp [execOp, go_sem, h, hc, T2.out], rfl⟩)
  intro L vs w9 nb hL hC hn E9
  have e1 : vs 1 = .int .i64 ((nbits (a % p) : Nat) : Int) := hC 1 (by simp)
  have e2 : vs 2 = .bool false := hC 2 (by simp)
  have E : Fr w [(b8_3, 2, Fq.num (a % p)), (b6_1, 2, Fq.num p), (b3, 2, Fq.num 0), (b2, 2, Fq.num p), (b1, 2, Fq.num a)] w9 := E9
  rw [lay_all hL]
  simp only [putAll, dstOf, List.length_cons, List.length_nil, Nat.zero_add, Nat.reduceAdd, List.getElem?_toArray, List.getElem?_cons_zero, List.getElem?_cons_succ, Option.bind_some, Act.put, List.setIfInBounds_toArray, List.set_cons_succ, List.set_cons_zero]
  rw [e1, e2]
  generalize vs 0 = u9_0
  clear e1 e2 hC hn E9 hL vs L nb
  clear T2 hb
  go_upto_region 7 with (fail)
  refine region_fr (C := [Fq.num (a % p), Fq.num p, Fq.is (.int .i64 (kron (a % p) p)), Fq.is (.bool false)]) (ks := [none, none, none, none, none]) (new := []) E rfl (by kernel_rfl) rfl rfl (fun hp => ⟨?_, ?_, ?_, ?_, trivial⟩) ?_
  · exact q_loadInt (off := 0) hp (free_of rfl) trivial (List.mem_iff_getElem?.2 ⟨0, rfl⟩) (.inl rfl) (Nat.le_of_ble_eq_true rfl) (sq_out rfl rfl (fun _ _ => rfl)) (fun us w hl h => ld_num hl h)
  · exact q_loadInt (off := 0) hp (free_of rfl) trivial (List.mem_iff_getElem?.2 ⟨3, rfl⟩) (.inl rfl) (Nat.le_of_ble_eq_true rfl) (sq_out rfl rfl (fun _ _ => rfl)) (fun us w hl h => ld_num hl h)
  · exact q_call2W (F := (Fq.num (a % p)).P) (G := (Fq.num p).P) hp (free_of rfl) trivial (enq_M_Kronecker) rfl (sqi 0) (sqi 1) (fun v v' w hbw h h' => exKronecker h h' (hT.out.mono hbw) (Int.lt_of_lt_of_le B7.out (pw_le (by omega))) (Int.lt_of_lt_of_le hm.out (pw_le (by omega))))
  · exact q_one (F := fun v _ => v = .int .i64 (kron (a % p) p)) hp (free_of rfl) trivial (sqi 2) (fun ρ w hc h => ⟨.bool false, by simp [execOp, go_sem, h, hc, hk.out], rfl⟩)
  intro L vs w10 nb hL hC hn E10
  have e2 : vs 2 = .int .i64 (kron (a % p) p) := hC 2 (by simp)
  have e3 : vs 3 = .bool false := hC 3 (by simp)
  have E : Fr w [(b8_3, 2, Fq.num (a % p)), (b6_1, 2, Fq.num p), (b3, 2, Fq.num 0), (b2, 2, Fq.num p), (b1, 2, Fq.num a)] w10 := E10
  rw [lay_all hL]
  simp only [putAll, dstOf, List.length_cons, List.length_nil, Nat.zero_add, Nat.reduceAdd, List.getElem?_toArray, List.getElem?_cons_zero, List.getElem?_cons_succ, Option.bind_some, Act.put, List.setIfInBounds_toArray, List.set_cons_succ, List.set_cons_zero]
  rw [e2, e3]
  generalize vs 0 = u10_0
  generalize vs 1 = u10_1
  clear e2 e3 hC hn E10 hL vs L nb
  go_upto_region 9 with (fail)
  refine region_fr (C := [Fq.num (a % p), Fq.num p, Fq.num x, Fq.any, Fq.any]) (ks := [none, none, none, none, none]) (new := [⟨3, 4, 2, Fq.num 0, Fq.num x, none⟩]) E rfl (by kernel_rfl) rfl rfl (fun hp => ⟨?_, ?_, ?_, ?_, ?_, trivial⟩) ?_
  · exact q_loadInt (off := 0) hp (free_of rfl) trivial (List.mem_iff_getElem?.2 ⟨0, rfl⟩) (.inl rfl) (Nat.le_of_ble_eq_true rfl) (sq_out rfl rfl (fun _ _ => rfl)) (fun us w hl h => ld_num hl h)
  · exact q_loadInt (off := 0) hp (free_of rfl) trivial (List.mem_iff_getElem?.2 ⟨3, rfl⟩) (.inl rfl) (Nat.le_of_ble_eq_true rfl) (sq_out rfl rfl (fun _ _ => rfl)) (fun us w hl h => ld_num hl h)
  · exact q_call2W (F := (Fq.num (a % p)).P) (G := (Fq.num p).P) hp (free_of rfl) trivial (enq_M_someRoot) rfl (sqi 0) (sqi 1) (fun v v' w hbw h h' => hC.out _ _ _ hbw h h')
  · exact q_allocInt hp (List.mem_iff_getElem?.2 ⟨0, rfl⟩) rfl rfl rfl rfl (Nat.ne_of_beq_eq_false rfl) (fun _ _ => trivial) (old_ne rfl) (newk_ne rfl) (fun w => Num.zero w)
  · exact q_storeNewInt hp (List.mem_iff_getElem?.2 ⟨0, rfl⟩) rfl rfl rfl (own_ptr rfl rfl (by simp) rfl) (sq_in 2 rfl rfl (by simp) rfl (fun v w h => intV_num h)) (fun _ _ => trivial) (old_ne rfl) (newi_ne rfl)
  intro L vs w11 nb hL hC hn E11
  have e3 : vs 3 = .pointer (some ⟨nb 3, 0, none⟩) := hn _ (List.mem_iff_getElem?.2 ⟨0, rfl⟩)
  have E : Fr w [(nb 3, 2, Fq.num x), (b8_3, 2, Fq.num (a % p)), (b6_1, 2, Fq.num p), (b3, 2, Fq.num 0), (b2, 2, Fq.num p), (b1, 2, Fq.num a)] w11 := E11
  rw [lay_all hL]
  simp only [putAll, dstOf, List.length_cons, List.length_nil, Nat.zero_add, Nat.reduceAdd, List.getElem?_toArray, List.getElem?_cons_zero, List.getElem?_cons_succ, Option.bind_some, Act.put, List.setIfInBounds_toArray, List.set_cons_succ, List.set_cons_zero]
  rw [e3]
  generalize nb 3 = b11_3 at E ⊢
  generalize vs 0 = u11_0
  generalize vs 1 = u11_1
  generalize vs 2 = u11_2
  clear e3 hC hn E11 hL vs L nb
  clear hC hT hk
  have T3 : Hid (cmpI ((x * x) % p) (a % p) = 0) := cmpIq0.2 hq.out
  go_upto_region 10 with (fail)
  have B12 : Hid (ab ((x * x)) < pw 180) := ab_mulM hx.out hx.out (by omega)
  have B13 : Hid (ab (((x * x) % p)) < pw 90) := ab_modB HN.out hm.out
  refine region_fr (C := [Fq.is (cloV 57 b6_1), Fq.num x, Fq.num x, Fq.num (x * x), Fq.num ((x * x) % p), Fq.num (a % p), Fq.is (.int .i64 (cmpI ((x * x) % p) (a % p))), Fq.is (.bool false)]) (ks := [none, none, none, none, none, none]) (new := []) E rfl (by kernel_rfl) rfl rfl (fun hp => ⟨?_, ?_, ?_, ?_, ?_, ?_, ?_, ?_, trivial⟩) ?_
  · exact q_move hp (free_of rfl) trivial (sq_out rfl rfl (fun _ _ => rfl))
  · exact q_loadInt (off := 0) hp (free_of rfl) trivial (List.mem_iff_getElem?.2 ⟨0, rfl⟩) (.inl rfl) (Nat.le_of_ble_eq_true rfl) (sq_out rfl rfl (fun _ _ => rfl)) (fun us w hl h => ld_num hl h)
  · exact q_loadInt (off := 0) hp (free_of rfl) trivial (List.mem_iff_getElem?.2 ⟨0, rfl⟩) (.inl rfl) (Nat.le_of_ble_eq_true rfl) (sq_out rfl rfl (fun _ _ => rfl)) (fun us w hl h => ld_num hl h)
  · exact q_call2 (F := (Fq.num x).P) (G := (Fq.num x).P) hp (free_of rfl) trivial (enq_Mul) (sqi 1) (sqi 2) (fun v v' w h h' => exK (MulV h h') B12.out (by omega))
  · exact q_callCloOut (F := (Fq.num (x * x)).P) hp (free_of rfl) trivial enq_M_within1 (List.mem_iff_getElem?.2 ⟨2, rfl⟩) rfl (sqi 0) (sqi 3) (fun v w h hb => exResidue h hb HN.out (Int.lt_of_lt_of_le B12.out (pw_le (by omega))) (Int.lt_of_lt_of_le hm.out (pw_le (by omega))))
  · exact q_loadInt (off := 0) hp (free_of rfl) trivial (List.mem_iff_getElem?.2 ⟨1, rfl⟩) (.inl rfl) (Nat.le_of_ble_eq_true rfl) (sq_out rfl rfl (fun _ _ => rfl)) (fun us w hl h => ld_num hl h)
  · exact q_call2 (F := (Fq.num ((x * x) % p)).P) (G := (Fq.num (a % p)).P) hp (free_of rfl) trivial (enq_Cmp) (sqi 4) (sqi 5) (fun v v' w h h' => exCmp h h')
  · exact q_one (F := fun v _ => v = .int .i64 (cmpI ((x * x) % p) (a % p))) hp (free_of rfl) trivial (sqi 6) (fun ρ w hc h => ⟨.bool false, by simp [execOp, go_sem, h, hc, T3.out], rfl⟩)
  intro L vs w14 nb hL hC hn E14
  have e0 : vs 0 = cloV 57 b6_1 := hC 0 (by simp)
  have e6 : vs 6 = .int .i64 (cmpI ((x * x) % p) (a % p)) := hC 6 (by simp)
  have e7 : vs 7 = .bool false := hC 7 (by simp)
  have E : Fr w [(b11_3, 2, Fq.num x), (b8_3, 2, Fq.num (a % p)), (b6_1, 2, Fq.num p), (b3, 2, Fq.num 0), (b2, 2, Fq.num p), (b1, 2, Fq.num a)] w14 := E14
  rw [lay_all hL]
  simp only [putAll, dstOf, List.length_cons, List.length_nil, Nat.zero_add, Nat.reduceAdd, List.getElem?_toArray, List.getElem?_cons_zero, List.getElem?_cons_succ, Option.bind_some, Act.put, List.setIfInBounds_toArray, List.set_cons_succ, List.set_cons_zero]
  rw [e0, e6, e7]
  generalize vs 1 = u14_1
  generalize vs 2 = u14_2
  generalize vs 3 = u14_3
  generalize vs 4 = u14_4
  generalize vs 5 = u14_5
  clear e0 e6 e7 hC hn E14 hL vs L nb
  clear T3 hq
  go_upto_region 12 with (fail)
  have B15 : Hid (ab ((p - x)) < pw 91) := ab_subB hm.out hx.out (by omega) (by omega)
  refine region_fr (C := [Fq.num p, Fq.num x, Fq.num (p - x), Fq.any, Fq.any]) (ks := [none, none, none, none, none, none]) (new := [⟨3, 4, 2, Fq.num 0, Fq.num (p - x), none⟩]) E rfl (by kernel_rfl) rfl rfl (fun hp => ⟨?_, ?_, ?_, ?_, ?_, trivial⟩) ?_
  · exact q_loadInt (off := 0) hp (free_of rfl) trivial (List.mem_iff_getElem?.2 ⟨4, rfl⟩) (.inl rfl) (Nat.le_of_ble_eq_true rfl) (sq_out rfl rfl (fun _ _ => rfl)) (fun us w hl h => ld_num hl h)
  · exact q_loadInt (off := 0) hp (free_of rfl) trivial (List.mem_iff_getElem?.2 ⟨0, rfl⟩) (.inl rfl) (Nat.le_of_ble_eq_true rfl) (sq_out rfl rfl (fun _ _ => rfl)) (fun us w hl h => ld_num hl h)
  · exact q_call2 (F := (Fq.num p).P) (G := (Fq.num x).P) hp (free_of rfl) trivial (enq_Sub) (sqi 0) (sqi 1) (fun v v' w h h' => exK (SubV h h') B15.out (by omega))
  · exact q_allocInt hp (List.mem_iff_getElem?.2 ⟨0, rfl⟩) rfl rfl rfl rfl (Nat.ne_of_beq_eq_false rfl) (fun _ _ => trivial) (old_ne rfl) (newk_ne rfl) (fun w => Num.zero w)
  · exact q_storeNewInt hp (List.mem_iff_getElem?.2 ⟨0, rfl⟩) rfl rfl rfl (own_ptr rfl rfl (by simp) rfl) (sq_in 2 rfl rfl (by simp) rfl (fun v w h => intV_num h)) (fun _ _ => trivial) (old_ne rfl) (newi_ne rfl)
  intro L vs w16 nb hL hC hn E16
  have e3 : vs 3 = .pointer (some ⟨nb 3, 0, none⟩) := hn _ (List.mem_iff_getElem?.2 ⟨0, rfl⟩)
  have E : Fr w [(nb 3, 2, Fq.num (p - x)), (b11_3, 2, Fq.num x), (b8_3, 2, Fq.num (a % p)), (b6_1, 2, Fq.num p), (b3, 2, Fq.num 0), (b2, 2, Fq.num p), (b1, 2, Fq.num a)] w16 := E16
  rw [lay_all hL]
  simp only [putAll, dstOf, List.length_cons, List.length_nil, Nat.zero_add, Nat.reduceAdd, List.getElem?_toArray, List.getElem?_cons_zero, List.getElem?_cons_succ, Option.bind_some, Act.put, List.setIfInBounds_toArray, List.set_cons_succ, List.set_cons_zero]
  rw [e3]
  generalize nb 3 = b16_3 at E ⊢
  generalize vs 0 = u16_0
  generalize vs 1 = u16_1
  generalize vs 2 = u16_2
  clear e3 hC hn E16 hL vs L nb
  have T4 : Hid (cmpI (p - x) x < 0) := cmpIqlt.2 hl.out
  clear hl
  go_upto_region 13 with (fail)
  refine region_fr (C := [Fq.num (p - x), Fq.num x, Fq.is (.int .i64 (cmpI (p - x) x)), Fq.is (.bool true)]) (ks := [none, none, none, none, none, none, none]) (new := []) E rfl (by kernel_rfl) rfl rfl (fun hp => ⟨?_, ?_, ?_, ?_, trivial⟩) ?_
  · exact q_loadInt (off := 0) hp (free_of rfl) trivial (List.mem_iff_getElem?.2 ⟨0, rfl⟩) (.inl rfl) (Nat.le_of_ble_eq_true rfl) (sq_out rfl rfl (fun _ _ => rfl)) (fun us w hl h => ld_num hl h)
  · exact q_loadInt (off := 0) hp (free_of rfl) trivial (List.mem_iff_getElem?.2 ⟨1, rfl⟩) (.inl rfl) (Nat.le_of_ble_eq_true rfl) (sq_out rfl rfl (fun _ _ => rfl)) (fun us w hl h => ld_num hl h)
  · exact q_call2 (F := (Fq.num (p - x)).P) (G := (Fq.num x).P) hp (free_of rfl) trivial (enq_Cmp) (sqi 0) (sqi 1) (fun v v' w h h' => exCmp h h')
  · exact q_one (F := fun v _ => v = .int .i64 (cmpI (p - x) x)) hp (free_of rfl) trivial (sqi 2) (fun ρ w hc h => ⟨.bool true, by simp [execOp, go_sem, h, hc, T4.out], rfl⟩)
  intro L vs w17 nb hL hC hn E17
  have e2 : vs 2 = .int .i64 (cmpI (p - x) x) := hC 2 (by simp)
  have e3 : vs 3 = .bool true := hC 3 (by simp)
  have E : Fr w [(b16_3, 2, Fq.num (p - x)), (b11_3, 2, Fq.num x), (b8_3, 2, Fq.num (a % p)), (b6_1, 2, Fq.num p), (b3, 2, Fq.num 0), (b2, 2, Fq.num p), (b1, 2, Fq.num a)] w17 := E17
  rw [lay_all hL]
  simp only [putAll, dstOf, List.length_cons, List.length_nil, Nat.zero_add, Nat.reduceAdd, List.getElem?_toArray, List.getElem?_cons_zero, List.getElem?_cons_succ, Option.bind_some, Act.put, List.setIfInBounds_toArray, List.set_cons_succ, List.set_cons_zero]
  rw [e2, e3]
  generalize vs 0 = u17_0
  generalize vs 1 = u17_1
  clear e2 e3 hC hn E17 hL vs L nb
  clear T4
  go_upto_region 14 with (fail)
  refine region_fr (C := [Fq.num (p - x), Fq.any, Fq.is (.int .i64 0)]) (ks := [none, none, none, none, some (1, Fq.num (p - x)), none, none]) (new := []) E rfl (by kernel_rfl) rfl rfl (fun hp => ⟨?_, ?_, ?_, trivial⟩) ?_
  · exact q_loadInt (off := 0) hp (free_of rfl) trivial (List.mem_iff_getElem?.2 ⟨0, rfl⟩) (.inl rfl) (Nat.le_of_ble_eq_true rfl) (sq_out rfl rfl (fun _ _ => rfl)) (fun us w hl h => ld_num hl h)
  · exact q_storeOldInt hp (List.mem_iff_getElem?.2 ⟨4, rfl⟩) rfl rfl (sq_out rfl rfl (fun _ _ => rfl)) (sq_in 0 rfl rfl (by simp) rfl (fun v w h => intV_num h)) (fun _ _ => trivial) (newik_ne rfl)
  · exact q_assign hp (free_of rfl) trivial (sq_const (fun _ => rfl))
  intro L vs w18 nb hL hC hn E18
  have e2 : vs 2 = .int .i64 0 := hC 2 (by simp)
  have E : Fr w [(b16_3, 2, Fq.num (p - x)), (b11_3, 2, Fq.num x), (b8_3, 2, Fq.num (a % p)), (b6_1, 2, Fq.num p), (b3, 2, Fq.num (p - x)), (b2, 2, Fq.num p), (b1, 2, Fq.num a)] w18 := E18
  rw [lay_all hL]
  simp only [putAll, dstOf, List.length_cons, List.length_nil, Nat.zero_add, Nat.reduceAdd, List.getElem?_toArray, List.getElem?_cons_zero, List.getElem?_cons_succ, Option.bind_some, Act.put, List.setIfInBounds_toArray, List.set_cons_succ, List.set_cons_zero]
  rw [e2]
  generalize vs 0 = u18_0
  clear e2 hC hn E18 hL vs L nb
  clear HN
  obtain ⟨p0, p1, c0, c1, hP⟩ := box_num (E.box 4 rfl)
  clear B4 B7 B12 B13 B15 ha hm
  go_wp2
  refine bodyPost_ret (v := .tuple #[.agg #[p0, p1], .int .i64 0]) ?_ rfl ⟨_, rfl, E.below, ⟨_, _, rfl, hP, rfl⟩⟩
  simp [results, Tryz.results54, go_sem, c0, c1]

end Go.Proofs.YtieobgadihcgeaaGreatDoor

namespace Go.Proofs.YtieobgadihcgeaaGreatDoor
open Go Go.RowKit

theorem pow_pos_two {p : Int} (hp : 2 ≤ p) (j : Nat) : 0 < p ^ j := Int.pow_pos (by omega)
theorem pow_mono_two {p : Int} (hp : 2 ≤ p) {i j : Nat} (h : i ≤ j) : p ^ i ≤ p ^ j := by
  obtain ⟨d, rfl⟩ : ∃ d, j = i + d := ⟨j - i, by omega⟩
  rw [Int.pow_add]
  have h1 := pow_pos_two hp i
  have h2 := pow_pos_two hp d
  have := Int.mul_le_mul_of_nonneg_left (show 1 ≤ p ^ d by omega) (show 0 ≤ p ^ i by omega)
  rw [Int.mul_one] at this
  exact this
theorem rest_range {p : Int} (hp : 2 ≤ p) (j : Nat) : 0 ≤ 1048576 / p ^ j ∧ 1048576 / p ^ j ≤ 1048576 := by
  have h := pow_pos_two hp j
  refine ⟨Int.ediv_nonneg (by omega) (by omega), ?_⟩
  exact Int.ediv_le_self _ (by omega)
theorem rest_step {p : Int} (hp : 2 ≤ p) (j : Nat) : 1048576 / p ^ j / p = 1048576 / p ^ (j + 1) := by
  rw [Int.pow_succ]
  exact Int.ediv_ediv_of_nonneg (Int.le_of_lt (pow_pos_two hp j))
theorem rest_pos {p : Int} (hp : 2 ≤ p) (j : Nat) : 0 < 1048576 / p ^ j ↔ p ^ j ≤ 1048576 := by
  have h := pow_pos_two hp j
  constructor
  · intro h1
    have := (Int.le_ediv_iff_mul_le h).1 (show 1 ≤ 1048576 / p ^ j by omega)
    omega
  · intro h1
    have := (Int.le_ediv_iff_mul_le (a := 1) (b := 1048576) h).2 (by omega)
    omega
set_option maxRecDepth 20000 in
theorem smallPower_any (w : World) {p k : Int} (hp0 : 2 ≤ p) (hp1 : p < 9223372036854775808) (hk0 : 1 ≤ k) (hk1 : k < 9223372036854775808) :
    Calls Tryz.prog 47 #[.int .i64 p, .int .i64 k] w fun e w' => e = .returned (.bool (decide (p ^ k.toNat ≤ 1048576))) ∧ w' = w := by
  have HP := hidd (show 2 ≤ p ∧ p < 9223372036854775808 from ⟨hp0, hp1⟩)
  have HK := hidd (show 1 ≤ k ∧ k < 9223372036854775808 from ⟨hk0, hk1⟩)
  clear hp0 hp1 hk0 hk1
  go_enter Tryz.func47, Tryz.ntmps47
  go_wp2
  go_loopw [1, 5] (fun vk vr wr => ∃ (j : Nat), vk = .int .i64 (k - j) ∧ vr = .int .i64 (1048576 / p ^ j) ∧ wr = w ∧ j ≤ k.toNat) (fun vk _ _ => (intOf vk).toNat)
  case atStart => exact ⟨0, by simp, by simp, rfl, Nat.zero_le _⟩
  case round =>
    obtain ⟨j, rfl, rfl, rfl, hj⟩ := hrel
    have hr := rest_range HP.out.1 j
    have hs := rest_step HP.out.1 j
    have hrp := rest_pos HP.out.1 j
    obtain ⟨r, er⟩ : ∃ r, r = 1048576 / p ^ j := ⟨_, rfl⟩
    rw [← er] at hr hs hrp ⊢
    have HE := hidd er
    have HS := hidd hs
    have HQ := hidd hrp
    clear er hs hrp
    have hk := HK.out
    by_cases h1 : 0 < k - (j : Int)
    · by_cases h2 : 0 < r
      · have f1 : (0 < k - (j : Int)) = True := eq_true h1
        have f2 : (0 < r) = True := eq_true h2
        have f3 : ¬ p = 0 := by have := HP.out; omega
        have f4 : (p == 0) = false := by simpa using f3
        have f5 : r.tdiv p = r / p := Int.tdiv_eq_ediv_of_nonneg (by omega)
        have f6 : IntKind.i64.wrap (r / p) = r / p := by
          have h3 := Int.ediv_nonneg (a := r) (b := p) (by omega) (by have := HP.out; omega)
          have h4 := Int.ediv_le_self (b := p) (a := r) (by omega)
          exact IntWalk.i64_in _ (by omega)
        have f7 : IntKind.i64.wrap (k - (j : Int) - 1) = k - (j : Int) - 1 := IntWalk.i64_in _ (by omega)
        have HJ : Hid (j + 1 ≤ k.toNat) := by show _ ≤ _; omega
        have HM : Hid ((k - (j : Int) - 1).toNat < (k - (j : Int)).toNat) := by show _ < _; omega
        go_wp2
        go_roundw
        case rel => exact ⟨j + 1, by congr 1; omega, by rw [← HS.out], by trivial, HJ.out⟩
        case measure => simp only [intOf]; exact HM.out
      · have f1 : (0 < k - (j : Int)) = True := eq_true h1
        have f2 : (0 < r) = False := eq_false h2
        have HD : Hid (decide (p ^ k.toNat ≤ 1048576) = false) := by
          refine decide_eq_false fun h => h2 ?_
          exact HQ.out.2 (Int.le_trans (pow_mono_two HP.out.1 hj) h)
        go_wp2
        go_ret
        exact ⟨by rw [HD.out]; rfl, rfl⟩
    · have hjk : j = k.toNat := by omega
      have f1 : (0 < k - (j : Int)) = False := eq_false h1
      have HD : Hid (decide (0 < r) = decide (p ^ k.toNat ≤ 1048576)) := by
        rw [← hjk]; exact decide_eq_decide.2 HQ.out
      by_cases h2 : 0 < r
      · have f2 : (0 < r) = True := eq_true h2
        have HD2 : Hid (decide (p ^ k.toNat ≤ 1048576) = true) := by rw [← HD.out]; exact decide_eq_true h2
        go_wp2
        go_ret
        exact ⟨by rw [HD2.out]; rfl, rfl⟩
      · have f2 : (0 < r) = False := eq_false h2
        have HD2 : Hid (decide (p ^ k.toNat ≤ 1048576) = false) := by rw [← HD.out]; exact decide_eq_false h2
        go_wp2
        go_ret
        exact ⟨by rw [HD2.out]; rfl, rfl⟩
end Go.Proofs.YtieobgadihcgeaaGreatDoor

namespace Go.Proofs.YtieobgadihcgeaaGreatDoor
open Go Go.RowKit

theorem info_i64 : (Tryz.prog.info? 2).map (fun i => (i.zero, i.size, i.bytes)) = some (some (.int .i64 0), 1, 8) := by kernel_rfl
def Li (W : World) (B : Nat) (v : Value) (xs : List Int) : Prop := W.ownsRow B 2 1 v xs.length (xs.map (Value.int .i64))
theorem Li.shape {W : World} {B : Nat} {v : Value} {xs : List Int} (h : Li W B v xs) : ∃ ao cap, v = .slice ao xs.length cap := by
  rcases h.2 with ⟨rfl, h0⟩ | ⟨g, cap, cur, rfl, _⟩
  · exact ⟨none, 0, by rw [h0]⟩
  · exact ⟨_, _, rfl⟩
theorem Li.nil (w : World) (B : Nat) : Li w B (.slice none 0 0) [] := World.ownsRow_nil w B _ _
theorem Li.one (w : World) {B : Nat} (hB : B ≤ w.heap.size) (x : Int) : Li (w.alloc (.cells #[.int .i64 x] 2)) B (.slice (some ⟨w.heap.size, 0, none⟩) 1 1) [x] :=
  ⟨rfl, .inr ⟨w.heap.size, 1, #[.int .i64 x], rfl, hB, heap_alloc_new _ _, Nat.le_refl _, by decide, rfl, rfl⟩⟩
theorem Li.low {W : World} {B B' : Nat} {v : Value} {xs : List Int} (h : Li W B v xs) (hb : B' ≤ B) : Li W B' v xs := by
  refine ⟨h.1, ?_⟩
  rcases h.2 with h2 | ⟨g, cap, cur, h1, h2, h3⟩
  · exact .inl h2
  · exact .inr ⟨g, cap, cur, h1, by omega, h3⟩
theorem Li.mono {w w' : World} {B : Nat} {v : Value} {xs : List Int} (h : Li w B v xs) (hb : Below w.heap.size w w') : Li w' B v xs := by
  refine ⟨h.1, ?_⟩
  rcases h.2 with h2 | ⟨g, cap, cur, h1, h2, h3, h4⟩
  · exact .inl h2
  · exact .inr ⟨g, cap, cur, h1, h2, by rw [hb.block g (Array.getElem?_eq_some_iff.1 h3).1]; exact h3, h4⟩
theorem Li.cell {w : World} {B : Nat} {ao : Option Addr} {n c : Nat} {xs : List Int} (h : Li w B (.slice ao n c) xs) {i : Nat} (hi : i < xs.length) : ∃ g, ao = some ⟨g, 0, none⟩ ∧ w.cell? ⟨g, i, none⟩ = some (.int .i64 (xs.getD i 0)) := by
  rcases h.2 with ⟨_, h0⟩ | ⟨g, cap, cur, e, _⟩
  · omega
  · injection e with e1 e2 e3
    subst e1
    have := World.ownsRow.cells h (g := g) rfl i (.int .i64 (xs.getD i 0)) (by simp [hi])
    rw [add_plain'] at this
    exact ⟨g, rfl, this⟩
theorem Li.step {B : Nat} {w wr w1 : World} {v v' : Value} {xs : List Int} {d : Int} {o : Obj} (h : Li wr B v xs) (hB : B ≤ wr.heap.size) (hnx : Below B w wr)
    (hown' : w1.ownsRow B 2 1 v' (xs.length + 1) (xs.map (Value.int .i64) ++ [.int .i64 d])) (hgrow : (wr.alloc o).grownBy w1 v.ownBlock) :
    Li w1 B v' (xs ++ [d]) ∧ Below B w w1 := by
  refine ⟨?_, ?_⟩
  · unfold Li; simpa using hown'
  · exact (hnx.alloc hB o).grown hgrow (by simp; omega) (fun j hj => (World.ownsRow.lt h j hj).1)

def keepR (r M x : Int) : Bool := decide (x * x % M = r)
def sweep (r M base : Int) (xs : List Int) : List Int := (xs.map fun x => base + x).filter (keepR r M)
def lift (r M m : Int) (xs : List Int) : Nat → List Int
  | 0 => []
  | t + 1 => lift r M m xs t ++ sweep r M (t * m) xs
def lifts (a p : Int) : Nat → List Int
  | 0 => [0]
  | k + 1 => lift (a % (p ^ k * p)) (p ^ k * p) (p ^ k) (lifts a p k) p.toNat
theorem sweep_succ {r M base : Int} {xs : List Int} {i : Nat} (hi : i < xs.length) : sweep r M base (xs.take (i + 1)) = sweep r M base (xs.take i) ++ (if keepR r M (base + xs.getD i 0) then [base + xs.getD i 0] else []) := by
  unfold sweep
  rw [List.take_succ_eq_append_getElem hi, List.map_append, List.filter_append]
  have e : xs.getD i 0 = xs[i] := by simp [hi]
  rw [e]
  simp [List.filter_cons]
theorem sweep_len (r M base : Int) (xs : List Int) : (sweep r M base xs).length ≤ xs.length := by
  unfold sweep
  refine Nat.le_trans (List.length_filter_le _ _) ?_
  simp
theorem lift_len (r M m : Int) (xs : List Int) : ∀ t : Nat, (lift r M m xs t).length ≤ t * xs.length
  | 0 => by simp [lift]
  | t + 1 => by
    have h1 := lift_len r M m xs t
    have h2 := sweep_len r M (t * m) xs
    simp only [lift, List.length_append]
    rw [Nat.succ_mul]
    omega
theorem lifts_len {a p : Int} (hp : 2 ≤ p) : ∀ k : Nat, ((lifts a p k).length : Int) ≤ p ^ k
  | 0 => by simp [lifts]
  | k + 1 => by
    have h1 := lifts_len (a := a) hp k
    have h2 := lift_len (a % (p ^ k * p)) (p ^ k * p) (p ^ k) (lifts a p k) p.toNat
    have h3 := Int.mul_le_mul_of_nonneg_left h1 (show 0 ≤ p by omega)
    have h4 : ((p.toNat * (lifts a p k).length : Nat) : Int) = p * ((lifts a p k).length : Int) := by rw [Int.natCast_mul]; congr 1; omega
    have e : p ^ (k + 1) = p * p ^ k := by rw [Int.pow_succ, Int.mul_comm]
    rw [e]
    simp only [lifts]
    omega
theorem sweep_mem {r M base x : Int} {xs : List Int} (h : x ∈ sweep r M base xs) : ∃ y ∈ xs, x = base + y := by
  unfold sweep at h
  obtain ⟨h1, _⟩ := List.mem_filter.1 h
  obtain ⟨y, hy, rfl⟩ := List.mem_map.1 h1
  exact ⟨y, hy, rfl⟩
theorem lift_range {r M m : Int} {xs : List Int} (hm : 0 ≤ m) (hx : ∀ x ∈ xs, 0 ≤ x ∧ x < m) : ∀ t : Nat, ∀ x ∈ lift r M m xs t, 0 ≤ x ∧ x < t * m
  | 0, x, h => by simp [lift] at h
  | t + 1, x, h => by
    simp only [lift] at h
    have e : ((t + 1 : Nat) : Int) * m = t * m + m := by rw [show ((t + 1 : Nat) : Int) = (t : Int) + 1 by omega, Int.add_mul, Int.one_mul]
    have hn : 0 ≤ (t : Int) * m := Int.mul_nonneg (by omega) hm
    rw [e]
    rcases List.mem_append.1 h with h | h
    · have := lift_range hm hx t x h
      omega
    · obtain ⟨y, hy, rfl⟩ := sweep_mem h
      have := hx y hy
      omega
theorem lifts_range {a p : Int} (hp : 2 ≤ p) : ∀ k : Nat, ∀ x ∈ lifts a p k, 0 ≤ x ∧ x < p ^ k
  | 0, x, h => by simp [lifts] at h; subst h; simp
  | k + 1, x, h => by
    simp only [lifts] at h
    have := lift_range (by have := pow_pos_two hp k; omega) (lifts_range hp k) p.toNat x h
    have e : p ^ (k + 1) = p * p ^ k := by rw [Int.pow_succ, Int.mul_comm]
    rw [e]
    rw [show ((p.toNat : Nat) : Int) = p by omega] at this
    exact this
end Go.Proofs.YtieobgadihcgeaaGreatDoor
