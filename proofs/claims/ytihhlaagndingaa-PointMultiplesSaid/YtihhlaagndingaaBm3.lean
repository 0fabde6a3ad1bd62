/- Rc, Rh, Rk, Yc, Ye, Yf, Pa, Yg, Yh, Yi, Yj, Yr, Sa, Ma, Nt, Mb. -/
import Derived.Test.YtihhlaagndingaaBm2
import Derived.BigRegion
import Derived.Laws.RangeAny
import Derived.Lib.OthersKept
import Derived.Laws.RangeString
import Derived.BigQuiet
import Derived.Laws.StandIn
import Derived.Laws.EntriesVeiled
import Derived.Deep.MidRow
namespace Go.Proofs.Ytihhlaagndingaa
open Go Go.RowKit

set_option maxRecDepth 20000 in
set_option maxHeartbeats 1000000 in
theorem rNeg_any (w : World) (na : Bool) (ax : Option Addr) (n cx : Nat) (xs : List Int) (hX : Sl w ax n cx xs) (hb1 : n ≤ 4000000) :
  Calls Try.prog 97 #[.agg #[.bool na, .slice ax n cx]] w (GivesInt w (-sgn na (val xs))) := by
 go_enter Try.func97, Try.ntmps97
 obtain ⟨w0, hw0, hA, hC, hbl, HS⟩ := boxes2 w (.bool na) (.slice ax n cx) 29
 have hX0 := hX.mono hbl
 obtain ⟨ca0, ca1, _, _⟩ := hA
 go_wp2_with fail
 rw [← hw0]
 clear hw0
 refine (made_any _ _ _ _ _ _ hX0 (by omega)).mono ?_
 rintro e w3 ⟨v, rfl, ⟨ng, ao, nn, cc, rs, rfl, hrs, hrc, hrn, hrz⟩, hb3⟩
 obtain ⟨e0, e1, e2, e3⟩ := hC.mono hb3 hC.lt
 have hb4 : Below w.heap.size w w3 := hbl.trans (hb3.mono hbl.size)
 have hz : -sgn na (val xs) = sgn ng (val rs) := by rw [← hrz, sgn_not]
 have HZ := hidd hz
 clear hrz hz
 go_wp2
 refine bodyPost_ret (v := .agg #[.bool ng, .slice ao nn cc]) ?_ rfl ?_
 ·simp [results, Try.results97, go_sem, e0, e1]
 ·exact gives_store ⟨e0, e1, e2, e3⟩ hrs hrc hrn HZ.out hb4 (by omega)

set_option maxRecDepth 20000 in
set_option maxHeartbeats 1000000 in
theorem rAbs_any (w : World) (na : Bool) (ax : Option Addr) (n cx : Nat) (xs : List Int) (hX : Sl w ax n cx xs) (hb1 : n ≤ 4000000) :
  Calls Try.prog 52 #[.agg #[.bool na, .slice ax n cx]] w (GivesInt w (val xs)) := by
 go_enter Try.func52, Try.ntmps52
 obtain ⟨w0, hw0, hA, hC, hbl, HS⟩ := boxes2 w (.bool na) (.slice ax n cx) 29
 have hX0 := hX.mono hbl
 obtain ⟨ca0, ca1, _, _⟩ := hA
 go_wp2_with fail
 rw [← hw0]
 clear hw0
 refine (made_any _ _ _ _ _ _ hX0 (by omega)).mono ?_
 rintro e w3 ⟨v, rfl, ⟨ng, ao, nn, cc, rs, rfl, hrs, hrc, hrn, hrz⟩, hb3⟩
 obtain ⟨e0, e1, e2, e3⟩ := hC.mono hb3 hC.lt
 have hb4 : Below w.heap.size w w3 := hbl.trans (hb3.mono hbl.size)
 have hz : val xs = sgn ng (val rs) := by rw [← hrz]; rfl
 have HZ := hidd hz
 clear hrz hz
 go_wp2
 refine bodyPost_ret (v := .agg #[.bool ng, .slice ao nn cc]) ?_ rfl ?_
 ·simp [results, Try.results52, go_sem, e0, e1]
 ·exact gives_store ⟨e0, e1, e2, e3⟩ hrs hrc hrn HZ.out hb4 (by omega)

theorem RNegV {w : World} {v : Value} {z : Int} (h : Num w v z) : Calls Try.prog 97 #[v] w (GivesInt w (-z)) := by
 obtain ⟨neg, ao, n, c, xs, rfl, hs, hn, rfl, _⟩ := h
 exact rNeg_any _ _ _ _ _ _ hs (by omega)

theorem sgn_absR (b : Bool) {v : Int} (h : 0 ≤ v) : ((sgn b v).natAbs : Int) = v := by cases b <;> simp [sgn] <;> omega

theorem RAbsV {w : World} {v : Value} {z : Int} (h : Num w v z) : Calls Try.prog 52 #[v] w (GivesInt w (z.natAbs : Int)) := by
 obtain ⟨neg, ao, n, c, xs, rfl, hs, hn, rfl, _⟩ := h
 rw [sgn_absR _ (val_nonneg hs.digs)]
 exact rAbs_any _ _ _ _ _ _ hs (by omega)

theorem Num.sign {w : World} {n : Bool} {ao : Option Addr} {k c : Nat} {z : Int} (h : Num w (.agg #[.bool n, .slice ao k c]) z) : ∃ xs, Sl w ao k c xs ∧ Canon xs ∧ k ≤ 900000 ∧ z = sgn n (val xs) ∧ 0 ≤ val xs ∧ (k = 0 ↔ z = 0) ∧ (n = true → z < 0) ∧ (n = false → 0 ≤ z) := by
 obtain ⟨neg, ao', k', c', xs, hv, hs, hn, hz, hc, hnn⟩ := h
 obtain ⟨rfl, rfl, rfl, rfl⟩ : n = neg ∧ ao = ao' ∧ k = k' ∧ c = c' := by
  simp at hv; exact ⟨hv.1, hv.2.1, hv.2.2.1, hv.2.2.2⟩
 have h0 := val_nonneg hs.digs
 have h1 := hc.zero
 rw [hs.len] at h1
 refine ⟨xs, hs, hc, hn, hz, h0, ?_, ?_, ?_⟩
 ·rw [h1, hz]; cases n <;> simp [sgn]
 ·rintro rfl
  have h2 : val xs ≠ 0 := fun h => hnn rfl (h1.2 h)
  rw [hz]; simp [sgn]; omega
 ·rintro rfl
  rw [hz]; simp [sgn]; exact h0

end Go.Proofs.Ytihhlaagndingaa

namespace Go.Proofs.Ytihhlaagndingaa
open Go Go.RowKit

theorem word_any (w : World) (ax : Option Addr) (n c : Nat) (xs : List Int) (hX : Sl w ax n c xs) (_ : n ≤ 4000000) (k : Nat) (_ : k ≤ 9000000) (x : Int) (hx : xs.getD k 0 = x) :
  Calls Try.prog 54 #[.slice ax n c, .int .i64 k] w fun e w' => e = .returned (.int .u64 x) ∧ w = w' := by
 have hl := hX.len
 by_cases h : k < n
 ·obtain ⟨b, off, rfl, hbl, x', hxc, hx0, hx1, HX⟩ := hX.cells.at (k := k) (by omega)
  rw [HX.out] at hx
  subst hx
  have h1 : decide ((k : Int) ≥ (n : Int)) = false := by simp; omega
  have h2 : ¬ ((k : Int) < 0) := by omega
  clear hl
  go_enter Try.func54, Try.ntmps54
  go_wp2
  go_ret
  exact ⟨rfl, rfl⟩
 ·have h0 : x = 0 := by rw [← hx]; exact getD_out (by omega)
  subst h0
  have h1 : decide ((k : Int) ≥ (n : Int)) = true := by simp; omega
  clear hl hx hX
  go_enter Try.func54, Try.ntmps54
  go_wp2
  go_ret
  exact ⟨rfl, rfl⟩

theorem word_before (w : World) (ax : Option Addr) (n c : Nat) (k : Int) (_ : k < 0) (_ : -9000000 ≤ k) :
  Calls Try.prog 54 #[.slice ax n c, .int .i64 k] w fun e w' => e = .returned (.int .u64 0) ∧ w = w' := by
 go_enter Try.func54, Try.ntmps54
 go_wp2
 go_ret
 exact ⟨rfl, rfl⟩

def Ow (W : World) (B : Nat) (v : Value) (zs : List Int) : Prop := W.ownsRow B 82 1 v zs.length (zs.map (Value.int .u32)) ∧ Digs zs

theorem Ow.shape {W : World} {B : Nat} {v : Value} {zs : List Int} (h : Ow W B v zs) : ∃ ao cap, v = .slice ao zs.length cap := by
 rcases h.1.2 with ⟨rfl, h0⟩ | ⟨g, cap, cur, rfl, _⟩
 ·exact ⟨none, 0, by rw [h0]⟩
 ·exact ⟨_, _, rfl⟩

theorem Ow.start (w : World) : Ow (w.alloc (.cells #[] 82)) w.heap.size (.slice (some ⟨w.heap.size, 0, none⟩) 0 0) [] :=
 ⟨⟨rfl, .inr ⟨w.heap.size, 0, #[], rfl, Nat.le_refl _, heap_alloc_new _ _, Nat.le_refl _, Nat.zero_le _, rfl, rfl⟩⟩, fun _ h => by simp at h⟩

theorem Ow.sl {W : World} {B : Nat} {v : Value} {zs : List Int} (h : Ow W B v zs) : ∃ ao c, v = .slice ao zs.length c ∧ Sl W ao zs.length c zs := own_sl h.1 h.2

theorem Ow.step {w wr w1 : World} {v v' : Value} {zs : List Int} {d : Int} {o : Obj} (h : Ow wr w.heap.size v zs) (hnx : Below w.heap.size w wr) (hd0 : 0 ≤ d) (hd1 : d < 4294967296)
  (hown' : w1.ownsRow w.heap.size 82 1 v' (zs.length + 1) (zs.map (Value.int .u32) ++ [.int .u32 d])) (hgrow : (wr.alloc o).grownBy w1 v.ownBlock) :
  Ow w1 w.heap.size v' (zs ++ [d]) ∧ Below w.heap.size w w1 := by
 refine ⟨⟨by simpa using hown', fun y hy => ?_⟩, ?_⟩
 ·rcases List.mem_append.1 hy with h1 | h1
  ·exact h.2 y h1
  ·simp at h1; subst h1; exact ⟨hd0, hd1⟩
 ·have hs := hnx.size
  exact (hnx.alloc hs o).grown hgrow (by simp; omega) (fun j hj => (World.ownsRow.lt h.1 j hj).1)

theorem val_snoc (zs : List Int) (d : Int) : val (zs ++ [d]) = val zs + pw zs.length * d := by
 rw [val_append]
 show _ + _ * (d + 4294967296 * 0) = _
 rw [Int.mul_zero, Int.add_zero]

theorem plus_step {k : Nat} {zs xs ys : List Int} {q x y : Int} (hk : zs.length = k) (h : val zs + pw k * q = val (xs.take k) + val (ys.take k)) (hx : xs.getD k 0 = x) (hy : ys.getD k 0 = y) :
  val (zs ++ [(q + (x + y)) % 4294967296]) + pw (k + 1) * ((q + (x + y)) / 4294967296) = val (xs.take (k + 1)) + val (ys.take (k + 1)) := by
 rw [val_snoc, hk, val_take_succ, val_take_succ, hx, hy]
 have h1 := pw_split k (q + (x + y))
 rw [Int.mul_add, Int.mul_add] at h1
 omega

set_option maxRecDepth 20000 in
set_option maxHeartbeats 1000000 in
theorem plus_any (w : World) (ax ay : Option Addr) (n m cx cy : Nat) (xs ys : List Int) (hX : Sl w ax n cx xs) (hY : Sl w ay m cy ys) (hb1 : n ≤ 2000000) (hb2 : m ≤ 2000000) :
  Calls Try.prog 50 #[.slice ax n cx, .slice ay m cy] w fun e w' => ∃ ao c l zs, e = .returned (.slice ao l c) ∧ Sl w' ao l c zs ∧ l ≤ max n m + 1 ∧ val zs = val xs + val ys ∧ Below w.heap.size w w' := by
 obtain ⟨i0, hi, hz0, hz1, hz2⟩ := info_parts info_word
 obtain ⟨L, hL⟩ : ∃ L : Nat, L = max n m := ⟨_, rfl⟩
 have hL2 : (if n < m then (m : Int) else (n : Int)) = (L : Int) := by split <;> omega
 have hLb : L ≤ 2000000 := by omega
 have HL := hidd hL
 clear hL
 go_enter Try.func50, Try.ntmps50
 go_wp2
 go_loopw [5, 6, 7] (fun vo vc vi wr => ∃ (k : Nat) (q : Int) (zs : List Int), k ≤ L ∧ vi = .int .i64 k ∧ vc = .int .u64 q ∧ 0 ≤ q ∧ q ≤ 1 ∧ Ow wr w.heap.size vo zs ∧ zs.length = k ∧ val zs + pw k * q = val (xs.take k) + val (ys.take k) ∧ Below w.heap.size w wr) (fun _ _ vi _ => L - (intOf vi).toNat)
 case atStart => exact ⟨0, 0, [], Nat.zero_le _, rfl, rfl, by omega, by omega, Ow.start w, rfl, by simp [val], alloc_below _ _⟩
 case round =>
  obtain ⟨k, q, zs, hk, rfl, rfl, hq0, hq1, hO, hzl, hv, hB⟩ := hrel
  subst hzl
  have HV := hidd hv
  clear hv
  obtain ⟨ao, cap, rfl⟩ := hO.shape
  have HO := hO.1
  have hsz := hB.size
  by_cases hkL : zs.length < L
  ·obtain ⟨x, hx⟩ : ∃ x, xs.getD zs.length 0 = x := ⟨_, rfl⟩
   obtain ⟨y, hy⟩ : ∃ y, ys.getD zs.length 0 = y := ⟨_, rfl⟩
   have hxd := hX.digs.getD zs.length
   have hyd := hY.digs.getD zs.length
   rw [hx] at hxd
   rw [hy] at hyd
   have Hx := hidd hx
   have Hy := hidd hy
   clear hx hy
   go_wp2_with fail
   refine (word_any _ _ _ _ _ (hX.mono hB) (by omega) zs.length (by omega) x Hx.out).mono ?_
   rintro e w' ⟨rfl, rfl⟩
   go_wp2_with fail
   refine (word_any _ _ _ _ _ (hY.mono hB) (by omega) zs.length (by omega) y Hy.out).mono ?_
   rintro e w' ⟨rfl, rfl⟩
   go_wp2_with (first | (at_builtin; refine wpList_append_own _ rfl _ _ 27 rfl w.heap.size 82 i0 (.int .u32 0) 1 4 Try.underlying27 hi hz0 hz1 hz2 rfl (by decide) _ _ _ rfl (World.ownsRow.alloc HO _) ⟨_, 0, none⟩ 1 1 [.int .u32 ((q + (x + y)) % 4294967296)] rfl rfl (one_at _ _ _) (by intro u hu; simp at hu; subst hu; rfl) (by unfold maxLen; omega) (by omega) (by simp; omega) ?_; intro v' w5 hown' hgrow _) | go_in)
   obtain ⟨hO2, hB2⟩ := hO.step hB (by omega) (by omega) hown' hgrow
   clear hown' hgrow hO hB HO hsz
   go_wp2
   go_roundw
   case rel => exact ⟨zs.length + 1, (q + (x + y)) / 4294967296, zs ++ [(q + (x + y)) % 4294967296], by omega, by go_num, by go_num, by omega, by omega, hO2, by simp, plus_step rfl HV.out Hx.out Hy.out, hB2⟩
   case measure => simp [intOf]; omega
  ·have hkl : zs.length = L := by omega
   have hqm : q % 4294967296 = q := by omega
   go_wp2_with (first | (at_builtin; refine wpList_append_own _ rfl _ _ 27 rfl w.heap.size 82 i0 (.int .u32 0) 1 4 Try.underlying27 hi hz0 hz1 hz2 rfl (by decide) _ _ _ rfl (World.ownsRow.alloc HO _) ⟨_, 0, none⟩ 1 1 [.int .u32 (q)] rfl rfl (one_at _ _ _) (by intro u hu; simp at hu; subst hu; rfl) (by unfold maxLen; omega) (by omega) (by simp; omega) ?_; intro v' w5 hown' hgrow _) | go_in)
   obtain ⟨hO2, hB2⟩ := hO.step hB hq0 (by omega) hown' hgrow
   clear hown' hgrow hO hB HO hsz
   obtain ⟨ao2, c2, rfl, hS2⟩ := hO2.sl
   go_wp2
   go_ret
   refine ⟨_, _, _, _, rfl, hS2, by have := HL.out; simp; omega, ?_, hB2⟩
   have h1 := HV.out
   rw [val_take_all xs (by rw [hX.len]; have := HL.out; omega), val_take_all ys (by rw [hY.len]; have := HL.out; omega)] at h1
   rw [val_snoc]
   exact h1

theorem minus_step {k : Nat} {zs xs ys : List Int} {q x y : Int} (hk : zs.length = k) (h : val zs = val (xs.take k) - val (ys.take k) + pw k * q) (hx : xs.getD k 0 = x) (hy : ys.getD k 0 = y) :
  val (zs ++ [(4294967296 + x - y - q) % 4294967296]) = val (xs.take (k + 1)) - val (ys.take (k + 1)) + pw (k + 1) * (1 - (4294967296 + x - y - q) / 4294967296) := by
 rw [val_snoc, hk, val_take_succ, val_take_succ, hx, hy]
 have h1 := pw_split k (4294967296 + x - y - q)
 have h2 : pw k * (4294967296 + x - y - q) = pw (k + 1) + pw k * x - pw k * y - pw k * q := by
  rw [pw_succ, Int.mul_sub, Int.mul_sub, Int.mul_add]
 rw [Int.mul_sub, Int.mul_one]
 omega

set_option maxRecDepth 20000 in
set_option maxHeartbeats 1000000 in
theorem minus_any (w : World) (ax ay : Option Addr) (n m cx cy : Nat) (xs ys : List Int) (hX : Sl w ax n cx xs) (hY : Sl w ay m cy ys) (hcy : Canon ys) (hle : val ys ≤ val xs) (hb1 : n ≤ 2000000) (hb2 : m ≤ 2000000) :
  Calls Try.prog 51 #[.slice ax n cx, .slice ay m cy] w fun e w' => ∃ ao c zs, e = .returned (.slice ao n c) ∧ Sl w' ao n c zs ∧ val zs = val xs - val ys ∧ Below w.heap.size w w' := by
 obtain ⟨i0, hi, hz0, hz1, hz2⟩ := info_parts info_word
 have HCY := hidd hcy
 have HLE := hidd hle
 clear hcy hle
 go_enter Try.func51, Try.ntmps51
 go_wp2
 go_loopw [5, 6, 7] (fun vo vc vi wr => ∃ (k : Nat) (q : Int) (zs : List Int), k ≤ n ∧ vi = .int .i64 k ∧ vc = .int .u64 q ∧ 0 ≤ q ∧ q ≤ 1 ∧ Ow wr w.heap.size vo zs ∧ zs.length = k ∧ val zs = val (xs.take k) - val (ys.take k) + pw k * q ∧ Below w.heap.size w wr) (fun _ _ vi _ => n - (intOf vi).toNat)
 case atStart => exact ⟨0, 0, [], Nat.zero_le _, rfl, rfl, by omega, by omega, Ow.start w, rfl, by simp [val], alloc_below _ _⟩
 case round =>
  obtain ⟨k, q, zs, hk, rfl, rfl, hq0, hq1, hO, hzl, hv, hB⟩ := hrel
  subst hzl
  have HV := hidd hv
  clear hv
  obtain ⟨ao, cap, rfl⟩ := hO.shape
  have HO := hO.1
  have hsz := hB.size
  by_cases hkL : zs.length < n
  ·obtain ⟨x, hx⟩ : ∃ x, xs.getD zs.length 0 = x := ⟨_, rfl⟩
   obtain ⟨y, hy⟩ : ∃ y, ys.getD zs.length 0 = y := ⟨_, rfl⟩
   have hxd := hX.digs.getD zs.length
   have hyd := hY.digs.getD zs.length
   rw [hx] at hxd
   rw [hy] at hyd
   have Hx := hidd hx
   have Hy := hidd hy
   clear hx hy
   go_wp2_with fail
   refine (word_any _ _ _ _ _ (hX.mono hB) (by omega) zs.length (by omega) x Hx.out).mono ?_
   rintro e w' ⟨rfl, rfl⟩
   go_wp2_with fail
   refine (word_any _ _ _ _ _ (hY.mono hB) (by omega) zs.length (by omega) y Hy.out).mono ?_
   rintro e w' ⟨rfl, rfl⟩
   go_wp2_with (first | (at_builtin; refine wpList_append_own _ rfl _ _ 27 rfl w.heap.size 82 i0 (.int .u32 0) 1 4 Try.underlying27 hi hz0 hz1 hz2 rfl (by decide) _ _ _ rfl (World.ownsRow.alloc HO _) ⟨_, 0, none⟩ 1 1 [.int .u32 ((4294967296 + x - y - q) % 4294967296)] rfl rfl (one_at _ _ _) (by intro u hu; simp at hu; subst hu; rfl) (by unfold maxLen; omega) (by omega) (by simp; omega) ?_; intro v' w5 hown' hgrow _) | go_in)
   obtain ⟨hO2, hB2⟩ := hO.step hB (by omega) (by omega) hown' hgrow
   clear hown' hgrow hO hB HO hsz
   go_wp2
   go_roundw
   case rel => exact ⟨zs.length + 1, 1 - (4294967296 + x - y - q) / 4294967296, zs ++ [(4294967296 + x - y - q) % 4294967296], by omega, by go_num, by go_num, by omega, by omega, hO2, by simp, minus_step rfl HV.out Hx.out Hy.out, hB2⟩
   case measure => simp [intOf]; omega
  ·have hkl : zs.length = n := by omega
   obtain ⟨ao2, c2, he, hS2⟩ := hO.sl
   cases he
   rw [hkl] at hS2
   have HE : Hid (val zs = val xs - val ys) := by
    have h1 := HV.out
    have h2 := val_nonneg hX.digs
    have h3 := val_lt hX.digs
    rw [hX.len] at h3
    have h4 := HCY.out.length_le (Int.lt_of_le_of_lt HLE.out h3)
    rw [hkl, val_take_all xs (by rw [hX.len]; omega), val_take_all ys h4] at h1
    have h5 := val_lt hS2.digs
    rw [hS2.len] at h5
    have h6 := HLE.out
    show val zs = _
    rcases (by omega : q = 0 ∨ q = 1) with rfl | rfl
    ·omega
    ·omega
   clear hO HO
   go_wp2
   go_ret
   exact ⟨ao, cap, zs, by show Ending.returned (.slice ao zs.length cap) = _; rw [hkl], hS2, HE.out, hB⟩

end Go.Proofs.Ytihhlaagndingaa

namespace Go.Proofs.Ytihhlaagndingaa
open Go Go.RowKit

def Mine (w : World) (b n : Nat) (zs : List Int) : Prop :=
 ∃ cur : Array Value, w.heap[b]? = some (.cells cur 82 (0, 0)) ∧ zs.length = n ∧ Digs zs ∧ n ≤ cur.size ∧ ∀ j, j < n → cur[j]? = some (.int .u32 (zs.getD j 0))

theorem Mine.lt {w : World} {b n : Nat} {zs : List Int} (h : Mine w b n zs) : b < w.heap.size := by
 obtain ⟨cur, h1, _⟩ := h
 exact (Array.getElem?_eq_some_iff.1 h1).1
theorem Mine.len {w : World} {b n : Nat} {zs : List Int} (h : Mine w b n zs) : zs.length = n := by
 obtain ⟨cur, _, h1, _⟩ := h
 exact h1
theorem Mine.digs {w : World} {b n : Nat} {zs : List Int} (h : Mine w b n zs) : Digs zs := by
 obtain ⟨cur, _, _, h1, _⟩ := h
 exact h1
theorem Mine.cell {w : World} {b n : Nat} {zs : List Int} (h : Mine w b n zs) {j : Nat} (hj : j < n) : w.cell? ⟨b, j, none⟩ = some (.int .u32 (zs.getD j 0)) := by
 obtain ⟨cur, h1, h2, h3, h4, h5⟩ := h
 rw [cell_of_row w b j _ _ (0, 0) h1]
 exact h5 j hj
theorem Mine.frozen {w : World} {b n : Nat} {zs : List Int} (h : Mine w b n zs) (j : Nat) : w.frozen? ⟨b, j, none⟩ = false := by
 obtain ⟨cur, h1, _⟩ := h
 simp [World.frozen?, h1]
theorem Mine.mono {w w' : World} {b n : Nat} {zs : List Int} (h : Mine w b n zs) {B : Nat} (hb : Below B w w') (hB : b < B) : Mine w' b n zs := by
 obtain ⟨cur, h1, h2⟩ := h
 exact ⟨cur, by rw [hb.block b hB]; exact h1, h2⟩
theorem Mine.drewN {w : World} {b n : Nat} {zs : List Int} (h : Mine w b n zs) (d : Nat) : Mine (w.drewN d) b n zs := h
theorem Mine.set {w : World} {b n : Nat} {zs : List Int} (h : Mine w b n zs) {j : Nat} (hj : j < n) {x : Int} (hx0 : 0 ≤ x) (hx1 : x < 4294967296) : Mine (w.setCell ⟨b, j, none⟩ (.int .u32 x)) b n (zs.set j x) := by
 obtain ⟨cur, h1, h2, h3, h4, h5⟩ := h
 refine ⟨cur.setIfInBounds j (.int .u32 x), ?_, by rw [List.length_set]; exact h2, h3.set j ⟨hx0, hx1⟩, by simpa using h4, fun k hk => ?_⟩
 ·simp only [World.setCell, Array.getElem?_modify, if_true, h1, Option.map_some, Option.isSome_none]
  simp
 ·by_cases hjk : j = k
  ·subst hjk
   rw [getD_set _ _ _ (by omega), Array.getElem?_setIfInBounds_self_of_lt (by omega)]
  ·rw [getD_set_ne _ _ _ _ hjk]
   rw [Array.getElem?_setIfInBounds_ne hjk]
   exact h5 k hk
theorem Mine.sl {w : World} {b n : Nat} {zs : List Int} (h : Mine w b n zs) {c : Nat} (hc : n ≤ c) : Sl w (some ⟨b, 0, none⟩) n c zs :=
 ⟨h.len, hc, h.digs, .inr ⟨b, 0, rfl, h.lt, fun j hj => by rw [Nat.zero_add]; exact h.cell (by have := h.len; omega)⟩⟩
theorem Mine.other {w : World} {b n : Nat} {zs : List Int} (h : Mine w b n zs) {w' : World} {b' : Nat} (hg : w.grownBy w' (some b')) (hne : b ≠ b') : Mine w' b n zs := by
 have hl := h.lt
 obtain ⟨cur, h1, h2⟩ := h
 exact ⟨cur, by rw [hg.block b hl (by simpa using hne)]; exact h1, h2⟩
theorem Row.mine {w : World} {b : Nat} {zs : List Int} (h : Row w 82 b zs) : Mine w b zs.length zs :=
 ⟨_, h.2, rfl, h.1, by simp, fun j hj => by simp [hj]⟩
theorem Ow.mine {w : World} {B b n c : Nat} {zs : List Int} (h : Ow w B (.slice (some ⟨b, 0, none⟩) n c) zs) : Mine w b n zs ∧ B ≤ b ∧ n ≤ c := by
 obtain ⟨⟨h1, h2⟩, h3⟩ := h
 rcases h2 with ⟨h4, _⟩ | ⟨g, cap, cur, h4, h5, h6, h7, h8, h9, h10⟩
 ·cases h4
 ·cases h4
  refine ⟨⟨cur, h6, rfl, h3, by omega, fun j hj => ?_⟩, h5, h7⟩
  have e : (cur.toList.take (zs.length * 1))[j]? = (zs.map (Value.int .u32))[j]? := by rw [h10]
  rw [List.getElem?_take_of_lt (by omega)] at e
  simp at e
  rw [e]
  simp [hj]
theorem Row.ow {w : World} {B b : Nat} {zs : List Int} (h : Row w 82 b zs) (hB : B ≤ b) (hn : zs.length ≤ maxLen) : Ow w B (.slice (some ⟨b, 0, none⟩) zs.length zs.length) zs :=
 ⟨⟨by simp, .inr ⟨b, zs.length, _, rfl, hB, h.2, Nat.le_refl _, hn, by simp, by rw [Nat.mul_one]; exact List.take_of_length_le (by simp)⟩⟩, h.1⟩

set_option maxRecDepth 20000 in
set_option maxHeartbeats 1000000 in
theorem rBits_any (w : World) (na : Bool) (ax : Option Addr) (n c : Nat) (xs : List Int) (hX : Sl w ax n c xs) (hc : Canon xs) (hb : n ≤ 4000000) :
  Calls Try.prog 92 #[.agg #[.bool na, .slice ax n c]] w fun e w' => ∃ m : Nat, e = .returned (.int .i64 m) ∧ IsBits (val xs) m ∧ m ≤ 32 * n ∧ Below w.heap.size w w' := by
 have hn := hidd hX.len
 obtain ⟨w0, hw0, hA, hbl0, HS⟩ := boxes1 w (.bool na) (.slice ax n c) 29
 by_cases h0 : n = 0
 ·obtain rfl := h0
  have e : xs = [] := List.eq_nil_of_length_eq_zero hn.out
  clear hA hw0
  go_enter Try.func92, Try.ntmps92
  go_wp2
  go_ret
  exact ⟨0, rfl, .inl ⟨by subst e; rfl, rfl⟩, by omega, alloc_below _ _⟩
 ·have h1 : ((n : Int) == 0) = false := by simp; omega
  have hx := (hX.mono hbl0).cells
  obtain ⟨b, off, rfl, hbl, x, hxc, hx0, hx1, HX⟩ := hx.at (k := n - 1) (by rw [hn.out]; omega)
  have hxp : 0 < x := by
   rcases hc.2 with h | h
   ·have := hn.out; omega
   ·rcases (by omega : x = 0 ∨ 0 < x) with h2 | h2
    ·exfalso
     have e := val_take_succ xs (n - 1)
     rw [show n - 1 + 1 = n from by omega, HX.out, h2, val_take_all xs (by rw [hn.out]; omega)] at e
     have l1 := val_lt (hX.take (show n - 1 ≤ n by omega)).digs
     rw [(hX.take (show n - 1 ≤ n by omega)).len] at l1
     rw [hn.out] at h
     omega
    ·exact h2
  obtain ⟨ca0, ca1, _, _⟩ := hA
  go_enter Try.func92, Try.ntmps92
  go_upto_region 1 with (fail)
  rw [← hw0]
  clear hw0
  go_wp2
  go_loop [3, 4] (fun i u => ∃ (k : Nat) (q : Int), k ≤ 32 ∧ 0 ≤ q ∧ q < 4294967296 ∧ i = .int .i64 (32 * ((n : Int) - 1) + k) ∧ u = .int .u32 q ∧ q * 2 ^ k ≤ x ∧ x < (q + 1) * 2 ^ k ∧ (k = 0 ∨ 2 ^ (k - 1) ≤ x)) (fun _ u => (intOf u).toNat)
  case atStart => exact ⟨0, x, by omega, hx0, hx1, by simp, rfl, by simp, by simp; omega, .inl rfl⟩
  case round =>
   obtain ⟨k, q, hk, hq0, hq1, rfl, rfl, hv⟩ := hrel
   have HV := hidd hv
   clear hv
   by_cases hq : 0 < q
   ·go_wp2
    go_round
    case rel =>
     obtain ⟨v1, v2, _⟩ := HV.out
     have hp := pow_two_pos k
     have h5 : (2 : Int) ^ k ≤ x := by
      have := Int.mul_le_mul_of_nonneg_right (show 1 ≤ q by omega) (Int.le_of_lt hp)
      omega
     have hk2 : k < 32 := by
      rcases Nat.lt_or_ge k 32 with h | h
      ·exact h
      ·have : k = 32 := by omega
       subst this; simp at h5; omega
     refine ⟨k + 1, q / 2, by omega, by omega, by omega, by rw [show ((k + 1 : Nat) : Int) = (k : Int) + 1 from rfl]; congr 1; omega, rfl, ?_, ?_, .inr h5⟩
     ·rw [pow_two_succ]
      have : q / 2 * (2 ^ k * 2) = (q / 2 * 2) * 2 ^ k := by rw [Int.mul_comm (2 ^ k), Int.mul_assoc]
      have h6 := Int.mul_le_mul_of_nonneg_right (show q / 2 * 2 ≤ q by omega) (Int.le_of_lt hp)
      omega
     ·rw [pow_two_succ]
      have : (q / 2 + 1) * (2 ^ k * 2) = ((q / 2 + 1) * 2) * 2 ^ k := by rw [Int.mul_comm (2 ^ k), Int.mul_assoc]
      have h6 := Int.mul_le_mul_of_nonneg_right (show q + 1 ≤ (q / 2 + 1) * 2 by omega) (Int.le_of_lt hp)
      omega
    case measure => simp [intOf]; omega
   ·go_wp2
    go_ret
    obtain ⟨v1, v2, v3⟩ := HV.out
    refine ⟨32 * (n - 1) + k, ?_, bits_end hX.digs hn.out (by omega) HX.out hxp hx1 (by omega) v1 v2 v3, by omega, hbl0⟩
    have : ((32 * (n - 1) + k : Nat) : Int) = 32 * ((n : Int) - 1) + k := by omega
    rw [this]; rfl

def prevW (xs : List Int) (i : Nat) : Int := if i = 0 then 0 else xs.getD (i - 1) 0

theorem word_prev (w : World) (ax : Option Addr) (n c : Nat) (xs : List Int) (hX : Sl w ax n c xs) (hb : n ≤ 4000000) (i : Nat) (hi : i ≤ 9000000) (y : Int) (hy : prevW xs i = y) (j : Int) (hj : j = (i : Int) - 1) :
  Calls Try.prog 54 #[.slice ax n c, .int .i64 j] w fun e w' => e = .returned (.int .u64 y) ∧ w = w' := by
 unfold prevW at hy
 subst hj
 by_cases h : i = 0
 ·subst h
  rw [if_pos rfl] at hy
  subst hy
  exact word_before w ax n c _ (by omega) (by omega)
 ·rw [if_neg h] at hy
  rw [show (i : Int) - 1 = ((i - 1 : Nat) : Int) by omega]
  exact word_any w ax n c xs hX hb (i - 1) (by omega) y hy

theorem left_step {m : Nat} {zs xs : List Int} {i wd : Nat} {p x c : Int} (hm : zs.length = i + wd) (h : val zs + pw (i + wd) * c = val (xs.take i) * p * pw wd) (hx : xs.getD i 0 = x) (hd : m = i + wd + 1) :
  val (zs ++ [x * p % 4294967296 + c]) + pw m * (x * p / 4294967296) = val (xs.take (i + 1)) * p * pw wd := by
 subst hd
 rw [val_snoc, hm, val_take_succ, hx, Int.add_mul, Int.add_mul, ← h]
 have h1 := pw_split (i + wd) (x * p)
 have h2 : pw i * x * p * pw wd = pw (i + wd) * (x * p) := by rw [pw_add]; ac_rfl
 rw [Int.mul_add]
 omega

theorem add_mod {T cc P : Int} (h1 : T % 4294967296 % P = 0) (h2 : (4294967296 : Int) % P = 0) (_ : 0 < P) (hc0 : 0 ≤ cc) (hc : cc < P) : (T + cc) % 4294967296 = T % 4294967296 + cc := by
 have h4 : (4294967296 - T % 4294967296) % P = 0 := by rw [Int.sub_emod, h1, h2]; simp
 have h5 : 0 < 4294967296 - T % 4294967296 := by omega
 have h6 := Int.le_of_dvd h5 (Int.dvd_of_emod_eq_zero h4)
 omega

set_option maxRecDepth 20000 in
set_option maxHeartbeats 1000000 in
theorem left_any (w : World) (ax : Option Addr) (n c : Nat) (xs : List Int) (hX : Sl w ax n c xs) (hb : n ≤ 1000000) (s : Nat) (hs : s ≤ 100000000) :
  Calls Try.prog 93 #[.slice ax n c, .int .i64 s] w fun e w' => ∃ g l cap zs, e = .returned (.slice (some ⟨g, 0, none⟩) l cap) ∧ w.heap.size ≤ g ∧ Mine w' g l zs ∧ l ≤ cap ∧ l = s / 32 + n + 1 ∧ val zs = val xs * 2 ^ s ∧ Below w.heap.size w w' := by
 obtain ⟨i0, hi, hz0, hz1, hz2⟩ := info_parts info_word
 have hn := hidd hX.len
 have hrs : s % 32 < 32 := Nat.mod_lt _ (by decide)
 obtain ⟨hp0, hp1⟩ := two_le _ hrs
 go_enter Try.func93, Try.ntmps93
 go_wp2_with (at_make; refine wpList_make_words _ rfl _ _ 27 rfl 82 Try.underlying27 (by kernel_rfl) _ _ _ _ rfl rfl (s / 32) (by omega) (by omega) (by omega) ?_; intro w1 hrow hb1 hs1)
 go_loopw [5, 7] (fun vo vi wr => ∃ (i : Nat) (zs : List Int), i ≤ n + 1 ∧ vi = .int .i64 i ∧ Ow wr w.heap.size vo zs ∧ zs.length = i + s / 32 ∧ val zs + pw (i + s / 32) * (prevW xs i * 2 ^ (s % 32) / 4294967296) = val (xs.take i) * 2 ^ (s % 32) * pw (s / 32) ∧ Below w.heap.size w wr) (fun _ vi _ => n + 1 - (intOf vi).toNat)
 case atStart =>
  have ho := hrow.ow (Nat.le_refl _) (by rw [List.length_replicate]; unfold maxLen; omega)
  rw [List.length_replicate] at ho
  exact ⟨0, _, by omega, rfl, ho, by simp, by rw [val_replicate]; simp [prevW, val], hb1⟩
 case round =>
  obtain ⟨i, zs, hk, rfl, hO, hzl, hv, hB⟩ := hrel
  have HV := hidd hv
  clear hv hrow hb1 hs1
  obtain ⟨ao, cap, rfl⟩ := hO.shape
  have HO := hO.1
  have hsz := hB.size
  have HZL := hidd hzl
  have hzb : zs.length ≤ 10000000 := by omega
  clear hzl
  by_cases hin : i ≤ n
  ·obtain ⟨x, hx⟩ : ∃ x, xs.getD i 0 = x := ⟨_, rfl⟩
   obtain ⟨y, hy⟩ : ∃ y, prevW xs i = y := ⟨_, rfl⟩
   have hxd := hX.digs.getD i
   rw [hx] at hxd
   obtain ⟨hx0, hx1⟩ := hxd
   have hyd : 0 ≤ y ∧ y < 4294967296 := by
    rw [← hy]; unfold prevW; split
    ·omega
    ·exact hX.digs.getD _
   obtain ⟨hy0, hy1⟩ := hyd
   have Hx := hidd hx
   have Hy := hidd hy
   clear hx hy
   have hxp0 : 0 ≤ x * 2 ^ (s % 32) := Int.mul_nonneg hx0 (by omega)
   have hxp2 : x * 2 ^ (s % 32) ≤ 4294967295 * 2 ^ (s % 32) := Int.mul_le_mul_of_nonneg_right (by omega) (by omega)
   have hxp1 : x * 2 ^ (s % 32) ≤ 9223372036854775807 := by omega
   have hyp0 : 0 ≤ y * 2 ^ (s % 32) := Int.mul_nonneg hy0 (by omega)
   have hyp2 : y * 2 ^ (s % 32) ≤ 4294967295 * 2 ^ (s % 32) := Int.mul_le_mul_of_nonneg_right (by omega) (by omega)
   have hyp1 : y * 2 ^ (s % 32) ≤ 9223372036854775807 := by omega
   have hc0 : y * 2 ^ (s % 32) / 4294967296 < 2 ^ (s % 32) := Int.ediv_lt_of_lt_mul (by decide) (by omega)
   obtain ⟨u, hor⟩ : ∃ u, bits .or .u64 (x * 2 ^ (s % 32)) (y * 2 ^ (s % 32) / 4294967296) = u := ⟨_, rfl⟩
   have hu : u = x * 2 ^ (s % 32) + y * 2 ^ (s % 32) / 4294967296 := by
    rw [← hor]
    exact (or_u64 (s % 32) _ _ hxp0 (by omega) (by omega) (by omega) hc0 (Int.mul_emod_left _ _)).1
   have hu0 : 0 ≤ u := by omega
   have hu1 : u < 18446744073709551616 := by omega
   have HD : Hid (u % 4294967296 = x * 2 ^ (s % 32) % 4294967296 + y * 2 ^ (s % 32) / 4294967296) := by
    have h1 := mul_pow_dvd x (s % 32) (by omega)
    have h2 : (4294967296 : Int) % 2 ^ (s % 32) = 0 := by
     have e : (4294967296 : Int) = 2 ^ (s % 32) * 2 ^ (32 - s % 32) := by rw [← Int.pow_add, show s % 32 + (32 - s % 32) = 32 from by omega]; rfl
     rw [e]; exact Int.mul_emod_right _ _
    show u % 4294967296 = _
    rw [hu]
    exact add_mod h1 h2 (by omega) (by omega) hc0
   clear hu
   go_wp2_with fail
   refine (word_any _ _ _ _ _ (hX.mono hB) (by omega) i (by omega) x Hx.out).mono ?_
   rintro e w' ⟨rfl, rfl⟩
   go_wp2_with fail
   refine (word_prev _ _ _ _ _ (hX.mono hB) (by omega) i (by omega) y Hy.out _ (by omega)).mono ?_
   rintro e w' ⟨rfl, rfl⟩
   go_wp2_with (first | (at_builtin; refine wpList_append_own _ rfl _ _ 27 rfl w.heap.size 82 i0 (.int .u32 0) 1 4 Try.underlying27 hi hz0 hz1 hz2 rfl (by decide) _ _ _ rfl (World.ownsRow.alloc HO _) ⟨_, 0, none⟩ 1 1 [.int .u32 (u % 4294967296)] rfl rfl (one_at _ _ _) (by intro u hu; simp at hu; subst hu; rfl) (by unfold maxLen; omega) (by omega) (by simp; omega) ?_; intro v' w5 hown' hgrow _) | go_in)
   obtain ⟨hO2, hB2⟩ := hO.step hB (by omega) (by omega) hown' hgrow
   clear hown' hgrow hO hB HO hsz
   go_wp2
   go_roundw
   case rel =>
    refine ⟨i + 1, zs ++ [u % 4294967296], by omega, by go_num, hO2, by rw [List.length_append, HZL.out]; simp; omega, ?_, hB2⟩
    have h1 := HV.out
    rw [Hy.out] at h1
    have h2 : prevW xs (i + 1) = x := by unfold prevW; rw [if_neg (by omega)]; exact Hx.out
    rw [h2, HD.out]
    exact left_step HZL.out h1 Hx.out (by omega)
   case measure => simp [intOf]; omega
  ·obtain rfl : i = n + 1 := by omega
   have HE : Hid (val zs = val xs * 2 ^ s) := by
    have h1 := HV.out
    have h2 : prevW xs (n + 1) = 0 := by unfold prevW; rw [if_neg (by omega)]; exact getD_out (by rw [hn.out]; omega)
    rw [h2, Int.zero_mul, Int.zero_ediv, Int.mul_zero, Int.add_zero, val_take_all xs (by rw [hn.out]; omega)] at h1
    show val zs = _
    rw [h1, pw_two, Int.mul_assoc, ← Int.pow_add]
    congr 2
    omega
   have hl2 : 0 < zs.length := by have := HZL.out; omega
   obtain ⟨g, rfl⟩ : ∃ g, ao = some ⟨g, 0, none⟩ := by
    rcases hO.1.2 with ⟨_, h0⟩ | ⟨g, cap', cur, h1, _⟩
    ·omega
    ·cases h1; exact ⟨g, rfl⟩
   obtain ⟨hM, hgB, hcap⟩ := hO.mine
   clear hO HO
   go_wp2
   go_ret
   exact ⟨g, zs.length, cap, zs, rfl, hgB, hM, hcap, by have := HZL.out; omega, HE.out, hB⟩

end Go.Proofs.Ytihhlaagndingaa

namespace Go.Proofs.Ytihhlaagndingaa
open Go Go.RowKit

theorem val_drop_any (xs : List Int) (k : Nat) : val (xs.drop k) = xs.getD k 0 + 4294967296 * val (xs.drop (k + 1)) := by
 by_cases h : k < xs.length
 ·exact val_drop_step xs h
 ·rw [List.drop_of_length_le (by omega), List.drop_of_length_le (by omega), getD_out (by omega)]; rfl

theorem val_split_any (xs : List Int) (k : Nat) : val xs = val (xs.take k) + pw k * val (xs.drop k) := by
 by_cases h : k ≤ xs.length
 ·exact val_split xs h
 ·rw [List.take_of_length_le (by omega), List.drop_of_length_le (by omega)]
  show _ = _ + _ * 0
  rw [Int.mul_zero, Int.add_zero]

theorem val_take_lt {xs : List Int} (h : Digs xs) (k : Nat) : val (xs.take k) < pw k := by
 have h1 := val_lt (h.take k)
 have h2 := pw_le (show (xs.take k).length ≤ k by rw [List.length_take]; omega)
 omega

theorem lt_at {xs ys : List Int} {k : Nat} (hx : Digs xs) (h : val (xs.drop (k + 1)) = val (ys.drop (k + 1))) (hlt : xs.getD k 0 < ys.getD k 0) (hy : Digs ys) : val xs < val ys := by
 have e1 := val_split_any xs k
 have e2 := val_split_any ys k
 have d1 := val_drop_any xs k
 have d2 := val_drop_any ys k
 have h1 := val_take_lt hx k
 have h2 := val_nonneg (hy.take k)
 have h3 := Int.mul_le_mul_of_nonneg_left (show val (xs.drop k) + 1 ≤ val (ys.drop k) by omega) (Int.le_of_lt (pw_pos k))
 rw [Int.mul_add, Int.mul_one] at h3
 omega

theorem word_at (w : World) (ax : Option Addr) (n c : Nat) (xs : List Int) (hX : Sl w ax n c xs) (hb : n ≤ 4000000) (i : Nat) (hi : i ≤ 9000000) (y : Int) (hy : xs.getD i 0 = y) (j : Int) (hj : j = (i : Int)) :
  Calls Try.prog 54 #[.slice ax n c, .int .i64 j] w fun e w' => e = .returned (.int .u64 y) ∧ w = w' := by
 subst hj
 exact word_any w ax n c xs hX hb i hi y hy

theorem word_same (w : World) (ax : Option Addr) (n c : Nat) (xs : List Int) (hX : Sl w ax n c xs) (hb : n ≤ 4000000) (i : Nat) (hi : i ≤ 9000000) (y : Int) (hy : xs.getD i 0 = y) :
  Calls Try.prog 54 #[.slice ax n c, .int .i64 i] w fun e w' => e = .returned (.int .u64 y) ∧ w' = w :=
 (word_any w ax n c xs hX hb i hi y hy).mono fun _ _ h => ⟨h.1, h.2.symm⟩

set_option maxRecDepth 20000 in
set_option maxHeartbeats 1000000 in
theorem reaches_any (w : World) (ax ay : Option Addr) (n m cx cy : Nat) (xs ys : List Int) (hX : Sl w ax n cx xs) (hY : Sl w ay m cy ys) (hb1 : n ≤ 4000000) (hb2 : m ≤ 4000000) :
  Calls Try.prog 94 #[.slice ax n cx, .slice ay m cy] w fun e w' => e = .returned (.bool (decide (val ys ≤ val xs))) ∧ w = w' := by
 obtain ⟨L, hL⟩ : ∃ L : Nat, L = max n m := ⟨_, rfl⟩
 have hL2 : (if n < m then (m : Int) else (n : Int)) = (L : Int) := by split <;> omega
 have hLb : L ≤ 4000000 := by omega
 have HL := hidd hL
 clear hL
 go_enter Try.func94, Try.ntmps94
 go_wp2
 go_loop [5] (fun vi => ∃ k : Nat, k ≤ L ∧ vi = .int .i64 ((k : Int) - 1) ∧ val (xs.drop k) = val (ys.drop k)) (fun vi => (intOf vi + 1).toNat)
 case atStart => exact ⟨L, Nat.le_refl _, rfl, by rw [List.drop_of_length_le (by rw [hX.len]; have := HL.out; omega), List.drop_of_length_le (by rw [hY.len]; have := HL.out; omega)]⟩
 case round =>
  obtain ⟨k, hk, rfl, hv⟩ := hrel
  have HV := hidd hv
  clear hv
  by_cases h0 : 0 < k
  ·obtain ⟨j, rfl⟩ : ∃ j, k = j + 1 := ⟨k - 1, by omega⟩
   obtain ⟨x, hx⟩ : ∃ x, xs.getD j 0 = x := ⟨_, rfl⟩
   obtain ⟨y, hy⟩ : ∃ y, ys.getD j 0 = y := ⟨_, rfl⟩
   have Hx := hidd hx
   have Hy := hidd hy
   clear hx hy
   have hj1 : ((j + 1 : Nat) : Int) - 1 = (j : Int) := by omega
   by_cases he : x = y
   ·have he2 : (x != y) = false := by simp [he]
    have HE := hidd he
    clear he
    go_wp2_with fail
    refine (word_at _ _ _ _ _ hX (by omega) j (by omega) x Hx.out _ (by omega)).mono ?_
    rintro e w' ⟨rfl, rfl⟩
    go_wp2_with fail
    refine (word_at _ _ _ _ _ hY (by omega) j (by omega) y Hy.out _ (by omega)).mono ?_
    rintro e w' ⟨rfl, rfl⟩
    go_wp2
    go_round
    case rel =>
     refine ⟨j, by omega, by go_num, ?_⟩
     rw [val_drop_any xs j, val_drop_any ys j, HV.out, Hx.out, Hy.out, HE.out]
    case measure => simp [intOf]
   ·have he2 : (x != y) = true := by simp [he]
    have HR : Hid (decide (x > y) = decide (val ys ≤ val xs)) := by
     rcases Int.lt_or_gt_of_ne he with h | h
     ·have h2 := lt_at hX.digs HV.out (by rw [Hx.out, Hy.out]; exact h) hY.digs
      show _ = _
      rw [decide_eq_false (show ¬ x > y by omega), decide_eq_false (show ¬ val ys ≤ val xs by omega)]
     ·have h2 := lt_at hY.digs HV.out.symm (by rw [Hx.out, Hy.out]; exact h) hX.digs
      show _ = _
      rw [decide_eq_true (show x > y by omega), decide_eq_true (show val ys ≤ val xs by omega)]
    clear he
    go_wp2_with fail
    refine (word_at _ _ _ _ _ hX (by omega) j (by omega) x Hx.out _ (by omega)).mono ?_
    rintro e w' ⟨rfl, rfl⟩
    go_wp2_with fail
    refine (word_at _ _ _ _ _ hY (by omega) j (by omega) y Hy.out _ (by omega)).mono ?_
    rintro e w' ⟨rfl, rfl⟩
    go_wp2_with fail
    refine (word_at _ _ _ _ _ hX (by omega) j (by omega) x Hx.out _ (by omega)).mono ?_
    rintro e w' ⟨rfl, rfl⟩
    go_wp2_with fail
    refine (word_at _ _ _ _ _ hY (by omega) j (by omega) y Hy.out _ (by omega)).mono ?_
    rintro e w' ⟨rfl, rfl⟩
    go_wp2
    go_ret
    exact ⟨by rw [← HR.out]; simp, rfl⟩
  ·obtain rfl : k = 0 := by omega
   have HR : Hid (decide (val ys ≤ val xs) = true) := by
    have := HV.out
    simp only [List.drop_zero] at this
    exact decide_eq_true (by omega)
   go_wp2
   go_ret
   exact ⟨by rw [HR.out]; rfl, rfl⟩

theorem grown_drewN {w wr : World} {b : Option Nat} (h : w.grownBy wr b) (d : Nat) : w.grownBy (wr.drewN d) b := ⟨h.os, h.tape, h.output, h.size, h.block⟩

theorem grown_set {w wr : World} {b : Nat} (h : w.grownBy wr (some b)) (j : Nat) (u : Value) : w.grownBy (wr.setCell ⟨b, j, none⟩ u) (some b) := grownBy_trans h (grownBy_set _ _ _ _)

theorem half_dig {x y : Int} (hx0 : 0 ≤ x) (hx1 : x < 4294967296) (hy0 : 0 ≤ y) (hy1 : y < 4294967296) :
  ∃ u, bits .or .u64 (x / 2) (y * 2147483648) = u ∧ 0 ≤ u ∧ u < 18446744073709551616 ∧ Hid (2 * (u % 4294967296) = x - x % 2 + 4294967296 * (y % 2)) := by
 have h := (or_u64 31 (y * 2147483648) (x / 2) (by omega) (by omega) (by omega) (by omega) (by show x / 2 < 2147483648; omega) (by show y * 2147483648 % 2147483648 = 0; omega)).2
 refine ⟨_, h, by omega, by omega, ?_⟩
 show _ = _
 omega

set_option maxRecDepth 20000 in
set_option maxHeartbeats 1000000 in
theorem half_any (w : World) (b n c : Nat) (zs : List Int) (hM : Mine w b n zs) (hc : n ≤ c) (hb1 : n ≤ 4000000) :
  Calls Try.prog 96 #[.slice (some ⟨b, 0, none⟩) n c] w fun e w' => ∃ zs', e = .returned (.tuple #[]) ∧ Mine w' b n zs' ∧ val zs' = val zs / 2 ∧ w.grownBy w' (some b) ∧ w'.heap.size = w.heap.size := by
 have hzl := hidd hM.len
 have hdz := hM.digs
 go_enter Try.func96, Try.ntmps96
 go_wp2
 go_loopw [2] (fun vi wr => ∃ (k : Nat) (us : List Int), k ≤ n ∧ vi = .int .i64 k ∧ Mine wr b n us ∧ us.drop k = zs.drop k ∧ 2 * val (us.take k) = val (zs.take k) - zs.getD 0 0 % 2 + pw k * (zs.getD k 0 % 2) ∧ w.grownBy wr (some b) ∧ wr.heap.size = w.heap.size) (fun vi _ => n - (intOf vi).toNat)
 case atStart => exact ⟨0, zs, Nat.zero_le _, rfl, hM, rfl, by simp [val, pw_zero]; omega, World.grownBy.refl _ _, rfl⟩
 case round =>
  obtain ⟨k, us, hk, rfl, hU, hdr, hv, hg, hsz⟩ := hrel
  have HDR := hidd hdr
  have HV := hidd hv
  have HSZ := hidd hsz
  clear hdr hv hsz
  by_cases hkn : k < n
  ·obtain ⟨x, hx⟩ : ∃ x, us.getD k 0 = x := ⟨_, rfl⟩
   obtain ⟨y, hy⟩ : ∃ y, us.getD (k + 1) 0 = y := ⟨_, rfl⟩
   have hxd := hU.digs.getD k
   have hyd := hU.digs.getD (k + 1)
   rw [hx] at hxd
   rw [hy] at hyd
   have Hx := hidd hx
   have Hy := hidd hy
   clear hx hy
   obtain ⟨u, hor, hu0, hu1, HU⟩ := half_dig hxd.1 hxd.2 hyd.1 hyd.2
   have hfr := hU.frozen k
   have hcell := hU.cell hkn
   go_wp2_with fail
   refine (word_at _ _ _ _ _ (hU.sl hc) (by omega) k (by omega) x Hx.out _ (by omega)).mono ?_
   rintro e w' ⟨rfl, rfl⟩
   go_wp2_with fail
   refine (word_at _ _ _ _ _ (hU.sl hc) (by omega) (k + 1) (by omega) y Hy.out _ (by omega)).mono ?_
   rintro e w' ⟨rfl, rfl⟩
   go_wp2
   go_roundw
   case rel =>
    have hlen := hU.len
    have e1 : zs.getD k 0 = x := by
     have := congrArg (fun l => l.getD 0 0) HDR.out
     simp only [getD_drop, Nat.add_zero] at this
     rw [← this]; exact Hx.out
    have e2 : zs.getD (k + 1) 0 = y := by
     have := congrArg (fun l => l.getD 1 0) HDR.out
     simp only [getD_drop] at this
     rw [← this]; exact Hy.out
    refine ⟨k + 1, us.set k (u % 4294967296), by omega, by go_num, hU.set hkn (by omega) (by omega), ?_, shr_step (by omega) HV.out e1 e2 HU.out, grown_set hg _ _, by rw [World.size_setCell]; exact HSZ.out⟩
    rw [List.drop_set_of_lt (by omega), ← List.drop_drop, HDR.out, List.drop_drop]
   case measure => simp [intOf]; omega
  ·obtain rfl : k = n := by omega
   have HE : Hid (val us = val zs / 2) := by
    have h1 := HV.out
    rw [val_take_all us (by rw [hU.len]; omega), val_take_all zs (by rw [hzl.out]; omega), getD_out (xs := zs) (k := k) (by rw [hzl.out]; omega)] at h1
    have h2 := val_drop_any zs 0
    rw [List.drop_zero] at h2
    show val us = _
    omega
   go_wp2
   (try simp only [Exit.inBlock, Exit.then])
   exact bodyPost_end (results_none rfl _ _ _) rfl ⟨us, rfl, hU, HE.out, hg, HSZ.out⟩

theorem take_step {k : Nat} {us xs ys : List Int} {q x y : Int} (hk : k < us.length) (h : val (us.take k) = val (xs.take k) - val (ys.take k) + pw k * q) (hx : xs.getD k 0 = x) (hy : ys.getD k 0 = y) :
  val ((us.set k ((4294967296 + x - y - q) % 4294967296)).take (k + 1)) = val (xs.take (k + 1)) - val (ys.take (k + 1)) + pw (k + 1) * (1 - (4294967296 + x - y - q) / 4294967296) := by
 rw [val_take_succ, val_take_set _ _ _ _ (Nat.le_refl _), getD_set _ _ _ hk, val_take_succ, val_take_succ, hx, hy]
 have h1 := pw_split k (4294967296 + x - y - q)
 have h2 : pw k * (4294967296 + x - y - q) = pw (k + 1) + pw k * x - pw k * y - pw k * q := by
  rw [pw_succ, Int.mul_sub, Int.mul_sub, Int.mul_add]
 rw [Int.mul_sub, Int.mul_one]
 omega

theorem Sl.other {w w' : World} {ay : Option Addr} {m cy b : Nat} {ys : List Int} (h : Sl w ay m cy ys) (hg : w.grownBy w' (some b)) (hne : ∀ b' o, ay = some ⟨b', o, none⟩ → b' ≠ b) : Sl w' ay m cy ys := by
 refine ⟨h.len, h.cap, h.digs, ?_⟩
 rcases h.cells.2 with h1 | ⟨b', off, h1, h2, h3⟩
 ·exact .inl h1
 ·refine .inr ⟨b', off, h1, Nat.lt_of_lt_of_le h2 hg.size, fun j hj => ?_⟩
  have := hg.block b' h2 (by simpa using hne b' off h1)
  have h4 := h3 j hj
  unfold World.cell? at h4 ⊢
  rw [this]
  exact h4

set_option maxRecDepth 20000 in
set_option maxHeartbeats 1000000 in
theorem take_any (w : World) (b n c : Nat) (zs : List Int) (hM : Mine w b n zs) (hc : n ≤ c) (hb1 : n ≤ 4000000) (ay : Option Addr) (m cy : Nat) (ys : List Int) (hY : Sl w ay m cy ys) (hb2 : m ≤ 4000000) (hne : ∀ b' o, ay = some ⟨b', o, none⟩ → b' ≠ b) (hle : val ys ≤ val zs) :
  Calls Try.prog 95 #[.slice (some ⟨b, 0, none⟩) n c, .slice ay m cy] w fun e w' => ∃ zs', e = .returned (.tuple #[]) ∧ Mine w' b n zs' ∧ val zs' = val zs - val ys ∧ w.grownBy w' (some b) ∧ w'.heap.size = w.heap.size := by
 have hzl := hidd hM.len
 have hdz := hidd hM.digs
 have HLE := hidd hle
 have HNE := hidd hne
 clear hle hne
 go_enter Try.func95, Try.ntmps95
 go_wp2
 go_loopw [4, 5] (fun vc vi wr => ∃ (k : Nat) (q : Int) (us : List Int), k ≤ n ∧ vi = .int .i64 k ∧ vc = .int .u64 q ∧ 0 ≤ q ∧ q ≤ 1 ∧ Mine wr b n us ∧ us.drop k = zs.drop k ∧ val (us.take k) = val (zs.take k) - val (ys.take k) + pw k * q ∧ w.grownBy wr (some b) ∧ wr.heap.size = w.heap.size) (fun _ vi _ => n - (intOf vi).toNat)
 case atStart => exact ⟨0, 0, zs, Nat.zero_le _, rfl, rfl, by omega, by omega, hM, rfl, by simp [val], World.grownBy.refl _ _, rfl⟩
 case round =>
  obtain ⟨k, q, us, hk, rfl, rfl, hq0, hq1, hU, hdr, hv, hg, hsz⟩ := hrel
  have HDR := hidd hdr
  have HV := hidd hv
  have HSZ := hidd hsz
  clear hdr hv hsz
  by_cases hkn : k < n
  ·obtain ⟨x, hx⟩ : ∃ x, us.getD k 0 = x := ⟨_, rfl⟩
   obtain ⟨y, hy⟩ : ∃ y, ys.getD k 0 = y := ⟨_, rfl⟩
   have hxd := hU.digs.getD k
   have hyd := hY.digs.getD k
   rw [hx] at hxd
   rw [hy] at hyd
   obtain ⟨hx0, hx1⟩ := hxd
   obtain ⟨hy0, hy1⟩ := hyd
   have hcell := hU.cell hkn
   rw [hx] at hcell
   have Hx := hidd hx
   have Hy := hidd hy
   clear hx hy
   have hYr := hY.other hg HNE.out
   go_wp2
   go_quiet ((go_at_call 54; exact Calls.quiet_of_same (word_same _ _ _ _ _ (Sl.drewN hYr _) (by omega) k (by omega) y Hy.out)))
   obtain ⟨w2, hw2⟩ : ∃ w2, w2 = wr.drewN nq := ⟨_, rfl⟩
   rw [← hw2]
   have hU2 : Mine w2 b n us := by rw [hw2]; exact hU.drewN _
   have hg2 : w.grownBy w2 (some b) := by rw [hw2]; exact grown_drewN hg _
   have HS2 : Hid (w2.heap.size = w.heap.size) := by show _ = _; rw [hw2]; exact HSZ.out
   clear hw2 hcell hYr hU hg HSZ
   have hfr := hU2.frozen k
   have hcell := hU2.cell hkn
   go_wp2
   go_roundw
   case rel =>
    have hlen := hU2.len
    have e1 : zs.getD k 0 = x := by
     have := congrArg (fun l => l.getD 0 0) HDR.out
     simp only [getD_drop, Nat.add_zero] at this
     rw [← this]; exact Hx.out
    refine ⟨k + 1, 1 - (4294967296 + x - y - q) / 4294967296, us.set k ((4294967296 + x - y - q) % 4294967296), by omega, by go_num, by go_num, by omega, by omega, hU2.set hkn (by omega) (by omega), ?_, take_step (by omega) HV.out e1 Hy.out, grown_set hg2 _ _, by rw [World.size_setCell]; exact HS2.out⟩
    rw [List.drop_set_of_lt (by omega), ← List.drop_drop, HDR.out, List.drop_drop]
   case measure => simp [intOf]; omega
  ·obtain rfl : k = n := by omega
   have HE : Hid (val us = val zs - val ys) := by
    have h1 := HV.out
    rw [val_take_all us (by rw [hU.len]; omega), val_take_all zs (by rw [hzl.out]; omega)] at h1
    have h2 := val_split_any ys k
    have h3 := val_lt hdz.out
    rw [hzl.out] at h3
    have h4 := val_nonneg (hY.digs.drop k)
    have h5 := val_lt hU.digs
    rw [hU.len] at h5
    have h6 := val_nonneg (hY.digs.take k)
    have h7 := val_nonneg hU.digs
    have h8 := HLE.out
    have h9 := pw_pos k
    show val us = _
    have h10 : val (ys.drop k) = 0 := by
     rcases (by omega : val (ys.drop k) = 0 ∨ 1 ≤ val (ys.drop k)) with h | h
     ·exact h
     ·have := Int.mul_le_mul_of_nonneg_left h (Int.le_of_lt h9)
      omega
    rw [h10, Int.mul_zero] at h2
    rcases (by omega : q = 0 ∨ q = 1) with rfl | rfl
    ·omega
    ·omega
   go_wp2
   (try simp only [Exit.inBlock, Exit.then])
   exact bodyPost_end (results_none rfl _ _ _) rfl ⟨us, rfl, hU, HE.out, hg, HSZ.out⟩

end Go.Proofs.Ytihhlaagndingaa

namespace Go.Proofs.Ytihhlaagndingaa
open Go Go.RowKit

theorem sgn_same (b : Bool) (x y : Int) : sgn b (x + y) = sgn b x + sgn b y := by cases b <;> simp [sgn]; omega

set_option maxRecDepth 20000 in
set_option maxHeartbeats 2000000 in
theorem rAdd_any (w : World) (na nb : Bool) (ax ay : Option Addr) (n m cx cy : Nat) (xs ys : List Int) (hX : Sl w ax n cx xs) (hY : Sl w ay m cy ys) (hcx : Canon xs) (hcy : Canon ys) (hb1 : n ≤ 1000000) (hb2 : m ≤ 1000000) :
  Calls Try.prog 29 #[.agg #[.bool na, .slice ax n cx], .agg #[.bool nb, .slice ay m cy]] w (GivesInt w (sgn na (val xs) + sgn nb (val ys))) := by
 obtain ⟨w0, hw0, hA, hB, hC, hbl, HS⟩ := boxes3 w (.bool na) (.slice ax n cx) (.bool nb) (.slice ay m cy) 29
 have HCX := hidd hcx
 have HCY := hidd hcy
 clear hcx hcy
 by_cases hab : na = nb
 ·subst hab
  have HE : Hid (sgn na (val xs + val ys) = sgn na (val xs) + sgn na (val ys)) := sgn_same _ _ _
  have hnn : (na == na) = true := by simp
  go_enter Try.func29, Try.ntmps29
  go_wp2
  rw [← hw0]
  clear hw0
  have hXd := (hX.mono hbl).drew
  have hYd := (hY.mono hbl).drew
  have hCd : IntBox w0.drew (w.heap.size + 1 + 1) (.bool false) (.slice none 0 0) := hC
  have hcut : w.heap.size + 2 ≤ w0.heap.size := by have := HS.out; omega
  obtain ⟨ca0, ca1, _, _⟩ := hA
  obtain ⟨cb0, cb1, _, _⟩ := hB
  go_region_held3 (fun W => w.heap.size + 2 ≤ W.heap.size ∧ (∀ b o, b < w.heap.size + 2 → W.cell? ⟨b, o, none⟩ = w0.cell? ⟨b, o, none⟩) ∧ ∀ b o, b < w.heap.size + 2 → W.frozen? ⟨b, o, none⟩ = w0.frozen? ⟨b, o, none⟩)
   (first | exact Kept.start hcut | assumption | exact Kept.call (by assumption) (by assumption) | exact Kept.set (Kept.set (by assumption) (by omega) _) (by omega) _)
   (first | (go_at_call 50; (with_reducible refine (plus_any _ _ _ _ _ _ _ _ _ hXd hYd (by omega) (by omega)).mono ?_); rintro e w2 ⟨az, cz, lz, zs, rfl, hsz, hlz, hvz, hB2⟩) | (go_at_call 38; (with_reducible refine (made_any _ _ _ _ _ _ hsz (by omega)).mono ?_); rintro e w3 ⟨v, rfl, ⟨ng, ao, nn, cc, rs, rfl, hrs, hrc, hrn, hrz⟩, hb3⟩; obtain ⟨e0, e1, e2, e3⟩ := (hCd.mono hB2 hCd.lt).mono hb3 (Nat.lt_of_lt_of_le hCd.lt hB2.size)))
  go_wp2
  refine bodyPost_ret (v := .agg #[.bool ng, .slice ao nn cc]) ?_ rfl ?_
  ·simp [results, Try.results29, go_sem, e0, e1]
  ·have hb4 : Below w.heap.size w w3 := (hbl.drew.trans (hB2.mono (by have := HS.out; simp; omega))).trans (hb3.mono (by have := HS.out; have := hB2.size; simp at this; omega))
   exact gives_store ⟨e0, e1, e2, e3⟩ hrs hrc hrn (by rw [← hrz, hvz]; exact HE.out.symm) hb4 (by omega)
 ·have hnn : (na == nb) = false := by simpa using hab
  go_enter Try.func29, Try.ntmps29
  go_wp2_with fail
  rw [← hw0]
  clear hw0
  refine (size_any _ _ _ _ _ _ _ _ _ (hX.mono hbl) (hY.mono hbl) HCX.out HCY.out (by omega) (by omega)).mono ?_
  rintro e w1 ⟨rfl, hd⟩
  have hbl1 : Below w.heap.size w w1 := hbl.trans (hd.below _)
  obtain ⟨d, hw1⟩ := hd
  have hA1 : IntBox w1 w.heap.size (.bool na) (.slice ax n cx) := by rw [hw1]; exact hA
  have hB1 : IntBox w1 (w.heap.size + 1) (.bool nb) (.slice ay m cy) := by rw [hw1]; exact hB
  have hC1 : IntBox w1 (w.heap.size + 1 + 1) (.bool false) (.slice none 0 0) := by rw [hw1]; exact hC
  have HS1 : Hid (w1.heap.size = w.heap.size + 3) := by show _ = _; rw [hw1]; exact HS.out
  clear hw1 hA hB hC hbl HS
  rename Below w.heap.size w w1 => hbl
  rename IntBox w1 w.heap.size (.bool na) (.slice ax n cx) => hA
  rename IntBox w1 (w.heap.size + 1) (.bool nb) (.slice ay m cy) => hB
  rename IntBox w1 (w.heap.size + 1 + 1) (.bool false) (.slice none 0 0) => hC
  rename Hid (w1.heap.size = w.heap.size + 3) => HS
  have hx0 := val_nonneg hX.digs
  have hy0 := val_nonneg hY.digs
  by_cases hle : val ys ≤ val xs
  ·have HL := hidd hle
   have hge : decide (cmpI (val xs) (val ys) ≥ 0) = true := by
    rw [decide_eq_true_eq]; unfold cmpI; rw [if_neg (by omega)]; split <;> omega
   have HE : Hid (sgn na (val xs - val ys) = sgn na (val xs) + sgn nb (val ys)) := by
    show _ = _
    cases na <;> cases nb <;> simp [sgn] at hab ⊢ <;> omega
   clear hle hx0 hy0
   generalize cmpI (val xs) (val ys) = cc0 at *
   go_wp2
   have hXd := (hX.mono hbl).drew
   have hYd := (hY.mono hbl).drew
   have hCd : IntBox w1.drew (w.heap.size + 1 + 1) (.bool false) (.slice none 0 0) := hC
   have hcut : w.heap.size + 2 ≤ w1.heap.size := by have := HS.out; omega
   obtain ⟨ca0, ca1, _, _⟩ := hA
   obtain ⟨cb0, cb1, _, _⟩ := hB
   go_region_held3 (fun W => w.heap.size + 2 ≤ W.heap.size ∧ (∀ b o, b < w.heap.size + 2 → W.cell? ⟨b, o, none⟩ = w1.cell? ⟨b, o, none⟩) ∧ ∀ b o, b < w.heap.size + 2 → W.frozen? ⟨b, o, none⟩ = w1.frozen? ⟨b, o, none⟩)
    (first | exact Kept.start hcut | assumption | exact Kept.call (by assumption) (by assumption) | exact Kept.set (Kept.set (by assumption) (by omega) _) (by omega) _)
    (first | (go_at_call 51; (with_reducible refine (minus_any _ _ _ _ _ _ _ _ _ hXd hYd HCY.out HL.out (by omega) (by omega)).mono ?_); rintro e w2 ⟨az, cz, zs, rfl, hsz, hvz, hB2⟩) | (go_at_call 38; (with_reducible refine (made_any _ _ _ _ _ _ hsz (by omega)).mono ?_); rintro e w3 ⟨v, rfl, ⟨ng, ao, nn, cc, rs, rfl, hrs, hrc, hrn, hrz⟩, hb3⟩; obtain ⟨e0, e1, e2, e3⟩ := (hCd.mono hB2 hCd.lt).mono hb3 (Nat.lt_of_lt_of_le hCd.lt hB2.size)))
   go_wp2
   refine bodyPost_ret (v := .agg #[.bool ng, .slice ao nn cc]) ?_ rfl ?_
   ·simp [results, Try.results29, go_sem, e0, e1]
   ·have hb4 : Below w.heap.size w w3 := (hbl.drew.trans (hB2.mono (by have := HS.out; simp; omega))).trans (hb3.mono (by have := HS.out; have := hB2.size; simp at this; omega))
    exact gives_store ⟨e0, e1, e2, e3⟩ hrs hrc hrn (by rw [← hrz, hvz]; exact HE.out.symm) hb4 (by omega)
  ·have HL : Hid (val xs ≤ val ys) := by show _ ≤ _; omega
   have hge : decide (cmpI (val xs) (val ys) ≥ 0) = false := by
    rw [decide_eq_false_iff_not]; unfold cmpI; rw [if_pos (by omega)]; omega
   have HE : Hid (sgn nb (val ys - val xs) = sgn na (val xs) + sgn nb (val ys)) := by
    show _ = _
    cases na <;> cases nb <;> simp [sgn] at hab ⊢ <;> omega
   clear hle hx0 hy0
   generalize cmpI (val xs) (val ys) = cc0 at *
   go_wp2
   have hXd := (hX.mono hbl).drew
   have hYd := (hY.mono hbl).drew
   have hCd : IntBox w1.drew (w.heap.size + 1 + 1) (.bool false) (.slice none 0 0) := hC
   have hcut : w.heap.size + 2 ≤ w1.heap.size := by have := HS.out; omega
   obtain ⟨ca0, ca1, _, _⟩ := hA
   obtain ⟨cb0, cb1, _, _⟩ := hB
   go_region_held3 (fun W => w.heap.size + 2 ≤ W.heap.size ∧ (∀ b o, b < w.heap.size + 2 → W.cell? ⟨b, o, none⟩ = w1.cell? ⟨b, o, none⟩) ∧ ∀ b o, b < w.heap.size + 2 → W.frozen? ⟨b, o, none⟩ = w1.frozen? ⟨b, o, none⟩)
    (first | exact Kept.start hcut | assumption | exact Kept.call (by assumption) (by assumption) | exact Kept.set (Kept.set (by assumption) (by omega) _) (by omega) _)
    (first | (go_at_call 51; (with_reducible refine (minus_any _ _ _ _ _ _ _ _ _ hYd hXd HCX.out HL.out (by omega) (by omega)).mono ?_); rintro e w2 ⟨az, cz, zs, rfl, hsz, hvz, hB2⟩) | (go_at_call 38; (with_reducible refine (made_any _ _ _ _ _ _ hsz (by omega)).mono ?_); rintro e w3 ⟨v, rfl, ⟨ng, ao, nn, cc, rs, rfl, hrs, hrc, hrn, hrz⟩, hb3⟩; obtain ⟨e0, e1, e2, e3⟩ := (hCd.mono hB2 hCd.lt).mono hb3 (Nat.lt_of_lt_of_le hCd.lt hB2.size)))
   go_wp2
   refine bodyPost_ret (v := .agg #[.bool ng, .slice ao nn cc]) ?_ rfl ?_
   ·simp [results, Try.results29, go_sem, e0, e1]
   ·have hb4 : Below w.heap.size w w3 := (hbl.drew.trans (hB2.mono (by have := HS.out; simp; omega))).trans (hb3.mono (by have := HS.out; have := hB2.size; simp at this; omega))
    exact gives_store ⟨e0, e1, e2, e3⟩ hrs hrc hrn (by rw [← hrz, hvz]; exact HE.out.symm) hb4 (by omega)
theorem RAddV {w : World} {v v' : Value} {z z' : Int} (h : Num w v z) (h' : Num w v' z') : Calls Try.prog 29 #[v, v'] w (GivesInt w (z + z')) := by
 obtain ⟨neg, ao, n, c, xs, rfl, hs, hn, rfl, hc, _⟩ := h
 obtain ⟨neg', ao', n', c', xs', rfl, hs', hn', rfl, hc', _⟩ := h'
 exact rAdd_any _ _ _ _ _ _ _ _ _ _ _ hs hs' hc hc' (by omega) (by omega)

theorem boxes3n (w : World) {n n' : Bool} {ao ao' : Option Addr} {k c k' c' : Nat} {z z' : Int} (h : Num w (.agg #[.bool n, .slice ao k c]) z) (h' : Num w (.agg #[.bool n', .slice ao' k' c']) z') (t : TypeId) :
  ∃ w0, w0 = ((w.alloc (.cells #[.bool n, .slice ao k c] t)).alloc (.cells #[.bool n', .slice ao' k' c'] t)).alloc (.cells #[.bool false, .slice none 0 0] t) ∧
   (∀ W, Below (w.heap.size + 2) w0 W → BoxNum W w.heap.size z ∧ BoxNum W (w.heap.size + 1) z' ∧ Below w.heap.size w W) ∧ BoxNum w0 (w.heap.size + 1 + 1) 0 ∧ Below w.heap.size w w0 ∧ w0.heap.size = w.heap.size + 3 := by
 obtain ⟨w0, hw0, hA, hB, hC, hbl, HS⟩ := boxes3 w (.bool n) (.slice ao k c) (.bool n') (.slice ao' k' c') t
 refine ⟨w0, hw0, fun W hb => ?_, ⟨_, _, _, _, hC, Num.zero _⟩, hbl, HS.out⟩
 have hbW : Below w.heap.size w W := hbl.trans (hb.mono (by omega))
 exact ⟨⟨_, _, _, _, hA.mono hb (by omega), h.mono hbW⟩, ⟨_, _, _, _, hB.mono hb (by omega), h'.mono hbW⟩, hbW⟩

theorem enter_rNeg (args : Array Value) (w : World) : (callFunc 97 args).run Try.prog w = .ok (.enter 97 args) w := enter_of Try.func97 (by kernel_rfl) rfl args w
theorem enter_rAdd (args : Array Value) (w : World) : (callFunc 29 args).run Try.prog w = .ok (.enter 29 args) w := enter_of Try.func29 (by kernel_rfl) rfl args w

set_option maxRecDepth 10000 in
set_option maxRecDepth 20000 in
set_option maxHeartbeats 2000000 in
theorem RSubV {w : World} {v v' : Value} {z z' : Int} (h : Num w v z) (h' : Num w v' z') {K : Nat} (hz : ab z < pw K) (hz' : ab z' < pw K) (hK : K ≤ 800000) : Calls Try.prog 89 #[v, v'] w (GivesInt w (z - z')) := by
 obtain ⟨n, ao, k, c, rfl⟩ := h.parts
 obtain ⟨n', ao', k', c', rfl⟩ := h'.parts
 obtain ⟨w0, hw0, hXW, hR, hbl, hsz⟩ := boxes3n w h h' 29
 have Bn : Hid (ab (-z') < pw K) := ab_negB hz'
 have Bs : Hid (ab (z - z') < pw (K + 1)) := ab_subB hz hz' (by omega) (by omega)
 go_enter Try.func89, Try.ntmps89
 go_upto_region 1 with (fail)
 rw [← hw0]
 clear hw0
 go_wp2
 have hp : (plan [Fc.num z, Fc.num z', Fc.num (-z'), Fc.num (z - z'), Fc.any] [(w.heap.size + 1 + 1, 4, 0, z - z')] []).Ok (w.heap.size + 2) w0.heap.size := plan_ok (by simp; omega) (by simp) (by simp) (by omega)
 have hm := PMono.of hp
 refine region_steps (p := plan [Fc.num z, Fc.num z', Fc.num (-z'), Fc.num (z - z'), Fc.any] [(w.heap.size + 1 + 1, 4, 0, z - z')] []) (B := w.heap.size + 2) (B0 := w0.heap.size) (w0 := w0) (by kernel_rfl) rfl rfl (plan_start (by simp; exact hR) (Below.refl _ _))
  ⟨?_, ?_, ?_, ?_, ?_, trivial⟩ ?_
 ·exact g_load (b := w.heap.size) (z := z) hm ⟨by simp [plan], by simp [plan]⟩ trivial (src_out rfl rfl (fun W hb => ⟨rfl, (hXW W hb).1⟩)) (fun v w h => h)
 ·exact g_load (b := w.heap.size + 1) (z := z') hm ⟨by simp [plan], by simp [plan]⟩ trivial (src_out rfl rfl (fun W hb => ⟨rfl, (hXW W hb).2.1⟩)) (fun v w h => h)
 ·exact g_call1 (F := (Fc.num z').P) hm ⟨by simp [plan], by simp [plan]⟩ trivial enter_rNeg (src_in 1 rfl rfl (by simp) rfl (fun v w h => h)) (fun v w h => exK (RNegV h) Bn.out (by omega))
 ·exact g_call2 (F := (Fc.num z).P) (G := (Fc.num (-z')).P) hm ⟨by simp [plan], by simp [plan]⟩ trivial enter_rAdd (src_in 0 rfl rfl (by simp) rfl (fun v w h => h)) (src_in 2 rfl rfl (by simp) rfl (fun v w h => h)) (fun v v' w h h' => by
   have := RAddV h h'
   rw [show z + -z' = z - z' by omega] at this
   exact exK this Bs.out (by omega))
 ·exact st_storeOld (b := w.heap.size + 1 + 1) (j := 3) (z := 0) (z' := z - z') hp rfl (by simp [plan]) rfl rfl rfl (by simp) rfl (fun v w h => h) (fun _ _ => trivial) (by simp [plan]) (by simp [plan])
 ·intro L vs w2 hL hG
  obtain ⟨ng, ao2, k2, c2, ⟨e0, e1, e2, e3⟩, hN⟩ : BoxNum w2 (w.heap.size + 1 + 1) (z - z') := by
   have := hG.old (w.heap.size + 1 + 1, 4, 0, z - z') (by simp [plan])
   simpa [hL 4 (by simp)] using this
  have hb : Below w.heap.size w w2 := (hXW w2 hG.below).2.2
  rw [lay_all hL]
  simp only [putAll, dstOf, List.length_cons, List.length_nil, Nat.zero_add, Nat.reduceAdd, List.getElem?_toArray, List.getElem?_cons_zero, List.getElem?_cons_succ, Option.bind_some, Act.put, List.setIfInBounds_toArray, List.set_cons_succ, List.set_cons_zero]
  clear hL hG hp
  go_wp2
  refine bodyPost_ret (v := .agg #[.bool ng, .slice ao2 k2 c2]) ?_ rfl ⟨_, rfl, hN.isInt, hb⟩
  simp [results, Try.results89, go_sem, e0, e1]

theorem rmac {i k : Nat} {us zs ys : List Int} {q x y z : Int} (hk : i + k < us.length) (h : val (us.take (i + k)) + pw (i + k) * q = val (zs.take (i + k)) + pw i * (x * val (ys.take k))) (hz : zs.getD (i + k) 0 = z) (hy : ys.getD k 0 = y) :
  val ((us.set (i + k) ((q + (x * y + z)) % 4294967296)).take (i + (k + 1))) + pw (i + (k + 1)) * ((q + (x * y + z)) / 4294967296) = val (zs.take (i + (k + 1))) + pw i * (x * val (ys.take (k + 1))) := by
 rw [show i + (k + 1) = (i + k) + 1 by omega, val_take_succ, val_take_set _ _ _ _ (Nat.le_refl _), getD_set _ _ _ hk, val_take_succ zs, val_take_succ ys, hz, hy]
 have h1 := pw_split (i + k) (q + (x * y + z))
 rw [Int.mul_add, Int.mul_add] at h1
 rw [Int.mul_add, Int.mul_add]
 have h2 : pw i * (x * (pw k * y)) = pw (i + k) * (x * y) := by rw [pw_add]; ac_rfl
 rw [h2]
 omega

set_option maxRecDepth 20000 in
set_option maxHeartbeats 2000000 in
theorem rMul_any (w : World) (na nb : Bool) (ax ay : Option Addr) (n m cx cy : Nat) (xs ys : List Int) (hX : Sl w ax n cx xs) (hY : Sl w ay m cy ys) (hb1 : n ≤ 1000000) (hb2 : m ≤ 1000000) :
  Calls Try.prog 30 #[.agg #[.bool na, .slice ax n cx], .agg #[.bool nb, .slice ay m cy]] w (GivesInt w (sgn na (val xs) * sgn nb (val ys))) := by
 obtain ⟨w0, hw0, hA, hB, hC, hbl, HS⟩ := boxes3 w (.bool na) (.slice ax n cx) (.bool nb) (.slice ay m cy) 29
 have hn := hidd hX.len
 have hm := hidd hY.len
 obtain ⟨ca0, ca1, _, _⟩ := hA
 obtain ⟨cb0, cb1, _, _⟩ := hB
 go_enter Try.func30, Try.ntmps30
 go_upto_region 1 with (fail)
 rw [← hw0]
 clear hw0
 go_wp2_with (at_make; refine wpList_make_words _ rfl _ _ 27 rfl 82 Try.underlying27 (by kernel_rfl) _ _ _ _ rfl rfl (n + m) rfl rfl (by omega) ?_; intro w1 hrow hb1' hs1)
 obtain ⟨B, hB3⟩ : ∃ B, B = w0.heap.size := ⟨_, rfl⟩
 rw [← hB3] at hrow hb1' hs1
 rw [← hB3]
 have HB4 : Hid (B = w.heap.size + 3) := by show B = _; rw [hB3]; exact HS.out
 have hBlt : w.heap.size + 2 < B := by have := HB4.out; omega
 clear hB3 HS HB4
 go_loopw [6] (fun vi wr => ∃ (i : Nat) (zs : List Int), i ≤ n ∧ vi = .int .i64 i ∧ zs.length = n + m ∧ Row wr 82 B zs ∧ Below B w0 wr ∧ val (zs.take (i + m)) = val (xs.take i) * val ys) (fun vi _ => n - (intOf vi).toNat)
 case atStart => exact ⟨0, _, Nat.zero_le _, rfl, by simp, hrow, hb1', by rw [List.take_replicate, val_replicate]; simp [val]⟩
 case round =>
  obtain ⟨i, zs, hi, rfl, hzl, hr, hbr, hv⟩ := hrel
  have HZL := hidd hzl
  have HV := hidd hv
  clear hzl hv hrow hb1' hs1
  have da0 := (hbr.cell (p := ⟨w.heap.size, 0, none⟩) (by show w.heap.size < _; omega)).trans ca0
  have da1 := (hbr.cell (p := ⟨w.heap.size, 1, none⟩) (by show w.heap.size < _; omega)).trans ca1
  have db0 := (hbr.cell (p := ⟨w.heap.size + 1, 0, none⟩) (by show w.heap.size + 1 < _; omega)).trans cb0
  have db1 := (hbr.cell (p := ⟨w.heap.size + 1, 1, none⟩) (by show w.heap.size + 1 < _; omega)).trans cb1
  have hbw : Below w.heap.size w wr := hbl.trans (hbr.mono (by omega))
  by_cases hin : i < n
  ·obtain ⟨b1, off1, rfl, hbl1, x, hxc0, hx0, hx1, HX⟩ := hX.cells.at (k := i) (by rw [hn.out]; exact hin)
   go_wp2
   go_loopw [7, 8] (fun vc vk wq => ∃ (k : Nat) (q : Int) (us : List Int), k ≤ m ∧ vk = .int .i64 k ∧ vc = .int .u64 q ∧ 0 ≤ q ∧ q < 4294967296 ∧ us.length = n + m ∧ Row wq 82 B us ∧ Below B w0 wq ∧ us.drop (i + k) = zs.drop (i + k) ∧
    val (us.take (i + k)) + pw (i + k) * q = val (zs.take (i + k)) + pw i * (x * val (ys.take k))) (fun _ vk _ => m - (intOf vk).toNat)
   case atStart => exact ⟨0, 0, zs, Nat.zero_le _, rfl, rfl, by omega, by omega, HZL.out, hr, hbr, rfl, by simp [val]⟩
   case round =>
    obtain ⟨k, q, us, hk, rfl, rfl, hq0, hq1, hul, hr2, hbr2, hdr, hv2⟩ := hrel
    have HUL := hidd hul
    have HDR := hidd hdr
    have HV2 := hidd hv2
    clear hul hdr hv2 da0 da1 db0 db1 hr hbr hbw
    have da0 := (hbr2.cell (p := ⟨w.heap.size, 0, none⟩) (by show w.heap.size < _; omega)).trans ca0
    have da1 := (hbr2.cell (p := ⟨w.heap.size, 1, none⟩) (by show w.heap.size < _; omega)).trans ca1
    have db0 := (hbr2.cell (p := ⟨w.heap.size + 1, 0, none⟩) (by show w.heap.size + 1 < _; omega)).trans cb0
    have db1 := (hbr2.cell (p := ⟨w.heap.size + 1, 1, none⟩) (by show w.heap.size + 1 < _; omega)).trans cb1
    have hbw2 : Below w.heap.size w wr := hbl.trans (hbr2.mono (by omega))
    have hul := HUL.out
    by_cases hkm : k < m
    ·obtain ⟨b2, off2, rfl, hbl2, y, hyc0, hy0, hy1, HY⟩ := hY.cells.at (k := k) (by rw [hm.out]; exact hkm)
     have hku : i + k < us.length := by omega
     obtain ⟨z, hzc, hz0, hz1, HZ⟩ := hr2.at hku
     have hfr := hr2.frozen (i + k)
     have hxc := (hbw2.cell (p := ⟨b1, off1 + i, none⟩) hbl1).trans hxc0
     have hyc := (hbw2.cell (p := ⟨b2, off2 + k, none⟩) hbl2).trans hyc0
     obtain ⟨hp0, hp1⟩ := mul_bd hx0 hx1 hy0 hy1
     have hw1 : IntKind.u64.wrap x = x := IntWalk.u64_in _ (by omega)
     have hw2 : IntKind.u64.wrap y = y := IntWalk.u64_in _ (by omega)
     have hw3 : IntKind.u64.wrap (x * y) = x * y := IntWalk.u64_in _ (by omega)
     have hw4 : IntKind.u64.wrap z = z := IntWalk.u64_in _ (by omega)
     have hw5 : IntKind.u64.wrap (x * y + z) = x * y + z := IntWalk.u64_in _ (by omega)
     have hw6 : IntKind.u64.wrap (q + (x * y + z)) = q + (x * y + z) := IntWalk.u64_in _ (by omega)
     have hik : IntKind.i64.wrap ((i : Int) + (k : Int)) = ((i + k : Nat) : Int) := by rw [Int.natCast_add]; exact IntWalk.i64_in _ (by omega)
     have hiknm : i + k < n + m := by omega
     clear hul
     go_wp2
     go_quiet (fail)
     obtain ⟨w2, hW2⟩ : ∃ w2, w2 = wr.drewN nq := ⟨_, rfl⟩
     rw [← hW2]
     have hrw : Row w2 82 B us := by rw [hW2]; exact hr2
     have hbw : Below B w0 w2 := by rw [hW2]; exact hbr2.trans ((Drawn.refl wr).drewN nq |>.below _)
     clear hW2 hr2 hbr2 hbw2 hzc hfr hxc hyc da0 da1 db0 db1 hw1 hw2 hw3 hw4 hw5 hw6
     have hfr := hrw.frozen (i + k)
     have hzc := hrw.cell hku
     go_wp2
     go_roundw
     case rel =>
      refine ⟨k + 1, (q + (x * y + z)) / 4294967296, us.set (i + k) ((q + (x * y + z)) % 4294967296), by omega, by go_num, by go_num, by omega, by omega, by rw [List.length_set]; exact HUL.out, hrw.set ⟨by omega, by omega⟩, hbw.setCell (Nat.le_refl _) _, ?_, ?_⟩
      ·rw [List.drop_set_of_lt (by omega)]
       have := congrArg (List.drop 1) HDR.out
       simpa [List.drop_drop, Nat.add_assoc] using this
      ·have hzz : zs.getD (i + k) 0 = z := by
        have := congrArg (fun l : List Int => l.getD 0 0) HDR.out
        simp only [getD_drop, Nat.add_zero] at this
        rw [← this]; exact HZ.out
       exact rmac hku HV2.out hzz HY.out
     case measure => simp [intOf]; omega
    ·obtain rfl : k = m := by omega
     have hzc := hr2.cell (j := i + k) (by omega)
     have hfr := hr2.frozen (i + k)
     have hik : IntKind.i64.wrap ((i : Int) + (k : Int)) = ((i + k : Nat) : Int) := by rw [Int.natCast_add]; exact IntWalk.i64_in _ (by omega)
     have hqm : q % 4294967296 = q := by omega
     clear hul
     go_wp2
     go_roundw
     case rel =>
      refine ⟨i + 1, us.set (i + k) q, by omega, by go_num, by rw [List.length_set]; exact HUL.out, hr2.set ⟨by omega, by omega⟩, hbr2.setCell (Nat.le_refl _) _, ?_⟩
      rw [show i + 1 + k = (i + k) + 1 by omega, val_take_succ, val_take_set _ _ _ _ (Nat.le_refl _), getD_set _ _ _ (by rw [HUL.out]; omega), val_take_succ, HX.out]
      have h1 := HV2.out
      rw [HV.out, val_take_all ys (by rw [hm.out]; omega)] at h1
      rw [Int.add_mul, h1]
      congr 1
      ac_rfl
     case measure => simp [intOf]; omega
  ·obtain rfl : i = n := by omega
   have HE : Hid (val zs = val xs * val ys) := by
    have h1 := HV.out
    rw [val_take_all zs (by rw [HZL.out]; omega), val_take_all xs (by rw [hn.out]; omega)] at h1
    exact h1
   have hS := hr.sl HZL.out
   have hCr := hC.mono hbr (by omega)
   go_wp2_with fail
   refine (made_any _ _ _ _ _ _ hS (by omega)).mono ?_
   rintro e w3 ⟨v, rfl, ⟨ng, ao, nn, cc, rs, rfl, hrs, hrc, hrn, hrz⟩, hb3⟩
   obtain ⟨e0, e1, e2, e3⟩ := hCr.mono hb3 hCr.lt
   have hb4 : Below w.heap.size w w3 := hbw.trans (hb3.mono hbw.size)
   have hz : sgn na (val xs) * sgn nb (val ys) = sgn ng (val rs) := by
    rw [← hrz, HE.out]
    cases na <;> cases nb <;> simp [sgn, Int.mul_neg, Int.neg_mul]
   have HZ := hidd hz
   clear hrz hz
   go_wp2
   refine bodyPost_ret (v := .agg #[.bool ng, .slice ao nn cc]) ?_ rfl ?_
   ·simp [results, Try.results30, go_sem, e0, e1]
   ·exact gives_store ⟨e0, e1, e2, e3⟩ hrs hrc hrn HZ.out hb4 (by omega)

theorem RMulV {w : World} {v v' : Value} {z z' : Int} (h : Num w v z) (h' : Num w v' z') : Calls Try.prog 30 #[v, v'] w (GivesInt w (z * z')) := by
 obtain ⟨neg, ao, n, c, xs, rfl, hs, hn, rfl, hc, _⟩ := h
 obtain ⟨neg', ao', n', c', xs', rfl, hs', hn', rfl, hc', _⟩ := h'
 exact rMul_any _ _ _ _ _ _ _ _ _ _ _ hs hs' (by omega) (by omega)

end Go.Proofs.Ytihhlaagndingaa

namespace Go.Proofs.Ytihhlaagndingaa
open Go Go.RowKit

def DivR (w : World) (X Y : Int) (e : Ending) (w' : World) : Prop :=
 ∃ aq lq cq qs ar lr cr rs, e = .returned (.agg #[.slice aq lq cq, .slice ar lr cr]) ∧ Sl w' aq lq cq qs ∧ Sl w' ar lr cr rs ∧ lq ≤ 3000000 ∧ lr ≤ 3000000 ∧ val qs = X / Y ∧ val rs = X % Y ∧ Below w.heap.size w w'

theorem val_two {xs : List Int} (h : xs.length ≤ 2) : val xs = xs.getD 0 0 + xs.getD 1 0 * 4294967296 := by
 have h1 := val_drop_any xs 0
 have h2 := val_drop_any xs 1
 rw [List.drop_of_length_le (show xs.length ≤ 1 + 1 by omega)] at h2
 rw [List.drop_zero, h2] at h1
 rw [h1]
 show _ + 4294967296 * (_ + 4294967296 * 0) = _
 omega

theorem or_pair {x y : Int} (hx0 : 0 ≤ x) (hx1 : x < 4294967296) (hy0 : 0 ≤ y) (hy1 : y < 4294967296) : bits .or .u64 x (y * 4294967296) = x + y * 4294967296 := (or_halves x y hx0 hx1 hy0 hy1).1

theorem pairs_end {w S : World} {N : Nat} (hS : S.heap.size = N) (hb : Below w.heap.size w S) (T U : Int) (hT0 : 0 ≤ T) (hT1 : T < 18446744073709551616) (hU0 : 0 ≤ U) (hU1 : U < 18446744073709551616) :
  Sl (((S.alloc (.cells #[.int .u32 (T % 4294967296), .int .u32 (T / 4294967296)] 82)).alloc (.cells #[.int .u32 (U % 4294967296), .int .u32 (U / 4294967296)] 82)).drew) (some ⟨N, 0, none⟩) 2 2 [T % 4294967296, T / 4294967296] ∧
  Sl (((S.alloc (.cells #[.int .u32 (T % 4294967296), .int .u32 (T / 4294967296)] 82)).alloc (.cells #[.int .u32 (U % 4294967296), .int .u32 (U / 4294967296)] 82)).drew) (some ⟨N + 1, 0, none⟩) 2 2 [U % 4294967296, U / 4294967296] ∧
  Below w.heap.size w (((S.alloc (.cells #[.int .u32 (T % 4294967296), .int .u32 (T / 4294967296)] 82)).alloc (.cells #[.int .u32 (U % 4294967296), .int .u32 (U / 4294967296)] 82)).drew) ∧
  val [T % 4294967296, T / 4294967296] = T ∧ val [U % 4294967296, U / 4294967296] = U := by
 subst hS
 obtain ⟨s1, v1⟩ := halves_sl S 82 rfl T hT0 hT1
 obtain ⟨s2, v2⟩ := halves_sl (S.alloc (.cells #[.int .u32 (T % 4294967296), .int .u32 (T / 4294967296)] 82)) 82 rfl U hU0 hU1
 rw [World.size_alloc] at s2
 have h1 := hb.alloc hb.size (.cells #[.int .u32 (T % 4294967296), .int .u32 (T / 4294967296)] 82)
 have h2 := h1.alloc h1.size (.cells #[.int .u32 (U % 4294967296), .int .u32 (U / 4294967296)] 82)
 exact ⟨(s1.mono (alloc_below _ _)).drew, s2.drew, h2.drew, v1.out, v2.out⟩

theorem set_pair {w w0 : World} {p q : Value} (hbl : Below w.heap.size w w0) (hI : IntBox w0 w.heap.size p q) (u v : Value) :
  ∃ S, S = (w0.setCell ⟨w.heap.size, 0, none⟩ u).setCell ⟨w.heap.size, 1, none⟩ v ∧ S.heap.size = w0.heap.size ∧ Below w.heap.size w S ∧ S.cell? ⟨w.heap.size, 0, none⟩ = some u ∧ S.cell? ⟨w.heap.size, 1, none⟩ = some v := by
 obtain ⟨e0, e1, _, _⟩ := hI
 have h1 : (w0.setCell ⟨w.heap.size, 0, none⟩ u).cell? ⟨w.heap.size, 1, none⟩ = some q := by
  rw [World.cell?_setCell_other _ _ _ _ (by intro e; cases e)]; exact e1
 refine ⟨_, rfl, by rw [World.size_setCell, World.size_setCell], (hbl.setCell (Nat.le_refl _) _).setCell (Nat.le_refl _) _, ?_, ?_⟩
 ·rw [World.cell?_setCell_other _ _ _ _ (by intro e; cases e)]
  exact World.cell?_setCell_same _ _ _ e0
 ·exact World.cell?_setCell_same _ _ _ h1

set_option maxRecDepth 20000 in
set_option maxHeartbeats 2000000 in
theorem divideSmall_any (w : World) (ax ay : Option Addr) (n m cx cy : Nat) (xs ys : List Int) (hX : Sl w ax n cx xs) (hY : Sl w ay m cy ys) (hy0 : 0 < val ys) (hn : n ≤ 2) (hm : m ≤ 2) :
  Calls Try.prog 88 #[.slice ax n cx, .slice ay m cy] w (DivR w (val xs) (val ys)) := by
 obtain ⟨x0, hx0⟩ : ∃ x, xs.getD 0 0 = x := ⟨_, rfl⟩
 obtain ⟨x1, hx1⟩ : ∃ x, xs.getD 1 0 = x := ⟨_, rfl⟩
 obtain ⟨y0, hy0'⟩ : ∃ x, ys.getD 0 0 = x := ⟨_, rfl⟩
 obtain ⟨y1, hy1⟩ : ∃ x, ys.getD 1 0 = x := ⟨_, rfl⟩
 have dx0 := hX.digs.getD 0
 have dx1 := hX.digs.getD 1
 have dy0 := hY.digs.getD 0
 have dy1 := hY.digs.getD 1
 have vx := val_two (show xs.length ≤ 2 by rw [hX.len]; exact hn)
 have vy := val_two (show ys.length ≤ 2 by rw [hY.len]; exact hm)
 rw [hx0] at dx0 vx
 rw [hx1] at dx1 vx
 rw [hy0'] at dy0 vy
 rw [hy1] at dy1 vy
 have ox := or_pair dx0.1 dx0.2 dx1.1 dx1.2
 have oy := or_pair dy0.1 dy0.2 dy1.1 dy1.2
 obtain ⟨X, hXe⟩ : ∃ X, X = x0 + x1 * 4294967296 := ⟨_, rfl⟩
 obtain ⟨Y, hYe⟩ : ∃ Y, Y = y0 + y1 * 4294967296 := ⟨_, rfl⟩
 rw [← hXe] at ox vx
 rw [← hYe] at oy vy
 rw [vx, vy]
 rw [vy] at hy0
 have hX0 : 0 ≤ X := by omega
 have hX1 : X < 18446744073709551616 := by omega
 have hY1 : Y < 18446744073709551616 := by omega
 have hx1m : x1 * 4294967296 < 18446744073709551616 := by omega
 have hx1n : 0 ≤ x1 * 4294967296 := by omega
 have hy1m : y1 * 4294967296 < 18446744073709551616 := by omega
 have hy1n : 0 ≤ y1 * 4294967296 := by omega
 have Hx0 := hidd hx0
 have Hx1 := hidd hx1
 have Hy0 := hidd hy0'
 have Hy1 := hidd hy1
 clear hx0 hx1 hy0' hy1 hXe hYe vx vy dx0 dx1 dy0 dy1
 obtain ⟨w0, hw0⟩ : ∃ w0, w0 = w.alloc (.cells #[.slice none 0 0, .slice none 0 0] 110) := ⟨_, rfl⟩
 have hbl : Below w.heap.size w w0 := by rw [hw0]; exact alloc_below _ _
 have hX0w := hX.mono hbl
 have hY0w := hY.mono hbl
 have hI : IntBox w0 w.heap.size (.slice none 0 0) (.slice none 0 0) := by rw [hw0]; exact IntBox.new _ _ _ _
 have hsz : w0.heap.size = w.heap.size + 1 := by rw [hw0]; simp
 have HSZ := hidd hsz
 clear hsz
 go_enter Try.func88, Try.ntmps88
 go_upto_region 1 with (fail)
 rw [← hw0]
 clear hw0
 go_wp2_with fail
 refine (word_at _ _ _ _ _ hX0w (by omega) 0 (by omega) x0 Hx0.out _ rfl).mono ?_
 rintro e w' ⟨rfl, rfl⟩
 go_wp2_with fail
 refine (word_at _ _ _ _ _ hX0w (by omega) 1 (by omega) x1 Hx1.out _ rfl).mono ?_
 rintro e w' ⟨rfl, rfl⟩
 go_wp2_with fail
 refine (word_at _ _ _ _ _ hY0w (by omega) 0 (by omega) y0 Hy0.out _ rfl).mono ?_
 rintro e w' ⟨rfl, rfl⟩
 go_wp2_with fail
 refine (word_at _ _ _ _ _ hY0w (by omega) 1 (by omega) y1 Hy1.out _ rfl).mono ?_
 rintro e w' ⟨rfl, rfl⟩
 have hq0 : 0 ≤ X / Y := Int.ediv_nonneg hX0 (by omega)
 have hq1 : X / Y < 18446744073709551616 := Int.lt_of_le_of_lt (Int.ediv_le_self _ hX0) hX1
 have hr0 : 0 ≤ X % Y := Int.emod_nonneg _ (by omega)
 have hr1 : X % Y < 18446744073709551616 := Int.lt_trans (Int.emod_lt_of_pos _ hy0) hY1
 have hYz : (Y == 0) = false := by simp; omega
 have hYn : Y ≠ 0 := by omega
 have hI2 := hI
 obtain ⟨e0, e1, e2, e3⟩ := hI
 have hlt : w.heap.size < w0.heap.size := by have := HSZ.out; omega
 have hne : ¬ w.heap.size = w0.heap.size := by omega
 have hne2 : ¬ w.heap.size = w0.heap.size + 1 := by omega
 go_wp2
 go_region
 ·obtain ⟨S, hS, hsz, hbS, c0, c1⟩ := set_pair hbl hI2 (.slice (some ⟨w0.heap.size, 0, none⟩) 2 2) (.slice (some ⟨w0.heap.size + 1, 0, none⟩) 2 2)
  rw [← hS]
  obtain ⟨s1, s2, hbW, v1, v2⟩ := pairs_end hsz hbS (X / Y) (X % Y) hq0 hq1 hr0 hr1
  clear hS
  have hltS : w.heap.size < S.heap.size := by omega
  go_wp2
  refine bodyPost_ret (v := .agg #[.slice (some ⟨w0.heap.size, 0, none⟩) 2 2, .slice (some ⟨w0.heap.size + 1, 0, none⟩) 2 2]) ?_ rfl ⟨_, _, _, _, _, _, _, _, rfl, s1, s2, by omega, by omega, v1, v2, hbW⟩
  simp [results, Try.results88, go_sem, c0, c1, hltS]
 ·obtain ⟨S, hS, hsz, hbS, c0, c1⟩ := set_pair hbl hI2 (.slice (some ⟨w0.heap.size + 1, 0, none⟩) 2 2) (.slice (some ⟨w0.heap.size, 0, none⟩) 2 2)
  rw [← hS]
  obtain ⟨s1, s2, hbW, v1, v2⟩ := pairs_end hsz hbS (X % Y) (X / Y) hr0 hr1 hq0 hq1
  clear hS
  have hltS : w.heap.size < S.heap.size := by omega
  go_wp2
  refine bodyPost_ret (v := .agg #[.slice (some ⟨w0.heap.size + 1, 0, none⟩) 2 2, .slice (some ⟨w0.heap.size, 0, none⟩) 2 2]) ?_ rfl ⟨_, _, _, _, _, _, _, _, rfl, s2, s1, by omega, by omega, v2, v1, hbW⟩
  simp [results, Try.results88, go_sem, c0, c1, hltS]

theorem append_mine (w : World) (ty : TypeId) (g : Nat) (ao : Option Addr) (m c : Nat) (ys : List Int) (hS : Sl w ao m c ys) (hb : m ≤ 1000000) :
  ∃ ao' c' w', (Builtin.append_ #[27, 27] ty #[.slice (some ⟨g, 0, none⟩) 0 0, .slice ao m c]).run Try.prog w = .ok (.slice ao' m c') w' ∧ Below w.heap.size w w' ∧ Sl w' ao' m c' ys ∧
   (0 < m → ∃ g', ao' = some ⟨g', 0, none⟩ ∧ w.heap.size ≤ g' ∧ Mine w' g' m ys) := by
 obtain ⟨i0, hi, hz0, hz1, hz2⟩ := info_parts info_word
 by_cases h0 : m = 0
 ·obtain ⟨v', w', h1, h2, ao', c', rfl, h3⟩ := append_words w ty g ao m c ys hS hb
  exact ⟨ao', c', w', h1, h2, h3, fun h => absurd h0 (by omega)⟩
 ·rcases hS.cells.2 with h1 | ⟨b, off, rfl, hlt, hc⟩
  ·subst h1; have := hS.len; simp at this; omega
  ·obtain ⟨v', w', hrun, hown, hg⟩ := run_append_arg_grows (P := Try.prog) w 27 ty 82 i0 (.int .u32 0) 1 4 Try.underlying27 hi hz0 hz1 hz2 rfl (by decide)
    ⟨g, 0, none⟩ 0 0 [] (by simp) (by simp) ⟨b, off, none⟩ m c (ys.map (Value.int .u32)) (by simp [hS.len]) (fun j u hu => by
     have hj : j < ys.length := by have := (List.getElem?_eq_some_iff.1 hu).1; simpa using this
     rw [Go.WideShapes.add_plain, hc j hj, ← hu]
     simp [hj]) (by omega) (by unfold maxLen; omega) (by omega)
   rw [Nat.zero_add, List.nil_append, ← hS.len] at hown
   have hO : Ow w' w.heap.size v' ys := ⟨hown, hS.digs⟩
   obtain ⟨ao', c', rfl, hS'⟩ := hO.sl
   rw [hS.len] at hS' hrun hO
   refine ⟨ao', c', w', hrun, ⟨hg.os, hg.tape, hg.output, hg.size, fun k hk => hg.block k hk (by simp)⟩, hS', fun _ => ?_⟩
   rcases hO.1.2 with ⟨_, h2⟩ | ⟨g', cap', cur, h2, _⟩
   ·rw [hS.len] at h2; omega
   ·cases h2
    have := hO.mine
    exact ⟨g', rfl, this.2.1, this.1⟩

theorem wpList_copy_arg (w : World) {ops : Array Oper} {rest : List Oper} {o : Oper} {a : Act} {Q : Exit → Act → World → Prop} (hgd : o.guard = none) (s x : Operand)
  (hop : o.op = Op.call { callee := Callee.builtin Builtin.append, args := #[s, x], argTypes := #[27, 27] }) (g : Nat) (ao : Option Addr) (m c : Nat) (ys : List Int)
  (hs : a.eval s = .slice (some ⟨g, 0, none⟩) 0 0) (hx : a.eval x = .slice ao m c) (hS : Sl w ao m c ys) (hb : m ≤ 1000000)
  (hK : ∀ ao' c' w', Below w.heap.size w w' → Sl w' ao' m c' ys → (0 < m → ∃ g', ao' = some ⟨g', 0, none⟩ ∧ w.heap.size ≤ g' ∧ Mine w' g' m ys) → wpList Try.prog ops Q rest (a.put o.dst (.slice ao' m c')) w') :
  wpList Try.prog ops Q (o :: rest) a w := by
 refine wpList_plain hgd fun K hK' => ?_
 obtain ⟨ao', c', w', hrun, h1, h2, h3⟩ := append_mine w o.type g ao m c ys hS hb
 unfold Oper.wp
 simp [execOp, hop, resolve, invoke, builtin, hs, hx, hrun, Result.andThen]
 exact hK' _ _ (hK ao' c' w' h1 h2 h3)

theorem val_set {zs : List Int} {j : Nat} {x : Int} (hj : j < zs.length) : val (zs.set j x) = val zs + pw j * (x - zs.getD j 0) := by
 have e1 := val_split_any (zs.set j x) (j + 1)
 have e2 := val_split_any zs (j + 1)
 rw [val_take_succ, val_take_set _ _ _ _ (Nat.le_refl _), getD_set _ _ _ hj, List.drop_set_of_lt (by omega)] at e1
 rw [val_take_succ] at e2
 rw [Int.mul_sub]
 omega

theorem bit_word {qs : List Int} {j : Nat} {c : Int} (hq : Digs qs) (h : val qs = 2 ^ (j + 1) * c) : qs.getD (j / 32) 0 % 2 ^ (j % 32 + 1) = 0 := by
 have e : (2 : Int) ^ (j + 1) = pw (j / 32) * 2 ^ (j % 32 + 1) := by rw [pw_two, ← Int.pow_add]; congr 1; omega
 have e32 : (4294967296 : Int) = 2 ^ (j % 32 + 1) * 2 ^ (31 - j % 32) := by rw [← Int.pow_add, show j % 32 + 1 + (31 - j % 32) = 32 by omega]; rfl
 have e1 := val_split_any qs (j / 32)
 have e2 := val_drop_any qs (j / 32)
 have h0 := val_nonneg (hq.take (j / 32))
 have h1 := val_take_lt hq (j / 32)
 have hp := pw_pos (j / 32)
 rw [h, e, Int.mul_assoc] at e1
 generalize val (qs.take (j / 32)) = T at *
 generalize val (qs.drop (j / 32)) = D at *
 generalize val (qs.drop (j / 32 + 1)) = H at *
 generalize qs.getD (j / 32) 0 = x at *
 generalize pw (j / 32) = P at *
 rw [e32] at e2
 generalize (2 : Int) ^ (j % 32 + 1) = S at *
 generalize (2 : Int) ^ (31 - j % 32) = V at *
 have hT : T = P * (S * c - D) := by rw [Int.mul_sub]; omega
 have hz : S * c - D = 0 := by
  rcases Int.lt_trichotomy (S * c - D) 0 with h2 | h2 | h2
  ·have := Int.mul_le_mul_of_nonneg_left (show S * c - D ≤ -1 by omega) (Int.le_of_lt hp)
   omega
  ·exact h2
  ·have := Int.mul_le_mul_of_nonneg_left (show 1 ≤ S * c - D by omega) (Int.le_of_lt hp)
   omega
 have hx : x = S * (c - V * H) := by rw [Int.mul_sub, ← Int.mul_assoc]; omega
 rw [hx]
 exact Int.mul_emod_right _ _

theorem or_bit {x : Int} {r : Nat} (hr : r < 32) (hx0 : 0 ≤ x) (hx1 : x < 4294967296) (h : x % 2 ^ (r + 1) = 0) : bits .or .u32 x (2 ^ r) = x + 2 ^ r ∧ x + 2 ^ r < 4294967296 := by
 obtain ⟨h1, h2⟩ := two_le r hr
 have h3 := pow_two_succ r
 refine ⟨(or_u32 (r + 1) x (2 ^ r) hx0 hx1 (by omega) (by omega) (by omega) h).1, ?_⟩
 have e32 : (4294967296 : Int) = 2 ^ (r + 1) * 2 ^ (31 - r) := by rw [← Int.pow_add, show r + 1 + (31 - r) = 32 by omega]; rfl
 have h4 : (4294967296 - x) % 2 ^ (r + 1) = 0 := by
  rw [Int.sub_emod, h, e32, Int.mul_emod_right]; simp
 have h5 := Int.le_of_dvd (show 0 < 4294967296 - x by omega) (Int.dvd_of_emod_eq_zero h4)
 omega

theorem bits_lt {X Y : Int} {a b : Nat} (hX : IsBits X a) (hY : IsBits Y b) (h : a < b) : X < Y := by
 have hY2 : (2 : Int) ^ (b - 1) ≤ Y := by
  rcases hY with ⟨_, h0⟩ | ⟨_, h1, _⟩
  ·omega
  ·exact h1
 have hX2 : X < 2 ^ a := by
  rcases hX with ⟨h1, h0⟩ | ⟨_, _, h1⟩
  ·subst h0; rw [h1]; decide
  ·exact h1
 have h3 := two_pow_le (show a ≤ b - 1 by omega)
 omega

theorem bits_room {X Y : Int} {a b N : Nat} (hX : IsBits X a) (hY : IsBits Y b) (hY0 : 0 < Y) (h : a = b + N) : X < Y * 2 ^ (N + 1) := by
 have hX2 : X < 2 ^ a := by
  rcases hX with ⟨h1, h0⟩ | ⟨_, _, h1⟩
  ·subst h0; rw [h1]; decide
  ·exact h1
 rcases hY with ⟨h1, _⟩ | ⟨h0, h1, _⟩
 ·omega
 ·have h3 := Int.mul_le_mul_of_nonneg_right h1 (Int.le_of_lt (pow_two_pos (N + 1)))
  rw [← Int.pow_add, show b - 1 + (N + 1) = a by omega] at h3
  omega

end Go.Proofs.Ytihhlaagndingaa

namespace Go.Proofs.Ytihhlaagndingaa
open Go Go.RowKit

structure DivInv (w0 : World) (B gr gq gd n lq ld : Nat) (X Y : Int) (k : Nat) (wr : World) where
 below : Below B w0 wr
 some : ∃ rs qs ds : List Int, Mine wr gr n rs ∧ Mine wr gq lq qs ∧ Mine wr gd ld ds ∧ X = val qs * Y + val rs ∧ val rs < Y * 2 ^ k ∧ (∃ c, val qs = 2 ^ k * c) ∧ (0 < k → val ds = Y * 2 ^ (k - 1))

set_option maxRecDepth 20000 in
set_option maxHeartbeats 4000000 in
theorem divideLong_any (w : World) (ax ay : Option Addr) (n m cx cy : Nat) (xs ys : List Int) (hX : Sl w ax n cx xs) (hY : Sl w ay m cy ys) (hcx : Canon xs) (hcy : Canon ys) (hy0 : 0 < val ys) (hn : n ≤ 1000000) (hm : m ≤ 1000000) (hlong : ¬ (n ≤ 2 ∧ m ≤ 2)) :
  Calls Try.prog 88 #[.slice ax n cx, .slice ay m cy] w (DivR w (val xs) (val ys)) := by
 have HCX := hidd hcx
 have HCY := hidd hcy
 have HY0 := hidd hy0
 clear hcx hcy hy0
 obtain ⟨w0, hw0⟩ : ∃ w0, w0 = w.alloc (.cells #[.slice none 0 0, .slice none 0 0] 110) := ⟨_, rfl⟩
 have hbl : Below w.heap.size w w0 := by rw [hw0]; exact alloc_below _ _
 have hI : IntBox w0 w.heap.size (.slice none 0 0) (.slice none 0 0) := by rw [hw0]; exact IntBox.new _ _ _ _
 have hlt : w.heap.size < w0.heap.size := by rw [hw0]; simp
 have hI2 := hidd hI
 obtain ⟨e0, e1, e2, e3⟩ := hI
 go_enter Try.func88, Try.ntmps88
 go_upto_region 1 with (fail)
 rw [← hw0]
 clear hw0
 rcases (by omega : 2 < n ∨ (n ≤ 2 ∧ 2 < m)) with hn2 | ⟨hn2, hm2⟩
 all_goals
  go_upto_region 5 with (fail)
 all_goals
  go_wp2_with (at_builtin; refine wpList_copy_arg _ rfl _ _ rfl _ ax n cx xs rfl rfl ((hX.mono hbl).mono (alloc_below _ _)) hn ?_; intro ar cr w1 hb1 hS1 hM1)
 all_goals
  have hbw1 : Below w0.heap.size w0 w1 := (alloc_below w0 _).trans (hb1.mono (by simp))
  clear hb1
  refine (rBits_any _ _ _ _ _ _ ((hX.mono hbl).mono hbw1) HCX.out (by omega)).mono ?_
  rintro e w2 ⟨b1, rfl, hB1, hb1n, hb2⟩
  have hbw2 := hbw1.trans (hb2.mono hbw1.size)
  go_wp2_with fail
  refine (rBits_any _ _ _ _ _ _ ((hY.mono hbl).mono hbw2) HCY.out (by omega)).mono ?_
  rintro e w3 ⟨b2, rfl, hB2, hb2m, hb3⟩
  have hbw3 := hbw2.trans (hb3.mono hbw2.size)
  have hS3 := (hS1.mono hb2).mono hb3
  have hM3 : 0 < n → ∃ g', ar = some ⟨g', 0, none⟩ ∧ w0.heap.size ≤ g' ∧ g' < w3.heap.size ∧ Mine w3 g' n xs := fun h => by
   obtain ⟨g', h1, h2, h3⟩ := hM1 h
   have h4 := (h3.mono hb2 h3.lt)
   exact ⟨g', h1, by simp at h2; omega, (h4.mono hb3 h4.lt).lt, h4.mono hb3 h4.lt⟩
  have f0 := (hbw3.cell (p := ⟨w.heap.size, 0, none⟩) hlt).trans e0
  have f1 := (hbw3.cell (p := ⟨w.heap.size, 1, none⟩) hlt).trans e1
  have f2 := (hbw3.frozen (p := ⟨w.heap.size, 0, none⟩) hlt).trans e2
  have f3 := (hbw3.frozen (p := ⟨w.heap.size, 1, none⟩) hlt).trans e3
  clear hM1 hS1 hbw1 hbw2 hb2 hb3 e0 e1 e2 e3
  have hbw : Below w.heap.size w w3 := hbl.trans (hbw3.mono hbl.size)
  by_cases hlt2 : b1 < b2
  ·have HXY := hidd (bits_lt hB1 hB2 hlt2)
   have hX0 := val_nonneg hX.digs
   go_wp2
   obtain ⟨S, hS, hsz, hbS, c0, c1⟩ := set_pair hbw ⟨f0, f1, f2, f3⟩ (.slice none 0 0) (.slice ar n cr)
   rw [← hS]
   have hSS : Sl S ar n cr xs := by rw [hS]; exact (hS3.setOther f0 (by intro q h; cases h) _).setOther (by rw [World.cell?_setCell_other _ _ _ _ (by intro e; cases e)]; exact f1) (by intro q h; cases h) _
   clear hS
   refine bodyPost_ret (v := .agg #[.slice none 0 0, .slice ar n cr]) ?_ rfl ⟨_, _, _, _, _, _, _, _, rfl, Sl.nil _, hSS, by omega, by omega, ?_, ?_, hbS⟩
   ·simp [results, Try.results88, go_sem, c0, c1]
   ·rw [Int.ediv_eq_zero_of_lt hX0 HXY.out]; rfl
   ·rw [Int.emod_eq_of_lt hX0 HXY.out]
  ·obtain ⟨N, hN⟩ : ∃ N, b1 = b2 + N := ⟨b1 - b2, by omega⟩
   have HR := hidd (bits_room hB1 hB2 HY0.out hN)
   have hb20 : 0 < b2 := by
    rcases hB2 with ⟨h1, _⟩ | ⟨h1, _⟩
    ·have := HY0.out; omega
    ·exact h1
   obtain ⟨gr, rfl, hgr, hgr2, hMr⟩ := hM3 (by omega)
   have hNi : (b1 : Int) - (b2 : Int) = (N : Int) := by omega
   have hNb : N ≤ 32000000 := by omega
   have hcr := hS3.cap
   clear hN hlt2 hb1n hb2m hB1 hB2
   go_wp2_with (at_make; refine wpList_make_words _ rfl _ _ 27 rfl 82 Try.underlying27 (by kernel_rfl) _ _ _ _ rfl rfl (N / 32 + 1) (by omega) (by omega) (by omega) ?_; intro w4 hrow hb4 hs4)
   have hbw4 : Below w0.heap.size w0 w4 := hbw3.trans (hb4.mono hbw3.size)
   refine (left_any _ _ _ _ _ ((hY.mono hbl).mono hbw4) (by omega) N (by omega)).mono ?_
   rintro e w5 ⟨gd, ld, cd, ds0, rfl, hgd, hMd, hcd, hld, hvd, hb5⟩
   have hbw5 := hbw4.trans (hb5.mono hbw4.size)
   have hq5 : Mine w5 w3.heap.size (N / 32 + 1) (List.replicate (N / 32 + 1) 0) := by
    have := hrow.mine
    rw [List.length_replicate] at this
    exact this.mono hb5 this.lt
   have hr5 := (hMr.mono hb4 hMr.lt).mono hb5 (hMr.mono hb4 hMr.lt).lt
   obtain ⟨gq, hgq⟩ : ∃ gq, gq = w3.heap.size := ⟨_, rfl⟩
   rw [← hgq] at hq5 hgr2 hs4
   rw [← hgq]
   have hgq0 : w0.heap.size ≤ gq := by rw [hgq]; exact hbw3.size
   have hne1 : gr ≠ gq := by omega
   have hne2 : gq ≠ gd := by omega
   have hne3 : gr ≠ gd := by omega
   have hgd0 : w0.heap.size ≤ gd := by omega
   have hld2 : ld ≤ 3000000 := by omega
   have HVD := hidd hvd
   clear hvd hld hrow hb4 hb5 hbw3 hbw4 hMr hM3 hS3 hgq hs4 hgd f0 f1 f2 f3 hbw
   go_wp2
   go_loopw [11] (fun vi wr => ∃ k : Nat, k ≤ N + 1 ∧ vi = .int .i64 ((k : Int) - 1) ∧ DivInv w0 w0.heap.size gr gq gd n (N / 32 + 1) ld (val xs) (val ys) k wr) (fun vi _ => (intOf vi + 1).toNat)
   case atStart =>
    refine ⟨N + 1, Nat.le_refl _, by go_num, hbw5, xs, _, ds0, hr5, hq5, hMd, ?_, HR.out, ⟨0, ?_⟩, fun _ => HVD.out⟩
    ·rw [val_replicate, Int.zero_mul, Int.zero_add]
    ·rw [val_replicate, Int.mul_zero]
   case round =>
    obtain ⟨k, hk, rfl, ⟨hb, rs, qs, dd, hr, hq, hd, hXe, hrl, ⟨c, hqc⟩, hdv⟩⟩ := hrel
    have HXE := hidd hXe
    have HRL := hidd hrl
    have HQC := hidd hqc
    have HDV := hidd hdv
    clear hXe hrl hqc hdv hr5 hq5 hMd hbw5
    by_cases hk0 : 0 < k
    ·obtain ⟨j, rfl⟩ : ∃ j, k = j + 1 := ⟨k - 1, by omega⟩
     have hj1 : ((j + 1 : Nat) : Int) - 1 = (j : Int) := by omega
     have HDJ : Hid (val dd = val ys * 2 ^ j) := HDV.out (by omega)
     clear HDV
     go_wp2_with fail
     refine (reaches_any _ _ _ _ _ _ _ rs dd (hr.sl hcr) (hd.sl hcd) (by omega) (by omega)).mono ?_
     rintro e w' ⟨rfl, rfl⟩
     by_cases hge : val dd ≤ val rs
     ·have hged : decide (val dd ≤ val rs) = true := decide_eq_true hge
      rw [hged]
      have HGE := hidd hge
      clear hge hged
      go_wp2_with fail
      refine (take_any _ gr n cr rs hr hcr (by omega) (some ⟨gd, 0, none⟩) ld cd dd (hd.sl hcd) (by omega) (fun b' o h => by cases h; exact fun h => hne3 h.symm) HGE.out).mono ?_
      rintro e w6 ⟨rs', rfl, hr6, hv6, hg6, hs6⟩
      have hq6 := hq.other hg6 (fun h => hne1 h.symm)
      have hd6 := hd.other hg6 (fun h => hne3 h.symm)
      have hb6 : Below w0.heap.size w0 w6 := hb.grown hg6 hb.size (fun j hj => by cases hj; exact hgr)
      have HV6 := hidd hv6
      clear hv6 hr hq hd hb hg6 hs6
      have hjq : j / 32 < N / 32 + 1 := by omega
      obtain ⟨x, hx⟩ : ∃ x, qs.getD (j / 32) 0 = x := ⟨_, rfl⟩
      have hxd := hq6.digs.getD (j / 32)
      have hcell := hq6.cell hjq
      rw [hx] at hxd hcell
      have hfr := hq6.frozen (j / 32)
      have hbit := bit_word hq6.digs HQC.out
      rw [hx] at hbit
      obtain ⟨hor, hxb⟩ := or_bit (Nat.mod_lt j (by decide)) hxd.1 hxd.2 hbit
      obtain ⟨u, hu⟩ : ∃ u, u = x + 2 ^ (j % 32) := ⟨_, rfl⟩
      rw [← hu] at hor hxb
      have hp2 := two_le (j % 32) (Nat.mod_lt j (by decide))
      have Hx := hidd hx
      have Hu := hidd hu
      have Hbit := hidd hbit
      have hj32 : j % 32 < 32 := Nat.mod_lt j (by decide)
      have hu0 : 0 ≤ u := by omega
      clear hx hu hbit
      go_wp2_with fail
      have hg7 := grownBy_set w6 gq (j / 32) (.int .u32 u)
      have hq7 := hq6.set hjq hu0 hxb
      have hd7 := hd6.other hg7 (fun h => hne2 h.symm)
      have hr7 := hr6.other hg7 hne1
      have hb7 : Below w0.heap.size w0 (w6.setCell ⟨gq, j / 32, none⟩ (.int .u32 u)) := hb6.setCell hgq0 _
      generalize w6.setCell ⟨gq, j / 32, none⟩ (.int .u32 u) = w7 at *
      refine (half_any _ gd ld cd dd hd7 hcd (by omega)).mono ?_
      rintro e w8 ⟨dd', rfl, hd8, hv8, hg8, hs8⟩
      have hb8 : Below w0.heap.size w0 w8 := hb7.grown hg8 hb7.size (fun j hj => by cases hj; exact hgd0)
      have hq8 := hq7.other hg8 hne2
      have hr8 := hr7.other hg8 hne3
      have HV8 := hidd hv8
      clear hv8 hq7 hd7 hr7 hb7 hg7 hg8 hs8 hq6 hd6 hb6 hr6 hor hcell hfr
      go_wp2
      go_roundw
      case rel =>
       refine ⟨j, by omega, by go_num, hb8, rs', _, dd', hr8, hq8, hd8, ?_, ?_, ?_, ?_⟩
       ·have h1 := HXE.out
        rw [val_set (by have := hq8.len; rw [List.length_set] at this; omega), Hx.out, Hu.out, show x + 2 ^ (j % 32) - x = 2 ^ (j % 32) by omega, pw_two, ← Int.pow_add, show 32 * (j / 32) + j % 32 = j by omega, HV6.out, HDJ.out, Int.add_mul, Int.mul_comm (val ys)]
        omega
       ·have h1 := HRL.out
        rw [HV6.out, HDJ.out]
        rw [Int.pow_succ, ← Int.mul_assoc] at h1
        omega
       ·refine ⟨2 * c + 1, ?_⟩
        rw [val_set (by have := hq8.len; rw [List.length_set] at this; omega), Hx.out, Hu.out, show x + 2 ^ (j % 32) - x = 2 ^ (j % 32) by omega, pw_two, ← Int.pow_add, show 32 * (j / 32) + j % 32 = j by omega, HQC.out, Int.pow_succ, Int.mul_add, Int.mul_one, Int.mul_assoc]
       ·intro h
        rw [HV8.out, HDJ.out, show j = (j - 1) + 1 by omega, Int.pow_succ, ← Int.mul_assoc, Int.mul_ediv_cancel _ (by decide)]
        rfl
      case measure => simp [intOf]
     ·have hged : decide (val dd ≤ val rs) = false := decide_eq_false hge
      rw [hged]
      have HGE := hidd hge
      clear hge hged
      go_wp2_with fail
      refine (half_any _ gd ld cd dd hd hcd (by omega)).mono ?_
      rintro e w8 ⟨dd', rfl, hd8, hv8, hg8, hs8⟩
      have hb8 : Below w0.heap.size w0 w8 := hb.grown hg8 hb.size (fun j hj => by cases hj; exact hgd0)
      have hq8 := hq.other hg8 hne2
      have hr8 := hr.other hg8 hne3
      have HV8 := hidd hv8
      clear hv8 hq hd hr hb hg8 hs8
      go_wp2
      go_roundw
      case rel =>
       refine ⟨j, by omega, by go_num, hb8, rs, qs, dd', hr8, hq8, hd8, HXE.out, ?_, ?_, ?_⟩
       ·have h1 := HGE.out
        rw [HDJ.out] at h1
        omega
       ·refine ⟨2 * c, ?_⟩
        rw [HQC.out, Int.pow_succ, Int.mul_assoc]
       ·intro h
        rw [HV8.out, HDJ.out, show j = (j - 1) + 1 by omega, Int.pow_succ, ← Int.mul_assoc, Int.mul_ediv_cancel _ (by decide)]
        rfl
      case measure => simp [intOf]
    ·obtain rfl : k = 0 := by omega
     have hbw : Below w.heap.size w wr := hbl.trans (hb.mono hbl.size)
     obtain ⟨f0, f1, f2, f3⟩ := hI2.out.mono hb hlt
     have hR0 := val_nonneg hr.digs
     have hR1 := HRL.out
     rw [Int.pow_zero, Int.mul_one] at hR1
     have hq1 := ediv_unique (a := val xs) (P := val ys) (V := val qs) (r := val rs) (by have h := HXE.out; rw [Int.mul_comm (val qs)] at h; exact h) hR0 hR1 HY0.out
     have hr1 : val rs = val xs % val ys := by
      rw [Int.emod_def, ← hq1]
      have h := HXE.out
      rw [Int.mul_comm (val qs)] at h
      omega
     have HQ := hidd hq1
     have HM := hidd hr1
     clear hR0 hR1 hq1 hr1
     have hsq := hq.sl (Nat.le_refl _)
     have hsr := hr.sl hcr
     clear hq hr hd
     go_wp2
     obtain ⟨S, hS, hsz, hbS, c0, c1⟩ := set_pair hbw ⟨f0, f1, f2, f3⟩ (.slice (some ⟨gq, 0, none⟩) (N / 32 + 1) (N / 32 + 1)) (.slice (some ⟨gr, 0, none⟩) n cr)
     rw [← hS]
     have hSq : Sl S (some ⟨gq, 0, none⟩) (N / 32 + 1) (N / 32 + 1) qs := by rw [hS]; exact (hsq.setOther f0 (by intro q h; cases h) _).setOther (by rw [World.cell?_setCell_other _ _ _ _ (by intro e; cases e)]; exact f1) (by intro q h; cases h) _
     have hSr : Sl S (some ⟨gr, 0, none⟩) n cr rs := by rw [hS]; exact (hsr.setOther f0 (by intro q h; cases h) _).setOther (by rw [World.cell?_setCell_other _ _ _ _ (by intro e; cases e)]; exact f1) (by intro q h; cases h) _
     clear hS
     refine bodyPost_ret (v := .agg #[.slice (some ⟨gq, 0, none⟩) (N / 32 + 1) (N / 32 + 1), .slice (some ⟨gr, 0, none⟩) n cr]) ?_ rfl ⟨_, _, _, _, _, _, _, _, rfl, hSq, hSr, by omega, by omega, HQ.out, HM.out, hbS⟩
     simp [results, Try.results88, go_sem, c0, c1]

theorem divide_any (w : World) (ax ay : Option Addr) (n m cx cy : Nat) (xs ys : List Int) (hX : Sl w ax n cx xs) (hY : Sl w ay m cy ys) (hcx : Canon xs) (hcy : Canon ys) (hy0 : 0 < val ys) (hn : n ≤ 1000000) (hm : m ≤ 1000000) :
  Calls Try.prog 88 #[.slice ax n cx, .slice ay m cy] w (DivR w (val xs) (val ys)) := by
 by_cases h : n ≤ 2 ∧ m ≤ 2
 ·exact divideSmall_any w ax ay n m cx cy xs ys hX hY hy0 h.1 h.2
 ·exact divideLong_any w ax ay n m cx cy xs ys hX hY hcx hcy hy0 hn hm h

end Go.Proofs.Ytihhlaagndingaa

namespace Go.Proofs.Ytihhlaagndingaa
open Go Go.RowKit

theorem enter_rAbs (args : Array Value) (w : World) : (callFunc 52 args).run Try.prog w = .ok (.enter 52 args) w := enter_of Try.func52 (by kernel_rfl) rfl args w
theorem enter_rSub (args : Array Value) (w : World) : (callFunc 89 args).run Try.prog w = .ok (.enter 89 args) w := enter_of Try.func89 (by kernel_rfl) rfl args w
theorem ab_sgn (b : Bool) (v : Int) : ab (sgn b v) = ab v := by unfold ab; cases b <;> simp [sgn]

theorem boxes4n (w : World) {n n' : Bool} {ao ao' : Option Addr} {k c k' c' : Nat} {z z' : Int} (h : Num w (.agg #[.bool n, .slice ao k c]) z) (h' : Num w (.agg #[.bool n', .slice ao' k' c']) z') (t : TypeId) :
  ∃ w0, w0 = (((w.alloc (.cells #[.bool n, .slice ao k c] t)).alloc (.cells #[.bool n', .slice ao' k' c'] t)).alloc (.cells #[.bool false, .slice none 0 0] t)).alloc (.cells #[.bool false, .slice none 0 0] t) ∧
   BoxNum w0 w.heap.size z ∧ BoxNum w0 (w.heap.size + 1) z' ∧ BoxNum w0 (w.heap.size + 1 + 1) 0 ∧ BoxNum w0 (w.heap.size + 1 + 1 + 1) 0 ∧ Below w.heap.size w w0 := by
 obtain ⟨w0, hw0, hA, hB, hC, hD, hbl, HS⟩ := boxes4 w (.bool n) (.slice ao k c) (.bool n') (.slice ao' k' c') t
 exact ⟨w0, hw0, ⟨_, _, _, _, hA, h.mono hbl⟩, ⟨_, _, _, _, hB, h'.mono hbl⟩, ⟨_, _, _, _, hC, Num.zero _⟩, ⟨_, _, _, _, hD, Num.zero _⟩, hbl⟩

theorem euclid {a b q r : Int} (hb : b ≠ 0) (h : a = q * b + r) (h0 : 0 ≤ r) (h1 : r < ab b) : q = a / b ∧ r = a % b := by
 have h2 : a % b = r := by
  rw [h, Int.add_comm, Int.add_mul_emod_self_right]
  rcases Int.lt_or_gt_of_ne hb with hb' | hb'
  ·rw [← Int.emod_neg, Int.emod_eq_of_lt h0 (by unfold ab at h1; omega)]
  ·exact Int.emod_eq_of_lt h0 (by unfold ab at h1; omega)
 have h3 := Int.mul_ediv_add_emod a b
 rw [h2] at h3
 have h4 : b * (a / b) = b * q := by rw [Int.mul_comm b q]; omega
 exact ⟨(Int.eq_of_mul_eq_mul_left hb h4).symm, h2.symm⟩

theorem dm_end {x y q0 r0 q r : Int} {a1 b1 a2 : Bool} (hy : y ≠ 0) (hd : ab y * q + r = ab x) (h0 : 0 ≤ r) (h1 : r < ab y) (nx : a1 = true → x < 0) (px : a1 = false → 0 ≤ x) (nx2 : a2 = true → x < 0) (px2 : a2 = false → 0 ≤ x)
  (ny : b1 = true → y < 0) (py : b1 = false → 0 ≤ y) (hq : q0 = sgn (!a1 == b1) q) (hr : r0 = sgn a2 r) :
  (0 ≤ r0 → q0 = x / y ∧ r0 = x % y) ∧ (r0 < 0 → 0 ≤ y → q0 - 1 = x / y ∧ r0 + (y.natAbs : Int) = x % y) ∧ (r0 < 0 → y < 0 → q0 + 1 = x / y ∧ r0 + (y.natAbs : Int) = x % y) := by
 have e1 : ab y = (y.natAbs : Int) := rfl
 by_cases hx : x < 0 <;> by_cases hyy : y < 0
 ·obtain rfl : a1 = true := by cases a1; exact absurd (px rfl) (by omega); rfl
  obtain rfl : a2 = true := by cases a2; exact absurd (px2 rfl) (by omega); rfl
  obtain rfl : b1 = true := by cases b1; exact absurd (py rfl) (by omega); rfl
  have ax : ab x = -x := by unfold ab; omega
  have ay : ab y = -y := by unfold ab; omega
  simp [sgn] at hq hr
  rw [ax, ay, Int.neg_mul, Int.mul_comm] at hd
  rw [ay] at h1
  subst hq
  subst hr
  refine ⟨fun h => euclid hy (by omega) h (by rw [ay]; omega), fun h h' => by omega, fun h _ => euclid hy (by rw [Int.add_mul, Int.one_mul]; omega) (by omega) (by rw [ay]; omega)⟩
 ·obtain rfl : a1 = true := by cases a1; exact absurd (px rfl) (by omega); rfl
  obtain rfl : a2 = true := by cases a2; exact absurd (px2 rfl) (by omega); rfl
  obtain rfl : b1 = false := by cases b1; rfl; exact absurd (ny rfl) (by omega)
  have ax : ab x = -x := by unfold ab; omega
  have ay : ab y = y := by unfold ab; omega
  simp [sgn] at hq hr
  rw [ax, ay, Int.mul_comm] at hd
  rw [ay] at h1
  subst hq
  subst hr
  refine ⟨fun h => euclid hy (by rw [Int.neg_mul]; omega) h (by rw [ay]; omega), fun h _ => euclid hy (by rw [Int.sub_mul, Int.one_mul, Int.neg_mul]; omega) (by omega) (by rw [ay]; omega), fun h h' => by omega⟩
 ·obtain rfl : a1 = false := by cases a1; rfl; exact absurd (nx rfl) (by omega)
  obtain rfl : a2 = false := by cases a2; rfl; exact absurd (nx2 rfl) (by omega)
  obtain rfl : b1 = true := by cases b1; exact absurd (py rfl) (by omega); rfl
  have ax : ab x = x := by unfold ab; omega
  have ay : ab y = -y := by unfold ab; omega
  simp [sgn] at hq hr
  rw [ax, ay, Int.neg_mul, Int.mul_comm] at hd
  rw [ay] at h1
  subst hq
  subst hr
  refine ⟨fun h => euclid hy (by rw [Int.neg_mul]; omega) h (by rw [ay]; omega), fun h _ => by omega, fun h _ => by omega⟩
 ·obtain rfl : a1 = false := by cases a1; rfl; exact absurd (nx rfl) (by omega)
  obtain rfl : a2 = false := by cases a2; rfl; exact absurd (nx2 rfl) (by omega)
  obtain rfl : b1 = false := by cases b1; rfl; exact absurd (ny rfl) (by omega)
  have ax : ab x = x := by unfold ab; omega
  have ay : ab y = y := by unfold ab; omega
  simp [sgn] at hq hr
  rw [ax, ay, Int.mul_comm] at hd
  rw [ay] at h1
  subst hq
  subst hr
  refine ⟨fun h => euclid hy (by omega) h (by rw [ay]; omega), fun h _ => by omega, fun h _ => by omega⟩

set_option maxRecDepth 100000 in
set_option maxHeartbeats 8000000 in
theorem RDivModV {w : World} {v v' : Value} {x y : Int} (h : Num w v x) (h' : Num w v' y) (hx : ab x < pw 1000) (hy : ab y < pw 1000) : Calls Try.prog 74 #[v, v'] w (DivGives w x y) := by
 obtain ⟨n, ao, k, c, rfl⟩ := h.parts
 obtain ⟨n', ao', k', c', rfl⟩ := h'.parts
 have Bx := hidd hx
 have By := hidd hy
 clear hx hy
 obtain ⟨w0, hw0, XA, XB, X4, X5, HB⟩ := boxes4n w h h' 29
 go_enter Try.func74, Try.ntmps74
 go_upto_region 1 with (fail)
 rw [← hw0]
 clear hw0 h h'
 obtain ⟨na, aoa, kka, cca, ⟨a0, a1, a2, a3⟩, hNa⟩ := id XA
 obtain ⟨nb, aob, kkb, ccb, ⟨b0, b1, b2, b3⟩, hNb⟩ := id XB
 obtain ⟨xs, sx, cx, kx, zx, vx0, _, negx, posx⟩ := hNa.sign
 obtain ⟨ys, sy, cy, ky, zy, vy0, hky, negy, posy⟩ := hNb.sign
 by_cases hy0 : y = 0
 ·obtain rfl := hky.2 hy0
  obtain ⟨nc, aoc, kkc, ccc, ⟨c0, c1, c2, c3⟩, hNc⟩ := id X4
  obtain ⟨nd, aod, kkd, ccd, ⟨d0, d1, d2, d3⟩, hNd⟩ := id X5
  have hbS := (((HB.setCell (p := ⟨w.heap.size + 1 + 1, 0, none⟩) (by show w.heap.size ≤ w.heap.size + 1 + 1; omega) (.bool false)).setCell (p := ⟨w.heap.size + 1 + 1, 1, none⟩) (by show w.heap.size ≤ w.heap.size + 1 + 1; omega) (.slice none 0 0)).setCell (p := ⟨w.heap.size + 1 + 1 + 1, 0, none⟩) (by show w.heap.size ≤ w.heap.size + 1 + 1 + 1; omega) (.bool false)).setCell (p := ⟨w.heap.size + 1 + 1 + 1, 1, none⟩) (by show w.heap.size ≤ w.heap.size + 1 + 1 + 1; omega) (.slice none 0 0)
  clear hky zx zy negx posx negy posy
  go_wp2
  refine bodyPost_ret (v := .tuple #[.agg #[.bool false, .slice none 0 0], .agg #[.bool false, .slice none 0 0], .int .i64 4]) ?_ rfl ⟨hbS, .inl ⟨hy0, rfl⟩⟩
  simp [results, Try.results74, go_sem, c0, c1, d0, d1]
 ·have Hy0 := hidd hy0
  have hkb : ((kkb : Int) == 0) = false := by simp; exact fun h => hy0 (hky.1 h)
  have vy1 : 0 < val ys := by rcases (by omega : val ys = 0 ∨ 0 < val ys) with h | h; exact absurd (by rw [zy, h]; cases nb <;> rfl) hy0; exact h
  have Kq : Hid (ab (val xs / val ys) < pw 1000) := by have h1 := Int.ediv_le_self (val ys) vx0; have h2 := Int.ediv_nonneg vx0 (Int.le_of_lt vy1); show ab _ < _; rw [ab_of h2]; have h3 := Bx.out; rw [zx, ab_sgn, ab_of vx0] at h3; omega
  have Kr : Hid (ab (val xs % val ys) < pw 1000) := by have h1 := Int.emod_lt_of_pos (val xs) vy1; have h2 := Int.emod_nonneg (val xs) (Int.ne_of_gt vy1); show ab _ < _; rw [ab_of h2]; have h3 := By.out; rw [zy, ab_sgn, ab_of vy0] at h3; omega
  have Zx := hidd zx
  have Zy := hidd zy
  have Ny := hidd negy
  have Py := hidd posy
  have V0 := hidd vx0
  have V1 := hidd vy1
  clear hy0 hky zx zy negx posx negy posy vx0 vy0 vy1
  go_wp2_with fail
  clear hkb
  refine (divide_any _ _ _ _ _ _ _ xs ys sx sy cx cy V1.out (by omega) (by omega)).mono ?_
  rintro e w1 ⟨aq, lq, cq, qs, ar, lr, cr, rs, rfl, sq, sr, hlq, hlr, vq, vr, hb⟩
  have Vq := hidd vq
  have Vr := hidd vr
  clear vq vr
  clear a0 a1 a2 a3 hNa b0 b1 b2 b3 hNb
  clear sx sy
  replace XA := XA.mono hb
  replace XB := XB.mono hb
  replace X4 := X4.mono hb
  replace X5 := X5.mono hb
  replace HB := HB.trans (hb.mono HB.size)
  clear hb
  go_upto_region 4 with (fail)
  obtain ⟨w2, hw2, hI7⟩ : ∃ w2, w2 = w1.alloc (.cells #[.slice aq lq cq, .slice ar lr cr] 110) ∧ IntBox w2 w1.heap.size (.slice aq lq cq) (.slice ar lr cr) := ⟨_, rfl, IntBox.new _ _ _ _⟩
  rw [← hw2]
  have hb : Below w1.heap.size w1 w2 := by rw [hw2]; exact alloc_below _ _
  have hlt1 := X5.lt
  clear hw2
  replace XA := XA.mono hb
  replace XB := XB.mono hb
  replace X4 := X4.mono hb
  replace X5 := X5.mono hb
  replace HB := HB.trans (hb.mono HB.size)
  replace sq := sq.mono hb
  replace sr := sr.mono hb
  clear hb
  obtain ⟨g7, hg7⟩ : ∃ g7, g7 = w1.heap.size := ⟨_, rfl⟩
  rw [← hg7] at hI7 hlt1
  rw [← hg7]
  clear hg7
  have hlt2 := hI7.lt
  obtain ⟨na, aoa, kka, cca, ⟨a0, a1, a2, a3⟩, hNa⟩ := id XA
  obtain ⟨nb, aob, kkb, ccb, ⟨b0, b1, b2, b3⟩, hNb⟩ := id XB
  have hI7c := hI7
  obtain ⟨i0, i1, _, _⟩ := hI7
  go_wp2_with fail
  obtain ⟨_, _, _, _, _, _, _, negx, posx⟩ := hNa.sign
  obtain ⟨_, _, _, _, _, _, _, negy, posy⟩ := hNb.sign
  have Nx := hidd negx
  have Px := hidd posx
  have Ny2 := hidd negy
  have Py2 := hidd posy
  clear negx posx negy posy
  have Ax : Hid (val xs = ab x) := by show val xs = ab x; rw [Zx.out, ab_sgn, ab_of V0.out]
  have Ay : Hid (val ys = ab y) := by show val ys = ab y; rw [Zy.out, ab_sgn, ab_of (Int.le_of_lt V1.out)]
  obtain ⟨q0, hq0⟩ : ∃ q0, q0 = sgn (!na == nb) (val qs) := ⟨_, rfl⟩
  have Bq0 : Hid (ab q0 < pw 1000) := by show ab q0 < _; rw [hq0, ab_sgn, Vq.out]; exact Kq.out
  have Hq0 := hidd hq0
  clear hq0
  refine (exKP (z := q0) (by rw [Hq0.out]; exact made_any _ _ _ _ _ _ sq (by omega)) Bq0.out (by omega)).mono ?_
  rintro e w3 ⟨n3', ao3, kk3, c3', rfl, hb, hN3⟩
  replace hI7c := hI7c.mono hb hlt2
  have hlt3 := hb.size
  clear a0 a1 a2 a3 hNa b0 b1 b2 b3 hNb
  clear i0 i1
  replace XA := XA.mono hb
  replace XB := XB.mono hb
  replace X4 := X4.mono hb
  replace X5 := X5.mono hb
  replace HB := HB.trans (hb.mono HB.size)
  replace sr := sr.mono hb
  clear hb
  replace hlt2 : g7 < w3.heap.size := by omega
  clear hlt3
  go_upto_region 5 with (fail)
  obtain ⟨w11, hw11, hb, p1⟩ := boxOne hN3 29
  rw [← hw11]
  clear hw11
  replace hI7c := hI7c.mono hb hlt2
  have hsz1 := hb.size
  replace XA := XA.mono hb
  replace XB := XB.mono hb
  replace X4 := X4.mono hb
  replace X5 := X5.mono hb
  replace HB := HB.trans (hb.mono HB.size)
  replace sr := sr.mono hb
  clear hb
  obtain ⟨g8, hg8⟩ : ∃ g, g = w3.heap.size := ⟨_, rfl⟩
  rw [← hg8] at p1 hlt2 hsz1
  rw [← hg8]
  clear hg8
  have X8 := p1
  have hlt8 := hlt2
  replace hlt2 : g7 < w11.heap.size := by omega
  clear p1 hsz1
  obtain ⟨na, aoa, kka, cca, ⟨a0, a1, a2, a3⟩, hNa⟩ := id XA
  have hI7d := hI7c
  obtain ⟨i0, i1, _, _⟩ := hI7c
  rename IntBox _ g7 _ _ => hI7c
  obtain ⟨_, _, _, _, _, _, _, negx, posx⟩ := hNa.sign
  have Nx2 := hidd negx
  have Px2 := hidd posx
  clear negx posx
  go_wp2_with fail
  obtain ⟨r0, hr0⟩ : ∃ r0, r0 = sgn na (val rs) := ⟨_, rfl⟩
  have Br0 : Hid (ab r0 < pw 1000) := by show ab r0 < _; rw [hr0, ab_sgn, Vr.out]; exact Kr.out
  have Hr0 := hidd hr0
  clear hr0
  refine (exKP (z := r0) (by rw [Hr0.out]; exact made_any _ _ _ _ _ _ sr (by omega)) Br0.out (by omega)).mono ?_
  rintro e w4 ⟨n4', ao4, kk4, c4', rfl, hb, hN4⟩
  replace hI7c := hI7c.mono hb hlt2
  have hlt3 := hb.size
  clear a0 a1 a2 a3 hNa
  clear i0 i1 sr sq
  replace XA := XA.mono hb
  replace XB := XB.mono hb
  replace X4 := X4.mono hb
  replace X5 := X5.mono hb
  replace X8 := X8.mono hb
  replace HB := HB.trans (hb.mono HB.size)
  clear hb
  replace hlt2 : g7 < w4.heap.size := by omega
  have hlt38 : g8 < w4.heap.size := X8.lt
  clear hlt3
  go_upto_region 6 with (fail)
  obtain ⟨w12, hw12, hb, p2⟩ := boxOne hN4 29
  rw [← hw12]
  clear hw12
  replace hI7c := hI7c.mono hb hlt2
  have hsz2 := hb.size
  replace XA := XA.mono hb
  replace XB := XB.mono hb
  replace X4 := X4.mono hb
  replace X5 := X5.mono hb
  replace X8 := X8.mono hb
  replace HB := HB.trans (hb.mono HB.size)
  clear hb
  obtain ⟨g9, hg9⟩ : ∃ g, g = w4.heap.size := ⟨_, rfl⟩
  rw [← hg9] at p2 hlt2 hsz2 hlt38
  rw [← hg9]
  clear hg9
  have X9 := p2
  have hlt9 := hlt2
  replace hlt2 : g7 < w12.heap.size := by omega
  clear p2 hsz2
  have hord : w.heap.size + 1 + 1 + 1 < g7 ∧ g7 < g8 ∧ g8 < g9 := by omega
  obtain ⟨ho7, ho8, ho9⟩ := hord
  clear hlt1 hlt2 hlt8 hlt9 hlt38 hI7c
  obtain ⟨nf, aof, kkf, ccf, ⟨f0, f1, f2, f3⟩, hNf⟩ := id X9
  obtain ⟨_, _, _, _, _, _, _, negr, posr⟩ := hNf.sign
  have Nr := hidd negr
  have Pr := hidd posr
  clear negr posr
  cases nf
  ·go_wp2
   have hEu : q0 = x / y ∧ r0 = x % y := by
    have hA := Ax.out
    have hB := Ay.out
    have h1 := Vq.out
    have h2 := Vr.out
    rw [hA, hB] at h1 h2
    have hq := Hq0.out
    have hr := Hr0.out
    rw [h1] at hq
    rw [h2] at hr
    have hv := V1.out
    rw [hB] at hv
    have hd := Int.mul_ediv_add_emod (ab x) (ab y)
    have hm0 := Int.emod_nonneg (ab x) (show ab y ≠ 0 by omega)
    have hm1 := Int.emod_lt_of_pos (ab x) hv
    have D := dm_end Hy0.out hd hm0 hm1 Nx.out Px.out Nx2.out Px2.out Ny2.out Py2.out hq hr
    have pr := Pr.out
    exact D.1 (by simpa using pr)
   have HEu := hidd hEu
   clear hEu
   have hlast := X9.lt
   have hp : (plan [Fc.num q0, Fc.num r0, Fc.any, Fc.any, Fc.is (.int .i64 (0))] [(w.heap.size, 1000, x, x), ((w.heap.size + 1), 1001, y, y), ((w.heap.size + 1 + 1), 2, 0, q0), ((w.heap.size + 1 + 1 + 1), 3, 0, r0), (g8, 1004, q0, q0), (g9, 1005, r0, r0)] []).Ok w.heap.size w12.heap.size := plan_ok (by simp; omega) (by simp; try omega) (by simp) (by omega)
   have hm := PMono.of hp
   refine region_steps (p := (plan [Fc.num q0, Fc.num r0, Fc.any, Fc.any, Fc.is (.int .i64 (0))] [(w.heap.size, 1000, x, x), ((w.heap.size + 1), 1001, y, y), ((w.heap.size + 1 + 1), 2, 0, q0), ((w.heap.size + 1 + 1 + 1), 3, 0, r0), (g8, 1004, q0, q0), (g9, 1005, r0, r0)] [])) (B := w.heap.size) (B0 := w12.heap.size) (w0 := w) (by kernel_rfl) rfl rfl (plan_start (by simp; exact ⟨XA, XB, X4, X5, X8, X9⟩) HB) ⟨?_, ?_, ?_, ?_, ?_, trivial⟩ ?_
   ·exact st_load (b := g8) (k := 1004) (z := q0) (z' := q0) hp (by simp [plan]) (.inl rfl) rfl rfl (fun v w h => h) ⟨by simp [plan], by simp [plan]⟩
   ·exact st_load (b := g9) (k := 1005) (z := r0) (z' := r0) hp (by simp [plan]) (.inl rfl) rfl rfl (fun v w h => h) ⟨by simp [plan], by simp [plan]⟩
   ·exact st_storeOld (b := (w.heap.size + 1 + 1)) (j := 0) (z := 0) (z' := q0) hp rfl (by simp [plan]) rfl rfl rfl (by simp) rfl (fun v w h => h) (fun _ _ => trivial) (by simp [plan]) (by simp [plan])
   ·exact st_storeOld (b := (w.heap.size + 1 + 1 + 1)) (j := 1) (z := 0) (z' := r0) hp rfl (by simp [plan]) rfl rfl rfl (by simp) rfl (fun v w h => h) (fun _ _ => trivial) (by simp [plan]) (by simp [plan])
   ·exact g_assign hm ⟨by simp [plan], by simp [plan]⟩ trivial (src_const (fun _ => rfl))
   intro L vs w3 hL hG
   replace XA : BoxNum w3 w.heap.size x := by have := hG.old (w.heap.size, 1000, x, x) (by simp [plan]); simpa using this
   replace XB : BoxNum w3 (w.heap.size + 1) y := by have := hG.old ((w.heap.size + 1), 1001, y, y) (by simp [plan]); simpa using this
   replace X4 : BoxNum w3 (w.heap.size + 1 + 1) q0 := by have := hG.old ((w.heap.size + 1 + 1), 2, 0, q0) (by simp [plan]); simpa [hL 2 (by simp)] using this
   replace X5 : BoxNum w3 (w.heap.size + 1 + 1 + 1) r0 := by have := hG.old ((w.heap.size + 1 + 1 + 1), 3, 0, r0) (by simp [plan]); simpa [hL 3 (by simp)] using this
   replace X8 : BoxNum w3 g8 q0 := by have := hG.old (g8, 1004, q0, q0) (by simp [plan]); simpa using this
   replace X9 : BoxNum w3 g9 r0 := by have := hG.old (g9, 1005, r0, r0) (by simp [plan]); simpa using this
   have e4 : vs 4 = .int .i64 (0) := hG.val 4 (hL 4 (by simp))
   replace HB := hG.below
   rw [lay_all hL]
   simp only [putAll, dstOf, List.length_cons, List.length_nil, Nat.zero_add, Nat.reduceAdd, List.getElem?_toArray, List.getElem?_cons_zero, List.getElem?_cons_succ, Option.bind_some, Act.put, List.setIfInBounds_toArray, List.set_cons_succ, List.set_cons_zero]
   rw [e4]
   generalize vs 0 = u3_0
   generalize vs 1 = u3_1
   clear hG hm hp hL hlast vs L e4
   obtain ⟨nc, aoc, kkc, ccc, ⟨c0, c1, c2, c3⟩, hNc⟩ := id X4
   obtain ⟨nd, aod, kkd, ccd, ⟨d0, d1, d2, d3⟩, hNd⟩ := id X5
   go_wp2
   refine bodyPost_ret (v := .tuple #[.agg #[.bool nc, .slice aoc kkc ccc], .agg #[.bool nd, .slice aod kkd ccd], .int .i64 0]) ?_ rfl ⟨HB, .inr ⟨Hy0.out, _, _, rfl, by rw [← HEu.out.1]; exact hNc.isInt, by rw [← HEu.out.2]; exact hNd.isInt⟩⟩
   simp [results, Try.results74, go_sem, c0, c1, d0, d1]
  ·go_wp2
   have B4 : Hid (ab ((Int.natAbs y : Int)) < pw 1000) := ab_absB By.out
   have B5 : Hid (ab ((r0 + (Int.natAbs y : Int))) < pw 1001) := ab_addB Br0.out B4.out (by omega) (by omega)
   have hlast := X9.lt
   have hp : (plan [Fc.num r0, Fc.num y, Fc.num (Int.natAbs y : Int), Fc.num (r0 + (Int.natAbs y : Int)), Fc.any] [(w.heap.size, 1000, x, x), ((w.heap.size + 1), 1001, y, y), ((w.heap.size + 1 + 1), 1002, 0, 0), ((w.heap.size + 1 + 1 + 1), 1003, 0, 0), (g8, 1004, q0, q0), (g9, 4, r0, (r0 + (Int.natAbs y : Int)))] []).Ok w.heap.size w12.heap.size := plan_ok (by simp; omega) (by simp; try omega) (by simp) (by omega)
   have hm := PMono.of hp
   refine region_steps (p := (plan [Fc.num r0, Fc.num y, Fc.num (Int.natAbs y : Int), Fc.num (r0 + (Int.natAbs y : Int)), Fc.any] [(w.heap.size, 1000, x, x), ((w.heap.size + 1), 1001, y, y), ((w.heap.size + 1 + 1), 1002, 0, 0), ((w.heap.size + 1 + 1 + 1), 1003, 0, 0), (g8, 1004, q0, q0), (g9, 4, r0, (r0 + (Int.natAbs y : Int)))] [])) (B := w.heap.size) (B0 := w12.heap.size) (w0 := w) (by kernel_rfl) rfl rfl (plan_start (by simp; exact ⟨XA, XB, X4, X5, X8, X9⟩) HB) ⟨?_, ?_, ?_, ?_, ?_, trivial⟩ ?_
   ·exact st_load (b := g9) (k := 4) (z := r0) (z' := (r0 + (Int.natAbs y : Int))) hp (by simp [plan]) (.inr rfl) rfl rfl (fun v w h => h) ⟨by simp [plan], by simp [plan]⟩
   ·exact st_load (b := (w.heap.size + 1)) (k := 1001) (z := y) (z' := y) hp (by simp [plan]) (.inl rfl) rfl rfl (fun v w h => h) ⟨by simp [plan], by simp [plan]⟩
   ·exact g_call1 (F := (Fc.num y).P) hm ⟨by simp [plan], by simp [plan]⟩ trivial enter_rAbs (src_in 1 rfl rfl (by simp) rfl (fun v w h => h)) (fun v w h => exK (RAbsV h) B4.out (by omega))
   ·exact g_call2 (F := (Fc.num r0).P) (G := (Fc.num (Int.natAbs y : Int)).P) hm ⟨by simp [plan], by simp [plan]⟩ trivial enter_rAdd (src_in 0 rfl rfl (by simp) rfl (fun v w h => h)) (src_in 2 rfl rfl (by simp) rfl (fun v w h => h)) (fun v v' w h h' => exK (RAddV h h') B5.out (by omega))
   ·exact st_storeOld (b := g9) (j := 3) (z := r0) (z' := (r0 + (Int.natAbs y : Int))) hp rfl (by simp [plan]) rfl rfl rfl (by simp) rfl (fun v w h => h) (fun _ _ => trivial) (by simp [plan]) (by simp [plan])
   intro L vs w6 hL hG
   replace XA : BoxNum w6 w.heap.size x := by have := hG.old (w.heap.size, 1000, x, x) (by simp [plan]); simpa using this
   replace XB : BoxNum w6 (w.heap.size + 1) y := by have := hG.old ((w.heap.size + 1), 1001, y, y) (by simp [plan]); simpa using this
   replace X4 : BoxNum w6 (w.heap.size + 1 + 1) 0 := by have := hG.old ((w.heap.size + 1 + 1), 1002, 0, 0) (by simp [plan]); simpa using this
   replace X5 : BoxNum w6 (w.heap.size + 1 + 1 + 1) 0 := by have := hG.old ((w.heap.size + 1 + 1 + 1), 1003, 0, 0) (by simp [plan]); simpa using this
   replace X8 : BoxNum w6 g8 q0 := by have := hG.old (g8, 1004, q0, q0) (by simp [plan]); simpa using this
   replace X9 : BoxNum w6 g9 (r0 + (Int.natAbs y : Int)) := by have := hG.old (g9, 4, r0, (r0 + (Int.natAbs y : Int))) (by simp [plan]); simpa [hL 4 (by simp)] using this
   replace HB := hG.below
   rw [lay_all hL]
   simp only [putAll, dstOf, List.length_cons, List.length_nil, Nat.zero_add, Nat.reduceAdd, List.getElem?_toArray, List.getElem?_cons_zero, List.getElem?_cons_succ, Option.bind_some, Act.put, List.setIfInBounds_toArray, List.set_cons_succ, List.set_cons_zero]
   generalize vs 0 = u6_0
   generalize vs 1 = u6_1
   generalize vs 2 = u6_2
   generalize vs 3 = u6_3
   clear hG hm hp hL hlast vs L 
   obtain ⟨nb, aob, kkb, ccb, ⟨b0, b1, b2, b3⟩, hNb⟩ := id XB
   obtain ⟨_, _, _, _, _, _, _, negy, posy⟩ := hNb.sign
   have Ny3 := hidd negy
   have Py3 := hidd posy
   clear negy posy
   cases nb
   ·go_wp2
    have B7 : Hid (ab (1) < pw 2) := by show ab (1) < pw 2; decide
    have B8 : Hid (ab ((q0 - (1))) < pw 1001) := ab_subB Bq0.out B7.out (by omega) (by omega)
    have hlast := X9.lt
    have hp : (plan [Fc.num q0, Fc.num (1), Fc.num (q0 - (1)), Fc.any] [(w.heap.size, 1000, x, x), ((w.heap.size + 1), 1001, y, y), ((w.heap.size + 1 + 1), 1002, 0, 0), ((w.heap.size + 1 + 1 + 1), 1003, 0, 0), (g8, 3, q0, (q0 - (1))), (g9, 1005, (r0 + (Int.natAbs y : Int)), (r0 + (Int.natAbs y : Int)))] []).Ok w.heap.size w6.heap.size := plan_ok (by simp; omega) (by simp; try omega) (by simp) (by omega)
    have hm := PMono.of hp
    refine region_steps (p := (plan [Fc.num q0, Fc.num (1), Fc.num (q0 - (1)), Fc.any] [(w.heap.size, 1000, x, x), ((w.heap.size + 1), 1001, y, y), ((w.heap.size + 1 + 1), 1002, 0, 0), ((w.heap.size + 1 + 1 + 1), 1003, 0, 0), (g8, 3, q0, (q0 - (1))), (g9, 1005, (r0 + (Int.natAbs y : Int)), (r0 + (Int.natAbs y : Int)))] [])) (B := w.heap.size) (B0 := w6.heap.size) (w0 := w) (by kernel_rfl) rfl rfl (plan_start (by simp; exact ⟨XA, XB, X4, X5, X8, X9⟩) HB) ⟨?_, ?_, ?_, ?_, trivial⟩ ?_
    ·exact st_load (b := g8) (k := 3) (z := q0) (z' := (q0 - (1))) hp (by simp [plan]) (.inr rfl) rfl rfl (fun v w h => h) ⟨by simp [plan], by simp [plan]⟩
    ·exact g_callC hm ⟨by simp [plan], by simp [plan]⟩ trivial enter_rOf (fun w => rOfV w (1) (by omega) (by omega))
    ·exact g_call2 (F := (Fc.num q0).P) (G := (Fc.num (1)).P) hm ⟨by simp [plan], by simp [plan]⟩ trivial enter_rSub (src_in 0 rfl rfl (by simp) rfl (fun v w h => h)) (src_in 1 rfl rfl (by simp) rfl (fun v w h => h)) (fun v v' w h h' => exK (RSubV h h' (K := 1000) (Int.lt_of_lt_of_le Bq0.out (pw_le (by omega))) (Int.lt_of_lt_of_le B7.out (pw_le (by omega))) (by omega)) B8.out (by omega))
    ·exact st_storeOld (b := g8) (j := 2) (z := q0) (z' := (q0 - (1))) hp rfl (by simp [plan]) rfl rfl rfl (by simp) rfl (fun v w h => h) (fun _ _ => trivial) (by simp [plan]) (by simp [plan])
    intro L vs w9 hL hG
    replace XA : BoxNum w9 w.heap.size x := by have := hG.old (w.heap.size, 1000, x, x) (by simp [plan]); simpa using this
    replace XB : BoxNum w9 (w.heap.size + 1) y := by have := hG.old ((w.heap.size + 1), 1001, y, y) (by simp [plan]); simpa using this
    replace X4 : BoxNum w9 (w.heap.size + 1 + 1) 0 := by have := hG.old ((w.heap.size + 1 + 1), 1002, 0, 0) (by simp [plan]); simpa using this
    replace X5 : BoxNum w9 (w.heap.size + 1 + 1 + 1) 0 := by have := hG.old ((w.heap.size + 1 + 1 + 1), 1003, 0, 0) (by simp [plan]); simpa using this
    replace X8 : BoxNum w9 g8 (q0 - (1)) := by have := hG.old (g8, 3, q0, (q0 - (1))) (by simp [plan]); simpa [hL 3 (by simp)] using this
    replace X9 : BoxNum w9 g9 (r0 + (Int.natAbs y : Int)) := by have := hG.old (g9, 1005, (r0 + (Int.natAbs y : Int)), (r0 + (Int.natAbs y : Int))) (by simp [plan]); simpa using this
    replace HB := hG.below
    rw [lay_all hL]
    simp only [putAll, dstOf, List.length_cons, List.length_nil, Nat.zero_add, Nat.reduceAdd, List.getElem?_toArray, List.getElem?_cons_zero, List.getElem?_cons_succ, Option.bind_some, Act.put, List.setIfInBounds_toArray, List.set_cons_succ, List.set_cons_zero]
    generalize vs 0 = u9_0
    generalize vs 1 = u9_1
    generalize vs 2 = u9_2
    clear hG hm hp hL hlast vs L 
    go_wp2
    have hEu : (q0 - (1)) = x / y ∧ (r0 + (Int.natAbs y : Int)) = x % y := by
     have hA := Ax.out
     have hB := Ay.out
     have h1 := Vq.out
     have h2 := Vr.out
     rw [hA, hB] at h1 h2
     have hq := Hq0.out
     have hr := Hr0.out
     rw [h1] at hq
     rw [h2] at hr
     have hv := V1.out
     rw [hB] at hv
     have hd := Int.mul_ediv_add_emod (ab x) (ab y)
     have hm0 := Int.emod_nonneg (ab x) (show ab y ≠ 0 by omega)
     have hm1 := Int.emod_lt_of_pos (ab x) hv
     have D := dm_end Hy0.out hd hm0 hm1 Nx.out Px.out Nx2.out Px2.out Ny2.out Py2.out hq hr
     have nr := Nr.out
     have ny3 := Ny3.out
     have py3 := Py3.out
     exact D.2.1 (by simpa using nr) (by simpa using py3)
    have HEu := hidd hEu
    clear hEu
    have hlast := X9.lt
    have hp : (plan [Fc.num (q0 - (1)), Fc.num (r0 + (Int.natAbs y : Int)), Fc.any, Fc.any, Fc.is (.int .i64 (0))] [(w.heap.size, 1000, x, x), ((w.heap.size + 1), 1001, y, y), ((w.heap.size + 1 + 1), 2, 0, (q0 - (1))), ((w.heap.size + 1 + 1 + 1), 3, 0, (r0 + (Int.natAbs y : Int))), (g8, 1004, (q0 - (1)), (q0 - (1))), (g9, 1005, (r0 + (Int.natAbs y : Int)), (r0 + (Int.natAbs y : Int)))] []).Ok w.heap.size w9.heap.size := plan_ok (by simp; omega) (by simp; try omega) (by simp) (by omega)
    have hm := PMono.of hp
    refine region_steps (p := (plan [Fc.num (q0 - (1)), Fc.num (r0 + (Int.natAbs y : Int)), Fc.any, Fc.any, Fc.is (.int .i64 (0))] [(w.heap.size, 1000, x, x), ((w.heap.size + 1), 1001, y, y), ((w.heap.size + 1 + 1), 2, 0, (q0 - (1))), ((w.heap.size + 1 + 1 + 1), 3, 0, (r0 + (Int.natAbs y : Int))), (g8, 1004, (q0 - (1)), (q0 - (1))), (g9, 1005, (r0 + (Int.natAbs y : Int)), (r0 + (Int.natAbs y : Int)))] [])) (B := w.heap.size) (B0 := w9.heap.size) (w0 := w) (by kernel_rfl) rfl rfl (plan_start (by simp; exact ⟨XA, XB, X4, X5, X8, X9⟩) HB) ⟨?_, ?_, ?_, ?_, ?_, trivial⟩ ?_
    ·exact st_load (b := g8) (k := 1004) (z := (q0 - (1))) (z' := (q0 - (1))) hp (by simp [plan]) (.inl rfl) rfl rfl (fun v w h => h) ⟨by simp [plan], by simp [plan]⟩
    ·exact st_load (b := g9) (k := 1005) (z := (r0 + (Int.natAbs y : Int))) (z' := (r0 + (Int.natAbs y : Int))) hp (by simp [plan]) (.inl rfl) rfl rfl (fun v w h => h) ⟨by simp [plan], by simp [plan]⟩
    ·exact st_storeOld (b := (w.heap.size + 1 + 1)) (j := 0) (z := 0) (z' := (q0 - (1))) hp rfl (by simp [plan]) rfl rfl rfl (by simp) rfl (fun v w h => h) (fun _ _ => trivial) (by simp [plan]) (by simp [plan])
    ·exact st_storeOld (b := (w.heap.size + 1 + 1 + 1)) (j := 1) (z := 0) (z' := (r0 + (Int.natAbs y : Int))) hp rfl (by simp [plan]) rfl rfl rfl (by simp) rfl (fun v w h => h) (fun _ _ => trivial) (by simp [plan]) (by simp [plan])
    ·exact g_assign hm ⟨by simp [plan], by simp [plan]⟩ trivial (src_const (fun _ => rfl))
    intro L vs w10 hL hG
    replace XA : BoxNum w10 w.heap.size x := by have := hG.old (w.heap.size, 1000, x, x) (by simp [plan]); simpa using this
    replace XB : BoxNum w10 (w.heap.size + 1) y := by have := hG.old ((w.heap.size + 1), 1001, y, y) (by simp [plan]); simpa using this
    replace X4 : BoxNum w10 (w.heap.size + 1 + 1) (q0 - (1)) := by have := hG.old ((w.heap.size + 1 + 1), 2, 0, (q0 - (1))) (by simp [plan]); simpa [hL 2 (by simp)] using this
    replace X5 : BoxNum w10 (w.heap.size + 1 + 1 + 1) (r0 + (Int.natAbs y : Int)) := by have := hG.old ((w.heap.size + 1 + 1 + 1), 3, 0, (r0 + (Int.natAbs y : Int))) (by simp [plan]); simpa [hL 3 (by simp)] using this
    replace X8 : BoxNum w10 g8 (q0 - (1)) := by have := hG.old (g8, 1004, (q0 - (1)), (q0 - (1))) (by simp [plan]); simpa using this
    replace X9 : BoxNum w10 g9 (r0 + (Int.natAbs y : Int)) := by have := hG.old (g9, 1005, (r0 + (Int.natAbs y : Int)), (r0 + (Int.natAbs y : Int))) (by simp [plan]); simpa using this
    have e4 : vs 4 = .int .i64 (0) := hG.val 4 (hL 4 (by simp))
    replace HB := hG.below
    rw [lay_all hL]
    simp only [putAll, dstOf, List.length_cons, List.length_nil, Nat.zero_add, Nat.reduceAdd, List.getElem?_toArray, List.getElem?_cons_zero, List.getElem?_cons_succ, Option.bind_some, Act.put, List.setIfInBounds_toArray, List.set_cons_succ, List.set_cons_zero]
    rw [e4]
    generalize vs 0 = u10_0
    generalize vs 1 = u10_1
    clear hG hm hp hL hlast vs L e4
    obtain ⟨nc, aoc, kkc, ccc, ⟨c0, c1, c2, c3⟩, hNc⟩ := id X4
    obtain ⟨nd, aod, kkd, ccd, ⟨d0, d1, d2, d3⟩, hNd⟩ := id X5
    go_wp2
    refine bodyPost_ret (v := .tuple #[.agg #[.bool nc, .slice aoc kkc ccc], .agg #[.bool nd, .slice aod kkd ccd], .int .i64 0]) ?_ rfl ⟨HB, .inr ⟨Hy0.out, _, _, rfl, by rw [← HEu.out.1]; exact hNc.isInt, by rw [← HEu.out.2]; exact hNd.isInt⟩⟩
    simp [results, Try.results74, go_sem, c0, c1, d0, d1]
   ·go_wp2
    have B11 : Hid (ab (1) < pw 2) := by show ab (1) < pw 2; decide
    have B12 : Hid (ab ((q0 + (1))) < pw 1001) := ab_addB Bq0.out B11.out (by omega) (by omega)
    have hlast := X9.lt
    have hp : (plan [Fc.num q0, Fc.num (1), Fc.num (q0 + (1)), Fc.any] [(w.heap.size, 1000, x, x), ((w.heap.size + 1), 1001, y, y), ((w.heap.size + 1 + 1), 1002, 0, 0), ((w.heap.size + 1 + 1 + 1), 1003, 0, 0), (g8, 3, q0, (q0 + (1))), (g9, 1005, (r0 + (Int.natAbs y : Int)), (r0 + (Int.natAbs y : Int)))] []).Ok w.heap.size w6.heap.size := plan_ok (by simp; omega) (by simp; try omega) (by simp) (by omega)
    have hm := PMono.of hp
    refine region_steps (p := (plan [Fc.num q0, Fc.num (1), Fc.num (q0 + (1)), Fc.any] [(w.heap.size, 1000, x, x), ((w.heap.size + 1), 1001, y, y), ((w.heap.size + 1 + 1), 1002, 0, 0), ((w.heap.size + 1 + 1 + 1), 1003, 0, 0), (g8, 3, q0, (q0 + (1))), (g9, 1005, (r0 + (Int.natAbs y : Int)), (r0 + (Int.natAbs y : Int)))] [])) (B := w.heap.size) (B0 := w6.heap.size) (w0 := w) (by kernel_rfl) rfl rfl (plan_start (by simp; exact ⟨XA, XB, X4, X5, X8, X9⟩) HB) ⟨?_, ?_, ?_, ?_, trivial⟩ ?_
    ·exact st_load (b := g8) (k := 3) (z := q0) (z' := (q0 + (1))) hp (by simp [plan]) (.inr rfl) rfl rfl (fun v w h => h) ⟨by simp [plan], by simp [plan]⟩
    ·exact g_callC hm ⟨by simp [plan], by simp [plan]⟩ trivial enter_rOf (fun w => rOfV w (1) (by omega) (by omega))
    ·exact g_call2 (F := (Fc.num q0).P) (G := (Fc.num (1)).P) hm ⟨by simp [plan], by simp [plan]⟩ trivial enter_rAdd (src_in 0 rfl rfl (by simp) rfl (fun v w h => h)) (src_in 1 rfl rfl (by simp) rfl (fun v w h => h)) (fun v v' w h h' => exK (RAddV h h') B12.out (by omega))
    ·exact st_storeOld (b := g8) (j := 2) (z := q0) (z' := (q0 + (1))) hp rfl (by simp [plan]) rfl rfl rfl (by simp) rfl (fun v w h => h) (fun _ _ => trivial) (by simp [plan]) (by simp [plan])
    intro L vs w13 hL hG
    replace XA : BoxNum w13 w.heap.size x := by have := hG.old (w.heap.size, 1000, x, x) (by simp [plan]); simpa using this
    replace XB : BoxNum w13 (w.heap.size + 1) y := by have := hG.old ((w.heap.size + 1), 1001, y, y) (by simp [plan]); simpa using this
    replace X4 : BoxNum w13 (w.heap.size + 1 + 1) 0 := by have := hG.old ((w.heap.size + 1 + 1), 1002, 0, 0) (by simp [plan]); simpa using this
    replace X5 : BoxNum w13 (w.heap.size + 1 + 1 + 1) 0 := by have := hG.old ((w.heap.size + 1 + 1 + 1), 1003, 0, 0) (by simp [plan]); simpa using this
    replace X8 : BoxNum w13 g8 (q0 + (1)) := by have := hG.old (g8, 3, q0, (q0 + (1))) (by simp [plan]); simpa [hL 3 (by simp)] using this
    replace X9 : BoxNum w13 g9 (r0 + (Int.natAbs y : Int)) := by have := hG.old (g9, 1005, (r0 + (Int.natAbs y : Int)), (r0 + (Int.natAbs y : Int))) (by simp [plan]); simpa using this
    replace HB := hG.below
    rw [lay_all hL]
    simp only [putAll, dstOf, List.length_cons, List.length_nil, Nat.zero_add, Nat.reduceAdd, List.getElem?_toArray, List.getElem?_cons_zero, List.getElem?_cons_succ, Option.bind_some, Act.put, List.setIfInBounds_toArray, List.set_cons_succ, List.set_cons_zero]
    generalize vs 0 = u13_0
    generalize vs 1 = u13_1
    generalize vs 2 = u13_2
    clear hG hm hp hL hlast vs L 
    go_wp2
    have hEu : (q0 + (1)) = x / y ∧ (r0 + (Int.natAbs y : Int)) = x % y := by
     have hA := Ax.out
     have hB := Ay.out
     have h1 := Vq.out
     have h2 := Vr.out
     rw [hA, hB] at h1 h2
     have hq := Hq0.out
     have hr := Hr0.out
     rw [h1] at hq
     rw [h2] at hr
     have hv := V1.out
     rw [hB] at hv
     have hd := Int.mul_ediv_add_emod (ab x) (ab y)
     have hm0 := Int.emod_nonneg (ab x) (show ab y ≠ 0 by omega)
     have hm1 := Int.emod_lt_of_pos (ab x) hv
     have D := dm_end Hy0.out hd hm0 hm1 Nx.out Px.out Nx2.out Px2.out Ny2.out Py2.out hq hr
     have nr := Nr.out
     have ny3 := Ny3.out
     have py3 := Py3.out
     exact D.2.2 (by simpa using nr) (by simpa using ny3)
    have HEu := hidd hEu
    clear hEu
    have hlast := X9.lt
    have hp : (plan [Fc.num (q0 + (1)), Fc.num (r0 + (Int.natAbs y : Int)), Fc.any, Fc.any, Fc.is (.int .i64 (0))] [(w.heap.size, 1000, x, x), ((w.heap.size + 1), 1001, y, y), ((w.heap.size + 1 + 1), 2, 0, (q0 + (1))), ((w.heap.size + 1 + 1 + 1), 3, 0, (r0 + (Int.natAbs y : Int))), (g8, 1004, (q0 + (1)), (q0 + (1))), (g9, 1005, (r0 + (Int.natAbs y : Int)), (r0 + (Int.natAbs y : Int)))] []).Ok w.heap.size w13.heap.size := plan_ok (by simp; omega) (by simp; try omega) (by simp) (by omega)
    have hm := PMono.of hp
    refine region_steps (p := (plan [Fc.num (q0 + (1)), Fc.num (r0 + (Int.natAbs y : Int)), Fc.any, Fc.any, Fc.is (.int .i64 (0))] [(w.heap.size, 1000, x, x), ((w.heap.size + 1), 1001, y, y), ((w.heap.size + 1 + 1), 2, 0, (q0 + (1))), ((w.heap.size + 1 + 1 + 1), 3, 0, (r0 + (Int.natAbs y : Int))), (g8, 1004, (q0 + (1)), (q0 + (1))), (g9, 1005, (r0 + (Int.natAbs y : Int)), (r0 + (Int.natAbs y : Int)))] [])) (B := w.heap.size) (B0 := w13.heap.size) (w0 := w) (by kernel_rfl) rfl rfl (plan_start (by simp; exact ⟨XA, XB, X4, X5, X8, X9⟩) HB) ⟨?_, ?_, ?_, ?_, ?_, trivial⟩ ?_
    ·exact st_load (b := g8) (k := 1004) (z := (q0 + (1))) (z' := (q0 + (1))) hp (by simp [plan]) (.inl rfl) rfl rfl (fun v w h => h) ⟨by simp [plan], by simp [plan]⟩
    ·exact st_load (b := g9) (k := 1005) (z := (r0 + (Int.natAbs y : Int))) (z' := (r0 + (Int.natAbs y : Int))) hp (by simp [plan]) (.inl rfl) rfl rfl (fun v w h => h) ⟨by simp [plan], by simp [plan]⟩
    ·exact st_storeOld (b := (w.heap.size + 1 + 1)) (j := 0) (z := 0) (z' := (q0 + (1))) hp rfl (by simp [plan]) rfl rfl rfl (by simp) rfl (fun v w h => h) (fun _ _ => trivial) (by simp [plan]) (by simp [plan])
    ·exact st_storeOld (b := (w.heap.size + 1 + 1 + 1)) (j := 1) (z := 0) (z' := (r0 + (Int.natAbs y : Int))) hp rfl (by simp [plan]) rfl rfl rfl (by simp) rfl (fun v w h => h) (fun _ _ => trivial) (by simp [plan]) (by simp [plan])
    ·exact g_assign hm ⟨by simp [plan], by simp [plan]⟩ trivial (src_const (fun _ => rfl))
    intro L vs w14 hL hG
    replace XA : BoxNum w14 w.heap.size x := by have := hG.old (w.heap.size, 1000, x, x) (by simp [plan]); simpa using this
    replace XB : BoxNum w14 (w.heap.size + 1) y := by have := hG.old ((w.heap.size + 1), 1001, y, y) (by simp [plan]); simpa using this
    replace X4 : BoxNum w14 (w.heap.size + 1 + 1) (q0 + (1)) := by have := hG.old ((w.heap.size + 1 + 1), 2, 0, (q0 + (1))) (by simp [plan]); simpa [hL 2 (by simp)] using this
    replace X5 : BoxNum w14 (w.heap.size + 1 + 1 + 1) (r0 + (Int.natAbs y : Int)) := by have := hG.old ((w.heap.size + 1 + 1 + 1), 3, 0, (r0 + (Int.natAbs y : Int))) (by simp [plan]); simpa [hL 3 (by simp)] using this
    replace X8 : BoxNum w14 g8 (q0 + (1)) := by have := hG.old (g8, 1004, (q0 + (1)), (q0 + (1))) (by simp [plan]); simpa using this
    replace X9 : BoxNum w14 g9 (r0 + (Int.natAbs y : Int)) := by have := hG.old (g9, 1005, (r0 + (Int.natAbs y : Int)), (r0 + (Int.natAbs y : Int))) (by simp [plan]); simpa using this
    have e4 : vs 4 = .int .i64 (0) := hG.val 4 (hL 4 (by simp))
    replace HB := hG.below
    rw [lay_all hL]
    simp only [putAll, dstOf, List.length_cons, List.length_nil, Nat.zero_add, Nat.reduceAdd, List.getElem?_toArray, List.getElem?_cons_zero, List.getElem?_cons_succ, Option.bind_some, Act.put, List.setIfInBounds_toArray, List.set_cons_succ, List.set_cons_zero]
    rw [e4]
    generalize vs 0 = u14_0
    generalize vs 1 = u14_1
    clear hG hm hp hL hlast vs L e4
    obtain ⟨nc, aoc, kkc, ccc, ⟨c0, c1, c2, c3⟩, hNc⟩ := id X4
    obtain ⟨nd, aod, kkd, ccd, ⟨d0, d1, d2, d3⟩, hNd⟩ := id X5
    go_wp2
    refine bodyPost_ret (v := .tuple #[.agg #[.bool nc, .slice aoc kkc ccc], .agg #[.bool nd, .slice aod kkd ccd], .int .i64 0]) ?_ rfl ⟨HB, .inr ⟨Hy0.out, _, _, rfl, by rw [← HEu.out.1]; exact hNc.isInt, by rw [← HEu.out.2]; exact hNd.isInt⟩⟩
    simp [results, Try.results74, go_sem, c0, c1, d0, d1]

set_option maxRecDepth 100000 in
set_option maxHeartbeats 8000000 in
theorem RModV {w : World} {v v' : Value} {x y : Int} (h : Num w v x) (h' : Num w v' y) (hx : ab x < pw 1000) (hy : ab y < pw 1000) (hy0 : y ≠ 0) : Calls Try.prog 53 #[v, v'] w (GivesInt w (x % y)) := by
 obtain ⟨n, ao, k, c, rfl⟩ := h.parts
 obtain ⟨n', ao', k', c', rfl⟩ := h'.parts
 have Bx := hidd hx
 have By := hidd hy
 have Hy0 := hidd hy0
 clear hx hy hy0
 obtain ⟨w0, hw0, hXW, X4, HB, _⟩ := boxes3n w h h' 29
 obtain ⟨XA, XB, _⟩ := hXW w0 (Below.refl _ _)
 clear hXW
 go_enter Try.func53, Try.ntmps53
 go_upto_region 1 with (fail)
 rw [← hw0]
 clear hw0 h h'
 have hlt0 := X4.lt
 obtain ⟨na, aoa, kka, cca, ⟨a0, a1, a2, a3⟩, hNa⟩ := id XA
 obtain ⟨nb, aob, kkb, ccb, ⟨b0, b1, b2, b3⟩, hNb⟩ := id XB
 go_wp2_with fail
 refine (RDivModV hNa hNb Bx.out By.out).mono ?_
 rintro e w1 ⟨hb, ⟨h0, _⟩ | ⟨_, vq, vr, rfl, iq, ir⟩⟩
 ·exact absurd h0 Hy0.out
 have Nq := num_of iq (ab_divB Bx.out (show 1000 < 1001 by omega)) (by omega)
 have Nr := num_of ir (ab_modB Hy0.out By.out) (by omega)
 obtain ⟨nq, aq, kq, cq, rfl⟩ := Nq.parts
 obtain ⟨nr, ar, kr, cr, rfl⟩ := Nr.parts
 clear iq ir
 clear a0 a1 a2 a3 hNa b0 b1 b2 b3 hNb
 replace XA := XA.mono hb
 replace XB := XB.mono hb
 replace X4 := X4.mono hb
 replace HB := HB.trans (hb.mono HB.size)
 clear hb
 go_upto_region 2 with (fail)
 obtain ⟨w2, hw2, hb, p5, p6⟩ := boxTwo Nq Nr 29
 rw [← hw2]
 clear hw2
 have hlt1 := X4.lt
 replace XA := XA.mono hb
 replace XB := XB.mono hb
 replace X4 := X4.mono hb
 replace HB := HB.trans (hb.mono HB.size)
 replace Nq := Nq.mono hb
 replace Nr := Nr.mono hb
 clear hb
 obtain ⟨ne, ae, ke, ce, ⟨e0, e1, _, _⟩, hNe⟩ := id p6
 obtain ⟨nc, aoc, kkc, ccc, ⟨c0, c1, c2, c3⟩, hNc⟩ := id X4
 have hNf := hNe.putBox X4 ne ae ke ce
 unfold putBox at hNf
 have hbS := (HB.setCell (p := ⟨w.heap.size + 1 + 1, 0, none⟩) (by show w.heap.size ≤ w.heap.size + 1 + 1; omega) (.bool ne)).setCell (p := ⟨w.heap.size + 1 + 1, 1, none⟩) (by show w.heap.size ≤ w.heap.size + 1 + 1; omega) (.slice ae ke ce)
 have hne1 : ¬ w1.heap.size = w.heap.size + 1 + 1 := by omega
 go_wp2
 refine bodyPost_ret (v := .agg #[.bool ne, .slice ae ke ce]) ?_ rfl ⟨_, rfl, hNf.isInt, hbS⟩
 simp [results, Try.results53, go_sem, c0, c1]

end Go.Proofs.Ytihhlaagndingaa

namespace Go.Proofs.Ytihhlaagndingaa
open Go Go.RowKit

end Go.Proofs.Ytihhlaagndingaa

namespace Go.Proofs.Ytihhlaagndingaa
open Go Go.RowKit

theorem enq_Add (args : Array Value) (w : World) : (callFunc 19 args).run Try.prog w = .ok (.enter 19 args) w := enter_of Try.func19 (by kernel_rfl) rfl args w
theorem enq_Mul (args : Array Value) (w : World) : (callFunc 20 args).run Try.prog w = .ok (.enter 20 args) w := enter_of Try.func20 (by kernel_rfl) rfl args w
theorem enq_Sub (args : Array Value) (w : World) : (callFunc 60 args).run Try.prog w = .ok (.enter 60 args) w := enter_of Try.func60 (by kernel_rfl) rfl args w
theorem enq_Neg (args : Array Value) (w : World) : (callFunc 63 args).run Try.prog w = .ok (.enter 63 args) w := enter_of Try.func63 (by kernel_rfl) rfl args w
theorem enq_Gcd (args : Array Value) (w : World) : (callFunc 78 args).run Try.prog w = .ok (.enter 78 args) w := enter_of Try.func78 (by kernel_rfl) rfl args w
theorem enq_DivMod (args : Array Value) (w : World) : (callFunc 23 args).run Try.prog w = .ok (.enter 23 args) w := enter_of Try.func23 (by kernel_rfl) rfl args w
theorem enq_Cmp (args : Array Value) (w : World) : (callFunc 24 args).run Try.prog w = .ok (.enter 24 args) w := enter_of Try.func24 (by kernel_rfl) rfl args w
theorem enq_Sign (args : Array Value) (w : World) : (callFunc 22 args).run Try.prog w = .ok (.enter 22 args) w := enter_of Try.func22 (by kernel_rfl) rfl args w
theorem enq_Of (args : Array Value) (w : World) : (callFunc 57 args).run Try.prog w = .ok (.enter 57 args) w := enter_of Try.func57 (by kernel_rfl) rfl args w
theorem enq_Valid (args : Array Value) (w : World) : (callFunc 56 args).run Try.prog w = .ok (.enter 56 args) w := enter_of Try.func56 (by kernel_rfl) rfl args w
theorem enq_R_Made (args : Array Value) (w : World) : (callFunc 17 args).run Try.prog w = .ok (.enter 17 args) w := enter_of Try.func17 (by kernel_rfl) rfl args w
theorem enq_R_Same (args : Array Value) (w : World) : (callFunc 27 args).run Try.prog w = .ok (.enter 27 args) w := enter_of Try.func27 (by kernel_rfl) rfl args w
theorem enq_R_Of (args : Array Value) (w : World) : (callFunc 25 args).run Try.prog w = .ok (.enter 25 args) w := enter_of Try.func25 (by kernel_rfl) rfl args w
theorem enq_R_Abs (args : Array Value) (w : World) : (callFunc 52 args).run Try.prog w = .ok (.enter 52 args) w := enter_of Try.func52 (by kernel_rfl) rfl args w
theorem enq_R_Gcd (args : Array Value) (w : World) : (callFunc 31 args).run Try.prog w = .ok (.enter 31 args) w := enter_of Try.func31 (by kernel_rfl) rfl args w
theorem enq_R_Mod (args : Array Value) (w : World) : (callFunc 53 args).run Try.prog w = .ok (.enter 53 args) w := enter_of Try.func53 (by kernel_rfl) rfl args w
theorem enq_R_Add (args : Array Value) (w : World) : (callFunc 29 args).run Try.prog w = .ok (.enter 29 args) w := enter_of Try.func29 (by kernel_rfl) rfl args w
theorem enq_R_Mul (args : Array Value) (w : World) : (callFunc 30 args).run Try.prog w = .ok (.enter 30 args) w := enter_of Try.func30 (by kernel_rfl) rfl args w
theorem ab_gcdB {x y : Int} {j k m : Nat} (hx : ab x < pw j) (hy : ab y < pw k) (hj : j ≤ m) (hk : k ≤ m) : ab (Int.gcd x y : Int) < pw m := by
 have h1 := pw_le hj
 have h2 := pw_le hk
 by_cases h : x = 0
 ·subst h
  rw [Int.zero_gcd]
  unfold ab at *
  omega
 ·have h3 := Int.gcd_le_natAbs_left y h
  unfold ab at *
  omega

theorem cmpIq0 {x y : Int} : cmpI x y = 0 ↔ x = y := by
 unfold cmpI
 split
 ·rename_i h
  constructor
  ·intro h2; omega
  ·intro h2; omega
 ·split
  ·rename_i h; exact ⟨fun _ => h, fun _ => rfl⟩
  ·rename_i h; exact ⟨fun h2 => by omega, fun h2 => absurd h2 h⟩
theorem cmpIqlt {x y : Int} : cmpI x y < 0 ↔ x < y := by
 unfold cmpI
 split
 ·rename_i h; exact ⟨fun _ => h, fun _ => by decide⟩
 ·rename_i h
  split
  ·exact ⟨fun h2 => by omega, fun h2 => absurd h2 h⟩
  ·exact ⟨fun h2 => by omega, fun h2 => absurd h2 h⟩
theorem cmpIqgt {x y : Int} : 0 < cmpI x y ↔ y < x := by
 unfold cmpI
 split
 ·rename_i h; exact ⟨fun h2 => by omega, fun h2 => by omega⟩
 ·split
  ·rename_i h; exact ⟨fun h2 => by omega, fun h2 => by omega⟩
  ·rename_i h1 h; exact ⟨fun _ => by omega, fun _ => by decide⟩

theorem ab_lit {c : Int} (h : ab c < 4294967296 * 4294967296 * 4294967296) : ab c < pw 3 := h

theorem exDMq {w : World} {v v' : Value} {a b : Int} (h : Num w v a) (h' : Num w v' b) (hb : b ≠ 0) {j k : Nat} (hq : ab (a / b) < pw j) (hr : ab (a % b) < pw k) (hj : j ≤ 900000) (hk : k ≤ 900000) :
  Calls Try.prog 23 #[v, v'] w fun e w' => ∃ v', e = .returned v' ∧ Below w.heap.size w w' ∧ (Fq.tup3 (Fq.num (a / b)) (Fq.num (a % b)) (Fq.is (.int .i64 0))).P v' w' :=
 (exDT h h' hb hq hr hj hk).mono fun _ _ ⟨v', e, hb', v1, v2, e2, h1, h2⟩ => ⟨v', e, hb', v1, v2, _, e2, h1, h2, rfl⟩

theorem OfK (w : World) (z : Int) (h0 : -9223372036854775808 ≤ z) (h1 : z ≤ 9223372036854775807) : Calls Try.prog 57 #[.int .i64 z] w fun e w' => ∃ v', e = .returned v' ∧ Below w.heap.size w w' ∧ Num w' v' z := OfV w z h0 h1
theorem rOfK (w : World) (z : Int) (h0 : -9223372036854775808 ≤ z) (h1 : z ≤ 9223372036854775807) : Calls Try.prog 25 #[.int .i64 z] w fun e w' => ∃ v', e = .returned v' ∧ Below w.heap.size w w' ∧ Num w' v' z := rOfV w z h0 h1

end Go.Proofs.Ytihhlaagndingaa

namespace Go.Proofs.Ytihhlaagndingaa
open Go Go.RowKit

theorem bq_box {w : World} {b : Nat} {z : Int} (h : Bq w b 2 (Fq.num z)) : BoxNum w b z := by
 obtain ⟨us, hl, _, hat, _, hP⟩ := h
 match us, hl, hat, hP with
 | [p, q], _, hat, hP =>
  have hN : Num w (.agg #[p, q]) z := hP
  obtain ⟨n, ao, k, c, e⟩ := hN.parts
  have e1 := congrArg (fun v => match v with | Value.agg us => us.toList | _ => []) e
  simp at e1
  obtain ⟨rfl, rfl⟩ := e1
  exact ⟨n, ao, k, c, ⟨(hat 0 (by simp)).1, (hat 1 (by simp)).1, (hat 0 (by simp)).2, (hat 1 (by simp)).2⟩, hN⟩

theorem Fr.drop {w0 W : World} {x : Nat × Nat × Fq} {bs : List (Nat × Nat × Fq)} (h : Fr w0 (x :: bs) W) : Fr w0 bs W :=
 ⟨h.below, fun y hy => h.boxes y (List.mem_cons_of_mem _ hy), by have := h.apart; rw [List.map_cons, List.nodup_cons] at this; exact this.2⟩

theorem exRMod {w : World} {v v' : Value} {a b : Int} (h : Num w v a) (h' : Num w v' b) (h0 : b ≠ 0) (ha : ab a < pw 900) (hb : ab b < pw 900) : Calls Try.prog 53 #[v, v'] w fun e w' => ∃ v', e = .returned v' ∧ Below w.heap.size w w' ∧ Num w' v' (a % b) :=
 exK (k := 900) (RModV h h' (Int.lt_of_lt_of_le ha (pw_le (by omega))) (Int.lt_of_lt_of_le hb (pw_le (by omega))) h0) (ab_modB h0 hb) (by omega)
theorem exRSame {w : World} {v v' : Value} {a b : Int} (h : Num w v a) (h' : Num w v' b) : Calls Try.prog 27 #[v, v'] w fun e w' => ∃ v', e = .returned v' ∧ Below w.heap.size w w' ∧ v' = .bool (decide (a = b)) :=
 (SameV h h').mono fun _ _ hh => ⟨_, hh.1, hh.2, rfl⟩

theorem gcd_stepQ (x y : Int) : Int.gcd y (x % y) = Int.gcd x y := by
 have e : x % y = x - y * (x / y) := by have := Int.mul_ediv_add_emod x y; omega
 rw [e, Int.gcd_sub_mul_left_right, Int.gcd_comm]

end Go.Proofs.Ytihhlaagndingaa

namespace Go.Proofs.Ytihhlaagndingaa
open Go Go.RowKit

def Fq.raw (n : Bool) (a : Option Addr) (k c : Nat) (xs : List Int) : Fq := ⟨fun v w => v = .agg #[.bool n, .slice a k c] ∧ Sl w a k c xs, fun h hb => ⟨h.1, h.2.mono hb⟩, fun h ha ht hl => ⟨h.1, h.2.putAt ha ht hl⟩⟩
section
variable {n n' : Bool} {a a' : Option Addr} {k c k' c' : Nat} {xs xs' : List Int}
theorem ld_raw {us : List Value} {w : World} (hl : us.length = 2) (h : (Fq.raw n a k c xs).P (.agg us.toArray) w) : (Fq.raw n a k c xs).P (.agg #[us.getD 0 undef, us.getD (0 + 1) undef]) w := by
 match us, hl with
 | [p, q], _ => exact h
end

section
variable {os : List Oper} {Q : Exit → Act → World → Prop} {a : Act} {p : Pq} {B B0 : Nat} {w0 : World}
variable {i s : Nat} {d : Option Tmp} {ty : TypeId} {ps : String} {af : Array Edge} {gd : Option (Nat × Bool)}
theorem q_loadRaw {o : Ob} {off : Nat} {x : Operand} (hp : p.Ok B B0) (hF : p.Free i) (hg : GdQ os a p B B0 w0 af gd) (ho : o ∈ p.old) (hk : o.F1 = o.F0 ∨ leadsB os 9 o.k i = true) (hoff : off + 2 ≤ o.m)
  (hx : SrcQ os a p B B0 w0 af x fun u _ => u = .pointer (some ⟨o.b, off, none⟩)) (hC : ∀ (us : List Value) (w : World), us.length = o.m → o.F0.P (.agg us.toArray) w → (p.c i).P (.agg #[us.getD off undef, us.getD (off + 1) undef]) w) :
  StepQ os Q a p B B0 w0 i { dst := d, op := .load 49 x, type := ty, pos := ps, after := af, guard := gd } := by
 refine stq_val hp hF hg fun L vs w hG hL hc hd => ?_
 obtain ⟨us, hl, h0, hat, ht, hP⟩ := box_now ho hk hG hL hc
 have e := hx L vs w hG hd
 have c0 := (hat off (by omega)).1
 have c1 := (hat (off + 1) (by omega)).1
 refine ⟨_, ?_, hC us w hl hP⟩
 generalize (lay os.toArray L vs os.toArray.size a).eval = ρ at e
 generalize us.getD off undef = u0 at c0 ⊢
 generalize us.getD (off + 1) undef = u1 at c1 ⊢
 simp [execOp, go_sem, e, c0, c1]
end

theorem exRMade {w : World} {v v' : Value} {n : Bool} {a : Option Addr} {k c : Nat} {xs : List Int} {j : Nat} (h : (Fq.raw n a k c xs).P v w) (h' : v' = .int .i64 j) (hk : k ≤ 9223372036854775807) (hj : j ≤ 900000) :
  Calls Try.prog 17 #[v, v'] w fun e w' => ∃ v', e = .returned v' ∧ Below w.heap.size w w' ∧ Num w' v' (sgn n (val (xs.take j))) := by
 obtain ⟨rfl, hs⟩ := h
 subst h'
 exact exK (Made_any _ _ _ _ _ _ hs hk j hj) (Num.ofMade hs.digs) hj

set_option maxRecDepth 100000 in
set_option maxHeartbeats 4000000 in
theorem exRGcd {w : World} {v v' : Value} {a b : Int} (h : Num w v a) (h' : Num w v' b) (ha : ab a < pw 900) (hb : ab b < pw 900) :
  Calls Try.prog 31 #[v, v'] w fun e w' => ∃ v', e = .returned v' ∧ Below w.heap.size w w' ∧ Num w' v' (Int.gcd a b : Int) := by
 replace ha := hidd ha
 replace hb := hidd hb
 obtain ⟨n0, ao0, k0, c0, rfl⟩ := h.parts
 obtain ⟨n1, ao1, k1, c1, rfl⟩ := h'.parts
 obtain ⟨w1, b1, hw1, hb1, hs1, E⟩ := fr_start w (F := Fq.num a) (us := [.bool n0, .slice ao0 k0 c0]) 29 rfl (by simp) (tame_int _ _ _ _) h
 obtain ⟨w2, b2, hw2, hb2, hs2, E⟩ := fr_more E hs1 (F := Fq.num b) (us := [.bool n1, .slice ao1 k1 c1]) 29 rfl (by simp) (tame_int _ _ _ _) (h'.mono E.below)
 obtain ⟨w3, b3, hw3, hb3, hs3, E⟩ := fr_more E hs2 (F := Fq.num 0) (us := [.bool false, .slice none 0 0]) 29 rfl (by simp) (tame_int _ _ _ _) (Num.zero _)
 go_enter Try.func31, Try.ntmps31
 go_upto_region 1 with (fail)
 rw [← hw1]
 rw [← hw2]
 rw [← hw3]
 rw [← hb3]
 rw [← hb2]
 rw [← hb1]
 clear hw1 hw2 hw3 hb1 hb2 hb3 hs3 hs1 hs2
 have B4 : Hid (ab ((Int.natAbs a : Int)) < pw 900) := ab_absB ha.out
 refine region_fr (C := [Fq.num a, Fq.num (Int.natAbs a : Int), Fq.any]) (ks := [none, none, some (2, Fq.num (Int.natAbs a : Int))]) (new := []) E rfl (by kernel_rfl) rfl rfl (fun hp => ⟨?_, ?_, ?_, trivial⟩) ?_
 ·exact q_loadInt (off := 0) hp (free_of rfl) trivial (mq 2 rfl) (.inr rfl) (Nat.le_of_ble_eq_true rfl) (sq_out rfl rfl (fun _ _ => rfl)) (fun us w hl h => ld_num hl h)
 ·exact q_call1 (F := (Fq.num a).P) hp (free_of rfl) trivial (enq_R_Abs) (sqi 0) (fun v w h => exK (RAbsV h) B4.out (by omega))
 ·exact q_storeOldInt hp (mq 2 rfl) rfl rfl (sq_out rfl rfl (fun _ _ => rfl)) (sq_in 1 rfl rfl (by simp) rfl (fun v w h => intV_num h)) (fun _ _ => trivial) (newik_ne rfl)
 intro L vs w5 nb hL hC hn E5
 have E : Fr w [(b3, 2, Fq.num 0), (b2, 2, Fq.num b), (b1, 2, Fq.num (Int.natAbs a : Int))] w5 := E5
 rw [lay_all hL]
 simp only [putAll, dstOf, List.length_cons, List.length_nil, Nat.zero_add, Nat.reduceAdd, List.getElem?_toArray, List.getElem?_cons_zero, List.getElem?_cons_succ, Option.bind_some, Act.put, List.setIfInBounds_toArray, List.set_cons_succ, List.set_cons_zero]
 generalize vs 0 = u5_0
 generalize vs 1 = u5_1
 clear  hC hn E5 hL vs L nb
 go_upto_region 2 with (fail)
 have B6 : Hid (ab ((Int.natAbs b : Int)) < pw 900) := ab_absB hb.out
 refine region_fr (C := [Fq.num b, Fq.num (Int.natAbs b : Int), Fq.any]) (ks := [none, some (2, Fq.num (Int.natAbs b : Int)), none]) (new := []) E rfl (by kernel_rfl) rfl rfl (fun hp => ⟨?_, ?_, ?_, trivial⟩) ?_
 ·exact q_loadInt (off := 0) hp (free_of rfl) trivial (mq 1 rfl) (.inr rfl) (Nat.le_of_ble_eq_true rfl) (sq_out rfl rfl (fun _ _ => rfl)) (fun us w hl h => ld_num hl h)
 ·exact q_call1 (F := (Fq.num b).P) hp (free_of rfl) trivial (enq_R_Abs) (sqi 0) (fun v w h => exK (RAbsV h) B6.out (by omega))
 ·exact q_storeOldInt hp (mq 1 rfl) rfl rfl (sq_out rfl rfl (fun _ _ => rfl)) (sq_in 1 rfl rfl (by simp) rfl (fun v w h => intV_num h)) (fun _ _ => trivial) (newik_ne rfl)
 intro L vs w7 nb hL hC hn E7
 have E : Fr w [(b3, 2, Fq.num 0), (b2, 2, Fq.num (Int.natAbs b : Int)), (b1, 2, Fq.num (Int.natAbs a : Int))] w7 := E7
 rw [lay_all hL]
 simp only [putAll, dstOf, List.length_cons, List.length_nil, Nat.zero_add, Nat.reduceAdd, List.getElem?_toArray, List.getElem?_cons_zero, List.getElem?_cons_succ, Option.bind_some, Act.put, List.setIfInBounds_toArray, List.set_cons_succ, List.set_cons_zero]
 generalize vs 0 = u7_0
 generalize vs 1 = u7_1
 clear  hC hn E7 hL vs L nb
 have HS := hidd E
 go_upto_region 3 with (fail)
 go_loopw [5] (fun _ W => ∃ x y : Int, 0 ≤ x ∧ 0 ≤ y ∧ Hid (ab x < pw 900 ∧ ab y < pw 900 ∧ Int.gcd x y = Int.gcd a b) ∧ Fr w [(b3, 2, Fq.num 0), (b2, 2, Fq.num y), (b1, 2, Fq.num x)] W) (fun _ W => boxVal W b2)
 case atStart => exact ⟨_, _, Int.natCast_nonneg _, Int.natCast_nonneg _, ⟨ab_absB ha.out, ab_absB hb.out, by rw [Int.gcd_eq_natAbs_gcd_natAbs, Int.gcd_eq_natAbs_gcd_natAbs, Int.natAbs_natCast, Int.natAbs_natCast]⟩, HS.out⟩
 case round =>
  obtain ⟨x, y, hx0, hy0, HI, E⟩ := hrel
  have HX := hidd hx0
  have HY := hidd hy0
  clear hx0 hy0 HS
  obtain ⟨n2, ao2, k2, c2, ⟨d0, d1, _, _⟩, hN2⟩ := bq_box (E.box 1 rfl)
  have hz := hN2.len_zero.1
  by_cases hy : y = 0
  ·obtain rfl := hz.2 hy
   subst hy
   clear hz hN2
   go_upto_region 7 with (fail)
   refine region_fr (C := [Fq.num x, Fq.any]) (ks := [some (1, Fq.num x), none, none]) (new := []) E rfl (by kernel_rfl) rfl rfl (fun hp => ⟨?_, ?_, trivial⟩) ?_
   ·exact q_loadInt (off := 0) hp (free_of rfl) trivial (mq 2 rfl) (.inl rfl) (Nat.le_of_ble_eq_true rfl) (sq_out rfl rfl (fun _ _ => rfl)) (fun us w hl h => ld_num hl h)
   ·exact q_storeOldInt hp (mq 0 rfl) rfl rfl (sq_out rfl rfl (fun _ _ => rfl)) (sq_in 0 rfl rfl (by simp) rfl (fun v w h => intV_num h)) (fun _ _ => trivial) (newik_ne rfl)
   intro L vs w8 nb hL hC hn E8
   have E : Fr w [(b3, 2, Fq.num x), (b2, 2, Fq.num 0), (b1, 2, Fq.num x)] w8 := E8
   rw [lay_all hL]
   simp only [putAll, dstOf, List.length_cons, List.length_nil, Nat.zero_add, Nat.reduceAdd, List.getElem?_toArray, List.getElem?_cons_zero, List.getElem?_cons_succ, Option.bind_some, Act.put, List.setIfInBounds_toArray, List.set_cons_succ, List.set_cons_zero]
   generalize vs 0 = u8_0
   clear  hC hn E8 hL vs L nb
   obtain ⟨p0, p1, c0, c1, hP⟩ := box_num (E.box 0 rfl)
   clear d0 d1
   have hg : x = (Int.gcd a b : Int) := by rw [← HI.out.2.2, Int.gcd_zero]; have := HX.out; omega
   have HG := hidd hg
   clear hg ha hb
   go_wp2
   refine bodyPost_ret (v := .agg #[p0, p1]) ?_ rfl ⟨_, rfl, E.below, by rw [← HG.out]; exact hP⟩
   simp [results, Try.results31, go_sem, c0, c1]
  ·have hk2 : 0 < k2 := by have := mt hz.1 hy; omega
   have HNZ := hidd hy
   clear hy hz hN2
   have HBV := hidd (boxVal_eq (bq_box (E.box 1 rfl)))
   go_upto_region 4 with (fail)
   have B9 : Hid (ab ((x % y)) < pw 900) := ab_modB HNZ.out HI.out.2.1
   refine region_fr (C := [Fq.num x, Fq.num y, Fq.num (x % y), Fq.any, Fq.any]) (ks := [none, none, none]) (new := [⟨3, 4, 2, Fq.num 0, Fq.num (x % y), none⟩]) E rfl (by kernel_rfl) rfl rfl (fun hp => ⟨?_, ?_, ?_, ?_, ?_, trivial⟩) ?_
   ·exact q_loadInt (off := 0) hp (free_of rfl) trivial (mq 2 rfl) (.inl rfl) (Nat.le_of_ble_eq_true rfl) (sq_out rfl rfl (fun _ _ => rfl)) (fun us w hl h => ld_num hl h)
   ·exact q_loadInt (off := 0) hp (free_of rfl) trivial (mq 1 rfl) (.inl rfl) (Nat.le_of_ble_eq_true rfl) (sq_out rfl rfl (fun _ _ => rfl)) (fun us w hl h => ld_num hl h)
   ·exact q_call2 (F := (Fq.num x).P) (G := (Fq.num y).P) hp (free_of rfl) trivial (enq_R_Mod) (sqi 0) (sqi 1) (fun v v' w h h' => exRMod h h' HNZ.out (Int.lt_of_lt_of_le HI.out.1 (pw_le (by omega))) (Int.lt_of_lt_of_le HI.out.2.1 (pw_le (by omega))))
   ·exact q_allocInt hp (mq 0 rfl) rfl rfl rfl rfl (Nat.ne_of_beq_eq_false rfl) (fun _ _ => trivial) (old_ne rfl) (newk_ne rfl) (fun w => Num.zero w)
   ·exact q_storeNewInt hp (mq 0 rfl) rfl rfl rfl (own_ptr rfl rfl (by simp) rfl) (sq_in 2 rfl rfl (by simp) rfl (fun v w h => intV_num h)) (fun _ _ => trivial) (old_ne rfl) (newi_ne rfl)
   intro L vs w10 nb hL hC hn E10
   have e3 : vs 3 = .pointer (some ⟨nb 3, 0, none⟩) := hn _ (mq 0 rfl)
   have E : Fr w [(nb 3, 2, Fq.num (x % y)), (b3, 2, Fq.num 0), (b2, 2, Fq.num y), (b1, 2, Fq.num x)] w10 := E10
   rw [lay_all hL]
   simp only [putAll, dstOf, List.length_cons, List.length_nil, Nat.zero_add, Nat.reduceAdd, List.getElem?_toArray, List.getElem?_cons_zero, List.getElem?_cons_succ, Option.bind_some, Act.put, List.setIfInBounds_toArray, List.set_cons_succ, List.set_cons_zero]
   rw [e3]
   generalize nb 3 = b10_3 at E ⊢
   generalize vs 0 = u10_0
   generalize vs 1 = u10_1
   generalize vs 2 = u10_2
   clear e3 hC hn E10 hL vs L nb
   clear d0 d1
   go_upto_region 5 with (fail)
   refine region_fr (C := [Fq.num y, Fq.any]) (ks := [none, none, none, some (1, Fq.num y)]) (new := []) E rfl (by kernel_rfl) rfl rfl (fun hp => ⟨?_, ?_, trivial⟩) ?_
   ·exact q_loadInt (off := 0) hp (free_of rfl) trivial (mq 2 rfl) (.inl rfl) (Nat.le_of_ble_eq_true rfl) (sq_out rfl rfl (fun _ _ => rfl)) (fun us w hl h => ld_num hl h)
   ·exact q_storeOldInt hp (mq 3 rfl) rfl rfl (sq_out rfl rfl (fun _ _ => rfl)) (sq_in 0 rfl rfl (by simp) rfl (fun v w h => intV_num h)) (fun _ _ => trivial) (newik_ne rfl)
   intro L vs w11 nb hL hC hn E11
   have E : Fr w [(b10_3, 2, Fq.num (x % y)), (b3, 2, Fq.num 0), (b2, 2, Fq.num y), (b1, 2, Fq.num y)] w11 := E11
   rw [lay_all hL]
   simp only [putAll, dstOf, List.length_cons, List.length_nil, Nat.zero_add, Nat.reduceAdd, List.getElem?_toArray, List.getElem?_cons_zero, List.getElem?_cons_succ, Option.bind_some, Act.put, List.setIfInBounds_toArray, List.set_cons_succ, List.set_cons_zero]
   generalize vs 0 = u11_0
   clear  hC hn E11 hL vs L nb
   go_upto_region 6 with (fail)
   refine region_fr (C := [Fq.num (x % y), Fq.any]) (ks := [none, none, some (1, Fq.num (x % y)), none]) (new := []) E rfl (by kernel_rfl) rfl rfl (fun hp => ⟨?_, ?_, trivial⟩) ?_
   ·exact q_loadInt (off := 0) hp (free_of rfl) trivial (mq 0 rfl) (.inl rfl) (Nat.le_of_ble_eq_true rfl) (sq_out rfl rfl (fun _ _ => rfl)) (fun us w hl h => ld_num hl h)
   ·exact q_storeOldInt hp (mq 2 rfl) rfl rfl (sq_out rfl rfl (fun _ _ => rfl)) (sq_in 0 rfl rfl (by simp) rfl (fun v w h => intV_num h)) (fun _ _ => trivial) (newik_ne rfl)
   intro L vs w12 nb hL hC hn E12
   have E : Fr w [(b10_3, 2, Fq.num (x % y)), (b3, 2, Fq.num 0), (b2, 2, Fq.num (x % y)), (b1, 2, Fq.num y)] w12 := E12
   rw [lay_all hL]
   simp only [putAll, dstOf, List.length_cons, List.length_nil, Nat.zero_add, Nat.reduceAdd, List.getElem?_toArray, List.getElem?_cons_zero, List.getElem?_cons_succ, Option.bind_some, Act.put, List.setIfInBounds_toArray, List.set_cons_succ, List.set_cons_zero]
   generalize vs 0 = u12_0
   clear  hC hn E12 hL vs L nb
   go_roundw
   case rel => exact ⟨_, _, _, _, _, _, _, _, _, _, ⟨y, x % y, HY.out, Int.emod_nonneg _ HNZ.out, ⟨HI.out.2.1, ab_modB HNZ.out HI.out.2.1, by rw [gcd_stepQ]; exact HI.out.2.2⟩, E.drop⟩, rfl⟩
   case measure => rw [boxVal_eq (bq_box (E.box 2 rfl)), HBV.out]; have h1 := Int.emod_nonneg x HNZ.out; have h2 := Int.emod_lt_of_pos x (show 0 < y by have := HNZ.out; have := HY.out; omega); omega

theorem exRSameB {w : World} {v v' : Value} {a b : Int} {t : Bool} (h : Num w v a) (h' : Num w v' b) (ht : decide (a = b) = t) : Calls Try.prog 27 #[v, v'] w fun e w' => ∃ v', e = .returned v' ∧ Below w.heap.size w w' ∧ v' = .bool t := by
 have := exRSame h h'
 rw [ht] at this
 exact this

end Go.Proofs.Ytihhlaagndingaa

namespace Go.Proofs.Ytihhlaagndingaa
open Go Go.RowKit

end Go.Proofs.Ytihhlaagndingaa

namespace Go.Proofs.Ytihhlaagndingaa
open Go Go.RowKit

theorem Ow.set {w : World} {B g n c : Nat} {zs : List Int} (h : Ow w B (.slice (some ⟨g, 0, none⟩) n c) zs) {j : Nat} (hj : j < n) {x : Int} (hx0 : 0 ≤ x) (hx1 : x < 4294967296) : Ow (w.setCell ⟨g, j, none⟩ (.int .u32 x)) B (.slice (some ⟨g, 0, none⟩) n c) (zs.set j x) := by
 obtain ⟨⟨h1, h2⟩, h3⟩ := h
 rcases h2 with ⟨h4, _⟩ | ⟨g', cap, cur, h4, h5, h6, h7, h8, h9, h10⟩
 ·cases h4
 ·cases h4
  refine ⟨⟨by simp, .inr ⟨g, c, cur.setIfInBounds j (.int .u32 x), by rw [List.length_set], h5, ?_, by rw [List.length_set]; exact h7, h8, by simpa using h9, ?_⟩⟩, h3.set j ⟨hx0, hx1⟩⟩
  ·simp only [World.setCell, Array.getElem?_modify, if_true, h6, Option.map_some, Option.isSome_none]
   simp
  ·rw [List.length_set, Array.toList_setIfInBounds, List.take_set, h10, List.map_set]

end Go.Proofs.Ytihhlaagndingaa

namespace Go.Proofs.Ytihhlaagndingaa
open Go Go.RowKit

theorem Ow.nil (w : World) (B : Nat) : Ow w B (.slice none 0 0) [] := ⟨World.ownsRow_nil _ _ _ _, fun _ h => by simp at h⟩

end Go.Proofs.Ytihhlaagndingaa

namespace Go.Proofs.Ytihhlaagndingaa
open Go Go.RowKit

end Go.Proofs.Ytihhlaagndingaa

namespace Go.Proofs.Ytihhlaagndingaa
open Go Go.RowKit

end Go.Proofs.Ytihhlaagndingaa

namespace Go.Proofs.Ytihhlaagndingaa
open Go Go.RowKit

end Go.Proofs.Ytihhlaagndingaa

namespace Go.Proofs.Ytihhlaagndingaa
open Go Go.RowKit

theorem Fr.put {w0 W : World} {b m : Nat} {F F' : Fq} {bs : List (Nat × Nat × Fq)} (h : Fr w0 ((b, m, F) :: bs) W) {us : List Value} (hl : us.length = m) (ht : Tame us) (hF : F'.P (.agg us.toArray) W) : Fr w0 ((b, m, F') :: bs) (putFrom W b 0 us) := by
 have hb := h.boxes _ List.mem_cons_self
 refine ⟨putFrom_below hb.1 us 0 _ _ h.below, fun x hx => ?_, h.apart⟩
 rcases List.mem_cons.1 hx with rfl | hx
 ·exact ⟨hb.1, hb.2.same hl ht hF⟩
 ·have hx2 := h.boxes x (List.mem_cons_of_mem _ hx)
  refine ⟨hx2.1, hx2.2.other hb.2 (fun e => ?_) hl⟩
  have hn := h.apart
  rw [List.map_cons, List.nodup_cons] at hn
  exact hn.1 (by rw [show (b, m, F).1 = x.1 from e.symm]; exact List.mem_map.2 ⟨x, hx, rfl⟩)

section
variable {os : List Oper} {Q : Exit → Act → World → Prop} {a : Act} {p : Pq} {B B0 : Nat} {w0 : World}
variable {i s : Nat} {d : Option Tmp} {ty : TypeId} {ps : String} {af : Array Edge} {gd : Option (Nat × Bool)}
theorem q_loadIntOut {b : Nat} {F : Fq} {x : Operand} (hp : p.Ok B B0) (hF : p.Free i) (hg : GdQ os a p B B0 w0 af gd) (hb : Bq w0 b 2 F) (hB : B = w0.heap.size) (hx : SrcQ os a p B B0 w0 af x fun u _ => u = .pointer (some ⟨b, 0, none⟩)) (hC : ∀ v w, F.P v w → (p.c i).P v w) :
  StepQ os Q a p B B0 w0 i { dst := d, op := .load 29 x, type := ty, pos := ps, after := af, guard := gd } := by
 subst hB
 refine stq_val hp hF hg fun L vs w hG hL hc hd => ?_
 obtain ⟨us, hl, h0, hat, ht, hP⟩ := hb.mono hG.below
 have e := hx L vs w hG hd
 match us, hl, hat, hP with
 | [u0, u1], _, hat, hP =>
  have c0 := (hat 0 (by simp)).1
  have c1 := (hat 1 (by simp)).1
  simp at c0 c1
  refine ⟨_, ?_, hC _ w hP⟩
  generalize (lay os.toArray L vs os.toArray.size a).eval = ρ at e
  simp [execOp, go_sem, e, c0, c1]
end

end Go.Proofs.Ytihhlaagndingaa

namespace Go.Proofs.Ytihhlaagndingaa
open Go Go.RowKit

end Go.Proofs.Ytihhlaagndingaa

namespace Go.Proofs.Ytihhlaagndingaa
open Go Go.RowKit

section
variable {os : List Oper} {Q : Exit → Act → World → Prop} {a : Act} {p : Pq} {B B0 : Nat} {w0 : World}
variable {i s : Nat} {d : Option Tmp} {ty : TypeId} {ps : String} {af : Array Edge} {gd : Option (Nat × Bool)}

end

theorem newks_ne {C : List Fq} {bs : List (Nat × Nat × Fq)} {ks : List (Option (Nat × Fq))} {new : List Nb} {len i : Nat} (h : new.all (fun n => n.i == i || n.k != i) = true) : ∀ n ∈ (plq C bs ks new len).new, n.i ≠ i → n.k ≠ i := fun n hn hi e => by
 have := List.all_eq_true.1 h n hn
 simp [e, hi] at this

end Go.Proofs.Ytihhlaagndingaa

namespace Go.Proofs.Ytihhlaagndingaa
open Go Go.RowKit

inductive Fd where
 | n (z : Int)
 | v (u : Value)
 | r (n : Bool) (a : Option Addr) (k c : Nat) (xs : List Int) (z : Int)
def Fd.len : Fd → Nat
 | .n _ => 2
 | .v _ => 1
 | .r .. => 2
def sz : List Fd → Nat
 | [] => 0
 | f :: fs => f.len + sz fs
def tameB (u : Value) : Bool := u.oneCell' && (match u with | .int .u32 _ => false | _ => true)
def Fits (w : World) : List Fd → List Value → Prop
 | [], us => us = []
 | .n z :: fs, us => ∃ a b r, us = a :: b :: r ∧ Num w (.agg #[a, b]) z ∧ Fits w fs r
 | .v u :: fs, us => ∃ r, us = u :: r ∧ tameB u = true ∧ Fits w fs r
 | .r n ao k c xs z :: fs, us => ∃ r, us = .bool n :: .slice ao k c :: r ∧ (Sl w ao k c xs ∧ Num w (.agg #[.bool n, .slice ao k c]) z) ∧ Fits w fs r
theorem Fits.mono {w w' : World} (hb : Below w.heap.size w w') : ∀ {fs : List Fd} {us : List Value}, Fits w fs us → Fits w' fs us
 | [], _, h => h
 | .n _ :: _, _, ⟨a, b, r, e, h1, h2⟩ => ⟨a, b, r, e, h1.mono hb, Fits.mono hb h2⟩
 | .v _ :: _, _, ⟨r, e, h1, h2⟩ => ⟨r, e, h1, Fits.mono hb h2⟩
 | .r .. :: _, _, ⟨r, e, h1, h2⟩ => ⟨r, e, ⟨h1.1.mono hb, h1.2.mono hb⟩, Fits.mono hb h2⟩
theorem Fits.putAt {w : World} {b : Nat} {vs vs' : List Value} (ha : At w b vs) (ht : Tame vs) (hl : vs'.length = vs.length) : ∀ {fs : List Fd} {us : List Value}, Fits w fs us → Fits (putFrom w b 0 vs') fs us
 | [], _, h => h
 | .n _ :: _, _, ⟨a, b, r, e, h1, h2⟩ => ⟨a, b, r, e, h1.putAt ha ht hl, Fits.putAt ha ht hl h2⟩
 | .v _ :: _, _, ⟨r, e, h1, h2⟩ => ⟨r, e, h1, Fits.putAt ha ht hl h2⟩
 | .r .. :: _, _, ⟨r, e, h1, h2⟩ => ⟨r, e, ⟨h1.1.putAt ha ht hl, h1.2.putAt ha ht hl⟩, Fits.putAt ha ht hl h2⟩
theorem Fits.length {w : World} : ∀ {fs : List Fd} {us : List Value}, Fits w fs us → us.length = sz fs
 | [], _, h => by rw [show _ = [] from h]; rfl
 | .n _ :: _, _, ⟨_, _, _, e, _, h2⟩ => by rw [e]; simp [sz, Fd.len, Fits.length h2]; omega
 | .v _ :: _, _, ⟨_, e, _, h2⟩ => by rw [e]; simp [sz, Fd.len, Fits.length h2]; omega
 | .r .. :: _, _, ⟨_, e, _, h2⟩ => by rw [e]; simp [sz, Fd.len, Fits.length h2]; omega
theorem tameB_ne {u : Value} (h : tameB u = true) : ∀ q, u ≠ .int .u32 q := by
 rintro q rfl
 simp [tameB] at h
theorem num_cells {w : World} {a b : Value} {z : Int} (h : Num w (.agg #[a, b]) z) : tameB a = true ∧ tameB b = true := by
 obtain ⟨n, ao, k, c, e⟩ := h.parts
 injection e with e
 have e2 := congrArg Array.toList e
 simp at e2
 obtain ⟨rfl, rfl⟩ := e2
 exact ⟨rfl, rfl⟩
theorem Fits.all {w : World} : ∀ {fs : List Fd} {us : List Value}, Fits w fs us → ∀ u ∈ us, tameB u = true
 | [], _, h => by rw [show _ = [] from h]; intro u hu; simp at hu
 | .n _ :: _, _, ⟨_, _, _, e, h1, h2⟩ => by
  rw [e]
  intro u hu
  rcases List.mem_cons.1 hu with rfl | hu
  ·exact (num_cells h1).1
  ·rcases List.mem_cons.1 hu with rfl | hu
   ·exact (num_cells h1).2
   ·exact Fits.all h2 u hu
 | .v _ :: _, _, ⟨_, e, h1, h2⟩ => by
  rw [e]
  intro u hu
  rcases List.mem_cons.1 hu with rfl | hu
  ·exact h1
  ·exact Fits.all h2 u hu
 | .r .. :: _, _, ⟨_, e, _, h2⟩ => by
  rw [e]
  intro u hu
  rcases List.mem_cons.1 hu with rfl | hu
  ·rfl
  ·rcases List.mem_cons.1 hu with rfl | hu
   ·rfl
   ·exact Fits.all h2 u hu
theorem Fits.tame {w : World} {fs : List Fd} {us : List Value} (h : Fits w fs us) : Tame us := fun u hu => tameB_ne (h.all u hu)
theorem Fits.one {w : World} {fs : List Fd} {us : List Value} (h : Fits w fs us) : ∀ u ∈ us, u.oneCell' = true := fun u hu => by
 have := h.all u hu
 simp only [tameB, Bool.and_eq_true] at this
 exact this.1
theorem Fits.append {w : World} : ∀ {fs : List Fd} {us : List Value} {gs : List Fd} {vs : List Value}, Fits w fs us → Fits w gs vs → Fits w (fs ++ gs) (us ++ vs)
 | [], _, _, _, h, g => by rw [show _ = [] from h]; exact g
 | .n _ :: _, _, _, _, ⟨a, b, r, e, h1, h2⟩, g => ⟨a, b, r ++ _, by rw [e]; rfl, h1, Fits.append h2 g⟩
 | .v _ :: _, _, _, _, ⟨r, e, h1, h2⟩, g => ⟨r ++ _, by rw [e]; rfl, h1, Fits.append h2 g⟩
 | .r .. :: _, _, _, _, ⟨r, e, h1, h2⟩, g => ⟨r ++ _, by rw [e]; rfl, h1, Fits.append h2 g⟩
def cutF : Nat → List Fd → Option (List Fd)
 | 0, fs => some fs
 | _ + 1, [] => none
 | k + 1, .v _ :: fs => cutF k fs
 | 1, .n _ :: _ => none
 | k + 2, .n _ :: fs => cutF k fs
 | 1, .r .. :: _ => none
 | k + 2, .r .. :: fs => cutF k fs
def firstF : Nat → List Fd → Option (List Fd)
 | 0, _ => some []
 | _ + 1, [] => none
 | k + 1, .v u :: fs => (firstF k fs).map (.v u :: ·)
 | 1, .n _ :: _ => none
 | k + 2, .n z :: fs => (firstF k fs).map (.n z :: ·)
 | 1, .r .. :: _ => none
 | k + 2, .r n a l c xs z :: fs => (firstF k fs).map (.r n a l c xs z :: ·)
theorem Fits.cut {w : World} : ∀ {k : Nat} {fs gs : List Fd} {us : List Value}, Fits w fs us → cutF k fs = some gs → Fits w gs (us.drop k)
 | 0, _, _, _, h, e => by cases e; exact h
 | _ + 1, [], _, _, _, e => by cases e
 | k + 1, .v _ :: _, _, _, ⟨_, e1, _, h2⟩, e => by rw [e1]; exact Fits.cut (k := k) h2 e
 | 1, .n _ :: _, _, _, _, e => by cases e
 | k + 2, .n _ :: _, _, _, ⟨_, _, _, e1, _, h2⟩, e => by rw [e1]; exact Fits.cut (k := k) h2 e
 | 1, .r .. :: _, _, _, _, e => by cases e
 | k + 2, .r .. :: _, _, _, ⟨_, e1, _, h2⟩, e => by rw [e1]; exact Fits.cut (k := k) h2 e
theorem Fits.first {w : World} : ∀ {k : Nat} {fs gs : List Fd} {us : List Value}, Fits w fs us → firstF k fs = some gs → Fits w gs (us.take k)
 | 0, _, _, _, _, e => by cases e; rfl
 | _ + 1, [], _, _, _, e => by cases e
 | k + 1, .v u :: fs, _, _, ⟨r, e1, h1, h2⟩, e => by
  cases hq : firstF k fs with
  | none => simp [firstF, hq] at e
  | some g =>
   simp [firstF, hq] at e
   subst e
   rw [e1]
   exact ⟨_, rfl, h1, Fits.first h2 hq⟩
 | 1, .n _ :: _, _, _, _, e => by cases e
 | k + 2, .n z :: fs, _, _, ⟨a, b, r, e1, h1, h2⟩, e => by
  cases hq : firstF k fs with
  | none => simp [firstF, hq] at e
  | some g =>
   simp [firstF, hq] at e
   subst e
   rw [e1]
   exact ⟨_, _, _, rfl, h1, Fits.first h2 hq⟩
 | 1, .r .. :: _, _, _, _, e => by cases e
 | k + 2, .r n a l c xs z :: fs, _, _, ⟨r, e1, h1, h2⟩, e => by
  cases hq : firstF k fs with
  | none => simp [firstF, hq] at e
  | some g =>
   simp [firstF, hq] at e
   subst e
   rw [e1]
   exact ⟨_, rfl, h1, Fits.first h2 hq⟩
def subF (off l : Nat) (fs : List Fd) : Option (List Fd) := (cutF off fs).bind (firstF l)
def putF (off : Nat) (gs fs : List Fd) : Option (List Fd) := (firstF off fs).bind fun a => (cutF (off + sz gs) fs).map fun c => a ++ (gs ++ c)
theorem Fits.sub {w : World} {off l : Nat} {fs gs : List Fd} {us : List Value} (h : Fits w fs us) (e : subF off l fs = some gs) : Fits w gs ((us.drop off).take l) := by
 unfold subF at e
 cases hq : cutF off fs with
 | none => simp [hq] at e
 | some a => rw [hq] at e; exact (h.cut hq).first e
theorem Fits.put {w : World} {off : Nat} {fs gs fs' : List Fd} {us vs : List Value} (h : Fits w fs us) (hv : Fits w gs vs) (e : putF off gs fs = some fs') : Fits w fs' (us.take off ++ (vs ++ us.drop (off + sz gs))) := by
 unfold putF at e
 cases hq : firstF off fs with
 | none => simp [hq] at e
 | some a =>
  cases hc : cutF (off + sz gs) fs with
  | none => simp [hq, hc] at e
  | some c =>
   simp [hq, hc] at e
   subst e
   exact (h.first hq).append (hv.append (h.cut hc))
theorem cutF_le : ∀ {k : Nat} {fs gs : List Fd}, cutF k fs = some gs → k + sz gs = sz fs
 | 0, _, _, e => by cases e; simp
 | _ + 1, [], _, e => by cases e
 | k + 1, .v _ :: _, _, e => by have := cutF_le (k := k) e; simp [sz, Fd.len]; omega
 | 1, .n _ :: _, _, e => by cases e
 | k + 2, .n _ :: _, _, e => by have := cutF_le (k := k) e; simp [sz, Fd.len]; omega
 | 1, .r .. :: _, _, e => by cases e
 | k + 2, .r .. :: _, _, e => by have := cutF_le (k := k) e; simp [sz, Fd.len]; omega
theorem firstF_sz : ∀ {k : Nat} {fs gs : List Fd}, firstF k fs = some gs → sz gs = k
 | 0, _, _, e => by cases e; rfl
 | _ + 1, [], _, e => by cases e
 | k + 1, .v u :: fs, _, e => by
  cases hq : firstF k fs with
  | none => simp [firstF, hq] at e
  | some g => simp [firstF, hq] at e; subst e; have := firstF_sz hq; simp [sz, Fd.len]; omega
 | 1, .n _ :: _, _, e => by cases e
 | k + 2, .n z :: fs, _, e => by
  cases hq : firstF k fs with
  | none => simp [firstF, hq] at e
  | some g => simp [firstF, hq] at e; subst e; have := firstF_sz hq; simp [sz, Fd.len]; omega
 | 1, .r .. :: _, _, e => by cases e
 | k + 2, .r n a l c xs z :: fs, _, e => by
  cases hq : firstF k fs with
  | none => simp [firstF, hq] at e
  | some g => simp [firstF, hq] at e; subst e; have := firstF_sz hq; simp [sz, Fd.len]; omega
theorem agg_inj {us vs : List Value} (e : Value.agg us.toArray = Value.agg vs.toArray) : us = vs := by
 injection e with e
 simpa using congrArg Array.toList e
def Fq.st (fs : List Fd) : Fq := ⟨fun v w => ∃ us : List Value, v = .agg us.toArray ∧ Fits w fs us, fun ⟨us, e, h⟩ hb => ⟨us, e, h.mono hb⟩, fun ⟨us, e, h⟩ ha ht hl => ⟨us, e, h.putAt ha ht hl⟩⟩
def FitV (gs : List Fd) (v : Value) (w : World) : Prop := Fits w gs v.cells.toList
theorem fitv_st {gs : List Fd} {v : Value} {w : World} (h : (Fq.st gs).P v w) : FitV gs v w := by
 obtain ⟨us, rfl, h⟩ := h
 simpa [FitV, Value.cells] using h
theorem fitv_is {u v : Value} {w : World} (h : v = u) (ht : tameB u = true) : FitV [.v u] v w := by
 subst h
 have : v.cells = #[v] := by cases v <;> simp_all [tameB, Value.cells, Value.oneCell']
 rw [FitV, this]
 exact ⟨[], rfl, ht, rfl⟩
theorem st_num {z : Int} {v : Value} {w : World} (h : (Fq.st [.n z]).P v w) : Num w v z := by
 obtain ⟨us, rfl, a, b, r, rfl, h1, h2⟩ := h
 rw [show r = [] from h2]
 exact h1
theorem st_numR {n : Bool} {ao : Option Addr} {k c : Nat} {xs : List Int} {z : Int} {v : Value} {w : World} (h : (Fq.st [.r n ao k c xs z]).P v w) : Num w v z := by
 obtain ⟨us, rfl, r, rfl, h1, h2⟩ := h
 rw [show r = [] from h2]
 exact h1.2
theorem fits_open {w : World} {z : Int} {post : List Fd} : ∀ {pre : List Fd} {us : List Value}, Fits w (pre ++ .n z :: post) us → ∃ n ao k c xs, (z = sgn n (val xs) ∧ Canon xs ∧ xs.length = k ∧ (n = true → k ≠ 0) ∧ Digs xs) ∧ Fits w (pre ++ .r n ao k c xs z :: post) us
 | [], _, ⟨_, _, r, e, h1, h2⟩ => by
  obtain ⟨neg, ao, k, c, xs, hv, hs, hn, hz, hc, hnn⟩ := id h1
  injection hv with hv
  have hv2 := congrArg Array.toList hv
  simp at hv2
  obtain ⟨rfl, rfl⟩ := hv2
  exact ⟨neg, ao, k, c, xs, ⟨hz, hc, hs.len, hnn, hs.digs⟩, r, e, ⟨hs, h1⟩, h2⟩
 | .n _ :: _, _, ⟨a, b, r, e, h1, h2⟩ => by obtain ⟨n, ao, k, c, xs, g, h⟩ := fits_open h2; exact ⟨n, ao, k, c, xs, g, a, b, r, e, h1, h⟩
 | .v _ :: _, _, ⟨r, e, h1, h2⟩ => by obtain ⟨n, ao, k, c, xs, g, h⟩ := fits_open h2; exact ⟨n, ao, k, c, xs, g, r, e, h1, h⟩
 | .r .. :: _, _, ⟨r, e, h1, h2⟩ => by obtain ⟨n, ao, k, c, xs, g, h⟩ := fits_open h2; exact ⟨n, ao, k, c, xs, g, r, e, h1, h⟩
theorem st_open {w : World} {v : Value} {z : Int} (pre post : List Fd) (h : (Fq.st (pre ++ .n z :: post)).P v w) : ∃ n ao k c xs, (z = sgn n (val xs) ∧ Canon xs ∧ xs.length = k ∧ (n = true → k ≠ 0) ∧ Digs xs) ∧ (Fq.st (pre ++ .r n ao k c xs z :: post)).P v w := by
 obtain ⟨us, rfl, h⟩ := h
 obtain ⟨n, ao, k, c, xs, g, h⟩ := fits_open h
 exact ⟨n, ao, k, c, xs, g, us, rfl, h⟩
theorem fits_mag {w : World} {off : Nat} {fs gs : List Fd} {n : Bool} {ao : Option Addr} {k c : Nat} {xs : List Int} {z : Int} {us : List Value} (h : (Fq.st fs).P (.agg us.toArray) w) (e : cutF off fs = some (.r n ao k c xs z :: gs)) : us.getD (off + 1) undef = .slice ao k c ∧ Sl w ao k c xs := by
 obtain ⟨us', e', hfit⟩ := h
 have := agg_inj e'
 subst this
 obtain ⟨r, e2, h1, _⟩ := hfit.cut e
 refine ⟨?_, h1.1⟩
 have h2 := congrArg (fun l => l[1]?) e2
 simp at h2
 simp [List.getD, h2]
theorem fits_word {w : World} {off : Nat} {fs gs : List Fd} {n : Bool} {ab o k c : Nat} {xs : List Int} {z x0 : Int} {us : List Value} (h : (Fq.st fs).P (.agg us.toArray) w) (e : cutF off fs = some (.r n (some ⟨ab, o, none⟩) k c xs z :: gs)) (j : Nat) (hj : j < k) (hx : xs.getD j 0 = x0) : w.cell? ⟨ab, o + j, none⟩ = some (.int .u32 x0) := by
 have hs := (fits_mag h e).2
 obtain ⟨x, h1, _, _, h4⟩ := hs.cells.at' (k := j) (by rw [hs.len]; exact hj)
 rw [h1, ← hx, h4.out]
theorem fits_word0 {w : World} {off : Nat} {fs gs : List Fd} {n : Bool} {ab o k c : Nat} {xs : List Int} {z x0 : Int} {us : List Value} (e : cutF off fs = some (.r n (some ⟨ab, o, none⟩) k c xs z :: gs)) (hj : 0 < k) (hx : xs.getD 0 0 = x0) (h : (Fq.st fs).P (.agg us.toArray) w) : w.cell? ⟨ab, o, none⟩ = some (.int .u32 x0) := fits_word h e 0 hj hx
theorem st_addr {w : World} {off : Nat} {fs gs : List Fd} {n : Bool} {ao : Option Addr} {k c : Nat} {xs : List Int} {z : Int} {v : Value} (h : (Fq.st fs).P v w) (e : cutF off fs = some (.r n ao k c xs z :: gs)) (hk : 0 < k) : ∃ ab o, ao = some ⟨ab, o, none⟩ := by
 obtain ⟨us, rfl, h⟩ := h
 have hs := (fits_mag ⟨us, rfl, h⟩ e).2
 obtain ⟨b, o, e, _⟩ := hs.cells.at (k := 0) (by rw [hs.len]; exact hk)
 exact ⟨b, o, e⟩
theorem putFrom_eq (b : Nat) : ∀ (us : List Value) (j : Nat) (w : World), putFrom w b j us = w.setCells b j us
 | [], _, _ => rfl
 | u :: us, j, w => by
  show putFrom (w.setCell ⟨b, j, none⟩ u) b (j + 1) us = _
  rw [putFrom_eq b us]
  rfl
theorem putFrom_append (b : Nat) : ∀ (us vs : List Value) (j : Nat) (w : World), putFrom w b j (us ++ vs) = putFrom (putFrom w b j us) b (j + us.length) vs
 | [], _, _, _ => rfl
 | u :: us, vs, j, w => by
  show putFrom (w.setCell ⟨b, j, none⟩ u) b (j + 1) (us ++ vs) = putFrom (putFrom (w.setCell ⟨b, j, none⟩ u) b (j + 1) us) b _ vs
  rw [putFrom_append b us vs]
  congr 1
  simp
  omega
theorem setCell_sameS {w : World} {a : Addr} {v : Value} (h : w.cell? a = some v) : w.setCell a v = w := by
 have e : (w.setCell a v).heap = w.heap := by
  unfold World.cell? at h
  unfold World.setCell
  apply Array.ext
  ·simp
  ·intro j h1 h2
   simp only [Array.getElem_modify]
   split
   ·rename_i hj
    subst hj
    rw [Array.getElem?_eq_getElem h2] at h
    cases hc : w.heap[a.block] with
    | cells c el fr =>
     rw [hc] at h
     simp only at h
     split at h
     ·cases h
     ·rename_i hs
      simp only [hs, Bool.false_eq_true, if_false]
      congr 1
      apply Array.ext
      ·simp
      ·intro k g1 g2
       rw [Array.getElem_setIfInBounds]
       split
       ·rename_i hk
        subst hk
        rw [Array.getElem?_eq_getElem g2] at h
        exact (Option.some.inj h).symm
       ·rfl
    | _ => rfl
   ·rfl
 have e2 : w.setCell a v = { w with heap := (w.setCell a v).heap } := rfl
 rw [e2, e]
theorem putFrom_same (b : Nat) : ∀ (us : List Value) (j : Nat) (w : World), (∀ i, i < us.length → w.cell? ⟨b, j + i, none⟩ = some (us.getD i undef)) → putFrom w b j us = w
 | [], _, _, _ => rfl
 | u :: us, j, w, h => by
  show putFrom (w.setCell ⟨b, j, none⟩ u) b (j + 1) us = w
  have h0 := h 0 (by simp)
  rw [setCell_sameS (by simpa using h0)]
  exact putFrom_same b us (j + 1) w fun i hi => by
   have := h (i + 1) (by simp; omega)
   rw [show j + (i + 1) = j + 1 + i by omega] at this
   simpa using this
theorem putFrom_part {w : World} {b off : Nat} {us vs : List Value} (ha : At w b us) (hl : off + vs.length ≤ us.length) : putFrom w b off vs = putFrom w b 0 (us.take off ++ (vs ++ us.drop (off + vs.length))) := by
 have hlt : (us.take off).length = off := by simp; omega
 rw [putFrom_append, putFrom_same b (us.take off) 0 w fun i hi => ?_]
 ·rw [Nat.zero_add, hlt, putFrom_append]
  refine (putFrom_same b _ _ _ fun i hi => ?_).symm
  rw [putFrom_eq, World.cell?_setCells_out b vs off w _ (fun _ _ => .inr (by show off + vs.length ≤ off + vs.length + i; omega))]
  have hi' : off + vs.length + i < us.length := by simp at hi; omega
  rw [(ha _ hi').1]
  simp [List.getD]
 ·rw [Nat.zero_add, (ha i (by omega)).1]
  rw [hlt] at hi
  simp [List.getD, hi]

noncomputable def rowB (T l : Nat) : Bool := (match Try.prog.underlying T with | some d => d.isRow | none => false) && (match Try.prog.info? T with | some i => i.size == l | none => false)
noncomputable def sizeB (T l : Nat) : Bool := match Try.prog.info? T with | some i => i.size == l | none => false
theorem rowB_of {T l : Nat} (h : rowB T l = true) : (∃ d, Try.prog.underlying T = some d ∧ d.isRow = true) ∧ (Try.prog.info? T).map (·.size) = some l := by
 unfold rowB at h
 cases hu : Try.prog.underlying T with
 | none => simp [hu] at h
 | some d =>
  cases hi : Try.prog.info? T with
  | none => simp [hi] at h
  | some i => simp [hu, hi] at h; exact ⟨⟨d, rfl, h.1⟩, by simp [h.2]⟩
theorem sizeB_of {T l : Nat} (h : sizeB T l = true) : ∃ i, Try.prog.info? T = some i ∧ i.size = l := by
 unfold sizeB at h
 cases hi : Try.prog.info? T with
 | none => simp [hi] at h
 | some i => simp [hi] at h; exact ⟨i, rfl, h⟩
theorem run_storeVar_fit {w : World} {b o T : Nat} {v : Value} (ht : w.there b o v.cells.size) (hi : sizeB T v.cells.size = true) (h1 : ∀ u ∈ v.cells.toList, u.oneCell' = true) : (storeVar T ⟨b, o, none⟩ v).run Try.prog w = .ok () (w.setCells b o v.cells.toList) := by
 have := run_storeCells_cells (P := Try.prog) b o v.cells.toList 0 w (fun j hj => by simpa using (ht j (by simpa using hj)).1) (fun j hj => by simpa using (ht j (by simpa using hj)).2) h1
 obtain ⟨i, hq, hs⟩ := sizeB_of hi
 simp only [Nat.add_zero] at this
 simp [storeVar, sizeOf, typeInfo, hq, hs, this]

section
variable {os : List Oper} {Q : Exit → Act → World → Prop} {a : Act} {p : Pq} {B B0 : Nat} {w0 : World}
variable {i s : Nat} {d : Option Tmp} {ty : TypeId} {ps : String} {af : Array Edge} {gd : Option (Nat × Bool)}

theorem q_loadSt {o : Ob} {off l T : Nat} {fs gs : List Fd} {x : Operand} (hp : p.Ok B B0) (hF : p.Free i) (hg : GdQ os a p B B0 w0 af gd) (ho : o ∈ p.old) (hk : o.F1 = o.F0 ∨ leadsB os 9 o.k i = true) (hf : o.F0 = Fq.st fs) (hT : rowB T l = true) (hs : subF off l fs = some gs)
  (hx : SrcQ os a p B B0 w0 af x fun u _ => u = .pointer (some ⟨o.b, off, none⟩)) (hC : ∀ v w, (Fq.st gs).P v w → (p.c i).P v w) :
  StepQ os Q a p B B0 w0 i { dst := d, op := .load T x, type := ty, pos := ps, after := af, guard := gd } := by
 refine stq_val hp hF hg fun L vs w hG hL hc hd => ?_
 obtain ⟨us, hl, h0, hat, ht, hP⟩ := box_now ho hk hG hL hc
 rw [hf] at hP
 obtain ⟨us', e', hfit⟩ := hP
 have e2 : us = us' := agg_inj e'
 subst e2
 have e := hx L vs w hG hd
 have hsub := hfit.sub hs
 obtain ⟨⟨dd, hu, hd'⟩, hi⟩ := rowB_of hT
 have hlen : ((us.drop off).take l).length = l := by
  rw [hsub.length]
  unfold subF at hs
  cases hq : cutF off fs with
  | none => simp [hq] at hs
  | some a => rw [hq] at hs; exact firstF_sz hs
 refine ⟨.agg ((us.drop off).take l).toArray, ?_, hC _ _ ⟨_, rfl, hsub⟩⟩
 have hr : w.rangeAt o.b off ((us.drop off).take l) := by
  intro j v hv
  rw [List.getElem?_take] at hv
  split at hv
  ·rw [List.getElem?_drop] at hv
   have hj := (List.getElem?_eq_some_iff.1 hv).1
   rw [(hat _ hj).1, List.getD, hv]
   rfl
  ·cases hv
 have := run_loadVar_mid (P := Try.prog) w o.b off T _ dd hr hu hd' (by rw [hlen]; exact hi)
 generalize (lay os.toArray L vs os.toArray.size a).eval = ρ at e
 simp only [execOp, e, Instr.loadAt, Instr.sureAddr, Sem.run_bind, Sem.run_pure, Result.andThen_ok, this]

theorem q_load1 {o : Ob} {off T : Nat} {fs : List Fd} {u : Value} {x : Operand} (hp : p.Ok B B0) (hF : p.Free i) (hg : GdQ os a p B B0 w0 af gd) (ho : o ∈ p.old) (hk : o.F1 = o.F0 ∨ leadsB os 9 o.k i = true) (hf : o.F0 = Fq.st fs) (hs : subF off 1 fs = some [.v u])
  (hT : ∀ (ρ : Operand → Value) (w : World) (b : Nat), ρ x = .pointer (some ⟨b, off, none⟩) → w.cell? ⟨b, off, none⟩ = some u → (execOp ρ { dst := d, op := .load T x, type := ty, pos := ps, after := af, guard := gd }).run Try.prog w = .ok (.value u) w)
  (hx : SrcQ os a p B B0 w0 af x fun u _ => u = .pointer (some ⟨o.b, off, none⟩)) (hC : ∀ w, (p.c i).P u w) :
  StepQ os Q a p B B0 w0 i { dst := d, op := .load T x, type := ty, pos := ps, after := af, guard := gd } := by
 refine stq_val hp hF hg fun L vs w hG hL hc hd => ?_
 obtain ⟨us, hl, h0, hat, ht, hP⟩ := box_now ho hk hG hL hc
 rw [hf] at hP
 obtain ⟨us', e', hfit⟩ := hP
 have e2 : us = us' := agg_inj e'
 subst e2
 have e := hx L vs w hG hd
 obtain ⟨r, hsub, _, _⟩ := hfit.sub hs
 have hoff : off < us.length := by
  rcases Nat.lt_or_ge off us.length with h | h
  ·exact h
  ·rw [List.drop_of_length_le h] at hsub; simp at hsub
 have hu : us.getD off undef = u := by
  have h2 := congrArg (fun l => l[0]?) hsub
  simp at h2
  simp [List.getD, h2]
 refine ⟨u, ?_, hC w⟩
 have c0 := (hat off hoff).1
 rw [hu] at c0
 exact hT _ _ _ e c0

theorem q_loadMagS {o : Ob} {off : Nat} {x : Operand} {v : Value} (hp : p.Ok B B0) (hF : p.Free i) (hg : GdQ os a p B B0 w0 af gd) (ho : o ∈ p.old) (hk : o.F1 = o.F0 ∨ leadsB os 9 o.k i = true) (hoff : off + 1 ≤ o.m)
  (hx : SrcQ os a p B B0 w0 af x fun u _ => u = .pointer (some ⟨o.b, off, none⟩)) (hC : ∀ (us : List Value) (w : World), us.length = o.m → o.F0.P (.agg us.toArray) w → us.getD off undef = v ∧ (p.c i).P v w) :
  StepQ os Q a p B B0 w0 i { dst := d, op := .load 27 x, type := ty, pos := ps, after := af, guard := gd } := by
 refine stq_val hp hF hg fun L vs w hG hL hc hd => ?_
 obtain ⟨us, hl, h0, hat, ht, hP⟩ := box_now ho hk hG hL hc
 have e := hx L vs w hG hd
 have c0 := (hat off (by omega)).1
 obtain ⟨e2, hP2⟩ := hC us w hl hP
 refine ⟨_, ?_, hP2⟩
 rw [e2] at c0
 generalize (lay os.toArray L vs os.toArray.size a).eval = ρ at e
 simp [execOp, go_sem, e, c0]
theorem q_loadWordS {o : Ob} {bx : Nat} {ad : Addr} {x : Operand} {x0 : Int} (hp : p.Ok B B0) (hF : p.Free i) (hg : GdQ os a p B B0 w0 af gd) (ho : o ∈ p.old) (hk : o.F1 = o.F0 ∨ leadsB os 9 o.k i = true)
  (hx : SrcQ os a p B B0 w0 af x fun u _ => u = .pointer (some ad)) (hC : ∀ (us : List Value) (w : World), us.length = o.m → o.F0.P (.agg us.toArray) w → w.cell? ad = some (.int .u32 x0)) (hI : ∀ w, (p.c i).P (.int .u32 x0) w) (_hb : o.b = bx := by rfl) :
  StepQ os Q a p B B0 w0 i { dst := d, op := .load 82 x, type := ty, pos := ps, after := af, guard := gd } := by
 refine stq_val hp hF hg fun L vs w hG hL hc hd => ?_
 obtain ⟨us, hl, h0, hat, ht, hP⟩ := box_now ho hk hG hL hc
 have e := hx L vs w hG hd
 have c0 := hC us w hl hP
 refine ⟨_, ?_, hI w⟩
 generalize (lay os.toArray L vs os.toArray.size a).eval = ρ at e
 simp [execOp, go_sem, e, c0]
theorem st_run {T b off : Nat} {x y : Operand} {fs gs fs' : List Fd} {us : List Value} {w : World} {ρ : Operand → Value} (hx : ρ x = .pointer (some ⟨b, off, none⟩)) (hv : FitV gs (ρ y) w) (ha : At w b us) (hf : Fits w fs us) (hT : sizeB T (sz gs) = true) (hput : putF off gs fs = some fs') :
  ∃ us', us'.length = us.length ∧ Fits w fs' us' ∧ (execOp ρ { dst := d, op := .store T x y, type := ty, pos := ps, after := af, guard := none }).run Try.prog w = .ok .skip (putFrom w b 0 us') := by
 have hlen := hv.length
 have hsum : off + sz gs ≤ sz fs := by
  unfold putF at hput
  cases hq : firstF off fs with
  | none => simp [hq] at hput
  | some a =>
   cases hc : cutF (off + sz gs) fs with
   | none => simp [hq, hc] at hput
   | some c => have := cutF_le hc; omega
 rw [← hf.length] at hsum
 have hcs : (ρ y).cells.size = sz gs := by rw [← hlen]; simp
 refine ⟨_, ?_, hf.put hv hput, ?_⟩
 ·simp only [List.length_append, List.length_take, List.length_drop, hlen]; omega
 ·have hrun := run_storeVar_fit (w := w) (b := b) (o := off) (T := T) (v := ρ y) (fun j hj => by
    have := ha (off + j) (by omega)
    exact ⟨by rw [this.1]; rfl, this.2⟩) (by rw [hcs]; exact hT) hv.one
  rw [← putFrom_eq, putFrom_part ha (by rw [hlen]; exact hsum), hlen] at hrun
  simp only [execOp, Instr.storeAt, Instr.sureAddr, hx, Sem.run_bind, Sem.run_pure, Result.andThen_ok, hrun]

theorem q_storeOldSt {o0 : Ob} {off T : Nat} {x y : Operand} {fs gs fs' : List Fd} (hp : p.Ok B B0) (hi : o0 ∈ p.old) (hki : o0.k = i) (hf0 : o0.F0 = Fq.st fs) (hf1 : o0.F1 = Fq.st fs') (hT : sizeB T (sz gs) = true) (hput : putF off gs fs = some fs')
  (hx : SrcQ os a p B B0 w0 af x fun u _ => u = .pointer (some ⟨o0.b, off, none⟩)) (hy : SrcQ os a p B B0 w0 af y (FitV gs))
  (hC : ∀ v w', (p.c i).P v w') (h2 : ∀ n ∈ p.new, n.i ≠ i ∧ n.k ≠ i) : StepQ os Q a p B B0 w0 i { dst := none, op := .store T x y, type := ty, pos := ps, after := af, guard := none } := by
 subst hki
 intro hio L vs w hG hL hd hc
 have hv := hy L vs w hG hd
 obtain ⟨us, g1, g2, g3, g4, g5⟩ := hG.old _ hi
 rw [hL] at g5
 simp only [Bool.false_eq_true, if_false] at g5
 rw [hf0] at g5
 obtain ⟨us2, e2, hfit⟩ := g5
 have e3 : us = us2 := agg_inj e2
 subst e3
 obtain ⟨us', hl', hfit', hrun⟩ := st_run (d := none) (ty := ty) (ps := ps) (af := af) (hx L vs w hG hd) hv g3 hfit hT hput
 refine wpOp_step hio fun K' hK => ?_
 have hwn : Region.wanted ({ dst := none, op := .store T x y, type := ty, pos := ps, after := af, guard := none } : Oper) (yielded os.toArray (lay os.toArray L vs os.toArray.size a).tmps) = true := rfl
 rw [if_pos hwn]
 unfold Oper.wp
 rw [hrun]
 exact hK _ _ ⟨undef, rfl, hG.storeOld hp hi (us := us') (by omega) hfit'.tame (by rw [hf1]; exact ⟨_, rfl, hfit'⟩) hC h2 _⟩

theorem q_storeNewSt {n0 : Nb} {T : Nat} {x y : Operand} {fs gs : List Fd} (hp : p.Ok B B0) (hi : n0 ∈ p.new) (hki : n0.k = i) (hsl : n0.s = none) (hf0 : n0.F0 = Fq.st fs) (hf1 : n0.F1 = Fq.st gs) (hT : sizeB T (sz gs) = true) (hput : putF 0 gs fs = some gs)
  (hx : ∀ L vs w, p.G B B0 w0 L vs w → (∀ e ∈ af, Region.binds .any e = true → L e.on = true) → L n0.i = true ∧ (lay os.toArray L vs os.toArray.size a).eval x = vs n0.i) (hy : SrcQ os a p B B0 w0 af y (FitV gs))
  (hC : ∀ v w', (p.c i).P v w') (h1 : ∀ o ∈ p.old, o.k ≠ i) (h2 : ∀ n ∈ p.new, n.i ≠ i) : StepQ os Q a p B B0 w0 i { dst := none, op := .store T x y, type := ty, pos := ps, after := af, guard := none } := by
 subst hki
 intro hio L vs w hG hL hd hc
 obtain ⟨hLi, hxe⟩ := hx L vs w hG hd
 have hv := hy L vs w hG hd
 obtain ⟨b, e1', e2, us, g1, g2, g3, g4, g5⟩ := hG.new _ hi hLi
 rw [Nb.now_off hsl hL, hf0] at g5
 obtain ⟨us2, e4, hfit⟩ := g5
 have e3 : us = us2 := agg_inj e4
 subst e3
 have e1 : vs n0.i = .pointer (some ⟨b, 0, none⟩) := by rw [e1']; unfold Nb.ptr; rw [hsl]
 obtain ⟨us', hl', hfit', hrun⟩ := st_run (d := none) (ty := ty) (ps := ps) (af := af) (hxe.trans e1) hv g3 hfit hT hput
 refine wpOp_step hio fun K' hK => ?_
 have hwn : Region.wanted ({ dst := none, op := .store T x y, type := ty, pos := ps, after := af, guard := none } : Oper) (yielded os.toArray (lay os.toArray L vs os.toArray.size a).tmps) = true := rfl
 rw [if_pos hwn]
 unfold Oper.wp
 rw [hrun]
 exact hK _ _ ⟨undef, rfl, hG.storeNew hp hi hLi (us := us') (by omega) hfit'.tame (by rw [hf1]; exact ⟨_, rfl, hfit'⟩) hC h1 h2 e1' _⟩

theorem q_allocSt {n0 : Nb} {T : Nat} {us : List Value} {fs : List Fd} (hp : p.Ok B B0) (hi : n0 ∈ p.new) (hii : n0.i = i) (hsl : n0.s = none) (hm : n0.m = us.length) (h0 : 0 < us.length) (hf0 : n0.F0 = Fq.st fs) (hz : ∀ w, Fits w fs us)
  (hT : ∀ (ρ : Operand → Value) (w : World), (execOp ρ { dst := d, op := .alloc T, type := ty, pos := ps, after := af, guard := none }).run Try.prog w = .ok (.value (.pointer (some ⟨w.heap.size, 0, none⟩))) (w.alloc (.cells us.toArray T)))
  (hk : leadsB os 9 n0.k i = true) (hki : n0.k ≠ i) (hC : ∀ v w', (p.c i).P v w') (h1 : ∀ o ∈ p.old, o.k ≠ i) (h2 : ∀ n ∈ p.new, n.k ≠ i) :
  StepQ os Q a p B B0 w0 i { dst := d, op := .alloc T, type := ty, pos := ps, after := af, guard := none } := by
 subst hii
 intro hio L vs w hG hL hd hc
 refine wpOp_step hio fun K' hK => ?_
 have hwn : Region.wanted ({ dst := d, op := .alloc T, type := ty, pos := ps, after := af, guard := none } : Oper) (yielded os.toArray (lay os.toArray L vs os.toArray.size a).tmps) = true := rfl
 rw [if_pos hwn]
 unfold Oper.wp
 rw [hT]
 exact hK _ _ ⟨_, rfl, hG.alloc hp hi hsl (not_yet hc hk hL) hki hC h1 h2 _ (us := us) hm.symm (by omega) (hz w).tame (fun w' => by rw [hf0]; exact ⟨_, rfl, hz w'⟩)⟩
end
theorem box_st {w : World} {b m : Nat} {fs : List Fd} (h : Bq w b m (Fq.st fs)) : ∃ us, us.length = m ∧ (∀ j, j < us.length → w.cell? ⟨b, j, none⟩ = some (us.getD j undef)) ∧ Fits w fs us := by
 obtain ⟨us, h1, _, h3, _, us', e, h5⟩ := h
 have e2 : us = us' := agg_inj e
 subst e2
 exact ⟨us, h1, fun j hj => (h3 j hj).1, h5⟩
end Go.Proofs.Ytihhlaagndingaa

namespace Go.Proofs.Ytihhlaagndingaa
open Go Go.RowKit

theorem Pq.G.made {p : Pq} {B B0 : Nat} {w0 w w' : World} {L : Nat → Bool} {vs : Nat → Value} (h : p.G B B0 w0 L vs w) (hp : p.Ok B B0) {n0 : Nb} (hi : n0 ∈ p.new) {F : Fq} (hk : n0.now (up L n0.i true) = F)
  (hC : ∀ v w', (p.c n0.i).P v w') (h1 : ∀ o ∈ p.old, o.k ≠ n0.i) (h2 : ∀ n ∈ p.new, n.i ≠ n0.i → n.k ≠ n0.i) {b : Nat} (hbs : w.heap.size ≤ b) (hb : Below w.heap.size w w') (hbx : Bq w' b n0.m F) :
  p.G B B0 w0 (up L n0.i true) (up vs n0.i (n0.ptr b)) w' := by
 refine ⟨h.below.trans (hb.mono (Nat.le_trans hp.le h.size)), Nat.le_trans h.size hb.size, fun j hj => ?_, fun o ho => ?_, fun n hn hj => ?_, fun n hn m hm hne hj hk' => ?_⟩
 ·by_cases hji : j = n0.i
  ·subst hji; exact hC _ _
  ·rw [up_ne _ _ hji] at hj ⊢; exact (p.c j).mono (h.val j hj) hb
 ·rw [up_ne _ _ (h1 o ho)]; exact (h.old o ho).mono hb
 ·by_cases hni : n.i = n0.i
  ·have e := hp.newinj n hn _ hi hni
   subst e
   rw [up_same, hk]
   exact ⟨_, rfl, Nat.le_trans h.size hbs, hbx⟩
  ·rw [Nb.now_up (h2 n hn hni)]
   rw [up_ne _ _ hni] at hj ⊢
   obtain ⟨b, e1, e2, e3⟩ := h.new n hn hj
   exact ⟨b, e1, e2, e3.mono hb⟩
 ·by_cases hni : n.i = n0.i
  ·have hmi : m.i ≠ n0.i := fun e => hne (hni.trans e.symm)
   rw [hni, up_same]
   rw [up_ne _ _ hmi] at hk' ⊢
   obtain ⟨b, e1, e2, e3⟩ := h.new m hm hk'
   rw [e1, Nb.block_ptr, Nb.block_ptr]
   have := e3.lt
   omega
  ·rw [up_ne _ _ hni] at hj ⊢
   by_cases hmi : m.i = n0.i
   ·rw [hmi, up_same]
    obtain ⟨b, e1, e2, e3⟩ := h.new n hn hj
    rw [e1, Nb.block_ptr, Nb.block_ptr]
    have := e3.lt
    omega
   ·rw [up_ne _ _ hmi] at hk' ⊢
    exact h.apart n hn m hm hne hj hk'

section
variable {os : List Oper} {Q : Exit → Act → World → Prop} {a : Act} {p : Pq} {B B0 : Nat} {w0 : World}
variable {i s : Nat} {d : Option Tmp} {ty : TypeId} {ps : String} {af : Array Edge} {gd : Option (Nat × Bool)}

theorem q_zeroInt (hp : p.Ok B B0) (hF : p.Free i) (hg : GdQ os a p B B0 w0 af gd) (hC : ∀ w, (p.c i).P (.agg #[.bool false, .slice none 0 0]) w) : StepQ os Q a p B B0 w0 i { dst := d, op := .build 29 #[], type := ty, pos := ps, after := af, guard := gd } := by
 refine stq_val hp hF hg fun L vs w hG hL hc hd => ⟨.agg #[.bool false, .slice none 0 0], ?_, hC w⟩
 generalize (lay os.toArray L vs os.toArray.size a).eval = ρ
 simp [execOp, go_sem]
theorem q_call3 {x y z : Operand} {F G F3 : Value → World → Prop} {f : FuncId} {ts : Array TypeId} (hp : p.Ok B B0) (hF : p.Free i) (hg : GdQ os a p B B0 w0 af gd) (hen : ∀ args w, (callFunc f args).run Try.prog w = .ok (.enter f args) w)
  (hx : SrcQ os a p B B0 w0 af x F) (hy : SrcQ os a p B B0 w0 af y G) (hz : SrcQ os a p B B0 w0 af z F3) (hC : ∀ v v' u w, F v w → G v' w → F3 u w → Calls Try.prog f #[v, v', u] w fun e w' => ∃ v', e = .returned v' ∧ Below w.heap.size w w' ∧ (p.c i).P v' w') :
  StepQ os Q a p B B0 w0 i { dst := d, op := .call { callee := .value (.func f), args := #[x, y, z], argTypes := ts }, type := ty, pos := ps, after := af, guard := gd } :=
 stq_call hp hF hg hen fun L vs w hG hd => ⟨#[_, _, _], by simp, hC _ _ _ _ (hx L vs w hG hd) (hy L vs w hG hd) (hz L vs w hG hd)⟩
theorem q_call4 {x y z t : Operand} {F G F3 F4 : Value → World → Prop} {f : FuncId} {ts : Array TypeId} (hp : p.Ok B B0) (hF : p.Free i) (hg : GdQ os a p B B0 w0 af gd) (hen : ∀ args w, (callFunc f args).run Try.prog w = .ok (.enter f args) w)
  (hx : SrcQ os a p B B0 w0 af x F) (hy : SrcQ os a p B B0 w0 af y G) (hz : SrcQ os a p B B0 w0 af z F3) (ht : SrcQ os a p B B0 w0 af t F4) (hC : ∀ v v' u u' w, F v w → G v' w → F3 u w → F4 u' w → Calls Try.prog f #[v, v', u, u'] w fun e w' => ∃ v', e = .returned v' ∧ Below w.heap.size w w' ∧ (p.c i).P v' w') :
  StepQ os Q a p B B0 w0 i { dst := d, op := .call { callee := .value (.func f), args := #[x, y, z, t], argTypes := ts }, type := ty, pos := ps, after := af, guard := gd } :=
 stq_call hp hF hg hen fun L vs w hG hd => ⟨#[_, _, _, _], by simp, hC _ _ _ _ _ (hx L vs w hG hd) (hy L vs w hG hd) (hz L vs w hG hd) (ht L vs w hG hd)⟩

theorem q_callMake {n0 : Nb} {x : Operand} {f g : FuncId} {ts : Array TypeId} {F : Value → World → Prop} (hp : p.Ok B B0) (hen : ∀ args w, (callFunc f args).run Try.prog w = .ok (.enter f args) w) (hi : n0 ∈ p.new) (hii : n0.i = i) (hki : n0.k = i) (hsl : n0.s = some (.clo g))
  (hx : SrcQ os a p B B0 w0 af x F) (hC : ∀ v w, F v w → Calls Try.prog f #[v] w fun e w' => ∃ b, e = .returned (cloV g b) ∧ w.heap.size ≤ b ∧ Below w.heap.size w w' ∧ Bq w' b n0.m n0.F1)
  (hany : ∀ v w', (p.c i).P v w') (h1 : ∀ o ∈ p.old, o.k ≠ i) (h2 : ∀ n ∈ p.new, n.i ≠ i → n.k ≠ i) :
  StepQ os Q a p B B0 w0 i { dst := d, op := .call { callee := .value (.func f), args := #[x], argTypes := ts }, type := ty, pos := ps, after := af, guard := none } := by
 intro hio L vs w hG hL hd hc
 refine wpOp_step hio fun K' hK => ?_
 have h0 := hx L vs w hG hd
 have hwn : Region.wanted ({ dst := d, op := .call { callee := .value (.func f), args := #[x], argTypes := ts }, type := ty, pos := ps, after := af, guard := none } : Oper) (yielded os.toArray (lay os.toArray L vs os.toArray.size a).tmps) = true := rfl
 rw [if_pos hwn]
 have e : (execOp (lay os.toArray L vs os.toArray.size a).eval ({ dst := d, op := .call { callee := .value (.func f), args := #[x], argTypes := ts }, type := ty, pos := ps, after := af, guard := none } : Oper)).run Try.prog w = (.ok (.enter f #[(lay os.toArray L vs os.toArray.size a).eval x]) w) := by
  have hf : (lay os.toArray L vs os.toArray.size a).eval (.func f) = .func (.func f) #[] #[] := rfl
  generalize (lay os.toArray L vs os.toArray.size a).eval = ρ at hf
  simp [execOp, go_sem, hf, hen]
 unfold Oper.wp
 rw [e]
 refine (hC _ w h0).mono ?_
 rintro e' w' ⟨b, rfl, hbs, hb, hbx⟩
 subst hii
 have hnow : n0.now (up L n0.i true) = n0.F1 := by
  unfold Nb.now
  rw [hsl]
  rfl
 have hlay := hG.made hp hi (F := n0.F1) hnow hany h1 h2 hbs hb hbx
 have hptr : n0.ptr b = cloV g b := by unfold Nb.ptr; rw [hsl]
 rw [hptr] at hlay
 exact hK _ _ ⟨_, rfl, hlay⟩

theorem stq_clo {f0 : Operand} {g : FuncId} {xs : Array Operand} {ts : Array TypeId} (hp : p.Ok B B0) (hF : p.Free i) (hg : GdQ os a p B B0 w0 af gd) (hen : ∀ args w, (callFunc g args).run Try.prog w = .ok (.enter g args) w)
  (hr : ∀ L vs w, p.G B B0 w0 L vs w → (∀ e ∈ af, Region.binds .any e = true → L e.on = true) → ∃ args b, xs.map (lay os.toArray L vs os.toArray.size a).eval = args ∧ (lay os.toArray L vs os.toArray.size a).eval f0 = cloV g b ∧
   Calls Try.prog g (args ++ #[.pointer (some ⟨b, 0, none⟩)]) w fun e w' => ∃ v', e = .returned v' ∧ Below w.heap.size w w' ∧ (p.c i).P v' w') :
  StepQ os Q a p B B0 w0 i { dst := d, op := .call { callee := .value f0, args := xs, argTypes := ts }, type := ty, pos := ps, after := af, guard := gd } := by
 intro hio L vs w hG hL hd hc
 refine wpOp_step hio fun K' hK => ?_
 obtain ⟨args, b, hx, hf, hC⟩ := hr L vs w hG hd
 rw [if_pos (wanted_of (o := { dst := d, op := .call { callee := .value f0, args := xs, argTypes := ts }, type := ty, pos := ps, after := af, guard := gd }) hg hG hd)]
 have e : (execOp (lay os.toArray L vs os.toArray.size a).eval ({ dst := d, op := .call { callee := .value f0, args := xs, argTypes := ts }, type := ty, pos := ps, after := af, guard := gd } : Oper)).run Try.prog w = (.ok (.enter g (args ++ #[.pointer (some ⟨b, 0, none⟩)])) w) := by
  unfold cloV at hf
  generalize (lay os.toArray L vs os.toArray.size a).eval = ρ at hx hf
  simp [execOp, go_sem, hx, hf, hen]
 unfold Oper.wp
 rw [e]
 refine hC.mono ?_
 rintro e' w' ⟨v', rfl, hb, h⟩
 exact hK _ _ ⟨_, rfl, hG.plain hp hF hb h⟩

theorem q_callCloIn {n0 : Nb} {f0 x : Operand} {g : FuncId} {ts : Array TypeId} {F : Value → World → Prop} (hp : p.Ok B B0) (hF : p.Free i) (hg : GdQ os a p B B0 w0 af gd) (hen : ∀ args w, (callFunc g args).run Try.prog w = .ok (.enter g args) w) (hi : n0 ∈ p.new) (hsl : n0.s = some (.clo g))
  (hf : ∀ L vs w, p.G B B0 w0 L vs w → (∀ e ∈ af, Region.binds .any e = true → L e.on = true) → L n0.i = true ∧ (lay os.toArray L vs os.toArray.size a).eval f0 = vs n0.i) (hx : SrcQ os a p B B0 w0 af x F)
  (hC : ∀ v b w, F v w → Bq w b n0.m n0.F1 → Calls Try.prog g #[v, .pointer (some ⟨b, 0, none⟩)] w fun e w' => ∃ v', e = .returned v' ∧ Below w.heap.size w w' ∧ (p.c i).P v' w') :
  StepQ os Q a p B B0 w0 i { dst := d, op := .call { callee := .value f0, args := #[x], argTypes := ts }, type := ty, pos := ps, after := af, guard := gd } :=
 stq_clo hp hF hg hen fun L vs w hG hd => by
  obtain ⟨hLi, hye⟩ := hf L vs w hG hd
  obtain ⟨b, e1, _, hb⟩ := hG.new _ hi hLi
  have hptr : n0.ptr b = cloV g b := by unfold Nb.ptr; rw [hsl]
  have hnow : n0.now L = n0.F1 := by
   unfold Nb.now
   rw [hsl]
   rfl
  rw [hnow] at hb
  exact ⟨_, b, rfl, by rw [hye, e1, hptr], by simpa using hC _ b w (hx L vs w hG hd) hb⟩

end

theorem enq_M_within (args : Array Value) (w : World) : (callFunc 73 args).run Try.prog w = .ok (.enter 73 args) w := enter_of Try.func73 (by kernel_rfl) rfl args w
theorem enq_M_within1 (args : Array Value) (w : World) : (callFunc 87 args).run Try.prog w = .ok (.enter 87 args) w := enter_of Try.func87 (by kernel_rfl) rfl args w

theorem exWithin {w : World} {v : Value} {m : Int} (h : Num w v m) : Calls Try.prog 73 #[v] w fun e w' => ∃ b, e = .returned (cloV 87 b) ∧ w.heap.size ≤ b ∧ Below w.heap.size w w' ∧ Bq w' b 2 (Fq.num m) := by
 obtain ⟨n0, ao0, k0, c0, rfl⟩ := h.parts
 obtain ⟨w1, b1, hw1, hb1, hs1, E⟩ := fr_start w (F := Fq.num m) (us := [.bool n0, .slice ao0 k0 c0]) 29 rfl (by simp) (tame_int _ _ _ _) h
 go_enter Try.func73, Try.ntmps73
 go_upto_region 1 with (fail)
 rw [← hw1]
 rw [← hb1]
 have hbs : w.heap.size ≤ b1 := (E.boxes _ (List.mem_cons_self ..)).1
 have hbx := (E.boxes _ (List.mem_cons_self ..)).2
 clear hw1 hb1 hs1
 go_wp2
 refine bodyPost_ret (v := cloV 87 b1) ?_ rfl ⟨_, rfl, hbs, E.below, hbx⟩
 simp [results, Try.results73, go_sem, cloV]

end Go.Proofs.Ytihhlaagndingaa

namespace Go.Proofs.Ytihhlaagndingaa
open Go Go.RowKit

def prodL (f : Nat → Int) (l : List Nat) : Int := l.foldr (fun k z => f k * z) 1
def up1 (h : Nat) : List Nat := List.range' 1 h
def sg (n : Nat) (x : Int) : Int := if 2 * (x % n) < n then 1 else -1
theorem emod_of_dvd {n x y : Int} (h : n ∣ x - y) : x % n = y % n := Int.emod_eq_emod_iff_emod_sub_eq_zero.2 (Int.emod_eq_zero_of_dvd h)
theorem dvd_of_emod {n x y : Int} (h : x % n = y % n) : n ∣ x - y := Int.dvd_of_emod_eq_zero (Int.emod_eq_emod_iff_emod_sub_eq_zero.1 h)
theorem cop_mod {n : Nat} {b : Int} (hb : Int.gcd b n = 1) {x : Int} (hx : x % n ≠ 0) : (b * x) % n ≠ 0 := by
 intro h
 apply hx
 have h1 : (n : Int) ∣ b * x := Int.dvd_of_emod_eq_zero h
 have h2 : n ∣ b.natAbs * x.natAbs := by
  have := Int.natAbs_dvd_natAbs.2 h1
  rw [Int.natAbs_mul] at this
  exact this
 have h3 : Nat.Coprime n b.natAbs := by
  have : Nat.gcd b.natAbs n = 1 := hb
  rw [Nat.gcd_comm] at this
  exact this
 have h4 := h3.dvd_of_dvd_mul_left h2
 exact Int.emod_eq_zero_of_dvd (Int.natAbs_dvd_natAbs.1 h4)
def J (a : Int) (n : Nat) : Int := if Int.gcd a n = 1 then prodL (fun k => sg n (a * k)) (up1 ((n - 1) / 2)) else 0
theorem gcd_emod {a : Int} {n : Nat} : Int.gcd (a % n) n = Int.gcd a n := by
 rw [Int.gcd_comm, Int.gcd_comm a]
 have h := Int.mul_ediv_add_emod a n
 have e : a % n = a + n * (-(a / n)) := by rw [Int.mul_neg]; omega
 rw [e]; simp
def Pr (p : Nat) : Prop := 2 ≤ p ∧ ∀ d, d ∣ p → d = 1 ∨ d = p
theorem Pr.cop {p : Nat} (hp : Pr p) {a : Int} (h : a % p ≠ 0) : Int.gcd a p = 1 := by
 have hd : Int.gcd a p ∣ p := by
  have := Int.gcd_dvd_right (a := a) (b := (p : Int))
  exact Int.natCast_dvd_natCast.1 this
 rcases hp.2 _ hd with e | e
 ·exact e
 ·exfalso
  apply h
  have := Int.gcd_dvd_left (a := a) (b := (p : Int))
  rw [e] at this
  exact Int.emod_eq_zero_of_dvd this
def two (a : Int) : Int := if a % 2 = 0 then 0 else if a % 8 = 3 ∨ a % 8 = 5 then -1 else 1
theorem two_mul (a b : Int) : two (a * b) = two a * two b := by
 have h2 : (a * b) % 2 = ((a % 2) * (b % 2)) % 2 := Int.mul_emod _ _ _
 have h8 : (a * b) % 8 = ((a % 8) * (b % 8)) % 8 := Int.mul_emod _ _ _
 have ea : a % 2 = (a % 8) % 2 := by omega
 have eb : b % 2 = (b % 8) % 2 := by omega
 have ra : a % 8 = 0 ∨ a % 8 = 1 ∨ a % 8 = 2 ∨ a % 8 = 3 ∨ a % 8 = 4 ∨ a % 8 = 5 ∨ a % 8 = 6 ∨ a % 8 = 7 := by omega
 have rb : b % 8 = 0 ∨ b % 8 = 1 ∨ b % 8 = 2 ∨ b % 8 = 3 ∨ b % 8 = 4 ∨ b % 8 = 5 ∨ b % 8 = 6 ∨ b % 8 = 7 := by omega
 unfold two
 rw [h2, h8, ea, eb]
 generalize a % 8 = x at *
 generalize b % 8 = y at *
 rcases ra with rfl | rfl | rfl | rfl | rfl | rfl | rfl | rfl <;> rcases rb with rfl | rfl | rfl | rfl | rfl | rfl | rfl | rfl <;> rfl
end Go.Proofs.Ytihhlaagndingaa

namespace Go.Proofs.Ytihhlaagndingaa
open Go Go.RowKit

theorem bez_ex : ∀ (n : Nat) (a : Int), ∃ u v : Int, u * a + v * n = (Int.gcd a n : Int) := by
 intro n
 induction n using Nat.strongRecOn with
 | _ n ih =>
  intro a
  by_cases h0 : n = 0
  ·subst h0
   refine ⟨if a < 0 then -1 else 1, 0, ?_⟩
   have : (Int.gcd a ((0 : Nat) : Int) : Int) = (a.natAbs : Int) := by simp
   rw [this]
   split <;> omega
  ·have h1 := Int.emod_nonneg a (show (n : Int) ≠ 0 by omega)
   have h2 := Int.emod_lt_of_pos a (show (0 : Int) < n by omega)
   obtain ⟨u, v, h⟩ := ih (a % n).toNat (by omega) (n : Int)
   rw [Int.toNat_of_nonneg h1, Int.gcd_comm, gcd_emod] at h
   refine ⟨v, u - v * (a / n), ?_⟩
   rw [← h]
   have e := Int.mul_ediv_add_emod a n
   have e2 : v * a = v * (n * (a / n)) + v * (a % n) := by rw [← Int.mul_add, e]
   rw [e2, Int.sub_mul]
   have e3 : v * (a / n) * n = v * (n * (a / n)) := by ac_rfl
   omega

theorem gcd_pos_r {a m : Int} (hm : m ≠ 0) : (0 : Int) < Int.gcd a m := by
 have := Int.gcd_pos_iff (a := a) (b := m)
 have h : 0 < Int.gcd a m := this.2 (.inr hm)
 omega

theorem bez_ex2 (a m : Int) (hm : 0 < m) : ∃ u v : Int, 0 ≤ u ∧ u < m / (Int.gcd a m : Int) ∧ u * a + v * m = (Int.gcd a m : Int) := by
 obtain ⟨u, v, h⟩ := bez_ex m.toNat a
 rw [Int.toNat_of_nonneg (by omega)] at h
 have hg := gcd_pos_r (a := a) (show m ≠ 0 by omega)
 obtain ⟨c, hc⟩ := Int.gcd_dvd_left (a := a) (b := m)
 obtain ⟨d, hd⟩ := Int.gcd_dvd_right (a := a) (b := m)
 generalize (Int.gcd a m : Int) = g at *
 have e0 : m / g = d := by rw [hd]; exact Int.mul_ediv_cancel_left _ (by omega)
 have hd0 : 0 < d := by
  rcases Int.lt_or_le 0 d with h1 | h1
  ·exact h1
  ·have := Int.mul_le_mul_of_nonneg_left h1 (show 0 ≤ g by omega)
   omega
 rw [e0]
 refine ⟨u % d, v + u / d * c, Int.emod_nonneg _ (by omega), Int.emod_lt_of_pos _ hd0, ?_⟩
 rw [← h]
 have e := Int.mul_ediv_add_emod u d
 have e2 : u * a = d * (u / d) * a + u % d * a := by rw [← Int.add_mul, e]
 rw [e2, Int.add_mul]
 have e3 : u / d * c * m = d * (u / d) * a := by rw [hc, hd]; ac_rfl
 omega
noncomputable def bezU (a m : Int) : Int := if h : 0 < m then Classical.choose (bez_ex2 a m h) else 0
noncomputable def bezV (a m : Int) : Int := if h : 0 < m then Classical.choose (Classical.choose_spec (bez_ex2 a m h)) else 0
theorem bez_spec {a m : Int} (hm : 0 < m) : 0 ≤ bezU a m ∧ bezU a m < m / (Int.gcd a m : Int) ∧ bezU a m * a + bezV a m * m = (Int.gcd a m : Int) := by
 unfold bezU bezV
 rw [dif_pos hm, dif_pos hm]
 exact Classical.choose_spec (Classical.choose_spec (bez_ex2 a m hm))
theorem small_dvd {x n : Int} (h : n ∣ x) (h1 : -n < x) (h2 : x < n) : x = 0 := by
 obtain ⟨c, hc⟩ := h
 have hn : (0 : Int) ≤ n := by omega
 rcases Int.lt_trichotomy c 0 with h3 | h3 | h3
 ·have := Int.mul_le_mul_of_nonneg_left (show c ≤ -1 by omega) hn
  omega
 ·rw [hc, h3, Int.mul_zero]
 ·have := Int.mul_le_mul_of_nonneg_left (show 1 ≤ c by omega) hn
  omega
theorem dvd_of_cop {n b x : Int} (h : Int.gcd n b = 1) (hd : n ∣ b * x) : n ∣ x := by
 have h1 : n.natAbs ∣ b.natAbs * x.natAbs := by rw [← Int.natAbs_mul]; exact Int.natAbs_dvd_natAbs.2 hd
 have h2 : Nat.Coprime n.natAbs b.natAbs := h
 exact Int.natAbs_dvd_natAbs.1 (h2.dvd_of_dvd_mul_left h1)
theorem bez_uniq {a m : Int} (hm : 0 < m) {u v : Int} (h0 : 0 ≤ u) (h1 : u < m / (Int.gcd a m : Int)) (h2 : u * a + v * m = (Int.gcd a m : Int)) : u = bezU a m ∧ v = bezV a m := by
 obtain ⟨g0, g1, g2⟩ := bez_spec (a := a) hm
 have hg := gcd_pos_r (a := a) (show m ≠ 0 by omega)
 have hco := Int.gcd_ediv_gcd_ediv_gcd (i := a) (j := m) (by
  have := Int.gcd_pos_iff (a := a) (b := m)
  exact this.2 (.inr (by omega)))
 obtain ⟨c, hc⟩ := Int.gcd_dvd_left (a := a) (b := m)
 obtain ⟨d, hd⟩ := Int.gcd_dvd_right (a := a) (b := m)
 generalize bezU a m = p at *
 generalize bezV a m = q at *
 generalize hG : (Int.gcd a m : Int) = g at *
 have e0 : m / g = d := by rw [hd]; exact Int.mul_ediv_cancel_left _ (by omega)
 have e1 : a / g = c := by rw [hc]; exact Int.mul_ediv_cancel_left _ (by omega)
 rw [e0, e1] at hco
 rw [e0] at h1 g1
 have h3 : (u - p) * a + (v - q) * m = 0 := by rw [Int.sub_mul, Int.sub_mul]; omega
 have h4 : g * (c * (u - p) + d * (v - q)) = 0 := by
  rw [← h3, Int.mul_add]
  congr 1
  ·conv => rhs; rw [hc]
   ac_rfl
  ·conv => rhs; rw [hd]
   ac_rfl
 have h5 : c * (u - p) + d * (v - q) = 0 := by
  rcases Int.mul_eq_zero.1 h4 with h | h
  ·omega
  ·exact h
 have h6 : d ∣ c * (u - p) := ⟨-(v - q), by rw [Int.mul_neg]; omega⟩
 have h7 := small_dvd (dvd_of_cop (by rw [Int.gcd_comm]; exact hco) h6) (by omega) (by omega)
 rw [h7, Int.mul_zero, Int.zero_add] at h5
 refine ⟨by omega, ?_⟩
 rcases Int.mul_eq_zero.1 h5 with h | h
 ·rw [h, Int.mul_zero] at hd; omega
 ·omega
theorem bez_lt {a m : Int} (hm : 0 < m) : bezU a m < m := by
 obtain ⟨g0, g1, _⟩ := bez_spec (a := a) hm
 have hg := gcd_pos_r (a := a) (show m ≠ 0 by omega)
 have := Int.ediv_le_self (a := m) (Int.gcd a m : Int) (by omega)
 omega
theorem bez_inv {a m : Int} (hm : 0 < m) (hg : Int.gcd a m = 1) : (a * bezU a m) % m = 1 % m := by
 have h := (bez_spec (a := a) hm).2.2
 rw [hg] at h
 refine emod_of_dvd ⟨-(bezV a m), ?_⟩
 rw [Int.mul_neg]
 have : a * bezU a m = bezU a m * a := Int.mul_comm _ _
 have h2 : m * bezV a m = bezV a m * m := Int.mul_comm _ _
 omega
theorem inv_uniq {a m x : Int} (hm : 0 < m) (h0 : 0 ≤ x) (h1 : x < m) (h : (a * x) % m = 1 % m) : Int.gcd a m = 1 ∧ x = bezU a m := by
 have hd := dvd_of_emod h
 have hg : Int.gcd a m = 1 := by
  have g1 := Int.gcd_dvd_left (a := a) (b := m)
  have g2 := Int.gcd_dvd_right (a := a) (b := m)
  have g3 : (Int.gcd a m : Int) ∣ a * x - 1 := Int.dvd_trans g2 hd
  have g4 : (Int.gcd a m : Int) ∣ 1 := by
   have g5 : (Int.gcd a m : Int) ∣ a * x := Int.dvd_trans g1 ⟨x, rfl⟩
   have := Int.dvd_sub g5 g3
   have e : a * x - (a * x - 1) = 1 := by omega
   rwa [e] at this
  have := Int.le_of_dvd (by decide) g4
  have := gcd_pos_r (a := a) (show m ≠ 0 by omega)
  omega
 refine ⟨hg, ?_⟩
 have h2 := bez_inv hm hg
 have h3 : (a * (x - bezU a m)) % m = 0 := by
  rw [Int.mul_sub]
  exact Int.emod_eq_emod_iff_emod_sub_eq_zero.1 (h.trans h2.symm)
 have h4 := dvd_of_cop (by rw [Int.gcd_comm]; exact hg) (Int.dvd_of_emod_eq_zero h3)
 have h5 := (bez_spec (a := a) hm).1
 have h6 := bez_lt (a := a) hm
 have := small_dvd h4 (by omega) (by omega)
 omega

end Go.Proofs.Ytihhlaagndingaa
