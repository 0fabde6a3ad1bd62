/- Rc, Rh, Rk, Yc, Ye, Yf, Pa, Yg, Yh, Yi, Yj, Yr, Sa. -/
import Derived.Test.YtihhlaagndingaaGreatBz2
import Derived.BigRegion
import Derived.Laws.RangeAny
import Derived.Lib.OthersKept
import Derived.Laws.RangeString
import Derived.BigQuiet
import Derived.Laws.StandIn
import Derived.Laws.EntriesVeiled
import Derived.Deep.MidRow
namespace Go.Proofs.YtihhlaagndingaaGreat
open Go Go.RowKit

set_option maxRecDepth 20000 in
set_option maxHeartbeats 1000000 in
theorem rNeg_any (w : World) (na : Bool) (ax : Option Addr) (n cx : Nat) (xs : List Int) (hX : Sl w ax n cx xs) (hb1 : n ≤ 4000000) :
  Calls Tryz.prog 36 #[.agg #[.bool na, .slice ax n cx]] w (zBb w (-sgn na (val xs))) := by
 go_enter Tryz.func36, Tryz.ntmps36
 obtain ⟨w0, hw0, hA, hC, hbl, HS⟩ := zHd w (.bool na) (.slice ax n cx) 32
 have hX0 := hX.mono hbl
 obtain ⟨ca0, ca1, _, _⟩ := hA
 go_wp2_with fail
 rw [← hw0]
 clear hw0
 refine (zDh _ _ _ _ _ _ hX0 (by omega)).mono ?_
 rintro e w3 ⟨v, rfl, ⟨ng, ao, nn, cc, rs, rfl, hrs, hrc, hrn, hrz⟩, hb3⟩
 obtain ⟨e0, e1, e2, e3⟩ := hC.mono hb3 hC.lt
 have hb4 : Below w.heap.size w w3 := hbl.trans (hb3.mono hbl.size)
 have hz : -sgn na (val xs) = sgn ng (val rs) := by rw [← hrz, sgn_not]
 have HZ := hidd hz
 clear hrz hz
 go_wp2
 refine bodyPost_ret (v := .agg #[.bool ng, .slice ao nn cc]) ?_ rfl ?_
 ·simp [results, Tryz.results36, go_sem, e0, e1]
 ·exact zBu ⟨e0, e1, e2, e3⟩ hrs hrc hrn HZ.out hb4 (by omega)

set_option maxRecDepth 20000 in
set_option maxHeartbeats 1000000 in
theorem rAbs_any (w : World) (na : Bool) (ax : Option Addr) (n cx : Nat) (xs : List Int) (hX : Sl w ax n cx xs) (hb1 : n ≤ 4000000) :
  Calls Tryz.prog 73 #[.agg #[.bool na, .slice ax n cx]] w (zBb w (val xs)) := by
 go_enter Tryz.func73, Tryz.ntmps73
 obtain ⟨w0, hw0, hA, hC, hbl, HS⟩ := zHd w (.bool na) (.slice ax n cx) 32
 have hX0 := hX.mono hbl
 obtain ⟨ca0, ca1, _, _⟩ := hA
 go_wp2_with fail
 rw [← hw0]
 clear hw0
 refine (zDh _ _ _ _ _ _ hX0 (by omega)).mono ?_
 rintro e w3 ⟨v, rfl, ⟨ng, ao, nn, cc, rs, rfl, hrs, hrc, hrn, hrz⟩, hb3⟩
 obtain ⟨e0, e1, e2, e3⟩ := hC.mono hb3 hC.lt
 have hb4 : Below w.heap.size w w3 := hbl.trans (hb3.mono hbl.size)
 have hz : val xs = sgn ng (val rs) := by rw [← hrz]; rfl
 have HZ := hidd hz
 clear hrz hz
 go_wp2
 refine bodyPost_ret (v := .agg #[.bool ng, .slice ao nn cc]) ?_ rfl ?_
 ·simp [results, Tryz.results73, go_sem, e0, e1]
 ·exact zBu ⟨e0, e1, e2, e3⟩ hrs hrc hrn HZ.out hb4 (by omega)

theorem RNegV {w : World} {v : Value} {z : Int} (h : Num w v z) : Calls Tryz.prog 36 #[v] w (zBb w (-z)) := by
 obtain ⟨neg, ao, n, c, xs, rfl, hs, hn, rfl, _⟩ := h
 exact rNeg_any _ _ _ _ _ _ hs (by omega)

theorem sgn_absR (b : Bool) {v : Int} (h : 0 ≤ v) : ((sgn b v).natAbs : Int) = v := by cases b <;> simp [sgn] <;> omega

theorem RAbsV {w : World} {v : Value} {z : Int} (h : Num w v z) : Calls Tryz.prog 73 #[v] w (zBb w (z.natAbs : Int)) := by
 obtain ⟨neg, ao, n, c, xs, rfl, hs, hn, rfl, _⟩ := h
 rw [sgn_absR _ (zAx hs.digs)]
 exact rAbs_any _ _ _ _ _ _ hs (by omega)

theorem Num.sign {w : World} {n : Bool} {ao : Option Addr} {k c : Nat} {z : Int} (h : Num w (.agg #[.bool n, .slice ao k c]) z) : ∃ xs, Sl w ao k c xs ∧ Canon xs ∧ k ≤ 900000 ∧ z = sgn n (val xs) ∧ 0 ≤ val xs ∧ (k = 0 ↔ z = 0) ∧ (n = true → z < 0) ∧ (n = false → 0 ≤ z) := by
 obtain ⟨neg, ao', k', c', xs, hv, hs, hn, hz, hc, hnn⟩ := h
 obtain ⟨rfl, rfl, rfl, rfl⟩ : n = neg ∧ ao = ao' ∧ k = k' ∧ c = c' := by
  simp at hv; exact ⟨hv.1, hv.2.1, hv.2.2.1, hv.2.2.2⟩
 have h0 := zAx hs.digs
 have h1 := hc.zero
 rw [hs.len] at h1
 refine ⟨xs, hs, hc, hn, hz, h0, ?_, ?_, ?_⟩
 ·rw [h1, hz]; cases n <;> simp [sgn]
 ·rintro rfl
  have h2 : val xs ≠ 0 := fun h => hnn rfl (h1.2 h)
  rw [hz]; simp [sgn]; omega
 ·rintro rfl
  rw [hz]; simp [sgn]; exact h0

set_option maxRecDepth 20000 in
set_option maxHeartbeats 1000000 in
theorem RSignV {w : World} {v : Value} {z : Int} (h : Num w v z) : Calls Tryz.prog 26 #[v] w fun e w' => e = .returned (.int .i64 (cmpI z 0)) ∧ Below w.heap.size w w' := by
 obtain ⟨n, ao, k, c, rfl⟩ := h.parts
 obtain ⟨xs, hs, hc, hk, hz, h0, hkz, hneg, hpos⟩ := h.sign
 by_cases hk0 : k = 0
 ·have HV : Hid (cmpI z 0 = 0) := by
   have := hkz.1 hk0
   show cmpI z 0 = 0
   rw [this]; rfl
  subst hk0
  clear hkz hneg hpos hz h
  go_enter Tryz.func26, Tryz.ntmps26
  go_wp2
  go_ret
  exact ⟨by rw [HV.out]; rfl, zAq _ _⟩
 ·have hk1 : ((k : Int) == 0) = false := by simp; omega
  have hz0 : z ≠ 0 := fun h => hk0 (hkz.2 h)
  cases n
  ·have HV : Hid (cmpI z 0 = 1) := by
    have := hpos rfl
    show cmpI z 0 = 1
    unfold cmpI; rw [if_neg (by omega), if_neg hz0]
   clear hkz hneg hpos hz h hz0 hk0
   go_enter Tryz.func26, Tryz.ntmps26
   go_wp2
   go_ret
   exact ⟨by rw [HV.out]; rfl, zAq _ _⟩
  ·have HV : Hid (cmpI z 0 = -1) := by
    have := hneg rfl
    show cmpI z 0 = -1
    unfold cmpI; rw [if_pos this]
   clear hkz hneg hpos hz h hz0 hk0
   go_enter Tryz.func26, Tryz.ntmps26
   go_wp2
   go_ret
   exact ⟨by rw [HV.out]; rfl, zAq _ _⟩

set_option maxRecDepth 20000 in
set_option maxHeartbeats 1000000 in
theorem RCmpV {w : World} {v v' : Value} {z z' : Int} (h : Num w v z) (h' : Num w v' z') : Calls Tryz.prog 50 #[v, v'] w fun e w' => e = .returned (.int .i64 (cmpI z z')) ∧ Below w.heap.size w w' := by
 obtain ⟨n, ao, k, c, rfl⟩ := h.parts
 obtain ⟨n', ao', k', c', rfl⟩ := h'.parts
 obtain ⟨xs, hs, hc, hk, hz, h0, hkz, hneg, hpos⟩ := h.sign
 obtain ⟨ys, hs', hc', hk', hz', h0', hkz', hneg', hpos'⟩ := h'.sign
 obtain ⟨w0, hw0, hbl, hsz⟩ : ∃ w0, w0 = (w.alloc (.cells #[.bool n, .slice ao k c] 32)).alloc (.cells #[.bool n', .slice ao' k' c'] 32) ∧ Below w.heap.size w w0 ∧ w0.heap.size = w.heap.size + 2 :=
  ⟨_, rfl, (zAq _ _).trans ((zAq _ _).mono (by simp)), by simp⟩
 have hX := hs.mono hbl
 have hY := hs'.mono hbl
 cases n <;> cases n'
 ·have HV : Hid (cmpI (val xs) (val ys) = cmpI z z') := by
   show _ = _
   rw [hz, hz']; rfl
  clear hkz hneg hpos hz h hkz' hneg' hpos' hz' h'
  go_enter Tryz.func50, Tryz.ntmps50
  go_wp2_with fail
  rw [← hw0]
  clear hw0
  refine (zH7 _ _ _ _ _ _ _ _ _ hX hY hc hc' (by omega) (by omega)).mono ?_
  rintro e w2 ⟨rfl, hd⟩
  go_wp2
  go_ret
  exact ⟨by rw [HV.out]; rfl, hbl.trans (hd.below _)⟩
 ·have HV : Hid (cmpI z z' = 1) := by
   have h1 := hpos rfl
   have h2 := hneg' rfl
   show _ = _
   unfold cmpI; rw [if_neg (by omega), if_neg (by omega)]
  clear hkz hneg hpos hz h hkz' hneg' hpos' hz' h'
  go_enter Tryz.func50, Tryz.ntmps50
  go_wp2
  rw [← hw0]
  go_ret
  exact ⟨by rw [HV.out]; rfl, hbl⟩
 ·have HV : Hid (cmpI z z' = -1) := by
   have h1 := hneg rfl
   have h2 := hpos' rfl
   show _ = _
   unfold cmpI; rw [if_pos (by omega)]
  clear hkz hneg hpos hz h hkz' hneg' hpos' hz' h'
  go_enter Tryz.func50, Tryz.ntmps50
  go_wp2
  rw [← hw0]
  go_ret
  exact ⟨by rw [HV.out]; rfl, hbl⟩
 ·have HV : Hid (cmpI (val ys) (val xs) = cmpI z z') := by
   show _ = _
   rw [hz, hz']
   simp only [sgn, if_true]
   unfold cmpI
   split <;> split <;> (try split) <;> omega
  clear hkz hneg hpos hz h hkz' hneg' hpos' hz' h'
  go_enter Tryz.func50, Tryz.ntmps50
  go_wp2_with fail
  rw [← hw0]
  clear hw0
  refine (zH7 _ _ _ _ _ _ _ _ _ hY hX hc' hc (by omega) (by omega)).mono ?_
  rintro e w2 ⟨rfl, hd⟩
  go_wp2
  go_ret
  exact ⟨by rw [HV.out]; rfl, hbl.trans (hd.below _)⟩

end Go.Proofs.YtihhlaagndingaaGreat

namespace Go.Proofs.YtihhlaagndingaaGreat
open Go Go.RowKit

theorem zDs (w : World) (ax : Option Addr) (n c : Nat) (xs : List Int) (hX : Sl w ax n c xs) (_ : n ≤ 4000000) (k : Nat) (_ : k ≤ 9000000) (x : Int) (hx : xs.getD k 0 = x) :
  Calls Tryz.prog 62 #[.slice ax n c, .int .i64 k] w fun e w' => e = .returned (.int .u64 x) ∧ w = w' := by
 have hl := hX.len
 by_cases h : k < n
 ·obtain ⟨b, off, rfl, hbl, x', hxc, hx0, hx1, HX⟩ := hX.cells.at (k := k) (by omega)
  rw [HX.out] at hx
  subst hx
  have h1 : decide ((k : Int) ≥ (n : Int)) = false := by simp; omega
  have h2 : ¬ ((k : Int) < 0) := by omega
  clear hl
  go_enter Tryz.func62, Tryz.ntmps62
  go_wp2
  go_ret
  exact ⟨rfl, rfl⟩
 ·have h0 : x = 0 := by rw [← hx]; exact zDe (by omega)
  subst h0
  have h1 : decide ((k : Int) ≥ (n : Int)) = true := by simp; omega
  clear hl hx hX
  go_enter Tryz.func62, Tryz.ntmps62
  go_wp2
  go_ret
  exact ⟨rfl, rfl⟩

theorem zO4 (w : World) (ax : Option Addr) (n c : Nat) (k : Int) (_ : k < 0) (_ : -9000000 ≤ k) :
  Calls Tryz.prog 62 #[.slice ax n c, .int .i64 k] w fun e w' => e = .returned (.int .u64 0) ∧ w = w' := by
 go_enter Tryz.func62, Tryz.ntmps62
 go_wp2
 go_ret
 exact ⟨rfl, rfl⟩

def Ow (W : World) (B : Nat) (v : Value) (zs : List Int) : Prop := W.ownsRow B 67 1 v zs.length (zs.map (Value.int .u32)) ∧ Digs zs

theorem Ow.shape {W : World} {B : Nat} {v : Value} {zs : List Int} (h : Ow W B v zs) : ∃ ao cap, v = .slice ao zs.length cap := by
 rcases h.1.2 with ⟨rfl, h0⟩ | ⟨g, cap, cur, rfl, _⟩
 ·exact ⟨none, 0, by rw [h0]⟩
 ·exact ⟨_, _, rfl⟩

theorem Ow.start (w : World) : Ow (w.alloc (.cells #[] 67)) w.heap.size (.slice (some ⟨w.heap.size, 0, none⟩) 0 0) [] :=
 ⟨⟨rfl, .inr ⟨w.heap.size, 0, #[], rfl, Nat.le_refl _, heap_alloc_new _ _, Nat.le_refl _, Nat.zero_le _, rfl, rfl⟩⟩, fun _ h => by simp at h⟩

theorem Ow.sl {W : World} {B : Nat} {v : Value} {zs : List Int} (h : Ow W B v zs) : ∃ ao c, v = .slice ao zs.length c ∧ Sl W ao zs.length c zs := own_sl h.1 h.2

theorem Ow.step {w wr w1 : World} {v v' : Value} {zs : List Int} {d : Int} {o : Obj} (h : Ow wr w.heap.size v zs) (hnx : Below w.heap.size w wr) (hd0 : 0 ≤ d) (hd1 : d < 4294967296)
  (hown' : w1.ownsRow w.heap.size 67 1 v' (zs.length + 1) (zs.map (Value.int .u32) ++ [.int .u32 d])) (hgrow : (wr.alloc o).grownBy w1 v.ownBlock) :
  Ow w1 w.heap.size v' (zs ++ [d]) ∧ Below w.heap.size w w1 := by
 refine ⟨⟨by simpa using hown', fun y hy => ?_⟩, ?_⟩
 ·rcases List.mem_append.1 hy with h1 | h1
  ·exact h.2 y h1
  ·simp at h1; subst h1; exact ⟨hd0, hd1⟩
 ·have hs := hnx.size
  exact (hnx.alloc hs o).grown hgrow (by simp; omega) (fun j hj => (World.ownsRow.lt h.1 j hj).1)

theorem zIa (zs : List Int) (d : Int) : val (zs ++ [d]) = val zs + pw zs.length * d := by
 rw [zJs]
 show _ + _ * (d + 4294967296 * 0) = _
 rw [Int.mul_zero, Int.add_zero]

theorem plus_step {k : Nat} {zs xs ys : List Int} {q x y : Int} (hk : zs.length = k) (h : val zs + pw k * q = val (xs.take k) + val (ys.take k)) (hx : xs.getD k 0 = x) (hy : ys.getD k 0 = y) :
  val (zs ++ [(q + (x + y)) % 4294967296]) + pw (k + 1) * ((q + (x + y)) / 4294967296) = val (xs.take (k + 1)) + val (ys.take (k + 1)) := by
 rw [zIa, hk, zAw, zAw, hx, hy]
 have h1 := zC8 k (q + (x + y))
 rw [Int.mul_add, Int.mul_add] at h1
 omega

set_option maxRecDepth 20000 in
set_option maxHeartbeats 1000000 in
theorem plus_any (w : World) (ax ay : Option Addr) (n m cx cy : Nat) (xs ys : List Int) (hX : Sl w ax n cx xs) (hY : Sl w ay m cy ys) (hb1 : n ≤ 2000000) (hb2 : m ≤ 2000000) :
  Calls Tryz.prog 74 #[.slice ax n cx, .slice ay m cy] w fun e w' => ∃ ao c l zs, e = .returned (.slice ao l c) ∧ Sl w' ao l c zs ∧ l ≤ max n m + 1 ∧ val zs = val xs + val ys ∧ Below w.heap.size w w' := by
 obtain ⟨i0, hi, hz0, hz1, hz2⟩ := info_parts zGr
 obtain ⟨L, hL⟩ : ∃ L : Nat, L = max n m := ⟨_, rfl⟩
 have hL2 : (if n < m then (m : Int) else (n : Int)) = (L : Int) := by split <;> omega
 have hLb : L ≤ 2000000 := by omega
 have HL := hidd hL
 clear hL
 go_enter Tryz.func74, Tryz.ntmps74
 go_wp2
 go_loopw [5, 6, 7] (fun vo vc vi wr => ∃ (k : Nat) (q : Int) (zs : List Int), k ≤ L ∧ vi = .int .i64 k ∧ vc = .int .u64 q ∧ 0 ≤ q ∧ q ≤ 1 ∧ Ow wr w.heap.size vo zs ∧ zs.length = k ∧ val zs + pw k * q = val (xs.take k) + val (ys.take k) ∧ Below w.heap.size w wr) (fun _ _ vi _ => L - (intOf vi).toNat)
 case atStart => exact ⟨0, 0, [], Nat.zero_le _, rfl, rfl, by omega, by omega, Ow.start w, rfl, by simp [val], zAq _ _⟩
 case round =>
  obtain ⟨k, q, zs, hk, rfl, rfl, hq0, hq1, hO, hzl, hv, hB⟩ := hrel
  subst hzl
  have HV := hidd hv
  clear hv
  obtain ⟨ao, cap, rfl⟩ := hO.shape
  have HO := hO.1
  have hsz := hB.size
  by_cases hkL : zs.length < L
  ·obtain ⟨x, hx⟩ : ∃ x, xs.getD zs.length 0 = x := ⟨_, rfl⟩
   obtain ⟨y, hy⟩ : ∃ y, ys.getD zs.length 0 = y := ⟨_, rfl⟩
   have hxd := hX.digs.getD zs.length
   have hyd := hY.digs.getD zs.length
   rw [hx] at hxd
   rw [hy] at hyd
   have Hx := hidd hx
   have Hy := hidd hy
   clear hx hy
   go_wp2_with fail
   refine (zDs _ _ _ _ _ (hX.mono hB) (by omega) zs.length (by omega) x Hx.out).mono ?_
   rintro e w' ⟨rfl, rfl⟩
   go_wp2_with fail
   refine (zDs _ _ _ _ _ (hY.mono hB) (by omega) zs.length (by omega) y Hy.out).mono ?_
   rintro e w' ⟨rfl, rfl⟩
   go_wp2_with (first | (at_builtin; refine wpList_append_own _ rfl _ _ 25 rfl w.heap.size 67 i0 (.int .u32 0) 1 4 Tryz.underlying25 hi hz0 hz1 hz2 rfl (by decide) _ _ _ rfl (World.ownsRow.alloc HO _) ⟨_, 0, none⟩ 1 1 [.int .u32 ((q + (x + y)) % 4294967296)] rfl rfl (zH2 _ _ _) (by intro u hu; simp at hu; subst hu; rfl) (by unfold maxLen; omega) (by omega) (by simp; omega) ?_; intro v' w5 hown' hgrow _) | go_in)
   obtain ⟨hO2, hB2⟩ := hO.step hB (by omega) (by omega) hown' hgrow
   clear hown' hgrow hO hB HO hsz
   go_wp2
   go_roundw
   case rel => exact ⟨zs.length + 1, (q + (x + y)) / 4294967296, zs ++ [(q + (x + y)) % 4294967296], by omega, by go_num, by go_num, by omega, by omega, hO2, by simp, plus_step rfl HV.out Hx.out Hy.out, hB2⟩
   case measure => simp [intOf]; omega
  ·have hkl : zs.length = L := by omega
   have hqm : q % 4294967296 = q := by omega
   go_wp2_with (first | (at_builtin; refine wpList_append_own _ rfl _ _ 25 rfl w.heap.size 67 i0 (.int .u32 0) 1 4 Tryz.underlying25 hi hz0 hz1 hz2 rfl (by decide) _ _ _ rfl (World.ownsRow.alloc HO _) ⟨_, 0, none⟩ 1 1 [.int .u32 (q)] rfl rfl (zH2 _ _ _) (by intro u hu; simp at hu; subst hu; rfl) (by unfold maxLen; omega) (by omega) (by simp; omega) ?_; intro v' w5 hown' hgrow _) | go_in)
   obtain ⟨hO2, hB2⟩ := hO.step hB hq0 (by omega) hown' hgrow
   clear hown' hgrow hO hB HO hsz
   obtain ⟨ao2, c2, rfl, hS2⟩ := hO2.sl
   go_wp2
   go_ret
   refine ⟨_, _, _, _, rfl, hS2, by have := HL.out; simp; omega, ?_, hB2⟩
   have h1 := HV.out
   rw [zA4 xs (by rw [hX.len]; have := HL.out; omega), zA4 ys (by rw [hY.len]; have := HL.out; omega)] at h1
   rw [zIa]
   exact h1

theorem zOb {k : Nat} {zs xs ys : List Int} {q x y : Int} (hk : zs.length = k) (h : val zs = val (xs.take k) - val (ys.take k) + pw k * q) (hx : xs.getD k 0 = x) (hy : ys.getD k 0 = y) :
  val (zs ++ [(4294967296 + x - y - q) % 4294967296]) = val (xs.take (k + 1)) - val (ys.take (k + 1)) + pw (k + 1) * (1 - (4294967296 + x - y - q) / 4294967296) := by
 rw [zIa, hk, zAw, zAw, hx, hy]
 have h1 := zC8 k (4294967296 + x - y - q)
 have h2 : pw k * (4294967296 + x - y - q) = pw (k + 1) + pw k * x - pw k * y - pw k * q := by
  rw [zDi, Int.mul_sub, Int.mul_sub, Int.mul_add]
 rw [Int.mul_sub, Int.mul_one]
 omega

set_option maxRecDepth 20000 in
set_option maxHeartbeats 1000000 in
theorem zLf (w : World) (ax ay : Option Addr) (n m cx cy : Nat) (xs ys : List Int) (hX : Sl w ax n cx xs) (hY : Sl w ay m cy ys) (hcy : Canon ys) (hle : val ys ≤ val xs) (hb1 : n ≤ 2000000) (hb2 : m ≤ 2000000) :
  Calls Tryz.prog 75 #[.slice ax n cx, .slice ay m cy] w fun e w' => ∃ ao c zs, e = .returned (.slice ao n c) ∧ Sl w' ao n c zs ∧ val zs = val xs - val ys ∧ Below w.heap.size w w' := by
 obtain ⟨i0, hi, hz0, hz1, hz2⟩ := info_parts zGr
 have HCY := hidd hcy
 have HLE := hidd hle
 clear hcy hle
 go_enter Tryz.func75, Tryz.ntmps75
 go_wp2
 go_loopw [5, 6, 7] (fun vo vc vi wr => ∃ (k : Nat) (q : Int) (zs : List Int), k ≤ n ∧ vi = .int .i64 k ∧ vc = .int .u64 q ∧ 0 ≤ q ∧ q ≤ 1 ∧ Ow wr w.heap.size vo zs ∧ zs.length = k ∧ val zs = val (xs.take k) - val (ys.take k) + pw k * q ∧ Below w.heap.size w wr) (fun _ _ vi _ => n - (intOf vi).toNat)
 case atStart => exact ⟨0, 0, [], Nat.zero_le _, rfl, rfl, by omega, by omega, Ow.start w, rfl, by simp [val], zAq _ _⟩
 case round =>
  obtain ⟨k, q, zs, hk, rfl, rfl, hq0, hq1, hO, hzl, hv, hB⟩ := hrel
  subst hzl
  have HV := hidd hv
  clear hv
  obtain ⟨ao, cap, rfl⟩ := hO.shape
  have HO := hO.1
  have hsz := hB.size
  by_cases hkL : zs.length < n
  ·obtain ⟨x, hx⟩ : ∃ x, xs.getD zs.length 0 = x := ⟨_, rfl⟩
   obtain ⟨y, hy⟩ : ∃ y, ys.getD zs.length 0 = y := ⟨_, rfl⟩
   have hxd := hX.digs.getD zs.length
   have hyd := hY.digs.getD zs.length
   rw [hx] at hxd
   rw [hy] at hyd
   have Hx := hidd hx
   have Hy := hidd hy
   clear hx hy
   go_wp2_with fail
   refine (zDs _ _ _ _ _ (hX.mono hB) (by omega) zs.length (by omega) x Hx.out).mono ?_
   rintro e w' ⟨rfl, rfl⟩
   go_wp2_with fail
   refine (zDs _ _ _ _ _ (hY.mono hB) (by omega) zs.length (by omega) y Hy.out).mono ?_
   rintro e w' ⟨rfl, rfl⟩
   go_wp2_with (first | (at_builtin; refine wpList_append_own _ rfl _ _ 25 rfl w.heap.size 67 i0 (.int .u32 0) 1 4 Tryz.underlying25 hi hz0 hz1 hz2 rfl (by decide) _ _ _ rfl (World.ownsRow.alloc HO _) ⟨_, 0, none⟩ 1 1 [.int .u32 ((4294967296 + x - y - q) % 4294967296)] rfl rfl (zH2 _ _ _) (by intro u hu; simp at hu; subst hu; rfl) (by unfold maxLen; omega) (by omega) (by simp; omega) ?_; intro v' w5 hown' hgrow _) | go_in)
   obtain ⟨hO2, hB2⟩ := hO.step hB (by omega) (by omega) hown' hgrow
   clear hown' hgrow hO hB HO hsz
   go_wp2
   go_roundw
   case rel => exact ⟨zs.length + 1, 1 - (4294967296 + x - y - q) / 4294967296, zs ++ [(4294967296 + x - y - q) % 4294967296], by omega, by go_num, by go_num, by omega, by omega, hO2, by simp, zOb rfl HV.out Hx.out Hy.out, hB2⟩
   case measure => simp [intOf]; omega
  ·have hkl : zs.length = n := by omega
   obtain ⟨ao2, c2, he, hS2⟩ := hO.sl
   cases he
   rw [hkl] at hS2
   have HE : Hid (val zs = val xs - val ys) := by
    have h1 := HV.out
    have h2 := zAx hX.digs
    have h3 := zBc hX.digs
    rw [hX.len] at h3
    have h4 := HCY.out.length_le (Int.lt_of_le_of_lt HLE.out h3)
    rw [hkl, zA4 xs (by rw [hX.len]; omega), zA4 ys h4] at h1
    have h5 := zBc hS2.digs
    rw [hS2.len] at h5
    have h6 := HLE.out
    show val zs = _
    rcases (by omega : q = 0 ∨ q = 1) with rfl | rfl
    ·omega
    ·omega
   clear hO HO
   go_wp2
   go_ret
   exact ⟨ao, cap, zs, by show Ending.returned (.slice ao zs.length cap) = _; rw [hkl], hS2, HE.out, hB⟩

end Go.Proofs.YtihhlaagndingaaGreat

namespace Go.Proofs.YtihhlaagndingaaGreat
open Go Go.RowKit

def Mine (w : World) (b n : Nat) (zs : List Int) : Prop :=
 ∃ cur : Array Value, w.heap[b]? = some (.cells cur 67 (0, 0)) ∧ zs.length = n ∧ Digs zs ∧ n ≤ cur.size ∧ ∀ j, j < n → cur[j]? = some (.int .u32 (zs.getD j 0))

theorem Mine.lt {w : World} {b n : Nat} {zs : List Int} (h : Mine w b n zs) : b < w.heap.size := by
 obtain ⟨cur, h1, _⟩ := h
 exact (Array.getElem?_eq_some_iff.1 h1).1
theorem Mine.len {w : World} {b n : Nat} {zs : List Int} (h : Mine w b n zs) : zs.length = n := by
 obtain ⟨cur, _, h1, _⟩ := h
 exact h1
theorem Mine.digs {w : World} {b n : Nat} {zs : List Int} (h : Mine w b n zs) : Digs zs := by
 obtain ⟨cur, _, _, h1, _⟩ := h
 exact h1
theorem Mine.cell {w : World} {b n : Nat} {zs : List Int} (h : Mine w b n zs) {j : Nat} (hj : j < n) : w.cell? ⟨b, j, none⟩ = some (.int .u32 (zs.getD j 0)) := by
 obtain ⟨cur, h1, h2, h3, h4, h5⟩ := h
 rw [cell_of_row w b j _ _ (0, 0) h1]
 exact h5 j hj
theorem Mine.frozen {w : World} {b n : Nat} {zs : List Int} (h : Mine w b n zs) (j : Nat) : w.frozen? ⟨b, j, none⟩ = false := by
 obtain ⟨cur, h1, _⟩ := h
 simp [World.frozen?, h1]
theorem Mine.mono {w w' : World} {b n : Nat} {zs : List Int} (h : Mine w b n zs) {B : Nat} (hb : Below B w w') (hB : b < B) : Mine w' b n zs := by
 obtain ⟨cur, h1, h2⟩ := h
 exact ⟨cur, by rw [hb.block b hB]; exact h1, h2⟩
theorem Mine.drewN {w : World} {b n : Nat} {zs : List Int} (h : Mine w b n zs) (d : Nat) : Mine (w.drewN d) b n zs := h
theorem Mine.set {w : World} {b n : Nat} {zs : List Int} (h : Mine w b n zs) {j : Nat} (hj : j < n) {x : Int} (hx0 : 0 ≤ x) (hx1 : x < 4294967296) : Mine (w.setCell ⟨b, j, none⟩ (.int .u32 x)) b n (zs.set j x) := by
 obtain ⟨cur, h1, h2, h3, h4, h5⟩ := h
 refine ⟨cur.setIfInBounds j (.int .u32 x), ?_, by rw [List.length_set]; exact h2, h3.set j ⟨hx0, hx1⟩, by simpa using h4, fun k hk => ?_⟩
 ·simp only [World.setCell, Array.getElem?_modify, if_true, h1, Option.map_some, Option.isSome_none]
  simp
 ·by_cases hjk : j = k
  ·subst hjk
   rw [zB0 _ _ _ (by omega), Array.getElem?_setIfInBounds_self_of_lt (by omega)]
  ·rw [getD_set_ne _ _ _ _ hjk]
   rw [Array.getElem?_setIfInBounds_ne hjk]
   exact h5 k hk
theorem Mine.sl {w : World} {b n : Nat} {zs : List Int} (h : Mine w b n zs) {c : Nat} (hc : n ≤ c) : Sl w (some ⟨b, 0, none⟩) n c zs :=
 ⟨h.len, hc, h.digs, .inr ⟨b, 0, rfl, h.lt, fun j hj => by rw [Nat.zero_add]; exact h.cell (by have := h.len; omega)⟩⟩
theorem Mine.other {w : World} {b n : Nat} {zs : List Int} (h : Mine w b n zs) {w' : World} {b' : Nat} (hg : w.grownBy w' (some b')) (hne : b ≠ b') : Mine w' b n zs := by
 have hl := h.lt
 obtain ⟨cur, h1, h2⟩ := h
 exact ⟨cur, by rw [hg.block b hl (by simpa using hne)]; exact h1, h2⟩
theorem Row.mine {w : World} {b : Nat} {zs : List Int} (h : Row w 67 b zs) : Mine w b zs.length zs :=
 ⟨_, h.2, rfl, h.1, by simp, fun j hj => by simp [hj]⟩
theorem Ow.mine {w : World} {B b n c : Nat} {zs : List Int} (h : Ow w B (.slice (some ⟨b, 0, none⟩) n c) zs) : Mine w b n zs ∧ B ≤ b ∧ n ≤ c := by
 obtain ⟨⟨h1, h2⟩, h3⟩ := h
 rcases h2 with ⟨h4, _⟩ | ⟨g, cap, cur, h4, h5, h6, h7, h8, h9, h10⟩
 ·cases h4
 ·cases h4
  refine ⟨⟨cur, h6, rfl, h3, by omega, fun j hj => ?_⟩, h5, h7⟩
  have e : (cur.toList.take (zs.length * 1))[j]? = (zs.map (Value.int .u32))[j]? := by rw [h10]
  rw [List.getElem?_take_of_lt (by omega)] at e
  simp at e
  rw [e]
  simp [hj]
theorem Row.ow {w : World} {B b : Nat} {zs : List Int} (h : Row w 67 b zs) (hB : B ≤ b) (hn : zs.length ≤ maxLen) : Ow w B (.slice (some ⟨b, 0, none⟩) zs.length zs.length) zs :=
 ⟨⟨by simp, .inr ⟨b, zs.length, _, rfl, hB, h.2, Nat.le_refl _, hn, by simp, by rw [Nat.mul_one]; exact List.take_of_length_le (by simp)⟩⟩, h.1⟩

set_option maxRecDepth 20000 in
set_option maxHeartbeats 1000000 in
theorem zJl (w : World) (na : Bool) (ax : Option Addr) (n c : Nat) (xs : List Int) (hX : Sl w ax n c xs) (hc : Canon xs) (hb : n ≤ 4000000) :
  Calls Tryz.prog 37 #[.agg #[.bool na, .slice ax n c]] w fun e w' => ∃ m : Nat, e = .returned (.int .i64 m) ∧ zCp (val xs) m ∧ m ≤ 32 * n ∧ Below w.heap.size w w' := by
 have hn := hidd hX.len
 obtain ⟨w0, hw0, hA, hbl0, HS⟩ := boxes1 w (.bool na) (.slice ax n c) 32
 by_cases h0 : n = 0
 ·obtain rfl := h0
  have e : xs = [] := List.eq_nil_of_length_eq_zero hn.out
  clear hA hw0
  go_enter Tryz.func37, Tryz.ntmps37
  go_wp2
  go_ret
  exact ⟨0, rfl, .inl ⟨by subst e; rfl, rfl⟩, by omega, zAq _ _⟩
 ·have h1 : ((n : Int) == 0) = false := by simp; omega
  have hx := (hX.mono hbl0).cells
  obtain ⟨b, off, rfl, hbl, x, hxc, hx0, hx1, HX⟩ := hx.at (k := n - 1) (by rw [hn.out]; omega)
  have hxp : 0 < x := by
   rcases hc.2 with h | h
   ·have := hn.out; omega
   ·rcases (by omega : x = 0 ∨ 0 < x) with h2 | h2
    ·exfalso
     have e := zAw xs (n - 1)
     rw [show n - 1 + 1 = n from by omega, HX.out, h2, zA4 xs (by rw [hn.out]; omega)] at e
     have l1 := zBc (hX.take (show n - 1 ≤ n by omega)).digs
     rw [(hX.take (show n - 1 ≤ n by omega)).len] at l1
     rw [hn.out] at h
     omega
    ·exact h2
  obtain ⟨ca0, ca1, _, _⟩ := hA
  go_enter Tryz.func37, Tryz.ntmps37
  go_upto_region 1 with (fail)
  rw [← hw0]
  clear hw0
  go_wp2
  go_loop [3, 4] (fun i u => ∃ (k : Nat) (q : Int), k ≤ 32 ∧ 0 ≤ q ∧ q < 4294967296 ∧ i = .int .i64 (32 * ((n : Int) - 1) + k) ∧ u = .int .u32 q ∧ q * 2 ^ k ≤ x ∧ x < (q + 1) * 2 ^ k ∧ (k = 0 ∨ 2 ^ (k - 1) ≤ x)) (fun _ u => (intOf u).toNat)
  case atStart => exact ⟨0, x, by omega, hx0, hx1, by simp, rfl, by simp, by simp; omega, .inl rfl⟩
  case round =>
   obtain ⟨k, q, hk, hq0, hq1, rfl, rfl, hv⟩ := hrel
   have HV := hidd hv
   clear hv
   by_cases hq : 0 < q
   ·go_wp2
    go_round
    case rel =>
     obtain ⟨v1, v2, _⟩ := HV.out
     have hp := zCb k
     have h5 : (2 : Int) ^ k ≤ x := by
      have := Int.mul_le_mul_of_nonneg_right (show 1 ≤ q by omega) (Int.le_of_lt hp)
      omega
     have hk2 : k < 32 := by
      rcases Nat.lt_or_ge k 32 with h | h
      ·exact h
      ·have : k = 32 := by omega
       subst this; simp at h5; omega
     refine ⟨k + 1, q / 2, by omega, by omega, by omega, by rw [show ((k + 1 : Nat) : Int) = (k : Int) + 1 from rfl]; congr 1; omega, rfl, ?_, ?_, .inr h5⟩
     ·rw [zFw]
      have : q / 2 * (2 ^ k * 2) = (q / 2 * 2) * 2 ^ k := by rw [Int.mul_comm (2 ^ k), Int.mul_assoc]
      have h6 := Int.mul_le_mul_of_nonneg_right (show q / 2 * 2 ≤ q by omega) (Int.le_of_lt hp)
      omega
     ·rw [zFw]
      have : (q / 2 + 1) * (2 ^ k * 2) = ((q / 2 + 1) * 2) * 2 ^ k := by rw [Int.mul_comm (2 ^ k), Int.mul_assoc]
      have h6 := Int.mul_le_mul_of_nonneg_right (show q + 1 ≤ (q / 2 + 1) * 2 by omega) (Int.le_of_lt hp)
      omega
    case measure => simp [intOf]; omega
   ·go_wp2
    go_ret
    obtain ⟨v1, v2, v3⟩ := HV.out
    refine ⟨32 * (n - 1) + k, ?_, zJ6 hX.digs hn.out (by omega) HX.out hxp hx1 (by omega) v1 v2 v3, by omega, hbl0⟩
    have : ((32 * (n - 1) + k : Nat) : Int) = 32 * ((n : Int) - 1) + k := by omega
    rw [this]; rfl

def zDo (xs : List Int) (i : Nat) : Int := if i = 0 then 0 else xs.getD (i - 1) 0

theorem word_prev (w : World) (ax : Option Addr) (n c : Nat) (xs : List Int) (hX : Sl w ax n c xs) (hb : n ≤ 4000000) (i : Nat) (hi : i ≤ 9000000) (y : Int) (hy : zDo xs i = y) (j : Int) (hj : j = (i : Int) - 1) :
  Calls Tryz.prog 62 #[.slice ax n c, .int .i64 j] w fun e w' => e = .returned (.int .u64 y) ∧ w = w' := by
 unfold zDo at hy
 subst hj
 by_cases h : i = 0
 ·subst h
  rw [if_pos rfl] at hy
  subst hy
  exact zO4 w ax n c _ (by omega) (by omega)
 ·rw [if_neg h] at hy
  rw [show (i : Int) - 1 = ((i - 1 : Nat) : Int) by omega]
  exact zDs w ax n c xs hX hb (i - 1) (by omega) y hy

theorem left_step {m : Nat} {zs xs : List Int} {i wd : Nat} {p x c : Int} (hm : zs.length = i + wd) (h : val zs + pw (i + wd) * c = val (xs.take i) * p * pw wd) (hx : xs.getD i 0 = x) (hd : m = i + wd + 1) :
  val (zs ++ [x * p % 4294967296 + c]) + pw m * (x * p / 4294967296) = val (xs.take (i + 1)) * p * pw wd := by
 subst hd
 rw [zIa, hm, zAw, hx, Int.add_mul, Int.add_mul, ← h]
 have h1 := zC8 (i + wd) (x * p)
 have h2 : pw i * x * p * pw wd = pw (i + wd) * (x * p) := by rw [zD1]; ac_rfl
 rw [Int.mul_add]
 omega

theorem add_mod {T cc P : Int} (h1 : T % 4294967296 % P = 0) (h2 : (4294967296 : Int) % P = 0) (_ : 0 < P) (hc0 : 0 ≤ cc) (hc : cc < P) : (T + cc) % 4294967296 = T % 4294967296 + cc := by
 have h4 : (4294967296 - T % 4294967296) % P = 0 := by rw [Int.sub_emod, h1, h2]; simp
 have h5 : 0 < 4294967296 - T % 4294967296 := by omega
 have h6 := Int.le_of_dvd h5 (Int.dvd_of_emod_eq_zero h4)
 omega

set_option maxRecDepth 20000 in
set_option maxHeartbeats 1000000 in
theorem left_any (w : World) (ax : Option Addr) (n c : Nat) (xs : List Int) (hX : Sl w ax n c xs) (hb : n ≤ 1000000) (s : Nat) (hs : s ≤ 100000000) :
  Calls Tryz.prog 86 #[.slice ax n c, .int .i64 s] w fun e w' => ∃ g l cap zs, e = .returned (.slice (some ⟨g, 0, none⟩) l cap) ∧ w.heap.size ≤ g ∧ Mine w' g l zs ∧ l ≤ cap ∧ l = s / 32 + n + 1 ∧ val zs = val xs * 2 ^ s ∧ Below w.heap.size w w' := by
 obtain ⟨i0, hi, hz0, hz1, hz2⟩ := info_parts zGr
 have hn := hidd hX.len
 have hrs : s % 32 < 32 := Nat.mod_lt _ (by decide)
 obtain ⟨hp0, hp1⟩ := zG4 _ hrs
 go_enter Tryz.func86, Tryz.ntmps86
 go_wp2_with (at_make; refine zDt _ rfl _ _ 25 rfl 67 Tryz.underlying25 (by kernel_rfl) _ _ _ _ rfl rfl (s / 32) (by omega) (by omega) (by omega) ?_; intro w1 hrow hb1 hs1)
 go_loopw [5, 7] (fun vo vi wr => ∃ (i : Nat) (zs : List Int), i ≤ n + 1 ∧ vi = .int .i64 i ∧ Ow wr w.heap.size vo zs ∧ zs.length = i + s / 32 ∧ val zs + pw (i + s / 32) * (zDo xs i * 2 ^ (s % 32) / 4294967296) = val (xs.take i) * 2 ^ (s % 32) * pw (s / 32) ∧ Below w.heap.size w wr) (fun _ vi _ => n + 1 - (intOf vi).toNat)
 case atStart =>
  have ho := hrow.ow (Nat.le_refl _) (by rw [List.length_replicate]; unfold maxLen; omega)
  rw [List.length_replicate] at ho
  exact ⟨0, _, by omega, rfl, ho, by simp, by rw [zF9]; simp [zDo, val], hb1⟩
 case round =>
  obtain ⟨i, zs, hk, rfl, hO, hzl, hv, hB⟩ := hrel
  have HV := hidd hv
  clear hv hrow hb1 hs1
  obtain ⟨ao, cap, rfl⟩ := hO.shape
  have HO := hO.1
  have hsz := hB.size
  have HZL := hidd hzl
  have hzb : zs.length ≤ 10000000 := by omega
  clear hzl
  by_cases hin : i ≤ n
  ·obtain ⟨x, hx⟩ : ∃ x, xs.getD i 0 = x := ⟨_, rfl⟩
   obtain ⟨y, hy⟩ : ∃ y, zDo xs i = y := ⟨_, rfl⟩
   have hxd := hX.digs.getD i
   rw [hx] at hxd
   obtain ⟨hx0, hx1⟩ := hxd
   have hyd : 0 ≤ y ∧ y < 4294967296 := by
    rw [← hy]; unfold zDo; split
    ·omega
    ·exact hX.digs.getD _
   obtain ⟨hy0, hy1⟩ := hyd
   have Hx := hidd hx
   have Hy := hidd hy
   clear hx hy
   have hxp0 : 0 ≤ x * 2 ^ (s % 32) := Int.mul_nonneg hx0 (by omega)
   have hxp2 : x * 2 ^ (s % 32) ≤ 4294967295 * 2 ^ (s % 32) := Int.mul_le_mul_of_nonneg_right (by omega) (by omega)
   have hxp1 : x * 2 ^ (s % 32) ≤ 9223372036854775807 := by omega
   have hyp0 : 0 ≤ y * 2 ^ (s % 32) := Int.mul_nonneg hy0 (by omega)
   have hyp2 : y * 2 ^ (s % 32) ≤ 4294967295 * 2 ^ (s % 32) := Int.mul_le_mul_of_nonneg_right (by omega) (by omega)
   have hyp1 : y * 2 ^ (s % 32) ≤ 9223372036854775807 := by omega
   have hc0 : y * 2 ^ (s % 32) / 4294967296 < 2 ^ (s % 32) := Int.ediv_lt_of_lt_mul (by decide) (by omega)
   obtain ⟨u, hor⟩ : ∃ u, bits .or .u64 (x * 2 ^ (s % 32)) (y * 2 ^ (s % 32) / 4294967296) = u := ⟨_, rfl⟩
   have hu : u = x * 2 ^ (s % 32) + y * 2 ^ (s % 32) / 4294967296 := by
    rw [← hor]
    exact (zH3 (s % 32) _ _ hxp0 (by omega) (by omega) (by omega) hc0 (Int.mul_emod_left _ _)).1
   have hu0 : 0 ≤ u := by omega
   have hu1 : u < 18446744073709551616 := by omega
   have HD : Hid (u % 4294967296 = x * 2 ^ (s % 32) % 4294967296 + y * 2 ^ (s % 32) / 4294967296) := by
    have h1 := zLk x (s % 32) (by omega)
    have h2 : (4294967296 : Int) % 2 ^ (s % 32) = 0 := by
     have e : (4294967296 : Int) = 2 ^ (s % 32) * 2 ^ (32 - s % 32) := by rw [← Int.pow_add, show s % 32 + (32 - s % 32) = 32 from by omega]; rfl
     rw [e]; exact Int.mul_emod_right _ _
    show u % 4294967296 = _
    rw [hu]
    exact add_mod h1 h2 (by omega) (by omega) hc0
   clear hu
   go_wp2_with fail
   refine (zDs _ _ _ _ _ (hX.mono hB) (by omega) i (by omega) x Hx.out).mono ?_
   rintro e w' ⟨rfl, rfl⟩
   go_wp2_with fail
   refine (word_prev _ _ _ _ _ (hX.mono hB) (by omega) i (by omega) y Hy.out _ (by omega)).mono ?_
   rintro e w' ⟨rfl, rfl⟩
   go_wp2_with (first | (at_builtin; refine wpList_append_own _ rfl _ _ 25 rfl w.heap.size 67 i0 (.int .u32 0) 1 4 Tryz.underlying25 hi hz0 hz1 hz2 rfl (by decide) _ _ _ rfl (World.ownsRow.alloc HO _) ⟨_, 0, none⟩ 1 1 [.int .u32 (u % 4294967296)] rfl rfl (zH2 _ _ _) (by intro u hu; simp at hu; subst hu; rfl) (by unfold maxLen; omega) (by omega) (by simp; omega) ?_; intro v' w5 hown' hgrow _) | go_in)
   obtain ⟨hO2, hB2⟩ := hO.step hB (by omega) (by omega) hown' hgrow
   clear hown' hgrow hO hB HO hsz
   go_wp2
   go_roundw
   case rel =>
    refine ⟨i + 1, zs ++ [u % 4294967296], by omega, by go_num, hO2, by rw [List.length_append, HZL.out]; simp; omega, ?_, hB2⟩
    have h1 := HV.out
    rw [Hy.out] at h1
    have h2 : zDo xs (i + 1) = x := by unfold zDo; rw [if_neg (by omega)]; exact Hx.out
    rw [h2, HD.out]
    exact left_step HZL.out h1 Hx.out (by omega)
   case measure => simp [intOf]; omega
  ·obtain rfl : i = n + 1 := by omega
   have HE : Hid (val zs = val xs * 2 ^ s) := by
    have h1 := HV.out
    have h2 : zDo xs (n + 1) = 0 := by unfold zDo; rw [if_neg (by omega)]; exact zDe (by rw [hn.out]; omega)
    rw [h2, Int.zero_mul, Int.zero_ediv, Int.mul_zero, Int.add_zero, zA4 xs (by rw [hn.out]; omega)] at h1
    show val zs = _
    rw [h1, zCv, Int.mul_assoc, ← Int.pow_add]
    congr 2
    omega
   have hl2 : 0 < zs.length := by have := HZL.out; omega
   obtain ⟨g, rfl⟩ : ∃ g, ao = some ⟨g, 0, none⟩ := by
    rcases hO.1.2 with ⟨_, h0⟩ | ⟨g, cap', cur, h1, _⟩
    ·omega
    ·cases h1; exact ⟨g, rfl⟩
   obtain ⟨hM, hgB, hcap⟩ := hO.mine
   clear hO HO
   go_wp2
   go_ret
   exact ⟨g, zs.length, cap, zs, rfl, hgB, hM, hcap, by have := HZL.out; omega, HE.out, hB⟩

end Go.Proofs.YtihhlaagndingaaGreat

namespace Go.Proofs.YtihhlaagndingaaGreat
open Go Go.RowKit

theorem zEk (xs : List Int) (k : Nat) : val (xs.drop k) = xs.getD k 0 + 4294967296 * val (xs.drop (k + 1)) := by
 by_cases h : k < xs.length
 ·exact zDj xs h
 ·rw [List.drop_of_length_le (by omega), List.drop_of_length_le (by omega), zDe (by omega)]; rfl

theorem zGa (xs : List Int) (k : Nat) : val xs = val (xs.take k) + pw k * val (xs.drop k) := by
 by_cases h : k ≤ xs.length
 ·exact zCk xs h
 ·rw [List.take_of_length_le (by omega), List.drop_of_length_le (by omega)]
  show _ = _ + _ * 0
  rw [Int.mul_zero, Int.add_zero]

theorem zMo {xs : List Int} (h : Digs xs) (k : Nat) : val (xs.take k) < pw k := by
 have h1 := zBc (h.take k)
 have h2 := zAg (show (xs.take k).length ≤ k by rw [List.length_take]; omega)
 omega

theorem lt_at {xs ys : List Int} {k : Nat} (hx : Digs xs) (h : val (xs.drop (k + 1)) = val (ys.drop (k + 1))) (hlt : xs.getD k 0 < ys.getD k 0) (hy : Digs ys) : val xs < val ys := by
 have e1 := zGa xs k
 have e2 := zGa ys k
 have d1 := zEk xs k
 have d2 := zEk ys k
 have h1 := zMo hx k
 have h2 := zAx (hy.take k)
 have h3 := Int.mul_le_mul_of_nonneg_left (show val (xs.drop k) + 1 ≤ val (ys.drop k) by omega) (Int.le_of_lt (zBh k))
 rw [Int.mul_add, Int.mul_one] at h3
 omega

theorem zDc (w : World) (ax : Option Addr) (n c : Nat) (xs : List Int) (hX : Sl w ax n c xs) (hb : n ≤ 4000000) (i : Nat) (hi : i ≤ 9000000) (y : Int) (hy : xs.getD i 0 = y) (j : Int) (hj : j = (i : Int)) :
  Calls Tryz.prog 62 #[.slice ax n c, .int .i64 j] w fun e w' => e = .returned (.int .u64 y) ∧ w = w' := by
 subst hj
 exact zDs w ax n c xs hX hb i hi y hy

theorem word_same (w : World) (ax : Option Addr) (n c : Nat) (xs : List Int) (hX : Sl w ax n c xs) (hb : n ≤ 4000000) (i : Nat) (hi : i ≤ 9000000) (y : Int) (hy : xs.getD i 0 = y) :
  Calls Tryz.prog 62 #[.slice ax n c, .int .i64 i] w fun e w' => e = .returned (.int .u64 y) ∧ w' = w :=
 (zDs w ax n c xs hX hb i hi y hy).mono fun _ _ h => ⟨h.1, h.2.symm⟩

set_option maxRecDepth 20000 in
set_option maxHeartbeats 1000000 in
theorem zOu (w : World) (ax ay : Option Addr) (n m cx cy : Nat) (xs ys : List Int) (hX : Sl w ax n cx xs) (hY : Sl w ay m cy ys) (hb1 : n ≤ 4000000) (hb2 : m ≤ 4000000) :
  Calls Tryz.prog 87 #[.slice ax n cx, .slice ay m cy] w fun e w' => e = .returned (.bool (decide (val ys ≤ val xs))) ∧ w = w' := by
 obtain ⟨L, hL⟩ : ∃ L : Nat, L = max n m := ⟨_, rfl⟩
 have hL2 : (if n < m then (m : Int) else (n : Int)) = (L : Int) := by split <;> omega
 have hLb : L ≤ 4000000 := by omega
 have HL := hidd hL
 clear hL
 go_enter Tryz.func87, Tryz.ntmps87
 go_wp2
 go_loop [5] (fun vi => ∃ k : Nat, k ≤ L ∧ vi = .int .i64 ((k : Int) - 1) ∧ val (xs.drop k) = val (ys.drop k)) (fun vi => (intOf vi + 1).toNat)
 case atStart => exact ⟨L, Nat.le_refl _, rfl, by rw [List.drop_of_length_le (by rw [hX.len]; have := HL.out; omega), List.drop_of_length_le (by rw [hY.len]; have := HL.out; omega)]⟩
 case round =>
  obtain ⟨k, hk, rfl, hv⟩ := hrel
  have HV := hidd hv
  clear hv
  by_cases h0 : 0 < k
  ·obtain ⟨j, rfl⟩ : ∃ j, k = j + 1 := ⟨k - 1, by omega⟩
   obtain ⟨x, hx⟩ : ∃ x, xs.getD j 0 = x := ⟨_, rfl⟩
   obtain ⟨y, hy⟩ : ∃ y, ys.getD j 0 = y := ⟨_, rfl⟩
   have Hx := hidd hx
   have Hy := hidd hy
   clear hx hy
   have hj1 : ((j + 1 : Nat) : Int) - 1 = (j : Int) := by omega
   by_cases he : x = y
   ·have he2 : (x != y) = false := by simp [he]
    have HE := hidd he
    clear he
    go_wp2_with fail
    refine (zDc _ _ _ _ _ hX (by omega) j (by omega) x Hx.out _ (by omega)).mono ?_
    rintro e w' ⟨rfl, rfl⟩
    go_wp2_with fail
    refine (zDc _ _ _ _ _ hY (by omega) j (by omega) y Hy.out _ (by omega)).mono ?_
    rintro e w' ⟨rfl, rfl⟩
    go_wp2
    go_round
    case rel =>
     refine ⟨j, by omega, by go_num, ?_⟩
     rw [zEk xs j, zEk ys j, HV.out, Hx.out, Hy.out, HE.out]
    case measure => simp [intOf]
   ·have he2 : (x != y) = true := by simp [he]
    have HR : Hid (decide (x > y) = decide (val ys ≤ val xs)) := by
     rcases Int.lt_or_gt_of_ne he with h | h
     ·have h2 := lt_at hX.digs HV.out (by rw [Hx.out, Hy.out]; exact h) hY.digs
      show _ = _
      rw [decide_eq_false (show ¬ x > y by omega), decide_eq_false (show ¬ val ys ≤ val xs by omega)]
     ·have h2 := lt_at hY.digs HV.out.symm (by rw [Hx.out, Hy.out]; exact h) hX.digs
      show _ = _
      rw [decide_eq_true (show x > y by omega), decide_eq_true (show val ys ≤ val xs by omega)]
    clear he
    go_wp2_with fail
    refine (zDc _ _ _ _ _ hX (by omega) j (by omega) x Hx.out _ (by omega)).mono ?_
    rintro e w' ⟨rfl, rfl⟩
    go_wp2_with fail
    refine (zDc _ _ _ _ _ hY (by omega) j (by omega) y Hy.out _ (by omega)).mono ?_
    rintro e w' ⟨rfl, rfl⟩
    go_wp2_with fail
    refine (zDc _ _ _ _ _ hX (by omega) j (by omega) x Hx.out _ (by omega)).mono ?_
    rintro e w' ⟨rfl, rfl⟩
    go_wp2_with fail
    refine (zDc _ _ _ _ _ hY (by omega) j (by omega) y Hy.out _ (by omega)).mono ?_
    rintro e w' ⟨rfl, rfl⟩
    go_wp2
    go_ret
    exact ⟨by rw [← HR.out]; simp, rfl⟩
  ·obtain rfl : k = 0 := by omega
   have HR : Hid (decide (val ys ≤ val xs) = true) := by
    have := HV.out
    simp only [List.drop_zero] at this
    exact decide_eq_true (by omega)
   go_wp2
   go_ret
   exact ⟨by rw [HR.out]; rfl, rfl⟩

theorem zN9 {w wr : World} {b : Option Nat} (h : w.grownBy wr b) (d : Nat) : w.grownBy (wr.drewN d) b := ⟨h.os, h.tape, h.output, h.size, h.block⟩

theorem zK8 {w wr : World} {b : Nat} (h : w.grownBy wr (some b)) (j : Nat) (u : Value) : w.grownBy (wr.setCell ⟨b, j, none⟩ u) (some b) := zFq h (zDf _ _ _ _)

theorem half_dig {x y : Int} (hx0 : 0 ≤ x) (hx1 : x < 4294967296) (hy0 : 0 ≤ y) (hy1 : y < 4294967296) :
  ∃ u, bits .or .u64 (x / 2) (y * 2147483648) = u ∧ 0 ≤ u ∧ u < 18446744073709551616 ∧ Hid (2 * (u % 4294967296) = x - x % 2 + 4294967296 * (y % 2)) := by
 have h := (zH3 31 (y * 2147483648) (x / 2) (by omega) (by omega) (by omega) (by omega) (by show x / 2 < 2147483648; omega) (by show y * 2147483648 % 2147483648 = 0; omega)).2
 refine ⟨_, h, by omega, by omega, ?_⟩
 show _ = _
 omega

set_option maxRecDepth 20000 in
set_option maxHeartbeats 1000000 in
theorem zK9 (w : World) (b n c : Nat) (zs : List Int) (hM : Mine w b n zs) (hc : n ≤ c) (hb1 : n ≤ 4000000) :
  Calls Tryz.prog 89 #[.slice (some ⟨b, 0, none⟩) n c] w fun e w' => ∃ zs', e = .returned (.tuple #[]) ∧ Mine w' b n zs' ∧ val zs' = val zs / 2 ∧ w.grownBy w' (some b) ∧ w'.heap.size = w.heap.size := by
 have hzl := hidd hM.len
 have hdz := hM.digs
 go_enter Tryz.func89, Tryz.ntmps89
 go_wp2
 go_loopw [2] (fun vi wr => ∃ (k : Nat) (us : List Int), k ≤ n ∧ vi = .int .i64 k ∧ Mine wr b n us ∧ us.drop k = zs.drop k ∧ 2 * val (us.take k) = val (zs.take k) - zs.getD 0 0 % 2 + pw k * (zs.getD k 0 % 2) ∧ w.grownBy wr (some b) ∧ wr.heap.size = w.heap.size) (fun vi _ => n - (intOf vi).toNat)
 case atStart => exact ⟨0, zs, Nat.zero_le _, rfl, hM, rfl, by simp [val, zD2]; omega, World.grownBy.refl _ _, rfl⟩
 case round =>
  obtain ⟨k, us, hk, rfl, hU, hdr, hv, hg, hsz⟩ := hrel
  have HDR := hidd hdr
  have HV := hidd hv
  have HSZ := hidd hsz
  clear hdr hv hsz
  by_cases hkn : k < n
  ·obtain ⟨x, hx⟩ : ∃ x, us.getD k 0 = x := ⟨_, rfl⟩
   obtain ⟨y, hy⟩ : ∃ y, us.getD (k + 1) 0 = y := ⟨_, rfl⟩
   have hxd := hU.digs.getD k
   have hyd := hU.digs.getD (k + 1)
   rw [hx] at hxd
   rw [hy] at hyd
   have Hx := hidd hx
   have Hy := hidd hy
   clear hx hy
   obtain ⟨u, hor, hu0, hu1, HU⟩ := half_dig hxd.1 hxd.2 hyd.1 hyd.2
   have hfr := hU.frozen k
   have hcell := hU.cell hkn
   go_wp2_with fail
   refine (zDc _ _ _ _ _ (hU.sl hc) (by omega) k (by omega) x Hx.out _ (by omega)).mono ?_
   rintro e w' ⟨rfl, rfl⟩
   go_wp2_with fail
   refine (zDc _ _ _ _ _ (hU.sl hc) (by omega) (k + 1) (by omega) y Hy.out _ (by omega)).mono ?_
   rintro e w' ⟨rfl, rfl⟩
   go_wp2
   go_roundw
   case rel =>
    have hlen := hU.len
    have e1 : zs.getD k 0 = x := by
     have := congrArg (fun l => l.getD 0 0) HDR.out
     simp only [zCm, Nat.add_zero] at this
     rw [← this]; exact Hx.out
    have e2 : zs.getD (k + 1) 0 = y := by
     have := congrArg (fun l => l.getD 1 0) HDR.out
     simp only [zCm] at this
     rw [← this]; exact Hy.out
    refine ⟨k + 1, us.set k (u % 4294967296), by omega, by go_num, hU.set hkn (by omega) (by omega), ?_, zJn (by omega) HV.out e1 e2 HU.out, zK8 hg _ _, by rw [World.size_setCell]; exact HSZ.out⟩
    rw [List.drop_set_of_lt (by omega), ← List.drop_drop, HDR.out, List.drop_drop]
   case measure => simp [intOf]; omega
  ·obtain rfl : k = n := by omega
   have HE : Hid (val us = val zs / 2) := by
    have h1 := HV.out
    rw [zA4 us (by rw [hU.len]; omega), zA4 zs (by rw [hzl.out]; omega), zDe (xs := zs) (k := k) (by rw [hzl.out]; omega)] at h1
    have h2 := zEk zs 0
    rw [List.drop_zero] at h2
    show val us = _
    omega
   go_wp2
   (try simp only [Exit.inBlock, Exit.then])
   exact bodyPost_end (results_none rfl _ _ _) rfl ⟨us, rfl, hU, HE.out, hg, HSZ.out⟩

theorem take_step {k : Nat} {us xs ys : List Int} {q x y : Int} (hk : k < us.length) (h : val (us.take k) = val (xs.take k) - val (ys.take k) + pw k * q) (hx : xs.getD k 0 = x) (hy : ys.getD k 0 = y) :
  val ((us.set k ((4294967296 + x - y - q) % 4294967296)).take (k + 1)) = val (xs.take (k + 1)) - val (ys.take (k + 1)) + pw (k + 1) * (1 - (4294967296 + x - y - q) / 4294967296) := by
 rw [zAw, zCo _ _ _ _ (Nat.le_refl _), zB0 _ _ _ hk, zAw, zAw, hx, hy]
 have h1 := zC8 k (4294967296 + x - y - q)
 have h2 : pw k * (4294967296 + x - y - q) = pw (k + 1) + pw k * x - pw k * y - pw k * q := by
  rw [zDi, Int.mul_sub, Int.mul_sub, Int.mul_add]
 rw [Int.mul_sub, Int.mul_one]
 omega

theorem Sl.other {w w' : World} {ay : Option Addr} {m cy b : Nat} {ys : List Int} (h : Sl w ay m cy ys) (hg : w.grownBy w' (some b)) (hne : ∀ b' o, ay = some ⟨b', o, none⟩ → b' ≠ b) : Sl w' ay m cy ys := by
 refine ⟨h.len, h.cap, h.digs, ?_⟩
 rcases h.cells.2 with h1 | ⟨b', off, h1, h2, h3⟩
 ·exact .inl h1
 ·refine .inr ⟨b', off, h1, Nat.lt_of_lt_of_le h2 hg.size, fun j hj => ?_⟩
  have := hg.block b' h2 (by simpa using hne b' off h1)
  have h4 := h3 j hj
  unfold World.cell? at h4 ⊢
  rw [this]
  exact h4

set_option maxRecDepth 20000 in
set_option maxHeartbeats 1000000 in
theorem take_any (w : World) (b n c : Nat) (zs : List Int) (hM : Mine w b n zs) (hc : n ≤ c) (hb1 : n ≤ 4000000) (ay : Option Addr) (m cy : Nat) (ys : List Int) (hY : Sl w ay m cy ys) (hb2 : m ≤ 4000000) (hne : ∀ b' o, ay = some ⟨b', o, none⟩ → b' ≠ b) (hle : val ys ≤ val zs) :
  Calls Tryz.prog 88 #[.slice (some ⟨b, 0, none⟩) n c, .slice ay m cy] w fun e w' => ∃ zs', e = .returned (.tuple #[]) ∧ Mine w' b n zs' ∧ val zs' = val zs - val ys ∧ w.grownBy w' (some b) ∧ w'.heap.size = w.heap.size := by
 have hzl := hidd hM.len
 have hdz := hidd hM.digs
 have HLE := hidd hle
 have HNE := hidd hne
 clear hle hne
 go_enter Tryz.func88, Tryz.ntmps88
 go_wp2
 go_loopw [4, 5] (fun vc vi wr => ∃ (k : Nat) (q : Int) (us : List Int), k ≤ n ∧ vi = .int .i64 k ∧ vc = .int .u64 q ∧ 0 ≤ q ∧ q ≤ 1 ∧ Mine wr b n us ∧ us.drop k = zs.drop k ∧ val (us.take k) = val (zs.take k) - val (ys.take k) + pw k * q ∧ w.grownBy wr (some b) ∧ wr.heap.size = w.heap.size) (fun _ vi _ => n - (intOf vi).toNat)
 case atStart => exact ⟨0, 0, zs, Nat.zero_le _, rfl, rfl, by omega, by omega, hM, rfl, by simp [val], World.grownBy.refl _ _, rfl⟩
 case round =>
  obtain ⟨k, q, us, hk, rfl, rfl, hq0, hq1, hU, hdr, hv, hg, hsz⟩ := hrel
  have HDR := hidd hdr
  have HV := hidd hv
  have HSZ := hidd hsz
  clear hdr hv hsz
  by_cases hkn : k < n
  ·obtain ⟨x, hx⟩ : ∃ x, us.getD k 0 = x := ⟨_, rfl⟩
   obtain ⟨y, hy⟩ : ∃ y, ys.getD k 0 = y := ⟨_, rfl⟩
   have hxd := hU.digs.getD k
   have hyd := hY.digs.getD k
   rw [hx] at hxd
   rw [hy] at hyd
   obtain ⟨hx0, hx1⟩ := hxd
   obtain ⟨hy0, hy1⟩ := hyd
   have hcell := hU.cell hkn
   rw [hx] at hcell
   have Hx := hidd hx
   have Hy := hidd hy
   clear hx hy
   have hYr := hY.other hg HNE.out
   go_wp2
   go_quiet ((go_at_call 62; exact Calls.quiet_of_same (word_same _ _ _ _ _ (Sl.drewN hYr _) (by omega) k (by omega) y Hy.out)))
   obtain ⟨w2, hw2⟩ : ∃ w2, w2 = wr.drewN nq := ⟨_, rfl⟩
   rw [← hw2]
   have hU2 : Mine w2 b n us := by rw [hw2]; exact hU.drewN _
   have hg2 : w.grownBy w2 (some b) := by rw [hw2]; exact zN9 hg _
   have HS2 : Hid (w2.heap.size = w.heap.size) := by show _ = _; rw [hw2]; exact HSZ.out
   clear hw2 hcell hYr hU hg HSZ
   have hfr := hU2.frozen k
   have hcell := hU2.cell hkn
   go_wp2
   go_roundw
   case rel =>
    have hlen := hU2.len
    have e1 : zs.getD k 0 = x := by
     have := congrArg (fun l => l.getD 0 0) HDR.out
     simp only [zCm, Nat.add_zero] at this
     rw [← this]; exact Hx.out
    refine ⟨k + 1, 1 - (4294967296 + x - y - q) / 4294967296, us.set k ((4294967296 + x - y - q) % 4294967296), by omega, by go_num, by go_num, by omega, by omega, hU2.set hkn (by omega) (by omega), ?_, take_step (by omega) HV.out e1 Hy.out, zK8 hg2 _ _, by rw [World.size_setCell]; exact HS2.out⟩
    rw [List.drop_set_of_lt (by omega), ← List.drop_drop, HDR.out, List.drop_drop]
   case measure => simp [intOf]; omega
  ·obtain rfl : k = n := by omega
   have HE : Hid (val us = val zs - val ys) := by
    have h1 := HV.out
    rw [zA4 us (by rw [hU.len]; omega), zA4 zs (by rw [hzl.out]; omega)] at h1
    have h2 := zGa ys k
    have h3 := zBc hdz.out
    rw [hzl.out] at h3
    have h4 := zAx (hY.digs.drop k)
    have h5 := zBc hU.digs
    rw [hU.len] at h5
    have h6 := zAx (hY.digs.take k)
    have h7 := zAx hU.digs
    have h8 := HLE.out
    have h9 := zBh k
    show val us = _
    have h10 : val (ys.drop k) = 0 := by
     rcases (by omega : val (ys.drop k) = 0 ∨ 1 ≤ val (ys.drop k)) with h | h
     ·exact h
     ·have := Int.mul_le_mul_of_nonneg_left h (Int.le_of_lt h9)
      omega
    rw [h10, Int.mul_zero] at h2
    rcases (by omega : q = 0 ∨ q = 1) with rfl | rfl
    ·omega
    ·omega
   go_wp2
   (try simp only [Exit.inBlock, Exit.then])
   exact bodyPost_end (results_none rfl _ _ _) rfl ⟨us, rfl, hU, HE.out, hg, HSZ.out⟩

theorem sgn_same (b : Bool) (x y : Int) : sgn b (x + y) = sgn b x + sgn b y := by cases b <;> simp [sgn]; omega

set_option maxRecDepth 20000 in
set_option maxHeartbeats 2000000 in
theorem rAdd_any (w : World) (na nb : Bool) (ax ay : Option Addr) (n m cx cy : Nat) (xs ys : List Int) (hX : Sl w ax n cx xs) (hY : Sl w ay m cy ys) (hcx : Canon xs) (hcy : Canon ys) (hb1 : n ≤ 1000000) (hb2 : m ≤ 1000000) :
  Calls Tryz.prog 52 #[.agg #[.bool na, .slice ax n cx], .agg #[.bool nb, .slice ay m cy]] w (zBb w (sgn na (val xs) + sgn nb (val ys))) := by
 obtain ⟨w0, hw0, hA, hB, hC, hbl, HS⟩ := zD7 w (.bool na) (.slice ax n cx) (.bool nb) (.slice ay m cy) 32
 have HCX := hidd hcx
 have HCY := hidd hcy
 clear hcx hcy
 by_cases hab : na = nb
 ·subst hab
  have HE : Hid (sgn na (val xs + val ys) = sgn na (val xs) + sgn na (val ys)) := sgn_same _ _ _
  have hnn : (na == na) = true := by simp
  go_enter Tryz.func52, Tryz.ntmps52
  go_wp2
  rw [← hw0]
  clear hw0
  have hXd := (hX.mono hbl).drew
  have hYd := (hY.mono hbl).drew
  have hCd : IntBox w0.drew (w.heap.size + 1 + 1) (.bool false) (.slice none 0 0) := hC
  have hcut : w.heap.size + 2 ≤ w0.heap.size := by have := HS.out; omega
  obtain ⟨ca0, ca1, _, _⟩ := hA
  obtain ⟨cb0, cb1, _, _⟩ := hB
  go_region_held3 (fun W => w.heap.size + 2 ≤ W.heap.size ∧ (∀ b o, b < w.heap.size + 2 → W.cell? ⟨b, o, none⟩ = w0.cell? ⟨b, o, none⟩) ∧ ∀ b o, b < w.heap.size + 2 → W.frozen? ⟨b, o, none⟩ = w0.frozen? ⟨b, o, none⟩)
   (first | exact Kept.start hcut | assumption | exact Kept.call (by assumption) (by assumption) | exact Kept.set (Kept.set (by assumption) (by omega) _) (by omega) _)
   (first | (go_at_call 74; (with_reducible refine (plus_any _ _ _ _ _ _ _ _ _ hXd hYd (by omega) (by omega)).mono ?_); rintro e w2 ⟨az, cz, lz, zs, rfl, hsz, hlz, hvz, hB2⟩) | (go_at_call 22; (with_reducible refine (zDh _ _ _ _ _ _ hsz (by omega)).mono ?_); rintro e w3 ⟨v, rfl, ⟨ng, ao, nn, cc, rs, rfl, hrs, hrc, hrn, hrz⟩, hb3⟩; obtain ⟨e0, e1, e2, e3⟩ := (hCd.mono hB2 hCd.lt).mono hb3 (Nat.lt_of_lt_of_le hCd.lt hB2.size)))
  go_wp2
  refine bodyPost_ret (v := .agg #[.bool ng, .slice ao nn cc]) ?_ rfl ?_
  ·simp [results, Tryz.results52, go_sem, e0, e1]
  ·have hb4 : Below w.heap.size w w3 := (hbl.drew.trans (hB2.mono (by have := HS.out; simp; omega))).trans (hb3.mono (by have := HS.out; have := hB2.size; simp at this; omega))
   exact zBu ⟨e0, e1, e2, e3⟩ hrs hrc hrn (by rw [← hrz, hvz]; exact HE.out.symm) hb4 (by omega)
 ·have hnn : (na == nb) = false := by simpa using hab
  go_enter Tryz.func52, Tryz.ntmps52
  go_wp2_with fail
  rw [← hw0]
  clear hw0
  refine (zH7 _ _ _ _ _ _ _ _ _ (hX.mono hbl) (hY.mono hbl) HCX.out HCY.out (by omega) (by omega)).mono ?_
  rintro e w1 ⟨rfl, hd⟩
  have hbl1 : Below w.heap.size w w1 := hbl.trans (hd.below _)
  obtain ⟨d, hw1⟩ := hd
  have hA1 : IntBox w1 w.heap.size (.bool na) (.slice ax n cx) := by rw [hw1]; exact hA
  have hB1 : IntBox w1 (w.heap.size + 1) (.bool nb) (.slice ay m cy) := by rw [hw1]; exact hB
  have hC1 : IntBox w1 (w.heap.size + 1 + 1) (.bool false) (.slice none 0 0) := by rw [hw1]; exact hC
  have HS1 : Hid (w1.heap.size = w.heap.size + 3) := by show _ = _; rw [hw1]; exact HS.out
  clear hw1 hA hB hC hbl HS
  rename Below w.heap.size w w1 => hbl
  rename IntBox w1 w.heap.size (.bool na) (.slice ax n cx) => hA
  rename IntBox w1 (w.heap.size + 1) (.bool nb) (.slice ay m cy) => hB
  rename IntBox w1 (w.heap.size + 1 + 1) (.bool false) (.slice none 0 0) => hC
  rename Hid (w1.heap.size = w.heap.size + 3) => HS
  have hx0 := zAx hX.digs
  have hy0 := zAx hY.digs
  by_cases hle : val ys ≤ val xs
  ·have HL := hidd hle
   have hge : decide (cmpI (val xs) (val ys) ≥ 0) = true := by
    rw [decide_eq_true_eq]; unfold cmpI; rw [if_neg (by omega)]; split <;> omega
   have HE : Hid (sgn na (val xs - val ys) = sgn na (val xs) + sgn nb (val ys)) := by
    show _ = _
    cases na <;> cases nb <;> simp [sgn] at hab ⊢ <;> omega
   clear hle hx0 hy0
   generalize cmpI (val xs) (val ys) = cc0 at *
   go_wp2
   have hXd := (hX.mono hbl).drew
   have hYd := (hY.mono hbl).drew
   have hCd : IntBox w1.drew (w.heap.size + 1 + 1) (.bool false) (.slice none 0 0) := hC
   have hcut : w.heap.size + 2 ≤ w1.heap.size := by have := HS.out; omega
   obtain ⟨ca0, ca1, _, _⟩ := hA
   obtain ⟨cb0, cb1, _, _⟩ := hB
   go_region_held3 (fun W => w.heap.size + 2 ≤ W.heap.size ∧ (∀ b o, b < w.heap.size + 2 → W.cell? ⟨b, o, none⟩ = w1.cell? ⟨b, o, none⟩) ∧ ∀ b o, b < w.heap.size + 2 → W.frozen? ⟨b, o, none⟩ = w1.frozen? ⟨b, o, none⟩)
    (first | exact Kept.start hcut | assumption | exact Kept.call (by assumption) (by assumption) | exact Kept.set (Kept.set (by assumption) (by omega) _) (by omega) _)
    (first | (go_at_call 75; (with_reducible refine (zLf _ _ _ _ _ _ _ _ _ hXd hYd HCY.out HL.out (by omega) (by omega)).mono ?_); rintro e w2 ⟨az, cz, zs, rfl, hsz, hvz, hB2⟩) | (go_at_call 22; (with_reducible refine (zDh _ _ _ _ _ _ hsz (by omega)).mono ?_); rintro e w3 ⟨v, rfl, ⟨ng, ao, nn, cc, rs, rfl, hrs, hrc, hrn, hrz⟩, hb3⟩; obtain ⟨e0, e1, e2, e3⟩ := (hCd.mono hB2 hCd.lt).mono hb3 (Nat.lt_of_lt_of_le hCd.lt hB2.size)))
   go_wp2
   refine bodyPost_ret (v := .agg #[.bool ng, .slice ao nn cc]) ?_ rfl ?_
   ·simp [results, Tryz.results52, go_sem, e0, e1]
   ·have hb4 : Below w.heap.size w w3 := (hbl.drew.trans (hB2.mono (by have := HS.out; simp; omega))).trans (hb3.mono (by have := HS.out; have := hB2.size; simp at this; omega))
    exact zBu ⟨e0, e1, e2, e3⟩ hrs hrc hrn (by rw [← hrz, hvz]; exact HE.out.symm) hb4 (by omega)
  ·have HL : Hid (val xs ≤ val ys) := by show _ ≤ _; omega
   have hge : decide (cmpI (val xs) (val ys) ≥ 0) = false := by
    rw [decide_eq_false_iff_not]; unfold cmpI; rw [if_pos (by omega)]; omega
   have HE : Hid (sgn nb (val ys - val xs) = sgn na (val xs) + sgn nb (val ys)) := by
    show _ = _
    cases na <;> cases nb <;> simp [sgn] at hab ⊢ <;> omega
   clear hle hx0 hy0
   generalize cmpI (val xs) (val ys) = cc0 at *
   go_wp2
   have hXd := (hX.mono hbl).drew
   have hYd := (hY.mono hbl).drew
   have hCd : IntBox w1.drew (w.heap.size + 1 + 1) (.bool false) (.slice none 0 0) := hC
   have hcut : w.heap.size + 2 ≤ w1.heap.size := by have := HS.out; omega
   obtain ⟨ca0, ca1, _, _⟩ := hA
   obtain ⟨cb0, cb1, _, _⟩ := hB
   go_region_held3 (fun W => w.heap.size + 2 ≤ W.heap.size ∧ (∀ b o, b < w.heap.size + 2 → W.cell? ⟨b, o, none⟩ = w1.cell? ⟨b, o, none⟩) ∧ ∀ b o, b < w.heap.size + 2 → W.frozen? ⟨b, o, none⟩ = w1.frozen? ⟨b, o, none⟩)
    (first | exact Kept.start hcut | assumption | exact Kept.call (by assumption) (by assumption) | exact Kept.set (Kept.set (by assumption) (by omega) _) (by omega) _)
    (first | (go_at_call 75; (with_reducible refine (zLf _ _ _ _ _ _ _ _ _ hYd hXd HCX.out HL.out (by omega) (by omega)).mono ?_); rintro e w2 ⟨az, cz, zs, rfl, hsz, hvz, hB2⟩) | (go_at_call 22; (with_reducible refine (zDh _ _ _ _ _ _ hsz (by omega)).mono ?_); rintro e w3 ⟨v, rfl, ⟨ng, ao, nn, cc, rs, rfl, hrs, hrc, hrn, hrz⟩, hb3⟩; obtain ⟨e0, e1, e2, e3⟩ := (hCd.mono hB2 hCd.lt).mono hb3 (Nat.lt_of_lt_of_le hCd.lt hB2.size)))
   go_wp2
   refine bodyPost_ret (v := .agg #[.bool ng, .slice ao nn cc]) ?_ rfl ?_
   ·simp [results, Tryz.results52, go_sem, e0, e1]
   ·have hb4 : Below w.heap.size w w3 := (hbl.drew.trans (hB2.mono (by have := HS.out; simp; omega))).trans (hb3.mono (by have := HS.out; have := hB2.size; simp at this; omega))
    exact zBu ⟨e0, e1, e2, e3⟩ hrs hrc hrn (by rw [← hrz, hvz]; exact HE.out.symm) hb4 (by omega)
theorem zCy {w : World} {v v' : Value} {z z' : Int} (h : Num w v z) (h' : Num w v' z') : Calls Tryz.prog 52 #[v, v'] w (zBb w (z + z')) := by
 obtain ⟨neg, ao, n, c, xs, rfl, hs, hn, rfl, hc, _⟩ := h
 obtain ⟨neg', ao', n', c', xs', rfl, hs', hn', rfl, hc', _⟩ := h'
 exact rAdd_any _ _ _ _ _ _ _ _ _ _ _ hs hs' hc hc' (by omega) (by omega)

theorem zIo (w : World) {n n' : Bool} {ao ao' : Option Addr} {k c k' c' : Nat} {z z' : Int} (h : Num w (.agg #[.bool n, .slice ao k c]) z) (h' : Num w (.agg #[.bool n', .slice ao' k' c']) z') (t : TypeId) :
  ∃ w0, w0 = ((w.alloc (.cells #[.bool n, .slice ao k c] t)).alloc (.cells #[.bool n', .slice ao' k' c'] t)).alloc (.cells #[.bool false, .slice none 0 0] t) ∧
   (∀ W, Below (w.heap.size + 2) w0 W → BoxNum W w.heap.size z ∧ BoxNum W (w.heap.size + 1) z' ∧ Below w.heap.size w W) ∧ BoxNum w0 (w.heap.size + 1 + 1) 0 ∧ Below w.heap.size w w0 ∧ w0.heap.size = w.heap.size + 3 := by
 obtain ⟨w0, hw0, hA, hB, hC, hbl, HS⟩ := zD7 w (.bool n) (.slice ao k c) (.bool n') (.slice ao' k' c') t
 refine ⟨w0, hw0, fun W hb => ?_, ⟨_, _, _, _, hC, Num.zero _⟩, hbl, HS.out⟩
 have hbW : Below w.heap.size w W := hbl.trans (hb.mono (by omega))
 exact ⟨⟨_, _, _, _, hA.mono hb (by omega), h.mono hbW⟩, ⟨_, _, _, _, hB.mono hb (by omega), h'.mono hbW⟩, hbW⟩

theorem zNn (args : Array Value) (w : World) : (callFunc 36 args).run Tryz.prog w = .ok (.enter 36 args) w := zAn Tryz.func36 (by kernel_rfl) rfl args w
theorem zIv (args : Array Value) (w : World) : (callFunc 52 args).run Tryz.prog w = .ok (.enter 52 args) w := zAn Tryz.func52 (by kernel_rfl) rfl args w

set_option maxRecDepth 10000 in
set_option maxRecDepth 20000 in
set_option maxHeartbeats 2000000 in
theorem zB2 {w : World} {v v' : Value} {z z' : Int} (h : Num w v z) (h' : Num w v' z') {K : Nat} (hz : ab z < pw K) (hz' : ab z' < pw K) (hK : K ≤ 800000) : Calls Tryz.prog 55 #[v, v'] w (zBb w (z - z')) := by
 obtain ⟨n, ao, k, c, rfl⟩ := h.parts
 obtain ⟨n', ao', k', c', rfl⟩ := h'.parts
 obtain ⟨w0, hw0, hXW, hR, hbl, hsz⟩ := zIo w h h' 32
 have Bn : Hid (ab (-z') < pw K) := zE8 hz'
 have Bs : Hid (ab (z - z') < pw (K + 1)) := zBi hz hz' (by omega) (by omega)
 go_enter Tryz.func55, Tryz.ntmps55
 go_upto_region 1 with (fail)
 rw [← hw0]
 clear hw0
 go_wp2
 have hp : (plan [Fc.num z, Fc.num z', Fc.num (-z'), Fc.num (z - z'), Fc.any] [(w.heap.size + 1 + 1, 4, 0, z - z')] []).Ok (w.heap.size + 2) w0.heap.size := zC6 (by simp; omega) (by simp) (by simp) (by omega)
 have hm := PMono.of hp
 refine zB4 (p := plan [Fc.num z, Fc.num z', Fc.num (-z'), Fc.num (z - z'), Fc.any] [(w.heap.size + 1 + 1, 4, 0, z - z')] []) (B := w.heap.size + 2) (B0 := w0.heap.size) (w0 := w0) (by kernel_rfl) rfl rfl (zC7 (by simp; exact hR) (Below.refl _ _))
  ⟨?_, ?_, ?_, ?_, ?_, trivial⟩ ?_
 ·exact g_load (b := w.heap.size) (z := z) hm ⟨by simp [plan], by simp [plan]⟩ trivial (zF4 rfl rfl (fun W hb => ⟨rfl, (hXW W hb).1⟩)) (fun v w h => h)
 ·exact g_load (b := w.heap.size + 1) (z := z') hm ⟨by simp [plan], by simp [plan]⟩ trivial (zF4 rfl rfl (fun W hb => ⟨rfl, (hXW W hb).2.1⟩)) (fun v w h => h)
 ·exact zGp (F := (Fc.num z').P) hm ⟨by simp [plan], by simp [plan]⟩ trivial zNn (zA3 1 rfl rfl (by simp) rfl (fun v w h => h)) (fun v w h => exK (RNegV h) Bn.out (by omega))
 ·exact zC3 (F := (Fc.num z).P) (G := (Fc.num (-z')).P) hm ⟨by simp [plan], by simp [plan]⟩ trivial zIv (zA3 0 rfl rfl (by simp) rfl (fun v w h => h)) (zA3 2 rfl rfl (by simp) rfl (fun v w h => h)) (fun v v' w h h' => by
   have := zCy h h'
   rw [show z + -z' = z - z' by omega] at this
   exact exK this Bs.out (by omega))
 ·exact zBj (b := w.heap.size + 1 + 1) (j := 3) (z := 0) (z' := z - z') hp rfl (by simp [plan]) rfl rfl rfl (by simp) rfl (fun v w h => h) (fun _ _ => trivial) (by simp [plan]) (by simp [plan])
 ·intro L vs w2 hL hG
  obtain ⟨ng, ao2, k2, c2, ⟨e0, e1, e2, e3⟩, hN⟩ : BoxNum w2 (w.heap.size + 1 + 1) (z - z') := by
   have := hG.old (w.heap.size + 1 + 1, 4, 0, z - z') (by simp [plan])
   simpa [hL 4 (by simp)] using this
  have hb : Below w.heap.size w w2 := (hXW w2 hG.below).2.2
  rw [zAa hL]
  simp only [SP, Nat.zero_add, Nat.reduceAdd]
  clear hL hG hp
  go_wp2
  refine bodyPost_ret (v := .agg #[.bool ng, .slice ao2 k2 c2]) ?_ rfl ⟨_, rfl, hN.isInt, hb⟩
  simp [results, Tryz.results55, go_sem, e0, e1]

theorem rmac {i k : Nat} {us zs ys : List Int} {q x y z : Int} (hk : i + k < us.length) (h : val (us.take (i + k)) + pw (i + k) * q = val (zs.take (i + k)) + pw i * (x * val (ys.take k))) (hz : zs.getD (i + k) 0 = z) (hy : ys.getD k 0 = y) :
  val ((us.set (i + k) ((q + (x * y + z)) % 4294967296)).take (i + (k + 1))) + pw (i + (k + 1)) * ((q + (x * y + z)) / 4294967296) = val (zs.take (i + (k + 1))) + pw i * (x * val (ys.take (k + 1))) := by
 rw [show i + (k + 1) = (i + k) + 1 by omega, zAw, zCo _ _ _ _ (Nat.le_refl _), zB0 _ _ _ hk, zAw zs, zAw ys, hz, hy]
 have h1 := zC8 (i + k) (q + (x * y + z))
 rw [Int.mul_add, Int.mul_add] at h1
 rw [Int.mul_add, Int.mul_add]
 have h2 : pw i * (x * (pw k * y)) = pw (i + k) * (x * y) := by rw [zD1]; ac_rfl
 rw [h2]
 omega

set_option maxRecDepth 20000 in
set_option maxHeartbeats 2000000 in
theorem rMul_any (w : World) (na nb : Bool) (ax ay : Option Addr) (n m cx cy : Nat) (xs ys : List Int) (hX : Sl w ax n cx xs) (hY : Sl w ay m cy ys) (hb1 : n ≤ 1000000) (hb2 : m ≤ 1000000) :
  Calls Tryz.prog 29 #[.agg #[.bool na, .slice ax n cx], .agg #[.bool nb, .slice ay m cy]] w (zBb w (sgn na (val xs) * sgn nb (val ys))) := by
 obtain ⟨w0, hw0, hA, hB, hC, hbl, HS⟩ := zD7 w (.bool na) (.slice ax n cx) (.bool nb) (.slice ay m cy) 32
 have hn := hidd hX.len
 have hm := hidd hY.len
 obtain ⟨ca0, ca1, _, _⟩ := hA
 obtain ⟨cb0, cb1, _, _⟩ := hB
 go_enter Tryz.func29, Tryz.ntmps29
 go_upto_region 1 with (fail)
 rw [← hw0]
 clear hw0
 go_wp2_with (at_make; refine zDt _ rfl _ _ 25 rfl 67 Tryz.underlying25 (by kernel_rfl) _ _ _ _ rfl rfl (n + m) rfl rfl (by omega) ?_; intro w1 hrow hb1' hs1)
 obtain ⟨B, hB3⟩ : ∃ B, B = w0.heap.size := ⟨_, rfl⟩
 rw [← hB3] at hrow hb1' hs1
 rw [← hB3]
 have HB4 : Hid (B = w.heap.size + 3) := by show B = _; rw [hB3]; exact HS.out
 have hBlt : w.heap.size + 2 < B := by have := HB4.out; omega
 clear hB3 HS HB4
 go_loopw [6] (fun vi wr => ∃ (i : Nat) (zs : List Int), i ≤ n ∧ vi = .int .i64 i ∧ zs.length = n + m ∧ Row wr 67 B zs ∧ Below B w0 wr ∧ val (zs.take (i + m)) = val (xs.take i) * val ys) (fun vi _ => n - (intOf vi).toNat)
 case atStart => exact ⟨0, _, Nat.zero_le _, rfl, by simp, hrow, hb1', by rw [List.take_replicate, zF9]; simp [val]⟩
 case round =>
  obtain ⟨i, zs, hi, rfl, hzl, hr, hbr, hv⟩ := hrel
  have HZL := hidd hzl
  have HV := hidd hv
  clear hzl hv hrow hb1' hs1
  have da0 := (hbr.cell (p := ⟨w.heap.size, 0, none⟩) (by show w.heap.size < _; omega)).trans ca0
  have da1 := (hbr.cell (p := ⟨w.heap.size, 1, none⟩) (by show w.heap.size < _; omega)).trans ca1
  have db0 := (hbr.cell (p := ⟨w.heap.size + 1, 0, none⟩) (by show w.heap.size + 1 < _; omega)).trans cb0
  have db1 := (hbr.cell (p := ⟨w.heap.size + 1, 1, none⟩) (by show w.heap.size + 1 < _; omega)).trans cb1
  have hbw : Below w.heap.size w wr := hbl.trans (hbr.mono (by omega))
  by_cases hin : i < n
  ·obtain ⟨b1, off1, rfl, hbl1, x, hxc0, hx0, hx1, HX⟩ := hX.cells.at (k := i) (by rw [hn.out]; exact hin)
   go_wp2
   go_loopw [7, 8] (fun vc vk wq => ∃ (k : Nat) (q : Int) (us : List Int), k ≤ m ∧ vk = .int .i64 k ∧ vc = .int .u64 q ∧ 0 ≤ q ∧ q < 4294967296 ∧ us.length = n + m ∧ Row wq 67 B us ∧ Below B w0 wq ∧ us.drop (i + k) = zs.drop (i + k) ∧
    val (us.take (i + k)) + pw (i + k) * q = val (zs.take (i + k)) + pw i * (x * val (ys.take k))) (fun _ vk _ => m - (intOf vk).toNat)
   case atStart => exact ⟨0, 0, zs, Nat.zero_le _, rfl, rfl, by omega, by omega, HZL.out, hr, hbr, rfl, by simp [val]⟩
   case round =>
    obtain ⟨k, q, us, hk, rfl, rfl, hq0, hq1, hul, hr2, hbr2, hdr, hv2⟩ := hrel
    have HUL := hidd hul
    have HDR := hidd hdr
    have HV2 := hidd hv2
    clear hul hdr hv2 da0 da1 db0 db1 hr hbr hbw
    have da0 := (hbr2.cell (p := ⟨w.heap.size, 0, none⟩) (by show w.heap.size < _; omega)).trans ca0
    have da1 := (hbr2.cell (p := ⟨w.heap.size, 1, none⟩) (by show w.heap.size < _; omega)).trans ca1
    have db0 := (hbr2.cell (p := ⟨w.heap.size + 1, 0, none⟩) (by show w.heap.size + 1 < _; omega)).trans cb0
    have db1 := (hbr2.cell (p := ⟨w.heap.size + 1, 1, none⟩) (by show w.heap.size + 1 < _; omega)).trans cb1
    have hbw2 : Below w.heap.size w wr := hbl.trans (hbr2.mono (by omega))
    have hul := HUL.out
    by_cases hkm : k < m
    ·obtain ⟨b2, off2, rfl, hbl2, y, hyc0, hy0, hy1, HY⟩ := hY.cells.at (k := k) (by rw [hm.out]; exact hkm)
     have hku : i + k < us.length := by omega
     obtain ⟨z, hzc, hz0, hz1, HZ⟩ := hr2.at hku
     have hfr := hr2.frozen (i + k)
     have hxc := (hbw2.cell (p := ⟨b1, off1 + i, none⟩) hbl1).trans hxc0
     have hyc := (hbw2.cell (p := ⟨b2, off2 + k, none⟩) hbl2).trans hyc0
     obtain ⟨hp0, hp1⟩ := zGu hx0 hx1 hy0 hy1
     have hw1 : IntKind.u64.wrap x = x := IntWalk.u64_in _ (by omega)
     have hw2 : IntKind.u64.wrap y = y := IntWalk.u64_in _ (by omega)
     have hw3 : IntKind.u64.wrap (x * y) = x * y := IntWalk.u64_in _ (by omega)
     have hw4 : IntKind.u64.wrap z = z := IntWalk.u64_in _ (by omega)
     have hw5 : IntKind.u64.wrap (x * y + z) = x * y + z := IntWalk.u64_in _ (by omega)
     have hw6 : IntKind.u64.wrap (q + (x * y + z)) = q + (x * y + z) := IntWalk.u64_in _ (by omega)
     have hik : IntKind.i64.wrap ((i : Int) + (k : Int)) = ((i + k : Nat) : Int) := by rw [Int.natCast_add]; exact IntWalk.i64_in _ (by omega)
     have hiknm : i + k < n + m := by omega
     clear hul
     go_wp2
     go_quiet (fail)
     obtain ⟨w2, hW2⟩ : ∃ w2, w2 = wr.drewN nq := ⟨_, rfl⟩
     rw [← hW2]
     have hrw : Row w2 67 B us := by rw [hW2]; exact hr2
     have hbw : Below B w0 w2 := by rw [hW2]; exact hbr2.trans ((Drawn.refl wr).drewN nq |>.below _)
     clear hW2 hr2 hbr2 hbw2 hzc hfr hxc hyc da0 da1 db0 db1 hw1 hw2 hw3 hw4 hw5 hw6
     have hfr := hrw.frozen (i + k)
     have hzc := hrw.cell hku
     go_wp2
     go_roundw
     case rel =>
      refine ⟨k + 1, (q + (x * y + z)) / 4294967296, us.set (i + k) ((q + (x * y + z)) % 4294967296), by omega, by go_num, by go_num, by omega, by omega, by rw [List.length_set]; exact HUL.out, hrw.set ⟨by omega, by omega⟩, hbw.setCell (Nat.le_refl _) _, ?_, ?_⟩
      ·rw [List.drop_set_of_lt (by omega)]
       have := congrArg (List.drop 1) HDR.out
       simpa [List.drop_drop, Nat.add_assoc] using this
      ·have hzz : zs.getD (i + k) 0 = z := by
        have := congrArg (fun l : List Int => l.getD 0 0) HDR.out
        simp only [zCm, Nat.add_zero] at this
        rw [← this]; exact HZ.out
       exact rmac hku HV2.out hzz HY.out
     case measure => simp [intOf]; omega
    ·obtain rfl : k = m := by omega
     have hzc := hr2.cell (j := i + k) (by omega)
     have hfr := hr2.frozen (i + k)
     have hik : IntKind.i64.wrap ((i : Int) + (k : Int)) = ((i + k : Nat) : Int) := by rw [Int.natCast_add]; exact IntWalk.i64_in _ (by omega)
     have hqm : q % 4294967296 = q := by omega
     clear hul
     go_wp2
     go_roundw
     case rel =>
      refine ⟨i + 1, us.set (i + k) q, by omega, by go_num, by rw [List.length_set]; exact HUL.out, hr2.set ⟨by omega, by omega⟩, hbr2.setCell (Nat.le_refl _) _, ?_⟩
      rw [show i + 1 + k = (i + k) + 1 by omega, zAw, zCo _ _ _ _ (Nat.le_refl _), zB0 _ _ _ (by rw [HUL.out]; omega), zAw, HX.out]
      have h1 := HV2.out
      rw [HV.out, zA4 ys (by rw [hm.out]; omega)] at h1
      rw [Int.add_mul, h1]
      congr 1
      ac_rfl
     case measure => simp [intOf]; omega
  ·obtain rfl : i = n := by omega
   have HE : Hid (val zs = val xs * val ys) := by
    have h1 := HV.out
    rw [zA4 zs (by rw [HZL.out]; omega), zA4 xs (by rw [hn.out]; omega)] at h1
    exact h1
   have hS := hr.sl HZL.out
   have hCr := hC.mono hbr (by omega)
   go_wp2_with fail
   refine (zDh _ _ _ _ _ _ hS (by omega)).mono ?_
   rintro e w3 ⟨v, rfl, ⟨ng, ao, nn, cc, rs, rfl, hrs, hrc, hrn, hrz⟩, hb3⟩
   obtain ⟨e0, e1, e2, e3⟩ := hCr.mono hb3 hCr.lt
   have hb4 : Below w.heap.size w w3 := hbw.trans (hb3.mono hbw.size)
   have hz : sgn na (val xs) * sgn nb (val ys) = sgn ng (val rs) := by
    rw [← hrz, HE.out]
    cases na <;> cases nb <;> simp [sgn, Int.mul_neg, Int.neg_mul]
   have HZ := hidd hz
   clear hrz hz
   go_wp2
   refine bodyPost_ret (v := .agg #[.bool ng, .slice ao nn cc]) ?_ rfl ?_
   ·simp [results, Tryz.results29, go_sem, e0, e1]
   ·exact zBu ⟨e0, e1, e2, e3⟩ hrs hrc hrn HZ.out hb4 (by omega)

theorem zCc {w : World} {v v' : Value} {z z' : Int} (h : Num w v z) (h' : Num w v' z') : Calls Tryz.prog 29 #[v, v'] w (zBb w (z * z')) := by
 obtain ⟨neg, ao, n, c, xs, rfl, hs, hn, rfl, hc, _⟩ := h
 obtain ⟨neg', ao', n', c', xs', rfl, hs', hn', rfl, hc', _⟩ := h'
 exact rMul_any _ _ _ _ _ _ _ _ _ _ _ hs hs' (by omega) (by omega)

end Go.Proofs.YtihhlaagndingaaGreat

namespace Go.Proofs.YtihhlaagndingaaGreat
open Go Go.RowKit

def DivR (w : World) (X Y : Int) (e : Ending) (w' : World) : Prop :=
 ∃ aq lq cq qs ar lr cr rs, e = .returned (.agg #[.slice aq lq cq, .slice ar lr cr]) ∧ Sl w' aq lq cq qs ∧ Sl w' ar lr cr rs ∧ lq ≤ 3000000 ∧ lr ≤ 3000000 ∧ val qs = X / Y ∧ val rs = X % Y ∧ Below w.heap.size w w'

theorem val_two {xs : List Int} (h : xs.length ≤ 2) : val xs = xs.getD 0 0 + xs.getD 1 0 * 4294967296 := by
 have h1 := zEk xs 0
 have h2 := zEk xs 1
 rw [List.drop_of_length_le (show xs.length ≤ 1 + 1 by omega)] at h2
 rw [List.drop_zero, h2] at h1
 rw [h1]
 show _ + 4294967296 * (_ + 4294967296 * 0) = _
 omega

theorem or_pair {x y : Int} (hx0 : 0 ≤ x) (hx1 : x < 4294967296) (hy0 : 0 ≤ y) (hy1 : y < 4294967296) : bits .or .u64 x (y * 4294967296) = x + y * 4294967296 := (zFv x y hx0 hx1 hy0 hy1).1

theorem zLr {w S : World} {N : Nat} (hS : S.heap.size = N) (hb : Below w.heap.size w S) (T U : Int) (hT0 : 0 ≤ T) (hT1 : T < 18446744073709551616) (hU0 : 0 ≤ U) (hU1 : U < 18446744073709551616) :
  Sl (((S.alloc (.cells #[.int .u32 (T % 4294967296), .int .u32 (T / 4294967296)] 67)).alloc (.cells #[.int .u32 (U % 4294967296), .int .u32 (U / 4294967296)] 67)).drew) (some ⟨N, 0, none⟩) 2 2 [T % 4294967296, T / 4294967296] ∧
  Sl (((S.alloc (.cells #[.int .u32 (T % 4294967296), .int .u32 (T / 4294967296)] 67)).alloc (.cells #[.int .u32 (U % 4294967296), .int .u32 (U / 4294967296)] 67)).drew) (some ⟨N + 1, 0, none⟩) 2 2 [U % 4294967296, U / 4294967296] ∧
  Below w.heap.size w (((S.alloc (.cells #[.int .u32 (T % 4294967296), .int .u32 (T / 4294967296)] 67)).alloc (.cells #[.int .u32 (U % 4294967296), .int .u32 (U / 4294967296)] 67)).drew) ∧
  val [T % 4294967296, T / 4294967296] = T ∧ val [U % 4294967296, U / 4294967296] = U := by
 subst hS
 obtain ⟨s1, v1⟩ := zHz S 67 rfl T hT0 hT1
 obtain ⟨s2, v2⟩ := zHz (S.alloc (.cells #[.int .u32 (T % 4294967296), .int .u32 (T / 4294967296)] 67)) 67 rfl U hU0 hU1
 rw [World.size_alloc] at s2
 have h1 := hb.alloc hb.size (.cells #[.int .u32 (T % 4294967296), .int .u32 (T / 4294967296)] 67)
 have h2 := h1.alloc h1.size (.cells #[.int .u32 (U % 4294967296), .int .u32 (U / 4294967296)] 67)
 exact ⟨(s1.mono (zAq _ _)).drew, s2.drew, h2.drew, v1.out, v2.out⟩

theorem zH5 {w w0 : World} {p q : Value} (hbl : Below w.heap.size w w0) (hI : IntBox w0 w.heap.size p q) (u v : Value) :
  ∃ S, S = (w0.setCell ⟨w.heap.size, 0, none⟩ u).setCell ⟨w.heap.size, 1, none⟩ v ∧ S.heap.size = w0.heap.size ∧ Below w.heap.size w S ∧ S.cell? ⟨w.heap.size, 0, none⟩ = some u ∧ S.cell? ⟨w.heap.size, 1, none⟩ = some v := by
 obtain ⟨e0, e1, _, _⟩ := hI
 have h1 : (w0.setCell ⟨w.heap.size, 0, none⟩ u).cell? ⟨w.heap.size, 1, none⟩ = some q := by
  rw [World.cell?_setCell_other _ _ _ _ (by intro e; cases e)]; exact e1
 refine ⟨_, rfl, by rw [World.size_setCell, World.size_setCell], (hbl.setCell (Nat.le_refl _) _).setCell (Nat.le_refl _) _, ?_, ?_⟩
 ·rw [World.cell?_setCell_other _ _ _ _ (by intro e; cases e)]
  exact World.cell?_setCell_same _ _ _ e0
 ·exact World.cell?_setCell_same _ _ _ h1

set_option maxRecDepth 20000 in
set_option maxHeartbeats 2000000 in
theorem zM4 (w : World) (ax ay : Option Addr) (n m cx cy : Nat) (xs ys : List Int) (hX : Sl w ax n cx xs) (hY : Sl w ay m cy ys) (hy0 : 0 < val ys) (hn : n ≤ 2) (hm : m ≤ 2) :
  Calls Tryz.prog 72 #[.slice ax n cx, .slice ay m cy] w (DivR w (val xs) (val ys)) := by
 obtain ⟨x0, hx0⟩ : ∃ x, xs.getD 0 0 = x := ⟨_, rfl⟩
 obtain ⟨x1, hx1⟩ : ∃ x, xs.getD 1 0 = x := ⟨_, rfl⟩
 obtain ⟨y0, hy0'⟩ : ∃ x, ys.getD 0 0 = x := ⟨_, rfl⟩
 obtain ⟨y1, hy1⟩ : ∃ x, ys.getD 1 0 = x := ⟨_, rfl⟩
 have dx0 := hX.digs.getD 0
 have dx1 := hX.digs.getD 1
 have dy0 := hY.digs.getD 0
 have dy1 := hY.digs.getD 1
 have vx := val_two (show xs.length ≤ 2 by rw [hX.len]; exact hn)
 have vy := val_two (show ys.length ≤ 2 by rw [hY.len]; exact hm)
 rw [hx0] at dx0 vx
 rw [hx1] at dx1 vx
 rw [hy0'] at dy0 vy
 rw [hy1] at dy1 vy
 have ox := or_pair dx0.1 dx0.2 dx1.1 dx1.2
 have oy := or_pair dy0.1 dy0.2 dy1.1 dy1.2
 obtain ⟨X, hXe⟩ : ∃ X, X = x0 + x1 * 4294967296 := ⟨_, rfl⟩
 obtain ⟨Y, hYe⟩ : ∃ Y, Y = y0 + y1 * 4294967296 := ⟨_, rfl⟩
 rw [← hXe] at ox vx
 rw [← hYe] at oy vy
 rw [vx, vy]
 rw [vy] at hy0
 have hX0 : 0 ≤ X := by omega
 have hX1 : X < 18446744073709551616 := by omega
 have hY1 : Y < 18446744073709551616 := by omega
 have hx1m : x1 * 4294967296 < 18446744073709551616 := by omega
 have hx1n : 0 ≤ x1 * 4294967296 := by omega
 have hy1m : y1 * 4294967296 < 18446744073709551616 := by omega
 have hy1n : 0 ≤ y1 * 4294967296 := by omega
 have Hx0 := hidd hx0
 have Hx1 := hidd hx1
 have Hy0 := hidd hy0'
 have Hy1 := hidd hy1
 clear hx0 hx1 hy0' hy1 hXe hYe vx vy dx0 dx1 dy0 dy1
 obtain ⟨w0, hw0⟩ : ∃ w0, w0 = w.alloc (.cells #[.slice none 0 0, .slice none 0 0] 89) := ⟨_, rfl⟩
 have hbl : Below w.heap.size w w0 := by rw [hw0]; exact zAq _ _
 have hX0w := hX.mono hbl
 have hY0w := hY.mono hbl
 have hI : IntBox w0 w.heap.size (.slice none 0 0) (.slice none 0 0) := by rw [hw0]; exact IntBox.new _ _ _ _
 have hsz : w0.heap.size = w.heap.size + 1 := by rw [hw0]; simp
 have HSZ := hidd hsz
 clear hsz
 go_enter Tryz.func72, Tryz.ntmps72
 go_upto_region 1 with (fail)
 rw [← hw0]
 clear hw0
 go_wp2_with fail
 refine (zDc _ _ _ _ _ hX0w (by omega) 0 (by omega) x0 Hx0.out _ rfl).mono ?_
 rintro e w' ⟨rfl, rfl⟩
 go_wp2_with fail
 refine (zDc _ _ _ _ _ hX0w (by omega) 1 (by omega) x1 Hx1.out _ rfl).mono ?_
 rintro e w' ⟨rfl, rfl⟩
 go_wp2_with fail
 refine (zDc _ _ _ _ _ hY0w (by omega) 0 (by omega) y0 Hy0.out _ rfl).mono ?_
 rintro e w' ⟨rfl, rfl⟩
 go_wp2_with fail
 refine (zDc _ _ _ _ _ hY0w (by omega) 1 (by omega) y1 Hy1.out _ rfl).mono ?_
 rintro e w' ⟨rfl, rfl⟩
 have hq0 : 0 ≤ X / Y := Int.ediv_nonneg hX0 (by omega)
 have hq1 : X / Y < 18446744073709551616 := Int.lt_of_le_of_lt (Int.ediv_le_self _ hX0) hX1
 have hr0 : 0 ≤ X % Y := Int.emod_nonneg _ (by omega)
 have hr1 : X % Y < 18446744073709551616 := Int.lt_trans (Int.emod_lt_of_pos _ hy0) hY1
 have hYz : (Y == 0) = false := by simp; omega
 have hYn : Y ≠ 0 := by omega
 have hI2 := hI
 obtain ⟨e0, e1, e2, e3⟩ := hI
 have hlt : w.heap.size < w0.heap.size := by have := HSZ.out; omega
 have hne : ¬ w.heap.size = w0.heap.size := by omega
 have hne2 : ¬ w.heap.size = w0.heap.size + 1 := by omega
 go_wp2
 go_region
 ·obtain ⟨S, hS, hsz, hbS, c0, c1⟩ := zH5 hbl hI2 (.slice (some ⟨w0.heap.size, 0, none⟩) 2 2) (.slice (some ⟨w0.heap.size + 1, 0, none⟩) 2 2)
  rw [← hS]
  obtain ⟨s1, s2, hbW, v1, v2⟩ := zLr hsz hbS (X / Y) (X % Y) hq0 hq1 hr0 hr1
  clear hS
  have hltS : w.heap.size < S.heap.size := by omega
  go_wp2
  refine bodyPost_ret (v := .agg #[.slice (some ⟨w0.heap.size, 0, none⟩) 2 2, .slice (some ⟨w0.heap.size + 1, 0, none⟩) 2 2]) ?_ rfl ⟨_, _, _, _, _, _, _, _, rfl, s1, s2, by omega, by omega, v1, v2, hbW⟩
  simp [results, Tryz.results72, go_sem, c0, c1, hltS]
 ·obtain ⟨S, hS, hsz, hbS, c0, c1⟩ := zH5 hbl hI2 (.slice (some ⟨w0.heap.size + 1, 0, none⟩) 2 2) (.slice (some ⟨w0.heap.size, 0, none⟩) 2 2)
  rw [← hS]
  obtain ⟨s1, s2, hbW, v1, v2⟩ := zLr hsz hbS (X % Y) (X / Y) hr0 hr1 hq0 hq1
  clear hS
  have hltS : w.heap.size < S.heap.size := by omega
  go_wp2
  refine bodyPost_ret (v := .agg #[.slice (some ⟨w0.heap.size + 1, 0, none⟩) 2 2, .slice (some ⟨w0.heap.size, 0, none⟩) 2 2]) ?_ rfl ⟨_, _, _, _, _, _, _, _, rfl, s2, s1, by omega, by omega, v2, v1, hbW⟩
  simp [results, Tryz.results72, go_sem, c0, c1, hltS]

theorem zMx (w : World) (ty : TypeId) (g : Nat) (ao : Option Addr) (m c : Nat) (ys : List Int) (hS : Sl w ao m c ys) (hb : m ≤ 1000000) :
  ∃ ao' c' w', (Builtin.append_ #[25, 25] ty #[.slice (some ⟨g, 0, none⟩) 0 0, .slice ao m c]).run Tryz.prog w = .ok (.slice ao' m c') w' ∧ Below w.heap.size w w' ∧ Sl w' ao' m c' ys ∧
   (0 < m → ∃ g', ao' = some ⟨g', 0, none⟩ ∧ w.heap.size ≤ g' ∧ Mine w' g' m ys) := by
 obtain ⟨i0, hi, hz0, hz1, hz2⟩ := info_parts zGr
 by_cases h0 : m = 0
 ·obtain ⟨v', w', h1, h2, ao', c', rfl, h3⟩ := zJz w ty g ao m c ys hS hb
  exact ⟨ao', c', w', h1, h2, h3, fun h => absurd h0 (by omega)⟩
 ·rcases hS.cells.2 with h1 | ⟨b, off, rfl, hlt, hc⟩
  ·subst h1; have := hS.len; simp at this; omega
  ·obtain ⟨v', w', hrun, hown, hg⟩ := run_append_arg_grows (P := Tryz.prog) w 25 ty 67 i0 (.int .u32 0) 1 4 Tryz.underlying25 hi hz0 hz1 hz2 rfl (by decide)
    ⟨g, 0, none⟩ 0 0 [] (by simp) (by simp) ⟨b, off, none⟩ m c (ys.map (Value.int .u32)) (by simp [hS.len]) (fun j u hu => by
     have hj : j < ys.length := by have := (List.getElem?_eq_some_iff.1 hu).1; simpa using this
     rw [Go.WideShapes.add_plain, hc j hj, ← hu]
     simp [hj]) (by omega) (by unfold maxLen; omega) (by omega)
   rw [Nat.zero_add, List.nil_append, ← hS.len] at hown
   have hO : Ow w' w.heap.size v' ys := ⟨hown, hS.digs⟩
   obtain ⟨ao', c', rfl, hS'⟩ := hO.sl
   rw [hS.len] at hS' hrun hO
   refine ⟨ao', c', w', hrun, ⟨hg.os, hg.tape, hg.output, hg.size, fun k hk => hg.block k hk (by simp)⟩, hS', fun _ => ?_⟩
   rcases hO.1.2 with ⟨_, h2⟩ | ⟨g', cap', cur, h2, _⟩
   ·rw [hS.len] at h2; omega
   ·cases h2
    have := hO.mine
    exact ⟨g', rfl, this.2.1, this.1⟩

theorem zO6 (w : World) {ops : Array Oper} {rest : List Oper} {o : Oper} {a : Act} {Q : Exit → Act → World → Prop} (hgd : o.guard = none) (s x : Operand)
  (hop : o.op = Op.call { callee := Callee.builtin Builtin.append, args := #[s, x], argTypes := #[25, 25] }) (g : Nat) (ao : Option Addr) (m c : Nat) (ys : List Int)
  (hs : a.eval s = .slice (some ⟨g, 0, none⟩) 0 0) (hx : a.eval x = .slice ao m c) (hS : Sl w ao m c ys) (hb : m ≤ 1000000)
  (hK : ∀ ao' c' w', Below w.heap.size w w' → Sl w' ao' m c' ys → (0 < m → ∃ g', ao' = some ⟨g', 0, none⟩ ∧ w.heap.size ≤ g' ∧ Mine w' g' m ys) → wpList Tryz.prog ops Q rest (a.put o.dst (.slice ao' m c')) w') :
  wpList Tryz.prog ops Q (o :: rest) a w := by
 refine wpList_plain hgd fun K hK' => ?_
 obtain ⟨ao', c', w', hrun, h1, h2, h3⟩ := zMx w o.type g ao m c ys hS hb
 unfold Oper.wp
 simp [execOp, hop, resolve, invoke, builtin, hs, hx, hrun, Result.andThen]
 exact hK' _ _ (hK ao' c' w' h1 h2 h3)

theorem val_set {zs : List Int} {j : Nat} {x : Int} (hj : j < zs.length) : val (zs.set j x) = val zs + pw j * (x - zs.getD j 0) := by
 have e1 := zGa (zs.set j x) (j + 1)
 have e2 := zGa zs (j + 1)
 rw [zAw, zCo _ _ _ _ (Nat.le_refl _), zB0 _ _ _ hj, List.drop_set_of_lt (by omega)] at e1
 rw [zAw] at e2
 rw [Int.mul_sub]
 omega

theorem bit_word {qs : List Int} {j : Nat} {c : Int} (hq : Digs qs) (h : val qs = 2 ^ (j + 1) * c) : qs.getD (j / 32) 0 % 2 ^ (j % 32 + 1) = 0 := by
 have e : (2 : Int) ^ (j + 1) = pw (j / 32) * 2 ^ (j % 32 + 1) := by rw [zCv, ← Int.pow_add]; congr 1; omega
 have e32 : (4294967296 : Int) = 2 ^ (j % 32 + 1) * 2 ^ (31 - j % 32) := by rw [← Int.pow_add, show j % 32 + 1 + (31 - j % 32) = 32 by omega]; rfl
 have e1 := zGa qs (j / 32)
 have e2 := zEk qs (j / 32)
 have h0 := zAx (hq.take (j / 32))
 have h1 := zMo hq (j / 32)
 have hp := zBh (j / 32)
 rw [h, e, Int.mul_assoc] at e1
 generalize val (qs.take (j / 32)) = T at *
 generalize val (qs.drop (j / 32)) = D at *
 generalize val (qs.drop (j / 32 + 1)) = H at *
 generalize qs.getD (j / 32) 0 = x at *
 generalize pw (j / 32) = P at *
 rw [e32] at e2
 generalize (2 : Int) ^ (j % 32 + 1) = S at *
 generalize (2 : Int) ^ (31 - j % 32) = V at *
 have hT : T = P * (S * c - D) := by rw [Int.mul_sub]; omega
 have hz : S * c - D = 0 := by
  rcases Int.lt_trichotomy (S * c - D) 0 with h2 | h2 | h2
  ·have := Int.mul_le_mul_of_nonneg_left (show S * c - D ≤ -1 by omega) (Int.le_of_lt hp)
   omega
  ·exact h2
  ·have := Int.mul_le_mul_of_nonneg_left (show 1 ≤ S * c - D by omega) (Int.le_of_lt hp)
   omega
 have hx : x = S * (c - V * H) := by rw [Int.mul_sub, ← Int.mul_assoc]; omega
 rw [hx]
 exact Int.mul_emod_right _ _

theorem or_bit {x : Int} {r : Nat} (hr : r < 32) (hx0 : 0 ≤ x) (hx1 : x < 4294967296) (h : x % 2 ^ (r + 1) = 0) : bits .or .u32 x (2 ^ r) = x + 2 ^ r ∧ x + 2 ^ r < 4294967296 := by
 obtain ⟨h1, h2⟩ := zG4 r hr
 have h3 := zFw r
 refine ⟨(or_u32 (r + 1) x (2 ^ r) hx0 hx1 (by omega) (by omega) (by omega) h).1, ?_⟩
 have e32 : (4294967296 : Int) = 2 ^ (r + 1) * 2 ^ (31 - r) := by rw [← Int.pow_add, show r + 1 + (31 - r) = 32 by omega]; rfl
 have h4 : (4294967296 - x) % 2 ^ (r + 1) = 0 := by
  rw [Int.sub_emod, h, e32, Int.mul_emod_right]; simp
 have h5 := Int.le_of_dvd (show 0 < 4294967296 - x by omega) (Int.dvd_of_emod_eq_zero h4)
 omega

theorem bits_lt {X Y : Int} {a b : Nat} (hX : zCp X a) (hY : zCp Y b) (h : a < b) : X < Y := by
 have hY2 : (2 : Int) ^ (b - 1) ≤ Y := by
  rcases hY with ⟨_, h0⟩ | ⟨_, h1, _⟩
  ·omega
  ·exact h1
 have hX2 : X < 2 ^ a := by
  rcases hX with ⟨h1, h0⟩ | ⟨_, _, h1⟩
  ·subst h0; rw [h1]; decide
  ·exact h1
 have h3 := zH9 (show a ≤ b - 1 by omega)
 omega

theorem bits_room {X Y : Int} {a b N : Nat} (hX : zCp X a) (hY : zCp Y b) (hY0 : 0 < Y) (h : a = b + N) : X < Y * 2 ^ (N + 1) := by
 have hX2 : X < 2 ^ a := by
  rcases hX with ⟨h1, h0⟩ | ⟨_, _, h1⟩
  ·subst h0; rw [h1]; decide
  ·exact h1
 rcases hY with ⟨h1, _⟩ | ⟨h0, h1, _⟩
 ·omega
 ·have h3 := Int.mul_le_mul_of_nonneg_right h1 (Int.le_of_lt (zCb (N + 1)))
  rw [← Int.pow_add, show b - 1 + (N + 1) = a by omega] at h3
  omega

end Go.Proofs.YtihhlaagndingaaGreat

namespace Go.Proofs.YtihhlaagndingaaGreat
open Go Go.RowKit

structure DivInv (w0 : World) (B gr gq gd n lq ld : Nat) (X Y : Int) (k : Nat) (wr : World) where
 below : Below B w0 wr
 some : ∃ rs qs ds : List Int, Mine wr gr n rs ∧ Mine wr gq lq qs ∧ Mine wr gd ld ds ∧ X = val qs * Y + val rs ∧ val rs < Y * 2 ^ k ∧ (∃ c, val qs = 2 ^ k * c) ∧ (0 < k → val ds = Y * 2 ^ (k - 1))

set_option maxRecDepth 20000 in
set_option maxHeartbeats 4000000 in
theorem zM3 (w : World) (ax ay : Option Addr) (n m cx cy : Nat) (xs ys : List Int) (hX : Sl w ax n cx xs) (hY : Sl w ay m cy ys) (hcx : Canon xs) (hcy : Canon ys) (hy0 : 0 < val ys) (hn : n ≤ 1000000) (hm : m ≤ 1000000) (hlong : ¬ (n ≤ 2 ∧ m ≤ 2)) :
  Calls Tryz.prog 72 #[.slice ax n cx, .slice ay m cy] w (DivR w (val xs) (val ys)) := by
 have HCX := hidd hcx
 have HCY := hidd hcy
 have HY0 := hidd hy0
 clear hcx hcy hy0
 obtain ⟨w0, hw0⟩ : ∃ w0, w0 = w.alloc (.cells #[.slice none 0 0, .slice none 0 0] 89) := ⟨_, rfl⟩
 have hbl : Below w.heap.size w w0 := by rw [hw0]; exact zAq _ _
 have hI : IntBox w0 w.heap.size (.slice none 0 0) (.slice none 0 0) := by rw [hw0]; exact IntBox.new _ _ _ _
 have hlt : w.heap.size < w0.heap.size := by rw [hw0]; simp
 have hI2 := hidd hI
 obtain ⟨e0, e1, e2, e3⟩ := hI
 go_enter Tryz.func72, Tryz.ntmps72
 go_upto_region 1 with (fail)
 rw [← hw0]
 clear hw0
 rcases (by omega : 2 < n ∨ (n ≤ 2 ∧ 2 < m)) with hn2 | ⟨hn2, hm2⟩
 all_goals
  go_upto_region 5 with (fail)
 all_goals
  go_wp2_with (at_builtin; refine zO6 _ rfl _ _ rfl _ ax n cx xs rfl rfl ((hX.mono hbl).mono (zAq _ _)) hn ?_; intro ar cr w1 hb1 hS1 hM1)
 all_goals
  have hbw1 : Below w0.heap.size w0 w1 := (zAq w0 _).trans (hb1.mono (by simp))
  clear hb1
  refine (zJl _ _ _ _ _ _ ((hX.mono hbl).mono hbw1) HCX.out (by omega)).mono ?_
  rintro e w2 ⟨b1, rfl, hB1, hb1n, hb2⟩
  have hbw2 := hbw1.trans (hb2.mono hbw1.size)
  go_wp2_with fail
  refine (zJl _ _ _ _ _ _ ((hY.mono hbl).mono hbw2) HCY.out (by omega)).mono ?_
  rintro e w3 ⟨b2, rfl, hB2, hb2m, hb3⟩
  have hbw3 := hbw2.trans (hb3.mono hbw2.size)
  have hS3 := (hS1.mono hb2).mono hb3
  have hM3 : 0 < n → ∃ g', ar = some ⟨g', 0, none⟩ ∧ w0.heap.size ≤ g' ∧ g' < w3.heap.size ∧ Mine w3 g' n xs := fun h => by
   obtain ⟨g', h1, h2, h3⟩ := hM1 h
   have h4 := (h3.mono hb2 h3.lt)
   exact ⟨g', h1, by simp at h2; omega, (h4.mono hb3 h4.lt).lt, h4.mono hb3 h4.lt⟩
  have f0 := (hbw3.cell (p := ⟨w.heap.size, 0, none⟩) hlt).trans e0
  have f1 := (hbw3.cell (p := ⟨w.heap.size, 1, none⟩) hlt).trans e1
  have f2 := (hbw3.frozen (p := ⟨w.heap.size, 0, none⟩) hlt).trans e2
  have f3 := (hbw3.frozen (p := ⟨w.heap.size, 1, none⟩) hlt).trans e3
  clear hM1 hS1 hbw1 hbw2 hb2 hb3 e0 e1 e2 e3
  have hbw : Below w.heap.size w w3 := hbl.trans (hbw3.mono hbl.size)
  by_cases hlt2 : b1 < b2
  ·have HXY := hidd (bits_lt hB1 hB2 hlt2)
   have hX0 := zAx hX.digs
   go_wp2
   obtain ⟨S, hS, hsz, hbS, c0, c1⟩ := zH5 hbw ⟨f0, f1, f2, f3⟩ (.slice none 0 0) (.slice ar n cr)
   rw [← hS]
   have hSS : Sl S ar n cr xs := by rw [hS]; exact (hS3.setOther f0 (by intro q h; cases h) _).setOther (by rw [World.cell?_setCell_other _ _ _ _ (by intro e; cases e)]; exact f1) (by intro q h; cases h) _
   clear hS
   refine bodyPost_ret (v := .agg #[.slice none 0 0, .slice ar n cr]) ?_ rfl ⟨_, _, _, _, _, _, _, _, rfl, Sl.nil _, hSS, by omega, by omega, ?_, ?_, hbS⟩
   ·simp [results, Tryz.results72, go_sem, c0, c1]
   ·rw [Int.ediv_eq_zero_of_lt hX0 HXY.out]; rfl
   ·rw [Int.emod_eq_of_lt hX0 HXY.out]
  ·obtain ⟨N, hN⟩ : ∃ N, b1 = b2 + N := ⟨b1 - b2, by omega⟩
   have HR := hidd (bits_room hB1 hB2 HY0.out hN)
   have hb20 : 0 < b2 := by
    rcases hB2 with ⟨h1, _⟩ | ⟨h1, _⟩
    ·have := HY0.out; omega
    ·exact h1
   obtain ⟨gr, rfl, hgr, hgr2, hMr⟩ := hM3 (by omega)
   have hNi : (b1 : Int) - (b2 : Int) = (N : Int) := by omega
   have hNb : N ≤ 32000000 := by omega
   have hcr := hS3.cap
   clear hN hlt2 hb1n hb2m hB1 hB2
   go_wp2_with (at_make; refine zDt _ rfl _ _ 25 rfl 67 Tryz.underlying25 (by kernel_rfl) _ _ _ _ rfl rfl (N / 32 + 1) (by omega) (by omega) (by omega) ?_; intro w4 hrow hb4 hs4)
   have hbw4 : Below w0.heap.size w0 w4 := hbw3.trans (hb4.mono hbw3.size)
   refine (left_any _ _ _ _ _ ((hY.mono hbl).mono hbw4) (by omega) N (by omega)).mono ?_
   rintro e w5 ⟨gd, ld, cd, ds0, rfl, hgd, hMd, hcd, hld, hvd, hb5⟩
   have hbw5 := hbw4.trans (hb5.mono hbw4.size)
   have hq5 : Mine w5 w3.heap.size (N / 32 + 1) (List.replicate (N / 32 + 1) 0) := by
    have := hrow.mine
    rw [List.length_replicate] at this
    exact this.mono hb5 this.lt
   have hr5 := (hMr.mono hb4 hMr.lt).mono hb5 (hMr.mono hb4 hMr.lt).lt
   obtain ⟨gq, hgq⟩ : ∃ gq, gq = w3.heap.size := ⟨_, rfl⟩
   rw [← hgq] at hq5 hgr2 hs4
   rw [← hgq]
   have hgq0 : w0.heap.size ≤ gq := by rw [hgq]; exact hbw3.size
   have hne1 : gr ≠ gq := by omega
   have hne2 : gq ≠ gd := by omega
   have hne3 : gr ≠ gd := by omega
   have hgd0 : w0.heap.size ≤ gd := by omega
   have hld2 : ld ≤ 3000000 := by omega
   have HVD := hidd hvd
   clear hvd hld hrow hb4 hb5 hbw3 hbw4 hMr hM3 hS3 hgq hs4 hgd f0 f1 f2 f3 hbw
   go_wp2
   go_loopw [11] (fun vi wr => ∃ k : Nat, k ≤ N + 1 ∧ vi = .int .i64 ((k : Int) - 1) ∧ DivInv w0 w0.heap.size gr gq gd n (N / 32 + 1) ld (val xs) (val ys) k wr) (fun vi _ => (intOf vi + 1).toNat)
   case atStart =>
    refine ⟨N + 1, Nat.le_refl _, by go_num, hbw5, xs, _, ds0, hr5, hq5, hMd, ?_, HR.out, ⟨0, ?_⟩, fun _ => HVD.out⟩
    ·rw [zF9, Int.zero_mul, Int.zero_add]
    ·rw [zF9, Int.mul_zero]
   case round =>
    obtain ⟨k, hk, rfl, ⟨hb, rs, qs, dd, hr, hq, hd, hXe, hrl, ⟨c, hqc⟩, hdv⟩⟩ := hrel
    have HXE := hidd hXe
    have HRL := hidd hrl
    have HQC := hidd hqc
    have HDV := hidd hdv
    clear hXe hrl hqc hdv hr5 hq5 hMd hbw5
    by_cases hk0 : 0 < k
    ·obtain ⟨j, rfl⟩ : ∃ j, k = j + 1 := ⟨k - 1, by omega⟩
     have hj1 : ((j + 1 : Nat) : Int) - 1 = (j : Int) := by omega
     have HDJ : Hid (val dd = val ys * 2 ^ j) := HDV.out (by omega)
     clear HDV
     go_wp2_with fail
     refine (zOu _ _ _ _ _ _ _ rs dd (hr.sl hcr) (hd.sl hcd) (by omega) (by omega)).mono ?_
     rintro e w' ⟨rfl, rfl⟩
     by_cases hge : val dd ≤ val rs
     ·have hged : decide (val dd ≤ val rs) = true := decide_eq_true hge
      rw [hged]
      have HGE := hidd hge
      clear hge hged
      go_wp2_with fail
      refine (take_any _ gr n cr rs hr hcr (by omega) (some ⟨gd, 0, none⟩) ld cd dd (hd.sl hcd) (by omega) (fun b' o h => by cases h; exact fun h => hne3 h.symm) HGE.out).mono ?_
      rintro e w6 ⟨rs', rfl, hr6, hv6, hg6, hs6⟩
      have hq6 := hq.other hg6 (fun h => hne1 h.symm)
      have hd6 := hd.other hg6 (fun h => hne3 h.symm)
      have hb6 : Below w0.heap.size w0 w6 := hb.grown hg6 hb.size (fun j hj => by cases hj; exact hgr)
      have HV6 := hidd hv6
      clear hv6 hr hq hd hb hg6 hs6
      have hjq : j / 32 < N / 32 + 1 := by omega
      obtain ⟨x, hx⟩ : ∃ x, qs.getD (j / 32) 0 = x := ⟨_, rfl⟩
      have hxd := hq6.digs.getD (j / 32)
      have hcell := hq6.cell hjq
      rw [hx] at hxd hcell
      have hfr := hq6.frozen (j / 32)
      have hbit := bit_word hq6.digs HQC.out
      rw [hx] at hbit
      obtain ⟨hor, hxb⟩ := or_bit (Nat.mod_lt j (by decide)) hxd.1 hxd.2 hbit
      obtain ⟨u, hu⟩ : ∃ u, u = x + 2 ^ (j % 32) := ⟨_, rfl⟩
      rw [← hu] at hor hxb
      have hp2 := zG4 (j % 32) (Nat.mod_lt j (by decide))
      have Hx := hidd hx
      have Hu := hidd hu
      have Hbit := hidd hbit
      have hj32 : j % 32 < 32 := Nat.mod_lt j (by decide)
      have hu0 : 0 ≤ u := by omega
      clear hx hu hbit
      go_wp2_with fail
      have hg7 := zDf w6 gq (j / 32) (.int .u32 u)
      have hq7 := hq6.set hjq hu0 hxb
      have hd7 := hd6.other hg7 (fun h => hne2 h.symm)
      have hr7 := hr6.other hg7 hne1
      have hb7 : Below w0.heap.size w0 (w6.setCell ⟨gq, j / 32, none⟩ (.int .u32 u)) := hb6.setCell hgq0 _
      generalize w6.setCell ⟨gq, j / 32, none⟩ (.int .u32 u) = w7 at *
      refine (zK9 _ gd ld cd dd hd7 hcd (by omega)).mono ?_
      rintro e w8 ⟨dd', rfl, hd8, hv8, hg8, hs8⟩
      have hb8 : Below w0.heap.size w0 w8 := hb7.grown hg8 hb7.size (fun j hj => by cases hj; exact hgd0)
      have hq8 := hq7.other hg8 hne2
      have hr8 := hr7.other hg8 hne3
      have HV8 := hidd hv8
      clear hv8 hq7 hd7 hr7 hb7 hg7 hg8 hs8 hq6 hd6 hb6 hr6 hor hcell hfr
      go_wp2
      go_roundw
      case rel =>
       refine ⟨j, by omega, by go_num, hb8, rs', _, dd', hr8, hq8, hd8, ?_, ?_, ?_, ?_⟩
       ·have h1 := HXE.out
        rw [val_set (by have := hq8.len; rw [List.length_set] at this; omega), Hx.out, Hu.out, show x + 2 ^ (j % 32) - x = 2 ^ (j % 32) by omega, zCv, ← Int.pow_add, show 32 * (j / 32) + j % 32 = j by omega, HV6.out, HDJ.out, Int.add_mul, Int.mul_comm (val ys)]
        omega
       ·have h1 := HRL.out
        rw [HV6.out, HDJ.out]
        rw [Int.pow_succ, ← Int.mul_assoc] at h1
        omega
       ·refine ⟨2 * c + 1, ?_⟩
        rw [val_set (by have := hq8.len; rw [List.length_set] at this; omega), Hx.out, Hu.out, show x + 2 ^ (j % 32) - x = 2 ^ (j % 32) by omega, zCv, ← Int.pow_add, show 32 * (j / 32) + j % 32 = j by omega, HQC.out, Int.pow_succ, Int.mul_add, Int.mul_one, Int.mul_assoc]
       ·intro h
        rw [HV8.out, HDJ.out, show j = (j - 1) + 1 by omega, Int.pow_succ, ← Int.mul_assoc, Int.mul_ediv_cancel _ (by decide)]
        rfl
      case measure => simp [intOf]
     ·have hged : decide (val dd ≤ val rs) = false := decide_eq_false hge
      rw [hged]
      have HGE := hidd hge
      clear hge hged
      go_wp2_with fail
      refine (zK9 _ gd ld cd dd hd hcd (by omega)).mono ?_
      rintro e w8 ⟨dd', rfl, hd8, hv8, hg8, hs8⟩
      have hb8 : Below w0.heap.size w0 w8 := hb.grown hg8 hb.size (fun j hj => by cases hj; exact hgd0)
      have hq8 := hq.other hg8 hne2
      have hr8 := hr.other hg8 hne3
      have HV8 := hidd hv8
      clear hv8 hq hd hr hb hg8 hs8
      go_wp2
      go_roundw
      case rel =>
       refine ⟨j, by omega, by go_num, hb8, rs, qs, dd', hr8, hq8, hd8, HXE.out, ?_, ?_, ?_⟩
       ·have h1 := HGE.out
        rw [HDJ.out] at h1
        omega
       ·refine ⟨2 * c, ?_⟩
        rw [HQC.out, Int.pow_succ, Int.mul_assoc]
       ·intro h
        rw [HV8.out, HDJ.out, show j = (j - 1) + 1 by omega, Int.pow_succ, ← Int.mul_assoc, Int.mul_ediv_cancel _ (by decide)]
        rfl
      case measure => simp [intOf]
    ·obtain rfl : k = 0 := by omega
     have hbw : Below w.heap.size w wr := hbl.trans (hb.mono hbl.size)
     obtain ⟨f0, f1, f2, f3⟩ := hI2.out.mono hb hlt
     have hR0 := zAx hr.digs
     have hR1 := HRL.out
     rw [Int.pow_zero, Int.mul_one] at hR1
     have hq1 := zHi (a := val xs) (P := val ys) (V := val qs) (r := val rs) (by have h := HXE.out; rw [Int.mul_comm (val qs)] at h; exact h) hR0 hR1 HY0.out
     have hr1 : val rs = val xs % val ys := by
      rw [Int.emod_def, ← hq1]
      have h := HXE.out
      rw [Int.mul_comm (val qs)] at h
      omega
     have HQ := hidd hq1
     have HM := hidd hr1
     clear hR0 hR1 hq1 hr1
     have hsq := hq.sl (Nat.le_refl _)
     have hsr := hr.sl hcr
     clear hq hr hd
     go_wp2
     obtain ⟨S, hS, hsz, hbS, c0, c1⟩ := zH5 hbw ⟨f0, f1, f2, f3⟩ (.slice (some ⟨gq, 0, none⟩) (N / 32 + 1) (N / 32 + 1)) (.slice (some ⟨gr, 0, none⟩) n cr)
     rw [← hS]
     have hSq : Sl S (some ⟨gq, 0, none⟩) (N / 32 + 1) (N / 32 + 1) qs := by rw [hS]; exact (hsq.setOther f0 (by intro q h; cases h) _).setOther (by rw [World.cell?_setCell_other _ _ _ _ (by intro e; cases e)]; exact f1) (by intro q h; cases h) _
     have hSr : Sl S (some ⟨gr, 0, none⟩) n cr rs := by rw [hS]; exact (hsr.setOther f0 (by intro q h; cases h) _).setOther (by rw [World.cell?_setCell_other _ _ _ _ (by intro e; cases e)]; exact f1) (by intro q h; cases h) _
     clear hS
     refine bodyPost_ret (v := .agg #[.slice (some ⟨gq, 0, none⟩) (N / 32 + 1) (N / 32 + 1), .slice (some ⟨gr, 0, none⟩) n cr]) ?_ rfl ⟨_, _, _, _, _, _, _, _, rfl, hSq, hSr, by omega, by omega, HQ.out, HM.out, hbS⟩
     simp [results, Tryz.results72, go_sem, c0, c1]

theorem zM5 (w : World) (ax ay : Option Addr) (n m cx cy : Nat) (xs ys : List Int) (hX : Sl w ax n cx xs) (hY : Sl w ay m cy ys) (hcx : Canon xs) (hcy : Canon ys) (hy0 : 0 < val ys) (hn : n ≤ 1000000) (hm : m ≤ 1000000) :
  Calls Tryz.prog 72 #[.slice ax n cx, .slice ay m cy] w (DivR w (val xs) (val ys)) := by
 by_cases h : n ≤ 2 ∧ m ≤ 2
 ·exact zM4 w ax ay n m cx cy xs ys hX hY hy0 h.1 h.2
 ·exact zM3 w ax ay n m cx cy xs ys hX hY hcx hcy hy0 hn hm h

theorem zKt (args : Array Value) (w : World) : (callFunc 73 args).run Tryz.prog w = .ok (.enter 73 args) w := zAn Tryz.func73 (by kernel_rfl) rfl args w
theorem zIx (args : Array Value) (w : World) : (callFunc 55 args).run Tryz.prog w = .ok (.enter 55 args) w := zAn Tryz.func55 (by kernel_rfl) rfl args w
theorem zKv (args : Array Value) (w : World) : (callFunc 29 args).run Tryz.prog w = .ok (.enter 29 args) w := zAn Tryz.func29 (by kernel_rfl) rfl args w

theorem zDv (b : Bool) (v : Int) : ab (sgn b v) = ab v := by unfold ab; cases b <;> simp [sgn]

theorem boxes4n (w : World) {n n' : Bool} {ao ao' : Option Addr} {k c k' c' : Nat} {z z' : Int} (h : Num w (.agg #[.bool n, .slice ao k c]) z) (h' : Num w (.agg #[.bool n', .slice ao' k' c']) z') (t : TypeId) :
  ∃ w0, w0 = (((w.alloc (.cells #[.bool n, .slice ao k c] t)).alloc (.cells #[.bool n', .slice ao' k' c'] t)).alloc (.cells #[.bool false, .slice none 0 0] t)).alloc (.cells #[.bool false, .slice none 0 0] t) ∧
   BoxNum w0 w.heap.size z ∧ BoxNum w0 (w.heap.size + 1) z' ∧ BoxNum w0 (w.heap.size + 1 + 1) 0 ∧ BoxNum w0 (w.heap.size + 1 + 1 + 1) 0 ∧ Below w.heap.size w w0 := by
 obtain ⟨w0, hw0, hA, hB, hC, hD, hbl, HS⟩ := boxes4 w (.bool n) (.slice ao k c) (.bool n') (.slice ao' k' c') t
 exact ⟨w0, hw0, ⟨_, _, _, _, hA, h.mono hbl⟩, ⟨_, _, _, _, hB, h'.mono hbl⟩, ⟨_, _, _, _, hC, Num.zero _⟩, ⟨_, _, _, _, hD, Num.zero _⟩, hbl⟩

theorem zFk {a b q r : Int} (hb : b ≠ 0) (h : a = q * b + r) (h0 : 0 ≤ r) (h1 : r < ab b) : q = a / b ∧ r = a % b := by
 have h2 : a % b = r := by
  rw [h, Int.add_comm, Int.add_mul_emod_self_right]
  rcases Int.lt_or_gt_of_ne hb with hb' | hb'
  ·rw [← Int.emod_neg, Int.emod_eq_of_lt h0 (by unfold ab at h1; omega)]
  ·exact Int.emod_eq_of_lt h0 (by unfold ab at h1; omega)
 have h3 := Int.mul_ediv_add_emod a b
 rw [h2] at h3
 have h4 : b * (a / b) = b * q := by rw [Int.mul_comm b q]; omega
 exact ⟨(Int.eq_of_mul_eq_mul_left hb h4).symm, h2.symm⟩

theorem dm_end {x y q0 r0 q r : Int} {a1 b1 a2 : Bool} (hy : y ≠ 0) (hd : ab y * q + r = ab x) (h0 : 0 ≤ r) (h1 : r < ab y) (nx : a1 = true → x < 0) (px : a1 = false → 0 ≤ x) (nx2 : a2 = true → x < 0) (px2 : a2 = false → 0 ≤ x)
  (ny : b1 = true → y < 0) (py : b1 = false → 0 ≤ y) (hq : q0 = sgn (!a1 == b1) q) (hr : r0 = sgn a2 r) :
  (0 ≤ r0 → q0 = x / y ∧ r0 = x % y) ∧ (r0 < 0 → 0 ≤ y → q0 - 1 = x / y ∧ r0 + (y.natAbs : Int) = x % y) ∧ (r0 < 0 → y < 0 → q0 + 1 = x / y ∧ r0 + (y.natAbs : Int) = x % y) := by
 have e1 : ab y = (y.natAbs : Int) := rfl
 by_cases hx : x < 0 <;> by_cases hyy : y < 0
 ·obtain rfl : a1 = true := by cases a1; exact absurd (px rfl) (by omega); rfl
  obtain rfl : a2 = true := by cases a2; exact absurd (px2 rfl) (by omega); rfl
  obtain rfl : b1 = true := by cases b1; exact absurd (py rfl) (by omega); rfl
  have ax : ab x = -x := by unfold ab; omega
  have ay : ab y = -y := by unfold ab; omega
  simp [sgn] at hq hr
  rw [ax, ay, Int.neg_mul, Int.mul_comm] at hd
  rw [ay] at h1
  subst hq
  subst hr
  refine ⟨fun h => zFk hy (by omega) h (by rw [ay]; omega), fun h h' => by omega, fun h _ => zFk hy (by rw [Int.add_mul, Int.one_mul]; omega) (by omega) (by rw [ay]; omega)⟩
 ·obtain rfl : a1 = true := by cases a1; exact absurd (px rfl) (by omega); rfl
  obtain rfl : a2 = true := by cases a2; exact absurd (px2 rfl) (by omega); rfl
  obtain rfl : b1 = false := by cases b1; rfl; exact absurd (ny rfl) (by omega)
  have ax : ab x = -x := by unfold ab; omega
  have ay : ab y = y := by unfold ab; omega
  simp [sgn] at hq hr
  rw [ax, ay, Int.mul_comm] at hd
  rw [ay] at h1
  subst hq
  subst hr
  refine ⟨fun h => zFk hy (by rw [Int.neg_mul]; omega) h (by rw [ay]; omega), fun h _ => zFk hy (by rw [Int.sub_mul, Int.one_mul, Int.neg_mul]; omega) (by omega) (by rw [ay]; omega), fun h h' => by omega⟩
 ·obtain rfl : a1 = false := by cases a1; rfl; exact absurd (nx rfl) (by omega)
  obtain rfl : a2 = false := by cases a2; rfl; exact absurd (nx2 rfl) (by omega)
  obtain rfl : b1 = true := by cases b1; exact absurd (py rfl) (by omega); rfl
  have ax : ab x = x := by unfold ab; omega
  have ay : ab y = -y := by unfold ab; omega
  simp [sgn] at hq hr
  rw [ax, ay, Int.neg_mul, Int.mul_comm] at hd
  rw [ay] at h1
  subst hq
  subst hr
  refine ⟨fun h => zFk hy (by rw [Int.neg_mul]; omega) h (by rw [ay]; omega), fun h _ => by omega, fun h _ => by omega⟩
 ·obtain rfl : a1 = false := by cases a1; rfl; exact absurd (nx rfl) (by omega)
  obtain rfl : a2 = false := by cases a2; rfl; exact absurd (nx2 rfl) (by omega)
  obtain rfl : b1 = false := by cases b1; rfl; exact absurd (ny rfl) (by omega)
  have ax : ab x = x := by unfold ab; omega
  have ay : ab y = y := by unfold ab; omega
  simp [sgn] at hq hr
  rw [ax, ay, Int.mul_comm] at hd
  rw [ay] at h1
  subst hq
  subst hr
  refine ⟨fun h => zFk hy (by omega) h (by rw [ay]; omega), fun h _ => by omega, fun h _ => by omega⟩

set_option maxRecDepth 100000 in
set_option maxHeartbeats 8000000 in
theorem zIe {w : World} {v v' : Value} {x y : Int} (h : Num w v x) (h' : Num w v' y) (hx : ab x < pw 1000) (hy : ab y < pw 1000) : Calls Tryz.prog 51 #[v, v'] w (zG6 w x y) := by
 obtain ⟨n, ao, k, c, rfl⟩ := h.parts
 obtain ⟨n', ao', k', c', rfl⟩ := h'.parts
 have Bx := hidd hx
 have By := hidd hy
 clear hx hy
 obtain ⟨w0, hw0, XA, XB, X4, X5, HB⟩ := boxes4n w h h' 32
 go_enter Tryz.func51, Tryz.ntmps51
 go_upto_region 1 with (fail)
 rw [← hw0]
 clear hw0 h h'
 obtain ⟨na, aoa, kka, cca, ⟨a0, a1, a2, a3⟩, hNa⟩ := id XA
 obtain ⟨nb, aob, kkb, ccb, ⟨b0, b1, b2, b3⟩, hNb⟩ := id XB
 obtain ⟨xs, sx, cx, kx, zx, vx0, _, negx, posx⟩ := hNa.sign
 obtain ⟨ys, sy, cy, ky, zy, vy0, hky, negy, posy⟩ := hNb.sign
 by_cases hy0 : y = 0
 ·obtain rfl := hky.2 hy0
  obtain ⟨nc, aoc, kkc, ccc, ⟨c0, c1, c2, c3⟩, hNc⟩ := id X4
  obtain ⟨nd, aod, kkd, ccd, ⟨d0, d1, d2, d3⟩, hNd⟩ := id X5
  have hbS := (((HB.setCell (p := ⟨w.heap.size + 1 + 1, 0, none⟩) (by show w.heap.size ≤ w.heap.size + 1 + 1; omega) (.bool false)).setCell (p := ⟨w.heap.size + 1 + 1, 1, none⟩) (by show w.heap.size ≤ w.heap.size + 1 + 1; omega) (.slice none 0 0)).setCell (p := ⟨w.heap.size + 1 + 1 + 1, 0, none⟩) (by show w.heap.size ≤ w.heap.size + 1 + 1 + 1; omega) (.bool false)).setCell (p := ⟨w.heap.size + 1 + 1 + 1, 1, none⟩) (by show w.heap.size ≤ w.heap.size + 1 + 1 + 1; omega) (.slice none 0 0)
  clear hky zx zy negx posx negy posy
  go_wp2
  refine bodyPost_ret (v := .tuple #[.agg #[.bool false, .slice none 0 0], .agg #[.bool false, .slice none 0 0], .int .i64 4]) ?_ rfl ⟨hbS, .inl ⟨hy0, rfl⟩⟩
  simp [results, Tryz.results51, go_sem, c0, c1, d0, d1]
 ·have Hy0 := hidd hy0
  have hkb : ((kkb : Int) == 0) = false := by simp; exact fun h => hy0 (hky.1 h)
  have vy1 : 0 < val ys := by rcases (by omega : val ys = 0 ∨ 0 < val ys) with h | h; exact absurd (by rw [zy, h]; cases nb <;> rfl) hy0; exact h
  have Kq : Hid (ab (val xs / val ys) < pw 1000) := by have h1 := Int.ediv_le_self (val ys) vx0; have h2 := Int.ediv_nonneg vx0 (Int.le_of_lt vy1); show ab _ < _; rw [zBl h2]; have h3 := Bx.out; rw [zx, zDv, zBl vx0] at h3; omega
  have Kr : Hid (ab (val xs % val ys) < pw 1000) := by have h1 := Int.emod_lt_of_pos (val xs) vy1; have h2 := Int.emod_nonneg (val xs) (Int.ne_of_gt vy1); show ab _ < _; rw [zBl h2]; have h3 := By.out; rw [zy, zDv, zBl vy0] at h3; omega
  have Zx := hidd zx
  have Zy := hidd zy
  have Ny := hidd negy
  have Py := hidd posy
  have V0 := hidd vx0
  have V1 := hidd vy1
  clear hy0 hky zx zy negx posx negy posy vx0 vy0 vy1
  go_wp2_with fail
  clear hkb
  refine (zM5 _ _ _ _ _ _ _ xs ys sx sy cx cy V1.out (by omega) (by omega)).mono ?_
  rintro e w1 ⟨aq, lq, cq, qs, ar, lr, cr, rs, rfl, sq, sr, hlq, hlr, vq, vr, hb⟩
  have Vq := hidd vq
  have Vr := hidd vr
  clear vq vr
  clear a0 a1 a2 a3 hNa b0 b1 b2 b3 hNb
  clear sx sy
  replace XA := XA.mono hb
  replace XB := XB.mono hb
  replace X4 := X4.mono hb
  replace X5 := X5.mono hb
  replace HB := HB.trans (hb.mono HB.size)
  clear hb
  go_upto_region 4 with (fail)
  obtain ⟨w2, hw2, hI7⟩ : ∃ w2, w2 = w1.alloc (.cells #[.slice aq lq cq, .slice ar lr cr] 89) ∧ IntBox w2 w1.heap.size (.slice aq lq cq) (.slice ar lr cr) := ⟨_, rfl, IntBox.new _ _ _ _⟩
  rw [← hw2]
  have hb : Below w1.heap.size w1 w2 := by rw [hw2]; exact zAq _ _
  have hlt1 := X5.lt
  clear hw2
  replace XA := XA.mono hb
  replace XB := XB.mono hb
  replace X4 := X4.mono hb
  replace X5 := X5.mono hb
  replace HB := HB.trans (hb.mono HB.size)
  replace sq := sq.mono hb
  replace sr := sr.mono hb
  clear hb
  obtain ⟨g7, hg7⟩ : ∃ g7, g7 = w1.heap.size := ⟨_, rfl⟩
  rw [← hg7] at hI7 hlt1
  rw [← hg7]
  clear hg7
  have hlt2 := hI7.lt
  obtain ⟨na, aoa, kka, cca, ⟨a0, a1, a2, a3⟩, hNa⟩ := id XA
  obtain ⟨nb, aob, kkb, ccb, ⟨b0, b1, b2, b3⟩, hNb⟩ := id XB
  have hI7c := hI7
  obtain ⟨i0, i1, _, _⟩ := hI7
  go_wp2_with fail
  obtain ⟨_, _, _, _, _, _, _, negx, posx⟩ := hNa.sign
  obtain ⟨_, _, _, _, _, _, _, negy, posy⟩ := hNb.sign
  have Nx := hidd negx
  have Px := hidd posx
  have Ny2 := hidd negy
  have Py2 := hidd posy
  clear negx posx negy posy
  have Ax : Hid (val xs = ab x) := by show val xs = ab x; rw [Zx.out, zDv, zBl V0.out]
  have Ay : Hid (val ys = ab y) := by show val ys = ab y; rw [Zy.out, zDv, zBl (Int.le_of_lt V1.out)]
  obtain ⟨q0, hq0⟩ : ∃ q0, q0 = sgn (!na == nb) (val qs) := ⟨_, rfl⟩
  have Bq0 : Hid (ab q0 < pw 1000) := by show ab q0 < _; rw [hq0, zDv, Vq.out]; exact Kq.out
  have Hq0 := hidd hq0
  clear hq0
  refine (exKP (z := q0) (by rw [Hq0.out]; exact zDh _ _ _ _ _ _ sq (by omega)) Bq0.out (by omega)).mono ?_
  rintro e w3 ⟨n3', ao3, kk3, c3', rfl, hb, hN3⟩
  replace hI7c := hI7c.mono hb hlt2
  have hlt3 := hb.size
  clear a0 a1 a2 a3 hNa b0 b1 b2 b3 hNb
  clear i0 i1
  replace XA := XA.mono hb
  replace XB := XB.mono hb
  replace X4 := X4.mono hb
  replace X5 := X5.mono hb
  replace HB := HB.trans (hb.mono HB.size)
  replace sr := sr.mono hb
  clear hb
  replace hlt2 : g7 < w3.heap.size := by omega
  clear hlt3
  go_upto_region 5 with (fail)
  obtain ⟨w11, hw11, hb, p1⟩ := zDl hN3 32
  rw [← hw11]
  clear hw11
  replace hI7c := hI7c.mono hb hlt2
  have hsz1 := hb.size
  replace XA := XA.mono hb
  replace XB := XB.mono hb
  replace X4 := X4.mono hb
  replace X5 := X5.mono hb
  replace HB := HB.trans (hb.mono HB.size)
  replace sr := sr.mono hb
  clear hb
  obtain ⟨g8, hg8⟩ : ∃ g, g = w3.heap.size := ⟨_, rfl⟩
  rw [← hg8] at p1 hlt2 hsz1
  rw [← hg8]
  clear hg8
  have X8 := p1
  have hlt8 := hlt2
  replace hlt2 : g7 < w11.heap.size := by omega
  clear p1 hsz1
  obtain ⟨na, aoa, kka, cca, ⟨a0, a1, a2, a3⟩, hNa⟩ := id XA
  have hI7d := hI7c
  obtain ⟨i0, i1, _, _⟩ := hI7c
  rename IntBox _ g7 _ _ => hI7c
  obtain ⟨_, _, _, _, _, _, _, negx, posx⟩ := hNa.sign
  have Nx2 := hidd negx
  have Px2 := hidd posx
  clear negx posx
  go_wp2_with fail
  obtain ⟨r0, hr0⟩ : ∃ r0, r0 = sgn na (val rs) := ⟨_, rfl⟩
  have Br0 : Hid (ab r0 < pw 1000) := by show ab r0 < _; rw [hr0, zDv, Vr.out]; exact Kr.out
  have Hr0 := hidd hr0
  clear hr0
  refine (exKP (z := r0) (by rw [Hr0.out]; exact zDh _ _ _ _ _ _ sr (by omega)) Br0.out (by omega)).mono ?_
  rintro e w4 ⟨n4', ao4, kk4, c4', rfl, hb, hN4⟩
  replace hI7c := hI7c.mono hb hlt2
  have hlt3 := hb.size
  clear a0 a1 a2 a3 hNa
  clear i0 i1 sr sq
  replace XA := XA.mono hb
  replace XB := XB.mono hb
  replace X4 := X4.mono hb
  replace X5 := X5.mono hb
  replace X8 := X8.mono hb
  replace HB := HB.trans (hb.mono HB.size)
  clear hb
  replace hlt2 : g7 < w4.heap.size := by omega
  have hlt38 : g8 < w4.heap.size := X8.lt
  clear hlt3
  go_upto_region 6 with (fail)
  obtain ⟨w12, hw12, hb, p2⟩ := zDl hN4 32
  rw [← hw12]
  clear hw12
  replace hI7c := hI7c.mono hb hlt2
  have hsz2 := hb.size
  replace XA := XA.mono hb
  replace XB := XB.mono hb
  replace X4 := X4.mono hb
  replace X5 := X5.mono hb
  replace X8 := X8.mono hb
  replace HB := HB.trans (hb.mono HB.size)
  clear hb
  obtain ⟨g9, hg9⟩ : ∃ g, g = w4.heap.size := ⟨_, rfl⟩
  rw [← hg9] at p2 hlt2 hsz2 hlt38
  rw [← hg9]
  clear hg9
  have X9 := p2
  have hlt9 := hlt2
  replace hlt2 : g7 < w12.heap.size := by omega
  clear p2 hsz2
  have hord : w.heap.size + 1 + 1 + 1 < g7 ∧ g7 < g8 ∧ g8 < g9 := by omega
  obtain ⟨ho7, ho8, ho9⟩ := hord
  clear hlt1 hlt2 hlt8 hlt9 hlt38 hI7c
  obtain ⟨nf, aof, kkf, ccf, ⟨f0, f1, f2, f3⟩, hNf⟩ := id X9
  obtain ⟨_, _, _, _, _, _, _, negr, posr⟩ := hNf.sign
  have Nr := hidd negr
  have Pr := hidd posr
  clear negr posr
  cases nf
  ·go_wp2
   have hEu : q0 = x / y ∧ r0 = x % y := by
    have hA := Ax.out
    have hB := Ay.out
    have h1 := Vq.out
    have h2 := Vr.out
    rw [hA, hB] at h1 h2
    have hq := Hq0.out
    have hr := Hr0.out
    rw [h1] at hq
    rw [h2] at hr
    have hv := V1.out
    rw [hB] at hv
    have hd := Int.mul_ediv_add_emod (ab x) (ab y)
    have hm0 := Int.emod_nonneg (ab x) (show ab y ≠ 0 by omega)
    have hm1 := Int.emod_lt_of_pos (ab x) hv
    have D := dm_end Hy0.out hd hm0 hm1 Nx.out Px.out Nx2.out Px2.out Ny2.out Py2.out hq hr
    have pr := Pr.out
    exact D.1 (by simpa using pr)
   have HEu := hidd hEu
   clear hEu
   have hlast := X9.lt
   have hp : (plan [Fc.num q0, Fc.num r0, Fc.any, Fc.any, Fc.is (.int .i64 (0))] [(w.heap.size, 1000, x, x), ((w.heap.size + 1), 1001, y, y), ((w.heap.size + 1 + 1), 2, 0, q0), ((w.heap.size + 1 + 1 + 1), 3, 0, r0), (g8, 1004, q0, q0), (g9, 1005, r0, r0)] []).Ok w.heap.size w12.heap.size := zC6 (by simp; omega) (by simp; try omega) (by simp) (by omega)
   have hm := PMono.of hp
   refine zB4 (p := (plan [Fc.num q0, Fc.num r0, Fc.any, Fc.any, Fc.is (.int .i64 (0))] [(w.heap.size, 1000, x, x), ((w.heap.size + 1), 1001, y, y), ((w.heap.size + 1 + 1), 2, 0, q0), ((w.heap.size + 1 + 1 + 1), 3, 0, r0), (g8, 1004, q0, q0), (g9, 1005, r0, r0)] [])) (B := w.heap.size) (B0 := w12.heap.size) (w0 := w) (by kernel_rfl) rfl rfl (zC7 (by simp; exact ⟨XA, XB, X4, X5, X8, X9⟩) HB) ⟨?_, ?_, ?_, ?_, ?_, trivial⟩ ?_
   ·exact zA0 (b := g8) (k := 1004) (z := q0) (z' := q0) hp (by simp [plan]) (.inl rfl) rfl rfl (fun v w h => h) ⟨by simp [plan], by simp [plan]⟩
   ·exact zA0 (b := g9) (k := 1005) (z := r0) (z' := r0) hp (by simp [plan]) (.inl rfl) rfl rfl (fun v w h => h) ⟨by simp [plan], by simp [plan]⟩
   ·exact zBj (b := (w.heap.size + 1 + 1)) (j := 0) (z := 0) (z' := q0) hp rfl (by simp [plan]) rfl rfl rfl (by simp) rfl (fun v w h => h) (fun _ _ => trivial) (by simp [plan]) (by simp [plan])
   ·exact zBj (b := (w.heap.size + 1 + 1 + 1)) (j := 1) (z := 0) (z' := r0) hp rfl (by simp [plan]) rfl rfl rfl (by simp) rfl (fun v w h => h) (fun _ _ => trivial) (by simp [plan]) (by simp [plan])
   ·exact zIy hm ⟨by simp [plan], by simp [plan]⟩ trivial (zJo (fun _ => rfl))
   intro L vs w3 hL hG
   replace XA : BoxNum w3 w.heap.size x := by have := hG.old (w.heap.size, 1000, x, x) (by simp [plan]); simpa using this
   replace XB : BoxNum w3 (w.heap.size + 1) y := by have := hG.old ((w.heap.size + 1), 1001, y, y) (by simp [plan]); simpa using this
   replace X4 : BoxNum w3 (w.heap.size + 1 + 1) q0 := by have := hG.old ((w.heap.size + 1 + 1), 2, 0, q0) (by simp [plan]); simpa [hL 2 (by simp)] using this
   replace X5 : BoxNum w3 (w.heap.size + 1 + 1 + 1) r0 := by have := hG.old ((w.heap.size + 1 + 1 + 1), 3, 0, r0) (by simp [plan]); simpa [hL 3 (by simp)] using this
   replace X8 : BoxNum w3 g8 q0 := by have := hG.old (g8, 1004, q0, q0) (by simp [plan]); simpa using this
   replace X9 : BoxNum w3 g9 r0 := by have := hG.old (g9, 1005, r0, r0) (by simp [plan]); simpa using this
   have e4 : vs 4 = .int .i64 (0) := hG.val 4 (hL 4 (by simp))
   replace HB := hG.below
   rw [zAa hL]
   simp only [SP, Nat.zero_add, Nat.reduceAdd]
   rw [e4]
   generalize vs 0 = u3_0
   generalize vs 1 = u3_1
   clear hG hm hp hL hlast vs L e4
   obtain ⟨nc, aoc, kkc, ccc, ⟨c0, c1, c2, c3⟩, hNc⟩ := id X4
   obtain ⟨nd, aod, kkd, ccd, ⟨d0, d1, d2, d3⟩, hNd⟩ := id X5
   go_wp2
   refine bodyPost_ret (v := .tuple #[.agg #[.bool nc, .slice aoc kkc ccc], .agg #[.bool nd, .slice aod kkd ccd], .int .i64 0]) ?_ rfl ⟨HB, .inr ⟨Hy0.out, _, _, rfl, by rw [← HEu.out.1]; exact hNc.isInt, by rw [← HEu.out.2]; exact hNd.isInt⟩⟩
   simp [results, Tryz.results51, go_sem, c0, c1, d0, d1]
  ·go_wp2
   have B4 : Hid (ab ((Int.natAbs y : Int)) < pw 1000) := zE6 By.out
   have B5 : Hid (ab ((r0 + (Int.natAbs y : Int))) < pw 1001) := zB7 Br0.out B4.out (by omega) (by omega)
   have hlast := X9.lt
   have hp : (plan [Fc.num r0, Fc.num y, Fc.num (Int.natAbs y : Int), Fc.num (r0 + (Int.natAbs y : Int)), Fc.any] [(w.heap.size, 1000, x, x), ((w.heap.size + 1), 1001, y, y), ((w.heap.size + 1 + 1), 1002, 0, 0), ((w.heap.size + 1 + 1 + 1), 1003, 0, 0), (g8, 1004, q0, q0), (g9, 4, r0, (r0 + (Int.natAbs y : Int)))] []).Ok w.heap.size w12.heap.size := zC6 (by simp; omega) (by simp; try omega) (by simp) (by omega)
   have hm := PMono.of hp
   refine zB4 (p := (plan [Fc.num r0, Fc.num y, Fc.num (Int.natAbs y : Int), Fc.num (r0 + (Int.natAbs y : Int)), Fc.any] [(w.heap.size, 1000, x, x), ((w.heap.size + 1), 1001, y, y), ((w.heap.size + 1 + 1), 1002, 0, 0), ((w.heap.size + 1 + 1 + 1), 1003, 0, 0), (g8, 1004, q0, q0), (g9, 4, r0, (r0 + (Int.natAbs y : Int)))] [])) (B := w.heap.size) (B0 := w12.heap.size) (w0 := w) (by kernel_rfl) rfl rfl (zC7 (by simp; exact ⟨XA, XB, X4, X5, X8, X9⟩) HB) ⟨?_, ?_, ?_, ?_, ?_, trivial⟩ ?_
   ·exact zA0 (b := g9) (k := 4) (z := r0) (z' := (r0 + (Int.natAbs y : Int))) hp (by simp [plan]) (.inr rfl) rfl rfl (fun v w h => h) ⟨by simp [plan], by simp [plan]⟩
   ·exact zA0 (b := (w.heap.size + 1)) (k := 1001) (z := y) (z' := y) hp (by simp [plan]) (.inl rfl) rfl rfl (fun v w h => h) ⟨by simp [plan], by simp [plan]⟩
   ·exact zGp (F := (Fc.num y).P) hm ⟨by simp [plan], by simp [plan]⟩ trivial zKt (zA3 1 rfl rfl (by simp) rfl (fun v w h => h)) (fun v w h => exK (RAbsV h) B4.out (by omega))
   ·exact zC3 (F := (Fc.num r0).P) (G := (Fc.num (Int.natAbs y : Int)).P) hm ⟨by simp [plan], by simp [plan]⟩ trivial zIv (zA3 0 rfl rfl (by simp) rfl (fun v w h => h)) (zA3 2 rfl rfl (by simp) rfl (fun v w h => h)) (fun v v' w h h' => exK (zCy h h') B5.out (by omega))
   ·exact zBj (b := g9) (j := 3) (z := r0) (z' := (r0 + (Int.natAbs y : Int))) hp rfl (by simp [plan]) rfl rfl rfl (by simp) rfl (fun v w h => h) (fun _ _ => trivial) (by simp [plan]) (by simp [plan])
   intro L vs w6 hL hG
   replace XA : BoxNum w6 w.heap.size x := by have := hG.old (w.heap.size, 1000, x, x) (by simp [plan]); simpa using this
   replace XB : BoxNum w6 (w.heap.size + 1) y := by have := hG.old ((w.heap.size + 1), 1001, y, y) (by simp [plan]); simpa using this
   replace X4 : BoxNum w6 (w.heap.size + 1 + 1) 0 := by have := hG.old ((w.heap.size + 1 + 1), 1002, 0, 0) (by simp [plan]); simpa using this
   replace X5 : BoxNum w6 (w.heap.size + 1 + 1 + 1) 0 := by have := hG.old ((w.heap.size + 1 + 1 + 1), 1003, 0, 0) (by simp [plan]); simpa using this
   replace X8 : BoxNum w6 g8 q0 := by have := hG.old (g8, 1004, q0, q0) (by simp [plan]); simpa using this
   replace X9 : BoxNum w6 g9 (r0 + (Int.natAbs y : Int)) := by have := hG.old (g9, 4, r0, (r0 + (Int.natAbs y : Int))) (by simp [plan]); simpa [hL 4 (by simp)] using this
   replace HB := hG.below
   rw [zAa hL]
   simp only [SP, Nat.zero_add, Nat.reduceAdd]
   generalize vs 0 = u6_0
   generalize vs 1 = u6_1
   generalize vs 2 = u6_2
   generalize vs 3 = u6_3
   clear hG hm hp hL hlast vs L 
   obtain ⟨nb, aob, kkb, ccb, ⟨b0, b1, b2, b3⟩, hNb⟩ := id XB
   obtain ⟨_, _, _, _, _, _, _, negy, posy⟩ := hNb.sign
   have Ny3 := hidd negy
   have Py3 := hidd posy
   clear negy posy
   cases nb
   ·go_wp2
    have B7 : Hid (ab (1) < pw 2) := by show ab (1) < pw 2; decide
    have B8 : Hid (ab ((q0 - (1))) < pw 1001) := zBi Bq0.out B7.out (by omega) (by omega)
    have hlast := X9.lt
    have hp : (plan [Fc.num q0, Fc.num (1), Fc.num (q0 - (1)), Fc.any] [(w.heap.size, 1000, x, x), ((w.heap.size + 1), 1001, y, y), ((w.heap.size + 1 + 1), 1002, 0, 0), ((w.heap.size + 1 + 1 + 1), 1003, 0, 0), (g8, 3, q0, (q0 - (1))), (g9, 1005, (r0 + (Int.natAbs y : Int)), (r0 + (Int.natAbs y : Int)))] []).Ok w.heap.size w6.heap.size := zC6 (by simp; omega) (by simp; try omega) (by simp) (by omega)
    have hm := PMono.of hp
    refine zB4 (p := (plan [Fc.num q0, Fc.num (1), Fc.num (q0 - (1)), Fc.any] [(w.heap.size, 1000, x, x), ((w.heap.size + 1), 1001, y, y), ((w.heap.size + 1 + 1), 1002, 0, 0), ((w.heap.size + 1 + 1 + 1), 1003, 0, 0), (g8, 3, q0, (q0 - (1))), (g9, 1005, (r0 + (Int.natAbs y : Int)), (r0 + (Int.natAbs y : Int)))] [])) (B := w.heap.size) (B0 := w6.heap.size) (w0 := w) (by kernel_rfl) rfl rfl (zC7 (by simp; exact ⟨XA, XB, X4, X5, X8, X9⟩) HB) ⟨?_, ?_, ?_, ?_, trivial⟩ ?_
    ·exact zA0 (b := g8) (k := 3) (z := q0) (z' := (q0 - (1))) hp (by simp [plan]) (.inr rfl) rfl rfl (fun v w h => h) ⟨by simp [plan], by simp [plan]⟩
    ·exact g_callC hm ⟨by simp [plan], by simp [plan]⟩ trivial zIw (fun w => rOfV w (1) (by omega) (by omega))
    ·exact zC3 (F := (Fc.num q0).P) (G := (Fc.num (1)).P) hm ⟨by simp [plan], by simp [plan]⟩ trivial zIx (zA3 0 rfl rfl (by simp) rfl (fun v w h => h)) (zA3 1 rfl rfl (by simp) rfl (fun v w h => h)) (fun v v' w h h' => exK (zB2 h h' (K := 1000) (Int.lt_of_lt_of_le Bq0.out (zAg (by omega))) (Int.lt_of_lt_of_le B7.out (zAg (by omega))) (by omega)) B8.out (by omega))
    ·exact zBj (b := g8) (j := 2) (z := q0) (z' := (q0 - (1))) hp rfl (by simp [plan]) rfl rfl rfl (by simp) rfl (fun v w h => h) (fun _ _ => trivial) (by simp [plan]) (by simp [plan])
    intro L vs w9 hL hG
    replace XA : BoxNum w9 w.heap.size x := by have := hG.old (w.heap.size, 1000, x, x) (by simp [plan]); simpa using this
    replace XB : BoxNum w9 (w.heap.size + 1) y := by have := hG.old ((w.heap.size + 1), 1001, y, y) (by simp [plan]); simpa using this
    replace X4 : BoxNum w9 (w.heap.size + 1 + 1) 0 := by have := hG.old ((w.heap.size + 1 + 1), 1002, 0, 0) (by simp [plan]); simpa using this
    replace X5 : BoxNum w9 (w.heap.size + 1 + 1 + 1) 0 := by have := hG.old ((w.heap.size + 1 + 1 + 1), 1003, 0, 0) (by simp [plan]); simpa using this
    replace X8 : BoxNum w9 g8 (q0 - (1)) := by have := hG.old (g8, 3, q0, (q0 - (1))) (by simp [plan]); simpa [hL 3 (by simp)] using this
    replace X9 : BoxNum w9 g9 (r0 + (Int.natAbs y : Int)) := by have := hG.old (g9, 1005, (r0 + (Int.natAbs y : Int)), (r0 + (Int.natAbs y : Int))) (by simp [plan]); simpa using this
    replace HB := hG.below
    rw [zAa hL]
    simp only [SP, Nat.zero_add, Nat.reduceAdd]
    generalize vs 0 = u9_0
    generalize vs 1 = u9_1
    generalize vs 2 = u9_2
    clear hG hm hp hL hlast vs L 
    go_wp2
    have hEu : (q0 - (1)) = x / y ∧ (r0 + (Int.natAbs y : Int)) = x % y := by
     have hA := Ax.out
     have hB := Ay.out
     have h1 := Vq.out
     have h2 := Vr.out
     rw [hA, hB] at h1 h2
     have hq := Hq0.out
     have hr := Hr0.out
     rw [h1] at hq
     rw [h2] at hr
     have hv := V1.out
     rw [hB] at hv
     have hd := Int.mul_ediv_add_emod (ab x) (ab y)
     have hm0 := Int.emod_nonneg (ab x) (show ab y ≠ 0 by omega)
     have hm1 := Int.emod_lt_of_pos (ab x) hv
     have D := dm_end Hy0.out hd hm0 hm1 Nx.out Px.out Nx2.out Px2.out Ny2.out Py2.out hq hr
     have nr := Nr.out
     have ny3 := Ny3.out
     have py3 := Py3.out
     exact D.2.1 (by simpa using nr) (by simpa using py3)
    have HEu := hidd hEu
    clear hEu
    have hlast := X9.lt
    have hp : (plan [Fc.num (q0 - (1)), Fc.num (r0 + (Int.natAbs y : Int)), Fc.any, Fc.any, Fc.is (.int .i64 (0))] [(w.heap.size, 1000, x, x), ((w.heap.size + 1), 1001, y, y), ((w.heap.size + 1 + 1), 2, 0, (q0 - (1))), ((w.heap.size + 1 + 1 + 1), 3, 0, (r0 + (Int.natAbs y : Int))), (g8, 1004, (q0 - (1)), (q0 - (1))), (g9, 1005, (r0 + (Int.natAbs y : Int)), (r0 + (Int.natAbs y : Int)))] []).Ok w.heap.size w9.heap.size := zC6 (by simp; omega) (by simp; try omega) (by simp) (by omega)
    have hm := PMono.of hp
    refine zB4 (p := (plan [Fc.num (q0 - (1)), Fc.num (r0 + (Int.natAbs y : Int)), Fc.any, Fc.any, Fc.is (.int .i64 (0))] [(w.heap.size, 1000, x, x), ((w.heap.size + 1), 1001, y, y), ((w.heap.size + 1 + 1), 2, 0, (q0 - (1))), ((w.heap.size + 1 + 1 + 1), 3, 0, (r0 + (Int.natAbs y : Int))), (g8, 1004, (q0 - (1)), (q0 - (1))), (g9, 1005, (r0 + (Int.natAbs y : Int)), (r0 + (Int.natAbs y : Int)))] [])) (B := w.heap.size) (B0 := w9.heap.size) (w0 := w) (by kernel_rfl) rfl rfl (zC7 (by simp; exact ⟨XA, XB, X4, X5, X8, X9⟩) HB) ⟨?_, ?_, ?_, ?_, ?_, trivial⟩ ?_
    ·exact zA0 (b := g8) (k := 1004) (z := (q0 - (1))) (z' := (q0 - (1))) hp (by simp [plan]) (.inl rfl) rfl rfl (fun v w h => h) ⟨by simp [plan], by simp [plan]⟩
    ·exact zA0 (b := g9) (k := 1005) (z := (r0 + (Int.natAbs y : Int))) (z' := (r0 + (Int.natAbs y : Int))) hp (by simp [plan]) (.inl rfl) rfl rfl (fun v w h => h) ⟨by simp [plan], by simp [plan]⟩
    ·exact zBj (b := (w.heap.size + 1 + 1)) (j := 0) (z := 0) (z' := (q0 - (1))) hp rfl (by simp [plan]) rfl rfl rfl (by simp) rfl (fun v w h => h) (fun _ _ => trivial) (by simp [plan]) (by simp [plan])
    ·exact zBj (b := (w.heap.size + 1 + 1 + 1)) (j := 1) (z := 0) (z' := (r0 + (Int.natAbs y : Int))) hp rfl (by simp [plan]) rfl rfl rfl (by simp) rfl (fun v w h => h) (fun _ _ => trivial) (by simp [plan]) (by simp [plan])
    ·exact zIy hm ⟨by simp [plan], by simp [plan]⟩ trivial (zJo (fun _ => rfl))
    intro L vs w10 hL hG
    replace XA : BoxNum w10 w.heap.size x := by have := hG.old (w.heap.size, 1000, x, x) (by simp [plan]); simpa using this
    replace XB : BoxNum w10 (w.heap.size + 1) y := by have := hG.old ((w.heap.size + 1), 1001, y, y) (by simp [plan]); simpa using this
    replace X4 : BoxNum w10 (w.heap.size + 1 + 1) (q0 - (1)) := by have := hG.old ((w.heap.size + 1 + 1), 2, 0, (q0 - (1))) (by simp [plan]); simpa [hL 2 (by simp)] using this
    replace X5 : BoxNum w10 (w.heap.size + 1 + 1 + 1) (r0 + (Int.natAbs y : Int)) := by have := hG.old ((w.heap.size + 1 + 1 + 1), 3, 0, (r0 + (Int.natAbs y : Int))) (by simp [plan]); simpa [hL 3 (by simp)] using this
    replace X8 : BoxNum w10 g8 (q0 - (1)) := by have := hG.old (g8, 1004, (q0 - (1)), (q0 - (1))) (by simp [plan]); simpa using this
    replace X9 : BoxNum w10 g9 (r0 + (Int.natAbs y : Int)) := by have := hG.old (g9, 1005, (r0 + (Int.natAbs y : Int)), (r0 + (Int.natAbs y : Int))) (by simp [plan]); simpa using this
    have e4 : vs 4 = .int .i64 (0) := hG.val 4 (hL 4 (by simp))
    replace HB := hG.below
    rw [zAa hL]
    simp only [SP, Nat.zero_add, Nat.reduceAdd]
    rw [e4]
    generalize vs 0 = u10_0
    generalize vs 1 = u10_1
    clear hG hm hp hL hlast vs L e4
    obtain ⟨nc, aoc, kkc, ccc, ⟨c0, c1, c2, c3⟩, hNc⟩ := id X4
    obtain ⟨nd, aod, kkd, ccd, ⟨d0, d1, d2, d3⟩, hNd⟩ := id X5
    go_wp2
    refine bodyPost_ret (v := .tuple #[.agg #[.bool nc, .slice aoc kkc ccc], .agg #[.bool nd, .slice aod kkd ccd], .int .i64 0]) ?_ rfl ⟨HB, .inr ⟨Hy0.out, _, _, rfl, by rw [← HEu.out.1]; exact hNc.isInt, by rw [← HEu.out.2]; exact hNd.isInt⟩⟩
    simp [results, Tryz.results51, go_sem, c0, c1, d0, d1]
   ·go_wp2
    have B11 : Hid (ab (1) < pw 2) := by show ab (1) < pw 2; decide
    have B12 : Hid (ab ((q0 + (1))) < pw 1001) := zB7 Bq0.out B11.out (by omega) (by omega)
    have hlast := X9.lt
    have hp : (plan [Fc.num q0, Fc.num (1), Fc.num (q0 + (1)), Fc.any] [(w.heap.size, 1000, x, x), ((w.heap.size + 1), 1001, y, y), ((w.heap.size + 1 + 1), 1002, 0, 0), ((w.heap.size + 1 + 1 + 1), 1003, 0, 0), (g8, 3, q0, (q0 + (1))), (g9, 1005, (r0 + (Int.natAbs y : Int)), (r0 + (Int.natAbs y : Int)))] []).Ok w.heap.size w6.heap.size := zC6 (by simp; omega) (by simp; try omega) (by simp) (by omega)
    have hm := PMono.of hp
    refine zB4 (p := (plan [Fc.num q0, Fc.num (1), Fc.num (q0 + (1)), Fc.any] [(w.heap.size, 1000, x, x), ((w.heap.size + 1), 1001, y, y), ((w.heap.size + 1 + 1), 1002, 0, 0), ((w.heap.size + 1 + 1 + 1), 1003, 0, 0), (g8, 3, q0, (q0 + (1))), (g9, 1005, (r0 + (Int.natAbs y : Int)), (r0 + (Int.natAbs y : Int)))] [])) (B := w.heap.size) (B0 := w6.heap.size) (w0 := w) (by kernel_rfl) rfl rfl (zC7 (by simp; exact ⟨XA, XB, X4, X5, X8, X9⟩) HB) ⟨?_, ?_, ?_, ?_, trivial⟩ ?_
    ·exact zA0 (b := g8) (k := 3) (z := q0) (z' := (q0 + (1))) hp (by simp [plan]) (.inr rfl) rfl rfl (fun v w h => h) ⟨by simp [plan], by simp [plan]⟩
    ·exact g_callC hm ⟨by simp [plan], by simp [plan]⟩ trivial zIw (fun w => rOfV w (1) (by omega) (by omega))
    ·exact zC3 (F := (Fc.num q0).P) (G := (Fc.num (1)).P) hm ⟨by simp [plan], by simp [plan]⟩ trivial zIv (zA3 0 rfl rfl (by simp) rfl (fun v w h => h)) (zA3 1 rfl rfl (by simp) rfl (fun v w h => h)) (fun v v' w h h' => exK (zCy h h') B12.out (by omega))
    ·exact zBj (b := g8) (j := 2) (z := q0) (z' := (q0 + (1))) hp rfl (by simp [plan]) rfl rfl rfl (by simp) rfl (fun v w h => h) (fun _ _ => trivial) (by simp [plan]) (by simp [plan])
    intro L vs w13 hL hG
    replace XA : BoxNum w13 w.heap.size x := by have := hG.old (w.heap.size, 1000, x, x) (by simp [plan]); simpa using this
    replace XB : BoxNum w13 (w.heap.size + 1) y := by have := hG.old ((w.heap.size + 1), 1001, y, y) (by simp [plan]); simpa using this
    replace X4 : BoxNum w13 (w.heap.size + 1 + 1) 0 := by have := hG.old ((w.heap.size + 1 + 1), 1002, 0, 0) (by simp [plan]); simpa using this
    replace X5 : BoxNum w13 (w.heap.size + 1 + 1 + 1) 0 := by have := hG.old ((w.heap.size + 1 + 1 + 1), 1003, 0, 0) (by simp [plan]); simpa using this
    replace X8 : BoxNum w13 g8 (q0 + (1)) := by have := hG.old (g8, 3, q0, (q0 + (1))) (by simp [plan]); simpa [hL 3 (by simp)] using this
    replace X9 : BoxNum w13 g9 (r0 + (Int.natAbs y : Int)) := by have := hG.old (g9, 1005, (r0 + (Int.natAbs y : Int)), (r0 + (Int.natAbs y : Int))) (by simp [plan]); simpa using this
    replace HB := hG.below
    rw [zAa hL]
    simp only [SP, Nat.zero_add, Nat.reduceAdd]
    generalize vs 0 = u13_0
    generalize vs 1 = u13_1
    generalize vs 2 = u13_2
    clear hG hm hp hL hlast vs L 
    go_wp2
    have hEu : (q0 + (1)) = x / y ∧ (r0 + (Int.natAbs y : Int)) = x % y := by
     have hA := Ax.out
     have hB := Ay.out
     have h1 := Vq.out
     have h2 := Vr.out
     rw [hA, hB] at h1 h2
     have hq := Hq0.out
     have hr := Hr0.out
     rw [h1] at hq
     rw [h2] at hr
     have hv := V1.out
     rw [hB] at hv
     have hd := Int.mul_ediv_add_emod (ab x) (ab y)
     have hm0 := Int.emod_nonneg (ab x) (show ab y ≠ 0 by omega)
     have hm1 := Int.emod_lt_of_pos (ab x) hv
     have D := dm_end Hy0.out hd hm0 hm1 Nx.out Px.out Nx2.out Px2.out Ny2.out Py2.out hq hr
     have nr := Nr.out
     have ny3 := Ny3.out
     have py3 := Py3.out
     exact D.2.2 (by simpa using nr) (by simpa using ny3)
    have HEu := hidd hEu
    clear hEu
    have hlast := X9.lt
    have hp : (plan [Fc.num (q0 + (1)), Fc.num (r0 + (Int.natAbs y : Int)), Fc.any, Fc.any, Fc.is (.int .i64 (0))] [(w.heap.size, 1000, x, x), ((w.heap.size + 1), 1001, y, y), ((w.heap.size + 1 + 1), 2, 0, (q0 + (1))), ((w.heap.size + 1 + 1 + 1), 3, 0, (r0 + (Int.natAbs y : Int))), (g8, 1004, (q0 + (1)), (q0 + (1))), (g9, 1005, (r0 + (Int.natAbs y : Int)), (r0 + (Int.natAbs y : Int)))] []).Ok w.heap.size w13.heap.size := zC6 (by simp; omega) (by simp; try omega) (by simp) (by omega)
    have hm := PMono.of hp
    refine zB4 (p := (plan [Fc.num (q0 + (1)), Fc.num (r0 + (Int.natAbs y : Int)), Fc.any, Fc.any, Fc.is (.int .i64 (0))] [(w.heap.size, 1000, x, x), ((w.heap.size + 1), 1001, y, y), ((w.heap.size + 1 + 1), 2, 0, (q0 + (1))), ((w.heap.size + 1 + 1 + 1), 3, 0, (r0 + (Int.natAbs y : Int))), (g8, 1004, (q0 + (1)), (q0 + (1))), (g9, 1005, (r0 + (Int.natAbs y : Int)), (r0 + (Int.natAbs y : Int)))] [])) (B := w.heap.size) (B0 := w13.heap.size) (w0 := w) (by kernel_rfl) rfl rfl (zC7 (by simp; exact ⟨XA, XB, X4, X5, X8, X9⟩) HB) ⟨?_, ?_, ?_, ?_, ?_, trivial⟩ ?_
    ·exact zA0 (b := g8) (k := 1004) (z := (q0 + (1))) (z' := (q0 + (1))) hp (by simp [plan]) (.inl rfl) rfl rfl (fun v w h => h) ⟨by simp [plan], by simp [plan]⟩
    ·exact zA0 (b := g9) (k := 1005) (z := (r0 + (Int.natAbs y : Int))) (z' := (r0 + (Int.natAbs y : Int))) hp (by simp [plan]) (.inl rfl) rfl rfl (fun v w h => h) ⟨by simp [plan], by simp [plan]⟩
    ·exact zBj (b := (w.heap.size + 1 + 1)) (j := 0) (z := 0) (z' := (q0 + (1))) hp rfl (by simp [plan]) rfl rfl rfl (by simp) rfl (fun v w h => h) (fun _ _ => trivial) (by simp [plan]) (by simp [plan])
    ·exact zBj (b := (w.heap.size + 1 + 1 + 1)) (j := 1) (z := 0) (z' := (r0 + (Int.natAbs y : Int))) hp rfl (by simp [plan]) rfl rfl rfl (by simp) rfl (fun v w h => h) (fun _ _ => trivial) (by simp [plan]) (by simp [plan])
    ·exact zIy hm ⟨by simp [plan], by simp [plan]⟩ trivial (zJo (fun _ => rfl))
    intro L vs w14 hL hG
    replace XA : BoxNum w14 w.heap.size x := by have := hG.old (w.heap.size, 1000, x, x) (by simp [plan]); simpa using this
    replace XB : BoxNum w14 (w.heap.size + 1) y := by have := hG.old ((w.heap.size + 1), 1001, y, y) (by simp [plan]); simpa using this
    replace X4 : BoxNum w14 (w.heap.size + 1 + 1) (q0 + (1)) := by have := hG.old ((w.heap.size + 1 + 1), 2, 0, (q0 + (1))) (by simp [plan]); simpa [hL 2 (by simp)] using this
    replace X5 : BoxNum w14 (w.heap.size + 1 + 1 + 1) (r0 + (Int.natAbs y : Int)) := by have := hG.old ((w.heap.size + 1 + 1 + 1), 3, 0, (r0 + (Int.natAbs y : Int))) (by simp [plan]); simpa [hL 3 (by simp)] using this
    replace X8 : BoxNum w14 g8 (q0 + (1)) := by have := hG.old (g8, 1004, (q0 + (1)), (q0 + (1))) (by simp [plan]); simpa using this
    replace X9 : BoxNum w14 g9 (r0 + (Int.natAbs y : Int)) := by have := hG.old (g9, 1005, (r0 + (Int.natAbs y : Int)), (r0 + (Int.natAbs y : Int))) (by simp [plan]); simpa using this
    have e4 : vs 4 = .int .i64 (0) := hG.val 4 (hL 4 (by simp))
    replace HB := hG.below
    rw [zAa hL]
    simp only [SP, Nat.zero_add, Nat.reduceAdd]
    rw [e4]
    generalize vs 0 = u14_0
    generalize vs 1 = u14_1
    clear hG hm hp hL hlast vs L e4
    obtain ⟨nc, aoc, kkc, ccc, ⟨c0, c1, c2, c3⟩, hNc⟩ := id X4
    obtain ⟨nd, aod, kkd, ccd, ⟨d0, d1, d2, d3⟩, hNd⟩ := id X5
    go_wp2
    refine bodyPost_ret (v := .tuple #[.agg #[.bool nc, .slice aoc kkc ccc], .agg #[.bool nd, .slice aod kkd ccd], .int .i64 0]) ?_ rfl ⟨HB, .inr ⟨Hy0.out, _, _, rfl, by rw [← HEu.out.1]; exact hNc.isInt, by rw [← HEu.out.2]; exact hNd.isInt⟩⟩
    simp [results, Tryz.results51, go_sem, c0, c1, d0, d1]

set_option maxRecDepth 100000 in
set_option maxHeartbeats 8000000 in
theorem RDivV {w : World} {v v' : Value} {x y : Int} (h : Num w v x) (h' : Num w v' y) (hx : ab x < pw 1000) (hy : ab y < pw 1000) (hy0 : y ≠ 0) : Calls Tryz.prog 94 #[v, v'] w (zBb w (x / y)) := by
 obtain ⟨n, ao, k, c, rfl⟩ := h.parts
 obtain ⟨n', ao', k', c', rfl⟩ := h'.parts
 have Bx := hidd hx
 have By := hidd hy
 have Hy0 := hidd hy0
 clear hx hy hy0
 obtain ⟨w0, hw0, hXW, X4, HB, _⟩ := zIo w h h' 32
 obtain ⟨XA, XB, _⟩ := hXW w0 (Below.refl _ _)
 clear hXW
 go_enter Tryz.func94, Tryz.ntmps94
 go_upto_region 1 with (fail)
 rw [← hw0]
 clear hw0 h h'
 have hlt0 := X4.lt
 obtain ⟨na, aoa, kka, cca, ⟨a0, a1, a2, a3⟩, hNa⟩ := id XA
 obtain ⟨nb, aob, kkb, ccb, ⟨b0, b1, b2, b3⟩, hNb⟩ := id XB
 go_wp2_with fail
 refine (zIe hNa hNb Bx.out By.out).mono ?_
 rintro e w1 ⟨hb, ⟨h0, _⟩ | ⟨_, vq, vr, rfl, iq, ir⟩⟩
 ·exact absurd h0 Hy0.out
 have Nq := zCh iq (zE7 Bx.out (show 1000 < 1001 by omega)) (by omega)
 have Nr := zCh ir (zCz Hy0.out By.out) (by omega)
 obtain ⟨nq, aq, kq, cq, rfl⟩ := Nq.parts
 obtain ⟨nr, ar, kr, cr, rfl⟩ := Nr.parts
 clear iq ir
 clear a0 a1 a2 a3 hNa b0 b1 b2 b3 hNb
 replace XA := XA.mono hb
 replace XB := XB.mono hb
 replace X4 := X4.mono hb
 replace HB := HB.trans (hb.mono HB.size)
 clear hb
 go_upto_region 2 with (fail)
 obtain ⟨w2, hw2, hb, p5, p6⟩ := boxTwo Nq Nr 32
 rw [← hw2]
 clear hw2
 have hlt1 := X4.lt
 replace XA := XA.mono hb
 replace XB := XB.mono hb
 replace X4 := X4.mono hb
 replace HB := HB.trans (hb.mono HB.size)
 replace Nq := Nq.mono hb
 replace Nr := Nr.mono hb
 clear hb
 obtain ⟨ne, ae, ke, ce, ⟨e0, e1, _, _⟩, hNe⟩ := id p5
 obtain ⟨nc, aoc, kkc, ccc, ⟨c0, c1, c2, c3⟩, hNc⟩ := id X4
 have hNf := hNe.putBox X4 ne ae ke ce
 unfold putBox at hNf
 have hbS := (HB.setCell (p := ⟨w.heap.size + 1 + 1, 0, none⟩) (by show w.heap.size ≤ w.heap.size + 1 + 1; omega) (.bool ne)).setCell (p := ⟨w.heap.size + 1 + 1, 1, none⟩) (by show w.heap.size ≤ w.heap.size + 1 + 1; omega) (.slice ae ke ce)
 have hne1 : ¬ w1.heap.size = w.heap.size + 1 + 1 := by omega
 go_wp2
 refine bodyPost_ret (v := .agg #[.bool ne, .slice ae ke ce]) ?_ rfl ⟨_, rfl, hNf.isInt, hbS⟩
 simp [results, Tryz.results94, go_sem, c0, c1]

set_option maxRecDepth 100000 in
set_option maxHeartbeats 8000000 in
theorem zE5 {w : World} {v v' : Value} {x y : Int} (h : Num w v x) (h' : Num w v' y) (hx : ab x < pw 1000) (hy : ab y < pw 1000) (hy0 : y ≠ 0) : Calls Tryz.prog 28 #[v, v'] w (zBb w (x % y)) := by
 obtain ⟨n, ao, k, c, rfl⟩ := h.parts
 obtain ⟨n', ao', k', c', rfl⟩ := h'.parts
 have Bx := hidd hx
 have By := hidd hy
 have Hy0 := hidd hy0
 clear hx hy hy0
 obtain ⟨w0, hw0, hXW, X4, HB, _⟩ := zIo w h h' 32
 obtain ⟨XA, XB, _⟩ := hXW w0 (Below.refl _ _)
 clear hXW
 go_enter Tryz.func28, Tryz.ntmps28
 go_upto_region 1 with (fail)
 rw [← hw0]
 clear hw0 h h'
 have hlt0 := X4.lt
 obtain ⟨na, aoa, kka, cca, ⟨a0, a1, a2, a3⟩, hNa⟩ := id XA
 obtain ⟨nb, aob, kkb, ccb, ⟨b0, b1, b2, b3⟩, hNb⟩ := id XB
 go_wp2_with fail
 refine (zIe hNa hNb Bx.out By.out).mono ?_
 rintro e w1 ⟨hb, ⟨h0, _⟩ | ⟨_, vq, vr, rfl, iq, ir⟩⟩
 ·exact absurd h0 Hy0.out
 have Nq := zCh iq (zE7 Bx.out (show 1000 < 1001 by omega)) (by omega)
 have Nr := zCh ir (zCz Hy0.out By.out) (by omega)
 obtain ⟨nq, aq, kq, cq, rfl⟩ := Nq.parts
 obtain ⟨nr, ar, kr, cr, rfl⟩ := Nr.parts
 clear iq ir
 clear a0 a1 a2 a3 hNa b0 b1 b2 b3 hNb
 replace XA := XA.mono hb
 replace XB := XB.mono hb
 replace X4 := X4.mono hb
 replace HB := HB.trans (hb.mono HB.size)
 clear hb
 go_upto_region 2 with (fail)
 obtain ⟨w2, hw2, hb, p5, p6⟩ := boxTwo Nq Nr 32
 rw [← hw2]
 clear hw2
 have hlt1 := X4.lt
 replace XA := XA.mono hb
 replace XB := XB.mono hb
 replace X4 := X4.mono hb
 replace HB := HB.trans (hb.mono HB.size)
 replace Nq := Nq.mono hb
 replace Nr := Nr.mono hb
 clear hb
 obtain ⟨ne, ae, ke, ce, ⟨e0, e1, _, _⟩, hNe⟩ := id p6
 obtain ⟨nc, aoc, kkc, ccc, ⟨c0, c1, c2, c3⟩, hNc⟩ := id X4
 have hNf := hNe.putBox X4 ne ae ke ce
 unfold putBox at hNf
 have hbS := (HB.setCell (p := ⟨w.heap.size + 1 + 1, 0, none⟩) (by show w.heap.size ≤ w.heap.size + 1 + 1; omega) (.bool ne)).setCell (p := ⟨w.heap.size + 1 + 1, 1, none⟩) (by show w.heap.size ≤ w.heap.size + 1 + 1; omega) (.slice ae ke ce)
 have hne1 : ¬ w1.heap.size = w.heap.size + 1 + 1 := by omega
 go_wp2
 refine bodyPost_ret (v := .agg #[.bool ne, .slice ae ke ce]) ?_ rfl ⟨_, rfl, hNf.isInt, hbS⟩
 simp [results, Tryz.results28, go_sem, c0, c1]

end Go.Proofs.YtihhlaagndingaaGreat

namespace Go.Proofs.YtihhlaagndingaaGreat
open Go Go.RowKit

theorem zNo (args : Array Value) (w : World) : (callFunc 26 args).run Tryz.prog w = .ok (.enter 26 args) w := zAn Tryz.func26 (by kernel_rfl) rfl args w
theorem zKu (args : Array Value) (w : World) : (callFunc 94 args).run Tryz.prog w = .ok (.enter 94 args) w := zAn Tryz.func94 (by kernel_rfl) rfl args w
theorem zNm (args : Array Value) (w : World) : (callFunc 28 args).run Tryz.prog w = .ok (.enter 28 args) w := zAn Tryz.func28 (by kernel_rfl) rfl args w
theorem zCa {w : World} {v : Value} {z : Int} (h : Num w v z) : Calls Tryz.prog 26 #[v] w fun e w' => ∃ v', e = .returned v' ∧ Below w.heap.size w w' ∧ v' = .int .i64 (cmpI z 0) :=
 (RSignV h).mono fun _ _ hh => ⟨_, hh.1, hh.2, rfl⟩
theorem ab_cmp (x y : Int) : ab (cmpI x y) < pw 1 := by
 have h := zFf x y
 have h2 : (1 : Int) < pw 1 := by decide
 unfold ab
 omega

theorem zOt {a m : Int} (hm : 0 < m) : zDu a m m (a % m) 0 1 := by
 have h0 := Int.emod_nonneg a (show m ≠ 0 by omega)
 have h1 := Int.emod_lt_of_pos a hm
 refine ⟨⟨1, by omega⟩, ⟨-(a / m), ?_⟩, ?_, ?_, ?_, .inr (Int.le_refl _), ?_, .inr (.inl ⟨rfl, rfl, rfl, h0⟩)⟩
 ·have := Int.mul_ediv_add_emod a m
  rw [Int.neg_mul, Int.mul_comm (a / m)]; omega
 ·exact zK6 a m
 ·unfold ab; omega
 ·unfold ab; omega
 ·unfold ab; omega

theorem rbez_pos {a m r u uu : Int} (hm : 0 < m) (h : zDu a m r 0 u uu) : 0 < r := by
 obtain ⟨_, _, _, _, _, _, _, hph⟩ := h
 rcases hph with ⟨_, _, _, h1⟩ | ⟨_, _, h1, _⟩ | ⟨h1, _, _⟩
 ·omega
 ·omega
 ·exact h1

theorem zHc {a m r rr u uu : Int} {K : Nat} (_ : 1 ≤ K) (ha : ab a < pw K) (hm : ab m < pw K) (h : zDu a m r rr u uu) : ab r < pw K ∧ ab rr < pw K ∧ ab u < pw (K + 1) ∧ ab uu < pw (K + 1) := by
 obtain ⟨_, _, _, h1, h2, h3, h4, _⟩ := h
 have := zDi K
 have := zBh K
 exact ⟨by omega, by omega, by omega, by omega⟩

set_option maxRecDepth 100000 in
set_option maxHeartbeats 16000000 in
theorem RBezoutV {w : World} {v v' : Value} {a b : Int} (h : Num w v a) (h' : Num w v' b) (ha : ab a < pw 40) (hb : ab b < pw 40) : Calls Tryz.prog 80 #[v, v'] w (zId w a b) := by
 obtain ⟨n, ao, k, c, rfl⟩ := h.parts
 obtain ⟨n', ao', k', c', rfl⟩ := h'.parts
 have Ba := hidd ha
 have Bb := hidd hb
 clear ha hb
 go_enter Tryz.func80, Tryz.ntmps80
 go_upto_region 1 with (fail)
 obtain ⟨w0, hw0, XA, XB, X4, X5, X6, HB, HS⟩ := boxes5 w h h' 32
 rw [← hw0]
 clear hw0 h h' HS
 obtain ⟨nb, aob, kkb, ccb, ⟨b0, b1, b2, b3⟩, hNb⟩ := id XB
 by_cases hb0 : b = 0
 ·obtain rfl := hNb.len_zero.1.2 hb0
  go_wp2
  clear b0 b1 b2 b3 hNb
  have B1 : Hid (ab ((Int.natAbs a : Int)) < pw 40) := zE6 Ba.out
  have B2 : Hid (ab ((cmpI a 0)) < pw 1) := by show ab (cmpI a 0) < pw 1; exact ab_cmp _ _
  have hlast := X6.lt
  have hp : (plan [Fc.num a, Fc.num (Int.natAbs a : Int), Fc.num a, Fc.is (.int .i64 (cmpI a 0)), Fc.num (cmpI a 0), Fc.num 0, Fc.any, Fc.any, Fc.any] [(w.heap.size, 1000, a, a), ((w.heap.size + 1), 1001, b, b), ((w.heap.size + 1 + 1), 6, 0, (Int.natAbs a : Int)), ((w.heap.size + 1 + 1 + 1), 7, 0, (cmpI a 0)), ((w.heap.size + 1 + 1 + 1 + 1), 8, 0, 0)] []).Ok w.heap.size w0.heap.size := zC6 (by simp; omega) (by simp; try omega) (by simp) (by omega)
  have hm := PMono.of hp
  refine zB4 (p := (plan [Fc.num a, Fc.num (Int.natAbs a : Int), Fc.num a, Fc.is (.int .i64 (cmpI a 0)), Fc.num (cmpI a 0), Fc.num 0, Fc.any, Fc.any, Fc.any] [(w.heap.size, 1000, a, a), ((w.heap.size + 1), 1001, b, b), ((w.heap.size + 1 + 1), 6, 0, (Int.natAbs a : Int)), ((w.heap.size + 1 + 1 + 1), 7, 0, (cmpI a 0)), ((w.heap.size + 1 + 1 + 1 + 1), 8, 0, 0)] [])) (B := w.heap.size) (B0 := w0.heap.size) (w0 := w) (by kernel_rfl) rfl rfl (zC7 (by simp; exact ⟨XA, XB, X4, X5, X6⟩) HB) ⟨?_, ?_, ?_, ?_, ?_, ?_, ?_, ?_, ?_, trivial⟩ ?_
  ·exact zA0 (b := w.heap.size) (k := 1000) (z := a) (z' := a) hp (by simp [plan]) (.inl rfl) rfl rfl (fun v w h => h) ⟨by simp [plan], by simp [plan]⟩
  ·exact zGp (F := (Fc.num a).P) hm ⟨by simp [plan], by simp [plan]⟩ trivial zKt (zA3 0 rfl rfl (by simp) rfl (fun v w h => h)) (fun v w h => exK (RAbsV h) B1.out (by omega))
  ·exact zA0 (b := w.heap.size) (k := 1000) (z := a) (z' := a) hp (by simp [plan]) (.inl rfl) rfl rfl (fun v w h => h) ⟨by simp [plan], by simp [plan]⟩
  ·exact zGp (F := (Fc.num a).P) hm ⟨by simp [plan], by simp [plan]⟩ trivial zNo (zA3 2 rfl rfl (by simp) rfl (fun v w h => h)) (fun v w h => zCa h)
  ·exact zGp (F := fun v _ => v = .int .i64 (cmpI a 0)) hm ⟨by simp [plan], by simp [plan]⟩ trivial zIw (zA3 3 rfl rfl (by simp) rfl (fun v w h => h)) (fun v w h => by subst h; exact rOfV w _ (by have := zFf a 0; omega) (by have := zFf a 0; omega))
  ·exact g_zero hm ⟨by simp [plan], by simp [plan]⟩ trivial (fun w => Num.zero w)
  ·exact zBj (b := (w.heap.size + 1 + 1)) (j := 1) (z := 0) (z' := (Int.natAbs a : Int)) hp rfl (by simp [plan]) rfl rfl rfl (by simp) rfl (fun v w h => h) (fun _ _ => trivial) (by simp [plan]) (by simp [plan])
  ·exact zBj (b := (w.heap.size + 1 + 1 + 1)) (j := 4) (z := 0) (z' := (cmpI a 0)) hp rfl (by simp [plan]) rfl rfl rfl (by simp) rfl (fun v w h => h) (fun _ _ => trivial) (by simp [plan]) (by simp [plan])
  ·exact zBj (b := (w.heap.size + 1 + 1 + 1 + 1)) (j := 5) (z := 0) (z' := 0) hp rfl (by simp [plan]) rfl rfl rfl (by simp) rfl (fun v w h => h) (fun _ _ => trivial) (by simp [plan]) (by simp [plan])
  intro L vs w3 hL hG
  replace XA : BoxNum w3 w.heap.size a := by have := hG.old (w.heap.size, 1000, a, a) (by simp [plan]); simpa using this
  replace XB : BoxNum w3 (w.heap.size + 1) b := by have := hG.old ((w.heap.size + 1), 1001, b, b) (by simp [plan]); simpa using this
  replace X4 : BoxNum w3 (w.heap.size + 1 + 1) (Int.natAbs a : Int) := by have := hG.old ((w.heap.size + 1 + 1), 6, 0, (Int.natAbs a : Int)) (by simp [plan]); simpa [hL 6 (by simp)] using this
  replace X5 : BoxNum w3 (w.heap.size + 1 + 1 + 1) (cmpI a 0) := by have := hG.old ((w.heap.size + 1 + 1 + 1), 7, 0, (cmpI a 0)) (by simp [plan]); simpa [hL 7 (by simp)] using this
  replace X6 : BoxNum w3 (w.heap.size + 1 + 1 + 1 + 1) 0 := by have := hG.old ((w.heap.size + 1 + 1 + 1 + 1), 8, 0, 0) (by simp [plan]); simpa [hL 8 (by simp)] using this
  have e3 : vs 3 = .int .i64 (cmpI a 0) := hG.val 3 (hL 3 (by simp))
  replace HB := hG.below
  rw [zAa hL]
  simp only [SP, Nat.zero_add, Nat.reduceAdd]
  rw [e3]
  generalize vs 0 = u3_0
  generalize vs 1 = u3_1
  generalize vs 2 = u3_2
  generalize vs 4 = u3_4
  generalize vs 5 = u3_5
  clear hG hm hp hL hlast vs L e3
  obtain ⟨nc, aoc, kkc, ccc, ⟨c0, c1, c2, c3⟩, hNc⟩ := id X4
  obtain ⟨nd, aod, kkd, ccd, ⟨d0, d1, d2, d3⟩, hNd⟩ := id X5
  obtain ⟨ne, aoe, kke, cce, ⟨e0, e1, e2, e3⟩, hNe⟩ := id X6
  go_wp2
  refine bodyPost_ret (v := .tuple #[.agg #[.bool nc, .slice aoc kkc ccc], .agg #[.bool nd, .slice aod kkd ccd], .agg #[.bool ne, .slice aoe kke cce]]) ?_ rfl ⟨HB, _, _, _, (Int.gcd a b : Int), _, _, rfl, by rw [hb0, Int.gcd_zero_right]; exact hNc, hNd, hNe, rfl, .inl ⟨hb0, rfl, rfl⟩⟩
  simp [results, Tryz.results80, go_sem, c0, c1, d0, d1, e0, e1]
 ·have Hb0 := hidd hb0
  have hkb : ((kkb : Int) == 0) = false := by simp; exact fun h => hb0 (hNb.len_zero.1.1 h)
  clear hb0
  obtain ⟨m, hm⟩ : ∃ m : Int, m = (Int.natAbs b : Int) := ⟨_, rfl⟩
  have Hm := hidd hm
  have Hmp : Hid (0 < m) := by have := Hb0.out; show 0 < m; omega
  have Bm : Hid (ab m < pw 40) := by have := Bb.out; unfold ab at this; show ab m < _; unfold ab; rw [hm]; exact this
  clear hm
  go_wp2_with fail
  clear hkb
  refine (exKP (z := m) (by rw [Hm.out]; exact RAbsV hNb) Bm.out (by omega)).mono ?_
  rintro e w4 ⟨n4', ao4, kk4, c4', rfl, hb, hN4⟩
  clear b0 b1 b2 b3 hNb
  replace XA := XA.mono hb
  replace XB := XB.mono hb
  replace X4 := X4.mono hb
  replace X5 := X5.mono hb
  replace X6 := X6.mono hb
  replace HB := HB.trans (hb.mono HB.size)
  clear hb
  go_upto_region 4 with (fail)
  obtain ⟨w5, hw5, hb, p5_0⟩ := zDl hN4 32
  rw [← hw5]
  clear hw5
  have hlt5 : (w.heap.size + 1 + 1 + 1 + 1) < w4.heap.size := X6.lt
  replace XA := XA.mono hb
  replace XB := XB.mono hb
  replace X4 := X4.mono hb
  replace X5 := X5.mono hb
  replace X6 := X6.mono hb
  replace HB := HB.trans (hb.mono HB.size)
  clear hb
  obtain ⟨g7, hg7⟩ : ∃ g, g = w4.heap.size := ⟨_, rfl⟩
  rw [← hg7]
  rw [← hg7] at hlt5 p5_0
  clear hg7
  have X7 := p5_0
  clear p5_0
  obtain ⟨na, aoa, kka, cca, ⟨a0, a1, a2, a3⟩, hNa⟩ := id XA
  obtain ⟨nb, aob, kkb, ccb, ⟨b0, b1, b2, b3⟩, hNb⟩ := id X7
  go_wp2_with fail
  have B6 : Hid (ab ((a % m)) < pw 40) := zCz (show m ≠ 0 by have := Hmp.out; omega) Bm.out
  refine (exKP (z := (a % m)) (zE5 hNa hNb (Int.lt_of_lt_of_le Ba.out (zAg (by omega))) (Int.lt_of_lt_of_le Bm.out (zAg (by omega))) (by have := Hmp.out; omega)) B6.out (by omega)).mono ?_
  rintro e w7 ⟨n7', ao7, kk7, c7', rfl, hb, hN7⟩
  clear a0 a1 a2 a3 hNa b0 b1 b2 b3 hNb
  replace XA := XA.mono hb
  replace XB := XB.mono hb
  replace X4 := X4.mono hb
  replace X5 := X5.mono hb
  replace X6 := X6.mono hb
  replace X7 := X7.mono hb
  replace HB := HB.trans (hb.mono HB.size)
  clear hb
  go_upto_region 5 with (fail)
  obtain ⟨w8, hw8, hb, p8_0⟩ := zDl hN7 32
  rw [← hw8]
  clear hw8
  have hlt8 : g7 < w7.heap.size := X7.lt
  replace XA := XA.mono hb
  replace XB := XB.mono hb
  replace X4 := X4.mono hb
  replace X5 := X5.mono hb
  replace X6 := X6.mono hb
  replace X7 := X7.mono hb
  replace HB := HB.trans (hb.mono HB.size)
  clear hb
  obtain ⟨g8, hg8⟩ : ∃ g, g = w7.heap.size := ⟨_, rfl⟩
  rw [← hg8]
  rw [← hg8] at hlt8 p8_0
  clear hg8
  have X8 := p8_0
  clear p8_0
  obtain ⟨nb, aob, kkb, ccb, ⟨b0, b1, b2, b3⟩, hNb⟩ := id X7
  go_upto_region 6 with (fail)
  obtain ⟨w9, hw9, hb, p9_0⟩ := zDl hNb 32
  rw [← hw9]
  clear hw9
  have hlt9 : g8 < w8.heap.size := X8.lt
  replace XA := XA.mono hb
  replace XB := XB.mono hb
  replace X4 := X4.mono hb
  replace X5 := X5.mono hb
  replace X6 := X6.mono hb
  replace X7 := X7.mono hb
  replace X8 := X8.mono hb
  replace HB := HB.trans (hb.mono HB.size)
  clear hb
  obtain ⟨g9, hg9⟩ : ∃ g, g = w8.heap.size := ⟨_, rfl⟩
  rw [← hg9]
  rw [← hg9] at hlt9 p9_0
  clear hg9
  have X9 := p9_0
  clear p9_0
  clear b0 b1 b2 b3 hNb
  have B10 : Hid (ab (1) < pw 2) := by show ab (1) < pw 2; decide
  go_wp2_with fail
  refine (rOfV _ (1) (by omega) (by omega)).mono ?_
  rintro e w11 ⟨v1, rfl, hb, hN1⟩
  obtain ⟨n1, ao1, kk1, c1, rfl⟩ := hN1.parts
  replace XA := XA.mono hb
  replace XB := XB.mono hb
  replace X4 := X4.mono hb
  replace X5 := X5.mono hb
  replace X6 := X6.mono hb
  replace X7 := X7.mono hb
  replace X8 := X8.mono hb
  replace X9 := X9.mono hb
  replace HB := HB.trans (hb.mono HB.size)
  clear hb
  go_upto_region 7 with (fail)
  obtain ⟨w12, hw12, hb, p12_0⟩ := zDl hN1 32
  rw [← hw12]
  clear hw12
  have hlt12 : g9 < w11.heap.size := X9.lt
  replace XA := XA.mono hb
  replace XB := XB.mono hb
  replace X4 := X4.mono hb
  replace X5 := X5.mono hb
  replace X6 := X6.mono hb
  replace X7 := X7.mono hb
  replace X8 := X8.mono hb
  replace X9 := X9.mono hb
  replace HB := HB.trans (hb.mono HB.size)
  clear hb
  obtain ⟨g10, hg10⟩ : ∃ g, g = w11.heap.size := ⟨_, rfl⟩
  rw [← hg10]
  rw [← hg10] at hlt12 p12_0
  clear hg10
  have X10 := p12_0
  clear p12_0
  go_upto_region 8 with (fail)
  obtain ⟨w13, hw13, hb, p13_0⟩ := zDl (Num.zero w12) 32
  rw [← hw13]
  clear hw13
  have hlt13 : g10 < w12.heap.size := X10.lt
  replace XA := XA.mono hb
  replace XB := XB.mono hb
  replace X4 := X4.mono hb
  replace X5 := X5.mono hb
  replace X6 := X6.mono hb
  replace X7 := X7.mono hb
  replace X8 := X8.mono hb
  replace X9 := X9.mono hb
  replace X10 := X10.mono hb
  replace HB := HB.trans (hb.mono HB.size)
  clear hb
  obtain ⟨g11, hg11⟩ : ∃ g, g = w12.heap.size := ⟨_, rfl⟩
  rw [← hg11]
  rw [← hg11] at hlt13 p13_0
  clear hg11
  have X11 := p13_0
  clear p13_0
  have hI0 := zOt (a := a) Hmp.out
  have HI0 := hidd hI0
  clear hI0
  trace_state
  go_loopw [14] (fun _ W => ∃ r rr u uu, zDu a m r rr u uu ∧ BoxNum W w.heap.size a ∧ BoxNum W (w.heap.size + 1) b ∧ BoxNum W (w.heap.size + 1 + 1) 0 ∧ BoxNum W (w.heap.size + 1 + 1 + 1) 0 ∧ BoxNum W (w.heap.size + 1 + 1 + 1 + 1) 0 ∧ BoxNum W g7 m ∧ BoxNum W g8 rr ∧ BoxNum W g9 r ∧ BoxNum W g10 uu ∧ BoxNum W g11 u ∧ Below w.heap.size w W) (fun _ W => zFc W g8)
  case atStart => exact ⟨m, a % m, 0, 1, HI0.out, XA, XB, X4, X5, X6, X7, X8, X9, X10, X11, HB⟩
  case round =>
   obtain ⟨r, rr, u, uu, hI, YA, YB, Y4, Y5, Y6, Y7, Y8, Y9, Y10, Y11, HB⟩ := hrel
   have HI := hidd hI
   clear hI XA XB X4 X5 X6 X7 X8 X9 X10 X11 HI0
   have XA := YA
   have XB := YB
   have X4 := Y4
   have X5 := Y5
   have X6 := Y6
   have X7 := Y7
   have X8 := Y8
   have X9 := Y9
   have X10 := Y10
   have X11 := Y11
   clear YA YB Y4 Y5 Y6 Y7 Y8 Y9 Y10 Y11
   have Br : Hid (ab r < pw 40) := (zHc (by omega) Ba.out Bm.out HI.out).1
   have Brr : Hid (ab rr < pw 40) := (zHc (by omega) Ba.out Bm.out HI.out).2.1
   have Bu : Hid (ab u < pw 41) := (zHc (by omega) Ba.out Bm.out HI.out).2.2.1
   have Buu : Hid (ab uu < pw 41) := (zHc (by omega) Ba.out Bm.out HI.out).2.2.2
   have HBV := hidd (zFd X8)
   obtain ⟨nb, aob, kkb, ccb, ⟨b0, b1, b2, b3⟩, hNb⟩ := id X8
   by_cases h0 : rr = 0
   ·subst h0
    obtain rfl := hNb.len_zero.1.2 rfl
    go_upto_region 15 with (fail)
    clear b0 b1 b2 b3 hNb
    obtain ⟨na, aoa, kka, cca, ⟨a0, a1, a2, a3⟩, hNa⟩ := id X9
    go_upto_region 15 with (fail)
    go_upto_region 16 with (fail)
    obtain ⟨w14, hw14, hb, p14_0⟩ := zDl hNa 32
    rw [← hw14]
    clear hw14
    have hlt14 : g11 < wr.heap.size := X11.lt
    replace XA := XA.mono hb
    replace XB := XB.mono hb
    replace X4 := X4.mono hb
    replace X5 := X5.mono hb
    replace X6 := X6.mono hb
    replace X7 := X7.mono hb
    replace X8 := X8.mono hb
    replace X9 := X9.mono hb
    replace X10 := X10.mono hb
    replace X11 := X11.mono hb
    replace HB := HB.trans (hb.mono HB.size)
    clear hb
    obtain ⟨g16, hg16⟩ : ∃ g, g = wr.heap.size := ⟨_, rfl⟩
    rw [← hg16]
    rw [← hg16] at hlt14 p14_0
    clear hg16
    have X16 := p14_0
    clear p14_0
    clear a0 a1 a2 a3 hNa
    have hrp := rbez_pos Hmp.out HI.out
    obtain ⟨z1, z2, z3, z4⟩ := bez_end (show m ≠ 0 by have := Hmp.out; omega) HI.out
    rw [zBl (Int.le_of_lt hrp)] at z1 z3
    obtain ⟨l1, l2, l3, l4⟩ := zJ2 (show m ≠ 0 by have := Hmp.out; omega) z1 z3
    rw [zBl (Int.le_of_lt Hmp.out)] at l1 l2 l3 l4
    have Hrp := hidd hrp
    have Z1 := hidd z1
    have L1 := hidd l1
    have L2 := hidd l2
    have L3 := hidd l3
    have L4 := hidd l4
    clear hrp z1 z2 z3 z4 l1 l2 l3 l4
    have B15 : Hid (ab ((m / r)) < pw 41) := zE7 Bm.out (by omega)
    have B16 : Hid (ab ((u % (m / r))) < pw 41) := zCz (show m / r ≠ 0 by have := L1.out; omega) B15.out
    have hlast := X16.lt
    have hp : (plan [Fc.num u, Fc.num m, Fc.num r, Fc.num (m / r), Fc.num (u % (m / r)), Fc.any] [(w.heap.size, 1000, a, a), ((w.heap.size + 1), 1001, b, b), ((w.heap.size + 1 + 1), 1002, 0, 0), ((w.heap.size + 1 + 1 + 1), 1003, 0, 0), ((w.heap.size + 1 + 1 + 1 + 1), 1004, 0, 0), (g7, 1005, m, m), (g8, 1006, 0, 0), (g9, 1007, r, r), (g10, 1008, uu, uu), (g11, 5, u, (u % (m / r))), (g16, 1010, r, r)] []).Ok w.heap.size w14.heap.size := zC6 (by simp; omega) (by simp; try omega) (by simp) (by omega)
    have hm := PMono.of hp
    refine zB4 (p := (plan [Fc.num u, Fc.num m, Fc.num r, Fc.num (m / r), Fc.num (u % (m / r)), Fc.any] [(w.heap.size, 1000, a, a), ((w.heap.size + 1), 1001, b, b), ((w.heap.size + 1 + 1), 1002, 0, 0), ((w.heap.size + 1 + 1 + 1), 1003, 0, 0), ((w.heap.size + 1 + 1 + 1 + 1), 1004, 0, 0), (g7, 1005, m, m), (g8, 1006, 0, 0), (g9, 1007, r, r), (g10, 1008, uu, uu), (g11, 5, u, (u % (m / r))), (g16, 1010, r, r)] [])) (B := w.heap.size) (B0 := w14.heap.size) (w0 := w) (by kernel_rfl) rfl rfl (zC7 (by simp; exact ⟨XA, XB, X4, X5, X6, X7, X8, X9, X10, X11, X16⟩) HB) ⟨?_, ?_, ?_, ?_, ?_, ?_, trivial⟩ ?_
    ·exact zA0 (b := g11) (k := 5) (z := u) (z' := (u % (m / r))) hp (by simp [plan]) (.inr rfl) rfl rfl (fun v w h => h) ⟨by simp [plan], by simp [plan]⟩
    ·exact zA0 (b := g7) (k := 1005) (z := m) (z' := m) hp (by simp [plan]) (.inl rfl) rfl rfl (fun v w h => h) ⟨by simp [plan], by simp [plan]⟩
    ·exact zA0 (b := g16) (k := 1010) (z := r) (z' := r) hp (by simp [plan]) (.inl rfl) rfl rfl (fun v w h => h) ⟨by simp [plan], by simp [plan]⟩
    ·exact zC3 (F := (Fc.num m).P) (G := (Fc.num r).P) hm ⟨by simp [plan], by simp [plan]⟩ trivial zKu (zA3 1 rfl rfl (by simp) rfl (fun v w h => h)) (zA3 2 rfl rfl (by simp) rfl (fun v w h => h)) (fun v v' w h h' => exK (RDivV h h' (Int.lt_of_lt_of_le Bm.out (zAg (by omega))) (Int.lt_of_lt_of_le Br.out (zAg (by omega))) (show r ≠ 0 by have := Hrp.out; omega)) B15.out (by omega))
    ·exact zC3 (F := (Fc.num u).P) (G := (Fc.num (m / r)).P) hm ⟨by simp [plan], by simp [plan]⟩ trivial zNm (zA3 0 rfl rfl (by simp) rfl (fun v w h => h)) (zA3 3 rfl rfl (by simp) rfl (fun v w h => h)) (fun v v' w h h' => exK (zE5 h h' (Int.lt_of_lt_of_le Bu.out (zAg (by omega))) (Int.lt_of_lt_of_le B15.out (zAg (by omega))) (show m / r ≠ 0 by have := L1.out; omega)) B16.out (by omega))
    ·exact zBj (b := g11) (j := 4) (z := u) (z' := (u % (m / r))) hp rfl (by simp [plan]) rfl rfl rfl (by simp) rfl (fun v w h => h) (fun _ _ => trivial) (by simp [plan]) (by simp [plan])
    intro L vs w17 hL hG
    replace XA : BoxNum w17 w.heap.size a := by have := hG.old (w.heap.size, 1000, a, a) (by simp [plan]); simpa using this
    replace XB : BoxNum w17 (w.heap.size + 1) b := by have := hG.old ((w.heap.size + 1), 1001, b, b) (by simp [plan]); simpa using this
    replace X4 : BoxNum w17 (w.heap.size + 1 + 1) 0 := by have := hG.old ((w.heap.size + 1 + 1), 1002, 0, 0) (by simp [plan]); simpa using this
    replace X5 : BoxNum w17 (w.heap.size + 1 + 1 + 1) 0 := by have := hG.old ((w.heap.size + 1 + 1 + 1), 1003, 0, 0) (by simp [plan]); simpa using this
    replace X6 : BoxNum w17 (w.heap.size + 1 + 1 + 1 + 1) 0 := by have := hG.old ((w.heap.size + 1 + 1 + 1 + 1), 1004, 0, 0) (by simp [plan]); simpa using this
    replace X7 : BoxNum w17 g7 m := by have := hG.old (g7, 1005, m, m) (by simp [plan]); simpa using this
    replace X8 : BoxNum w17 g8 0 := by have := hG.old (g8, 1006, 0, 0) (by simp [plan]); simpa using this
    replace X9 : BoxNum w17 g9 r := by have := hG.old (g9, 1007, r, r) (by simp [plan]); simpa using this
    replace X10 : BoxNum w17 g10 uu := by have := hG.old (g10, 1008, uu, uu) (by simp [plan]); simpa using this
    replace X11 : BoxNum w17 g11 (u % (m / r)) := by have := hG.old (g11, 5, u, (u % (m / r))) (by simp [plan]); simpa [hL 5 (by simp)] using this
    replace X16 : BoxNum w17 g16 r := by have := hG.old (g16, 1010, r, r) (by simp [plan]); simpa using this
    replace HB := hG.below
    rw [zAa hL]
    simp only [SP, Nat.zero_add, Nat.reduceAdd]
    generalize vs 0 = u17_0
    generalize vs 1 = u17_1
    generalize vs 2 = u17_2
    generalize vs 3 = u17_3
    generalize vs 4 = u17_4
    clear hG hm hp hL hlast vs L 
    go_wp2
    have B18 : Hid (ab (((u % (m / r)) * a)) < pw 81) := zBp B16.out Ba.out (by omega)
    have B19 : Hid (ab ((r - ((u % (m / r)) * a))) < pw 82) := zBi Br.out B18.out (by omega) (by omega)
    have B20 : Hid (ab (((r - ((u % (m / r)) * a)) / b)) < pw 83) := zE7 B19.out (by omega)
    have hlast := X16.lt
    have hp : (plan [Fc.num r, Fc.num (u % (m / r)), Fc.num r, Fc.num (u % (m / r)), Fc.num a, Fc.num ((u % (m / r)) * a), Fc.num (r - ((u % (m / r)) * a)), Fc.num b, Fc.num ((r - ((u % (m / r)) * a)) / b), Fc.any, Fc.any, Fc.any] [(w.heap.size, 1000, a, a), ((w.heap.size + 1), 1001, b, b), ((w.heap.size + 1 + 1), 9, 0, r), ((w.heap.size + 1 + 1 + 1), 10, 0, (u % (m / r))), ((w.heap.size + 1 + 1 + 1 + 1), 11, 0, ((r - ((u % (m / r)) * a)) / b)), (g7, 1005, m, m), (g8, 1006, 0, 0), (g9, 1007, r, r), (g10, 1008, uu, uu), (g11, 1009, (u % (m / r)), (u % (m / r))), (g16, 1010, r, r)] []).Ok w.heap.size w17.heap.size := zC6 (by simp; omega) (by simp; try omega) (by simp) (by omega)
    have hm := PMono.of hp
    refine zB4 (p := (plan [Fc.num r, Fc.num (u % (m / r)), Fc.num r, Fc.num (u % (m / r)), Fc.num a, Fc.num ((u % (m / r)) * a), Fc.num (r - ((u % (m / r)) * a)), Fc.num b, Fc.num ((r - ((u % (m / r)) * a)) / b), Fc.any, Fc.any, Fc.any] [(w.heap.size, 1000, a, a), ((w.heap.size + 1), 1001, b, b), ((w.heap.size + 1 + 1), 9, 0, r), ((w.heap.size + 1 + 1 + 1), 10, 0, (u % (m / r))), ((w.heap.size + 1 + 1 + 1 + 1), 11, 0, ((r - ((u % (m / r)) * a)) / b)), (g7, 1005, m, m), (g8, 1006, 0, 0), (g9, 1007, r, r), (g10, 1008, uu, uu), (g11, 1009, (u % (m / r)), (u % (m / r))), (g16, 1010, r, r)] [])) (B := w.heap.size) (B0 := w17.heap.size) (w0 := w) (by kernel_rfl) rfl rfl (zC7 (by simp; exact ⟨XA, XB, X4, X5, X6, X7, X8, X9, X10, X11, X16⟩) HB) ⟨?_, ?_, ?_, ?_, ?_, ?_, ?_, ?_, ?_, ?_, ?_, ?_, trivial⟩ ?_
    ·exact zA0 (b := g16) (k := 1010) (z := r) (z' := r) hp (by simp [plan]) (.inl rfl) rfl rfl (fun v w h => h) ⟨by simp [plan], by simp [plan]⟩
    ·exact zA0 (b := g11) (k := 1009) (z := (u % (m / r))) (z' := (u % (m / r))) hp (by simp [plan]) (.inl rfl) rfl rfl (fun v w h => h) ⟨by simp [plan], by simp [plan]⟩
    ·exact zA0 (b := g16) (k := 1010) (z := r) (z' := r) hp (by simp [plan]) (.inl rfl) rfl rfl (fun v w h => h) ⟨by simp [plan], by simp [plan]⟩
    ·exact zA0 (b := g11) (k := 1009) (z := (u % (m / r))) (z' := (u % (m / r))) hp (by simp [plan]) (.inl rfl) rfl rfl (fun v w h => h) ⟨by simp [plan], by simp [plan]⟩
    ·exact zA0 (b := w.heap.size) (k := 1000) (z := a) (z' := a) hp (by simp [plan]) (.inl rfl) rfl rfl (fun v w h => h) ⟨by simp [plan], by simp [plan]⟩
    ·exact zC3 (F := (Fc.num (u % (m / r))).P) (G := (Fc.num a).P) hm ⟨by simp [plan], by simp [plan]⟩ trivial zKv (zA3 3 rfl rfl (by simp) rfl (fun v w h => h)) (zA3 4 rfl rfl (by simp) rfl (fun v w h => h)) (fun v v' w h h' => exK (zCc h h') B18.out (by omega))
    ·exact zC3 (F := (Fc.num r).P) (G := (Fc.num ((u % (m / r)) * a)).P) hm ⟨by simp [plan], by simp [plan]⟩ trivial zIx (zA3 2 rfl rfl (by simp) rfl (fun v w h => h)) (zA3 5 rfl rfl (by simp) rfl (fun v w h => h)) (fun v v' w h h' => exK (zB2 h h' (K := 81) (Int.lt_of_lt_of_le Br.out (zAg (by omega))) (Int.lt_of_lt_of_le B18.out (zAg (by omega))) (by omega)) B19.out (by omega))
    ·exact zA0 (b := (w.heap.size + 1)) (k := 1001) (z := b) (z' := b) hp (by simp [plan]) (.inl rfl) rfl rfl (fun v w h => h) ⟨by simp [plan], by simp [plan]⟩
    ·exact zC3 (F := (Fc.num (r - ((u % (m / r)) * a))).P) (G := (Fc.num b).P) hm ⟨by simp [plan], by simp [plan]⟩ trivial zKu (zA3 6 rfl rfl (by simp) rfl (fun v w h => h)) (zA3 7 rfl rfl (by simp) rfl (fun v w h => h)) (fun v v' w h h' => exK (RDivV h h' (Int.lt_of_lt_of_le B19.out (zAg (by omega))) (Int.lt_of_lt_of_le Bb.out (zAg (by omega))) Hb0.out) B20.out (by omega))
    ·exact zBj (b := (w.heap.size + 1 + 1)) (j := 0) (z := 0) (z' := r) hp rfl (by simp [plan]) rfl rfl rfl (by simp) rfl (fun v w h => h) (fun _ _ => trivial) (by simp [plan]) (by simp [plan])
    ·exact zBj (b := (w.heap.size + 1 + 1 + 1)) (j := 1) (z := 0) (z' := (u % (m / r))) hp rfl (by simp [plan]) rfl rfl rfl (by simp) rfl (fun v w h => h) (fun _ _ => trivial) (by simp [plan]) (by simp [plan])
    ·exact zBj (b := (w.heap.size + 1 + 1 + 1 + 1)) (j := 8) (z := 0) (z' := ((r - ((u % (m / r)) * a)) / b)) hp rfl (by simp [plan]) rfl rfl rfl (by simp) rfl (fun v w h => h) (fun _ _ => trivial) (by simp [plan]) (by simp [plan])
    intro L vs w21 hL hG
    replace XA : BoxNum w21 w.heap.size a := by have := hG.old (w.heap.size, 1000, a, a) (by simp [plan]); simpa using this
    replace XB : BoxNum w21 (w.heap.size + 1) b := by have := hG.old ((w.heap.size + 1), 1001, b, b) (by simp [plan]); simpa using this
    replace X4 : BoxNum w21 (w.heap.size + 1 + 1) r := by have := hG.old ((w.heap.size + 1 + 1), 9, 0, r) (by simp [plan]); simpa [hL 9 (by simp)] using this
    replace X5 : BoxNum w21 (w.heap.size + 1 + 1 + 1) (u % (m / r)) := by have := hG.old ((w.heap.size + 1 + 1 + 1), 10, 0, (u % (m / r))) (by simp [plan]); simpa [hL 10 (by simp)] using this
    replace X6 : BoxNum w21 (w.heap.size + 1 + 1 + 1 + 1) ((r - ((u % (m / r)) * a)) / b) := by have := hG.old ((w.heap.size + 1 + 1 + 1 + 1), 11, 0, ((r - ((u % (m / r)) * a)) / b)) (by simp [plan]); simpa [hL 11 (by simp)] using this
    replace X7 : BoxNum w21 g7 m := by have := hG.old (g7, 1005, m, m) (by simp [plan]); simpa using this
    replace X8 : BoxNum w21 g8 0 := by have := hG.old (g8, 1006, 0, 0) (by simp [plan]); simpa using this
    replace X9 : BoxNum w21 g9 r := by have := hG.old (g9, 1007, r, r) (by simp [plan]); simpa using this
    replace X10 : BoxNum w21 g10 uu := by have := hG.old (g10, 1008, uu, uu) (by simp [plan]); simpa using this
    replace X11 : BoxNum w21 g11 (u % (m / r)) := by have := hG.old (g11, 1009, (u % (m / r)), (u % (m / r))) (by simp [plan]); simpa using this
    replace X16 : BoxNum w21 g16 r := by have := hG.old (g16, 1010, r, r) (by simp [plan]); simpa using this
    replace HB := hG.below
    rw [zAa hL]
    simp only [SP, Nat.zero_add, Nat.reduceAdd]
    generalize vs 0 = u21_0
    generalize vs 1 = u21_1
    generalize vs 2 = u21_2
    generalize vs 3 = u21_3
    generalize vs 4 = u21_4
    generalize vs 5 = u21_5
    generalize vs 6 = u21_6
    generalize vs 7 = u21_7
    generalize vs 8 = u21_8
    clear hG hm hp hL hlast vs L 
    have hg1 : (Int.gcd a m : Int) = (Int.gcd a b : Int) := by rw [Hm.out]; simp [Int.gcd]
    have hmb : ab b = m := Hm.out.symm
    have ht : (u % (m / r)) * a + ((r - ((u % (m / r)) * a)) / b) * b = r := by
     have h1 := L4.out
     have h2 : m ∣ (r - (u % (m / r)) * a) := Int.dvd_of_emod_eq_zero (by have h3 := Int.mul_ediv_add_emod (r - (u % (m / r)) * a) m; rw [Int.mul_comm] at h3; omega)
     have h3 : b ∣ (r - (u % (m / r)) * a) := Int.dvd_trans (by rw [Hm.out]; exact Int.dvd_natAbs.2 (Int.dvd_refl b)) h2
     have h4 := Int.ediv_mul_cancel h3
     omega
    have HT := hidd ht
    have HG1 := hidd hg1
    have HMB := hidd hmb
    clear ht hg1 hmb
    obtain ⟨nc, aoc, kkc, ccc, ⟨c0, c1, c2, c3⟩, hNc⟩ := id X4
    obtain ⟨nd, aod, kkd, ccd, ⟨d0, d1, d2, d3⟩, hNd⟩ := id X5
    obtain ⟨ne, aoe, kke, cce, ⟨e0, e1, e2, e3⟩, hNe⟩ := id X6
    go_wp2
    refine bodyPost_ret (v := .tuple #[.agg #[.bool nc, .slice aoc kkc ccc], .agg #[.bool nd, .slice aod kkd ccd], .agg #[.bool ne, .slice aoe kke cce]]) ?_ rfl ⟨HB, _, _, _, r, (u % (m / r)), ((r - ((u % (m / r)) * a)) / b), rfl, hNc, hNd, hNe, Z1.out.trans HG1.out, .inr ⟨Hb0.out, L2.out, by rw [HMB.out]; exact L3.out, HT.out⟩⟩
    simp [results, Tryz.results80, go_sem, c0, c1, d0, d1, e0, e1]
   ·have Hr0 := hidd h0
    have hkb : 0 < kkb := by have := hNb.len_zero.1; omega
    clear h0
    obtain ⟨na, aoa, kka, cca, ⟨a0, a1, a2, a3⟩, hNa⟩ := id X9
    go_wp2_with fail
    clear hkb
    have B22 : Hid (ab ((r / rr)) < pw 41) := zE7 Br.out (by omega)
    have B23 : Hid (ab ((r % rr)) < pw 40) := zCz Hr0.out Brr.out
    refine (zIe hNa hNb (Int.lt_of_lt_of_le Br.out (zAg (by omega))) (Int.lt_of_lt_of_le Brr.out (zAg (by omega)))).mono ?_
    rintro e w8 ⟨hb, ⟨h0, _⟩ | ⟨_, vq, vr, rfl, iq, ir⟩⟩
    ·exact absurd h0 Hr0.out
    have Nq := zCh iq B22.out (by omega)
    have Nr := zCh ir B23.out (by omega)
    obtain ⟨nq, aq, kq, cq, rfl⟩ := Nq.parts
    obtain ⟨nr, ar, kr, cr, rfl⟩ := Nr.parts
    clear iq ir
    clear a0 a1 a2 a3 hNa b0 b1 b2 b3 hNb
    replace XA := XA.mono hb
    replace XB := XB.mono hb
    replace X4 := X4.mono hb
    replace X5 := X5.mono hb
    replace X6 := X6.mono hb
    replace X7 := X7.mono hb
    replace X8 := X8.mono hb
    replace X9 := X9.mono hb
    replace X10 := X10.mono hb
    replace X11 := X11.mono hb
    replace HB := HB.trans (hb.mono HB.size)
    clear hb
    go_upto_region 10 with (fail)
    obtain ⟨w24, hw24, hb, p24_0, p24_1⟩ := boxTwo Nq Nr 32
    rw [← hw24]
    clear hw24
    have hlt24 : g11 < w8.heap.size := X11.lt
    replace XA := XA.mono hb
    replace XB := XB.mono hb
    replace X4 := X4.mono hb
    replace X5 := X5.mono hb
    replace X6 := X6.mono hb
    replace X7 := X7.mono hb
    replace X8 := X8.mono hb
    replace X9 := X9.mono hb
    replace X10 := X10.mono hb
    replace X11 := X11.mono hb
    replace HB := HB.trans (hb.mono HB.size)
    clear hb
    obtain ⟨g12, hg12⟩ : ∃ g, g = w8.heap.size := ⟨_, rfl⟩
    rw [← hg12]
    rw [← hg12] at hlt24 p24_0 p24_1
    clear hg12
    have X12 := p24_0
    have X13 := p24_1
    clear p24_0 p24_1
    clear Nq Nr
    have B25 : Hid (ab (((r / rr) * uu)) < pw 82) := zBp B22.out Buu.out (by omega)
    have B26 : Hid (ab ((u - ((r / rr) * uu))) < pw 83) := zBi Bu.out B25.out (by omega) (by omega)
    have hlast := X13.lt
    have hp : (plan [Fc.num u, Fc.num (r / rr), Fc.num uu, Fc.num ((r / rr) * uu), Fc.num (u - ((r / rr) * uu)), Fc.any, Fc.any] [(w.heap.size, 1000, a, a), ((w.heap.size + 1), 1001, b, b), ((w.heap.size + 1 + 1), 1002, 0, 0), ((w.heap.size + 1 + 1 + 1), 1003, 0, 0), ((w.heap.size + 1 + 1 + 1 + 1), 1004, 0, 0), (g7, 1005, m, m), (g8, 1006, rr, rr), (g9, 1007, r, r), (g10, 1008, uu, uu), (g11, 1009, u, u), (g12, 1010, (r / rr), (r / rr)), ((g12 + 1), 1011, (r % rr), (r % rr))] [(5, 6, (u - ((r / rr) * uu)))]).Ok w.heap.size w24.heap.size := zC6 (by simp; omega) (by simp; try omega) (by simp) (by omega)
    have hm := PMono.of hp
    refine zB4 (p := (plan [Fc.num u, Fc.num (r / rr), Fc.num uu, Fc.num ((r / rr) * uu), Fc.num (u - ((r / rr) * uu)), Fc.any, Fc.any] [(w.heap.size, 1000, a, a), ((w.heap.size + 1), 1001, b, b), ((w.heap.size + 1 + 1), 1002, 0, 0), ((w.heap.size + 1 + 1 + 1), 1003, 0, 0), ((w.heap.size + 1 + 1 + 1 + 1), 1004, 0, 0), (g7, 1005, m, m), (g8, 1006, rr, rr), (g9, 1007, r, r), (g10, 1008, uu, uu), (g11, 1009, u, u), (g12, 1010, (r / rr), (r / rr)), ((g12 + 1), 1011, (r % rr), (r % rr))] [(5, 6, (u - ((r / rr) * uu)))])) (B := w.heap.size) (B0 := w24.heap.size) (w0 := w) (by kernel_rfl) rfl rfl (zC7 (by simp; exact ⟨XA, XB, X4, X5, X6, X7, X8, X9, X10, X11, X12, X13⟩) HB) ⟨?_, ?_, ?_, ?_, ?_, ?_, ?_, trivial⟩ ?_
    ·exact zA0 (b := g11) (k := 1009) (z := u) (z' := u) hp (by simp [plan]) (.inl rfl) rfl rfl (fun v w h => h) ⟨by simp [plan], by simp [plan]⟩
    ·exact zA0 (b := g12) (k := 1010) (z := (r / rr)) (z' := (r / rr)) hp (by simp [plan]) (.inl rfl) rfl rfl (fun v w h => h) ⟨by simp [plan], by simp [plan]⟩
    ·exact zA0 (b := g10) (k := 1008) (z := uu) (z' := uu) hp (by simp [plan]) (.inl rfl) rfl rfl (fun v w h => h) ⟨by simp [plan], by simp [plan]⟩
    ·exact zC3 (F := (Fc.num (r / rr)).P) (G := (Fc.num uu).P) hm ⟨by simp [plan], by simp [plan]⟩ trivial zKv (zA3 1 rfl rfl (by simp) rfl (fun v w h => h)) (zA3 2 rfl rfl (by simp) rfl (fun v w h => h)) (fun v v' w h h' => exK (zCc h h') B25.out (by omega))
    ·exact zC3 (F := (Fc.num u).P) (G := (Fc.num ((r / rr) * uu)).P) hm ⟨by simp [plan], by simp [plan]⟩ trivial zIx (zA3 0 rfl rfl (by simp) rfl (fun v w h => h)) (zA3 3 rfl rfl (by simp) rfl (fun v w h => h)) (fun v v' w h h' => exK (zB2 h h' (K := 82) (Int.lt_of_lt_of_le Bu.out (zAg (by omega))) (Int.lt_of_lt_of_le B25.out (zAg (by omega))) (by omega)) B26.out (by omega))
    ·exact zE2 (k := 6) (z := (u - ((r / rr) * uu))) hp (by simp [plan]) rfl (fun _ _ => trivial) (by simp [plan]) (by simp [plan])
    ·exact zE3 (i0 := 5) (j := 4) (z := (u - ((r / rr) * uu))) hp rfl (by simp [plan]) rfl (by simp) rfl rfl (by simp) rfl (fun v w h => h) (fun _ _ => trivial) (by simp [plan]) (by simp [plan])
    intro L vs w27 hL hG
    replace XA : BoxNum w27 w.heap.size a := by have := hG.old (w.heap.size, 1000, a, a) (by simp [plan]); simpa using this
    replace XB : BoxNum w27 (w.heap.size + 1) b := by have := hG.old ((w.heap.size + 1), 1001, b, b) (by simp [plan]); simpa using this
    replace X4 : BoxNum w27 (w.heap.size + 1 + 1) 0 := by have := hG.old ((w.heap.size + 1 + 1), 1002, 0, 0) (by simp [plan]); simpa using this
    replace X5 : BoxNum w27 (w.heap.size + 1 + 1 + 1) 0 := by have := hG.old ((w.heap.size + 1 + 1 + 1), 1003, 0, 0) (by simp [plan]); simpa using this
    replace X6 : BoxNum w27 (w.heap.size + 1 + 1 + 1 + 1) 0 := by have := hG.old ((w.heap.size + 1 + 1 + 1 + 1), 1004, 0, 0) (by simp [plan]); simpa using this
    replace X7 : BoxNum w27 g7 m := by have := hG.old (g7, 1005, m, m) (by simp [plan]); simpa using this
    replace X8 : BoxNum w27 g8 rr := by have := hG.old (g8, 1006, rr, rr) (by simp [plan]); simpa using this
    replace X9 : BoxNum w27 g9 r := by have := hG.old (g9, 1007, r, r) (by simp [plan]); simpa using this
    replace X10 : BoxNum w27 g10 uu := by have := hG.old (g10, 1008, uu, uu) (by simp [plan]); simpa using this
    replace X11 : BoxNum w27 g11 u := by have := hG.old (g11, 1009, u, u) (by simp [plan]); simpa using this
    replace X12 : BoxNum w27 g12 (r / rr) := by have := hG.old (g12, 1010, (r / rr), (r / rr)) (by simp [plan]); simpa using this
    replace X13 : BoxNum w27 (g12 + 1) (r % rr) := by have := hG.old ((g12 + 1), 1011, (r % rr), (r % rr)) (by simp [plan]); simpa using this
    obtain ⟨g15, e5, hgl15, x5⟩ := hG.new (5, 6, (u - ((r / rr) * uu))) (by simp [plan]) (hL 5 (by simp))
    have hlt15 : (g12 + 1) < g15 := Nat.lt_of_lt_of_le hlast hgl15
    have X15 : BoxNum w27 g15 (u - ((r / rr) * uu)) := by have h := x5; simp only [hL 6 (by simp), if_true] at h; exact h
    replace HB := hG.below
    rw [zAa hL]
    simp only [SP, Nat.zero_add, Nat.reduceAdd]
    rw [e5]
    generalize vs 0 = u27_0
    generalize vs 1 = u27_1
    generalize vs 2 = u27_2
    generalize vs 3 = u27_3
    generalize vs 4 = u27_4
    clear hG hm hp hL hlast vs L e5 x5
    go_upto_region 11 with (fail)
    obtain ⟨ne, aoe, kke, cce, ⟨e0, e1, e2, e3⟩, hNe⟩ := id X8
    obtain ⟨nc, aoc, kkc, ccc, ⟨c0, c1, c2, c3⟩, hNc⟩ := id X9
    go_upto_region 12 with (fail)
    obtain ⟨w29, hw29⟩ : ∃ w1, w1 = putBox w27 g9 ne aoe kke cce := ⟨_, rfl⟩
    rw [show (w27.setCell ⟨g9, 0, none⟩ (.bool ne)).setCell ⟨g9, 1, none⟩ (.slice aoe kke cce) = w29 from hw29.symm]
    have YA : BoxNum w29 w.heap.size a := by rw [hw29]; exact XA.putOther X9 (by omega) _ _ _ _
    have YB : BoxNum w29 (w.heap.size + 1) b := by rw [hw29]; exact XB.putOther X9 (by omega) _ _ _ _
    have Y4 : BoxNum w29 (w.heap.size + 1 + 1) 0 := by rw [hw29]; exact X4.putOther X9 (by omega) _ _ _ _
    have Y5 : BoxNum w29 (w.heap.size + 1 + 1 + 1) 0 := by rw [hw29]; exact X5.putOther X9 (by omega) _ _ _ _
    have Y6 : BoxNum w29 (w.heap.size + 1 + 1 + 1 + 1) 0 := by rw [hw29]; exact X6.putOther X9 (by omega) _ _ _ _
    have Y7 : BoxNum w29 g7 m := by rw [hw29]; exact X7.putOther X9 (by omega) _ _ _ _
    have Y8 : BoxNum w29 g8 rr := by rw [hw29]; exact X8.putOther X9 (by omega) _ _ _ _
    have Y10 : BoxNum w29 g10 uu := by rw [hw29]; exact X10.putOther X9 (by omega) _ _ _ _
    have Y11 : BoxNum w29 g11 u := by rw [hw29]; exact X11.putOther X9 (by omega) _ _ _ _
    have Y12 : BoxNum w29 g12 (r / rr) := by rw [hw29]; exact X12.putOther X9 (by omega) _ _ _ _
    have Y13 : BoxNum w29 (g12 + 1) (r % rr) := by rw [hw29]; exact X13.putOther X9 (by omega) _ _ _ _
    have Y15 : BoxNum w29 g15 (u - ((r / rr) * uu)) := by rw [hw29]; exact X15.putOther X9 (by omega) _ _ _ _
    replace HB : Below w.heap.size w w29 := by rw [hw29]; exact zEl HB (by omega) _ _ _ _
    have Y9 : BoxNum w29 g9 rr := by rw [hw29]; exact X9.putSame hNe
    replace XA := YA
    replace XB := YB
    replace X4 := Y4
    replace X5 := Y5
    replace X6 := Y6
    replace X7 := Y7
    replace X8 := Y8
    replace X9 := Y9
    replace X10 := Y10
    replace X11 := Y11
    replace X12 := Y12
    replace X13 := Y13
    replace X15 := Y15
    clear YA YB Y4 Y5 Y6 Y7 Y8 Y9 Y10 Y11 Y12 Y13 Y15
    clear hw29
    clear e0 e1 e2 e3 hNe c0 c1 c2 c3 hNc
    obtain ⟨ne, aoe, kke, cce, ⟨e0, e1, e2, e3⟩, hNe⟩ := id X10
    obtain ⟨nc, aoc, kkc, ccc, ⟨c0, c1, c2, c3⟩, hNc⟩ := id X11
    go_upto_region 13 with (fail)
    obtain ⟨w31, hw31⟩ : ∃ w1, w1 = putBox w29 g11 ne aoe kke cce := ⟨_, rfl⟩
    rw [show (w29.setCell ⟨g11, 0, none⟩ (.bool ne)).setCell ⟨g11, 1, none⟩ (.slice aoe kke cce) = w31 from hw31.symm]
    have YA : BoxNum w31 w.heap.size a := by rw [hw31]; exact XA.putOther X11 (by omega) _ _ _ _
    have YB : BoxNum w31 (w.heap.size + 1) b := by rw [hw31]; exact XB.putOther X11 (by omega) _ _ _ _
    have Y4 : BoxNum w31 (w.heap.size + 1 + 1) 0 := by rw [hw31]; exact X4.putOther X11 (by omega) _ _ _ _
    have Y5 : BoxNum w31 (w.heap.size + 1 + 1 + 1) 0 := by rw [hw31]; exact X5.putOther X11 (by omega) _ _ _ _
    have Y6 : BoxNum w31 (w.heap.size + 1 + 1 + 1 + 1) 0 := by rw [hw31]; exact X6.putOther X11 (by omega) _ _ _ _
    have Y7 : BoxNum w31 g7 m := by rw [hw31]; exact X7.putOther X11 (by omega) _ _ _ _
    have Y8 : BoxNum w31 g8 rr := by rw [hw31]; exact X8.putOther X11 (by omega) _ _ _ _
    have Y9 : BoxNum w31 g9 rr := by rw [hw31]; exact X9.putOther X11 (by omega) _ _ _ _
    have Y10 : BoxNum w31 g10 uu := by rw [hw31]; exact X10.putOther X11 (by omega) _ _ _ _
    have Y12 : BoxNum w31 g12 (r / rr) := by rw [hw31]; exact X12.putOther X11 (by omega) _ _ _ _
    have Y13 : BoxNum w31 (g12 + 1) (r % rr) := by rw [hw31]; exact X13.putOther X11 (by omega) _ _ _ _
    have Y15 : BoxNum w31 g15 (u - ((r / rr) * uu)) := by rw [hw31]; exact X15.putOther X11 (by omega) _ _ _ _
    replace HB : Below w.heap.size w w31 := by rw [hw31]; exact zEl HB (by omega) _ _ _ _
    have Y11 : BoxNum w31 g11 uu := by rw [hw31]; exact X11.putSame hNe
    replace XA := YA
    replace XB := YB
    replace X4 := Y4
    replace X5 := Y5
    replace X6 := Y6
    replace X7 := Y7
    replace X8 := Y8
    replace X9 := Y9
    replace X10 := Y10
    replace X11 := Y11
    replace X12 := Y12
    replace X13 := Y13
    replace X15 := Y15
    clear YA YB Y4 Y5 Y6 Y7 Y8 Y9 Y10 Y11 Y12 Y13 Y15
    clear hw31
    clear e0 e1 e2 e3 hNe c0 c1 c2 c3 hNc
    obtain ⟨ne, aoe, kke, cce, ⟨e0, e1, e2, e3⟩, hNe⟩ := id X13
    obtain ⟨nc, aoc, kkc, ccc, ⟨c0, c1, c2, c3⟩, hNc⟩ := id X8
    go_upto_region 14 with (fail)
    obtain ⟨w33, hw33⟩ : ∃ w1, w1 = putBox w31 g8 ne aoe kke cce := ⟨_, rfl⟩
    rw [show (w31.setCell ⟨g8, 0, none⟩ (.bool ne)).setCell ⟨g8, 1, none⟩ (.slice aoe kke cce) = w33 from hw33.symm]
    have YA : BoxNum w33 w.heap.size a := by rw [hw33]; exact XA.putOther X8 (by omega) _ _ _ _
    have YB : BoxNum w33 (w.heap.size + 1) b := by rw [hw33]; exact XB.putOther X8 (by omega) _ _ _ _
    have Y4 : BoxNum w33 (w.heap.size + 1 + 1) 0 := by rw [hw33]; exact X4.putOther X8 (by omega) _ _ _ _
    have Y5 : BoxNum w33 (w.heap.size + 1 + 1 + 1) 0 := by rw [hw33]; exact X5.putOther X8 (by omega) _ _ _ _
    have Y6 : BoxNum w33 (w.heap.size + 1 + 1 + 1 + 1) 0 := by rw [hw33]; exact X6.putOther X8 (by omega) _ _ _ _
    have Y7 : BoxNum w33 g7 m := by rw [hw33]; exact X7.putOther X8 (by omega) _ _ _ _
    have Y9 : BoxNum w33 g9 rr := by rw [hw33]; exact X9.putOther X8 (by omega) _ _ _ _
    have Y10 : BoxNum w33 g10 uu := by rw [hw33]; exact X10.putOther X8 (by omega) _ _ _ _
    have Y11 : BoxNum w33 g11 uu := by rw [hw33]; exact X11.putOther X8 (by omega) _ _ _ _
    have Y12 : BoxNum w33 g12 (r / rr) := by rw [hw33]; exact X12.putOther X8 (by omega) _ _ _ _
    have Y13 : BoxNum w33 (g12 + 1) (r % rr) := by rw [hw33]; exact X13.putOther X8 (by omega) _ _ _ _
    have Y15 : BoxNum w33 g15 (u - ((r / rr) * uu)) := by rw [hw33]; exact X15.putOther X8 (by omega) _ _ _ _
    replace HB : Below w.heap.size w w33 := by rw [hw33]; exact zEl HB (by omega) _ _ _ _
    have Y8 : BoxNum w33 g8 (r % rr) := by rw [hw33]; exact X8.putSame hNe
    replace XA := YA
    replace XB := YB
    replace X4 := Y4
    replace X5 := Y5
    replace X6 := Y6
    replace X7 := Y7
    replace X8 := Y8
    replace X9 := Y9
    replace X10 := Y10
    replace X11 := Y11
    replace X12 := Y12
    replace X13 := Y13
    replace X15 := Y15
    clear YA YB Y4 Y5 Y6 Y7 Y8 Y9 Y10 Y11 Y12 Y13 Y15
    clear hw33
    clear e0 e1 e2 e3 hNe c0 c1 c2 c3 hNc
    obtain ⟨ne, aoe, kke, cce, ⟨e0, e1, e2, e3⟩, hNe⟩ := id X15
    obtain ⟨nc, aoc, kkc, ccc, ⟨c0, c1, c2, c3⟩, hNc⟩ := id X10
    go_wp2
    obtain ⟨w35, hw35⟩ : ∃ w1, w1 = putBox w33 g10 ne aoe kke cce := ⟨_, rfl⟩
    rw [show (w33.setCell ⟨g10, 0, none⟩ (.bool ne)).setCell ⟨g10, 1, none⟩ (.slice aoe kke cce) = w35 from hw35.symm]
    have YA : BoxNum w35 w.heap.size a := by rw [hw35]; exact XA.putOther X10 (by omega) _ _ _ _
    have YB : BoxNum w35 (w.heap.size + 1) b := by rw [hw35]; exact XB.putOther X10 (by omega) _ _ _ _
    have Y4 : BoxNum w35 (w.heap.size + 1 + 1) 0 := by rw [hw35]; exact X4.putOther X10 (by omega) _ _ _ _
    have Y5 : BoxNum w35 (w.heap.size + 1 + 1 + 1) 0 := by rw [hw35]; exact X5.putOther X10 (by omega) _ _ _ _
    have Y6 : BoxNum w35 (w.heap.size + 1 + 1 + 1 + 1) 0 := by rw [hw35]; exact X6.putOther X10 (by omega) _ _ _ _
    have Y7 : BoxNum w35 g7 m := by rw [hw35]; exact X7.putOther X10 (by omega) _ _ _ _
    have Y8 : BoxNum w35 g8 (r % rr) := by rw [hw35]; exact X8.putOther X10 (by omega) _ _ _ _
    have Y9 : BoxNum w35 g9 rr := by rw [hw35]; exact X9.putOther X10 (by omega) _ _ _ _
    have Y11 : BoxNum w35 g11 uu := by rw [hw35]; exact X11.putOther X10 (by omega) _ _ _ _
    have Y12 : BoxNum w35 g12 (r / rr) := by rw [hw35]; exact X12.putOther X10 (by omega) _ _ _ _
    have Y13 : BoxNum w35 (g12 + 1) (r % rr) := by rw [hw35]; exact X13.putOther X10 (by omega) _ _ _ _
    have Y15 : BoxNum w35 g15 (u - ((r / rr) * uu)) := by rw [hw35]; exact X15.putOther X10 (by omega) _ _ _ _
    replace HB : Below w.heap.size w w35 := by rw [hw35]; exact zEl HB (by omega) _ _ _ _
    have Y10 : BoxNum w35 g10 (u - ((r / rr) * uu)) := by rw [hw35]; exact X10.putSame hNe
    replace XA := YA
    replace XB := YB
    replace X4 := Y4
    replace X5 := Y5
    replace X6 := Y6
    replace X7 := Y7
    replace X8 := Y8
    replace X9 := Y9
    replace X10 := Y10
    replace X11 := Y11
    replace X12 := Y12
    replace X13 := Y13
    replace X15 := Y15
    clear YA YB Y4 Y5 Y6 Y7 Y8 Y9 Y10 Y11 Y12 Y13 Y15
    clear hw35
    clear e0 e1 e2 e3 hNe c0 c1 c2 c3 hNc
    have hst := zJ3 (show m ≠ 0 by have := Hmp.out; omega) HI.out Hr0.out
    go_roundw
    case rel => exact ⟨rr, r % rr, uu, u - r / rr * uu, hst.1, XA, XB, X4, X5, X6, X7, X8, X9, X10, X11, HB⟩
    case measure =>
     rw [zFd X8, HBV.out]
     have := hst.2.1; unfold ab at this; omega

theorem zGf (args : Array Value) (w : World) : (callFunc 47 args).run Tryz.prog w = .ok (.enter 47 args) w := zAn Tryz.func47 (by kernel_rfl) rfl args w
theorem zD8 (args : Array Value) (w : World) : (callFunc 46 args).run Tryz.prog w = .ok (.enter 46 args) w := zAn Tryz.func46 (by kernel_rfl) rfl args w
theorem zFh (args : Array Value) (w : World) : (callFunc 48 args).run Tryz.prog w = .ok (.enter 48 args) w := zAn Tryz.func48 (by kernel_rfl) rfl args w
theorem enq_Neg (args : Array Value) (w : World) : (callFunc 59 args).run Tryz.prog w = .ok (.enter 59 args) w := zAn Tryz.func59 (by kernel_rfl) rfl args w
theorem enq_Gcd (args : Array Value) (w : World) : (callFunc 79 args).run Tryz.prog w = .ok (.enter 79 args) w := zAn Tryz.func79 (by kernel_rfl) rfl args w
theorem zM8 (args : Array Value) (w : World) : (callFunc 97 args).run Tryz.prog w = .ok (.enter 97 args) w := zAn Tryz.func97 (by kernel_rfl) rfl args w
theorem zEn (args : Array Value) (w : World) : (callFunc 42 args).run Tryz.prog w = .ok (.enter 42 args) w := zAn Tryz.func42 (by kernel_rfl) rfl args w
theorem zCf (args : Array Value) (w : World) : (callFunc 54 args).run Tryz.prog w = .ok (.enter 54 args) w := zAn Tryz.func54 (by kernel_rfl) rfl args w
theorem zHj (args : Array Value) (w : World) : (callFunc 43 args).run Tryz.prog w = .ok (.enter 43 args) w := zAn Tryz.func43 (by kernel_rfl) rfl args w
theorem zD9 (args : Array Value) (w : World) : (callFunc 41 args).run Tryz.prog w = .ok (.enter 41 args) w := zAn Tryz.func41 (by kernel_rfl) rfl args w
theorem zFg (args : Array Value) (w : World) : (callFunc 6 args).run Tryz.prog w = .ok (.enter 6 args) w := zAn Tryz.func6 (by kernel_rfl) rfl args w
theorem zBy (args : Array Value) (w : World) : (callFunc 19 args).run Tryz.prog w = .ok (.enter 19 args) w := zAn Tryz.func19 (by kernel_rfl) rfl args w
theorem zBg (args : Array Value) (w : World) : (callFunc 17 args).run Tryz.prog w = .ok (.enter 17 args) w := zAn Tryz.func17 (by kernel_rfl) rfl args w
theorem zKe (args : Array Value) (w : World) : (callFunc 73 args).run Tryz.prog w = .ok (.enter 73 args) w := zAn Tryz.func73 (by kernel_rfl) rfl args w
theorem zCd (args : Array Value) (w : World) : (callFunc 26 args).run Tryz.prog w = .ok (.enter 26 args) w := zAn Tryz.func26 (by kernel_rfl) rfl args w
theorem zHk (args : Array Value) (w : World) : (callFunc 56 args).run Tryz.prog w = .ok (.enter 56 args) w := zAn Tryz.func56 (by kernel_rfl) rfl args w
theorem zKf (args : Array Value) (w : World) : (callFunc 36 args).run Tryz.prog w = .ok (.enter 36 args) w := zAn Tryz.func36 (by kernel_rfl) rfl args w
theorem zCl (args : Array Value) (w : World) : (callFunc 28 args).run Tryz.prog w = .ok (.enter 28 args) w := zAn Tryz.func28 (by kernel_rfl) rfl args w
theorem zDx (args : Array Value) (w : World) : (callFunc 52 args).run Tryz.prog w = .ok (.enter 52 args) w := zAn Tryz.func52 (by kernel_rfl) rfl args w
theorem zCs (args : Array Value) (w : World) : (callFunc 29 args).run Tryz.prog w = .ok (.enter 29 args) w := zAn Tryz.func29 (by kernel_rfl) rfl args w
theorem zCe (args : Array Value) (w : World) : (callFunc 55 args).run Tryz.prog w = .ok (.enter 55 args) w := zAn Tryz.func55 (by kernel_rfl) rfl args w
theorem zGg (args : Array Value) (w : World) : (callFunc 50 args).run Tryz.prog w = .ok (.enter 50 args) w := zAn Tryz.func50 (by kernel_rfl) rfl args w
theorem zIg {x y : Int} {j k m : Nat} (hx : ab x < pw j) (hy : ab y < pw k) (hj : j ≤ m) (hk : k ≤ m) : ab (Int.gcd x y : Int) < pw m := by
 have h1 := zAg hj
 have h2 := zAg hk
 by_cases h : x = 0
 ·subst h
  rw [Int.zero_gcd]
  unfold ab at *
  omega
 ·have h3 := Int.gcd_le_natAbs_left y h
  unfold ab at *
  omega

theorem cmpIq0 {x y : Int} : cmpI x y = 0 ↔ x = y := by
 unfold cmpI
 split
 ·rename_i h
  constructor
  ·intro h2; omega
  ·intro h2; omega
 ·split
  ·rename_i h; exact ⟨fun _ => h, fun _ => rfl⟩
  ·rename_i h; exact ⟨fun h2 => by omega, fun h2 => absurd h2 h⟩
theorem cmpIqlt {x y : Int} : cmpI x y < 0 ↔ x < y := by
 unfold cmpI
 split
 ·rename_i h; exact ⟨fun _ => h, fun _ => by decide⟩
 ·rename_i h
  split
  ·exact ⟨fun h2 => by omega, fun h2 => absurd h2 h⟩
  ·exact ⟨fun h2 => by omega, fun h2 => absurd h2 h⟩
theorem cmpIqgt {x y : Int} : 0 < cmpI x y ↔ y < x := by
 unfold cmpI
 split
 ·rename_i h; exact ⟨fun h2 => by omega, fun h2 => by omega⟩
 ·split
  ·rename_i h; exact ⟨fun h2 => by omega, fun h2 => by omega⟩
  ·rename_i h1 h; exact ⟨fun _ => by omega, fun _ => by decide⟩

theorem zBq {c : Int} (h : ab c < 4294967296 * 4294967296 * 4294967296) : ab c < pw 3 := h

theorem exDMq {w : World} {v v' : Value} {a b : Int} (h : Num w v a) (h' : Num w v' b) (hb : b ≠ 0) {j k : Nat} (hq : ab (a / b) < pw j) (hr : ab (a % b) < pw k) (hj : j ≤ 900000) (hk : k ≤ 900000) :
  Calls Tryz.prog 97 #[v, v'] w fun e w' => ∃ v', e = .returned v' ∧ Below w.heap.size w w' ∧ (Fq.tup3 (Fq.num (a / b)) (Fq.num (a % b)) (Fq.is (.int .i64 0))).P v' w' :=
 (exDT h h' hb hq hr hj hk).mono fun _ _ ⟨v', e, hb', v1, v2, e2, h1, h2⟩ => ⟨v', e, hb', v1, v2, _, e2, h1, h2, rfl⟩

theorem OfK (w : World) (z : Int) (h0 : -9223372036854775808 ≤ z) (h1 : z ≤ 9223372036854775807) : Calls Tryz.prog 43 #[.int .i64 z] w fun e w' => ∃ v', e = .returned v' ∧ Below w.heap.size w w' ∧ Num w' v' z := OfV w z h0 h1
theorem rOfK (w : World) (z : Int) (h0 : -9223372036854775808 ≤ z) (h1 : z ≤ 9223372036854775807) : Calls Tryz.prog 17 #[.int .i64 z] w fun e w' => ∃ v', e = .returned v' ∧ Below w.heap.size w w' ∧ Num w' v' z := rOfV w z h0 h1

theorem bq_box {w : World} {b : Nat} {z : Int} (h : Bq w b 2 (Fq.num z)) : BoxNum w b z := by
 obtain ⟨us, hl, _, hat, _, hP⟩ := h
 match us, hl, hat, hP with
 | [p, q], _, hat, hP =>
  have hN : Num w (.agg #[p, q]) z := hP
  obtain ⟨n, ao, k, c, e⟩ := hN.parts
  have e1 := congrArg (fun v => match v with | Value.agg us => us.toList | _ => []) e
  simp at e1
  obtain ⟨rfl, rfl⟩ := e1
  exact ⟨n, ao, k, c, ⟨(hat 0 (by simp)).1, (hat 1 (by simp)).1, (hat 0 (by simp)).2, (hat 1 (by simp)).2⟩, hN⟩

theorem Fr.drop {w0 W : World} {x : Nat × Nat × Fq} {bs : List (Nat × Nat × Fq)} (h : Fr w0 (x :: bs) W) : Fr w0 bs W :=
 ⟨h.below, fun y hy => h.boxes y (List.mem_cons_of_mem _ hy), by have := h.apart; rw [List.map_cons, List.nodup_cons] at this; exact this.2⟩

theorem zC1 {w : World} {v v' : Value} {a b : Int} (h : Num w v a) (h' : Num w v' b) (h0 : b ≠ 0) (ha : ab a < pw 900) (hb : ab b < pw 900) : Calls Tryz.prog 28 #[v, v'] w fun e w' => ∃ v', e = .returned v' ∧ Below w.heap.size w w' ∧ Num w' v' (a % b) :=
 exK (k := 900) (zE5 h h' (Int.lt_of_lt_of_le ha (zAg (by omega))) (Int.lt_of_lt_of_le hb (zAg (by omega))) h0) (zCz h0 hb) (by omega)
theorem exRSame {w : World} {v v' : Value} {a b : Int} (h : Num w v a) (h' : Num w v' b) : Calls Tryz.prog 19 #[v, v'] w fun e w' => ∃ v', e = .returned v' ∧ Below w.heap.size w w' ∧ v' = .bool (decide (a = b)) :=
 (SameV h h').mono fun _ _ hh => ⟨_, hh.1, hh.2, rfl⟩

theorem gcd_stepQ (x y : Int) : Int.gcd y (x % y) = Int.gcd x y := by
 have e : x % y = x - y * (x / y) := by have := Int.mul_ediv_add_emod x y; omega
 rw [e, Int.gcd_sub_mul_left_right, Int.gcd_comm]

def Fq.raw (n : Bool) (a : Option Addr) (k c : Nat) (xs : List Int) : Fq := ⟨fun v w => v = .agg #[.bool n, .slice a k c] ∧ Sl w a k c xs, fun h hb => ⟨h.1, h.2.mono hb⟩, fun h ha ht hl => ⟨h.1, h.2.putAt ha ht hl⟩⟩
section
variable {n n' : Bool} {a a' : Option Addr} {k c k' c' : Nat} {xs xs' : List Int}
theorem ld_raw {us : List Value} {w : World} (hl : us.length = 2) (h : (Fq.raw n a k c xs).P (.agg us.toArray) w) : (Fq.raw n a k c xs).P (.agg #[us.getD 0 undef, us.getD (0 + 1) undef]) w := by
 match us, hl with
 | [p, q], _ => exact h
end

section
variable {os : List Oper} {Q : Exit → Act → World → Prop} {a : Act} {p : Pq} {B B0 : Nat} {w0 : World}
variable {i s : Nat} {d : Option Tmp} {ty : TypeId} {ps : String} {af : Array Edge} {gd : Option (Nat × Bool)}
theorem zF0 {o : Ob} {off : Nat} {x : Operand} (hp : p.Ok B B0) (hF : p.Free i) (hg : GdQ os a p B B0 w0 af gd) (ho : o ∈ p.old) (hk : o.F1 = o.F0 ∨ zBo os 9 o.k i = true) (hoff : off + 2 ≤ o.m)
  (hx : SrcQ os a p B B0 w0 af x fun u _ => u = .pointer (some ⟨o.b, off, none⟩)) (hC : ∀ (us : List Value) (w : World), us.length = o.m → o.F0.P (.agg us.toArray) w → (p.c i).P (.agg #[us.getD off undef, us.getD (off + 1) undef]) w) :
  zAr os Q a p B B0 w0 i { dst := d, op := .load 27 x, type := ty, pos := ps, after := af, guard := gd } := by
 refine zBk hp hF hg fun L vs w hG hL hc hd => ?_
 obtain ⟨us, hl, h0, hat, ht, hP⟩ := zDm ho hk hG hL hc
 have e := hx L vs w hG hd
 have c0 := (hat off (by omega)).1
 have c1 := (hat (off + 1) (by omega)).1
 refine ⟨_, ?_, hC us w hl hP⟩
 generalize (lay os.toArray L vs os.toArray.size a).eval = ρ at e
 generalize us.getD off undef = u0 at c0 ⊢
 generalize us.getD (off + 1) undef = u1 at c1 ⊢
 simp [execOp, go_sem, e, c0, c1]
end

theorem zFl {w : World} {v v' : Value} {n : Bool} {a : Option Addr} {k c : Nat} {xs : List Int} {j : Nat} (h : (Fq.raw n a k c xs).P v w) (h' : v' = .int .i64 j) (hk : k ≤ 9223372036854775807) (hj : j ≤ 900000) :
  Calls Tryz.prog 6 #[v, v'] w fun e w' => ∃ v', e = .returned v' ∧ Below w.heap.size w w' ∧ Num w' v' (sgn n (val (xs.take j))) := by
 obtain ⟨rfl, hs⟩ := h
 subst h'
 exact exK (Made_any _ _ _ _ _ _ hs hk j hj) (Num.ofMade hs.digs) hj

set_option maxRecDepth 100000 in
set_option maxHeartbeats 4000000 in
theorem zHr {w : World} {v v' : Value} {a b : Int} (h : Num w v a) (h' : Num w v' b) (ha : ab a < pw 900) (hb : ab b < pw 900) :
  Calls Tryz.prog 56 #[v, v'] w fun e w' => ∃ v', e = .returned v' ∧ Below w.heap.size w w' ∧ Num w' v' (Int.gcd a b : Int) := by
 replace ha := hidd ha
 replace hb := hidd hb
 obtain ⟨n0, ao0, k0, c0, rfl⟩ := h.parts
 obtain ⟨n1, ao1, k1, c1, rfl⟩ := h'.parts
 obtain ⟨w1, b1, hw1, hb1, hs1, E⟩ := zB8 w (F := Fq.num a) (us := [.bool n0, .slice ao0 k0 c0]) 32 rfl (by simp) (zBr _ _ _ _) h
 obtain ⟨w2, b2, hw2, hb2, hs2, E⟩ := fN E hs1 32 h'
 obtain ⟨w3, b3, hw3, hb3, hs3, E⟩ := fZ E hs2 32
 go_enter Tryz.func56, Tryz.ntmps56
 go_upto_region 1 with (fail)
 rw [← hw1]
 rw [← hw2]
 rw [← hw3]
 rw [← hb3]
 rw [← hb2]
 rw [← hb1]
 clear hw1 hw2 hw3 hb1 hb2 hb3 hs3 hs1 hs2
 have B4 : Hid (ab ((Int.natAbs a : Int)) < pw 900) := zE6 ha.out
 refine rg [Fq.num a, Fq.num (Int.natAbs a : Int), Fq.any] [none, none, some (2, Fq.num (Int.natAbs a : Int))] [] E (fun hp => ⟨?_, ?_, ?_, tv⟩) ?_
 ·exact zAz (off := 0) hp fo tv (mq 2 rfl) (.inr rfl) (Nat.le_of_ble_eq_true rfl) (zA2 rfl rfl (fun _ _ => rfl)) (fun us w hl h => zAh hl h)
 ·exact wXa (Fq.num a) hp zKe (sqi 0) fun v w h => exK (RAbsV h) B4.out (by omega)
 ·exact zDp hp (mq 2 rfl) rfl rfl (zA2 rfl rfl (fun _ _ => rfl)) (zB9 1 rfl rfl (by simp) rfl (fun v w h => zDg h)) (fun _ _ => trivial) (zBw rfl)
 intro L vs w5 nb hL hC hn E5
 have E := E5; simp only [LM, zAb] at E
 rw [zAa hL]
 simp only [SP, Nat.zero_add, Nat.reduceAdd]
 generalize vs 0 = u5_0
 generalize vs 1 = u5_1
 clear  hC hn E5 hL vs L nb
 go_upto_region 2 with (fail)
 have B6 : Hid (ab ((Int.natAbs b : Int)) < pw 900) := zE6 hb.out
 refine rg [Fq.num b, Fq.num (Int.natAbs b : Int), Fq.any] [none, some (2, Fq.num (Int.natAbs b : Int)), none] [] E (fun hp => ⟨?_, ?_, ?_, tv⟩) ?_
 ·exact zAz (off := 0) hp fo tv (mq 1 rfl) (.inr rfl) (Nat.le_of_ble_eq_true rfl) (zA2 rfl rfl (fun _ _ => rfl)) (fun us w hl h => zAh hl h)
 ·exact wXa (Fq.num b) hp zKe (sqi 0) fun v w h => exK (RAbsV h) B6.out (by omega)
 ·exact zDp hp (mq 1 rfl) rfl rfl (zA2 rfl rfl (fun _ _ => rfl)) (zB9 1 rfl rfl (by simp) rfl (fun v w h => zDg h)) (fun _ _ => trivial) (zBw rfl)
 intro L vs w7 nb hL hC hn E7
 have E := E7; simp only [LM, zAb] at E
 rw [zAa hL]
 simp only [SP, Nat.zero_add, Nat.reduceAdd]
 generalize vs 0 = u7_0
 generalize vs 1 = u7_1
 clear  hC hn E7 hL vs L nb
 have HS := hidd E
 go_upto_region 3 with (fail)
 go_loopw [5] (fun _ W => ∃ x y : Int, 0 ≤ x ∧ 0 ≤ y ∧ Hid (ab x < pw 900 ∧ ab y < pw 900 ∧ Int.gcd x y = Int.gcd a b) ∧ Fr w [(b3, 2, Fq.num 0), (b2, 2, Fq.num y), (b1, 2, Fq.num x)] W) (fun _ W => zFc W b2)
 case atStart => exact ⟨_, _, Int.natCast_nonneg _, Int.natCast_nonneg _, ⟨zE6 ha.out, zE6 hb.out, by rw [Int.gcd_eq_natAbs_gcd_natAbs, Int.gcd_eq_natAbs_gcd_natAbs, Int.natAbs_natCast, Int.natAbs_natCast]⟩, HS.out⟩
 case round =>
  obtain ⟨x, y, hx0, hy0, HI, E⟩ := hrel
  have HX := hidd hx0
  have HY := hidd hy0
  clear hx0 hy0 HS
  obtain ⟨n2, ao2, k2, c2, ⟨d0, d1, _, _⟩, hN2⟩ := bq_box (E.box 1 rfl)
  have hz := hN2.len_zero.1
  by_cases hy : y = 0
  ·obtain rfl := hz.2 hy
   subst hy
   clear hz hN2
   go_upto_region 7 with (fail)
   refine rg [Fq.num x, Fq.any] [some (1, Fq.num x), none, none] [] E (fun hp => ⟨?_, ?_, tv⟩) ?_
   ·exact zAz (off := 0) hp fo tv (mq 2 rfl) (.inl rfl) (Nat.le_of_ble_eq_true rfl) (zA2 rfl rfl (fun _ _ => rfl)) (fun us w hl h => zAh hl h)
   ·exact zDp hp (mq 0 rfl) rfl rfl (zA2 rfl rfl (fun _ _ => rfl)) (zB9 0 rfl rfl (by simp) rfl (fun v w h => zDg h)) (fun _ _ => trivial) (zBw rfl)
   intro L vs w8 nb hL hC hn E8
   have E := E8; simp only [LM, zAb] at E
   rw [zAa hL]
   simp only [SP, Nat.zero_add, Nat.reduceAdd]
   generalize vs 0 = u8_0
   clear  hC hn E8 hL vs L nb
   obtain ⟨p0, p1, c0, c1, hP⟩ := zBd (E.box 0 rfl)
   clear d0 d1
   have hg : x = (Int.gcd a b : Int) := by rw [← HI.out.2.2, Int.gcd_zero]; have := HX.out; omega
   have HG := hidd hg
   clear hg ha hb
   go_wp2
   refine bodyPost_ret (v := .agg #[p0, p1]) ?_ rfl ⟨_, rfl, E.below, by rw [← HG.out]; exact hP⟩
   simp [results, Tryz.results56, go_sem, c0, c1]
  ·have hk2 : 0 < k2 := by have := mt hz.1 hy; omega
   have HNZ := hidd hy
   clear hy hz hN2
   have HBV := hidd (zFd (bq_box (E.box 1 rfl)))
   go_upto_region 4 with (fail)
   have B9 : Hid (ab ((x % y)) < pw 900) := zCz HNZ.out HI.out.2.1
   refine rg [Fq.num x, Fq.num y, Fq.num (x % y), Fq.any, Fq.any] N3 [⟨3, 4, 2, Fq.num 0, Fq.num (x % y), none⟩] E (fun hp => ⟨?_, ?_, ?_, ?_, ?_, tv⟩) ?_
   ·exact zAz (off := 0) hp fo tv (mq 2 rfl) (.inl rfl) (Nat.le_of_ble_eq_true rfl) (zA2 rfl rfl (fun _ _ => rfl)) (fun us w hl h => zAh hl h)
   ·exact zAz (off := 0) hp fo tv (mq 1 rfl) (.inl rfl) (Nat.le_of_ble_eq_true rfl) (zA2 rfl rfl (fun _ _ => rfl)) (fun us w hl h => zAh hl h)
   ·exact wXb (Fq.num x) (Fq.num y) hp zCl (sqi 0) (sqi 1) fun v v' w h h' => zC1 h h' HNZ.out (Int.lt_of_lt_of_le HI.out.1 (zAg (by omega))) (Int.lt_of_lt_of_le HI.out.2.1 (zAg (by omega)))
   ·exact aN hp (mq 0 rfl)
   ·exact sN 2 hp (mq 0 rfl)
   intro L vs w10 nb hL hC hn E10
   have e3 : vs 3 = .pointer (some ⟨nb 3, 0, none⟩) := hn _ (mq 0 rfl)
   have E := E10; simp only [LM, zAb] at E
   rw [zAa hL]
   simp only [SP, Nat.zero_add, Nat.reduceAdd]
   rw [e3]
   generalize nb 3 = b10_3 at E ⊢
   generalize vs 0 = u10_0
   generalize vs 1 = u10_1
   generalize vs 2 = u10_2
   clear e3 hC hn E10 hL vs L nb
   clear d0 d1
   go_upto_region 5 with (fail)
   refine rg [Fq.num y, Fq.any] [none, none, none, some (1, Fq.num y)] [] E (fun hp => ⟨?_, ?_, tv⟩) ?_
   ·exact zAz (off := 0) hp fo tv (mq 2 rfl) (.inl rfl) (Nat.le_of_ble_eq_true rfl) (zA2 rfl rfl (fun _ _ => rfl)) (fun us w hl h => zAh hl h)
   ·exact zDp hp (mq 3 rfl) rfl rfl (zA2 rfl rfl (fun _ _ => rfl)) (zB9 0 rfl rfl (by simp) rfl (fun v w h => zDg h)) (fun _ _ => trivial) (zBw rfl)
   intro L vs w11 nb hL hC hn E11
   have E := E11; simp only [LM, zAb] at E
   rw [zAa hL]
   simp only [SP, Nat.zero_add, Nat.reduceAdd]
   generalize vs 0 = u11_0
   clear  hC hn E11 hL vs L nb
   go_upto_region 6 with (fail)
   refine rg [Fq.num (x % y), Fq.any] [none, none, some (1, Fq.num (x % y)), none] [] E (fun hp => ⟨?_, ?_, tv⟩) ?_
   ·exact zAz (off := 0) hp fo tv (mq 0 rfl) (.inl rfl) (Nat.le_of_ble_eq_true rfl) (zA2 rfl rfl (fun _ _ => rfl)) (fun us w hl h => zAh hl h)
   ·exact zDp hp (mq 2 rfl) rfl rfl (zA2 rfl rfl (fun _ _ => rfl)) (zB9 0 rfl rfl (by simp) rfl (fun v w h => zDg h)) (fun _ _ => trivial) (zBw rfl)
   intro L vs w12 nb hL hC hn E12
   have E := E12; simp only [LM, zAb] at E
   rw [zAa hL]
   simp only [SP, Nat.zero_add, Nat.reduceAdd]
   generalize vs 0 = u12_0
   clear  hC hn E12 hL vs L nb
   go_roundw
   case rel => exact ⟨_, _, _, _, _, _, _, _, _, _, ⟨y, x % y, HY.out, Int.emod_nonneg _ HNZ.out, ⟨HI.out.2.1, zCz HNZ.out HI.out.2.1, by rw [gcd_stepQ]; exact HI.out.2.2⟩, E.drop⟩, rfl⟩
   case measure => rw [zFd (bq_box (E.box 2 rfl)), HBV.out]; have h1 := Int.emod_nonneg x HNZ.out; have h2 := Int.emod_lt_of_pos x (show 0 < y by have := HNZ.out; have := HY.out; omega); omega

theorem zBz {w : World} {v v' : Value} {a b : Int} {t : Bool} (h : Num w v a) (h' : Num w v' b) (ht : decide (a = b) = t) : Calls Tryz.prog 19 #[v, v'] w fun e w' => ∃ v', e = .returned v' ∧ Below w.heap.size w w' ∧ v' = .bool t := by
 have := exRSame h h'
 rw [ht] at this
 exact this

end Go.Proofs.YtihhlaagndingaaGreat

namespace Go.Proofs.YtihhlaagndingaaGreat
open Go Go.RowKit

theorem Ow.set {w : World} {B g n c : Nat} {zs : List Int} (h : Ow w B (.slice (some ⟨g, 0, none⟩) n c) zs) {j : Nat} (hj : j < n) {x : Int} (hx0 : 0 ≤ x) (hx1 : x < 4294967296) : Ow (w.setCell ⟨g, j, none⟩ (.int .u32 x)) B (.slice (some ⟨g, 0, none⟩) n c) (zs.set j x) := by
 obtain ⟨⟨h1, h2⟩, h3⟩ := h
 rcases h2 with ⟨h4, _⟩ | ⟨g', cap, cur, h4, h5, h6, h7, h8, h9, h10⟩
 ·cases h4
 ·cases h4
  refine ⟨⟨by simp, .inr ⟨g, c, cur.setIfInBounds j (.int .u32 x), by rw [List.length_set], h5, ?_, by rw [List.length_set]; exact h7, h8, by simpa using h9, ?_⟩⟩, h3.set j ⟨hx0, hx1⟩⟩
  ·simp only [World.setCell, Array.getElem?_modify, if_true, h6, Option.map_some, Option.isSome_none]
   simp
  ·rw [List.length_set, Array.toList_setIfInBounds, List.take_set, h10, List.map_set]

end Go.Proofs.YtihhlaagndingaaGreat

namespace Go.Proofs.YtihhlaagndingaaGreat
open Go Go.RowKit

theorem Ow.nil (w : World) (B : Nat) : Ow w B (.slice none 0 0) [] := ⟨World.ownsRow_nil _ _ _ _, fun _ h => by simp at h⟩

end Go.Proofs.YtihhlaagndingaaGreat

namespace Go.Proofs.YtihhlaagndingaaGreat
open Go Go.RowKit

theorem Fr.put {w0 W : World} {b m : Nat} {F F' : Fq} {bs : List (Nat × Nat × Fq)} (h : Fr w0 ((b, m, F) :: bs) W) {us : List Value} (hl : us.length = m) (ht : Tame us) (hF : F'.P (.agg us.toArray) W) : Fr w0 ((b, m, F') :: bs) (putFrom W b 0 us) := by
 have hb := h.boxes _ List.mem_cons_self
 refine ⟨zGz hb.1 us 0 _ _ h.below, fun x hx => ?_, h.apart⟩
 rcases List.mem_cons.1 hx with rfl | hx
 ·exact ⟨hb.1, hb.2.same hl ht hF⟩
 ·have hx2 := h.boxes x (List.mem_cons_of_mem _ hx)
  refine ⟨hx2.1, hx2.2.other hb.2 (fun e => ?_) hl⟩
  have hn := h.apart
  rw [List.map_cons, List.nodup_cons] at hn
  exact hn.1 (by rw [show (b, m, F).1 = x.1 from e.symm]; exact List.mem_map.2 ⟨x, hx, rfl⟩)

section
variable {os : List Oper} {Q : Exit → Act → World → Prop} {a : Act} {p : Pq} {B B0 : Nat} {w0 : World}
variable {i s : Nat} {d : Option Tmp} {ty : TypeId} {ps : String} {af : Array Edge} {gd : Option (Nat × Bool)}
theorem zOq {b : Nat} {F : Fq} {x : Operand} (hp : p.Ok B B0) (hF : p.Free i) (hg : GdQ os a p B B0 w0 af gd) (hb : Bq w0 b 2 F) (hB : B = w0.heap.size) (hx : SrcQ os a p B B0 w0 af x fun u _ => u = .pointer (some ⟨b, 0, none⟩)) (hC : ∀ v w, F.P v w → (p.c i).P v w) :
  zAr os Q a p B B0 w0 i { dst := d, op := .load 32 x, type := ty, pos := ps, after := af, guard := gd } := by
 subst hB
 refine zBk hp hF hg fun L vs w hG hL hc hd => ?_
 obtain ⟨us, hl, h0, hat, ht, hP⟩ := hb.mono hG.below
 have e := hx L vs w hG hd
 match us, hl, hat, hP with
 | [u0, u1], _, hat, hP =>
  have c0 := (hat 0 (by simp)).1
  have c1 := (hat 1 (by simp)).1
  simp at c0 c1
  refine ⟨_, ?_, hC _ w hP⟩
  generalize (lay os.toArray L vs os.toArray.size a).eval = ρ at e
  simp [execOp, go_sem, e, c0, c1]
end

section
variable {os : List Oper} {Q : Exit → Act → World → Prop} {a : Act} {p : Pq} {B B0 : Nat} {w0 : World}
variable {i s : Nat} {d : Option Tmp} {ty : TypeId} {ps : String} {af : Array Edge} {gd : Option (Nat × Bool)}

theorem zL7 {o : Ob} {off : Nat} {x : Operand} {v : Value} (hp : p.Ok B B0) (hF : p.Free i) (hg : GdQ os a p B B0 w0 af gd) (ho : o ∈ p.old) (hk : o.F1 = o.F0 ∨ zBo os 9 o.k i = true) (hoff : off + 1 ≤ o.m)
  (hx : SrcQ os a p B B0 w0 af x fun u _ => u = .pointer (some ⟨o.b, off, none⟩)) (hC : ∀ (us : List Value) (w : World), us.length = o.m → o.F0.P (.agg us.toArray) w → us.getD off undef = v ∧ (p.c i).P v w) :
  zAr os Q a p B B0 w0 i { dst := d, op := .load 25 x, type := ty, pos := ps, after := af, guard := gd } := by
 refine zBk hp hF hg fun L vs w hG hL hc hd => ?_
 obtain ⟨us, hl, h0, hat, ht, hP⟩ := zDm ho hk hG hL hc
 have e := hx L vs w hG hd
 have c0 := (hat off (by omega)).1
 obtain ⟨e2, hP2⟩ := hC us w hl hP
 refine ⟨_, ?_, hP2⟩
 rw [e2] at c0
 generalize (lay os.toArray L vs os.toArray.size a).eval = ρ at e
 simp [execOp, go_sem, e, c0]

end

theorem newks_ne {C : List Fq} {bs : List (Nat × Nat × Fq)} {ks : List (Option (Nat × Fq))} {new : List Nb} {len i : Nat} (h : new.all (fun n => n.i == i || n.k != i) = true) : ∀ n ∈ (plq C bs ks new len).new, n.i ≠ i → n.k ≠ i := fun n hn hi e => by
 have := List.all_eq_true.1 h n hn
 simp [e, hi] at this

inductive Fd where
 | n (z : Int)
 | v (u : Value)
 | r (n : Bool) (a : Option Addr) (k c : Nat) (xs : List Int) (z : Int)
def Fd.len : Fd → Nat
 | .n _ => 2
 | .v _ => 1
 | .r .. => 2
def sz : List Fd → Nat
 | [] => 0
 | f :: fs => f.len + sz fs
def zB1 (u : Value) : Bool := u.oneCell' && (match u with | .int .u32 _ => false | _ => true)
def Fits (w : World) : List Fd → List Value → Prop
 | [], us => us = []
 | .n z :: fs, us => ∃ a b r, us = a :: b :: r ∧ Num w (.agg #[a, b]) z ∧ Fits w fs r
 | .v u :: fs, us => ∃ r, us = u :: r ∧ zB1 u = true ∧ Fits w fs r
 | .r n ao k c xs z :: fs, us => ∃ r, us = .bool n :: .slice ao k c :: r ∧ (Sl w ao k c xs ∧ Num w (.agg #[.bool n, .slice ao k c]) z) ∧ Fits w fs r
theorem Fits.mono {w w' : World} (hb : Below w.heap.size w w') : ∀ {fs : List Fd} {us : List Value}, Fits w fs us → Fits w' fs us
 | [], _, h => h
 | .n _ :: _, _, ⟨a, b, r, e, h1, h2⟩ => ⟨a, b, r, e, h1.mono hb, Fits.mono hb h2⟩
 | .v _ :: _, _, ⟨r, e, h1, h2⟩ => ⟨r, e, h1, Fits.mono hb h2⟩
 | .r .. :: _, _, ⟨r, e, h1, h2⟩ => ⟨r, e, ⟨h1.1.mono hb, h1.2.mono hb⟩, Fits.mono hb h2⟩
theorem Fits.putAt {w : World} {b : Nat} {vs vs' : List Value} (ha : At w b vs) (ht : Tame vs) (hl : vs'.length = vs.length) : ∀ {fs : List Fd} {us : List Value}, Fits w fs us → Fits (putFrom w b 0 vs') fs us
 | [], _, h => h
 | .n _ :: _, _, ⟨a, b, r, e, h1, h2⟩ => ⟨a, b, r, e, h1.putAt ha ht hl, Fits.putAt ha ht hl h2⟩
 | .v _ :: _, _, ⟨r, e, h1, h2⟩ => ⟨r, e, h1, Fits.putAt ha ht hl h2⟩
 | .r .. :: _, _, ⟨r, e, h1, h2⟩ => ⟨r, e, ⟨h1.1.putAt ha ht hl, h1.2.putAt ha ht hl⟩, Fits.putAt ha ht hl h2⟩
theorem Fits.length {w : World} : ∀ {fs : List Fd} {us : List Value}, Fits w fs us → us.length = sz fs
 | [], _, h => by rw [show _ = [] from h]; rfl
 | .n _ :: _, _, ⟨_, _, _, e, _, h2⟩ => by rw [e]; simp [sz, Fd.len, Fits.length h2]; omega
 | .v _ :: _, _, ⟨_, e, _, h2⟩ => by rw [e]; simp [sz, Fd.len, Fits.length h2]; omega
 | .r .. :: _, _, ⟨_, e, _, h2⟩ => by rw [e]; simp [sz, Fd.len, Fits.length h2]; omega
theorem tameB_ne {u : Value} (h : zB1 u = true) : ∀ q, u ≠ .int .u32 q := by
 rintro q rfl
 simp [zB1] at h
theorem zLm {w : World} {a b : Value} {z : Int} (h : Num w (.agg #[a, b]) z) : zB1 a = true ∧ zB1 b = true := by
 obtain ⟨n, ao, k, c, e⟩ := h.parts
 injection e with e
 have e2 := congrArg Array.toList e
 simp at e2
 obtain ⟨rfl, rfl⟩ := e2
 exact ⟨rfl, rfl⟩
theorem Fits.all {w : World} : ∀ {fs : List Fd} {us : List Value}, Fits w fs us → ∀ u ∈ us, zB1 u = true
 | [], _, h => by rw [show _ = [] from h]; intro u hu; simp at hu
 | .n _ :: _, _, ⟨_, _, _, e, h1, h2⟩ => by
  rw [e]
  intro u hu
  rcases List.mem_cons.1 hu with rfl | hu
  ·exact (zLm h1).1
  ·rcases List.mem_cons.1 hu with rfl | hu
   ·exact (zLm h1).2
   ·exact Fits.all h2 u hu
 | .v _ :: _, _, ⟨_, e, h1, h2⟩ => by
  rw [e]
  intro u hu
  rcases List.mem_cons.1 hu with rfl | hu
  ·exact h1
  ·exact Fits.all h2 u hu
 | .r .. :: _, _, ⟨_, e, _, h2⟩ => by
  rw [e]
  intro u hu
  rcases List.mem_cons.1 hu with rfl | hu
  ·rfl
  ·rcases List.mem_cons.1 hu with rfl | hu
   ·rfl
   ·exact Fits.all h2 u hu
theorem Fits.tame {w : World} {fs : List Fd} {us : List Value} (h : Fits w fs us) : Tame us := fun u hu => tameB_ne (h.all u hu)
theorem Fits.one {w : World} {fs : List Fd} {us : List Value} (h : Fits w fs us) : ∀ u ∈ us, u.oneCell' = true := fun u hu => by
 have := h.all u hu
 simp only [zB1, Bool.and_eq_true] at this
 exact this.1
theorem Fits.append {w : World} : ∀ {fs : List Fd} {us : List Value} {gs : List Fd} {vs : List Value}, Fits w fs us → Fits w gs vs → Fits w (fs ++ gs) (us ++ vs)
 | [], _, _, _, h, g => by rw [show _ = [] from h]; exact g
 | .n _ :: _, _, _, _, ⟨a, b, r, e, h1, h2⟩, g => ⟨a, b, r ++ _, by rw [e]; rfl, h1, Fits.append h2 g⟩
 | .v _ :: _, _, _, _, ⟨r, e, h1, h2⟩, g => ⟨r ++ _, by rw [e]; rfl, h1, Fits.append h2 g⟩
 | .r .. :: _, _, _, _, ⟨r, e, h1, h2⟩, g => ⟨r ++ _, by rw [e]; rfl, h1, Fits.append h2 g⟩
def cutF : Nat → List Fd → Option (List Fd)
 | 0, fs => some fs
 | _ + 1, [] => none
 | k + 1, .v _ :: fs => cutF k fs
 | 1, .n _ :: _ => none
 | k + 2, .n _ :: fs => cutF k fs
 | 1, .r .. :: _ => none
 | k + 2, .r .. :: fs => cutF k fs
def zBn : Nat → List Fd → Option (List Fd)
 | 0, _ => some []
 | _ + 1, [] => none
 | k + 1, .v u :: fs => (zBn k fs).map (.v u :: ·)
 | 1, .n _ :: _ => none
 | k + 2, .n z :: fs => (zBn k fs).map (.n z :: ·)
 | 1, .r .. :: _ => none
 | k + 2, .r n a l c xs z :: fs => (zBn k fs).map (.r n a l c xs z :: ·)
theorem Fits.cut {w : World} : ∀ {k : Nat} {fs gs : List Fd} {us : List Value}, Fits w fs us → cutF k fs = some gs → Fits w gs (us.drop k)
 | 0, _, _, _, h, e => by cases e; exact h
 | _ + 1, [], _, _, _, e => by cases e
 | k + 1, .v _ :: _, _, _, ⟨_, e1, _, h2⟩, e => by rw [e1]; exact Fits.cut (k := k) h2 e
 | 1, .n _ :: _, _, _, _, e => by cases e
 | k + 2, .n _ :: _, _, _, ⟨_, _, _, e1, _, h2⟩, e => by rw [e1]; exact Fits.cut (k := k) h2 e
 | 1, .r .. :: _, _, _, _, e => by cases e
 | k + 2, .r .. :: _, _, _, ⟨_, e1, _, h2⟩, e => by rw [e1]; exact Fits.cut (k := k) h2 e
theorem Fits.first {w : World} : ∀ {k : Nat} {fs gs : List Fd} {us : List Value}, Fits w fs us → zBn k fs = some gs → Fits w gs (us.take k)
 | 0, _, _, _, _, e => by cases e; rfl
 | _ + 1, [], _, _, _, e => by cases e
 | k + 1, .v u :: fs, _, _, ⟨r, e1, h1, h2⟩, e => by
  cases hq : zBn k fs with
  | none => simp [zBn, hq] at e
  | some g =>
   simp [zBn, hq] at e
   subst e
   rw [e1]
   exact ⟨_, rfl, h1, Fits.first h2 hq⟩
 | 1, .n _ :: _, _, _, _, e => by cases e
 | k + 2, .n z :: fs, _, _, ⟨a, b, r, e1, h1, h2⟩, e => by
  cases hq : zBn k fs with
  | none => simp [zBn, hq] at e
  | some g =>
   simp [zBn, hq] at e
   subst e
   rw [e1]
   exact ⟨_, _, _, rfl, h1, Fits.first h2 hq⟩
 | 1, .r .. :: _, _, _, _, e => by cases e
 | k + 2, .r n a l c xs z :: fs, _, _, ⟨r, e1, h1, h2⟩, e => by
  cases hq : zBn k fs with
  | none => simp [zBn, hq] at e
  | some g =>
   simp [zBn, hq] at e
   subst e
   rw [e1]
   exact ⟨_, rfl, h1, Fits.first h2 hq⟩
def subF (off l : Nat) (fs : List Fd) : Option (List Fd) := (cutF off fs).bind (zBn l)
def putF (off : Nat) (gs fs : List Fd) : Option (List Fd) := (zBn off fs).bind fun a => (cutF (off + sz gs) fs).map fun c => a ++ (gs ++ c)
theorem Fits.sub {w : World} {off l : Nat} {fs gs : List Fd} {us : List Value} (h : Fits w fs us) (e : subF off l fs = some gs) : Fits w gs ((us.drop off).take l) := by
 unfold subF at e
 cases hq : cutF off fs with
 | none => simp [hq] at e
 | some a => rw [hq] at e; exact (h.cut hq).first e
theorem Fits.put {w : World} {off : Nat} {fs gs fs' : List Fd} {us vs : List Value} (h : Fits w fs us) (hv : Fits w gs vs) (e : putF off gs fs = some fs') : Fits w fs' (us.take off ++ (vs ++ us.drop (off + sz gs))) := by
 unfold putF at e
 cases hq : zBn off fs with
 | none => simp [hq] at e
 | some a =>
  cases hc : cutF (off + sz gs) fs with
  | none => simp [hq, hc] at e
  | some c =>
   simp [hq, hc] at e
   subst e
   exact (h.first hq).append (hv.append (h.cut hc))
theorem zHg : ∀ {k : Nat} {fs gs : List Fd}, cutF k fs = some gs → k + sz gs = sz fs
 | 0, _, _, e => by cases e; simp
 | _ + 1, [], _, e => by cases e
 | k + 1, .v _ :: _, _, e => by have := zHg (k := k) e; simp [sz, Fd.len]; omega
 | 1, .n _ :: _, _, e => by cases e
 | k + 2, .n _ :: _, _, e => by have := zHg (k := k) e; simp [sz, Fd.len]; omega
 | 1, .r .. :: _, _, e => by cases e
 | k + 2, .r .. :: _, _, e => by have := zHg (k := k) e; simp [sz, Fd.len]; omega
theorem zHt : ∀ {k : Nat} {fs gs : List Fd}, zBn k fs = some gs → sz gs = k
 | 0, _, _, e => by cases e; rfl
 | _ + 1, [], _, e => by cases e
 | k + 1, .v u :: fs, _, e => by
  cases hq : zBn k fs with
  | none => simp [zBn, hq] at e
  | some g => simp [zBn, hq] at e; subst e; have := zHt hq; simp [sz, Fd.len]; omega
 | 1, .n _ :: _, _, e => by cases e
 | k + 2, .n z :: fs, _, e => by
  cases hq : zBn k fs with
  | none => simp [zBn, hq] at e
  | some g => simp [zBn, hq] at e; subst e; have := zHt hq; simp [sz, Fd.len]; omega
 | 1, .r .. :: _, _, e => by cases e
 | k + 2, .r n a l c xs z :: fs, _, e => by
  cases hq : zBn k fs with
  | none => simp [zBn, hq] at e
  | some g => simp [zBn, hq] at e; subst e; have := zHt hq; simp [sz, Fd.len]; omega
theorem zE9 {us vs : List Value} (e : Value.agg us.toArray = Value.agg vs.toArray) : us = vs := by
 injection e with e
 simpa using congrArg Array.toList e
def Fq.st (fs : List Fd) : Fq := ⟨fun v w => ∃ us : List Value, v = .agg us.toArray ∧ Fits w fs us, fun ⟨us, e, h⟩ hb => ⟨us, e, h.mono hb⟩, fun ⟨us, e, h⟩ ha ht hl => ⟨us, e, h.putAt ha ht hl⟩⟩
def FitV (gs : List Fd) (v : Value) (w : World) : Prop := Fits w gs v.cells.toList
theorem fitv_st {gs : List Fd} {v : Value} {w : World} (h : (Fq.st gs).P v w) : FitV gs v w := by
 obtain ⟨us, rfl, h⟩ := h
 simpa [FitV, Value.cells] using h
theorem zGo {u v : Value} {w : World} (h : v = u) (ht : zB1 u = true) : FitV [.v u] v w := by
 subst h
 have : v.cells = #[v] := by cases v <;> simp_all [zB1, Value.cells, Value.oneCell']
 rw [FitV, this]
 exact ⟨[], rfl, ht, rfl⟩
theorem zA8 {z : Int} {v : Value} {w : World} (h : (Fq.st [.n z]).P v w) : Num w v z := by
 obtain ⟨us, rfl, a, b, r, rfl, h1, h2⟩ := h
 rw [show r = [] from h2]
 exact h1
theorem zD3 {n : Bool} {ao : Option Addr} {k c : Nat} {xs : List Int} {z : Int} {v : Value} {w : World} (h : (Fq.st [.r n ao k c xs z]).P v w) : Num w v z := by
 obtain ⟨us, rfl, r, rfl, h1, h2⟩ := h
 rw [show r = [] from h2]
 exact h1.2
theorem zHv {w : World} {z : Int} {post : List Fd} : ∀ {pre : List Fd} {us : List Value}, Fits w (pre ++ .n z :: post) us → ∃ n ao k c xs, (z = sgn n (val xs) ∧ Canon xs ∧ xs.length = k ∧ (n = true → k ≠ 0) ∧ Digs xs) ∧ Fits w (pre ++ .r n ao k c xs z :: post) us
 | [], _, ⟨_, _, r, e, h1, h2⟩ => by
  obtain ⟨neg, ao, k, c, xs, hv, hs, hn, hz, hc, hnn⟩ := id h1
  injection hv with hv
  have hv2 := congrArg Array.toList hv
  simp at hv2
  obtain ⟨rfl, rfl⟩ := hv2
  exact ⟨neg, ao, k, c, xs, ⟨hz, hc, hs.len, hnn, hs.digs⟩, r, e, ⟨hs, h1⟩, h2⟩
 | .n _ :: _, _, ⟨a, b, r, e, h1, h2⟩ => by obtain ⟨n, ao, k, c, xs, g, h⟩ := zHv h2; exact ⟨n, ao, k, c, xs, g, a, b, r, e, h1, h⟩
 | .v _ :: _, _, ⟨r, e, h1, h2⟩ => by obtain ⟨n, ao, k, c, xs, g, h⟩ := zHv h2; exact ⟨n, ao, k, c, xs, g, r, e, h1, h⟩
 | .r .. :: _, _, ⟨r, e, h1, h2⟩ => by obtain ⟨n, ao, k, c, xs, g, h⟩ := zHv h2; exact ⟨n, ao, k, c, xs, g, r, e, h1, h⟩
theorem st_open {w : World} {v : Value} {z : Int} (pre post : List Fd) (h : (Fq.st (pre ++ .n z :: post)).P v w) : ∃ n ao k c xs, (z = sgn n (val xs) ∧ Canon xs ∧ xs.length = k ∧ (n = true → k ≠ 0) ∧ Digs xs) ∧ (Fq.st (pre ++ .r n ao k c xs z :: post)).P v w := by
 obtain ⟨us, rfl, h⟩ := h
 obtain ⟨n, ao, k, c, xs, g, h⟩ := zHv h
 exact ⟨n, ao, k, c, xs, g, us, rfl, h⟩
theorem zHu {w : World} {off : Nat} {fs gs : List Fd} {n : Bool} {ao : Option Addr} {k c : Nat} {xs : List Int} {z : Int} {us : List Value} (h : (Fq.st fs).P (.agg us.toArray) w) (e : cutF off fs = some (.r n ao k c xs z :: gs)) : us.getD (off + 1) undef = .slice ao k c ∧ Sl w ao k c xs := by
 obtain ⟨us', e', hfit⟩ := h
 have := zE9 e'
 subst this
 obtain ⟨r, e2, h1, _⟩ := hfit.cut e
 refine ⟨?_, h1.1⟩
 have h2 := congrArg (fun l => l[1]?) e2
 simp at h2
 simp [List.getD, h2]
theorem fits_word {w : World} {off : Nat} {fs gs : List Fd} {n : Bool} {ab o k c : Nat} {xs : List Int} {z x0 : Int} {us : List Value} (h : (Fq.st fs).P (.agg us.toArray) w) (e : cutF off fs = some (.r n (some ⟨ab, o, none⟩) k c xs z :: gs)) (j : Nat) (hj : j < k) (hx : xs.getD j 0 = x0) : w.cell? ⟨ab, o + j, none⟩ = some (.int .u32 x0) := by
 have hs := (zHu h e).2
 obtain ⟨x, h1, _, _, h4⟩ := hs.cells.at' (k := j) (by rw [hs.len]; exact hj)
 rw [h1, ← hx, h4.out]
theorem zK5 {w : World} {off : Nat} {fs gs : List Fd} {n : Bool} {ab o k c : Nat} {xs : List Int} {z x0 : Int} {us : List Value} (e : cutF off fs = some (.r n (some ⟨ab, o, none⟩) k c xs z :: gs)) (hj : 0 < k) (hx : xs.getD 0 0 = x0) (h : (Fq.st fs).P (.agg us.toArray) w) : w.cell? ⟨ab, o, none⟩ = some (.int .u32 x0) := fits_word h e 0 hj hx
theorem st_addr {w : World} {off : Nat} {fs gs : List Fd} {n : Bool} {ao : Option Addr} {k c : Nat} {xs : List Int} {z : Int} {v : Value} (h : (Fq.st fs).P v w) (e : cutF off fs = some (.r n ao k c xs z :: gs)) (hk : 0 < k) : ∃ ab o, ao = some ⟨ab, o, none⟩ := by
 obtain ⟨us, rfl, h⟩ := h
 have hs := (zHu ⟨us, rfl, h⟩ e).2
 obtain ⟨b, o, e, _⟩ := hs.cells.at (k := 0) (by rw [hs.len]; exact hk)
 exact ⟨b, o, e⟩
theorem zJf (b : Nat) : ∀ (us : List Value) (j : Nat) (w : World), putFrom w b j us = w.setCells b j us
 | [], _, _ => rfl
 | u :: us, j, w => by
  show putFrom (w.setCell ⟨b, j, none⟩ u) b (j + 1) us = _
  rw [zJf b us]
  rfl
theorem zJe (b : Nat) : ∀ (us vs : List Value) (j : Nat) (w : World), putFrom w b j (us ++ vs) = putFrom (putFrom w b j us) b (j + us.length) vs
 | [], _, _, _ => rfl
 | u :: us, vs, j, w => by
  show putFrom (w.setCell ⟨b, j, none⟩ u) b (j + 1) (us ++ vs) = putFrom (putFrom (w.setCell ⟨b, j, none⟩ u) b (j + 1) us) b _ vs
  rw [zJe b us vs]
  congr 1
  simp
  omega
theorem zOz {w : World} {a : Addr} {v : Value} (h : w.cell? a = some v) : w.setCell a v = w := by
 have e : (w.setCell a v).heap = w.heap := by
  unfold World.cell? at h
  unfold World.setCell
  apply Array.ext
  ·simp
  ·intro j h1 h2
   simp only [Array.getElem_modify]
   split
   ·rename_i hj
    subst hj
    rw [Array.getElem?_eq_getElem h2] at h
    cases hc : w.heap[a.block] with
    | cells c el fr =>
     rw [hc] at h
     simp only at h
     split at h
     ·cases h
     ·rename_i hs
      simp only [hs, Bool.false_eq_true, if_false]
      congr 1
      apply Array.ext
      ·simp
      ·intro k g1 g2
       rw [Array.getElem_setIfInBounds]
       split
       ·rename_i hk
        subst hk
        rw [Array.getElem?_eq_getElem g2] at h
        exact (Option.some.inj h).symm
       ·rfl
    | _ => rfl
   ·rfl
 have e2 : w.setCell a v = { w with heap := (w.setCell a v).heap } := rfl
 rw [e2, e]
theorem zJh (b : Nat) : ∀ (us : List Value) (j : Nat) (w : World), (∀ i, i < us.length → w.cell? ⟨b, j + i, none⟩ = some (us.getD i undef)) → putFrom w b j us = w
 | [], _, _, _ => rfl
 | u :: us, j, w, h => by
  show putFrom (w.setCell ⟨b, j, none⟩ u) b (j + 1) us = w
  have h0 := h 0 (by simp)
  rw [zOz (by simpa using h0)]
  exact zJh b us (j + 1) w fun i hi => by
   have := h (i + 1) (by simp; omega)
   rw [show j + (i + 1) = j + 1 + i by omega] at this
   simpa using this
theorem zOi {w : World} {b off : Nat} {us vs : List Value} (ha : At w b us) (hl : off + vs.length ≤ us.length) : putFrom w b off vs = putFrom w b 0 (us.take off ++ (vs ++ us.drop (off + vs.length))) := by
 have hlt : (us.take off).length = off := by simp; omega
 rw [zJe, zJh b (us.take off) 0 w fun i hi => ?_]
 ·rw [Nat.zero_add, hlt, zJe]
  refine (zJh b _ _ _ fun i hi => ?_).symm
  rw [zJf, World.cell?_setCells_out b vs off w _ (fun _ _ => .inr (by show off + vs.length ≤ off + vs.length + i; omega))]
  have hi' : off + vs.length + i < us.length := by simp at hi; omega
  rw [(ha _ hi').1]
  simp [List.getD]
 ·rw [Nat.zero_add, (ha i (by omega)).1]
  rw [hlt] at hi
  simp [List.getD, hi]

noncomputable def rowB (T l : Nat) : Bool := (match Tryz.prog.underlying T with | some d => d.isRow | none => false) && (match Tryz.prog.info? T with | some i => i.size == l | none => false)
noncomputable def zDa (T l : Nat) : Bool := match Tryz.prog.info? T with | some i => i.size == l | none => false
theorem zJm {T l : Nat} (h : rowB T l = true) : (∃ d, Tryz.prog.underlying T = some d ∧ d.isRow = true) ∧ (Tryz.prog.info? T).map (·.size) = some l := by
 unfold rowB at h
 cases hu : Tryz.prog.underlying T with
 | none => simp [hu] at h
 | some d =>
  cases hi : Tryz.prog.info? T with
  | none => simp [hi] at h
  | some i => simp [hu, hi] at h; exact ⟨⟨d, rfl, h.1⟩, by simp [h.2]⟩
theorem sizeB_of {T l : Nat} (h : zDa T l = true) : ∃ i, Tryz.prog.info? T = some i ∧ i.size = l := by
 unfold zDa at h
 cases hi : Tryz.prog.info? T with
 | none => simp [hi] at h
 | some i => simp [hi] at h; exact ⟨i, rfl, h⟩
theorem zOy {w : World} {b o T : Nat} {v : Value} (ht : w.there b o v.cells.size) (hi : zDa T v.cells.size = true) (h1 : ∀ u ∈ v.cells.toList, u.oneCell' = true) : (storeVar T ⟨b, o, none⟩ v).run Tryz.prog w = .ok () (w.setCells b o v.cells.toList) := by
 have := run_storeCells_cells (P := Tryz.prog) b o v.cells.toList 0 w (fun j hj => by simpa using (ht j (by simpa using hj)).1) (fun j hj => by simpa using (ht j (by simpa using hj)).2) h1
 obtain ⟨i, hq, hs⟩ := sizeB_of hi
 simp only [Nat.add_zero] at this
 simp [storeVar, sizeOf, typeInfo, hq, hs, this]

section
variable {os : List Oper} {Q : Exit → Act → World → Prop} {a : Act} {p : Pq} {B B0 : Nat} {w0 : World}
variable {i s : Nat} {d : Option Tmp} {ty : TypeId} {ps : String} {af : Array Edge} {gd : Option (Nat × Bool)}

theorem zBe {o : Ob} {off l T : Nat} {fs gs : List Fd} {x : Operand} (hp : p.Ok B B0) (hF : p.Free i) (hg : GdQ os a p B B0 w0 af gd) (ho : o ∈ p.old) (hk : o.F1 = o.F0 ∨ zBo os 9 o.k i = true) (hf : o.F0 = Fq.st fs) (hT : rowB T l = true) (hs : subF off l fs = some gs)
  (hx : SrcQ os a p B B0 w0 af x fun u _ => u = .pointer (some ⟨o.b, off, none⟩)) (hC : ∀ v w, (Fq.st gs).P v w → (p.c i).P v w) :
  zAr os Q a p B B0 w0 i { dst := d, op := .load T x, type := ty, pos := ps, after := af, guard := gd } := by
 refine zBk hp hF hg fun L vs w hG hL hc hd => ?_
 obtain ⟨us, hl, h0, hat, ht, hP⟩ := zDm ho hk hG hL hc
 rw [hf] at hP
 obtain ⟨us', e', hfit⟩ := hP
 have e2 : us = us' := zE9 e'
 subst e2
 have e := hx L vs w hG hd
 have hsub := hfit.sub hs
 obtain ⟨⟨dd, hu, hd'⟩, hi⟩ := zJm hT
 have hlen : ((us.drop off).take l).length = l := by
  rw [hsub.length]
  unfold subF at hs
  cases hq : cutF off fs with
  | none => simp [hq] at hs
  | some a => rw [hq] at hs; exact zHt hs
 refine ⟨.agg ((us.drop off).take l).toArray, ?_, hC _ _ ⟨_, rfl, hsub⟩⟩
 have hr : w.rangeAt o.b off ((us.drop off).take l) := by
  intro j v hv
  rw [List.getElem?_take] at hv
  split at hv
  ·rw [List.getElem?_drop] at hv
   have hj := (List.getElem?_eq_some_iff.1 hv).1
   rw [(hat _ hj).1, List.getD, hv]
   rfl
  ·cases hv
 have := run_loadVar_mid (P := Tryz.prog) w o.b off T _ dd hr hu hd' (by rw [hlen]; exact hi)
 generalize (lay os.toArray L vs os.toArray.size a).eval = ρ at e
 simp only [execOp, e, Instr.loadAt, Instr.sureAddr, Sem.run_bind, Sem.run_pure, Result.andThen_ok, this]

theorem zEh {o : Ob} {off T : Nat} {fs : List Fd} {u : Value} {x : Operand} (hp : p.Ok B B0) (hF : p.Free i) (hg : GdQ os a p B B0 w0 af gd) (ho : o ∈ p.old) (hk : o.F1 = o.F0 ∨ zBo os 9 o.k i = true) (hf : o.F0 = Fq.st fs) (hs : subF off 1 fs = some [.v u])
  (hT : ∀ (ρ : Operand → Value) (w : World) (b : Nat), ρ x = .pointer (some ⟨b, off, none⟩) → w.cell? ⟨b, off, none⟩ = some u → (execOp ρ { dst := d, op := .load T x, type := ty, pos := ps, after := af, guard := gd }).run Tryz.prog w = .ok (.value u) w)
  (hx : SrcQ os a p B B0 w0 af x fun u _ => u = .pointer (some ⟨o.b, off, none⟩)) (hC : ∀ w, (p.c i).P u w) :
  zAr os Q a p B B0 w0 i { dst := d, op := .load T x, type := ty, pos := ps, after := af, guard := gd } := by
 refine zBk hp hF hg fun L vs w hG hL hc hd => ?_
 obtain ⟨us, hl, h0, hat, ht, hP⟩ := zDm ho hk hG hL hc
 rw [hf] at hP
 obtain ⟨us', e', hfit⟩ := hP
 have e2 : us = us' := zE9 e'
 subst e2
 have e := hx L vs w hG hd
 obtain ⟨r, hsub, _, _⟩ := hfit.sub hs
 have hoff : off < us.length := by
  rcases Nat.lt_or_ge off us.length with h | h
  ·exact h
  ·rw [List.drop_of_length_le h] at hsub; simp at hsub
 have hu : us.getD off undef = u := by
  have h2 := congrArg (fun l => l[0]?) hsub
  simp at h2
  simp [List.getD, h2]
 refine ⟨u, ?_, hC w⟩
 have c0 := (hat off hoff).1
 rw [hu] at c0
 exact hT _ _ _ e c0

theorem zL6 {o : Ob} {off : Nat} {x : Operand} {v : Value} (hp : p.Ok B B0) (hF : p.Free i) (hg : GdQ os a p B B0 w0 af gd) (ho : o ∈ p.old) (hk : o.F1 = o.F0 ∨ zBo os 9 o.k i = true) (hoff : off + 1 ≤ o.m)
  (hx : SrcQ os a p B B0 w0 af x fun u _ => u = .pointer (some ⟨o.b, off, none⟩)) (hC : ∀ (us : List Value) (w : World), us.length = o.m → o.F0.P (.agg us.toArray) w → us.getD off undef = v ∧ (p.c i).P v w) :
  zAr os Q a p B B0 w0 i { dst := d, op := .load 25 x, type := ty, pos := ps, after := af, guard := gd } := by
 refine zBk hp hF hg fun L vs w hG hL hc hd => ?_
 obtain ⟨us, hl, h0, hat, ht, hP⟩ := zDm ho hk hG hL hc
 have e := hx L vs w hG hd
 have c0 := (hat off (by omega)).1
 obtain ⟨e2, hP2⟩ := hC us w hl hP
 refine ⟨_, ?_, hP2⟩
 rw [e2] at c0
 generalize (lay os.toArray L vs os.toArray.size a).eval = ρ at e
 simp [execOp, go_sem, e, c0]
theorem zL8 {o : Ob} {bx : Nat} {ad : Addr} {x : Operand} {x0 : Int} (hp : p.Ok B B0) (hF : p.Free i) (hg : GdQ os a p B B0 w0 af gd) (ho : o ∈ p.old) (hk : o.F1 = o.F0 ∨ zBo os 9 o.k i = true)
  (hx : SrcQ os a p B B0 w0 af x fun u _ => u = .pointer (some ad)) (hC : ∀ (us : List Value) (w : World), us.length = o.m → o.F0.P (.agg us.toArray) w → w.cell? ad = some (.int .u32 x0)) (hI : ∀ w, (p.c i).P (.int .u32 x0) w) (_hb : o.b = bx := by rfl) :
  zAr os Q a p B B0 w0 i { dst := d, op := .load 67 x, type := ty, pos := ps, after := af, guard := gd } := by
 refine zBk hp hF hg fun L vs w hG hL hc hd => ?_
 obtain ⟨us, hl, h0, hat, ht, hP⟩ := zDm ho hk hG hL hc
 have e := hx L vs w hG hd
 have c0 := hC us w hl hP
 refine ⟨_, ?_, hI w⟩
 generalize (lay os.toArray L vs os.toArray.size a).eval = ρ at e
 simp [execOp, go_sem, e, c0]
theorem st_run {T b off : Nat} {x y : Operand} {fs gs fs' : List Fd} {us : List Value} {w : World} {ρ : Operand → Value} (hx : ρ x = .pointer (some ⟨b, off, none⟩)) (hv : FitV gs (ρ y) w) (ha : At w b us) (hf : Fits w fs us) (hT : zDa T (sz gs) = true) (hput : putF off gs fs = some fs') :
  ∃ us', us'.length = us.length ∧ Fits w fs' us' ∧ (execOp ρ { dst := d, op := .store T x y, type := ty, pos := ps, after := af, guard := none }).run Tryz.prog w = .ok .skip (putFrom w b 0 us') := by
 have hlen := hv.length
 have hsum : off + sz gs ≤ sz fs := by
  unfold putF at hput
  cases hq : zBn off fs with
  | none => simp [hq] at hput
  | some a =>
   cases hc : cutF (off + sz gs) fs with
   | none => simp [hq, hc] at hput
   | some c => have := zHg hc; omega
 rw [← hf.length] at hsum
 have hcs : (ρ y).cells.size = sz gs := by rw [← hlen]; simp
 refine ⟨_, ?_, hf.put hv hput, ?_⟩
 ·simp only [List.length_append, List.length_take, List.length_drop, hlen]; omega
 ·have hrun := zOy (w := w) (b := b) (o := off) (T := T) (v := ρ y) (fun j hj => by
    have := ha (off + j) (by omega)
    exact ⟨by rw [this.1]; rfl, this.2⟩) (by rw [hcs]; exact hT) hv.one
  rw [← zJf, zOi ha (by rw [hlen]; exact hsum), hlen] at hrun
  simp only [execOp, Instr.storeAt, Instr.sureAddr, hx, Sem.run_bind, Sem.run_pure, Result.andThen_ok, hrun]

theorem zDq {o0 : Ob} {off T : Nat} {x y : Operand} {fs gs fs' : List Fd} (hp : p.Ok B B0) (hi : o0 ∈ p.old) (hki : o0.k = i) (hf0 : o0.F0 = Fq.st fs) (hf1 : o0.F1 = Fq.st fs') (hT : zDa T (sz gs) = true) (hput : putF off gs fs = some fs')
  (hx : SrcQ os a p B B0 w0 af x fun u _ => u = .pointer (some ⟨o0.b, off, none⟩)) (hy : SrcQ os a p B B0 w0 af y (FitV gs))
  (hC : ∀ v w', (p.c i).P v w') (h2 : ∀ n ∈ p.new, n.i ≠ i ∧ n.k ≠ i) : zAr os Q a p B B0 w0 i { dst := none, op := .store T x y, type := ty, pos := ps, after := af, guard := none } := by
 subst hki
 intro hio L vs w hG hL hd hc
 have hv := hy L vs w hG hd
 obtain ⟨us, g1, g2, g3, g4, g5⟩ := hG.old _ hi
 rw [hL] at g5
 simp only [Bool.false_eq_true, if_false] at g5
 rw [hf0] at g5
 obtain ⟨us2, e2, hfit⟩ := g5
 have e3 : us = us2 := zE9 e2
 subst e3
 obtain ⟨us', hl', hfit', hrun⟩ := st_run (d := none) (ty := ty) (ps := ps) (af := af) (hx L vs w hG hd) hv g3 hfit hT hput
 refine wpOp_step hio fun K' hK => ?_
 have hwn : Region.wanted ({ dst := none, op := .store T x y, type := ty, pos := ps, after := af, guard := none } : Oper) (yielded os.toArray (lay os.toArray L vs os.toArray.size a).tmps) = true := rfl
 rw [if_pos hwn]
 unfold Oper.wp
 rw [hrun]
 exact hK _ _ ⟨undef, rfl, hG.storeOld hp hi (us := us') (by omega) hfit'.tame (by rw [hf1]; exact ⟨_, rfl, hfit'⟩) hC h2 _⟩

theorem zOs {n0 : Nb} {T : Nat} {x y : Operand} {fs gs : List Fd} (hp : p.Ok B B0) (hi : n0 ∈ p.new) (hki : n0.k = i) (hsl : n0.s = none) (hf0 : n0.F0 = Fq.st fs) (hf1 : n0.F1 = Fq.st gs) (hT : zDa T (sz gs) = true) (hput : putF 0 gs fs = some gs)
  (hx : ∀ L vs w, p.G B B0 w0 L vs w → (∀ e ∈ af, Region.binds .any e = true → L e.on = true) → L n0.i = true ∧ (lay os.toArray L vs os.toArray.size a).eval x = vs n0.i) (hy : SrcQ os a p B B0 w0 af y (FitV gs))
  (hC : ∀ v w', (p.c i).P v w') (h1 : ∀ o ∈ p.old, o.k ≠ i) (h2 : ∀ n ∈ p.new, n.i ≠ i) : zAr os Q a p B B0 w0 i { dst := none, op := .store T x y, type := ty, pos := ps, after := af, guard := none } := by
 subst hki
 intro hio L vs w hG hL hd hc
 obtain ⟨hLi, hxe⟩ := hx L vs w hG hd
 have hv := hy L vs w hG hd
 obtain ⟨b, e1', e2, us, g1, g2, g3, g4, g5⟩ := hG.new _ hi hLi
 rw [Nb.now_off hsl hL, hf0] at g5
 obtain ⟨us2, e4, hfit⟩ := g5
 have e3 : us = us2 := zE9 e4
 subst e3
 have e1 : vs n0.i = .pointer (some ⟨b, 0, none⟩) := by rw [e1']; unfold Nb.ptr; rw [hsl]
 obtain ⟨us', hl', hfit', hrun⟩ := st_run (d := none) (ty := ty) (ps := ps) (af := af) (hxe.trans e1) hv g3 hfit hT hput
 refine wpOp_step hio fun K' hK => ?_
 have hwn : Region.wanted ({ dst := none, op := .store T x y, type := ty, pos := ps, after := af, guard := none } : Oper) (yielded os.toArray (lay os.toArray L vs os.toArray.size a).tmps) = true := rfl
 rw [if_pos hwn]
 unfold Oper.wp
 rw [hrun]
 exact hK _ _ ⟨undef, rfl, hG.storeNew hp hi hLi (us := us') (by omega) hfit'.tame (by rw [hf1]; exact ⟨_, rfl, hfit'⟩) hC h1 h2 e1' _⟩

theorem q_allocSt {n0 : Nb} {T : Nat} {us : List Value} {fs : List Fd} (hp : p.Ok B B0) (hi : n0 ∈ p.new) (hii : n0.i = i) (hsl : n0.s = none) (hm : n0.m = us.length) (h0 : 0 < us.length) (hf0 : n0.F0 = Fq.st fs) (hz : ∀ w, Fits w fs us)
  (hT : ∀ (ρ : Operand → Value) (w : World), (execOp ρ { dst := d, op := .alloc T, type := ty, pos := ps, after := af, guard := none }).run Tryz.prog w = .ok (.value (.pointer (some ⟨w.heap.size, 0, none⟩))) (w.alloc (.cells us.toArray T)))
  (hk : zBo os 9 n0.k i = true) (hki : n0.k ≠ i) (hC : ∀ v w', (p.c i).P v w') (h1 : ∀ o ∈ p.old, o.k ≠ i) (h2 : ∀ n ∈ p.new, n.k ≠ i) :
  zAr os Q a p B B0 w0 i { dst := d, op := .alloc T, type := ty, pos := ps, after := af, guard := none } := by
 subst hii
 intro hio L vs w hG hL hd hc
 refine wpOp_step hio fun K' hK => ?_
 have hwn : Region.wanted ({ dst := d, op := .alloc T, type := ty, pos := ps, after := af, guard := none } : Oper) (yielded os.toArray (lay os.toArray L vs os.toArray.size a).tmps) = true := rfl
 rw [if_pos hwn]
 unfold Oper.wp
 rw [hT]
 exact hK _ _ ⟨_, rfl, hG.alloc hp hi hsl (zGv hc hk hL) hki hC h1 h2 _ (us := us) hm.symm (by omega) (hz w).tame (fun w' => by rw [hf0]; exact ⟨_, rfl, hz w'⟩)⟩
end
theorem zAu {w : World} {b m : Nat} {fs : List Fd} (h : Bq w b m (Fq.st fs)) : ∃ us, us.length = m ∧ (∀ j, j < us.length → w.cell? ⟨b, j, none⟩ = some (us.getD j undef)) ∧ Fits w fs us := by
 obtain ⟨us, h1, _, h3, _, us', e, h5⟩ := h
 have e2 : us = us' := zE9 e
 subst e2
 exact ⟨us, h1, fun j hj => (h3 j hj).1, h5⟩
section
variable {os : List Oper} {Q : Exit → Act → World → Prop} {a : Act} {p : Pq} {B B0 : Nat} {w0 : World}
variable {i s : Nat} {d : Option Tmp} {ty : TypeId} {ps : String} {af : Array Edge} {gd : Option (Nat × Bool)}
theorem wXc (off : Nat) {o : Ob} {T : Nat} {fs : List Fd} {u : Value} {x : Operand} (hp : p.Ok B B0) (ho : o ∈ p.old) (hx : SrcQ os a p B B0 w0 af x fun u _ => u = .pointer (some ⟨o.b, off, none⟩)) (hf : o.F0 = Fq.st fs := by exact rfl) (hs : subF off 1 fs = some [.v u] := by exact rfl)
  (hT : ∀ (ρ : Operand → Value) (w : World) (b : Nat), ρ x = .pointer (some ⟨b, off, none⟩) → w.cell? ⟨b, off, none⟩ = some u → (execOp ρ { dst := d, op := .load T x, type := ty, pos := ps, after := af, guard := none }).run Tryz.prog w = .ok (.value u) w := by intro ρ w b h1 h2; simp [execOp, go_sem, h1, h2])
  (hC : ∀ w, (p.c i).P u w := by exact fun _ => rfl) (hk : o.F1 = o.F0 ∨ zBo os 9 o.k i = true := by exact .inl rfl) (hF : p.Free i := by exact zD0 rfl) : zAr os Q a p B B0 w0 i { dst := d, op := .load T x, type := ty, pos := ps, after := af, guard := none } := zEh hp hF trivial ho hk hf hs hT hx hC
theorem sO (off j : Nat) {o0 : Ob} {T l : Nat} {x : Operand} {fs gs fs' : List Fd} (hp : p.Ok B B0) (hi : o0 ∈ p.old) (hT : zDa T l = true) (hx : SrcQ os a p B B0 w0 af x fun u _ => u = .pointer (some ⟨o0.b, off, none⟩)) (hc : p.c j = Fq.st gs := by exact rfl) (hl : sz gs = l := by exact rfl) (hki : o0.k = i := by exact rfl) (hf0 : o0.F0 = Fq.st fs := by exact rfl) (hput : putF off gs fs = some fs' := by exact rfl) (hf1 : o0.F1 = Fq.st fs' := by exact rfl) (ha : zBf (os.map (·.dst)) = true := by exact rfl) (hj : (os.map (·.dst))[j]? = some (some s) := by exact rfl) (hs : s < a.tmps.size := by simp) (hdep : depA af j = true := by exact rfl)
  (hC : ∀ v w', (p.c i).P v w' := by exact fun _ _ => trivial) (h2 : ∀ n ∈ p.new, n.i ≠ i ∧ n.k ≠ i := by exact zBw rfl) : zAr os Q a p B B0 w0 i { dst := none, op := .store T x (.tmp s), type := ty, pos := ps, after := af, guard := none } := zDq hp hi hki hf0 hf1 (by rw [hl]; exact hT) hput hx (zB9 j ha hj hs hdep fun v w h => fitv_st (by rw [← hc]; exact h)) hC h2
theorem sS (j : Nat) {n0 : Nb} {T l s' : Nat} {fs gs : List Fd} (hp : p.Ok B B0) (hi : n0 ∈ p.new) (hT : zDa T l = true) (hc : p.c j = Fq.st gs := by exact rfl) (hl : sz gs = l := by exact rfl) (hki : n0.k = i := by exact rfl) (hsl : n0.s = none := by exact rfl) (hf0 : n0.F0 = Fq.st fs := by exact rfl) (hf1 : n0.F1 = Fq.st gs := by exact rfl) (hput : putF 0 gs fs = some gs := by exact rfl) (ha : zBf (os.map (·.dst)) = true := by exact rfl) (hj0 : (os.map (·.dst))[n0.i]? = some (some s') := by exact rfl) (hs0 : s' < a.tmps.size := by simp) (hd0 : depA af n0.i = true := by exact rfl) (hj : (os.map (·.dst))[j]? = some (some s) := by exact rfl) (hs : s < a.tmps.size := by simp) (hdep : depA af j = true := by exact rfl)
  (hC : ∀ v w', (p.c i).P v w' := by exact fun _ _ => trivial) (h1 : ∀ o ∈ p.old, o.k ≠ i := by exact zFu rfl) (h2 : ∀ n ∈ p.new, n.i ≠ i := by exact newi_ne rfl) : zAr os Q a p B B0 w0 i { dst := none, op := .store T (.tmp s') (.tmp s), type := ty, pos := ps, after := af, guard := none } := zOs hp hi hki hsl hf0 hf1 (by rw [hl]; exact hT) hput (zJc ha hj0 hs0 hd0) (zB9 j ha hj hs hdep fun v w h => fitv_st (by rw [← hc]; exact h)) hC h1 h2
theorem aS {n0 : Nb} {T : Nat} {us : List Value} {fs : List Fd} (hp : p.Ok B B0) (hi : n0 ∈ p.new) (hz : ∀ w, Fits w fs us) (hT : ∀ (ρ : Operand → Value) (w : World), (execOp ρ { dst := d, op := .alloc T, type := ty, pos := ps, after := af, guard := none }).run Tryz.prog w = .ok (.value (.pointer (some ⟨w.heap.size, 0, none⟩))) (w.alloc (.cells us.toArray T))) (hii : n0.i = i := by exact rfl) (hsl : n0.s = none := by exact rfl) (hm : n0.m = us.length := by exact rfl) (h0 : 0 < us.length := by exact Nat.lt_of_sub_eq_succ rfl) (hf0 : n0.F0 = Fq.st fs := by exact rfl)
  (hk : zBo os 9 n0.k i = true := by exact rfl) (hki : n0.k ≠ i := by exact Nat.ne_of_beq_eq_false rfl) (hC : ∀ v w', (p.c i).P v w' := by exact fun _ _ => trivial) (h1 : ∀ o ∈ p.old, o.k ≠ i := by exact zFu rfl) (h2 : ∀ n ∈ p.new, n.k ≠ i := by exact newk_ne rfl) : zAr os Q a p B B0 w0 i { dst := d, op := .alloc T, type := ty, pos := ps, after := af, guard := none } := q_allocSt hp hi hii hsl hm h0 hf0 hz hT hk hki hC h1 h2
theorem lG (off l : Nat) {o : Ob} {T : Nat} {fs gs : List Fd} {x : Operand} (hp : p.Ok B B0) (hg : GdQ os a p B B0 w0 af gd) (ho : o ∈ p.old) (hT : rowB T l = true) (hx : SrcQ os a p B B0 w0 af x fun u _ => u = .pointer (some ⟨o.b, off, none⟩)) (hC : ∀ v w, (Fq.st gs).P v w → (p.c i).P v w) (hf : o.F0 = Fq.st fs := by exact rfl) (hs : subF off l fs = some gs := by exact rfl)
  (hk : o.F1 = o.F0 ∨ zBo os 9 o.k i = true := by exact .inl rfl) (hF : p.Free i := by exact zD0 rfl) : zAr os Q a p B B0 w0 i { dst := d, op := .load T x, type := ty, pos := ps, after := af, guard := gd } := zBe hp hF hg ho hk hf hT hs hx hC
theorem lS (off l : Nat) {o : Ob} {T : Nat} {fs gs : List Fd} {x : Operand} (hp : p.Ok B B0) (ho : o ∈ p.old) (hT : rowB T l = true) (hx : SrcQ os a p B B0 w0 af x fun u _ => u = .pointer (some ⟨o.b, off, none⟩)) (hf : o.F0 = Fq.st fs := by exact rfl) (hs : subF off l fs = some gs := by exact rfl) (hC : ∀ v w, (Fq.st gs).P v w → (p.c i).P v w := by exact fun v w h => h)
  (hk : o.F1 = o.F0 ∨ zBo os 9 o.k i = true := by exact .inl rfl) (hF : p.Free i := by exact zD0 rfl) : zAr os Q a p B B0 w0 i { dst := d, op := .load T x, type := ty, pos := ps, after := af, guard := none } := zBe hp hF trivial ho hk hf hT hs hx hC
theorem lN (off l : Nat) {o : Ob} {T : Nat} {fs : List Fd} {z : Int} {x : Operand} (hp : p.Ok B B0) (ho : o ∈ p.old) (hT : rowB T l = true) (hx : SrcQ os a p B B0 w0 af x fun u _ => u = .pointer (some ⟨o.b, off, none⟩)) (hf : o.F0 = Fq.st fs := by exact rfl) (hs : subF off l fs = some [.n z] := by exact rfl) (hC : ∀ v w, Num w v z → (p.c i).P v w := by exact fun v w h => h)
  (hk : o.F1 = o.F0 ∨ zBo os 9 o.k i = true := by exact .inl rfl) (hF : p.Free i := by exact zD0 rfl) : zAr os Q a p B B0 w0 i { dst := d, op := .load T x, type := ty, pos := ps, after := af, guard := none } := zBe hp hF trivial ho hk hf hT hs hx fun v w h => hC v w (zA8 h)
end
theorem fS {w W : World} {bs : List (Nat × Nat × Fq)} (E : Fr w bs W) {k : Nat} (hk : W.heap.size = k) (t : TypeId) {fs : List Fd} {us : List Value} (h : Fits w fs us) (h0 : 0 < us.length := by simp) : ∃ w' b, w' = W.alloc (.cells us.toArray t) ∧ b = k ∧ w'.heap.size = k + 1 ∧ Fr w ((b, us.length, Fq.st fs) :: bs) w' := zEr E hk (F := Fq.st fs) (us := us) t rfl h0 h.tame ((Fq.st fs).mono (show (Fq.st fs).P _ w from ⟨_, rfl, h⟩) E.below)
theorem gS (w : World) (t : TypeId) {fs : List Fd} {us : List Value} (h : Fits w fs us) (h0 : 0 < us.length := by simp) : ∃ w' b, w' = w.alloc (.cells us.toArray t) ∧ b = w.heap.size ∧ w'.heap.size = w.heap.size + 1 ∧ Fr w [(b, us.length, Fq.st fs)] w' := zB8 w (F := Fq.st fs) (us := us) t rfl h0 h.tame (show (Fq.st fs).P _ w from ⟨_, rfl, h⟩)
theorem fO {w W : World} {bs : List (Nat × Nat × Fq)} (E : Fr w bs W) {k : Nat} (hk : W.heap.size = k) (t : TypeId) {fs : List Fd} {us : List Value} (h : ∀ w, Fits w fs us) (h0 : 0 < us.length := by simp) : ∃ w' b, w' = W.alloc (.cells us.toArray t) ∧ b = k ∧ w'.heap.size = k + 1 ∧ Fr w ((b, us.length, Fq.st fs) :: bs) w' := zEr E hk (F := Fq.st fs) (us := us) t rfl h0 (h w).tame ⟨_, rfl, h _⟩

end Go.Proofs.YtihhlaagndingaaGreat
