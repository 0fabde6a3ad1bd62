/- Walk of the reference: the text of an integer. Walk of the reference: Parse. Walk of the law on texts. -/
import Derived.Test.YtjpbmghdamcdcaaRh
import Derived.Test.YtjpbmghdamcdcaaTt
import Derived.Test.YtjpbmghdamcdcaaPa
import Derived.Test.YtjpbmghdamcdcaaEx
import Derived.Test.YtjpbmghdamcdcaaLw
namespace Go.Proofs.Ytjpbmghdamcdcaa
open Go Go.RowKit

theorem back_ne {w : World} {B : Nat} {v : Value} {ds : List Int} {g m : Nat} {zs : List Int} (hb : Back w B v ds) (hm : Mine w g m zs) : some g ≠ v.ownBlock := by
  rcases hb.2 with ⟨rfl, _⟩ | ⟨g', cap, cur, rfl, _, hg, _⟩
  · simp [Value.ownBlock]
  · intro h
    have h2 : g = g' := by simpa [Value.ownBlock] using h
    subst h2
    obtain ⟨cur', h1, _⟩ := hm
    rw [hg] at h1
    injection h1 with h3
    injection h3 with _ h4 _
    exact absurd h4 (by decide)

theorem Back.start (w : World) : Back (w.alloc (.cells #[] 5)) w.heap.size (.slice (some ⟨w.heap.size, 0, none⟩) 0 0) [] :=
  ⟨rfl, .inr ⟨w.heap.size, 0, #[], rfl, Nat.le_refl _, heap_alloc_new _ _, Nat.le_refl _, Nat.zero_le _, rfl, rfl⟩⟩

theorem back_one (w : World) (x : Int) : w.heap.size < (w.alloc (.cells #[.int .u8 x] 5)).heap.size ∧ ∀ j, j < [x].length → (w.alloc (.cells #[.int .u8 x] 5)).cell? ⟨w.heap.size, j, none⟩ = some (.int .u8 ([x].getD j 0)) := by
  refine ⟨by simp, fun j hj => ?_⟩
  have : j = 0 := by simp at hj; omega
  subst this
  rw [cell_of_row _ _ _ _ _ (0, 0) (heap_alloc_new _ _)]
  rfl

theorem back_more {w wr w1 : World} {B : Nat} {v v' : Value} {ds : List Int} {d : Int} {o : Obj} (hown : Back wr B v ds) (hnx : Below B w wr) (hs : B ≤ wr.heap.size)
    (hown' : w1.ownsRow B 5 1 v' (ds.length + 1) (ds.map (Value.int .u8) ++ [.int .u8 d])) (hgrow : (wr.alloc o).grownBy w1 v.ownBlock) :
    Back w1 B v' (ds ++ [d]) ∧ Below B w w1 := by
  refine ⟨?_, (hnx.alloc hs o).grown hgrow (by simp; omega) (fun j hj => (World.ownsRow.lt hown j hj).1)⟩
  unfold Back
  simpa using hown'

theorem back_mine {w wr w1 : World} {B : Nat} {v v' : Value} {ds : List Int} {d : Int} {o : Obj} {g m : Nat} {zs : List Int} (hown : Back wr B v ds) (hm : Mine wr g m zs) (hnx : Below B w wr) (hs : B ≤ wr.heap.size)
    (hown' : w1.ownsRow B 5 1 v' (ds.length + 1) (ds.map (Value.int .u8) ++ [.int .u8 d])) (hgrow : (wr.alloc o).grownBy w1 v.ownBlock) :
    Back w1 B v' (ds ++ [d]) ∧ Mine w1 g m zs ∧ Below B w w1 := by
  obtain ⟨h1, h2⟩ := back_more hown hnx hs hown' hgrow
  refine ⟨h1, ?_, h2⟩
  have hl := hm.lt
  have hne := back_ne hown hm
  obtain ⟨cur, h3, h4⟩ := hm
  exact ⟨cur, by rw [hgrow.block g (by simp; omega) hne, heap_alloc_old _ _ hl]; exact h3, h4⟩

/-- 'string(s)' of bytes in a row of the call's own. -/
theorem run_text_of_cells {P : Program} {w : World} {g : Nat} {zs : List Int} (h : ∀ j, j < zs.length → w.cell? ⟨g, j, none⟩ = some (.int .u8 (zs.getD j 0))) (hd : ∀ d ∈ zs, 0 ≤ d ∧ d < 256) (src dst el : TypeId) (n cap : Nat) (hn : zs.length = n)
    (hs : P.underlying src = some (.slice el)) (he : P.underlying el = some (.int .u8)) (hdst : P.underlying dst = some .string) :
    (convert src dst (.slice (some ⟨g, 0, none⟩) n cap)).run P w = .ok (.string (bytesOf zs)) w := by
  subst hn
  have := run_convert_bytes_back (P := P) w src dst el ⟨g, 0, none⟩ cap (zs.map (fun d => UInt8.ofNat d.toNat)) hs he hdst (fun j hj => by
    have hj' : j < zs.length := by simpa using hj
    have hadd : (⟨g, 0, none⟩ : Addr).add j = ⟨g, j, none⟩ := by unfold Addr.add; split <;> simp_all
    rw [hadd, h j hj']
    have h0 := hd (zs[j]) (List.getElem_mem hj')
    simp [List.getD, hj']
    omega)
  simpa [bytesOf] using this

theorem drop_rev (os ds : List Int) {j : Nat} (h : j < ds.length) : os ++ (ds.drop (j + 1)).reverse ++ [ds.getD j 0] = os ++ (ds.drop j).reverse := by
  rw [List.drop_eq_getElem_cons h, List.reverse_cons, List.append_assoc]
  simp [List.getD, h]

theorem decs_tens {N : Nat} {ds : List Int} {X Q r : Int} (h : decs N = ds ++ decs X.toNat) (hX : 0 < X) (hr0 : 0 ≤ r) (hr : r < 10) (he : X = Q * 10 + r) (hQ : 0 ≤ Q) : decs N = (ds ++ [48 + r]) ++ decs Q.toNat := by
  rw [h, decs_pos (by omega), show X.toNat / 10 = Q.toNat by omega, show ((X.toNat % 10 : Nat) : Int) = r by omega]
  simp

theorem Back.mono {w w' : World} {B C : Nat} {v : Value} {ds : List Int} (h : Back w B v ds) (hb : Below C w w') (hC : w.heap.size ≤ C) : Back w' B v ds := by
  rcases h.2 with ⟨h1, h0⟩ | ⟨g, cap, cur, h1, h2, hg, rest⟩
  · exact ⟨h.1, .inl ⟨h1, h0⟩⟩
  · have hl := (Array.getElem?_eq_some_iff.1 hg).1
    exact ⟨h.1, .inr ⟨g, cap, cur, h1, h2, by rw [hb.block g (by omega)]; exact hg, rest⟩⟩

theorem Mine.take {w : World} {g m : Nat} {zs : List Int} (h : Mine w g m zs) {k : Nat} (hk : k ≤ m) : Mine w g k (zs.take k) := by
  obtain ⟨cur, h1, h2, h3, h4, h5⟩ := h
  refine ⟨cur, h1, by rw [List.length_take]; omega, h3.take k, by omega, fun j hj => ?_⟩
  rw [getD_take, if_pos hj]
  exact h5 j (by omega)

set_option maxHeartbeats 4000000 in
theorem RTextV (w : World) {v : Value} {z : Int} (h : Num w v z) (hz200 : ab z < pw 200) : Calls Try.prog 47 #[v] w fun e w' => e = .returned (textOf z) ∧ Below w.heap.size w w' := by
  obtain ⟨neg, ao, n, c, xs, rfl, hs, hn, hz, hc, hnn⟩ := h
  have hn200 : n ≤ 200 := by
    have h1 := hc.length_le (k := 200) (by unfold ab at hz200; have := val_nonneg hs.digs; subst hz; cases neg <;> simp [sgn] at hz200 <;> omega)
    rw [hs.len] at h1; exact h1
  have hv0 := val_nonneg hs.digs
  have hneg : neg = true ↔ z < 0 := by
    constructor
    · intro h1
      have h2 := hnn h1
      have h3 : val xs ≠ 0 := fun h => h2 (by rw [← hs.len]; exact hc.zero.2 h)
      subst h1
      rw [hz]; simp [sgn]; omega
    · intro h1
      cases neg
      · simp [sgn] at hz; omega
      · rfl
  have HZ := hidd (show z.natAbs = (val xs).toNat by rw [hz]; exact abs_sgn hv0)
  have HNEG := hidd hneg
  have HC := hidd hc
  have hdl := decs_val_len hs.digs
  rw [hs.len] at hdl
  have HDL := hidd hdl
  have HXL := hidd hs.len
  have hgt : ((200 : Int) < (n : Int)) = False := by simp; omega
  have HN2 := hidd hn200
  have hn6 : n ≤ 1000000 := by omega
  clear hz hc hdl hneg hz200 hv0 hnn hn hn200
  obtain ⟨i0, hi, hz0, hz1, hz2⟩ := info_parts info_byte
  go_enter Try.func47, Try.ntmps47
  go_upto_region 1 with (fail)
  obtain ⟨w0, hw0, hC, hCb⟩ : ∃ w0, w0 = w.alloc (.cells #[.bool neg, .slice ao n c] 27) ∧ IntBox w0 w.heap.size (.bool neg) (.slice ao n c) ∧ Below w.heap.size w w0 := ⟨_, rfl, IntBox.new _ _ _ _, alloc_below _ _⟩
  rw [← hw0]
  clear hw0
  have hX0 := hs.mono hCb
  have hBox := hC
  obtain ⟨c0, c1, c2, c3⟩ := hC
  go_upto_region 4 with (fail)
  obtain ⟨w1, hw1, hbk1, hnx1⟩ : ∃ w1, w1 = w0.alloc (.cells #[] 5) ∧ Back w1 w0.heap.size (.slice (some ⟨w0.heap.size, 0, none⟩) 0 0) [] ∧ Below w0.heap.size w0 w1 := ⟨_, rfl, Back.start w0, alloc_below _ _⟩
  rw [← hw1]
  clear hw1
  have hX1 := hX0.mono hnx1
  have hC1 := hBox.mono hnx1 hBox.lt
  clear c0 c1 c2 c3
  have hC1a := hC1.mono (alloc_below w1 (.cells #[] 63)) hC1.lt
  obtain ⟨c0, c1, c2, c3⟩ := hC1
  obtain ⟨d0, d1, d2, d3⟩ := hC1a
  go_wp2_with (at_builtin; refine wpList_copy_arg _ rfl _ _ rfl _ ao n c xs rfl rfl (hX1.mono (alloc_below _ _)) hn6 ?_; intro ar cr w2 hb2 hS2 hM2)
  have hcr := hS2.cap
  have hb2' := (alloc_below w1 (.cells #[] 63)).trans (hb2.mono (by simp))
  have hbk2 := hbk1.mono hb2' (Nat.le_refl _)
  have hnx2 := hnx1.trans (hb2'.mono hnx1.size)
  have hM2' : 0 < n → ∃ g, ar = some ⟨g, 0, none⟩ ∧ w0.heap.size ≤ g ∧ Mine w2 g n xs := fun h => by
    obtain ⟨g, h1, h2, h3⟩ := hM2 h
    refine ⟨g, h1, ?_, h3⟩
    have := hnx1.size
    simp at h2
    omega
  clear hM2 hS2 hb2 hb2' hbk1 hnx1 hX1 c0 c1 c2 c3 d0 d1 d2 d3
  go_loopw [4, 5] (fun vd vl wr => ∃ (m : Nat) (zs ds : List Int), vl = .slice ar m cr ∧ m ≤ n ∧ zs.length = m ∧ Canon zs ∧ (0 < m → ∃ g, ar = some ⟨g, 0, none⟩ ∧ w0.heap.size ≤ g ∧ Mine wr g m zs) ∧ Back wr w0.heap.size vd ds ∧ decs (val xs).toNat = ds ++ decs (val zs).toNat ∧ Below w0.heap.size w0 wr) (fun _ vl wr => slVal wr vl)
  case atStart => exact ⟨n, xs, [], rfl, Nat.le_refl _, HXL.out, HC.out, hM2', hbk2, by simp, hnx2⟩
  case round =>
    obtain ⟨m, zs, ds, rfl, hmn, hzl, hcz, hMi, hbk, hdec, hnx⟩ := hrel
    have HZL := hidd hzl
    have HDEC := hidd hdec
    have HCZ := hidd hcz
    have HDSL := hidd (dig_len hdec HDL.out)
    have hHS := hnx.size
    clear hzl hdec hcz hM2' hbk2 hnx2
    obtain ⟨ab, cb, rfl⟩ := hbk.shape
    by_cases hm : 0 < m
    · obtain ⟨g, rfl, hgB, hM⟩ := hMi hm
      clear hMi
      have hSz := hM.sl (show m ≤ cr by omega)
      have hvz : 0 < val zs := by
        have h1 := val_nonneg HCZ.out.1
        rcases Int.lt_or_le 0 (val zs) with h | h
        · exact h
        · have := HCZ.out.zero.2 (by omega)
          rw [HZL.out] at this; omega
      have HVZ := hidd hvz
      clear hvz
      go_wp2
      go_loopw [6, 7] (fun vr vi wr' => ∃ (k : Nat) (r : Int) (us : List Int), k ≤ m ∧ vi = .int .i64 ((k : Int) - 1) ∧ vr = .int .u64 r ∧ 0 ≤ r ∧ r < 10 ∧ Mine wr' g m us ∧ us.take k = zs.take k ∧ val (zs.drop k) = val (us.drop k) * 10 + r ∧ wr.grownBy wr' (some g)) (fun _ vi _ => (intOf vi + 1).toNat)
      case atStart => exact ⟨m, 0, zs, Nat.le_refl _, rfl, rfl, by omega, by omega, hM, rfl, by rw [List.drop_of_length_le (by rw [HZL.out]; exact Nat.le_refl _)]; simp [val], World.grownBy.refl _ _⟩
      case round =>
        obtain ⟨k, r, us, hk, rfl, rfl, hr0, hr1, hU, htk, hv, hg⟩ := hrel
        have HTK := hidd htk
        have HV := hidd hv
        have hul := hidd hU.len
        clear htk hv
        by_cases h0 : 0 < k
        · obtain ⟨j, rfl⟩ : ∃ j, k = j + 1 := ⟨k - 1, by omega⟩
          have hj1 : ((j + 1 : Nat) : Int) - 1 = (j : Int) := by omega
          have hjm : j < m := by omega
          obtain ⟨x, hx⟩ : ∃ x, us.getD j 0 = x := ⟨_, rfl⟩
          have hxd := hU.digs.getD j
          have hcell := hU.cell hjm
          rw [hx] at hxd hcell
          obtain ⟨hx0, hx1⟩ := hxd
          have HX := hidd hx
          have hfr := hU.frozen j
          clear hx
          obtain ⟨t, hor⟩ : ∃ t, bits .or .u64 (r * 4294967296) x = t := ⟨_, rfl⟩
          have HT : Hid (t = x + r * 4294967296) := hor.symm.trans (or_halves x r hx0 hx1 hr0 (by omega)).2
          have ht0 : 0 ≤ t := by have := HT.out; omega
          have ht1 : t < 42949672960 := by have := HT.out; omega
          go_wp2
          go_roundw
          case rel =>
            refine ⟨j, t % 10, us.set j (t / 10), by omega, by go_num, rfl, by omega, by omega, ?_, ?_, ?_, ?_⟩
            · have h1 := hU.set hjm (show 0 ≤ t / 10 by omega) (show t / 10 < 4294967296 by omega)
              first | exact h1 | (rw [show t / 10 % 4294967296 = t / 10 by omega]; exact h1)
            · rw [List.take_set_of_le (Nat.le_refl _)]
              have := congrArg (List.take j) HTK.out
              simpa [List.take_take, Nat.min_eq_left (show j ≤ j + 1 by omega)] using this
            · have hx : zs.getD j 0 = x := by
                have := congrArg (fun l : List Int => l.getD j 0) HTK.out
                simp only [getD_take, if_pos (show j < j + 1 by omega)] at this
                rw [← this]; exact HX.out
              rw [val_drop_any zs j, val_drop_any (us.set j (t / 10)) j, getD_set _ _ _ (by rw [hul.out]; exact hjm), hx, HV.out, List.drop_set_of_lt (by omega)]
              have h4 := HT.out
              omega
            · exact grown_set hg _ _
          case measure => simp [intOf]
        · obtain rfl : k = 0 := by omega
          have HVV : Hid (val zs = val us * 10 + r) := by have := HV.out; simp only [List.drop_zero] at this; exact this
          have hbk4 : Back _ w0.heap.size (.slice ab ds.length cb) ds := World.ownsRow.kept hbk hg (.inr (Ne.symm (back_ne hbk hM)))
          have hnx4 := hnx.grown hg hHS (fun k hk => by cases hk; exact hgB)
          have hHS4 := hnx4.size
          have hdl : ds.length ≤ 2000 := by have := HDSL.out; have := HN2.out; omega
          have hmod : (48 + r) % 256 = 48 + r := by omega
          clear hbk hnx hg HV HTK hM
          go_wp2_with (first | (at_builtin; refine wpList_append_own _ rfl _ _ 76 rfl w0.heap.size 5 i0 (.int .u8 0) 1 1 Try.underlying76 hi hz0 hz1 hz2 rfl (by decide) _ _ _ rfl (World.ownsRow.alloc hbk4 _) ⟨_, 0, none⟩ 1 1 [.int .u8 (48 + r)] rfl rfl (one_at _ _ _) (by intro u hu; simp at hu; subst hu; rfl) (by unfold maxLen; omega) (by omega) (by simp; omega) ?_; intro v' w5 hown' hgrow _) | fail)
          obtain ⟨hbk5, hM5, hnx5⟩ := back_mine hbk4 hU hnx4 hHS4 hown' hgrow
          clear hown' hgrow hbk4 hnx4 hHS4
          go_wp2_with fail
          refine (rtrim_any _ _ m cr us (hM5.sl (by omega)) (by omega)).mono ?_
          rintro e w6 ⟨m2, rfl, hm2, hs3, hv3, hc3, rfl⟩
          have HV3 := hidd hv3
          have HC3 := hidd hc3
          clear hv3 hc3
          go_wp2
          go_roundw
          case rel =>
            have h0 := val_nonneg hU.digs
            refine ⟨m2, us.take m2, ds ++ [48 + r], rfl, by omega, by rw [List.length_take, hul.out]; omega, HC3.out, fun _ => ⟨g, rfl, hgB, hM5.take hm2⟩, hbk5, ?_, hnx5⟩
            rw [HV3.out]
            exact decs_tens HDEC.out HVZ.out hr0 hr1 HVV.out h0
          case measure =>
            have h0 := val_nonneg hU.digs
            rw [slVal_eq hs3, slVal_eq hSz]
            have := HVZ.out
            have := HVV.out
            have := HV3.out
            omega
    · obtain rfl : m = 0 := by omega
      have h1 : zs = [] := List.eq_nil_of_length_eq_zero HZL.out
      subst h1
      have hdec : decs (val xs).toNat = ds := by rw [HDEC.out]; simp [val, decs_zero]
      have HDS := hidd hdec
      clear hdec hMi HDEC HCZ HZL
      obtain ⟨N, hN⟩ : ∃ N, N = (val xs).toNat := ⟨_, rfl⟩
      rw [← hN] at HZ HDL HDS
      clear hN
      by_cases h0 : N = 0
      case' pos =>
        have hds : ds = [] := by rw [← HDS.out, h0, decs_zero]
        subst hds
        go_upto_region 17 with (fail)
        simp only [List.length_nil]
        obtain ⟨wd, hwd, hcells, hbd⟩ : ∃ wd, wd = (wr.alloc (.cells #[.int .u8 48] 5)) ∧ (wr.heap.size < wd.heap.size ∧ ∀ j, j < 1 → wd.cell? ⟨wr.heap.size, j, none⟩ = some (.int .u8 ([48].getD j 0))) ∧ Below w0.heap.size w0 wd := ⟨_, rfl, back_one wr 48, hnx.alloc hHS _⟩
        rw [← hwd]
        clear hwd
        obtain ⟨gd, hgd⟩ : ∃ gd, gd = wr.heap.size := ⟨_, rfl⟩
        rw [← hgd] at hcells ⊢
        clear hgd
        obtain ⟨L, hL⟩ : ∃ L, L = 1 := ⟨_, rfl⟩
        obtain ⟨dl, hdl⟩ : ∃ dl, dl = [(48 : Int)] := ⟨_, rfl⟩
        have HD : Hid (dl.reverse = sizeText N) := by
          show _ = _
          rw [hdl, h0]; rfl
        have HL : Hid (dl.length = L) := by show _ = _; rw [hdl, hL]; rfl
        rw [← hL, ← hdl] at hcells
        have hL0 : 0 < L := by omega
        have hLb : L ≤ 2000 := by omega
        obtain ⟨cd, hcd⟩ : ∃ cd, cd = 1 := ⟨_, rfl⟩
        obtain ⟨vd, hvd⟩ : ∃ vd, vd = Value.slice (some ⟨gd, 0, none⟩) 1 1 := ⟨_, rfl⟩
        rw [← hvd]
        have hvd2 : vd = .slice (some ⟨gd, 0, none⟩) L cd := by rw [hvd, hL, hcd]
        subst hvd2
        clear hvd hL hdl hcd
      case' neg =>
        have hds0 : 0 < ds.length := by
          have h1 := mt decs_ne.1 h0
          rw [HDS.out] at h1
          exact List.length_pos_iff.2 h1
        obtain ⟨gd, cd, he, hgd, hcell⟩ := hbk.cells hds0
        cases he
        have hdz : ((ds.length : Int) == 0) = false := beq_eq_false_iff_ne.2 (by omega)
        go_upto_region 17 with (fail)
        obtain ⟨wd, hcells, hbd, hwd⟩ : ∃ wd, (gd < wd.heap.size ∧ ∀ j, j < ds.length → wd.cell? ⟨gd, j, none⟩ = some (.int .u8 (ds.getD j 0))) ∧ Below w0.heap.size w0 wd ∧ wr = wd := ⟨wr, ⟨hgd, hcell⟩, hnx, rfl⟩
        rw [hwd]
        clear hwd
        have HD : Hid (ds.reverse = sizeText N) := by
          show _ = _
          unfold sizeText
          rw [if_neg h0, HDS.out]
        obtain ⟨L, hL⟩ : ∃ L, L = ds.length := ⟨_, rfl⟩
        have HL := hidd hL.symm
        have hL0 : 0 < L := by omega
        have hLb : L ≤ 2000 := by have := HDSL.out; have := HN2.out; omega
        rw [← hL] at hcells ⊢
        obtain ⟨dl, hdl⟩ : ∃ dl, dl = ds := ⟨_, rfl⟩
        rw [← hdl] at hcells HL HD
        clear hL hdl hdz hgd hcell hds0
      all_goals
        obtain ⟨hgd, hcell⟩ := hcells
        clear hbk hnx hHS h0 HDS HDSL
        go_upto_region 18 with (fail)
        obtain ⟨w6, hw6, hbo, hb6⟩ : ∃ w6, w6 = wd.alloc (.cells #[] 5) ∧ Back w6 wd.heap.size (.slice (some ⟨wd.heap.size, 0, none⟩) 0 0) [] ∧ Below wd.heap.size wd w6 := ⟨_, rfl, Back.start wd, alloc_below _ _⟩
        rw [← hw6]
        clear hw6
        have hbx1 := hBox.mono hbd hBox.lt
        have hbx := hbx1.mono hb6 hbx1.lt
        clear hbx1
        obtain ⟨c0, c1, c2, c3⟩ := hbx
        have hs6 := hb6.size
        obtain ⟨BB, hBB⟩ : ∃ BB, BB = wd.heap.size := ⟨_, rfl⟩
        rw [← hBB] at hbo hb6 hs6 hgd ⊢
        have HBB := hidd hBB
        clear hBB
        obtain ⟨os1, ao6, c6, hos1, hbo1, hv6⟩ : ∃ os1 ao6 c6, os1 = [] ∧ Back w6 BB (.slice ao6 os1.length c6) os1 ∧ Value.slice (some ⟨BB, 0, none⟩) 0 0 = Value.slice ao6 os1.length c6 := ⟨[], _, _, rfl, hbo, rfl⟩
        rw [hv6]
        have hol1 : os1.length ≤ 0 := by rw [hos1]; simp
        have HOS := hidd hos1
        clear hv6 hbo hos1
        cases neg
        case' false =>
          go_upto_region 20 with (fail)
          obtain ⟨w7, hbo7, hb7, hw7⟩ : ∃ w7, Back w7 BB (.slice ao6 os1.length c6) os1 ∧ Below BB wd w7 ∧ w6 = w7 := ⟨w6, hbo1, hb6, rfl⟩
          obtain ⟨os0, ao7, c7, hos⟩ : ∃ os0 ao7 c7, Hid (os0 = os1 ∧ ao7 = ao6 ∧ c7 = c6) := ⟨_, _, _, rfl, rfl, rfl⟩
          rw [← hos.1, ← hos.2.1, ← hos.2.2] at hbo7 ⊢
          have HT : Hid (intText z = os0 ++ dl.reverse) := by
            show _ = _
            have h1 : ¬ z < 0 := fun h => by have := HNEG.out.2 h; cases this
            unfold intText
            rw [if_neg h1, HZ.out, HD.out, hos.1, HOS.out]; rfl
          have hol : os0.length ≤ 1 := by rw [hos.1]; omega
          rw [hw7]
          clear hw7 hos
          go_wp2
        case' true =>
          go_wp2_with (first | (at_builtin; refine wpList_append_own _ rfl _ _ 76 rfl BB 5 i0 (.int .u8 0) 1 1 Try.underlying76 hi hz0 hz1 hz2 rfl (by decide) _ _ _ rfl (World.ownsRow.alloc hbo1 _) ⟨_, 0, none⟩ 1 1 [.int .u8 45] rfl rfl (one_at _ _ _) (by intro u hu; simp at hu; subst hu; rfl) (by unfold maxLen; omega) (by omega) (by simp; omega) ?_; intro v' w7 hown' hgrow _) | fail)
          obtain ⟨hbo7, hb7⟩ := back_more hbo1 hb6 hs6 hown' hgrow
          clear hown' hgrow
          obtain ⟨ao7, c7, rfl⟩ := hbo7.shape
          obtain ⟨os0, hos⟩ : ∃ os0, os0 = os1 ++ [(45 : Int)] := ⟨_, rfl⟩
          have HT : Hid (intText z = os0 ++ dl.reverse) := by
            show _ = _
            have h1 : z < 0 := by simpa using HNEG.out
            unfold intText
            rw [if_pos h1, HZ.out, HD.out, hos, HOS.out]; rfl
          have hol : os0.length ≤ 1 := by rw [hos, List.length_append]; show os1.length + 1 ≤ 1; omega
          rw [← hos] at hbo7 ⊢
          clear hos
        all_goals
          clear c0 c1 c2 c3 hb6 hs6 hbo1 HOS
          go_loopw [8, 9] (fun vo vi wr' => ∃ k : Nat, k ≤ L ∧ vi = .int .i64 ((k : Int) - 1) ∧ Back wr' BB vo (os0 ++ (dl.drop k).reverse) ∧ Below BB wd wr') (fun _ vi _ => (intOf vi + 1).toNat)
          case atStart => exact ⟨L, Nat.le_refl _, rfl, by rw [List.drop_of_length_le (by rw [HL.out]; exact Nat.le_refl _)]; simpa using hbo7, hb7⟩
          case round =>
            obtain ⟨k, hk, rfl, hbk, hbb⟩ := hrel
            have hsb := hbb.size
            rw [← HBB.out] at hsb
            clear hbo7 hb7
            by_cases h0 : 0 < k
            · obtain ⟨j, rfl⟩ : ∃ j, k = j + 1 := ⟨k - 1, by omega⟩
              have hj1 : ((j + 1 : Nat) : Int) - 1 = (j : Int) := by omega
              obtain ⟨x, hx⟩ : ∃ x, dl.getD j 0 = x := ⟨_, rfl⟩
              have hjl : j < L := by omega
              have hcx := (hbb.cell (p := ⟨gd, j, none⟩) hgd).trans (hcell j hjl)
              rw [hx] at hcx
              have HX := hidd hx
              clear hx
              obtain ⟨ts, hts⟩ : ∃ ts, ts = os0 ++ (dl.drop (j + 1)).reverse := ⟨_, rfl⟩
              rw [← hts] at hbk
              have htl : ts.length ≤ 3000 := by
                rw [hts, List.length_append, List.length_reverse, List.length_drop, HL.out]
                omega
              have HTS := hidd hts
              clear hts
              obtain ⟨a8, c8, rfl⟩ := hbk.shape
              go_wp2_with (first | (at_builtin; refine wpList_append_own _ rfl _ _ 76 rfl BB 5 i0 (.int .u8 0) 1 1 Try.underlying76 hi hz0 hz1 hz2 rfl (by decide) _ _ _ rfl (World.ownsRow.alloc hbk _) ⟨_, 0, none⟩ 1 1 [.int .u8 x] rfl rfl (one_at _ _ _) (by intro u hu; simp at hu; subst hu; rfl) (by unfold maxLen; omega) (by omega) (by simp; omega) ?_; intro v' w8 hown' hgrow _) | fail)
              obtain ⟨hbk8, hbb8⟩ := back_more hbk hbb hsb hown' hgrow
              clear hown' hgrow hbk
              go_wp2
              go_roundw
              case rel =>
                refine ⟨j, by omega, by go_num, ?_, hbb8⟩
                rw [HTS.out, ← HX.out, drop_rev _ _ (by rw [HL.out]; exact hjl)] at hbk8
                exact hbk8
              case measure => simp [intOf]
            · obtain rfl : k = 0 := by omega
              rw [List.drop_zero] at hbk
              obtain ⟨T, hT⟩ : ∃ T, T = os0 ++ dl.reverse := ⟨_, rfl⟩
              have HTT : Hid (intText z = T) := by show _ = _; rw [HT.out, hT]
              have hTl : T.length ≤ 3000 := by
                rw [hT, List.length_append, List.length_reverse, HL.out]
                omega
              have hT0 : 0 < T.length := by
                rw [hT, List.length_append, List.length_reverse, HL.out]
                omega
              rw [← hT] at hbk
              clear hT
              obtain ⟨a8, c8, he, hg8, hc8⟩ := hbk.cells hT0
              subst he
              have hfin := hCb.trans ((hbd.trans (hbb.mono (by have := hbd.size; rw [HBB.out]; omega))).mono hCb.size)
              by_cases hbig : 1300 < T.length
              · go_wp2
                refine bodyPost_ret (v := textOf z) ?_ rfl ⟨rfl, hfin⟩
                rw [textOf_big (by rw [HTT.out]; exact hbig)]
                simp [results, Try.results47, go_sem]
              · have hrange : ∀ d ∈ T, 0 ≤ d ∧ d < 256 := fun d hd => by
                  rw [← HTT.out] at hd
                  unfold intText at hd
                  split at hd
                  · rcases List.mem_cons.1 hd with h | h
                    · omega
                    · have := sizeText_dig _ d h; omega
                  · have := sizeText_dig _ d hd; omega
                have hconv := run_text_of_cells (P := Try.prog) hc8 hrange 76 9 5 T.length c8 rfl Try.underlying76 Try.underlying5 Try.underlying9
                go_wp2
                refine bodyPost_ret (v := textOf z) ?_ rfl ⟨rfl, hfin⟩
                rw [textOf_ok (by rw [HTT.out]; omega), HTT.out]
                simp [results, Try.results47, go_sem]

end Go.Proofs.Ytjpbmghdamcdcaa

namespace Go.Proofs.Ytjpbmghdamcdcaa
open Go Go.RowKit

set_option maxHeartbeats 4000000 in
theorem RParse_any (w : World) (s : ByteArray) : Calls Try.prog 49 #[.string s] w (ParseGives w (bys s)) := by
  have hll := bys_len s
  obtain ⟨i0, hi, hz0, hz1, hz2⟩ := info_parts info_word
  obtain ⟨w0, hw0, hC, hCb⟩ : ∃ w0, w0 = w.alloc (.cells #[.bool false, .slice none 0 0] 27) ∧ IntBox w0 w.heap.size (.bool false) (.slice none 0 0) ∧ Below w.heap.size w w0 := ⟨_, rfl, box1 _ _, alloc_below _ _⟩
  have HI := hidd hC
  by_cases hbig : 1300 < s.size
  · have hbi : ((1300 : Int) < (s.size : Int)) = True := by simp; omega
    have HBIG := hidd hbig
    clear hbig
    obtain ⟨c0, c1, c2, c3⟩ := hC
    go_enter Try.func49, Try.ntmps49
    go_upto_region 1 with (fail)
    rw [← hw0]
    clear hw0
    go_wp2
    refine bodyPost_ret (v := .tuple #[zeroV, .int .i64 2]) ?_ rfl ⟨(hCb.setCell (Nat.le_refl _) _).setCell (Nat.le_refl _) _, .inl ⟨by rw [hll]; exact HBIG.out, rfl⟩⟩
    simp [results, Try.results49, go_sem, c0, c1, zeroV]
  · have hbi : ((1300 : Int) < (s.size : Int)) = False := by simp; omega
    have HS := hidd (show s.size ≤ 1300 by omega)
    clear hbig
    by_cases h0 : s.size = 0
    · have he : s = { data := #[] } := by
        apply ByteArray.ext
        exact Array.eq_empty_of_size_eq_zero h0
      subst he
      obtain ⟨c0, c1, c2, c3⟩ := hC
      go_enter Try.func49, Try.ntmps49
      go_upto_region 1 with (fail)
      rw [← hw0]
      clear hw0
      go_wp2
      refine bodyPost_ret (v := .tuple #[zeroV, .int .i64 3]) ?_ rfl ⟨(hCb.setCell (Nat.le_refl _) _).setCell (Nat.le_refl _) _, .inr (.inl ⟨by rw [hll]; exact HS.out, not_text_nil, rfl⟩)⟩
      simp [results, Try.results49, go_sem, c0, c1, zeroV]
    · have hsz : 0 < s.size := by omega
      have hszi : ((0 : Int) < (s.size : Int)) = True := by simp; omega
      have hszb : ((s.size : Int) == 0) = false := beq_eq_false_iff_ne.2 (by omega)
      have hat := bys_at s hsz
      obtain ⟨x0, hx0⟩ : ∃ x0 : Int, ((s[0]'hsz).toNat : Int) = x0 := ⟨_, rfl⟩
      rw [hx0] at hat
      have HAT := hidd hat
      clear hat
      by_cases h45 : x0 = 45
      · subst h45
        have HT0 := hidd (isText_minus HAT.out)
        have HV0 := hidd (tval_minus HAT.out)
        have htl := bys_tail s
        obtain ⟨t, ht⟩ : ∃ t, t = s.extract 1 s.size := ⟨_, rfl⟩
        rw [← ht] at htl
        have hts : t.size ≤ 1300 := by
          have h1 := bys_len t
          rw [htl, List.length_drop, hll] at h1
          have := HS.out
          omega
        rw [← htl] at HT0 HV0
        have HV : Hid (tval (bys s) = sgn true (dval (bys t))) := by show _ = _; rw [HV0.out]; rfl
        obtain ⟨c0, c1, c2, c3⟩ := hC
        go_enter Try.func49, Try.ntmps49
        go_upto_region 1 with (fail)
        rw [← hw0]
        clear hw0

        go_upto_region 7 with (fail)
        rw [← ht]
        clear ht htl
        by_cases ht0 : t.size = 0
        · have he : t = { data := #[] } := by
            apply ByteArray.ext
            exact Array.eq_empty_of_size_eq_zero ht0
          subst he
          go_wp2
          refine bodyPost_ret (v := .tuple #[zeroV, .int .i64 3]) ?_ rfl ⟨(hCb.setCell (Nat.le_refl _) _).setCell (Nat.le_refl _) _, .inr (.inl ⟨by rw [hll]; exact HS.out, fun h => (HT0.out.1 h).1.1 rfl, rfl⟩)⟩
          simp [results, Try.results49, go_sem, c0, c1, zeroV]
        · have htsz : 0 < t.size := by omega
          have htb : ((t.size : Int) == 0) = false := beq_eq_false_iff_ne.2 (by omega)
          have hat2 := bys_at t htsz
          obtain ⟨y0, hy0⟩ : ∃ y0 : Int, ((t[0]'htsz).toNat : Int) = y0 := ⟨_, rfl⟩
          rw [hy0] at hat2
          have HAT2 := hidd hat2
          clear hat2
          by_cases h48 : y0 = 48
          · subst h48
            rcases (by omega : 1 < t.size ∨ ¬ 1 < t.size) with ht1 | ht1
            case' inl => have ht1i : ((1 : Int) < (t.size : Int)) = True := by simp; omega
            case' inr => have ht1i : ((1 : Int) < (t.size : Int)) = False := by simp; omega
            all_goals
              go_wp2
              refine bodyPost_ret (v := .tuple #[zeroV, .int .i64 3]) ?_ rfl ⟨(hCb.setCell (Nat.le_refl _) _).setCell (Nat.le_refl _) _, .inr (.inl ⟨by rw [hll]; exact HS.out, fun h => (HT0.out.1 h).2 HAT2.out, rfl⟩)⟩
              simp [results, Try.results49, go_sem, c0, c1, zeroV]
          · have h48f : (y0 = 48) = False := eq_false h48
            have h48b : (y0 == 48) = false := beq_eq_false_iff_ne.2 h48
            have HT : Hid (IsText (bys s) ↔ Dec (bys t)) := ⟨fun h => (HT0.out.1 h).1, fun h => HT0.out.2 ⟨h, by rw [HAT2.out]; exact h48⟩⟩
            have H48 : Hid ((bys t).getD 0 0 = 48 → (bys t).length = 1) := fun h => absurd (by rw [HAT2.out] at h; exact h) h48
            clear h48
            go_upto_region 10 with (fail)
            (try clear h1i)
            (try clear h1)
            (try clear hx0)
            (try clear hy0)
            obtain ⟨wl, hwl, hOl, hBl⟩ : ∃ wl, wl = w0.alloc (.cells #[] 63) ∧ Ow wl w0.heap.size (.slice (some ⟨w0.heap.size, 0, none⟩) 0 0) [] ∧ Below w0.heap.size w0 wl := ⟨_, rfl, Ow.start w0, alloc_below _ _⟩
            rw [← hwl]
            clear hwl c0 c1 c2 c3
            go_wp2
            go_loopw [6, 7] (fun vl vi wr => ∃ (k : Nat) (zs : List Int), k ≤ t.size ∧ vi = .int .i64 k ∧ Ow wr w0.heap.size vl zs ∧ zs.length ≤ k ∧ val zs = dval ((bys t).take k) ∧ Dgs ((bys t).take k) ∧ Below w0.heap.size w0 wr) (fun _ vi _ => t.size - (intOf vi).toNat)
            case atStart => exact ⟨0, [], Nat.zero_le _, rfl, hOl, Nat.le_refl _, rfl, fun _ h => by simp at h, hBl⟩
            case round =>
              obtain ⟨k, zs, hk, rfl, hO, hzk, hv, hD, hB⟩ := hrel
              have HV2 := hidd hv
              have HD := hidd hD
              have hsz := hB.size
              have HC2 := hidd (HI.out.mono hB HI.out.lt)
              have hfin := hCb.trans (hB.mono hCb.size)
              clear hv hD hOl hBl
              obtain ⟨al, cl, rfl⟩ := hO.shape
              by_cases hkt : k < t.size
              · have hat := bys_at t hkt
                obtain ⟨x, hx⟩ : ∃ x : Int, ((t[k]'hkt).toNat : Int) = x := ⟨_, rfl⟩
                rw [hx] at hat
                have HXB := hidd hat
                clear hat
                by_cases hdig : 48 ≤ x ∧ x ≤ 57
                · obtain ⟨hx0, hx1⟩ := hdig
                  have hxm : (x - 48) % 256 = x - 48 := by omega
                  have hn : zs.length ≤ 4000000 := by omega
                  have hf1 : ¬ x < 48 := by omega
                  have hf2 : ¬ 57 < x := by omega
                  go_wp2
                  go_loopw [8, 9] (fun vc vi wr' => ∃ (j : Nat) (q : Int) (us : List Int), j ≤ zs.length ∧ vi = .int .i64 j ∧ vc = .int .u64 q ∧ 0 ≤ q ∧ q ≤ 9 ∧ Ow wr' w0.heap.size (.slice al zs.length cl) us ∧ us.length = zs.length ∧ us.drop j = zs.drop j ∧ val (us.take j) + pw j * q = 10 * val (zs.take j) + (x - 48) ∧ Below w0.heap.size w0 wr') (fun _ vi _ => zs.length - (intOf vi).toNat)
                  case atStart => exact ⟨0, x - 48, zs, Nat.zero_le _, rfl, rfl, by omega, by omega, hO, rfl, rfl, by simp [val, pw_zero], hB⟩
                  case round =>
                    obtain ⟨j, q, us, hj, rfl, rfl, hq0, hq1, hU, hul, hdr, hv, hB3⟩ := hrel
                    have HUL := hidd hul
                    have HDR := hidd hdr
                    have HV := hidd hv
                    clear hul hdr hv
                    by_cases hkn : j < zs.length
                    · obtain ⟨g, rfl⟩ : ∃ g, al = some ⟨g, 0, none⟩ := by
                        rcases hU.1.2 with ⟨h1, h2⟩ | ⟨g, cap', cur, h1, _⟩
                        · have := HUL.out; omega
                        · injection h1 with h2 h3 h4; exact ⟨g, h2⟩
                      obtain ⟨hM, hg, _⟩ := hU.mine
                      obtain ⟨y, hy⟩ : ∃ y, us.getD j 0 = y := ⟨_, rfl⟩
                      have hcell := hM.cell hkn
                      have hyd := hM.digs.getD j
                      rw [hy] at hcell hyd
                      have hfr := hM.frozen j
                      have Hy := hidd hy
                      clear hy
                      go_wp2
                      go_roundw
                      case rel =>
                        have e1 : zs.getD j 0 = y := by
                          have := congrArg (fun l => l.getD 0 0) HDR.out
                          simp only [getD_drop, Nat.add_zero] at this
                          rw [← this]; exact Hy.out
                        have e2 : q + y * 10 = 10 * y + q := by omega
                        rw [e2]
                        refine ⟨j + 1, (10 * y + q) / 4294967296, us.set j ((10 * y + q) % 4294967296), by omega, by go_num, by go_num, by omega, by omega, hU.set hkn (by omega) (by omega), by rw [List.length_set]; exact HUL.out, ?_, ten_step (by rw [HUL.out]; exact hkn) HV.out e1, hB3.setCell hg _⟩
                        rw [List.drop_set_of_lt (by omega), ← List.drop_drop, HDR.out, List.drop_drop]
                      case measure => simp [intOf]; omega
                    · have hkl : j = zs.length := by omega
                      have HE : Hid (val us + pw zs.length * q = 10 * val zs + (x - 48)) := by
                        have h1 := HV.out
                        rw [hkl, val_take_all us (by rw [HUL.out]; omega), List.take_length] at h1
                        exact h1
                      have HO := hU.1
                      have hsz3 := hB3.size
                      have hulb : us.length ≤ 4000000 := by have := HUL.out; omega
                      rcases (by omega : q = 0 ∨ 0 < q) with hq | hq
                      · have HQ := hidd hq
                        have hq2 : ¬ (0 < q) := by omega
                        clear hq hkl
                        go_wp2
                        go_roundw
                        case rel =>
                          refine ⟨k + 1, us, by omega, by go_num, hU, by rw [HUL.out]; omega, ?_, dgs_step HD.out (by rw [bys_len]; exact hkt) (by rw [HXB.out]; exact hx0) (by rw [HXB.out]; exact hx1), hB3⟩
                          have h1 := HE.out
                          rw [HQ.out, Int.mul_zero, Int.add_zero] at h1
                          rw [h1, HV2.out, dval_take (by rw [bys_len]; exact hkt), HXB.out]
                        case measure => simp [intOf]; omega
                      · have hqm : q % 4294967296 = q := by omega
                        clear hkl
                        go_wp2_with (first | (at_builtin; refine wpList_append_own _ rfl _ _ 22 rfl w0.heap.size 63 i0 (.int .u32 0) 1 4 Try.underlying22 hi hz0 hz1 hz2 rfl (by decide) _ _ _ rfl (World.ownsRow.alloc HO _) ⟨_, 0, none⟩ 1 1 [.int .u32 q] rfl rfl (one_at _ _ _) (by intro u hu; simp at hu; subst hu; rfl) (by unfold maxLen; omega) (by omega) (by simp; omega) ?_; intro v' w5 hown' hgrow _) | fail)
                        obtain ⟨hO2, hB2⟩ := hU.stepB hB3 hsz3 hq0 (by omega) hown' hgrow
                        clear hown' hgrow hU hB3 HO
                        go_wp2
                        go_roundw
                        case rel =>
                          refine ⟨k + 1, us ++ [q], by omega, by go_num, hO2, by rw [List.length_append, HUL.out]; show zs.length + 1 ≤ k + 1; omega, ?_, dgs_step HD.out (by rw [bys_len]; exact hkt) (by rw [HXB.out]; exact hx0) (by rw [HXB.out]; exact hx1), hB2⟩
                          rw [val_snoc, HUL.out, HE.out, HV2.out, dval_take (by rw [bys_len]; exact hkt), HXB.out]
                        case measure => simp [intOf]; omega
                · have hN := not_dec hkt (by rw [HXB.out]; exact hdig)
                  have HN := hidd (fun h => hN (HT.out.1 h))
                  clear hN
                  obtain ⟨c0, c1, c2, c3⟩ := HC2.out
                  rcases (by omega : x < 48 ∨ (¬ x < 48 ∧ 57 < x)) with hlt | ⟨hlt, hgt⟩
                  all_goals
                    go_wp2
                    refine bodyPost_ret (v := .tuple #[zeroV, .int .i64 3]) ?_ rfl ⟨(hfin.setCell (Nat.le_refl _) _).setCell (Nat.le_refl _) _, .inr (.inl ⟨by rw [hll]; exact HS.out, HN.out, rfl⟩)⟩
                    simp [results, Try.results49, go_sem, c0, c1, zeroV]
              · obtain rfl : k = t.size := by omega
                have HZV : Hid (val zs = dval (bys t)) := by
                  have := HV2.out
                  rw [← bys_len t, List.take_length] at this
                  exact this
                have HDEC : Hid (Dec (bys t)) := by
                  refine ⟨fun h => ?_, ?_, H48.out⟩
                  · have h2 := bys_len t
                    rw [h] at h2
                    simp at h2
                    omega
                  · have := HD.out
                    rw [← bys_len t, List.take_length] at this
                    exact this
                obtain ⟨ao1, cc1, he, hsl⟩ := hO.sl
                cases he
                obtain ⟨c0, c1, c2, c3⟩ := HC2.out
                go_wp2_with fail
                refine (made_any _ _ _ _ _ _ hsl (by omega)).mono ?_
                rintro e w3 ⟨v, rfl, ⟨ng, ao, nn, cc, rs, rfl, hrs, hrc, hrn, hrz⟩, hb3⟩
                have hbl3 := hfin.trans (hb3.mono hfin.size)
                have hC3 := HC2.out.mono hb3 HC2.out.lt
                have HC3 := hidd hC3
                have HRZ := hidd hrz
                clear hrz c0 c1 c2 c3
                obtain ⟨c0, c1, c2, c3⟩ := hC3
                go_wp2
                obtain ⟨v', hv', hi', hb⟩ := gives_store HC3.out hrs hrc hrn HRZ.out hbl3 (Nat.le_refl _)
                cases hv'
                refine bodyPost_ret (v := .tuple #[.agg #[.bool ng, .slice ao nn cc], .int .i64 0]) ?_ rfl ⟨hb, .inr (.inr ⟨by rw [hll]; exact HS.out, HT.out.2 HDEC.out, _, rfl, by rw [HV.out, ← HZV.out]; exact hi'⟩)⟩
                simp [results, Try.results49, go_sem, c0, c1]

      · have HT := hidd (isText_plain (s := bys s) (by rw [HAT.out]; exact h45))
        have HV0 := hidd (tval_plain (s := bys s) (by rw [HAT.out]; exact h45))
        have HV : Hid (tval (bys s) = sgn false (dval (bys s))) := by show _ = _; rw [HV0.out]; rfl
        have h45f : (x0 = 45) = False := eq_false h45
        have h45b : (x0 == 45) = false := beq_eq_false_iff_ne.2 h45
        have hts := HS.out
        rcases (by omega : (x0 = 48 ∧ 1 < s.size) ∨ (x0 = 48 ∧ ¬ 1 < s.size) ∨ x0 ≠ 48) with ⟨h48, h1⟩ | hcase
        · subst h48
          have h1i : ((1 : Int) < (s.size : Int)) = True := by simp; omega
          obtain ⟨c0, c1, c2, c3⟩ := hC
          go_enter Try.func49, Try.ntmps49
          go_upto_region 1 with (fail)
          rw [← hw0]
          clear hw0
          go_wp2
          refine bodyPost_ret (v := .tuple #[zeroV, .int .i64 3]) ?_ rfl ⟨(hCb.setCell (Nat.le_refl _) _).setCell (Nat.le_refl _) _, .inr (.inl ⟨by rw [hll]; exact HS.out, fun h => by have h2 := (HT.out.1 h).2.2 HAT.out; rw [hll] at h2; omega, rfl⟩)⟩
          simp [results, Try.results49, go_sem, c0, c1, zeroV]
        · have H48 : Hid ((bys s).getD 0 0 = 48 → (bys s).length = 1) := by
            intro h
            rw [HAT.out] at h
            rw [hll]; omega
          obtain ⟨t, ht⟩ : ∃ t, s = t := ⟨_, rfl⟩
          subst ht
          rcases hcase with ⟨h48, h1⟩ | h48
          case' inl =>
            subst h48
            have h1i : ((1 : Int) < (s.size : Int)) = False := by simp; omega
          case' inr =>
            have h48f : (x0 = 48) = False := eq_false h48
            have h48b : (x0 == 48) = false := beq_eq_false_iff_ne.2 h48
          all_goals
            obtain ⟨c0, c1, c2, c3⟩ := hC
            go_enter Try.func49, Try.ntmps49
            go_upto_region 1 with (fail)
            rw [← hw0]
            clear hw0
            go_upto_region 10 with (fail)
            (try clear h1i)
            (try clear h1)
            (try clear hx0)
            (try clear hy0)
            obtain ⟨wl, hwl, hOl, hBl⟩ : ∃ wl, wl = w0.alloc (.cells #[] 63) ∧ Ow wl w0.heap.size (.slice (some ⟨w0.heap.size, 0, none⟩) 0 0) [] ∧ Below w0.heap.size w0 wl := ⟨_, rfl, Ow.start w0, alloc_below _ _⟩
            rw [← hwl]
            clear hwl c0 c1 c2 c3
            go_wp2
            go_loopw [6, 7] (fun vl vi wr => ∃ (k : Nat) (zs : List Int), k ≤ s.size ∧ vi = .int .i64 k ∧ Ow wr w0.heap.size vl zs ∧ zs.length ≤ k ∧ val zs = dval ((bys s).take k) ∧ Dgs ((bys s).take k) ∧ Below w0.heap.size w0 wr) (fun _ vi _ => s.size - (intOf vi).toNat)
            case atStart => exact ⟨0, [], Nat.zero_le _, rfl, hOl, Nat.le_refl _, rfl, fun _ h => by simp at h, hBl⟩
            case round =>
              obtain ⟨k, zs, hk, rfl, hO, hzk, hv, hD, hB⟩ := hrel
              have HV2 := hidd hv
              have HD := hidd hD
              have hsz := hB.size
              have HC2 := hidd (HI.out.mono hB HI.out.lt)
              have hfin := hCb.trans (hB.mono hCb.size)
              clear hv hD hOl hBl
              obtain ⟨al, cl, rfl⟩ := hO.shape
              by_cases hkt : k < s.size
              · have hat := bys_at s hkt
                obtain ⟨x, hx⟩ : ∃ x : Int, ((s[k]'hkt).toNat : Int) = x := ⟨_, rfl⟩
                rw [hx] at hat
                have HXB := hidd hat
                clear hat
                by_cases hdig : 48 ≤ x ∧ x ≤ 57
                · obtain ⟨hx0, hx1⟩ := hdig
                  have hxm : (x - 48) % 256 = x - 48 := by omega
                  have hn : zs.length ≤ 4000000 := by omega
                  have hf1 : ¬ x < 48 := by omega
                  have hf2 : ¬ 57 < x := by omega
                  go_wp2
                  go_loopw [8, 9] (fun vc vi wr' => ∃ (j : Nat) (q : Int) (us : List Int), j ≤ zs.length ∧ vi = .int .i64 j ∧ vc = .int .u64 q ∧ 0 ≤ q ∧ q ≤ 9 ∧ Ow wr' w0.heap.size (.slice al zs.length cl) us ∧ us.length = zs.length ∧ us.drop j = zs.drop j ∧ val (us.take j) + pw j * q = 10 * val (zs.take j) + (x - 48) ∧ Below w0.heap.size w0 wr') (fun _ vi _ => zs.length - (intOf vi).toNat)
                  case atStart => exact ⟨0, x - 48, zs, Nat.zero_le _, rfl, rfl, by omega, by omega, hO, rfl, rfl, by simp [val, pw_zero], hB⟩
                  case round =>
                    obtain ⟨j, q, us, hj, rfl, rfl, hq0, hq1, hU, hul, hdr, hv, hB3⟩ := hrel
                    have HUL := hidd hul
                    have HDR := hidd hdr
                    have HV := hidd hv
                    clear hul hdr hv
                    by_cases hkn : j < zs.length
                    · obtain ⟨g, rfl⟩ : ∃ g, al = some ⟨g, 0, none⟩ := by
                        rcases hU.1.2 with ⟨h1, h2⟩ | ⟨g, cap', cur, h1, _⟩
                        · have := HUL.out; omega
                        · injection h1 with h2 h3 h4; exact ⟨g, h2⟩
                      obtain ⟨hM, hg, _⟩ := hU.mine
                      obtain ⟨y, hy⟩ : ∃ y, us.getD j 0 = y := ⟨_, rfl⟩
                      have hcell := hM.cell hkn
                      have hyd := hM.digs.getD j
                      rw [hy] at hcell hyd
                      have hfr := hM.frozen j
                      have Hy := hidd hy
                      clear hy
                      go_wp2
                      go_roundw
                      case rel =>
                        have e1 : zs.getD j 0 = y := by
                          have := congrArg (fun l => l.getD 0 0) HDR.out
                          simp only [getD_drop, Nat.add_zero] at this
                          rw [← this]; exact Hy.out
                        have e2 : q + y * 10 = 10 * y + q := by omega
                        rw [e2]
                        refine ⟨j + 1, (10 * y + q) / 4294967296, us.set j ((10 * y + q) % 4294967296), by omega, by go_num, by go_num, by omega, by omega, hU.set hkn (by omega) (by omega), by rw [List.length_set]; exact HUL.out, ?_, ten_step (by rw [HUL.out]; exact hkn) HV.out e1, hB3.setCell hg _⟩
                        rw [List.drop_set_of_lt (by omega), ← List.drop_drop, HDR.out, List.drop_drop]
                      case measure => simp [intOf]; omega
                    · have hkl : j = zs.length := by omega
                      have HE : Hid (val us + pw zs.length * q = 10 * val zs + (x - 48)) := by
                        have h1 := HV.out
                        rw [hkl, val_take_all us (by rw [HUL.out]; omega), List.take_length] at h1
                        exact h1
                      have HO := hU.1
                      have hsz3 := hB3.size
                      have hulb : us.length ≤ 4000000 := by have := HUL.out; omega
                      rcases (by omega : q = 0 ∨ 0 < q) with hq | hq
                      · have HQ := hidd hq
                        have hq2 : ¬ (0 < q) := by omega
                        clear hq hkl
                        go_wp2
                        go_roundw
                        case rel =>
                          refine ⟨k + 1, us, by omega, by go_num, hU, by rw [HUL.out]; omega, ?_, dgs_step HD.out (by rw [bys_len]; exact hkt) (by rw [HXB.out]; exact hx0) (by rw [HXB.out]; exact hx1), hB3⟩
                          have h1 := HE.out
                          rw [HQ.out, Int.mul_zero, Int.add_zero] at h1
                          rw [h1, HV2.out, dval_take (by rw [bys_len]; exact hkt), HXB.out]
                        case measure => simp [intOf]; omega
                      · have hqm : q % 4294967296 = q := by omega
                        clear hkl
                        go_wp2_with (first | (at_builtin; refine wpList_append_own _ rfl _ _ 22 rfl w0.heap.size 63 i0 (.int .u32 0) 1 4 Try.underlying22 hi hz0 hz1 hz2 rfl (by decide) _ _ _ rfl (World.ownsRow.alloc HO _) ⟨_, 0, none⟩ 1 1 [.int .u32 q] rfl rfl (one_at _ _ _) (by intro u hu; simp at hu; subst hu; rfl) (by unfold maxLen; omega) (by omega) (by simp; omega) ?_; intro v' w5 hown' hgrow _) | fail)
                        obtain ⟨hO2, hB2⟩ := hU.stepB hB3 hsz3 hq0 (by omega) hown' hgrow
                        clear hown' hgrow hU hB3 HO
                        go_wp2
                        go_roundw
                        case rel =>
                          refine ⟨k + 1, us ++ [q], by omega, by go_num, hO2, by rw [List.length_append, HUL.out]; show zs.length + 1 ≤ k + 1; omega, ?_, dgs_step HD.out (by rw [bys_len]; exact hkt) (by rw [HXB.out]; exact hx0) (by rw [HXB.out]; exact hx1), hB2⟩
                          rw [val_snoc, HUL.out, HE.out, HV2.out, dval_take (by rw [bys_len]; exact hkt), HXB.out]
                        case measure => simp [intOf]; omega
                · have hN := not_dec hkt (by rw [HXB.out]; exact hdig)
                  have HN := hidd (fun h => hN (HT.out.1 h))
                  clear hN
                  obtain ⟨c0, c1, c2, c3⟩ := HC2.out
                  rcases (by omega : x < 48 ∨ (¬ x < 48 ∧ 57 < x)) with hlt | ⟨hlt, hgt⟩
                  all_goals
                    go_wp2
                    refine bodyPost_ret (v := .tuple #[zeroV, .int .i64 3]) ?_ rfl ⟨(hfin.setCell (Nat.le_refl _) _).setCell (Nat.le_refl _) _, .inr (.inl ⟨by rw [hll]; exact HS.out, HN.out, rfl⟩)⟩
                    simp [results, Try.results49, go_sem, c0, c1, zeroV]
              · obtain rfl : k = s.size := by omega
                have HZV : Hid (val zs = dval (bys s)) := by
                  have := HV2.out
                  rw [← bys_len s, List.take_length] at this
                  exact this
                have HDEC : Hid (Dec (bys s)) := by
                  refine ⟨fun h => ?_, ?_, H48.out⟩
                  · have h2 := bys_len s
                    rw [h] at h2
                    simp at h2
                    omega
                  · have := HD.out
                    rw [← bys_len s, List.take_length] at this
                    exact this
                obtain ⟨ao1, cc1, he, hsl⟩ := hO.sl
                cases he
                obtain ⟨c0, c1, c2, c3⟩ := HC2.out
                go_wp2_with fail
                refine (made_any _ _ _ _ _ _ hsl (by omega)).mono ?_
                rintro e w3 ⟨v, rfl, ⟨ng, ao, nn, cc, rs, rfl, hrs, hrc, hrn, hrz⟩, hb3⟩
                have hbl3 := hfin.trans (hb3.mono hfin.size)
                have hC3 := HC2.out.mono hb3 HC2.out.lt
                have HC3 := hidd hC3
                have HRZ := hidd hrz
                clear hrz c0 c1 c2 c3
                obtain ⟨c0, c1, c2, c3⟩ := hC3
                go_wp2
                obtain ⟨v', hv', hi', hb⟩ := gives_store HC3.out hrs hrc hrn HRZ.out hbl3 (Nat.le_refl _)
                cases hv'
                refine bodyPost_ret (v := .tuple #[.agg #[.bool ng, .slice ao nn cc], .int .i64 0]) ?_ rfl ⟨hb, .inr (.inr ⟨by rw [hll]; exact HS.out, HT.out.2 HDEC.out, _, rfl, by rw [HV.out, ← HZV.out]; exact hi'⟩)⟩
                simp [results, Try.results49, go_sem, c0, c1]

end Go.Proofs.Ytjpbmghdamcdcaa

namespace Go.Proofs.Ytjpbmghdamcdcaa
open Go Go.RowKit

/-- A number and an error. -/
def NumE (w : World) (z er : Int) (e : Ending) (w' : World) : Prop :=
  ∃ (n : Bool) (ao : Option Addr) (k c : Nat), e = .returned (.tuple #[.agg #[.bool n, .slice ao k c], .int .i64 er]) ∧ Below w.heap.size w w' ∧ Num w' (.agg #[.bool n, .slice ao k c]) z

open Classical in
noncomputable def paE (t : List Int) : Int := if 1300 < t.length then 2 else if IsText t then 0 else 3
open Classical in
noncomputable def paV (t : List Int) : Int := if 1300 < t.length then 0 else if IsText t then tval t else 0

theorem ten_pw : ∀ k : Nat, (10 : Int) ^ k ≤ pw k
  | 0 => by simp [pw]
  | k + 1 => by
    have h := ten_pw k
    have := pw_pos k
    rw [Int.pow_succ, pw_succ]
    omega

theorem dval_lt {l : List Int} (h : Dgs l) : ∀ k, k ≤ l.length → dval (l.take k) < 10 ^ k
  | 0, _ => by simp [dval]
  | k + 1, hk => by
    rw [dval_take (by omega), Int.pow_succ]
    have h1 := dval_lt h k (by omega)
    have h2 := h (l[k]'(by omega)) (List.getElem_mem _)
    have h3 : l.getD k 0 = l[k]'(by omega) := by simp [List.getD, show k < l.length by omega]
    omega

theorem dval_pw {l : List Int} (h : Dgs l) {K : Nat} (hK : l.length ≤ K) : 0 ≤ dval l ∧ dval l < pw K := by
  have h1 := dval_lt h l.length (Nat.le_refl _)
  have h0 := dval_nonneg h l.length (Nat.le_refl _)
  rw [List.take_length] at h0 h1
  have h2 := ten_pw l.length
  have h3 := pw_le hK
  omega

theorem tval_pw {t : List Int} (h : IsText t) {K : Nat} (hK : t.length ≤ K) : ab (tval t) < pw K := by
  by_cases h45 : t.getD 0 0 = 45
  · rw [tval_minus h45]
    have hd := ((isText_minus h45).1 h).1
    obtain ⟨h1, h2⟩ := dval_pw hd.2.1 (K := K) (by rw [List.length_drop]; omega)
    unfold ab
    omega
  · rw [tval_plain h45]
    have hd := (isText_plain h45).1 h
    obtain ⟨h1, h2⟩ := dval_pw hd.2.1 hK
    unfold ab
    omega

theorem parseU {w : World} {t : List Int} {e : Ending} {w' : World} (h : ParseGives w t e w') : NumE w (paV t) (paE t) e w' := by
  obtain ⟨hb, ⟨h1, rfl⟩ | ⟨h1, h2, rfl⟩ | ⟨h1, h2, v, rfl, hi⟩⟩ := h
  · have e1 : paE t = 2 := if_pos h1
    have e2 : paV t = 0 := if_pos h1
    rw [e1, e2]
    exact ⟨_, _, _, _, rfl, hb, Num.zero _⟩
  · have e1 : paE t = 3 := (if_neg (by omega)).trans (if_neg h2)
    have e2 : paV t = 0 := (if_neg (by omega)).trans (if_neg h2)
    rw [e1, e2]
    exact ⟨_, _, _, _, rfl, hb, Num.zero _⟩
  · have e1 : paE t = 0 := (if_neg (by omega)).trans (if_pos h2)
    have e2 : paV t = tval t := (if_neg (by omega)).trans (if_pos h2)
    have n1 := num_of hi (k := 1300) (tval_pw h2 h1) (by omega)
    obtain ⟨n, ao, kk, c, rfl⟩ := n1.parts
    rw [e1, e2]
    exact ⟨_, _, _, _, rfl, hb, n1⟩

theorem parseT {w : World} {z : Int} {e : Ending} {w' : World} (hl : (intText z).length ≤ 1300) (h : ParseGives w (intText z) e w') : NumE w z 0 e w' := by
  have h2 := parseU h
  have ht : IsText (intText z) := ⟨z, rfl⟩
  have e1 : paE (intText z) = 0 := (if_neg (by omega)).trans (if_pos ht)
  have e2 : paV (intText z) = z := (if_neg (by omega)).trans ((if_pos ht).trans (tval_text z))
  rw [e1, e2] at h2
  exact h2

theorem text_range (z : Int) : ∀ d ∈ intText z, 0 ≤ d ∧ d < 256 := by
  intro d hd
  unfold intText at hd
  split at hd
  · rcases List.mem_cons.1 hd with h | h
    · omega
    · have := sizeText_dig _ d h; omega
  · have := sizeText_dig _ d hd; omega

set_option maxRecDepth 100000 in
set_option maxHeartbeats 16000000 in
theorem IntegerTexts_any (w : World) (n1 : Bool) (a1 : Option Addr) (k1 c1 : Nat) (xs1 : List Int) (h1 : Sl w a1 k1 c1 xs1) (hk1 : k1 ≤ 9223372036854775807) (s : ByteArray) :
    Calls Try.prog 9 #[.agg #[.bool n1, .slice a1 k1 c1], .string s] w fun e w' => e = .returned (.bool true) ∧ Below w.heap.size w w' := by
  obtain ⟨x, hx⟩ : ∃ x, x = sgn n1 (val (xs1.take 140)) := ⟨_, rfl⟩
  have Bx : Hid (ab x < pw 140) := by rw [hx]; exact Num.ofMade h1.digs
  have Hx := hidd hx
  clear hx
  go_enter Try.func9, Try.ntmps9
  go_upto_region 1 with (fail)
  obtain ⟨w0, hw0, E⟩ := raw_boxes1 w (n1 := n1) h1 24
  rw [← hw0]
  clear hw0
  go_wp2_with fail
  refine (examples_any _).mono ?_
  rintro e w1 ⟨rfl, hb⟩
  replace E := E.mono hb
  clear hb
  obtain ⟨T, hT⟩ : ∃ T, T = bys s := ⟨_, rfl⟩
  have HT := hidd hT
  have HSL := hidd (bys_len s)
  clear hT
  by_cases hlong : 1400 < s.size
  · have hl : ((1400 : Int) < (s.size : Int)) = True := by simp; omega
    clear hlong
    go_wp2
    go_ret
    exact ⟨rfl, E.below⟩
  have hl : ((1400 : Int) < (s.size : Int)) = False := by simp; omega
  clear hlong
  obtain ⟨⟨d0, d1, d2, d3⟩, hS⟩ := E.raws.1
  go_wp2_with fail
  refine (exKP (z := x) (by rw [Hx.out]; exact Made_any _ _ _ _ _ _ hS hk1 140 (by omega)) Bx.out (by omega)).mono ?_
  rintro e w2 ⟨n2', ao2, kk2, c2', rfl, hb, hN2⟩
  replace E := E.mono hb
  clear hb
  clear d0 d1 d2 d3 hS
  go_upto_region 7 with (fail)
  obtain ⟨w3, hw3, hb, p3_0⟩ := boxOne hN2 27
  rw [← hw3]
  clear hw3
  replace E := E.mono hb
  replace E := E.push p3_0
  clear hb p3_0
  clear hl
  obtain ⟨nd, aod, kkd, ccd, ⟨d0, d1, d2, d3⟩, hNd⟩ := E.bs.1
  by_cases hbig : 1300 < (intText x).length
  case' pos =>
    have hT1 := textOf_big hbig
    go_wp2_with fail
    refine (TextV _ hNd).mono ?_
    rintro e wa ⟨rfl, hb⟩
    rw [hT1]
    have hNd2 := hNd.mono hb
    replace E := E.mono hb
    clear hb d0 d1 d2 d3 hNd
    obtain ⟨nd, aod, kkd, ccd, ⟨d0, d1, d2, d3⟩, hNd⟩ := E.bs.1
    go_wp2_with fail
    refine (RTextV _ hNd (Int.lt_of_lt_of_le Bx.out (pw_le (by omega)))).mono ?_
    rintro e wt ⟨rfl, hb⟩
    rw [hT1]
    replace E := E.mono hb
    clear hb d0 d1 d2 d3 hNd hNd2 hT1 hbig
    go_upto_region 15 with (fail)
  case' neg =>
    have hbl : (intText x).length ≤ 1300 := by omega
    have hT1 := textOf_ok hbl
    obtain ⟨tt, htt⟩ : ∃ tt, tt = bytesOf (intText x) := ⟨_, rfl⟩
    rw [← htt] at hT1
    have HTT : Hid (bys tt = intText x) := by show _ = _; rw [htt]; exact bys_bytesOf (text_range x)
    have HBL := hidd hbl
    clear htt hbl hbig
    go_wp2_with fail
    refine (TextV _ hNd).mono ?_
    rintro e wa ⟨rfl, hb⟩
    rw [hT1]
    replace E := E.mono hb
    clear hb d0 d1 d2 d3 hNd
    obtain ⟨nd, aod, kkd, ccd, ⟨d0, d1, d2, d3⟩, hNd⟩ := E.bs.1
    go_wp2_with fail
    refine (RTextV _ hNd (Int.lt_of_lt_of_le Bx.out (pw_le (by omega)))).mono ?_
    rintro e wb ⟨rfl, hb⟩
    rw [hT1]
    replace E := E.mono hb
    clear hb d0 d1 d2 d3 hNd hT1
    go_wp2_with fail
    refine (Parse_any _ tt).mono fun e w' hh => ?_
    rw [HTT.out] at hh
    replace hh := parseT HBL.out hh
    revert hh; revert w'; revert e
    rintro e wc ⟨n3, ao3, k3, c3, rfl, hb, hq3⟩
    replace E := E.mono hb
    clear hb
    go_upto_region 13 with (fail)
    obtain ⟨w4, hw4, hb, p4_0⟩ := boxOne hq3 27
    rw [← hw4]
    clear hw4
    replace E := E.mono hb
    replace E := E.push p4_0
    clear hb p4_0
    obtain ⟨nd, aod, kkd, ccd, ⟨d0, d1, d2, d3⟩, hNd⟩ := E.bs.1
    obtain ⟨nf, aof, kkf, ccf, ⟨f0, f1, f2, f3⟩, hNf⟩ := E.bs.2.1
    go_wp2_with fail
    refine (exSame hNd hNf rfl).mono ?_
    rintro e wt ⟨_, rfl, hb, rfl⟩
    replace E := E.mono hb
    clear hb
    clear d0 d1 d2 d3 hNd f0 f1 f2 f3 hNf
    go_upto_region 15 with (fail)
  all_goals
    go_wp2_with fail
    refine (Parse_any _ s).mono fun e w' hh => ?_
    replace hh := parseU hh
    rw [← HT.out] at hh
    revert hh; revert w'; revert e
    rintro e wd ⟨n4, ao4, k4, c4, rfl, hb, hq4⟩
    replace E := E.mono hb
    clear hb
    go_upto_region 16 with (fail)
    obtain ⟨w5, hw5, hb, p5_0⟩ := boxOne hq4 27
    rw [← hw5]
    clear hw5
    replace E := E.mono hb
    replace E := E.push p5_0
    clear hb p5_0
    go_wp2_with fail
    refine (RParse_any _ s).mono fun e w' hh => ?_
    replace hh := parseU hh
    rw [← HT.out] at hh
    revert hh; revert w'; revert e
    rintro e we ⟨n5, ao5, k5, c5, rfl, hb, hq5⟩
    replace E := E.mono hb
    clear hb
    go_upto_region 17 with (fail)
    obtain ⟨w6, hw6, hb, p6_0⟩ := boxOne hq5 27
    rw [← hw6]
    clear hw6
    replace E := E.mono hb
    replace E := E.push p6_0
    clear hb p6_0
    obtain ⟨nd, aod, kkd, ccd, ⟨d0, d1, d2, d3⟩, hNd⟩ := E.bs.2.1
    obtain ⟨nf, aof, kkf, ccf, ⟨f0, f1, f2, f3⟩, hNf⟩ := E.bs.1
    go_wp2_with fail
    refine (exSame hNd hNf rfl).mono ?_
    rintro e wf ⟨_, rfl, hb, rfl⟩
    replace E := E.mono hb
    clear hb
    clear d0 d1 d2 d3 hNd f0 f1 f2 f3 hNf
    go_upto_region 19 with (fail)
    by_cases hE : paE T = 0
    · have hlen : T.length ≤ 1300 ∧ IsText T := by
        unfold paE at hE
        split at hE
        · cases hE
        · split at hE
          · exact ⟨by omega, by assumption⟩
          · cases hE
      rw [hE]
      have hV : paV T = tval T := (if_neg (by omega)).trans (if_pos hlen.2)
      have hIT := isText_val hlen.2
      have HL := hidd hlen
      clear hE hlen
      obtain ⟨nd, aod, kkd, ccd, ⟨d0, d1, d2, d3⟩, hNd⟩ := E.bs.2.1
      rw [hV] at hNd
      have hTx : textOf (tval T) = .tuple #[.string s, .int .i64 0] := by rw [textOf_ok (by rw [hIT]; exact HL.out.1), hIT, HT.out, bytesOf_bys]
      clear hV hIT
      go_wp2_with fail
      refine (TextV _ hNd).mono ?_
      rintro e wg ⟨rfl, hb⟩
      rw [hTx]
      replace E := E.mono hb
      clear hb d0 d1 d2 d3 hNd hTx
      go_wp2
      go_ret
      exact ⟨rfl, E.below⟩
    · have hE2 : paE T = 2 ∨ paE T = 3 := by
        unfold paE at hE ⊢
        split
        · exact .inl rfl
        · split
          · rename_i h1 h2; rw [if_neg h1, if_pos h2] at hE; exact absurd rfl hE
          · exact .inr rfl
      clear hE
      rcases hE2 with hE2 | hE2
      all_goals
        rw [hE2]
        clear hE2
        go_wp2
        go_ret
        exact ⟨rfl, E.below⟩

end Go.Proofs.Ytjpbmghdamcdcaa
