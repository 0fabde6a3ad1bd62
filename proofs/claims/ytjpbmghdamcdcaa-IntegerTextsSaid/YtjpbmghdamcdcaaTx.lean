/- Walks: the decimal digits of a size. -/
import Derived.Test.YtjpbmghdamcdcaaRs
import Derived.Test.YtjpbmghdamcdcaaDg
namespace Go.Proofs.Ytjpbmghdamcdcaa
open Go Go.RowKit

theorem info_byte : (Try.prog.info? 5).map (fun i => (i.zero, i.size, i.bytes)) = some (some (.int .u8 0), 1, 1) := by kernel_rfl

/-- What 'digits' has gathered: bytes that the call owns. -/
def Back (w : World) (B : Nat) (v : Value) (ds : List Int) : Prop := w.ownsRow B 5 1 v ds.length (ds.map (Value.int .u8))

theorem Back.shape {w : World} {B : Nat} {v : Value} {ds : List Int} (h : Back w B v ds) : ∃ ao cap, v = .slice ao ds.length cap := by
  rcases h.2 with ⟨rfl, h0⟩ | ⟨g, cap, cur, rfl, _⟩
  · exact ⟨none, 0, by rw [h0]⟩
  · exact ⟨_, _, rfl⟩

theorem Back.cells {w : World} {B : Nat} {v : Value} {ds : List Int} (h : Back w B v ds) (h0 : 0 < ds.length) :
    ∃ g cap, v = .slice (some ⟨g, 0, none⟩) ds.length cap ∧ g < w.heap.size ∧ ∀ j, j < ds.length → w.cell? ⟨g, j, none⟩ = some (.int .u8 (ds.getD j 0)) := by
  rcases h.2 with ⟨rfl, h1⟩ | ⟨g, cap, cur, rfl, hb, hg, _⟩
  · omega
  · refine ⟨g, cap, rfl, (Array.getElem?_eq_some_iff.1 hg).1, fun j hj => ?_⟩
    have := World.ownsRow.cells h (g := g) rfl j (.int .u8 (ds.getD j 0)) (by simp [hj])
    have hadd : (⟨g, 0, none⟩ : Addr).add j = ⟨g, j, none⟩ := by unfold Addr.add; split <;> simp_all
    rw [hadd] at this
    exact this

theorem back_step {w wr w1 : World} {B : Nat} {v v' : Value} {ds zs : List Int} {d : Int} {o : Obj} (hown : Back wr (B + 1) v ds) (hrow : Row wr 63 B zs) (hnx : Below B w wr)
    (hown' : w1.ownsRow (B + 1) 5 1 v' (ds.length + 1) (ds.map (Value.int .u8) ++ [.int .u8 d])) (hgrow : (wr.alloc o).grownBy w1 v.ownBlock) :
    Back w1 (B + 1) v' (ds ++ [d]) ∧ Row w1 63 B zs ∧ Below B w w1 := by
  have hlt := hrow.lt
  have hne : some B ≠ v.ownBlock := fun h => by have := (World.ownsRow.lt hown B h.symm).1; omega
  refine ⟨?_, ⟨hrow.1, ?_⟩, ?_⟩
  · unfold Back
    simpa using hown'
  · rw [hgrow.block B (by simp; omega) hne, heap_alloc_old _ _ hlt]; exact hrow.2
  · exact (hnx.alloc (by omega) o).grown hgrow (by simp; omega) (fun j hj => by have := (World.ownsRow.lt hown j hj).1; omega)

theorem one_at (w : World) (x : Value) (e : TypeId) : ∀ (j : Nat) (u : Value), [x][j]? = some u → (w.alloc (.cells #[x] e)).cell? ((⟨w.heap.size, 0, none⟩ : Addr).add j) = some u := by
  intro j u hj
  match j, hj with
  | 0, hj => simp at hj; subst hj; simp [Addr.add]

set_option maxHeartbeats 2000000 in
theorem digits_any (w : World) (ax : Option Addr) (n c : Nat) (xs : List Int) (hX : Sl w ax n c xs) (hcx : Canon xs) (hb : n ≤ 1000000) :
    Calls Try.prog 74 #[.slice ax n c] w fun e w' => e = .returned (.string (bytesOf (sizeText (val xs).toNat))) ∧ Below w.heap.size w w' := by
  have hlen : (decs (val xs).toNat).length ≤ 10 * n := by have := decs_val_len hX.digs; rw [hX.len] at this; exact this
  have HLEN := hidd hlen
  have hxl := hidd hX.len
  clear hlen
  obtain ⟨i0, hi, hz0, hz1, hz2⟩ := info_parts info_byte
  go_enter Try.func74, Try.ntmps74
  go_wp2_with fail
  refine (copied_any w ax n c xs hX (by omega)).mono ?_
  rintro e w1 ⟨rfl, hrow, hb1⟩
  have hcx1 := hidd hcx
  clear hcx
  go_wp2
  go_loopw [0, 3] (fun vx vb wr => ∃ (m : Nat) (zs ds : List Int), vx = .slice (some ⟨w.heap.size, 0, none⟩) m n ∧ m ≤ n ∧ zs.length = n ∧ Row wr 63 w.heap.size zs ∧ Canon (zs.take m) ∧ Back wr (w.heap.size + 1) vb ds ∧ decs (val xs).toNat = ds ++ decs (val (zs.take m)).toNat ∧ Below w.heap.size w wr) (fun vx _ wr => slVal wr vx)
  case atStart => exact ⟨n, xs, [], rfl, Nat.le_refl _, hxl.out, hrow, by rw [List.take_of_length_le (by rw [hxl.out]; omega)]; exact hcx1.out, World.ownsRow_nil _ _ _ _, by rw [List.take_of_length_le (by rw [hxl.out]; omega)]; simp, hb1⟩
  case round =>
    obtain ⟨m, zs, ds, rfl, hmn, hzl, hrw, hcz, hbk, hdec, hnx⟩ := hrel
    have HZL := hidd hzl
    have HDEC := hidd hdec
    have HCZ := hidd hcz
    clear hzl hdec hcz
    obtain ⟨ab, cb, rfl⟩ := hbk.shape
    by_cases hm : 0 < m
    · go_wp2_with fail
      refine (divWord_any _ w.heap.size m n zs hrw (by rw [HZL.out]; omega) (by omega) 1000000000 (by omega) (by omega)).mono ?_
      rintro e w2 ⟨p, zs', rfl, hp0, hp1, hrow2, hl2, hdr, hv, hg⟩
      have HL2 := hidd (hl2.trans HZL.out)
      have HV := hidd hv
      clear hl2 hdr hv
      have hbk2 : Back w2 (w.heap.size + 1) (.slice ab ds.length cb) ds := World.ownsRow.kept hbk hg (by
        right
        intro h
        have := (World.ownsRow.lt hbk _ h).1
        omega)
      have hnx2 := hnx.grown hg (Nat.le_of_lt hrw.lt) (fun k hk => by cases hk; exact Nat.le_refl _)
      go_wp2_with fail
      refine (trim_any _ _ m n (zs'.take m) ((hrow2.sl HL2.out).take hmn) (by omega)).mono ?_
      rintro e w3 ⟨m2, rfl, hm2, hs3, hv3, hc3, rfl⟩
      rw [List.take_take, Nat.min_eq_left hm2] at hs3 hv3 hc3
      have hq0 := val_nonneg hc3.1
      have hvp : 0 < val (zs.take m) := by
        have h1 := val_nonneg HCZ.out.1
        rcases Int.lt_or_le 0 (val (zs.take m)) with h | h
        · exact h
        · have := HCZ.out.zero.2 (by omega)
          rw [List.length_take, HZL.out] at this; omega
      have HV2 := hidd (show val (zs.take m) = val (zs'.take m2) * 1000000000 + p by rw [hv3]; exact HV.out)
      have HC3 := hidd hc3
      have hm0 : m2 = 0 ↔ val (zs'.take m2) = 0 := by rw [← HC3.out.zero, List.length_take, HL2.out]; omega
      have HM0 := hidd hm0
      clear hv3 hc3 HV hs3 hm0
      go_wp2
      go_loopw [3, 4, 5] (fun vb vp vi wr' => ∃ (k : Nat) (q : Int) (ds : List Int), k ≤ 9 ∧ vi = .int .i64 k ∧ vp = .int .u32 q ∧ 0 ≤ q ∧ q < 1000000000 ∧ q.toNat < 10 ^ (9 - k) ∧ Row wr' 63 w.heap.size zs' ∧ Back wr' (w.heap.size + 1) vb ds ∧ decs (val xs).toNat = ds ++ decs ((val (zs'.take m2)).toNat * 10 ^ (9 - k) + q.toNat) ∧ Below w.heap.size w wr') (fun _ _ vi _ => 9 - (intOf vi).toNat)
      case atStart =>
        refine ⟨0, p, ds, by omega, rfl, rfl, hp0, hp1, ?_, hrow2, hbk2, ?_, hnx2⟩
        · have : 10 ^ (9 - 0) = 1000000000 := by decide
          omega
        · rw [HDEC.out, HV2.out]
          have : 10 ^ (9 - 0) = 1000000000 := by decide
          rw [this]
          congr 2
          omega
      case round =>
        obtain ⟨k, q, ds2, hk, rfl, rfl, hq0, hq1, hq2, hrow4, hbk4, hdec4, hnx4⟩ := hrel
        have HDEC4 := hidd hdec4
        have HQ2 := hidd hq2
        clear hdec4 hq2
        obtain ⟨ab4, cb4, rfl⟩ := hbk4.shape
        by_cases hgo : k < 9 ∧ (0 < q ∨ 0 < m2)
        · obtain ⟨hk9, hpos⟩ := hgo
          have HPOS := hidd (show 0 < (val (zs'.take m2)).toNat ∨ 0 < q.toNat by have := HM0.out; omega)
          have HROOM := hidd (dig_room HDEC4.out HPOS.out HLEN.out)
          have hd0 : ds2.length ≤ 10000000 := by have := HROOM.out; omega
          have hmod : (48 + q % 10) % 256 = 48 + q % 10 := by omega
          rcases (by omega : 0 < q ∨ (¬ 0 < q ∧ 0 < m2)) with hq | ⟨hq, hm2p⟩
          all_goals
            go_wp2_with (first | (at_builtin; refine wpList_append_own _ rfl _ _ 76 rfl (w.heap.size + 1) 5 i0 (.int .u8 0) 1 1 Try.underlying76 hi hz0 hz1 hz2 rfl (by decide) _ _ _ rfl (World.ownsRow.alloc hbk4 _) ⟨_, 0, none⟩ 1 1 [.int .u8 (48 + q % 10)] rfl rfl (one_at _ _ _) (by intro u hu; simp at hu; subst hu; rfl) (by unfold maxLen; omega) (by omega) (by have := hrow4.lt; simp; omega) ?_; intro v' w5 hown' hgrow _) | go_in)
            have R := back_step hbk4 hrow4 hnx4 hown' hgrow
            clear hown' hgrow hbk4
            go_wp2
            go_roundw
            case rel =>
              refine ⟨k + 1, q / 10, ds2 ++ [48 + q % 10], by omega, by go_num, by go_num, by omega, by omega, ?_, R.2.1, R.1, ?_, R.2.2⟩
              · have := dig_lt hk9 HQ2.out
                omega
              · have := dig_step hk9 HDEC4.out HPOS.out
                have e1 : ((q.toNat % 10 : Nat) : Int) = q % 10 := by omega
                have e2 : (q / 10).toNat = q.toNat / 10 := by omega
                rw [this, e1, e2]
            case measure => simp [intOf]; omega
        · have hlast : k = 9 ∨ ((val (zs'.take m2)).toNat = 0 ∧ q.toNat = 0) := by have := HM0.out; omega
          have HLAST := hidd hlast
          have hcase : ¬ k < 9 ∨ (k < 9 ∧ ¬ 0 < q ∧ ¬ 0 < m2) := by omega
          have hd := dig_last hk HQ2.out HLAST.out
          have HD := hidd hd
          clear hlast hd hgo
          have hsA := hrw.sl HZL.out
          have hsB := hrow4.sl HL2.out
          rcases hcase with hk9 | ⟨hk9, hq, hm2p⟩
          all_goals
            go_wp2
            go_roundw
            case rel => exact ⟨m2, zs', ds2, rfl, by omega, HL2.out, hrow4, HC3.out, hbk4, by rw [HDEC4.out, HD.out], hnx4⟩
            case measure =>
              rw [slVal_eq (hsB.take (show m2 ≤ n by omega)), slVal_eq (hsA.take hmn)]
              have := HV2.out
              have := val_nonneg HC3.out.1
              omega
    · obtain rfl : m = 0 := by omega
      have hdec : decs (val xs).toNat = ds := by rw [HDEC.out]; simp [val, decs_zero]
      by_cases h0 : 0 < ds.length
      · obtain ⟨g, cap, heq, hg, hcell⟩ := hbk.cells h0
        cases heq
        have hN : (val xs).toNat ≠ 0 := fun h => by rw [h, decs_zero] at hdec; subst hdec; simp at h0
        have hL : ds.length ≤ 10000000 := by rw [← hdec]; have := HLEN.out; omega
        have HDS := hidd hdec
        clear hdec
        go_wp2_with (first | (at_make; refine wpList_make_bytes _ rfl _ _ 76 rfl 5 Try.underlying76 info_byte _ _ _ _ rfl rfl ds.length rfl rfl (by omega) ?_; intro w5 hrb hb5 hs5) | (fail))
        go_loopw [48] (fun vi wr' => ∃ k : Nat, k ≤ ds.length ∧ vi = .int .i64 k ∧ RowB wr' 5 wr.heap.size (turned ds k) ∧ Below wr.heap.size wr wr') (fun vi _ => ds.length - (intOf vi).toNat)
        case atStart => exact ⟨0, by omega, rfl, by rw [turned_zero]; exact hrb, hb5⟩
        case round =>
          obtain ⟨k, hk, rfl, hrt, hbt⟩ := hrel
          by_cases hkl : k < ds.length
          · obtain ⟨j, hj⟩ : ∃ j : Nat, j = ds.length - 1 - k := ⟨_, rfl⟩
            have hj1 : (ds.length : Int) - 1 - (k : Int) = (j : Int) := by omega
            have HJ := hidd hj
            have hjl : j < ds.length := by omega
            clear hj
            obtain ⟨x, hx⟩ : ∃ x, x = ds.getD k 0 := ⟨_, rfl⟩
            have hcx : wr.cell? ⟨g, k, none⟩ = some (.int .u8 x) := by rw [hx]; exact (hbt.cell (p := ⟨g, k, none⟩) hg).trans (hcell k hkl)
            have HX := hidd hx
            clear hx
            obtain ⟨y, hcy⟩ : ∃ y, wr.cell? ⟨_, j, none⟩ = some y := ⟨_, hrt.cell (by rw [turned_len _ hk]; exact hjl)⟩
            have hfr := hrt.frozen j
            go_wp2
            go_roundw
            case rel =>
              refine ⟨k + 1, by omega, by go_num, ?_, hbt.setCell (Nat.le_refl _) _⟩
              have := hrt.set (j := j) x
              rw [HX.out, HJ.out, turned_step ds hkl] at this
              rw [HX.out, HJ.out]
              exact this
            case measure => simp [intOf]; omega
          · obtain rfl : k = ds.length := by omega
            rw [turned_all] at hrt
            have hconv := run_text_of_row (P := Try.prog) hrt (fun d hd => by have := decs_dig _ _ (Nat.le_refl _) d (by rw [HDS.out]; exact List.mem_reverse.1 hd); omega) 76 9 5 ds.length ds.length (by simp) Try.underlying76 Try.underlying5 Try.underlying9
            go_wp2
            go_ret
            refine ⟨?_, hnx.trans (hbt.mono hnx.size)⟩
            unfold sizeText
            rw [if_neg hN, HDS.out]
            rfl
      · have h1 : ds = [] := List.eq_nil_of_length_eq_zero (by omega)
        subst h1
        have hN : (val xs).toNat = 0 := decs_ne.1 hdec
        clear hdec HDEC
        go_wp2
        go_ret
        refine ⟨?_, hnx⟩
        unfold sizeText
        rw [if_pos hN]
        rfl

end Go.Proofs.Ytjpbmghdamcdcaa
