/- Decimal texts: what a text says, and that it is the only text of its number. Nothing of the program is used. Walk: a size times ten and a digit, in its place. Walks: read, whole. Walk: Parse, whole. -/
import Derived.Test.YtjpbmghdamcdcaaDg
import Derived.Test.YtjpbmghdamcdcaaRc
import Derived.Laws.RangeAny
import Derived.Lib.OthersKept
import Derived.Test.YtjpbmghdamcdcaaPz
namespace Go.Proofs.Ytjpbmghdamcdcaa
open Go Go.RowKit

/-- The bytes of a string. -/
def bys (s : ByteArray) : List Int := s.data.toList.map (fun b => (b.toNat : Int))

theorem bys_len (s : ByteArray) : (bys s).length = s.size := by unfold bys; rw [List.length_map]; rfl
theorem bys_at (s : ByteArray) {j : Nat} (h : j < s.size) : (bys s).getD j 0 = ((s[j]'h).toNat : Int) := by
  have h2 : j < s.data.size := h
  unfold bys List.getD
  rw [List.getElem?_map, Array.getElem?_toList, Array.getElem?_eq_getElem h2]
  rfl
theorem bys_range (s : ByteArray) : ∀ d ∈ bys s, 0 ≤ d ∧ d < 256 := by
  intro d hd
  obtain ⟨b, _, rfl⟩ := List.mem_map.1 hd
  have := b.toNat_lt
  omega
theorem bytesOf_bys (s : ByteArray) : bytesOf (bys s) = s := by
  apply ByteArray.ext
  apply Array.ext'
  simp [bytesOf, bys, Function.comp_def]
theorem bys_bytesOf {l : List Int} (h : ∀ d ∈ l, 0 ≤ d ∧ d < 256) : bys (bytesOf l) = l := by
  unfold bys bytesOf
  simp only [List.map_map]
  conv => rhs; rw [← List.map_id l]
  refine List.map_congr_left fun d hd => ?_
  have := h d hd
  simp
  omega
theorem bys_tail (s : ByteArray) : bys (s.extract 1 s.size) = (bys s).drop 1 := by
  unfold bys
  rw [ByteArray.data_extract, Array.toList_extract, List.extract_eq_take_drop, List.map_take, List.map_drop, List.take_of_length_le]
  rw [List.length_drop, List.length_map, Array.length_toList]
  exact Nat.le_refl _

/-- The number that decimal digits say, the first one being the greatest. -/
def dval (ds : List Int) : Int := ds.foldl (fun a d => 10 * a + (d - 48)) 0

theorem dval_nil : dval [] = 0 := rfl
theorem dval_snoc (ds : List Int) (d : Int) : dval (ds ++ [d]) = 10 * dval ds + (d - 48) := by simp [dval]
theorem dval_take {ds : List Int} {k : Nat} (h : k < ds.length) : dval (ds.take (k + 1)) = 10 * dval (ds.take k) + (ds.getD k 0 - 48) := by
  rw [List.take_add_one, List.getElem?_eq_getElem h]
  show dval (ds.take k ++ [ds[k]]) = _
  rw [dval_snoc]
  simp [List.getD, h]

/-- These bytes are all digits. -/
def Dgs (l : List Int) : Prop := ∀ d ∈ l, 48 ≤ d ∧ d ≤ 57

theorem dval_nonneg {l : List Int} (h : Dgs l) : ∀ k, k ≤ l.length → 0 ≤ dval (l.take k)
  | 0, _ => by simp [dval]
  | k + 1, hk => by
    rw [dval_take (by omega)]
    have h1 := dval_nonneg h k (by omega)
    have h2 := h (l[k]'(by omega)) (List.getElem_mem _)
    have h3 : l.getD k 0 = l[k]'(by omega) := by simp [List.getD, show k < l.length by omega]
    omega

theorem dval_decs : ∀ (k n : Nat), n ≤ k → dval (decs n).reverse = n
  | 0, n, h => by
    have : n = 0 := by omega
    rw [this, decs_zero]; rfl
  | k + 1, n, h => by
    by_cases h0 : n = 0
    · rw [h0, decs_zero]; rfl
    · rw [decs_pos (by omega), List.reverse_cons, dval_snoc, dval_decs k (n / 10) (by omega)]
      omega

theorem dval_size (n : Nat) : dval (sizeText n) = n := by
  unfold sizeText
  split
  · rename_i h; rw [h]; rfl
  · exact dval_decs n n (Nat.le_refl _)

theorem decs_last : ∀ (k n : Nat), n ≤ k → 0 < n → (decs n).reverse.getD 0 0 ≠ 48
  | 0, n, h, h0 => by omega
  | k + 1, n, h, h0 => by
    rw [decs_pos h0, List.reverse_cons]
    by_cases h1 : n / 10 = 0
    · rw [h1, decs_zero]
      simp
      omega
    · have h2 := decs_last k (n / 10) (by omega) (by omega)
      have h3 := mt decs_ne.1 h1
      have h4 : 0 < (decs (n / 10)).reverse.length := by
        rw [List.length_reverse]; exact List.length_pos_iff.2 h3
      have h5 : ((decs (n / 10)).reverse ++ [48 + ((n % 10 : Nat) : Int)]).getD 0 0 = (decs (n / 10)).reverse.getD 0 0 := by
        simp only [List.getD, List.getElem?_append_left h4]
      rw [h5]
      exact h2

/-- Digits without a zero in front, or the zero. -/
def Dec (t : List Int) : Prop := t ≠ [] ∧ Dgs t ∧ (t.getD 0 0 = 48 → t.length = 1)

theorem dec_size (n : Nat) : Dec (sizeText n) := by
  refine ⟨fun h => ?_, sizeText_dig n, fun h => ?_⟩
  · have := sizeText_pos n
    rw [h] at this; simp at this
  · unfold sizeText at h ⊢
    split
    · rfl
    · rename_i h0
      rw [if_neg h0] at h
      exact absurd h (decs_last n n (Nat.le_refl _) (by omega))

theorem decs_dval : ∀ (r : List Int), Dgs r.reverse → r ≠ [] → r.reverse.getD 0 0 ≠ 48 → 0 < dval r.reverse ∧ decs (dval r.reverse).toNat = r
  | [], _, h, _ => absurd rfl h
  | [d], hd, _, h => by
    have h1 := hd d (by simp)
    have h2 : d ≠ 48 := by simpa using h
    have e : dval [d].reverse = d - 48 := by simp [dval]
    rw [e]
    refine ⟨by omega, ?_⟩
    rw [decs_pos (by omega), show (d - 48).toNat / 10 = 0 by omega, decs_zero]
    congr 1
    omega
  | d :: x :: r, hd, _, h => by
    have h1 := hd d (by simp)
    have hd2 : Dgs (x :: r).reverse := fun y hy => hd y (by rw [List.reverse_cons]; exact List.mem_append_left _ hy)
    have hl : 0 < (x :: r).reverse.length := by simp
    have h5 : (d :: x :: r).reverse.getD 0 0 = (x :: r).reverse.getD 0 0 := by
      rw [List.reverse_cons]
      simp only [List.getD, List.getElem?_append_left hl]
    rw [h5] at h
    obtain ⟨i1, i2⟩ := decs_dval (x :: r) hd2 (by simp) h
    have e : dval (d :: x :: r).reverse = 10 * dval (x :: r).reverse + (d - 48) := by
      rw [List.reverse_cons, dval_snoc]
    rw [e]
    refine ⟨by omega, ?_⟩
    rw [decs_pos (by omega), show (10 * dval (x :: r).reverse + (d - 48)).toNat / 10 = (dval (x :: r).reverse).toNat by omega, i2]
    congr 1
    omega

/-- Without a zero in front, the number is not 0. -/
theorem dec_posv {t : List Int} (h : Dec t) (h0 : t.getD 0 0 ≠ 48) : 0 < dval t := by
  have := (decs_dval t.reverse (by simpa using h.2.1) (by simpa using h.1) (by simpa using h0)).1
  simpa using this

/-- A number has one text. -/
theorem dec_text {t : List Int} (h : Dec t) : sizeText (dval t).toNat = t := by
  by_cases h0 : t.getD 0 0 = 48
  · have hl := h.2.2 h0
    match t, hl with
    | [d], _ =>
      have : d = 48 := by simpa using h0
      subst this
      simp [dval, sizeText]
  · obtain ⟨i1, i2⟩ := decs_dval t.reverse (by simpa using h.2.1) (by simpa using h.1) (by simpa using h0)
    simp only [List.reverse_reverse] at i1 i2
    unfold sizeText
    rw [if_neg (by omega), i2, List.reverse_reverse]

theorem dec_head {t : List Int} (h : Dec t) : t.getD 0 0 ≠ 45 := by
  match t, h.1 with
  | d :: r, _ =>
    have := h.2.1 d (by simp)
    simp
    omega

/-- The number that a text says. -/
def tval (s : List Int) : Int := if s.getD 0 0 = 45 then -dval (s.drop 1) else dval s

theorem tval_text (z : Int) : tval (intText z) = z := by
  unfold intText
  split
  · unfold tval
    rw [if_pos (by simp)]
    simp only [List.drop_succ_cons, List.drop_zero]
    rw [dval_size]
    omega
  · unfold tval
    rw [if_neg (dec_head (dec_size _)), dval_size]
    omega

/-- A string is the text of a number. -/
def IsText (s : List Int) : Prop := ∃ z, intText z = s

theorem isText_val {s : List Int} (h : IsText s) : intText (tval s) = s := by
  obtain ⟨z, rfl⟩ := h
  rw [tval_text]

theorem isText_plain {s : List Int} (h : s.getD 0 0 ≠ 45) : IsText s ↔ Dec s := by
  constructor
  · rintro ⟨z, rfl⟩
    unfold intText at h ⊢
    split
    · rename_i h0
      rw [if_pos h0] at h
      exact absurd (by simp) h
    · exact dec_size _
  · intro hd
    have h0 := dval_nonneg hd.2.1 s.length (Nat.le_refl _)
    rw [List.take_length] at h0
    refine ⟨dval s, ?_⟩
    unfold intText
    rw [if_neg (by omega), show (dval s).natAbs = (dval s).toNat by omega]
    exact dec_text hd

theorem isText_minus {s : List Int} (h : s.getD 0 0 = 45) : IsText s ↔ Dec (s.drop 1) ∧ (s.drop 1).getD 0 0 ≠ 48 := by
  obtain ⟨t, rfl⟩ : ∃ t, s = 45 :: t := by
    match s, h with
    | [], h => simp at h
    | d :: t, h => exact ⟨t, by simp at h; rw [h]⟩
  simp only [List.drop_succ_cons, List.drop_zero]
  constructor
  · rintro ⟨z, hz⟩
    unfold intText at hz
    split at hz
    · rename_i h0
      injection hz with _ h2
      rw [← h2]
      refine ⟨dec_size _, ?_⟩
      unfold sizeText
      rw [if_neg (by omega)]
      exact decs_last _ _ (Nat.le_refl _) (by omega)
    · exfalso
      have := dec_head (dec_size z.natAbs)
      rw [hz] at this
      simp at this
  · rintro ⟨hd, h0⟩
    have h1 := dec_posv hd h0
    refine ⟨-dval t, ?_⟩
    unfold intText
    rw [if_pos (by omega), show (-dval t).natAbs = (dval t).toNat by omega, dec_text hd]

theorem tval_plain {s : List Int} (h : s.getD 0 0 ≠ 45) : tval s = dval s := if_neg h
theorem tval_minus {s : List Int} (h : s.getD 0 0 = 45) : tval s = -dval (s.drop 1) := if_pos h

end Go.Proofs.Ytjpbmghdamcdcaa

namespace Go.Proofs.Ytjpbmghdamcdcaa
open Go Go.RowKit

theorem Ow.set {w : World} {B g n c : Nat} {zs : List Int} (h : Ow w B (.slice (some ⟨g, 0, none⟩) n c) zs) {j : Nat} (hj : j < n) {x : Int} (hx0 : 0 ≤ x) (hx1 : x < 4294967296) : Ow (w.setCell ⟨g, j, none⟩ (.int .u32 x)) B (.slice (some ⟨g, 0, none⟩) n c) (zs.set j x) := by
  obtain ⟨⟨h1, h2⟩, h3⟩ := h
  rcases h2 with ⟨h4, _⟩ | ⟨g', cap, cur, h4, h5, h6, h7, h8, h9, h10⟩
  · cases h4
  · cases h4
    refine ⟨⟨by simp, .inr ⟨g, c, cur.setIfInBounds j (.int .u32 x), by rw [List.length_set], h5, ?_, by rw [List.length_set]; exact h7, h8, by simpa using h9, ?_⟩⟩, h3.set j ⟨hx0, hx1⟩⟩
    · simp only [World.setCell, Array.getElem?_modify, if_true, h6, Option.map_some, Option.isSome_none]
      simp
    · rw [List.length_set, Array.toList_setIfInBounds, List.take_set, h10, List.map_set]

theorem Ow.stepB {w wr w1 : World} {B : Nat} {v v' : Value} {zs : List Int} {d : Int} {o : Obj} (h : Ow wr B v zs) (hnx : Below B w wr) (hs : B ≤ wr.heap.size) (hd0 : 0 ≤ d) (hd1 : d < 4294967296)
    (hown' : w1.ownsRow B 63 1 v' (zs.length + 1) (zs.map (Value.int .u32) ++ [.int .u32 d])) (hgrow : (wr.alloc o).grownBy w1 v.ownBlock) :
    Ow w1 B v' (zs ++ [d]) ∧ Below B w w1 := by
  refine ⟨⟨by simpa using hown', fun y hy => ?_⟩, ?_⟩
  · rcases List.mem_append.1 hy with h1 | h1
    · exact h.2 y h1
    · simp at h1; subst h1; exact ⟨hd0, hd1⟩
  · exact (hnx.alloc hs o).grown hgrow (by simp; omega) (fun j hj => (World.ownsRow.lt h.1 j hj).1)

theorem ten_step {k : Nat} {us zs : List Int} {q d x : Int} (hk : k < us.length) (h : val (us.take k) + pw k * q = 10 * val (zs.take k) + d) (hx : zs.getD k 0 = x) :
    val ((us.set k ((10 * x + q) % 4294967296)).take (k + 1)) + pw (k + 1) * ((10 * x + q) / 4294967296) = 10 * val (zs.take (k + 1)) + d := by
  rw [val_take_succ, val_take_set _ _ _ _ (Nat.le_refl _), getD_set _ _ _ hk, val_take_succ, hx]
  have h1 := pw_split k (10 * x + q)
  rw [Int.mul_add] at h1
  have h2 : pw k * (10 * x) = 10 * (pw k * x) := by ac_rfl
  rw [Int.mul_add]
  omega

set_option maxHeartbeats 1000000 in
theorem tenTimes_any (w : World) (B : Nat) (ao : Option Addr) (c : Nat) (zs : List Int) (hO : Ow w B (.slice ao zs.length c) zs) (hBs : B ≤ w.heap.size) (hn : zs.length ≤ 4000000) (d : Int) (hd0 : 0 ≤ d) (hd1 : d ≤ 9) :
    Calls Try.prog 87 #[.slice ao zs.length c, .int .u32 d] w fun e w' => ∃ ao' c' zs', e = .returned (.slice ao' zs'.length c') ∧ Ow w' B (.slice ao' zs'.length c') zs' ∧ val zs' = 10 * val zs + d ∧ zs'.length ≤ zs.length + 1 ∧ (zs'.length = zs.length ∨ 0 < val zs') ∧ Below B w w' := by
  obtain ⟨i0, hi, hz0, hz1, hz2⟩ := info_parts info_word
  have hdd := hidd hO.2
  go_enter Try.func87, Try.ntmps87
  go_wp2
  go_loopw [5, 13] (fun vc vi wr => ∃ (k : Nat) (q : Int) (us : List Int), k ≤ zs.length ∧ vi = .int .i64 k ∧ vc = .int .u64 q ∧ 0 ≤ q ∧ q ≤ 9 ∧ Ow wr B (.slice ao zs.length c) us ∧ us.length = zs.length ∧ us.drop k = zs.drop k ∧ val (us.take k) + pw k * q = 10 * val (zs.take k) + d ∧ Below B w wr) (fun _ vi _ => zs.length - (intOf vi).toNat)
  case atStart => exact ⟨0, d, zs, Nat.zero_le _, rfl, rfl, hd0, hd1, hO, rfl, rfl, by simp [val, pw_zero], Below.refl _ _⟩
  case round =>
    obtain ⟨k, q, us, hk, rfl, rfl, hq0, hq1, hU, hul, hdr, hv, hB⟩ := hrel
    have HUL := hidd hul
    have HDR := hidd hdr
    have HV := hidd hv
    clear hul hdr hv
    by_cases hkn : k < zs.length
    · obtain ⟨g, rfl⟩ : ∃ g, ao = some ⟨g, 0, none⟩ := by
        rcases hU.1.2 with ⟨h1, h2⟩ | ⟨g, cap', cur, h1, _⟩
        · have := HUL.out; omega
        · injection h1 with h2 h3 h4; exact ⟨g, h2⟩
      obtain ⟨hM, hg, _⟩ := hU.mine
      obtain ⟨x, hx⟩ : ∃ x, us.getD k 0 = x := ⟨_, rfl⟩
      have hcell := hM.cell hkn
      have hxd := hM.digs.getD k
      rw [hx] at hcell hxd
      have hfr := hM.frozen k
      have Hx := hidd hx
      clear hx
      go_wp2
      go_roundw
      case rel =>
        have e1 : zs.getD k 0 = x := by
          have := congrArg (fun l => l.getD 0 0) HDR.out
          simp only [getD_drop, Nat.add_zero] at this
          rw [← this]; exact Hx.out
        refine ⟨k + 1, (10 * x + q) / 4294967296, us.set k ((10 * x + q) % 4294967296), by omega, by go_num, by go_num, by omega, by omega, hU.set hkn (by omega) (by omega), by rw [List.length_set]; exact HUL.out, ?_, ten_step (by rw [HUL.out]; exact hkn) HV.out e1, hB.setCell hg _⟩
        rw [List.drop_set_of_lt (by omega), ← List.drop_drop, HDR.out, List.drop_drop]
      case measure => simp [intOf]; omega
    · have hkl : k = zs.length := by omega
      have HE : Hid (val us + pw zs.length * q = 10 * val zs + d) := by
        have h1 := HV.out
        rw [hkl, val_take_all us (by rw [HUL.out]; omega), List.take_length] at h1
        exact h1
      have HO := hU.1
      have hsz := hB.size
      have hBw : B ≤ wr.heap.size := by omega
      have hulb : us.length ≤ 4000000 := by have := HUL.out; omega
      clear hsz
      rcases (by omega : q = 0 ∨ 0 < q) with hq | hq
      · have HQ := hidd hq
        have hq2 : ¬ (0 < q) := by omega
        clear hq hkl
        go_wp2
        go_ret
        refine ⟨ao, c, us, by rw [HUL.out]; rfl, by rw [HUL.out]; exact hU, ?_, by rw [HUL.out]; omega, .inl HUL.out, hB⟩
        have h1 := HE.out
        rw [HQ.out, Int.mul_zero, Int.add_zero] at h1
        exact h1
      · have hqm : q % 4294967296 = q := by omega
        clear hkl
        go_wp2_with (first | (at_builtin; refine wpList_append_own _ rfl _ _ 22 rfl B 63 i0 (.int .u32 0) 1 4 Try.underlying22 hi hz0 hz1 hz2 rfl (by decide) _ _ _ rfl (World.ownsRow.alloc HO _) ⟨_, 0, none⟩ 1 1 [.int .u32 q] rfl rfl (one_at _ _ _) (by intro u hu; simp at hu; subst hu; rfl) (by unfold maxLen; omega) (by omega) (by simp; omega) ?_; intro v' w5 hown' hgrow _) | go_in)
        obtain ⟨hO2, hB2⟩ := hU.stepB hB hBw hq0 (by omega) hown' hgrow
        have HPOS : Hid (0 < val (us ++ [q])) := by
          have h1 := val_nonneg hU.2
          have h2 := Int.mul_pos (pw_pos us.length) hq
          show 0 < _
          rw [val_snoc]
          omega
        clear hown' hgrow hU hB HO
        obtain ⟨ao2, c2, rfl⟩ := hO2.shape
        go_wp2
        go_ret
        refine ⟨ao2, c2, us ++ [q], rfl, hO2, ?_, by rw [List.length_append, HUL.out]; simp, .inr HPOS.out, hB2⟩
        rw [val_snoc, HUL.out]
        exact HE.out

end Go.Proofs.Ytjpbmghdamcdcaa

namespace Go.Proofs.Ytjpbmghdamcdcaa
open Go Go.RowKit

theorem Ow.iterAt {w : World} {B : Nat} {v : Value} {zs : List Int} (h : Ow w B v zs) {k : Nat} (hk : k < B) (s : ByteArray) (p : Nat) : Ow (w.iterAt k s p) B v zs := by
  obtain ⟨⟨h1, h2⟩, h3⟩ := h
  refine ⟨⟨h1, ?_⟩, h3⟩
  rcases h2 with ⟨h4, h5⟩ | ⟨g, cap, cur, h4, h5, h6, h7⟩
  · exact .inl ⟨h4, h5⟩
  · exact .inr ⟨g, cap, cur, h4, h5, (Go.Lib.iterAt_other w k g s p (by omega)).trans h6, h7⟩

theorem Ow.nil (w : World) (B : Nat) : Ow w B (.slice none 0 0) [] := ⟨World.ownsRow_nil _ _ _ _, fun _ h => by simp at h⟩

/-- What 'read' returns. -/
def ReadGives (w : World) (t : List Int) (e : Ending) (w' : World) : Prop :=
  Below w.heap.size w w' ∧ ((¬ Dec t ∧ e = .returned (.tuple #[.slice none 0 0, .bool false])) ∨
    (Dec t ∧ ∃ ao c zs, e = .returned (.tuple #[.slice ao zs.length c, .bool true]) ∧ Sl w' ao zs.length c zs ∧ zs.length ≤ 1300 ∧ val zs = dval t ∧ (dval t = 0 → zs.length = 0)))

/-- The rune that a range over a string comes to. -/
theorem rune_at (s : ByteArray) {k : Nat} (h : k < s.size) (B : Nat) : ∃ (x : Int) (p : Nat), (∀ (W : World) (_ : W.heap[B]? = some (.stringIter s k)) (ty : TypeId), (Instr.next (.pointer (some ⟨B, 0, none⟩)) true ty).run Try.prog W = .ok (.tuple #[.bool true, .int .i64 k, .int .i32 x]) (W.iterAt B s p)) ∧
    ((48 ≤ x ∧ x ≤ 57 ∧ (bys s).getD k 0 = x ∧ p = k + 1) ∨ ((x < 48 ∨ (¬ x < 48 ∧ 57 < x)) ∧ ¬ (48 ≤ (bys s).getD k 0 ∧ (bys s).getD k 0 ≤ 57))) := by
  by_cases ha : (s[k]'h).toNat < 128
  · refine ⟨((s[k]'h).toNat : Nat), k + 1, fun W hk ty => Go.Lib.run_next_ascii_at W B s k ty hk h ha, ?_⟩
    rw [bys_at s h]
    omega
  · refine ⟨((Utf8.decode s k).1 : Nat), k + (Utf8.decode s k).2, fun W hk ty => Go.Lib.run_next_any_at W B s k ty hk h, .inr ?_⟩
    have h1 := (decode_high s k h (by omega)).1
    rw [bys_at s h]
    omega

theorem not_dec {s : ByteArray} {k : Nat} (h : k < s.size) (hn : ¬ (48 ≤ (bys s).getD k 0 ∧ (bys s).getD k 0 ≤ 57)) : ¬ Dec (bys s) := by
  intro hd
  have hl := bys_len s
  refine hn (hd.2.1 _ ?_)
  have : (bys s).getD k 0 = (bys s)[k]'(by omega) := by simp [List.getD, show k < (bys s).length by omega]
  rw [this]
  exact List.getElem_mem _

theorem dgs_step {l : List Int} {k : Nat} (h : Dgs (l.take k)) (hk : k < l.length) (h0 : 48 ≤ l.getD k 0) (h1 : l.getD k 0 ≤ 57) : Dgs (l.take (k + 1)) := by
  intro d hd
  rw [List.take_add_one, List.getElem?_eq_getElem hk] at hd
  rcases List.mem_append.1 hd with h2 | h2
  · exact h d h2
  · have e : l.getD k 0 = l[k] := by simp [List.getD, hk]
    have : d = l[k] := by simpa using h2
    omega

set_option maxHeartbeats 2000000 in
theorem read_any (w : World) (s : ByteArray) (hs : s.size ≤ 1300) : Calls Try.prog 76 #[.string s] w (ReadGives w (bys s)) := by
  by_cases h0 : s.size = 0
  · have he : s = { data := #[] } := by
      apply ByteArray.ext
      exact Array.eq_empty_of_size_eq_zero h0
    subst he
    go_enter Try.func76, Try.ntmps76
    go_wp2
    refine bodyPost_ret (v := .tuple #[.slice none 0 0, .bool false]) ?_ rfl ⟨Below.refl _ _, .inl ⟨fun h => h.1 rfl, rfl⟩⟩
    simp [results, Try.results76, go_sem]
  · have hsz : 0 < s.size := by omega
    have hat := bys_at s hsz
    have hll := bys_len s
    have hne0 : ¬ s.toList = [] := by
      rw [ByteArray.toList_eq]
      intro h
      have h2 : s.data.toList.length = 0 := by rw [h]; rfl
      rw [Array.length_toList] at h2
      exact h0 h2
    have hne : (s.toList = []) = False := eq_false hne0
    have hie : s.toList.isEmpty = false := List.isEmpty_eq_false_iff.2 hne0
    clear hne0
    obtain ⟨x0, hx0⟩ : ∃ x0 : Int, ((s[0]'hsz).toNat : Int) = x0 := ⟨_, rfl⟩
    rw [hx0] at hat
    have HAT := hidd hat
    have HLL := hidd hll
    clear hat hll
    have hcase : (x0 = 48 ∧ 1 < s.size) ∨ (x0 = 48 ∧ ¬ 1 < s.size) ∨ x0 ≠ 48 := by omega
    rcases hcase with ⟨h48, h1⟩ | hcase
    · subst h48
      have h1i : ((1 : Int) < (s.size : Int)) = True := by simp; omega
      go_enter Try.func76, Try.ntmps76
      go_wp2
      refine bodyPost_ret (v := .tuple #[.slice none 0 0, .bool false]) ?_ rfl ⟨Below.refl _ _, .inl ⟨fun h => ?_, rfl⟩⟩
      · simp [results, Try.results76, go_sem]
      · have := h.2.2 HAT.out
        rw [HLL.out] at this; omega
    · have HCASE : Hid ((bys s).getD 0 0 = 48 → (bys s).length = 1) := by
        intro h
        rw [HAT.out] at h
        rw [HLL.out]; omega
      obtain ⟨W0, hW0, hit, hb0, hB0⟩ : ∃ W0, W0 = w.iter s 0 ∧ W0.heap[w.heap.size]? = some (.stringIter s 0) ∧ Below w.heap.size w W0 ∧ w.heap.size + 1 ≤ W0.heap.size := ⟨_, rfl, World.iter_heap w s 0, alloc_below w _, by simp [World.iter]⟩
      rcases hcase with ⟨h48, h1⟩ | h48
      case' inl =>
        subst h48
        have h1i : ((1 : Int) < (s.size : Int)) = False := by simp; omega
      case' inr =>
        have h1i : (x0 = 48) = False := eq_false h48
      all_goals
        go_enter Try.func76, Try.ntmps76
        go_upto_region 5 with (fail)
        rw [← hW0]
        clear hW0 h1i hx0 hne hie
        go_loopw [4] (fun v wr => ∃ (k : Nat) (zs : List Int), k ≤ s.size ∧ Ow wr (w.heap.size + 1) v zs ∧ wr.heap[w.heap.size]? = some (.stringIter s k) ∧ zs.length ≤ k ∧ val zs = dval ((bys s).take k) ∧ Dgs ((bys s).take k) ∧ (val zs = 0 → zs.length = 0) ∧ Below w.heap.size w wr ∧ w.heap.size + 1 ≤ wr.heap.size) (fun _ wr => s.size - wr.iterPos w.heap.size)
        case atStart => exact ⟨0, [], by omega, Ow.nil _ _, hit, by simp, rfl, fun _ h => by simp at h, fun _ => rfl, hb0, hB0⟩
        case round =>
          obtain ⟨k, zs, hk, hO, hit, hzk, hv, hD, hZ, hB, hBs⟩ := hrel
          have HZ := hidd hZ
          have hvn := val_nonneg hO.2
          have HVN := hidd hvn
          clear hZ hvn
          have HV := hidd hv
          have HD := hidd hD
          have HIT := hidd hit
          clear hv hD
          obtain ⟨az, cz, rfl⟩ := hO.shape
          by_cases hkl : k < s.size
          · obtain ⟨x, p, hrun, hx⟩ := rune_at s hkl w.heap.size
            have hn := hrun wr hit
            clear hrun
            have hO1 := hO.iterAt (Nat.lt_succ_self _) s p
            have hB1 := Go.Lib.below_iterAt hB (Nat.le_refl _) s p
            have hS1 : w.heap.size + 1 ≤ (wr.iterAt w.heap.size s p).heap.size := by rw [Go.Lib.iterAt_size]; exact hBs
            have hI1 := Go.Lib.iterAt_heap wr w.heap.size s k p hit
            obtain ⟨W1, hW1⟩ : ∃ W1, W1 = wr.iterAt w.heap.size s p := ⟨_, rfl⟩
            rw [← hW1] at hn hO1 hB1 hS1 hI1
            clear hW1 hit hO hB hBs
            rcases hx with ⟨hx0, hx1, hxb, hp⟩ | ⟨hx, hnd⟩
            · have HXB := hidd hxb
              have HP := hidd hp
              have hxm : (x - 48) % 4294967296 = x - 48 := by omega
              have hzl : zs.length ≤ 4000000 := by omega
              clear hxb hp
              go_wp2_with fail
              refine (tenTimes_any _ (w.heap.size + 1) az cz zs hO1 hS1 hzl (x - 48) (by omega) (by omega)).mono ?_
              rintro e w2 ⟨a2, c2, zs2, rfl, hO2, hv2, hl2, hl3, hB2⟩
              have HL3 := hidd hl3
              clear hl3
              go_wp2
              go_roundw
              case rel =>
                have hI2 : w2.heap[w.heap.size]? = some (.stringIter s p) := by rw [hB2.block _ (Nat.lt_succ_self _)]; exact hI1
                rw [HP.out] at hI2
                refine ⟨k + 1, zs2, by omega, hO2, hI2, by omega, ?_, dgs_step HD.out (by rw [HLL.out]; exact hkl) (by rw [HXB.out]; exact hx0) (by rw [HXB.out]; exact hx1), ?_, ?_, ?_⟩
                · rw [hv2, HV.out, dval_take (by rw [HLL.out]; exact hkl), HXB.out]
                · intro h
                  have h1 := HVN.out
                  have h2 := HZ.out
                  have h3 := HL3.out
                  omega
                · exact hB1.trans (hB2.mono (Nat.le_succ _))
                · have := hB2.size; omega
              case measure =>
                have hI2 : w2.heap[w.heap.size]? = some (.stringIter s p) := by rw [hB2.block _ (Nat.lt_succ_self _)]; exact hI1
                simp only [World.iterPos, hI2, HIT.out]
                have := HP.out
                omega
            · have hN := not_dec hkl hnd
              clear hnd
              rcases hx with hx | ⟨hx, hx2⟩
              all_goals
                go_wp2
                refine bodyPost_ret (v := .tuple #[.slice none 0 0, .bool false]) ?_ rfl ⟨hB1, .inl ⟨hN, rfl⟩⟩
                simp [results, Try.results76, go_sem]
          · have hn := fun ty => Go.Lib.run_next_end_at (P := Try.prog) wr w.heap.size s k ty hit hkl
            obtain ⟨ao, c, he, hS⟩ := hO.sl
            cases he
            have HKL := hidd hkl
            have hkl2 : k = s.size := by omega
            have HK := hidd hkl2
            clear hkl2 hkl
            go_wp2
            refine bodyPost_ret (v := .tuple #[.slice az zs.length cz, .bool true]) ?_ rfl ⟨hB, .inr ⟨⟨?_, ?_, HCASE.out⟩, az, cz, zs, rfl, hS, by omega, ?_, ?_⟩⟩
            · simp [results, Try.results76, go_sem]
            · intro h
              have h2 := HLL.out
              rw [h] at h2; simp at h2; omega
            · have := HD.out
              rw [HK.out, ← HLL.out, List.take_length] at this
              exact this
            · rw [HV.out, HK.out, ← HLL.out, List.take_length]
            · intro h
              refine HZ.out ?_
              rw [HV.out, HK.out, ← HLL.out, List.take_length]
              exact h

end Go.Proofs.Ytjpbmghdamcdcaa

namespace Go.Proofs.Ytjpbmghdamcdcaa
open Go Go.RowKit

/-- What Parse returns. -/
def ParseGives (w : World) (t : List Int) (e : Ending) (w' : World) : Prop :=
  Below w.heap.size w w' ∧ ((1300 < t.length ∧ e = .returned (.tuple #[zeroV, .int .i64 2])) ∨ (t.length ≤ 1300 ∧ ¬ IsText t ∧ e = .returned (.tuple #[zeroV, .int .i64 3])) ∨
    (t.length ≤ 1300 ∧ IsText t ∧ ∃ v, e = .returned (.tuple #[v, .int .i64 0]) ∧ IsInt w' v (tval t)))

theorem not_text_nil : ¬ IsText [] := fun h => ((isText_plain (by simp)).1 h).1 rfl

set_option maxHeartbeats 2000000 in
theorem Parse_any (w : World) (s : ByteArray) : Calls Try.prog 48 #[.string s] w (ParseGives w (bys s)) := by
  have hll := bys_len s
  obtain ⟨w0, hw0, hC, hCb⟩ : ∃ w0, w0 = w.alloc (.cells #[.bool false, .slice none 0 0] 27) ∧ IntBox w0 w.heap.size (.bool false) (.slice none 0 0) ∧ Below w.heap.size w w0 := ⟨_, rfl, box1 _ _, alloc_below _ _⟩
  have HI := hidd hC
  by_cases hbig : 1300 < s.size
  · have hbi : ((1300 : Int) < (s.size : Int)) = True := by simp; omega
    have HBIG := hidd hbig
    clear hbig
    obtain ⟨c0, c1, c2, c3⟩ := hC
    go_enter Try.func48, Try.ntmps48
    go_upto_region 1 with (fail)
    rw [← hw0]
    clear hw0
    go_wp2
    refine bodyPost_ret (v := .tuple #[zeroV, .int .i64 2]) ?_ rfl ⟨(hCb.setCell (Nat.le_refl _) _).setCell (Nat.le_refl _) _, .inl ⟨by rw [hll]; exact HBIG.out, rfl⟩⟩
    simp [results, Try.results48, go_sem, c0, c1, zeroV]
  · have hbi : ((1300 : Int) < (s.size : Int)) = False := by simp; omega
    have HS := hidd (show s.size ≤ 1300 by omega)
    clear hbig
    by_cases h0 : s.size = 0
    · have he : s = { data := #[] } := by
        apply ByteArray.ext
        exact Array.eq_empty_of_size_eq_zero h0
      subst he
      obtain ⟨c0, c1, c2, c3⟩ := hC
      go_enter Try.func48, Try.ntmps48
      go_upto_region 1 with (fail)
      rw [← hw0]
      clear hw0
      go_wp2_with fail
      refine (read_any _ _ (by show (0 : Nat) ≤ 1300; omega)).mono ?_
      rintro e w1 ⟨hbr, ⟨hnd, rfl⟩ | ⟨hd, _⟩⟩
      · have hb1 := hCb.trans (hbr.mono hCb.size)
        have hC1 := HI.out.mono hbr HI.out.lt
        clear c0 c1 c2 c3
        obtain ⟨c0, c1, c2, c3⟩ := hC1
        go_wp2
        refine bodyPost_ret (v := .tuple #[zeroV, .int .i64 3]) ?_ rfl ⟨(hb1.setCell (Nat.le_refl _) _).setCell (Nat.le_refl _) _, .inr (.inl ⟨by rw [hll]; exact HS.out, not_text_nil, rfl⟩)⟩
        simp [results, Try.results48, go_sem, c0, c1, zeroV]

      · exact absurd rfl hd.1
    · have hsz : 0 < s.size := by omega
      have hszi : ((0 : Int) < (s.size : Int)) = True := by simp; omega
      have hat := bys_at s hsz
      obtain ⟨x0, hx0⟩ : ∃ x0 : Int, ((s[0]'hsz).toNat : Int) = x0 := ⟨_, rfl⟩
      rw [hx0] at hat
      have HAT := hidd hat
      clear hat
      by_cases h45 : x0 = 45
      · subst h45
        have HT := hidd (isText_minus HAT.out)
        have HV := hidd (tval_minus HAT.out)
        have htl := bys_tail s
        obtain ⟨t, ht⟩ : ∃ t, t = s.extract 1 s.size := ⟨_, rfl⟩
        rw [← ht] at htl
        have hts : t.size ≤ 1300 := by
          have h1 := bys_len t
          rw [htl, List.length_drop, hll] at h1
          have := HS.out
          omega
        rw [← htl] at HT HV
        obtain ⟨c0, c1, c2, c3⟩ := hC
        go_enter Try.func48, Try.ntmps48
        go_upto_region 1 with (fail)
        rw [← hw0]
        clear hw0
        go_upto_region 6 with (fail)
        rw [← ht]
        clear ht htl
        go_wp2_with fail
        refine (read_any _ _ hts).mono ?_
        rintro e w1 ⟨hbr, ⟨hnd, rfl⟩ | ⟨hd, ax, cx, zs, rfl, hsl, hzl, hzv, hz0⟩⟩
        all_goals
          have hb1 := hCb.trans (hbr.mono hCb.size)
          have hC1 := HI.out.mono hbr HI.out.lt
          clear c0 c1 c2 c3
          have HCX := hidd hC1
          obtain ⟨c0, c1, c2, c3⟩ := hC1
        · have HN := hidd hnd
          clear hnd
          go_wp2
          refine bodyPost_ret (v := .tuple #[zeroV, .int .i64 3]) ?_ rfl ⟨(hb1.setCell (Nat.le_refl _) _).setCell (Nat.le_refl _) _, .inr (.inl ⟨by rw [hll]; exact HS.out, fun h => HN.out (HT.out.1 h).1, rfl⟩)⟩
          simp [results, Try.results48, go_sem, c0, c1, zeroV]

        · have HD := hidd hd
          have HZV := hidd hzv
          have HZ0 := hidd hz0
          clear hd hzv hz0
          have hv0 := val_nonneg hsl.digs
          have HV0 := hidd hv0
          clear hv0
          by_cases hzz : zs.length = 0
          · have HN : Hid ((bys t).getD 0 0 = 48) := by
              show _ = _
              have h1 : val zs = 0 := by rw [List.eq_nil_of_length_eq_zero hzz]; rfl
              by_cases h2 : (bys t).getD 0 0 = 48
              · exact h2
              · have := dec_posv HD.out h2
                rw [← HZV.out, h1] at this; omega
            rw [hzz] at hsl ⊢
            go_wp2
            refine bodyPost_ret (v := .tuple #[zeroV, .int .i64 3]) ?_ rfl ⟨(hb1.setCell (Nat.le_refl _) _).setCell (Nat.le_refl _) _, .inr (.inl ⟨by rw [hll]; exact HS.out, fun h => (HT.out.1 h).2 HN.out, rfl⟩)⟩
            simp [results, Try.results48, go_sem, c0, c1, zeroV]

          · have hzb : ((zs.length : Int) == 0) = false := beq_eq_false_iff_ne.2 (by omega)
            have HN : Hid (¬ (bys t).getD 0 0 = 48) := by
              intro h2
              have h3 := HD.out.2.2 h2
              have h4 : bys t = [48] := by
                match hbt : bys t, h3 with
                | [d], _ => rw [hbt] at h2; simp at h2; rw [h2]
              have h5 : dval (bys t) = 0 := by rw [h4]; rfl
              exact hzz (HZ0.out h5)
            clear hzz
            go_wp2_with fail
            refine (signed_any _ true _ _ _ _ hsl (by omega)).mono ?_
            rintro e w3 ⟨v, rfl, ⟨ng, ao, nn, cc, rs, rfl, hrs, hrc, hrn, hrz⟩, hb3⟩
            have hbl3 := hb1.trans (hb3.mono hb1.size)
            have hC3 := HCX.out.mono hb3 HCX.out.lt
            have HC3 := hidd hC3
            have HRZ := hidd hrz
            clear hrz c0 c1 c2 c3
            obtain ⟨c0, c1, c2, c3⟩ := hC3
            go_wp2
            obtain ⟨v', hv', hi, hb⟩ := gives_store (z := sgn true (val zs)) HC3.out hrs hrc hrn HRZ.out hbl3 (Nat.le_refl _)
            cases hv'
            refine bodyPost_ret (v := .tuple #[.agg #[.bool ng, .slice ao nn cc], .int .i64 0]) ?_ rfl ⟨hb, .inr (.inr ⟨by rw [hll]; exact HS.out, HT.out.2 ⟨HD.out, HN.out⟩, _, rfl, by rw [HV.out, ← HZV.out]; exact hi⟩)⟩
            simp [results, Try.results48, go_sem, c0, c1]

      · have HT := hidd (isText_plain (s := bys s) (by rw [HAT.out]; exact h45))
        have HV := hidd (tval_plain (s := bys s) (by rw [HAT.out]; exact h45))
        have h45f : (x0 = 45) = False := eq_false h45
        have h45b : (x0 == 45) = false := beq_eq_false_iff_ne.2 h45
        clear h45
        obtain ⟨c0, c1, c2, c3⟩ := hC
        go_enter Try.func48, Try.ntmps48
        go_upto_region 1 with (fail)
        rw [← hw0]
        clear hw0
        go_wp2_with fail
        refine (read_any _ _ HS.out).mono ?_
        rintro e w1 ⟨hbr, ⟨hnd, rfl⟩ | ⟨hd, ax, cx, zs, rfl, hsl, hzl, hzv, hz0⟩⟩
        all_goals
          have hb1 := hCb.trans (hbr.mono hCb.size)
          have hC1 := HI.out.mono hbr HI.out.lt
          clear c0 c1 c2 c3
          have HCX := hidd hC1
          obtain ⟨c0, c1, c2, c3⟩ := hC1
        · have HN := hidd hnd
          clear hnd
          go_wp2
          refine bodyPost_ret (v := .tuple #[zeroV, .int .i64 3]) ?_ rfl ⟨(hb1.setCell (Nat.le_refl _) _).setCell (Nat.le_refl _) _, .inr (.inl ⟨by rw [hll]; exact HS.out, fun h => HN.out (HT.out.1 h), rfl⟩)⟩
          simp [results, Try.results48, go_sem, c0, c1, zeroV]

        · have HD := hidd hd
          have HZV := hidd hzv
          clear hd hzv hz0
          go_wp2_with fail
          refine (signed_any _ false _ _ _ _ hsl (by omega)).mono ?_
          rintro e w3 ⟨v, rfl, ⟨ng, ao, nn, cc, rs, rfl, hrs, hrc, hrn, hrz⟩, hb3⟩
          have hbl3 := hb1.trans (hb3.mono hb1.size)
          have hC3 := HCX.out.mono hb3 HCX.out.lt
          have HC3 := hidd hC3
          have HRZ := hidd hrz
          clear hrz c0 c1 c2 c3
          obtain ⟨c0, c1, c2, c3⟩ := hC3
          go_wp2
          obtain ⟨v', hv', hi, hb⟩ := gives_store (z := sgn false (val zs)) HC3.out hrs hrc hrn HRZ.out hbl3 (Nat.le_refl _)
          cases hv'
          refine bodyPost_ret (v := .tuple #[.agg #[.bool ng, .slice ao nn cc], .int .i64 0]) ?_ rfl ⟨hb, .inr (.inr ⟨by rw [hll]; exact HS.out, HT.out.2 HD.out, _, rfl, by rw [HV.out, ← HZV.out]; exact hi⟩)⟩
          simp [results, Try.results48, go_sem, c0, c1]

end Go.Proofs.Ytjpbmghdamcdcaa
