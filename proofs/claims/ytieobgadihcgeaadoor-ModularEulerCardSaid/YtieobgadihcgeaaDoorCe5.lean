/- Mw, Mx, Na, Nb, Nc, Nd, Pk, Ng, Nf, Ni, Nj. -/
import Derived.Test.YtieobgadihcgeaaDoorCe4
import Derived.Laws.OwnMore
import Derived.Deep.AppendLies
/- The values of the law's examples. -/
namespace Go.Proofs.YtieobgadihcgeaaDoor
open Go Go.RowKit

theorem kron_2_7 : kron 2 7 = 1 := by
  unfold kron
  rw [if_neg (by decide), if_neg (by decide)]
  show 1 * kro 2 7 = 1
  rw [kro_odd (by decide), J_two (by decide)]
  decide
theorem kron_2_3 : kron 2 3 = -1 := by
  unfold kron
  rw [if_neg (by decide), if_neg (by decide)]
  show 1 * kro 2 3 = -1
  rw [kro_odd (by decide), J_two (by decide)]
  decide
theorem kron_m1_m1 : kron (-1) (-1) = -1 := by
  unfold kron
  rw [if_neg (by decide), if_pos (by decide)]
  show -1 * kro (-1) 1 = -1
  rw [kro_odd (by decide)]
  decide
theorem kron_5_0 : kron 5 0 = 0 := by
  unfold kron
  rw [if_pos rfl, if_neg (by decide)]
theorem nbits_2 : nbits (2 % 7) = 2 := by
  show nbits 2 = 2
  unfold nbits
  rw [if_neg (by decide)]
  decide
theorem powM_ex : powM (2 % 7) ((7 / (4)) + (1)) 7 = 4 := by
  unfold powM
  rw [if_pos (by decide)]
  decide
theorem bezU_3_7 : bezU 3 7 = 5 := (inv_uniq (a := 3) (m := 7) (x := 5) (by decide) (by decide) (by decide) (by decide)).2.symm
theorem bezU_2_9 : bezU (2 % 9) 9 = 5 := (inv_uniq (a := 2 % 9) (m := 9) (x := 5) (by decide) (by decide) (by decide) (by decide)).2.symm
theorem bezU_3_4 : bezU 3 4 = 3 := (inv_uniq (a := 3) (m := 4) (x := 3) (by decide) (by decide) (by decide) (by decide)).2.symm
theorem powM_2_m1_9 : powM 2 (-1) 9 = 5 := by
  unfold powM
  rw [if_neg (by decide), bezU_2_9]
  decide
theorem crtR_ex : crtR 2 3 3 4 = 11 := by
  unfold crtR
  rw [bezU_3_4]
  decide
theorem lit90 {z : Int} (h : ab z < pw 3) : ab z < pw 90 := Int.lt_of_lt_of_le h (pw_le (by omega))
theorem lit100 {z : Int} (h : ab z < pw 3) : ab z < pw 100 := Int.lt_of_lt_of_le h (pw_le (by omega))
theorem exRoot27 {w : World} {v v' : Value} (h : Num w v 2) (h' : Num w v' 7) (hT : Tabs w) :
    Calls Tryd.prog 26 #[v, v'] w fun e w' => ∃ v', e = .returned v' ∧ Below w.heap.size w w' ∧ Got w' v' 3 0 :=
  exVRoot h h' fun x x' w1 hb hx hx' => by
    have := exMSqrtXL (x := 4) hx hx' (lit90 (ab_lit (by decide))) (lit90 (ab_lit (by decide))) (hT.mono hb) (by decide) (by rw [nbits_2]; decide) (by show kron 2 7 = 1; exact kron_2_7) (lit90 (ab_lit (by decide)))
      (fun y y' w2 hb2 hy hy' => by
        have h2 := exSomeRoot3 hy hy' (lit90 (ab_lit (by decide))) (lit90 (ab_lit (by decide))) (by decide) (by decide)
        rw [powM_ex] at h2
        exact h2) (by decide) (by decide)
    exact this
theorem exInv37 {w : World} {v v' : Value} (h : Num w v 3) (h' : Num w v' 7) :
    Calls Tryd.prog 14 #[v, v'] w fun e w' => ∃ v', e = .returned v' ∧ Below w.heap.size w w' ∧ Got w' v' 5 0 :=
  exVInv h h' fun x x' w1 hb hx hx' => by
    have := exInvP hx hx' (Int.lt_of_lt_of_le (ab_lit (by decide)) (pw_le (by omega))) (Int.lt_of_lt_of_le (ab_lit (by decide)) (pw_le (by omega))) (by decide) (by decide)
    rw [bezU_3_7] at this
    exact this
theorem exInv24 {w : World} {v v' : Value} (h : Num w v 2) (h' : Num w v' 4) :
    Calls Tryd.prog 14 #[v, v'] w fun e w' => ∃ v', e = .returned v' ∧ Below w.heap.size w w' ∧ Got w' v' 0 4 :=
  exVInv h h' fun x x' w1 hb hx hx' => exInvN hx hx' (Int.lt_of_lt_of_le (ab_lit (by decide)) (pw_le (by omega))) (Int.lt_of_lt_of_le (ab_lit (by decide)) (pw_le (by omega))) (by decide) (by decide)
theorem exPow219 {w : World} {v v' u : Value} (h : Num w v 2) (h' : Num w v' (-1)) (g : Num w u 9) :
    Calls Tryd.prog 17 #[v, v', u] w fun e w' => ∃ v', e = .returned v' ∧ Below w.heap.size w w' ∧ Got w' v' 5 0 :=
  exVPow h h' g fun x x' y w1 hx hx' hy => by
    have := exPowN hx hx' hy (lit100 (ab_lit (by decide))) (lit100 (ab_lit (by decide))) (lit100 (ab_lit (by decide))) (by decide) (by decide) (by decide)
    rw [powM_2_m1_9] at this
    exact this
end Go.Proofs.YtieobgadihcgeaaDoor

/- A small number whose words lie in a block of its own. -/
namespace Go.Proofs.YtieobgadihcgeaaDoor
open Go Go.RowKit

theorem lifts_ex : lifts 1 2 3 = [1, 3, 5, 7] := by decide
set_option maxHeartbeats 400000 in
theorem fromWord_new (w : World) (q : Int) (hq0 : 0 ≤ q) (hq1 : q < 18446744073709551616) :
    Calls Tryd.prog 45 #[.int .u64 q] w fun e w' => ∃ b m c zs, w.heap.size ≤ b ∧ e = .returned (.slice (some ⟨b, 0, none⟩) m c) ∧ m ≤ 2 ∧ Sl w' (some ⟨b, 0, none⟩) m c zs ∧ Canon zs ∧ val zs = q ∧ Below w.heap.size w w' := by
  have hr : Row (w.alloc (.cells #[.int .u32 (q % 4294967296), .int .u32 (q / 4294967296)] 77)) 77 w.heap.size [q % 4294967296, q / 4294967296] := by
    refine ⟨fun x hx => ?_, ?_⟩
    · simp at hx
      unfold Dig
      rcases hx with rfl | rfl <;> omega
    · rw [heap_alloc_new]; rfl
  have hs := hr.sl (n := 2) rfl
  have hbl : Below w.heap.size w (w.alloc (.cells #[.int .u32 (q % 4294967296), .int .u32 (q / 4294967296)] 77)) := (Below.refl _ _).alloc (Nat.le_refl _) _
  have hv : val [q % 4294967296, q / 4294967296] = q := by simp only [val]; omega
  have HV := hidd hv
  clear hv hr
  go_enter Tryd.func45, Tryd.ntmps45
  go_wp2_with (go_at_call 34; refine (trim_any _ _ _ _ _ hs (by omega)).mono ?_; rintro e w' ⟨m, rfl, hm, hsm, hvm, hcm, rfl⟩)
  go_ret
  exact ⟨_, m, 2, _, Nat.le_refl _, rfl, hm, hsm, hcm, hvm.trans HV.out, hbl⟩

/-- A number whose words, if it has any, lie where ax says. -/
def GivesAt (w : World) (ax : Option Addr) (z : Int) (e : Ending) (w' : World) : Prop :=
  ∃ (neg : Bool) (ao : Option Addr) (n c : Nat) (xs : List Int), e = .returned (.agg #[.bool neg, .slice ao n c]) ∧ (ao = none ∨ ao = ax) ∧ Sl w' ao n c xs ∧ Canon xs ∧ (neg = true → n ≠ 0) ∧ z = sgn neg (val xs) ∧ Below w.heap.size w w'

set_option maxRecDepth 100000 in
set_option maxHeartbeats 1000000 in
theorem signed_new (w : World) (neg : Bool) (ax : Option Addr) (n c : Nat) (xs : List Int) (hX : Sl w ax n c xs) (hb : n ≤ 4000000) :
    Calls Tryd.prog 35 #[.bool neg, .slice ax n c] w (GivesAt w ax (sgn neg (val xs))) := by
  have hbl : ∀ o, Below w.heap.size w (w.alloc o) := fun o => (Below.refl _ _).alloc (Nat.le_refl _) o
  go_enter Tryd.func35, Tryd.ntmps35
  go_wp2_with (go_at_call 34; refine (trim_any _ _ _ _ _ (hX.mono (hbl _)) (by omega)).mono ?_; rintro e w' ⟨m, rfl, hm, hsm, hvm, hcm, rfl⟩)
  · rename_i h0
    refine bodyPost_ret (v := .agg #[.bool false, .slice none 0 0]) (by simp [results, Tryd.results35, go_sem]) rfl ⟨false, none, 0, 0, [], rfl, .inl rfl, Sl.nil _, ⟨fun _ hx => by simp at hx, .inl rfl⟩, by simp, ?_, hbl _⟩
    have h1 : m = 0 := by simpa using h0
    subst h1
    simp only [List.take_zero, val] at hvm
    cases neg <;> simp [sgn, val, ← hvm]
  · rename_i h0
    have h1 : m ≠ 0 := by simpa using h0
    have hs2 : Sl (w.alloc (.cells #[.bool neg, .slice ax m c] 29)) ax m c (xs.take m) := (hX.take hm).mono (hbl _)
    exact bodyPost_ret (v := .agg #[.bool neg, .slice ax m c]) (by simp [results, Tryd.results35, go_sem]) rfl ⟨neg, ax, m, c, _, rfl, .inr rfl, hs2, hcm, fun _ => h1, by rw [hvm], hbl _⟩

set_option maxRecDepth 100000 in
set_option maxHeartbeats 1000000 in
theorem OfNew (w : World) (z : Int) (h0 : 0 ≤ z) (h1 : z ≤ 9223372036854775807) :
    Calls Tryd.prog 57 #[.int .i64 z] w fun e w' => ∃ ng ao n c, e = .returned (.agg #[.bool ng, .slice ao n c]) ∧ (∀ a, ao = some a → w.heap.size ≤ a.block) ∧ Num w' (.agg #[.bool ng, .slice ao n c]) z ∧ Below w.heap.size w w' := by
  have hC := box1 w 29
  have hCb := alloc_below w (.cells #[.bool false, .slice none 0 0] 29)
  have hz : ¬ z < 0 := by omega
  have hq : IntKind.u64.wrap z = z := by rw [u64_wrap]; omega
  go_enter Tryd.func57, Tryd.ntmps57
  go_wp2_with fail
  refine (fromWord_new _ z (by omega) (by omega)).mono ?_
  rintro e w2 ⟨b2, n2, c2, zs2, hbb, rfl, hn2, hs2, hc2, hv2, hB2⟩
  go_wp2_with fail
  refine (signed_new _ _ _ _ _ _ hs2 (by omega)).mono ?_
  rintro e w3 ⟨ng, ao, nn, cc, rs, rfl, hao, hrs, hrc, hrn, hrz, hb3⟩
  obtain ⟨e0, e1, e2, e3⟩ := (hC.mono hB2 hC.lt).mono hb3 (Nat.lt_of_lt_of_le hC.lt hB2.size)
  have HZ : Hid (z = sgn ng (val rs)) := by
    show _ = _
    rw [← hrz, hv2]; simp [sgn]
  have hb4 : Below w.heap.size w w3 := (hCb.trans (hB2.mono hCb.size)).trans (hb3.mono (Nat.le_trans hCb.size hB2.size))
  have HA : Hid (∀ a, ao = some a → w.heap.size ≤ a.block) := by
    show ∀ a, _
    rintro a rfl
    rcases hao with h | h
    · cases h
    · injection h with h
      rw [h]
      exact Nat.le_trans hCb.size hbb
  clear hrz hv2 hC hq hao
  go_wp2
  refine bodyPost_ret (v := .agg #[.bool ng, .slice ao nn cc]) ?_ rfl ?_
  · simp [results, Tryd.results57, go_sem, e0, e1]
  · obtain ⟨v, he, hI, hB⟩ := gives_store ⟨e0, e1, e2, e3⟩ hrs hrc hrn HZ.out hb4 (Nat.le_refl _)
    injection he with he
    subst he
    exact ⟨ng, ao, nn, cc, rfl, HA.out, num_of hI (k := 2) (by have e : pw 2 = 18446744073709551616 := rfl; rw [e]; unfold ab; omega) (by omega), hB⟩
end Go.Proofs.YtieobgadihcgeaaDoor

/- Lists of numbers in a row of the call's own; lists of numbers that are read. -/
namespace Go.Proofs.YtieobgadihcgeaaDoor
open Go Go.RowKit

theorem info_int : (Tryd.prog.info? 29).map (fun i => (i.zero, i.size, i.bytes)) = some (some (.agg #[.bool false, .slice none 0 0]), 2, 32) := by kernel_rfl
/-- A number lies in block g as its i-th element. -/
def NumAt (w : World) (g i : Nat) (z : Int) : Prop := ∃ n ao k c, w.cell? ⟨g, i * 2, none⟩ = some (.bool n) ∧ w.cell? ⟨g, i * 2 + 1, none⟩ = some (.slice ao k c) ∧ Num w (.agg #[.bool n, .slice ao k c]) z
/-- A slice of numbers. -/
def Nums (w : World) (v : Value) (zs : List Int) : Prop := ∃ ao cap, v = .slice ao zs.length cap ∧ (zs = [] ∨ ∃ g, ao = some ⟨g, 0, none⟩ ∧ g < w.heap.size ∧ ∀ i z, zs[i]? = some z → NumAt w g i z)
theorem NumAt.mono {w w' : World} {g i : Nat} {z : Int} (h : NumAt w g i z) (hb : Below w.heap.size w w') : NumAt w' g i z := by
  obtain ⟨n, ao, k, c, h1, h2, h3⟩ := h
  have hl := World.block_lt_of_cell? w _ h1
  exact ⟨n, ao, k, c, (hb.cell (p := ⟨g, i * 2, none⟩) hl).trans h1, (hb.cell (p := ⟨g, i * 2 + 1, none⟩) hl).trans h2, h3.mono hb⟩
theorem Nums.mono {w w' : World} {v : Value} {zs : List Int} (h : Nums w v zs) (hb : Below w.heap.size w w') : Nums w' v zs := by
  obtain ⟨ao, cap, e, h⟩ := h
  refine ⟨ao, cap, e, ?_⟩
  rcases h with h | ⟨g, h1, h2, h3⟩
  · exact .inl h
  · exact .inr ⟨g, h1, Nat.lt_of_lt_of_le h2 hb.size, fun i z hi => (h3 i z hi).mono hb⟩
theorem Nums.at {w : World} {ao : Option Addr} {n c : Nat} {zs : List Int} (h : Nums w (.slice ao n c) zs) {i : Nat} (hi : i < zs.length) :
    ∃ g p r k d, ao = some ⟨g, 0, none⟩ ∧ w.cell? ⟨g, i * 2, none⟩ = some (.bool p) ∧ w.cell? ⟨g, i * 2 + 1, none⟩ = some (.slice r k d) ∧ Num w (.agg #[.bool p, .slice r k d]) (zs.getD i 0) := by
  obtain ⟨ao', cap, e, h⟩ := h
  injection e with e1 e2 e3
  subst e1
  rcases h with h | ⟨g, h1, h2, h3⟩
  · subst h; simp at hi
  · obtain ⟨p, r, k, d, g1, g2, g3⟩ := h3 i (zs.getD i 0) (by simp [hi])
    exact ⟨g, p, r, k, d, h1, g1, g2, g3⟩

/-- One element of a row of numbers: its words lie in another block than the row. -/
def NumCell (us : List Value) (w : World) (own : Option Nat) (i : Nat) (z : Int) : Prop :=
  ∃ n ao k c, us[i * 2]? = some (.bool n) ∧ us[i * 2 + 1]? = some (.slice ao k c) ∧ (∀ a, ao = some a → k ≠ 0 → some a.block ≠ own) ∧ Num w (.agg #[.bool n, .slice ao k c]) z
/-- Numbers that a call has gathered in a row of its own. -/
def Ln (W : World) (B : Nat) (v : Value) (zs : List Int) : Prop := ∃ us, W.ownsRow B 29 2 v zs.length us ∧ ∀ i z, zs[i]? = some z → NumCell us W v.ownBlock i z
theorem Ln.shape {W : World} {B : Nat} {v : Value} {zs : List Int} (h : Ln W B v zs) : ∃ ao cap, v = .slice ao zs.length cap := by
  obtain ⟨us, h, _⟩ := h
  rcases h.2 with ⟨rfl, h0⟩ | ⟨g, cap, cur, rfl, _⟩
  · exact ⟨none, 0, by rw [h0]⟩
  · exact ⟨_, _, rfl⟩
theorem Ln.nil (w : World) (B : Nat) : Ln w B (.slice none 0 0) [] := ⟨[], World.ownsRow_nil w B _ _, fun i z h => by simp at h⟩
theorem Ln.made (w : World) {B cap : Nat} (cur : Array Value) (hb : B ≤ w.heap.size) (hm : cap ≤ maxLen) (hs : cur.size = cap * 2) : Ln (w.alloc (.cells cur 29)) B (.slice (some ⟨w.heap.size, 0, none⟩) 0 cap) [] :=
  ⟨[], World.ownsRow_made w cur cap hb hm hs, fun i z h => by simp at h⟩
theorem Ln.mono {w w' : World} {B : Nat} {v : Value} {zs : List Int} (h : Ln w B v zs) (hb : Below w.heap.size w w') : Ln w' B v zs := by
  obtain ⟨us, h, hE⟩ := h
  refine ⟨us, ⟨h.1, ?_⟩, fun i z hi => ?_⟩
  · rcases h.2 with h2 | ⟨g, cap, cur, h1, h2, h3, h4⟩
    · exact .inl h2
    · exact .inr ⟨g, cap, cur, h1, h2, by rw [hb.block g (Array.getElem?_eq_some_iff.1 h3).1]; exact h3, h4⟩
  · obtain ⟨n, ao, k, c, g1, g2, g3, g4⟩ := hE i z hi
    exact ⟨n, ao, k, c, g1, g2, g3, g4.mono hb⟩
theorem Ln.low {W : World} {B B' : Nat} {v : Value} {zs : List Int} (h : Ln W B v zs) (hb : B' ≤ B) : Ln W B' v zs := by
  obtain ⟨us, h, hE⟩ := h
  refine ⟨us, ⟨h.1, ?_⟩, hE⟩
  rcases h.2 with h2 | ⟨g, cap, cur, h1, h2, h3⟩
  · exact .inl h2
  · exact .inr ⟨g, cap, cur, h1, by omega, h3⟩
theorem Ln.nums {w : World} {B : Nat} {v : Value} {zs : List Int} (h : Ln w B v zs) : Nums w v zs := by
  obtain ⟨us, h, hE⟩ := h
  have h0 := h
  rcases h.2 with ⟨rfl, h1⟩ | ⟨g, cap, cur, rfl, h1, h2, h3⟩
  · refine ⟨none, 0, by rw [h1], .inl ?_⟩
    exact List.eq_nil_of_length_eq_zero h1
  · refine ⟨_, cap, rfl, .inr ⟨g, rfl, (Array.getElem?_eq_some_iff.1 h2).1, fun i z hi => ?_⟩⟩
    obtain ⟨n, ao, k, c, g1, g2, g3, g4⟩ := hE i z hi
    have hl : i < zs.length := by
      rcases Nat.lt_or_ge i zs.length with h | h
      · exact h
      · rw [List.getElem?_eq_none h] at hi; cases hi
    refine ⟨n, ao, k, c, ?_, ?_, g4⟩
    · rw [World.ownsRow.cellAt h0 (i * 2) (by omega)]; exact g1
    · rw [World.ownsRow.cellAt h0 (i * 2 + 1) (by omega)]; exact g2
/-- A number whose words lie in another block than the row that has grown. -/
theorem Num.grown {w w' : World} {n : Bool} {ao : Option Addr} {k c : Nat} {z : Int} {row : Option Nat} (h : Num w (.agg #[.bool n, .slice ao k c]) z) (hg : w.grownBy w' row) (hne : ∀ a, ao = some a → k ≠ 0 → some a.block ≠ row) : Num w' (.agg #[.bool n, .slice ao k c]) z := by
  obtain ⟨neg, ao', k', c', xs, hv, hs, hn, hz⟩ := h
  injection hv with hv
  have hv2 := congrArg Array.toList hv
  simp at hv2
  obtain ⟨rfl, rfl, rfl, rfl⟩ := hv2
  refine ⟨n, ao, k, c, xs, rfl, ⟨hs.len, hs.cap, hs.cells.1, ?_⟩, hn, hz⟩
  rcases hs.cells.2 with h0 | ⟨b, off, rfl, hlt, hc⟩
  · exact .inl h0
  · rcases Nat.eq_zero_or_pos k with h0 | h0
    · exact .inl (List.eq_nil_of_length_eq_zero (hs.len.trans h0))
    · refine .inr ⟨b, off, rfl, Nat.lt_of_lt_of_le hlt hg.size, fun j hj => hg.cell (hc j hj) (show some b ≠ row from hne ⟨b, off, none⟩ rfl (by omega))⟩
theorem Num.blk {w : World} {n : Bool} {a : Addr} {k c : Nat} {z : Int} (h : Num w (.agg #[.bool n, .slice (some a) k c]) z) (hk : k ≠ 0) : a.block < w.heap.size := by
  obtain ⟨neg, ao', k', c', xs, hv, hs, hn, hz⟩ := h
  injection hv with hv
  have hv2 := congrArg Array.toList hv
  simp at hv2
  obtain ⟨rfl, rfl, rfl, rfl⟩ := hv2
  rcases hs.cells.2 with h0 | ⟨b, off, e, hlt, hc⟩
  · have := hs.len; rw [h0] at this; simp at this; omega
  · injection e with e; rw [e]; exact hlt
theorem Ln.step {B : Nat} {w wr w1 w2 : World} {v : Value} {zs : List Int} {us : List Value} {z : Int} {o : Obj} {g cap H : Nat} {ng : Bool} {ao : Option Addr} {n c : Nat}
    (hO : wr.ownsRow B 29 2 v zs.length us) (hE : ∀ i z, zs[i]? = some z → NumCell us wr v.ownBlock i z) (hB : B ≤ wr.heap.size) (hnx : Below B w wr) (hb : Below wr.heap.size wr w1)
    (hnew : ∀ a, ao = some a → wr.heap.size ≤ a.block) (hN : Num w1 (.agg #[.bool ng, .slice ao n c]) z)
    (hown' : w2.ownsRow B 29 2 (.slice (some ⟨g, 0, none⟩) (zs.length + 1) cap) (zs.length + 1) (us ++ [.bool ng, .slice ao n c])) (hgrow : (w1.alloc o).grownBy w2 v.ownBlock) (hat : v.ownBlock = some g ∨ g = H) (hH : (w1.alloc o).heap.size = H) :
    Ln w2 B (.slice (some ⟨g, 0, none⟩) (zs.length + 1) cap) (zs ++ [z]) ∧ Below B w w2 := by
  have hsz := hb.size
  have hH2 : w1.heap.size + 1 = H := by rw [← hH]; simp
  have hlt := hO.lt
  have hul := hO.1
  refine ⟨⟨us ++ [.bool ng, .slice ao n c], by simpa using hown', fun i y hi => ?_⟩, ?_⟩
  · have hne : ∀ {a : Addr} {k : Nat} {m : Bool} {d : Nat} {x : Int}, Num w1 (.agg #[.bool m, .slice (some a) k d]) x → k ≠ 0 → some a.block ≠ v.ownBlock → a.block ≠ g := by
      intro a k m d x hx hk hr e
      have h1 := hx.blk hk
      rcases hat with h | h
      · rw [h, e] at hr; exact hr rfl
      · omega
    by_cases hil : i < zs.length
    · rw [List.getElem?_append_left hil] at hi
      obtain ⟨p, r, k, d, g1, g2, g3, g4⟩ := hE i y hi
      refine ⟨p, r, k, d, ?_, ?_, fun a ha hk => ?_, ?_⟩
      · rw [List.getElem?_append_left (by omega)]; exact g1
      · rw [List.getElem?_append_left (by omega)]; exact g2
      · subst ha
        intro e
        exact hne (g4.mono hb) hk (g3 _ rfl hk) (by simpa [Value.ownBlock] using e)
      · exact ((g4.mono hb).mono (alloc_below w1 o)).grown hgrow g3
    · have hi2 : i = zs.length := by
        rcases Nat.lt_or_ge i (zs ++ [z]).length with h | h
        · simp at h; omega
        · rw [List.getElem?_eq_none h] at hi; cases hi
      subst hi2
      rw [List.getElem?_append_right (Nat.le_refl _), Nat.sub_self] at hi
      simp only [List.getElem?_cons_zero, Option.some.injEq] at hi
      subst hi
      have hfar : ∀ a, ao = some a → some a.block ≠ v.ownBlock := fun a ha e => by
        have h1 := hnew a ha
        have h2 := (hlt a.block e.symm).2
        omega
      refine ⟨ng, ao, n, c, ?_, ?_, fun a ha hk => ?_, ?_⟩
      · rw [List.getElem?_append_right (by omega), show zs.length * 2 - us.length = 0 by omega]; rfl
      · rw [List.getElem?_append_right (by omega), show zs.length * 2 + 1 - us.length = 1 by omega]; rfl
      · subst ha
        intro e
        exact hne hN hk (hfar _ rfl) (by simpa [Value.ownBlock] using e)
      · exact (hN.mono (alloc_below w1 o)).grown hgrow fun a ha _ => hfar a ha
  · exact ((hnx.trans (hb.mono hB)).alloc (by omega) o).grown hgrow (by simp; omega) (fun j hj => (hO.lt j hj).1)
end Go.Proofs.YtieobgadihcgeaaDoor

/- Walks: lists of numbers are compared; all roots modulo a power. -/
namespace Go.Proofs.YtieobgadihcgeaaDoor
open Go Go.RowKit

theorem exSmallPower {w : World} {p k : Int} {t : Bool} (hp : 2 ≤ p ∧ p < 9223372036854775808) (hk : 1 ≤ k ∧ k < 9223372036854775808) (ht : decide (p ^ k.toNat ≤ 1048576) = t) :
    Calls Tryd.prog 59 #[.int .i64 p, .int .i64 k] w fun e w' => ∃ v', e = .returned v' ∧ Below w.heap.size w w' ∧ v' = .bool t :=
  (smallPower_any w hp.1 hp.2 hk.1 hk.2).mono fun e w' ⟨h1, h2⟩ => ⟨_, h1, by rw [h2]; exact Below.refl _ _, by rw [ht]⟩
section
variable {os : List Oper} {Q : Exit → Act → World → Prop} {a : Act} {p : Pq} {B B0 : Nat} {w0 : World}
variable {i s : Nat} {d : Option Tmp} {ty : TypeId} {ps : String} {af : Array Edge} {gd : Option (Nat × Bool)}
theorem q_indexN {b l c k : Nat} {x y : Operand} (hp : p.Ok B B0) (hF : p.Free i) (hg : GdQ os a p B B0 w0 af gd) (hx : SrcQ os a p B B0 w0 af x fun v _ => v = .slice (some ⟨b, 0, none⟩) l c) (hy : SrcQ os a p B B0 w0 af y fun v _ => v = .int .i64 k) (hk : k < l)
    (hC : ∀ w, (p.c i).P (.pointer (some ⟨b, k * 2, none⟩)) w) :
    StepQ os Q a p B B0 w0 i { dst := d, op := .indexAddr 52 x y, type := ty, pos := ps, after := af, guard := gd } :=
  q_two hp hF hg hx hy fun ρ w _ h h' => ⟨_, by
    have h0 : (k : Int) < (l : Int) := by omega
    have h1 : (0 : Int) ≤ (k : Int) := by omega
    simp [execOp, go_sem, h, h', h0, h1], hC w⟩
theorem q_loadNumAt {b i0 : Nat} {z : Int} {x : Operand} (hp : p.Ok B B0) (hF : p.Free i) (hg : GdQ os a p B B0 w0 af gd) (hN : NumAt w0 b i0 z) (hB : B = w0.heap.size)
    (hx : SrcQ os a p B B0 w0 af x fun u _ => u = .pointer (some ⟨b, i0 * 2, none⟩)) (hC : ∀ v w, Num w v z → (p.c i).P v w) :
    StepQ os Q a p B B0 w0 i { dst := d, op := .load 29 x, type := ty, pos := ps, after := af, guard := gd } := by
  subst hB
  refine stq_val hp hF hg fun L vs w hG hL hc hd => ?_
  obtain ⟨n, ao, k, c, c0, c1, hz⟩ := hN.mono hG.below
  have e := hx L vs w hG hd
  refine ⟨_, ?_, hC _ _ hz⟩
  generalize (lay os.toArray L vs os.toArray.size a).eval = ρ at e
  simp [execOp, go_sem, e, c0, c1]
end
theorem owns_below {w w' : World} {base : Nat} {e : TypeId} {size : Nat} {v : Value} {n : Nat} {xs : List Value} (h : w.ownsRow base e size v n xs) (hb : Below w.heap.size w w') : w'.ownsRow base e size v n xs := by
  refine ⟨h.1, ?_⟩
  rcases h.2 with h2 | ⟨g, cap, cur, h1, h2, h3, h4⟩
  · exact .inl h2
  · exact .inr ⟨g, cap, cur, h1, h2, by rw [hb.block g (Array.getElem?_eq_some_iff.1 h3).1]; exact h3, h4⟩
theorem list_eq_of {xs ys : List Int} (hl : xs.length = ys.length) (h : ∀ i, i < xs.length → xs.getD i 0 = ys.getD i 0) : xs = ys := by
  refine List.ext_getElem hl fun i h1 h2 => ?_
  have := h i h1
  simpa [h1, h2] using this

set_option maxRecDepth 20000 in
set_option maxHeartbeats 1000000 in
theorem exSameList {w : World} {v v' : Value} {xs ys : List Int} (h : Nums w v xs) (h' : Nums w v' ys) (hx : xs.length < 9223372036854775807) (_hy : ys.length < 9223372036854775807) :
    Calls Tryd.prog 30 #[v, v'] w fun e w' => ∃ v', e = .returned v' ∧ Below w.heap.size w w' ∧ v' = .bool (decide (xs = ys)) := by
  obtain ⟨ao, cap, rfl, _⟩ := id h
  obtain ⟨ao', capb, rfl, _⟩ := id h'
  have HX := hidd h
  have HY := hidd h'
  have HL := hidd hx
  clear h h' hx
  by_cases hl : xs.length = ys.length
  · rw [← hl] at HY ⊢
    have HLL := hidd hl
    clear hl
    obtain ⟨n, hn⟩ : ∃ n, n = xs.length := ⟨_, rfl⟩
    have HN := hidd hn
    rw [← hn] at HX HY HL ⊢
    clear hn
    go_enter Tryd.func30, Tryd.ntmps30
    go_wp2
    go_loopw [5] (fun vi W => ∃ i : Nat, vi = .int .i64 i ∧ i ≤ n ∧ Below w.heap.size w W ∧ ∀ j, j < i → xs.getD j 0 = ys.getD j 0) (fun vi _ => n - (intOf vi).toNat)
    case atStart => exact ⟨0, rfl, Nat.zero_le _, Below.refl _ _, fun j hj => by omega⟩
    case round =>
      obtain ⟨V0, rfl⟩ : ∃ V0, V0 = wr := ⟨_, rfl⟩
      obtain ⟨i, rfl, hi, hB, hE⟩ := hrel
      have hll := HL.out
      by_cases hlt : i < n
      · obtain ⟨g, p, r, k, d, rfl, c0, c1, hA⟩ := (HX.out.mono hB).at (i := i) (by rw [← HN.out]; exact hlt)
        obtain ⟨gb, p', r', k', d', rfl, c0', c1', hA'⟩ := (HY.out.mono hB).at (i := i) (by rw [← HLL.out, ← HN.out]; exact hlt)
        obtain ⟨x, hx⟩ : ∃ x, x = xs.getD i 0 := ⟨_, rfl⟩
        obtain ⟨y, hy⟩ : ∃ y, y = ys.getD i 0 := ⟨_, rfl⟩
        rw [← hx] at hA
        rw [← hy] at hA'
        have NA : NumAt V0 g i x := ⟨_, _, _, _, c0, c1, hA⟩
        have NB : NumAt V0 gb i y := ⟨_, _, _, _, c0', c1', hA'⟩
        have g9 : IntKind.i64.wrap ((i : Int) + 1) = (i : Int) + 1 := IntWalk.i64_in _ (by omega)
        have hlt2 : ((i : Int) < n) = True := eq_true (by omega)
        have hsz := hB.size
        have hBH := hidd hB
        have hEH := hidd hE
        have HXX := hidd hx
        have HYY := hidd hy
        have HLT := hidd hlt
        clear hB hE c0 c1 hA c0' c1' hA' hx hy hlt
        have E := Fr.start V0
        by_cases he : x = y
        · have het : Hid (decide (x = y) = true) := decide_eq_true he
          have HEQ := hidd he
          clear he
          go_upto_region 6 with (fail)
          refine region_fr (C := [Fq.is (.slice (some ⟨g, 0, none⟩) n cap), Fq.is (.int .i64 i), Fq.is (.pointer (some ⟨g, i * 2, none⟩)), Fq.num x, Fq.is (.slice (some ⟨gb, 0, none⟩) n capb), Fq.is (.int .i64 i), Fq.is (.pointer (some ⟨gb, i * 2, none⟩)), Fq.num y, Fq.is (.bool true), Fq.is (.bool false)]) (ks := []) (new := []) E rfl (by kernel_rfl) rfl rfl (fun hp => ⟨?_, ?_, ?_, ?_, ?_, ?_, ?_, ?_, ?_, ?_, trivial⟩) ?_
          · exact q_move hp (free_of rfl) trivial (sq_out rfl rfl (fun _ _ => rfl))
          · exact q_move hp (free_of rfl) trivial (sq_out rfl rfl (fun _ _ => rfl))
          · exact q_indexN (b := g) (l := n) (c := cap) (k := i) hp (free_of rfl) trivial (sq_in 0 rfl rfl (by simp) rfl (fun v w h => h)) (sq_in 1 rfl rfl (by simp) rfl (fun v w h => h)) HLT.out (fun _ => rfl)
          · exact q_loadNumAt (i0 := i) hp (free_of rfl) trivial NA rfl (sq_in 2 rfl rfl (by simp) rfl (fun v w h => h)) (fun v w h => h)
          · exact q_move hp (free_of rfl) trivial (sq_out rfl rfl (fun _ _ => rfl))
          · exact q_move hp (free_of rfl) trivial (sq_out rfl rfl (fun _ _ => rfl))
          · exact q_indexN (b := gb) (l := n) (c := capb) (k := i) hp (free_of rfl) trivial (sq_in 4 rfl rfl (by simp) rfl (fun v w h => h)) (sq_in 5 rfl rfl (by simp) rfl (fun v w h => h)) HLT.out (fun _ => rfl)
          · exact q_loadNumAt (i0 := i) hp (free_of rfl) trivial NB rfl (sq_in 6 rfl rfl (by simp) rfl (fun v w h => h)) (fun v w h => h)
          · exact q_call2 (F := (Fq.num x).P) (G := (Fq.num y).P) hp (free_of rfl) trivial (enq_R_Same) (sq_in 3 rfl rfl (by simp) rfl (fun v w h => h)) (sq_in 7 rfl rfl (by simp) rfl (fun v w h => h)) (fun v v' w h h' => exRSameB h h' het.out)
          · exact q_one (F := fun v _ => v = .bool true) hp (free_of rfl) trivial (sq_in 8 rfl rfl (by simp) rfl (fun v w h => h)) (fun ρ w _ h => ⟨.bool false, by simp [execOp, go_sem, h], rfl⟩)
          intro L vs w1 nb hL hC hn E1
          have e0 : vs 0 = .slice (some ⟨g, 0, none⟩) n cap := hC 0 (by simp)
          have e1 : vs 1 = .int .i64 i := hC 1 (by simp)
          have e2 : vs 2 = .pointer (some ⟨g, i * 2, none⟩) := hC 2 (by simp)
          have e4 : vs 4 = .slice (some ⟨gb, 0, none⟩) n capb := hC 4 (by simp)
          have e5 : vs 5 = .int .i64 i := hC 5 (by simp)
          have e6 : vs 6 = .pointer (some ⟨gb, i * 2, none⟩) := hC 6 (by simp)
          have e8 : vs 8 = .bool true := hC 8 (by simp)
          have e9 : vs 9 = .bool false := hC 9 (by simp)
          have E : Fr V0 [] w1 := E1
          rw [lay_all hL]
          simp only [putAll, dstOf, List.length_cons, List.length_nil, Nat.zero_add, Nat.reduceAdd, List.getElem?_toArray, List.getElem?_cons_zero, List.getElem?_cons_succ, Option.bind_some, Act.put, List.setIfInBounds_toArray, List.set_cons_succ, List.set_cons_zero]
          rw [e0, e1, e2, e4, e5, e6, e8, e9]
          generalize vs 3 = u1_3
          generalize vs 7 = u1_7
          clear e0 e1 e2 e4 e5 e6 e8 e9 hC hn E1 hL vs L nb
          have hB2 := hidd (hBH.out.trans (E.below.mono hsz))
          clear E hsz
          go_wp2
          go_roundw
          case rel => exact ⟨i + 1, by go_num, by have := HLT.out; omega, hB2.out, fun j hj => by
            rcases Nat.lt_or_ge j i with h | h
            · exact hEH.out j h
            · rw [show j = i by omega, ← HXX.out, ← HYY.out]; exact HEQ.out⟩
          case measure => have := HLT.out; simp [intOf]; omega
        · have het : Hid (decide (x = y) = false) := decide_eq_false he
          have HEQ := hidd he
          clear he
          go_upto_region 6 with (fail)
          refine region_fr (C := [Fq.is (.slice (some ⟨g, 0, none⟩) n cap), Fq.is (.int .i64 i), Fq.is (.pointer (some ⟨g, i * 2, none⟩)), Fq.num x, Fq.is (.slice (some ⟨gb, 0, none⟩) n capb), Fq.is (.int .i64 i), Fq.is (.pointer (some ⟨gb, i * 2, none⟩)), Fq.num y, Fq.is (.bool false), Fq.is (.bool true)]) (ks := []) (new := []) E rfl (by kernel_rfl) rfl rfl (fun hp => ⟨?_, ?_, ?_, ?_, ?_, ?_, ?_, ?_, ?_, ?_, trivial⟩) ?_
          · exact q_move hp (free_of rfl) trivial (sq_out rfl rfl (fun _ _ => rfl))
          · exact q_move hp (free_of rfl) trivial (sq_out rfl rfl (fun _ _ => rfl))
          · exact q_indexN (b := g) (l := n) (c := cap) (k := i) hp (free_of rfl) trivial (sq_in 0 rfl rfl (by simp) rfl (fun v w h => h)) (sq_in 1 rfl rfl (by simp) rfl (fun v w h => h)) HLT.out (fun _ => rfl)
          · exact q_loadNumAt (i0 := i) hp (free_of rfl) trivial NA rfl (sq_in 2 rfl rfl (by simp) rfl (fun v w h => h)) (fun v w h => h)
          · exact q_move hp (free_of rfl) trivial (sq_out rfl rfl (fun _ _ => rfl))
          · exact q_move hp (free_of rfl) trivial (sq_out rfl rfl (fun _ _ => rfl))
          · exact q_indexN (b := gb) (l := n) (c := capb) (k := i) hp (free_of rfl) trivial (sq_in 4 rfl rfl (by simp) rfl (fun v w h => h)) (sq_in 5 rfl rfl (by simp) rfl (fun v w h => h)) HLT.out (fun _ => rfl)
          · exact q_loadNumAt (i0 := i) hp (free_of rfl) trivial NB rfl (sq_in 6 rfl rfl (by simp) rfl (fun v w h => h)) (fun v w h => h)
          · exact q_call2 (F := (Fq.num x).P) (G := (Fq.num y).P) hp (free_of rfl) trivial (enq_R_Same) (sq_in 3 rfl rfl (by simp) rfl (fun v w h => h)) (sq_in 7 rfl rfl (by simp) rfl (fun v w h => h)) (fun v v' w h h' => exRSameB h h' het.out)
          · exact q_one (F := fun v _ => v = .bool false) hp (free_of rfl) trivial (sq_in 8 rfl rfl (by simp) rfl (fun v w h => h)) (fun ρ w _ h => ⟨.bool true, by simp [execOp, go_sem, h], rfl⟩)
          intro L vs w1 nb hL hC hn E1
          have e0 : vs 0 = .slice (some ⟨g, 0, none⟩) n cap := hC 0 (by simp)
          have e1 : vs 1 = .int .i64 i := hC 1 (by simp)
          have e2 : vs 2 = .pointer (some ⟨g, i * 2, none⟩) := hC 2 (by simp)
          have e4 : vs 4 = .slice (some ⟨gb, 0, none⟩) n capb := hC 4 (by simp)
          have e5 : vs 5 = .int .i64 i := hC 5 (by simp)
          have e6 : vs 6 = .pointer (some ⟨gb, i * 2, none⟩) := hC 6 (by simp)
          have e8 : vs 8 = .bool false := hC 8 (by simp)
          have e9 : vs 9 = .bool true := hC 9 (by simp)
          have E : Fr V0 [] w1 := E1
          rw [lay_all hL]
          simp only [putAll, dstOf, List.length_cons, List.length_nil, Nat.zero_add, Nat.reduceAdd, List.getElem?_toArray, List.getElem?_cons_zero, List.getElem?_cons_succ, Option.bind_some, Act.put, List.setIfInBounds_toArray, List.set_cons_succ, List.set_cons_zero]
          rw [e0, e1, e2, e4, e5, e6, e8, e9]
          generalize vs 3 = u1_3
          generalize vs 7 = u1_7
          clear e0 e1 e2 e4 e5 e6 e8 e9 hC hn E1 hL vs L nb
          have hB2 := hidd (hBH.out.trans (E.below.mono hsz))
          clear E hsz
          go_wp2
          refine bodyPost_ret (v := .bool false) (by simp [results, Tryd.results30, go_sem]) rfl ⟨_, rfl, hB2.out, ?_⟩
          rw [decide_eq_false]
          intro e
          exact HEQ.out (by rw [HXX.out, HYY.out, e])
      · have hin : i = n := by omega
        have hF : Hid (xs = ys) := list_eq_of HLL.out fun j hj => hE j (by rw [hin, HN.out]; exact hj)
        have hBH := hidd hB
        clear hB hE
        go_wp2
        refine bodyPost_ret (v := .bool true) (by simp [results, Tryd.results30, go_sem]) rfl ⟨_, rfl, hBH.out, ?_⟩
        rw [decide_eq_true hF.out]
  · have hne : Hid (decide (xs = ys) = false) := decide_eq_false fun e => hl (by rw [e])
    have hl1 : ((xs.length : Int) = (ys.length : Int)) = False := eq_false (by omega)
    have hl2 : (((xs.length : Int)) == (ys.length : Int)) = false := by simp; omega
    clear hl
    go_enter Tryd.func30, Tryd.ntmps30
    go_wp2
    refine bodyPost_ret (v := .bool false) (by simp [results, Tryd.results30, go_sem]) rfl ⟨_, rfl, Below.refl _ _, ?_⟩
    rw [hne.out]

set_option maxRecDepth 100000 in
set_option maxHeartbeats 4000000 in
theorem exMRootsP {w : World} {v v' : Value} {a p k : Int} (h : Num w v a) (h' : Num w v' p) (ha : ab a < pw 90) (hm : ab p < pw 90) (hk : -9223372036854775808 ≤ k ∧ k ≤ 9223372036854775807) (h0 : 2 ≤ p) (h1 : 1 ≤ k) (hb : p ^ k.toNat ≤ 1048576) :
    Calls Tryd.prog 28 #[v, v', .int .i64 k] w fun e w' => ∃ v', e = .returned v' ∧ Below w.heap.size w w' ∧ ∃ l, v' = .tuple #[l, .int .i64 0] ∧ Nums w' l (lifts a p k.toNat) := by
  replace ha := hidd ha
  replace hm := hidd hm
  replace hk := hidd hk
  obtain ⟨n0, ao0, k0, c0, rfl⟩ := h.parts
  obtain ⟨n1, ao1, k1, c1, rfl⟩ := h'.parts
  obtain ⟨w1, b1, hw1, hb1, hs1, E⟩ := fr_start w (F := Fq.num a) (us := [.bool n0, .slice ao0 k0 c0]) 29 rfl (by simp) (tame_int _ _ _ _) h
  obtain ⟨w2, b2, hw2, hb2, hs2, E⟩ := fr_more E hs1 (F := Fq.num p) (us := [.bool n1, .slice ao1 k1 c1]) 29 rfl (by simp) (tame_int _ _ _ _) (h'.mono E.below)
  go_enter Tryd.func28, Tryd.ntmps28
  go_upto_region 1 with (fail)
  rw [← hw1]
  rw [← hw2]
  rw [← hb2]
  rw [← hb1]
  clear hw1 hw2 hb1 hb2 hs2 hs1
  have hpp : p ≤ 1048576 := by have := pow_mono_two h0 (show 1 ≤ k.toNat by omega); rw [Int.pow_succ, Int.pow_zero, Int.one_mul] at this; omega
  have HL := hidd (lowV_in (z := p) (by omega) (by omega))
  have HPR : Hid (2 ≤ p ∧ p < 9223372036854775808) := ⟨h0, by omega⟩
  have HKR : Hid (1 ≤ k ∧ k < 9223372036854775808) := ⟨h1, by have := hk.out; omega⟩
  have HD : Hid (decide (p ^ k.toNat ≤ 1048576) = true) := decide_eq_true hb
  have HB := hidd hb
  clear hpp hb hk
  have T1 : Hid (¬ cmpI p (2) < 0) := fun e => by have := cmpIqlt.1 e; omega
  have T2 : Hid (¬ k < 1) := by show ¬ _; omega
  have HP := hidd h0
  have HK := hidd h1
  clear h0 h1
  have B3 : Hid (ab ((2)) < pw 3) := ab_lit (by decide)
  refine region_fr (C := [Fq.num p, Fq.num (2), Fq.is (.int .i64 (cmpI p (2))), Fq.is (.bool false), Fq.is (.bool false), Fq.is (.int .i64 k), Fq.is (.bool false), Fq.is (.bool false)]) (ks := [none, none]) (new := []) E rfl (by kernel_rfl) rfl rfl (fun hp => ⟨?_, ?_, ?_, ?_, ?_, ?_, ?_, ?_, trivial⟩) ?_
  · exact q_loadInt (off := 0) hp (free_of rfl) trivial (List.mem_iff_getElem?.2 ⟨0, rfl⟩) (.inl rfl) (Nat.le_of_ble_eq_true rfl) (sq_out rfl rfl (fun _ _ => rfl)) (fun us w hl h => ld_num hl h)
  · exact q_call1 (F := (Fq.is (.int .i64 2)).P) hp (free_of rfl) trivial (enq_Of) (sq_const (fun _ => rfl)) (fun v w h => (by subst h; exact OfK w (2) (by omega) (by omega)))
  · exact q_call2 (F := (Fq.num p).P) (G := (Fq.num (2)).P) hp (free_of rfl) trivial (enq_Cmp) (sq_in 0 rfl rfl (by simp) rfl (fun v w h => h)) (sq_in 1 rfl rfl (by simp) rfl (fun v w h => h)) (fun v v' w h h' => exCmp h h')
  · exact q_one (F := fun v _ => v = .int .i64 (cmpI p (2))) hp (free_of rfl) trivial (sq_in 2 rfl rfl (by simp) rfl (fun v w h => h)) (fun ρ w hc h => ⟨.bool false, by simp [execOp, go_sem, h, hc, T1.out], rfl⟩)
  · exact q_move hp (free_of rfl) trivial (sq_in 3 rfl rfl (by simp) rfl (fun v w h => h))
  · exact q_move hp (free_of rfl) (gq_some rfl rfl (by simp) rfl (fun v w h => h)) (sq_out rfl rfl (fun _ _ => rfl))
  · exact q_one (F := fun v _ => v = .int .i64 k) hp (free_of rfl) (gq_some rfl rfl (by simp) rfl (fun v w h => h)) (sq_in 5 rfl rfl (by simp) rfl (fun v w h => h)) (fun ρ w hc h => ⟨.bool false, by simp [execOp, go_sem, h, hc, T2.out], rfl⟩)
  · exact q_two (F := fun v _ => v = .bool false) (G := fun v _ => v = .bool false) hp (free_of rfl) trivial (sq_in 4 rfl rfl (by simp) rfl (fun v w h => h)) (sq_in 6 rfl rfl (by simp) rfl (fun v w h => h)) (fun ρ w hc h h' => ⟨_, by simp [execOp, go_sem, h, h'], rfl⟩)
  intro L vs w4 nb hL hC hn E4
  have e2 : vs 2 = .int .i64 (cmpI p (2)) := hC 2 (by simp)
  have e3 : vs 3 = .bool false := hC 3 (by simp)
  have e4 : vs 4 = .bool false := hC 4 (by simp)
  have e5 : vs 5 = .int .i64 k := hC 5 (by simp)
  have e6 : vs 6 = .bool false := hC 6 (by simp)
  have e7 : vs 7 = .bool false := hC 7 (by simp)
  have E : Fr w [(b2, 2, Fq.num p), (b1, 2, Fq.num a)] w4 := E4
  rw [lay_all hL]
  simp only [putAll, dstOf, List.length_cons, List.length_nil, Nat.zero_add, Nat.reduceAdd, List.getElem?_toArray, List.getElem?_cons_zero, List.getElem?_cons_succ, Option.bind_some, Act.put, List.setIfInBounds_toArray, List.set_cons_succ, List.set_cons_zero]
  rw [e2, e3, e4, e5, e6, e7]
  generalize vs 0 = u4_0
  generalize vs 1 = u4_1
  clear e2 e3 e4 e5 e6 e7 hC hn E4 hL vs L nb
  clear T1 T2
  go_upto_region 3 with (fail)
  refine region_fr (C := [Fq.num p, Fq.tup2 (Fq.is (.int .i64 p)) (Fq.is (.bool true)), Fq.tup2 (Fq.is (.int .i64 p)) (Fq.is (.bool true)), Fq.is (.int .i64 p), Fq.is (.bool true), Fq.is (.int .i64 p), Fq.is (.bool true)]) (ks := [none, none]) (new := []) E rfl (by kernel_rfl) rfl rfl (fun hp => ⟨?_, ?_, ?_, ?_, ?_, ?_, ?_, trivial⟩) ?_
  · exact q_loadInt (off := 0) hp (free_of rfl) trivial (List.mem_iff_getElem?.2 ⟨0, rfl⟩) (.inl rfl) (Nat.le_of_ble_eq_true rfl) (sq_out rfl rfl (fun _ _ => rfl)) (fun us w hl h => ld_num hl h)
  · exact q_call1 (F := (Fq.num p).P) hp (free_of rfl) trivial (enq_Low) (sq_in 0 rfl rfl (by simp) rfl (fun v w h => h)) (fun v w h => exLowQ h HL.out)
  · exact q_move hp (free_of rfl) trivial (sq_in 1 rfl rfl (by simp) rfl (fun v w h => h))
  · exact q_extract2 hp (free_of rfl) trivial (sq_in 2 rfl rfl (by simp) rfl (fun v w h => h)) (fun v1 v2 w h1 h2 => ⟨_, rfl, h1⟩)
  · exact q_extract2 hp (free_of rfl) trivial (sq_in 2 rfl rfl (by simp) rfl (fun v w h => h)) (fun v1 v2 w h1 h2 => ⟨_, rfl, h2⟩)
  · exact q_assign hp (free_of rfl) trivial (sq_in 3 rfl rfl (by simp) rfl (fun v w h => h))
  · exact q_assign hp (free_of rfl) trivial (sq_in 4 rfl rfl (by simp) rfl (fun v w h => h))
  intro L vs w5 nb hL hC hn E5
  have e3 : vs 3 = .int .i64 p := hC 3 (by simp)
  have e4 : vs 4 = .bool true := hC 4 (by simp)
  have e5 : vs 5 = .int .i64 p := hC 5 (by simp)
  have e6 : vs 6 = .bool true := hC 6 (by simp)
  have E : Fr w [(b2, 2, Fq.num p), (b1, 2, Fq.num a)] w5 := E5
  rw [lay_all hL]
  simp only [putAll, dstOf, List.length_cons, List.length_nil, Nat.zero_add, Nat.reduceAdd, List.getElem?_toArray, List.getElem?_cons_zero, List.getElem?_cons_succ, Option.bind_some, Act.put, List.setIfInBounds_toArray, List.set_cons_succ, List.set_cons_zero]
  rw [e3, e4, e5, e6]
  generalize vs 0 = u5_0
  generalize vs 1 = u5_1
  generalize vs 2 = u5_2
  clear e3 e4 e5 e6 hC hn E5 hL vs L nb
  go_upto_region 4 with (fail)
  refine region_fr (C := [Fq.is (.bool true), Fq.is (.bool false), Fq.is (.bool false), Fq.is (.int .i64 p), Fq.is (.int .i64 k), Fq.is (.bool true), Fq.is (.bool false), Fq.is (.bool false)]) (ks := [none, none]) (new := []) E rfl (by kernel_rfl) rfl rfl (fun hp => ⟨?_, ?_, ?_, ?_, ?_, ?_, ?_, ?_, trivial⟩) ?_
  · exact q_move hp (free_of rfl) trivial (sq_out rfl rfl (fun _ _ => rfl))
  · exact q_one (F := fun v _ => v = .bool true) hp (free_of rfl) trivial (sq_in 0 rfl rfl (by simp) rfl (fun v w h => h)) (fun ρ w _ h => ⟨.bool false, by simp [execOp, go_sem, h], rfl⟩)
  · exact q_move hp (free_of rfl) trivial (sq_in 1 rfl rfl (by simp) rfl (fun v w h => h))
  · exact q_move hp (free_of rfl) (gq_some rfl rfl (by simp) rfl (fun v w h => h)) (sq_out rfl rfl (fun _ _ => rfl))
  · exact q_move hp (free_of rfl) (gq_some rfl rfl (by simp) rfl (fun v w h => h)) (sq_out rfl rfl (fun _ _ => rfl))
  · exact q_call2 (F := (Fq.is (.int .i64 p)).P) (G := (Fq.is (.int .i64 k)).P) hp (free_of rfl) (gq_some rfl rfl (by simp) rfl (fun v w h => h)) (enq_M_smallPower) (sq_in 3 rfl rfl (by simp) rfl (fun v w h => h)) (sq_in 4 rfl rfl (by simp) rfl (fun v w h => h)) (fun v v' w h h' => (by subst h; subst h'; exact exSmallPower HPR.out HKR.out HD.out))
  · exact q_one (F := fun v _ => v = .bool true) hp (free_of rfl) (gq_some rfl rfl (by simp) rfl (fun v w h => h)) (sq_in 5 rfl rfl (by simp) rfl (fun v w h => h)) (fun ρ w _ h => ⟨.bool false, by simp [execOp, go_sem, h], rfl⟩)
  · exact q_two (F := fun v _ => v = .bool false) (G := fun v _ => v = .bool false) hp (free_of rfl) trivial (sq_in 2 rfl rfl (by simp) rfl (fun v w h => h)) (sq_in 6 rfl rfl (by simp) rfl (fun v w h => h)) (fun ρ w hc h h' => ⟨_, by simp [execOp, go_sem, h, h'], rfl⟩)
  intro L vs w6 nb hL hC hn E6
  have e0 : vs 0 = .bool true := hC 0 (by simp)
  have e1 : vs 1 = .bool false := hC 1 (by simp)
  have e2 : vs 2 = .bool false := hC 2 (by simp)
  have e3 : vs 3 = .int .i64 p := hC 3 (by simp)
  have e4 : vs 4 = .int .i64 k := hC 4 (by simp)
  have e5 : vs 5 = .bool true := hC 5 (by simp)
  have e6 : vs 6 = .bool false := hC 6 (by simp)
  have e7 : vs 7 = .bool false := hC 7 (by simp)
  have E : Fr w [(b2, 2, Fq.num p), (b1, 2, Fq.num a)] w6 := E6
  rw [lay_all hL]
  simp only [putAll, dstOf, List.length_cons, List.length_nil, Nat.zero_add, Nat.reduceAdd, List.getElem?_toArray, List.getElem?_cons_zero, List.getElem?_cons_succ, Option.bind_some, Act.put, List.setIfInBounds_toArray, List.set_cons_succ, List.set_cons_zero]
  rw [e0, e1, e2, e3, e4, e5, e6, e7]
  clear e0 e1 e2 e3 e4 e5 e6 e7 hC hn E6 hL vs L nb
  clear HL HD
  obtain ⟨p0, p1, c0, c1, hP⟩ := box_num (E.box 1 rfl)
  have HE := hidd E.below
  have HPN := hidd hP
  clear E hP
  have HA90 := Bd90.mk ha.out
  have HM90 := Bd90.mk hm.out
  clear ha hm
  clear B3 HP HK
  obtain ⟨xs, hxs⟩ : ∃ xs, xs = lifts a p k.toNat := ⟨_, rfl⟩
  have HC := liftedRoots_any HPN.out HA90.out HPR.out.1 HKR.out HB.out
  rw [← hxs] at HC
  have HXE := hidd hxs
  clear hxs
  go_wp2_with (first | (go_at_call 60; refine HC.mono ?_; rintro e V ⟨lv, rfl, hbV, hLV⟩; obtain ⟨ao, cap, rfl⟩ := hLV.shape) | fail)
  have HBV := hidd (HE.out.trans (hbV.mono HE.out.size))
  have HLI := hidd hLV
  clear hbV hLV c0 c1
  have hlen := lifts_len (a := a) HPR.out.1 k.toNat
  have HRG := hidd (lifts_range (a := a) HPR.out.1 k.toNat)
  have HB2 := HB.out
  rw [← HXE.out] at hlen HRG
  have HXS : Hid (∀ i, i < xs.length → 0 ≤ xs.getD i 0 ∧ xs.getD i 0 < 1048576) := fun i hi => by
    have := HRG.out _ (getD_mem hi)
    omega
  have hlen2 : Hid (xs.length ≤ 1048576) := by show _ ≤ _; omega
  clear hlen HRG HB HB2 HPN HC
  obtain ⟨i0, hi, hz0, hz1, hz2⟩ := info_parts info_int
  have HSZ := hidd HBV.out.size
  go_wp2
  go_loopw [10, 39] (fun vl vi W => ∃ i : Nat, vi = .int .i64 i ∧ i ≤ xs.length ∧ Ln W V.heap.size vl (xs.take i) ∧ Below V.heap.size V W) (fun _ vi _ => xs.length - (intOf vi).toNat)
  case atStart => exact ⟨0, rfl, Nat.zero_le _, Ln.nil _ _, Below.refl _ _⟩
  case round =>
    obtain ⟨V2, rfl⟩ : ∃ V2, V2 = wr := ⟨_, rfl⟩
    obtain ⟨i, rfl, hix, HL2, HB2⟩ := hrel
    have hl0 := hlen2.out
    by_cases hil : i < xs.length
    · obtain ⟨ad, hao, hc⟩ := (HLI.out.mono HB2).cell hil
      subst hao
      obtain ⟨x, hx⟩ : ∃ x, x = xs.getD i 0 := ⟨_, rfl⟩
      have hxr := HXS.out i hil
      rw [← hx] at hc hxr
      have HXR : Hid (0 ≤ x ∧ x ≤ 9223372036854775807) := ⟨hxr.1, by omega⟩
      have HT : Hid (xs.take (i + 1) = xs.take i ++ [x]) := by
        show _ = _
        rw [List.take_succ_eq_append_getElem hil, hx]
        simp [hil]
      have htl : (xs.take i).length = i := by rw [List.length_take]; omega
      obtain ⟨ao2, cap2, rfl⟩ := HL2.shape
      obtain ⟨us, hO, hE⟩ := HL2
      have hsz3 := HB2.size
      have g9 : IntKind.i64.wrap ((i : Int) + 1) = (i : Int) + 1 := IntWalk.i64_in _ (by omega)
      have HLT := hidd hil
      obtain ⟨ys, hys⟩ : ∃ ys, ys = xs.take i := ⟨_, rfl⟩
      rw [← hys] at hO hE htl HT ⊢
      have hyl : ys.length ≤ 1048576 := by omega
      have HTL := hidd htl
      have HO := hidd hO
      have HE2 := hidd hE
      have HB2H := hidd HB2
      clear hx hxr hO hE hys HB2 htl
      go_wp2_with (first | (go_at_call 57; refine (OfNew _ x HXR.out.1 HXR.out.2).mono ?_; rintro e w5 ⟨ng, ao5, n5, c5, rfl, hnew, hN, hB5⟩) | (at_builtin; (refine wpList_append_lies (n := ys.length) (xs := us) _ rfl _ _ 52 rfl V.heap.size 29 i0 (.agg #[.bool false, .slice none 0 0]) 2 32 Tryd.underlying52 hi hz0 hz1 hz2 rfl (by decide) _ rfl (World.ownsRow.alloc (owns_below HO.out hB5) _) ⟨_, 0, none⟩ 1 1 [.bool ng, .slice ao5 n5 c5] rfl rfl (World.news_of_block (heap_alloc_new _ _)) (by intro u hu; simp at hu; rcases hu with rfl | rfl <;> rfl) (by decide) (by unfold maxLen; omega) (by omega) (Nat.le_trans hsz3 (Nat.le_trans hB5.size (by simp))) _ rfl ?_; intro g cap w6 hown' hgrow hat hlt)) | fail)
      obtain ⟨hS, hS2⟩ := Ln.step HO.out HE2.out hsz3 HB2H.out hB5 hnew hN hown' hgrow hat rfl
      have hS4 := hidd hS
      have hS5 := hidd hS2
      clear hown' hgrow hat hlt hS hS2 hnew hN hB5 HO HE2
      go_wp2
      go_roundw
      case rel => exact ⟨i + 1, by go_num, by omega, by rw [HT.out]; exact hS4.out, hS5.out⟩
      case measure => simp [intOf]; omega
    · have he : i = xs.length := by omega
      have HF : Hid (Ln V2 V.heap.size u10 xs) := by
        show Ln _ _ _ _
        rw [he, List.take_length] at HL2
        exact HL2
      have HBF := hidd (HBV.out.trans (HB2.mono HBV.out.size))
      clear HL2 HB2 he
      go_wp2
      refine bodyPost_ret (v := .tuple #[u10, .int .i64 0]) (by simp [results, Tryd.results28, go_sem]) rfl ⟨_, rfl, HBF.out, _, rfl, by rw [← HXE.out]; exact HF.out.nums⟩

end Go.Proofs.YtieobgadihcgeaaDoor

/- Steps of a region over slices of numbers; three descriptions. -/
namespace Go.Proofs.YtieobgadihcgeaaDoor
open Go Go.RowKit

/-- Numbers, one behind the other. -/
def IntsV (w : World) (us : List Value) (zs : List Int) : Prop := us.length = zs.length * 2 ∧ ∀ i z, zs[i]? = some z → ∃ n ao k c, us.getD (i * 2) undef = .bool n ∧ us.getD (i * 2 + 1) undef = .slice ao k c ∧ Num w (.agg #[.bool n, .slice ao k c]) z
def Fq.ints (zs : List Int) : Fq := ⟨fun v w => ∃ us : List Value, v = .agg us.toArray ∧ IntsV w us zs,
  fun ⟨us, e, hl, h⟩ hb => ⟨us, e, hl, fun i z hi => by obtain ⟨n, ao, k, c, g1, g2, g3⟩ := h i z hi; exact ⟨n, ao, k, c, g1, g2, g3.mono hb⟩⟩,
  fun ⟨us, e, hl, h⟩ ha ht hl2 => ⟨us, e, hl, fun i z hi => by obtain ⟨n, ao, k, c, g1, g2, g3⟩ := h i z hi; exact ⟨n, ao, k, c, g1, g2, g3.putAt ha ht hl2⟩⟩⟩
theorem Bq.nums {w : World} {b m l : Nat} {zs : List Int} (h : Bq w b m (Fq.ints zs)) (hm : m = zs.length * 2) (hl : l = zs.length) : Nums w (.slice (some ⟨b, 0, none⟩) l l) zs := by
  have hlt := h.lt
  obtain ⟨us, h1, h2, h3, h4, us2, e, h5, h6⟩ := h
  injection e with e
  have e2 := congrArg Array.toList e
  simp at e2
  subst e2
  subst hl
  refine ⟨_, _, rfl, .inr ⟨b, rfl, hlt, fun i z hi => ?_⟩⟩
  have hil : i < zs.length := by
    rcases Nat.lt_or_ge i zs.length with h | h
    · exact h
    · rw [List.getElem?_eq_none h] at hi; cases hi
  obtain ⟨n, ao, k, c, g1, g2, g3⟩ := h6 i z hi
  exact ⟨n, ao, k, c, (h3 (i * 2) (by omega)).1.trans (by rw [g1]), (h3 (i * 2 + 1) (by omega)).1.trans (by rw [g2]), g3⟩
section
variable {n1 n2 n3 : Bool} {a1 a2 a3 : Option Addr} {k1 c1 k2 c2 k3 c3 : Nat} {xs1 xs2 xs3 : List Int}
end

section
variable {os : List Oper} {Q : Exit → Act → World → Prop} {a : Act} {p : Pq} {B B0 : Nat} {w0 : World}
variable {i s : Nat} {d : Option Tmp} {ty : TypeId} {ps : String} {af : Array Edge} {gd : Option (Nat × Bool)}
/-- A slice is built of four numbers. -/
theorem q_buildInts4 {n0 : Nb} {x y z t : Operand} {z1 z2 z3 z4 : Int} (hp : p.Ok B B0) (hg : GdQ os a p B B0 w0 af gd) (hi : n0 ∈ p.new) (hii : n0.i = i) (hki : n0.k = i) (hsl : n0.s = some 4) (hm : n0.m = 8) (hF1 : n0.F1 = Fq.ints [z1, z2, z3, z4])
    (hx : SrcQ os a p B B0 w0 af x fun v w => Num w v z1) (hy : SrcQ os a p B B0 w0 af y fun v w => Num w v z2) (hz : SrcQ os a p B B0 w0 af z fun v w => Num w v z3) (ht : SrcQ os a p B B0 w0 af t fun v w => Num w v z4)
    (hC : ∀ v w', (p.c i).P v w') (h1 : ∀ o ∈ p.old, o.k ≠ i) (h2 : ∀ n ∈ p.new, n.i ≠ i → n.k ≠ i) :
    StepQ os Q a p B B0 w0 i { dst := d, op := .buildSlice 52 4 #[(0, x), (1, y), (2, z), (3, t)], type := ty, pos := ps, after := af, guard := gd } := by
  intro hio L vs w hG hL hd hc
  have p1 := hx L vs w hG hd
  have p2 := hy L vs w hG hd
  have p3 := hz L vs w hG hd
  have p4 := ht L vs w hG hd
  obtain ⟨m1, a1, k1, c1, e1⟩ := p1.parts
  obtain ⟨m2, a2, k2, c2, e2⟩ := p2.parts
  obtain ⟨m3, a3, k3, c3, e3⟩ := p3.parts
  obtain ⟨m4, a4, k4, c4, e4⟩ := p4.parts
  rw [e1] at p1
  rw [e2] at p2
  rw [e3] at p3
  rw [e4] at p4
  obtain ⟨us, hus⟩ : ∃ us : List Value, us = [.bool m1, .slice a1 k1 c1, .bool m2, .slice a2 k2 c2, .bool m3, .slice a3 k3 c3, .bool m4, .slice a4 k4 c4] := ⟨_, rfl⟩
  refine wpOp_step hio fun K' hK => ?_
  rw [if_pos (wanted_of (o := { dst := d, op := .buildSlice 52 4 #[(0, x), (1, y), (2, z), (3, t)], type := ty, pos := ps, after := af, guard := gd }) hg hG hd)]
  have e : (execOp (lay os.toArray L vs os.toArray.size a).eval ({ dst := d, op := .buildSlice 52 4 #[(0, x), (1, y), (2, z), (3, t)], type := ty, pos := ps, after := af, guard := gd } : Oper)).run Tryd.prog w = .ok (.value (.slice (some ⟨w.heap.size, 0, none⟩) 4 4)) (w.alloc (.cells us.toArray 29)) := by
    generalize (lay os.toArray L vs os.toArray.size a).eval = ρ at e1 e2 e3 e4
    simp [execOp, go_sem, e1, e2, e3, e4, hus]
  unfold Oper.wp
  rw [e]
  have hb := alloc_below w (.cells us.toArray 29)
  subst hii
  have hnow : n0.now (up L n0.i true) = n0.F1 := by
    unfold Nb.now
    rw [hsl]
    rfl
  have hlay := hG.lay hp hi (F := n0.F1) hnow hC h1 h2 29 (us := us) (by rw [hus, hm]; rfl) (by omega) (by
      rw [hus]
      intro u hu q e
      simp at hu
      rcases hu with rfl | rfl | rfl | rfl | rfl | rfl | rfl | rfl <;> cases e) (by
      rw [hF1]
      refine ⟨us, rfl, by rw [hus]; rfl, fun k n hk => ?_⟩
      rw [hus]
      rw [hus] at hb
      match k, hk with
      | 0, hk => injection hk with q1; subst q1; exact ⟨_, _, _, _, rfl, rfl, p1.mono hb⟩
      | 1, hk => injection hk with q1; subst q1; exact ⟨_, _, _, _, rfl, rfl, p2.mono hb⟩
      | 2, hk => injection hk with q1; subst q1; exact ⟨_, _, _, _, rfl, rfl, p3.mono hb⟩
      | 3, hk => injection hk with q1; subst q1; exact ⟨_, _, _, _, rfl, rfl, p4.mono hb⟩
      | k + 4, hk => simp at hk)
  have hptr : n0.ptr w.heap.size = .slice (some ⟨w.heap.size, 0, none⟩) 4 4 := by unfold Nb.ptr; rw [hsl]
  rw [hptr] at hlay
  exact hK _ _ ⟨_, rfl, hlay⟩
theorem q_call0W {f : FuncId} {ts : Array TypeId} (hp : p.Ok B B0) (hF : p.Free i) (hg : GdQ os a p B B0 w0 af gd) (hen : ∀ args w, (callFunc f args).run Tryd.prog w = .ok (.enter f args) w) (hB : B = w0.heap.size)
    (hC : ∀ w, Below w0.heap.size w0 w → Calls Tryd.prog f #[] w fun e w' => ∃ v', e = .returned v' ∧ Below w.heap.size w w' ∧ (p.c i).P v' w') :
    StepQ os Q a p B B0 w0 i { dst := d, op := .call { callee := .value (.func f), args := #[], argTypes := ts }, type := ty, pos := ps, after := af, guard := gd } := by
  subst hB
  exact stq_call hp hF hg hen fun L vs w hG _ => ⟨#[], by simp, hC w hG.below⟩
/-- A slice of the region is passed on behind another value; the call knows that the world from before stands. -/
theorem q_callWSl {n0 : Nb} {x y : Operand} {l : Nat} {F : Value → World → Prop} {f : FuncId} {ts : Array TypeId} (hp : p.Ok B B0) (hF : p.Free i) (hg : GdQ os a p B B0 w0 af gd) (hen : ∀ args w, (callFunc f args).run Tryd.prog w = .ok (.enter f args) w) (hB : B = w0.heap.size) (hi : n0 ∈ p.new) (hsl : n0.s = some (.sl l))
    (hx : SrcQ os a p B B0 w0 af x F) (hy : ∀ L vs w, p.G B B0 w0 L vs w → (∀ e ∈ af, Region.binds .any e = true → L e.on = true) → L n0.i = true ∧ (lay os.toArray L vs os.toArray.size a).eval y = vs n0.i)
    (hC : ∀ v b w, Below w0.heap.size w0 w → F v w → Bq w b n0.m n0.F1 → Calls Tryd.prog f #[v, .slice (some ⟨b, 0, none⟩) l l] w fun e w' => ∃ v', e = .returned v' ∧ Below w.heap.size w w' ∧ (p.c i).P v' w') :
    StepQ os Q a p B B0 w0 i { dst := d, op := .call { callee := .value (.func f), args := #[x, y], argTypes := ts }, type := ty, pos := ps, after := af, guard := gd } :=
  stq_call hp hF hg hen fun L vs w hG hd => by
    subst hB
    obtain ⟨hLi, hye⟩ := hy L vs w hG hd
    obtain ⟨b, e1, _, hb⟩ := hG.new _ hi hLi
    have hptr : n0.ptr b = .slice (some ⟨b, 0, none⟩) l l := by unfold Nb.ptr; rw [hsl]
    have hnow : n0.now L = n0.F1 := by
      unfold Nb.now
      rw [hsl]
      rfl
    rw [hnow] at hb
    refine ⟨#[(lay os.toArray L vs os.toArray.size a).eval x, .slice (some ⟨b, 0, none⟩) l l], ?_, hC _ b w hG.below (hx L vs w hG hd) hb⟩
    have hm : #[x, y].map (lay os.toArray L vs os.toArray.size a).eval = #[(lay os.toArray L vs os.toArray.size a).eval x, (lay os.toArray L vs os.toArray.size a).eval y] := by
      generalize (lay os.toArray L vs os.toArray.size a).eval = ρ
      simp
    rw [hm, hye, e1, hptr]
theorem op_allocGot {ops : Array Oper} {K : Act → World → Prop} {w : World} (ho : ops[i]? = some { dst := d, op := .alloc 36, type := ty, pos := ps, after := af, guard := none })
    (h : K (a.put d (.pointer (some ⟨w.heap.size, 0, none⟩))) (w.alloc (.cells zeroGot.toArray 36))) : wpOp Tryd.prog ops Q i K a w := by
  refine wpOp_step ho fun K' hK => ?_
  have e : (execOp a.eval ({ dst := d, op := .alloc 36, type := ty, pos := ps, after := af, guard := none } : Oper)).run Tryd.prog w = (.ok (.value (.pointer (some ⟨w.heap.size, 0, none⟩))) (w.alloc (.cells zeroGot.toArray 36))) := by
    generalize a.eval = ρ
    simp [execOp, go_sem, zeroGot]
  have hwn : Region.wanted ({ dst := d, op := .alloc 36, type := ty, pos := ps, after := af, guard := none } : Oper) (yielded ops a.tmps) = true := rfl
  rw [if_pos hwn]
  unfold Oper.wp
  rw [e]
  exact hK _ _ h
theorem q_allocGot {n0 : Nb} (hp : p.Ok B B0) (hi : n0 ∈ p.new) (hii : n0.i = i) (hsl : n0.s = none) (hm : n0.m = 3) (hk : leadsB os 9 n0.k i = true) (hki : n0.k ≠ i) (hC : ∀ v w', (p.c i).P v w') (h1 : ∀ o ∈ p.old, o.k ≠ i) (h2 : ∀ n ∈ p.new, n.k ≠ i) (hF : ∀ w', n0.F0.P (.agg zeroGot.toArray) w') :
    StepQ os Q a p B B0 w0 i { dst := d, op := .alloc 36, type := ty, pos := ps, after := af, guard := none } := by
  subst hii
  intro hio L vs w hG hL hd hc
  exact op_allocGot hio ⟨_, rfl, hG.alloc hp hi hsl (not_yet hc hk hL) hki hC h1 h2 _ (us := zeroGot) hm.symm (by omega) (tame_got _ _ _ _ _) hF⟩
theorem q_storeNewGot {n0 : Nb} {x y : Operand} (hp : p.Ok B B0) (hi : n0 ∈ p.new) (hki : n0.k = i) (hsl : n0.s = none) (hm : n0.m = 3) (hx : ∀ L vs w, p.G B B0 w0 L vs w → (∀ e ∈ af, Region.binds .any e = true → L e.on = true) → L n0.i = true ∧ (lay os.toArray L vs os.toArray.size a).eval x = vs n0.i) (hy : SrcQ os a p B B0 w0 af y (GotV n0.F1))
    (hC : ∀ v w', (p.c i).P v w') (h1 : ∀ o ∈ p.old, o.k ≠ i) (h2 : ∀ n ∈ p.new, n.i ≠ i) : StepQ os Q a p B B0 w0 i { dst := none, op := .store 36 x y, type := ty, pos := ps, after := af, guard := none } := by
  subst hki
  intro hio L vs w hG hL hd hc
  obtain ⟨hLi, hxe⟩ := hx L vs w hG hd
  obtain ⟨n, ao, k, c, r, e, hP⟩ := hy L vs w hG hd
  obtain ⟨b, e1', e2, us, g1, g2, g3, g4, g5⟩ := hG.new _ hi hLi
  have e1 : vs n0.i = .pointer (some ⟨b, 0, none⟩) := by rw [e1']; unfold Nb.ptr; rw [hsl]
  rw [e] at hP
  exact op_storeGot hio (hxe.trans e1) e g3 (by omega) ⟨undef, rfl, hG.storeNew hp hi hLi (us := [.bool n, .slice ao k c, .int .i64 r]) hm.symm (tame_got _ _ _ _ _) hP hC h1 h2 e1' _⟩
end
end Go.Proofs.YtieobgadihcgeaaDoor

/- Walk: the examples of the law. -/
namespace Go.Proofs.YtieobgadihcgeaaDoor
open Go Go.RowKit

theorem exCrtEx1 {w : World} {v v' u u' : Value} (h : Num w v 2) (h' : Num w v' 3) (g : Num w u 3) (g' : Num w u' 4) :
    Calls Tryd.prog 31 #[v, v', u, u'] w fun e w' => ∃ v', e = .returned v' ∧ Below w.heap.size w w' ∧ (Fq.tup3 (Fq.num 11) (Fq.num 12) (Fq.is (.int .i64 0))).P v' w' := by
  have := exCrtP h h' g g' (lit100 (ab_lit (by decide))) (lit100 (ab_lit (by decide))) (lit100 (ab_lit (by decide))) (lit100 (ab_lit (by decide))) (by decide) (by decide) (by decide)
  rw [crtR_ex] at this
  exact this
theorem exCrtEx2 {w : World} {v v' u u' : Value} (h : Num w v 0) (h' : Num w v' 4) (g : Num w u 1) (g' : Num w u' 6) :
    Calls Tryd.prog 31 #[v, v', u, u'] w fun e w' => ∃ v', e = .returned v' ∧ Below w.heap.size w w' ∧ (Fq.tup3 (Fq.num 0) (Fq.num 0) (Fq.is (.int .i64 6))).P v' w' :=
  exCrtN h h' g g' (lit100 (ab_lit (by decide))) (lit100 (ab_lit (by decide))) (lit100 (ab_lit (by decide))) (lit100 (ab_lit (by decide))) (by decide) (by decide) (by decide)
theorem exKronL {w : World} {v v' : Value} {a n r : Int} (h : Num w v a) (h' : Num w v' n) (hT : Tabs w) (ha : ab a < pw 3) (hn : ab n < pw 3) (hr : kron a n = r) :
    Calls Tryd.prog 20 #[v, v'] w fun e w' => ∃ v', e = .returned v' ∧ Below w.heap.size w w' ∧ v' = .int .i64 r := by
  subst hr
  exact exKronecker h h' hT (lit100 ha) (lit100 hn)
theorem exRoots123 {w : World} {v v' : Value} (h : Num w v 1) (h' : Num w v' 2) : Calls Tryd.prog 28 #[v, v', .int .i64 3] w fun e w' => ∃ v', e = .returned v' ∧ Below w.heap.size w w' ∧ ∃ l, v' = .tuple #[l, .int .i64 0] ∧ Nums w' l [1, 3, 5, 7] := by
  have := exMRootsP (k := 3) h h' (lit90 (ab_lit (by decide))) (lit90 (ab_lit (by decide))) (by decide) (by decide) (by decide) (by decide)
  rw [show lifts 1 2 (3 : Int).toNat = [1, 3, 5, 7] from lifts_ex] at this
  exact this
theorem exSameListB {w : World} {v v' : Value} {xs ys : List Int} {t : Bool} (h : Nums w v xs) (h' : Nums w v' ys) (hx : xs.length < 9223372036854775807) (hy : ys.length < 9223372036854775807) (ht : decide (xs = ys) = t) :
    Calls Tryd.prog 30 #[v, v'] w fun e w' => ∃ v', e = .returned v' ∧ Below w.heap.size w w' ∧ v' = .bool t := by
  subst ht
  exact exSameList h h' hx hy
set_option maxRecDepth 100000 in
set_option maxHeartbeats 4000000 in
theorem exVExamples {w : World} (hT : Tabs w) :
    Calls Tryd.prog 9 #[] w fun e w' => ∃ v', e = .returned v' ∧ Below w.heap.size w w' ∧ v' = .bool true := by
  replace hT := hidd hT
  go_enter Tryd.func9, Tryd.ntmps9
  go_upto_region 1 with (fail)
  go_wp2_with fail
  refine (exVOf (z := 1) (by omega)).mono ?_
  rintro e w1 ⟨v1, rfl, hb1, hv1⟩
  go_wp2_with fail
  refine (exVOf (z := 2) (by omega)).mono ?_
  rintro e w2 ⟨v2, rfl, hb2, hv2⟩
  go_wp2_with fail
  refine (exRoots123 (hv1.mono hb2) hv2).mono ?_
  rintro e w3 ⟨v3, rfl, hb3, l, rfl, hl⟩
  have HB : Hid (Below w.heap.size w w3) := (hb1.trans (hb2.mono hb1.size)).trans (hb3.mono (Nat.le_trans hb1.size hb2.size))
  have HT : Hid (Tabs w3) := hT.out.mono HB.out
  have HL := hidd hl
  clear hb1 hb2 hb3 hv1 hv2 hl hT
  have E := Fr.start w3
  go_upto_region 2 with (fail)
  have B1 : Hid (ab ((2)) < pw 3) := ab_lit (by decide)
  have B2 : Hid (ab ((3)) < pw 3) := ab_lit (by decide)
  have B3 : Hid (ab ((4)) < pw 3) := ab_lit (by decide)
  refine region_fr (C := [Fq.num (2), Fq.num (3), Fq.num (3), Fq.num (4), Fq.tup3 (Fq.num 11) (Fq.num 12) (Fq.is (.int .i64 0)), Fq.tup3 (Fq.num 11) (Fq.num 12) (Fq.is (.int .i64 0)), Fq.num 11, Fq.num 12, Fq.is (.int .i64 0), Fq.any, Fq.any, Fq.any, Fq.any, Fq.is (.int .i64 0)]) (ks := []) (new := [⟨9, 11, 2, Fq.num 0, Fq.num 11, none⟩, ⟨10, 12, 2, Fq.num 0, Fq.num 12, none⟩]) E rfl (by kernel_rfl) rfl rfl (fun hp => ⟨?_, ?_, ?_, ?_, ?_, ?_, ?_, ?_, ?_, ?_, ?_, ?_, ?_, ?_, trivial⟩) ?_
  · exact q_call1 (F := (Fq.is (.int .i64 2)).P) hp (free_of rfl) trivial (enq_V_of) (sq_const (fun _ => rfl)) (fun v w h => (by subst h; exact exVOf (by omega)))
  · exact q_call1 (F := (Fq.is (.int .i64 3)).P) hp (free_of rfl) trivial (enq_V_of) (sq_const (fun _ => rfl)) (fun v w h => (by subst h; exact exVOf (by omega)))
  · exact q_call1 (F := (Fq.is (.int .i64 3)).P) hp (free_of rfl) trivial (enq_V_of) (sq_const (fun _ => rfl)) (fun v w h => (by subst h; exact exVOf (by omega)))
  · exact q_call1 (F := (Fq.is (.int .i64 4)).P) hp (free_of rfl) trivial (enq_V_of) (sq_const (fun _ => rfl)) (fun v w h => (by subst h; exact exVOf (by omega)))
  · exact q_call4 (F := (Fq.num (2)).P) (G := (Fq.num (3)).P) (F3 := (Fq.num (3)).P) (F4 := (Fq.num (4)).P) hp (free_of rfl) trivial (enq_M_Crt) (sq_in 0 rfl rfl (by simp) rfl (fun v w h => h)) (sq_in 1 rfl rfl (by simp) rfl (fun v w h => h)) (sq_in 2 rfl rfl (by simp) rfl (fun v w h => h)) (sq_in 3 rfl rfl (by simp) rfl (fun v w h => h)) (fun v v' u u' w h h' g g' => exCrtEx1 h h' g g')
  · exact q_move hp (free_of rfl) trivial (sq_in 4 rfl rfl (by simp) rfl (fun v w h => h))
  · exact q_extract3 hp (free_of rfl) trivial (sq_in 5 rfl rfl (by simp) rfl (fun v w h => h)) (fun v1 v2 v3 w h1 h2 h3 => ⟨_, rfl, h1⟩)
  · exact q_extract3 hp (free_of rfl) trivial (sq_in 5 rfl rfl (by simp) rfl (fun v w h => h)) (fun v1 v2 v3 w h1 h2 h3 => ⟨_, rfl, h2⟩)
  · exact q_extract3 hp (free_of rfl) trivial (sq_in 5 rfl rfl (by simp) rfl (fun v w h => h)) (fun v1 v2 v3 w h1 h2 h3 => ⟨_, rfl, h3⟩)
  · exact q_allocInt hp (List.mem_iff_getElem?.2 ⟨0, rfl⟩) rfl rfl rfl rfl (Nat.ne_of_beq_eq_false rfl) (fun _ _ => trivial) (old_ne rfl) (newk_ne rfl) (fun w => Num.zero w)
  · exact q_allocInt hp (List.mem_iff_getElem?.2 ⟨1, rfl⟩) rfl rfl rfl rfl (Nat.ne_of_beq_eq_false rfl) (fun _ _ => trivial) (old_ne rfl) (newk_ne rfl) (fun w => Num.zero w)
  · exact q_storeNewInt hp (List.mem_iff_getElem?.2 ⟨0, rfl⟩) rfl rfl rfl (own_ptr rfl rfl (by simp) rfl) (sq_in 6 rfl rfl (by simp) rfl (fun v w h => intV_num h)) (fun _ _ => trivial) (old_ne rfl) (newi_ne rfl)
  · exact q_storeNewInt hp (List.mem_iff_getElem?.2 ⟨1, rfl⟩) rfl rfl rfl (own_ptr rfl rfl (by simp) rfl) (sq_in 7 rfl rfl (by simp) rfl (fun v w h => intV_num h)) (fun _ _ => trivial) (old_ne rfl) (newi_ne rfl)
  · exact q_assign hp (free_of rfl) trivial (sq_in 8 rfl rfl (by simp) rfl (fun v w h => h))
  intro L vs w4 nb hL hC hn E4
  have e8 : vs 8 = .int .i64 0 := hC 8 (by simp)
  have e13 : vs 13 = .int .i64 0 := hC 13 (by simp)
  have e9 : vs 9 = .pointer (some ⟨nb 9, 0, none⟩) := hn _ (List.mem_iff_getElem?.2 ⟨0, rfl⟩)
  have e10 : vs 10 = .pointer (some ⟨nb 10, 0, none⟩) := hn _ (List.mem_iff_getElem?.2 ⟨1, rfl⟩)
  have E : Fr w3 [(nb 9, 2, Fq.num 11), (nb 10, 2, Fq.num 12)] w4 := E4
  rw [lay_all hL]
  simp only [putAll, dstOf, List.length_cons, List.length_nil, Nat.zero_add, Nat.reduceAdd, List.getElem?_toArray, List.getElem?_cons_zero, List.getElem?_cons_succ, Option.bind_some, Act.put, List.setIfInBounds_toArray, List.set_cons_succ, List.set_cons_zero]
  rw [e8, e13, e9, e10]
  generalize nb 9 = b4_9 at E ⊢
  generalize nb 10 = b4_10 at E ⊢
  generalize vs 0 = u4_0
  generalize vs 1 = u4_1
  generalize vs 2 = u4_2
  generalize vs 3 = u4_3
  generalize vs 4 = u4_4
  generalize vs 5 = u4_5
  generalize vs 6 = u4_6
  generalize vs 7 = u4_7
  clear e8 e13 e9 e10 hC hn E4 hL vs L nb
  go_upto_region 3 with (fail)
  have B5 : Hid (ab ((0)) < pw 3) := ab_lit (by decide)
  have B6 : Hid (ab ((1)) < pw 3) := ab_lit (by decide)
  have B7 : Hid (ab ((6)) < pw 3) := ab_lit (by decide)
  refine region_fr (C := [Fq.num (0), Fq.num (4), Fq.num (1), Fq.num (6), Fq.tup3 (Fq.num 0) (Fq.num 0) (Fq.is (.int .i64 6)), Fq.tup3 (Fq.num 0) (Fq.num 0) (Fq.is (.int .i64 6)), Fq.num 0, Fq.num 0, Fq.is (.int .i64 6), Fq.any, Fq.any, Fq.any, Fq.any, Fq.is (.int .i64 6)]) (ks := [none, none]) (new := [⟨9, 11, 2, Fq.num 0, Fq.num 0, none⟩, ⟨10, 12, 2, Fq.num 0, Fq.num 0, none⟩]) E rfl (by kernel_rfl) rfl rfl (fun hp => ⟨?_, ?_, ?_, ?_, ?_, ?_, ?_, ?_, ?_, ?_, ?_, ?_, ?_, ?_, trivial⟩) ?_
  · exact q_call1 (F := (Fq.is (.int .i64 0)).P) hp (free_of rfl) trivial (enq_V_of) (sq_const (fun _ => rfl)) (fun v w h => (by subst h; exact exVOf (by omega)))
  · exact q_call1 (F := (Fq.is (.int .i64 4)).P) hp (free_of rfl) trivial (enq_V_of) (sq_const (fun _ => rfl)) (fun v w h => (by subst h; exact exVOf (by omega)))
  · exact q_call1 (F := (Fq.is (.int .i64 1)).P) hp (free_of rfl) trivial (enq_V_of) (sq_const (fun _ => rfl)) (fun v w h => (by subst h; exact exVOf (by omega)))
  · exact q_call1 (F := (Fq.is (.int .i64 6)).P) hp (free_of rfl) trivial (enq_V_of) (sq_const (fun _ => rfl)) (fun v w h => (by subst h; exact exVOf (by omega)))
  · exact q_call4 (F := (Fq.num (0)).P) (G := (Fq.num (4)).P) (F3 := (Fq.num (1)).P) (F4 := (Fq.num (6)).P) hp (free_of rfl) trivial (enq_M_Crt) (sq_in 0 rfl rfl (by simp) rfl (fun v w h => h)) (sq_in 1 rfl rfl (by simp) rfl (fun v w h => h)) (sq_in 2 rfl rfl (by simp) rfl (fun v w h => h)) (sq_in 3 rfl rfl (by simp) rfl (fun v w h => h)) (fun v v' u u' w h h' g g' => exCrtEx2 h h' g g')
  · exact q_move hp (free_of rfl) trivial (sq_in 4 rfl rfl (by simp) rfl (fun v w h => h))
  · exact q_extract3 hp (free_of rfl) trivial (sq_in 5 rfl rfl (by simp) rfl (fun v w h => h)) (fun v1 v2 v3 w h1 h2 h3 => ⟨_, rfl, h1⟩)
  · exact q_extract3 hp (free_of rfl) trivial (sq_in 5 rfl rfl (by simp) rfl (fun v w h => h)) (fun v1 v2 v3 w h1 h2 h3 => ⟨_, rfl, h2⟩)
  · exact q_extract3 hp (free_of rfl) trivial (sq_in 5 rfl rfl (by simp) rfl (fun v w h => h)) (fun v1 v2 v3 w h1 h2 h3 => ⟨_, rfl, h3⟩)
  · exact q_allocInt hp (List.mem_iff_getElem?.2 ⟨0, rfl⟩) rfl rfl rfl rfl (Nat.ne_of_beq_eq_false rfl) (fun _ _ => trivial) (old_ne rfl) (newk_ne rfl) (fun w => Num.zero w)
  · exact q_allocInt hp (List.mem_iff_getElem?.2 ⟨1, rfl⟩) rfl rfl rfl rfl (Nat.ne_of_beq_eq_false rfl) (fun _ _ => trivial) (old_ne rfl) (newk_ne rfl) (fun w => Num.zero w)
  · exact q_storeNewInt hp (List.mem_iff_getElem?.2 ⟨0, rfl⟩) rfl rfl rfl (own_ptr rfl rfl (by simp) rfl) (sq_in 6 rfl rfl (by simp) rfl (fun v w h => intV_num h)) (fun _ _ => trivial) (old_ne rfl) (newi_ne rfl)
  · exact q_storeNewInt hp (List.mem_iff_getElem?.2 ⟨1, rfl⟩) rfl rfl rfl (own_ptr rfl rfl (by simp) rfl) (sq_in 7 rfl rfl (by simp) rfl (fun v w h => intV_num h)) (fun _ _ => trivial) (old_ne rfl) (newi_ne rfl)
  · exact q_assign hp (free_of rfl) trivial (sq_in 8 rfl rfl (by simp) rfl (fun v w h => h))
  intro L vs w8 nb hL hC hn E8
  have e8 : vs 8 = .int .i64 6 := hC 8 (by simp)
  have e13 : vs 13 = .int .i64 6 := hC 13 (by simp)
  have e9 : vs 9 = .pointer (some ⟨nb 9, 0, none⟩) := hn _ (List.mem_iff_getElem?.2 ⟨0, rfl⟩)
  have e10 : vs 10 = .pointer (some ⟨nb 10, 0, none⟩) := hn _ (List.mem_iff_getElem?.2 ⟨1, rfl⟩)
  have E : Fr w3 [(nb 9, 2, Fq.num 0), (nb 10, 2, Fq.num 0), (b4_9, 2, Fq.num 11), (b4_10, 2, Fq.num 12)] w8 := E8
  rw [lay_all hL]
  simp only [putAll, dstOf, List.length_cons, List.length_nil, Nat.zero_add, Nat.reduceAdd, List.getElem?_toArray, List.getElem?_cons_zero, List.getElem?_cons_succ, Option.bind_some, Act.put, List.setIfInBounds_toArray, List.set_cons_succ, List.set_cons_zero]
  rw [e8, e13, e9, e10]
  generalize nb 9 = b8_9 at E ⊢
  generalize nb 10 = b8_10 at E ⊢
  generalize vs 0 = u8_0
  generalize vs 1 = u8_1
  generalize vs 2 = u8_2
  generalize vs 3 = u8_3
  generalize vs 4 = u8_4
  generalize vs 5 = u8_5
  generalize vs 6 = u8_6
  generalize vs 7 = u8_7
  clear e8 e13 e9 e10 hC hn E8 hL vs L nb
  go_upto_region 4 with (fail)
  refine region_fr (C := [Fq.num (2), Fq.num (4), Fq.got 0 4, Fq.any, Fq.any]) (ks := [none, none, none, none]) (new := [⟨3, 4, 3, Fq.got 0 0, Fq.got 0 4, none⟩]) E rfl (by kernel_rfl) rfl rfl (fun hp => ⟨?_, ?_, ?_, ?_, ?_, trivial⟩) ?_
  · exact q_call1 (F := (Fq.is (.int .i64 2)).P) hp (free_of rfl) trivial (enq_V_of) (sq_const (fun _ => rfl)) (fun v w h => (by subst h; exact exVOf (by omega)))
  · exact q_call1 (F := (Fq.is (.int .i64 4)).P) hp (free_of rfl) trivial (enq_V_of) (sq_const (fun _ => rfl)) (fun v w h => (by subst h; exact exVOf (by omega)))
  · exact q_call2 (F := (Fq.num (2)).P) (G := (Fq.num (4)).P) hp (free_of rfl) trivial (enq_V_inv) (sq_in 0 rfl rfl (by simp) rfl (fun v w h => h)) (sq_in 1 rfl rfl (by simp) rfl (fun v w h => h)) (fun v v' w h h' => exInv24 h h')
  · exact q_allocGot hp (List.mem_iff_getElem?.2 ⟨0, rfl⟩) rfl rfl rfl rfl (Nat.ne_of_beq_eq_false rfl) (fun _ _ => trivial) (old_ne rfl) (newk_ne rfl) (fun w => Got.zero w)
  · exact q_storeNewGot hp (List.mem_iff_getElem?.2 ⟨0, rfl⟩) rfl rfl rfl (own_ptr rfl rfl (by simp) rfl) (sq_in 2 rfl rfl (by simp) rfl (fun v w h => h.partsV)) (fun _ _ => trivial) (old_ne rfl) (newi_ne rfl)
  intro L vs w9 nb hL hC hn E9
  have e3 : vs 3 = .pointer (some ⟨nb 3, 0, none⟩) := hn _ (List.mem_iff_getElem?.2 ⟨0, rfl⟩)
  have E : Fr w3 [(nb 3, 3, Fq.got 0 4), (b8_9, 2, Fq.num 0), (b8_10, 2, Fq.num 0), (b4_9, 2, Fq.num 11), (b4_10, 2, Fq.num 12)] w9 := E9
  rw [lay_all hL]
  simp only [putAll, dstOf, List.length_cons, List.length_nil, Nat.zero_add, Nat.reduceAdd, List.getElem?_toArray, List.getElem?_cons_zero, List.getElem?_cons_succ, Option.bind_some, Act.put, List.setIfInBounds_toArray, List.set_cons_succ, List.set_cons_zero]
  rw [e3]
  generalize nb 3 = b9_3 at E ⊢
  generalize vs 0 = u9_0
  generalize vs 1 = u9_1
  generalize vs 2 = u9_2
  clear e3 hC hn E9 hL vs L nb
  go_upto_region 5 with (fail)
  have B10 : Hid (ab ((11)) < pw 3) := ab_lit (by decide)
  have B11 : Hid (ab ((12)) < pw 3) := ab_lit (by decide)
  refine region_fr (C := [Fq.is (.int .i64 0), Fq.is (.bool false), Fq.is (.bool false), Fq.is (.int .i64 0), Fq.is (.bool false), Fq.is (.bool false), Fq.is (.bool false), Fq.is (.int .i64 6), Fq.is (.bool false), Fq.is (.bool false), Fq.is (.bool false), Fq.is (.pointer (some ⟨b9_3, 2, none⟩)), Fq.is (.int .i64 4), Fq.is (.bool false), Fq.is (.bool false), Fq.is (.bool false), Fq.num 11, Fq.num (11), Fq.is (.bool true), Fq.is (.bool false), Fq.is (.bool false), Fq.is (.bool false), Fq.num 12, Fq.num (12), Fq.is (.bool true), Fq.is (.bool false), Fq.is (.bool false)]) (ks := [none, none, none, none, none]) (new := []) E rfl (by kernel_rfl) rfl rfl (fun hp => ⟨?_, ?_, ?_, ?_, ?_, ?_, ?_, ?_, ?_, ?_, ?_, ?_, ?_, ?_, ?_, ?_, ?_, ?_, ?_, ?_, ?_, ?_, ?_, ?_, ?_, ?_, ?_, trivial⟩) ?_
  · exact q_move hp (free_of rfl) trivial (sq_out rfl rfl (fun _ _ => rfl))
  · exact q_one (F := fun v _ => v = .int .i64 0) hp (free_of rfl) trivial (sq_in 0 rfl rfl (by simp) rfl (fun v w h => h)) (fun ρ w hc h => ⟨.bool false, by simp [execOp, go_sem, h, hc], rfl⟩)
  · exact q_move hp (free_of rfl) trivial (sq_in 1 rfl rfl (by simp) rfl (fun v w h => h))
  · exact q_move hp (free_of rfl) (gq_some rfl rfl (by simp) rfl (fun v w h => h)) (sq_out rfl rfl (fun _ _ => rfl))
  · exact q_one (F := fun v _ => v = .int .i64 0) hp (free_of rfl) (gq_some rfl rfl (by simp) rfl (fun v w h => h)) (sq_in 3 rfl rfl (by simp) rfl (fun v w h => h)) (fun ρ w hc h => ⟨.bool false, by simp [execOp, go_sem, h, hc], rfl⟩)
  · exact q_two (F := fun v _ => v = .bool false) (G := fun v _ => v = .bool false) hp (free_of rfl) trivial (sq_in 2 rfl rfl (by simp) rfl (fun v w h => h)) (sq_in 4 rfl rfl (by simp) rfl (fun v w h => h)) (fun ρ w hc h h' => ⟨_, by simp [execOp, go_sem, h, h'], rfl⟩)
  · exact q_move hp (free_of rfl) trivial (sq_in 5 rfl rfl (by simp) rfl (fun v w h => h))
  · exact q_move hp (free_of rfl) (gq_some rfl rfl (by simp) rfl (fun v w h => h)) (sq_out rfl rfl (fun _ _ => rfl))
  · exact q_one (F := fun v _ => v = .int .i64 6) hp (free_of rfl) (gq_some rfl rfl (by simp) rfl (fun v w h => h)) (sq_in 7 rfl rfl (by simp) rfl (fun v w h => h)) (fun ρ w hc h => ⟨.bool false, by simp [execOp, go_sem, h, hc], rfl⟩)
  · exact q_two (F := fun v _ => v = .bool false) (G := fun v _ => v = .bool false) hp (free_of rfl) trivial (sq_in 6 rfl rfl (by simp) rfl (fun v w h => h)) (sq_in 8 rfl rfl (by simp) rfl (fun v w h => h)) (fun ρ w hc h h' => ⟨_, by simp [execOp, go_sem, h, h'], rfl⟩)
  · exact q_move hp (free_of rfl) trivial (sq_in 9 rfl rfl (by simp) rfl (fun v w h => h))
  · exact q_addr (b := b9_3) (off := 0) (off' := 2) hp (free_of rfl) (gq_some rfl rfl (by simp) rfl (fun v w h => h)) (sq_out rfl rfl (fun _ _ => rfl)) (fun ρ w h => by simp [execOp, go_sem, h]) (fun _ => rfl)
  · exact q_loadErr (r := 4) hp (free_of rfl) (gq_some rfl rfl (by simp) rfl (fun v w h => h)) (List.mem_iff_getElem?.2 ⟨0, rfl⟩) (.inl rfl) rfl (sq_in 11 rfl rfl (by simp) rfl (fun v w h => h)) (fun us w hl h => ld_got2 hl h) (fun _ => rfl)
  · exact q_one (F := fun v _ => v = .int .i64 4) hp (free_of rfl) (gq_some rfl rfl (by simp) rfl (fun v w h => h)) (sq_in 12 rfl rfl (by simp) rfl (fun v w h => h)) (fun ρ w hc h => ⟨.bool false, by simp [execOp, go_sem, h, hc], rfl⟩)
  · exact q_two (F := fun v _ => v = .bool false) (G := fun v _ => v = .bool false) hp (free_of rfl) trivial (sq_in 10 rfl rfl (by simp) rfl (fun v w h => h)) (sq_in 13 rfl rfl (by simp) rfl (fun v w h => h)) (fun ρ w hc h h' => ⟨_, by simp [execOp, go_sem, h, h'], rfl⟩)
  · exact q_move hp (free_of rfl) trivial (sq_in 14 rfl rfl (by simp) rfl (fun v w h => h))
  · exact q_loadInt (off := 0) hp (free_of rfl) (gq_some rfl rfl (by simp) rfl (fun v w h => h)) (List.mem_iff_getElem?.2 ⟨3, rfl⟩) (.inl rfl) (Nat.le_of_ble_eq_true rfl) (sq_out rfl rfl (fun _ _ => rfl)) (fun us w hl h => ld_num hl h)
  · exact q_call1 (F := (Fq.is (.int .i64 11)).P) hp (free_of rfl) (gq_some rfl rfl (by simp) rfl (fun v w h => h)) (enq_V_of) (sq_const (fun _ => rfl)) (fun v w h => (by subst h; exact exVOf (by omega)))
  · exact q_call2 (F := (Fq.num 11).P) (G := (Fq.num (11)).P) hp (free_of rfl) (gq_some rfl rfl (by simp) rfl (fun v w h => h)) (enq_R_Same) (sq_in 16 rfl rfl (by simp) rfl (fun v w h => h)) (sq_in 17 rfl rfl (by simp) rfl (fun v w h => h)) (fun v v' w h h' => exRSameB h h' (by decide))
  · exact q_one (F := fun v _ => v = .bool true) hp (free_of rfl) (gq_some rfl rfl (by simp) rfl (fun v w h => h)) (sq_in 18 rfl rfl (by simp) rfl (fun v w h => h)) (fun ρ w _ h => ⟨.bool false, by simp [execOp, go_sem, h], rfl⟩)
  · exact q_two (F := fun v _ => v = .bool false) (G := fun v _ => v = .bool false) hp (free_of rfl) trivial (sq_in 15 rfl rfl (by simp) rfl (fun v w h => h)) (sq_in 19 rfl rfl (by simp) rfl (fun v w h => h)) (fun ρ w hc h h' => ⟨_, by simp [execOp, go_sem, h, h'], rfl⟩)
  · exact q_move hp (free_of rfl) trivial (sq_in 20 rfl rfl (by simp) rfl (fun v w h => h))
  · exact q_loadInt (off := 0) hp (free_of rfl) (gq_some rfl rfl (by simp) rfl (fun v w h => h)) (List.mem_iff_getElem?.2 ⟨4, rfl⟩) (.inl rfl) (Nat.le_of_ble_eq_true rfl) (sq_out rfl rfl (fun _ _ => rfl)) (fun us w hl h => ld_num hl h)
  · exact q_call1 (F := (Fq.is (.int .i64 12)).P) hp (free_of rfl) (gq_some rfl rfl (by simp) rfl (fun v w h => h)) (enq_V_of) (sq_const (fun _ => rfl)) (fun v w h => (by subst h; exact exVOf (by omega)))
  · exact q_call2 (F := (Fq.num 12).P) (G := (Fq.num (12)).P) hp (free_of rfl) (gq_some rfl rfl (by simp) rfl (fun v w h => h)) (enq_R_Same) (sq_in 22 rfl rfl (by simp) rfl (fun v w h => h)) (sq_in 23 rfl rfl (by simp) rfl (fun v w h => h)) (fun v v' w h h' => exRSameB h h' (by decide))
  · exact q_one (F := fun v _ => v = .bool true) hp (free_of rfl) (gq_some rfl rfl (by simp) rfl (fun v w h => h)) (sq_in 24 rfl rfl (by simp) rfl (fun v w h => h)) (fun ρ w _ h => ⟨.bool false, by simp [execOp, go_sem, h], rfl⟩)
  · exact q_two (F := fun v _ => v = .bool false) (G := fun v _ => v = .bool false) hp (free_of rfl) trivial (sq_in 21 rfl rfl (by simp) rfl (fun v w h => h)) (sq_in 25 rfl rfl (by simp) rfl (fun v w h => h)) (fun ρ w hc h h' => ⟨_, by simp [execOp, go_sem, h, h'], rfl⟩)
  intro L vs w12 nb hL hC hn E12
  have e0 : vs 0 = .int .i64 0 := hC 0 (by simp)
  have e1 : vs 1 = .bool false := hC 1 (by simp)
  have e2 : vs 2 = .bool false := hC 2 (by simp)
  have e3 : vs 3 = .int .i64 0 := hC 3 (by simp)
  have e4 : vs 4 = .bool false := hC 4 (by simp)
  have e5 : vs 5 = .bool false := hC 5 (by simp)
  have e6 : vs 6 = .bool false := hC 6 (by simp)
  have e7 : vs 7 = .int .i64 6 := hC 7 (by simp)
  have e8 : vs 8 = .bool false := hC 8 (by simp)
  have e9 : vs 9 = .bool false := hC 9 (by simp)
  have e10 : vs 10 = .bool false := hC 10 (by simp)
  have e11 : vs 11 = .pointer (some ⟨b9_3, 2, none⟩) := hC 11 (by simp)
  have e12 : vs 12 = .int .i64 4 := hC 12 (by simp)
  have e13 : vs 13 = .bool false := hC 13 (by simp)
  have e14 : vs 14 = .bool false := hC 14 (by simp)
  have e15 : vs 15 = .bool false := hC 15 (by simp)
  have e18 : vs 18 = .bool true := hC 18 (by simp)
  have e19 : vs 19 = .bool false := hC 19 (by simp)
  have e20 : vs 20 = .bool false := hC 20 (by simp)
  have e21 : vs 21 = .bool false := hC 21 (by simp)
  have e24 : vs 24 = .bool true := hC 24 (by simp)
  have e25 : vs 25 = .bool false := hC 25 (by simp)
  have e26 : vs 26 = .bool false := hC 26 (by simp)
  have E : Fr w3 [(b9_3, 3, Fq.got 0 4), (b8_9, 2, Fq.num 0), (b8_10, 2, Fq.num 0), (b4_9, 2, Fq.num 11), (b4_10, 2, Fq.num 12)] w12 := E12
  rw [lay_all hL]
  simp only [putAll, dstOf, List.length_cons, List.length_nil, Nat.zero_add, Nat.reduceAdd, List.getElem?_toArray, List.getElem?_cons_zero, List.getElem?_cons_succ, Option.bind_some, Act.put, List.setIfInBounds_toArray, List.set_cons_succ, List.set_cons_zero]
  rw [e0, e1, e2, e3, e4, e5, e6, e7, e8, e9, e10, e11, e12, e13, e14, e15, e18, e19, e20, e21, e24, e25, e26]
  generalize vs 16 = u12_16
  generalize vs 17 = u12_17
  generalize vs 22 = u12_22
  generalize vs 23 = u12_23
  clear e0 e1 e2 e3 e4 e5 e6 e7 e8 e9 e10 e11 e12 e13 e14 e15 e18 e19 e20 e21 e24 e25 e26 hC hn E12 hL vs L nb
  go_upto_region 7 with (fail)
  have B13 : Hid (ab ((7)) < pw 3) := ab_lit (by decide)
  have B14 : Hid (ab ((-1)) < pw 3) := ab_lit (by decide)
  have B15 : Hid (ab ((5)) < pw 3) := ab_lit (by decide)
  refine region_fr (C := [Fq.num (2), Fq.num (7), Fq.is (.int .i64 1), Fq.is (.bool true), Fq.is (.bool true), Fq.num (2), Fq.num (3), Fq.is (.int .i64 (-1)), Fq.is (.bool true), Fq.is (.bool true), Fq.is (.bool true), Fq.num (-1), Fq.num (-1), Fq.is (.int .i64 (-1)), Fq.is (.bool true), Fq.is (.bool true), Fq.is (.bool true), Fq.num (5), Fq.num (0), Fq.is (.int .i64 0), Fq.is (.bool true), Fq.is (.bool true), Fq.is (.bool true)]) (ks := [none, none, none, none, none]) (new := []) E rfl (by kernel_rfl) rfl rfl (fun hp => ⟨?_, ?_, ?_, ?_, ?_, ?_, ?_, ?_, ?_, ?_, ?_, ?_, ?_, ?_, ?_, ?_, ?_, ?_, ?_, ?_, ?_, ?_, ?_, trivial⟩) ?_
  · exact q_call1 (F := (Fq.is (.int .i64 2)).P) hp (free_of rfl) trivial (enq_V_of) (sq_const (fun _ => rfl)) (fun v w h => (by subst h; exact exVOf (by omega)))
  · exact q_call1 (F := (Fq.is (.int .i64 7)).P) hp (free_of rfl) trivial (enq_V_of) (sq_const (fun _ => rfl)) (fun v w h => (by subst h; exact exVOf (by omega)))
  · exact q_call2W (F := (Fq.num (2)).P) (G := (Fq.num (7)).P) hp (free_of rfl) trivial (enq_M_Kronecker) rfl (sq_in 0 rfl rfl (by simp) rfl (fun v w h => h)) (sq_in 1 rfl rfl (by simp) rfl (fun v w h => h)) (fun v v' w hbw h h' => exKronL h h' (HT.out.mono hbw) B1.out B13.out kron_2_7)
  · exact q_one (F := fun v _ => v = .int .i64 1) hp (free_of rfl) trivial (sq_in 2 rfl rfl (by simp) rfl (fun v w h => h)) (fun ρ w hc h => ⟨.bool true, by simp [execOp, go_sem, h, hc], rfl⟩)
  · exact q_move hp (free_of rfl) trivial (sq_in 3 rfl rfl (by simp) rfl (fun v w h => h))
  · exact q_call1 (F := (Fq.is (.int .i64 2)).P) hp (free_of rfl) (gq_some rfl rfl (by simp) rfl (fun v w h => h)) (enq_V_of) (sq_const (fun _ => rfl)) (fun v w h => (by subst h; exact exVOf (by omega)))
  · exact q_call1 (F := (Fq.is (.int .i64 3)).P) hp (free_of rfl) (gq_some rfl rfl (by simp) rfl (fun v w h => h)) (enq_V_of) (sq_const (fun _ => rfl)) (fun v w h => (by subst h; exact exVOf (by omega)))
  · exact q_call2W (F := (Fq.num (2)).P) (G := (Fq.num (3)).P) hp (free_of rfl) (gq_some rfl rfl (by simp) rfl (fun v w h => h)) (enq_M_Kronecker) rfl (sq_in 5 rfl rfl (by simp) rfl (fun v w h => h)) (sq_in 6 rfl rfl (by simp) rfl (fun v w h => h)) (fun v v' w hbw h h' => exKronL h h' (HT.out.mono hbw) B1.out B2.out kron_2_3)
  · exact q_one (F := fun v _ => v = .int .i64 (-1)) hp (free_of rfl) (gq_some rfl rfl (by simp) rfl (fun v w h => h)) (sq_in 7 rfl rfl (by simp) rfl (fun v w h => h)) (fun ρ w hc h => ⟨.bool true, by simp [execOp, go_sem, h, hc], rfl⟩)
  · exact q_two (F := fun v _ => v = .bool true) (G := fun v _ => v = .bool true) hp (free_of rfl) trivial (sq_in 4 rfl rfl (by simp) rfl (fun v w h => h)) (sq_in 8 rfl rfl (by simp) rfl (fun v w h => h)) (fun ρ w hc h h' => ⟨_, by simp [execOp, go_sem, h, h'], rfl⟩)
  · exact q_move hp (free_of rfl) trivial (sq_in 9 rfl rfl (by simp) rfl (fun v w h => h))
  · exact q_call1 (F := (Fq.is (.int .i64 (-1))).P) hp (free_of rfl) (gq_some rfl rfl (by simp) rfl (fun v w h => h)) (enq_V_of) (sq_const (fun _ => rfl)) (fun v w h => (by subst h; exact exVOf (by omega)))
  · exact q_call1 (F := (Fq.is (.int .i64 (-1))).P) hp (free_of rfl) (gq_some rfl rfl (by simp) rfl (fun v w h => h)) (enq_V_of) (sq_const (fun _ => rfl)) (fun v w h => (by subst h; exact exVOf (by omega)))
  · exact q_call2W (F := (Fq.num (-1)).P) (G := (Fq.num (-1)).P) hp (free_of rfl) (gq_some rfl rfl (by simp) rfl (fun v w h => h)) (enq_M_Kronecker) rfl (sq_in 11 rfl rfl (by simp) rfl (fun v w h => h)) (sq_in 12 rfl rfl (by simp) rfl (fun v w h => h)) (fun v v' w hbw h h' => exKronL h h' (HT.out.mono hbw) B14.out B14.out kron_m1_m1)
  · exact q_one (F := fun v _ => v = .int .i64 (-1)) hp (free_of rfl) (gq_some rfl rfl (by simp) rfl (fun v w h => h)) (sq_in 13 rfl rfl (by simp) rfl (fun v w h => h)) (fun ρ w hc h => ⟨.bool true, by simp [execOp, go_sem, h, hc], rfl⟩)
  · exact q_two (F := fun v _ => v = .bool true) (G := fun v _ => v = .bool true) hp (free_of rfl) trivial (sq_in 10 rfl rfl (by simp) rfl (fun v w h => h)) (sq_in 14 rfl rfl (by simp) rfl (fun v w h => h)) (fun ρ w hc h h' => ⟨_, by simp [execOp, go_sem, h, h'], rfl⟩)
  · exact q_move hp (free_of rfl) trivial (sq_in 15 rfl rfl (by simp) rfl (fun v w h => h))
  · exact q_call1 (F := (Fq.is (.int .i64 5)).P) hp (free_of rfl) (gq_some rfl rfl (by simp) rfl (fun v w h => h)) (enq_V_of) (sq_const (fun _ => rfl)) (fun v w h => (by subst h; exact exVOf (by omega)))
  · exact q_call1 (F := (Fq.is (.int .i64 0)).P) hp (free_of rfl) (gq_some rfl rfl (by simp) rfl (fun v w h => h)) (enq_V_of) (sq_const (fun _ => rfl)) (fun v w h => (by subst h; exact exVOf (by omega)))
  · exact q_call2W (F := (Fq.num (5)).P) (G := (Fq.num (0)).P) hp (free_of rfl) (gq_some rfl rfl (by simp) rfl (fun v w h => h)) (enq_M_Kronecker) rfl (sq_in 17 rfl rfl (by simp) rfl (fun v w h => h)) (sq_in 18 rfl rfl (by simp) rfl (fun v w h => h)) (fun v v' w hbw h h' => exKronL h h' (HT.out.mono hbw) B15.out B5.out kron_5_0)
  · exact q_one (F := fun v _ => v = .int .i64 0) hp (free_of rfl) (gq_some rfl rfl (by simp) rfl (fun v w h => h)) (sq_in 19 rfl rfl (by simp) rfl (fun v w h => h)) (fun ρ w hc h => ⟨.bool true, by simp [execOp, go_sem, h, hc], rfl⟩)
  · exact q_two (F := fun v _ => v = .bool true) (G := fun v _ => v = .bool true) hp (free_of rfl) trivial (sq_in 16 rfl rfl (by simp) rfl (fun v w h => h)) (sq_in 20 rfl rfl (by simp) rfl (fun v w h => h)) (fun ρ w hc h h' => ⟨_, by simp [execOp, go_sem, h, h'], rfl⟩)
  · exact q_assign hp (free_of rfl) trivial (sq_in 21 rfl rfl (by simp) rfl (fun v w h => h))
  intro L vs w16 nb hL hC hn E16
  have e2 : vs 2 = .int .i64 1 := hC 2 (by simp)
  have e3 : vs 3 = .bool true := hC 3 (by simp)
  have e4 : vs 4 = .bool true := hC 4 (by simp)
  have e7 : vs 7 = .int .i64 (-1) := hC 7 (by simp)
  have e8 : vs 8 = .bool true := hC 8 (by simp)
  have e9 : vs 9 = .bool true := hC 9 (by simp)
  have e10 : vs 10 = .bool true := hC 10 (by simp)
  have e13 : vs 13 = .int .i64 (-1) := hC 13 (by simp)
  have e14 : vs 14 = .bool true := hC 14 (by simp)
  have e15 : vs 15 = .bool true := hC 15 (by simp)
  have e16 : vs 16 = .bool true := hC 16 (by simp)
  have e19 : vs 19 = .int .i64 0 := hC 19 (by simp)
  have e20 : vs 20 = .bool true := hC 20 (by simp)
  have e21 : vs 21 = .bool true := hC 21 (by simp)
  have e22 : vs 22 = .bool true := hC 22 (by simp)
  have E : Fr w3 [(b9_3, 3, Fq.got 0 4), (b8_9, 2, Fq.num 0), (b8_10, 2, Fq.num 0), (b4_9, 2, Fq.num 11), (b4_10, 2, Fq.num 12)] w16 := E16
  rw [lay_all hL]
  simp only [putAll, dstOf, List.length_cons, List.length_nil, Nat.zero_add, Nat.reduceAdd, List.getElem?_toArray, List.getElem?_cons_zero, List.getElem?_cons_succ, Option.bind_some, Act.put, List.setIfInBounds_toArray, List.set_cons_succ, List.set_cons_zero]
  rw [e2, e3, e4, e7, e8, e9, e10, e13, e14, e15, e16, e19, e20, e21, e22]
  generalize vs 0 = u16_0
  generalize vs 1 = u16_1
  generalize vs 5 = u16_5
  generalize vs 6 = u16_6
  generalize vs 11 = u16_11
  generalize vs 12 = u16_12
  generalize vs 17 = u16_17
  generalize vs 18 = u16_18
  clear e2 e3 e4 e7 e8 e9 e10 e13 e14 e15 e16 e19 e20 e21 e22 hC hn E16 hL vs L nb
  go_upto_region 8 with (fail)
  have B17 : Hid (ab ((9)) < pw 3) := ab_lit (by decide)
  refine region_fr (C := [Fq.is (.bool true), Fq.is (.bool true), Fq.num (3), Fq.num (7), Fq.got 5 0, Fq.is (.bool true), Fq.is (.bool true), Fq.is (.bool true), Fq.num (2), Fq.num (-1), Fq.num (9), Fq.got 5 0, Fq.is (.bool true), Fq.is (.bool true), Fq.is (.bool true), Fq.num (2), Fq.num (7), Fq.got 3 0, Fq.is (.bool true), Fq.is (.bool true), Fq.is (.bool true), Fq.is (l), Fq.num (1), Fq.num (3), Fq.num (5), Fq.num (7), Fq.any, Fq.is (.bool true), Fq.is (.bool true), Fq.is (.bool true)]) (ks := [none, none, none, none, none]) (new := [⟨26, 26, 8, Fq.ints [(1), (3), (5), (7)], Fq.ints [(1), (3), (5), (7)], (some 4)⟩]) E rfl (by kernel_rfl) rfl rfl (fun hp => ⟨?_, ?_, ?_, ?_, ?_, ?_, ?_, ?_, ?_, ?_, ?_, ?_, ?_, ?_, ?_, ?_, ?_, ?_, ?_, ?_, ?_, ?_, ?_, ?_, ?_, ?_, ?_, ?_, ?_, ?_, trivial⟩) ?_
  · exact q_move hp (free_of rfl) trivial (sq_out rfl rfl (fun _ _ => rfl))
  · exact q_move hp (free_of rfl) trivial (sq_in 0 rfl rfl (by simp) rfl (fun v w h => h))
  · exact q_call1 (F := (Fq.is (.int .i64 3)).P) hp (free_of rfl) (gq_some rfl rfl (by simp) rfl (fun v w h => h)) (enq_V_of) (sq_const (fun _ => rfl)) (fun v w h => (by subst h; exact exVOf (by omega)))
  · exact q_call1 (F := (Fq.is (.int .i64 7)).P) hp (free_of rfl) (gq_some rfl rfl (by simp) rfl (fun v w h => h)) (enq_V_of) (sq_const (fun _ => rfl)) (fun v w h => (by subst h; exact exVOf (by omega)))
  · exact q_call2 (F := (Fq.num (3)).P) (G := (Fq.num (7)).P) hp (free_of rfl) (gq_some rfl rfl (by simp) rfl (fun v w h => h)) (enq_V_inv) (sq_in 2 rfl rfl (by simp) rfl (fun v w h => h)) (sq_in 3 rfl rfl (by simp) rfl (fun v w h => h)) (fun v v' w h h' => exInv37 h h')
  · exact q_call2 (F := (Fq.got 5 0).P) (G := (Fq.is (.int .i64 5)).P) hp (free_of rfl) (gq_some rfl rfl (by simp) rfl (fun v w h => h)) (enq_V_is) (sq_in 4 rfl rfl (by simp) rfl (fun v w h => h)) (sq_const (fun _ => rfl)) (fun v v' w h h' => (by subst h'; exact exVIs h (by omega) rfl (by decide)))
  · exact q_two (F := fun v _ => v = .bool true) (G := fun v _ => v = .bool true) hp (free_of rfl) trivial (sq_in 1 rfl rfl (by simp) rfl (fun v w h => h)) (sq_in 5 rfl rfl (by simp) rfl (fun v w h => h)) (fun ρ w hc h h' => ⟨_, by simp [execOp, go_sem, h, h'], rfl⟩)
  · exact q_move hp (free_of rfl) trivial (sq_in 6 rfl rfl (by simp) rfl (fun v w h => h))
  · exact q_call1 (F := (Fq.is (.int .i64 2)).P) hp (free_of rfl) (gq_some rfl rfl (by simp) rfl (fun v w h => h)) (enq_V_of) (sq_const (fun _ => rfl)) (fun v w h => (by subst h; exact exVOf (by omega)))
  · exact q_call1 (F := (Fq.is (.int .i64 (-1))).P) hp (free_of rfl) (gq_some rfl rfl (by simp) rfl (fun v w h => h)) (enq_V_of) (sq_const (fun _ => rfl)) (fun v w h => (by subst h; exact exVOf (by omega)))
  · exact q_call1 (F := (Fq.is (.int .i64 9)).P) hp (free_of rfl) (gq_some rfl rfl (by simp) rfl (fun v w h => h)) (enq_V_of) (sq_const (fun _ => rfl)) (fun v w h => (by subst h; exact exVOf (by omega)))
  · exact q_call3 (F := (Fq.num (2)).P) (G := (Fq.num (-1)).P) (F3 := (Fq.num (9)).P) hp (free_of rfl) (gq_some rfl rfl (by simp) rfl (fun v w h => h)) (enq_V_pow) (sq_in 8 rfl rfl (by simp) rfl (fun v w h => h)) (sq_in 9 rfl rfl (by simp) rfl (fun v w h => h)) (sq_in 10 rfl rfl (by simp) rfl (fun v w h => h)) (fun v v' u w h h' g => exPow219 h h' g)
  · exact q_call2 (F := (Fq.got 5 0).P) (G := (Fq.is (.int .i64 5)).P) hp (free_of rfl) (gq_some rfl rfl (by simp) rfl (fun v w h => h)) (enq_V_is) (sq_in 11 rfl rfl (by simp) rfl (fun v w h => h)) (sq_const (fun _ => rfl)) (fun v v' w h h' => (by subst h'; exact exVIs h (by omega) rfl (by decide)))
  · exact q_two (F := fun v _ => v = .bool true) (G := fun v _ => v = .bool true) hp (free_of rfl) trivial (sq_in 7 rfl rfl (by simp) rfl (fun v w h => h)) (sq_in 12 rfl rfl (by simp) rfl (fun v w h => h)) (fun ρ w hc h h' => ⟨_, by simp [execOp, go_sem, h, h'], rfl⟩)
  · exact q_move hp (free_of rfl) trivial (sq_in 13 rfl rfl (by simp) rfl (fun v w h => h))
  · exact q_call1 (F := (Fq.is (.int .i64 2)).P) hp (free_of rfl) (gq_some rfl rfl (by simp) rfl (fun v w h => h)) (enq_V_of) (sq_const (fun _ => rfl)) (fun v w h => (by subst h; exact exVOf (by omega)))
  · exact q_call1 (F := (Fq.is (.int .i64 7)).P) hp (free_of rfl) (gq_some rfl rfl (by simp) rfl (fun v w h => h)) (enq_V_of) (sq_const (fun _ => rfl)) (fun v w h => (by subst h; exact exVOf (by omega)))
  · exact q_call2W (F := (Fq.num (2)).P) (G := (Fq.num (7)).P) hp (free_of rfl) (gq_some rfl rfl (by simp) rfl (fun v w h => h)) (enq_V_root) rfl (sq_in 15 rfl rfl (by simp) rfl (fun v w h => h)) (sq_in 16 rfl rfl (by simp) rfl (fun v w h => h)) (fun v v' w hbw h h' => exRoot27 h h' (HT.out.mono hbw))
  · exact q_call2 (F := (Fq.got 3 0).P) (G := (Fq.is (.int .i64 3)).P) hp (free_of rfl) (gq_some rfl rfl (by simp) rfl (fun v w h => h)) (enq_V_is) (sq_in 17 rfl rfl (by simp) rfl (fun v w h => h)) (sq_const (fun _ => rfl)) (fun v v' w h h' => (by subst h'; exact exVIs h (by omega) rfl (by decide)))
  · exact q_two (F := fun v _ => v = .bool true) (G := fun v _ => v = .bool true) hp (free_of rfl) trivial (sq_in 14 rfl rfl (by simp) rfl (fun v w h => h)) (sq_in 18 rfl rfl (by simp) rfl (fun v w h => h)) (fun ρ w hc h h' => ⟨_, by simp [execOp, go_sem, h, h'], rfl⟩)
  · exact q_move hp (free_of rfl) trivial (sq_in 19 rfl rfl (by simp) rfl (fun v w h => h))
  · exact q_move hp (free_of rfl) (gq_some rfl rfl (by simp) rfl (fun v w h => h)) (sq_out rfl rfl (fun _ _ => rfl))
  · exact q_call1 (F := (Fq.is (.int .i64 1)).P) hp (free_of rfl) (gq_some rfl rfl (by simp) rfl (fun v w h => h)) (enq_V_of) (sq_const (fun _ => rfl)) (fun v w h => (by subst h; exact exVOf (by omega)))
  · exact q_call1 (F := (Fq.is (.int .i64 3)).P) hp (free_of rfl) (gq_some rfl rfl (by simp) rfl (fun v w h => h)) (enq_V_of) (sq_const (fun _ => rfl)) (fun v w h => (by subst h; exact exVOf (by omega)))
  · exact q_call1 (F := (Fq.is (.int .i64 5)).P) hp (free_of rfl) (gq_some rfl rfl (by simp) rfl (fun v w h => h)) (enq_V_of) (sq_const (fun _ => rfl)) (fun v w h => (by subst h; exact exVOf (by omega)))
  · exact q_call1 (F := (Fq.is (.int .i64 7)).P) hp (free_of rfl) (gq_some rfl rfl (by simp) rfl (fun v w h => h)) (enq_V_of) (sq_const (fun _ => rfl)) (fun v w h => (by subst h; exact exVOf (by omega)))
  · exact q_buildInts4 hp (gq_some rfl rfl (by simp) rfl (fun v w h => h)) (List.mem_iff_getElem?.2 ⟨0, rfl⟩) rfl rfl rfl rfl rfl (sq_in 22 rfl rfl (by simp) rfl (fun v w h => h)) (sq_in 23 rfl rfl (by simp) rfl (fun v w h => h)) (sq_in 24 rfl rfl (by simp) rfl (fun v w h => h)) (sq_in 25 rfl rfl (by simp) rfl (fun v w h => h)) (fun _ _ => trivial) (old_ne rfl) (newks_ne rfl)
  · exact q_callWSl (F := (Fq.is (l)).P) hp (free_of rfl) (gq_some rfl rfl (by simp) rfl (fun v w h => h)) enq_U_SameList rfl (List.mem_iff_getElem?.2 ⟨0, rfl⟩) rfl (sq_in 21 rfl rfl (by simp) rfl (fun v w h => h)) (own_ptr rfl rfl (by simp) rfl) (fun v bx w hbw h hbx => (by subst h; exact exSameListB (HL.out.mono hbw) (hbx.nums rfl rfl) (by decide) (by decide) (by decide)))
  · exact q_two (F := fun v _ => v = .bool true) (G := fun v _ => v = .bool true) hp (free_of rfl) trivial (sq_in 20 rfl rfl (by simp) rfl (fun v w h => h)) (sq_in 27 rfl rfl (by simp) rfl (fun v w h => h)) (fun ρ w hc h h' => ⟨_, by simp [execOp, go_sem, h, h'], rfl⟩)
  · exact q_assign hp (free_of rfl) trivial (sq_in 28 rfl rfl (by simp) rfl (fun v w h => h))
  intro L vs w18 nb hL hC hn E18
  have e0 : vs 0 = .bool true := hC 0 (by simp)
  have e1 : vs 1 = .bool true := hC 1 (by simp)
  have e5 : vs 5 = .bool true := hC 5 (by simp)
  have e6 : vs 6 = .bool true := hC 6 (by simp)
  have e7 : vs 7 = .bool true := hC 7 (by simp)
  have e12 : vs 12 = .bool true := hC 12 (by simp)
  have e13 : vs 13 = .bool true := hC 13 (by simp)
  have e14 : vs 14 = .bool true := hC 14 (by simp)
  have e18 : vs 18 = .bool true := hC 18 (by simp)
  have e19 : vs 19 = .bool true := hC 19 (by simp)
  have e20 : vs 20 = .bool true := hC 20 (by simp)
  have e21 : vs 21 = l := hC 21 (by simp)
  have e27 : vs 27 = .bool true := hC 27 (by simp)
  have e28 : vs 28 = .bool true := hC 28 (by simp)
  have e29 : vs 29 = .bool true := hC 29 (by simp)
  have e26 : vs 26 = .slice (some ⟨nb 26, 0, none⟩) 4 4 := hn _ (List.mem_iff_getElem?.2 ⟨0, rfl⟩)
  have E : Fr w3 [(nb 26, 8, Fq.ints [(1), (3), (5), (7)]), (b9_3, 3, Fq.got 0 4), (b8_9, 2, Fq.num 0), (b8_10, 2, Fq.num 0), (b4_9, 2, Fq.num 11), (b4_10, 2, Fq.num 12)] w18 := E18
  rw [lay_all hL]
  simp only [putAll, dstOf, List.length_cons, List.length_nil, Nat.zero_add, Nat.reduceAdd, List.getElem?_toArray, List.getElem?_cons_zero, List.getElem?_cons_succ, Option.bind_some, Act.put, List.setIfInBounds_toArray, List.set_cons_succ, List.set_cons_zero]
  rw [e0, e1, e5, e6, e7, e12, e13, e14, e18, e19, e20, e21, e27, e28, e29, e26]
  generalize nb 26 = b18_26 at E ⊢
  generalize vs 2 = u18_2
  generalize vs 3 = u18_3
  generalize vs 4 = u18_4
  generalize vs 8 = u18_8
  generalize vs 9 = u18_9
  generalize vs 10 = u18_10
  generalize vs 11 = u18_11
  generalize vs 15 = u18_15
  generalize vs 16 = u18_16
  generalize vs 17 = u18_17
  generalize vs 22 = u18_22
  generalize vs 23 = u18_23
  generalize vs 24 = u18_24
  generalize vs 25 = u18_25
  clear e0 e1 e5 e6 e7 e12 e13 e14 e18 e19 e20 e21 e27 e28 e29 e26 hC hn E18 hL vs L nb
  clear B1 B2 B3 B5 B6 B7 B10 B11 B13 B14 B15 B17 HT HL
  go_wp2
  refine bodyPost_ret (v := .bool true) ?_ rfl ⟨_, rfl, HB.out.trans (E.below.mono HB.out.size), rfl⟩
  simp [results, Tryd.results9, go_sem]

end Go.Proofs.YtieobgadihcgeaaDoor

/- Prime numbers: pairs, Wilson, square roots, the theorem on powers of sums, the sequence of Lucas, Pocklington: nothing of the program is used. -/
namespace Go.Proofs.YtieobgadihcgeaaDoor
open Go Go.RowKit

def ad (x y : Int × Int) : Int × Int := (x.1 + y.1, x.2 + y.2)
/-- The same modulo p. -/
def Eqp (p : Int) (x y : Int × Int) : Prop := x.1 % p = y.1 % p ∧ x.2 % p = y.2 % p
theorem Eqp.refl (p : Int) (x : Int × Int) : Eqp p x x := ⟨rfl, rfl⟩
theorem Eqp.symm {p : Int} {x y : Int × Int} (h : Eqp p x y) : Eqp p y x := ⟨h.1.symm, h.2.symm⟩
theorem Eqp.trans {p : Int} {x y z : Int × Int} (h : Eqp p x y) (h' : Eqp p y z) : Eqp p x z := ⟨h.1.trans h'.1, h.2.trans h'.2⟩
theorem mul_modm {p a b c d : Int} (h : a % p = c % p) (h' : b % p = d % p) : (a * b) % p = (c * d) % p := by rw [Int.mul_emod, h, h', ← Int.mul_emod]
theorem add_modm {p a b c d : Int} (h : a % p = c % p) (h' : b % p = d % p) : (a + b) % p = (c + d) % p := by rw [Int.add_emod, h, h', ← Int.add_emod]
theorem Eqp.ad {p : Int} {x y x' y' : Int × Int} (h : Eqp p x x') (h' : Eqp p y y') : Eqp p (ad x y) (ad x' y') := ⟨add_modm h.1 h'.1, add_modm h.2 h'.2⟩
theorem pr_of {p : Nat} (h2 : 2 ≤ p) (h : ∀ d, 2 ≤ d → d * d ≤ p → p % d ≠ 0) : Pr p := by
  refine ⟨h2, fun d hd => ?_⟩
  obtain ⟨c, hc⟩ := hd
  refine Classical.byContradiction fun hne => ?_
  have d0 : d ≠ 0 := fun e => by rw [e, Nat.zero_mul] at hc; omega
  have c0 : c ≠ 0 := fun e => by rw [e, Nat.mul_zero] at hc; omega
  have c1 : c ≠ 1 := fun e => by rw [e, Nat.mul_one] at hc; omega
  rcases Nat.le_total d c with hl | hl
  · refine h d (by omega) ?_ (by rw [hc]; exact Nat.mul_mod_right _ _)
    rw [hc]; exact Nat.mul_le_mul_left _ hl
  · refine h c (by omega) ?_ (by rw [hc]; exact Nat.mul_mod_left _ _)
    rw [hc]; exact Nat.mul_le_mul_right _ hl
/-- Trial division by the numbers from d on. -/
def tri (p : Nat) : Nat → Nat → Bool
  | 0, _ => false
  | f + 1, d => if p < d * d then true else if p % d = 0 then false else tri p f (d + 1)
theorem tri_spec {p : Nat} : ∀ f d, tri p f d = true → ∀ c, d ≤ c → c * c ≤ p → p % c ≠ 0
  | 0, _, h => by cases h
  | f + 1, d, h => by
    intro c hc hcc
    unfold tri at h
    by_cases h1 : p < d * d
    · have := Nat.mul_le_mul hc hc; omega
    · rw [if_neg h1] at h
      by_cases h2 : p % d = 0
      · rw [if_pos h2] at h; cases h
      · rw [if_neg h2] at h
        rcases Nat.lt_or_ge d c with h3 | h3
        · exact tri_spec f (d + 1) h c h3 hcc
        · rw [show c = d by omega]; exact h2
theorem pr_tri {p : Nat} (f : Nat) (h2 : 2 ≤ p) (h : tri p f 2 = true) : Pr p := pr_of h2 fun d hd hdd => tri_spec f 2 h d hd hdd
end Go.Proofs.YtieobgadihcgeaaDoor

/- Walk of the law on powers and inverses. -/
namespace Go.Proofs.YtieobgadihcgeaaDoor
open Go Go.RowKit

section
variable {os : List Oper} {Q : Exit → Act → World → Prop} {a : Act} {p : Pq} {B B0 : Nat} {w0 : World}
variable {i s : Nat} {d : Option Tmp} {ty : TypeId} {ps : String} {af : Array Edge} {gd : Option (Nat × Bool)}
end
theorem gcd_modI {a m : Int} (hm : 0 < m) : Int.gcd (a % m) m = Int.gcd a m := by
  obtain ⟨n, rfl⟩ := Int.eq_ofNat_of_zero_le (Int.le_of_lt hm)
  exact gcd_emod
theorem pow_congr {a b m : Int} (h : a % m = b % m) : ∀ n : Nat, a ^ n % m = b ^ n % m
  | 0 => by rw [Int.pow_zero, Int.pow_zero]
  | n + 1 => by rw [Int.pow_succ, Int.pow_succ]; exact mul_modm (pow_congr h n) h
theorem exVPowOk {w : World} {v v' u : Value} {a n m : Int} (h : Num w v a) (h' : Num w v' n) (g : Num w u m) (ha : ab a < pw 100) (hn : ab n < pw 100) (hm : ab m < pw 100) (h0 : 0 < m) (h1 : Int.gcd a m = 1 ∨ 0 ≤ n) :
    Calls Tryd.prog 17 #[v, v', u] w fun e w' => ∃ v', e = .returned v' ∧ Below w.heap.size w w' ∧ Got w' v' (powM a n m) 0 :=
  exVPow h h' g fun _ _ _ _ hx hx' hy => by
    rcases Int.lt_or_le n 0 with hn0 | hn0
    · exact exPowN hx hx' hy ha hn hm h0 hn0 (by rw [gcd_modI h0]; rcases h1 with h | h; exact h; omega)
    · exact exPowP hx hx' hy ha hn hm h0 hn0
end Go.Proofs.YtieobgadihcgeaaDoor

/- Walks: the reference's small primes. -/
namespace Go.Proofs.YtieobgadihcgeaaDoor
open Go Go.RowKit

theorem trial_step {n : Int} {d : Nat} (h : (d : Int) * d ≤ n) (hn : n ≤ 65537) : d ≤ 256 := by
  rcases Nat.lt_or_ge 256 d with h3 | h3
  · have h4 := Int.mul_le_mul (show (257 : Int) ≤ d by omega) (show (257 : Int) ≤ d by omega) (by omega) (by omega)
    omega
  · exact h3
theorem trial_end {n : Int} {d : Nat} (h : ¬ (d : Int) * d ≤ n) (h1 : 1 < n) (hc : ∀ c : Nat, 2 ≤ c → c < d → n % c ≠ 0) : Pr n.toNat := by
  refine pr_of (by omega) fun c c2 cc e => ?_
  have h3 : c < d := by
    rcases Nat.lt_or_ge c d with h4 | h4
    · exact h4
    · have h5 := Nat.mul_le_mul h4 h4
      have h6 : ((d * d : Nat) : Int) = (d : Int) * d := by rw [Int.natCast_mul]
      omega
  refine hc c c2 h3 ?_
  have h7 : n = (n.toNat : Int) := by omega
  rw [h7]
  exact_mod_cast e
theorem trial_no {n : Int} {d : Nat} (h2 : 2 ≤ d) (h : (d : Int) * d ≤ n) (hd : n % d = 0) : ¬ Pr n.toNat := by
  intro hp
  have h3 : d ∣ n.toNat := by
    refine Int.natCast_dvd_natCast.1 ?_
    have h4 : (n.toNat : Int) = n := by have := Int.mul_nonneg (show 0 ≤ (d : Int) by omega) (show 0 ≤ (d : Int) by omega); omega
    rw [h4]
    exact Int.dvd_of_emod_eq_zero hd
  rcases hp.2 d h3 with e | e
  · omega
  · have h5 := Int.mul_le_mul_of_nonneg_left (show (2 : Int) ≤ d by omega) (show 0 ≤ (d : Int) by omega)
    omega
set_option maxRecDepth 20000 in
theorem exIsPrime (w : World) {n : Int} (h0 : 0 ≤ n) (h1 : n ≤ 65537) : Calls Tryd.prog 54 #[.int .i64 n] w fun e w' => ∃ t : Bool, e = .returned (.bool t) ∧ w' = w ∧ (t = true ↔ Pr n.toNat) := by
  have H0 := hidd h0
  have H1 := hidd h1
  clear h0 h1
  go_enter Tryd.func54, Tryd.ntmps54
  go_wp2
  go_loopw [3] (fun vd W => ∃ d : Nat, vd = .int .i64 d ∧ W = w ∧ 2 ≤ d ∧ d ≤ 257 ∧ ∀ c : Nat, 2 ≤ c → c < d → n % c ≠ 0) (fun vd _ => 300 - (intOf vd).toNat)
  case atStart => exact ⟨2, rfl, rfl, by omega, by omega, fun c h1 h2 => by omega⟩
  case round =>
    obtain ⟨d, rfl, rfl, d2, d3, hc⟩ := hrel
    obtain ⟨q, hq⟩ : ∃ q : Int, q = (d : Int) * d := ⟨_, rfl⟩
    have hq2 : 0 ≤ q ∧ q ≤ 66049 := by
      have h4 := Int.mul_le_mul (show (d : Int) ≤ 257 by omega) (show (d : Int) ≤ 257 by omega) (by omega) (by omega)
      have h5 := Int.mul_nonneg (show 0 ≤ (d : Int) by omega) (show 0 ≤ (d : Int) by omega)
      omega
    have g1 : IntKind.i64.wrap ((d : Int) * d) = q := by rw [← hq]; exact IntWalk.i64_in _ (by omega)
    have HQ := hidd hq
    have HC := hidd hc
    have HD := hidd (show 2 ≤ d ∧ d ≤ 257 from ⟨d2, d3⟩)
    by_cases hle : q ≤ n
    · have g2 : (q ≤ n) = True := eq_true hle
      obtain ⟨z, hz⟩ : ∃ z, z = n % (d : Int) := ⟨_, rfl⟩
      have g3 : n.tmod (d : Int) = z := by rw [hz]; exact tmod_pos H0.out
      have hz2 : 0 ≤ z ∧ z < d := by rw [hz]; exact ⟨Int.emod_nonneg _ (by omega), Int.emod_lt_of_pos _ (by omega)⟩
      have g4 : IntKind.i64.wrap z = z := IntWalk.i64_in _ (by omega)
      have g5 : ¬ (d : Int) = 0 := by omega
      have g6 : ((d : Int) == 0) = false := by simpa using g5
      have g8 : (d == 0) = false := by simp; omega
      have HZ := hidd hz
      have HLE := hidd hle
      by_cases hzz : z = 0
      · have g7 : (z == 0) = true := by simpa using hzz
        have HN : Hid (¬ Pr n.toNat) := trial_no HD.out.1 (by rw [← HQ.out]; exact hle) (by rw [← HZ.out]; exact hzz)
        clear hq hc d2 d3 hq2 hz hz2 hle hzz
        go_wp2
        refine bodyPost_ret (v := .bool false) (by simp [results, Tryd.results54, go_sem]) rfl ⟨false, rfl, rfl, by simp [HN.out]⟩
      · have g7 : (z == 0) = false := by simpa using hzz
        have HZZ := hidd hzz
        have h9 := trial_step (by rw [← hq]; exact hle) H1.out
        have g9 : IntKind.i64.wrap ((d : Int) + 1) = (d : Int) + 1 := IntWalk.i64_in _ (by omega)
        have H9 := hidd h9
        clear hq hc d2 d3 hq2 hz hz2 hle hzz h9
        go_wp2
        go_roundw
        case rel => exact ⟨d + 1, by go_num, trivial, by have := HD.out; omega, by have := H9.out; omega, fun c h1 h2 => by
          rcases Nat.lt_or_ge c d with h | h
          · exact HC.out c h1 h
          · rw [show c = d by omega, ← HZ.out]; exact HZZ.out⟩
        case measure => have := H9.out; simp [intOf]; omega
    · have g2 : (q ≤ n) = False := eq_false hle
      have HE : Hid ((decide (1 < n)) = true ↔ Pr n.toNat) := by
        show _ ↔ _
        rw [decide_eq_true_iff]
        exact ⟨fun h => trial_end (d := d) (by rw [← HQ.out]; exact hle) h HC.out, fun h => by have := h.1; omega⟩
      clear hq hc d2 d3 hq2 hle
      go_wp2
      refine bodyPost_ret (v := .bool (decide (1 < n))) (by simp [results, Tryd.results54, go_sem]) rfl ⟨_, rfl, rfl, HE.out⟩
theorem exIsPrimeT (w : World) {n : Int} (h0 : 0 ≤ n) (h1 : n ≤ 65537) (h : Pr n.toNat) : Calls Tryd.prog 54 #[.int .i64 n] w fun e w' => e = .returned (.bool true) ∧ w' = w :=
  (exIsPrime w h0 h1).mono fun e w' ⟨t, he, hw, ht⟩ => ⟨by rw [he, ht.2 h], hw⟩
theorem exIsPrimeF (w : World) {n : Int} (h0 : 0 ≤ n) (h1 : n ≤ 65537) (h : ¬ Pr n.toNat) : Calls Tryd.prog 54 #[.int .i64 n] w fun e w' => e = .returned (.bool false) ∧ w' = w :=
  (exIsPrime w h0 h1).mono fun e w' ⟨t, he, hw, ht⟩ => ⟨by rw [he]; cases t; rfl; exact absurd (ht.1 rfl) h, hw⟩
theorem pr_65537 : Pr 65537 := pr_tri 300 (by decide) (by decide +kernel)
theorem lp_ex : ∀ (k n : Nat), n + k = 65537 → ∃ p, Pr p ∧ n ≤ p ∧ p ≤ 65537 ∧ ∀ q, n ≤ q → q < p → ¬ Pr q
  | 0, n, h => ⟨65537, pr_65537, by omega, Nat.le_refl _, fun q h1 h2 => by omega⟩
  | k + 1, n, h => by
    by_cases hp : Pr n
    · exact ⟨n, hp, Nat.le_refl _, by omega, fun q h1 h2 => by omega⟩
    · obtain ⟨p, h1, h2, h3, h4⟩ := lp_ex k (n + 1) (by omega)
      refine ⟨p, h1, by omega, h3, fun q g1 g2 => ?_⟩
      rcases Nat.lt_or_ge n q with h | h
      · exact h4 q h g2
      · rw [show q = n by omega]; exact hp
theorem exPrime (w : World) {n : Int} {p : Nat} (h0 : 0 ≤ n) (h1 : n ≤ 65535) (hp : Pr p) (hn : n.toNat ≤ p) (hb : p ≤ 65537) (hl : ∀ q, n.toNat ≤ q → q < p → ¬ Pr q) :
    Calls Tryd.prog 22 #[.int .u16 n] w fun e w' => ∃ v', e = .returned v' ∧ Below w.heap.size w w' ∧ v' = .int .i64 (p : Int) := by
  have g0 : IntKind.i64.wrap n = n := IntWalk.i64_in _ (by omega)
  have H0 := hidd (show 0 ≤ n ∧ n ≤ 65535 from ⟨h0, h1⟩)
  have HP := hidd hp
  have HB := hidd hb
  have HL := hidd hl
  have HN := hidd hn
  clear h0 h1 hp hn hb hl
  go_enter Tryd.func22, Tryd.ntmps22
  go_wp2
  go_loopw [3] (fun vp W => ∃ q : Nat, vp = .int .i64 q ∧ W = w ∧ n.toNat ≤ q ∧ q ≤ p) (fun vp _ => 65537 - (intOf vp).toNat)
  case atStart => exact ⟨n.toNat, by have := H0.out; congr 1; omega, rfl, Nat.le_refl _, HN.out⟩
  case round =>
    obtain ⟨q, rfl, rfl, hq, hqp⟩ := hrel
    have hbb := HB.out
    have HQ := hidd hq
    by_cases hpr : Pr q
    · have he : q = p := by
        rcases Nat.lt_or_ge q p with h | h
        · exact absurd hpr (HL.out q hq h)
        · omega
      have HC := exIsPrimeT wr (n := (q : Int)) (by omega) (by omega) hpr
      have HE := hidd he
      clear hpr he hq hqp hbb
      go_wp2_with (first | (go_at_call 54; refine HC.mono ?_; rintro e w2 ⟨rfl, rfl⟩) | fail)
      go_ret
      exact ⟨.int .i64 (q : Int), rfl, Below.refl _ _, by rw [HE.out]⟩
    · have hne : q < p := by
        rcases Nat.lt_or_ge q p with h | h
        · exact h
        · exact absurd (by rw [show q = p by omega]; exact HP.out) hpr
      have HC := exIsPrimeF wr (n := (q : Int)) (by omega) (by omega) hpr
      have HNE := hidd hne
      have g9 : IntKind.i64.wrap ((q : Int) + 1) = (q : Int) + 1 := IntWalk.i64_in _ (by omega)
      clear hpr hne hq hqp hbb
      go_wp2_with (first | (go_at_call 54; refine HC.mono ?_; rintro e w2 ⟨rfl, rfl⟩) | fail)
      go_roundw
      case rel => exact ⟨q + 1, by go_num, trivial, by have := HQ.out; omega, by have := HNE.out; omega⟩
      case measure => have := HNE.out; have := HB.out; simp [intOf]; omega
end Go.Proofs.YtieobgadihcgeaaDoor

/- Walk of the law on the symbol of Kronecker. -/
namespace Go.Proofs.YtieobgadihcgeaaDoor
open Go Go.RowKit

def Tri (x : Int) : Prop := x = -1 ∨ x = 0 ∨ x = 1
theorem Tri.mul {x y : Int} (h : Tri x) (h' : Tri y) : Tri (x * y) := by
  unfold Tri at *
  rcases h with rfl | rfl | rfl <;> rcases h' with rfl | rfl | rfl <;> decide
theorem two_tri (a : Int) : Tri (two a) := by unfold two Tri; split; exact .inr (.inl rfl); split; exact .inl rfl; exact .inr (.inr rfl)
theorem J_tri (a : Int) (n : Nat) : Tri (J a n) := by
  unfold Tri
  by_cases h : Int.gcd a n = 1
  · rcases J_or h with h | h <;> rw [h] <;> simp
  · rw [J_not h]; simp
theorem kro_tri (a : Int) : ∀ n : Nat, n ≠ 0 → Tri (kro a n) := by
  intro n
  induction n using Nat.strongRecOn with
  | _ n ih =>
    intro h0
    rcases Nat.mod_two_eq_zero_or_one n with h | h
    · obtain ⟨m, rfl⟩ : ∃ m, n = 2 * m := ⟨n / 2, by omega⟩
      rw [kro_even (by omega)]
      exact (two_tri a).mul (ih m (by omega) (by omega))
    · rw [kro_odd h]; exact J_tri a n
theorem kron_tri (a n : Int) : Tri (kron a n) := by
  unfold kron
  by_cases h : n = 0
  · rw [if_pos h]; unfold Tri; split <;> simp
  · rw [if_neg h]
    refine Tri.mul ?_ (kro_tri a _ (by omega))
    unfold Tri; split <;> simp
theorem exKronR {w : World} {v v' : Value} {a n r : Int} (h : Num w v a) (h' : Num w v' n) (hT : Tabs w) (ha : ab a < pw 100) (hn : ab n < pw 100) (hr : kron a n = r) :
    Calls Tryd.prog 20 #[v, v'] w fun e w' => ∃ v', e = .returned v' ∧ Below w.heap.size w w' ∧ v' = .int .i64 r := by
  subst hr
  exact exKronecker h h' hT ha hn
end Go.Proofs.YtieobgadihcgeaaDoor

/- Walk of the law of Euler. -/
namespace Go.Proofs.YtieobgadihcgeaaDoor
open Go Go.RowKit

section
variable {os : List Oper} {Q : Exit → Act → World → Prop} {a : Act} {p : Pq} {B B0 : Nat} {w0 : World}
variable {i s : Nat} {d : Option Tmp} {ty : TypeId} {ps : String} {af : Array Edge} {gd : Option (Nat × Bool)}
theorem q_loadGot {o : Ob} {x : Operand} (hp : p.Ok B B0) (hF : p.Free i) (hg : GdQ os a p B B0 w0 af gd) (ho : o ∈ p.old) (hk : o.F1 = o.F0 ∨ leadsB os 9 o.k i = true) (hm : o.m = 3)
    (hx : SrcQ os a p B B0 w0 af x fun u _ => u = .pointer (some ⟨o.b, 0, none⟩)) (hC : ∀ (us : List Value) (w : World), us.length = o.m → o.F0.P (.agg us.toArray) w → (p.c i).P (.agg us.toArray) w) :
    StepQ os Q a p B B0 w0 i { dst := d, op := .load 36 x, type := ty, pos := ps, after := af, guard := gd } := by
  refine stq_val hp hF hg fun L vs w hG hL hc hd => ?_
  obtain ⟨us, hl, h0, hat, ht, hP⟩ := box_now ho hk hG hL hc
  have e := hx L vs w hG hd
  refine ⟨_, ?_, hC us w hl hP⟩
  rw [hm] at hl
  match us, hl, hat with
  | [p, q, r], _, hat =>
    have c0 := (hat 0 (by simp)).1
    have c1 := (hat 1 (by simp)).1
    have c2 := (hat 2 (by simp)).1
    simp at c0 c1 c2
    generalize (lay os.toArray L vs os.toArray.size a).eval = ρ at e
    simp [execOp, go_sem, e, c0, c1, c2]
end
theorem pr_odd {p : Nat} (hp : Pr p) (h2 : p ≠ 2) : p % 2 = 1 := by
  rcases Nat.mod_two_eq_zero_or_one p with h | h
  · rcases hp.2 2 (Nat.dvd_of_mod_eq_zero h) with e | e <;> omega
  · exact h
theorem kron_pr {p : Nat} (ho : p % 2 = 1) (a : Int) : kron a p = J a p := by
  unfold kron
  rw [if_neg (by omega), if_neg (by omega), Int.one_mul, Int.natAbs_natCast, kro_odd ho]
theorem powM_euler {p : Nat} (hp : Pr p) (ho : p % 2 = 1) (a : Int) : powM a (((p : Int) - 1) / 2) p = kron a p % p := by
  have h0 : 0 ≤ ((p : Int) - 1) / 2 := by omega
  unfold powM
  rw [if_pos h0, kron_pr ho, ← euler hp ho a, show (((p : Int) - 1) / 2).natAbs = (p - 1) / 2 by omega]
  exact pow_congr (Int.emod_emod _ _) _
theorem powM_e {p : Nat} (hp : Pr p) (ho : p % 2 = 1) {a k : Int} (hk : kron a p = k) : powM a (((p : Int) - 1) / 2) p = if k = 0 then 0 else if k = 1 then 1 else (p : Int) - 1 := by
  have h3 : 3 ≤ p := by have := hp.1; omega
  rw [powM_euler hp ho, hk]
  have ht := kron_tri a p
  rw [hk] at ht
  rcases ht with rfl | rfl | rfl
  · rw [if_neg (by decide), if_neg (by decide)]
    have h : ((-1 : Int) + p) % p = p - 1 := by rw [Int.emod_eq_of_lt (by omega) (by omega)]; omega
    rwa [Int.add_emod_right] at h
  · rw [if_pos rfl, Int.zero_emod]
  · rw [if_neg (by decide), if_pos rfl, Int.emod_eq_of_lt (by decide) (by omega)]
theorem small3 {x : Int} (h : -18446744073709551616 < x ∧ x < 18446744073709551616) : ab x < pw 3 := by
  have h3 : pw 2 ≤ pw 3 := pw_le (by omega)
  have h4 : pw 2 = 18446744073709551616 := by decide
  unfold ab
  omega
set_option maxRecDepth 100000 in
set_option maxHeartbeats 4000000 in
theorem ModularEuler_any (w : World) (hT : Tabs w) (n1 : Bool) (a1 : Option Addr) (k1 c1 : Nat) (xs1 : List Int) (h1 : Sl w a1 k1 c1 xs1) (hk1 : k1 ≤ 9223372036854775807) (n : Int) (hln : 0 ≤ n) (hhn : n ≤ 65535) :
    Calls Tryd.prog 5 #[.agg #[.bool n1, .slice a1 k1 c1], .int .u16 n] w fun e w' => e = .returned (.bool true) ∧ Below w.heap.size w w' := by
  replace hT := hidd hT
  obtain ⟨a, ha⟩ : ∃ a, a = sgn n1 (val (xs1.take 3)) := ⟨_, rfl⟩
  have Ba : Hid (ab a < pw 3) := by rw [ha]; exact Num.ofMade h1.digs
  have Ha := hidd ha
  have K1 := hidd hk1
  clear ha hk1
  obtain ⟨w1, b1, hw1, hb1, hs1, E⟩ := fr_start w (F := Fq.raw n1 a1 k1 c1 xs1) (us := [.bool n1, .slice a1 k1 c1]) 24 rfl (by simp) (tame_int _ _ _ _) (show (Fq.raw n1 a1 k1 c1 xs1).P _ w from ⟨rfl, h1⟩)
  go_enter Tryd.func5, Tryd.ntmps5
  go_upto_region 1 with (fail)
  rw [← hw1]
  rw [← hb1]
  clear hw1 hb1 hs1
  obtain ⟨p, hp, hn, hb, hl⟩ := lp_ex (65537 - n.toNat) n.toNat (by omega)
  have HN := hidd (show 0 ≤ n ∧ n ≤ 65535 from ⟨hln, hhn⟩)
  have HP := hidd hp
  have HPN := hidd hn
  have HPB := hidd hb
  have HPL := hidd hl
  obtain ⟨P, hP⟩ : ∃ P, P = (p : Int) := ⟨_, rfl⟩
  have EP := hidd hP
  have RP : Hid (2 ≤ P ∧ P ≤ 65537) := by have := hp.1; show _ ∧ _; omega
  have BP : Hid (ab P < pw 3) := small3 (by have := RP.out; omega)
  clear hln hhn hn hb hl
  refine region_fr (C := [Fq.is (.bool true), Fq.is (.bool true)]) (ks := [none]) (new := []) E rfl (by kernel_rfl) rfl rfl (fun hp => ⟨?_, ?_, trivial⟩) ?_
  · exact q_call0W hp (free_of rfl) trivial (enq_V_examples) rfl (fun w hbw => exVExamples (hT.out.mono hbw))
  · exact q_assign hp (free_of rfl) trivial (sq_in 0 rfl rfl (by simp) rfl (fun v w h => h))
  intro L vs w2 nb hL hC hn E2
  have e0 : vs 0 = .bool true := hC 0 (by simp)
  have e1 : vs 1 = .bool true := hC 1 (by simp)
  have E : Fr w [(b1, 2, Fq.raw n1 a1 k1 c1 xs1)] w2 := E2
  rw [lay_all hL]
  simp only [putAll, dstOf, List.length_cons, List.length_nil, Nat.zero_add, Nat.reduceAdd, List.getElem?_toArray, List.getElem?_cons_zero, List.getElem?_cons_succ, Option.bind_some, Act.put, List.setIfInBounds_toArray, List.set_cons_succ, List.set_cons_zero]
  rw [e0, e1]
  clear e0 e1 hC hn E2 hL vs L nb
  go_upto_region 2 with (fail)
  refine region_fr (C := [Fq.is (.bool true), Fq.is (.bool false)]) (ks := [none]) (new := []) E rfl (by kernel_rfl) rfl rfl (fun hp => ⟨?_, ?_, trivial⟩) ?_
  · exact q_move hp (free_of rfl) trivial (sq_out (s := 5) rfl rfl (fun _ _ => rfl))
  · exact q_one (F := fun v _ => v = .bool true) hp (free_of rfl) trivial (sq_in 0 rfl rfl (by simp) rfl (fun v w h => h)) (fun ρ w _ h => ⟨.bool false, by simp [execOp, go_sem, h], rfl⟩)
  intro L vs w3 nb hL hC hn E3
  have e0 : vs 0 = .bool true := hC 0 (by simp)
  have e1 : vs 1 = .bool false := hC 1 (by simp)
  have E : Fr w [(b1, 2, Fq.raw n1 a1 k1 c1 xs1)] w3 := E3
  rw [lay_all hL]
  simp only [putAll, dstOf, List.length_cons, List.length_nil, Nat.zero_add, Nat.reduceAdd, List.getElem?_toArray, List.getElem?_cons_zero, List.getElem?_cons_succ, Option.bind_some, Act.put, List.setIfInBounds_toArray, List.set_cons_succ, List.set_cons_zero]
  rw [e0, e1]
  clear e0 e1 hC hn E3 hL vs L nb
  go_upto_region 4 with (fail)
  refine region_fr (C := [Fq.is (.int .u16 n), Fq.is (.int .i64 P), Fq.is (.int .i64 P)]) (ks := [none]) (new := []) E rfl (by kernel_rfl) rfl rfl (fun hp => ⟨?_, ?_, ?_, trivial⟩) ?_
  · exact q_move hp (free_of rfl) trivial (sq_out (s := 1) rfl rfl (fun _ _ => rfl))
  · exact q_call1 (F := (Fq.is (.int .u16 n)).P) hp (free_of rfl) trivial (enq_U_Prime) (sq_in 0 rfl rfl (by simp) rfl (fun v w h => h)) (fun v w h => (by subst h; rw [EP.out]; exact exPrime w HN.out.1 HN.out.2 HP.out HPN.out HPB.out HPL.out))
  · exact q_assign hp (free_of rfl) trivial (sq_in 1 rfl rfl (by simp) rfl (fun v w h => h))
  intro L vs w4 nb hL hC hn E4
  have e0 : vs 0 = .int .u16 n := hC 0 (by simp)
  have e1 : vs 1 = .int .i64 P := hC 1 (by simp)
  have e2 : vs 2 = .int .i64 P := hC 2 (by simp)
  have E : Fr w [(b1, 2, Fq.raw n1 a1 k1 c1 xs1)] w4 := E4
  rw [lay_all hL]
  simp only [putAll, dstOf, List.length_cons, List.length_nil, Nat.zero_add, Nat.reduceAdd, List.getElem?_toArray, List.getElem?_cons_zero, List.getElem?_cons_succ, Option.bind_some, Act.put, List.setIfInBounds_toArray, List.set_cons_succ, List.set_cons_zero]
  rw [e0, e1, e2]
  clear e0 e1 e2 hC hn E4 hL vs L nb
  clear HPN HPB HPL HN
  by_cases h2 : P = 2
  · have T1 := hidd h2
    clear h2 hp hP RP EP HP
    go_upto_region 5 with (fail)
    refine region_fr (C := [Fq.is (.int .i64 P), Fq.is (.bool true)]) (ks := [none]) (new := []) E rfl (by kernel_rfl) rfl rfl (fun hp => ⟨?_, ?_, trivial⟩) ?_
    · exact q_move hp (free_of rfl) trivial (sq_out (s := 6) rfl rfl (fun _ _ => rfl))
    · exact q_one (F := fun v _ => v = .int .i64 P) hp (free_of rfl) trivial (sq_in 0 rfl rfl (by simp) rfl (fun v w h => h)) (fun ρ w hc h => ⟨.bool true, by simp [execOp, go_sem, h, hc, T1.out], rfl⟩)
    intro L vs w5 nb hL hC hn E5
    have e0 : vs 0 = .int .i64 P := hC 0 (by simp)
    have e1 : vs 1 = .bool true := hC 1 (by simp)
    have E : Fr w [(b1, 2, Fq.raw n1 a1 k1 c1 xs1)] w5 := E5
    rw [lay_all hL]
    simp only [putAll, dstOf, List.length_cons, List.length_nil, Nat.zero_add, Nat.reduceAdd, List.getElem?_toArray, List.getElem?_cons_zero, List.getElem?_cons_succ, Option.bind_some, Act.put, List.setIfInBounds_toArray, List.set_cons_succ, List.set_cons_zero]
    rw [e0, e1]
    clear e0 e1 hC hn E5 hL vs L nb
    go_upto_region 6 with (fail)
    refine region_fr (C := [Fq.is (.bool true), Fq.is (.bool true)]) (ks := [none]) (new := []) E rfl (by kernel_rfl) rfl rfl (fun hp => ⟨?_, ?_, trivial⟩) ?_
    · exact q_move hp (free_of rfl) trivial (sq_out (s := 5) rfl rfl (fun _ _ => rfl))
    · exact q_assign hp (free_of rfl) trivial (sq_in 0 rfl rfl (by simp) rfl (fun v w h => h))
    intro L vs w6 nb hL hC hn E6
    have e0 : vs 0 = .bool true := hC 0 (by simp)
    have e1 : vs 1 = .bool true := hC 1 (by simp)
    have E : Fr w [(b1, 2, Fq.raw n1 a1 k1 c1 xs1)] w6 := E6
    rw [lay_all hL]
    simp only [putAll, dstOf, List.length_cons, List.length_nil, Nat.zero_add, Nat.reduceAdd, List.getElem?_toArray, List.getElem?_cons_zero, List.getElem?_cons_succ, Option.bind_some, Act.put, List.setIfInBounds_toArray, List.set_cons_succ, List.set_cons_zero]
    rw [e0, e1]
    clear e0 e1 hC hn E6 hL vs L nb
    clear Ba hT BP
    go_wp2
    refine bodyPost_ret (v := .bool true) ?_ rfl ⟨rfl, E.below⟩
    simp [results, Tryd.results5, go_sem]
  · have T1 := hidd h2
    have HO : Hid (p % 2 = 1) := pr_odd hp (by omega)
    obtain ⟨H, hH⟩ : ∃ H, H = (P - 1) / 2 := ⟨_, rfl⟩
    have RH : Hid (0 ≤ H ∧ H ≤ 65537) := by have := RP.out; show _ ∧ _; omega
    have BH : Hid (ab H < pw 3) := small3 (by have := RH.out; omega)
    have W1 : Hid (IntKind.i64.wrap (P - 1) = P - 1) := IntWalk.i64_in _ (by have := RP.out; omega)
    have W2 : Hid ((P - 1).tdiv 2 = H) := by show _ = _; rw [hH]; exact Int.tdiv_eq_ediv_of_nonneg (by have := RP.out; omega)
    have W3 : Hid (IntKind.i64.wrap H = H) := IntWalk.i64_in _ (by have := RH.out; omega)
    have PP : Hid (0 < P) := by have := RP.out; show _ < _; omega
    have EZ : Hid (∀ k, kron a P = k → powM a H P = if k = 0 then 0 else if k = 1 then 1 else P - 1) := fun k hk => by rw [hH, hP] at *; exact powM_e hp HO.out hk
    have KT := kron_tri a P
    clear hH h2 hp hP HP
    have B7 : Hid (ab ((powM a H P)) < pw 3) := powM_ab PP.out BP.out
    go_upto_region 5 with (fail)
    refine region_fr (C := [Fq.is (.int .i64 P), Fq.is (.bool false)]) (ks := [none]) (new := []) E rfl (by kernel_rfl) rfl rfl (fun hp => ⟨?_, ?_, trivial⟩) ?_
    · exact q_move hp (free_of rfl) trivial (sq_out (s := 6) rfl rfl (fun _ _ => rfl))
    · exact q_one (F := fun v _ => v = .int .i64 P) hp (free_of rfl) trivial (sq_in 0 rfl rfl (by simp) rfl (fun v w h => h)) (fun ρ w hc h => ⟨.bool false, by simp [execOp, go_sem, h, hc, T1.out], rfl⟩)
    intro L vs w8 nb hL hC hn E8
    have e0 : vs 0 = .int .i64 P := hC 0 (by simp)
    have e1 : vs 1 = .bool false := hC 1 (by simp)
    have E : Fr w [(b1, 2, Fq.raw n1 a1 k1 c1 xs1)] w8 := E8
    rw [lay_all hL]
    simp only [putAll, dstOf, List.length_cons, List.length_nil, Nat.zero_add, Nat.reduceAdd, List.getElem?_toArray, List.getElem?_cons_zero, List.getElem?_cons_succ, Option.bind_some, Act.put, List.setIfInBounds_toArray, List.set_cons_succ, List.set_cons_zero]
    rw [e0, e1]
    clear e0 e1 hC hn E8 hL vs L nb
    go_upto_region 7 with (fail)
    refine region_fr (C := [Fq.raw n1 a1 k1 c1 xs1, Fq.num a, Fq.any, Fq.any]) (ks := [none]) (new := [⟨2, 3, 2, Fq.num 0, Fq.num a, none⟩]) E rfl (by kernel_rfl) rfl rfl (fun hp => ⟨?_, ?_, ?_, ?_, trivial⟩) ?_
    · exact q_loadRaw (off := 0) hp (free_of rfl) trivial (List.mem_iff_getElem?.2 ⟨0, rfl⟩) (.inl rfl) (Nat.le_of_ble_eq_true rfl) (sq_out (s := 2) rfl rfl (fun _ _ => rfl)) (fun us w hl h => ld_raw hl h)
    · exact q_call2 (F := (Fq.raw n1 a1 k1 c1 xs1).P) (G := (Fq.is (.int .i64 3)).P) hp (free_of rfl) trivial (enq_R_Made) (sq_in 0 rfl rfl (by simp) rfl (fun v w h => h)) (sq_const (fun _ => rfl)) (fun v v' w h h' => (by rw [Ha.out]; exact exRMade (j := 3) h h' K1.out (by omega)))
    · exact q_allocInt hp (List.mem_iff_getElem?.2 ⟨0, rfl⟩) rfl rfl rfl rfl (Nat.ne_of_beq_eq_false rfl) (fun _ _ => trivial) (old_ne rfl) (newk_ne rfl) (fun w => Num.zero w)
    · exact q_storeNewInt hp (List.mem_iff_getElem?.2 ⟨0, rfl⟩) rfl rfl rfl (own_ptr rfl rfl (by simp) rfl) (sq_in 1 rfl rfl (by simp) rfl (fun v w h => intV_num h)) (fun _ _ => trivial) (old_ne rfl) (newi_ne rfl)
    intro L vs w9 nb hL hC hn E9
    have e2 : vs 2 = .pointer (some ⟨nb 2, 0, none⟩) := hn _ (List.mem_iff_getElem?.2 ⟨0, rfl⟩)
    have E : Fr w [(nb 2, 2, Fq.num a), (b1, 2, Fq.raw n1 a1 k1 c1 xs1)] w9 := E9
    rw [lay_all hL]
    simp only [putAll, dstOf, List.length_cons, List.length_nil, Nat.zero_add, Nat.reduceAdd, List.getElem?_toArray, List.getElem?_cons_zero, List.getElem?_cons_succ, Option.bind_some, Act.put, List.setIfInBounds_toArray, List.set_cons_succ, List.set_cons_zero]
    rw [e2]
    generalize nb 2 = b9_2 at E ⊢
    generalize vs 0 = u9_0
    generalize vs 1 = u9_1
    clear e2 hC hn E9 hL vs L nb
    go_upto_region 8 with (fail)
    refine region_fr (C := [Fq.num a, Fq.is (.int .i64 P), Fq.is (.int .i64 (P - 1)), Fq.is (.int .i64 H), Fq.num H, Fq.is (.int .i64 P), Fq.num P, Fq.got (powM a H P) 0, Fq.any, Fq.any]) (ks := [none, none]) (new := [⟨8, 9, 3, Fq.got 0 0, Fq.got (powM a H P) 0, none⟩]) E rfl (by kernel_rfl) rfl rfl (fun hp => ⟨?_, ?_, ?_, ?_, ?_, ?_, ?_, ?_, ?_, ?_, trivial⟩) ?_
    · exact q_loadInt (off := 0) hp (free_of rfl) trivial (List.mem_iff_getElem?.2 ⟨0, rfl⟩) (.inl rfl) (Nat.le_of_ble_eq_true rfl) (sq_out (s := 7) rfl rfl (fun _ _ => rfl)) (fun us w hl h => ld_num hl h)
    · exact q_move hp (free_of rfl) trivial (sq_out (s := 6) rfl rfl (fun _ _ => rfl))
    · exact q_one (F := fun v _ => v = .int .i64 P) hp (free_of rfl) trivial (sq_in 1 rfl rfl (by simp) rfl (fun v w h => h)) (fun ρ w hc h => ⟨.int .i64 (P - 1), by simp [execOp, go_sem, h, hc, W1.out], rfl⟩)
    · exact q_one (F := fun v _ => v = .int .i64 (P - 1)) hp (free_of rfl) trivial (sq_in 2 rfl rfl (by simp) rfl (fun v w h => h)) (fun ρ w hc h => ⟨.int .i64 H, by simp [execOp, go_sem, h, hc, W2.out, W3.out], rfl⟩)
    · exact q_call1 (F := (Fq.is (.int .i64 H)).P) hp (free_of rfl) trivial (enq_V_of) (sq_in 3 rfl rfl (by simp) rfl (fun v w h => h)) (fun v w h => (by subst h; exact exVOf (by have := RH.out; omega)))
    · exact q_move hp (free_of rfl) trivial (sq_out (s := 6) rfl rfl (fun _ _ => rfl))
    · exact q_call1 (F := (Fq.is (.int .i64 P)).P) hp (free_of rfl) trivial (enq_V_of) (sq_in 5 rfl rfl (by simp) rfl (fun v w h => h)) (fun v w h => (by subst h; exact exVOf (by have := RP.out; omega)))
    · exact q_call3 (F := (Fq.num a).P) (G := (Fq.num H).P) (F3 := (Fq.num P).P) hp (free_of rfl) trivial (enq_V_pow) (sq_in 0 rfl rfl (by simp) rfl (fun v w h => h)) (sq_in 4 rfl rfl (by simp) rfl (fun v w h => h)) (sq_in 6 rfl rfl (by simp) rfl (fun v w h => h)) (fun v v' u w h h' g => exVPowOk h h' g (Int.lt_of_lt_of_le Ba.out (pw_le (by omega))) (Int.lt_of_lt_of_le BH.out (pw_le (by omega))) (Int.lt_of_lt_of_le BP.out (pw_le (by omega))) PP.out (.inr RH.out.1))
    · exact q_allocGot hp (List.mem_iff_getElem?.2 ⟨0, rfl⟩) rfl rfl rfl rfl (Nat.ne_of_beq_eq_false rfl) (fun _ _ => trivial) (old_ne rfl) (newk_ne rfl) (fun w => Got.zero w)
    · exact q_storeNewGot hp (List.mem_iff_getElem?.2 ⟨0, rfl⟩) rfl rfl rfl (own_ptr rfl rfl (by simp) rfl) (sq_in 7 rfl rfl (by simp) rfl (fun v w h => h.partsV)) (fun _ _ => trivial) (old_ne rfl) (newi_ne rfl)
    intro L vs w10 nb hL hC hn E10
    have e1 : vs 1 = .int .i64 P := hC 1 (by simp)
    have e2 : vs 2 = .int .i64 (P - 1) := hC 2 (by simp)
    have e3 : vs 3 = .int .i64 H := hC 3 (by simp)
    have e5 : vs 5 = .int .i64 P := hC 5 (by simp)
    have e8 : vs 8 = .pointer (some ⟨nb 8, 0, none⟩) := hn _ (List.mem_iff_getElem?.2 ⟨0, rfl⟩)
    have E : Fr w [(nb 8, 3, Fq.got (powM a H P) 0), (b9_2, 2, Fq.num a), (b1, 2, Fq.raw n1 a1 k1 c1 xs1)] w10 := E10
    rw [lay_all hL]
    simp only [putAll, dstOf, List.length_cons, List.length_nil, Nat.zero_add, Nat.reduceAdd, List.getElem?_toArray, List.getElem?_cons_zero, List.getElem?_cons_succ, Option.bind_some, Act.put, List.setIfInBounds_toArray, List.set_cons_succ, List.set_cons_zero]
    rw [e1, e2, e3, e5, e8]
    generalize nb 8 = b10_8 at E ⊢
    generalize vs 0 = u10_0
    generalize vs 4 = u10_4
    generalize vs 6 = u10_6
    generalize vs 7 = u10_7
    clear e1 e2 e3 e5 e8 hC hn E10 hL vs L nb
    clear T1 W2 W3
    by_cases hk : kron a P = 0
    · have HK : Hid (kron a P = 0) := hk
      have EQ : Hid (powM a H P = 0) := by have := EZ.out _ HK.out; show _ = _; simpa using this
      clear KT EZ hk
      go_upto_region 9 with (fail)
      refine region_fr (C := [Fq.num a, Fq.is (.int .i64 P), Fq.num P, Fq.is (.int .i64 0)]) (ks := [none, none, none]) (new := []) E rfl (by kernel_rfl) rfl rfl (fun hp => ⟨?_, ?_, ?_, ?_, trivial⟩) ?_
      · exact q_loadInt (off := 0) hp (free_of rfl) trivial (List.mem_iff_getElem?.2 ⟨1, rfl⟩) (.inl rfl) (Nat.le_of_ble_eq_true rfl) (sq_out (s := 7) rfl rfl (fun _ _ => rfl)) (fun us w hl h => ld_num hl h)
      · exact q_move hp (free_of rfl) trivial (sq_out (s := 6) rfl rfl (fun _ _ => rfl))
      · exact q_call1 (F := (Fq.is (.int .i64 P)).P) hp (free_of rfl) trivial (enq_V_of) (sq_in 1 rfl rfl (by simp) rfl (fun v w h => h)) (fun v w h => (by subst h; exact exVOf (by have := RP.out; omega)))
      · exact q_call2W (F := (Fq.num a).P) (G := (Fq.num P).P) hp (free_of rfl) trivial (enq_M_Kronecker) rfl (sq_in 0 rfl rfl (by simp) rfl (fun v w h => h)) (sq_in 2 rfl rfl (by simp) rfl (fun v w h => h)) (fun v v' w hbw h h' => exKronR h h' (hT.out.mono hbw) (Int.lt_of_lt_of_le Ba.out (pw_le (by omega))) (Int.lt_of_lt_of_le BP.out (pw_le (by omega))) HK.out)
      intro L vs w11 nb hL hC hn E11
      have e1 : vs 1 = .int .i64 P := hC 1 (by simp)
      have e3 : vs 3 = .int .i64 0 := hC 3 (by simp)
      have E : Fr w [(b10_8, 3, Fq.got (powM a H P) 0), (b9_2, 2, Fq.num a), (b1, 2, Fq.raw n1 a1 k1 c1 xs1)] w11 := E11
      rw [lay_all hL]
      simp only [putAll, dstOf, List.length_cons, List.length_nil, Nat.zero_add, Nat.reduceAdd, List.getElem?_toArray, List.getElem?_cons_zero, List.getElem?_cons_succ, Option.bind_some, Act.put, List.setIfInBounds_toArray, List.set_cons_succ, List.set_cons_zero]
      rw [e1, e3]
      generalize vs 0 = u11_0
      generalize vs 2 = u11_2
      clear e1 e3 hC hn E11 hL vs L nb
      go_upto_region 10 with (fail)
      refine region_fr (C := [Fq.is (.bool true), Fq.is (.bool true)]) (ks := [none, none, none]) (new := []) E rfl (by kernel_rfl) rfl rfl (fun hp => ⟨?_, ?_, trivial⟩) ?_
      · exact q_one (F := fun v _ => v = .int .i64 0) hp (free_of rfl) trivial (sq_out (s := 30) rfl rfl (fun _ _ => rfl)) (fun ρ w hc h => ⟨.bool true, by simp [execOp, go_sem, h, hc], rfl⟩)
      · exact q_assign hp (free_of rfl) trivial (sq_in 0 rfl rfl (by simp) rfl (fun v w h => h))
      intro L vs w12 nb hL hC hn E12
      have e0 : vs 0 = .bool true := hC 0 (by simp)
      have e1 : vs 1 = .bool true := hC 1 (by simp)
      have E : Fr w [(b10_8, 3, Fq.got (powM a H P) 0), (b9_2, 2, Fq.num a), (b1, 2, Fq.raw n1 a1 k1 c1 xs1)] w12 := E12
      rw [lay_all hL]
      simp only [putAll, dstOf, List.length_cons, List.length_nil, Nat.zero_add, Nat.reduceAdd, List.getElem?_toArray, List.getElem?_cons_zero, List.getElem?_cons_succ, Option.bind_some, Act.put, List.setIfInBounds_toArray, List.set_cons_succ, List.set_cons_zero]
      rw [e0, e1]
      clear e0 e1 hC hn E12 hL vs L nb
      go_upto_region 11 with (fail)
      refine region_fr (C := [Fq.got (powM a H P) 0, Fq.is (.bool true), Fq.is (.bool true), Fq.is (.bool true), Fq.is (.bool true), Fq.is (.bool true)]) (ks := [none, none, none]) (new := []) E rfl (by kernel_rfl) rfl rfl (fun hp => ⟨?_, ?_, ?_, ?_, ?_, ?_, trivial⟩) ?_
      · exact q_loadGot hp (free_of rfl) trivial (List.mem_iff_getElem?.2 ⟨0, rfl⟩) (.inl rfl) rfl (sq_out (s := 8) rfl rfl (fun _ _ => rfl)) (fun us w hl h => h)
      · exact q_call2 (F := (Fq.got (powM a H P) 0).P) (G := (Fq.is (.int .i64 0)).P) hp (free_of rfl) trivial (enq_V_is) (sq_in 0 rfl rfl (by simp) rfl (fun v w h => h)) (sq_const (fun _ => rfl)) (fun v v' w h h' => (by subst h'; exact exVIs h (by have := RP.out; omega) rfl (decide_eq_true EQ.out)))
      · exact q_move hp (free_of rfl) trivial (sq_in 1 rfl rfl (by simp) rfl (fun v w h => h))
      · exact q_move hp (free_of rfl) (gq_some rfl rfl (by simp) rfl (fun v w h => h)) (sq_out (s := 5) rfl rfl (fun _ _ => rfl))
      · exact q_two (F := fun v _ => v = .bool true) (G := fun v _ => v = .bool true) hp (free_of rfl) trivial (sq_in 2 rfl rfl (by simp) rfl (fun v w h => h)) (sq_in 3 rfl rfl (by simp) rfl (fun v w h => h)) (fun ρ w hc h h' => ⟨_, by simp [execOp, go_sem, h, h'], rfl⟩)
      · exact q_assign hp (free_of rfl) trivial (sq_in 4 rfl rfl (by simp) rfl (fun v w h => h))
      intro L vs w13 nb hL hC hn E13
      have e1 : vs 1 = .bool true := hC 1 (by simp)
      have e2 : vs 2 = .bool true := hC 2 (by simp)
      have e3 : vs 3 = .bool true := hC 3 (by simp)
      have e4 : vs 4 = .bool true := hC 4 (by simp)
      have e5 : vs 5 = .bool true := hC 5 (by simp)
      have E : Fr w [(b10_8, 3, Fq.got (powM a H P) 0), (b9_2, 2, Fq.num a), (b1, 2, Fq.raw n1 a1 k1 c1 xs1)] w13 := E13
      rw [lay_all hL]
      simp only [putAll, dstOf, List.length_cons, List.length_nil, Nat.zero_add, Nat.reduceAdd, List.getElem?_toArray, List.getElem?_cons_zero, List.getElem?_cons_succ, Option.bind_some, Act.put, List.setIfInBounds_toArray, List.set_cons_succ, List.set_cons_zero]
      rw [e1, e2, e3, e4, e5]
      generalize vs 0 = u13_0
      clear e1 e2 e3 e4 e5 hC hn E13 hL vs L nb
      clear RP RH W1 PP HK EQ EP HO
      clear B7 Ba hT BP BH
      go_wp2
      refine bodyPost_ret (v := .bool true) ?_ rfl ⟨rfl, E.below⟩
      simp [results, Tryd.results5, go_sem]
    · have hk0 := hk
      clear hk
      by_cases hk : kron a P = 1
      · have HK : Hid (kron a P = 1) := hk
        have EQ : Hid (powM a H P = 1) := by have := EZ.out _ HK.out; show _ = _; simpa using this
        clear KT EZ hk0 hk
        go_upto_region 9 with (fail)
        refine region_fr (C := [Fq.num a, Fq.is (.int .i64 P), Fq.num P, Fq.is (.int .i64 1)]) (ks := [none, none, none]) (new := []) E rfl (by kernel_rfl) rfl rfl (fun hp => ⟨?_, ?_, ?_, ?_, trivial⟩) ?_
        · exact q_loadInt (off := 0) hp (free_of rfl) trivial (List.mem_iff_getElem?.2 ⟨1, rfl⟩) (.inl rfl) (Nat.le_of_ble_eq_true rfl) (sq_out (s := 7) rfl rfl (fun _ _ => rfl)) (fun us w hl h => ld_num hl h)
        · exact q_move hp (free_of rfl) trivial (sq_out (s := 6) rfl rfl (fun _ _ => rfl))
        · exact q_call1 (F := (Fq.is (.int .i64 P)).P) hp (free_of rfl) trivial (enq_V_of) (sq_in 1 rfl rfl (by simp) rfl (fun v w h => h)) (fun v w h => (by subst h; exact exVOf (by have := RP.out; omega)))
        · exact q_call2W (F := (Fq.num a).P) (G := (Fq.num P).P) hp (free_of rfl) trivial (enq_M_Kronecker) rfl (sq_in 0 rfl rfl (by simp) rfl (fun v w h => h)) (sq_in 2 rfl rfl (by simp) rfl (fun v w h => h)) (fun v v' w hbw h h' => exKronR h h' (hT.out.mono hbw) (Int.lt_of_lt_of_le Ba.out (pw_le (by omega))) (Int.lt_of_lt_of_le BP.out (pw_le (by omega))) HK.out)
        intro L vs w14 nb hL hC hn E14
        have e1 : vs 1 = .int .i64 P := hC 1 (by simp)
        have e3 : vs 3 = .int .i64 1 := hC 3 (by simp)
        have E : Fr w [(b10_8, 3, Fq.got (powM a H P) 0), (b9_2, 2, Fq.num a), (b1, 2, Fq.raw n1 a1 k1 c1 xs1)] w14 := E14
        rw [lay_all hL]
        simp only [putAll, dstOf, List.length_cons, List.length_nil, Nat.zero_add, Nat.reduceAdd, List.getElem?_toArray, List.getElem?_cons_zero, List.getElem?_cons_succ, Option.bind_some, Act.put, List.setIfInBounds_toArray, List.set_cons_succ, List.set_cons_zero]
        rw [e1, e3]
        generalize vs 0 = u14_0
        generalize vs 2 = u14_2
        clear e1 e3 hC hn E14 hL vs L nb
        go_upto_region 10 with (fail)
        refine region_fr (C := [Fq.is (.bool false), Fq.is (.bool false)]) (ks := [none, none, none]) (new := []) E rfl (by kernel_rfl) rfl rfl (fun hp => ⟨?_, ?_, trivial⟩) ?_
        · exact q_one (F := fun v _ => v = .int .i64 1) hp (free_of rfl) trivial (sq_out (s := 30) rfl rfl (fun _ _ => rfl)) (fun ρ w hc h => ⟨.bool false, by simp [execOp, go_sem, h, hc], rfl⟩)
        · exact q_assign hp (free_of rfl) trivial (sq_in 0 rfl rfl (by simp) rfl (fun v w h => h))
        intro L vs w15 nb hL hC hn E15
        have e0 : vs 0 = .bool false := hC 0 (by simp)
        have e1 : vs 1 = .bool false := hC 1 (by simp)
        have E : Fr w [(b10_8, 3, Fq.got (powM a H P) 0), (b9_2, 2, Fq.num a), (b1, 2, Fq.raw n1 a1 k1 c1 xs1)] w15 := E15
        rw [lay_all hL]
        simp only [putAll, dstOf, List.length_cons, List.length_nil, Nat.zero_add, Nat.reduceAdd, List.getElem?_toArray, List.getElem?_cons_zero, List.getElem?_cons_succ, Option.bind_some, Act.put, List.setIfInBounds_toArray, List.set_cons_succ, List.set_cons_zero]
        rw [e0, e1]
        clear e0 e1 hC hn E15 hL vs L nb
        go_upto_region 12 with (fail)
        refine region_fr (C := [Fq.is (.bool true), Fq.is (.bool true)]) (ks := [none, none, none]) (new := []) E rfl (by kernel_rfl) rfl rfl (fun hp => ⟨?_, ?_, trivial⟩) ?_
        · exact q_one (F := fun v _ => v = .int .i64 1) hp (free_of rfl) trivial (sq_out (s := 30) rfl rfl (fun _ _ => rfl)) (fun ρ w hc h => ⟨.bool true, by simp [execOp, go_sem, h, hc], rfl⟩)
        · exact q_assign hp (free_of rfl) trivial (sq_in 0 rfl rfl (by simp) rfl (fun v w h => h))
        intro L vs w16 nb hL hC hn E16
        have e0 : vs 0 = .bool true := hC 0 (by simp)
        have e1 : vs 1 = .bool true := hC 1 (by simp)
        have E : Fr w [(b10_8, 3, Fq.got (powM a H P) 0), (b9_2, 2, Fq.num a), (b1, 2, Fq.raw n1 a1 k1 c1 xs1)] w16 := E16
        rw [lay_all hL]
        simp only [putAll, dstOf, List.length_cons, List.length_nil, Nat.zero_add, Nat.reduceAdd, List.getElem?_toArray, List.getElem?_cons_zero, List.getElem?_cons_succ, Option.bind_some, Act.put, List.setIfInBounds_toArray, List.set_cons_succ, List.set_cons_zero]
        rw [e0, e1]
        clear e0 e1 hC hn E16 hL vs L nb
        go_upto_region 13 with (fail)
        refine region_fr (C := [Fq.got (powM a H P) 0, Fq.is (.bool true), Fq.is (.bool true), Fq.is (.bool true), Fq.is (.bool true), Fq.is (.bool true)]) (ks := [none, none, none]) (new := []) E rfl (by kernel_rfl) rfl rfl (fun hp => ⟨?_, ?_, ?_, ?_, ?_, ?_, trivial⟩) ?_
        · exact q_loadGot hp (free_of rfl) trivial (List.mem_iff_getElem?.2 ⟨0, rfl⟩) (.inl rfl) rfl (sq_out (s := 8) rfl rfl (fun _ _ => rfl)) (fun us w hl h => h)
        · exact q_call2 (F := (Fq.got (powM a H P) 0).P) (G := (Fq.is (.int .i64 1)).P) hp (free_of rfl) trivial (enq_V_is) (sq_in 0 rfl rfl (by simp) rfl (fun v w h => h)) (sq_const (fun _ => rfl)) (fun v v' w h h' => (by subst h'; exact exVIs h (by have := RP.out; omega) rfl (decide_eq_true EQ.out)))
        · exact q_move hp (free_of rfl) trivial (sq_in 1 rfl rfl (by simp) rfl (fun v w h => h))
        · exact q_move hp (free_of rfl) (gq_some rfl rfl (by simp) rfl (fun v w h => h)) (sq_out (s := 5) rfl rfl (fun _ _ => rfl))
        · exact q_two (F := fun v _ => v = .bool true) (G := fun v _ => v = .bool true) hp (free_of rfl) trivial (sq_in 2 rfl rfl (by simp) rfl (fun v w h => h)) (sq_in 3 rfl rfl (by simp) rfl (fun v w h => h)) (fun ρ w hc h h' => ⟨_, by simp [execOp, go_sem, h, h'], rfl⟩)
        · exact q_assign hp (free_of rfl) trivial (sq_in 4 rfl rfl (by simp) rfl (fun v w h => h))
        intro L vs w17 nb hL hC hn E17
        have e1 : vs 1 = .bool true := hC 1 (by simp)
        have e2 : vs 2 = .bool true := hC 2 (by simp)
        have e3 : vs 3 = .bool true := hC 3 (by simp)
        have e4 : vs 4 = .bool true := hC 4 (by simp)
        have e5 : vs 5 = .bool true := hC 5 (by simp)
        have E : Fr w [(b10_8, 3, Fq.got (powM a H P) 0), (b9_2, 2, Fq.num a), (b1, 2, Fq.raw n1 a1 k1 c1 xs1)] w17 := E17
        rw [lay_all hL]
        simp only [putAll, dstOf, List.length_cons, List.length_nil, Nat.zero_add, Nat.reduceAdd, List.getElem?_toArray, List.getElem?_cons_zero, List.getElem?_cons_succ, Option.bind_some, Act.put, List.setIfInBounds_toArray, List.set_cons_succ, List.set_cons_zero]
        rw [e1, e2, e3, e4, e5]
        generalize vs 0 = u17_0
        clear e1 e2 e3 e4 e5 hC hn E17 hL vs L nb
        clear RP RH W1 PP HK EQ EP HO
        clear B7 Ba hT BP BH
        go_wp2
        refine bodyPost_ret (v := .bool true) ?_ rfl ⟨rfl, E.below⟩
        simp [results, Tryd.results5, go_sem]
      · have HK : Hid (kron a P = -1) := by unfold Tri at KT; show _ = _; omega
        have EQ : Hid (powM a H P = (P - 1)) := by have := EZ.out _ HK.out; show _ = _; simpa using this
        clear KT EZ hk0 hk
        go_upto_region 9 with (fail)
        refine region_fr (C := [Fq.num a, Fq.is (.int .i64 P), Fq.num P, Fq.is (.int .i64 (-1))]) (ks := [none, none, none]) (new := []) E rfl (by kernel_rfl) rfl rfl (fun hp => ⟨?_, ?_, ?_, ?_, trivial⟩) ?_
        · exact q_loadInt (off := 0) hp (free_of rfl) trivial (List.mem_iff_getElem?.2 ⟨1, rfl⟩) (.inl rfl) (Nat.le_of_ble_eq_true rfl) (sq_out (s := 7) rfl rfl (fun _ _ => rfl)) (fun us w hl h => ld_num hl h)
        · exact q_move hp (free_of rfl) trivial (sq_out (s := 6) rfl rfl (fun _ _ => rfl))
        · exact q_call1 (F := (Fq.is (.int .i64 P)).P) hp (free_of rfl) trivial (enq_V_of) (sq_in 1 rfl rfl (by simp) rfl (fun v w h => h)) (fun v w h => (by subst h; exact exVOf (by have := RP.out; omega)))
        · exact q_call2W (F := (Fq.num a).P) (G := (Fq.num P).P) hp (free_of rfl) trivial (enq_M_Kronecker) rfl (sq_in 0 rfl rfl (by simp) rfl (fun v w h => h)) (sq_in 2 rfl rfl (by simp) rfl (fun v w h => h)) (fun v v' w hbw h h' => exKronR h h' (hT.out.mono hbw) (Int.lt_of_lt_of_le Ba.out (pw_le (by omega))) (Int.lt_of_lt_of_le BP.out (pw_le (by omega))) HK.out)
        intro L vs w18 nb hL hC hn E18
        have e1 : vs 1 = .int .i64 P := hC 1 (by simp)
        have e3 : vs 3 = .int .i64 (-1) := hC 3 (by simp)
        have E : Fr w [(b10_8, 3, Fq.got (powM a H P) 0), (b9_2, 2, Fq.num a), (b1, 2, Fq.raw n1 a1 k1 c1 xs1)] w18 := E18
        rw [lay_all hL]
        simp only [putAll, dstOf, List.length_cons, List.length_nil, Nat.zero_add, Nat.reduceAdd, List.getElem?_toArray, List.getElem?_cons_zero, List.getElem?_cons_succ, Option.bind_some, Act.put, List.setIfInBounds_toArray, List.set_cons_succ, List.set_cons_zero]
        rw [e1, e3]
        generalize vs 0 = u18_0
        generalize vs 2 = u18_2
        clear e1 e3 hC hn E18 hL vs L nb
        go_upto_region 10 with (fail)
        refine region_fr (C := [Fq.is (.bool false), Fq.is (.bool false)]) (ks := [none, none, none]) (new := []) E rfl (by kernel_rfl) rfl rfl (fun hp => ⟨?_, ?_, trivial⟩) ?_
        · exact q_one (F := fun v _ => v = .int .i64 (-1)) hp (free_of rfl) trivial (sq_out (s := 30) rfl rfl (fun _ _ => rfl)) (fun ρ w hc h => ⟨.bool false, by simp [execOp, go_sem, h, hc], rfl⟩)
        · exact q_assign hp (free_of rfl) trivial (sq_in 0 rfl rfl (by simp) rfl (fun v w h => h))
        intro L vs w19 nb hL hC hn E19
        have e0 : vs 0 = .bool false := hC 0 (by simp)
        have e1 : vs 1 = .bool false := hC 1 (by simp)
        have E : Fr w [(b10_8, 3, Fq.got (powM a H P) 0), (b9_2, 2, Fq.num a), (b1, 2, Fq.raw n1 a1 k1 c1 xs1)] w19 := E19
        rw [lay_all hL]
        simp only [putAll, dstOf, List.length_cons, List.length_nil, Nat.zero_add, Nat.reduceAdd, List.getElem?_toArray, List.getElem?_cons_zero, List.getElem?_cons_succ, Option.bind_some, Act.put, List.setIfInBounds_toArray, List.set_cons_succ, List.set_cons_zero]
        rw [e0, e1]
        clear e0 e1 hC hn E19 hL vs L nb
        go_upto_region 12 with (fail)
        refine region_fr (C := [Fq.is (.bool false), Fq.is (.bool false)]) (ks := [none, none, none]) (new := []) E rfl (by kernel_rfl) rfl rfl (fun hp => ⟨?_, ?_, trivial⟩) ?_
        · exact q_one (F := fun v _ => v = .int .i64 (-1)) hp (free_of rfl) trivial (sq_out (s := 30) rfl rfl (fun _ _ => rfl)) (fun ρ w hc h => ⟨.bool false, by simp [execOp, go_sem, h, hc], rfl⟩)
        · exact q_assign hp (free_of rfl) trivial (sq_in 0 rfl rfl (by simp) rfl (fun v w h => h))
        intro L vs w20 nb hL hC hn E20
        have e0 : vs 0 = .bool false := hC 0 (by simp)
        have e1 : vs 1 = .bool false := hC 1 (by simp)
        have E : Fr w [(b10_8, 3, Fq.got (powM a H P) 0), (b9_2, 2, Fq.num a), (b1, 2, Fq.raw n1 a1 k1 c1 xs1)] w20 := E20
        rw [lay_all hL]
        simp only [putAll, dstOf, List.length_cons, List.length_nil, Nat.zero_add, Nat.reduceAdd, List.getElem?_toArray, List.getElem?_cons_zero, List.getElem?_cons_succ, Option.bind_some, Act.put, List.setIfInBounds_toArray, List.set_cons_succ, List.set_cons_zero]
        rw [e0, e1]
        clear e0 e1 hC hn E20 hL vs L nb
        go_upto_region 14 with (fail)
        refine region_fr (C := [Fq.got (powM a H P) 0, Fq.is (.int .i64 P), Fq.is (.int .i64 (P - 1)), Fq.is (.bool true), Fq.is (.bool true), Fq.is (.bool true), Fq.is (.bool true), Fq.is (.bool true)]) (ks := [none, none, none]) (new := []) E rfl (by kernel_rfl) rfl rfl (fun hp => ⟨?_, ?_, ?_, ?_, ?_, ?_, ?_, ?_, trivial⟩) ?_
        · exact q_loadGot hp (free_of rfl) trivial (List.mem_iff_getElem?.2 ⟨0, rfl⟩) (.inl rfl) rfl (sq_out (s := 8) rfl rfl (fun _ _ => rfl)) (fun us w hl h => h)
        · exact q_move hp (free_of rfl) trivial (sq_out (s := 6) rfl rfl (fun _ _ => rfl))
        · exact q_one (F := fun v _ => v = .int .i64 P) hp (free_of rfl) trivial (sq_in 1 rfl rfl (by simp) rfl (fun v w h => h)) (fun ρ w hc h => ⟨.int .i64 (P - 1), by simp [execOp, go_sem, h, hc, W1.out], rfl⟩)
        · exact q_call2 (F := (Fq.got (powM a H P) 0).P) (G := (Fq.is (.int .i64 (P - 1))).P) hp (free_of rfl) trivial (enq_V_is) (sq_in 0 rfl rfl (by simp) rfl (fun v w h => h)) (sq_in 2 rfl rfl (by simp) rfl (fun v w h => h)) (fun v v' w h h' => (by subst h'; exact exVIs h (by have := RP.out; omega) rfl (decide_eq_true EQ.out)))
        · exact q_move hp (free_of rfl) trivial (sq_in 3 rfl rfl (by simp) rfl (fun v w h => h))
        · exact q_move hp (free_of rfl) (gq_some rfl rfl (by simp) rfl (fun v w h => h)) (sq_out (s := 5) rfl rfl (fun _ _ => rfl))
        · exact q_two (F := fun v _ => v = .bool true) (G := fun v _ => v = .bool true) hp (free_of rfl) trivial (sq_in 4 rfl rfl (by simp) rfl (fun v w h => h)) (sq_in 5 rfl rfl (by simp) rfl (fun v w h => h)) (fun ρ w hc h h' => ⟨_, by simp [execOp, go_sem, h, h'], rfl⟩)
        · exact q_assign hp (free_of rfl) trivial (sq_in 6 rfl rfl (by simp) rfl (fun v w h => h))
        intro L vs w21 nb hL hC hn E21
        have e1 : vs 1 = .int .i64 P := hC 1 (by simp)
        have e2 : vs 2 = .int .i64 (P - 1) := hC 2 (by simp)
        have e3 : vs 3 = .bool true := hC 3 (by simp)
        have e4 : vs 4 = .bool true := hC 4 (by simp)
        have e5 : vs 5 = .bool true := hC 5 (by simp)
        have e6 : vs 6 = .bool true := hC 6 (by simp)
        have e7 : vs 7 = .bool true := hC 7 (by simp)
        have E : Fr w [(b10_8, 3, Fq.got (powM a H P) 0), (b9_2, 2, Fq.num a), (b1, 2, Fq.raw n1 a1 k1 c1 xs1)] w21 := E21
        rw [lay_all hL]
        simp only [putAll, dstOf, List.length_cons, List.length_nil, Nat.zero_add, Nat.reduceAdd, List.getElem?_toArray, List.getElem?_cons_zero, List.getElem?_cons_succ, Option.bind_some, Act.put, List.setIfInBounds_toArray, List.set_cons_succ, List.set_cons_zero]
        rw [e1, e2, e3, e4, e5, e6, e7]
        generalize vs 0 = u21_0
        clear e1 e2 e3 e4 e5 e6 e7 hC hn E21 hL vs L nb
        clear RP RH W1 PP HK EQ EP HO
        clear B7 Ba hT BP BH
        go_wp2
        refine bodyPost_ret (v := .bool true) ?_ rfl ⟨rfl, E.below⟩
        simp [results, Tryd.results5, go_sem]

end Go.Proofs.YtieobgadihcgeaaDoor
