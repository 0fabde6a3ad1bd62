/- Oj, Uq, Ul, Uo, Ux, Ut, Uv. -/
import Derived.Test.YtdhkhedhnolcjaaGreatCi6
set_option linter.unusedSimpArgs false
set_option linter.unusedVariables false
namespace Go.Proofs.YtdhkhedhnolcjaaGreat
open Go Go.RowKit

def noSl : List Fd → Bool
 | [] => true
 | .v (.slice _ _ _) :: _ => false
 | _ :: r => noSl r
def FarC (own : Option Nat) (es : List Value) : Prop := ∀ a k c, Value.slice (some a) k c ∈ es → k ≠ 0 → some a.block ≠ own
theorem FarC.tail {own : Option Nat} {u : Value} {es : List Value} (h : FarC own (u :: es)) : FarC own es := fun a k c hm hk => h a k c (List.mem_cons_of_mem _ hm) hk
theorem Fits.grown {w w' : World} {row : Option Nat} (hg : w.grownBy w' row) : ∀ {fs : List Fd} {es : List Value}, Fits w fs es → FarC row es → Fits w' fs es
 | [], _, h, _ => h
 | .n z :: fs, _, ⟨a, b, r, e, h1, h2⟩, hf => by
  subst e
  refine ⟨a, b, r, rfl, ?_, Fits.grown hg h2 hf.tail.tail⟩
  obtain ⟨n, ao, k, c, e⟩ := h1.parts
  rw [e] at h1 ⊢
  injection e with e
  have e2 := congrArg Array.toList e
  simp at e2
  obtain ⟨rfl, rfl⟩ := e2
  exact h1.grown hg fun x hx hk => hf x k c (by rw [hx]; simp) hk
 | .v u :: fs, _, ⟨r, e, h1, h2⟩, hf => by
  subst e
  exact ⟨r, rfl, h1, Fits.grown hg h2 hf.tail⟩
 | .r n ao k c xs z :: fs, _, ⟨r, e, h1, h2⟩, hf => by
  subst e
  refine ⟨r, rfl, ⟨?_, h1.2.grown hg fun x hx hk => hf x k c (by rw [hx]; simp) hk⟩, Fits.grown hg h2 hf.tail.tail⟩
  have hs := h1.1
  refine ⟨hs.len, hs.cap, hs.cells.1, ?_⟩
  rcases hs.cells.2 with h0 | ⟨b, off, rfl, hlt, hc⟩
  ·exact .inl h0
  ·rcases Nat.eq_zero_or_pos k with h0 | h0
   ·exact .inl (List.eq_nil_of_length_eq_zero (hs.len.trans h0))
   ·exact .inr ⟨b, off, rfl, Nat.lt_of_lt_of_le hlt hg.size, fun j hj => hg.cell (hc j hj) (show some b ≠ row from hf ⟨b, off, none⟩ k c (by simp) (by omega))⟩
theorem Fits.blk {w : World} : ∀ {fs : List Fd} {es : List Value}, Fits w fs es → noSl fs = true → ∀ {a : Addr} {k c : Nat}, Value.slice (some a) k c ∈ es → k ≠ 0 → a.block < w.heap.size
 | [], _, h, _, _, _, _, hm, _ => by rw [show _ = [] from h] at hm; simp at hm
 | .n z :: fs, _, ⟨x, y, r, e, h1, h2⟩, hn, a, k, c, hm, hk => by
  subst e
  obtain ⟨n, ao, k', c', e⟩ := h1.parts
  have h3 := h1
  rw [e] at h3
  injection e with e
  have e2 := congrArg Array.toList e
  simp at e2
  obtain ⟨rfl, rfl⟩ := e2
  simp only [List.mem_cons, reduceCtorEq, false_or] at hm
  rcases hm with hm | hm
  ·injection hm with hm1 hm2 hm3
   subst hm1 hm2 hm3
   exact h3.blk hk
  ·exact Fits.blk h2 hn hm hk
 | .v u :: fs, _, ⟨r, e, h1, h2⟩, hn, a, k, c, hm, hk => by
  subst e
  rcases List.mem_cons.1 hm with hm | hm
  ·subst hm; simp [noSl] at hn
  ·refine Fits.blk h2 ?_ hm hk
   cases u <;> first | exact hn | simp [noSl] at hn
 | .r n ao k' c' xs z :: fs, _, ⟨r, e, h1, h2⟩, hn, a, k, c, hm, hk => by
  subst e
  simp only [List.mem_cons, reduceCtorEq, false_or] at hm
  rcases hm with hm | hm
  ·injection hm with hm1 hm2 hm3
   subst hm1 hm2 hm3
   exact h1.2.blk hk
  ·exact Fits.blk h2 hn hm hk
def StAt (w : World) (g o : Nat) (fs : List Fd) : Prop := ∃ es, Fits w fs es ∧ ∀ j, j < es.length → w.cell? ⟨g, o + j, none⟩ = some (es.getD j undef)
theorem StAt.mono {w w' : World} {g o : Nat} {fs : List Fd} (h : StAt w g o fs) (hl : g < w.heap.size) (hb : Below w.heap.size w w') : StAt w' g o fs := by
 obtain ⟨es, h1, h2⟩ := h
 exact ⟨es, h1.mono hb, fun j hj => (hb.cell (p := ⟨g, o + j, none⟩) hl).trans (h2 j hj)⟩
def Sts (m : Nat) (w : World) (v : Value) (fss : List (List Fd)) : Prop := ∃ g cap, v = .slice (some ⟨g, 0, none⟩) fss.length cap ∧ g < w.heap.size ∧ ∀ i fs, fss[i]? = some fs → StAt w g (i * m) fs
theorem Sts.mono {m : Nat} {w w' : World} {v : Value} {fss : List (List Fd)} (h : Sts m w v fss) (hb : Below w.heap.size w w') : Sts m w' v fss := by
 obtain ⟨g, cap, e, h1, h2⟩ := h
 exact ⟨g, cap, e, Nat.lt_of_lt_of_le h1 hb.size, fun i fs hi => (h2 i fs hi).mono h1 hb⟩
def StCell (m : Nat) (us : List Value) (w : World) (own : Option Nat) (i : Nat) (fs : List Fd) : Prop := ∃ es, es.length = m ∧ (∀ j, j < m → us[i * m + j]? = es[j]?) ∧ FarC own es ∧ Fits w fs es ∧ noSl fs = true
def Ls (T m : Nat) (W : World) (B : Nat) (v : Value) (fss : List (List Fd)) : Prop := ∃ us, W.ownsRow B T m v fss.length us ∧ ∀ i fs, fss[i]? = some fs → StCell m us W v.ownBlock i fs
theorem Ls.shape {T m : Nat} {W : World} {B : Nat} {v : Value} {fss : List (List Fd)} (h : Ls T m W B v fss) : ∃ ao cap, v = .slice ao fss.length cap := by
 obtain ⟨us, h, _⟩ := h
 rcases h.2 with ⟨rfl, h0⟩ | ⟨g, cap, cur, rfl, _⟩
 ·exact ⟨none, 0, by rw [h0]⟩
 ·exact ⟨_, _, rfl⟩
theorem Ls.mono {T m : Nat} {w w' : World} {B : Nat} {v : Value} {fss : List (List Fd)} (h : Ls T m w B v fss) (hb : Below w.heap.size w w') : Ls T m w' B v fss := by
 obtain ⟨us, h, hE⟩ := h
 refine ⟨us, ⟨h.1, ?_⟩, fun i z hi => ?_⟩
 ·rcases h.2 with h2 | ⟨g, cap, cur, h1, h2, h3, h4⟩
  ·exact .inl h2
  ·exact .inr ⟨g, cap, cur, h1, h2, by rw [hb.block g (Array.getElem?_eq_some_iff.1 h3).1]; exact h3, h4⟩
 ·obtain ⟨es, g1, g2, g3, g4, g5⟩ := hE i z hi
  exact ⟨es, g1, g2, g3, g4.mono hb, g5⟩
theorem Ls.one {T m : Nat} (w : World) {B : Nat} {fs : List Fd} {es : List Value} (hB : B ≤ w.heap.size) (hm : es.length = m) (hF : Fits w fs es) (hn : noSl fs = true) : Ls T m (w.alloc (.cells es.toArray T)) B (.slice (some ⟨w.heap.size, 0, none⟩) 1 1) [fs] := by
 refine ⟨es, ⟨by simp [hm], .inr ⟨w.heap.size, 1, es.toArray, rfl, hB, ?_, ?_⟩⟩, fun i z hi => ?_⟩
 ·exact heap_alloc_new w _
 ·simp [hm]
  exact ⟨by unfold maxLen; omega, by rw [← hm, List.take_length]⟩
 ·match i, hi with
  | 0, hi =>
   simp at hi
   subst hi
   refine ⟨es, hm, fun j _ => by rw [Nat.zero_mul, Nat.zero_add], fun a k c hs hk e => ?_, hF.mono (zAy _ _), hn⟩
   have h1 := hF.blk hn hs hk
   simp [Value.ownBlock] at e
   omega
  | i + 1, hi => simp at hi
theorem Ls.step {T m B : Nat} {w wr w1 w2 : World} {v : Value} {fss : List (List Fd)} {us es : List Value} {fs : List Fd} {o : Obj} {g cap H : Nat}
  (hO : wr.ownsRow B T m v fss.length us) (hE : ∀ i z, fss[i]? = some z → StCell m us wr v.ownBlock i z) (hB : B ≤ wr.heap.size) (hnx : Below B w wr) (hb : Below wr.heap.size wr w1)
  (hnew : ∀ a k c, Value.slice (some a) k c ∈ es → k ≠ 0 → wr.heap.size ≤ a.block) (hF : Fits w1 fs es) (hn : noSl fs = true) (hm : es.length = m)
  (hown' : w2.ownsRow B T m (.slice (some ⟨g, 0, none⟩) (fss.length + 1) cap) (fss.length + 1) (us ++ es)) (hgrow : (w1.alloc o).grownBy w2 v.ownBlock) (hat : v.ownBlock = some g ∨ g = H) (hH : (w1.alloc o).heap.size = H) :
  Ls T m w2 B (.slice (some ⟨g, 0, none⟩) (fss.length + 1) cap) (fss ++ [fs]) ∧ Below B w w2 := by
 have hsz := hb.size
 have hH2 : w1.heap.size + 1 = H := by rw [← hH]; simp
 have hlt := hO.lt
 have hul := hO.1
 refine ⟨⟨us ++ es, by simpa using hown', fun i y hi => ?_⟩, ?_⟩
 ·have hne : ∀ {a : Addr} {k c : Nat} {xs : List Value} {gs : List Fd}, Fits w1 gs xs → noSl gs = true → Value.slice (some a) k c ∈ xs → k ≠ 0 → some a.block ≠ v.ownBlock → a.block ≠ g := by
   intro a k c xs gs hx hnx2 hmx hk hr e
   have h1 := hx.blk hnx2 hmx hk
   rcases hat with h | h
   ·rw [h, e] at hr; exact hr rfl
   ·omega
  by_cases hil : i < fss.length
  ·rw [List.getElem?_append_left hil] at hi
   obtain ⟨xs, g1, g2, g3, g4, g5⟩ := hE i y hi
   refine ⟨xs, g1, fun j hj => ?_, fun a k c hs hk e => ?_, ((g4.mono hb).mono (zAy w1 o)).grown hgrow g3, g5⟩
   ·have hm1 : (i + 1) * m ≤ fss.length * m := Nat.mul_le_mul_right m (by omega)
    rw [Nat.add_mul, Nat.one_mul] at hm1
    rw [List.getElem?_append_left (by omega)]
    exact g2 j hj
   ·exact hne (g4.mono hb) g5 hs hk (g3 a k c hs hk) (by simpa [Value.ownBlock] using e)
  ·have hi2 : i = fss.length := by
    rcases Nat.lt_or_ge i (fss ++ [fs]).length with h | h
    ·simp at h; omega
    ·rw [List.getElem?_eq_none h] at hi; cases hi
   subst hi2
   rw [List.getElem?_append_right (Nat.le_refl _), Nat.sub_self] at hi
   simp only [List.getElem?_cons_zero, Option.some.injEq] at hi
   subst hi
   have hfar : FarC v.ownBlock es := fun a k c hs hk e => by
    have h1 := hnew a k c hs hk
    have h2 := (hlt a.block e.symm).2
    omega
   refine ⟨es, hm, fun j hj => ?_, fun a k c hs hk e => ?_, (hF.mono (zAy w1 o)).grown hgrow hfar, hn⟩
   ·rw [List.getElem?_append_right (by omega), show fss.length * m + j - us.length = j by omega]
   ·exact hne hF hn hs hk (hfar a k c hs hk) (by simpa [Value.ownBlock] using e)
 ·exact ((hnx.trans (hb.mono hB)).alloc (by omega) o).grown hgrow (by simp; omega) (fun j hj => (hO.lt j hj).1)
section
variable {os : List Oper} {Q : Exit → Act → World → Prop} {a : Act} {p : Pq} {B B0 : Nat} {w0 : World}
variable {i s : Nat} {d : Option Tmp} {ty : TypeId} {ps : String} {af : Array Edge} {gd : Option (Nat × Bool)}
end
def TameRow (w : World) (v : Value) : Prop := ∃ g n cap cur e, v = .slice (some ⟨g, 0, none⟩) n cap ∧ w.heap[g]? = some (.cells cur e (0, 0)) ∧ ∀ u ∈ cur.toList, zCp u = true
theorem TameRow.mono {w w' : World} {v : Value} (h : TameRow w v) (hb : Below w.heap.size w w') : TameRow w' v := by
 obtain ⟨g, n, cap, cur, e, h1, h2, h3⟩ := h
 exact ⟨g, n, cap, cur, e, h1, by rw [hb.block g (Array.getElem?_eq_some_iff.1 h2).1]; exact h2, h3⟩
theorem TameRow.num {w : World} {v : Value} (h : TameRow w v) {n : Bool} {ao : Option Addr} {k c : Nat} {z : Int} (hN : Num w (.agg #[.bool n, .slice ao k c]) z) : ∀ a, ao = some a → k ≠ 0 → some a.block ≠ v.ownBlock := by
 intro a ha hk e
 obtain ⟨g, n', cap, cur, et, rfl, h2, h3⟩ := h
 obtain ⟨neg, ao', k', c', xs, hv, hs, hn, hz⟩ := hN
 injection hv with hv
 have hv2 := congrArg Array.toList hv
 simp at hv2
 obtain ⟨rfl, rfl, rfl, rfl⟩ := hv2
 subst ha
 rcases hs.cells.2 with h0 | ⟨b, off, e1, hlt, hc⟩
 ·have := hs.len; rw [h0] at this; simp at this; omega
 ·injection e1 with e1
  subst e1
  simp [Value.ownBlock] at e
  subst e
  have h4 := hc 0 (by have := hs.len; omega)
  rw [cell_of_row w b _ cur et _ h2] at h4
  have h5 := List.mem_of_getElem? (l := cur.toList) (i := off + 0) (by rw [Array.getElem?_toList]; exact h4)
  have h6 := h3 _ h5
  simp [zCp] at h6
theorem TameRow.far {w : World} {v : Value} (h : TameRow w v) : ∀ {fs : List Fd} {es : List Value}, Fits w fs es → noSl fs = true → FarC v.ownBlock es
 | [], _, hf, _ => by rw [show _ = [] from hf]; intro a k c hm; simp at hm
 | .n z :: fs, _, ⟨x, y, r, e, h1, h2⟩, hn => by
  subst e
  obtain ⟨n, ao, k', c', e⟩ := h1.parts
  have h3 := h1
  rw [e] at h3
  injection e with e
  have e2 := congrArg Array.toList e
  simp at e2
  obtain ⟨rfl, rfl⟩ := e2
  intro a k c hm hk
  simp only [List.mem_cons, reduceCtorEq, false_or] at hm
  rcases hm with hm | hm
  ·injection hm with hm1 hm2 hm3
   subst hm1 hm2 hm3
   exact h.num h3 _ rfl hk
  ·exact TameRow.far h h2 hn a k c hm hk
 | .v u :: fs, _, ⟨r, e, h1, h2⟩, hn => by
  subst e
  intro a k c hm hk
  rcases List.mem_cons.1 hm with hm | hm
  ·subst hm; simp [noSl] at hn
  ·refine TameRow.far h h2 ?_ a k c hm hk
   cases u <;> first | exact hn | simp [noSl] at hn
 | .r n ao k' c' xs z :: fs, _, ⟨r, e, h1, h2⟩, hn => by
  subst e
  intro a k c hm hk
  simp only [List.mem_cons, reduceCtorEq, false_or] at hm
  rcases hm with hm | hm
  ·injection hm with hm1 hm2 hm3
   subst hm1 hm2 hm3
   exact h.num h1.2 _ rfl hk
  ·exact TameRow.far h h2 hn a k c hm hk
set_option maxRecDepth 20000 in
theorem zPp {w : World} (t ty : TypeId) (base : Nat) (e : TypeId) (i : TypeInfo) (z : Value) (size bytes : Nat) (ht : Tryz.prog.underlying t = some (.slice e)) (hi : Tryz.prog.info? e = some i) (hz : i.zero = some z)
  (hsize : i.size = size) (hby : i.bytes = bytes) (hzs : z.cells.size = size) (hsz : 0 < size)
  (v : Value) (n : Nat) (xs : List Value) (hown : w.ownsRow base e size v n xs) (htm : TameRow w v) (hzt : ∀ u ∈ z.cells.toList, zCp u = true)
  (ad : Addr) (m c : Nat) (news : List Value) (hl : news.length = m * size) (hnews : ∀ j u, news[j]? = some u → w.cell? (ad.add j) = some u) (h1 : ∀ u ∈ news, zCp u = true)
  (hm : 0 < m) (h63 : n + m ≤ maxLen) (hbytes : (n + m) * bytes ≤ 140737488355328) (hbase : base ≤ w.heap.size) (H : Nat) (hH : w.heap.size = H) :
  ∃ g cap w', (Builtin.append_ #[t, t] ty #[v, .slice (some ad) m c]).run Tryz.prog w = .ok (.slice (some ⟨g, 0, none⟩) (n + m) cap) w' ∧
   w'.ownsRow base e size (.slice (some ⟨g, 0, none⟩) (n + m) cap) (n + m) (xs ++ news) ∧ w.grownBy w' v.ownBlock ∧ (v.ownBlock = some g ∨ g = H) ∧ g < w'.heap.size ∧ TameRow w' (.slice (some ⟨g, 0, none⟩) (n + m) cap) := by
 have hone : ∀ u ∈ news, u.oneCell' = true := fun u hu => by
  have := h1 u hu
  simp only [zCp, Bool.and_eq_true] at this
  exact this.1
 obtain ⟨g, cap, w', hr, h2, h3, h4, h5⟩ := run_append_lies (P := Tryz.prog) w t ty base e i z size bytes ht hi hz hsize hby hzs hsz v n xs hown ad m c news hl hnews hone hm h63 hbytes hbase H hH
 refine ⟨g, cap, w', hr, h2, h3, h4, h5, ?_⟩
 subst hsize
 subst hby
 obtain ⟨g0, n0, cap0, cur0, e0, rfl, hg0, ht0⟩ := htm
 rcases hown.2 with ⟨h6, _⟩ | ⟨g6, cap6, cur, h7, hbg, hg, hnc, hcm, hcs, htake⟩
 ·cases h6
 ·injection h7 with h7 h8 h9
  injection h7 with h7
  injection h7 with h7
  subst h7 h8 h9
  have hcur : cur = cur0 := by rw [hg0] at hg; injection hg with hg; injection hg with hg; exact hg.symm
  subst hcur
  by_cases hroom : n0 + m ≤ cap0
  ·have hfit : n0 * i.size + news.length ≤ cur.size := by rw [hl, hcs, ← Nat.add_mul]; exact Nat.mul_le_mul_right _ hroom
   have hr2 := run_append_room (P := Tryz.prog) w t ty e i ht hi g0 n0 cap0 cur hg ad m c news hl hnews hone hroom hfit
   rw [hr] at hr2
   injection hr2 with e1 e2
   injection e1 with e1 _ e3
   injection e1 with e1
   injection e1 with e1
   subst e1 e2 e3
   refine ⟨g, _, _, _, e, rfl, setRow_heap w g cur _ e _ hg, fun u hu => ?_⟩
   simp only [List.mem_append] at hu
   rcases hu with (hu | hu) | hu
   ·exact ht0 u (List.mem_of_mem_take hu)
   ·exact h1 u hu
   ·exact ht0 u (List.mem_of_mem_drop hu)
  ·have holds : ∀ j u, xs[j]? = some u → w.cell? ((⟨g0, 0, none⟩ : Addr).add j) = some u := hown.cells (g := g0) rfl
   have hsmall : n0 + m ≤ 9223372036854775807 := by simp only [maxLen] at h63; omega
   have hr2 := run_append_grow (P := Tryz.prog) w t ty e i z ht hi hz ⟨g0, 0, none⟩ n0 cap0 xs hown.1 holds ad m c news hl hnews (by omega) (by omega) (growslice_fits (by omega) hbytes)
   rw [hr] at hr2
   injection hr2 with e1 e2
   injection e1 with e1 _ e3
   injection e1 with e1
   injection e1 with e1
   subst e1 e2 e3
   refine ⟨_, _, _, _, e, rfl, heap_alloc_new w.drew _, fun u hu => ?_⟩
   simp only [Array.toList_append, List.mem_append] at hu
   rcases hu with (hu | hu) | hu
   ·rw [← htake] at hu
    exact ht0 u (List.mem_of_mem_take hu)
   ·exact h1 u hu
   ·simp only [Builtin.zeroCells, Array.toList_map, Array.toList_range, List.mem_map, List.mem_range] at hu
    obtain ⟨j, hj, rfl⟩ := hu
    have hlt : j % z.cells.size < z.cells.size := Nat.mod_lt _ (by rw [hzs]; exact hsz)
    rw [getElem!_pos z.cells (j % z.cells.size) hlt]
    exact hzt _ (by simp)
theorem zP1 {w : World} {ops : Array Oper} {rest : List Oper} {o : Oper} {a : Act} {Q : Exit → Act → World → Prop} (hgd : o.guard = none) (s x : Operand) (t : TypeId)
  (ho : o.op = .call { callee := .builtin .append, args := #[s, x], argTypes := #[t, t] })
  (base : Nat) (e : TypeId) (i : TypeInfo) (z : Value) (size bytes : Nat) (ht : Tryz.prog.underlying t = some (.slice e)) (hi : Tryz.prog.info? e = some i) (hz : i.zero = some z)
  (hsize : i.size = size) (hby : i.bytes = bytes) (hzs : z.cells.size = size) (hsz : 0 < size)
  (v : Value) (n : Nat) (xs : List Value) (hs : a.eval s = v) (hown : w.ownsRow base e size v n xs) (htm : TameRow w v) (hzt : ∀ u ∈ z.cells.toList, zCp u = true)
  (ad : Addr) (m c : Nat) (news : List Value) (hx : a.eval x = .slice (some ad) m c) (hl : news.length = m * size) (hnews : ∀ j u, news[j]? = some u → w.cell? (ad.add j) = some u) (h1 : ∀ u ∈ news, zCp u = true)
  (hm : 0 < m) (h63 : n + m ≤ maxLen) (hbytes : (n + m) * bytes ≤ 140737488355328) (hbase : base ≤ w.heap.size) (H : Nat) (hH : w.heap.size = H)
  (h : ∀ g cap w', w'.ownsRow base e size (.slice (some ⟨g, 0, none⟩) (n + m) cap) (n + m) (xs ++ news) → w.grownBy w' v.ownBlock → (v.ownBlock = some g ∨ g = H) → g < w'.heap.size → TameRow w' (.slice (some ⟨g, 0, none⟩) (n + m) cap) → wpList Tryz.prog ops Q rest (a.put o.dst (.slice (some ⟨g, 0, none⟩) (n + m) cap)) w') : wpList Tryz.prog ops Q (o :: rest) a w := by
 refine wpList_plain hgd fun K hK => ?_
 obtain ⟨g, cap, w', hr, h2, h3, h4, h5, h6⟩ := zPp (w := w) t o.type base e i z size bytes ht hi hz hsize hby hzs hsz v n xs hown htm hzt ad m c news hl hnews h1 hm h63 hbytes hbase H hH
 unfold Oper.wp execOp
 simp only [ho, resolve, invoke, builtin, Sem.run_bind, Sem.run_pure, Result.andThen_ok, List.map_toArray, List.map_cons, List.map_nil, hs, hx, hr]
 exact hK _ _ (h g cap w' h2 h3 h4 h5 h6)
def RBox (W : World) (own : Option Nat) (br : Nat) (z : Int) : Prop := br < W.heap.size ∧ some br ≠ own ∧ ∃ n ao k c, W.cell? ⟨br, 0, none⟩ = some (.bool n) ∧ W.cell? ⟨br, 1, none⟩ = some (.slice ao k c) ∧ Num W (.agg #[.bool n, .slice ao k c]) z
theorem RBox.mono {W W' : World} {own : Option Nat} {br : Nat} {z : Int} (h : RBox W own br z) (hb : Below W.heap.size W W') : RBox W' own br z := by
 obtain ⟨h1, h2, n, ao, k, c, g1, g2, g3⟩ := h
 exact ⟨Nat.lt_of_lt_of_le h1 hb.size, h2, n, ao, k, c, (hb.cell (p := ⟨br, 0, none⟩) h1).trans g1, (hb.cell (p := ⟨br, 1, none⟩) h1).trans g2, g3.mono hb⟩
theorem RBox.st {W : World} {own : Option Nat} {br : Nat} {z : Int} (h : RBox W own br z) : StAt W br 0 [.n z] := by
 obtain ⟨h1, h2, n, ao, k, c, g1, g2, g3⟩ := h
 refine ⟨[.bool n, .slice ao k c], ⟨_, _, _, rfl, g3, rfl⟩, fun j hj => ?_⟩
 match j, hj with
 | 0, _ => exact g1
 | 1, _ => exact g2
theorem RBox.step {wr w1 w2 : World} {v : Value} {br g H n cap : Nat} {z : Int} {o : Obj} (h : RBox wr v.ownBlock br z) (hb : Below wr.heap.size wr w1) (ht : TameRow (w1.alloc o) v) (hgrow : (w1.alloc o).grownBy w2 v.ownBlock) (hat : v.ownBlock = some g ∨ g = H) (hH : (w1.alloc o).heap.size = H) : RBox w2 (Value.slice (some ⟨g, 0, none⟩) n cap).ownBlock br z := by
 obtain ⟨h1, h2, m, ao, k, c, g1, g2, g3⟩ := (h.mono hb).mono (zAy w1 o)
 have hlt : br < H := by rw [← hH]; exact h1
 refine ⟨Nat.lt_of_lt_of_le h1 hgrow.size, ?_, m, ao, k, c, hgrow.cell g1 h2, hgrow.cell g2 h2, g3.grown hgrow (ht.num g3)⟩
 intro e
 simp [Value.ownBlock] at e
 rcases hat with h3 | h3
 ·rw [h3, e] at h2; exact h2 rfl
 ·omega
theorem TameRow.made {w : World} {es : List Value} {T : Nat} (h : ∀ u ∈ es, zCp u = true) : TameRow (w.alloc (.cells es.toArray T)) (.slice (some ⟨w.heap.size, 0, none⟩) 1 1) := ⟨_, _, _, es.toArray, T, rfl, heap_alloc_new w _, fun u hu => h u (by simpa using hu)⟩
theorem zMj {w : World} {ops : Array Oper} {rest : List Oper} {o : Oper} {a : Act} {Q : Exit → Act → World → Prop} (hgd : o.guard = none) (T : TypeId) (x : Operand) (ho : o.op = .load T x) {b off l : Nat} {fs : List Fd} (hT : rowB T l = true) (hl : sz fs = l)
  (hx : a.eval x = .pointer (some ⟨b, off, none⟩)) (hS : StAt w b off fs) (h : ∀ v, (Fq.st fs).P v w → wpList Tryz.prog ops Q rest (a.put o.dst v) w) : wpList Tryz.prog ops Q (o :: rest) a w := by
 refine wpList_plain hgd fun K hK => ?_
 obtain ⟨es, hfit, hat⟩ := hS
 obtain ⟨⟨dd, hu, hd'⟩, hi⟩ := rowB_of hT
 have hr : w.rangeAt b off es := by
  intro j v hv
  have hj := (List.getElem?_eq_some_iff.1 hv).1
  rw [hat j hj, List.getD, hv]
  rfl
 have := run_loadVar_mid (P := Tryz.prog) w b off T _ dd hr hu hd' (by rw [hfit.length, hl]; exact hi)
 unfold Oper.wp
 have e : (execOp a.eval o).run Tryz.prog w = .ok (.value (.agg es.toArray)) w := by
  unfold execOp
  simp only [ho, hx, Instr.loadAt, Instr.sureAddr, Sem.run_bind, Sem.run_pure, Result.andThen_ok, this]
 rw [e]
 exact hK _ _ (h _ ⟨_, rfl, hfit⟩)
theorem Fr.addQ {w0 W0 W : World} {bs : List (Nat × Nat × Fq)} (E : Fr w0 bs W0) (hb : Below W0.heap.size W0 W) {g m : Nat} {F : Fq} (hg : W0.heap.size ≤ g) (hB : Bq W g m F) : Fr w0 ((g, m, F) :: bs) W := by
 have h2 := E.later hb
 refine ⟨h2.below, fun x hx => ?_, ?_⟩
 ·rcases List.mem_cons.1 hx with rfl | hx
  ·exact ⟨Nat.le_trans E.below.size hg, hB⟩
  ·exact h2.boxes x hx
 ·rw [List.map_cons, List.nodup_cons]
  refine ⟨fun hm => ?_, E.apart⟩
  obtain ⟨x, hx, e⟩ := List.mem_map.1 hm
  have := (E.boxes x hx).2.lt
  omega
theorem StAt.of_boxQ {w : World} {b m : Nat} {fs : List Fd} (h : Bq w b m (Fq.st fs)) : StAt w b 0 fs := by
 obtain ⟨us, _, h2, h3⟩ := zBn h
 exact ⟨us, h3, fun j hj => by rw [Nat.zero_add]; exact h2 j hj⟩
theorem sixQ {us : List Value} (h : us.length = 6) : ∃ a b c d e f, us = [a, b, c, d, e, f] := by
 match us, h with
 | [a, b, c, d, e, f], _ => exact ⟨a, b, c, d, e, f, rfl⟩
structure F3 where
 a : Int
 b : Int
 c : Int
def frF (P : F3) : List Fd := [.n P.a, .n P.b, .n P.c]
def zEh (a b c : Int) : Bool := (dfB a b c && redB a b c) && decide (cont a b c = 1)
def zBs (n a b : Int) : List F3 := if (b * b + n) % (4 * a) = 0 then (if zEh a b ((b * b + n) / (4 * a)) = true then [⟨a, b, (b * b + n) / (4 * a)⟩] else []) else []
def zCl (n a : Int) : Nat → List F3
 | 0 => []
 | k + 1 => zCl n a k ++ zBs n a (-a + (k : Int))
def zB9 (n : Int) : Nat → List F3
 | 0 => []
 | a + 1 => zB9 n a ++ (if a = 0 then [] else zCl n (a : Int) (2 * a + 1))
def AEnd (n : Int) (a : Nat) : Prop := 1 ≤ a ∧ ¬ 3 * ((a : Int) * a) ≤ n ∧ ∀ j : Nat, 1 ≤ j → j < a → 3 * ((j : Int) * j) ≤ n
theorem AEnd.uniq {n : Int} {a b : Nat} (h : AEnd n a) (g : AEnd n b) : a = b := by
 rcases Nat.lt_trichotomy a b with e | e | e
 ·exact absurd (g.2.2 a h.1 e) h.2.1
 ·exact e
 ·exact absurd (h.2.2 b g.1 e) g.2.1
open Classical in
noncomputable def zCe (n : Int) : List F3 := if h : ∃ a, AEnd n a then zB9 n (Classical.choose h) else []
theorem zK3 {n : Int} {a : Nat} (h : AEnd n a) : zCe n = zB9 n a := by
 have he : ∃ a, AEnd n a := ⟨a, h⟩
 unfold zCe
 rw [dif_pos he, (Classical.choose_spec he).uniq h]
theorem AEnd.ex {n : Int} (h0 : 3 ≤ n) (h1 : n ≤ 2004) : ∃ a, AEnd n a := by
 have key : ∀ k a : Nat, 1 ≤ a → a + k = 26 → (∀ j : Nat, 1 ≤ j → j < a → 3 * ((j : Int) * j) ≤ n) → ∃ a, AEnd n a := by
  intro k
  induction k with
  | zero =>
   intro a h2 h3 h4
   obtain rfl : a = 26 := by omega
   exact ⟨26, by omega, by omega, h4⟩
  | succ k ih =>
   intro a h2 h3 h4
   by_cases h : 3 * ((a : Int) * a) ≤ n
   ·refine ih (a + 1) (by omega) (by omega) fun j hj1 hj2 => ?_
    rcases Nat.lt_or_ge j a with g | g
    ·exact h4 j hj1 g
    ·rw [show j = a by omega]; exact h
   ·exact ⟨a, h2, h, h4⟩
 exact key 25 1 (by omega) (by omega) fun j h2 h3 => by omega
def FOk (n : Int) (P : F3) : Prop := 1 ≤ P.a ∧ (dfB P.a P.b P.c && redB P.a P.b P.c) = true ∧ cont P.a P.b P.c = 1 ∧ P.b * P.b - 4 * (P.a * P.c) = -n
theorem formAt_ok {n a b : Int} (ha : 1 ≤ a) : ∀ P ∈ zBs n a b, FOk n P := by
 intro P hP
 unfold zBs at hP
 split at hP
 ·rename_i hm
  split at hP
  ·rename_i hk
   simp at hP
   subst hP
   unfold zEh at hk
   simp only [Bool.and_eq_true, decide_eq_true_eq] at hk
   refine ⟨ha, by simp only [Bool.and_eq_true]; exact hk.1, hk.2, ?_⟩
   have h2 := Int.mul_ediv_add_emod (b * b + n) (4 * a)
   rw [hm, Int.mul_assoc] at h2
   show b * b - 4 * (a * ((b * b + n) / (4 * a))) = -n
   omega
  ·simp at hP
 ·simp at hP
theorem zK2 {n a : Int} (ha : 1 ≤ a) : ∀ k, ∀ P ∈ zCl n a k, FOk n P
 | 0 => fun P hP => by simp [zCl] at hP
 | k + 1 => fun P hP => by
  rw [zCl] at hP
  rcases List.mem_append.1 hP with h | h
  ·exact zK2 ha k P h
  ·exact formAt_ok ha P h
theorem zK1 {n : Int} : ∀ a, ∀ P ∈ zB9 n a, FOk n P
 | 0 => fun P hP => by simp [zB9] at hP
 | a + 1 => fun P hP => by
  rw [zB9] at hP
  rcases List.mem_append.1 hP with h | h
  ·exact zK1 a P h
  ·split at h
   ·simp at h
   ·exact zK2 (by omega) _ P h
theorem zK4 {n : Int} : ∀ P ∈ zCe n, FOk n P := by
 unfold zCe
 split
 ·exact zK1 _
 ·intro P hP; simp at hP
theorem zK0 {n : Int} {a : Nat} : ∀ k, (zB9 n a).length ≤ (zB9 n (a + k)).length
 | 0 => Nat.le_refl _
 | k + 1 => by
  rw [show a + (k + 1) = (a + k) + 1 by omega, zB9, List.length_append]
  have := zK0 (n := n) (a := a) k
  omega
theorem form_len {n a b : Int} : (zBs n a b).length ≤ 1 := by unfold zBs; split <;> (try split) <;> simp
theorem zIn {n a : Int} : ∀ k, (zCl n a k).length ≤ k
 | 0 => by simp [zCl]
 | k + 1 => by rw [zCl, List.length_append]; have := zIn (n := n) (a := a) k; have := form_len (n := n) (a := a) (b := -a + (k : Int)); omega
theorem zIm {n : Int} : ∀ a, a ≤ 26 → (zB9 n a).length ≤ a * 60
 | 0, _ => by simp [zB9]
 | a + 1, h => by
  rw [zB9, List.length_append]
  have := zIm (n := n) a (by omega)
  split
  ·simp; omega
  ·have := zIn (n := n) (a := (a : Int)) (2 * a + 1); omega
theorem listF_pos {n : Int} (h0 : 3 ≤ n) (h1 : n ≤ 2004) (h4 : n % 4 = 0 ∨ n % 4 = 3) : 0 < (zCe n).length := by
 obtain ⟨a, h⟩ := AEnd.ex h0 h1
 rw [zK3 h]
 have h2 : 2 ≤ a := by
  rcases Nat.lt_or_ge a 2 with g | g
  ·have h5 : a = 1 := by have := h.1; omega
   subst h5
   exact absurd (show (3 * (((1 : Nat) : Int) * (1 : Nat)) : Int) ≤ n by omega) h.2.1
  ·exact g
 obtain ⟨k, rfl⟩ : ∃ k, a = 2 + k := ⟨a - 2, by omega⟩
 refine Nat.lt_of_lt_of_le ?_ (zK0 k)
 have e : zB9 n 2 = zB9 n 1 ++ zCl n ((1 : Nat) : Int) 3 := rfl
 rw [e, List.length_append]
 have key : ∀ b c : Int, 0 ≤ b → b ≤ 1 → b * b + n = 4 * c → 1 ≤ c → 0 < (zBs n 1 b).length := by
  intro b c hb0 hb1 hc hc1
  have hm : (b * b + n) % (4 * 1) = 0 := by rw [hc]; omega
  have hq : (b * b + n) / (4 * 1) = c := by rw [hc]; omega
  unfold zBs
  rw [if_pos hm, hq, if_pos]
  ·simp
  ·unfold zEh
   have hrd : Rdf 1 b c := ⟨by decide, by omega, by omega, hc1, fun _ => hb0⟩
   rw [(zEk (by decide)).2 hrd, Bool.and_true]
   have hd : dfB 1 b c = true := by
    unfold dfB
    exact decide_eq_true ⟨by omega, by decide⟩
   rw [hd, Bool.true_and]
   refine decide_eq_true ?_
   unfold cont
   simp
 have e2 : zCl n ((1 : Nat) : Int) 3 = ((([] : List F3) ++ zBs n ((1 : Nat) : Int) (-((1 : Nat) : Int) + ((0 : Nat) : Int))) ++ zBs n ((1 : Nat) : Int) (-((1 : Nat) : Int) + ((1 : Nat) : Int))) ++ zBs n ((1 : Nat) : Int) (-((1 : Nat) : Int) + ((2 : Nat) : Int)) := rfl
 rw [e2, List.length_append, List.length_append]
 rcases h4 with h5 | h5
 ·have := key 0 (n / 4) (by decide) (by decide) (by omega) (by omega)
  have e3 : zBs n ((1 : Nat) : Int) (-((1 : Nat) : Int) + ((1 : Nat) : Int)) = zBs n 1 0 := rfl
  rw [e3]
  omega
 ·have := key 1 ((n + 1) / 4) (by decide) (by decide) (by omega) (by omega)
  have e3 : zBs n ((1 : Nat) : Int) (-((1 : Nat) : Int) + ((2 : Nat) : Int)) = zBs n 1 1 := rfl
  rw [e3]
  omega
def rowQ : List F3 → List Fd
 | [] => []
 | P :: ps => frF P ++ rowQ ps
theorem zL3 : ∀ (ps qs : List F3), rowQ (ps ++ qs) = rowQ ps ++ rowQ qs
 | [], _ => rfl
 | P :: ps, qs => by
  show frF P ++ rowQ (ps ++ qs) = (frF P ++ rowQ ps) ++ rowQ qs
  rw [zL3 ps qs, List.append_assoc]
theorem zL4 : ∀ {ps : List F3} {i : Nat} {P : F3}, ps[i]? = some P → subF (i * 6) 6 (rowQ ps) = some (frF P)
 | [], _, _, h => by simp at h
 | Q :: ps, 0, P, h => by
  simp at h
  subst h
  rfl
 | Q :: ps, i + 1, P, h => by
  have ih := zL4 (ps := ps) (i := i) (P := P) (by simpa using h)
  rw [show (i + 1) * 6 = i * 6 + 6 by omega]
  exact ih
theorem Ls.box6 {T : Nat} {w : World} {B : Nat} {v : Value} {Ps : List F3} (h : Ls T 6 w B v (Ps.map frF)) (h0 : 0 < Ps.length) : ∃ g cap, v = .slice (some ⟨g, 0, none⟩) Ps.length cap ∧ B ≤ g ∧ Bq w g (Ps.length * 6) (Fq.st (rowQ Ps)) := by
 obtain ⟨us, h, hE⟩ := h
 have h5 := h
 have hul := h5.1
 rw [List.length_map] at hul
 rcases h.2 with ⟨rfl, h1⟩ | ⟨g, cap, cur, rfl, h1, h2, h3⟩
 ·rw [List.length_map] at h1; omega
 ·rw [List.length_map] at h5 ⊢
  have hat : At w g us := fun j hj => ⟨by rw [World.ownsRow.cellAt h5 j (by omega)]; simp [List.getD, List.getElem?_eq_getElem hj], by simp [World.frozen?, h2]⟩
  have all : ∀ n, n ≤ Ps.length → Fits w (rowQ (Ps.take n)) (us.take (n * 6)) := by
   intro n
   induction n with
   | zero => exact fun _ => by rw [Nat.zero_mul, List.take_zero, List.take_zero]; rfl
   | succ n ih =>
    intro hn
    obtain ⟨es, g1, g2, _, g4, _⟩ := hE n (frF (Ps[n]'(by omega))) (by simp [List.getElem?_map, List.getElem?_eq_getElem (show n < Ps.length by omega)])
    have e : us.take ((n + 1) * 6) = us.take (n * 6) ++ es := by
     rw [Nat.add_mul, Nat.one_mul, List.take_add]
     congr 1
     refine List.ext_getElem? fun j => ?_
     rcases Nat.lt_or_ge j 6 with hj | hj
     ·rw [List.getElem?_take_of_lt hj, List.getElem?_drop]
      exact g2 j hj
     ·rw [List.getElem?_eq_none (by rw [List.length_take]; omega), List.getElem?_eq_none (by omega)]
    rw [e, List.take_add_one, List.getElem?_eq_getElem (by omega), Option.toList_some, zL3]
    refine (ih (by omega)).append ?_
    show Fits w (frF _ ++ []) es
    rw [List.append_nil]
    exact g4
  have hf := all Ps.length (Nat.le_refl _)
  rw [List.take_length, ← hul, List.take_length] at hf
  exact ⟨g, cap, rfl, h1, us, hul, by omega, hat, hf.tame, us, rfl, hf⟩
theorem Ls.stepF {T m B : Nat} {w wr w1 w2 : World} {v : Value} {fss : List (List Fd)} {us es : List Value} {fs : List Fd} {o : Obj} {g cap H : Nat}
  (hO : wr.ownsRow B T m v fss.length us) (hE : ∀ i z, fss[i]? = some z → StCell m us wr v.ownBlock i z) (hB : B ≤ wr.heap.size) (hnx : Below B w wr) (hb : Below wr.heap.size wr w1)
  (hfar : FarC v.ownBlock es) (hF : Fits w1 fs es) (hn : noSl fs = true) (hm : es.length = m)
  (hown' : w2.ownsRow B T m (.slice (some ⟨g, 0, none⟩) (fss.length + 1) cap) (fss.length + 1) (us ++ es)) (hgrow : (w1.alloc o).grownBy w2 v.ownBlock) (hat : v.ownBlock = some g ∨ g = H) (hH : (w1.alloc o).heap.size = H) :
  Ls T m w2 B (.slice (some ⟨g, 0, none⟩) (fss.length + 1) cap) (fss ++ [fs]) ∧ Below B w w2 := by
 have hsz := hb.size
 have hH2 : w1.heap.size + 1 = H := by rw [← hH]; simp
 have hul := hO.1
 refine ⟨⟨us ++ es, by simpa using hown', fun i y hi => ?_⟩, ?_⟩
 ·have hne : ∀ {a : Addr} {k c : Nat} {xs : List Value} {gs : List Fd}, Fits w1 gs xs → noSl gs = true → Value.slice (some a) k c ∈ xs → k ≠ 0 → some a.block ≠ v.ownBlock → a.block ≠ g := by
   intro a k c xs gs hx hnx2 hmx hk hr e
   have h1 := hx.blk hnx2 hmx hk
   rcases hat with h | h
   ·rw [h, e] at hr; exact hr rfl
   ·omega
  by_cases hil : i < fss.length
  ·rw [List.getElem?_append_left hil] at hi
   obtain ⟨xs, g1, g2, g3, g4, g5⟩ := hE i y hi
   refine ⟨xs, g1, fun j hj => ?_, fun a k c hs hk e => ?_, ((g4.mono hb).mono (zAy w1 o)).grown hgrow g3, g5⟩
   ·have hm1 : (i + 1) * m ≤ fss.length * m := Nat.mul_le_mul_right m (by omega)
    rw [Nat.add_mul, Nat.one_mul] at hm1
    rw [List.getElem?_append_left (by omega)]
    exact g2 j hj
   ·exact hne (g4.mono hb) g5 hs hk (g3 a k c hs hk) (by simpa [Value.ownBlock] using e)
  ·have hi2 : i = fss.length := by
    rcases Nat.lt_or_ge i (fss ++ [fs]).length with h | h
    ·simp at h; omega
    ·rw [List.getElem?_eq_none h] at hi; cases hi
   subst hi2
   rw [List.getElem?_append_right (Nat.le_refl _), Nat.sub_self] at hi
   simp only [List.getElem?_cons_zero, Option.some.injEq] at hi
   subst hi
   refine ⟨es, hm, fun j hj => ?_, fun a k c hs hk e => ?_, (hF.mono (zAy w1 o)).grown hgrow hfar, hn⟩
   ·rw [List.getElem?_append_right (by omega), show fss.length * m + j - us.length = j by omega]
   ·exact hne hF hn hs hk (hfar a k c hs hk) (by simpa [Value.ownBlock] using e)
 ·exact ((hnx.trans (hb.mono hB)).alloc (by omega) o).grown hgrow (by simp; omega) (fun j hj => (hO.lt j hj).1)
theorem Ls.nil {T m : Nat} (w : World) {B : Nat} (hB : B ≤ w.heap.size) : Ls T m (w.alloc (.cells #[] T)) B (.slice (some ⟨w.heap.size, 0, none⟩) 0 0) [] :=
 ⟨[], ⟨by simp, .inr ⟨w.heap.size, 0, #[], rfl, hB, heap_alloc_new w _, by simp, by unfold maxLen; omega, by simp, by simp⟩⟩, fun i z hi => by simp at hi⟩
theorem TameRow.nil {w : World} {T : Nat} : TameRow (w.alloc (.cells #[] T)) (.slice (some ⟨w.heap.size, 0, none⟩) 0 0) := ⟨_, _, _, #[], T, rfl, heap_alloc_new w _, fun u hu => by simp at hu⟩
theorem zP5 {w : World} {ops : Array Oper} {rest : List Oper} {o : Oper} {a : Act} {Q : Exit → Act → World → Prop} (hgd : o.guard = none) (x : Operand) (ho : o.op = .move x) (h : wpList Tryz.prog ops Q rest (a.put o.dst (a.eval x)) w) : wpList Tryz.prog ops Q (o :: rest) a w := by
 refine wpList_plain hgd fun K hK => ?_
 unfold Oper.wp
 have e : (execOp a.eval o).run Tryz.prog w = .ok (.value (a.eval x)) w := by
  unfold execOp
  simp only [ho]
  simp [go_sem]
 rw [e]
 exact hK _ _ h
theorem info_form : (Tryz.prog.info? 33).map (fun i => (i.zero, i.size, i.bytes)) = some (some (.agg #[.bool false, .slice none 0 0, .bool false, .slice none 0 0, .bool false, .slice none 0 0]), 6, 96) := by kernel_rfl
theorem frF_snoc (Ps : List F3) (P : F3) : (Ps ++ [P]).map frF = Ps.map frF ++ [frF P] := by simp
theorem sq_bd {a : Nat} {n : Int} (h : 3 * ((a : Int) * a) ≤ n) (hn : n ≤ 2004) : a ≤ 25 := by
 rcases Nat.lt_or_ge 25 a with g | g
 ·have h1 := Nat.mul_le_mul (show 26 ≤ a by omega) (show 26 ≤ a by omega)
  have h2 : ((a * a : Nat) : Int) = (a : Int) * a := by rw [Int.natCast_mul]
  omega
 ·exact g
theorem zPw {x y : Int} {m n : Nat} (hx : x.natAbs ≤ m) (hy : y.natAbs ≤ n) : (x * y).natAbs ≤ m * n := by
 rw [Int.natAbs_mul]
 exact Nat.mul_le_mul hx hy
theorem sq_nn {b : Int} {m : Nat} (h : b.natAbs ≤ m) : 0 ≤ b * b ∧ b * b ≤ m * m := by
 have h1 := zPw h h
 have h2 := zDx b
 have h3 : ((m * m : Nat) : Int) = (m : Int) * m := by rw [Int.natCast_mul]
 omega
set_option maxRecDepth 100000 in
set_option maxHeartbeats 4000000 in
theorem exQList {w : World} {n : Int} (h0 : 3 ≤ n) (h1 : n ≤ 2004) :
  Calls Tryz.prog 72 #[.int .i64 n] w fun e w' => ∃ v', e = .returned v' ∧ Below w.heap.size w w' ∧ Ls 33 6 w' w.heap.size v' ((zCe n).map frF) := by
 have HN := hidd (And.intro h0 h1)
 clear h0 h1
 obtain ⟨i0, hi, hz0, hz1, hz2⟩ := info_parts info_form
 go_enter Tryz.func72, Tryz.ntmps72
 obtain ⟨W0, rfl⟩ : ∃ W0, W0 = w := ⟨_, rfl⟩
 go_wp2
 go_loopw [3, 4] (fun vl va W => ∃ (a : Nat) (A : Int) (Ps : List F3), va = .int .i64 A ∧ A = (a : Int) ∧ 1 ≤ a ∧ a ≤ 26 ∧ (∀ j : Nat, 1 ≤ j → j < a → 3 * ((j : Int) * j) ≤ n) ∧ Ps = zB9 n a ∧ Ls 33 6 W W0.heap.size vl (Ps.map frF) ∧ TameRow W vl ∧ Below W0.heap.size W0 W) (fun _ va _ => (27 - intOf va).toNat)
 case atStart => exact ⟨1, 1, [], rfl, rfl, by omega, by omega, fun j h2 h3 => by omega, rfl, Ls.nil W0 (Nat.le_refl _), TameRow.nil, zAy _ _⟩
 case round =>
  obtain ⟨V2, rfl⟩ : ∃ V2, V2 = wr := ⟨_, rfl⟩
  obtain ⟨a, A, Ps, rfl, hA, ha1, ha2, hrun, hPE, HL, HT, HBW⟩ := hrel
  have HPE := hidd hPE
  have HAA := hidd hA
  have HRUN := hidd hrun
  have hPl : Ps.length ≤ a * 60 := by rw [hPE]; exact zIm a ha2
  clear hPE
  have hml : (Ps.map frF).length = Ps.length := List.length_map ..
  obtain ⟨ao2, cap2, rfl⟩ := id HL.shape
  rw [hml] at HL HT ⊢
  by_cases hx : 3 * ((a : Int) * a) ≤ n
  ·have hae : 3 * ((a : Int) * a) ≤ n := hx
   have ha25 := sq_bd hae (by have := HN.out; omega)
   have HQ0 := hidd (And.intro ha1 (And.intro ha25 hPl))
   have HXE := hidd hae
   have HLH := hidd HL
   have HTH := hidd HT
   have HBH := hidd HBW
   have hV := HBW.size
   have haa : A * A = (a : Int) * a := by rw [hA]
   have hs := sq_nn (b := A) (m := 25) (by omega)
   obtain ⟨t3, ht3⟩ : ∃ t3, t3 = 3 * A := ⟨_, rfl⟩
   obtain ⟨t4, ht4⟩ : ∃ t4, t4 = t3 * A := ⟨_, rfl⟩
   have hq4 : t4 = 3 * ((a : Int) * a) := by rw [ht4, ht3, Int.mul_assoc, haa]
   have W3 : Hid (IntKind.i64.wrap (3 * A) = t3) := by show _ = _; rw [ht3]; exact IntWalk.i64_in _ (by omega)
   have W4 : Hid (IntKind.i64.wrap (t3 * A) = t4) := by show _ = _; rw [← ht4]; exact IntWalk.i64_in _ (by omega)
   have T4 : Hid (t4 ≤ n) := by show _ ≤ _; omega
   have WN : Hid (IntKind.i64.wrap (-A) = -A) := IntWalk.i64_in _ (by omega)
   clear ha1 ha2 hPl HL HT HBW hx hae ha25 haa hs ht3 ht4 hq4 hA hrun hV hml
   have E := Fr.start V2
   go_upto_region 3 with (fail)
   refine rg [Fq.is (.int .i64 A), Fq.is (.int .i64 t3), Fq.is (.int .i64 A), Fq.is (.int .i64 t4), Fq.is (.int .i64 n), yT] [] [] E (fun hp => ⟨?_, ?_, ?_, ?_, ?_, ?_, tv⟩) ?_
   ·exact zAa hp fo tv (sqo 4)
   ·exact zAf (F := fun v _ => v = .int .i64 A) hp fo tv (sqi 0) (fun ρ w hc h => ⟨.int .i64 t3, by simp [execOp, go_sem, h, hc, W3.out], rfl⟩)
   ·exact zAa hp fo tv (sqo 4)
   ·exact zAg (F := fun v _ => v = .int .i64 t3) (G := fun v _ => v = .int .i64 A) hp fo tv (sqi 1) (sqi 2) (fun ρ w hc h h' => ⟨.int .i64 t4, by simp [execOp, go_sem, h, h', W4.out], rfl⟩)
   ·exact zAa hp fo tv (sqo 0)
   ·exact zAg (F := fun v _ => v = .int .i64 t4) (G := fun v _ => v = .int .i64 n) hp fo tv (sqi 3) (sqi 4) (fun ρ w hc h h' => ⟨.bool true, by simp [execOp, go_sem, h, h', T4.out], rfl⟩)
   intro L vs w1 nb hL hC hn E1
   have e0 := wXi hC 0
   have e1 := wXi hC 1
   have e2 := wXi hC 2
   have e3 := wXi hC 3
   have e4 := wXi hC 4
   have e5 := wXi hC 5
   have E := E1; try simp only [LM, zAc] at E
   rw [zAe hL]
   simp only [SP, Nat.zero_add, Nat.reduceAdd]
   rw [e0, e1, e2, e3, e4, e5]
   clear e0 e1 e2 e3 e4 e5 hC hn E1 hL vs L nb
   go_upto_region 5 with (fail)
   refine rg [Fq.is (.int .i64 A), Fq.is (.int .i64 (-A)), Fq.is (.int .i64 (-A))] [] [] E (fun hp => ⟨?_, ?_, ?_, tv⟩) ?_
   ·exact zAa hp fo tv (sqo 4)
   ·exact zAf (F := fun v _ => v = .int .i64 A) hp fo tv (sqi 0) (fun ρ w _ h => ⟨.int .i64 (-A), by simp [execOp, go_sem, h, WN.out], rfl⟩)
   ·exact zAi hp fo tv (sqi 1)
   intro L vs w2 nb hL hC hn E2
   have e0 := wXi hC 0
   have e1 := wXi hC 1
   have e2 := wXi hC 2
   have E := E2; try simp only [LM, zAc] at E
   rw [zAe hL]
   simp only [SP, Nat.zero_add, Nat.reduceAdd]
   rw [e0, e1, e2]
   clear e0 e1 e2 hC hn E2 hL vs L nb
   clear W3 W4 T4 WN
   have HL3 := hidd (HLH.out.mono E.below)
   have HT3 := hidd (HTH.out.mono E.below)
   have HB3 := hidd (HBH.out.trans (E.below.mono HBH.out.size))
   clear E HLH HTH HBH
   obtain ⟨V3, rfl⟩ : ∃ V3, V3 = w2 := ⟨_, rfl⟩
   go_wp2
   go_loopw [3, 5] (fun vl vb W => ∃ (k : Nat) (b : Int) (Qs : List F3), vb = .int .i64 b ∧ b = -A + (k : Int) ∧ k ≤ 2 * a + 1 ∧ Qs = zB9 n a ++ zCl n A k ∧ Ls 33 6 W W0.heap.size vl (Qs.map frF) ∧ TameRow W vl ∧ Below W0.heap.size W0 W) (fun _ vb _ => (27 - intOf vb).toNat)
   case atStart => exact ⟨0, -A, Ps, rfl, by omega, by omega, by rw [HPE.out]; exact (List.append_nil _).symm, HL3.out, HT3.out, HB3.out⟩
   case round =>
    clear HL3 HT3 HB3
    obtain ⟨V4, rfl⟩ : ∃ V4, V4 = wr := ⟨_, rfl⟩
    obtain ⟨k, b, Qs, rfl, hb, hk, hQE, HL, HT, HBW⟩ := hrel
    have HQE2 := hidd hQE
    have hQl : Qs.length ≤ 2000 := by have h8 := zIm (n := n) a (by have := HQ0.out.2.1; omega); have h9 := zIn (n := n) (a := A) k; have := HQ0.out.2.1; rw [hQE, List.length_append]; omega
    clear hQE
    have hml : (Qs.map frF).length = Qs.length := List.length_map ..
    obtain ⟨ao4, cap4, rfl⟩ := id HL.shape
    rw [hml] at HL HT ⊢
    by_cases hy : b ≤ A
    ·have hb0 : b.natAbs ≤ 25 := by have := HQ0.out.2.1; have := HAA.out; omega
     have hs := sq_nn hb0
     have TB := hidd hy
     have HQL := hidd hQl
     have HKE := hidd (And.intro hb (show k < 2 * a + 1 by have := HAA.out; omega))
     have HLH := hidd HL
     have HTH := hidd HT
     have HBH := hidd HBW
     have hn := HN.out
     have hA := HAA.out
     have ha := HQ0.out
     obtain ⟨bb, hbb⟩ : ∃ x, x = b * b := ⟨_, rfl⟩
     obtain ⟨s, hs2⟩ : ∃ x, x = bb + n := ⟨_, rfl⟩
     obtain ⟨d4, hd4⟩ : ∃ x, x = 4 * A := ⟨_, rfl⟩
     obtain ⟨r, hr⟩ : ∃ x, x = s % d4 := ⟨_, rfl⟩
     obtain ⟨c, hc⟩ : ∃ x, x = s / d4 := ⟨_, rfl⟩
     rw [← hbb] at hs
     have hs0 : 3 ≤ s ∧ s ≤ 3000 := by omega
     have hd0 : 4 ≤ d4 ∧ d4 ≤ 100 := by omega
     have hc0 : 0 ≤ c ∧ c ≤ 3000 := by rw [hc]; exact ⟨Int.ediv_nonneg (by omega) (by omega), Int.le_trans (Int.ediv_le_self _ (by omega)) hs0.2⟩
     have hr0 : 0 ≤ r ∧ r < d4 := by rw [hr]; exact ⟨Int.emod_nonneg _ (by omega), Int.emod_lt_of_pos _ (by omega)⟩
     have W2 : Hid (IntKind.i64.wrap (b * b) = bb) := by show _ = _; rw [← hbb]; exact IntWalk.i64_in _ (by omega)
     have W5 : Hid (IntKind.i64.wrap (bb + n) = s) := by show _ = _; rw [← hs2]; exact IntWalk.i64_in _ (by omega)
     have W6 : Hid (IntKind.i64.wrap (4 * A) = d4) := by show _ = _; rw [← hd4]; exact IntWalk.i64_in _ (by omega)
     have WR : Hid (Int.tmod s d4 = r) := by show _ = _; rw [Int.tmod_eq_emod_of_nonneg (by omega), hr]
     have WQ : Hid (Int.tdiv s d4 = c) := by show _ = _; rw [Int.tdiv_eq_ediv_of_nonneg (by omega), hc]
     have WC : Hid (IntKind.i64.wrap c = c) := IntWalk.i64_in _ (by omega)
     have D0 : Hid (¬ d4 = 0) := by show ¬ _; omega
     have FE : Hid (zBs n A b = if r = 0 then (if zEh A b c = true then [⟨A, b, c⟩] else []) else []) := by show _ = _; unfold zBs; rw [← hbb, ← hs2, ← hd4, ← hr, ← hc]
     have RA : Hid (-9223372036854775808 ≤ A ∧ A ≤ 9223372036854775807) := by show _ ∧ _; omega
     have RB_ : Hid (-9223372036854775808 ≤ b ∧ b ≤ 9223372036854775807) := by show _ ∧ _; omega
     have RC : Hid (-9223372036854775808 ≤ c ∧ c ≤ 9223372036854775807) := by show _ ∧ _; omega
     have BA : Hid (ab A < pw 3) := zAq RA.out.1 RA.out.2
     have BB : Hid (ab b < pw 3) := zAq RB_.out.1 RB_.out.2
     have BC : Hid (ab c < pw 3) := zAq RC.out.1 RC.out.2
     have HBB := hidd hb0
     clear hb0 hs hn hA ha hbb hs2 hd4 hr hc hs0 hd0 hc0 hr0 hb hk hQl HL HT HBW hy hml
     have E := Fr.start V4
     go_upto_region 6 with (fail)
     refine rg [Fq.is (.int .i64 b), Fq.is (.int .i64 A), yT] [] [] E (fun hp => ⟨?_, ?_, ?_, tv⟩) ?_
     ·exact zAa hp fo tv (sqo 5)
     ·exact zAa hp fo tv (sqo 4)
     ·exact zAg (F := fun v _ => v = .int .i64 b) (G := fun v _ => v = .int .i64 A) hp fo tv (sqi 0) (sqi 1) (fun ρ w hc h h' => ⟨.bool true, by simp [execOp, go_sem, h, h', TB.out], rfl⟩)
     intro L vs w3 nb hL hC hn E3
     have e0 := wXi hC 0
     have e1 := wXi hC 1
     have e2 := wXi hC 2
     have E := E3; try simp only [LM, zAc] at E
     rw [zAe hL]
     simp only [SP, Nat.zero_add, Nat.reduceAdd]
     rw [e0, e1, e2]
     clear e0 e1 e2 hC hn E3 hL vs L nb
     clear TB
     go_upto_region 8 with (fail)
     by_cases hr0 : r = 0
     ·have T8 : Hid (¬ ¬ r = 0) := fun e => e hr0
      have FD : Hid (zBs n A b = if zEh A b c = true then [⟨A, b, c⟩] else []) := FE.out.trans (if_pos hr0)
      have T8b := hidd hr0
      clear hr0 FE
      refine rg [Fq.is (.int .i64 b), Fq.is (.int .i64 b), Fq.is (.int .i64 bb), Fq.is (.int .i64 n), Fq.is (.int .i64 s), Fq.is (.int .i64 A), Fq.is (.int .i64 d4), Fq.is (.int .i64 r), yF] [] [] E (fun hp => ⟨?_, ?_, ?_, ?_, ?_, ?_, ?_, ?_, ?_, tv⟩) ?_
      ·exact zAa hp fo tv (sqo 5)
      ·exact zAa hp fo tv (sqo 5)
      ·exact zAg (F := fun v _ => v = .int .i64 b) (G := fun v _ => v = .int .i64 b) hp fo tv (sqi 0) (sqi 1) (fun ρ w hc h h' => ⟨.int .i64 bb, by simp [execOp, go_sem, h, h', W2.out], rfl⟩)
      ·exact zAa hp fo tv (sqo 0)
      ·exact zAg (F := fun v _ => v = .int .i64 bb) (G := fun v _ => v = .int .i64 n) hp fo tv (sqi 2) (sqi 3) (fun ρ w hc h h' => ⟨.int .i64 s, by simp [execOp, go_sem, h, h', W5.out], rfl⟩)
      ·exact zAa hp fo tv (sqo 4)
      ·exact zAf (F := fun v _ => v = .int .i64 A) hp fo tv (sqi 5) (fun ρ w hc h => ⟨.int .i64 d4, by simp [execOp, go_sem, h, hc, W6.out], rfl⟩)
      ·exact zAg (F := fun v _ => v = .int .i64 s) (G := fun v _ => v = .int .i64 d4) hp fo tv (sqi 4) (sqi 6) (fun ρ w hc h h' => ⟨.int .i64 r, by simp [execOp, go_sem, h, h', D0.out, WR.out], rfl⟩)
      ·exact zAf (F := fun v _ => v = .int .i64 r) hp fo tv (sqi 7) (fun ρ w hc h => ⟨.bool false, by simp [execOp, go_sem, h, hc, T8b.out], rfl⟩)
      intro L vs w4 nb hL hC hn E4
      have e0 := wXi hC 0
      have e1 := wXi hC 1
      have e2 := wXi hC 2
      have e3 := wXi hC 3
      have e4 := wXi hC 4
      have e5 := wXi hC 5
      have e6 := wXi hC 6
      have e7 := wXi hC 7
      have e8 := wXi hC 8
      have E := E4; try simp only [LM, zAc] at E
      rw [zAe hL]
      simp only [SP, Nat.zero_add, Nat.reduceAdd]
      rw [e0, e1, e2, e3, e4, e5, e6, e7, e8]
      clear e0 e1 e2 e3 e4 e5 e6 e7 e8 hC hn E4 hL vs L nb
      go_upto_region 9 with (fail)
      refine rg [Fq.is (.int .i64 A), Fq.is (.int .i64 b), Fq.is (.int .i64 b), Fq.is (.int .i64 b), Fq.is (.int .i64 bb), Fq.is (.int .i64 n), Fq.is (.int .i64 s), Fq.is (.int .i64 A), Fq.is (.int .i64 d4), Fq.is (.int .i64 c), Fq.st [.n A, .n b, .n c], Fq.any, Fq.any] [] [⟨11, 12, 6, Fq.st [.n 0, .n 0, .n 0], Fq.st [.n A, .n b, .n c], none⟩] E (fun hp => ⟨?_, ?_, ?_, ?_, ?_, ?_, ?_, ?_, ?_, ?_, ?_, ?_, ?_, tv⟩) ?_
      ·exact zAa hp fo tv (sqo 4)
      ·exact zAa hp fo tv (sqo 5)
      ·exact zAa hp fo tv (sqo 5)
      ·exact zAa hp fo tv (sqo 5)
      ·exact zAg (F := fun v _ => v = .int .i64 b) (G := fun v _ => v = .int .i64 b) hp fo tv (sqi 2) (sqi 3) (fun ρ w hc h h' => ⟨.int .i64 bb, by simp [execOp, go_sem, h, h', W2.out], rfl⟩)
      ·exact zAa hp fo tv (sqo 0)
      ·exact zAg (F := fun v _ => v = .int .i64 bb) (G := fun v _ => v = .int .i64 n) hp fo tv (sqi 4) (sqi 5) (fun ρ w hc h h' => ⟨.int .i64 s, by simp [execOp, go_sem, h, h', W5.out], rfl⟩)
      ·exact zAa hp fo tv (sqo 4)
      ·exact zAf (F := fun v _ => v = .int .i64 A) hp fo tv (sqi 7) (fun ρ w hc h => ⟨.int .i64 d4, by simp [execOp, go_sem, h, hc, W6.out], rfl⟩)
      ·exact zAg (F := fun v _ => v = .int .i64 s) (G := fun v _ => v = .int .i64 d4) hp fo tv (sqi 6) (sqi 8) (fun ρ w hc h h' => ⟨.int .i64 c, by simp [execOp, go_sem, h, h', D0.out, WQ.out, WC.out], rfl⟩)
      ·exact zCf (F := (Fq.is (.int .i64 A)).P) (G := (Fq.is (.int .i64 b)).P) (F3 := (Fq.is (.int .i64 c)).P) hp fo tv (zC3) (sqi 0) (sqi 1) (sqi 9) (fun v v' u w h h' g => (by subst h h' g; exact zC5 RA.out RB_.out RC.out))
      ·exact aS hp (mq 0 rfl) zA3 zBo
      ·exact sS 10 hp (mq 0 rfl) zA2
      intro L vs w5 nb hL hC hn E5
      have e0 := wXi hC 0
      have e1 := wXi hC 1
      have e2 := wXi hC 2
      have e3 := wXi hC 3
      have e4 := wXi hC 4
      have e5 := wXi hC 5
      have e6 := wXi hC 6
      have e7 := wXi hC 7
      have e8 := wXi hC 8
      have e9 := wXi hC 9
      have e11 : vs 11 = .pointer (some ⟨nb 11, 0, none⟩) := hn _ (mq 0 rfl)
      have E := E5; try simp only [LM, zAc] at E
      rw [zAe hL]
      simp only [SP, Nat.zero_add, Nat.reduceAdd]
      rw [e0, e1, e2, e3, e4, e5, e6, e7, e8, e9, e11]
      generalize nb 11 = b5_11 at E ⊢
      generalize vs 10 = u5_10
      clear e0 e1 e2 e3 e4 e5 e6 e7 e8 e9 e11 hC hn E5 hL vs L nb
      clear W2 W5 W6 WR WQ WC D0 T8 T8b RA RB_ RC
      go_upto_region 10 with (fail)
      by_cases hk1 : (dfB A b c && redB A b c) = true
      ·by_cases hk2 : cont A b c = 1
       ·have K1 := hidd hk1
        have K2 : Hid (decide (cont A b c = 1) = true) := decide_eq_true hk2
        have FN : Hid (zBs n A b = [⟨A, b, c⟩]) := FD.out.trans (if_pos (by unfold zEh; rw [K1.out, K2.out]; simp))
        clear hk1 hk2
        refine rg [Fq.st [.n A, .n b, .n c], yT, yT, Fq.st [.n A, .n b, .n c], yT, yT] [none] [] E (fun hp => ⟨?_, ?_, ?_, ?_, ?_, ?_, tv⟩) ?_
        ·exact lS 0 6 hp (mq 0 rfl) zAm (sqo 6)
        ·exact wXa (Fq.st [.n A, .n b, .n c]) hp zH3 (sqi 0) fun v w h => zIe h (Int.lt_of_lt_of_le BA.out (zAb (by omega))) (Int.lt_of_lt_of_le BB.out (zAb (by omega))) (Int.lt_of_lt_of_le BC.out (zAb (by omega))) K1.out
        ·exact zAa hp fo tv (sqi 1)
        ·exact lG 0 6 hp gqi (mq 0 rfl) zAm (sqo 6) fun v w h => h
        ·exact zAn (F := (Fq.st [.n A, .n b, .n c]).P) hp fo gqi (zJ2) (sqi 3) (fun v w h => zKo h (Int.lt_of_lt_of_le BA.out (zAb (by omega))) (Int.lt_of_lt_of_le BB.out (zAb (by omega))) (Int.lt_of_lt_of_le BC.out (zAb (by omega))) K2.out)
        ·exact zAg (F := fun v _ => v = .bool true) (G := fun v _ => v = .bool true) hp fo tv (sqi 2) (sqi 4) (fun ρ w hc h h' => ⟨_, by simp [execOp, go_sem, h, h'], rfl⟩)
        intro L vs w6 nb hL hC hn E6
        have e1 := wXi hC 1
        have e2 := wXi hC 2
        have e4 := wXi hC 4
        have e5 := wXi hC 5
        have E := E6; try simp only [LM, zAc] at E
        rw [zAe hL]
        simp only [SP, Nat.zero_add, Nat.reduceAdd]
        rw [e1, e2, e4, e5]
        generalize vs 0 = u6_0
        generalize vs 3 = u6_3
        clear e1 e2 e4 e5 hC hn E6 hL vs L nb
        clear K1 K2 HBB FD
        clear BA BB BC
        have HST := hidd (StAt.of_boxQ (E.box 0 rfl))
        have HL5 := HLH.out.mono E.below
        have HT5 := hidd (HTH.out.mono E.below)
        have HB5 := hidd (HBH.out.trans (E.below.mono HBH.out.size))
        clear HLH HTH HBH E
        obtain ⟨V5, rfl⟩ : ∃ V5, V5 = w6 := ⟨_, rfl⟩
        obtain ⟨us, hO, hE⟩ := HL5
        have HO := hidd hO
        have HE2 := hidd hE
        clear hO hE
        have hsz3 := HB5.out.size
        go_upto_region 11 with (fail)
        refine wp_region_list ?_
        refine zP5 rfl (.tmp 3) rfl ?_
        refine zMj rfl 33 (.tmp 6) rfl zAm rfl rfl HST.out fun vc hvc => ?_
        obtain ⟨es, rfl, hfit⟩ := hvc
        have hlen := hfit.length
        obtain ⟨c0, c1, c2, c3, c4, c5, rfl⟩ := sixQ hlen
        have HFT := hidd hfit
        clear hfit hlen
        have hQl := HQL.out
        go_wp2_with (first | (at_builtin; (refine zP1 (n := Qs.length) (xs := us) rfl _ _ 85 rfl W0.heap.size 33 i0 (.agg #[.bool false, .slice none 0 0, .bool false, .slice none 0 0, .bool false, .slice none 0 0]) 6 96 Tryz.underlying85 hi hz0 hz1 hz2 rfl (by decide) _ rfl (World.ownsRow.alloc (by have h9 := HO.out; rwa [List.length_map] at h9) _) (HT5.out.mono (zAy _ _)) (List.all_eq_true.1 rfl) ⟨_, 0, none⟩ 1 1 [c0, c1, c2, c3, c4, c5] rfl rfl (World.news_of_block (heap_alloc_new _ _)) HFT.out.all (by decide) (by unfold maxLen; omega) (by omega) (Nat.le_trans hsz3 (by simp)) _ rfl ?_; intro g9 cap w8 hown' hgrow hat hlt htm)) | fail)
        have hS := Ls.stepF (fs := frF ⟨A, b, c⟩) (es := [c0, c1, c2, c3, c4, c5]) HO.out HE2.out hsz3 HB5.out (Below.refl _ _) (HT5.out.far HFT.out rfl) HFT.out rfl rfl (by rw [List.length_map]; exact hown') hgrow hat rfl
        rw [List.length_map] at hS
        have hS4 := hidd hS.1
        have hS5 := hidd hS.2
        have hS6 := hidd htm
        clear hown' hgrow hat hlt htm hS HO HE2 HT5 HST HFT
        have g9 : IntKind.i64.wrap (b + 1) = b + 1 := IntWalk.i64_in _ (by have := HKE.out; have := HAA.out; have := HQ0.out.2.1; omega)
        have hw : wrap64 (b + 1) = b + 1 := by have := HKE.out; have := HAA.out; have := HQ0.out.2.1; simp only [wrap64]; omega
        go_wp2
        go_roundw
        case rel => exact ⟨k + 1, b + 1, Qs ++ [⟨A, b, c⟩], by first | go_num | (rw [hw]; go_num), by have := HKE.out.1; omega, by have := HKE.out.2; omega, by rw [HQE2.out, zCl, ← HKE.out.1, FN.out, List.append_assoc], by rw [frF_snoc]; simpa using hS4.out, by simpa using hS6.out, hS5.out⟩
        case measure => have := HKE.out; have := HAA.out; have := HQ0.out.2.1; first | (rw [hw]; simp [intOf]; omega) | (simp [intOf]; omega)
       ·have K1 := hidd hk1
        have K2 : Hid (decide (cont A b c = 1) = false) := decide_eq_false hk2
        have FN : Hid (zBs n A b = []) := FD.out.trans (if_neg (by unfold zEh; rw [K1.out, K2.out]; simp))
        clear hk1 hk2
        refine rg [Fq.st [.n A, .n b, .n c], yT, yT, Fq.st [.n A, .n b, .n c], yF, yF] [none] [] E (fun hp => ⟨?_, ?_, ?_, ?_, ?_, ?_, tv⟩) ?_
        ·exact lS 0 6 hp (mq 0 rfl) zAm (sqo 6)
        ·exact wXa (Fq.st [.n A, .n b, .n c]) hp zH3 (sqi 0) fun v w h => zIe h (Int.lt_of_lt_of_le BA.out (zAb (by omega))) (Int.lt_of_lt_of_le BB.out (zAb (by omega))) (Int.lt_of_lt_of_le BC.out (zAb (by omega))) K1.out
        ·exact zAa hp fo tv (sqi 1)
        ·exact lG 0 6 hp gqi (mq 0 rfl) zAm (sqo 6) fun v w h => h
        ·exact zAn (F := (Fq.st [.n A, .n b, .n c]).P) hp fo gqi (zJ2) (sqi 3) (fun v w h => zKo h (Int.lt_of_lt_of_le BA.out (zAb (by omega))) (Int.lt_of_lt_of_le BB.out (zAb (by omega))) (Int.lt_of_lt_of_le BC.out (zAb (by omega))) K2.out)
        ·exact zAg (F := fun v _ => v = .bool true) (G := fun v _ => v = .bool false) hp fo tv (sqi 2) (sqi 4) (fun ρ w hc h h' => ⟨_, by simp [execOp, go_sem, h, h'], rfl⟩)
        intro L vs w7 nb hL hC hn E7
        have e1 := wXi hC 1
        have e2 := wXi hC 2
        have e4 := wXi hC 4
        have e5 := wXi hC 5
        have E := E7; try simp only [LM, zAc] at E
        rw [zAe hL]
        simp only [SP, Nat.zero_add, Nat.reduceAdd]
        rw [e1, e2, e4, e5]
        generalize vs 0 = u7_0
        generalize vs 3 = u7_3
        clear e1 e2 e4 e5 hC hn E7 hL vs L nb
        clear K1 HBB FD K2
        clear BA BB BC
        have HL6 := hidd (HLH.out.mono E.below)
        have HT6 := hidd (HTH.out.mono E.below)
        have HB6 := hidd (HBH.out.trans (E.below.mono HBH.out.size))
        clear HLH HTH HBH E
        have g9 : IntKind.i64.wrap (b + 1) = b + 1 := IntWalk.i64_in _ (by have := HKE.out; have := HAA.out; have := HQ0.out.2.1; omega)
        have hw : wrap64 (b + 1) = b + 1 := by have := HKE.out; have := HAA.out; have := HQ0.out.2.1; simp only [wrap64]; omega
        go_wp2
        go_roundw
        case rel => exact ⟨k + 1, b + 1, Qs, by first | go_num | (rw [hw]; go_num), by have := HKE.out.1; omega, by have := HKE.out.2; omega, by rw [HQE2.out, zCl, ← HKE.out.1, FN.out, List.append_nil], HL6.out, HT6.out, HB6.out⟩
        case measure => have := HKE.out; have := HAA.out; have := HQ0.out.2.1; first | (rw [hw]; simp [intOf]; omega) | (simp [intOf]; omega)
      ·have K1 := hidd (Bool.eq_false_iff.2 hk1)
       have FN : Hid (zBs n A b = []) := FD.out.trans (if_neg (by unfold zEh; rw [K1.out]; simp))
       clear hk1
       refine rg [Fq.st [.n A, .n b, .n c], yF, yF, Fq.is (undef), Fq.is (undef), yF] [none] [] E (fun hp => ⟨?_, ?_, ?_, ?_, ?_, ?_, tv⟩) ?_
       ·exact lS 0 6 hp (mq 0 rfl) zAm (sqo 6)
       ·exact wXa (Fq.st [.n A, .n b, .n c]) hp zH3 (sqi 0) fun v w h => zIe h (Int.lt_of_lt_of_le BA.out (zAb (by omega))) (Int.lt_of_lt_of_le BB.out (zAb (by omega))) (Int.lt_of_lt_of_le BC.out (zAb (by omega))) K1.out
       ·exact zAa hp fo tv (sqi 1)
       ·exact zAh hp fo rfl gqi (fun _ => rfl)
       ·exact zAh hp fo rfl gqi (fun _ => rfl)
       ·exact zAg (F := fun v _ => v = .bool false) (G := fun v _ => v = .bool false) hp fo tv (sqi 2) (zAj (fun _ => rfl)) (fun ρ w hc h h' => ⟨_, by simp [execOp, go_sem, h, h'], rfl⟩)
       intro L vs w8 nb hL hC hn E8
       have e1 := wXi hC 1
       have e2 := wXi hC 2
       have e3 := wXi hC 3
       have e4 := wXi hC 4
       have e5 := wXi hC 5
       have E := E8; try simp only [LM, zAc] at E
       rw [zAe hL]
       simp only [SP, Nat.zero_add, Nat.reduceAdd]
       rw [e1, e2, e3, e4, e5]
       generalize vs 0 = u8_0
       clear e1 e2 e3 e4 e5 hC hn E8 hL vs L nb
       clear K1 HBB FD
       clear BA BB BC
       have HL6 := hidd (HLH.out.mono E.below)
       have HT6 := hidd (HTH.out.mono E.below)
       have HB6 := hidd (HBH.out.trans (E.below.mono HBH.out.size))
       clear HLH HTH HBH E
       have g9 : IntKind.i64.wrap (b + 1) = b + 1 := IntWalk.i64_in _ (by have := HKE.out; have := HAA.out; have := HQ0.out.2.1; omega)
       have hw : wrap64 (b + 1) = b + 1 := by have := HKE.out; have := HAA.out; have := HQ0.out.2.1; simp only [wrap64]; omega
       go_wp2
       go_roundw
       case rel => exact ⟨k + 1, b + 1, Qs, by first | go_num | (rw [hw]; go_num), by have := HKE.out.1; omega, by have := HKE.out.2; omega, by rw [HQE2.out, zCl, ← HKE.out.1, FN.out, List.append_nil], HL6.out, HT6.out, HB6.out⟩
       case measure => have := HKE.out; have := HAA.out; have := HQ0.out.2.1; first | (rw [hw]; simp [intOf]; omega) | (simp [intOf]; omega)
     ·have T8 : Hid (¬ r = 0) := hr0
      have FN : Hid (zBs n A b = []) := FE.out.trans (if_neg hr0)
      clear hr0 FE
      refine rg [Fq.is (.int .i64 b), Fq.is (.int .i64 b), Fq.is (.int .i64 bb), Fq.is (.int .i64 n), Fq.is (.int .i64 s), Fq.is (.int .i64 A), Fq.is (.int .i64 d4), Fq.is (.int .i64 r), yT] [] [] E (fun hp => ⟨?_, ?_, ?_, ?_, ?_, ?_, ?_, ?_, ?_, tv⟩) ?_
      ·exact zAa hp fo tv (sqo 5)
      ·exact zAa hp fo tv (sqo 5)
      ·exact zAg (F := fun v _ => v = .int .i64 b) (G := fun v _ => v = .int .i64 b) hp fo tv (sqi 0) (sqi 1) (fun ρ w hc h h' => ⟨.int .i64 bb, by simp [execOp, go_sem, h, h', W2.out], rfl⟩)
      ·exact zAa hp fo tv (sqo 0)
      ·exact zAg (F := fun v _ => v = .int .i64 bb) (G := fun v _ => v = .int .i64 n) hp fo tv (sqi 2) (sqi 3) (fun ρ w hc h h' => ⟨.int .i64 s, by simp [execOp, go_sem, h, h', W5.out], rfl⟩)
      ·exact zAa hp fo tv (sqo 4)
      ·exact zAf (F := fun v _ => v = .int .i64 A) hp fo tv (sqi 5) (fun ρ w hc h => ⟨.int .i64 d4, by simp [execOp, go_sem, h, hc, W6.out], rfl⟩)
      ·exact zAg (F := fun v _ => v = .int .i64 s) (G := fun v _ => v = .int .i64 d4) hp fo tv (sqi 4) (sqi 6) (fun ρ w hc h h' => ⟨.int .i64 r, by simp [execOp, go_sem, h, h', D0.out, WR.out], rfl⟩)
      ·exact zAf (F := fun v _ => v = .int .i64 r) hp fo tv (sqi 7) (fun ρ w hc h => ⟨.bool true, by simp [execOp, go_sem, h, hc, T8.out], rfl⟩)
      intro L vs w9 nb hL hC hn E9
      have e0 := wXi hC 0
      have e1 := wXi hC 1
      have e2 := wXi hC 2
      have e3 := wXi hC 3
      have e4 := wXi hC 4
      have e5 := wXi hC 5
      have e6 := wXi hC 6
      have e7 := wXi hC 7
      have e8 := wXi hC 8
      have E := E9; try simp only [LM, zAc] at E
      rw [zAe hL]
      simp only [SP, Nat.zero_add, Nat.reduceAdd]
      rw [e0, e1, e2, e3, e4, e5, e6, e7, e8]
      clear e0 e1 e2 e3 e4 e5 e6 e7 e8 hC hn E9 hL vs L nb
      clear W2 W5 W6 WR WQ WC D0 T8 RA RB_ RC HBB
      clear BA BB BC
      have HL6 := hidd (HLH.out.mono E.below)
      have HT6 := hidd (HTH.out.mono E.below)
      have HB6 := hidd (HBH.out.trans (E.below.mono HBH.out.size))
      clear HLH HTH HBH E
      have g9 : IntKind.i64.wrap (b + 1) = b + 1 := IntWalk.i64_in _ (by have := HKE.out; have := HAA.out; have := HQ0.out.2.1; omega)
      have hw : wrap64 (b + 1) = b + 1 := by have := HKE.out; have := HAA.out; have := HQ0.out.2.1; simp only [wrap64]; omega
      go_wp2
      go_roundw
      case rel => exact ⟨k + 1, b + 1, Qs, by first | go_num | (rw [hw]; go_num), by have := HKE.out.1; omega, by have := HKE.out.2; omega, by rw [HQE2.out, zCl, ← HKE.out.1, FN.out, List.append_nil], HL6.out, HT6.out, HB6.out⟩
      case measure => have := HKE.out; have := HAA.out; have := HQ0.out.2.1; first | (rw [hw]; simp [intOf]; omega) | (simp [intOf]; omega)
    ·have hA := HAA.out
     have t0 : decide (b ≤ A) = false := by simp; omega
     have HKE := hidd (show k = 2 * a + 1 by omega)
     have HLH := hidd HL
     have HTH := hidd HT
     have HBH := hidd HBW
     have ha9 := HQ0.out
     have hw : wrap64 (A + 1) = A + 1 := by simp only [wrap64]; omega
     have g9 : IntKind.i64.wrap (A + 1) = A + 1 := IntWalk.i64_in _ (by omega)
     clear HL HT HBW hb hk hQl hml
     have hli : ¬ b ≤ A := hy
     clear hy
     go_wp2
     go_roundw
     case rel => exact ⟨a + 1, A + 1, Qs, by first | go_num | (rw [hw]; go_num), by omega, by omega, by omega, fun j h2 h3 => (by rcases Nat.lt_or_ge j a with h4 | h4; exact HRUN.out j h2 h4; (rw [show j = a by omega]; exact HXE.out)), by rw [HQE2.out, HKE.out, zB9, if_neg (by omega), hA], HLH.out, HTH.out, HBH.out⟩
     case measure => first | (rw [hw]; simp [intOf]; omega) | (simp [intOf]; omega)
  ·have hae : ¬ 3 * ((a : Int) * a) ≤ n := hx
   have hsq := sq_nn (b := A) (m := 26) (by omega)
   have haa : A * A = (a : Int) * a := by rw [hA]
   obtain ⟨t3, ht3⟩ : ∃ t3, t3 = 3 * A := ⟨_, rfl⟩
   obtain ⟨t4, ht4⟩ : ∃ t4, t4 = t3 * A := ⟨_, rfl⟩
   have hq4 : t4 = 3 * ((a : Int) * a) := by rw [ht4, ht3, Int.mul_assoc, haa]
   have W3 : Hid (IntKind.i64.wrap (3 * A) = t3) := by show _ = _; rw [ht3]; exact IntWalk.i64_in _ (by omega)
   have W4 : Hid (IntKind.i64.wrap (t3 * A) = t4) := by show _ = _; rw [← ht4]; exact IntWalk.i64_in _ (by omega)
   have T4 : Hid (¬ t4 ≤ n) := by show ¬ _; omega
   have hEq : Ps = zCe n := by rw [HPE.out, zK3 ⟨ha1, hae, HRUN.out⟩]
   have HEQ := hidd hEq
   have HLH := hidd HL
   have HBH := hidd HBW
   clear ha1 ha2 hPl HL HT HBW hx hae haa hsq ht3 ht4 hq4 hA hrun hml hEq
   have E := Fr.start V2
   go_upto_region 3 with (fail)
   refine rg [Fq.is (.int .i64 A), Fq.is (.int .i64 t3), Fq.is (.int .i64 A), Fq.is (.int .i64 t4), Fq.is (.int .i64 n), yF] [] [] E (fun hp => ⟨?_, ?_, ?_, ?_, ?_, ?_, tv⟩) ?_
   ·exact zAa hp fo tv (sqo 4)
   ·exact zAf (F := fun v _ => v = .int .i64 A) hp fo tv (sqi 0) (fun ρ w hc h => ⟨.int .i64 t3, by simp [execOp, go_sem, h, hc, W3.out], rfl⟩)
   ·exact zAa hp fo tv (sqo 4)
   ·exact zAg (F := fun v _ => v = .int .i64 t3) (G := fun v _ => v = .int .i64 A) hp fo tv (sqi 1) (sqi 2) (fun ρ w hc h h' => ⟨.int .i64 t4, by simp [execOp, go_sem, h, h', W4.out], rfl⟩)
   ·exact zAa hp fo tv (sqo 0)
   ·exact zAg (F := fun v _ => v = .int .i64 t4) (G := fun v _ => v = .int .i64 n) hp fo tv (sqi 3) (sqi 4) (fun ρ w hc h h' => ⟨.bool false, by simp [execOp, go_sem, h, h', T4.out], rfl⟩)
   intro L vs w10 nb hL hC hn E10
   have e0 := wXi hC 0
   have e1 := wXi hC 1
   have e2 := wXi hC 2
   have e3 := wXi hC 3
   have e4 := wXi hC 4
   have e5 := wXi hC 5
   have E := E10; try simp only [LM, zAc] at E
   rw [zAe hL]
   simp only [SP, Nat.zero_add, Nat.reduceAdd]
   rw [e0, e1, e2, e3, e4, e5]
   clear e0 e1 e2 e3 e4 e5 hC hn E10 hL vs L nb
   go_upto_region 12 with (fail)
   refine rg [Fq.is (.slice ao2 Ps.length cap2), Fq.is (.slice ao2 Ps.length cap2)] [] [] E (fun hp => ⟨?_, ?_, tv⟩) ?_
   ·exact zAa hp fo tv (sqo 3)
   ·exact zAi hp fo tv (sqi 0)
   intro L vs w11 nb hL hC hn E11
   have e0 := wXi hC 0
   have e1 := wXi hC 1
   have E := E11; try simp only [LM, zAc] at E
   rw [zAe hL]
   simp only [SP, Nat.zero_add, Nat.reduceAdd]
   rw [e0, e1]
   clear e0 e1 hC hn E11 hL vs L nb
   clear W3 W4 T4
   have HL3 := hidd (HLH.out.mono E.below)
   have HB3 := hidd (HBH.out.trans (E.below.mono HBH.out.size))
   clear E HLH HBH HPE HRUN HAA
   go_wp2
   refine bodyPost_ret (v := .slice ao2 Ps.length cap2) ?_ rfl ⟨_, rfl, HB3.out, ?_⟩
   ·simp [results, Tryz.results72, go_sem]
   ·rw [← HEQ.out]
    exact HL3.out

theorem act_disc (a b c p q r s : Int) : qm a b c p q r s * qm a b c p q r s - 4 * (qv a b c p r * qv a b c q s) = (b * b - 4 * (a * c)) * ((p * s - q * r) * (p * s - q * r)) := by
 unfold qv qm
 exact zI2 a b c p q r s
theorem zG0 (a b c : Int) : eqF a b c a b c = true := by simp [eqF]
theorem zBh {x y : Int} {m n : Nat} (hx : x.natAbs ≤ m) (hy : y.natAbs ≤ n) : (x * y).natAbs ≤ m * n := by
 rw [Int.natAbs_mul]
 exact Nat.mul_le_mul hx hy
theorem zJg {z s t : Int} (es : s = z % 8 - 3) (et : t = z / 8 % 8 - 4) : s.natAbs ≤ 4 ∧ t.natAbs ≤ 4 ∧ (s * t - 1).natAbs ≤ 17 := by
 have h1 : s.natAbs ≤ 4 := by omega
 have h2 : t.natAbs ≤ 4 := by omega
 have h3 := zBh h1 h2
 exact ⟨h1, h2, by omega⟩
theorem zE1 {x : Int} (h : x.natAbs ≤ 2000) : ab x < pw 3 := zAq (by omega) (by omega)
theorem zJx {a b c p q r s : Int} (hd : (p * s - q * r) * (p * s - q * r) = 1) : qm a b c p q r s * qm a b c p q r s - 4 * (qv a b c p r * qv a b c q s) = b * b - 4 * (a * c) := by
 rw [act_disc, hd, Int.mul_one]
section
variable {os : List Oper} {Q : Exit → Act → World → Prop} {a : Act} {p : Pq} {B B0 : Nat} {w0 : World}
variable {i s : Nat} {d : Option Tmp} {ty : TypeId} {ps : String} {af : Array Edge} {gd : Option (Nat × Bool)}
theorem zPd {x : Operand} {ad : Option Addr} {k c : Nat} (hp : p.Ok B B0) (hF : p.Free i) (hg : GdQ os a p B B0 w0 af gd) (hx : SrcQ os a p B B0 w0 af x fun v _ => v = .slice ad k c) (hC : ∀ w, (p.c i).P (.int .i64 k) w) :
  zAt os Q a p B B0 w0 i { dst := d, op := .call { callee := .builtin .len, args := #[x], argTypes := #[85] }, type := ty, pos := ps, after := af, guard := gd } :=
 zAf hp hF hg hx fun ρ w _ h => ⟨.int .i64 k, by simp [go_sem, h], hC w⟩
theorem zPc {b l c k : Nat} {x y : Operand} (hp : p.Ok B B0) (hF : p.Free i) (hg : GdQ os a p B B0 w0 af gd) (hx : SrcQ os a p B B0 w0 af x fun v _ => v = .slice (some ⟨b, 0, none⟩) l c) (hy : SrcQ os a p B B0 w0 af y fun v _ => v = .int .i64 k) (hk : k < l)
  (hC : ∀ w, (p.c i).P (.pointer (some ⟨b, k * 6, none⟩)) w) :
  zAt os Q a p B B0 w0 i { dst := d, op := .indexAddr 85 x y, type := ty, pos := ps, after := af, guard := gd } :=
 zAg hp hF hg hx hy fun ρ w _ h h' => ⟨_, by
  have h0 : (k : Int) < (l : Int) := by omega
  have h1 : (0 : Int) ≤ (k : Int) := by omega
  simp [execOp, go_sem, h, h', h0, h1], hC w⟩
end
theorem zIf {w : World} {v : Value} {D i0 i1 i2 i3 m0 m1 m2 m3 n : Int} (h : (Fq.st [.v (.int .u16 D), .v (.int .u16 i0), .v (.int .u16 i1), .v (.int .u16 i2), .v (.int .u16 i3), .v (.int .u8 m0), .v (.int .u8 m1), .v (.int .u8 m2), .v (.int .u8 m3)]).P v w) (hD : 0 ≤ D ∧ D ≤ 65535) (hn : zBt D = n) :
  Calls Tryz.prog 38 #[v] w fun e w' => ∃ v', e = .returned v' ∧ Below w.heap.size w w' ∧ v' = .int .i64 n := by
 subst hn
 exact exQSize h hD
noncomputable def zCt (n i : Int) : F3 := (zCe n).getD (i % ((zCe n).length : Int)).toNat ⟨0, 0, 0⟩
noncomputable def zEw (n i m : Int) : F3 := if m % 4 = 0 then zCt n i else ⟨qv (zCt n i).a (zCt n i).b (zCt n i).c (m % 8 - 3) 1, qm (zCt n i).a (zCt n i).b (zCt n i).c (m % 8 - 3) ((m % 8 - 3) * (m / 8 % 8 - 4) - 1) 1 (m / 8 % 8 - 4), qv (zCt n i).a (zCt n i).b (zCt n i).c ((m % 8 - 3) * (m / 8 % 8 - 4) - 1) (m / 8 % 8 - 4)⟩
theorem zLl {n : Int} (i : Int) (h0 : 3 ≤ n) (h1 : n ≤ 2004) (h4 : n % 4 = 0 ∨ n % 4 = 3) : ∃ j : Nat, j < (zCe n).length ∧ i % ((zCe n).length : Int) = j ∧ (zCe n)[j]? = some (zCt n i) := by
 have h := listF_pos h0 h1 h4
 have h5 := Int.emod_nonneg i (show ((zCe n).length : Int) ≠ 0 by omega)
 have h6 := Int.emod_lt_of_pos i (show (0 : Int) < ((zCe n).length : Int) by omega)
 refine ⟨(i % ((zCe n).length : Int)).toNat, by omega, by omega, ?_⟩
 unfold zCt
 rw [List.getD, List.getElem?_eq_getElem (by omega)]
 rfl
theorem FOk.bds {n : Int} {P : F3} (h : FOk n P) (h1 : n ≤ 2004) : 0 < P.a ∧ P.a.natAbs ≤ 668 ∧ P.b.natAbs ≤ 668 ∧ P.c.natAbs ≤ 668 := by
 obtain ⟨ha, hk, _, hd⟩ := h
 simp only [Bool.and_eq_true] at hk
 have hr := (zEk (show 0 < P.a by omega)).1 hk.2
 have h2 := hr.lo
 have h3 := hr.hi
 have h4 := hr.ac
 have e1 : P.b * P.b ≤ P.a * P.a := by
  rw [← zDw P.b]
  exact Int.mul_le_mul (by omega) (by omega) (by omega) (by omega)
 have e2 : P.a * P.a ≤ P.a * P.c := Int.mul_le_mul_of_nonneg_left h4 (by omega)
 have e3 : 1 * P.c ≤ P.a * P.c := Int.mul_le_mul_of_nonneg_right ha (by omega)
 omega
def MOk (n : Int) (P : F3) : Prop := redE P.a P.b P.c = 0 ∧ P.b * P.b - 4 * (P.a * P.c) = -n ∧ (ab P.a < pw 3 ∧ ab P.b < pw 3 ∧ ab P.c < pw 3) ∧ P.a.natAbs ≤ 100000000 ∧ P.b.natAbs ≤ 100000000 ∧ P.c.natAbs ≤ 100000000
theorem zD0 {x : Int} (h : x.natAbs ≤ 100000000) : ab x < pw 3 := zAq (by omega) (by omega)
theorem zK6 {n i m : Int} (h0 : 3 ≤ n) (h1 : n ≤ 2004) (h4 : n % 4 = 0 ∨ n % 4 = 3) : MOk n (zEw n i m) := by
 obtain ⟨j, _, _, hj⟩ := zLl i h0 h1 h4
 have hF := zK4 _ (List.mem_of_getElem? hj)
 obtain ⟨hp, b1, b2, b3⟩ := hF.bds h1
 have hd := hF.2.2.2
 unfold zEw
 split
 ·exact ⟨zEz (by rw [hd]; omega) hp, hd, ⟨zD0 (by omega), zD0 (by omega), zD0 (by omega)⟩, by omega, by omega, by omega⟩
 ·obtain ⟨s, es⟩ : ∃ s, s = m % 8 - 3 := ⟨_, rfl⟩
  obtain ⟨t, et⟩ : ∃ t, t = m / 8 % 8 - 4 := ⟨_, rfl⟩
  rw [← es, ← et]
  obtain ⟨t1, t2, t3⟩ := zJg es et
  generalize zCt n i = P at hp b1 b2 b3 hd ⊢
  have hdet : (s * t - (s * t - 1) * 1) * (s * t - (s * t - 1) * 1) = 1 := by
   rw [show s * t - (s * t - 1) * 1 = 1 by omega]
   rfl
  have h5 := zJx (a := P.a) (b := P.b) (c := P.c) hdet
  have hpos := qv_pos (x := s) (y := 1) hp (by rw [hd]; omega) (by omega)
  have qb : ∀ x y : Int, x.natAbs ≤ 17 → y.natAbs ≤ 17 → (qv P.a P.b P.c x y).natAbs ≤ 100000000 := by
   intro x y hx hy
   have m1 := zBh b1 (zBh hx hx)
   have m2 := zBh b2 (zBh hx hy)
   have m3 := zBh b3 (zBh hy hy)
   unfold qv
   omega
  have qc : (qm P.a P.b P.c s (s * t - 1) 1 t).natAbs ≤ 100000000 := by
   have u1 : (1 : Int).natAbs ≤ 17 := by decide
   have m1 := zBh b1 (zBh (show s.natAbs ≤ 17 by omega) t3)
   have m2 := zBh b3 (zBh u1 (show t.natAbs ≤ 17 by omega))
   have m3 := zBh (show s.natAbs ≤ 17 by omega) (show t.natAbs ≤ 17 by omega)
   have m4 := zBh t3 u1
   have m5 := zBh b2 (show (s * t + (s * t - 1) * 1).natAbs ≤ 17 * 17 + 17 * 17 by omega)
   unfold qm
   omega
  refine ⟨zEz ?_ hpos, ?_, ⟨zD0 (qb _ _ (by omega) (by decide)), zD0 qc, zD0 (qb _ _ t3 (by omega))⟩, qb _ _ (by omega) (by decide), qc, qb _ _ t3 (by omega)⟩
  ·show qm _ _ _ _ _ _ _ * qm _ _ _ _ _ _ _ - 4 * (qv _ _ _ _ _ * qv _ _ _ _ _) < 0
   rw [h5, hd]; omega
  ·show qm _ _ _ _ _ _ _ * qm _ _ _ _ _ _ _ - 4 * (qv _ _ _ _ _ * qv _ _ _ _ _) = -n
   rw [h5]; exact hd
set_option maxRecDepth 100000 in
set_option maxHeartbeats 4000000 in
theorem zKn {w : World} {v : Value} {D i0 i1 i2 i3 m0 m1 m2 m3 : Int} (h : (Fq.st [.v (.int .u16 D), .v (.int .u16 i0), .v (.int .u16 i1), .v (.int .u16 i2), .v (.int .u16 i3), .v (.int .u8 m0), .v (.int .u8 m1), .v (.int .u8 m2), .v (.int .u8 m3)]).P v w) (hD : 0 ≤ D ∧ D ≤ 65535) (hi : 0 ≤ i0 ∧ i0 ≤ 65535) (hm : 0 ≤ m0 ∧ m0 ≤ 255) {n : Int} (hn : zBt D = n) {P : F3} (hP : zEw n i0 m0 = P) :
  Calls Tryz.prog 33 #[v, .int .i64 0] w fun e w' => ∃ v', e = .returned v' ∧ Below w.heap.size w w' ∧ (Fq.st [.n P.a, .n P.b, .n P.c]).P v' w' := by
 have hsz := zHj D
 rw [hn] at hsz
 obtain ⟨j, hj, hQj, hPj⟩ := zLl i0 (by omega) (by omega) hsz.2.2
 have hFo := (zK4 _ (List.mem_of_getElem? hPj)).bds hsz.2.1
 obtain ⟨F, hF⟩ : ∃ F, F = zCt n i0 := ⟨_, rfl⟩
 rw [← hF] at hPj hFo
 obtain ⟨ps, hps⟩ : ∃ ps, ps = zCe n := ⟨_, rfl⟩
 rw [← hps] at hj hQj hPj
 obtain ⟨nl, hnl⟩ : ∃ nl, nl = ps.length := ⟨_, rfl⟩
 rw [← hnl] at hj hQj
 have BF : Hid (ab F.a < pw 3 ∧ ab F.b < pw 3 ∧ ab F.c < pw 3) := ⟨zD0 (by omega), zD0 (by omega), zD0 (by omega)⟩
 have HSZ := hidd hsz
 have HNE := hidd hn
 have HFE := hidd hF
 have HPS := hidd hps
 have HNL := hidd hnl
 have HJ := hidd hj
 have HPJ := hidd hPj
 have HDD := hidd hD
 have HMM := hidd hm
 have HPE := hidd hP
 have I16 : Hid (IntKind.i64.wrap i0 = i0) := IntWalk.i64_in _ (by omega)
 have HLN : Hid (¬ nl = 0) := by show ¬ _; omega
 have HTJ : Hid (Int.tmod i0 (nl : Int) = (j : Int)) := by show _ = _; rw [Int.tmod_eq_emod_of_nonneg (by omega), hQj]
 obtain ⟨r, hr⟩ : ∃ r, r = m0 % 4 := ⟨_, rfl⟩
 have C4 : Hid (Int.tmod m0 4 = r) := by show _ = _; rw [Int.tmod_eq_emod_of_nonneg (by omega), hr]
 have HR := hidd hr
 obtain ⟨s, es⟩ : ∃ s, s = m0 % 8 - 3 := ⟨_, rfl⟩
 obtain ⟨t, et⟩ : ∃ t, t = m0 / 8 % 8 - 4 := ⟨_, rfl⟩
 have htb := zJg es et
 have Bs : Hid (ab s < pw 3) := zE1 (by omega)
 have Bt : Hid (ab t < pw 3) := zE1 (by omega)
 have Bu : Hid (ab (s * t - 1) < pw 3) := zE1 (by omega)
 have Es := hidd es
 have Et := hidd et
 clear hsz hj hQj hPj hFo hF hps hnl hr htb es et hD hi hm hn hP
 obtain ⟨_, rfl, hf0⟩ := h
 have hF0 := hf0
 obtain ⟨_, rfl, _, _, rfl, _, _, rfl, _, _, rfl, _, _, rfl, _, _, rfl, _, _, rfl, _, _, rfl, _, _, rfl, _, rfl⟩ := hf0
 obtain ⟨w1, b1, hw1, hb1, hs1, E⟩ := gS w 57 hF0
 obtain ⟨w2, b2, hw2, hb2, hs2, E⟩ := fO E hs1 33 zA3
 go_enter Tryz.func33, Tryz.ntmps33
 go_upto_region 1 with (fail)
 rw [← hw1]
 rw [← hw2]
 rw [← hb2]
 rw [← hb1]
 clear hw1 hw2 hb1 hb2 hs2 hs1
 refine wp_region_list ?_
 refine zMj rfl 57 (.tmp 2) rfl zGb rfl rfl (StAt.of_boxQ (E.box 1 rfl)) fun vc hvc => ?_
 go_upto_region 2 with (first | (go_at_call 38; (with_reducible refine (zIf hvc HDD.out HNE.out).mono ?_); rintro e w8 ⟨v8, rfl, hB8, rfl⟩) | (go_at_call 72; (with_reducible refine (exQList HSZ.out.1 HSZ.out.2.1).mono ?_); rintro e w9 ⟨vL, rfl, hB9, hLs⟩; obtain ⟨gg, cp, rfl, hgg, hbox⟩ := hLs.box6 (by rw [← HPS.out]; have := HJ.out; have := HNL.out; omega)) | fail)
 rw [← HPS.out, ← HNL.out] at hbox
 first | rw [← HPS.out, ← HNL.out] | skip
 replace E := Fr.addQ E (hB8.trans (hB9.mono hB8.size)) (Nat.le_trans hB8.size hgg) hbox
 clear hvc hB8 hB9 hLs hgg hbox
 refine rg [Fq.is (.slice (some ⟨gg, 0, none⟩) nl cp), Fq.is (.int .i64 0), Fq.is (.int .i64 0), ip b1 1, ip b1 1, Fq.is (.int .u16 i0), Fq.is (.int .i64 i0), Fq.is (.slice (some ⟨gg, 0, none⟩) nl cp), Fq.is (.int .i64 ((nl : Nat) : Int)), Fq.is (.int .i64 (j : Int)), Fq.is (.pointer (some ⟨gg, j * 6, none⟩)), Fq.st [.n F.a, .n F.b, .n F.c], Fq.any, Fq.any] N3 [⟨12, 13, 6, Fq.st [.n 0, .n 0, .n 0], Fq.st [.n F.a, .n F.b, .n F.c], none⟩] E (fun hp => ⟨?_, ?_, ?_, ?_, ?_, ?_, ?_, ?_, ?_, ?_, ?_, ?_, ?_, ?_, tv⟩) ?_
 ·exact zAa hp fo tv (sqo 5)
 ·exact zAa hp fo tv (sqo 1)
 ·exact zAf (F := fun v _ => v = .int .i64 0) hp fo tv (sqi 1) (fun ρ w hc h => ⟨.int .i64 0, by simp [execOp, go_sem, h, hc], rfl⟩)
 ·exact qa b1 0 1 hp (sqo 2)
 ·exact zAg (F := fun v _ => v = .pointer (some ⟨b1, 1, none⟩)) (G := fun v _ => v = .int .i64 0) hp fo tv (sqi 3) (sqi 2) (fun ρ w hc h h' => ⟨.pointer (some ⟨b1, 1, none⟩), by simp [execOp, go_sem, h, h'], rfl⟩)
 ·exact wXc 1 hp (mq 2 rfl) (sqi 4)
 ·exact zAf (F := fun v _ => v = .int .u16 i0) hp fo tv (sqi 5) (fun ρ w hc h => ⟨.int .i64 i0, by simp [execOp, go_sem, h, I16.out], rfl⟩)
 ·exact zAa hp fo tv (sqo 5)
 ·exact zPd hp fo tv (sqi 7) (fun _ => rfl)
 ·exact zAg (F := fun v _ => v = .int .i64 i0) (G := fun v _ => v = .int .i64 ((nl : Nat) : Int)) hp fo tv (sqi 6) (sqi 8) (fun ρ w hc h h' => ⟨.int .i64 (j : Int), by simp [execOp, go_sem, h, h', HLN.out, HTJ.out], rfl⟩)
 ·exact zPc (b := gg) (l := nl) (c := cp) (k := j) hp fo tv (sqi 0) (sqi 9) HJ.out (fun _ => rfl)
 ·exact zEb (off := j * 6) (l := 6) (fs := rowQ ps) (gs := [.n F.a, .n F.b, .n F.c]) hp fo tv (mq 0 rfl) (.inl rfl) rfl zAm (zL4 HPJ.out) (sqi 10) (fun v w h => h)
 ·exact aS hp (mq 0 rfl) zA3 zBo
 ·exact sS 11 hp (mq 0 rfl) zA2
 intro L vs w3 nb hL hC hn E3
 have e0 := wXi hC 0
 have e1 := wXi hC 1
 have e2 := wXi hC 2
 have e3 := wXi hC 3
 have e4 := wXi hC 4
 have e5 := wXi hC 5
 have e6 := wXi hC 6
 have e7 := wXi hC 7
 have e8 := wXi hC 8
 have e9 := wXi hC 9
 have e10 := wXi hC 10
 have e12 : vs 12 = .pointer (some ⟨nb 12, 0, none⟩) := hn _ (mq 0 rfl)
 have E := E3; try simp only [LM, zAc] at E
 rw [zAe hL]
 simp only [SP, Nat.zero_add, Nat.reduceAdd]
 rw [e0, e1, e2, e3, e4, e5, e6, e7, e8, e9, e10, e12]
 generalize nb 12 = b3_12 at E ⊢
 generalize vs 11 = u3_11
 clear e0 e1 e2 e3 e4 e5 e6 e7 e8 e9 e10 e12 hC hn E3 hL vs L nb
 clear I16 HLN HTJ HJ HPJ HNL HPS HNE HSZ HDD
 go_upto_region 3 with (fail)
 by_cases hz : r = 0
 ·have T6 := hidd hz
  have hQ : F = P := by rw [HFE.out, ← HPE.out]; unfold zEw; rw [if_pos (HR.out.symm.trans hz)]
  have HQ := hidd hQ
  clear hz hQ
  refine rg [Fq.is (.int .i64 0), Fq.is (.int .i64 0), ip b1 5, ip b1 5, Fq.is (.int .u8 m0), Fq.is (.int .u8 r), yT] N4 [] E (fun hp => ⟨?_, ?_, ?_, ?_, ?_, ?_, ?_, tv⟩) ?_
  ·exact zAa hp fo tv (sqo 1)
  ·exact zAf (F := fun v _ => v = .int .i64 0) hp fo tv (sqi 0) (fun ρ w hc h => ⟨.int .i64 0, by simp [execOp, go_sem, h, hc], rfl⟩)
  ·exact qa b1 0 5 hp (sqo 2)
  ·exact zAg (F := fun v _ => v = .pointer (some ⟨b1, 5, none⟩)) (G := fun v _ => v = .int .i64 0) hp fo tv (sqi 2) (sqi 1) (fun ρ w hc h h' => ⟨.pointer (some ⟨b1, 5, none⟩), by simp [execOp, go_sem, h, h'], rfl⟩)
  ·exact wXc 5 hp (mq 3 rfl) (sqi 3)
  ·exact zAf (F := fun v _ => v = .int .u8 m0) hp fo tv (sqi 4) (fun ρ w hc h => ⟨.int .u8 r, by simp [execOp, go_sem, h, hc, C4.out], rfl⟩)
  ·exact zAf (F := fun v _ => v = .int .u8 r) hp fo tv (sqi 5) (fun ρ w hc h => ⟨.bool true, by simp [execOp, go_sem, h, hc, T6.out], rfl⟩)
  intro L vs w4 nb hL hC hn E4
  have e0 := wXi hC 0
  have e1 := wXi hC 1
  have e2 := wXi hC 2
  have e3 := wXi hC 3
  have e4 := wXi hC 4
  have e5 := wXi hC 5
  have e6 := wXi hC 6
  have E := E4; try simp only [LM, zAc] at E
  rw [zAe hL]
  simp only [SP, Nat.zero_add, Nat.reduceAdd]
  rw [e0, e1, e2, e3, e4, e5, e6]
  clear e0 e1 e2 e3 e4 e5 e6 hC hn E4 hL vs L nb
  go_upto_region 4 with (fail)
  refine rg [Fq.st [.n F.a, .n F.b, .n F.c], Fq.any] [none, none, some (1, Fq.st [.n F.a, .n F.b, .n F.c]), none] [] E (fun hp => ⟨?_, ?_, tv⟩) ?_
  ·exact lS 0 6 hp (mq 0 rfl) zAm (sqo 6)
  ·exact sO 0 0 hp (mq 2 rfl) zA2 (sqo 4)
  intro L vs w5 nb hL hC hn E5
  have E := E5; try simp only [LM, zAc] at E
  rw [zAe hL]
  simp only [SP, Nat.zero_add, Nat.reduceAdd]
  generalize vs 0 = u5_0
  clear  hC hn E5 hL vs L nb
  obtain ⟨_, _, hccr, hffr⟩ := zBn (E.box 2 rfl)
  have hPr := hffr
  obtain ⟨r_p0, r_q0, _, rfl, _r_n0, r_p1, r_q1, _, rfl, _r_n1, r_p2, r_q2, _, rfl, _r_n2, rfl⟩ := hffr
  have cr0 := hccr 0 (by simp)
  have cr1 := hccr 1 (by simp)
  have cr2 := hccr 2 (by simp)
  have cr3 := hccr 3 (by simp)
  have cr4 := hccr 4 (by simp)
  have cr5 := hccr 5 (by simp)
  simp only [List.getD_cons_zero, List.getD_cons_succ] at cr0 cr1 cr2 cr3 cr4 cr5
  clear hccr
  have hQ := HQ.out
  clear T6 HQ C4 HR HFE HMM HPE Es Et
  rw [hQ] at hPr
  clear BF Bs Bt Bu
  go_wp2
  refine bodyPost_ret (v := .agg #[r_p0, r_q0, r_p1, r_q1, r_p2, r_q2]) ?_ rfl ⟨_, rfl, E.below, ⟨_, rfl, hPr⟩⟩
  simp [results, Tryz.results33, go_sem, cr0, cr1, cr2, cr3, cr4, cr5]
 ·have T6 := hidd hz
  have hQ : P = ⟨qv F.a F.b F.c s 1, qm F.a F.b F.c s (s * t - 1) 1 t, qv F.a F.b F.c (s * t - 1) t⟩ := by rw [← HPE.out]; unfold zEw; rw [if_neg (fun e => hz (HR.out.trans e)), ← HFE.out, ← Es.out, ← Et.out]
  have HQ := hidd hQ
  clear hz hQ
  refine rg [Fq.is (.int .i64 0), Fq.is (.int .i64 0), ip b1 5, ip b1 5, Fq.is (.int .u8 m0), Fq.is (.int .u8 r), yF] N4 [] E (fun hp => ⟨?_, ?_, ?_, ?_, ?_, ?_, ?_, tv⟩) ?_
  ·exact zAa hp fo tv (sqo 1)
  ·exact zAf (F := fun v _ => v = .int .i64 0) hp fo tv (sqi 0) (fun ρ w hc h => ⟨.int .i64 0, by simp [execOp, go_sem, h, hc], rfl⟩)
  ·exact qa b1 0 5 hp (sqo 2)
  ·exact zAg (F := fun v _ => v = .pointer (some ⟨b1, 5, none⟩)) (G := fun v _ => v = .int .i64 0) hp fo tv (sqi 2) (sqi 1) (fun ρ w hc h h' => ⟨.pointer (some ⟨b1, 5, none⟩), by simp [execOp, go_sem, h, h'], rfl⟩)
  ·exact wXc 5 hp (mq 3 rfl) (sqi 3)
  ·exact zAf (F := fun v _ => v = .int .u8 m0) hp fo tv (sqi 4) (fun ρ w hc h => ⟨.int .u8 r, by simp [execOp, go_sem, h, hc, C4.out], rfl⟩)
  ·exact zAf (F := fun v _ => v = .int .u8 r) hp fo tv (sqi 5) (fun ρ w hc h => ⟨.bool false, by simp [execOp, go_sem, h, hc, T6.out], rfl⟩)
  intro L vs w6 nb hL hC hn E6
  have e0 := wXi hC 0
  have e1 := wXi hC 1
  have e2 := wXi hC 2
  have e3 := wXi hC 3
  have e4 := wXi hC 4
  have e5 := wXi hC 5
  have e6 := wXi hC 6
  have E := E6; try simp only [LM, zAc] at E
  rw [zAe hL]
  simp only [SP, Nat.zero_add, Nat.reduceAdd]
  rw [e0, e1, e2, e3, e4, e5, e6]
  clear e0 e1 e2 e3 e4 e5 e6 hC hn E6 hL vs L nb
  go_upto_region 5 with (fail)
  refine rg [Fq.st [.n F.a, .n F.b, .n F.c], Fq.is (.int .i64 0), Fq.is (.int .i64 0), ip b1 5, ip b1 5, Fq.is (.int .u8 m0), Fq.st [.n s, .n (s * t - 1), .n 1, .n t], Fq.st [.n (qv F.a F.b F.c s 1), .n (qm F.a F.b F.c s (s * t - 1) 1 t), .n (qv F.a F.b F.c (s * t - 1) t)], Fq.any] [none, none, some (8, Fq.st [.n (qv F.a F.b F.c s 1), .n (qm F.a F.b F.c s (s * t - 1) 1 t), .n (qv F.a F.b F.c (s * t - 1) t)]), none] [] E (fun hp => ⟨?_, ?_, ?_, ?_, ?_, ?_, ?_, ?_, ?_, tv⟩) ?_
  ·exact lS 0 6 hp (mq 0 rfl) zAm (sqo 6)
  ·exact zAa hp fo tv (sqo 1)
  ·exact zAf (F := fun v _ => v = .int .i64 0) hp fo tv (sqi 1) (fun ρ w hc h => ⟨.int .i64 0, by simp [execOp, go_sem, h, hc], rfl⟩)
  ·exact qa b1 0 5 hp (sqo 2)
  ·exact zAg (F := fun v _ => v = .pointer (some ⟨b1, 5, none⟩)) (G := fun v _ => v = .int .i64 0) hp fo tv (sqi 3) (sqi 2) (fun ρ w hc h h' => ⟨.pointer (some ⟨b1, 5, none⟩), by simp [execOp, go_sem, h, h'], rfl⟩)
  ·exact wXc 5 hp (mq 3 rfl) (sqi 4)
  ·exact wXa (Fq.is (.int .u8 m0)) hp zJ5 (sqi 5) fun v w h => (by subst h; exact exQTurn HMM.out Es.out Et.out)
  ·exact wXb (Fq.st [.n F.a, .n F.b, .n F.c]) (Fq.st [.n s, .n (s * t - 1), .n 1, .n t]) hp zFq (sqi 0) (sqi 6) fun v v' w h h' => zFu h h' (Int.lt_of_lt_of_le BF.out.1 (zAb (by omega))) (Int.lt_of_lt_of_le BF.out.2.1 (zAb (by omega))) (Int.lt_of_lt_of_le BF.out.2.2 (zAb (by omega))) (Int.lt_of_lt_of_le Bs.out (zAb (by omega))) (Int.lt_of_lt_of_le Bu.out (zAb (by omega))) (Int.lt_of_lt_of_le (zAq (by decide) (by decide)) (zAb (by omega))) (Int.lt_of_lt_of_le Bt.out (zAb (by omega)))
  ·exact sO 0 7 hp (mq 2 rfl) zA2 (sqo 4)
  intro L vs w7 nb hL hC hn E7
  have e1 := wXi hC 1
  have e2 := wXi hC 2
  have e3 := wXi hC 3
  have e4 := wXi hC 4
  have e5 := wXi hC 5
  have E := E7; try simp only [LM, zAc] at E
  rw [zAe hL]
  simp only [SP, Nat.zero_add, Nat.reduceAdd]
  rw [e1, e2, e3, e4, e5]
  generalize vs 0 = u7_0
  generalize vs 6 = u7_6
  generalize vs 7 = u7_7
  clear e1 e2 e3 e4 e5 hC hn E7 hL vs L nb
  obtain ⟨_, _, hccr, hffr⟩ := zBn (E.box 2 rfl)
  have hPr := hffr
  obtain ⟨r_p0, r_q0, _, rfl, _r_n0, r_p1, r_q1, _, rfl, _r_n1, r_p2, r_q2, _, rfl, _r_n2, rfl⟩ := hffr
  have cr0 := hccr 0 (by simp)
  have cr1 := hccr 1 (by simp)
  have cr2 := hccr 2 (by simp)
  have cr3 := hccr 3 (by simp)
  have cr4 := hccr 4 (by simp)
  have cr5 := hccr 5 (by simp)
  simp only [List.getD_cons_zero, List.getD_cons_succ] at cr0 cr1 cr2 cr3 cr4 cr5
  clear hccr
  have hQ := HQ.out
  clear T6 HQ C4 HR HFE HMM HPE Es Et
  rw [show qv F.a F.b F.c s 1 = P.a by rw [hQ], show qm F.a F.b F.c s (s * t - 1) 1 t = P.b by rw [hQ], show qv F.a F.b F.c (s * t - 1) t = P.c by rw [hQ]] at hPr
  clear BF Bs Bt Bu
  go_wp2
  refine bodyPost_ret (v := .agg #[r_p0, r_q0, r_p1, r_q1, r_p2, r_q2]) ?_ rfl ⟨_, rfl, E.below, ⟨_, rfl, hPr⟩⟩
  simp [results, Tryz.results33, go_sem, cr0, cr1, cr2, cr3, cr4, cr5]

theorem turned_ok {n : Int} {P : F3} (h : MOk n P) (h0 : 3 ≤ n) {s t : Int} (t1 : s.natAbs ≤ 4) (t2 : t.natAbs ≤ 4) (t3 : (s * t - 1).natAbs ≤ 17) : redE (qv P.a P.b P.c s 1) (qm P.a P.b P.c s (s * t - 1) 1 t) (qv P.a P.b P.c (s * t - 1) t) = 0 ∧ (ab (qv P.a P.b P.c s 1) < pw 3 ∧ ab (qm P.a P.b P.c s (s * t - 1) 1 t) < pw 3 ∧ ab (qv P.a P.b P.c (s * t - 1) t) < pw 3) ∧ Und P.a P.b P.c s (s * t - 1) 1 t (qv P.a P.b P.c s 1) (qm P.a P.b P.c s (s * t - 1) 1 t) (qv P.a P.b P.c (s * t - 1) t) := by
 obtain ⟨hre, hd, _, b1, b2, b3⟩ := h
 obtain ⟨hdn, hp⟩ := zFi hre
 have hdet : s * t - (s * t - 1) * 1 = 1 := by omega
 have hdet2 : (s * t - (s * t - 1) * 1) * (s * t - (s * t - 1) * 1) = 1 := by rw [hdet]; rfl
 have h5 := zJx (a := P.a) (b := P.b) (c := P.c) hdet2
 have hpos := qv_pos (x := s) (y := 1) hp hdn (by omega)
 have i64 : ∀ {x : Int}, x.natAbs ≤ 1000000000000000 → ab x < pw 3 := fun hx => zAq (by omega) (by omega)
 have qb : ∀ x y : Int, x.natAbs ≤ 17 → y.natAbs ≤ 17 → (qv P.a P.b P.c x y).natAbs ≤ 1000000000000000 := by
  intro x y hx hy
  have m1 := zBh b1 (zBh hx hx)
  have m2 := zBh b2 (zBh hx hy)
  have m3 := zBh b3 (zBh hy hy)
  unfold qv
  omega
 have qc : (qm P.a P.b P.c s (s * t - 1) 1 t).natAbs ≤ 1000000000000000 := by
  have u1 : (1 : Int).natAbs ≤ 17 := by decide
  have m1 := zBh b1 (zBh (show s.natAbs ≤ 17 by omega) t3)
  have m2 := zBh b3 (zBh u1 (show t.natAbs ≤ 17 by omega))
  have m3 := zBh (show s.natAbs ≤ 17 by omega) (show t.natAbs ≤ 17 by omega)
  have m4 := zBh t3 u1
  have m5 := zBh b2 (show (s * t + (s * t - 1) * 1).natAbs ≤ 17 * 17 + 17 * 17 by omega)
  unfold qm
  omega
 refine ⟨zEz ?_ hpos, ⟨i64 (qb _ _ (by omega) (by decide)), i64 qc, i64 (qb _ _ t3 (by omega))⟩, ⟨hdet, rfl, rfl, rfl⟩⟩
 show qm _ _ _ _ _ _ _ * qm _ _ _ _ _ _ _ - 4 * (qv _ _ _ _ _ * qv _ _ _ _ _) < 0
 rw [h5]
 exact hdn
theorem zAz {x : Int} (h : ab x < pw 3) : ab x < pw 5 := Int.lt_of_lt_of_le h (zAb (by omega))
theorem redT_same {a b c p q r s a' b' c' : Int} (h1 : ab a < pw 5 ∧ ab b < pw 5 ∧ ab c < pw 5) (h2 : ab a' < pw 5 ∧ ab b' < pw 5 ∧ ab c' < pw 5) (e1 : redE a b c = 0) (e2 : redE a' b' c' = 0) (hu : Und a b c p q r s a' b' c') : (redT a' b' c').fa = (redT a b c).fa ∧ (redT a' b' c').fb = (redT a b c).fb ∧ (redT a' b' c').fc = (redT a b c).fc := by
 obtain ⟨u1, r1⟩ := zF9 h1.1 h1.2.1 h1.2.2 e1
 exact zI7 h2.1 h2.2.1 h2.2.2 e2 (hu.back.mul u1) r1
theorem MOk.b5 {n : Int} {P : F3} (h : MOk n P) : ab P.a < pw 5 ∧ ab P.b < pw 5 ∧ ab P.c < pw 5 := ⟨zAz h.2.2.1.1, zAz h.2.2.1.2.1, zAz h.2.2.1.2.2⟩
theorem same_true {a b c x y z : Int} (h1 : redE a b c = 0) (h2 : redE x y z = 0) : zDb a b c x y z = eqR (redT a b c) (redT x y z) := by
 unfold zDb
 rw [decide_eq_true h1, decide_eq_true h2, Bool.true_and, Bool.true_and]
theorem zL5 {a b c x y z : Int} (h1 : ab a < pw 5 ∧ ab b < pw 5 ∧ ab c < pw 5) (h2 : ab x < pw 5 ∧ ab y < pw 5 ∧ ab z < pw 5) (hs : zDb a b c x y z = true) : Und a b c (smA (redT a b c) (redT x y z)) (smB (redT a b c) (redT x y z)) (smC (redT a b c) (redT x y z)) (smD (redT a b c) (redT x y z)) x y z := by
 unfold zDb eqR eqF at hs
 simp only [Bool.and_eq_true, decide_eq_true_eq] at hs
 obtain ⟨e1, e2, q1, q2, q3⟩ := hs
 have u1 := (zF9 h1.1 h1.2.1 h1.2.2 e1).1
 have u2 := (zF9 h2.1 h2.2.1 h2.2.2 e2).1
 rw [q1, q2, q3] at u1
 exact u1.mul u2.back
theorem zMg {a b c p q r s x y z : Int} (h : Und a b c p q r s x y z) (hd : b * b - 4 * (a * c) < 0) (h1 : ab a < pw 3 ∧ ab b < pw 3 ∧ ab c < pw 3) (h2 : ab x < pw 3 ∧ ab y < pw 3 ∧ ab z < pw 3) : ab p < pw 10 ∧ ab q < pw 10 ∧ ab r < pw 10 ∧ ab s < pw 10 := by
 have h4 : ab (4 : Int) < pw 3 := zAq (by decide) (by decide)
 obtain ⟨g1, g2, g3, g4⟩ := h.bds hd
 have up : ∀ {x y z : Int}, x * x ≤ 4 * (y * z) → ab y < pw 3 → ab z < pw 3 → ab x < pw 10 := fun {x y z} hx hy hz => Int.lt_of_le_of_lt (zJm hx) (Int.lt_of_lt_of_le (zCd h4 (zCd hy hz)) (zAb (by omega)))
 exact ⟨up g1 h1.2.2 h2.1, up g2 h1.2.2 h2.2.2, up g3 h1.1 h2.1, up g4 h1.1 h2.2.2⟩
set_option maxRecDepth 100000 in
set_option maxHeartbeats 4000000 in
theorem zMm (w : World) (D i0 i1 i2 i3 m0 m1 m2 m3 : Int) (hD : 0 ≤ D ∧ D ≤ 65535) (hi0 : 0 ≤ i0 ∧ i0 ≤ 65535) (hi1 : 0 ≤ i1 ∧ i1 ≤ 65535) (hi2 : 0 ≤ i2 ∧ i2 ≤ 65535) (hi3 : 0 ≤ i3 ∧ i3 ≤ 65535) (hm0 : 0 ≤ m0 ∧ m0 ≤ 255) (hm1 : 0 ≤ m1 ∧ m1 ≤ 255) (hm2 : 0 ≤ m2 ∧ m2 ≤ 255) (hm3 : 0 ≤ m3 ∧ m3 ≤ 255) (Dq i0q i1q i2q i3q m0q m1q m2q m3q : Int) (hqD : 0 ≤ Dq ∧ Dq ≤ 65535) (hqi0 : 0 ≤ i0q ∧ i0q ≤ 65535) (hqi1 : 0 ≤ i1q ∧ i1q ≤ 65535) (hqi2 : 0 ≤ i2q ∧ i2q ≤ 65535) (hqi3 : 0 ≤ i3q ∧ i3q ≤ 65535) (hqm0 : 0 ≤ m0q ∧ m0q ≤ 255) (hqm1 : 0 ≤ m1q ∧ m1q ≤ 255) (hqm2 : 0 ≤ m2q ∧ m2q ≤ 255) (hqm3 : 0 ≤ m3q ∧ m3q ≤ 255) (z : Int) (hz : 0 ≤ z ∧ z ≤ 255) {v v' : Value} (h : (Fq.st [.v (.int .u16 D), .v (.int .u16 i0), .v (.int .u16 i1), .v (.int .u16 i2), .v (.int .u16 i3), .v (.int .u8 m0), .v (.int .u8 m1), .v (.int .u8 m2), .v (.int .u8 m3)]).P v w) (h' : (Fq.st [.v (.int .u16 Dq), .v (.int .u16 i0q), .v (.int .u16 i1q), .v (.int .u16 i2q), .v (.int .u16 i3q), .v (.int .u8 m0q), .v (.int .u8 m1q), .v (.int .u8 m2q), .v (.int .u8 m3q)]).P v' w) :
  Calls Tryz.prog 5 #[v, v', .int .u8 z] w fun e w' => ∃ v', e = .returned v' ∧ Below w.heap.size w w' ∧ v' = .bool true := by
 obtain ⟨n, en⟩ : ∃ x, x = zBt D := ⟨_, rfl⟩
 have hszn := zHj D
 rw [← en] at hszn
 have En := hidd en.symm
 have Zn := hidd hszn
 have HDn := hidd hD
 clear en hszn hD
 obtain ⟨P, eP⟩ : ∃ x, x = zEw n i0 m0 := ⟨_, rfl⟩
 have hokP := zK6 (i := i0) (m := m0) Zn.out.1 Zn.out.2.1 Zn.out.2.2
 rw [← eP] at hokP
 have EP := hidd eP.symm
 have OKP := hidd hokP
 have BP := hidd hokP.2.2.1
 have IP := hidd hi0
 have MP := hidd hm0
 clear eP hokP hi0 hm0
 obtain ⟨n2, en2⟩ : ∃ x, x = zBt Dq := ⟨_, rfl⟩
 have hszn2 := zHj Dq
 rw [← en2] at hszn2
 have En2 := hidd en2.symm
 have Zn2 := hidd hszn2
 have HDn2 := hidd hqD
 clear en2 hszn2 hqD
 obtain ⟨Q, eQ⟩ : ∃ x, x = zEw n2 i0q m0q := ⟨_, rfl⟩
 have hokQ := zK6 (i := i0q) (m := m0q) Zn2.out.1 Zn2.out.2.1 Zn2.out.2.2
 rw [← eQ] at hokQ
 have EQ := hidd eQ.symm
 have OKQ := hidd hokQ
 have BQ := hidd hokQ.2.2.1
 have IQ := hidd hqi0
 have MQ := hidd hqm0
 clear eQ hokQ hqi0 hqm0
 obtain ⟨s, es⟩ : ∃ x, x = z % 8 - 3 := ⟨_, rfl⟩
 obtain ⟨t, et⟩ : ∃ x, x = z / 8 % 8 - 4 := ⟨_, rfl⟩
 have htb := zJg es et
 have Es := hidd es
 have Et := hidd et
 have HZ := hidd hz
 have HTB := hidd htb
 have Bs : Hid (ab s < pw 3) := zE1 (by omega)
 have Bt : Hid (ab t < pw 3) := zE1 (by omega)
 have Bu : Hid (ab (s * t - 1) < pw 3) := zE1 (by omega)
 clear es et hz htb
 obtain ⟨G1, e1⟩ : ∃ x, x = qv P.a P.b P.c s 1 := ⟨_, rfl⟩
 obtain ⟨G2, e2⟩ : ∃ x, x = qm P.a P.b P.c s (s * t - 1) 1 t := ⟨_, rfl⟩
 obtain ⟨G3, e3⟩ : ∃ x, x = qv P.a P.b P.c (s * t - 1) t := ⟨_, rfl⟩
 have hg := turned_ok OKP.out Zn.out.1 HTB.out.1 HTB.out.2.1 HTB.out.2.2
 rw [← e1, ← e2, ← e3] at hg
 have EG1 := hidd e1
 have EG2 := hidd e2
 have EG3 := hidd e3
 have HG := hidd hg
 have BG := hidd hg.2.1
 clear e1 e2 e3 hg
 have hM1 : zDb P.a P.b P.c G1 G2 G3 = true := by rw [same_true OKP.out.1 HG.out.1]; have hh := redT_same OKP.out.b5 ⟨zAz BG.out.1, zAz BG.out.2.1, zAz BG.out.2.2⟩ OKP.out.1 HG.out.1 HG.out.2.2; unfold eqR; rw [hh.1, hh.2.1, hh.2.2]; exact zG0 _ _ _
 have M1 := hidd hM1
 clear hM1
 obtain ⟨K1, e1⟩ : ∃ x, x = smA (redT P.a P.b P.c) (redT G1 G2 G3) := ⟨_, rfl⟩
 obtain ⟨K2, e2⟩ : ∃ x, x = smB (redT P.a P.b P.c) (redT G1 G2 G3) := ⟨_, rfl⟩
 obtain ⟨K3, e3⟩ : ∃ x, x = smC (redT P.a P.b P.c) (redT G1 G2 G3) := ⟨_, rfl⟩
 obtain ⟨K4, e4⟩ : ∃ x, x = smD (redT P.a P.b P.c) (redT G1 G2 G3) := ⟨_, rfl⟩
 have hu := zL5 OKP.out.b5 ⟨zAz BG.out.1, zAz BG.out.2.1, zAz BG.out.2.2⟩ M1.out
 rw [← e1, ← e2, ← e3, ← e4] at hu
 have hks := zMg hu (by rw [OKP.out.2.1]; have := Zn.out; omega) OKP.out.2.2.1 BG.out
 have UK := hidd hu
 have BK := hidd hks
 have EK1 := hidd e1
 have EK2 := hidd e2
 have EK3 := hidd e3
 have EK4 := hidd e4
 clear e1 e2 e3 e4 hu hks
 obtain ⟨q, hq⟩ : ∃ q, q = -1 - z * 2 := ⟨_, rfl⟩
 have hz9 := HZ.out
 have W0 : Hid (IntKind.i64.wrap z = z) := IntWalk.i64_in _ (by omega)
 have W1 : Hid (IntKind.i64.wrap (z * 2) = z * 2) := IntWalk.i64_in _ (by omega)
 have W2 : Hid (IntKind.i64.wrap (-1 - z * 2) = q) := by show _ = _; rw [← hq]; exact IntWalk.i64_in _ (by omega)
 have RQ : Hid (-9223372036854775808 ≤ q ∧ q ≤ 9223372036854775807) := by show _ ∧ _; omega
 have Bq : Hid (ab q < pw 3) := zAq RQ.out.1 RQ.out.2
 have M3 : Hid (zDb 1 1 q 1 1 q = false) := by show _ = _; unfold zDb; rw [decide_eq_false (fun e => by have h9 := (zFi e).1; omega)]; rfl
 clear hq hz9
 obtain ⟨_, rfl, hf0⟩ := h
 have hF0 := hf0
 obtain ⟨_, rfl, _, _, rfl, _, _, rfl, _, _, rfl, _, _, rfl, _, _, rfl, _, _, rfl, _, _, rfl, _, _, rfl, _, rfl⟩ := hf0
 obtain ⟨_, rfl, hf1⟩ := h'
 have hF1 := hf1
 obtain ⟨_, rfl, _, _, rfl, _, _, rfl, _, _, rfl, _, _, rfl, _, _, rfl, _, _, rfl, _, _, rfl, _, _, rfl, _, rfl⟩ := hf1
 obtain ⟨w1, b1, hw1, hb1, hs1, E⟩ := gS w 57 hF0
 obtain ⟨w2, b2, hw2, hb2, hs2, E⟩ := fS E hs1 57 hF1
 go_enter Tryz.func5, Tryz.ntmps5
 go_upto_region 1 with (fail)
 rw [← hw1]
 rw [← hw2]
 rw [← hb2]
 rw [← hb1]
 clear hw1 hw2 hb1 hb2 hs2 hs1
 refine rg [yT, yT] N2 [] E (fun hp => ⟨?_, ?_, tv⟩) ?_
 ·exact q_call0 hp fo tv (zM1) (fun w => zNa w)
 ·exact zAi hp fo tv (sqi 0)
 intro L vs w3 nb hL hC hn E3
 have e0 := wXi hC 0
 have e1 := wXi hC 1
 have E := E3; try simp only [LM, zAc] at E
 rw [zAe hL]
 simp only [SP, Nat.zero_add, Nat.reduceAdd]
 rw [e0, e1]
 clear e0 e1 hC hn E3 hL vs L nb
 go_upto_region 2 with (fail)
 refine rg [yT, yF] N2 [] E (fun hp => ⟨?_, ?_, tv⟩) ?_
 ·exact zAa hp fo tv (sqo 7)
 ·exact zAf (F := fun v _ => v = .bool true) hp fo tv (sqi 0) (fun ρ w _ h => ⟨.bool false, by simp [execOp, go_sem, h], rfl⟩)
 intro L vs w4 nb hL hC hn E4
 have e0 := wXi hC 0
 have e1 := wXi hC 1
 have E := E4; try simp only [LM, zAc] at E
 rw [zAe hL]
 simp only [SP, Nat.zero_add, Nat.reduceAdd]
 rw [e0, e1]
 clear e0 e1 hC hn E4 hL vs L nb
 go_upto_region 4 with (fail)
 refine rg [Fq.st [.v (.int .u16 D), .v (.int .u16 i0), .v (.int .u16 i1), .v (.int .u16 i2), .v (.int .u16 i3), .v (.int .u8 m0), .v (.int .u8 m1), .v (.int .u8 m2), .v (.int .u8 m3)], Fq.st [.n P.a, .n P.b, .n P.c], Fq.st [.v (.int .u16 Dq), .v (.int .u16 i0q), .v (.int .u16 i1q), .v (.int .u16 i2q), .v (.int .u16 i3q), .v (.int .u8 m0q), .v (.int .u8 m1q), .v (.int .u8 m2q), .v (.int .u8 m3q)], Fq.st [.n Q.a, .n Q.b, .n Q.c], Fq.any, Fq.any, Fq.any, Fq.any] N2 [⟨4, 6, 6, Fq.st [.n 0, .n 0, .n 0], Fq.st [.n P.a, .n P.b, .n P.c], none⟩, ⟨5, 7, 6, Fq.st [.n 0, .n 0, .n 0], Fq.st [.n Q.a, .n Q.b, .n Q.c], none⟩] E (fun hp => ⟨?_, ?_, ?_, ?_, ?_, ?_, ?_, ?_, tv⟩) ?_
 ·exact lS 0 9 hp (mq 1 rfl) zGb (sqo 3)
 ·exact zAs (F := (Fq.st [.v (.int .u16 D), .v (.int .u16 i0), .v (.int .u16 i1), .v (.int .u16 i2), .v (.int .u16 i3), .v (.int .u8 m0), .v (.int .u8 m1), .v (.int .u8 m2), .v (.int .u8 m3)]).P) (G := (Fq.is (.int .i64 0)).P) hp fo tv (zJ1) (sqi 0) (zAj (fun _ => rfl)) (fun v v' w h h' => (by subst h'; exact zKn h HDn.out IP.out MP.out En.out EP.out))
 ·exact lS 0 9 hp (mq 0 rfl) zGb (sqo 4)
 ·exact zAs (F := (Fq.st [.v (.int .u16 Dq), .v (.int .u16 i0q), .v (.int .u16 i1q), .v (.int .u16 i2q), .v (.int .u16 i3q), .v (.int .u8 m0q), .v (.int .u8 m1q), .v (.int .u8 m2q), .v (.int .u8 m3q)]).P) (G := (Fq.is (.int .i64 0)).P) hp fo tv (zJ1) (sqi 2) (zAj (fun _ => rfl)) (fun v v' w h h' => (by subst h'; exact zKn h HDn2.out IQ.out MQ.out En2.out EQ.out))
 ·exact aS hp (mq 0 rfl) zA3 zBo
 ·exact aS hp (mq 1 rfl) zA3 zBo
 ·exact sS 1 hp (mq 0 rfl) zA2
 ·exact sS 3 hp (mq 1 rfl) zA2
 intro L vs w5 nb hL hC hn E5
 have e4 : vs 4 = .pointer (some ⟨nb 4, 0, none⟩) := hn _ (mq 0 rfl)
 have e5 : vs 5 = .pointer (some ⟨nb 5, 0, none⟩) := hn _ (mq 1 rfl)
 have E := E5; try simp only [LM, zAc] at E
 rw [zAe hL]
 simp only [SP, Nat.zero_add, Nat.reduceAdd]
 rw [e4, e5]
 generalize nb 4 = b5_4 at E ⊢
 generalize nb 5 = b5_5 at E ⊢
 generalize vs 0 = u5_0
 generalize vs 1 = u5_1
 generalize vs 2 = u5_2
 generalize vs 3 = u5_3
 clear e4 e5 hC hn E5 hL vs L nb
 go_upto_region 5 with (fail)
 refine rg [Fq.st [.n P.a, .n P.b, .n P.c], Fq.is (.int .u8 z), Fq.st [.n s, .n (s * t - 1), .n 1, .n t], Fq.st [.n G1, .n G2, .n G3], Fq.any, Fq.any] N4 [⟨4, 5, 6, Fq.st [.n 0, .n 0, .n 0], Fq.st [.n G1, .n G2, .n G3], none⟩] E (fun hp => ⟨?_, ?_, ?_, ?_, ?_, ?_, tv⟩) ?_
 ·exact lS 0 6 hp (mq 0 rfl) zAm (sqo 8)
 ·exact zAa hp fo tv (sqo 2)
 ·exact wXa (Fq.is (.int .u8 z)) hp zJ5 (sqi 1) fun v w h => (by subst h; exact exQTurn HZ.out Es.out Et.out)
 ·exact wXb (Fq.st [.n P.a, .n P.b, .n P.c]) (Fq.st [.n s, .n (s * t - 1), .n 1, .n t]) hp zFq (sqi 0) (sqi 2) fun v v' w h h' => (by have hh := zFu h h' (Int.lt_of_lt_of_le BP.out.1 (zAb (by omega))) (Int.lt_of_lt_of_le BP.out.2.1 (zAb (by omega))) (Int.lt_of_lt_of_le BP.out.2.2 (zAb (by omega))) (Int.lt_of_lt_of_le Bs.out (zAb (by omega))) (Int.lt_of_lt_of_le Bu.out (zAb (by omega))) (Int.lt_of_lt_of_le (zAq (by decide) (by decide)) (zAb (by omega))) (Int.lt_of_lt_of_le Bt.out (zAb (by omega))); rw [← EG1.out, ← EG2.out, ← EG3.out] at hh; exact hh)
 ·exact aS hp (mq 0 rfl) zA3 zBo
 ·exact sS 3 hp (mq 0 rfl) zA2
 intro L vs w6 nb hL hC hn E6
 have e1 := wXi hC 1
 have e4 : vs 4 = .pointer (some ⟨nb 4, 0, none⟩) := hn _ (mq 0 rfl)
 have E := E6; try simp only [LM, zAc] at E
 rw [zAe hL]
 simp only [SP, Nat.zero_add, Nat.reduceAdd]
 rw [e1, e4]
 generalize nb 4 = b6_4 at E ⊢
 generalize vs 0 = u6_0
 generalize vs 2 = u6_2
 generalize vs 3 = u6_3
 clear e1 e4 hC hn E6 hL vs L nb
 go_upto_region 6 with (fail)
 refine rg [Fq.st [.n P.a, .n P.b, .n P.c], Fq.st [.n G1, .n G2, .n G3], Fq.tup2 (Fq.st [.n K1, .n K2, .n K3, .n K4]) (yT), Fq.tup2 (Fq.st [.n K1, .n K2, .n K3, .n K4]) (yT), Fq.st [.n K1, .n K2, .n K3, .n K4], yT, Fq.any, Fq.any, yT] N5 [⟨6, 7, 8, Fq.st [.n 0, .n 0, .n 0, .n 0], Fq.st [.n K1, .n K2, .n K3, .n K4], none⟩] E (fun hp => ⟨?_, ?_, ?_, ?_, ?_, ?_, ?_, ?_, ?_, tv⟩) ?_
 ·exact lS 0 6 hp (mq 1 rfl) zAm (sqo 8)
 ·exact lS 0 6 hp (mq 0 rfl) zAm (sqo 10)
 ·exact wXb (Fq.st [.n P.a, .n P.b, .n P.c]) (Fq.st [.n G1, .n G2, .n G3]) hp zFs (sqi 0) (sqi 1) fun v v' w h h' => (by have hh := zKl h h' (zAz BP.out.1) (zAz BP.out.2.1) (zAz BP.out.2.2) (zAz BG.out.1) (zAz BG.out.2.1) (zAz BG.out.2.2) M1.out; rw [← EK1.out, ← EK2.out, ← EK3.out, ← EK4.out] at hh; exact hh)
 ·exact zAa hp fo tv (sqi 2)
 ·exact zB5 hp fo tv (sqi 3) (fun v1 v2 w h1 h2 => ⟨_, rfl, h1⟩)
 ·exact zB5 hp fo tv (sqi 3) (fun v1 v2 w h1 h2 => ⟨_, rfl, h2⟩)
 ·exact aS hp (mq 0 rfl) zBd zCb
 ·exact sS 4 hp (mq 0 rfl) zA8
 ·exact zAi hp fo tv (sqi 5)
 intro L vs w7 nb hL hC hn E7
 have e5 := wXi hC 5
 have e8 := wXi hC 8
 have e6 : vs 6 = .pointer (some ⟨nb 6, 0, none⟩) := hn _ (mq 0 rfl)
 have E := E7; try simp only [LM, zAc] at E
 rw [zAe hL]
 simp only [SP, Nat.zero_add, Nat.reduceAdd]
 rw [e5, e8, e6]
 generalize nb 6 = b7_6 at E ⊢
 generalize vs 0 = u7_0
 generalize vs 1 = u7_1
 generalize vs 2 = u7_2
 generalize vs 3 = u7_3
 generalize vs 4 = u7_4
 clear e5 e8 e6 hC hn E7 hL vs L nb
 go_upto_region 7 with (fail)
 cases ha : zDb P.a P.b P.c Q.a Q.b Q.c
 case false =>
  have M2 := hidd ha
  clear ha
  refine rg [Fq.st [.n P.a, .n P.b, .n P.c], Fq.st [.n Q.a, .n Q.b, .n Q.c], Fq.tup2 (Fq.st [.n 0, .n 0, .n 0, .n 0]) (yF), Fq.tup2 (Fq.st [.n 0, .n 0, .n 0, .n 0]) (yF), Fq.st [.n 0, .n 0, .n 0, .n 0], yF, Fq.any, Fq.any, yF] N6 [⟨6, 7, 8, Fq.st [.n 0, .n 0, .n 0, .n 0], Fq.st [.n 0, .n 0, .n 0, .n 0], none⟩] E (fun hp => ⟨?_, ?_, ?_, ?_, ?_, ?_, ?_, ?_, ?_, tv⟩) ?_
  ·exact lS 0 6 hp (mq 2 rfl) zAm (sqo 8)
  ·exact lS 0 6 hp (mq 3 rfl) zAm (sqo 9)
  ·exact wXb (Fq.st [.n P.a, .n P.b, .n P.c]) (Fq.st [.n Q.a, .n Q.b, .n Q.c]) hp zFs (sqi 0) (sqi 1) fun v v' w h h' => zIa h h' (zAz BP.out.1) (zAz BP.out.2.1) (zAz BP.out.2.2) (zAz BQ.out.1) (zAz BQ.out.2.1) (zAz BQ.out.2.2) M2.out
  ·exact zAa hp fo tv (sqi 2)
  ·exact zB5 hp fo tv (sqi 3) (fun v1 v2 w h1 h2 => ⟨_, rfl, h1⟩)
  ·exact zB5 hp fo tv (sqi 3) (fun v1 v2 w h1 h2 => ⟨_, rfl, h2⟩)
  ·exact aS hp (mq 0 rfl) zBd zCb
  ·exact sS 4 hp (mq 0 rfl) zA8
  ·exact zAi hp fo tv (sqi 5)
  intro L vs w8 nb hL hC hn E8
  have e5 := wXi hC 5
  have e8 := wXi hC 8
  have e6 : vs 6 = .pointer (some ⟨nb 6, 0, none⟩) := hn _ (mq 0 rfl)
  have E := E8; try simp only [LM, zAc] at E
  rw [zAe hL]
  simp only [SP, Nat.zero_add, Nat.reduceAdd]
  rw [e5, e8, e6]
  generalize nb 6 = b8_6 at E ⊢
  generalize vs 0 = u8_0
  generalize vs 1 = u8_1
  generalize vs 2 = u8_2
  generalize vs 3 = u8_3
  generalize vs 4 = u8_4
  clear e5 e8 e6 hC hn E8 hL vs L nb
  go_upto_region 8 with (fail)
  have B9 : Hid (ab ((1)) < pw 3) := zBj (by decide)
  refine rg [yT, yF, yF, Fq.st [.n K1, .n K2, .n K3, .n K4], Fq.num 1, Fq.num (1), yT, yF, yF, yF, Fq.st [.n P.a, .n P.b, .n P.c], Fq.st [.n K1, .n K2, .n K3, .n K4], Fq.st [.n G1, .n G2, .n G3], Fq.st [.n G1, .n G2, .n G3], yT, yF, yF] N7 [] E (fun hp => ⟨?_, ?_, ?_, ?_, ?_, ?_, ?_, ?_, ?_, ?_, ?_, ?_, ?_, ?_, ?_, ?_, ?_, tv⟩) ?_
  ·exact zAa hp fo tv (sqo 12)
  ·exact zAf (F := fun v _ => v = .bool true) hp fo tv (sqi 0) (fun ρ w _ h => ⟨.bool false, by simp [execOp, go_sem, h], rfl⟩)
  ·exact zAa hp fo tv (sqi 1)
  ·exact lG 0 8 hp gqi (mq 1 rfl) zBw (sqo 11) fun v w h => h
  ·exact zAn (F := (Fq.st [.n K1, .n K2, .n K3, .n K4]).P) hp fo gqi (zGx) (sqi 3) (fun v w h => (by have hh := zG2 h (Int.lt_of_lt_of_le BK.out.1 (zAb (by omega))) (Int.lt_of_lt_of_le BK.out.2.1 (zAb (by omega))) (Int.lt_of_lt_of_le BK.out.2.2.1 (zAb (by omega))) (Int.lt_of_lt_of_le BK.out.2.2.2 (zAb (by omega))); rw [UK.out.d] at hh; exact hh))
  ·exact zAn (F := (Fq.is (.int .i64 1)).P) hp fo gqi (zB4) (zAj (fun _ => rfl)) (fun v w h => (by subst h; exact rOfK w (1) (by omega) (by omega)))
  ·exact zAs (F := (Fq.num 1).P) (G := (Fq.num (1)).P) hp fo gqi (zBa) (sqi 4) (sqi 5) (fun v v' w h h' => zBc h h' (by decide))
  ·exact zAf (F := fun v _ => v = .bool true) hp fo gqi (sqi 6) (fun ρ w _ h => ⟨.bool false, by simp [execOp, go_sem, h], rfl⟩)
  ·exact zAg (F := fun v _ => v = .bool false) (G := fun v _ => v = .bool false) hp fo tv (sqi 2) (sqi 7) (fun ρ w hc h h' => ⟨_, by simp [execOp, go_sem, h, h'], rfl⟩)
  ·exact zAa hp fo tv (sqi 8)
  ·exact lG 0 6 hp gqi (mq 3 rfl) zAm (sqo 8) fun v w h => h
  ·exact lG 0 8 hp gqi (mq 1 rfl) zBw (sqo 11) fun v w h => h
  ·exact zAs (F := (Fq.st [.n P.a, .n P.b, .n P.c]).P) (G := (Fq.st [.n K1, .n K2, .n K3, .n K4]).P) hp fo gqi (zFq) (sqi 10) (sqi 11) (fun v v' w h h' => (by have hh := zFu h h' (Int.lt_of_lt_of_le BP.out.1 (zAb (by omega))) (Int.lt_of_lt_of_le BP.out.2.1 (zAb (by omega))) (Int.lt_of_lt_of_le BP.out.2.2 (zAb (by omega))) (Int.lt_of_lt_of_le BK.out.1 (zAb (by omega))) (Int.lt_of_lt_of_le BK.out.2.1 (zAb (by omega))) (Int.lt_of_lt_of_le BK.out.2.2.1 (zAb (by omega))) (Int.lt_of_lt_of_le BK.out.2.2.2 (zAb (by omega))); rw [← UK.out.ea, ← UK.out.eb, ← UK.out.ec] at hh; exact hh))
  ·exact lG 0 6 hp gqi (mq 2 rfl) zAm (sqo 10) fun v w h => h
  ·exact zAs (F := (Fq.st [.n G1, .n G2, .n G3]).P) (G := (Fq.st [.n G1, .n G2, .n G3]).P) hp fo gqi (zEq) (sqi 12) (sqi 13) (fun v v' w h h' => zEt h h' (zG0 ..))
  ·exact zAf (F := fun v _ => v = .bool true) hp fo gqi (sqi 14) (fun ρ w _ h => ⟨.bool false, by simp [execOp, go_sem, h], rfl⟩)
  ·exact zAg (F := fun v _ => v = .bool false) (G := fun v _ => v = .bool false) hp fo tv (sqi 9) (sqi 15) (fun ρ w hc h h' => ⟨_, by simp [execOp, go_sem, h, h'], rfl⟩)
  intro L vs w10 nb hL hC hn E10
  have e0 := wXi hC 0
  have e1 := wXi hC 1
  have e2 := wXi hC 2
  have e6 := wXi hC 6
  have e7 := wXi hC 7
  have e8 := wXi hC 8
  have e9 := wXi hC 9
  have e14 := wXi hC 14
  have e15 := wXi hC 15
  have e16 := wXi hC 16
  have E := E10; try simp only [LM, zAc] at E
  rw [zAe hL]
  simp only [SP, Nat.zero_add, Nat.reduceAdd]
  rw [e0, e1, e2, e6, e7, e8, e9, e14, e15, e16]
  generalize vs 3 = u10_3
  generalize vs 4 = u10_4
  generalize vs 5 = u10_5
  generalize vs 10 = u10_10
  generalize vs 11 = u10_11
  generalize vs 12 = u10_12
  generalize vs 13 = u10_13
  clear e0 e1 e2 e6 e7 e8 e9 e14 e15 e16 hC hn E10 hL vs L nb
  go_upto_region 10 with (fail)
  refine rg [yF, yF, Fq.is (undef), Fq.is (undef), Fq.is (undef), Fq.is (undef), Fq.is (undef), Fq.is (undef), Fq.is (undef), Fq.is (undef), Fq.is (undef), Fq.is (undef), Fq.is (undef), Fq.is (undef), Fq.is (undef), yF, yF, yF, yF, Fq.is (undef), Fq.is (undef), Fq.is (undef), Fq.is (undef), Fq.is (undef), yF, yF] N7 [] E (fun hp => ⟨?_, ?_, ?_, ?_, ?_, ?_, ?_, ?_, ?_, ?_, ?_, ?_, ?_, ?_, ?_, ?_, ?_, ?_, ?_, ?_, ?_, ?_, ?_, ?_, ?_, ?_, tv⟩) ?_
  ·exact zAa hp fo tv (sqo 14)
  ·exact zAa hp fo tv (sqi 0)
  ·exact zAh hp fo rfl gqi (fun _ => rfl)
  ·exact zAh hp fo rfl gqi (fun _ => rfl)
  ·exact zAh hp fo rfl gqi (fun _ => rfl)
  ·exact zAh hp fo rfl gqi (fun _ => rfl)
  ·exact zAh hp fo rfl gqi (fun _ => rfl)
  ·exact zAh hp fo rfl gqi (fun _ => rfl)
  ·exact zFg hp fo rfl rfl rfl (by simp) rfl (fun v w h => h) (fun _ => rfl)
  ·exact zFg hp fo rfl rfl rfl (by simp) rfl (fun v w h => h) (fun _ => rfl)
  ·exact zFg hp fo rfl rfl rfl (by simp) rfl (fun v w h => h) (fun _ => rfl)
  ·exact zFg hp fo rfl rfl rfl (by simp) rfl (fun v w h => h) (fun _ => rfl)
  ·exact zFg hp fo rfl rfl rfl (by simp) rfl (fun v w h => h) (fun _ => rfl)
  ·exact zFg hp fo rfl rfl rfl (by simp) rfl (fun v w h => h) (fun _ => rfl)
  ·exact zAh hp fo rfl gqi (fun _ => rfl)
  ·exact zAg (F := fun v _ => v = .bool false) (G := fun v _ => v = .bool false) hp fo tv (sqi 1) (zAj (fun _ => rfl)) (fun ρ w hc h h' => ⟨_, by simp [execOp, go_sem, h, h'], rfl⟩)
  ·exact zAa hp fo tv (sqi 15)
  ·exact zAa hp fo gqi (sqo 14)
  ·exact zAa hp fo gqi (sqi 17)
  ·exact zAh hp fo rfl gqi (fun _ => rfl)
  ·exact zAh hp fo rfl gqi (fun _ => rfl)
  ·exact zAh hp fo rfl gqi (fun _ => rfl)
  ·exact zAh hp fo rfl gqi (fun _ => rfl)
  ·exact zAh hp fo rfl gqi (fun _ => rfl)
  ·exact zAg (F := fun v _ => v = .bool false) (G := fun v _ => v = .bool false) hp fo gqi (sqi 18) (zAj (fun _ => rfl)) (fun ρ w hc h h' => ⟨_, by simp [execOp, go_sem, h, h'], rfl⟩)
  ·exact zAg (F := fun v _ => v = .bool false) (G := fun v _ => v = .bool false) hp fo tv (sqi 16) (sqi 24) (fun ρ w hc h h' => ⟨_, by simp [execOp, go_sem, h, h'], rfl⟩)
  intro L vs w11 nb hL hC hn E11
  have e0 := wXi hC 0
  have e1 := wXi hC 1
  have e2 := wXi hC 2
  have e3 := wXi hC 3
  have e4 := wXi hC 4
  have e5 := wXi hC 5
  have e6 := wXi hC 6
  have e7 := wXi hC 7
  have e8 := wXi hC 8
  have e9 := wXi hC 9
  have e10 := wXi hC 10
  have e11 := wXi hC 11
  have e12 := wXi hC 12
  have e13 := wXi hC 13
  have e14 := wXi hC 14
  have e15 := wXi hC 15
  have e16 := wXi hC 16
  have e17 := wXi hC 17
  have e18 := wXi hC 18
  have e19 := wXi hC 19
  have e20 := wXi hC 20
  have e21 := wXi hC 21
  have e22 := wXi hC 22
  have e23 := wXi hC 23
  have e24 := wXi hC 24
  have e25 := wXi hC 25
  have E := E11; try simp only [LM, zAc] at E
  rw [zAe hL]
  simp only [SP, Nat.zero_add, Nat.reduceAdd]
  rw [e0, e1, e2, e3, e4, e5, e6, e7, e8, e9, e10, e11, e12, e13, e14, e15, e16, e17, e18, e19, e20, e21, e22, e23, e24, e25]
  clear e0 e1 e2 e3 e4 e5 e6 e7 e8 e9 e10 e11 e12 e13 e14 e15 e16 e17 e18 e19 e20 e21 e22 e23 e24 e25 hC hn E11 hL vs L nb
  go_upto_region 12 with (fail)
  refine rg [Fq.is (.int .u8 z), Fq.is (.int .i64 z), Fq.is (.int .i64 (z * 2)), Fq.is (.int .i64 q), Fq.st [.n 1, .n 1, .n q], Fq.any, Fq.any] N7 [⟨5, 6, 6, Fq.st [.n 0, .n 0, .n 0], Fq.st [.n 1, .n 1, .n q], none⟩] E (fun hp => ⟨?_, ?_, ?_, ?_, ?_, ?_, ?_, tv⟩) ?_
  ·exact zAa hp fo tv (sqo 2)
  ·exact zAf (F := fun v _ => v = .int .u8 z) hp fo tv (sqi 0) (fun ρ w hc h => ⟨.int .i64 z, by simp [execOp, go_sem, h, W0.out], rfl⟩)
  ·exact zAf (F := fun v _ => v = .int .i64 z) hp fo tv (sqi 1) (fun ρ w hc h => ⟨.int .i64 (z * 2), by simp [execOp, go_sem, h, hc, W1.out], rfl⟩)
  ·exact zAf (F := fun v _ => v = .int .i64 (z * 2)) hp fo tv (sqi 2) (fun ρ w hc h => ⟨.int .i64 q, by simp [execOp, go_sem, h, hc, W2.out], rfl⟩)
  ·exact zCf (F := (Fq.is (.int .i64 1)).P) (G := (Fq.is (.int .i64 1)).P) (F3 := (Fq.is (.int .i64 q)).P) hp fo tv (zC3) (zAj (fun _ => rfl)) (zAj (fun _ => rfl)) (sqi 3) (fun v v' u w h h' g => (by subst h h' g; exact zC5 (by decide) (by decide) RQ.out))
  ·exact aS hp (mq 0 rfl) zA3 zBo
  ·exact sS 4 hp (mq 0 rfl) zA2
  intro L vs w12 nb hL hC hn E12
  have e0 := wXi hC 0
  have e1 := wXi hC 1
  have e2 := wXi hC 2
  have e3 := wXi hC 3
  have e5 : vs 5 = .pointer (some ⟨nb 5, 0, none⟩) := hn _ (mq 0 rfl)
  have E := E12; try simp only [LM, zAc] at E
  rw [zAe hL]
  simp only [SP, Nat.zero_add, Nat.reduceAdd]
  rw [e0, e1, e2, e3, e5]
  generalize nb 5 = b12_5 at E ⊢
  generalize vs 4 = u12_4
  clear e0 e1 e2 e3 e5 hC hn E12 hL vs L nb
  go_upto_region 13 with (fail)
  refine rg [Fq.st [.n 1, .n 1, .n q], Fq.st [.n 1, .n 1, .n q], Fq.tup2 (Fq.st [.n 0, .n 0, .n 0, .n 0]) (yF), Fq.tup2 (Fq.st [.n 0, .n 0, .n 0, .n 0]) (yF), Fq.st [.n 0, .n 0, .n 0, .n 0], yF, Fq.any, Fq.any, yF] N8 [⟨6, 7, 8, Fq.st [.n 0, .n 0, .n 0, .n 0], Fq.st [.n 0, .n 0, .n 0, .n 0], none⟩] E (fun hp => ⟨?_, ?_, ?_, ?_, ?_, ?_, ?_, ?_, ?_, tv⟩) ?_
  ·exact lS 0 6 hp (mq 0 rfl) zAm (sqo 15)
  ·exact lS 0 6 hp (mq 0 rfl) zAm (sqo 15)
  ·exact wXb (Fq.st [.n 1, .n 1, .n q]) (Fq.st [.n 1, .n 1, .n q]) hp zFs (sqi 0) (sqi 1) fun v v' w h h' => zIa h h' (zAz (zAq (by decide) (by decide))) (zAz (zAq (by decide) (by decide))) (zAz Bq.out) (zAz (zAq (by decide) (by decide))) (zAz (zAq (by decide) (by decide))) (zAz Bq.out) M3.out
  ·exact zAa hp fo tv (sqi 2)
  ·exact zB5 hp fo tv (sqi 3) (fun v1 v2 w h1 h2 => ⟨_, rfl, h1⟩)
  ·exact zB5 hp fo tv (sqi 3) (fun v1 v2 w h1 h2 => ⟨_, rfl, h2⟩)
  ·exact aS hp (mq 0 rfl) zBd zCb
  ·exact sS 4 hp (mq 0 rfl) zA8
  ·exact zAi hp fo tv (sqi 5)
  intro L vs w13 nb hL hC hn E13
  have e5 := wXi hC 5
  have e8 := wXi hC 8
  have e6 : vs 6 = .pointer (some ⟨nb 6, 0, none⟩) := hn _ (mq 0 rfl)
  have E := E13; try simp only [LM, zAc] at E
  rw [zAe hL]
  simp only [SP, Nat.zero_add, Nat.reduceAdd]
  rw [e5, e8, e6]
  generalize nb 6 = b13_6 at E ⊢
  generalize vs 0 = u13_0
  generalize vs 1 = u13_1
  generalize vs 2 = u13_2
  generalize vs 3 = u13_3
  generalize vs 4 = u13_4
  clear e5 e8 e6 hC hn E13 hL vs L nb
  go_upto_region 14 with (fail)
  refine rg [yF, yF, Fq.st [.n 0, .n 0, .n 0, .n 0], Fq.st [.n 0, .n 0, .n 0, .n 0], yT, yT, yT, yF, yT, yT, yT, yT, yT, yT] N9 [] E (fun hp => ⟨?_, ?_, ?_, ?_, ?_, ?_, ?_, ?_, ?_, ?_, ?_, ?_, ?_, ?_, tv⟩) ?_
  ·exact zAa hp fo tv (sqo 14)
  ·exact zAa hp fo tv (sqi 0)
  ·exact lG 0 8 hp gqi (mq 2 rfl) zBw (sqo 13) fun v w h => h
  ·exact zF8 hp fo gqi (fun v w h => h)
  ·exact zAs (F := (Fq.st [.n 0, .n 0, .n 0, .n 0]).P) (G := (Fq.st [.n 0, .n 0, .n 0, .n 0]).P) hp fo gqi (zM2) (sqi 2) (sqi 3) (fun v v' w h h' => exSameMat h h' rfl)
  ·exact zAg (F := fun v _ => v = .bool false) (G := fun v _ => v = .bool true) hp fo tv (sqi 1) (sqi 4) (fun ρ w hc h h' => ⟨_, by simp [execOp, go_sem, h, h'], rfl⟩)
  ·exact zAa hp fo tv (sqi 5)
  ·exact zAa hp fo gqi (sqo 17)
  ·exact zAf (F := fun v _ => v = .bool false) hp fo gqi (sqi 7) (fun ρ w _ h => ⟨.bool true, by simp [execOp, go_sem, h], rfl⟩)
  ·exact zAg (F := fun v _ => v = .bool true) (G := fun v _ => v = .bool true) hp fo tv (sqi 6) (sqi 8) (fun ρ w hc h h' => ⟨_, by simp [execOp, go_sem, h, h'], rfl⟩)
  ·exact zAa hp fo tv (sqi 9)
  ·exact zAa hp fo gqi (sqo 7)
  ·exact zAg (F := fun v _ => v = .bool true) (G := fun v _ => v = .bool true) hp fo tv (sqi 10) (sqi 11) (fun ρ w hc h h' => ⟨_, by simp [execOp, go_sem, h, h'], rfl⟩)
  ·exact zAi hp fo tv (sqi 12)
  intro L vs w14 nb hL hC hn E14
  have e0 := wXi hC 0
  have e1 := wXi hC 1
  have e4 := wXi hC 4
  have e5 := wXi hC 5
  have e6 := wXi hC 6
  have e7 := wXi hC 7
  have e8 := wXi hC 8
  have e9 := wXi hC 9
  have e10 := wXi hC 10
  have e11 := wXi hC 11
  have e12 := wXi hC 12
  have e13 := wXi hC 13
  have E := E14; try simp only [LM, zAc] at E
  rw [zAe hL]
  simp only [SP, Nat.zero_add, Nat.reduceAdd]
  rw [e0, e1, e4, e5, e6, e7, e8, e9, e10, e11, e12, e13]
  generalize vs 2 = u14_2
  generalize vs 3 = u14_3
  clear e0 e1 e4 e5 e6 e7 e8 e9 e10 e11 e12 e13 hC hn E14 hL vs L nb
  clear EP OKP IP MP En Zn HDn EQ OKQ IQ MQ En2 Zn2 HDn2 Es Et HZ HTB EG1 EG2 EG3 HG M1 UK EK1 EK2 EK3 EK4 W0 W1 W2 RQ M3 M2
  clear B9 BP BQ Bs Bt Bu BG BK Bq
  go_wp2
  refine bodyPost_ret (v := .bool true) ?_ rfl ⟨_, rfl, E.below, rfl⟩
  simp [results, Tryz.results5, go_sem]
 case true =>
  have M2 := hidd ha
  clear ha
  obtain ⟨N1, e1⟩ : ∃ x, x = smA (redT P.a P.b P.c) (redT Q.a Q.b Q.c) := ⟨_, rfl⟩
  obtain ⟨N2, e2⟩ : ∃ x, x = smB (redT P.a P.b P.c) (redT Q.a Q.b Q.c) := ⟨_, rfl⟩
  obtain ⟨N3, e3⟩ : ∃ x, x = smC (redT P.a P.b P.c) (redT Q.a Q.b Q.c) := ⟨_, rfl⟩
  obtain ⟨N4, e4⟩ : ∃ x, x = smD (redT P.a P.b P.c) (redT Q.a Q.b Q.c) := ⟨_, rfl⟩
  have hu := zL5 OKP.out.b5 OKQ.out.b5 M2.out
  rw [← e1, ← e2, ← e3, ← e4] at hu
  have hks := zMg hu (by rw [OKP.out.2.1]; have := Zn.out; omega) OKP.out.2.2.1 OKQ.out.2.2.1
  have UN := hidd hu
  have BN := hidd hks
  have EN1 := hidd e1
  have EN2 := hidd e2
  have EN3 := hidd e3
  have EN4 := hidd e4
  clear e1 e2 e3 e4 hu hks
  have HNN : Hid (n = n2) := by have h1 := UN.out.disc; have h2 := OKP.out.2.1; have h3 := OKQ.out.2.1; show _ = _; omega
  refine rg [Fq.st [.n P.a, .n P.b, .n P.c], Fq.st [.n Q.a, .n Q.b, .n Q.c], Fq.tup2 (Fq.st [.n N1, .n N2, .n N3, .n N4]) (yT), Fq.tup2 (Fq.st [.n N1, .n N2, .n N3, .n N4]) (yT), Fq.st [.n N1, .n N2, .n N3, .n N4], yT, Fq.any, Fq.any, yT] N6 [⟨6, 7, 8, Fq.st [.n 0, .n 0, .n 0, .n 0], Fq.st [.n N1, .n N2, .n N3, .n N4], none⟩] E (fun hp => ⟨?_, ?_, ?_, ?_, ?_, ?_, ?_, ?_, ?_, tv⟩) ?_
  ·exact lS 0 6 hp (mq 2 rfl) zAm (sqo 8)
  ·exact lS 0 6 hp (mq 3 rfl) zAm (sqo 9)
  ·exact wXb (Fq.st [.n P.a, .n P.b, .n P.c]) (Fq.st [.n Q.a, .n Q.b, .n Q.c]) hp zFs (sqi 0) (sqi 1) fun v v' w h h' => (by have hh := zKl h h' (zAz BP.out.1) (zAz BP.out.2.1) (zAz BP.out.2.2) (zAz BQ.out.1) (zAz BQ.out.2.1) (zAz BQ.out.2.2) M2.out; rw [← EN1.out, ← EN2.out, ← EN3.out, ← EN4.out] at hh; exact hh)
  ·exact zAa hp fo tv (sqi 2)
  ·exact zB5 hp fo tv (sqi 3) (fun v1 v2 w h1 h2 => ⟨_, rfl, h1⟩)
  ·exact zB5 hp fo tv (sqi 3) (fun v1 v2 w h1 h2 => ⟨_, rfl, h2⟩)
  ·exact aS hp (mq 0 rfl) zBd zCb
  ·exact sS 4 hp (mq 0 rfl) zA8
  ·exact zAi hp fo tv (sqi 5)
  intro L vs w15 nb hL hC hn E15
  have e5 := wXi hC 5
  have e8 := wXi hC 8
  have e6 : vs 6 = .pointer (some ⟨nb 6, 0, none⟩) := hn _ (mq 0 rfl)
  have E := E15; try simp only [LM, zAc] at E
  rw [zAe hL]
  simp only [SP, Nat.zero_add, Nat.reduceAdd]
  rw [e5, e8, e6]
  generalize nb 6 = b15_6 at E ⊢
  generalize vs 0 = u15_0
  generalize vs 1 = u15_1
  generalize vs 2 = u15_2
  generalize vs 3 = u15_3
  generalize vs 4 = u15_4
  clear e5 e8 e6 hC hn E15 hL vs L nb
  go_upto_region 8 with (fail)
  have B16 : Hid (ab ((1)) < pw 3) := zBj (by decide)
  refine rg [yT, yF, yF, Fq.st [.n K1, .n K2, .n K3, .n K4], Fq.num 1, Fq.num (1), yT, yF, yF, yF, Fq.st [.n P.a, .n P.b, .n P.c], Fq.st [.n K1, .n K2, .n K3, .n K4], Fq.st [.n G1, .n G2, .n G3], Fq.st [.n G1, .n G2, .n G3], yT, yF, yF] N7 [] E (fun hp => ⟨?_, ?_, ?_, ?_, ?_, ?_, ?_, ?_, ?_, ?_, ?_, ?_, ?_, ?_, ?_, ?_, ?_, tv⟩) ?_
  ·exact zAa hp fo tv (sqo 12)
  ·exact zAf (F := fun v _ => v = .bool true) hp fo tv (sqi 0) (fun ρ w _ h => ⟨.bool false, by simp [execOp, go_sem, h], rfl⟩)
  ·exact zAa hp fo tv (sqi 1)
  ·exact lG 0 8 hp gqi (mq 1 rfl) zBw (sqo 11) fun v w h => h
  ·exact zAn (F := (Fq.st [.n K1, .n K2, .n K3, .n K4]).P) hp fo gqi (zGx) (sqi 3) (fun v w h => (by have hh := zG2 h (Int.lt_of_lt_of_le BK.out.1 (zAb (by omega))) (Int.lt_of_lt_of_le BK.out.2.1 (zAb (by omega))) (Int.lt_of_lt_of_le BK.out.2.2.1 (zAb (by omega))) (Int.lt_of_lt_of_le BK.out.2.2.2 (zAb (by omega))); rw [UK.out.d] at hh; exact hh))
  ·exact zAn (F := (Fq.is (.int .i64 1)).P) hp fo gqi (zB4) (zAj (fun _ => rfl)) (fun v w h => (by subst h; exact rOfK w (1) (by omega) (by omega)))
  ·exact zAs (F := (Fq.num 1).P) (G := (Fq.num (1)).P) hp fo gqi (zBa) (sqi 4) (sqi 5) (fun v v' w h h' => zBc h h' (by decide))
  ·exact zAf (F := fun v _ => v = .bool true) hp fo gqi (sqi 6) (fun ρ w _ h => ⟨.bool false, by simp [execOp, go_sem, h], rfl⟩)
  ·exact zAg (F := fun v _ => v = .bool false) (G := fun v _ => v = .bool false) hp fo tv (sqi 2) (sqi 7) (fun ρ w hc h h' => ⟨_, by simp [execOp, go_sem, h, h'], rfl⟩)
  ·exact zAa hp fo tv (sqi 8)
  ·exact lG 0 6 hp gqi (mq 3 rfl) zAm (sqo 8) fun v w h => h
  ·exact lG 0 8 hp gqi (mq 1 rfl) zBw (sqo 11) fun v w h => h
  ·exact zAs (F := (Fq.st [.n P.a, .n P.b, .n P.c]).P) (G := (Fq.st [.n K1, .n K2, .n K3, .n K4]).P) hp fo gqi (zFq) (sqi 10) (sqi 11) (fun v v' w h h' => (by have hh := zFu h h' (Int.lt_of_lt_of_le BP.out.1 (zAb (by omega))) (Int.lt_of_lt_of_le BP.out.2.1 (zAb (by omega))) (Int.lt_of_lt_of_le BP.out.2.2 (zAb (by omega))) (Int.lt_of_lt_of_le BK.out.1 (zAb (by omega))) (Int.lt_of_lt_of_le BK.out.2.1 (zAb (by omega))) (Int.lt_of_lt_of_le BK.out.2.2.1 (zAb (by omega))) (Int.lt_of_lt_of_le BK.out.2.2.2 (zAb (by omega))); rw [← UK.out.ea, ← UK.out.eb, ← UK.out.ec] at hh; exact hh))
  ·exact lG 0 6 hp gqi (mq 2 rfl) zAm (sqo 10) fun v w h => h
  ·exact zAs (F := (Fq.st [.n G1, .n G2, .n G3]).P) (G := (Fq.st [.n G1, .n G2, .n G3]).P) hp fo gqi (zEq) (sqi 12) (sqi 13) (fun v v' w h h' => zEt h h' (zG0 ..))
  ·exact zAf (F := fun v _ => v = .bool true) hp fo gqi (sqi 14) (fun ρ w _ h => ⟨.bool false, by simp [execOp, go_sem, h], rfl⟩)
  ·exact zAg (F := fun v _ => v = .bool false) (G := fun v _ => v = .bool false) hp fo tv (sqi 9) (sqi 15) (fun ρ w hc h h' => ⟨_, by simp [execOp, go_sem, h, h'], rfl⟩)
  intro L vs w17 nb hL hC hn E17
  have e0 := wXi hC 0
  have e1 := wXi hC 1
  have e2 := wXi hC 2
  have e6 := wXi hC 6
  have e7 := wXi hC 7
  have e8 := wXi hC 8
  have e9 := wXi hC 9
  have e14 := wXi hC 14
  have e15 := wXi hC 15
  have e16 := wXi hC 16
  have E := E17; try simp only [LM, zAc] at E
  rw [zAe hL]
  simp only [SP, Nat.zero_add, Nat.reduceAdd]
  rw [e0, e1, e2, e6, e7, e8, e9, e14, e15, e16]
  generalize vs 3 = u17_3
  generalize vs 4 = u17_4
  generalize vs 5 = u17_5
  generalize vs 10 = u17_10
  generalize vs 11 = u17_11
  generalize vs 12 = u17_12
  generalize vs 13 = u17_13
  clear e0 e1 e2 e6 e7 e8 e9 e14 e15 e16 hC hn E17 hL vs L nb
  go_upto_region 10 with (fail)
  refine rg [yT, yT, Fq.st [.n N1, .n N2, .n N3, .n N4], Fq.num 1, Fq.num (1), yT, yF, yF, Fq.st [.n P.a, .n P.b, .n P.c], Fq.st [.n N1, .n N2, .n N3, .n N4], Fq.st [.n Q.a, .n Q.b, .n Q.c], Fq.st [.n Q.a, .n Q.b, .n Q.c], yT, yF, yF, yF, yF, yT, yT, Fq.st [.v (.int .u16 D), .v (.int .u16 i0), .v (.int .u16 i1), .v (.int .u16 i2), .v (.int .u16 i3), .v (.int .u8 m0), .v (.int .u8 m1), .v (.int .u8 m2), .v (.int .u8 m3)], Fq.is (.int .i64 n), Fq.st [.v (.int .u16 Dq), .v (.int .u16 i0q), .v (.int .u16 i1q), .v (.int .u16 i2q), .v (.int .u16 i3q), .v (.int .u8 m0q), .v (.int .u8 m1q), .v (.int .u8 m2q), .v (.int .u8 m3q)], Fq.is (.int .i64 n2), yF, yF, yF] N7 [] E (fun hp => ⟨?_, ?_, ?_, ?_, ?_, ?_, ?_, ?_, ?_, ?_, ?_, ?_, ?_, ?_, ?_, ?_, ?_, ?_, ?_, ?_, ?_, ?_, ?_, ?_, ?_, ?_, tv⟩) ?_
  ·exact zAa hp fo tv (sqo 14)
  ·exact zAa hp fo tv (sqi 0)
  ·exact lG 0 8 hp gqi (mq 0 rfl) zBw (sqo 13) fun v w h => h
  ·exact zAn (F := (Fq.st [.n N1, .n N2, .n N3, .n N4]).P) hp fo gqi (zGx) (sqi 2) (fun v w h => (by have hh := zG2 h (Int.lt_of_lt_of_le BN.out.1 (zAb (by omega))) (Int.lt_of_lt_of_le BN.out.2.1 (zAb (by omega))) (Int.lt_of_lt_of_le BN.out.2.2.1 (zAb (by omega))) (Int.lt_of_lt_of_le BN.out.2.2.2 (zAb (by omega))); rw [UN.out.d] at hh; exact hh))
  ·exact zAn (F := (Fq.is (.int .i64 1)).P) hp fo gqi (zB4) (zAj (fun _ => rfl)) (fun v w h => (by subst h; exact rOfK w (1) (by omega) (by omega)))
  ·exact zAs (F := (Fq.num 1).P) (G := (Fq.num (1)).P) hp fo gqi (zBa) (sqi 3) (sqi 4) (fun v v' w h h' => zBc h h' (by decide))
  ·exact zAf (F := fun v _ => v = .bool true) hp fo gqi (sqi 5) (fun ρ w _ h => ⟨.bool false, by simp [execOp, go_sem, h], rfl⟩)
  ·exact zAa hp fo gqi (sqi 6)
  ·exact lG 0 6 hp gqi (mq 3 rfl) zAm (sqo 8) fun v w h => h
  ·exact lG 0 8 hp gqi (mq 0 rfl) zBw (sqo 13) fun v w h => h
  ·exact zAs (F := (Fq.st [.n P.a, .n P.b, .n P.c]).P) (G := (Fq.st [.n N1, .n N2, .n N3, .n N4]).P) hp fo gqi (zFq) (sqi 8) (sqi 9) (fun v v' w h h' => (by have hh := zFu h h' (Int.lt_of_lt_of_le BP.out.1 (zAb (by omega))) (Int.lt_of_lt_of_le BP.out.2.1 (zAb (by omega))) (Int.lt_of_lt_of_le BP.out.2.2 (zAb (by omega))) (Int.lt_of_lt_of_le BN.out.1 (zAb (by omega))) (Int.lt_of_lt_of_le BN.out.2.1 (zAb (by omega))) (Int.lt_of_lt_of_le BN.out.2.2.1 (zAb (by omega))) (Int.lt_of_lt_of_le BN.out.2.2.2 (zAb (by omega))); rw [← UN.out.ea, ← UN.out.eb, ← UN.out.ec] at hh; exact hh))
  ·exact lG 0 6 hp gqi (mq 4 rfl) zAm (sqo 9) fun v w h => h
  ·exact zAs (F := (Fq.st [.n Q.a, .n Q.b, .n Q.c]).P) (G := (Fq.st [.n Q.a, .n Q.b, .n Q.c]).P) hp fo gqi (zEq) (sqi 10) (sqi 11) (fun v v' w h h' => zEt h h' (zG0 ..))
  ·exact zAf (F := fun v _ => v = .bool true) hp fo gqi (sqi 12) (fun ρ w _ h => ⟨.bool false, by simp [execOp, go_sem, h], rfl⟩)
  ·exact zAg (F := fun v _ => v = .bool false) (G := fun v _ => v = .bool false) hp fo gqi (sqi 7) (sqi 13) (fun ρ w hc h h' => ⟨_, by simp [execOp, go_sem, h, h'], rfl⟩)
  ·exact zAg (F := fun v _ => v = .bool true) (G := fun v _ => v = .bool false) hp fo tv (sqi 1) (sqi 14) (fun ρ w hc h h' => ⟨_, by simp [execOp, go_sem, h, h'], rfl⟩)
  ·exact zAa hp fo tv (sqi 15)
  ·exact zAa hp fo gqi (sqo 14)
  ·exact zAa hp fo gqi (sqi 17)
  ·exact lG 0 9 hp gqi (mq 6 rfl) zGb (sqo 3) fun v w h => h
  ·exact zAn (F := (Fq.st [.v (.int .u16 D), .v (.int .u16 i0), .v (.int .u16 i1), .v (.int .u16 i2), .v (.int .u16 i3), .v (.int .u8 m0), .v (.int .u8 m1), .v (.int .u8 m2), .v (.int .u8 m3)]).P) hp fo gqi (zJ3) (sqi 19) (fun v w h => zIf h HDn.out En.out)
  ·exact lG 0 9 hp gqi (mq 5 rfl) zGb (sqo 4) fun v w h => h
  ·exact zAn (F := (Fq.st [.v (.int .u16 Dq), .v (.int .u16 i0q), .v (.int .u16 i1q), .v (.int .u16 i2q), .v (.int .u16 i3q), .v (.int .u8 m0q), .v (.int .u8 m1q), .v (.int .u8 m2q), .v (.int .u8 m3q)]).P) hp fo gqi (zJ3) (sqi 21) (fun v w h => zIf h HDn2.out En2.out)
  ·exact zAg (F := fun v _ => v = .int .i64 n) (G := fun v _ => v = .int .i64 n2) hp fo gqi (sqi 20) (sqi 22) (fun ρ w hc h h' => ⟨.bool false, by simp [execOp, go_sem, h, h', HNN.out], rfl⟩)
  ·exact zAg (F := fun v _ => v = .bool true) (G := fun v _ => v = .bool false) hp fo gqi (sqi 18) (sqi 23) (fun ρ w hc h h' => ⟨_, by simp [execOp, go_sem, h, h'], rfl⟩)
  ·exact zAg (F := fun v _ => v = .bool false) (G := fun v _ => v = .bool false) hp fo tv (sqi 16) (sqi 24) (fun ρ w hc h h' => ⟨_, by simp [execOp, go_sem, h, h'], rfl⟩)
  intro L vs w18 nb hL hC hn E18
  have e0 := wXi hC 0
  have e1 := wXi hC 1
  have e5 := wXi hC 5
  have e6 := wXi hC 6
  have e7 := wXi hC 7
  have e12 := wXi hC 12
  have e13 := wXi hC 13
  have e14 := wXi hC 14
  have e15 := wXi hC 15
  have e16 := wXi hC 16
  have e17 := wXi hC 17
  have e18 := wXi hC 18
  have e20 := wXi hC 20
  have e22 := wXi hC 22
  have e23 := wXi hC 23
  have e24 := wXi hC 24
  have e25 := wXi hC 25
  have E := E18; try simp only [LM, zAc] at E
  rw [zAe hL]
  simp only [SP, Nat.zero_add, Nat.reduceAdd]
  rw [e0, e1, e5, e6, e7, e12, e13, e14, e15, e16, e17, e18, e20, e22, e23, e24, e25]
  generalize vs 2 = u18_2
  generalize vs 3 = u18_3
  generalize vs 4 = u18_4
  generalize vs 8 = u18_8
  generalize vs 9 = u18_9
  generalize vs 10 = u18_10
  generalize vs 11 = u18_11
  generalize vs 19 = u18_19
  generalize vs 21 = u18_21
  clear e0 e1 e5 e6 e7 e12 e13 e14 e15 e16 e17 e18 e20 e22 e23 e24 e25 hC hn E18 hL vs L nb
  go_upto_region 12 with (fail)
  refine rg [Fq.is (.int .u8 z), Fq.is (.int .i64 z), Fq.is (.int .i64 (z * 2)), Fq.is (.int .i64 q), Fq.st [.n 1, .n 1, .n q], Fq.any, Fq.any] N7 [⟨5, 6, 6, Fq.st [.n 0, .n 0, .n 0], Fq.st [.n 1, .n 1, .n q], none⟩] E (fun hp => ⟨?_, ?_, ?_, ?_, ?_, ?_, ?_, tv⟩) ?_
  ·exact zAa hp fo tv (sqo 2)
  ·exact zAf (F := fun v _ => v = .int .u8 z) hp fo tv (sqi 0) (fun ρ w hc h => ⟨.int .i64 z, by simp [execOp, go_sem, h, W0.out], rfl⟩)
  ·exact zAf (F := fun v _ => v = .int .i64 z) hp fo tv (sqi 1) (fun ρ w hc h => ⟨.int .i64 (z * 2), by simp [execOp, go_sem, h, hc, W1.out], rfl⟩)
  ·exact zAf (F := fun v _ => v = .int .i64 (z * 2)) hp fo tv (sqi 2) (fun ρ w hc h => ⟨.int .i64 q, by simp [execOp, go_sem, h, hc, W2.out], rfl⟩)
  ·exact zCf (F := (Fq.is (.int .i64 1)).P) (G := (Fq.is (.int .i64 1)).P) (F3 := (Fq.is (.int .i64 q)).P) hp fo tv (zC3) (zAj (fun _ => rfl)) (zAj (fun _ => rfl)) (sqi 3) (fun v v' u w h h' g => (by subst h h' g; exact zC5 (by decide) (by decide) RQ.out))
  ·exact aS hp (mq 0 rfl) zA3 zBo
  ·exact sS 4 hp (mq 0 rfl) zA2
  intro L vs w19 nb hL hC hn E19
  have e0 := wXi hC 0
  have e1 := wXi hC 1
  have e2 := wXi hC 2
  have e3 := wXi hC 3
  have e5 : vs 5 = .pointer (some ⟨nb 5, 0, none⟩) := hn _ (mq 0 rfl)
  have E := E19; try simp only [LM, zAc] at E
  rw [zAe hL]
  simp only [SP, Nat.zero_add, Nat.reduceAdd]
  rw [e0, e1, e2, e3, e5]
  generalize nb 5 = b19_5 at E ⊢
  generalize vs 4 = u19_4
  clear e0 e1 e2 e3 e5 hC hn E19 hL vs L nb
  go_upto_region 13 with (fail)
  refine rg [Fq.st [.n 1, .n 1, .n q], Fq.st [.n 1, .n 1, .n q], Fq.tup2 (Fq.st [.n 0, .n 0, .n 0, .n 0]) (yF), Fq.tup2 (Fq.st [.n 0, .n 0, .n 0, .n 0]) (yF), Fq.st [.n 0, .n 0, .n 0, .n 0], yF, Fq.any, Fq.any, yF] N8 [⟨6, 7, 8, Fq.st [.n 0, .n 0, .n 0, .n 0], Fq.st [.n 0, .n 0, .n 0, .n 0], none⟩] E (fun hp => ⟨?_, ?_, ?_, ?_, ?_, ?_, ?_, ?_, ?_, tv⟩) ?_
  ·exact lS 0 6 hp (mq 0 rfl) zAm (sqo 15)
  ·exact lS 0 6 hp (mq 0 rfl) zAm (sqo 15)
  ·exact wXb (Fq.st [.n 1, .n 1, .n q]) (Fq.st [.n 1, .n 1, .n q]) hp zFs (sqi 0) (sqi 1) fun v v' w h h' => zIa h h' (zAz (zAq (by decide) (by decide))) (zAz (zAq (by decide) (by decide))) (zAz Bq.out) (zAz (zAq (by decide) (by decide))) (zAz (zAq (by decide) (by decide))) (zAz Bq.out) M3.out
  ·exact zAa hp fo tv (sqi 2)
  ·exact zB5 hp fo tv (sqi 3) (fun v1 v2 w h1 h2 => ⟨_, rfl, h1⟩)
  ·exact zB5 hp fo tv (sqi 3) (fun v1 v2 w h1 h2 => ⟨_, rfl, h2⟩)
  ·exact aS hp (mq 0 rfl) zBd zCb
  ·exact sS 4 hp (mq 0 rfl) zA8
  ·exact zAi hp fo tv (sqi 5)
  intro L vs w20 nb hL hC hn E20
  have e5 := wXi hC 5
  have e8 := wXi hC 8
  have e6 : vs 6 = .pointer (some ⟨nb 6, 0, none⟩) := hn _ (mq 0 rfl)
  have E := E20; try simp only [LM, zAc] at E
  rw [zAe hL]
  simp only [SP, Nat.zero_add, Nat.reduceAdd]
  rw [e5, e8, e6]
  generalize nb 6 = b20_6 at E ⊢
  generalize vs 0 = u20_0
  generalize vs 1 = u20_1
  generalize vs 2 = u20_2
  generalize vs 3 = u20_3
  generalize vs 4 = u20_4
  clear e5 e8 e6 hC hn E20 hL vs L nb
  go_upto_region 14 with (fail)
  refine rg [yT, yT, Fq.is (undef), Fq.is (undef), Fq.is (undef), yT, yT, yF, yT, yT, yT, yT, yT, yT] N9 [] E (fun hp => ⟨?_, ?_, ?_, ?_, ?_, ?_, ?_, ?_, ?_, ?_, ?_, ?_, ?_, ?_, tv⟩) ?_
  ·exact zAa hp fo tv (sqo 14)
  ·exact zAa hp fo tv (sqi 0)
  ·exact zAh hp fo rfl gqi (fun _ => rfl)
  ·exact zAh hp fo rfl gqi (fun _ => rfl)
  ·exact zAh hp fo rfl gqi (fun _ => rfl)
  ·exact zAg (F := fun v _ => v = .bool true) (G := fun v _ => v = .bool true) hp fo tv (sqi 1) (zAj (fun _ => rfl)) (fun ρ w hc h h' => ⟨_, by simp [execOp, go_sem, h, h'], rfl⟩)
  ·exact zAa hp fo tv (sqi 5)
  ·exact zAa hp fo gqi (sqo 17)
  ·exact zAf (F := fun v _ => v = .bool false) hp fo gqi (sqi 7) (fun ρ w _ h => ⟨.bool true, by simp [execOp, go_sem, h], rfl⟩)
  ·exact zAg (F := fun v _ => v = .bool true) (G := fun v _ => v = .bool true) hp fo tv (sqi 6) (sqi 8) (fun ρ w hc h h' => ⟨_, by simp [execOp, go_sem, h, h'], rfl⟩)
  ·exact zAa hp fo tv (sqi 9)
  ·exact zAa hp fo gqi (sqo 7)
  ·exact zAg (F := fun v _ => v = .bool true) (G := fun v _ => v = .bool true) hp fo tv (sqi 10) (sqi 11) (fun ρ w hc h h' => ⟨_, by simp [execOp, go_sem, h, h'], rfl⟩)
  ·exact zAi hp fo tv (sqi 12)
  intro L vs w21 nb hL hC hn E21
  have e0 := wXi hC 0
  have e1 := wXi hC 1
  have e2 := wXi hC 2
  have e3 := wXi hC 3
  have e4 := wXi hC 4
  have e5 := wXi hC 5
  have e6 := wXi hC 6
  have e7 := wXi hC 7
  have e8 := wXi hC 8
  have e9 := wXi hC 9
  have e10 := wXi hC 10
  have e11 := wXi hC 11
  have e12 := wXi hC 12
  have e13 := wXi hC 13
  have E := E21; try simp only [LM, zAc] at E
  rw [zAe hL]
  simp only [SP, Nat.zero_add, Nat.reduceAdd]
  rw [e0, e1, e2, e3, e4, e5, e6, e7, e8, e9, e10, e11, e12, e13]
  clear e0 e1 e2 e3 e4 e5 e6 e7 e8 e9 e10 e11 e12 e13 hC hn E21 hL vs L nb
  clear EP OKP IP MP En Zn HDn EQ OKQ IQ MQ En2 Zn2 HDn2 Es Et HZ HTB EG1 EG2 EG3 HG M1 UK EK1 EK2 EK3 EK4 W0 W1 W2 RQ M3 M2 UN EN1 EN2 EN3 EN4 HNN
  clear B16 BP BQ Bs Bt Bu BG BK Bq BN
  go_wp2
  refine bodyPost_ret (v := .bool true) ?_ rfl ⟨_, rfl, E.below, rfl⟩
  simp [results, Tryz.results5, go_sem]

theorem zMn (w : World) (D i0 i1 i2 i3 m0 m1 m2 m3 : Int) (hD : 0 ≤ D ∧ D ≤ 65535) (hi0 : 0 ≤ i0 ∧ i0 ≤ 65535) (hi1 : 0 ≤ i1 ∧ i1 ≤ 65535) (hi2 : 0 ≤ i2 ∧ i2 ≤ 65535) (hi3 : 0 ≤ i3 ∧ i3 ≤ 65535) (hm0 : 0 ≤ m0 ∧ m0 ≤ 255) (hm1 : 0 ≤ m1 ∧ m1 ≤ 255) (hm2 : 0 ≤ m2 ∧ m2 ≤ 255) (hm3 : 0 ≤ m3 ∧ m3 ≤ 255) (Dq i0q i1q i2q i3q m0q m1q m2q m3q : Int) (hqD : 0 ≤ Dq ∧ Dq ≤ 65535) (hqi0 : 0 ≤ i0q ∧ i0q ≤ 65535) (hqi1 : 0 ≤ i1q ∧ i1q ≤ 65535) (hqi2 : 0 ≤ i2q ∧ i2q ≤ 65535) (hqi3 : 0 ≤ i3q ∧ i3q ≤ 65535) (hqm0 : 0 ≤ m0q ∧ m0q ≤ 255) (hqm1 : 0 ≤ m1q ∧ m1q ≤ 255) (hqm2 : 0 ≤ m2q ∧ m2q ≤ 255) (hqm3 : 0 ≤ m3q ∧ m3q ≤ 255) (z : Int) (hz0 : 0 ≤ z) (hz1 : z ≤ 255) : Calls Tryz.prog 5 #[.agg #[.int .u16 D, .int .u16 i0, .int .u16 i1, .int .u16 i2, .int .u16 i3, .int .u8 m0, .int .u8 m1, .int .u8 m2, .int .u8 m3], .agg #[.int .u16 Dq, .int .u16 i0q, .int .u16 i1q, .int .u16 i2q, .int .u16 i3q, .int .u8 m0q, .int .u8 m1q, .int .u8 m2q, .int .u8 m3q], .int .u8 z] w fun e w' => e = .returned (.bool true) ∧ Below w.heap.size w w' := by
 refine (zMm w D i0 i1 i2 i3 m0 m1 m2 m3 hD hi0 hi1 hi2 hi3 hm0 hm1 hm2 hm3 Dq i0q i1q i2q i3q m0q m1q m2q m3q hqD hqi0 hqi1 hqi2 hqi3 hqm0 hqm1 hqm2 hqm3 z ⟨hz0, hz1⟩ ⟨[.int .u16 D, .int .u16 i0, .int .u16 i1, .int .u16 i2, .int .u16 i3, .int .u8 m0, .int .u8 m1, .int .u8 m2, .int .u8 m3], rfl, _, rfl, rfl, _, rfl, rfl, _, rfl, rfl, _, rfl, rfl, _, rfl, rfl, _, rfl, rfl, _, rfl, rfl, _, rfl, rfl, _, rfl, rfl, rfl⟩ ⟨[.int .u16 Dq, .int .u16 i0q, .int .u16 i1q, .int .u16 i2q, .int .u16 i3q, .int .u8 m0q, .int .u8 m1q, .int .u8 m2q, .int .u8 m3q], rfl, _, rfl, rfl, _, rfl, rfl, _, rfl, rfl, _, rfl, rfl, _, rfl, rfl, _, rfl, rfl, _, rfl, rfl, _, rfl, rfl, _, rfl, rfl, rfl⟩).mono ?_
 rintro e w' ⟨v', rfl, hb, rfl⟩
 exact ⟨rfl, hb⟩

end Go.Proofs.YtdhkhedhnolcjaaGreat
