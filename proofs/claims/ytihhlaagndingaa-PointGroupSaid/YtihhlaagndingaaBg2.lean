/- St, Rb, Fa, Gs, Ya, P, Nw, Rt, Rs, U, X, Bz, Be, Md, Li, V, W, Cv, Dg, Tx, Tt, Ex, Sk, Lw, Yb, Fr, Rc. -/
import Derived.Test.YtihhlaagndingaaBg1
import Derived.Deep.Cut
import Derived.ArgAppend
import Derived.Laws.RangeString
import Derived.Laws.RangeAny
namespace Go.Proofs.Ytihhlaagndingaa
open Go Go.RowKit

section
variable {os : List Oper} {Q : Exit → Act → World → Prop} {a : Act} {p : Plan} {B B0 : Nat} {w0 : World}

def Step (os : List Oper) (Q : Exit → Act → World → Prop) (a : Act) (p : Plan) (B B0 : Nat) (w0 : World) (i : Nat) (o : Oper) : Prop :=
 os.toArray[i]? = some o → ∀ L vs w, p.G B B0 w0 L vs w → L i = false → (∀ e ∈ o.after, Region.binds .any e = true → L e.on = true) → ClosedL os.toArray L →
  wpOp Try.prog os.toArray Q i (fun a' w' => ∃ v, a' = (lay os.toArray L vs os.toArray.size a).put o.dst v ∧ p.G B B0 w0 (up L i true) (up vs i v) w') (lay os.toArray L vs os.toArray.size a) w

theorem region_steps {id : Nat} {w : World} (hm : Try.prog.follows .mixedOrders = true) (ha : apartB (os.map (·.dst)) = true) (hb : backB os 0 = true) (h0 : p.G B B0 w0 (fun _ => false) (fun _ => undef) w.drew)
  (hs : AllOps (Step os Q a p B B0 w0) os 0)
  (hf : ∀ L vs w, (∀ j, j < os.length → L j = true) → p.G B B0 w0 L vs w → Q .normal (lay os.toArray L vs os.length a) w) : (Code.region id os.toArray true).wp Try.prog Q a w := by
 refine wp_region_inv hm (apart_of ha) (back_of hb) (p.G B B0 w0) h0 ?_ ?_
 ·intro i o ho
  exact all_ops hs i o ho ho
 ·intro L vs w hL hG
  have := hf L vs w (by simpa using hL) hG
  simpa using this

def depB (o : Oper) (j : Nat) : Bool := o.after.toList.any fun e => Region.binds .any e && e.on == j

theorem dep_of {o : Oper} {j : Nat} {L : Nat → Bool} (h : depB o j = true) (hd : ∀ e ∈ o.after, Region.binds .any e = true → L e.on = true) : L j = true := by
 obtain ⟨e, he, h1⟩ := List.any_eq_true.1 h
 simp only [Bool.and_eq_true, beq_iff_eq] at h1
 rw [← h1.2]
 exact hd e (by simpa using he) h1.1

def leadsB (os : List Oper) : Nat → Nat → Nat → Bool
 | 0, _, _ => false
 | f + 1, k, i => match os[k]? with
  | none => false
  | some o => o.after.toList.any fun e => Region.binds .any e && (e.on == i || leadsB os f e.on i)

theorem leads_of {L : Nat → Bool} (hc : ClosedL os.toArray L) : ∀ {f k i : Nat}, leadsB os f k i = true → L k = true → L i = true
 | 0, _, _, h, _ => by simp [leadsB] at h
 | f + 1, k, i, h, hk => by
  unfold leadsB at h
  cases ho : os[k]? with
  | none => simp [ho] at h
  | some o =>
   simp only [ho] at h
   obtain ⟨e, he, h1⟩ := List.any_eq_true.1 h
   simp only [Bool.and_eq_true, Bool.or_eq_true, beq_iff_eq] at h1
   have h2 := hc k o (by simpa using ho) hk e (by simpa using he) h1.1
   rcases h1.2 with h3 | h3
   ·rw [← h3]; exact h2
   ·exact leads_of hc h3 h2

theorem not_yet {L : Nat → Bool} (hc : ClosedL os.toArray L) {f k i : Nat} (h : leadsB os f k i = true) (hi : L i = false) : L k = false := by
 cases hk : L k
 ·rfl
 ·rw [leads_of hc h hk] at hi; cases hi

theorem lay_out {L : Nat → Bool} {vs : Nat → Value} {s : Tmp} (h : (os.map (·.dst)).contains (some s) = false) (k : Nat) : (lay os.toArray L vs k a).eval (.tmp s) = a.eval (.tmp s) := by
 refine lay_eval_out _ _ fun j _ _ hd => ?_
 have hm : some s ∈ os.map (·.dst) := by
  unfold dstOf at hd
  simp at hd
  cases ho : os[j]? with
  | none => simp [ho] at hd
  | some o =>
   simp [ho] at hd
   exact List.mem_map.2 ⟨o, List.mem_of_getElem? ho, hd⟩
 have := List.contains_iff_mem.2 hm
 rw [h] at this
 cases this

theorem lay_in {L : Nat → Bool} {vs : Nat → Value} {s : Tmp} {j : Nat} (ha : apartB (os.map (·.dst)) = true) (hL : L j = true) (hj : (os.map (·.dst))[j]? = some (some s)) (hs : s < a.tmps.size) : (lay os.toArray L vs os.toArray.size a).eval (.tmp s) = vs j := by
 refine lay_eval_in (apart_of ha) hL ?_ _ _ ?_ hs
 ·unfold dstOf
  simp at hj ⊢
  cases ho : os[j]? with
  | none => simp [ho] at hj
  | some o => simp [ho] at hj ⊢; exact hj
 ·have := (List.getElem?_eq_some_iff.1 hj).1
  simpa using this

def Plan.Free (p : Plan) (i : Nat) : Prop := (∀ o ∈ p.old, o.2.1 ≠ i) ∧ ∀ n ∈ p.new, n.1 ≠ i ∧ n.2.1 ≠ i

variable {i s : Nat} {d : Option Tmp} {ty : TypeId} {ps : String} {af : Array Edge}

theorem st_load {b k : Nat} {z z' : Int} (hp : p.Ok B B0) (hi : (b, k, z, z') ∈ p.old) (hk : z = z' ∨ leadsB os 9 k i = true) (hx : a.eval (.tmp s) = .pointer (some ⟨b, 0, none⟩)) (ho : (os.map (·.dst)).contains (some s) = false)
  (hC : ∀ v w, Num w v z → p.C i v w) (hF : p.Free i) : Step os Q a p B B0 w0 i { dst := d, op := .load 29 (.tmp s), type := ty, pos := ps, after := af, guard := none } := by
 intro hio L vs w hG hL hd hc
 have hbx : BoxNum w b z := by
  have := hG.old _ hi
  rcases hk with rfl | hk
  ·simpa using this
  ·simpa [not_yet hc hk hL] using this
 obtain ⟨n, ao, kk, c, ⟨c0, c1, _, _⟩, hN⟩ := hbx
 exact op_load hio ((lay_out ho _).trans hx) c0 c1 ⟨_, rfl, hG.plain hp hL (Below.refl _ _) (hC _ _ hN) hF.1 hF.2⟩

theorem st_move {j : Nat} (hp : p.Ok B B0) (ha : apartB (os.map (·.dst)) = true) (hj : (os.map (·.dst))[j]? = some (some s)) (hs : s < a.tmps.size) (hdep : (af.toList.any fun e => Region.binds .any e && e.on == j) = true)
  (hC : ∀ v w, p.C j v w → p.C i v w) (hF : p.Free i) : Step os Q a p B B0 w0 i { dst := d, op := .move (.tmp s), type := ty, pos := ps, after := af, guard := none } := by
 intro hio L vs w hG hL hd hc
 have hLj : L j = true := dep_of (o := { dst := d, op := .move (.tmp s), type := ty, pos := ps, after := af, guard := none }) hdep hd
 exact op_move hio (lay_in ha hLj hj hs) ⟨_, rfl, hG.plain hp hL (Below.refl _ _) (hC _ _ (hG.val j hLj)) hF.1 hF.2⟩

theorem st_assign {j : Nat} (hp : p.Ok B B0) (ha : apartB (os.map (·.dst)) = true) (hj : (os.map (·.dst))[j]? = some (some s)) (hs : s < a.tmps.size) (hdep : (af.toList.any fun e => Region.binds .any e && e.on == j) = true)
  (hC : ∀ v w, p.C j v w → p.C i v w) (hF : p.Free i) : Step os Q a p B B0 w0 i { dst := d, op := .assign (.tmp s), type := ty, pos := ps, after := af, guard := none } := by
 intro hio L vs w hG hL hd hc
 have hLj : L j = true := dep_of (o := { dst := d, op := .assign (.tmp s), type := ty, pos := ps, after := af, guard := none }) hdep hd
 exact op_assign hio (lay_in ha hLj hj hs) ⟨_, rfl, hG.plain hp hL (Below.refl _ _) (hC _ _ (hG.val j hLj)) hF.1 hF.2⟩

theorem st_extract {j k : Nat} (hp : p.Ok B B0) (ha : apartB (os.map (·.dst)) = true) (hj : (os.map (·.dst))[j]? = some (some s)) (hs : s < a.tmps.size) (hdep : (af.toList.any fun e => Region.binds .any e && e.on == j) = true)
  (hC : ∀ v w, p.C j v w → ∃ us u, v = .tuple us ∧ us[k]? = some u ∧ p.C i u w) (hF : p.Free i) : Step os Q a p B B0 w0 i { dst := d, op := .extract (.tmp s) k, type := ty, pos := ps, after := af, guard := none } := by
 intro hio L vs w hG hL hd hc
 have hLj : L j = true := dep_of (o := { dst := d, op := .extract (.tmp s) k, type := ty, pos := ps, after := af, guard := none }) hdep hd
 obtain ⟨us, u, e1, e2, e3⟩ := hC _ _ (hG.val j hLj)
 exact op_extract hio ((lay_in ha hLj hj hs).trans e1) e2 ⟨_, rfl, hG.plain hp hL (Below.refl _ _) e3 hF.1 hF.2⟩

theorem st_call1 {j : Nat} {f : FuncId} {ts : Array TypeId} (hp : p.Ok B B0) (ha : apartB (os.map (·.dst)) = true) (hj : (os.map (·.dst))[j]? = some (some s)) (hs : s < a.tmps.size) (hdep : (af.toList.any fun e => Region.binds .any e && e.on == j) = true)
  (hen : ∀ args w, (callFunc f args).run Try.prog w = .ok (.enter f args) w) (hC : ∀ v w, p.C j v w → Calls Try.prog f #[v] w fun e w' => ∃ v', e = .returned v' ∧ Below w.heap.size w w' ∧ p.C i v' w') (hF : p.Free i) :
  Step os Q a p B B0 w0 i { dst := d, op := .call { callee := .value (.func f), args := #[.tmp s], argTypes := ts }, type := ty, pos := ps, after := af, guard := none } := by
 intro hio L vs w hG hL hd hc
 have hLj : L j = true := dep_of (o := { dst := d, op := .call { callee := .value (.func f), args := #[.tmp s], argTypes := ts }, type := ty, pos := ps, after := af, guard := none }) hdep hd
 refine op_call hio (args := #[vs j]) (by have e := lay_in (vs := vs) ha hLj hj hs; simp at e ⊢; exact e) hen ((hC _ _ (hG.val j hLj)).mono ?_)
 rintro e w' ⟨v', rfl, hb, h⟩
 exact ⟨v', rfl, v', rfl, hG.plain hp hL hb h hF.1 hF.2⟩

theorem st_call2 {j j' s' : Nat} {f : FuncId} {ts : Array TypeId} (hp : p.Ok B B0) (ha : apartB (os.map (·.dst)) = true) (hj : (os.map (·.dst))[j]? = some (some s)) (hs : s < a.tmps.size) (hdep : (af.toList.any fun e => Region.binds .any e && e.on == j) = true)
  (hj' : (os.map (·.dst))[j']? = some (some s')) (hs' : s' < a.tmps.size) (hdep' : (af.toList.any fun e => Region.binds .any e && e.on == j') = true)
  (hen : ∀ args w, (callFunc f args).run Try.prog w = .ok (.enter f args) w) (hC : ∀ v v' w, p.C j v w → p.C j' v' w → Calls Try.prog f #[v, v'] w fun e w' => ∃ v', e = .returned v' ∧ Below w.heap.size w w' ∧ p.C i v' w') (hF : p.Free i) :
  Step os Q a p B B0 w0 i { dst := d, op := .call { callee := .value (.func f), args := #[.tmp s, .tmp s'], argTypes := ts }, type := ty, pos := ps, after := af, guard := none } := by
 intro hio L vs w hG hL hd hc
 have hLj : L j = true := dep_of (o := { dst := d, op := .call { callee := .value (.func f), args := #[.tmp s, .tmp s'], argTypes := ts }, type := ty, pos := ps, after := af, guard := none }) hdep hd
 have hLj' : L j' = true := dep_of (o := { dst := d, op := .call { callee := .value (.func f), args := #[.tmp s, .tmp s'], argTypes := ts }, type := ty, pos := ps, after := af, guard := none }) hdep' hd
 refine op_call hio (args := #[vs j, vs j']) (by have e := lay_in (vs := vs) ha hLj hj hs; have e' := lay_in (vs := vs) ha hLj' hj' hs'; simp at e e' ⊢; exact ⟨e, e'⟩) hen ((hC _ _ _ (hG.val j hLj) (hG.val j' hLj')).mono ?_)
 rintro e w' ⟨v', rfl, hb, h⟩
 exact ⟨v', rfl, v', rfl, hG.plain hp hL hb h hF.1 hF.2⟩

theorem st_alloc {k : Nat} {z : Int} (hp : p.Ok B B0) (hi : (i, k, z) ∈ p.new) (hk : leadsB os 9 k i = true) (hC : ∀ v w', p.C i v w') (h1 : ∀ o ∈ p.old, o.2.1 ≠ i) (h2 : ∀ n ∈ p.new, n.2.1 ≠ i) :
  Step os Q a p B B0 w0 i { dst := d, op := .alloc 29, type := ty, pos := ps, after := af, guard := none } := by
 intro hio L vs w hG hL hd hc
 exact op_alloc hio ⟨_, rfl, hG.alloc hp hL (not_yet hc hk hL) hi hC h1 (fun n hn => ⟨h2 n hn, fun e => hp.newinj n hn _ hi e⟩) _⟩

theorem Num.parts {w : World} {v : Value} {z : Int} (h : Num w v z) : ∃ n ao k c, v = .agg #[.bool n, .slice ao k c] := by
 obtain ⟨neg, ao, n, c, xs, rfl, _⟩ := h
 exact ⟨_, _, _, _, rfl⟩

theorem st_storeNew {i0 j s' : Nat} {z : Int} (hp : p.Ok B B0) (ha : apartB (os.map (·.dst)) = true) (hi : (i0, i, z) ∈ p.new) (hj0 : (os.map (·.dst))[i0]? = some (some s)) (hs0 : s < a.tmps.size) (hdep0 : (af.toList.any fun e => Region.binds .any e && e.on == i0) = true)
  (hj : (os.map (·.dst))[j]? = some (some s')) (hs : s' < a.tmps.size) (hdep : (af.toList.any fun e => Region.binds .any e && e.on == j) = true) (hN : ∀ v w, p.C j v w → Num w v z) (hC : ∀ v w', p.C i v w') (h1 : ∀ o ∈ p.old, o.2.1 ≠ i)
  (h2 : ∀ n ∈ p.new, n.1 ≠ i ∧ (n.2.1 = i → n.1 = i0)) : Step os Q a p B B0 w0 i { dst := none, op := .store 29 (.tmp s) (.tmp s'), type := ty, pos := ps, after := af, guard := none } := by
 intro hio L vs w hG hL hd hc
 have hLi : L i0 = true := dep_of (o := { dst := none, op := .store 29 (.tmp s) (.tmp s'), type := ty, pos := ps, after := af, guard := none }) hdep0 hd
 have hLj : L j = true := dep_of (o := { dst := none, op := .store 29 (.tmp s) (.tmp s'), type := ty, pos := ps, after := af, guard := none }) hdep hd
 obtain ⟨b, e1, e2, e3⟩ := hG.new _ hi hLi
 have hNv := hN _ _ (hG.val j hLj)
 obtain ⟨n', a', k', c', hv⟩ := hNv.parts
 obtain ⟨_, _, _, _, hI, _⟩ := e3
 rw [hv] at hNv
 exact op_store hio ((lay_in ha hLi hj0 hs0).trans e1) ((lay_in ha hLj hj hs).trans hv) hI ⟨undef, rfl, hG.storeNew hp hL hi hLi hNv hC h1 (fun n hn => ⟨(h2 n hn).1, fun e => hp.newinj n hn _ hi ((h2 n hn).2 e)⟩) e1 _⟩

theorem st_storeOld {b j s' : Nat} {z z' : Int} (hp : p.Ok B B0) (ha : apartB (os.map (·.dst)) = true) (hi : (b, i, z, z') ∈ p.old) (hx : a.eval (.tmp s) = .pointer (some ⟨b, 0, none⟩)) (ho : (os.map (·.dst)).contains (some s) = false)
  (hj : (os.map (·.dst))[j]? = some (some s')) (hs : s' < a.tmps.size) (hdep : (af.toList.any fun e => Region.binds .any e && e.on == j) = true) (hN : ∀ v w, p.C j v w → Num w v z') (hC : ∀ v w', p.C i v w') (h1 : ∀ o ∈ p.old, o.2.1 = i → o = (b, i, z, z'))
  (h2 : ∀ n ∈ p.new, n.1 ≠ i ∧ n.2.1 ≠ i) : Step os Q a p B B0 w0 i { dst := none, op := .store 29 (.tmp s) (.tmp s'), type := ty, pos := ps, after := af, guard := none } := by
 intro hio L vs w hG hL hd hc
 have hLj : L j = true := dep_of (o := { dst := none, op := .store 29 (.tmp s) (.tmp s'), type := ty, pos := ps, after := af, guard := none }) hdep hd
 have hNv := hN _ _ (hG.val j hLj)
 obtain ⟨n', a', k', c', hv⟩ := hNv.parts
 obtain ⟨_, _, _, _, hI, _⟩ := hG.old _ hi
 rw [hv] at hNv
 exact op_store hio ((lay_out ho _).trans hx) ((lay_in ha hLj hj hs).trans hv) hI ⟨undef, rfl, hG.storeOld hp hi hNv hC h1 h2 _⟩

end

end Go.Proofs.Ytihhlaagndingaa

namespace Go.Proofs.Ytihhlaagndingaa
open Go.RowKit

set_option maxHeartbeats 1000000 in
theorem size_any (w : World) (ax ay : Option Addr) (n m cx cy : Nat) (xs ys : List Int) (hX : Sl w ax n cx xs) (hY : Sl w ay m cy ys) (hcx : Canon xs) (hcy : Canon ys) (hb1 : n ≤ 4000000) (hb2 : m ≤ 4000000) :
  Calls Try.prog 49 #[.slice ax n cx, .slice ay m cy] w fun e w' => e = .returned (.int .i64 (cmpI (val xs) (val ys))) ∧ Drawn w w' := by
 have hn := hidd hX.len
 have hm := hidd hY.len
 have hx := hX.cells
 have hy := hY.cells
 by_cases hnm : n = m
 ·subst hnm
  go_enter Try.func49, Try.ntmps49
  go_wp2
  go_loopw [5] (fun i wr => ∃ (k : Nat), k ≤ n ∧ i = .int .i64 ((k : Int) - 1) ∧ Drawn w wr ∧ xs.drop k = ys.drop k) (fun i _ => (intOf i + 1).toNat)
  case atStart => exact ⟨n, Nat.le_refl _, rfl, ⟨0, rfl⟩, by rw [List.drop_of_length_le (by rw [hn.out]; omega), List.drop_of_length_le (by rw [hm.out]; omega)]⟩
  case round =>
   obtain ⟨k, hk, rfl, hd, hv⟩ := hrel
   have HV := hidd hv
   clear hv
   by_cases h0 : 0 < k
   ·obtain ⟨b, off, rfl, hbl, x, hxc, hx0, hx1, HX⟩ := hx.at (k := k - 1) (by rw [hn.out]; omega)
    obtain ⟨b2, off2, rfl, hbl2, y, hyc, hy0, hy1, HY⟩ := hy.at (k := k - 1) (by rw [hm.out]; omega)
    have hxr := (hd.cell _).trans hxc
    have hyr := (hd.cell _).trans hyc
    have hkx : k - 1 < xs.length := by rw [hn.out]; omega
    have hln : xs.length = ys.length := by rw [hn.out, hm.out]
    have HLN := hidd hln
    clear hxc hyc hln
    by_cases he : x < y
    ·have hk1 : k - 1 + 1 = k := by omega
     have HA : Hid (cmpI (val xs) (val ys) = -1) := by
      have := cmp_at hX.digs hY.digs hkx HLN.out (by rw [hk1]; exact HV.out) (by rw [HX.out, HY.out]; exact he)
      exact if_pos this
     clear hk1
     go_wp2
     go_quiet (fail)
     go_wp2
     go_ret
     refine ⟨?_, hd.drewN _⟩
     rw [HA.out]; try rfl
    ·have hle : decide (x < y) = false := by simp; omega
     by_cases hg : y < x
     ·have hk1 : k - 1 + 1 = k := by omega
      have HA : Hid (cmpI (val xs) (val ys) = 1) := by
       have hky : k - 1 < ys.length := by have := HLN.out; omega
       have := cmp_at hY.digs hX.digs hky HLN.out.symm (by rw [hk1]; exact HV.out.symm) (by rw [HX.out, HY.out]; exact hg)
       exact (if_neg (by omega)).trans (if_neg (by omega))
      clear hk1
      go_wp2
      go_quiet (fail)
      go_wp2
      obtain ⟨w2, hw2⟩ : ∃ w2, w2 = wr.drewN nq := ⟨_, rfl⟩
      rw [← hw2]
      have hd2 : Drawn w w2 := by rw [hw2]; exact hd.drewN _
      have hxr2 := (hd2.cell _).trans ((hd.cell _).symm.trans hxr)
      have hyr2 := (hd2.cell _).trans ((hd.cell _).symm.trans hyr)
      clear hw2 hxr hyr
      go_quiet (fail)
      go_wp2
      go_ret
      refine ⟨?_, hd2.drewN _⟩
      rw [HA.out]; try rfl
     ·have hge : decide (y < x) = false := by simp; omega
      have HE : Hid (x = y) := by show _ = _; omega
      go_wp2
      go_quiet (fail)
      go_wp2
      obtain ⟨w2, hw2⟩ : ∃ w2, w2 = wr.drewN nq := ⟨_, rfl⟩
      rw [← hw2]
      have hd2 : Drawn w w2 := by rw [hw2]; exact hd.drewN _
      have hxr2 := (hd2.cell _).trans ((hd.cell _).symm.trans hxr)
      have hyr2 := (hd2.cell _).trans ((hd.cell _).symm.trans hyr)
      clear hw2 hxr hyr
      go_quiet (fail)
      go_wp2
      go_roundw
      case rel =>
       refine ⟨k - 1, by omega, by go_num, hd2.drewN _, ?_⟩
       exact drop_step hkx HLN.out (by rw [show k - 1 + 1 = k from by omega]; exact HV.out) (by rw [HX.out, HY.out]; exact HE.out)
      case measure => simp [intOf]; omega
   ·go_wp2
    go_ret
    obtain rfl : k = 0 := by omega
    refine ⟨?_, hd⟩
    have e : xs = ys := by simpa using HV.out
    subst e
    simp [cmpI]
 ·have h1 : ((n : Int) == m) = false := by simp; omega
  have h2 : ((n : Int) != m) = true := by simp; omega
  by_cases hlt : n < m
  ·have hli : ((n : Int) < (m : Int)) := by omega
   go_enter Try.func49, Try.ntmps49
   go_wp2
   go_ret
   refine ⟨?_, 0, rfl⟩
   have := Canon.lt_of_length hX.digs hcy (by rw [hn.out, hm.out]; exact hlt)
   simp [cmpI, this]
  ·have hli : ¬ ((n : Int) < (m : Int)) := by omega
   go_enter Try.func49, Try.ntmps49
   go_wp2
   go_ret
   refine ⟨?_, 0, rfl⟩
   have := Canon.lt_of_length hY.digs hcx (by rw [hn.out, hm.out]; omega)
   simp [cmpI, show ¬ val xs < val ys by omega, show ¬ val xs = val ys by omega]

theorem sgn_inj {a b : Bool} {xs ys : List Int} {n m : Nat} (hdx : Canon xs) (hdy : Canon ys) (hx : 0 ≤ val xs) (hy : 0 ≤ val ys) (hn : xs.length = n) (hm : ys.length = m) (ha : a = true → n ≠ 0) (hb : b = true → m ≠ 0) :
  (sgn a (val xs) = sgn b (val ys)) ↔ (a = b ∧ val xs = val ys) := by
 have hzx := hdx.zero
 have hzy := hdy.zero
 rw [hn] at hzx
 rw [hm] at hzy
 constructor
 ·intro h
  cases a <;> cases b <;> simp [sgn] at h ⊢
  ·exact h
  ·have := hb rfl
   have : val ys ≠ 0 := fun h => this (hzy.2 h)
   omega
  ·have := ha rfl
   have : val xs ≠ 0 := fun h => this (hzx.2 h)
   omega
  ·omega
 ·rintro ⟨rfl, h⟩
  rw [h]

theorem cmpI_zero {x y : Int} : cmpI x y = 0 ↔ x = y := by
 unfold cmpI
 split
 ·constructor <;> intro h <;> omega
 ·split
  ·constructor <;> intro h <;> omega
  ·constructor <;> intro h <;> omega

set_option maxHeartbeats 1000000 in
theorem Same_any (w : World) (na nb : Bool) (ax ay : Option Addr) (n m cx cy : Nat) (xs ys : List Int) (hX : Sl w ax n cx xs) (hY : Sl w ay m cy ys) (hcx : Canon xs) (hcy : Canon ys) (hna : na = true → n ≠ 0) (hnb : nb = true → m ≠ 0) (hb1 : n ≤ 4000000) (hb2 : m ≤ 4000000) :
  Calls Try.prog 27 #[.agg #[.bool na, .slice ax n cx], .agg #[.bool nb, .slice ay m cy]] w fun e w' => e = .returned (.bool (decide (sgn na (val xs) = sgn nb (val ys)))) ∧ Below w.heap.size w w' := by
 have hinj := sgn_inj hcx hcy (val_nonneg hX.digs) (val_nonneg hY.digs) hX.len hY.len hna hnb
 obtain ⟨w0, hw0, hA, hB, hbl⟩ : ∃ w0, w0 = (w.alloc (.cells #[.bool na, .slice ax n cx] 29)).alloc (.cells #[.bool nb, .slice ay m cy] 29) ∧ IntBox w0 w.heap.size (.bool na) (.slice ax n cx) ∧ IntBox w0 (w.heap.size + 1) (.bool nb) (.slice ay m cy) ∧ Below w.heap.size w w0 := by
  refine ⟨_, rfl, ?_, ?_, ?_⟩
  ·exact (IntBox.new w _ _ _).mono (alloc_below (w.alloc (.cells #[.bool na, .slice ax n cx] 29)) _) (by simp)
  ·have := IntBox.new (w.alloc (.cells #[.bool na, .slice ax n cx] 29)) (.bool nb) (.slice ay m cy) 29
   rw [World.size_alloc] at this
   exact this
  ·exact ((Below.refl _ _).alloc (Nat.le_refl _) _).alloc (by simp) _
 have hX0 := hX.mono hbl
 have hY0 := hY.mono hbl
 obtain ⟨a0, a1, _, _⟩ := hA
 obtain ⟨b0, b1, _, _⟩ := hB
 by_cases hs : na = nb
 ·subst hs
  have hi : Hid (decide (sgn na (val xs) = sgn na (val ys)) = decide (val xs = val ys)) := by
   show _ = _
   rw [decide_eq_decide, hinj]; simp
  clear hinj
  go_enter Try.func27, Try.ntmps27
  go_upto_region 1 with (fail)
  rw [← hw0]
  clear hw0
  have hbb : (na == na) = true := by cases na <;> rfl
  go_wp2_with fail
  refine (size_any _ _ _ _ _ _ _ _ _ hX0 hY0 hcx hcy (by omega) (by omega)).mono ?_
  rintro e w1 ⟨rfl, hd⟩
  have hbl1 := hbl.trans (hd.below _)
  by_cases he : val xs = val ys
  ·have hc : cmpI (val xs) (val ys) = 0 := cmpI_zero.2 he
   have hI : Hid (decide (sgn na (val xs) = sgn na (val ys)) = true) := hi.out.trans (by simp [he])
   rw [hc]
   clear hc he hi
   go_wp2
   go_ret
   exact ⟨by rw [hI.out]; try rfl, hbl1⟩
  ·have hc : cmpI (val xs) (val ys) ≠ 0 := fun h => he (cmpI_zero.1 h)
   have hI : Hid (decide (sgn na (val xs) = sgn na (val ys)) = false) := hi.out.trans (by simp [he])
   generalize cmpI (val xs) (val ys) = t at *
   have hcb : (t == 0) = false := by simp [hc]
   clear he hi hc
   go_wp2
   go_ret
   exact ⟨by rw [hI.out]; try rfl, hbl1⟩
 ·have hi : Hid (decide (sgn na (val xs) = sgn nb (val ys)) = false) := by
   show _ = _
   simp only [decide_eq_false_iff_not]
   intro h; exact hs (hinj.1 h).1
  have hbb : (na == nb) = false := by simp [hs]
  clear hinj hs
  go_enter Try.func27, Try.ntmps27
  go_upto_region 1 with (fail)
  rw [← hw0]
  clear hw0
  go_wp2
  go_ret
  exact ⟨by rw [hi.out]; try rfl, hbl⟩

end Go.Proofs.Ytihhlaagndingaa

namespace Go.Proofs.Ytihhlaagndingaa
open Go Go.RowKit

inductive Fact where
 | num (z : Int)
 | tup (z z' : Int)
 | int (z : Int)
 | is (u : Value)
 | any

def Fact.holds : Fact → Value → World → Prop
 | .num z, v, w => Num w v z
 | .tup z z', v, w => ∃ v1 v2 v3, v = .tuple #[v1, v2, v3] ∧ Num w v1 z ∧ Num w v2 z'
 | .int z, v, _ => v = .int .i64 z
 | .is u, v, _ => v = u
 | .any, _, _ => True

theorem Fact.mono {f : Fact} {v : Value} {w w' : World} (h : f.holds v w) (hb : Below w.heap.size w w') : f.holds v w' := by
 cases f with
 | num z => exact Num.mono h hb
 | tup z z' =>
  obtain ⟨v1, v2, v3, e, h1, h2⟩ := h
  exact ⟨v1, v2, v3, e, h1.mono hb, h2.mono hb⟩
 | int z => exact h
 | is u => exact h
 | any => trivial

theorem Fact.put {f : Fact} {v : Value} {w : World} {b : Nat} {y : Int} (h : f.holds v w) (hb : BoxNum w b y) (n' : Bool) (a' : Option Addr) (k' c' : Nat) : f.holds v (putBox w b n' a' k' c') := by
 cases f with
 | num z => exact Num.putBox h hb _ _ _ _
 | tup z z' =>
  obtain ⟨v1, v2, v3, e, h1, h2⟩ := h
  exact ⟨v1, v2, v3, e, h1.putBox hb _ _ _ _, h2.putBox hb _ _ _ _⟩
 | int z => exact h
 | is u => exact h
 | any => trivial

def mkPlan (fs : List Fact) (old : List (Nat × Nat × Int × Int)) (new : List (Nat × Nat × Int)) : Plan := ⟨fun j v w => ((fs[j]?).getD .any).holds v w, old, new⟩

theorem mkPlan_ok {fs : List Fact} {old : List (Nat × Nat × Int × Int)} {new : List (Nat × Nat × Int)} {B B0 : Nat} (h1 : ∀ o ∈ old, B ≤ o.1 ∧ o.1 < B0) (h2 : ∀ o ∈ old, ∀ q ∈ old, o.2.1 ≠ q.2.1 → o.1 ≠ q.1) (h3 : ∀ n ∈ new, ∀ m ∈ new, n.1 = m.1 → n = m) (h4 : B ≤ B0) : (mkPlan fs old new).Ok B B0 :=
 ⟨fun _ _ _ _ h hb => Fact.mono h hb, fun _ _ _ _ _ n' a' k' c' h hb => Fact.put h hb n' a' k' c', h1, h2, h3, h4⟩

theorem mkPlan_start {fs : List Fact} {old : List (Nat × Nat × Int × Int)} {new : List (Nat × Nat × Int)} {B : Nat} {w w1 : World} (h : ∀ o ∈ old, BoxNum w1 o.1 o.2.2.1) (hb : Below B w w1) : (mkPlan fs old new).G B w1.heap.size w (fun _ => false) (fun _ => undef) w1.drew :=
 ⟨hb.drew, Nat.le_refl _, fun _ h => (by cases h), fun o ho => (by
  have h1 := h o ho
  have h2 : BoxNum w1.drew o.1 o.2.2.1 := h1.mono (Below.refl _ _).drew
  simpa using h2), fun _ _ h => (by cases h), fun _ _ _ _ _ h => (by cases h)⟩

section
variable {os : List Oper} {Q : Exit → Act → World → Prop} {a : Act} {p : Plan} {B B0 : Nat} {w0 : World} {i s : Nat} {d : Option Tmp} {ty : TypeId} {ps : String} {af : Array Edge}

theorem st_zero (hp : p.Ok B B0) (hC : ∀ w, p.C i (.agg #[.bool false, .slice none 0 0]) w) (hF : p.Free i) : Step os Q a p B B0 w0 i { dst := d, op := .build 29 #[], type := ty, pos := ps, after := af, guard := none } := by
 intro hio L vs w hG hL hd hc
 refine wpOp_step hio fun K' hK => ?_
 have h := hK ((lay os.toArray L vs os.toArray.size a).put d (.agg #[.bool false, .slice none 0 0])) w ⟨_, rfl, hG.plain hp hL (Below.refl _ _) (hC _) hF.1 hF.2⟩
 have e : (execOp (lay os.toArray L vs os.toArray.size a).eval ({ dst := d, op := .build 29 #[], type := ty, pos := ps, after := af, guard := none } : Oper)).run Try.prog w = .ok (.value (.agg #[.bool false, .slice none 0 0])) w := by
  generalize (lay os.toArray L vs os.toArray.size a).eval = ρ
  simp [execOp, go_sem]
 have hwn : Region.wanted ({ dst := d, op := .build 29 #[], type := ty, pos := ps, after := af, guard := none } : Oper) (yielded os.toArray (lay os.toArray L vs os.toArray.size a).tmps) = true := rfl
 rw [if_pos hwn]
 unfold Oper.wp
 rw [e]
 exact h

end

end Go.Proofs.Ytihhlaagndingaa

namespace Go.Proofs.Ytihhlaagndingaa
open Go Go.RowKit

structure Fc where
 P : Value → World → Prop
 mono : ∀ {v : Value} {w w' : World}, P v w → Below w.heap.size w w' → P v w'
 put : ∀ {v : Value} {w : World} {b : Nat} {y : Int}, P v w → BoxNum w b y → ∀ (n' : Bool) (a' : Option Addr) (k' c' : Nat), P v (putBox w b n' a' k' c')

def Fc.num (z : Int) : Fc := ⟨fun v w => Num w v z, fun h hb => h.mono hb, fun h hb _ _ _ _ => h.putBox hb _ _ _ _⟩
def Fc.pre (P : Value → Prop) : Fc := ⟨fun v _ => P v, fun h _ => h, fun h _ _ _ _ _ => h⟩
def Fc.is (u : Value) : Fc := Fc.pre fun v => v = u
def Fc.any : Fc := Fc.pre fun _ => True
def Fc.tup (z z' : Int) : Fc := ⟨fun v w => ∃ v1 v2, v = .tuple #[v1, v2, .int .i64 0] ∧ Num w v1 z ∧ Num w v2 z',
 fun ⟨v1, v2, e, h1, h2⟩ hb => ⟨v1, v2, e, h1.mono hb, h2.mono hb⟩, fun ⟨v1, v2, e, h1, h2⟩ hb _ _ _ _ => ⟨v1, v2, e, h1.putBox hb _ _ _ _, h2.putBox hb _ _ _ _⟩⟩
def Fc.sl (m : Nat) (ys : List Int) : Fc := ⟨fun v w => ∃ ao c, v = .slice ao m c ∧ Sl w ao m c ys, fun ⟨ao, c, e, h⟩ hb => ⟨ao, c, e, h.mono hb⟩, fun ⟨ao, c, e, h⟩ hb n' a' k' c' => by
 obtain ⟨p, q, r, t, hI, _⟩ := hb
 exact ⟨ao, c, e, h.putBox hI n' a' k' c'⟩⟩

def plan (fs : List Fc) (old : List (Nat × Nat × Int × Int)) (new : List (Nat × Nat × Int)) : Plan := ⟨fun j v w => ((fs[j]?).getD Fc.any).P v w, old, new⟩

theorem plan_ok {fs : List Fc} {old : List (Nat × Nat × Int × Int)} {new : List (Nat × Nat × Int)} {B B0 : Nat} (h1 : ∀ o ∈ old, B ≤ o.1 ∧ o.1 < B0) (h2 : ∀ o ∈ old, ∀ q ∈ old, o.2.1 ≠ q.2.1 → o.1 ≠ q.1) (h3 : ∀ n ∈ new, ∀ m ∈ new, n.1 = m.1 → n = m) (h4 : B ≤ B0) : (plan fs old new).Ok B B0 :=
 ⟨fun j _ _ _ h hb => ((fs[j]?).getD Fc.any).mono h hb, fun j _ _ _ _ n' a' k' c' h hb => ((fs[j]?).getD Fc.any).put h hb n' a' k' c', h1, h2, h3, h4⟩

theorem plan_start {fs : List Fc} {old : List (Nat × Nat × Int × Int)} {new : List (Nat × Nat × Int)} {B : Nat} {w w1 : World} (h : ∀ o ∈ old, BoxNum w1 o.1 o.2.2.1) (hb : Below B w w1) : (plan fs old new).G B w1.heap.size w (fun _ => false) (fun _ => undef) w1.drew :=
 ⟨hb.drew, Nat.le_refl _, fun _ h => (by cases h), fun o ho => (by
  have h1 := h o ho
  have h2 : BoxNum w1.drew o.1 o.2.2.1 := h1.mono (Below.refl _ _).drew
  simpa using h2), fun _ _ h => (by cases h), fun _ _ _ _ _ h => (by cases h)⟩

section
variable {os : List Oper} {Q : Exit → Act → World → Prop} {a : Act} {p : Plan} {B B0 : Nat} {w0 : World}
variable {i s : Nat} {d : Option Tmp} {ty : TypeId} {ps : String} {af : Array Edge} {gd : Option (Nat × Bool)}

structure PMono (p : Plan) (B B0 : Nat) : Prop where
 mono : ∀ j v w w', p.C j v w → Below w.heap.size w w' → p.C j v w'
 le : B ≤ B0

theorem PMono.of {p : Plan} {B B0 : Nat} (h : p.Ok B B0) : PMono p B B0 := ⟨h.mono, h.le⟩

theorem Plan.G.plainM {p : Plan} {B B0 : Nat} {w0 w w' : World} {L : Nat → Bool} {vs : Nat → Value} (h : p.G B B0 w0 L vs w) (hp : PMono p B B0) {i : Nat} {v : Value} (hL : L i = false) (hb : Below w.heap.size w w') (hC : p.C i v w')
  (h1 : ∀ o ∈ p.old, o.2.1 ≠ i) (h2 : ∀ n ∈ p.new, n.1 ≠ i ∧ n.2.1 ≠ i) : p.G B B0 w0 (up L i true) (up vs i v) w' where
 below := h.below.trans (hb.mono (Nat.le_trans hp.le h.size))
 size := Nat.le_trans h.size hb.size
 val := fun j hj => by
  by_cases hji : j = i
  ·subst hji; rw [up_same]; exact hC
  ·rw [up_ne _ _ hji] at hj ⊢; exact hp.mono _ _ _ _ (h.val j hj) hb
 old := fun o ho => by rw [up_ne _ _ (h1 o ho)]; exact (h.old o ho).mono hb
 new := fun n hn hj => by
  rw [up_ne _ _ (h2 n hn).1] at hj ⊢
  rw [up_ne _ _ (h2 n hn).2]
  obtain ⟨b, e1, e2, e3⟩ := h.new n hn hj
  exact ⟨b, e1, e2, e3.mono hb⟩
 apart := fun n hn m hm hne hj hk => by
  rw [up_ne _ _ (h2 n hn).1] at hj ⊢
  rw [up_ne _ _ (h2 m hm).1] at hk ⊢
  exact h.apart n hn m hm hne hj hk

structure Fm where
 P : Value → World → Prop
 mono : ∀ {v : Value} {w w' : World}, P v w → Below w.heap.size w w' → P v w'
def Fm.of (f : Fc) : Fm := ⟨f.P, f.mono⟩
def Fm.any : Fm := ⟨fun _ _ => True, fun h _ => h⟩
def Src (os : List Oper) (a : Act) (p : Plan) (B B0 : Nat) (w0 : World) (af : Array Edge) (x : Operand) (F : Value → World → Prop) : Prop :=
 ∀ L vs w, p.G B B0 w0 L vs w → (∀ e ∈ af, Region.binds .any e = true → L e.on = true) → F ((lay os.toArray L vs os.toArray.size a).eval x) w

def depA (af : Array Edge) (j : Nat) : Bool := af.toList.any fun e => Region.binds .any e && e.on == j

theorem depA_of {j : Nat} {L : Nat → Bool} (h : depA af j = true) (hd : ∀ e ∈ af, Region.binds .any e = true → L e.on = true) : L j = true := by
 obtain ⟨e, he, h1⟩ := List.any_eq_true.1 h
 simp only [Bool.and_eq_true, beq_iff_eq] at h1
 rw [← h1.2]
 exact hd e (by simpa using he) h1.1

theorem src_in (j : Nat) {F : Value → World → Prop} (ha : apartB (os.map (·.dst)) = true) (hj : (os.map (·.dst))[j]? = some (some s)) (hs : s < a.tmps.size) (hdep : depA af j = true) (hF : ∀ v w, p.C j v w → F v w) : Src os a p B B0 w0 af (.tmp s) F := by
 intro L vs w hG hd
 have hLj := depA_of hdep hd
 rw [lay_in ha hLj hj hs]
 exact hF _ _ (hG.val j hLj)

theorem src_out {v : Value} {F : Value → World → Prop} (ho : (os.map (·.dst)).contains (some s) = false) (hx : a.eval (.tmp s) = v) (hF : ∀ w, Below B w0 w → F v w) : Src os a p B B0 w0 af (.tmp s) F := by
 intro L vs w hG hd
 rw [(lay_out ho _).trans hx]
 exact hF _ hG.below

theorem src_const {v : Value} {F : Value → World → Prop} (hF : ∀ w, F v w) : Src os a p B B0 w0 af (.const v) F := fun _ _ _ _ _ => hF _

def Gd (os : List Oper) (a : Act) (p : Plan) (B B0 : Nat) (w0 : World) (af : Array Edge) : Option (Nat × Bool) → Prop
 | none => True
 | some (j, b) => ∀ L vs w, p.G B B0 w0 L vs w → (∀ e ∈ af, Region.binds .any e = true → L e.on = true) → yielded os.toArray (lay os.toArray L vs os.toArray.size a).tmps j = some b

theorem stg_run {o : Oper} (hp : PMono p B B0) (hF : p.Free i) (hg : Gd os a p B B0 w0 o.after o.guard) (hr : ∀ L vs w, p.G B B0 w0 L vs w → (∀ e ∈ o.after, Region.binds .any e = true → L e.on = true) →
   ∃ v w', (execOp (lay os.toArray L vs os.toArray.size a).eval o).run Try.prog w = .ok (.value v) w' ∧ Below w.heap.size w w' ∧ p.C i v w') : Step os Q a p B B0 w0 i o := by
 intro hio L vs w hG hL hd hc
 refine wpOp_step hio fun K' hK => ?_
 obtain ⟨v, w', hv, hb, hCv⟩ := hr L vs w hG hd
 have hwn : Region.wanted o (yielded os.toArray (lay os.toArray L vs os.toArray.size a).tmps) = true := by
  unfold Region.wanted
  cases hgd : o.guard with
  | none => rfl
  | some jb =>
   obtain ⟨j, b⟩ := jb
   rw [hgd] at hg
   have := hg L vs w hG hd
   show (yielded os.toArray (lay os.toArray L vs os.toArray.size a).tmps j == some b) = true
   rw [this]
   cases b <;> rfl
 rw [if_pos hwn]
 unfold Oper.wp
 rw [hv]
 exact hK _ _ ⟨_, rfl, hG.plainM hp hL hb hCv hF.1 hF.2⟩

theorem stg_val {o : Oper} (hp : PMono p B B0) (hF : p.Free i) (hg : Gd os a p B B0 w0 o.after o.guard) (hr : ∀ L vs w, p.G B B0 w0 L vs w → (∀ e ∈ o.after, Region.binds .any e = true → L e.on = true) →
   ∃ v, (execOp (lay os.toArray L vs os.toArray.size a).eval o).run Try.prog w = .ok (.value v) w ∧ p.C i v w) : Step os Q a p B B0 w0 i o :=
 stg_run hp hF hg fun L vs w hG hd => by
  obtain ⟨v, h1, h2⟩ := hr L vs w hG hd
  exact ⟨v, w, h1, Below.refl _ _, h2⟩

theorem stg_call {f : FuncId} {xs : Array Operand} {ts : Array TypeId} (hp : PMono p B B0) (hF : p.Free i) (hg : Gd os a p B B0 w0 af gd) (hen : ∀ args w, (callFunc f args).run Try.prog w = .ok (.enter f args) w)
  (hr : ∀ L vs w, p.G B B0 w0 L vs w → (∀ e ∈ af, Region.binds .any e = true → L e.on = true) → ∃ args, xs.map (lay os.toArray L vs os.toArray.size a).eval = args ∧
   Calls Try.prog f args w fun e w' => ∃ v', e = .returned v' ∧ Below w.heap.size w w' ∧ p.C i v' w') :
  Step os Q a p B B0 w0 i { dst := d, op := .call { callee := .value (.func f), args := xs, argTypes := ts }, type := ty, pos := ps, after := af, guard := gd } := by
 intro hio L vs w hG hL hd hc
 refine wpOp_step hio fun K' hK => ?_
 obtain ⟨args, hx, hC⟩ := hr L vs w hG hd
 have hwn : Region.wanted ({ dst := d, op := .call { callee := .value (.func f), args := xs, argTypes := ts }, type := ty, pos := ps, after := af, guard := gd } : Oper) (yielded os.toArray (lay os.toArray L vs os.toArray.size a).tmps) = true := by
  unfold Region.wanted
  cases gd with
  | none => rfl
  | some jb =>
   obtain ⟨j, b⟩ := jb
   have := hg L vs w hG hd
   show (yielded os.toArray (lay os.toArray L vs os.toArray.size a).tmps j == some b) = true
   rw [this]
   cases b <;> rfl
 rw [if_pos hwn]
 have e : (execOp (lay os.toArray L vs os.toArray.size a).eval ({ dst := d, op := .call { callee := .value (.func f), args := xs, argTypes := ts }, type := ty, pos := ps, after := af, guard := gd } : Oper)).run Try.prog w = (.ok (.enter f args) w) := by
  have hf : (lay os.toArray L vs os.toArray.size a).eval (.func f) = .func (.func f) #[] #[] := rfl
  generalize (lay os.toArray L vs os.toArray.size a).eval = ρ at hx hf
  simp [execOp, go_sem, hx, hf, hen]
 unfold Oper.wp
 rw [e]
 refine hC.mono ?_
 rintro e' w' ⟨v', rfl, hb, h⟩
 exact hK _ _ ⟨_, rfl, hG.plainM hp hL hb h hF.1 hF.2⟩

theorem g_load {b : Nat} {z : Int} {x : Operand} (hp : PMono p B B0) (hF : p.Free i) (hg : Gd os a p B B0 w0 af gd) (hx : Src os a p B B0 w0 af x fun v w => v = .pointer (some ⟨b, 0, none⟩) ∧ BoxNum w b z)
  (hC : ∀ v w, Num w v z → p.C i v w) : Step os Q a p B B0 w0 i { dst := d, op := .load 29 x, type := ty, pos := ps, after := af, guard := gd } := by
 refine stg_val hp hF hg fun L vs w hG hd => ?_
 obtain ⟨e, n, ao, kk, c, ⟨c0, c1, _, _⟩, hN⟩ := hx L vs w hG hd
 refine ⟨_, ?_, hC _ _ hN⟩
 generalize (lay os.toArray L vs os.toArray.size a).eval = ρ at e
 simp [execOp, go_sem, e, c0, c1]

theorem g_assign {x : Operand} (hp : PMono p B B0) (hF : p.Free i) (hg : Gd os a p B B0 w0 af gd) (hx : Src os a p B B0 w0 af x (p.C i)) : Step os Q a p B B0 w0 i { dst := d, op := .assign x, type := ty, pos := ps, after := af, guard := gd } := by
 refine stg_val hp hF hg fun L vs w hG hd => ⟨_, ?_, hx L vs w hG hd⟩
 simp [execOp, go_sem]

theorem g_call1 {x : Operand} {F : Value → World → Prop} {f : FuncId} {ts : Array TypeId} (hp : PMono p B B0) (hF : p.Free i) (hg : Gd os a p B B0 w0 af gd) (hen : ∀ args w, (callFunc f args).run Try.prog w = .ok (.enter f args) w)
  (hx : Src os a p B B0 w0 af x F) (hC : ∀ v w, F v w → Calls Try.prog f #[v] w fun e w' => ∃ v', e = .returned v' ∧ Below w.heap.size w w' ∧ p.C i v' w') :
  Step os Q a p B B0 w0 i { dst := d, op := .call { callee := .value (.func f), args := #[x], argTypes := ts }, type := ty, pos := ps, after := af, guard := gd } :=
 stg_call hp hF hg hen fun L vs w hG hd => ⟨#[_], by simp, hC _ _ (hx L vs w hG hd)⟩

theorem g_call2 {x y : Operand} {F G : Value → World → Prop} {f : FuncId} {ts : Array TypeId} (hp : PMono p B B0) (hF : p.Free i) (hg : Gd os a p B B0 w0 af gd) (hen : ∀ args w, (callFunc f args).run Try.prog w = .ok (.enter f args) w)
  (hx : Src os a p B B0 w0 af x F) (hy : Src os a p B B0 w0 af y G) (hC : ∀ v v' w, F v w → G v' w → Calls Try.prog f #[v, v'] w fun e w' => ∃ v', e = .returned v' ∧ Below w.heap.size w w' ∧ p.C i v' w') :
  Step os Q a p B B0 w0 i { dst := d, op := .call { callee := .value (.func f), args := #[x, y], argTypes := ts }, type := ty, pos := ps, after := af, guard := gd } :=
 stg_call hp hF hg hen fun L vs w hG hd => ⟨#[_, _], by simp, hC _ _ _ (hx L vs w hG hd) (hy L vs w hG hd)⟩

end

end Go.Proofs.Ytihhlaagndingaa

namespace Go.Proofs.Ytihhlaagndingaa
open Go Go.RowKit

def Tame (us : List Value) : Prop := ∀ u ∈ us, ∀ q, u ≠ .int .u32 q

def At (w : World) (b : Nat) (us : List Value) : Prop := ∀ j, j < us.length → w.cell? ⟨b, j, none⟩ = some (us.getD j undef) ∧ w.frozen? ⟨b, j, none⟩ = false

def putFrom (w : World) (b : Nat) : Nat → List Value → World
 | _, [] => w
 | j, u :: us => putFrom (w.setCell ⟨b, j, none⟩ u) b (j + 1) us

theorem putFrom_size (b : Nat) : ∀ (us : List Value) (j : Nat) (w : World), (putFrom w b j us).heap.size = w.heap.size
 | [], _, _ => rfl
 | u :: us, j, w => by
  show (putFrom (w.setCell ⟨b, j, none⟩ u) b (j + 1) us).heap.size = _
  rw [putFrom_size b us, World.size_setCell]

theorem putFrom_below {B b : Nat} (hb : B ≤ b) : ∀ (us : List Value) (j : Nat) (w w' : World), Below B w w' → Below B w (putFrom w' b j us)
 | [], _, _, _, h => h
 | u :: us, j, w, _, h => putFrom_below hb us (j + 1) w _ (h.setCell hb u)

theorem putFrom_frozen (b : Nat) (x : Addr) : ∀ (us : List Value) (j : Nat) (w : World), (putFrom w b j us).frozen? x = w.frozen? x
 | [], _, _ => rfl
 | u :: us, j, w => by
  show (putFrom (w.setCell ⟨b, j, none⟩ u) b (j + 1) us).frozen? x = _
  rw [putFrom_frozen b x us, World.frozen?_setCell]

theorem putFrom_other {b : Nat} {x : Addr} (h : x.block ≠ b) : ∀ (us : List Value) (j : Nat) (w : World), (putFrom w b j us).cell? x = w.cell? x
 | [], _, _ => rfl
 | u :: us, j, w => by
  show (putFrom (w.setCell ⟨b, j, none⟩ u) b (j + 1) us).cell? x = _
  rw [putFrom_other h us, World.cell?_setCell_other _ _ _ _ (by intro e; exact h (congrArg Addr.block e).symm)]

theorem putFrom_before {b i : Nat} : ∀ (us : List Value) (j : Nat) (w : World), i < j → (putFrom w b j us).cell? ⟨b, i, none⟩ = w.cell? ⟨b, i, none⟩
 | [], _, _, _ => rfl
 | u :: us, j, w, h => by
  show (putFrom (w.setCell ⟨b, j, none⟩ u) b (j + 1) us).cell? _ = _
  rw [putFrom_before us (j + 1) _ (by omega), World.cell?_setCell_other _ _ _ _ (by intro e; injection e with e1 e2; omega)]

theorem putFrom_cell {b : Nat} : ∀ (us : List Value) (j : Nat) (w : World), (∀ i, i < us.length → (w.cell? ⟨b, j + i, none⟩).isSome) → ∀ i, i < us.length → (putFrom w b j us).cell? ⟨b, j + i, none⟩ = some (us.getD i undef)
 | [], _, _, _, i, h => by simp at h
 | u :: us, j, w, hs, i, h => by
  show (putFrom (w.setCell ⟨b, j, none⟩ u) b (j + 1) us).cell? _ = _
  match i, h with
  | 0, _ =>
   rw [Nat.add_zero, putFrom_before us (j + 1) _ (by omega)]
   refine World.cell?_setCell_same' _ _ _ ?_
   have := hs 0 (by simp)
   simpa using this
  | i + 1, h =>
   rw [show j + (i + 1) = j + 1 + i by omega]
   have hl : i < us.length := by simpa using h
   rw [putFrom_cell us (j + 1) _ (fun k hk => ?_) i hl]
   ·simp
   ·rw [World.cell?_setCell_other _ _ _ _ (by intro e; injection e with e1 e2; omega)]
    have := hs (k + 1) (by simp; omega)
    rw [show j + 1 + k = j + (k + 1) by omega]
    exact this

theorem At.put {w : World} {b : Nat} {us us' : List Value} (h : At w b us) (hl : us'.length = us.length) : At (putFrom w b 0 us') b us' := by
 intro j hj
 refine ⟨?_, by rw [putFrom_frozen]; exact (h j (by omega)).2⟩
 have := putFrom_cell (b := b) us' 0 w (fun i hi => by rw [Nat.zero_add, (h i (by omega)).1]; rfl) j hj
 rwa [Nat.zero_add] at this

theorem At.other {w : World} {b b' : Nat} {us us' : List Value} (h : At w b us) (hne : b ≠ b') : At (putFrom w b' 0 us') b us := by
 intro j hj
 rw [putFrom_frozen, putFrom_other (by exact hne)]
 exact h j hj

theorem At.lt {w : World} {b : Nat} {us : List Value} (h : At w b us) (h0 : 0 < us.length) : b < w.heap.size := World.block_lt_of_cell? w ⟨b, 0, none⟩ (h 0 h0).1

theorem At.mono {w w' : World} {b B : Nat} {us : List Value} (h : At w b us) (hb : Below B w w') (hlt : b < B) : At w' b us := by
 intro j hj
 obtain ⟨h1, h2⟩ := h j hj
 refine ⟨(hb.cell (p := ⟨b, j, none⟩) hlt).trans h1, ?_⟩
 have := hb.block b hlt
 unfold World.frozen? at h2 ⊢
 simp only [this]
 exact h2

theorem At.new (w : World) (us : List Value) (t : TypeId) : At (w.alloc (.cells us.toArray t)) w.heap.size us := by
 intro j hj
 have h := heap_alloc_new w (.cells us.toArray t)
 refine ⟨?_, ?_⟩
 ·rw [cell_of_row _ _ _ _ _ (0, 0) h]
  simp [hj]
 ·simp only [World.frozen?]
  rw [h]
  simp

theorem Sl.putFrom {b : Nat} {ao : Option Addr} {n c : Nat} {xs : List Int} : ∀ (us : List Value) (j : Nat) (w : World), (∀ i, i < us.length → ∃ v, w.cell? ⟨b, j + i, none⟩ = some v ∧ ∀ q, v ≠ .int .u32 q) → Sl w ao n c xs → Sl (putFrom w b j us) ao n c xs
 | [], _, _, _, h => h
 | u :: us, j, w, hs, h => by
  show Sl (Go.Proofs.Ytihhlaagndingaa.putFrom (w.setCell ⟨b, j, none⟩ u) b (j + 1) us) ao n c xs
  obtain ⟨v, hv, hq⟩ := hs 0 (by simp)
  refine Sl.putFrom us (j + 1) _ (fun i hi => ?_) (h.setOther (a := ⟨b, j, none⟩) hv hq u)
  obtain ⟨v2, hv2, hq2⟩ := hs (i + 1) (by simp; omega)
  refine ⟨v2, ?_, hq2⟩
  rw [World.cell?_setCell_other _ _ _ _ (by intro e; injection e with e1 e2; omega), show j + 1 + i = j + (i + 1) by omega]
  exact hv2

theorem Sl.putAt {w : World} {b : Nat} {us us' : List Value} {ao : Option Addr} {n c : Nat} {xs : List Int} (h : Sl w ao n c xs) (ha : At w b us) (ht : Tame us) (hl : us'.length = us.length) : Sl (Go.Proofs.Ytihhlaagndingaa.putFrom w b 0 us') ao n c xs :=
 Sl.putFrom us' 0 w (fun i hi => ⟨us.getD i undef, by rw [Nat.zero_add]; exact (ha i (by omega)).1, ht _ (by
  have : i < us.length := by omega
  have e : us.getD i undef = us[i] := by simp [List.getD, this]
  rw [e]; exact List.getElem_mem _)⟩) h

theorem Num.putAt {w : World} {b : Nat} {us us' : List Value} {v : Value} {z : Int} (h : Num w v z) (ha : At w b us) (ht : Tame us) (hl : us'.length = us.length) : Num (putFrom w b 0 us') v z := by
 obtain ⟨neg, ao, n, c, xs, hv, hs, hn, hz⟩ := h
 exact ⟨neg, ao, n, c, xs, hv, hs.putAt ha ht hl, hn, hz⟩

structure Fq where
 P : Value → World → Prop
 mono : ∀ {v : Value} {w w' : World}, P v w → Below w.heap.size w w' → P v w'
 put : ∀ {v : Value} {w : World} {b : Nat} {us us' : List Value}, P v w → At w b us → Tame us → us'.length = us.length → P v (putFrom w b 0 us')

def Fq.num (z : Int) : Fq := ⟨fun v w => Num w v z, fun h hb => h.mono hb, fun h ha ht hl => h.putAt ha ht hl⟩
def Fq.pre (P : Value → Prop) : Fq := ⟨fun v _ => P v, fun h _ => h, fun h _ _ _ => h⟩
def Fq.is (u : Value) : Fq := Fq.pre fun v => v = u
def Fq.any : Fq := Fq.pre fun _ => True
def Fq.tup2 (F G : Fq) : Fq := ⟨fun v w => ∃ v1 v2, v = .tuple #[v1, v2] ∧ F.P v1 w ∧ G.P v2 w, fun ⟨v1, v2, e, h1, h2⟩ hb => ⟨v1, v2, e, F.mono h1 hb, G.mono h2 hb⟩, fun ⟨v1, v2, e, h1, h2⟩ ha ht hl => ⟨v1, v2, e, F.put h1 ha ht hl, G.put h2 ha ht hl⟩⟩
def Fq.tup3 (F G H : Fq) : Fq := ⟨fun v w => ∃ v1 v2 v3, v = .tuple #[v1, v2, v3] ∧ F.P v1 w ∧ G.P v2 w ∧ H.P v3 w, fun ⟨v1, v2, v3, e, h1, h2, h3⟩ hb => ⟨v1, v2, v3, e, F.mono h1 hb, G.mono h2 hb, H.mono h3 hb⟩,
 fun ⟨v1, v2, v3, e, h1, h2, h3⟩ ha ht hl => ⟨v1, v2, v3, e, F.put h1 ha ht hl, G.put h2 ha ht hl, H.put h3 ha ht hl⟩⟩
def Pair (w : World) (v : Value) (n d : Int) : Prop := ∃ p q r s, v = .agg #[p, q, r, s] ∧ Num w (.agg #[p, q]) n ∧ Num w (.agg #[r, s]) d
def Fq.pair (n d : Int) : Fq := ⟨fun v w => Pair w v n d, fun ⟨p, q, r, s, e, h1, h2⟩ hb => ⟨p, q, r, s, e, h1.mono hb, h2.mono hb⟩, fun ⟨p, q, r, s, e, h1, h2⟩ ha ht hl => ⟨p, q, r, s, e, h1.putAt ha ht hl, h2.putAt ha ht hl⟩⟩

theorem Pair.mono {w w' : World} {v : Value} {n d : Int} (h : Pair w v n d) (hb : Below w.heap.size w w') : Pair w' v n d := (Fq.pair n d).mono h hb

def Bq (w : World) (b m : Nat) (F : Fq) : Prop := ∃ us : List Value, us.length = m ∧ 0 < m ∧ At w b us ∧ Tame us ∧ F.P (.agg us.toArray) w

theorem Bq.lt {w : World} {b m : Nat} {F : Fq} (h : Bq w b m F) : b < w.heap.size := by
 obtain ⟨us, h1, h2, h3, _⟩ := h
 exact h3.lt (by omega)
theorem Bq.mono {w w' : World} {b m : Nat} {F : Fq} (h : Bq w b m F) (hb : Below w.heap.size w w') : Bq w' b m F := by
 have hl := h.lt
 obtain ⟨us, h1, h2, h3, h4, h5⟩ := h
 exact ⟨us, h1, h2, h3.mono hb hl, h4, F.mono h5 hb⟩
theorem Bq.other {w : World} {b b' m m' : Nat} {F F' : Fq} (h : Bq w b m F) (h' : Bq w b' m' F') (hne : b ≠ b') {us' : List Value} (hl : us'.length = m') : Bq (putFrom w b' 0 us') b m F := by
 obtain ⟨us, h1, h2, h3, h4, h5⟩ := h
 obtain ⟨vs, g1, g2, g3, g4, g5⟩ := h'
 exact ⟨us, h1, h2, h3.other hne, h4, F.put h5 g3 g4 (by omega)⟩
theorem Bq.same {w : World} {b m : Nat} {F F' : Fq} (h : Bq w b m F) {us' : List Value} (hl : us'.length = m) (ht : Tame us') (hF : F'.P (.agg us'.toArray) w) : Bq (putFrom w b 0 us') b m F' := by
 obtain ⟨us, h1, h2, h3, h4, h5⟩ := h
 exact ⟨us', hl, h2, h3.put (by omega), ht, F'.put hF h3 h4 (by omega)⟩

structure Ob where
 b : Nat
 k : Nat
 m : Nat
 F0 : Fq
 F1 : Fq
inductive Knd where
 | sl (l : Nat)
 | clo (f : FuncId)
@[reducible] instance (l : Nat) : OfNat Knd l := ⟨.sl l⟩
instance : Coe Nat Knd := ⟨.sl⟩
def cloV (f : FuncId) (b : Nat) : Value := .func (.func f) #[] #[.pointer (some ⟨b, 0, none⟩)]
structure Nb where
 i : Nat
 k : Nat
 m : Nat
 F0 : Fq
 F1 : Fq
 /-- A slice, a function, or nothing for a pointer. -/
 s : Option Knd
def blockOf : Value → Nat
 | .pointer (some x) => x.block
 | .slice (some x) _ _ => x.block
 | .func _ _ ⟨.pointer (some x) :: _⟩ => x.block
 | _ => 0
def Nb.ptr (n : Nb) (b : Nat) : Value := match n.s with
 | none => .pointer (some ⟨b, 0, none⟩)
 | some (.sl l) => .slice (some ⟨b, 0, none⟩) l l
 | some (.clo f) => cloV f b
theorem Nb.block_ptr (n : Nb) (b : Nat) : blockOf (n.ptr b) = b := by
 unfold Nb.ptr
 split <;> rfl
def Nb.now (n : Nb) (L : Nat → Bool) : Fq := if (n.s.isSome || L n.k) = true then n.F1 else n.F0
theorem Nb.now_up {n : Nb} {L : Nat → Bool} {i : Nat} {t : Bool} (h : n.k ≠ i) : n.now (up L i t) = n.now L := by
 unfold Nb.now
 rw [up_ne _ _ h]
theorem Nb.now_same (n : Nb) (L : Nat → Bool) : n.now (up L n.k true) = n.F1 := by
 unfold Nb.now
 rw [up_same, Bool.or_true, if_pos rfl]
theorem Nb.now_on {n : Nb} {L : Nat → Bool} (h : L n.k = true) : n.now L = n.F1 := by
 unfold Nb.now
 rw [h, Bool.or_true, if_pos rfl]
theorem Nb.now_off {n : Nb} {L : Nat → Bool} (hs : n.s = none) (h : L n.k = false) : n.now L = n.F0 := by
 unfold Nb.now
 rw [h, hs]
 rfl
structure Pq where
 C : List Fq
 old : List Ob
 new : List Nb
def Pq.c (p : Pq) (j : Nat) : Fq := (p.C[j]?).getD Fq.any

structure Pq.G (p : Pq) (B B0 : Nat) (w0 : World) (L : Nat → Bool) (vs : Nat → Value) (w : World) : Prop where
 below : Below B w0 w
 size : B0 ≤ w.heap.size
 val : ∀ j, L j = true → (p.c j).P (vs j) w
 old : ∀ o ∈ p.old, Bq w o.b o.m (if L o.k then o.F1 else o.F0)
 new : ∀ n ∈ p.new, L n.i = true → ∃ b, vs n.i = n.ptr b ∧ B0 ≤ b ∧ Bq w b n.m (n.now L)
 apart : ∀ n ∈ p.new, ∀ m ∈ p.new, n.i ≠ m.i → L n.i = true → L m.i = true → blockOf (vs n.i) ≠ blockOf (vs m.i)

structure Pq.Ok (p : Pq) (B B0 : Nat) : Prop where
 oldlt : ∀ o ∈ p.old, B ≤ o.b ∧ o.b < B0
 oldne : ∀ o ∈ p.old, ∀ q ∈ p.old, o.k ≠ q.k → o.b ≠ q.b
 oldinj : ∀ o ∈ p.old, ∀ q ∈ p.old, o.k = q.k → o = q
 newinj : ∀ n ∈ p.new, ∀ m ∈ p.new, n.i = m.i → n = m
 newink : ∀ n ∈ p.new, ∀ m ∈ p.new, n.k = m.k → n = m
 le : B ≤ B0

def Pq.Free (p : Pq) (i : Nat) : Prop := (∀ o ∈ p.old, o.k ≠ i) ∧ ∀ n ∈ p.new, n.i ≠ i ∧ n.k ≠ i

theorem Pq.G.plain {p : Pq} {B B0 : Nat} {w0 w w' : World} {L : Nat → Bool} {vs : Nat → Value} (h : p.G B B0 w0 L vs w) (hp : p.Ok B B0) {i : Nat} {v : Value} (hF : p.Free i) (hb : Below w.heap.size w w') (hC : (p.c i).P v w') :
  p.G B B0 w0 (up L i true) (up vs i v) w' where
 below := h.below.trans (hb.mono (Nat.le_trans hp.le h.size))
 size := Nat.le_trans h.size hb.size
 val := fun j hj => by
  by_cases hji : j = i
  ·subst hji; rw [up_same]; exact hC
  ·rw [up_ne _ _ hji] at hj ⊢; exact (p.c j).mono (h.val j hj) hb
 old := fun o ho => by rw [up_ne _ _ (hF.1 o ho)]; exact (h.old o ho).mono hb
 new := fun n hn hj => by
  rw [up_ne _ _ (hF.2 n hn).1] at hj ⊢
  rw [Nb.now_up (hF.2 n hn).2]
  obtain ⟨b, e1, e2, e3⟩ := h.new n hn hj
  exact ⟨b, e1, e2, e3.mono hb⟩
 apart := fun n hn m hm hne hj hk => by
  rw [up_ne _ _ (hF.2 n hn).1] at hj ⊢
  rw [up_ne _ _ (hF.2 m hm).1] at hk ⊢
  exact h.apart n hn m hm hne hj hk

theorem Pq.G.lay {p : Pq} {B B0 : Nat} {w0 w : World} {L : Nat → Bool} {vs : Nat → Value} (h : p.G B B0 w0 L vs w) (hp : p.Ok B B0) {n0 : Nb} (hi : n0 ∈ p.new) {F : Fq} (hk : n0.now (up L n0.i true) = F)
  (hC : ∀ v w', (p.c n0.i).P v w') (h1 : ∀ o ∈ p.old, o.k ≠ n0.i) (h2 : ∀ n ∈ p.new, n.i ≠ n0.i → n.k ≠ n0.i) (t : TypeId) {us : List Value} (hl : us.length = n0.m) (h0 : 0 < n0.m) (ht : Tame us) (hF : F.P (.agg us.toArray) (w.alloc (.cells us.toArray t))) :
  p.G B B0 w0 (up L n0.i true) (up vs n0.i (n0.ptr w.heap.size)) (w.alloc (.cells us.toArray t)) := by
 have hb := alloc_below w (.cells us.toArray t)
 have hbx : Bq (w.alloc (.cells us.toArray t)) w.heap.size n0.m F := ⟨us, hl, h0, At.new w us t, ht, hF⟩
 refine ⟨h.below.trans (hb.mono (Nat.le_trans hp.le h.size)), Nat.le_trans h.size hb.size, fun j hj => ?_, fun o ho => ?_, fun n hn hj => ?_, fun n hn m hm hne hj hk' => ?_⟩
 ·by_cases hji : j = n0.i
  ·subst hji; exact hC _ _
  ·rw [up_ne _ _ hji] at hj ⊢; exact (p.c j).mono (h.val j hj) hb
 ·rw [up_ne _ _ (h1 o ho)]; exact (h.old o ho).mono hb
 ·by_cases hni : n.i = n0.i
  ·have e := hp.newinj n hn _ hi hni
   subst e
   rw [up_same, hk]
   exact ⟨_, rfl, h.size, hbx⟩
  ·rw [Nb.now_up (h2 n hn hni)]
   rw [up_ne _ _ hni] at hj ⊢
   obtain ⟨b, e1, e2, e3⟩ := h.new n hn hj
   exact ⟨b, e1, e2, e3.mono hb⟩
 ·by_cases hni : n.i = n0.i
  ·have hmi : m.i ≠ n0.i := fun e => hne (hni.trans e.symm)
   rw [hni, up_same]
   rw [up_ne _ _ hmi] at hk' ⊢
   obtain ⟨b, e1, e2, e3⟩ := h.new m hm hk'
   rw [e1, Nb.block_ptr, Nb.block_ptr]
   have := e3.lt
   omega
  ·rw [up_ne _ _ hni] at hj ⊢
   by_cases hmi : m.i = n0.i
   ·rw [hmi, up_same]
    obtain ⟨b, e1, e2, e3⟩ := h.new n hn hj
    rw [e1, Nb.block_ptr, Nb.block_ptr]
    have := e3.lt
    omega
   ·rw [up_ne _ _ hmi] at hk' ⊢
    exact h.apart n hn m hm hne hj hk'

theorem Pq.G.alloc {p : Pq} {B B0 : Nat} {w0 w : World} {L : Nat → Bool} {vs : Nat → Value} (h : p.G B B0 w0 L vs w) (hp : p.Ok B B0) {n0 : Nb} (hi : n0 ∈ p.new) (hsl : n0.s = none) (hk : L n0.k = false) (hki : n0.k ≠ n0.i)
  (hC : ∀ v w', (p.c n0.i).P v w') (h1 : ∀ o ∈ p.old, o.k ≠ n0.i) (h2 : ∀ n ∈ p.new, n.k ≠ n0.i) (t : TypeId) {us : List Value} (hl : us.length = n0.m) (h0 : 0 < n0.m) (ht : Tame us) (hF : ∀ w', n0.F0.P (.agg us.toArray) w') :
  p.G B B0 w0 (up L n0.i true) (up vs n0.i (.pointer (some ⟨w.heap.size, 0, none⟩))) (w.alloc (.cells us.toArray t)) := by
 have := h.lay hp hi (F := n0.F0) (by rw [Nb.now_up hki]; exact Nb.now_off hsl hk) hC h1 (fun n hn _ => h2 n hn) t hl h0 ht (hF _)
 have e : n0.ptr w.heap.size = .pointer (some ⟨w.heap.size, 0, none⟩) := by unfold Nb.ptr; rw [hsl]
 rwa [e] at this

theorem Pq.G.storeNew {p : Pq} {B B0 : Nat} {w0 w : World} {L : Nat → Bool} {vs : Nat → Value} (h : p.G B B0 w0 L vs w) (hp : p.Ok B B0) {n0 : Nb} (hi : n0 ∈ p.new) (hLi : L n0.i = true)
  {us : List Value} (hl : us.length = n0.m) (ht : Tame us) (hF : n0.F1.P (.agg us.toArray) w) (hC : ∀ v w', (p.c n0.k).P v w') (h1 : ∀ o ∈ p.old, o.k ≠ n0.k) (h2 : ∀ n ∈ p.new, n.i ≠ n0.k) {b : Nat} (hb : vs n0.i = n0.ptr b) (v : Value) :
  p.G B B0 w0 (up L n0.k true) (up vs n0.k v) (putFrom w b 0 us) := by
 obtain ⟨b', hb', hB0, hbox⟩ := h.new _ hi hLi
 have hbb : b' = b := by
  have := congrArg blockOf (hb'.symm.trans hb)
  rwa [Nb.block_ptr, Nb.block_ptr] at this
 subst hbb
 have hsz : B0 ≤ (putFrom w b' 0 us).heap.size := by rw [putFrom_size]; exact h.size
 have hbox0 := hbox
 obtain ⟨us0, g1, g2, g3, g4, g5⟩ := hbox0
 refine ⟨putFrom_below (Nat.le_trans hp.le hB0) us 0 _ _ h.below, hsz, fun j hj => ?_, fun o ho => ?_, fun n hn hj => ?_, fun n hn m hm hne hj hk' => ?_⟩
 ·by_cases hji : j = n0.k
  ·subst hji; exact hC _ _
  ·rw [up_ne _ _ hji] at hj ⊢; exact (p.c j).put (h.val j hj) g3 g4 (by omega)
 ·rw [up_ne _ _ (h1 o ho)]
  exact (h.old o ho).other hbox (by have := (hp.oldlt o ho).2; omega) hl
 ·rw [up_ne _ _ (h2 n hn)] at hj ⊢
  by_cases hnk : n.k = n0.k
  ·have e := hp.newink n hn _ hi hnk
   subst e
   refine ⟨b', hb', hB0, ?_⟩
   rw [Nb.now_same]
   exact hbox.same hl ht hF
  ·rw [Nb.now_up hnk]
   obtain ⟨b2, e1, e2, e3⟩ := h.new n hn hj
   refine ⟨b2, e1, e2, e3.other hbox (fun e => ?_) hl⟩
   have hni : n.i ≠ n0.i := fun e' => by
    have e2 := hp.newinj n hn _ hi e'
    exact hnk (by rw [e2])
   exact h.apart n hn _ hi hni hj hLi (by rw [e1, hb', Nb.block_ptr, Nb.block_ptr, e])
 ·rw [up_ne _ _ (h2 n hn)] at hj ⊢
  rw [up_ne _ _ (h2 m hm)] at hk' ⊢
  exact h.apart n hn m hm hne hj hk'

theorem Pq.G.storeOld {p : Pq} {B B0 : Nat} {w0 w : World} {L : Nat → Bool} {vs : Nat → Value} (h : p.G B B0 w0 L vs w) (hp : p.Ok B B0) {o0 : Ob} (hi : o0 ∈ p.old)
  {us : List Value} (hl : us.length = o0.m) (ht : Tame us) (hF : o0.F1.P (.agg us.toArray) w) (hC : ∀ v w', (p.c o0.k).P v w') (h2 : ∀ n ∈ p.new, n.i ≠ o0.k ∧ n.k ≠ o0.k) (v : Value) :
  p.G B B0 w0 (up L o0.k true) (up vs o0.k v) (putFrom w o0.b 0 us) := by
 have hbox := h.old _ hi
 have hblt := hp.oldlt _ hi
 have hsz : B0 ≤ (putFrom w o0.b 0 us).heap.size := by rw [putFrom_size]; exact h.size
 have hbox0 := hbox
 obtain ⟨us0, g1, g2, g3, g4, g5⟩ := hbox0
 refine ⟨putFrom_below hblt.1 us 0 _ _ h.below, hsz, fun j hj => ?_, fun o ho => ?_, fun n hn hj => ?_, fun n hn m hm hne hj hk' => ?_⟩
 ·by_cases hji : j = o0.k
  ·subst hji; exact hC _ _
  ·rw [up_ne _ _ hji] at hj ⊢; exact (p.c j).put (h.val j hj) g3 g4 (by omega)
 ·by_cases hok : o.k = o0.k
  ·have e := hp.oldinj o ho _ hi hok
   subst e
   rw [up_same]
   exact hbox.same hl ht hF
  ·rw [up_ne _ _ hok]
   exact (h.old o ho).other hbox (hp.oldne o ho _ hi hok) hl
 ·rw [up_ne _ _ (h2 n hn).1] at hj ⊢
  rw [Nb.now_up (h2 n hn).2]
  obtain ⟨b2, e1, e2, e3⟩ := h.new n hn hj
  exact ⟨b2, e1, e2, e3.other hbox (by have := hblt.2; omega) hl⟩
 ·rw [up_ne _ _ (h2 n hn).1] at hj ⊢
  rw [up_ne _ _ (h2 m hm).1] at hk' ⊢
  exact h.apart n hn m hm hne hj hk'

theorem wp_region_inv_plain {P : Program} {ops : Array Oper} {Q : Exit → Act → World → Prop} {id : Nat} {a : Act} {w : World} (hA : ApartAll ops)
  (hB : ∀ i o, ops[i]? = some o → ∀ e ∈ o.after, Region.binds .any e = true → e.on < i) (G : (Nat → Bool) → (Nat → Value) → World → Prop)
  (h0 : G (fun _ => false) (fun _ => undef) w)
  (hs : ∀ i o, ops[i]? = some o → ∀ L vs w, G L vs w → L i = false → (∀ e ∈ o.after, Region.binds .any e = true → L e.on = true) → ClosedL ops L →
   wpOp P ops Q i (fun a' w' => ∃ v, a' = (lay ops L vs ops.size a).put o.dst v ∧ G (up L i true) (up vs i v) w') (lay ops L vs ops.size a) w)
  (hf : ∀ L vs w, (∀ j, j < ops.size → L j = true) → G L vs w → Q .normal (lay ops L vs ops.size a) w) : (Code.region id ops false).wp P Q a w := by
 refine wp_region ?_
 have hL1 : ∀ i, up (fun j => decide (j < i)) i true = fun j => decide (j < i + 1) := fun i => by
  funext j
  unfold up
  split
  ·rename_i h; subst h; simp
  ·rename_i h; simp; omega
 have key : ∀ (k i : Nat) (vs : Nat → Value) (w' : World), i + k = ops.size → G (fun j => decide (j < i)) vs w' → wpOps P ops Q (List.range' i k) (lay ops (fun j => decide (j < i)) vs ops.size a) w' := by
  intro k
  induction k with
  | zero =>
   intro i vs w' hi hG
   show Q .normal _ _
   exact hf _ vs w' (fun j hj => by simp; omega) hG
  | succ k ih =>
   intro i vs w' hi hG
   rw [List.range'_succ, wpOps_cons]
   have hlt : i < ops.size := by omega
   have ho : ops[i]? = some ops[i] := by simp [hlt]
   refine wpOp_mono ?_ (hs i _ ho _ vs w' hG (by simp) (fun e he hb => by have := hB i _ ho e he hb; simpa using this) (fun j o hj hl e he hb => by have h1 := hB j o hj e he hb; simp at hl ⊢; omega))
   rintro a2 w2 ⟨v, rfl, hG2⟩
   have hdst : dstOf ops i = ops[i].dst := by simp [dstOf, hlt]
   have h3 := lay_set (L := fun j => decide (j < i)) (vs := vs) (i := i) (v := v) hA (by simp) ops.size a hlt
   rw [hL1] at hG2 h3
   rw [← hdst, ← h3]
   exact ih (i + 1) (up vs i v) w2 (by omega) hG2
 have h := key ops.size 0 (fun _ => undef) w (by omega) (by simpa using h0)
 rw [List.range_eq_range']
 have e : ∀ k, lay ops (fun j => decide (j < 0)) (fun _ => undef) k a = a := fun k => by
  induction k with
  | zero => rfl
  | succ k ih => simp only [lay, ih]; simp
 rw [e] at h
 exact h

structure Fr (w0 : World) (bs : List (Nat × Nat × Fq)) (W : World) : Prop where
 below : Below w0.heap.size w0 W
 boxes : ∀ x ∈ bs, w0.heap.size ≤ x.1 ∧ Bq W x.1 x.2.1 x.2.2
 apart : (bs.map (·.1)).Nodup

theorem Fr.mono {w0 W W' : World} {bs : List (Nat × Nat × Fq)} (h : Fr w0 bs W) (hb : Below W.heap.size W W') : Fr w0 bs W' :=
 ⟨h.below.trans (hb.mono h.below.size), fun x hx => ⟨(h.boxes x hx).1, (h.boxes x hx).2.mono hb⟩, h.apart⟩

theorem Fr.start (w0 : World) : Fr w0 [] w0 := ⟨Below.refl _ _, fun _ h => by simp at h, by simp⟩

theorem Fr.push {w0 W : World} {bs : List (Nat × Nat × Fq)} (h : Fr w0 bs W) {m : Nat} {F : Fq} {us : List Value} (t : TypeId) (hl : us.length = m) (h0 : 0 < m) (ht : Tame us) (hF : F.P (.agg us.toArray) W) :
  Fr w0 ((W.heap.size, m, F) :: bs) (W.alloc (.cells us.toArray t)) := by
 have hb := alloc_below W (.cells us.toArray t)
 have h2 := h.mono hb
 refine ⟨h2.below, fun x hx => ?_, ?_⟩
 ·rcases List.mem_cons.1 hx with rfl | hx
  ·exact ⟨h.below.size, us, hl, h0, At.new W us t, ht, F.mono hF hb⟩
  ·exact h2.boxes x hx
 ·rw [List.map_cons, List.nodup_cons]
  refine ⟨fun hm => ?_, h.apart⟩
  obtain ⟨x, hx, e⟩ := List.mem_map.1 hm
  have := (h.boxes x hx).2.lt
  omega

def oldOf : List (Nat × Nat × Fq) → List (Option (Nat × Fq)) → Nat → List Ob
 | (b, m, F) :: r, none :: ks, d => ⟨b, d, m, F, F⟩ :: oldOf r ks (d + 1)
 | (b, m, F) :: r, some (k, F1) :: ks, d => ⟨b, k, m, F, F1⟩ :: oldOf r ks (d + 1)
 | _, _, _ => []
def oldTo : List (Nat × Nat × Fq) → List (Option (Nat × Fq)) → List (Nat × Nat × Fq)
 | (b, m, F) :: r, none :: ks => (b, m, F) :: oldTo r ks
 | (b, m, _) :: r, some (_, F1) :: ks => (b, m, F1) :: oldTo r ks
 | _, _ => []

def keysOf : List (Option (Nat × Fq)) → Nat → List Nat
 | none :: ks, d => d :: keysOf ks (d + 1)
 | some (k, _) :: ks, d => k :: keysOf ks (d + 1)
 | [], _ => []

theorem oldOf_mem {bs : List (Nat × Nat × Fq)} {ks : List (Option (Nat × Fq))} {d : Nat} {o : Ob} (h : o ∈ oldOf bs ks d) : (o.b, o.m, o.F0) ∈ bs := by
 induction bs generalizing ks d with
 | nil => simp [oldOf] at h
 | cons x r ih =>
  obtain ⟨b, m, F⟩ := x
  cases ks with
  | nil => simp [oldOf] at h
  | cons k ks =>
   cases k with
   | none =>
    simp only [oldOf, List.mem_cons] at h
    rcases h with rfl | h
    ·simp
    ·exact List.mem_cons_of_mem _ (ih h)
   | some kk =>
    obtain ⟨k, F1⟩ := kk
    simp only [oldOf, List.mem_cons] at h
    rcases h with rfl | h
    ·simp
    ·exact List.mem_cons_of_mem _ (ih h)

theorem oldOf_key {bs : List (Nat × Nat × Fq)} {ks : List (Option (Nat × Fq))} {d : Nat} {o : Ob} (h : o ∈ oldOf bs ks d) : o.k ∈ keysOf ks d := by
 induction bs generalizing ks d with
 | nil => simp [oldOf] at h
 | cons x r ih =>
  obtain ⟨b, m, F⟩ := x
  cases ks with
  | nil => simp [oldOf] at h
  | cons k ks =>
   cases k with
   | none =>
    simp only [oldOf, List.mem_cons] at h
    rcases h with rfl | h
    ·simp [keysOf]
    ·exact List.mem_cons_of_mem _ (ih h)
   | some kk =>
    obtain ⟨k, F1⟩ := kk
    simp only [oldOf, List.mem_cons] at h
    rcases h with rfl | h
    ·simp [keysOf]
    ·exact List.mem_cons_of_mem _ (ih h)

theorem oldOf_inj {bs : List (Nat × Nat × Fq)} {ks : List (Option (Nat × Fq))} {d : Nat} (hk : (keysOf ks d).Nodup) : ∀ o ∈ oldOf bs ks d, ∀ q ∈ oldOf bs ks d, o.k = q.k → o = q := by
 induction bs generalizing ks d with
 | nil => intro o ho; simp [oldOf] at ho
 | cons x r ih =>
  obtain ⟨b, m, F⟩ := x
  cases ks with
  | nil => intro o ho; simp [oldOf] at ho
  | cons k ks =>
   cases k with
   | none =>
    simp only [keysOf, List.nodup_cons] at hk
    intro o ho q hq he
    simp only [oldOf, List.mem_cons] at ho hq
    rcases ho with rfl | ho
    ·rcases hq with rfl | hq
     ·rfl
     ·exact absurd (by have h := oldOf_key hq; rwa [← show d = q.k from he] at h) hk.1
    ·rcases hq with rfl | hq
     ·exact absurd (by have h := oldOf_key ho; rwa [← show d = o.k from he.symm] at h) hk.1
     ·exact ih hk.2 o ho q hq he
   | some kk =>
    obtain ⟨k, F1⟩ := kk
    simp only [keysOf, List.nodup_cons] at hk
    intro o ho q hq he
    simp only [oldOf, List.mem_cons] at ho hq
    rcases ho with rfl | ho
    ·rcases hq with rfl | hq
     ·rfl
     ·exact absurd (by have h := oldOf_key hq; rwa [← show k = q.k from he] at h) hk.1
    ·rcases hq with rfl | hq
     ·exact absurd (by have h := oldOf_key ho; rwa [← show k = o.k from he.symm] at h) hk.1
     ·exact ih hk.2 o ho q hq he

theorem oldOf_ne {bs : List (Nat × Nat × Fq)} {ks : List (Option (Nat × Fq))} {d : Nat} (hb : (bs.map (·.1)).Nodup) : ∀ o ∈ oldOf bs ks d, ∀ q ∈ oldOf bs ks d, o.k ≠ q.k → o.b ≠ q.b := by
 induction bs generalizing ks d with
 | nil => intro o ho; simp [oldOf] at ho
 | cons x r ih =>
  obtain ⟨b, m, F⟩ := x
  simp only [List.map_cons, List.nodup_cons] at hb
  have hne : ∀ {ks d} {q : Ob}, q ∈ oldOf r ks d → q.b ≠ b := fun hq e => hb.1 (by rw [← e]; exact List.mem_map.2 ⟨_, oldOf_mem hq, rfl⟩)
  cases ks with
  | nil => intro o ho; simp [oldOf] at ho
  | cons k ks =>
   cases k with
   | none =>
    intro o ho q hq he
    simp only [oldOf, List.mem_cons] at ho hq
    rcases ho with rfl | ho
    ·rcases hq with rfl | hq
     ·exact absurd rfl he
     ·exact Ne.symm (hne hq)
    ·rcases hq with rfl | hq
     ·exact hne ho
     ·exact ih hb.2 o ho q hq he
   | some kk =>
    obtain ⟨k, F1⟩ := kk
    intro o ho q hq he
    simp only [oldOf, List.mem_cons] at ho hq
    rcases ho with rfl | ho
    ·rcases hq with rfl | hq
     ·exact absurd rfl he
     ·exact Ne.symm (hne hq)
    ·rcases hq with rfl | hq
     ·exact hne ho
     ·exact ih hb.2 o ho q hq he

theorem oldTo_mem {bs : List (Nat × Nat × Fq)} {ks : List (Option (Nat × Fq))} {d len : Nat} {W : World} {L : Nat → Bool} (hL : ∀ j, j < len → L j = true) (hk : ∀ k F, some (k, F) ∈ ks → k < len)
  (h : ∀ o ∈ oldOf bs ks d, Bq W o.b o.m (if L o.k then o.F1 else o.F0)) : ∀ x ∈ oldTo bs ks, Bq W x.1 x.2.1 x.2.2 := by
 induction bs generalizing ks d with
 | nil => intro x hx; simp [oldTo] at hx
 | cons y r ih =>
  obtain ⟨b, m, F⟩ := y
  cases ks with
  | nil => intro x hx; simp [oldTo] at hx
  | cons k ks =>
   have hk' : ∀ k F, some (k, F) ∈ ks → k < len := fun k F hm => hk k F (List.mem_cons_of_mem _ hm)
   cases k with
   | none =>
    intro x hx
    simp only [oldTo, List.mem_cons] at hx
    simp only [oldOf, List.mem_cons, forall_eq_or_imp] at h
    rcases hx with rfl | hx
    ·have := h.1; split at this <;> exact this
    ·exact ih hk' h.2 x hx
   | some kk =>
    obtain ⟨k, F1⟩ := kk
    intro x hx
    simp only [oldTo, List.mem_cons] at hx
    simp only [oldOf, List.mem_cons, forall_eq_or_imp] at h
    rcases hx with rfl | hx
    ·have h1 := h.1
     rw [hL k (hk k F1 (by simp))] at h1
     exact h1
    ·exact ih hk' h.2 x hx

theorem oldTo_fst {bs : List (Nat × Nat × Fq)} {ks : List (Option (Nat × Fq))} (hl : ks.length = bs.length) : (oldTo bs ks).map (·.1) = bs.map (·.1) := by
 induction bs generalizing ks with
 | nil => simp [oldTo]
 | cons y r ih =>
  obtain ⟨b, m, F⟩ := y
  cases ks with
  | nil => simp at hl
  | cons k ks =>
   have hl' : ks.length = r.length := by simpa using hl
   cases k with
   | none => simp [oldTo, ih hl']
   | some kk => obtain ⟨k, F1⟩ := kk; simp [oldTo, ih hl']

def okB (len nold : Nat) (ks : List (Option (Nat × Fq))) (new : List Nb) : Bool :=
 ks.length == nold && (keysOf ks len).all (fun k => (keysOf ks len).count k == 1) && ks.all (fun x => match x with | none => true | some (k, _) => decide (k < len)) &&
 (new.map (·.i)).all (fun k => (new.map (·.i)).count k == 1) && (new.map (·.k)).all (fun k => (new.map (·.k)).count k == 1) && new.all (fun n => decide (n.i < len) && decide (n.k < len))

theorem nodup_count {l : List Nat} (h : l.all (fun k => l.count k == 1) = true) : l.Nodup := by
 rw [List.nodup_iff_count]
 intro a
 by_cases ha : a ∈ l
 ·have := List.all_eq_true.1 h a ha
  simp at this
  omega
 ·rw [List.count_eq_zero.2 ha]; omega

theorem new_inj {α : Type} {f : α → Nat} {l : List α} (h : (l.map f).Nodup) : ∀ n ∈ l, ∀ m ∈ l, f n = f m → n = m := by
 induction l with
 | nil => intro n hn; simp at hn
 | cons x r ih =>
  simp only [List.map_cons, List.nodup_cons] at h
  intro n hn m hm he
  rcases List.mem_cons.1 hn with h1 | h1
  ·rcases List.mem_cons.1 hm with h2 | h2
   ·rw [h1, h2]
   ·exact absurd (List.mem_map.2 ⟨m, h2, by rw [← he, h1]⟩) h.1
  ·rcases List.mem_cons.1 hm with h2 | h2
   ·exact absurd (List.mem_map.2 ⟨n, h1, by rw [he, h2]⟩) h.1
   ·exact ih h.2 n h1 m h2 he

def plq (C : List Fq) (bs : List (Nat × Nat × Fq)) (ks : List (Option (Nat × Fq))) (new : List Nb) (len : Nat) : Pq := ⟨C, oldOf bs ks len, new⟩

section
variable {os : List Oper} {Q : Exit → Act → World → Prop} {a : Act} {p : Pq} {B B0 : Nat} {w0 : World}

def StepQ (os : List Oper) (Q : Exit → Act → World → Prop) (a : Act) (p : Pq) (B B0 : Nat) (w0 : World) (i : Nat) (o : Oper) : Prop :=
 os.toArray[i]? = some o → ∀ L vs w, p.G B B0 w0 L vs w → L i = false → (∀ e ∈ o.after, Region.binds .any e = true → L e.on = true) → ClosedL os.toArray L →
  wpOp Try.prog os.toArray Q i (fun a' w' => ∃ v, a' = (lay os.toArray L vs os.toArray.size a).put o.dst v ∧ p.G B B0 w0 (up L i true) (up vs i v) w') (lay os.toArray L vs os.toArray.size a) w

def GS (p : Pq) (B B0 : Nat) (w0 : World) (same : List (Nat × Nat)) (L : Nat → Bool) (vs : Nat → Value) (w : World) : Prop := p.G B B0 w0 L vs w ∧ ∀ x ∈ same, L x.1 = true → L x.2 = true ∧ vs x.1 = vs x.2

def StepS (os : List Oper) (Q : Exit → Act → World → Prop) (a : Act) (p : Pq) (B B0 : Nat) (w0 : World) (same : List (Nat × Nat)) (i : Nat) (o : Oper) : Prop :=
 os.toArray[i]? = some o → ∀ L vs w, GS p B B0 w0 same L vs w → L i = false → (∀ e ∈ o.after, Region.binds .any e = true → L e.on = true) → ClosedL os.toArray L →
  wpOp Try.prog os.toArray Q i (fun a' w' => ∃ v, a' = (lay os.toArray L vs os.toArray.size a).put o.dst v ∧ GS p B B0 w0 same (up L i true) (up vs i v) w') (lay os.toArray L vs os.toArray.size a) w

theorem stepS_of {same : List (Nat × Nat)} {i : Nat} {o : Oper} (h : StepQ os Q a p B B0 w0 i o) (hn : same.all (fun x => x.1 != i) = true) : StepS os Q a p B B0 w0 same i o := by
 intro hio L vs w hG hL hd hc
 refine wpOp_mono ?_ (h hio L vs w hG.1 hL hd hc)
 rintro a2 w2 ⟨v, rfl, hG2⟩
 refine ⟨v, rfl, hG2, fun x hx h1 => ?_⟩
 have hx1 : x.1 ≠ i := by
  have := List.all_eq_true.1 hn x hx
  simpa using this
 rw [up_ne _ _ hx1] at h1
 obtain ⟨h2, h3⟩ := hG.2 x hx h1
 have hx2 : x.2 ≠ i := fun e => by rw [e, hL] at h2; cases h2
 rw [up_ne _ _ hx1, up_ne _ _ hx2, up_ne _ _ hx2]
 exact ⟨h2, h3⟩

theorem region_frG {same : List (Nat × Nat)} {id : Nat} {dr : Bool} {C : List Fq} {bs : List (Nat × Nat × Fq)} {ks : List (Option (Nat × Fq))} {new : List Nb} {W : World} (E : Fr w0 bs W) (hok : okB os.length bs.length ks new = true) (hm : Try.prog.follows .mixedOrders = true) (ha : apartB (os.map (·.dst)) = true) (hb : backB os 0 = true)
  (hs : (plq C bs ks new os.length).Ok w0.heap.size W.heap.size → ∀ i o, os.toArray[i]? = some o → StepS os Q a (plq C bs ks new os.length) w0.heap.size W.heap.size w0 same i o)
  (hf : ∀ L vs W' (nb : Nat → Nat), (∀ x ∈ same, x.1 < os.length → vs x.1 = vs x.2) → (∀ j, j < os.length → L j = true) → (∀ j, j < os.length → ((C[j]?).getD Fq.any).P (vs j) W') → (∀ n ∈ new, vs n.i = n.ptr (nb n.i)) → Fr w0 (new.map (fun n => (nb n.i, n.m, n.F1)) ++ oldTo bs ks) W' →
   Q .normal (lay os.toArray L vs os.length a) W') : (Code.region id os.toArray dr).wp Try.prog Q a W := by
 simp only [okB, Bool.and_eq_true, beq_iff_eq] at hok
 obtain ⟨⟨⟨⟨⟨k1, k2⟩, k3⟩, k4⟩, k5⟩, k6⟩ := hok
 have n2 := nodup_count k2
 have n4 := nodup_count k4
 have n5 := nodup_count k5
 have hp : (plq C bs ks new os.length).Ok w0.heap.size W.heap.size := by
  refine ⟨fun o ho => ?_, oldOf_ne E.apart, oldOf_inj n2, new_inj n4, new_inj n5, E.below.size⟩
  have h := E.boxes _ (oldOf_mem ho)
  exact ⟨h.1, h.2.lt⟩
 have h0 : ∀ W', Below W.heap.size W W' → W'.heap.size = W.heap.size → GS (plq C bs ks new os.length) w0.heap.size W.heap.size w0 same (fun _ => false) (fun _ => undef) W' := fun W' hW hsz =>
  ⟨⟨E.below.trans (hW.mono E.below.size), by omega, fun _ h => (by cases h), fun o ho => by simpa using (E.boxes _ (oldOf_mem ho)).2.mono hW, fun _ _ h => (by cases h), fun _ _ _ _ _ h => (by cases h)⟩, fun _ _ h => (by cases h)⟩
 have hs' := hs hp
 have hend : ∀ L vs w, (∀ j, j < os.toArray.size → L j = true) → GS (plq C bs ks new os.length) w0.heap.size W.heap.size w0 same L vs w → Q .normal (lay os.toArray L vs os.toArray.size a) w := by
  intro L vs w hL hGS
  have hG := hGS.1
  have hL' : ∀ j, j < os.length → L j = true := by simpa using hL
  have hk3 : ∀ k F, some (k, F) ∈ ks → k < os.length := fun k F hm => by
   have := List.all_eq_true.1 k3 _ hm
   simpa using this
  have hk6 : ∀ n ∈ new, n.i < os.length ∧ n.k < os.length := fun n hn => by
   have := List.all_eq_true.1 k6 _ hn
   simpa using this
  have hnb : ∀ n ∈ new, ∃ b, vs n.i = n.ptr b ∧ W.heap.size ≤ b ∧ Bq w b n.m n.F1 := fun n hn => by
   obtain ⟨b, e1, e2, e3⟩ := hG.new n hn (hL' _ (hk6 n hn).1)
   rw [Nb.now_on (hL' _ (hk6 n hn).2)] at e3
   exact ⟨b, e1, e2, e3⟩
  let nb : Nat → Nat := fun i => blockOf (vs i)
  have hv : ∀ n ∈ new, vs n.i = n.ptr (nb n.i) ∧ W.heap.size ≤ nb n.i ∧ Bq w (nb n.i) n.m n.F1 := fun n hn => by
   obtain ⟨b, e1, e2, e3⟩ := hnb n hn
   have e4 : nb n.i = b := by show blockOf (vs n.i) = b; rw [e1, Nb.block_ptr]
   rw [e4]
   exact ⟨e1, e2, e3⟩
  have hold := oldTo_mem hL' hk3 hG.old
  have hfst := oldTo_fst (bs := bs) (ks := ks) k1
  have hlt : ∀ x ∈ oldTo bs ks, w0.heap.size ≤ x.1 ∧ x.1 < W.heap.size := fun x hx => by
   have hm : x.1 ∈ bs.map (·.1) := by rw [← hfst]; exact List.mem_map.2 ⟨x, hx, rfl⟩
   obtain ⟨y, hy, e⟩ := List.mem_map.1 hm
   have := E.boxes y hy
   have h2 := this.2.lt
   rw [← e]
   exact ⟨this.1, h2⟩
  have hE : Fr w0 (new.map (fun n => (nb n.i, n.m, n.F1)) ++ oldTo bs ks) w := by
   refine ⟨hG.below, fun x hx => ?_, ?_⟩
   ·rcases List.mem_append.1 hx with hx | hx
    ·obtain ⟨n, hn, rfl⟩ := List.mem_map.1 hx
     have := hv n hn
     exact ⟨Nat.le_trans E.below.size this.2.1, this.2.2⟩
    ·exact ⟨(hlt x hx).1, hold x hx⟩
   ·rw [List.map_append, hfst, List.map_map]
    refine List.nodup_append.2 ⟨?_, E.apart, fun x hx y hy e => ?_⟩
    ·rw [List.nodup_iff_pairwise_ne, List.pairwise_map]
     have hpw : List.Pairwise (fun n m : Nb => n.i ≠ m.i) new := by
      have := List.nodup_iff_pairwise_ne.1 n4
      rwa [List.pairwise_map] at this
     refine hpw.imp_of_mem ?_
     intro n m hn hm hne e
     refine hG.apart n hn m hm hne (hL' _ (hk6 n hn).1) (hL' _ (hk6 m hm).1) ?_
     have e' : nb n.i = nb m.i := e
     rw [(hv n hn).1, (hv m hm).1, Nb.block_ptr, Nb.block_ptr, e']
    ·obtain ⟨n, hn, rfl⟩ := List.mem_map.1 hx
     obtain ⟨z, hz, rfl⟩ := List.mem_map.1 hy
     have h1 := (hv n hn).2.1
     have h2 := (E.boxes z hz).2.lt
     have e' : nb n.i = z.1 := e
     omega
  have := hf L vs w nb (fun x hx h => (hGS.2 x hx (hL' _ h)).2) hL' (fun j hj => hG.val j (hL' j hj)) (fun n hn => (hv n hn).1) hE
  simpa using this
 cases dr with
 | true => exact wp_region_inv hm (apart_of ha) (back_of hb) (GS (plq C bs ks new os.length) w0.heap.size W.heap.size w0 same) (h0 W.drew (Below.refl _ _).drew rfl) (fun i o ho => hs' i o ho ho) hend
 | false => exact wp_region_inv_plain (apart_of ha) (back_of hb) (GS (plq C bs ks new os.length) w0.heap.size W.heap.size w0 same) (h0 W (Below.refl _ _) rfl) (fun i o ho => hs' i o ho ho) hend

theorem region_fr {id : Nat} {dr : Bool} {C : List Fq} {bs : List (Nat × Nat × Fq)} {ks : List (Option (Nat × Fq))} {new : List Nb} {W : World} (E : Fr w0 bs W) (hok : okB os.length bs.length ks new = true) (hm : Try.prog.follows .mixedOrders = true) (ha : apartB (os.map (·.dst)) = true) (hb : backB os 0 = true)
  (hs : (plq C bs ks new os.length).Ok w0.heap.size W.heap.size → AllOps (StepQ os Q a (plq C bs ks new os.length) w0.heap.size W.heap.size w0) os 0)
  (hf : ∀ L vs W' (nb : Nat → Nat), (∀ j, j < os.length → L j = true) → (∀ j, j < os.length → ((C[j]?).getD Fq.any).P (vs j) W') → (∀ n ∈ new, vs n.i = n.ptr (nb n.i)) → Fr w0 (new.map (fun n => (nb n.i, n.m, n.F1)) ++ oldTo bs ks) W' →
   Q .normal (lay os.toArray L vs os.length a) W') : (Code.region id os.toArray dr).wp Try.prog Q a W :=
 region_frG (same := []) E hok hm ha hb (fun hp i o ho => stepS_of (all_ops (hs hp) i o ho) rfl) (fun L vs W' nb _ => hf L vs W' nb)

end

end Go.Proofs.Ytihhlaagndingaa

namespace Go.Proofs.Ytihhlaagndingaa
open Go.RowKit

end Go.Proofs.Ytihhlaagndingaa

namespace Go.Proofs.Ytihhlaagndingaa
open Go.RowKit

end Go.Proofs.Ytihhlaagndingaa

set_option linter.unusedSimpArgs false
namespace Go.Proofs.Ytihhlaagndingaa
open Go.RowKit

def IsRoot (X : Int) (K : Nat) (r : Int) : Prop := 0 ≤ r ∧ r ^ K ≤ X ∧ X < (r + 1) ^ K

theorem pow_mono {a b : Int} (ha : 0 ≤ a) (h : a ≤ b) : ∀ k : Nat, a ^ k ≤ b ^ k
 | 0 => by simp
 | k + 1 => by
  rw [Int.pow_succ, Int.pow_succ]
  have h1 := Int.mul_le_mul_of_nonneg_right (pow_mono ha h k) ha
  have h2 := Int.mul_le_mul_of_nonneg_left h (show 0 ≤ b ^ k from Int.pow_nonneg (by omega))
  omega

theorem pow_lt_cancel {a b : Int} {k : Nat} (hb : 0 ≤ b) (h : a ^ k < b ^ k) : a < b :=
 Int.not_le.1 fun hle => absurd (pow_mono hb hle k) (by omega)

theorem IsRoot.unique {X r r' : Int} {K : Nat} (h : IsRoot X K r) (h' : IsRoot X K r') : r = r' := by
 have h1 := pow_lt_cancel (k := K) (show 0 ≤ r' + 1 by have := h'.1; omega) (Int.lt_of_le_of_lt h.2.1 h'.2.2)
 have h2 := pow_lt_cancel (k := K) (show 0 ≤ r + 1 by have := h.1; omega) (Int.lt_of_le_of_lt h'.2.1 h.2.2)
 omega

end Go.Proofs.Ytihhlaagndingaa

namespace Go.Proofs.Ytihhlaagndingaa
open Go.RowKit

theorem Sl.unique {w : World} {ao : Option Addr} {n c : Nat} {xs ys : List Int} (h : Sl w ao n c xs) (h' : Sl w ao n c ys) : xs = ys := by
 apply List.ext_getElem (h.len.trans h'.len.symm)
 intro j hj hj'
 obtain ⟨b, off, hao, _, x, hc, _, _, hx⟩ := h.cells.at hj
 obtain ⟨b', off', hao', _, y, hc', _, _, hy⟩ := h'.cells.at hj'
 rw [hao] at hao'
 cases hao'
 rw [hc] at hc'
 cases hc'
 have e1 := hx.out
 have e2 := hy.out
 have f1 : xs.getD j 0 = xs[j] := by simp [hj]
 have f2 : ys.getD j 0 = ys[j] := by simp [hj']
 omega

open Classical in
noncomputable def slVal (w : World) (v : Value) : Nat :=
 if h : ∃ x : Nat, ∃ ao n c xs, v = .slice ao n c ∧ Sl w ao n c xs ∧ x = (val xs).toNat then Classical.choose h else 0

theorem slVal_eq {w : World} {ao : Option Addr} {n c : Nat} {xs : List Int} (h : Sl w ao n c xs) : slVal w (.slice ao n c) = (val xs).toNat := by
 have he : ∃ x : Nat, ∃ ao' n' c' xs', Value.slice ao n c = .slice ao' n' c' ∧ Sl w ao' n' c' xs' ∧ x = (val xs').toNat := ⟨_, ao, n, c, xs, rfl, h, rfl⟩
 unfold slVal
 rw [dif_pos he]
 obtain ⟨ao', n', c', xs', e, h', hx⟩ := Classical.choose_spec he
 cases e
 rw [hx, h.unique h']

theorem two_pow_le {a b : Nat} (h : a ≤ b) : (2 : Int) ^ a ≤ 2 ^ b := by
 have e := Nat.pow_le_pow_right (n := 2) (by decide) h
 have e1 : ((2 ^ a : Nat) : Int) = 2 ^ a := by simp
 have e2 : ((2 ^ b : Nat) : Int) = 2 ^ b := by simp
 rw [← e1, ← e2]; omega

end Go.Proofs.Ytihhlaagndingaa

namespace Go.Proofs.Ytihhlaagndingaa
open Go.RowKit

end Go.Proofs.Ytihhlaagndingaa

namespace Go.Proofs.Ytihhlaagndingaa
open Go.RowKit

theorem gcd_step {x y : Int} (hx : 0 ≤ x) (hy : 0 ≤ y) : Int.gcd y (x % y) = Int.gcd x y := by
 obtain ⟨a, rfl⟩ := Int.eq_ofNat_of_zero_le hx
 obtain ⟨b, rfl⟩ := Int.eq_ofNat_of_zero_le hy
 show Nat.gcd b (((a : Int) % b).natAbs) = Nat.gcd a b
 have e : ((a : Int) % (b : Int)).natAbs = a % b := by
  rw [← Int.natCast_emod]; rfl
 rw [e, Nat.gcd_comm a b, Nat.gcd_rec b a, Nat.gcd_comm]

theorem gcd_zero {x : Int} (hx : 0 ≤ x) : (Int.gcd x 0 : Int) = x := by
 rw [Int.gcd_zero_right]; omega

theorem gcd_sgn (a b : Bool) (x y : Int) : Int.gcd (sgn a x) (sgn b y) = Int.gcd x y := by
 cases a <;> cases b <;> simp [sgn]

def GcdInv (w : World) (L : Nat) (g : Nat) (vx vy : Value) (wr : World) : Prop :=
 ∃ ax nx cx xs ay ny cy ys, vx = .slice ax nx cx ∧ vy = .slice ay ny cy ∧ Sl wr ax nx cx xs ∧ Sl wr ay ny cy ys ∧ Canon xs ∧ Canon ys ∧ nx ≤ L ∧ ny ≤ L ∧ Int.gcd (val xs) (val ys) = g ∧ Below w.heap.size w wr

set_option maxHeartbeats 2000000 in
theorem Gcd_any (w : World) (na nb : Bool) (ax ay : Option Addr) (n m cx cy : Nat) (xs ys : List Int) (hX : Sl w ax n cx xs) (hY : Sl w ay m cy ys) (hb1 : n ≤ 900000) (hb2 : m ≤ 900000) :
  Calls Try.prog 78 #[.agg #[.bool na, .slice ax n cx], .agg #[.bool nb, .slice ay m cy]] w (GivesInt w (Int.gcd (sgn na (val xs)) (sgn nb (val ys)))) := by
 rw [gcd_sgn]
 obtain ⟨g, hg⟩ : ∃ g, g = Int.gcd (val xs) (val ys) := ⟨_, rfl⟩
 have HG := hidd hg
 rw [← hg]
 clear hg
 go_enter Try.func78, Try.ntmps78
 go_wp2
 obtain ⟨w0, hw0, hA, hB, hC, hbl, HS⟩ := boxes3 w (.bool na) (.slice ax n cx) (.bool nb) (.slice ay m cy) 29
 rw [← hw0]
 clear hw0
 have hXd := (hX.mono hbl).drew
 have hYd := (hY.mono hbl).drew
 have hcut : w.heap.size + 2 ≤ w0.heap.size := by have := HS.out; omega
 obtain ⟨ca0, ca1, _, _⟩ := hA
 obtain ⟨cb0, cb1, _, _⟩ := hB
 go_region_held3 (fun W => w.heap.size + 2 ≤ W.heap.size ∧ (∀ b o, b < w.heap.size + 2 → W.cell? ⟨b, o, none⟩ = w0.cell? ⟨b, o, none⟩) ∧ ∀ b o, b < w.heap.size + 2 → W.frozen? ⟨b, o, none⟩ = w0.frozen? ⟨b, o, none⟩)
  (first | exact Kept.start hcut | assumption | exact Kept.call (by assumption) (by assumption))
  (first | (go_at_call 40; (with_reducible refine (trim_any _ _ _ _ _ hXd (by omega)).mono ?_); rintro e w' ⟨m1, rfl, hm1, hs1, hv1, hc1, rfl⟩) | (go_at_call 68; (with_reducible refine (copied_sl _ _ _ _ _ hs1 (by omega)).mono ?_); rintro e w1 ⟨a1, k1, rfl, ht1, hB1⟩; have hY1 := hYd.mono hB1) | (go_at_call 40; (with_reducible refine (trim_any _ _ _ _ _ hY1 (by omega)).mono ?_); rintro e w' ⟨m2, rfl, hm2, hs2, hv2, hc2, rfl⟩) | (go_at_call 68; (with_reducible refine (copied_sl _ _ _ _ _ hs2 (by omega)).mono ?_); rintro e w2 ⟨a2, k2, rfl, ht2, hB2⟩))
 have hbl2 : Below w.heap.size w w2 := (hbl.drew.trans (hB1.mono hbl.size)).trans (hB2.mono (Nat.le_trans hbl.size hB1.size))
 have ht1' := ht1.mono hB2
 have hC2 : IntBox w2 (w.heap.size + 1 + 1) (.bool false) (.slice none 0 0) := by
  have hCd : IntBox w0.drew (w.heap.size + 1 + 1) (.bool false) (.slice none 0 0) := hC
  exact (hCd.mono hB1 hCd.lt).mono hB2 (Nat.lt_of_lt_of_le hCd.lt hB1.size)
 have hgcd : Int.gcd (val (xs.take m1)) (val (ys.take m2)) = g := by rw [hv1, hv2]; exact HG.out.symm
 have HGC := hidd hgcd
 have hr2 : w.heap.size + 1 + 1 < w2.heap.size := hC2.lt
 clear hXd hYd hcut hbl hC ca0 ca1 cb0 cb1 hB1 hB2 hY1 hs1 hs2 hv1 hv2 ht1 hgcd hX hY
 go_wp2
 go_loopw [5, 6] (fun vx vy wr => GcdInv w2 900000 g vx vy wr) (fun _ vy wr => slVal wr vy)
 case atStart => exact ⟨_, _, _, _, _, _, _, _, rfl, rfl, ht1', ht2, hc1, hc2, by omega, by omega, HGC.out, Below.refl _ _⟩
 case round =>
  obtain ⟨px, nx, qx, xs', py, ny, qy, ys', rfl, rfl, hsx, hsy, hcx, hcy, hnx, hny, hgc, hB⟩ := hrel
  have HGC' := hidd hgc
  have hx0 := val_nonneg hsx.digs
  have hy0 := val_nonneg hsy.digs
  have hyz := hcy.zero
  rw [hsy.len] at hyz
  have hbl3 := hbl2.trans (hB.mono hbl2.size)
  have hC3 := hC2.mono hB hr2
  clear hgc ht1' ht2 hc1 hc2 HGC
  by_cases hny0 : ny = 0
  ·have hv0 : val ys' = 0 := hyz.1 hny0
   have HGX : Hid ((g : Int) = val xs') := by
    show _ = _
    rw [← HGC'.out, hv0, gcd_zero hx0]
   clear hyz hv0
   subst hny0
   go_wp2_with fail
   refine (signed_any _ _ _ _ _ _ hsx (by omega)).mono ?_
   rintro e w3 ⟨v, rfl, ⟨ng, ao, nn, cc, rs, rfl, hrs, hrc, hrn, hrz⟩, hb3⟩
   have hC4 := hC3.mono hb3 hC3.lt
   have hbl4 := hbl3.trans (hb3.mono hbl3.size)
   have HRZ : Hid ((g : Int) = sgn ng (val rs)) := by show _ = _; rw [← hrz]; exact HGX.out
   have HC4 := hidd hC4
   obtain ⟨e0, e1, e2, e3⟩ := hC4
   clear hrz hC3 hb3
   go_wp2
   refine bodyPost_ret (v := .agg #[.bool ng, .slice ao nn cc]) ?_ rfl ?_
   ·simp [results, Try.results78, go_sem, e0, e1]
   ·exact gives_store HC4.out hrs hrc hrn HRZ.out hbl4 (by omega)
  ·have hyp : 0 < val ys' := by
    have : val ys' ≠ 0 := fun h => hny0 (hyz.2 h)
    omega
   have hnyi : (0 : Int) < (ny : Int) := by omega
   have hnyb : ((ny : Int) == 0) = false := by simp; omega
   clear hyz
   by_cases hbig : 2 < nx ∨ 2 < ny
   ·have hdv : ∀ W, W = wr → Calls Try.prog 46 #[.slice px nx qx, .slice py ny qy] W (DivDone W (val xs') (val ys')) := fun W h => by
     subst h; exact divSize_any _ _ _ _ _ _ _ _ _ hsx hsy hcx hcy hyp (by omega) (by omega)
    have HDV := hidd hdv
    clear hdv
    rcases hbig with hbig | hbig
    ·have hnx2 : (2 : Int) < (nx : Int) := by omega
     go_wp2_with fail
     refine (HDV.out _ rfl).mono ?_
     rintro e w3 ⟨aq, ar, nq, nr, cq, cr, qs, rs, rfl, hsq, hsr, hcq, hcr, hvq, hvr, hB3⟩
     have hsy3 := hsy.mono hB3
     have hlt := Int.emod_lt_of_pos (val xs') hyp
     have hnr : nr ≤ ny := len_le hcr hsr hsy3 (by omega)
     have HVR := hidd hvr
     clear hvr hvq
     go_wp2
     go_roundw
     case rel => exact ⟨_, _, _, _, _, _, _, _, rfl, rfl, hsy3, hsr, hcy, hcr, hny, by omega, by rw [HVR.out, gcd_step hx0 hy0]; exact HGC'.out, hB.trans (hB3.mono hB.size)⟩
     case measure =>
      rw [slVal_eq hsr, slVal_eq hsy, HVR.out]
      have := Int.emod_nonneg (val xs') (Int.ne_of_gt hyp)
      omega
    ·have hny2 : (2 : Int) < (ny : Int) := by omega
     by_cases hnx2 : (2 : Int) < (nx : Int)
     ·go_wp2_with fail
      refine (HDV.out _ rfl).mono ?_
      rintro e w3 ⟨aq, ar, nq, nr, cq, cr, qs, rs, rfl, hsq, hsr, hcq, hcr, hvq, hvr, hB3⟩
      have hsy3 := hsy.mono hB3
      have hlt := Int.emod_lt_of_pos (val xs') hyp
      have hnr : nr ≤ ny := len_le hcr hsr hsy3 (by omega)
      have HVR := hidd hvr
      clear hvr hvq
      go_wp2
      go_roundw
      case rel => exact ⟨_, _, _, _, _, _, _, _, rfl, rfl, hsy3, hsr, hcy, hcr, hny, by omega, by rw [HVR.out, gcd_step hx0 hy0]; exact HGC'.out, hB.trans (hB3.mono hB.size)⟩
      case measure =>
       rw [slVal_eq hsr, slVal_eq hsy, HVR.out]
       have := Int.emod_nonneg (val xs') (Int.ne_of_gt hyp)
       omega
     ·go_wp2_with fail
      refine (HDV.out _ rfl).mono ?_
      rintro e w3 ⟨aq, ar, nq, nr, cq, cr, qs, rs, rfl, hsq, hsr, hcq, hcr, hvq, hvr, hB3⟩
      have hsy3 := hsy.mono hB3
      have hlt := Int.emod_lt_of_pos (val xs') hyp
      have hnr : nr ≤ ny := len_le hcr hsr hsy3 (by omega)
      have HVR := hidd hvr
      clear hvr hvq
      go_wp2
      go_roundw
      case rel => exact ⟨_, _, _, _, _, _, _, _, rfl, rfl, hsy3, hsr, hcy, hcr, hny, by omega, by rw [HVR.out, gcd_step hx0 hy0]; exact HGC'.out, hB.trans (hB3.mono hB.size)⟩
      case measure =>
       rw [slVal_eq hsr, slVal_eq hsy, HVR.out]
       have := Int.emod_nonneg (val xs') (Int.ne_of_gt hyp)
       omega
   ·have hnx2 : ¬ (2 : Int) < (nx : Int) := by omega
    have hny2 : ¬ (2 : Int) < (ny : Int) := by omega
    have hX64 : val xs' < 18446744073709551616 := by
     have h1 := val_lt hsx.digs
     have h2 := pw_le (show xs'.length ≤ 2 by rw [hsx.len]; omega)
     have e : pw 2 = 18446744073709551616 := rfl
     omega
    have hY64 : val ys' < 18446744073709551616 := by
     have h1 := val_lt hsy.digs
     have h2 := pw_le (show ys'.length ≤ 2 by rw [hsy.len]; omega)
     have e : pw 2 = 18446744073709551616 := rfl
     omega
    clear hbig hyp
    go_wp2_with (first | (go_at_call 69; (with_reducible refine (toWord_any _ _ _ _ _ hsx (by omega)).mono ?_); rintro e w3 ⟨rfl, rfl⟩) | (go_at_call 69; (with_reducible refine (toWord_any _ _ _ _ _ hsy (by omega)).mono ?_); rintro e w3 ⟨rfl, rfl⟩))
    generalize val xs' = X at *
    generalize val ys' = Y at *
    clear hsx hsy hcx hcy
    go_loopw [9, 10] (fun vu vv w' => ∃ u v : Int, vu = .int .u64 u ∧ vv = .int .u64 v ∧ 0 ≤ u ∧ u < 18446744073709551616 ∧ 0 ≤ v ∧ v < 18446744073709551616 ∧ Int.gcd u v = g ∧ Drawn wr w') (fun _ vv _ => (intOf vv).toNat)
    case atStart => exact ⟨X, Y, rfl, rfl, hx0, hX64, hy0, hY64, HGC'.out, Drawn.refl _⟩
    case round =>
     obtain ⟨u, v, rfl, rfl, hu0, hu1, hv0, hv1, hgu, hd⟩ := hrel
     have HGU := hidd hgu
     clear hgu
     by_cases hv : 0 < v
     ·have hvne : ¬ v = 0 := by omega
      have hvb : (v == 0) = false := by simp; omega
      have hm0 : 0 ≤ u % v := Int.emod_nonneg _ (by omega)
      have hm1 : u % v < v := Int.emod_lt_of_pos _ hv
      have hmv : u.tmod v = u % v := IntWalk.rem_in _ _ hu0
      have hmw : IntKind.u64.wrap (u % v) = u % v := IntWalk.u64_in _ ⟨hm0, by omega⟩
      go_wp2
      go_quiet (fail)
      go_wp2
      go_roundw
      case rel => exact ⟨v, u % v, rfl, rfl, hv0, hv1, hm0, by omega, by rw [gcd_step hu0 hv0]; exact HGU.out, hd.drewN _⟩
      case measure => simp [intOf]; omega
     ·have hvz : v = 0 := by omega
      have HGX : Hid ((g : Int) = u) := by
       show _ = _
       rw [← HGU.out, hvz, gcd_zero hu0]
      have hC4 : IntBox _ _ _ _ := hC3.mono (hd.below _) (Nat.lt_succ_self _)
      have hbl4 := hbl3.trans (hd.below _)
      clear hvz hC3
      go_wp2_with fail
      refine (fromWord_any _ u hu0 hu1).mono ?_
      rintro e w5 ⟨a5, n5, c5, zs5, rfl, hn5, hs5, hc5, hv5, hB5⟩
      have hC5 := hC4.mono hB5 hC4.lt
      have hbl5 := hbl4.trans (hB5.mono hbl4.size)
      have HV5 := hidd hv5
      clear hv5 hC4 hbl4 hB5
      go_wp2_with fail
      refine (signed_any _ _ _ _ _ _ hs5 (by omega)).mono ?_
      rintro e w6 ⟨v6, rfl, ⟨ng, ao, nn, cc, rs, rfl, hrs, hrc, hrn, hrz⟩, hb6⟩
      have hC6 := hC5.mono hb6 hC5.lt
      have hbl6 := hbl5.trans (hb6.mono hbl5.size)
      have HRZ : Hid ((g : Int) = sgn ng (val rs)) := by show _ = _; rw [← hrz, HV5.out]; exact HGX.out
      have HC6 := hidd hC6
      obtain ⟨e0, e1, e2, e3⟩ := hC6
      clear hrz hC5 hb6
      go_wp2
      refine bodyPost_ret (v := .agg #[.bool ng, .slice ao nn cc]) ?_ rfl ?_
      ·simp [results, Try.results78, go_sem, e0, e1]
      ·exact gives_store HC6.out hrs hrc hrn HRZ.out hbl6 (by omega)

end Go.Proofs.Ytihhlaagndingaa

namespace Go.Proofs.Ytihhlaagndingaa

def ab (z : Int) : Int := (z.natAbs : Int)

theorem ab_nonneg (z : Int) : 0 ≤ ab z := by unfold ab; omega
theorem ab_mul (x y : Int) : ab (x * y) = ab x * ab y := by unfold ab; rw [Int.natAbs_mul]; rfl
theorem ab_sub (x y : Int) : ab (x - y) ≤ ab x + ab y := by unfold ab; omega
theorem ab_pos {z : Int} (h : z ≠ 0) : 1 ≤ ab z := by unfold ab; omega
theorem ab_of {z : Int} (h : 0 ≤ z) : ab z = z := by unfold ab; omega

def BezInv (a b r rr u uu : Int) : Prop :=
 (∃ k, r = u * a + k * b) ∧ (∃ k, rr = uu * a + k * b) ∧ Int.gcd r rr = Int.gcd a b ∧ ab u ≤ 3 * ab b ∧ ab uu ≤ 3 * ab b ∧ (ab r ≤ ab a ∨ ab r ≤ ab b) ∧ ab rr ≤ ab b ∧
  ((u = 1 ∧ uu = 0 ∧ r = a ∧ rr = b) ∨ (u = 0 ∧ uu = 1 ∧ r = b ∧ 0 ≤ rr) ∨ (0 < r ∧ 0 ≤ rr ∧ ab uu * r + ab u * rr ≤ 3 * ab b))

theorem bez_start {a b : Int} (hb : b ≠ 0) : BezInv a b a b 1 0 := by
 have := ab_pos hb
 exact ⟨⟨0, by omega⟩, ⟨1, by omega⟩, rfl, by unfold ab at *; omega, by unfold ab at *; omega, .inl (Int.le_refl _), Int.le_refl _, .inl ⟨rfl, rfl, rfl, rfl⟩⟩

theorem gcd_step' (x y : Int) : Int.gcd y (x % y) = Int.gcd x y := by
 have h := Int.mul_ediv_add_emod x y
 rw [Int.gcd_comm x y]
 have e : x % y = x - y * (x / y) := by omega
 rw [e, Int.sub_eq_add_neg, ← Int.mul_neg, Int.gcd_add_mul_left_right]

theorem bez_step {a b r rr u uu : Int} (hb : b ≠ 0) (h : BezInv a b r rr u uu) (h0 : rr ≠ 0) :
  BezInv a b rr (r % rr) uu (u - r / rr * uu) ∧ ab (r % rr) < ab rr ∧ ab (r / rr * uu) ≤ 6 * ab b ∧ ab (r / rr) ≤ ab r := by
 obtain ⟨⟨k, hk⟩, ⟨k', hk'⟩, hg, hu, huu, hr, hrr, hph⟩ := h
 have hdm := Int.mul_ediv_add_emod r rr
 have hm0 := Int.emod_nonneg r h0
 have hm1 : r % rr < ab rr := by unfold ab; exact Int.emod_lt r h0
 have hq : ab (r / rr) ≤ ab r := by
  unfold ab
  have := Int.natAbs_ediv_le_natAbs r rr
  omega
 have hab := ab_pos hb
 obtain ⟨q, hqe⟩ : ∃ q, q = r / rr := ⟨_, rfl⟩
 obtain ⟨s, hse⟩ : ∃ s, s = r % rr := ⟨_, rfl⟩
 have hgs : Int.gcd rr s = Int.gcd a b := by rw [hse, gcd_step', hg]
 rw [← hqe] at hdm hq ⊢
 rw [← hse] at hdm hm0 hm1 ⊢
 have hs : ab s = s := ab_of hm0
 have hk2 : ∃ k, s = (u - q * uu) * a + k * b := by
  refine ⟨k - q * k', ?_⟩
  have e1 : (u - q * uu) * a + (k - q * k') * b = (u * a + k * b) - q * (uu * a + k' * b) := by
   simp only [Int.sub_mul, Int.mul_add, Int.mul_assoc]; omega
  rw [e1, ← hk, ← hk', Int.mul_comm q rr]
  omega
 have hW := ab_sub u (q * uu)
 rw [ab_mul] at hW
 have hu0 := ab_nonneg u
 have hv0 := ab_nonneg uu
 have hw0 := ab_nonneg (u - q * uu)
 have hq0 := ab_nonneg q
 suffices hc : ab (u - q * uu) ≤ 3 * ab b ∧ ((uu = 0 ∧ u - q * uu = 1 ∧ rr = b ∧ 0 ≤ s) ∨ (0 < rr ∧ 0 ≤ s ∧ ab (u - q * uu) * rr + ab uu * s ≤ 3 * ab b)) by
  refine ⟨⟨⟨k', hk'⟩, hk2, hgs, huu, hc.1, .inr hrr, by omega, .inr ?_⟩, by omega, ?_, hq⟩
  ·rcases hc.2 with ⟨h1, h2, h3, h4⟩ | h1
   ·exact .inl ⟨h1, h2, h3, h4⟩
   ·exact .inr h1
  ·have h1 := ab_sub u (u - q * uu)
   rw [show u - (u - q * uu) = q * uu from by omega] at h1
   omega
 rcases hph with ⟨rfl, rfl, rfl, rfl⟩ | ⟨rfl, rfl, rfl, h4⟩ | ⟨h1, h2, h3⟩
 ·simp only [Int.mul_zero, Int.sub_zero]
  have e1 : ab 1 = 1 := rfl
  refine ⟨by omega, .inl ⟨trivial, trivial, trivial, hm0⟩⟩
 ·have hrp : 0 < rr := by omega
  have hrra : ab rr = rr := ab_of (by omega)
  have e1 : ab (0 - q * 1) = ab q := by unfold ab; omega
  have e2 : ab 1 = 1 := rfl
  rw [e1, e2]
  have key : ab q * rr + s ≤ 3 * ab r := by
   rcases (by omega : 0 ≤ q ∨ q < 0) with hq | hq
   ·rw [ab_of hq]
    have : ab r = r := by
     apply ab_of
     have := Int.mul_nonneg (show 0 ≤ rr by omega) hq
     omega
    rw [Int.mul_comm q rr]; omega
   ·have e3 : ab q = -q := by unfold ab; omega
    rw [e3, Int.neg_mul, Int.mul_comm q rr]
    have : -r ≤ ab r := by unfold ab; omega
    omega
  have h5 : ab q ≤ ab q * rr := by
   have := Int.mul_le_mul_of_nonneg_left (show 1 ≤ rr by omega) hq0
   omega
  exact ⟨by omega, .inr ⟨hrp, hm0, by omega⟩⟩
 ·have hrp : 0 < rr := by omega
  have hqn : 0 ≤ q := by rw [hqe]; exact Int.ediv_nonneg (by omega) (by omega)
  rw [ab_of hqn] at hW
  have p1 := Int.mul_nonneg (show 0 ≤ ab u + q * ab uu - ab (u - q * uu) by omega) (show 0 ≤ rr by omega)
  generalize ab (u - q * uu) = W at *
  generalize ab u = U at *
  generalize ab uu = V at *
  have e4 : V * r = V * (rr * q) + V * s := by rw [← Int.mul_add, hdm]
  have e5 : (U + q * V - W) * rr = U * rr + V * (rr * q) - W * rr := by
   rw [Int.sub_mul, Int.add_mul]
   congr 2
   rw [Int.mul_comm q V, Int.mul_assoc, Int.mul_comm q rr]
  have key : W * rr + V * s ≤ 3 * ab b := by omega
  have p2 := Int.mul_nonneg hv0 hm0
  have p3 := Int.mul_le_mul_of_nonneg_left (show 1 ≤ rr by omega) hw0
  exact ⟨by omega, .inr ⟨hrp, hm0, key⟩⟩

theorem bez_end {a b r u uu : Int} (hb : b ≠ 0) (h : BezInv a b r 0 u uu) : ab r = (Int.gcd a b : Int) ∧ 0 < ab r ∧ (∃ k, ab r = u * a + k * b) ∧ ab u ≤ 3 * ab b := by
 obtain ⟨⟨k, hk⟩, ⟨k', hk'⟩, hg, hu, huu, hr, hrr, hph⟩ := h
 have hga : ab r = (Int.gcd a b : Int) := by
  rw [← hg, Int.gcd_zero_right]; rfl
 have hgp : 0 < Int.gcd a b := Int.gcd_pos_of_ne_zero_right _ hb
 refine ⟨hga, by omega, ?_, hu⟩
 rcases (by omega : 0 ≤ r ∨ r < 0) with h0 | h0
 ·exact ⟨k, by rw [ab_of h0]; exact hk⟩
 ·rcases hph with ⟨_, _, _, h4⟩ | ⟨h1, h2, h3, h4⟩ | ⟨h1, _, _⟩
  ·exact absurd h4.symm hb
  ·refine ⟨-1, ?_⟩
   have : ab r = -r := by unfold ab; omega
   rw [this, h1, h3]; omega
  ·omega

theorem bez_last {a b g u : Int} (hb : b ≠ 0) (hg : g = (Int.gcd a b : Int)) (hu : ∃ k, g = u * a + k * b) :
  0 < ab b / g ∧ 0 ≤ u % (ab b / g) ∧ u % (ab b / g) < ab b / g ∧ (g - u % (ab b / g) * a) / b * b = g - u % (ab b / g) * a := by
 have hgp : 0 < Int.gcd a b := Int.gcd_pos_of_ne_zero_right _ hb
 have hg0 : 0 < g := by omega
 have hgb : g ∣ b := by rw [hg]; exact Int.gcd_dvd_right ..
 have hga : g ∣ a := by rw [hg]; exact Int.gcd_dvd_left ..
 obtain ⟨c, hc⟩ := hgb
 obtain ⟨d, hd⟩ := hga
 have hcab : ab b / g = ab c := by
  rw [hc, ab_mul, ab_of (show 0 ≤ g by omega), Int.mul_ediv_cancel_left _ (by omega)]
 have hc0 : c ≠ 0 := by intro e; rw [e, Int.mul_zero] at hc; exact hb hc
 have hcp := ab_pos hc0
 rw [hcab]
 refine ⟨by omega, Int.emod_nonneg _ (by omega), Int.emod_lt_of_pos _ (by omega), ?_⟩
 apply Int.ediv_mul_cancel
 obtain ⟨k, hk⟩ := hu
 have hdm := Int.mul_ediv_add_emod u (ab c)
 obtain ⟨sg, hsg⟩ : ∃ sg, ab c = sg * c := by
  rcases (by omega : 0 ≤ c ∨ c < 0) with h | h
  ·exact ⟨1, by rw [ab_of h]; omega⟩
  ·exact ⟨-1, by unfold ab; omega⟩
 refine ⟨k + sg * (u / ab c) * d, ?_⟩
 have e1 : u % ab c = u - ab c * (u / ab c) := by omega
 rw [e1, hk, Int.sub_mul]
 have e2 : ab c * (u / ab c) * a = b * (sg * (u / ab c) * d) := by
  rw [hd, hc]
  generalize u / ab c = t
  rw [hsg]
  simp only [Int.mul_comm, Int.mul_left_comm]
 rw [e2, Int.mul_add, Int.mul_comm b k]
 omega

end Go.Proofs.Ytihhlaagndingaa

namespace Go.Proofs.Ytihhlaagndingaa
open Go Go.RowKit

def putAll (ops : Array Oper) (vs : Nat → Value) : Nat → Act → Act
 | 0, a => a
 | k + 1, a => (putAll ops vs k a).put (dstOf ops k) (vs k)

theorem lay_all {ops : Array Oper} {L : Nat → Bool} {vs : Nat → Value} : ∀ {k : Nat} {a : Act}, (∀ j, j < k → L j = true) → lay ops L vs k a = putAll ops vs k a
 | 0, _, _ => rfl
 | k + 1, a, h => by simp only [lay, putAll]; rw [if_pos (h k (by omega)), lay_all fun j hj => h j (by omega)]

theorem pw_six (k : Nat) : 6 * pw k ≤ pw (k + 1) := by
 rw [pw_add]
 have e : pw 1 = 4294967296 := rfl
 have := pw_pos k
 rw [e]; omega

theorem num_of {w : World} {v : Value} {z : Int} (h : IsInt w v z) {k : Nat} (hz : ab z < pw k) (hk : k ≤ 900000) : Num w v z := h.num hk hz

theorem BoxNum.made {w : World} {n : Bool} {ao : Option Addr} {k c : Nat} {z : Int} (h : Num w (.agg #[.bool n, .slice ao k c]) z) (t : TypeId) : BoxNum (w.alloc (.cells #[.bool n, .slice ao k c] t)) w.heap.size z :=
 ⟨n, ao, k, c, IntBox.new w _ _ t, h.mono (alloc_below w _)⟩

theorem BoxNum.made0 (w : World) (t : TypeId) : BoxNum (w.alloc (.cells #[.bool false, .slice none 0 0] t)) w.heap.size 0 := BoxNum.zero (IntBox.new w _ _ t)

theorem boxes5 (w : World) {na nb : Bool} {ax ay : Option Addr} {n m cx cy : Nat} {a b : Int} (hA : Num w (.agg #[.bool na, .slice ax n cx]) a) (hB : Num w (.agg #[.bool nb, .slice ay m cy]) b) (t : TypeId) :
  ∃ w0, w0 = ((((w.alloc (.cells #[.bool na, .slice ax n cx] t)).alloc (.cells #[.bool nb, .slice ay m cy] t)).alloc (.cells #[.bool false, .slice none 0 0] t)).alloc (.cells #[.bool false, .slice none 0 0] t)).alloc (.cells #[.bool false, .slice none 0 0] t) ∧
   BoxNum w0 w.heap.size a ∧ BoxNum w0 (w.heap.size + 1) b ∧ BoxNum w0 (w.heap.size + 1 + 1) 0 ∧ BoxNum w0 (w.heap.size + 1 + 1 + 1) 0 ∧ BoxNum w0 (w.heap.size + 1 + 1 + 1 + 1) 0 ∧ Below w.heap.size w w0 ∧ Hid (w0.heap.size = w.heap.size + 5) := by
 obtain ⟨w1, h1⟩ : ∃ w1, w1 = w.alloc (.cells #[.bool na, .slice ax n cx] t) := ⟨_, rfl⟩
 have s1 : w1.heap.size = w.heap.size + 1 := by rw [h1, World.size_alloc]
 have b1 : Below w.heap.size w w1 := by rw [h1]; exact alloc_below _ _
 have x1 : BoxNum w1 w.heap.size a := by rw [h1]; exact BoxNum.made hA t
 have hB1 := hB.mono b1
 rw [← h1]
 obtain ⟨w2, h2⟩ : ∃ w2, w2 = w1.alloc (.cells #[.bool nb, .slice ay m cy] t) := ⟨_, rfl⟩
 have s2 : w2.heap.size = w.heap.size + 1 + 1 := by rw [h2, World.size_alloc, s1]
 have b2 : Below w1.heap.size w1 w2 := by rw [h2]; exact alloc_below _ _
 have x2 : BoxNum w2 (w.heap.size + 1) b := by rw [h2, ← s1]; exact BoxNum.made hB1 t
 rw [← h2]
 obtain ⟨w3, h3⟩ : ∃ w3, w3 = w2.alloc (.cells #[.bool false, .slice none 0 0] t) := ⟨_, rfl⟩
 have s3 : w3.heap.size = w.heap.size + 1 + 1 + 1 := by rw [h3, World.size_alloc, s2]
 have b3 : Below w2.heap.size w2 w3 := by rw [h3]; exact alloc_below _ _
 have x3 : BoxNum w3 (w.heap.size + 1 + 1) 0 := by rw [h3, ← s2]; exact BoxNum.made0 _ t
 rw [← h3]
 obtain ⟨w4, h4⟩ : ∃ w4, w4 = w3.alloc (.cells #[.bool false, .slice none 0 0] t) := ⟨_, rfl⟩
 have s4 : w4.heap.size = w.heap.size + 1 + 1 + 1 + 1 := by rw [h4, World.size_alloc, s3]
 have b4 : Below w3.heap.size w3 w4 := by rw [h4]; exact alloc_below _ _
 have x4 : BoxNum w4 (w.heap.size + 1 + 1 + 1) 0 := by rw [h4, ← s3]; exact BoxNum.made0 _ t
 rw [← h4]
 obtain ⟨w5, h5⟩ : ∃ w5, w5 = w4.alloc (.cells #[.bool false, .slice none 0 0] t) := ⟨_, rfl⟩
 have s5 : w5.heap.size = w.heap.size + 5 := by rw [h5, World.size_alloc, s4]
 have b5 : Below w4.heap.size w4 w5 := by rw [h5]; exact alloc_below _ _
 have x5 : BoxNum w5 (w.heap.size + 1 + 1 + 1 + 1) 0 := by rw [h5, ← s4]; exact BoxNum.made0 _ t
 refine ⟨w5, h5, (((x1.mono b2).mono b3).mono b4).mono b5, ((x2.mono b3).mono b4).mono b5, (x3.mono b4).mono b5, x4.mono b5, x5, ?_, s5⟩
 exact (((b1.trans (b2.mono b1.size)).trans (b3.mono (Nat.le_trans b1.size b2.size))).trans (b4.mono (Nat.le_trans (Nat.le_trans b1.size b2.size) b3.size))).trans (b5.mono (Nat.le_trans (Nat.le_trans (Nat.le_trans b1.size b2.size) b3.size) b4.size))

theorem Num.zero (w : World) : Num w (.agg #[.bool false, .slice none 0 0]) 0 := ⟨false, none, 0, 0, [], rfl, Sl.nil _, by omega, by simp [sgn, val], ⟨fun _ hx => by simp at hx, .inl rfl⟩, by simp⟩

theorem gives_num {w w' : World} {z : Int} {e : Ending} (h : GivesInt w z e w') {k : Nat} (hz : ab z < pw k) (hk : k ≤ 900000) : ∃ v', e = .returned v' ∧ Below w.heap.size w w' ∧ Num w' v' z := by
 obtain ⟨v, rfl, hi, hb⟩ := h
 exact ⟨v, rfl, hb, num_of hi hz hk⟩

theorem OfV (w : World) (z : Int) (h0 : -9223372036854775808 ≤ z) (h1 : z ≤ 9223372036854775807) : Calls Try.prog 57 #[.int .i64 z] w fun e w' => ∃ v', e = .returned v' ∧ Below w.heap.size w w' ∧ Num w' v' z :=
 (Of_any w z h0 h1).mono fun _ _ h => gives_num h (k := 2) (by have e : pw 2 = 18446744073709551616 := rfl; rw [e]; unfold ab; omega) (by omega)

theorem enter_Abs (args : Array Value) (w : World) : (callFunc 62 args).run Try.prog w = .ok (.enter 62 args) w := enter_of Try.func62 (by kernel_rfl) rfl args w
theorem enter_Sign (args : Array Value) (w : World) : (callFunc 22 args).run Try.prog w = .ok (.enter 22 args) w := enter_of Try.func22 (by kernel_rfl) rfl args w
theorem enter_Of (args : Array Value) (w : World) : (callFunc 57 args).run Try.prog w = .ok (.enter 57 args) w := enter_of Try.func57 (by kernel_rfl) rfl args w
theorem enter_Mul (args : Array Value) (w : World) : (callFunc 20 args).run Try.prog w = .ok (.enter 20 args) w := enter_of Try.func20 (by kernel_rfl) rfl args w
theorem enter_Sub (args : Array Value) (w : World) : (callFunc 60 args).run Try.prog w = .ok (.enter 60 args) w := enter_of Try.func60 (by kernel_rfl) rfl args w

theorem ab_ab (z : Int) : ab (ab z) = ab z := ab_of (ab_nonneg z)

theorem cmpI_small (z : Int) : -1 ≤ cmpI z 0 ∧ cmpI z 0 ≤ 1 := by
 unfold cmpI
 split
 ·omega
 ·split <;> omega

def BezGives (w : World) (a b : Int) (e : Ending) (w' : World) : Prop :=
 Below w.heap.size w w' ∧ ∃ v1 v2 v3 g u v, e = .returned (.tuple #[v1, v2, v3]) ∧ Num w' v1 g ∧ Num w' v2 u ∧ Num w' v3 v ∧ g = (Int.gcd a b : Int) ∧
  ((b = 0 ∧ u = cmpI a 0 ∧ v = 0) ∨ (b ≠ 0 ∧ 0 ≤ u ∧ u < ab b / g ∧ u * a + v * b = g))

theorem div_tup {w w' : World} {z z' : Int} {e : Ending} (h : DivGives w z z' e w') (h0 : z' ≠ 0) {k : Nat} (hq : ab (z / z') < pw k) (hr : ab (z % z') < pw k) (hk : k ≤ 900000) :
  ∃ v', e = .returned v' ∧ Below w.heap.size w w' ∧ (Fact.tup (z / z') (z % z')).holds v' w' := by
 obtain ⟨hb, ⟨h1, _⟩ | ⟨_, vq, vr, rfl, h1, h2⟩⟩ := h
 ·exact absurd h1 h0
 ·exact ⟨_, rfl, hb, vq, vr, _, rfl, num_of h1 hq hk, num_of h2 hr hk⟩

theorem Num.unique {w : World} {v : Value} {z z' : Int} (h : Num w v z) (h' : Num w v z') : z = z' := by
 obtain ⟨neg, ao, n, c, xs, rfl, hs, _, hz, _⟩ := h
 obtain ⟨neg', ao', n', c', xs', hv, hs', _, hz', _⟩ := h'
 cases hv
 rw [hz, hz', hs.unique hs']

theorem BoxNum.unique {w : World} {b : Nat} {z z' : Int} (h : BoxNum w b z) (h' : BoxNum w b z') : z = z' := by
 obtain ⟨n, ao, k, c, ⟨e0, e1, _, _⟩, hN⟩ := h
 obtain ⟨n', ao', k', c', ⟨f0, f1, _, _⟩, hN'⟩ := h'
 have h0 := e0.symm.trans f0
 have h1 := e1.symm.trans f1
 cases h0
 cases h1
 exact hN.unique hN'

open Classical in
noncomputable def boxVal (w : World) (b : Nat) : Nat :=
 if h : ∃ x : Nat, ∃ z, BoxNum w b z ∧ x = z.natAbs then Classical.choose h else 0

theorem boxVal_eq {w : World} {b : Nat} {z : Int} (h : BoxNum w b z) : boxVal w b = z.natAbs := by
 have he : ∃ x : Nat, ∃ z, BoxNum w b z ∧ x = z.natAbs := ⟨_, z, h, rfl⟩
 unfold boxVal
 rw [dif_pos he]
 obtain ⟨z', h', hx⟩ := Classical.choose_spec he
 rw [hx, h.unique h']

structure Bx (s : Nat) (a b : Int) (w W : World) : Prop where
 xA : BoxNum W s a
 xB : BoxNum W (s + 1) b
 x4 : BoxNum W (s + 1 + 1) 0
 x5 : BoxNum W (s + 1 + 1 + 1) 0
 x6 : BoxNum W (s + 1 + 1 + 1 + 1) 0
 below : Below s w W
 lt : s + 5 ≤ W.heap.size

theorem Bx.mono {s : Nat} {a b : Int} {w W W' : World} (h : Bx s a b w W) (hb : Below W.heap.size W W') : Bx s a b w W' :=
 ⟨h.xA.mono hb, h.xB.mono hb, h.x4.mono hb, h.x5.mono hb, h.x6.mono hb, h.below.trans (hb.mono (by have := h.lt; omega)), Nat.le_trans h.lt hb.size⟩

theorem Bx.put {s : Nat} {a b y : Int} {w W : World} {c : Nat} (h : Bx s a b w W) (hb : BoxNum W c y) (hc : s + 5 ≤ c) (n' : Bool) (a' : Option Addr) (k' c' : Nat) : Bx s a b w (putBox W c n' a' k' c') :=
 ⟨h.xA.putOther hb (by omega) _ _ _ _, h.xB.putOther hb (by omega) _ _ _ _, h.x4.putOther hb (by omega) _ _ _ _, h.x5.putOther hb (by omega) _ _ _ _, h.x6.putOther hb (by omega) _ _ _ _, belowPut h.below (by omega) _ _ _ _, by rw [putBox_size]; exact h.lt⟩

structure Bl (b7 b8 b9 b10 : Nat) (r rr u uu : Int) (W : World) : Prop where
 x7 : BoxNum W b7 r
 x8 : BoxNum W b8 rr
 x9 : BoxNum W b9 u
 x10 : BoxNum W b10 uu

theorem Bl.mono {b7 b8 b9 b10 : Nat} {r rr u uu : Int} {W W' : World} (h : Bl b7 b8 b9 b10 r rr u uu W) (hb : Below W.heap.size W W') : Bl b7 b8 b9 b10 r rr u uu W' :=
 ⟨h.x7.mono hb, h.x8.mono hb, h.x9.mono hb, h.x10.mono hb⟩

set_option maxHeartbeats 2000000 in
theorem Bezout_any (w : World) {na nb : Bool} {ax ay : Option Addr} {n m cx cy : Nat} {a b : Int} (hA : Num w (.agg #[.bool na, .slice ax n cx]) a) (hB : Num w (.agg #[.bool nb, .slice ay m cy]) b) {K : Nat} (hKa : ab a < pw K) (hKb : ab b < pw K) (hK : K ≤ 400000) :
  Calls Try.prog 90 #[.agg #[.bool na, .slice ax n cx], .agg #[.bool nb, .slice ay m cy]] w (BezGives w a b) := by
 have hal := hA.lt
 go_enter Try.func90, Try.ntmps90
 go_upto_region 1 with (fail)
 obtain ⟨w0, hw0, xA, xB, r4, r5, r6, hbl, HS⟩ := boxes5 w hA hB 29
 rw [← hw0]
 clear hw0
 have hN := xB
 obtain ⟨nb', ay', m', cy', ⟨c0, c1, _, _⟩, hN⟩ := hN
 go_wp2_with fail
 refine (SignV hN).mono ?_
 rintro e w1 ⟨rfl, hb1⟩
 have xA1 := xA.mono hb1
 have xB1 := xB.mono hb1
 have x41 := r4.mono hb1
 have x51 := r5.mono hb1
 have x61 := r6.mono hb1
 have hbl1 := hbl.trans (hb1.mono hbl.size)
 have HS1 : Hid (w.heap.size + 5 ≤ w1.heap.size) := by show _ ≤ _; have := HS.out; have := hb1.size; omega
 clear xA xB r4 r5 r6 hbl hb1 c0 c1 hN HS hA hB
 by_cases hb0 : b = 0
 ·have hc : cmpI b 0 = 0 := cmpI_zero.2 hb0
  rw [hc]
  clear hc
  go_wp2
  have hp : (mkPlan [.num a, .num (ab a), .num a, .int (cmpI a 0), .num (cmpI a 0), .num 0] [(w.heap.size, 1000, a, a), (w.heap.size + 1 + 1, 6, 0, ab a), (w.heap.size + 1 + 1 + 1, 7, 0, cmpI a 0), (w.heap.size + 1 + 1 + 1 + 1, 8, 0, 0)] []).Ok w.heap.size w1.heap.size :=
   mkPlan_ok (by have := HS1.out; simp; omega) (by simp; omega) (by simp) (by have := HS1.out; omega)
  refine region_steps (p := mkPlan [.num a, .num (ab a), .num a, .int (cmpI a 0), .num (cmpI a 0), .num 0] [(w.heap.size, 1000, a, a), (w.heap.size + 1 + 1, 6, 0, ab a), (w.heap.size + 1 + 1 + 1, 7, 0, cmpI a 0), (w.heap.size + 1 + 1 + 1 + 1, 8, 0, 0)] []) (B := w.heap.size) (B0 := w1.heap.size) (w0 := w) (by kernel_rfl) rfl rfl
   (mkPlan_start (by simp; exact ⟨xA1, x41, x51, x61⟩) hbl1) ⟨?_, ?_, ?_, ?_, ?_, ?_, ?_, ?_, ?_, trivial⟩ ?_
  ·exact st_load hp (.head _) (.inl rfl) rfl rfl (fun v w h => h) ⟨by simp [mkPlan], by simp [mkPlan]⟩
  ·exact st_call1 (j := 0) hp rfl rfl (by simp) rfl enter_Abs (fun v w h => (AbsV h).mono fun e w' h' => gives_num h' (by show ab (ab a) < _; rw [ab_ab]; exact hal) (Nat.le_refl _)) ⟨by simp [mkPlan], by simp [mkPlan]⟩
  ·exact st_load hp (.head _) (.inl rfl) rfl rfl (fun v w h => h) ⟨by simp [mkPlan], by simp [mkPlan]⟩
  ·exact st_call1 (j := 2) hp rfl rfl (by simp) rfl enter_Sign (fun v w h => (SignV h).mono fun e w' h' => ⟨_, h'.1, h'.2, rfl⟩) ⟨by simp [mkPlan], by simp [mkPlan]⟩
  ·exact st_call1 (j := 3) hp rfl rfl (by simp) rfl enter_Of (fun v w h => by have h' : v = .int .i64 (cmpI a 0) := h; subst h'; have := cmpI_small a; exact OfV _ _ (by omega) (by omega)) ⟨by simp [mkPlan], by simp [mkPlan]⟩
  ·exact st_zero hp (fun w => Num.zero w) ⟨by simp [mkPlan], by simp [mkPlan]⟩
  ·exact st_storeOld (j := 1) hp rfl (.tail _ (.head _)) rfl rfl rfl (by simp) rfl (fun v w h => h) (fun _ _ => trivial) (by simp [mkPlan]) (by simp [mkPlan])
  ·exact st_storeOld (j := 4) hp rfl (.tail _ (.tail _ (.head _))) rfl rfl rfl (by simp) rfl (fun v w h => h) (fun _ _ => trivial) (by simp [mkPlan]) (by simp [mkPlan])
  ·exact st_storeOld (j := 5) hp rfl (.tail _ (.tail _ (.tail _ (.head _)))) rfl rfl rfl (by simp) rfl (fun v w h => h) (fun _ _ => trivial) (by simp [mkPlan]) (by simp [mkPlan])
  ·intro L vs w2 hL hG
   have y4 : BoxNum w2 (w.heap.size + 1 + 1) (ab a) := by have := hG.old _ (.tail _ (.head _)); simpa [hL 6 (by simp)] using this
   have y5 : BoxNum w2 (w.heap.size + 1 + 1 + 1) (cmpI a 0) := by have := hG.old _ (.tail _ (.tail _ (.head _))); simpa [hL 7 (by simp)] using this
   have y6 : BoxNum w2 (w.heap.size + 1 + 1 + 1 + 1) 0 := by have := hG.old _ (.tail _ (.tail _ (.tail _ (.head _)))); simpa [hL 8 (by simp)] using this
   have hbl2 := hG.below
   have hl : ∀ j, j < 9 → L j = true := hL
   rw [lay_all hL]
   clear hL hG hl hp xA1 xB1 x41 x51 x61 hbl1
   simp only [putAll, dstOf, List.length_cons, List.length_nil, Nat.zero_add, Nat.reduceAdd, List.getElem?_toArray, List.getElem?_cons_zero, List.getElem?_cons_succ, Option.bind_some, Act.put, List.setIfInBounds_toArray, List.set_cons_succ, List.set_cons_zero]
   obtain ⟨n4, a4, k4, c4, ⟨e0, e1, _, _⟩, N4⟩ := y4
   obtain ⟨n5, a5, k5, c5, ⟨f0, f1, _, _⟩, N5⟩ := y5
   obtain ⟨n6, a6, k6, c6, ⟨g0, g1, _, _⟩, N6⟩ := y6
   go_wp2
   refine bodyPost_ret (v := .tuple #[.agg #[.bool n4, .slice a4 k4 c4], .agg #[.bool n5, .slice a5 k5 c5], .agg #[.bool n6, .slice a6 k6 c6]]) ?_ rfl ⟨hbl2, _, _, _, ab a, cmpI a 0, 0, rfl, N4, N5, N6, ?_, .inl ⟨hb0, rfl, rfl⟩⟩
   ·simp [results, Try.results90, go_sem, e0, e1, f0, f1, g0, g1]
   ·rw [hb0, Int.gcd_zero_right]; rfl
 ·have hc : cmpI b 0 ≠ 0 := fun h => hb0 (cmpI_zero.1 h)
  generalize cmpI b 0 = t at *
  have hcb : (t == 0) = false := by simp [hc]
  clear hc
  go_wp2
  have hp : (mkPlan [.num a, .num b] [(w.heap.size, 1000, a, a), (w.heap.size + 1, 1001, b, b), (w.heap.size + 1 + 1, 1002, 0, 0), (w.heap.size + 1 + 1 + 1, 1003, 0, 0), (w.heap.size + 1 + 1 + 1 + 1, 1004, 0, 0)] [(2, 4, a), (3, 5, b)]).Ok w.heap.size w1.heap.size :=
   mkPlan_ok (by have := HS1.out; simp; omega) (by simp; omega) (by simp) (by have := HS1.out; omega)
  refine region_steps (p := mkPlan [.num a, .num b] [(w.heap.size, 1000, a, a), (w.heap.size + 1, 1001, b, b), (w.heap.size + 1 + 1, 1002, 0, 0), (w.heap.size + 1 + 1 + 1, 1003, 0, 0), (w.heap.size + 1 + 1 + 1 + 1, 1004, 0, 0)] [(2, 4, a), (3, 5, b)]) (B := w.heap.size) (B0 := w1.heap.size) (w0 := w) (by kernel_rfl) rfl rfl
   (mkPlan_start (by simp; exact ⟨xA1, xB1, x41, x51, x61⟩) hbl1) ⟨?_, ?_, ?_, ?_, ?_, ?_, trivial⟩ ?_
  ·exact st_load hp (.head _) (.inl rfl) rfl rfl (fun v w h => h) ⟨by simp [mkPlan], by simp [mkPlan]⟩
  ·exact st_load hp (.tail _ (.head _)) (.inl rfl) rfl rfl (fun v w h => h) ⟨by simp [mkPlan], by simp [mkPlan]⟩
  ·exact st_alloc (k := 4) hp (.head _) rfl (fun _ _ => trivial) (by simp [mkPlan]) (by simp [mkPlan])
  ·exact st_alloc (k := 5) hp (.tail _ (.head _)) rfl (fun _ _ => trivial) (by simp [mkPlan]) (by simp [mkPlan])
  ·exact st_storeNew (i0 := 2) (j := 0) hp rfl (.head _) rfl (by simp) rfl rfl (by simp) rfl (fun v w h => h) (fun _ _ => trivial) (by simp [mkPlan]) (by simp [mkPlan])
  ·exact st_storeNew (i0 := 3) (j := 1) hp rfl (.tail _ (.head _)) rfl (by simp) rfl rfl (by simp) rfl (fun v w h => h) (fun _ _ => trivial) (by simp [mkPlan]) (by simp [mkPlan])
  intro L vs w2 hL hG
  have hl : ∀ j, j < 6 → L j = true := hL
  have xA2 : BoxNum w2 w.heap.size a := by have := hG.old _ (.head _); simpa using this
  have xB2 : BoxNum w2 (w.heap.size + 1) b := by have := hG.old _ (.tail _ (.head _)); simpa using this
  have x42 : BoxNum w2 (w.heap.size + 1 + 1) 0 := by have := hG.old _ (.tail _ (.tail _ (.head _))); simpa using this
  have x52 : BoxNum w2 (w.heap.size + 1 + 1 + 1) 0 := by have := hG.old _ (.tail _ (.tail _ (.tail _ (.head _)))); simpa using this
  have x62 : BoxNum w2 (w.heap.size + 1 + 1 + 1 + 1) 0 := by have := hG.old _ (.tail _ (.tail _ (.tail _ (.tail _ (.head _))))); simpa using this
  obtain ⟨p7, q7, hp7, x72⟩ := hG.new _ (.head _) (hl 2 (by omega))
  obtain ⟨p8, q8, hp8, x82⟩ := hG.new _ (.tail _ (.head _)) (hl 3 (by omega))
  have h78 := hG.apart _ (.head _) _ (.tail _ (.head _)) (by simp) (hl 2 (by omega)) (hl 3 (by omega))
  replace q7 : vs 2 = .pointer (some ⟨p7, 0, none⟩) := q7
  replace q8 : vs 3 = .pointer (some ⟨p8, 0, none⟩) := q8
  replace x72 : BoxNum w2 p7 a := by simpa [hl 4 (by omega)] using x72
  replace x82 : BoxNum w2 p8 b := by simpa [hl 5 (by omega)] using x82
  replace h78 : p7 ≠ p8 := fun e => h78 (by show vs 2 = vs 3; rw [q7, q8, e])
  have hbl2 := hG.below
  rw [lay_all hL]
  clear hL hG hl hp xA1 xB1 x41 x51 x61 hbl1
  simp only [putAll, dstOf, List.length_cons, List.length_nil, Nat.zero_add, Nat.reduceAdd, List.getElem?_toArray, List.getElem?_cons_zero, List.getElem?_cons_succ, Option.bind_some, Act.put, List.setIfInBounds_toArray, List.set_cons_succ, List.set_cons_zero]
  rw [q7, q8]
  generalize vs 0 = u30
  generalize vs 1 = u31
  clear q7 q8 vs L
  go_wp2_with fail
  refine (OfV w2 1 (by omega) (by omega)).mono ?_
  rintro e w3 ⟨v1, rfl, hb3, N1⟩
  go_wp2_with fail
  refine (OfV w3 0 (by omega) (by omega)).mono ?_
  rintro e w4 ⟨v2, rfl, hb4, N2⟩
  obtain ⟨d1, a1, k1, c1, rfl⟩ := N1.parts
  obtain ⟨d2, a2, k2, c2, rfl⟩ := N2.parts
  have N1' := N1.mono hb4
  have hb24 := hb3.trans (hb4.mono hb3.size)
  have xA4 := xA2.mono hb24
  have xB4 := xB2.mono hb24
  have x44 := x42.mono hb24
  have x54 := x52.mono hb24
  have x64 := x62.mono hb24
  have x74 := x72.mono hb24
  have x84 := x82.mono hb24
  have hbl4 := hbl2.trans (hb24.mono hbl2.size)
  have HS4 : Hid (p7 < w4.heap.size ∧ p8 < w4.heap.size) := ⟨x74.lt, x84.lt⟩
  clear xA2 xB2 x42 x52 x62 x72 x82 hb24 hb3 hb4 N1 hbl2
  have hs5 : w.heap.size + 5 ≤ w1.heap.size := HS1.out
  have hw14 : w1.heap.size ≤ w4.heap.size := by have := HS4.out; omega
  have hX4 : Bx w.heap.size a b w w4 := ⟨xA4, xB4, x44, x54, x64, hbl4, by omega⟩
  clear xA4 xB4 x44 x54 x64 hbl4 HS1
  obtain ⟨w5, b9, b10, hw5, h9e, h10e⟩ : ∃ w5 b9 b10, w5 = (w4.alloc (.cells #[.bool d1, .slice a1 k1 c1] 29)).alloc (.cells #[.bool d2, .slice a2 k2 c2] 29) ∧ b9 = w4.heap.size ∧ b10 = w4.heap.size + 1 := ⟨_, _, _, rfl, rfl, rfl⟩
  go_wp2
  rw [← hw5, ← h10e, ← h9e]
  have hBx : Bx w.heap.size a b w w5 := by rw [hw5]; exact (hX4.mono (alloc_below _ _)).mono (alloc_below _ _)
  have hBl : Bl p7 p8 b9 b10 a b 1 0 w5 := by
   have x1 := (BoxNum.made N1' 29).mono (alloc_below _ (.cells #[.bool d2, .slice a2 k2 c2] 29))
   have x2 := BoxNum.made (N2.mono (alloc_below w4 (.cells #[.bool d1, .slice a1 k1 c1] 29))) 29
   rw [World.size_alloc] at x2
   rw [hw5, h9e, h10e]
   exact ⟨(x74.mono (alloc_below _ _)).mono (alloc_below _ _), (x84.mono (alloc_below _ _)).mono (alloc_below _ _), x1, x2⟩
  have H910 : Hid (w.heap.size + 5 ≤ p7 ∧ w.heap.size + 5 ≤ p8 ∧ w.heap.size + 5 ≤ b9 ∧ w.heap.size + 5 ≤ b10 ∧ p7 ≠ p8 ∧ p7 ≠ b9 ∧ p7 ≠ b10 ∧ p8 ≠ b9 ∧ p8 ≠ b10 ∧ b9 ≠ b10) := by
   show _ ∧ _
   have := HS4.out
   omega
  have hI0 := bez_start (a := a) hb0
  clear hX4 x74 x84 N1' N2 hw5 h9e h10e HS4 hs5 hw14 hp7 hp8 h78
  go_loopw [13] (fun _ W => ∃ r rr u uu, BezInv a b r rr u uu ∧ Bx w.heap.size a b w W ∧ Bl p7 p8 b9 b10 r rr u uu W) (fun _ W => boxVal W p8)
  case atStart => exact ⟨a, b, 1, 0, hI0, hBx, hBl⟩
  case round =>
   obtain ⟨r, rr, u, uu, hI, hx, hl⟩ := hrel
   clear hBx hBl hI0
   have h8 := hl.x8
   obtain ⟨n8, a8, k8, c8, ⟨e0, e1, _, _⟩, N8⟩ := h8
   go_wp2_with fail
   refine (SignV N8).mono ?_
   rintro e w6 ⟨rfl, hb6⟩
   have hx6 := hx.mono hb6
   have hl6 := hl.mono hb6
   have hbv : boxVal wr p8 = rr.natAbs := boxVal_eq hl.x8
   have HBV := hidd hbv
   clear hx hl e0 e1 N8 hb6 hbv
   by_cases h0 : rr = 0
   ·subst h0
    have hc : cmpI 0 0 = 0 := rfl
    rw [hc]
    clear hc
    have h7 := hl6.x7
    obtain ⟨n7, a7, k7, c7, ⟨f0, f1, _, _⟩, N7⟩ := h7
    obtain ⟨g, hge⟩ : ∃ g, g = ab r := ⟨_, rfl⟩
    obtain ⟨hgg, hgp, hgk, hgu⟩ := bez_end hb0 hI
    have hKr : ab r < pw K := by rcases hI.2.2.2.2.2.1 with h | h <;> omega
    rw [← hge] at hgg hgp hgk hKr
    obtain ⟨lm0, lu0, lu1, lv⟩ := bez_last hb0 hgg hgk
    obtain ⟨u', hu'⟩ : ∃ u', u' = u % (ab b / g) := ⟨_, rfl⟩
    rw [← hu'] at lu0 lu1 lv
    have hbb := ab_nonneg b
    have hdm := Int.mul_ediv_add_emod (ab b) g
    have hm0 := Int.emod_nonneg (ab b) (show g ≠ 0 by omega)
    have hmq : ab b / g ≤ ab b := by
     have h1 := Int.mul_le_mul_of_nonneg_right (show 1 ≤ g by omega) (show 0 ≤ ab b / g by omega)
     omega
    have hmr : ab b % g ≤ ab b := by
     have h1 := Int.mul_nonneg (show 0 ≤ g by omega) (show 0 ≤ ab b / g by omega)
     omega
    have hp6 := pw_six K
    have hp2 : pw (K + K) = pw K * pw K := pw_add K K
    have hp7 := pw_six (K + K)
    have hpk := pw_pos K
    have hKm : ab (ab b / g) < pw K := by rw [ab_of (by omega)]; omega
    have hKn : ab (ab b % g) < pw K := by rw [ab_of hm0]; omega
    have hKu' : ab u' < pw K := by rw [ab_of lu0]; omega
    have hKua : ab (u' * a) < pw (K + K) := by
     rw [ab_mul, hp2]
     have h1 := Int.mul_le_mul_of_nonneg_left (show ab a ≤ pw K by omega) (ab_nonneg u')
     have h2 := Int.mul_lt_mul_of_pos_right hKu' hpk
     omega
    have hpkk : pw K ≤ pw (K + K) := pw_le (by omega)
    have hKs : ab (g - u' * a) < pw (K + K + 1) := by
     have h1 := ab_sub g (u' * a)
     have h2 : ab g = g := ab_of (by omega)
     omega
    have hKv : ab ((g - u' * a) / b) < pw (K + K + 1) := by
     have h1 := Int.natAbs_ediv_le_natAbs (g - u' * a) b
     have h2 : ab ((g - u' * a) / b) ≤ ab (g - u' * a) := by unfold ab; omega
     omega
    have hKw : ab ((g - u' * a) % b) < pw (K + K + 1) := by
     have h1 := Int.emod_nonneg (g - u' * a) hb0
     have h2 := Int.emod_lt (g - u' * a) hb0
     have h3 : ab ((g - u' * a) % b) < ab b := by rw [ab_of h1]; unfold ab; exact h2
     omega
    have hfin : u' * a + (g - u' * a) / b * b = g := by rw [lv]; omega
    have hgcd : Hid (g = (Int.gcd a b : Int)) := hgg
    have HG := hidd hge
    clear hgg hge lv hdm hp6 hp2 hp7 hpk hpkk hgk hgu hI
    go_wp2_with fail
    refine (AbsV N7).mono ?_
    rintro e w7 ⟨vg, rfl, hg, hb7⟩
    have Ng : Num w7 vg g := by rw [HG.out]; exact num_of hg (k := K) (by show ab (ab r) < _; rw [ab_ab, ← HG.out]; exact hKr) (by omega)
    obtain ⟨m1, q1, j1, o1, rfl⟩ := Ng.parts
    have hx7 := hx6.mono hb7
    have hl7 := hl6.mono hb7
    clear hx6 hl6 hb7 f0 f1 N7 hg
    obtain ⟨w8, b14, hw8, h14e⟩ : ∃ w8 b14, w8 = w7.alloc (.cells #[.bool m1, .slice q1 j1 o1] 29) ∧ b14 = w7.heap.size := ⟨_, _, rfl, rfl⟩
    go_wp2
    rw [← hw8, ← h14e]
    have hx8 : Bx w.heap.size a b w w8 := by rw [hw8]; exact hx7.mono (alloc_below _ _)
    have hl8 : BoxNum w8 b9 u := by rw [hw8]; exact hl7.x9.mono (alloc_below _ _)
    have x14 : BoxNum w8 b14 g := by rw [hw8, h14e]; exact BoxNum.made Ng 29
    have H14 : Hid (w.heap.size + 5 ≤ b14 ∧ b9 < b14) := by
     have h1 := hl7.x9.lt
     have h2 := hx7.lt
     show _ ∧ _
     omega
    clear hw8 h14e hx7 hl7 Ng
    have hp : (mkPlan [.num b, .num (ab b), .num g, .tup (ab b / g) (ab b % g), .tup (ab b / g) (ab b % g), .num (ab b / g), .num (ab b % g)] [(b9, 1001, u, u), (b14, 1002, g, g), (w.heap.size, 1010, a, a), (w.heap.size + 1, 1011, b, b), (w.heap.size + 1 + 1, 1012, 0, 0), (w.heap.size + 1 + 1 + 1, 1013, 0, 0), (w.heap.size + 1 + 1 + 1 + 1, 1014, 0, 0)] [(8, 10, ab b / g), (9, 11, ab b % g)]).Ok w.heap.size w8.heap.size :=
     mkPlan_ok (by have h1 := H14.out; have h2 := H910.out; have h3 := hx8.lt; have h4 := x14.lt; simp; omega) (by have h1 := H14.out; have h2 := H910.out; simp; omega) (by simp) (by have := hx8.lt; omega)
    refine region_steps (p := mkPlan [.num b, .num (ab b), .num g, .tup (ab b / g) (ab b % g), .tup (ab b / g) (ab b % g), .num (ab b / g), .num (ab b % g)] [(b9, 1001, u, u), (b14, 1002, g, g), (w.heap.size, 1010, a, a), (w.heap.size + 1, 1011, b, b), (w.heap.size + 1 + 1, 1012, 0, 0), (w.heap.size + 1 + 1 + 1, 1013, 0, 0), (w.heap.size + 1 + 1 + 1 + 1, 1014, 0, 0)] [(8, 10, ab b / g), (9, 11, ab b % g)]) (B := w.heap.size) (B0 := w8.heap.size) (w0 := w) (by kernel_rfl) rfl rfl
     (mkPlan_start (by simp; exact ⟨hl8, x14, hx8.xA, hx8.xB, hx8.x4, hx8.x5, hx8.x6⟩) hx8.below) ⟨?_, ?_, ?_, ?_, ?_, ?_, ?_, ?_, ?_, ?_, ?_, ?_, ?_, trivial⟩ ?_
    ·exact st_load (b := w.heap.size + 1) (k := 1011) (z := b) (z' := b) hp (by simp [mkPlan]) (.inl rfl) rfl rfl (fun v w h => h) ⟨by simp [mkPlan], by simp [mkPlan]⟩
    ·exact st_call1 (j := 0) hp rfl rfl (by simp) rfl enter_Abs (fun v w h => (AbsV h).mono fun e w' h' => gives_num h' (k := K) (by show ab (ab b) < _; rw [ab_ab]; exact hKb) (by omega)) ⟨by simp [mkPlan], by simp [mkPlan]⟩
    ·exact st_load (b := b14) (k := 1002) (z := g) (z' := g) hp (by simp [mkPlan]) (.inl rfl) rfl rfl (fun v w h => h) ⟨by simp [mkPlan], by simp [mkPlan]⟩
    ·exact st_call2 (j := 1) (j' := 2) hp rfl rfl (by simp) rfl rfl (by simp) rfl enter_DivMod (fun v v' w h h' => (DivModV h h').mono fun e w' h' => div_tup h' (by omega) hKm hKn (by omega)) ⟨by simp [mkPlan], by simp [mkPlan]⟩
    ·exact st_move (j := 3) hp rfl rfl (by simp) rfl (fun v w h => h) ⟨by simp [mkPlan], by simp [mkPlan]⟩
    ·exact st_extract (j := 4) hp rfl rfl (by simp) rfl (fun v w h => by obtain ⟨v1, v2, v3, h0, h1, h2⟩ := h; exact ⟨_, v1, h0, rfl, h1⟩) ⟨by simp [mkPlan], by simp [mkPlan]⟩
    ·exact st_extract (j := 4) hp rfl rfl (by simp) rfl (fun v w h => by obtain ⟨v1, v2, v3, h0, h1, h2⟩ := h; exact ⟨_, v2, h0, rfl, h2⟩) ⟨by simp [mkPlan], by simp [mkPlan]⟩
    ·exact st_extract (j := 4) hp rfl rfl (by simp) rfl (fun v w h => by obtain ⟨v1, v2, v3, h0, h1, h2⟩ := h; exact ⟨_, v3, h0, rfl, trivial⟩) ⟨by simp [mkPlan], by simp [mkPlan]⟩
    ·exact st_alloc (k := 10) (z := ab b / g) hp (by simp [mkPlan]) rfl (fun _ _ => trivial) (by simp [mkPlan]) (by simp [mkPlan])
    ·exact st_alloc (k := 11) (z := ab b % g) hp (by simp [mkPlan]) rfl (fun _ _ => trivial) (by simp [mkPlan]) (by simp [mkPlan])
    ·exact st_storeNew (i0 := 8) (j := 5) (z := ab b / g) hp rfl (by simp [mkPlan]) rfl (by simp) rfl rfl (by simp) rfl (fun v w h => h) (fun _ _ => trivial) (by simp [mkPlan]) (by simp [mkPlan])
    ·exact st_storeNew (i0 := 9) (j := 6) (z := ab b % g) hp rfl (by simp [mkPlan]) rfl (by simp) rfl rfl (by simp) rfl (fun v w h => h) (fun _ _ => trivial) (by simp [mkPlan]) (by simp [mkPlan])
    ·exact st_assign (j := 7) hp rfl rfl (by simp) rfl (fun v w h => trivial) ⟨by simp [mkPlan], by simp [mkPlan]⟩
    intro L vs w9 hL hG
    have hls : ∀ j, j < 13 → L j = true := hL
    have y9 : BoxNum w9 (b9) (u) := by have := hG.old (b9, 1001, u, u) (by simp [mkPlan]); simpa using this
    have y14 : BoxNum w9 (b14) (g) := by have := hG.old (b14, 1002, g, g) (by simp [mkPlan]); simpa using this
    have yA : BoxNum w9 (w.heap.size) (a) := by have := hG.old (w.heap.size, 1010, a, a) (by simp [mkPlan]); simpa using this
    have yB : BoxNum w9 (w.heap.size + 1) (b) := by have := hG.old (w.heap.size + 1, 1011, b, b) (by simp [mkPlan]); simpa using this
    have y4 : BoxNum w9 (w.heap.size + 1 + 1) (0) := by have := hG.old (w.heap.size + 1 + 1, 1012, 0, 0) (by simp [mkPlan]); simpa using this
    have y5 : BoxNum w9 (w.heap.size + 1 + 1 + 1) (0) := by have := hG.old (w.heap.size + 1 + 1 + 1, 1013, 0, 0) (by simp [mkPlan]); simpa using this
    have y6 : BoxNum w9 (w.heap.size + 1 + 1 + 1 + 1) (0) := by have := hG.old (w.heap.size + 1 + 1 + 1 + 1, 1014, 0, 0) (by simp [mkPlan]); simpa using this
    obtain ⟨p15, q15, hp15, y15⟩ := hG.new (8, 10, ab b / g) (by simp [mkPlan]) (hls 8 (by omega))
    obtain ⟨p16, q16, hp16, y16⟩ := hG.new (9, 11, ab b % g) (by simp [mkPlan]) (hls 9 (by omega))
    replace q15 : vs 8 = .pointer (some ⟨p15, 0, none⟩) := q15
    replace q16 : vs 9 = .pointer (some ⟨p16, 0, none⟩) := q16
    replace y15 : BoxNum w9 p15 (ab b / g) := by simpa [hls 10 (by omega)] using y15
    have hbl9 := hG.below
    have hx9 : Bx w.heap.size a b w w9 := ⟨yA, yB, y4, y5, y6, hbl9, by have := hG.size; have := hx8.lt; omega⟩
    rw [lay_all hL]
    clear hL hG hls hp hx8 hl8 x14 yA yB y4 y5 y6 y16 hbl9
    simp only [putAll, dstOf, List.length_cons, List.length_nil, Nat.zero_add, Nat.reduceAdd, List.getElem?_toArray, List.getElem?_cons_zero, List.getElem?_cons_succ, Option.bind_some, Act.put, List.setIfInBounds_toArray, List.set_cons_succ, List.set_cons_zero]
    rw [q15, q16]
    generalize vs 0 = u55
    generalize vs 1 = u56
    generalize vs 2 = u57
    generalize vs 3 = u58
    generalize vs 4 = u54
    generalize vs 5 = u59
    generalize vs 6 = u60
    generalize vs 7 = u61
    generalize vs 12 = u17
    clear q15 q16 vs L
    have h9 := y9
    have h15 := y15
    obtain ⟨n9, a9, k9, c9, ⟨e0, e1, e2, e3⟩, N9⟩ := h9
    obtain ⟨n15, a15, k15, c15, ⟨f0, f1, _, _⟩, N15⟩ := h15
    go_wp2_with fail
    refine (DivModV N9 N15).mono ?_
    rintro e wb ⟨hb, ⟨h0', _⟩ | ⟨_, vq, vr, rfl, hq2, hr2⟩⟩
    ·exact absurd h0' (by omega)
    have N' : Num wb vr u' := by rw [hu']; exact num_of hr2 (k := K) (by rw [← hu']; exact hKu') (by omega)
    obtain ⟨m2, q2, j2, o2, rfl⟩ := N'.parts
    have hxb := hx9.mono hb
    have y9b := y9.mono hb
    have y14b := y14.mono hb
    have HU := hidd hu'
    have HN : Hid (p15 < p15 + 1) := Nat.lt_succ_self _
    clear hx9 y9 y14 y15 e0 e1 e2 e3 f0 f1 N9 N15 hb hq2 hr2 hu' hp15 hp16
    have h9 := y9b
    obtain ⟨n9, a9, k9, c9, ⟨e0, e1, e2, e3⟩, N9⟩ := h9
    obtain ⟨wc, hwc⟩ : ∃ wc, wc = putBox wb b9 m2 q2 j2 o2 := ⟨_, rfl⟩
    have hwc' : wc = (wb.setCell ⟨b9, 0, none⟩ (.bool m2)).setCell ⟨b9, 1, none⟩ (.slice q2 j2 o2) := hwc
    go_wp2
    rw [← hwc']
    have hlb9 : w.heap.size + 5 ≤ b9 := H910.out.2.2.1
    have hxc : Bx w.heap.size a b w wc := by rw [hwc]; exact hxb.put y9b hlb9 _ _ _ _
    have y9c : BoxNum wc b9 u' := by rw [hwc]; exact y9b.putSame N'
    have y14c : BoxNum wc b14 g := by rw [hwc]; exact y14b.putOther y9b (by have := H14.out; omega) _ _ _ _
    clear hwc hwc' hxb y9b y14b e0 e1 e2 e3 N9 N'
    have hp : (mkPlan [.num g, .num u', .num a, .num (u' * a), .num (g - u' * a), .num b, .tup ((g - u' * a) / b) ((g - u' * a) % b), .tup ((g - u' * a) / b) ((g - u' * a) % b), .num ((g - u' * a) / b), .num ((g - u' * a) % b)] [(b9, 1001, u', u'), (b14, 1002, g, g), (w.heap.size, 1010, a, a), (w.heap.size + 1, 1011, b, b), (w.heap.size + 1 + 1, 1012, 0, 0), (w.heap.size + 1 + 1 + 1, 1013, 0, 0), (w.heap.size + 1 + 1 + 1 + 1, 1014, 0, 0)] [(11, 13, (g - u' * a) / b), (12, 14, (g - u' * a) % b)]).Ok w.heap.size wc.heap.size :=
     mkPlan_ok (by have h1 := H14.out; have h2 := H910.out; have h3 := hxc.lt; have h4 := y14c.lt; simp; omega) (by have h1 := H14.out; have h2 := H910.out; simp; omega) (by simp) (by have := hxc.lt; omega)
    refine region_steps (p := mkPlan [.num g, .num u', .num a, .num (u' * a), .num (g - u' * a), .num b, .tup ((g - u' * a) / b) ((g - u' * a) % b), .tup ((g - u' * a) / b) ((g - u' * a) % b), .num ((g - u' * a) / b), .num ((g - u' * a) % b)] [(b9, 1001, u', u'), (b14, 1002, g, g), (w.heap.size, 1010, a, a), (w.heap.size + 1, 1011, b, b), (w.heap.size + 1 + 1, 1012, 0, 0), (w.heap.size + 1 + 1 + 1, 1013, 0, 0), (w.heap.size + 1 + 1 + 1 + 1, 1014, 0, 0)] [(11, 13, (g - u' * a) / b), (12, 14, (g - u' * a) % b)]) (B := w.heap.size) (B0 := wc.heap.size) (w0 := w) (by kernel_rfl) rfl rfl
     (mkPlan_start (by simp; exact ⟨y9c, y14c, hxc.xA, hxc.xB, hxc.x4, hxc.x5, hxc.x6⟩) hxc.below) ⟨?_, ?_, ?_, ?_, ?_, ?_, ?_, ?_, ?_, ?_, ?_, ?_, ?_, ?_, ?_, ?_, trivial⟩ ?_
    ·exact st_load (b := b14) (k := 1002) (z := g) (z' := g) hp (by simp [mkPlan]) (.inl rfl) rfl rfl (fun v w h => h) ⟨by simp [mkPlan], by simp [mkPlan]⟩
    ·exact st_load (b := b9) (k := 1001) (z := u') (z' := u') hp (by simp [mkPlan]) (.inl rfl) rfl rfl (fun v w h => h) ⟨by simp [mkPlan], by simp [mkPlan]⟩
    ·exact st_load (b := w.heap.size) (k := 1010) (z := a) (z' := a) hp (by simp [mkPlan]) (.inl rfl) rfl rfl (fun v w h => h) ⟨by simp [mkPlan], by simp [mkPlan]⟩
    ·exact st_call2 (j := 1) (j' := 2) hp rfl rfl (by simp) rfl rfl (by simp) rfl enter_Mul (fun v v' w h h' => (MulV h h').mono fun e w' h' => gives_num h' hKua (by omega)) ⟨by simp [mkPlan], by simp [mkPlan]⟩
    ·exact st_call2 (j := 0) (j' := 3) hp rfl rfl (by simp) rfl rfl (by simp) rfl enter_Sub (fun v v' w h h' => (SubV h h').mono fun e w' h' => gives_num h' hKs (by omega)) ⟨by simp [mkPlan], by simp [mkPlan]⟩
    ·exact st_load (b := w.heap.size + 1) (k := 1011) (z := b) (z' := b) hp (by simp [mkPlan]) (.inl rfl) rfl rfl (fun v w h => h) ⟨by simp [mkPlan], by simp [mkPlan]⟩
    ·exact st_call2 (j := 4) (j' := 5) hp rfl rfl (by simp) rfl rfl (by simp) rfl enter_DivMod (fun v v' w h h' => (DivModV h h').mono fun e w' h' => div_tup h' hb0 hKv hKw (by omega)) ⟨by simp [mkPlan], by simp [mkPlan]⟩
    ·exact st_move (j := 6) hp rfl rfl (by simp) rfl (fun v w h => h) ⟨by simp [mkPlan], by simp [mkPlan]⟩
    ·exact st_extract (j := 7) hp rfl rfl (by simp) rfl (fun v w h => by obtain ⟨v1, v2, v3, h0, h1, h2⟩ := h; exact ⟨_, v1, h0, rfl, h1⟩) ⟨by simp [mkPlan], by simp [mkPlan]⟩
    ·exact st_extract (j := 7) hp rfl rfl (by simp) rfl (fun v w h => by obtain ⟨v1, v2, v3, h0, h1, h2⟩ := h; exact ⟨_, v2, h0, rfl, h2⟩) ⟨by simp [mkPlan], by simp [mkPlan]⟩
    ·exact st_extract (j := 7) hp rfl rfl (by simp) rfl (fun v w h => by obtain ⟨v1, v2, v3, h0, h1, h2⟩ := h; exact ⟨_, v3, h0, rfl, trivial⟩) ⟨by simp [mkPlan], by simp [mkPlan]⟩
    ·exact st_alloc (k := 13) (z := (g - u' * a) / b) hp (by simp [mkPlan]) rfl (fun _ _ => trivial) (by simp [mkPlan]) (by simp [mkPlan])
    ·exact st_alloc (k := 14) (z := (g - u' * a) % b) hp (by simp [mkPlan]) rfl (fun _ _ => trivial) (by simp [mkPlan]) (by simp [mkPlan])
    ·exact st_storeNew (i0 := 11) (j := 8) (z := (g - u' * a) / b) hp rfl (by simp [mkPlan]) rfl (by simp) rfl rfl (by simp) rfl (fun v w h => h) (fun _ _ => trivial) (by simp [mkPlan]) (by simp [mkPlan])
    ·exact st_storeNew (i0 := 12) (j := 9) (z := (g - u' * a) % b) hp rfl (by simp [mkPlan]) rfl (by simp) rfl rfl (by simp) rfl (fun v w h => h) (fun _ _ => trivial) (by simp [mkPlan]) (by simp [mkPlan])
    ·exact st_assign (j := 10) hp rfl rfl (by simp) rfl (fun v w h => trivial) ⟨by simp [mkPlan], by simp [mkPlan]⟩
    intro L vs wd hL hG
    have hls : ∀ j, j < 16 → L j = true := hL
    have z9 : BoxNum wd (b9) (u') := by have := hG.old (b9, 1001, u', u') (by simp [mkPlan]); simpa using this
    have z14 : BoxNum wd (b14) (g) := by have := hG.old (b14, 1002, g, g) (by simp [mkPlan]); simpa using this
    have zA : BoxNum wd (w.heap.size) (a) := by have := hG.old (w.heap.size, 1010, a, a) (by simp [mkPlan]); simpa using this
    have zB : BoxNum wd (w.heap.size + 1) (b) := by have := hG.old (w.heap.size + 1, 1011, b, b) (by simp [mkPlan]); simpa using this
    have z4 : BoxNum wd (w.heap.size + 1 + 1) (0) := by have := hG.old (w.heap.size + 1 + 1, 1012, 0, 0) (by simp [mkPlan]); simpa using this
    have z5 : BoxNum wd (w.heap.size + 1 + 1 + 1) (0) := by have := hG.old (w.heap.size + 1 + 1 + 1, 1013, 0, 0) (by simp [mkPlan]); simpa using this
    have z6 : BoxNum wd (w.heap.size + 1 + 1 + 1 + 1) (0) := by have := hG.old (w.heap.size + 1 + 1 + 1 + 1, 1014, 0, 0) (by simp [mkPlan]); simpa using this
    obtain ⟨p18, q18, hp18, z18⟩ := hG.new (11, 13, (g - u' * a) / b) (by simp [mkPlan]) (hls 11 (by omega))
    obtain ⟨p19, q19, hp19, z19⟩ := hG.new (12, 14, (g - u' * a) % b) (by simp [mkPlan]) (hls 12 (by omega))
    replace q18 : vs 11 = .pointer (some ⟨p18, 0, none⟩) := q18
    replace q19 : vs 12 = .pointer (some ⟨p19, 0, none⟩) := q19
    replace z18 : BoxNum wd p18 ((g - u' * a) / b) := by simpa [hls 13 (by omega)] using z18
    have hbld := hG.below
    have hpw : w.heap.size + 5 ≤ p18 ∧ b14 < p18 ∧ b9 < p18 := by have h1 := hxc.lt; have h2 := y9c.lt; have h3 := y14c.lt; omega
    rw [lay_all hL]
    clear hL hG hls hp hxc y9c y14c z19 hp18 hp19
    simp only [putAll, dstOf, List.length_cons, List.length_nil, Nat.zero_add, Nat.reduceAdd, List.getElem?_toArray, List.getElem?_cons_zero, List.getElem?_cons_succ, Option.bind_some, Act.put, List.setIfInBounds_toArray, List.set_cons_succ, List.set_cons_zero]
    rw [q18, q19]
    generalize vs 0 = u70
    generalize vs 1 = u71
    generalize vs 2 = u72
    generalize vs 3 = u73
    generalize vs 4 = u74
    generalize vs 5 = u75
    generalize vs 6 = u76
    generalize vs 7 = u69
    generalize vs 8 = u77
    generalize vs 9 = u78
    generalize vs 10 = u79
    generalize vs 15 = u20
    clear q18 q19 vs L
    go_wp2
    have hp : (mkPlan [.num g, .num u', .num ((g - u' * a) / b)] [(w.heap.size + 1 + 1, 3, 0, g), (w.heap.size + 1 + 1 + 1, 4, 0, u'), (w.heap.size + 1 + 1 + 1 + 1, 5, 0, (g - u' * a) / b), (b14, 1000, g, g), (b9, 1001, u', u'), (p18, 1002, (g - u' * a) / b, (g - u' * a) / b)] []).Ok w.heap.size wd.heap.size :=
     mkPlan_ok (by have h1 := H14.out; have h2 := z18.lt; have h3 := z9.lt; have h4 := z14.lt; have h5 := z6.lt; simp; omega) (by have h1 := H14.out; simp; omega) (by simp) (by have := z6.lt; omega)
    refine region_steps (p := mkPlan [.num g, .num u', .num ((g - u' * a) / b)] [(w.heap.size + 1 + 1, 3, 0, g), (w.heap.size + 1 + 1 + 1, 4, 0, u'), (w.heap.size + 1 + 1 + 1 + 1, 5, 0, (g - u' * a) / b), (b14, 1000, g, g), (b9, 1001, u', u'), (p18, 1002, (g - u' * a) / b, (g - u' * a) / b)] []) (B := w.heap.size) (B0 := wd.heap.size) (w0 := w) (by kernel_rfl) rfl rfl
     (mkPlan_start (by simp; exact ⟨z4, z5, z6, z14, z9, z18⟩) hbld) ⟨?_, ?_, ?_, ?_, ?_, ?_, trivial⟩ ?_
    ·exact st_load (b := b14) (k := 1000) (z := g) (z' := g) hp (by simp [mkPlan]) (.inl rfl) rfl rfl (fun v w h => h) ⟨by simp [mkPlan], by simp [mkPlan]⟩
    ·exact st_load (b := b9) (k := 1001) (z := u') (z' := u') hp (by simp [mkPlan]) (.inl rfl) rfl rfl (fun v w h => h) ⟨by simp [mkPlan], by simp [mkPlan]⟩
    ·exact st_load (b := p18) (k := 1002) (z := (g - u' * a) / b) (z' := (g - u' * a) / b) hp (by simp [mkPlan]) (.inl rfl) rfl rfl (fun v w h => h) ⟨by simp [mkPlan], by simp [mkPlan]⟩
    ·exact st_storeOld (b := w.heap.size + 1 + 1) (z := 0) (z' := g) (j := 0) hp rfl (by simp [mkPlan]) rfl rfl rfl (by simp) rfl (fun v w h => h) (fun _ _ => trivial) (by simp [mkPlan]) (by simp [mkPlan])
    ·exact st_storeOld (b := w.heap.size + 1 + 1 + 1) (z := 0) (z' := u') (j := 1) hp rfl (by simp [mkPlan]) rfl rfl rfl (by simp) rfl (fun v w h => h) (fun _ _ => trivial) (by simp [mkPlan]) (by simp [mkPlan])
    ·exact st_storeOld (b := w.heap.size + 1 + 1 + 1 + 1) (z := 0) (z' := (g - u' * a) / b) (j := 2) hp rfl (by simp [mkPlan]) rfl rfl rfl (by simp) rfl (fun v w h => h) (fun _ _ => trivial) (by simp [mkPlan]) (by simp [mkPlan])
    intro L vs we hL hG
    have hls : ∀ j, j < 6 → L j = true := hL
    have x4 : BoxNum we (w.heap.size + 1 + 1) (g) := by have := hG.old (w.heap.size + 1 + 1, 3, 0, g) (by simp [mkPlan]); simpa [hls 3 (by omega)] using this
    have x5 : BoxNum we (w.heap.size + 1 + 1 + 1) (u') := by have := hG.old (w.heap.size + 1 + 1 + 1, 4, 0, u') (by simp [mkPlan]); simpa [hls 4 (by omega)] using this
    have x6 : BoxNum we (w.heap.size + 1 + 1 + 1 + 1) ((g - u' * a) / b) := by have := hG.old (w.heap.size + 1 + 1 + 1 + 1, 5, 0, (g - u' * a) / b) (by simp [mkPlan]); simpa [hls 5 (by omega)] using this
    have hble := hG.below
    rw [lay_all hL]
    clear hL hG hls hp z9 z14 zA zB z4 z5 z6 z18
    simp only [putAll, dstOf, List.length_cons, List.length_nil, Nat.zero_add, Nat.reduceAdd, List.getElem?_toArray, List.getElem?_cons_zero, List.getElem?_cons_succ, Option.bind_some, Act.put, List.setIfInBounds_toArray, List.set_cons_succ, List.set_cons_zero]
    obtain ⟨n4, a4, k4, c4, ⟨e0, e1, _, _⟩, N4⟩ := x4
    obtain ⟨n5, a5, k5, c5, ⟨f0, f1, _, _⟩, N5⟩ := x5
    obtain ⟨n6, a6, k6, c6, ⟨g0, g1, _, _⟩, N6⟩ := x6
    go_wp2
    refine bodyPost_ret (v := .tuple #[.agg #[.bool n4, .slice a4 k4 c4], .agg #[.bool n5, .slice a5 k5 c5], .agg #[.bool n6, .slice a6 k6 c6]]) ?_ rfl ⟨hble, _, _, _, g, u', (g - u' * a) / b, rfl, N4, N5, N6, hgcd.out, .inr ⟨hb0, lu0, lu1, hfin⟩⟩
    ·simp [results, Try.results90, go_sem, e0, e1, f0, f1, g0, g1]
   ·have hc : cmpI rr 0 ≠ 0 := fun h => h0 (cmpI_zero.1 h)
    generalize cmpI rr 0 = t2 at *
    have hcb2 : (t2 == 0) = false := by simp [hc]
    have hcb3 : (t2 != 0) = true := by simp [hc]
    clear hc
    have h7 := hl6.x7
    have h8 := hl6.x8
    obtain ⟨n7, a7, k7, c7, ⟨f0, f1, _, _⟩, N7⟩ := h7
    obtain ⟨n8, a8, k8, c8, ⟨e0, e1, _, _⟩, N8⟩ := h8
    go_wp2_with fail
    refine (DivModV N7 N8).mono ?_
    rintro e w7 ⟨hb7, ⟨h0', _⟩ | ⟨_, vq, vr, rfl, hq, hr⟩⟩
    ·exact absurd h0' h0
    obtain ⟨hI2, hlt2, hqu, hqr⟩ := bez_step hb0 hI h0
    have hp6 := pw_six K
    have hp9 : pw (K + 1) ≤ pw 900000 := pw_le (by omega)
    have hbb := ab_nonneg b
    have hKr : ab r < pw K := by rcases hI.2.2.2.2.2.1 with h | h <;> omega
    have hKrr : ab rr < pw K := by have := hI.2.2.2.2.2.2.1; omega
    have Nq : Num w7 vq (r / rr) := num_of hq (k := K) (by omega) (by omega)
    have Nr : Num w7 vr (r % rr) := num_of hr (k := K) (by omega) (by omega)
    have hKuu : ab (r / rr * uu) < pw (K + 1) := by omega
    have hKu : ab (u - r / rr * uu) < pw (K + 1) := by have := hI2.2.2.2.2.1; omega
    obtain ⟨m1, q1, j1, o1, rfl⟩ := Nq.parts
    obtain ⟨m2, q2, j2, o2, rfl⟩ := Nr.parts
    have hx7 := hx6.mono hb7
    have hl7 := hl6.mono hb7
    clear hx6 hl6 hb7 e0 e1 f0 f1 N7 N8 hq hr hp6 hp9 hbb hKr hKrr hqu hqr
    obtain ⟨w8, b11, b12, hw8, h11e, h12e⟩ : ∃ w8 b11 b12, w8 = (w7.alloc (.cells #[.bool m1, .slice q1 j1 o1] 29)).alloc (.cells #[.bool m2, .slice q2 j2 o2] 29) ∧ b11 = w7.heap.size ∧ b12 = w7.heap.size + 1 := ⟨_, _, _, rfl, rfl, rfl⟩
    go_wp2
    rw [← hw8, ← h12e, ← h11e]
    have hx8 : Bx w.heap.size a b w w8 := by rw [hw8]; exact (hx7.mono (alloc_below _ _)).mono (alloc_below _ _)
    have hl8 : Bl p7 p8 b9 b10 r rr u uu w8 := by rw [hw8]; exact (hl7.mono (alloc_below _ _)).mono (alloc_below _ _)
    have x11 : BoxNum w8 b11 (r / rr) := by
     rw [hw8, h11e]; exact (BoxNum.made Nq 29).mono (alloc_below _ (.cells #[.bool m2, .slice q2 j2 o2] 29))
    have x12 : BoxNum w8 b12 (r % rr) := by
     have x2 := BoxNum.made (Nr.mono (alloc_below w7 (.cells #[.bool m1, .slice q1 j1 o1] 29))) 29
     rw [World.size_alloc] at x2
     rw [hw8, h12e]; exact x2
    have HL8 : Hid (p7 < w8.heap.size ∧ p8 < w8.heap.size ∧ b9 < w8.heap.size ∧ b10 < w8.heap.size ∧ b11 < w8.heap.size ∧ b12 < w8.heap.size ∧ w.heap.size + 5 ≤ b11 ∧ w.heap.size + 5 ≤ b12 ∧ b11 ≠ b12 ∧ p7 < b11 ∧ p8 < b11 ∧ b9 < b11 ∧ b10 < b11 ∧ p7 < b12 ∧ p8 < b12 ∧ b9 < b12 ∧ b10 < b12) := by
     have h1 := hl7.x7.lt
     have h2 := hl7.x8.lt
     have h3 := hl7.x9.lt
     have h4 := hl7.x10.lt
     have h5 := hx7.lt
     have h6 := x12.lt
     show _ ∧ _
     omega
    clear hw8 h11e h12e hx7 hl7 Nq Nr
    have hp : (mkPlan [.num rr, .num (r % rr)] [(p7, 2, r, rr), (p8, 3, rr, r % rr), (b12, 1000, r % rr, r % rr), (b11, 1001, r / rr, r / rr), (b9, 1002, u, u), (b10, 1003, uu, uu), (w.heap.size, 1010, a, a), (w.heap.size + 1, 1011, b, b), (w.heap.size + 1 + 1, 1012, 0, 0), (w.heap.size + 1 + 1 + 1, 1013, 0, 0), (w.heap.size + 1 + 1 + 1 + 1, 1014, 0, 0)] []).Ok w.heap.size w8.heap.size :=
     mkPlan_ok (by have h1 := HL8.out; have h2 := H910.out; have h3 := hx8.lt; simp; omega) (by have h1 := HL8.out; have h2 := H910.out; simp; omega) (by simp) (by have := hx8.lt; omega)
    refine region_steps (p := mkPlan [.num rr, .num (r % rr)] [(p7, 2, r, rr), (p8, 3, rr, r % rr), (b12, 1000, r % rr, r % rr), (b11, 1001, r / rr, r / rr), (b9, 1002, u, u), (b10, 1003, uu, uu), (w.heap.size, 1010, a, a), (w.heap.size + 1, 1011, b, b), (w.heap.size + 1 + 1, 1012, 0, 0), (w.heap.size + 1 + 1 + 1, 1013, 0, 0), (w.heap.size + 1 + 1 + 1 + 1, 1014, 0, 0)] []) (B := w.heap.size) (B0 := w8.heap.size) (w0 := w) (by kernel_rfl) rfl rfl
     (mkPlan_start (by simp; exact ⟨hl8.x7, hl8.x8, x12, x11, hl8.x9, hl8.x10, hx8.xA, hx8.xB, hx8.x4, hx8.x5, hx8.x6⟩) hx8.below) ⟨?_, ?_, ?_, ?_, trivial⟩ ?_
    ·exact st_load (b := p8) (k := 3) (z := rr) (z' := r % rr) hp (by simp [mkPlan]) (.inr rfl) rfl rfl (fun v w h => h) ⟨by simp [mkPlan], by simp [mkPlan]⟩
    ·exact st_load (b := b12) (k := 1000) (z := r % rr) (z' := r % rr) hp (by simp [mkPlan]) (.inl rfl) rfl rfl (fun v w h => h) ⟨by simp [mkPlan], by simp [mkPlan]⟩
    ·exact st_storeOld (b := p7) (z := r) (z' := rr) (j := 0) hp rfl (by simp [mkPlan]) rfl rfl rfl (by simp) rfl (fun v w h => h) (fun _ _ => trivial) (by simp [mkPlan]) (by simp [mkPlan])
    ·exact st_storeOld (b := p8) (z := rr) (z' := r % rr) (j := 1) hp rfl (by simp [mkPlan]) rfl rfl rfl (by simp) rfl (fun v w h => h) (fun _ _ => trivial) (by simp [mkPlan]) (by simp [mkPlan])
    intro L vs w9 hL hG
    have hls : ∀ j, j < 4 → L j = true := hL
    have y7 : BoxNum w9 (p7) (rr) := by have := hG.old (p7, 2, r, rr) (by simp [mkPlan]); simpa [hls 2 (by omega)] using this
    have y8 : BoxNum w9 (p8) (r % rr) := by have := hG.old (p8, 3, rr, r % rr) (by simp [mkPlan]); simpa [hls 3 (by omega)] using this
    have y11 : BoxNum w9 (b11) (r / rr) := by have := hG.old (b11, 1001, r / rr, r / rr) (by simp [mkPlan]); simpa using this
    have y9 : BoxNum w9 (b9) (u) := by have := hG.old (b9, 1002, u, u) (by simp [mkPlan]); simpa using this
    have y10 : BoxNum w9 (b10) (uu) := by have := hG.old (b10, 1003, uu, uu) (by simp [mkPlan]); simpa using this
    have yA : BoxNum w9 (w.heap.size) (a) := by have := hG.old (w.heap.size, 1010, a, a) (by simp [mkPlan]); simpa using this
    have yB : BoxNum w9 (w.heap.size + 1) (b) := by have := hG.old (w.heap.size + 1, 1011, b, b) (by simp [mkPlan]); simpa using this
    have y4 : BoxNum w9 (w.heap.size + 1 + 1) (0) := by have := hG.old (w.heap.size + 1 + 1, 1012, 0, 0) (by simp [mkPlan]); simpa using this
    have y5 : BoxNum w9 (w.heap.size + 1 + 1 + 1) (0) := by have := hG.old (w.heap.size + 1 + 1 + 1, 1013, 0, 0) (by simp [mkPlan]); simpa using this
    have y6 : BoxNum w9 (w.heap.size + 1 + 1 + 1 + 1) (0) := by have := hG.old (w.heap.size + 1 + 1 + 1 + 1, 1014, 0, 0) (by simp [mkPlan]); simpa using this
    have hblw := hG.below
    have hszw := hG.size
    rw [lay_all hL]
    clear hL hG hls hp hx8 hl8 x11 x12
    simp only [putAll, dstOf, List.length_cons, List.length_nil, Nat.zero_add, Nat.reduceAdd, List.getElem?_toArray, List.getElem?_cons_zero, List.getElem?_cons_succ, Option.bind_some, Act.put, List.setIfInBounds_toArray, List.set_cons_succ, List.set_cons_zero]
    generalize vs 0 = u44
    generalize vs 1 = u45
    clear vs L
    go_wp2
    have hlt9 : w.heap.size + 5 ≤ w9.heap.size := by have := y10.lt; have := H910.out; omega
    have hp : (mkPlan [.num uu, .num u, .num (r / rr), .num uu, .num (r / rr * uu), .num (u - r / rr * uu)] [(b9, 6, u, uu), (b10, 7, uu, u - r / rr * uu), (b11, 1001, r / rr, r / rr), (p7, 1002, rr, rr), (p8, 1003, r % rr, r % rr), (w.heap.size, 1010, a, a), (w.heap.size + 1, 1011, b, b), (w.heap.size + 1 + 1, 1012, 0, 0), (w.heap.size + 1 + 1 + 1, 1013, 0, 0), (w.heap.size + 1 + 1 + 1 + 1, 1014, 0, 0)] []).Ok w.heap.size w9.heap.size :=
     mkPlan_ok (by have h1 := y7.lt; have h2 := H910.out; have h3 := y8.lt; have h4 := y9.lt; have h5 := y10.lt; have h6 := y11.lt; have h7 := HL8.out; simp; omega) (by have h1 := HL8.out; have h2 := H910.out; simp; omega) (by simp) (by omega)
    refine region_steps (p := mkPlan [.num uu, .num u, .num (r / rr), .num uu, .num (r / rr * uu), .num (u - r / rr * uu)] [(b9, 6, u, uu), (b10, 7, uu, u - r / rr * uu), (b11, 1001, r / rr, r / rr), (p7, 1002, rr, rr), (p8, 1003, r % rr, r % rr), (w.heap.size, 1010, a, a), (w.heap.size + 1, 1011, b, b), (w.heap.size + 1 + 1, 1012, 0, 0), (w.heap.size + 1 + 1 + 1, 1013, 0, 0), (w.heap.size + 1 + 1 + 1 + 1, 1014, 0, 0)] []) (B := w.heap.size) (B0 := w9.heap.size) (w0 := w) (by kernel_rfl) rfl rfl
     (mkPlan_start (by simp; exact ⟨y9, y10, y11, y7, y8, yA, yB, y4, y5, y6⟩) hblw) ⟨?_, ?_, ?_, ?_, ?_, ?_, ?_, ?_, trivial⟩ ?_
    ·exact st_load (b := b10) (k := 7) (z := uu) (z' := u - r / rr * uu) hp (by simp [mkPlan]) (.inr rfl) rfl rfl (fun v w h => h) ⟨by simp [mkPlan], by simp [mkPlan]⟩
    ·exact st_load (b := b9) (k := 6) (z := u) (z' := uu) hp (by simp [mkPlan]) (.inr rfl) rfl rfl (fun v w h => h) ⟨by simp [mkPlan], by simp [mkPlan]⟩
    ·exact st_load (b := b11) (k := 1001) (z := r / rr) (z' := r / rr) hp (by simp [mkPlan]) (.inl rfl) rfl rfl (fun v w h => h) ⟨by simp [mkPlan], by simp [mkPlan]⟩
    ·exact st_load (b := b10) (k := 7) (z := uu) (z' := u - r / rr * uu) hp (by simp [mkPlan]) (.inr rfl) rfl rfl (fun v w h => h) ⟨by simp [mkPlan], by simp [mkPlan]⟩
    ·exact st_call2 (j := 2) (j' := 3) hp rfl rfl (by simp) rfl rfl (by simp) rfl enter_Mul (fun v v' w h h' => (MulV h h').mono fun e w' h' => gives_num h' hKuu (by omega)) ⟨by simp [mkPlan], by simp [mkPlan]⟩
    ·exact st_call2 (j := 1) (j' := 4) hp rfl rfl (by simp) rfl rfl (by simp) rfl enter_Sub (fun v v' w h h' => (SubV h h').mono fun e w' h' => gives_num h' hKu (by omega)) ⟨by simp [mkPlan], by simp [mkPlan]⟩
    ·exact st_storeOld (b := b9) (z := u) (z' := uu) (j := 0) hp rfl (by simp [mkPlan]) rfl rfl rfl (by simp) rfl (fun v w h => h) (fun _ _ => trivial) (by simp [mkPlan]) (by simp [mkPlan])
    ·exact st_storeOld (b := b10) (z := uu) (z' := u - r / rr * uu) (j := 5) hp rfl (by simp [mkPlan]) rfl rfl rfl (by simp) rfl (fun v w h => h) (fun _ _ => trivial) (by simp [mkPlan]) (by simp [mkPlan])
    intro L vs wa hL hG
    have hls : ∀ j, j < 8 → L j = true := hL
    have z7 : BoxNum wa (p7) (rr) := by have := hG.old (p7, 1002, rr, rr) (by simp [mkPlan]); simpa using this
    have z8 : BoxNum wa (p8) (r % rr) := by have := hG.old (p8, 1003, r % rr, r % rr) (by simp [mkPlan]); simpa using this
    have z9 : BoxNum wa (b9) (uu) := by have := hG.old (b9, 6, u, uu) (by simp [mkPlan]); simpa [hls 6 (by omega)] using this
    have z10 : BoxNum wa (b10) (u - r / rr * uu) := by have := hG.old (b10, 7, uu, u - r / rr * uu) (by simp [mkPlan]); simpa [hls 7 (by omega)] using this
    have zA : BoxNum wa (w.heap.size) (a) := by have := hG.old (w.heap.size, 1010, a, a) (by simp [mkPlan]); simpa using this
    have zB : BoxNum wa (w.heap.size + 1) (b) := by have := hG.old (w.heap.size + 1, 1011, b, b) (by simp [mkPlan]); simpa using this
    have z4 : BoxNum wa (w.heap.size + 1 + 1) (0) := by have := hG.old (w.heap.size + 1 + 1, 1012, 0, 0) (by simp [mkPlan]); simpa using this
    have z5 : BoxNum wa (w.heap.size + 1 + 1 + 1) (0) := by have := hG.old (w.heap.size + 1 + 1 + 1, 1013, 0, 0) (by simp [mkPlan]); simpa using this
    have z6 : BoxNum wa (w.heap.size + 1 + 1 + 1 + 1) (0) := by have := hG.old (w.heap.size + 1 + 1 + 1 + 1, 1014, 0, 0) (by simp [mkPlan]); simpa using this
    have hbla := hG.below
    have hsza := hG.size
    rw [lay_all hL]
    clear hL hG hls hp yA yB y4 y5 y6 y7 y8 y9 y10 y11
    simp only [putAll, dstOf, List.length_cons, List.length_nil, Nat.zero_add, Nat.reduceAdd, List.getElem?_toArray, List.getElem?_cons_zero, List.getElem?_cons_succ, Option.bind_some, Act.put, List.setIfInBounds_toArray, List.set_cons_succ, List.set_cons_zero]
    generalize vs 0 = u46
    generalize vs 1 = u47
    generalize vs 2 = u48
    generalize vs 3 = u49
    generalize vs 4 = u50
    generalize vs 5 = u51
    clear vs L
    go_wp2
    go_roundw
    case rel => exact ⟨rr, r % rr, uu, u - r / rr * uu, hI2, ⟨zA, zB, z4, z5, z6, hbla, by omega⟩, ⟨z7, z8, z9, z10⟩⟩
    case measure =>
     rw [HBV.out, boxVal_eq z8]
     unfold ab at hlt2
     omega

end Go.Proofs.Ytihhlaagndingaa

namespace Go.Proofs.Ytihhlaagndingaa
open Go Go.RowKit

theorem add_plain' (b j : Nat) : (⟨b, 0, none⟩ : Addr).add j = ⟨b, j, none⟩ := by rw [Go.WideShapes.add_plain, Nat.zero_add]

theorem info_word : (Try.prog.info? 82).map (fun i => (i.zero, i.size, i.bytes)) = some (some (.int .u32 0), 1, 4) := by kernel_rfl

theorem own_sl {w : World} {base m : Nat} {v : Value} {ys : List Int} (h : w.ownsRow base 82 1 v m (ys.map (Value.int .u32))) (hd : Digs ys) : ∃ ao c, v = .slice ao m c ∧ Sl w ao m c ys := by
 have hl : ys.length = m := by have := h.1; simpa using this
 rcases h.2 with ⟨rfl, h0⟩ | ⟨g, cap, cur, rfl, hb, hg, hn, _⟩
 ·subst h0
  obtain rfl : ys = [] := List.eq_nil_of_length_eq_zero hl
  exact ⟨none, 0, rfl, Sl.nil w⟩
 ·refine ⟨_, _, rfl, hl, hn, hd, .inr ⟨g, 0, rfl, (Array.getElem?_eq_some_iff.1 hg).1, fun j hj => ?_⟩⟩
  have := World.ownsRow.cells h (g := g) rfl j (.int .u32 (ys.getD j 0)) (by simp [hj])
  rw [add_plain'] at this
  rw [Nat.zero_add]
  exact this

theorem append_words (w : World) (ty : TypeId) (g : Nat) (ao : Option Addr) (m c : Nat) (ys : List Int) (hS : Sl w ao m c ys) (hb : m ≤ 1000000) :
  ∃ v' w', (Builtin.append_ #[27, 27] ty #[.slice (some ⟨g, 0, none⟩) 0 0, .slice ao m c]).run Try.prog w = .ok v' w' ∧ Below w.heap.size w w' ∧ ∃ ao' c', v' = .slice ao' m c' ∧ Sl w' ao' m c' ys := by
 obtain ⟨i0, hi, hz0, hz1, hz2⟩ := info_parts info_word
 by_cases h0 : m = 0
 ·subst h0
  obtain rfl : ys = [] := List.eq_nil_of_length_eq_zero hS.len
  refine ⟨.slice (some ⟨g, 0, none⟩) 0 0, w, ?_, Below.refl _ _, _, _, rfl, rfl, Nat.le_refl _, fun x hx => by simp at hx, .inl rfl⟩
  cases ao with
  | none => simp [Builtin.append_, run_underlying Try.underlying27, sizeOf, typeInfo, hi, Builtin.lenOf, Builtin.firstCells, storeCells]
  | some x =>
   have := run_append_room_cells (P := Try.prog) w 27 ty 82 i0 Try.underlying27 hi g 0 0 0 x 0 c [] (by simp) (by simp) (by simp) (by omega) (by simp) (by simp)
   simpa [World.setCells] using this
 ·rcases hS.cells.2 with h1 | ⟨b, off, rfl, hlt, hc⟩
  ·subst h1; have := hS.len; simp at this; omega
  ·obtain ⟨v', w', hrun, hown, hg⟩ := run_append_arg_grows (P := Try.prog) w 27 ty 82 i0 (.int .u32 0) 1 4 Try.underlying27 hi hz0 hz1 hz2 rfl (by decide)
    ⟨g, 0, none⟩ 0 0 [] (by simp) (by simp) ⟨b, off, none⟩ m c (ys.map (Value.int .u32)) (by simp [hS.len]) (fun j u hu => by
     have hj : j < ys.length := by have := (List.getElem?_eq_some_iff.1 hu).1; simpa using this
     rw [Go.WideShapes.add_plain, hc j hj, ← hu]
     simp [hj]) (by omega) (by unfold maxLen; omega) (by omega)
   rw [Nat.zero_add, List.nil_append] at hown
   exact ⟨v', w', hrun, ⟨hg.os, hg.tape, hg.output, hg.size, fun k hk => hg.block k hk (by simp)⟩, own_sl hown hS.digs⟩

end Go.Proofs.Ytihhlaagndingaa

namespace Go.Proofs.Ytihhlaagndingaa
open Go Go.RowKit

theorem rOfV (w : World) (z : Int) (h0 : -9223372036854775808 ≤ z) (h1 : z ≤ 9223372036854775807) : Calls Try.prog 25 #[.int .i64 z] w fun e w' => ∃ v', e = .returned v' ∧ Below w.heap.size w w' ∧ Num w' v' z :=
 (rOf_any w z h0 h1).mono fun _ _ h => gives_num h (k := 2) (by have e : pw 2 = 18446744073709551616 := rfl; rw [e]; unfold ab; omega) (by omega)

theorem SameV {w : World} {v v' : Value} {z z' : Int} (h : Num w v z) (h' : Num w v' z') : Calls Try.prog 27 #[v, v'] w fun e w' => e = .returned (.bool (decide (z = z'))) ∧ Below w.heap.size w w' := by
 obtain ⟨neg, ao, n, c, xs, rfl, hs, hn, rfl, hc, hnn⟩ := h
 obtain ⟨neg', ao', n', c', xs', rfl, hs', hn', rfl, hc', hnn'⟩ := h'
 exact Same_any _ _ _ _ _ _ _ _ _ _ _ hs hs' hc hc' hnn hnn' (by omega) (by omega)

theorem enter_rOf (args : Array Value) (w : World) : (callFunc 25 args).run Try.prog w = .ok (.enter 25 args) w := enter_of Try.func25 (by kernel_rfl) rfl args w
end Go.Proofs.Ytihhlaagndingaa

namespace Go.Proofs.Ytihhlaagndingaa
open Go.RowKit

def Two (n a b : Nat) (p q p' q' : Value) (W : World) : Prop :=
 n ≤ W.heap.size ∧ W.cell? ⟨a, 0, none⟩ = some p ∧ W.cell? ⟨a, 1, none⟩ = some q ∧ W.cell? ⟨b, 0, none⟩ = some p' ∧ W.cell? ⟨b, 1, none⟩ = some q'

theorem Two.call {n a b : Nat} {p q p' q' : Value} {W W' : World} (h : Two n a b p q p' q' W) (hb : Below W.heap.size W W') (ha : a < n) (hb' : b < n) : Two n a b p q p' q' W' :=
 ⟨Nat.le_trans h.1 hb.size, (hb.cell (p := ⟨a, 0, none⟩) (Nat.lt_of_lt_of_le ha h.1)).trans h.2.1, (hb.cell (p := ⟨a, 1, none⟩) (Nat.lt_of_lt_of_le ha h.1)).trans h.2.2.1,
  (hb.cell (p := ⟨b, 0, none⟩) (Nat.lt_of_lt_of_le hb' h.1)).trans h.2.2.2.1, (hb.cell (p := ⟨b, 1, none⟩) (Nat.lt_of_lt_of_le hb' h.1)).trans h.2.2.2.2⟩

theorem Two.set {n a b c o : Nat} {p q p' q' : Value} {W : World} (h : Two n a b p q p' q' W) (ha : c ≠ a) (hb : c ≠ b) (v : Value) : Two n a b p q p' q' (W.setCell ⟨c, o, none⟩ v) := by
 refine ⟨by rw [World.size_setCell]; exact h.1, ?_, ?_, ?_, ?_⟩
 ·rw [World.cell?_setCell_other _ _ _ _ (by intro e; cases e; exact ha rfl)]; exact h.2.1
 ·rw [World.cell?_setCell_other _ _ _ _ (by intro e; cases e; exact ha rfl)]; exact h.2.2.1
 ·rw [World.cell?_setCell_other _ _ _ _ (by intro e; cases e; exact hb rfl)]; exact h.2.2.2.1
 ·rw [World.cell?_setCell_other _ _ _ _ (by intro e; cases e; exact hb rfl)]; exact h.2.2.2.2

end Go.Proofs.Ytihhlaagndingaa

namespace Go.Proofs.Ytihhlaagndingaa
open Go.RowKit

end Go.Proofs.Ytihhlaagndingaa

namespace Go.Proofs.Ytihhlaagndingaa
open Go Go.RowKit

theorem Num.len {w : World} {v : Value} {z : Int} (h : Num w v z) {k : Nat} (hz : ab z < pw k) : ∃ (neg : Bool) (ao : Option Addr) (n c : Nat) (xs : List Int), v = .agg #[.bool neg, .slice ao n c] ∧ Sl w ao n c xs ∧ n ≤ k ∧ z = sgn neg (val xs) := by
 obtain ⟨neg, ao, n, c, xs, hv, hs, hn, hz', hc, hnn⟩ := h
 have h0 := val_nonneg hs.digs
 have h1 : val xs < pw k := by
  subst hz'
  unfold ab at hz
  cases neg <;> simp [sgn] at hz <;> omega
 have h2 := hc.length_le h1
 rw [hs.len] at h2
 exact ⟨neg, ao, n, c, xs, hv, hs, h2, hz'⟩

theorem AddV {w : World} {v v' : Value} {z z' : Int} (h : Num w v z) (h' : Num w v' z') : Calls Try.prog 19 #[v, v'] w (GivesInt w (z + z')) := by
 obtain ⟨neg, ao, n, c, xs, rfl, hs, hn, rfl, _⟩ := h
 obtain ⟨neg', ao', n', c', xs', rfl, hs', hn', rfl, _⟩ := h'
 exact Add_any _ _ _ _ _ _ _ _ _ _ _ hs hs' (by omega) (by omega)

theorem NegV {w : World} {v : Value} {z : Int} (h : Num w v z) : Calls Try.prog 63 #[v] w (GivesInt w (-z)) := by
 obtain ⟨neg, ao, n, c, xs, rfl, hs, hn, rfl, _⟩ := h
 exact Neg_any _ _ _ _ _ _ hs (by omega)

theorem CmpV {w : World} {v v' : Value} {z z' : Int} (h : Num w v z) (h' : Num w v' z') : Calls Try.prog 24 #[v, v'] w fun e w' => e = .returned (.int .i64 (cmpI z z')) ∧ Below w.heap.size w w' := by
 obtain ⟨neg, ao, n, c, xs, rfl, hs, hn, rfl, _⟩ := h
 obtain ⟨neg', ao', n', c', xs', rfl, hs', hn', rfl, _⟩ := h'
 exact Cmp_any _ _ _ _ _ _ _ _ _ _ _ hs hs' (by omega) (by omega)

theorem LowV {w : World} {v : Value} {z : Int} (h : Num w v z) : Calls Try.prog 98 #[v] w fun e w' => e = .returned (lowV z) ∧ Below w.heap.size w w' := by
 obtain ⟨neg, ao, n, c, xs, rfl, hs, hn, rfl, _⟩ := h
 exact Low_any _ _ _ _ _ _ hs (by omega)

theorem GcdV {w : World} {v v' : Value} {z z' : Int} (h : Num w v z) (h' : Num w v' z') : Calls Try.prog 78 #[v, v'] w (GivesInt w (Int.gcd z z')) := by
 obtain ⟨neg, ao, n, c, xs, rfl, hs, hn, rfl, _⟩ := h
 obtain ⟨neg', ao', n', c', xs', rfl, hs', hn', rfl, _⟩ := h'
 exact Gcd_any _ _ _ _ _ _ _ _ _ _ _ hs hs' (by omega) (by omega)

theorem BezoutV {w : World} {v v' : Value} {z z' : Int} (h : Num w v z) (h' : Num w v' z') {K : Nat} (hz : ab z < pw K) (hz' : ab z' < pw K) (hK : K ≤ 400000) : Calls Try.prog 90 #[v, v'] w (BezGives w z z') := by
 obtain ⟨n, ao, k, c, rfl⟩ := h.parts
 obtain ⟨n', ao', k', c', rfl⟩ := h'.parts
 exact Bezout_any w h h' hz hz' hK

end Go.Proofs.Ytihhlaagndingaa

namespace Go.Proofs.Ytihhlaagndingaa
open Go Go.RowKit

def RowB (w : World) (e : TypeId) (b : Nat) (zs : List Int) : Prop := w.heap[b]? = some (.cells (zs.map (Value.int .u8)).toArray e (0, 0))

theorem RowB.lt {w : World} {e : TypeId} {b : Nat} {zs : List Int} (h : RowB w e b zs) : b < w.heap.size := (Array.getElem?_eq_some_iff.1 h).1

theorem RowB.cell {w : World} {e : TypeId} {b : Nat} {zs : List Int} (h : RowB w e b zs) {j : Nat} (hj : j < zs.length) : w.cell? ⟨b, j, none⟩ = some (.int .u8 (zs.getD j 0)) := by
 rw [cell_of_row w b j _ e (0, 0) h]
 simp [hj]

theorem RowB.frozen {w : World} {e : TypeId} {b : Nat} {zs : List Int} (h : RowB w e b zs) (j : Nat) : w.frozen? ⟨b, j, none⟩ = false := by
 have h2 : w.heap[b]? = some (.cells (zs.map (Value.int .u8)).toArray e (0, 0)) := h
 simp [World.frozen?, h2]

theorem RowB.set {w : World} {e : TypeId} {b : Nat} {zs : List Int} (h : RowB w e b zs) {j : Nat} (x : Int) : RowB (w.setCell ⟨b, j, none⟩ (.int .u8 x)) e b (zs.set j x) := by
 have hb := h.lt
 have h2 : w.heap[b]? = some (.cells (zs.map (Value.int .u8)).toArray e (0, 0)) := h
 unfold RowB
 simp only [World.setCell, Array.getElem?_modify, if_true, h2, Option.map_some, Option.isSome_none]
 simp

end Go.Proofs.Ytihhlaagndingaa

namespace Go.Proofs.Ytihhlaagndingaa
open Go Go.RowKit

def Back (w : World) (B : Nat) (v : Value) (ds : List Int) : Prop := w.ownsRow B 5 1 v ds.length (ds.map (Value.int .u8))

theorem Back.shape {w : World} {B : Nat} {v : Value} {ds : List Int} (h : Back w B v ds) : ∃ ao cap, v = .slice ao ds.length cap := by
 rcases h.2 with ⟨rfl, h0⟩ | ⟨g, cap, cur, rfl, _⟩
 ·exact ⟨none, 0, by rw [h0]⟩
 ·exact ⟨_, _, rfl⟩

theorem Back.cells {w : World} {B : Nat} {v : Value} {ds : List Int} (h : Back w B v ds) (h0 : 0 < ds.length) :
  ∃ g cap, v = .slice (some ⟨g, 0, none⟩) ds.length cap ∧ g < w.heap.size ∧ ∀ j, j < ds.length → w.cell? ⟨g, j, none⟩ = some (.int .u8 (ds.getD j 0)) := by
 rcases h.2 with ⟨rfl, h1⟩ | ⟨g, cap, cur, rfl, hb, hg, _⟩
 ·omega
 ·refine ⟨g, cap, rfl, (Array.getElem?_eq_some_iff.1 hg).1, fun j hj => ?_⟩
  have := World.ownsRow.cells h (g := g) rfl j (.int .u8 (ds.getD j 0)) (by simp [hj])
  have hadd : (⟨g, 0, none⟩ : Addr).add j = ⟨g, j, none⟩ := by unfold Addr.add; split <;> simp_all
  rw [hadd] at this
  exact this

theorem one_at (w : World) (x : Value) (e : TypeId) : ∀ (j : Nat) (u : Value), [x][j]? = some u → (w.alloc (.cells #[x] e)).cell? ((⟨w.heap.size, 0, none⟩ : Addr).add j) = some u := by
 intro j u hj
 match j, hj with
 | 0, hj => simp at hj; subst hj; simp [Addr.add]

end Go.Proofs.Ytihhlaagndingaa

namespace Go.Proofs.Ytihhlaagndingaa
open Go Go.RowKit

end Go.Proofs.Ytihhlaagndingaa

namespace Go.Proofs.Ytihhlaagndingaa
open Go Go.RowKit

def RTwo (w : World) (z1 z2 : Int) (e : Ending) (w' : World) : Prop :=
 ∃ (n : Bool) (ao : Option Addr) (k c : Nat) (n' : Bool) (ao' : Option Addr) (k' c' : Nat), e = .returned (.tuple #[.agg #[.bool n, .slice ao k c], .agg #[.bool n', .slice ao' k' c'], .int .i64 0]) ∧ Below w.heap.size w w' ∧
  Num w' (.agg #[.bool n, .slice ao k c]) z1 ∧ Num w' (.agg #[.bool n', .slice ao' k' c']) z2

theorem boxOne {w : World} {n : Bool} {ao : Option Addr} {k c : Nat} {z : Int} (h : Num w (.agg #[.bool n, .slice ao k c]) z) (t : TypeId) :
  ∃ w1, w1 = w.alloc (.cells #[.bool n, .slice ao k c] t) ∧ Below w.heap.size w w1 ∧ BoxNum w1 w.heap.size z := ⟨_, rfl, alloc_below _ _, BoxNum.made h t⟩

theorem boxTwo {w : World} {n n' : Bool} {ao ao' : Option Addr} {k c k' c' : Nat} {z z' : Int} (h : Num w (.agg #[.bool n, .slice ao k c]) z) (h' : Num w (.agg #[.bool n', .slice ao' k' c']) z') (t : TypeId) :
  ∃ w1, w1 = (w.alloc (.cells #[.bool n, .slice ao k c] t)).alloc (.cells #[.bool n', .slice ao' k' c'] t) ∧ Below w.heap.size w w1 ∧ BoxNum w1 w.heap.size z ∧ BoxNum w1 (w.heap.size + 1) z' := by
 obtain ⟨w1, h1, b1, x1⟩ := boxOne h t
 have h2 := h'.mono b1
 have s1 : w1.heap.size = w.heap.size + 1 := by rw [h1, World.size_alloc]
 obtain ⟨w2, h3, b2, x2⟩ := boxOne h2 t
 rw [s1] at x2
 exact ⟨w2, by rw [h3, h1], b1.trans (b2.mono (by omega)), x1.mono b2, x2⟩

def Bs (w : World) : List (Nat × Int) → Prop
 | [] => True
 | p :: r => BoxNum w p.1 p.2 ∧ Bs w r

theorem Bs.mono {w w' : World} (hb : Below w.heap.size w w') : ∀ {l : List (Nat × Int)}, Bs w l → Bs w' l
 | [], _ => trivial
 | _ :: _, h => ⟨h.1.mono hb, Bs.mono hb h.2⟩

end Go.Proofs.Ytihhlaagndingaa

namespace Go.Proofs.Ytihhlaagndingaa
open Go Go.RowKit

section
variable {os : List Oper} {Q : Exit → Act → World → Prop} {a : Act} {p : Plan} {B B0 : Nat} {w0 : World}
variable {i s : Nat} {d : Option Tmp} {ty : TypeId} {ps : String} {af : Array Edge}

end

end Go.Proofs.Ytihhlaagndingaa

namespace Go.Proofs.Ytihhlaagndingaa
open Go Go.RowKit

theorem ab_addB {x y : Int} {j k m : Nat} (hx : ab x < pw j) (hy : ab y < pw k) (hj : j < m) (hk : k < m) : ab (x + y) < pw m := by
 have h1 := pw_le (show j ≤ m - 1 by omega)
 have h2 := pw_le (show k ≤ m - 1 by omega)
 have h3 := pw_succ (m - 1)
 rw [show m - 1 + 1 = m by omega] at h3
 have h4 := pw_pos (m - 1)
 unfold ab at *
 omega

theorem ab_negB {x : Int} {k : Nat} (hx : ab x < pw k) : ab (-x) < pw k := by
 unfold ab at *
 omega

theorem ab_subB {x y : Int} {j k m : Nat} (hx : ab x < pw j) (hy : ab y < pw k) (hj : j < m) (hk : k < m) : ab (x - y) < pw m := by
 have := ab_addB hx (ab_negB hy) hj hk
 rw [Int.sub_eq_add_neg]
 exact this

theorem ab_mulB {x y : Int} {j k : Nat} (hx : ab x < pw j) (hy : ab y < pw k) : ab (x * y) < pw (j + k) := by
 rw [ab_mul, pw_add]
 have h1 := ab_nonneg x
 have h2 := ab_nonneg y
 exact Int.mul_lt_mul' (Int.le_of_lt hx) hy h2 (pw_pos _)

theorem ab_mulM {x y : Int} {j k m : Nat} (hx : ab x < pw j) (hy : ab y < pw k) (hm : j + k = m) : ab (x * y) < pw m := by
 subst hm
 exact ab_mulB hx hy

theorem ab_absB {x : Int} {k : Nat} (hx : ab x < pw k) : ab (x.natAbs : Int) < pw k := by
 unfold ab at *
 omega

theorem ab_modB {x y : Int} {k : Nat} (hy0 : y ≠ 0) (hy : ab y < pw k) : ab (x % y) < pw k := by
 have h1 := Int.emod_nonneg x hy0
 have h2 := Int.emod_lt x hy0
 unfold ab at *
 omega

theorem ab_divB {x y : Int} {k m : Nat} (hx : ab x < pw k) (hk : k < m) : ab (x / y) < pw m := by
 have h1 : (x / y).natAbs ≤ x.natAbs + 1 := by
  have h0 := Int.natAbs_ediv_le_natAbs x y
  omega
 have h2 := pw_le (show k + 1 ≤ m by omega)
 have h3 := pw_succ k
 have h4 := pw_pos k
 unfold ab at *
 omega

theorem exK {w : World} {z : Int} {f : FuncId} {args : Array Value} (h : Calls Try.prog f args w (GivesInt w z)) {k : Nat} (hz : ab z < pw k) (hk : k ≤ 900000) :
  Calls Try.prog f args w fun e w' => ∃ v', e = .returned v' ∧ Below w.heap.size w w' ∧ Num w' v' z :=
 h.mono fun _ _ hh => gives_num hh hz hk

theorem exKP {w : World} {z : Int} {f : FuncId} {args : Array Value} (h : Calls Try.prog f args w (GivesInt w z)) {k : Nat} (hz : ab z < pw k) (hk : k ≤ 900000) :
  Calls Try.prog f args w fun e w' => ∃ (n : Bool) (ao : Option Addr) (k c : Nat), e = .returned (.agg #[.bool n, .slice ao k c]) ∧ Below w.heap.size w w' ∧ Num w' (.agg #[.bool n, .slice ao k c]) z :=
 (exK h hz hk).mono fun _ _ hh => by
  obtain ⟨v, rfl, hb, hn⟩ := hh
  obtain ⟨n, ao, k, c, rfl⟩ := hn.parts
  exact ⟨_, _, _, _, rfl, hb, hn⟩

theorem exDK {w : World} {v v' : Value} {a b : Int} (h : Num w v a) (h' : Num w v' b) (hb : b ≠ 0) {j k : Nat} (hq : ab (a / b) < pw j) (hr : ab (a % b) < pw k) (hj : j ≤ 900000) (hk : k ≤ 900000) : Calls Try.prog 23 #[v, v'] w (RTwo w (a / b) (a % b)) :=
 (DivModV h h').mono fun e w' hg => by
  obtain ⟨hbl, ⟨h0, _⟩ | ⟨_, vq, vr, rfl, i1, i2⟩⟩ := hg
  ·exact absurd h0 hb
  ·have n1 := num_of i1 hq hj
   have n2 := num_of i2 hr hk
   obtain ⟨n, ao, k, c, rfl⟩ := n1.parts
   obtain ⟨n', ao', k', c', rfl⟩ := n2.parts
   exact ⟨_, _, _, _, _, _, _, _, rfl, hbl, n1, n2⟩

theorem exDT {w : World} {v v' : Value} {a b : Int} (h : Num w v a) (h' : Num w v' b) (hb : b ≠ 0) {j k : Nat} (hq : ab (a / b) < pw j) (hr : ab (a % b) < pw k) (hj : j ≤ 900000) (hk : k ≤ 900000) :
  Calls Try.prog 23 #[v, v'] w fun e w' => ∃ v', e = .returned v' ∧ Below w.heap.size w w' ∧ (Fc.tup (a / b) (a % b)).P v' w' :=
 (exDK h h' hb hq hr hj hk).mono fun e w' hg => by
  obtain ⟨_, _, _, _, _, _, _, _, rfl, hbl, n1, n2⟩ := hg
  exact ⟨_, rfl, hbl, _, _, rfl, n1, n2⟩

theorem exSign {w : World} {v : Value} {z : Int} (h : Num w v z) : Calls Try.prog 22 #[v] w fun e w' => ∃ v', e = .returned v' ∧ Below w.heap.size w w' ∧ v' = .int .i64 (cmpI z 0) :=
 (SignV h).mono fun _ _ hh => ⟨_, hh.1, hh.2, rfl⟩

theorem exCmp {w : World} {v v' : Value} {z z' : Int} (h : Num w v z) (h' : Num w v' z') : Calls Try.prog 24 #[v, v'] w fun e w' => ∃ v', e = .returned v' ∧ Below w.heap.size w w' ∧ v' = .int .i64 (cmpI z z') :=
 (CmpV h h').mono fun _ _ hh => ⟨_, hh.1, hh.2, rfl⟩

theorem Num.len_zero {w : World} {n : Bool} {ao : Option Addr} {k c : Nat} {z : Int} (h : Num w (.agg #[.bool n, .slice ao k c]) z) : (k = 0 ↔ z = 0) ∧ k ≤ 900000 := by
 obtain ⟨neg, ao', k', c', xs, hv, hs, hn, hz, hc, hnn⟩ := h
 obtain ⟨rfl, rfl, rfl, rfl⟩ : n = neg ∧ ao = ao' ∧ k = k' ∧ c = c' := by
  simp at hv; exact ⟨hv.1, hv.2.1, hv.2.2.1, hv.2.2.2⟩
 refine ⟨?_, hn⟩
 have h1 := hc.zero
 rw [hs.len] at h1
 rw [h1, hz]
 cases n <;> simp [sgn]

def Rw (w : World) : List (Nat × Bool × Option Addr × Nat × Nat × List Int) → Prop
 | [] => True
 | (b, neg, ao, n, c, xs) :: r => (IntBox w b (.bool neg) (.slice ao n c) ∧ Sl w ao n c xs) ∧ Rw w r

theorem Rw.mono {w w' : World} (hb : Below w.heap.size w w') : ∀ {l : List (Nat × Bool × Option Addr × Nat × Nat × List Int)}, Rw w l → Rw w' l
 | [], _ => trivial
 | (_, _, _, _, _, _) :: _, h => ⟨⟨h.1.1.mono hb h.1.1.lt, h.1.2.mono hb⟩, Rw.mono hb h.2⟩

structure Ev (w0 : World) (rs : List (Nat × Bool × Option Addr × Nat × Nat × List Int)) (l : List (Nat × Int)) (W : World) : Prop where
 below : Below w0.heap.size w0 W
 raws : Rw W rs
 bs : Bs W l

theorem Ev.mono {w0 W W' : World} {rs : List (Nat × Bool × Option Addr × Nat × Nat × List Int)} {l : List (Nat × Int)} (h : Ev w0 rs l W) (hb : Below W.heap.size W W') : Ev w0 rs l W' :=
 ⟨h.below.trans (hb.mono h.below.size), h.raws.mono hb, h.bs.mono hb⟩

theorem Ev.push {w0 W : World} {rs : List (Nat × Bool × Option Addr × Nat × Nat × List Int)} {l : List (Nat × Int)} (h : Ev w0 rs l W) {b : Nat} {z : Int} (hb : BoxNum W b z) : Ev w0 rs ((b, z) :: l) W :=
 ⟨h.below, h.raws, hb, h.bs⟩

section
variable {os : List Oper} {Q : Exit → Act → World → Prop} {a : Act} {p : Plan} {B B0 : Nat} {w0 : World}
variable {i s : Nat} {d : Option Tmp} {ty : TypeId} {ps : String} {af : Array Edge} {gd : Option (Nat × Bool)}

theorem g_callC {x : Value} {f : FuncId} {ts : Array TypeId} (hp : PMono p B B0) (hF : p.Free i) (hg : Gd os a p B B0 w0 af gd) (hen : ∀ args w, (callFunc f args).run Try.prog w = .ok (.enter f args) w)
  (hC : ∀ w, Calls Try.prog f #[x] w fun e w' => ∃ v', e = .returned v' ∧ Below w.heap.size w w' ∧ p.C i v' w') :
  Step os Q a p B B0 w0 i { dst := d, op := .call { callee := .value (.func f), args := #[.const x], argTypes := ts }, type := ty, pos := ps, after := af, guard := gd } :=
 stg_call hp hF hg hen fun L vs w _ _ => ⟨#[x], by simp [Act.eval], hC w⟩

end

end Go.Proofs.Ytihhlaagndingaa

namespace Go.Proofs.Ytihhlaagndingaa
open Go Go.RowKit

section
variable {os : List Oper} {Q : Exit → Act → World → Prop} {a : Act} {p : Pq} {B B0 : Nat} {w0 : World}
variable {i s : Nat} {d : Option Tmp} {ty : TypeId} {ps : String} {af : Array Edge} {gd : Option (Nat × Bool)}

def SrcQ (os : List Oper) (a : Act) (p : Pq) (B B0 : Nat) (w0 : World) (af : Array Edge) (x : Operand) (F : Value → World → Prop) : Prop :=
 ∀ L vs w, p.G B B0 w0 L vs w → (∀ e ∈ af, Region.binds .any e = true → L e.on = true) → F ((lay os.toArray L vs os.toArray.size a).eval x) w

theorem sq_in (j : Nat) {F : Value → World → Prop} (ha : apartB (os.map (·.dst)) = true) (hj : (os.map (·.dst))[j]? = some (some s)) (hs : s < a.tmps.size) (hdep : depA af j = true) (hF : ∀ v w, (p.c j).P v w → F v w) : SrcQ os a p B B0 w0 af (.tmp s) F := by
 intro L vs w hG hd
 have hLj := depA_of hdep hd
 rw [lay_in ha hLj hj hs]
 exact hF _ _ (hG.val j hLj)

theorem sq_out {v : Value} {F : Value → World → Prop} (ho : (os.map (·.dst)).contains (some s) = false) (hx : a.eval (.tmp s) = v) (hF : ∀ w, Below B w0 w → F v w) : SrcQ os a p B B0 w0 af (.tmp s) F := by
 intro L vs w hG hd
 rw [(lay_out ho _).trans hx]
 exact hF _ hG.below

theorem sq_const {v : Value} {F : Value → World → Prop} (hF : ∀ w, F v w) : SrcQ os a p B B0 w0 af (.const v) F := fun _ _ _ _ _ => hF _

def GdQ (os : List Oper) (a : Act) (p : Pq) (B B0 : Nat) (w0 : World) (af : Array Edge) : Option (Nat × Bool) → Prop
 | none => True
 | some (j, b) => ∀ L vs w, p.G B B0 w0 L vs w → (∀ e ∈ af, Region.binds .any e = true → L e.on = true) → yielded os.toArray (lay os.toArray L vs os.toArray.size a).tmps j = some b

theorem gq_some {j : Nat} {b : Bool} (ha : apartB (os.map (·.dst)) = true) (hj : (os.map (·.dst))[j]? = some (some s)) (hs : s < a.tmps.size) (hdep : depA af j = true) (hC : ∀ v w, (p.c j).P v w → v = .bool b) : GdQ os a p B B0 w0 af (some (j, b)) := by
 intro L vs w hG hd
 have hLj := depA_of hdep hd
 have hv := hC _ _ (hG.val j hLj)
 have he := lay_in (vs := vs) ha hLj hj hs
 rw [hv] at he
 have hsz : s < (lay os.toArray L vs os.toArray.size a).tmps.size := by rw [lay_size]; exact hs
 have ht : (lay os.toArray L vs os.toArray.size a).tmps[s]? = some (.bool b) := by
  have h2 : (lay os.toArray L vs os.toArray.size a).eval (.tmp s) = ((lay os.toArray L vs os.toArray.size a).tmps[s]?).getD undef := by simp [Act.eval]
  rw [Array.getElem?_eq_getElem hsz] at h2 ⊢
  rw [he] at h2
  exact congrArg some h2.symm
 have hdst : (os.toArray[j]?).bind (·.dst) = some s := by
  simp at hj ⊢
  cases ho : os[j]? with
  | none => simp [ho] at hj
  | some o => simp [ho] at hj ⊢; exact hj
 unfold yielded
 rw [hdst]
 simp only [Option.bind_some, ht]

theorem sqi (j : Nat) {F : Value → World → Prop} (ha : apartB (os.map (·.dst)) = true := by exact rfl) (hj : (os.map (·.dst))[j]? = some (some s) := by exact rfl) (hs : s < a.tmps.size := by simp) (hdep : depA af j = true := by exact rfl) (hF : ∀ v w, (p.c j).P v w → F v w := by exact fun v w h => h) : SrcQ os a p B B0 w0 af (.tmp s) F := sq_in j ha hj hs hdep hF
theorem sqo (s : Nat) {u : Value} (ho : (os.map (·.dst)).contains (some s) = false := by exact rfl) (hx : a.eval (.tmp s) = u := by exact rfl) : SrcQ os a p B B0 w0 af (.tmp s) fun v _ => v = u := sq_out ho hx fun _ _ => rfl
theorem gqi {j : Nat} {b : Bool} (ha : apartB (os.map (·.dst)) = true := by exact rfl) (hj : (os.map (·.dst))[j]? = some (some s) := by exact rfl) (hs : s < a.tmps.size := by simp) (hdep : depA af j = true := by exact rfl) (hC : ∀ v w, (p.c j).P v w → v = .bool b := by exact fun v w h => h) : GdQ os a p B B0 w0 af (some (j, b)) := gq_some ha hj hs hdep hC
theorem mq {α : Type} {l : List α} {x : α} (k : Nat) (h : l[k]? = some x) : x ∈ l := List.mem_iff_getElem?.2 ⟨k, h⟩
theorem wanted_of {o : Oper} {L : Nat → Bool} {vs : Nat → Value} {w : World} (hg : GdQ os a p B B0 w0 o.after o.guard) (hG : p.G B B0 w0 L vs w) (hd : ∀ e ∈ o.after, Region.binds .any e = true → L e.on = true) : Region.wanted o (yielded os.toArray (lay os.toArray L vs os.toArray.size a).tmps) = true := by
 unfold Region.wanted
 cases hgd : o.guard with
 | none => rfl
 | some jb =>
  obtain ⟨j, b⟩ := jb
  rw [hgd] at hg
  have := hg L vs w hG hd
  show (yielded os.toArray (lay os.toArray L vs os.toArray.size a).tmps j == some b) = true
  rw [this]
  cases b <;> rfl

theorem q_skip {o : Oper} {j : Nat} {b : Bool} (hp : p.Ok B B0) (hF : p.Free i) (hgd : o.guard = some (j, b)) (hg : GdQ os a p B B0 w0 o.after (some (j, !b))) (hC : ∀ w, (p.c i).P undef w) : StepQ os Q a p B B0 w0 i o := by
 intro hio L vs w hG hL hd hc
 refine wpOp_step hio fun K' hK => ?_
 have h1 := hg L vs w hG hd
 have hwn : ¬ Region.wanted o (yielded os.toArray (lay os.toArray L vs os.toArray.size a).tmps) = true := by
  unfold Region.wanted
  rw [hgd]
  show ¬ (yielded os.toArray (lay os.toArray L vs os.toArray.size a).tmps j == some b) = true
  rw [h1]
  cases b <;> simp
 rw [if_neg hwn]
 exact hK _ _ ⟨_, rfl, hG.plain hp hF (Below.refl _ _) (hC _)⟩

theorem stq_run {o : Oper} (hp : p.Ok B B0) (hF : p.Free i) (hg : GdQ os a p B B0 w0 o.after o.guard) (hr : ∀ L vs w, p.G B B0 w0 L vs w → L i = false → ClosedL os.toArray L → (∀ e ∈ o.after, Region.binds .any e = true → L e.on = true) →
   ∃ v w', (execOp (lay os.toArray L vs os.toArray.size a).eval o).run Try.prog w = .ok (.value v) w' ∧ Below w.heap.size w w' ∧ (p.c i).P v w') : StepQ os Q a p B B0 w0 i o := by
 intro hio L vs w hG hL hd hc
 refine wpOp_step hio fun K' hK => ?_
 obtain ⟨v, w', hv, hb, hCv⟩ := hr L vs w hG hL hc hd
 rw [if_pos (wanted_of hg hG hd)]
 unfold Oper.wp
 rw [hv]
 exact hK _ _ ⟨_, rfl, hG.plain hp hF hb hCv⟩

theorem stq_val {o : Oper} (hp : p.Ok B B0) (hF : p.Free i) (hg : GdQ os a p B B0 w0 o.after o.guard) (hr : ∀ L vs w, p.G B B0 w0 L vs w → L i = false → ClosedL os.toArray L → (∀ e ∈ o.after, Region.binds .any e = true → L e.on = true) →
   ∃ v, (execOp (lay os.toArray L vs os.toArray.size a).eval o).run Try.prog w = .ok (.value v) w ∧ (p.c i).P v w) : StepQ os Q a p B B0 w0 i o :=
 stq_run hp hF hg fun L vs w hG hL hc hd => by
  obtain ⟨v, h1, h2⟩ := hr L vs w hG hL hc hd
  exact ⟨v, w, h1, Below.refl _ _, h2⟩

theorem stq_call {f : FuncId} {xs : Array Operand} {ts : Array TypeId} (hp : p.Ok B B0) (hF : p.Free i) (hg : GdQ os a p B B0 w0 af gd) (hen : ∀ args w, (callFunc f args).run Try.prog w = .ok (.enter f args) w)
  (hr : ∀ L vs w, p.G B B0 w0 L vs w → (∀ e ∈ af, Region.binds .any e = true → L e.on = true) → ∃ args, xs.map (lay os.toArray L vs os.toArray.size a).eval = args ∧
   Calls Try.prog f args w fun e w' => ∃ v', e = .returned v' ∧ Below w.heap.size w w' ∧ (p.c i).P v' w') :
  StepQ os Q a p B B0 w0 i { dst := d, op := .call { callee := .value (.func f), args := xs, argTypes := ts }, type := ty, pos := ps, after := af, guard := gd } := by
 intro hio L vs w hG hL hd hc
 refine wpOp_step hio fun K' hK => ?_
 obtain ⟨args, hx, hC⟩ := hr L vs w hG hd
 rw [if_pos (wanted_of (o := { dst := d, op := .call { callee := .value (.func f), args := xs, argTypes := ts }, type := ty, pos := ps, after := af, guard := gd }) hg hG hd)]
 have e : (execOp (lay os.toArray L vs os.toArray.size a).eval ({ dst := d, op := .call { callee := .value (.func f), args := xs, argTypes := ts }, type := ty, pos := ps, after := af, guard := gd } : Oper)).run Try.prog w = (.ok (.enter f args) w) := by
  have hf : (lay os.toArray L vs os.toArray.size a).eval (.func f) = .func (.func f) #[] #[] := rfl
  generalize (lay os.toArray L vs os.toArray.size a).eval = ρ at hx hf
  simp [execOp, go_sem, hx, hf, hen]
 unfold Oper.wp
 rw [e]
 refine hC.mono ?_
 rintro e' w' ⟨v', rfl, hb, h⟩
 exact hK _ _ ⟨_, rfl, hG.plain hp hF hb h⟩

theorem q_call0 {f : FuncId} {ts : Array TypeId} (hp : p.Ok B B0) (hF : p.Free i) (hg : GdQ os a p B B0 w0 af gd) (hen : ∀ args w, (callFunc f args).run Try.prog w = .ok (.enter f args) w)
  (hC : ∀ w, Calls Try.prog f #[] w fun e w' => ∃ v', e = .returned v' ∧ Below w.heap.size w w' ∧ (p.c i).P v' w') :
  StepQ os Q a p B B0 w0 i { dst := d, op := .call { callee := .value (.func f), args := #[], argTypes := ts }, type := ty, pos := ps, after := af, guard := gd } :=
 stq_call hp hF hg hen fun L vs w hG hd => ⟨#[], by simp, hC _⟩

theorem q_call1 {x : Operand} {F : Value → World → Prop} {f : FuncId} {ts : Array TypeId} (hp : p.Ok B B0) (hF : p.Free i) (hg : GdQ os a p B B0 w0 af gd) (hen : ∀ args w, (callFunc f args).run Try.prog w = .ok (.enter f args) w)
  (hx : SrcQ os a p B B0 w0 af x F) (hC : ∀ v w, F v w → Calls Try.prog f #[v] w fun e w' => ∃ v', e = .returned v' ∧ Below w.heap.size w w' ∧ (p.c i).P v' w') :
  StepQ os Q a p B B0 w0 i { dst := d, op := .call { callee := .value (.func f), args := #[x], argTypes := ts }, type := ty, pos := ps, after := af, guard := gd } :=
 stq_call hp hF hg hen fun L vs w hG hd => ⟨#[_], by simp, hC _ _ (hx L vs w hG hd)⟩

theorem q_call2 {x y : Operand} {F G : Value → World → Prop} {f : FuncId} {ts : Array TypeId} (hp : p.Ok B B0) (hF : p.Free i) (hg : GdQ os a p B B0 w0 af gd) (hen : ∀ args w, (callFunc f args).run Try.prog w = .ok (.enter f args) w)
  (hx : SrcQ os a p B B0 w0 af x F) (hy : SrcQ os a p B B0 w0 af y G) (hC : ∀ v v' w, F v w → G v' w → Calls Try.prog f #[v, v'] w fun e w' => ∃ v', e = .returned v' ∧ Below w.heap.size w w' ∧ (p.c i).P v' w') :
  StepQ os Q a p B B0 w0 i { dst := d, op := .call { callee := .value (.func f), args := #[x, y], argTypes := ts }, type := ty, pos := ps, after := af, guard := gd } :=
 stq_call hp hF hg hen fun L vs w hG hd => ⟨#[_, _], by simp, hC _ _ _ (hx L vs w hG hd) (hy L vs w hG hd)⟩

theorem q_one {o : Oper} {x : Operand} {F : Value → World → Prop} (hp : p.Ok B B0) (hF : p.Free i) (hg : GdQ os a p B B0 w0 o.after o.guard) (hx : SrcQ os a p B B0 w0 o.after x F)
  (hr : ∀ (ρ : Operand → Value) (w : World), (∀ c, ρ (.const c) = c) → F (ρ x) w → ∃ r, (execOp ρ o).run Try.prog w = .ok (.value r) w ∧ (p.c i).P r w) : StepQ os Q a p B B0 w0 i o :=
 stq_val hp hF hg fun L vs w hG _ _ hd => hr _ _ (fun _ => rfl) (hx L vs w hG hd)

theorem q_two {o : Oper} {x y : Operand} {F G : Value → World → Prop} (hp : p.Ok B B0) (hF : p.Free i) (hg : GdQ os a p B B0 w0 o.after o.guard) (hx : SrcQ os a p B B0 w0 o.after x F) (hy : SrcQ os a p B B0 w0 o.after y G)
  (hr : ∀ (ρ : Operand → Value) (w : World), (∀ c, ρ (.const c) = c) → F (ρ x) w → G (ρ y) w → ∃ r, (execOp ρ o).run Try.prog w = .ok (.value r) w ∧ (p.c i).P r w) : StepQ os Q a p B B0 w0 i o :=
 stq_val hp hF hg fun L vs w hG _ _ hd => hr _ _ (fun _ => rfl) (hx L vs w hG hd) (hy L vs w hG hd)

theorem q_move {x : Operand} (hp : p.Ok B B0) (hF : p.Free i) (hg : GdQ os a p B B0 w0 af gd) (hx : SrcQ os a p B B0 w0 af x (p.c i).P) : StepQ os Q a p B B0 w0 i { dst := d, op := .move x, type := ty, pos := ps, after := af, guard := gd } := by
 refine stq_val hp hF hg fun L vs w hG _ _ hd => ⟨_, ?_, hx L vs w hG hd⟩
 simp [execOp, go_sem]

theorem q_assign {x : Operand} (hp : p.Ok B B0) (hF : p.Free i) (hg : GdQ os a p B B0 w0 af gd) (hx : SrcQ os a p B B0 w0 af x (p.c i).P) : StepQ os Q a p B B0 w0 i { dst := d, op := .assign x, type := ty, pos := ps, after := af, guard := gd } := by
 refine stq_val hp hF hg fun L vs w hG _ _ hd => ⟨_, ?_, hx L vs w hG hd⟩
 simp [execOp, go_sem]

theorem q_extract2 {x : Operand} {k : Nat} {F G : Fq} (hp : p.Ok B B0) (hF : p.Free i) (hg : GdQ os a p B B0 w0 af gd) (hx : SrcQ os a p B B0 w0 af x (Fq.tup2 F G).P) (hC : ∀ v1 v2 w, F.P v1 w → G.P v2 w → ∃ u, #[v1, v2][k]? = some u ∧ (p.c i).P u w) : StepQ os Q a p B B0 w0 i { dst := d, op := .extract x k, type := ty, pos := ps, after := af, guard := gd } := by
 refine stq_val hp hF hg fun L vs w hG _ _ hd => ?_
 obtain ⟨v1, v2, e, h1, h2⟩ := hx L vs w hG hd
 obtain ⟨u, hu, h⟩ := hC v1 v2 w h1 h2
 refine ⟨_, ?_, h⟩
 generalize (lay os.toArray L vs os.toArray.size a).eval = ρ at e
 simp only [execOp, go_sem, e]
 simp [go_sem, hu]

theorem q_extract3 {x : Operand} {k : Nat} {F G H : Fq} (hp : p.Ok B B0) (hF : p.Free i) (hg : GdQ os a p B B0 w0 af gd) (hx : SrcQ os a p B B0 w0 af x (Fq.tup3 F G H).P) (hC : ∀ v1 v2 v3 w, F.P v1 w → G.P v2 w → H.P v3 w → ∃ u, #[v1, v2, v3][k]? = some u ∧ (p.c i).P u w) : StepQ os Q a p B B0 w0 i { dst := d, op := .extract x k, type := ty, pos := ps, after := af, guard := gd } := by
 refine stq_val hp hF hg fun L vs w hG _ _ hd => ?_
 obtain ⟨v1, v2, v3, e, h1, h2, h3⟩ := hx L vs w hG hd
 obtain ⟨u, hu, h⟩ := hC v1 v2 v3 w h1 h2 h3
 refine ⟨_, ?_, h⟩
 generalize (lay os.toArray L vs os.toArray.size a).eval = ρ at e
 simp only [execOp, go_sem, e]
 simp [go_sem, hu]

theorem box_now {o : Ob} (ho : o ∈ p.old) (hk : o.F1 = o.F0 ∨ leadsB os 9 o.k i = true) {L : Nat → Bool} {vs : Nat → Value} {w : World} (hG : p.G B B0 w0 L vs w) (hL : L i = false) (hc : ClosedL os.toArray L) : Bq w o.b o.m o.F0 := by
 have := hG.old _ ho
 rcases hk with hk | hk
 ·rw [hk] at this; simpa using this
 ·rw [not_yet hc hk hL] at this; exact this

theorem q_loadInt {o : Ob} {off : Nat} {x : Operand} (hp : p.Ok B B0) (hF : p.Free i) (hg : GdQ os a p B B0 w0 af gd) (ho : o ∈ p.old) (hk : o.F1 = o.F0 ∨ leadsB os 9 o.k i = true) (hoff : off + 2 ≤ o.m)
  (hx : SrcQ os a p B B0 w0 af x fun u _ => u = .pointer (some ⟨o.b, off, none⟩)) (hC : ∀ (us : List Value) (w : World), us.length = o.m → o.F0.P (.agg us.toArray) w → (p.c i).P (.agg #[us.getD off undef, us.getD (off + 1) undef]) w) :
  StepQ os Q a p B B0 w0 i { dst := d, op := .load 29 x, type := ty, pos := ps, after := af, guard := gd } := by
 refine stq_val hp hF hg fun L vs w hG hL hc hd => ?_
 obtain ⟨us, hl, h0, hat, ht, hP⟩ := box_now ho hk hG hL hc
 have e := hx L vs w hG hd
 have c0 := (hat off (by omega)).1
 have c1 := (hat (off + 1) (by omega)).1
 refine ⟨_, ?_, hC us w hl hP⟩
 generalize (lay os.toArray L vs os.toArray.size a).eval = ρ at e
 generalize us.getD off undef = u0 at c0 ⊢
 generalize us.getD (off + 1) undef = u1 at c1 ⊢
 simp [execOp, go_sem, e, c0, c1]

theorem ld_num {us : List Value} {w : World} {z : Int} (hl : us.length = 2) (h : (Fq.num z).P (.agg us.toArray) w) : Num w (.agg #[us.getD 0 undef, us.getD (0 + 1) undef]) z := by
 match us, hl with
 | [p, q], _ => exact h
def zeroInt : List Value := [.bool false, .slice none 0 0]
def zeroRat : List Value := [.bool false, .slice none 0 0, .bool false, .slice none 0 0]
theorem tame_int (n : Bool) (ao : Option Addr) (k c : Nat) : Tame [.bool n, .slice ao k c] := by
 intro u hu q e
 simp at hu
 rcases hu with rfl | rfl <;> cases e
theorem q_allocInt {n0 : Nb} (hp : p.Ok B B0) (hi : n0 ∈ p.new) (hii : n0.i = i) (hsl : n0.s = none) (hm : n0.m = 2) (hk : leadsB os 9 n0.k i = true) (hki : n0.k ≠ i) (hC : ∀ v w', (p.c i).P v w') (h1 : ∀ o ∈ p.old, o.k ≠ i) (h2 : ∀ n ∈ p.new, n.k ≠ i) (hF : ∀ w', n0.F0.P (.agg zeroInt.toArray) w') :
  StepQ os Q a p B B0 w0 i { dst := d, op := .alloc 29, type := ty, pos := ps, after := af, guard := none } := by
 subst hii
 intro hio L vs w hG hL hd hc
 exact op_alloc hio ⟨_, rfl, hG.alloc hp hi hsl (not_yet hc hk hL) hki hC h1 h2 _ (us := zeroInt) hm.symm (by omega) (tame_int _ _ _ _) hF⟩

def IntV (F : Fq) (v : Value) (w : World) : Prop := ∃ n ao k c, v = .agg #[.bool n, .slice ao k c] ∧ F.P v w
theorem intV_num {v : Value} {w : World} {z : Int} (h : Num w v z) : IntV (Fq.num z) v w := by
 obtain ⟨n, ao, k, c, e⟩ := h.parts
 exact ⟨n, ao, k, c, e, h⟩
theorem op_storeInt {ops : Array Oper} {K : Act → World → Prop} {w : World} {x y : Operand} {b : Nat} {us : List Value} {n' : Bool} {a' : Option Addr} {k' c' : Nat} (ho : ops[i]? = some { dst := d, op := .store 29 x y, type := ty, pos := ps, after := af, guard := none }) (hx : a.eval x = .pointer (some ⟨b, 0, none⟩)) (hy : a.eval y = .agg #[.bool n', .slice a' k' c']) (hat : At w b us) (hl : us.length = 2)
  (h : K (a.put d undef) (putFrom w b 0 [.bool n', .slice a' k' c'])) : wpOp Try.prog ops Q i K a w :=
 op_store (p := us.getD 0 undef) (q := us.getD 1 undef) ho hx hy ⟨(hat 0 (by omega)).1, (hat 1 (by omega)).1, (hat 0 (by omega)).2, (hat 1 (by omega)).2⟩ h

theorem q_storeNewInt {n0 : Nb} {x y : Operand} (hp : p.Ok B B0) (hi : n0 ∈ p.new) (hki : n0.k = i) (hsl : n0.s = none) (hm : n0.m = 2) (hx : ∀ L vs w, p.G B B0 w0 L vs w → (∀ e ∈ af, Region.binds .any e = true → L e.on = true) → L n0.i = true ∧ (lay os.toArray L vs os.toArray.size a).eval x = vs n0.i) (hy : SrcQ os a p B B0 w0 af y (IntV n0.F1))
  (hC : ∀ v w', (p.c i).P v w') (h1 : ∀ o ∈ p.old, o.k ≠ i) (h2 : ∀ n ∈ p.new, n.i ≠ i) : StepQ os Q a p B B0 w0 i { dst := none, op := .store 29 x y, type := ty, pos := ps, after := af, guard := none } := by
 subst hki
 intro hio L vs w hG hL hd hc
 obtain ⟨hLi, hxe⟩ := hx L vs w hG hd
 obtain ⟨n, ao, k, c, e, hP⟩ := hy L vs w hG hd
 obtain ⟨b, e1', e2, us, g1, g2, g3, g4, g5⟩ := hG.new _ hi hLi
 have e1 : vs n0.i = .pointer (some ⟨b, 0, none⟩) := by rw [e1']; unfold Nb.ptr; rw [hsl]
 rw [e] at hP
 exact op_storeInt hio (hxe.trans e1) e g3 (by omega) ⟨undef, rfl, hG.storeNew hp hi hLi (us := [.bool n, .slice ao k c]) hm.symm (tame_int _ _ _ _) hP hC h1 h2 e1' _⟩

theorem own_ptr {i0 : Nat} (ha : apartB (os.map (·.dst)) = true) (hj : (os.map (·.dst))[i0]? = some (some s)) (hs : s < a.tmps.size) (hdep : depA af i0 = true) : ∀ L vs w, p.G B B0 w0 L vs w → (∀ e ∈ af, Region.binds .any e = true → L e.on = true) → L i0 = true ∧ (lay os.toArray L vs os.toArray.size a).eval (.tmp s) = vs i0 := by
 intro L vs w hG hd
 have hLj := depA_of hdep hd
 exact ⟨hLj, lay_in ha hLj hj hs⟩

theorem q_storeOldInt {o0 : Ob} {x y : Operand} (hp : p.Ok B B0) (hi : o0 ∈ p.old) (hki : o0.k = i) (hm : o0.m = 2) (hx : SrcQ os a p B B0 w0 af x fun u _ => u = .pointer (some ⟨o0.b, 0, none⟩)) (hy : SrcQ os a p B B0 w0 af y (IntV o0.F1))
  (hC : ∀ v w', (p.c i).P v w') (h2 : ∀ n ∈ p.new, n.i ≠ i ∧ n.k ≠ i) : StepQ os Q a p B B0 w0 i { dst := none, op := .store 29 x y, type := ty, pos := ps, after := af, guard := none } := by
 subst hki
 intro hio L vs w hG hL hd hc
 obtain ⟨n, ao, k, c, e, hP⟩ := hy L vs w hG hd
 obtain ⟨us, g1, g2, g3, g4, g5⟩ := hG.old _ hi
 rw [e] at hP
 exact op_storeInt hio (hx L vs w hG hd) e g3 (by omega) ⟨undef, rfl, hG.storeOld hp hi (us := [.bool n, .slice ao k c]) hm.symm (tame_int _ _ _ _) hP hC h2 _⟩

theorem q_addr {T k b off off' : Nat} {x : Operand} (hp : p.Ok B B0) (hF : p.Free i) (hg : GdQ os a p B B0 w0 af gd) (hx : SrcQ os a p B B0 w0 af x fun u _ => u = .pointer (some ⟨b, off, none⟩))
  (hr : ∀ (ρ : Operand → Value) (w : World), ρ x = .pointer (some ⟨b, off, none⟩) → (execOp ρ { dst := d, op := .fieldAddr T x k, type := ty, pos := ps, after := af, guard := gd }).run Try.prog w = .ok (.value (.pointer (some ⟨b, off', none⟩))) w) (hC : ∀ w, (p.c i).P (.pointer (some ⟨b, off', none⟩)) w) :
  StepQ os Q a p B B0 w0 i { dst := d, op := .fieldAddr T x k, type := ty, pos := ps, after := af, guard := gd } :=
 q_one hp hF hg hx fun ρ w _ h => ⟨_, hr ρ w h, hC w⟩

end

def freeB (len : Nat) (ks : List (Option (Nat × Fq))) (new : List Nb) (i : Nat) : Bool := !(keysOf ks len).contains i && new.all (fun n => n.i != i && n.k != i)

theorem old_ne {C : List Fq} {bs : List (Nat × Nat × Fq)} {ks : List (Option (Nat × Fq))} {new : List Nb} {len i : Nat} (h : (keysOf ks len).contains i = false) : ∀ o ∈ (plq C bs ks new len).old, o.k ≠ i := fun o ho e => by
 have h1 := oldOf_key ho
 rw [e] at h1
 have h2 := List.contains_iff_mem.2 h1
 rw [h] at h2
 cases h2

theorem newk_ne {C : List Fq} {bs : List (Nat × Nat × Fq)} {ks : List (Option (Nat × Fq))} {new : List Nb} {len i : Nat} (h : new.all (fun n => n.k != i) = true) : ∀ n ∈ (plq C bs ks new len).new, n.k ≠ i := fun n hn e => by
 have := List.all_eq_true.1 h n hn
 simp [e] at this

theorem newi_ne {C : List Fq} {bs : List (Nat × Nat × Fq)} {ks : List (Option (Nat × Fq))} {new : List Nb} {len i : Nat} (h : new.all (fun n => n.i != i) = true) : ∀ n ∈ (plq C bs ks new len).new, n.i ≠ i := fun n hn e => by
 have := List.all_eq_true.1 h n hn
 simp [e] at this

theorem newik_ne {C : List Fq} {bs : List (Nat × Nat × Fq)} {ks : List (Option (Nat × Fq))} {new : List Nb} {len i : Nat} (h : new.all (fun n => n.i != i && n.k != i) = true) : ∀ n ∈ (plq C bs ks new len).new, n.i ≠ i ∧ n.k ≠ i := fun n hn => by
 have := List.all_eq_true.1 h n hn
 simpa using this

theorem free_of {C : List Fq} {bs : List (Nat × Nat × Fq)} {ks : List (Option (Nat × Fq))} {new : List Nb} {len i : Nat} (h : freeB len ks new i = true) : (plq C bs ks new len).Free i := by
 simp only [freeB, Bool.and_eq_true, Bool.not_eq_true'] at h
 exact ⟨old_ne h.1, newik_ne h.2⟩

theorem Fr.box {w0 W : World} {bs : List (Nat × Nat × Fq)} (h : Fr w0 bs W) (k : Nat) {b m : Nat} {F : Fq} (hk : bs[k]? = some (b, m, F)) : Bq W b m F := (h.boxes _ (List.mem_of_getElem? hk)).2

theorem box_num {w : World} {b : Nat} {z : Int} (h : Bq w b 2 (Fq.num z)) : ∃ p q, w.cell? ⟨b, 0, none⟩ = some p ∧ w.cell? ⟨b, 1, none⟩ = some q ∧ Num w (.agg #[p, q]) z := by
 obtain ⟨us, hl, _, hat, _, hP⟩ := h
 match us, hl, hat with
 | [p, q], _, hat => exact ⟨p, q, (hat 0 (by simp)).1, (hat 1 (by simp)).1, hP⟩

theorem Pair.zero (w : World) : Pair w (.agg zeroRat.toArray) 0 0 := ⟨_, _, _, _, rfl, Num.zero w, Num.zero w⟩

theorem fr_start (w : World) {m : Nat} {F : Fq} {us : List Value} (t : TypeId) (hl : us.length = m) (h0 : 0 < m) (ht : Tame us) (hF : F.P (.agg us.toArray) w) : ∃ w' b, w' = w.alloc (.cells us.toArray t) ∧ b = w.heap.size ∧ w'.heap.size = w.heap.size + 1 ∧ Fr w [(b, m, F)] w' :=
 ⟨_, _, rfl, rfl, World.size_alloc _ _, (Fr.start w).push t hl h0 ht hF⟩
theorem fr_more {w W : World} {bs : List (Nat × Nat × Fq)} (E : Fr w bs W) {k : Nat} (hk : W.heap.size = k) {m : Nat} {F : Fq} {us : List Value} (t : TypeId) (hl : us.length = m) (h0 : 0 < m) (ht : Tame us) (hF : F.P (.agg us.toArray) W) : ∃ w' b, w' = W.alloc (.cells us.toArray t) ∧ b = k ∧ w'.heap.size = k + 1 ∧ Fr w ((b, m, F) :: bs) w' :=
 ⟨_, _, rfl, rfl, by rw [World.size_alloc, hk], by rw [← hk]; exact E.push t hl h0 ht hF⟩

end Go.Proofs.Ytihhlaagndingaa

namespace Go.Proofs.Ytihhlaagndingaa
open Go

end Go.Proofs.Ytihhlaagndingaa

namespace Go.Proofs.Ytihhlaagndingaa
open Go Go.RowKit

set_option maxRecDepth 20000 in
set_option maxHeartbeats 1000000 in
theorem rNeg_any (w : World) (na : Bool) (ax : Option Addr) (n cx : Nat) (xs : List Int) (hX : Sl w ax n cx xs) (hb1 : n ≤ 4000000) :
  Calls Try.prog 97 #[.agg #[.bool na, .slice ax n cx]] w (GivesInt w (-sgn na (val xs))) := by
 go_enter Try.func97, Try.ntmps97
 obtain ⟨w0, hw0, hA, hC, hbl, HS⟩ := boxes2 w (.bool na) (.slice ax n cx) 29
 have hX0 := hX.mono hbl
 obtain ⟨ca0, ca1, _, _⟩ := hA
 go_wp2_with fail
 rw [← hw0]
 clear hw0
 refine (made_any _ _ _ _ _ _ hX0 (by omega)).mono ?_
 rintro e w3 ⟨v, rfl, ⟨ng, ao, nn, cc, rs, rfl, hrs, hrc, hrn, hrz⟩, hb3⟩
 obtain ⟨e0, e1, e2, e3⟩ := hC.mono hb3 hC.lt
 have hb4 : Below w.heap.size w w3 := hbl.trans (hb3.mono hbl.size)
 have hz : -sgn na (val xs) = sgn ng (val rs) := by rw [← hrz, sgn_not]
 have HZ := hidd hz
 clear hrz hz
 go_wp2
 refine bodyPost_ret (v := .agg #[.bool ng, .slice ao nn cc]) ?_ rfl ?_
 ·simp [results, Try.results97, go_sem, e0, e1]
 ·exact gives_store ⟨e0, e1, e2, e3⟩ hrs hrc hrn HZ.out hb4 (by omega)

set_option maxRecDepth 20000 in
set_option maxHeartbeats 1000000 in
theorem rAbs_any (w : World) (na : Bool) (ax : Option Addr) (n cx : Nat) (xs : List Int) (hX : Sl w ax n cx xs) (hb1 : n ≤ 4000000) :
  Calls Try.prog 52 #[.agg #[.bool na, .slice ax n cx]] w (GivesInt w (val xs)) := by
 go_enter Try.func52, Try.ntmps52
 obtain ⟨w0, hw0, hA, hC, hbl, HS⟩ := boxes2 w (.bool na) (.slice ax n cx) 29
 have hX0 := hX.mono hbl
 obtain ⟨ca0, ca1, _, _⟩ := hA
 go_wp2_with fail
 rw [← hw0]
 clear hw0
 refine (made_any _ _ _ _ _ _ hX0 (by omega)).mono ?_
 rintro e w3 ⟨v, rfl, ⟨ng, ao, nn, cc, rs, rfl, hrs, hrc, hrn, hrz⟩, hb3⟩
 obtain ⟨e0, e1, e2, e3⟩ := hC.mono hb3 hC.lt
 have hb4 : Below w.heap.size w w3 := hbl.trans (hb3.mono hbl.size)
 have hz : val xs = sgn ng (val rs) := by rw [← hrz]; rfl
 have HZ := hidd hz
 clear hrz hz
 go_wp2
 refine bodyPost_ret (v := .agg #[.bool ng, .slice ao nn cc]) ?_ rfl ?_
 ·simp [results, Try.results52, go_sem, e0, e1]
 ·exact gives_store ⟨e0, e1, e2, e3⟩ hrs hrc hrn HZ.out hb4 (by omega)

theorem RNegV {w : World} {v : Value} {z : Int} (h : Num w v z) : Calls Try.prog 97 #[v] w (GivesInt w (-z)) := by
 obtain ⟨neg, ao, n, c, xs, rfl, hs, hn, rfl, _⟩ := h
 exact rNeg_any _ _ _ _ _ _ hs (by omega)

theorem sgn_absR (b : Bool) {v : Int} (h : 0 ≤ v) : ((sgn b v).natAbs : Int) = v := by cases b <;> simp [sgn] <;> omega

theorem RAbsV {w : World} {v : Value} {z : Int} (h : Num w v z) : Calls Try.prog 52 #[v] w (GivesInt w (z.natAbs : Int)) := by
 obtain ⟨neg, ao, n, c, xs, rfl, hs, hn, rfl, _⟩ := h
 rw [sgn_absR _ (val_nonneg hs.digs)]
 exact rAbs_any _ _ _ _ _ _ hs (by omega)

theorem Num.sign {w : World} {n : Bool} {ao : Option Addr} {k c : Nat} {z : Int} (h : Num w (.agg #[.bool n, .slice ao k c]) z) : ∃ xs, Sl w ao k c xs ∧ Canon xs ∧ k ≤ 900000 ∧ z = sgn n (val xs) ∧ 0 ≤ val xs ∧ (k = 0 ↔ z = 0) ∧ (n = true → z < 0) ∧ (n = false → 0 ≤ z) := by
 obtain ⟨neg, ao', k', c', xs, hv, hs, hn, hz, hc, hnn⟩ := h
 obtain ⟨rfl, rfl, rfl, rfl⟩ : n = neg ∧ ao = ao' ∧ k = k' ∧ c = c' := by
  simp at hv; exact ⟨hv.1, hv.2.1, hv.2.2.1, hv.2.2.2⟩
 have h0 := val_nonneg hs.digs
 have h1 := hc.zero
 rw [hs.len] at h1
 refine ⟨xs, hs, hc, hn, hz, h0, ?_, ?_, ?_⟩
 ·rw [h1, hz]; cases n <;> simp [sgn]
 ·rintro rfl
  have h2 : val xs ≠ 0 := fun h => hnn rfl (h1.2 h)
  rw [hz]; simp [sgn]; omega
 ·rintro rfl
  rw [hz]; simp [sgn]; exact h0

end Go.Proofs.Ytihhlaagndingaa

namespace Go.Proofs.Ytihhlaagndingaa
open Go Go.RowKit

theorem word_any (w : World) (ax : Option Addr) (n c : Nat) (xs : List Int) (hX : Sl w ax n c xs) (_ : n ≤ 4000000) (k : Nat) (_ : k ≤ 9000000) (x : Int) (hx : xs.getD k 0 = x) :
  Calls Try.prog 54 #[.slice ax n c, .int .i64 k] w fun e w' => e = .returned (.int .u64 x) ∧ w = w' := by
 have hl := hX.len
 by_cases h : k < n
 ·obtain ⟨b, off, rfl, hbl, x', hxc, hx0, hx1, HX⟩ := hX.cells.at (k := k) (by omega)
  rw [HX.out] at hx
  subst hx
  have h1 : decide ((k : Int) ≥ (n : Int)) = false := by simp; omega
  have h2 : ¬ ((k : Int) < 0) := by omega
  clear hl
  go_enter Try.func54, Try.ntmps54
  go_wp2
  go_ret
  exact ⟨rfl, rfl⟩
 ·have h0 : x = 0 := by rw [← hx]; exact getD_out (by omega)
  subst h0
  have h1 : decide ((k : Int) ≥ (n : Int)) = true := by simp; omega
  clear hl hx hX
  go_enter Try.func54, Try.ntmps54
  go_wp2
  go_ret
  exact ⟨rfl, rfl⟩

theorem word_before (w : World) (ax : Option Addr) (n c : Nat) (k : Int) (_ : k < 0) (_ : -9000000 ≤ k) :
  Calls Try.prog 54 #[.slice ax n c, .int .i64 k] w fun e w' => e = .returned (.int .u64 0) ∧ w = w' := by
 go_enter Try.func54, Try.ntmps54
 go_wp2
 go_ret
 exact ⟨rfl, rfl⟩

def Ow (W : World) (B : Nat) (v : Value) (zs : List Int) : Prop := W.ownsRow B 82 1 v zs.length (zs.map (Value.int .u32)) ∧ Digs zs

theorem Ow.shape {W : World} {B : Nat} {v : Value} {zs : List Int} (h : Ow W B v zs) : ∃ ao cap, v = .slice ao zs.length cap := by
 rcases h.1.2 with ⟨rfl, h0⟩ | ⟨g, cap, cur, rfl, _⟩
 ·exact ⟨none, 0, by rw [h0]⟩
 ·exact ⟨_, _, rfl⟩

theorem Ow.start (w : World) : Ow (w.alloc (.cells #[] 82)) w.heap.size (.slice (some ⟨w.heap.size, 0, none⟩) 0 0) [] :=
 ⟨⟨rfl, .inr ⟨w.heap.size, 0, #[], rfl, Nat.le_refl _, heap_alloc_new _ _, Nat.le_refl _, Nat.zero_le _, rfl, rfl⟩⟩, fun _ h => by simp at h⟩

theorem Ow.sl {W : World} {B : Nat} {v : Value} {zs : List Int} (h : Ow W B v zs) : ∃ ao c, v = .slice ao zs.length c ∧ Sl W ao zs.length c zs := own_sl h.1 h.2

theorem Ow.step {w wr w1 : World} {v v' : Value} {zs : List Int} {d : Int} {o : Obj} (h : Ow wr w.heap.size v zs) (hnx : Below w.heap.size w wr) (hd0 : 0 ≤ d) (hd1 : d < 4294967296)
  (hown' : w1.ownsRow w.heap.size 82 1 v' (zs.length + 1) (zs.map (Value.int .u32) ++ [.int .u32 d])) (hgrow : (wr.alloc o).grownBy w1 v.ownBlock) :
  Ow w1 w.heap.size v' (zs ++ [d]) ∧ Below w.heap.size w w1 := by
 refine ⟨⟨by simpa using hown', fun y hy => ?_⟩, ?_⟩
 ·rcases List.mem_append.1 hy with h1 | h1
  ·exact h.2 y h1
  ·simp at h1; subst h1; exact ⟨hd0, hd1⟩
 ·have hs := hnx.size
  exact (hnx.alloc hs o).grown hgrow (by simp; omega) (fun j hj => (World.ownsRow.lt h.1 j hj).1)

theorem val_snoc (zs : List Int) (d : Int) : val (zs ++ [d]) = val zs + pw zs.length * d := by
 rw [val_append]
 show _ + _ * (d + 4294967296 * 0) = _
 rw [Int.mul_zero, Int.add_zero]

theorem plus_step {k : Nat} {zs xs ys : List Int} {q x y : Int} (hk : zs.length = k) (h : val zs + pw k * q = val (xs.take k) + val (ys.take k)) (hx : xs.getD k 0 = x) (hy : ys.getD k 0 = y) :
  val (zs ++ [(q + (x + y)) % 4294967296]) + pw (k + 1) * ((q + (x + y)) / 4294967296) = val (xs.take (k + 1)) + val (ys.take (k + 1)) := by
 rw [val_snoc, hk, val_take_succ, val_take_succ, hx, hy]
 have h1 := pw_split k (q + (x + y))
 rw [Int.mul_add, Int.mul_add] at h1
 omega

set_option maxRecDepth 20000 in
set_option maxHeartbeats 1000000 in
theorem plus_any (w : World) (ax ay : Option Addr) (n m cx cy : Nat) (xs ys : List Int) (hX : Sl w ax n cx xs) (hY : Sl w ay m cy ys) (hb1 : n ≤ 2000000) (hb2 : m ≤ 2000000) :
  Calls Try.prog 50 #[.slice ax n cx, .slice ay m cy] w fun e w' => ∃ ao c l zs, e = .returned (.slice ao l c) ∧ Sl w' ao l c zs ∧ l ≤ max n m + 1 ∧ val zs = val xs + val ys ∧ Below w.heap.size w w' := by
 obtain ⟨i0, hi, hz0, hz1, hz2⟩ := info_parts info_word
 obtain ⟨L, hL⟩ : ∃ L : Nat, L = max n m := ⟨_, rfl⟩
 have hL2 : (if n < m then (m : Int) else (n : Int)) = (L : Int) := by split <;> omega
 have hLb : L ≤ 2000000 := by omega
 have HL := hidd hL
 clear hL
 go_enter Try.func50, Try.ntmps50
 go_wp2
 go_loopw [5, 6, 7] (fun vo vc vi wr => ∃ (k : Nat) (q : Int) (zs : List Int), k ≤ L ∧ vi = .int .i64 k ∧ vc = .int .u64 q ∧ 0 ≤ q ∧ q ≤ 1 ∧ Ow wr w.heap.size vo zs ∧ zs.length = k ∧ val zs + pw k * q = val (xs.take k) + val (ys.take k) ∧ Below w.heap.size w wr) (fun _ _ vi _ => L - (intOf vi).toNat)
 case atStart => exact ⟨0, 0, [], Nat.zero_le _, rfl, rfl, by omega, by omega, Ow.start w, rfl, by simp [val], alloc_below _ _⟩
 case round =>
  obtain ⟨k, q, zs, hk, rfl, rfl, hq0, hq1, hO, hzl, hv, hB⟩ := hrel
  subst hzl
  have HV := hidd hv
  clear hv
  obtain ⟨ao, cap, rfl⟩ := hO.shape
  have HO := hO.1
  have hsz := hB.size
  by_cases hkL : zs.length < L
  ·obtain ⟨x, hx⟩ : ∃ x, xs.getD zs.length 0 = x := ⟨_, rfl⟩
   obtain ⟨y, hy⟩ : ∃ y, ys.getD zs.length 0 = y := ⟨_, rfl⟩
   have hxd := hX.digs.getD zs.length
   have hyd := hY.digs.getD zs.length
   rw [hx] at hxd
   rw [hy] at hyd
   have Hx := hidd hx
   have Hy := hidd hy
   clear hx hy
   go_wp2_with fail
   refine (word_any _ _ _ _ _ (hX.mono hB) (by omega) zs.length (by omega) x Hx.out).mono ?_
   rintro e w' ⟨rfl, rfl⟩
   go_wp2_with fail
   refine (word_any _ _ _ _ _ (hY.mono hB) (by omega) zs.length (by omega) y Hy.out).mono ?_
   rintro e w' ⟨rfl, rfl⟩
   go_wp2_with (first | (at_builtin; refine wpList_append_own _ rfl _ _ 27 rfl w.heap.size 82 i0 (.int .u32 0) 1 4 Try.underlying27 hi hz0 hz1 hz2 rfl (by decide) _ _ _ rfl (World.ownsRow.alloc HO _) ⟨_, 0, none⟩ 1 1 [.int .u32 ((q + (x + y)) % 4294967296)] rfl rfl (one_at _ _ _) (by intro u hu; simp at hu; subst hu; rfl) (by unfold maxLen; omega) (by omega) (by simp; omega) ?_; intro v' w5 hown' hgrow _) | go_in)
   obtain ⟨hO2, hB2⟩ := hO.step hB (by omega) (by omega) hown' hgrow
   clear hown' hgrow hO hB HO hsz
   go_wp2
   go_roundw
   case rel => exact ⟨zs.length + 1, (q + (x + y)) / 4294967296, zs ++ [(q + (x + y)) % 4294967296], by omega, by go_num, by go_num, by omega, by omega, hO2, by simp, plus_step rfl HV.out Hx.out Hy.out, hB2⟩
   case measure => simp [intOf]; omega
  ·have hkl : zs.length = L := by omega
   have hqm : q % 4294967296 = q := by omega
   go_wp2_with (first | (at_builtin; refine wpList_append_own _ rfl _ _ 27 rfl w.heap.size 82 i0 (.int .u32 0) 1 4 Try.underlying27 hi hz0 hz1 hz2 rfl (by decide) _ _ _ rfl (World.ownsRow.alloc HO _) ⟨_, 0, none⟩ 1 1 [.int .u32 (q)] rfl rfl (one_at _ _ _) (by intro u hu; simp at hu; subst hu; rfl) (by unfold maxLen; omega) (by omega) (by simp; omega) ?_; intro v' w5 hown' hgrow _) | go_in)
   obtain ⟨hO2, hB2⟩ := hO.step hB hq0 (by omega) hown' hgrow
   clear hown' hgrow hO hB HO hsz
   obtain ⟨ao2, c2, rfl, hS2⟩ := hO2.sl
   go_wp2
   go_ret
   refine ⟨_, _, _, _, rfl, hS2, by have := HL.out; simp; omega, ?_, hB2⟩
   have h1 := HV.out
   rw [val_take_all xs (by rw [hX.len]; have := HL.out; omega), val_take_all ys (by rw [hY.len]; have := HL.out; omega)] at h1
   rw [val_snoc]
   exact h1

theorem minus_step {k : Nat} {zs xs ys : List Int} {q x y : Int} (hk : zs.length = k) (h : val zs = val (xs.take k) - val (ys.take k) + pw k * q) (hx : xs.getD k 0 = x) (hy : ys.getD k 0 = y) :
  val (zs ++ [(4294967296 + x - y - q) % 4294967296]) = val (xs.take (k + 1)) - val (ys.take (k + 1)) + pw (k + 1) * (1 - (4294967296 + x - y - q) / 4294967296) := by
 rw [val_snoc, hk, val_take_succ, val_take_succ, hx, hy]
 have h1 := pw_split k (4294967296 + x - y - q)
 have h2 : pw k * (4294967296 + x - y - q) = pw (k + 1) + pw k * x - pw k * y - pw k * q := by
  rw [pw_succ, Int.mul_sub, Int.mul_sub, Int.mul_add]
 rw [Int.mul_sub, Int.mul_one]
 omega

set_option maxRecDepth 20000 in
set_option maxHeartbeats 1000000 in
theorem minus_any (w : World) (ax ay : Option Addr) (n m cx cy : Nat) (xs ys : List Int) (hX : Sl w ax n cx xs) (hY : Sl w ay m cy ys) (hcy : Canon ys) (hle : val ys ≤ val xs) (hb1 : n ≤ 2000000) (hb2 : m ≤ 2000000) :
  Calls Try.prog 51 #[.slice ax n cx, .slice ay m cy] w fun e w' => ∃ ao c zs, e = .returned (.slice ao n c) ∧ Sl w' ao n c zs ∧ val zs = val xs - val ys ∧ Below w.heap.size w w' := by
 obtain ⟨i0, hi, hz0, hz1, hz2⟩ := info_parts info_word
 have HCY := hidd hcy
 have HLE := hidd hle
 clear hcy hle
 go_enter Try.func51, Try.ntmps51
 go_wp2
 go_loopw [5, 6, 7] (fun vo vc vi wr => ∃ (k : Nat) (q : Int) (zs : List Int), k ≤ n ∧ vi = .int .i64 k ∧ vc = .int .u64 q ∧ 0 ≤ q ∧ q ≤ 1 ∧ Ow wr w.heap.size vo zs ∧ zs.length = k ∧ val zs = val (xs.take k) - val (ys.take k) + pw k * q ∧ Below w.heap.size w wr) (fun _ _ vi _ => n - (intOf vi).toNat)
 case atStart => exact ⟨0, 0, [], Nat.zero_le _, rfl, rfl, by omega, by omega, Ow.start w, rfl, by simp [val], alloc_below _ _⟩
 case round =>
  obtain ⟨k, q, zs, hk, rfl, rfl, hq0, hq1, hO, hzl, hv, hB⟩ := hrel
  subst hzl
  have HV := hidd hv
  clear hv
  obtain ⟨ao, cap, rfl⟩ := hO.shape
  have HO := hO.1
  have hsz := hB.size
  by_cases hkL : zs.length < n
  ·obtain ⟨x, hx⟩ : ∃ x, xs.getD zs.length 0 = x := ⟨_, rfl⟩
   obtain ⟨y, hy⟩ : ∃ y, ys.getD zs.length 0 = y := ⟨_, rfl⟩
   have hxd := hX.digs.getD zs.length
   have hyd := hY.digs.getD zs.length
   rw [hx] at hxd
   rw [hy] at hyd
   have Hx := hidd hx
   have Hy := hidd hy
   clear hx hy
   go_wp2_with fail
   refine (word_any _ _ _ _ _ (hX.mono hB) (by omega) zs.length (by omega) x Hx.out).mono ?_
   rintro e w' ⟨rfl, rfl⟩
   go_wp2_with fail
   refine (word_any _ _ _ _ _ (hY.mono hB) (by omega) zs.length (by omega) y Hy.out).mono ?_
   rintro e w' ⟨rfl, rfl⟩
   go_wp2_with (first | (at_builtin; refine wpList_append_own _ rfl _ _ 27 rfl w.heap.size 82 i0 (.int .u32 0) 1 4 Try.underlying27 hi hz0 hz1 hz2 rfl (by decide) _ _ _ rfl (World.ownsRow.alloc HO _) ⟨_, 0, none⟩ 1 1 [.int .u32 ((4294967296 + x - y - q) % 4294967296)] rfl rfl (one_at _ _ _) (by intro u hu; simp at hu; subst hu; rfl) (by unfold maxLen; omega) (by omega) (by simp; omega) ?_; intro v' w5 hown' hgrow _) | go_in)
   obtain ⟨hO2, hB2⟩ := hO.step hB (by omega) (by omega) hown' hgrow
   clear hown' hgrow hO hB HO hsz
   go_wp2
   go_roundw
   case rel => exact ⟨zs.length + 1, 1 - (4294967296 + x - y - q) / 4294967296, zs ++ [(4294967296 + x - y - q) % 4294967296], by omega, by go_num, by go_num, by omega, by omega, hO2, by simp, minus_step rfl HV.out Hx.out Hy.out, hB2⟩
   case measure => simp [intOf]; omega
  ·have hkl : zs.length = n := by omega
   obtain ⟨ao2, c2, he, hS2⟩ := hO.sl
   cases he
   rw [hkl] at hS2
   have HE : Hid (val zs = val xs - val ys) := by
    have h1 := HV.out
    have h2 := val_nonneg hX.digs
    have h3 := val_lt hX.digs
    rw [hX.len] at h3
    have h4 := HCY.out.length_le (Int.lt_of_le_of_lt HLE.out h3)
    rw [hkl, val_take_all xs (by rw [hX.len]; omega), val_take_all ys h4] at h1
    have h5 := val_lt hS2.digs
    rw [hS2.len] at h5
    have h6 := HLE.out
    show val zs = _
    rcases (by omega : q = 0 ∨ q = 1) with rfl | rfl
    ·omega
    ·omega
   clear hO HO
   go_wp2
   go_ret
   exact ⟨ao, cap, zs, by show Ending.returned (.slice ao zs.length cap) = _; rw [hkl], hS2, HE.out, hB⟩

end Go.Proofs.Ytihhlaagndingaa

namespace Go.Proofs.Ytihhlaagndingaa
open Go Go.RowKit

def Mine (w : World) (b n : Nat) (zs : List Int) : Prop :=
 ∃ cur : Array Value, w.heap[b]? = some (.cells cur 82 (0, 0)) ∧ zs.length = n ∧ Digs zs ∧ n ≤ cur.size ∧ ∀ j, j < n → cur[j]? = some (.int .u32 (zs.getD j 0))

theorem Mine.lt {w : World} {b n : Nat} {zs : List Int} (h : Mine w b n zs) : b < w.heap.size := by
 obtain ⟨cur, h1, _⟩ := h
 exact (Array.getElem?_eq_some_iff.1 h1).1
theorem Mine.len {w : World} {b n : Nat} {zs : List Int} (h : Mine w b n zs) : zs.length = n := by
 obtain ⟨cur, _, h1, _⟩ := h
 exact h1
theorem Mine.digs {w : World} {b n : Nat} {zs : List Int} (h : Mine w b n zs) : Digs zs := by
 obtain ⟨cur, _, _, h1, _⟩ := h
 exact h1
theorem Mine.cell {w : World} {b n : Nat} {zs : List Int} (h : Mine w b n zs) {j : Nat} (hj : j < n) : w.cell? ⟨b, j, none⟩ = some (.int .u32 (zs.getD j 0)) := by
 obtain ⟨cur, h1, h2, h3, h4, h5⟩ := h
 rw [cell_of_row w b j _ _ (0, 0) h1]
 exact h5 j hj
theorem Mine.frozen {w : World} {b n : Nat} {zs : List Int} (h : Mine w b n zs) (j : Nat) : w.frozen? ⟨b, j, none⟩ = false := by
 obtain ⟨cur, h1, _⟩ := h
 simp [World.frozen?, h1]
theorem Mine.mono {w w' : World} {b n : Nat} {zs : List Int} (h : Mine w b n zs) {B : Nat} (hb : Below B w w') (hB : b < B) : Mine w' b n zs := by
 obtain ⟨cur, h1, h2⟩ := h
 exact ⟨cur, by rw [hb.block b hB]; exact h1, h2⟩
theorem Mine.drewN {w : World} {b n : Nat} {zs : List Int} (h : Mine w b n zs) (d : Nat) : Mine (w.drewN d) b n zs := h
theorem Mine.set {w : World} {b n : Nat} {zs : List Int} (h : Mine w b n zs) {j : Nat} (hj : j < n) {x : Int} (hx0 : 0 ≤ x) (hx1 : x < 4294967296) : Mine (w.setCell ⟨b, j, none⟩ (.int .u32 x)) b n (zs.set j x) := by
 obtain ⟨cur, h1, h2, h3, h4, h5⟩ := h
 refine ⟨cur.setIfInBounds j (.int .u32 x), ?_, by rw [List.length_set]; exact h2, h3.set j ⟨hx0, hx1⟩, by simpa using h4, fun k hk => ?_⟩
 ·simp only [World.setCell, Array.getElem?_modify, if_true, h1, Option.map_some, Option.isSome_none]
  simp
 ·by_cases hjk : j = k
  ·subst hjk
   rw [getD_set _ _ _ (by omega), Array.getElem?_setIfInBounds_self_of_lt (by omega)]
  ·rw [getD_set_ne _ _ _ _ hjk]
   rw [Array.getElem?_setIfInBounds_ne hjk]
   exact h5 k hk
theorem Mine.sl {w : World} {b n : Nat} {zs : List Int} (h : Mine w b n zs) {c : Nat} (hc : n ≤ c) : Sl w (some ⟨b, 0, none⟩) n c zs :=
 ⟨h.len, hc, h.digs, .inr ⟨b, 0, rfl, h.lt, fun j hj => by rw [Nat.zero_add]; exact h.cell (by have := h.len; omega)⟩⟩
theorem Mine.other {w : World} {b n : Nat} {zs : List Int} (h : Mine w b n zs) {w' : World} {b' : Nat} (hg : w.grownBy w' (some b')) (hne : b ≠ b') : Mine w' b n zs := by
 have hl := h.lt
 obtain ⟨cur, h1, h2⟩ := h
 exact ⟨cur, by rw [hg.block b hl (by simpa using hne)]; exact h1, h2⟩
theorem Row.mine {w : World} {b : Nat} {zs : List Int} (h : Row w 82 b zs) : Mine w b zs.length zs :=
 ⟨_, h.2, rfl, h.1, by simp, fun j hj => by simp [hj]⟩
theorem Ow.mine {w : World} {B b n c : Nat} {zs : List Int} (h : Ow w B (.slice (some ⟨b, 0, none⟩) n c) zs) : Mine w b n zs ∧ B ≤ b ∧ n ≤ c := by
 obtain ⟨⟨h1, h2⟩, h3⟩ := h
 rcases h2 with ⟨h4, _⟩ | ⟨g, cap, cur, h4, h5, h6, h7, h8, h9, h10⟩
 ·cases h4
 ·cases h4
  refine ⟨⟨cur, h6, rfl, h3, by omega, fun j hj => ?_⟩, h5, h7⟩
  have e : (cur.toList.take (zs.length * 1))[j]? = (zs.map (Value.int .u32))[j]? := by rw [h10]
  rw [List.getElem?_take_of_lt (by omega)] at e
  simp at e
  rw [e]
  simp [hj]
theorem Row.ow {w : World} {B b : Nat} {zs : List Int} (h : Row w 82 b zs) (hB : B ≤ b) (hn : zs.length ≤ maxLen) : Ow w B (.slice (some ⟨b, 0, none⟩) zs.length zs.length) zs :=
 ⟨⟨by simp, .inr ⟨b, zs.length, _, rfl, hB, h.2, Nat.le_refl _, hn, by simp, by rw [Nat.mul_one]; exact List.take_of_length_le (by simp)⟩⟩, h.1⟩

set_option maxRecDepth 20000 in
set_option maxHeartbeats 1000000 in
theorem rBits_any (w : World) (na : Bool) (ax : Option Addr) (n c : Nat) (xs : List Int) (hX : Sl w ax n c xs) (hc : Canon xs) (hb : n ≤ 4000000) :
  Calls Try.prog 92 #[.agg #[.bool na, .slice ax n c]] w fun e w' => ∃ m : Nat, e = .returned (.int .i64 m) ∧ IsBits (val xs) m ∧ m ≤ 32 * n ∧ Below w.heap.size w w' := by
 have hn := hidd hX.len
 obtain ⟨w0, hw0, hA, hbl0, HS⟩ := boxes1 w (.bool na) (.slice ax n c) 29
 by_cases h0 : n = 0
 ·obtain rfl := h0
  have e : xs = [] := List.eq_nil_of_length_eq_zero hn.out
  clear hA hw0
  go_enter Try.func92, Try.ntmps92
  go_wp2
  go_ret
  exact ⟨0, rfl, .inl ⟨by subst e; rfl, rfl⟩, by omega, alloc_below _ _⟩
 ·have h1 : ((n : Int) == 0) = false := by simp; omega
  have hx := (hX.mono hbl0).cells
  obtain ⟨b, off, rfl, hbl, x, hxc, hx0, hx1, HX⟩ := hx.at (k := n - 1) (by rw [hn.out]; omega)
  have hxp : 0 < x := by
   rcases hc.2 with h | h
   ·have := hn.out; omega
   ·rcases (by omega : x = 0 ∨ 0 < x) with h2 | h2
    ·exfalso
     have e := val_take_succ xs (n - 1)
     rw [show n - 1 + 1 = n from by omega, HX.out, h2, val_take_all xs (by rw [hn.out]; omega)] at e
     have l1 := val_lt (hX.take (show n - 1 ≤ n by omega)).digs
     rw [(hX.take (show n - 1 ≤ n by omega)).len] at l1
     rw [hn.out] at h
     omega
    ·exact h2
  obtain ⟨ca0, ca1, _, _⟩ := hA
  go_enter Try.func92, Try.ntmps92
  go_upto_region 1 with (fail)
  rw [← hw0]
  clear hw0
  go_wp2
  go_loop [3, 4] (fun i u => ∃ (k : Nat) (q : Int), k ≤ 32 ∧ 0 ≤ q ∧ q < 4294967296 ∧ i = .int .i64 (32 * ((n : Int) - 1) + k) ∧ u = .int .u32 q ∧ q * 2 ^ k ≤ x ∧ x < (q + 1) * 2 ^ k ∧ (k = 0 ∨ 2 ^ (k - 1) ≤ x)) (fun _ u => (intOf u).toNat)
  case atStart => exact ⟨0, x, by omega, hx0, hx1, by simp, rfl, by simp, by simp; omega, .inl rfl⟩
  case round =>
   obtain ⟨k, q, hk, hq0, hq1, rfl, rfl, hv⟩ := hrel
   have HV := hidd hv
   clear hv
   by_cases hq : 0 < q
   ·go_wp2
    go_round
    case rel =>
     obtain ⟨v1, v2, _⟩ := HV.out
     have hp := pow_two_pos k
     have h5 : (2 : Int) ^ k ≤ x := by
      have := Int.mul_le_mul_of_nonneg_right (show 1 ≤ q by omega) (Int.le_of_lt hp)
      omega
     have hk2 : k < 32 := by
      rcases Nat.lt_or_ge k 32 with h | h
      ·exact h
      ·have : k = 32 := by omega
       subst this; simp at h5; omega
     refine ⟨k + 1, q / 2, by omega, by omega, by omega, by rw [show ((k + 1 : Nat) : Int) = (k : Int) + 1 from rfl]; congr 1; omega, rfl, ?_, ?_, .inr h5⟩
     ·rw [pow_two_succ]
      have : q / 2 * (2 ^ k * 2) = (q / 2 * 2) * 2 ^ k := by rw [Int.mul_comm (2 ^ k), Int.mul_assoc]
      have h6 := Int.mul_le_mul_of_nonneg_right (show q / 2 * 2 ≤ q by omega) (Int.le_of_lt hp)
      omega
     ·rw [pow_two_succ]
      have : (q / 2 + 1) * (2 ^ k * 2) = ((q / 2 + 1) * 2) * 2 ^ k := by rw [Int.mul_comm (2 ^ k), Int.mul_assoc]
      have h6 := Int.mul_le_mul_of_nonneg_right (show q + 1 ≤ (q / 2 + 1) * 2 by omega) (Int.le_of_lt hp)
      omega
    case measure => simp [intOf]; omega
   ·go_wp2
    go_ret
    obtain ⟨v1, v2, v3⟩ := HV.out
    refine ⟨32 * (n - 1) + k, ?_, bits_end hX.digs hn.out (by omega) HX.out hxp hx1 (by omega) v1 v2 v3, by omega, hbl0⟩
    have : ((32 * (n - 1) + k : Nat) : Int) = 32 * ((n : Int) - 1) + k := by omega
    rw [this]; rfl

def prevW (xs : List Int) (i : Nat) : Int := if i = 0 then 0 else xs.getD (i - 1) 0

theorem word_prev (w : World) (ax : Option Addr) (n c : Nat) (xs : List Int) (hX : Sl w ax n c xs) (hb : n ≤ 4000000) (i : Nat) (hi : i ≤ 9000000) (y : Int) (hy : prevW xs i = y) (j : Int) (hj : j = (i : Int) - 1) :
  Calls Try.prog 54 #[.slice ax n c, .int .i64 j] w fun e w' => e = .returned (.int .u64 y) ∧ w = w' := by
 unfold prevW at hy
 subst hj
 by_cases h : i = 0
 ·subst h
  rw [if_pos rfl] at hy
  subst hy
  exact word_before w ax n c _ (by omega) (by omega)
 ·rw [if_neg h] at hy
  rw [show (i : Int) - 1 = ((i - 1 : Nat) : Int) by omega]
  exact word_any w ax n c xs hX hb (i - 1) (by omega) y hy

theorem left_step {m : Nat} {zs xs : List Int} {i wd : Nat} {p x c : Int} (hm : zs.length = i + wd) (h : val zs + pw (i + wd) * c = val (xs.take i) * p * pw wd) (hx : xs.getD i 0 = x) (hd : m = i + wd + 1) :
  val (zs ++ [x * p % 4294967296 + c]) + pw m * (x * p / 4294967296) = val (xs.take (i + 1)) * p * pw wd := by
 subst hd
 rw [val_snoc, hm, val_take_succ, hx, Int.add_mul, Int.add_mul, ← h]
 have h1 := pw_split (i + wd) (x * p)
 have h2 : pw i * x * p * pw wd = pw (i + wd) * (x * p) := by rw [pw_add]; ac_rfl
 rw [Int.mul_add]
 omega

theorem add_mod {T cc P : Int} (h1 : T % 4294967296 % P = 0) (h2 : (4294967296 : Int) % P = 0) (_ : 0 < P) (hc0 : 0 ≤ cc) (hc : cc < P) : (T + cc) % 4294967296 = T % 4294967296 + cc := by
 have h4 : (4294967296 - T % 4294967296) % P = 0 := by rw [Int.sub_emod, h1, h2]; simp
 have h5 : 0 < 4294967296 - T % 4294967296 := by omega
 have h6 := Int.le_of_dvd h5 (Int.dvd_of_emod_eq_zero h4)
 omega

set_option maxRecDepth 20000 in
set_option maxHeartbeats 1000000 in
theorem left_any (w : World) (ax : Option Addr) (n c : Nat) (xs : List Int) (hX : Sl w ax n c xs) (hb : n ≤ 1000000) (s : Nat) (hs : s ≤ 100000000) :
  Calls Try.prog 93 #[.slice ax n c, .int .i64 s] w fun e w' => ∃ g l cap zs, e = .returned (.slice (some ⟨g, 0, none⟩) l cap) ∧ w.heap.size ≤ g ∧ Mine w' g l zs ∧ l ≤ cap ∧ l = s / 32 + n + 1 ∧ val zs = val xs * 2 ^ s ∧ Below w.heap.size w w' := by
 obtain ⟨i0, hi, hz0, hz1, hz2⟩ := info_parts info_word
 have hn := hidd hX.len
 have hrs : s % 32 < 32 := Nat.mod_lt _ (by decide)
 obtain ⟨hp0, hp1⟩ := two_le _ hrs
 go_enter Try.func93, Try.ntmps93
 go_wp2_with (at_make; refine wpList_make_words _ rfl _ _ 27 rfl 82 Try.underlying27 (by kernel_rfl) _ _ _ _ rfl rfl (s / 32) (by omega) (by omega) (by omega) ?_; intro w1 hrow hb1 hs1)
 go_loopw [5, 7] (fun vo vi wr => ∃ (i : Nat) (zs : List Int), i ≤ n + 1 ∧ vi = .int .i64 i ∧ Ow wr w.heap.size vo zs ∧ zs.length = i + s / 32 ∧ val zs + pw (i + s / 32) * (prevW xs i * 2 ^ (s % 32) / 4294967296) = val (xs.take i) * 2 ^ (s % 32) * pw (s / 32) ∧ Below w.heap.size w wr) (fun _ vi _ => n + 1 - (intOf vi).toNat)
 case atStart =>
  have ho := hrow.ow (Nat.le_refl _) (by rw [List.length_replicate]; unfold maxLen; omega)
  rw [List.length_replicate] at ho
  exact ⟨0, _, by omega, rfl, ho, by simp, by rw [val_replicate]; simp [prevW, val], hb1⟩
 case round =>
  obtain ⟨i, zs, hk, rfl, hO, hzl, hv, hB⟩ := hrel
  have HV := hidd hv
  clear hv hrow hb1 hs1
  obtain ⟨ao, cap, rfl⟩ := hO.shape
  have HO := hO.1
  have hsz := hB.size
  have HZL := hidd hzl
  have hzb : zs.length ≤ 10000000 := by omega
  clear hzl
  by_cases hin : i ≤ n
  ·obtain ⟨x, hx⟩ : ∃ x, xs.getD i 0 = x := ⟨_, rfl⟩
   obtain ⟨y, hy⟩ : ∃ y, prevW xs i = y := ⟨_, rfl⟩
   have hxd := hX.digs.getD i
   rw [hx] at hxd
   obtain ⟨hx0, hx1⟩ := hxd
   have hyd : 0 ≤ y ∧ y < 4294967296 := by
    rw [← hy]; unfold prevW; split
    ·omega
    ·exact hX.digs.getD _
   obtain ⟨hy0, hy1⟩ := hyd
   have Hx := hidd hx
   have Hy := hidd hy
   clear hx hy
   have hxp0 : 0 ≤ x * 2 ^ (s % 32) := Int.mul_nonneg hx0 (by omega)
   have hxp2 : x * 2 ^ (s % 32) ≤ 4294967295 * 2 ^ (s % 32) := Int.mul_le_mul_of_nonneg_right (by omega) (by omega)
   have hxp1 : x * 2 ^ (s % 32) ≤ 9223372036854775807 := by omega
   have hyp0 : 0 ≤ y * 2 ^ (s % 32) := Int.mul_nonneg hy0 (by omega)
   have hyp2 : y * 2 ^ (s % 32) ≤ 4294967295 * 2 ^ (s % 32) := Int.mul_le_mul_of_nonneg_right (by omega) (by omega)
   have hyp1 : y * 2 ^ (s % 32) ≤ 9223372036854775807 := by omega
   have hc0 : y * 2 ^ (s % 32) / 4294967296 < 2 ^ (s % 32) := Int.ediv_lt_of_lt_mul (by decide) (by omega)
   obtain ⟨u, hor⟩ : ∃ u, bits .or .u64 (x * 2 ^ (s % 32)) (y * 2 ^ (s % 32) / 4294967296) = u := ⟨_, rfl⟩
   have hu : u = x * 2 ^ (s % 32) + y * 2 ^ (s % 32) / 4294967296 := by
    rw [← hor]
    exact (or_u64 (s % 32) _ _ hxp0 (by omega) (by omega) (by omega) hc0 (Int.mul_emod_left _ _)).1
   have hu0 : 0 ≤ u := by omega
   have hu1 : u < 18446744073709551616 := by omega
   have HD : Hid (u % 4294967296 = x * 2 ^ (s % 32) % 4294967296 + y * 2 ^ (s % 32) / 4294967296) := by
    have h1 := mul_pow_dvd x (s % 32) (by omega)
    have h2 : (4294967296 : Int) % 2 ^ (s % 32) = 0 := by
     have e : (4294967296 : Int) = 2 ^ (s % 32) * 2 ^ (32 - s % 32) := by rw [← Int.pow_add, show s % 32 + (32 - s % 32) = 32 from by omega]; rfl
     rw [e]; exact Int.mul_emod_right _ _
    show u % 4294967296 = _
    rw [hu]
    exact add_mod h1 h2 (by omega) (by omega) hc0
   clear hu
   go_wp2_with fail
   refine (word_any _ _ _ _ _ (hX.mono hB) (by omega) i (by omega) x Hx.out).mono ?_
   rintro e w' ⟨rfl, rfl⟩
   go_wp2_with fail
   refine (word_prev _ _ _ _ _ (hX.mono hB) (by omega) i (by omega) y Hy.out _ (by omega)).mono ?_
   rintro e w' ⟨rfl, rfl⟩
   go_wp2_with (first | (at_builtin; refine wpList_append_own _ rfl _ _ 27 rfl w.heap.size 82 i0 (.int .u32 0) 1 4 Try.underlying27 hi hz0 hz1 hz2 rfl (by decide) _ _ _ rfl (World.ownsRow.alloc HO _) ⟨_, 0, none⟩ 1 1 [.int .u32 (u % 4294967296)] rfl rfl (one_at _ _ _) (by intro u hu; simp at hu; subst hu; rfl) (by unfold maxLen; omega) (by omega) (by simp; omega) ?_; intro v' w5 hown' hgrow _) | go_in)
   obtain ⟨hO2, hB2⟩ := hO.step hB (by omega) (by omega) hown' hgrow
   clear hown' hgrow hO hB HO hsz
   go_wp2
   go_roundw
   case rel =>
    refine ⟨i + 1, zs ++ [u % 4294967296], by omega, by go_num, hO2, by rw [List.length_append, HZL.out]; simp; omega, ?_, hB2⟩
    have h1 := HV.out
    rw [Hy.out] at h1
    have h2 : prevW xs (i + 1) = x := by unfold prevW; rw [if_neg (by omega)]; exact Hx.out
    rw [h2, HD.out]
    exact left_step HZL.out h1 Hx.out (by omega)
   case measure => simp [intOf]; omega
  ·obtain rfl : i = n + 1 := by omega
   have HE : Hid (val zs = val xs * 2 ^ s) := by
    have h1 := HV.out
    have h2 : prevW xs (n + 1) = 0 := by unfold prevW; rw [if_neg (by omega)]; exact getD_out (by rw [hn.out]; omega)
    rw [h2, Int.zero_mul, Int.zero_ediv, Int.mul_zero, Int.add_zero, val_take_all xs (by rw [hn.out]; omega)] at h1
    show val zs = _
    rw [h1, pw_two, Int.mul_assoc, ← Int.pow_add]
    congr 2
    omega
   have hl2 : 0 < zs.length := by have := HZL.out; omega
   obtain ⟨g, rfl⟩ : ∃ g, ao = some ⟨g, 0, none⟩ := by
    rcases hO.1.2 with ⟨_, h0⟩ | ⟨g, cap', cur, h1, _⟩
    ·omega
    ·cases h1; exact ⟨g, rfl⟩
   obtain ⟨hM, hgB, hcap⟩ := hO.mine
   clear hO HO
   go_wp2
   go_ret
   exact ⟨g, zs.length, cap, zs, rfl, hgB, hM, hcap, by have := HZL.out; omega, HE.out, hB⟩

end Go.Proofs.Ytihhlaagndingaa

namespace Go.Proofs.Ytihhlaagndingaa
open Go Go.RowKit

theorem val_drop_any (xs : List Int) (k : Nat) : val (xs.drop k) = xs.getD k 0 + 4294967296 * val (xs.drop (k + 1)) := by
 by_cases h : k < xs.length
 ·exact val_drop_step xs h
 ·rw [List.drop_of_length_le (by omega), List.drop_of_length_le (by omega), getD_out (by omega)]; rfl

theorem val_split_any (xs : List Int) (k : Nat) : val xs = val (xs.take k) + pw k * val (xs.drop k) := by
 by_cases h : k ≤ xs.length
 ·exact val_split xs h
 ·rw [List.take_of_length_le (by omega), List.drop_of_length_le (by omega)]
  show _ = _ + _ * 0
  rw [Int.mul_zero, Int.add_zero]

theorem val_take_lt {xs : List Int} (h : Digs xs) (k : Nat) : val (xs.take k) < pw k := by
 have h1 := val_lt (h.take k)
 have h2 := pw_le (show (xs.take k).length ≤ k by rw [List.length_take]; omega)
 omega

theorem lt_at {xs ys : List Int} {k : Nat} (hx : Digs xs) (h : val (xs.drop (k + 1)) = val (ys.drop (k + 1))) (hlt : xs.getD k 0 < ys.getD k 0) (hy : Digs ys) : val xs < val ys := by
 have e1 := val_split_any xs k
 have e2 := val_split_any ys k
 have d1 := val_drop_any xs k
 have d2 := val_drop_any ys k
 have h1 := val_take_lt hx k
 have h2 := val_nonneg (hy.take k)
 have h3 := Int.mul_le_mul_of_nonneg_left (show val (xs.drop k) + 1 ≤ val (ys.drop k) by omega) (Int.le_of_lt (pw_pos k))
 rw [Int.mul_add, Int.mul_one] at h3
 omega

theorem word_at (w : World) (ax : Option Addr) (n c : Nat) (xs : List Int) (hX : Sl w ax n c xs) (hb : n ≤ 4000000) (i : Nat) (hi : i ≤ 9000000) (y : Int) (hy : xs.getD i 0 = y) (j : Int) (hj : j = (i : Int)) :
  Calls Try.prog 54 #[.slice ax n c, .int .i64 j] w fun e w' => e = .returned (.int .u64 y) ∧ w = w' := by
 subst hj
 exact word_any w ax n c xs hX hb i hi y hy

theorem word_same (w : World) (ax : Option Addr) (n c : Nat) (xs : List Int) (hX : Sl w ax n c xs) (hb : n ≤ 4000000) (i : Nat) (hi : i ≤ 9000000) (y : Int) (hy : xs.getD i 0 = y) :
  Calls Try.prog 54 #[.slice ax n c, .int .i64 i] w fun e w' => e = .returned (.int .u64 y) ∧ w' = w :=
 (word_any w ax n c xs hX hb i hi y hy).mono fun _ _ h => ⟨h.1, h.2.symm⟩

set_option maxRecDepth 20000 in
set_option maxHeartbeats 1000000 in
theorem reaches_any (w : World) (ax ay : Option Addr) (n m cx cy : Nat) (xs ys : List Int) (hX : Sl w ax n cx xs) (hY : Sl w ay m cy ys) (hb1 : n ≤ 4000000) (hb2 : m ≤ 4000000) :
  Calls Try.prog 94 #[.slice ax n cx, .slice ay m cy] w fun e w' => e = .returned (.bool (decide (val ys ≤ val xs))) ∧ w = w' := by
 obtain ⟨L, hL⟩ : ∃ L : Nat, L = max n m := ⟨_, rfl⟩
 have hL2 : (if n < m then (m : Int) else (n : Int)) = (L : Int) := by split <;> omega
 have hLb : L ≤ 4000000 := by omega
 have HL := hidd hL
 clear hL
 go_enter Try.func94, Try.ntmps94
 go_wp2
 go_loop [5] (fun vi => ∃ k : Nat, k ≤ L ∧ vi = .int .i64 ((k : Int) - 1) ∧ val (xs.drop k) = val (ys.drop k)) (fun vi => (intOf vi + 1).toNat)
 case atStart => exact ⟨L, Nat.le_refl _, rfl, by rw [List.drop_of_length_le (by rw [hX.len]; have := HL.out; omega), List.drop_of_length_le (by rw [hY.len]; have := HL.out; omega)]⟩
 case round =>
  obtain ⟨k, hk, rfl, hv⟩ := hrel
  have HV := hidd hv
  clear hv
  by_cases h0 : 0 < k
  ·obtain ⟨j, rfl⟩ : ∃ j, k = j + 1 := ⟨k - 1, by omega⟩
   obtain ⟨x, hx⟩ : ∃ x, xs.getD j 0 = x := ⟨_, rfl⟩
   obtain ⟨y, hy⟩ : ∃ y, ys.getD j 0 = y := ⟨_, rfl⟩
   have Hx := hidd hx
   have Hy := hidd hy
   clear hx hy
   have hj1 : ((j + 1 : Nat) : Int) - 1 = (j : Int) := by omega
   by_cases he : x = y
   ·have he2 : (x != y) = false := by simp [he]
    have HE := hidd he
    clear he
    go_wp2_with fail
    refine (word_at _ _ _ _ _ hX (by omega) j (by omega) x Hx.out _ (by omega)).mono ?_
    rintro e w' ⟨rfl, rfl⟩
    go_wp2_with fail
    refine (word_at _ _ _ _ _ hY (by omega) j (by omega) y Hy.out _ (by omega)).mono ?_
    rintro e w' ⟨rfl, rfl⟩
    go_wp2
    go_round
    case rel =>
     refine ⟨j, by omega, by go_num, ?_⟩
     rw [val_drop_any xs j, val_drop_any ys j, HV.out, Hx.out, Hy.out, HE.out]
    case measure => simp [intOf]
   ·have he2 : (x != y) = true := by simp [he]
    have HR : Hid (decide (x > y) = decide (val ys ≤ val xs)) := by
     rcases Int.lt_or_gt_of_ne he with h | h
     ·have h2 := lt_at hX.digs HV.out (by rw [Hx.out, Hy.out]; exact h) hY.digs
      show _ = _
      rw [decide_eq_false (show ¬ x > y by omega), decide_eq_false (show ¬ val ys ≤ val xs by omega)]
     ·have h2 := lt_at hY.digs HV.out.symm (by rw [Hx.out, Hy.out]; exact h) hX.digs
      show _ = _
      rw [decide_eq_true (show x > y by omega), decide_eq_true (show val ys ≤ val xs by omega)]
    clear he
    go_wp2_with fail
    refine (word_at _ _ _ _ _ hX (by omega) j (by omega) x Hx.out _ (by omega)).mono ?_
    rintro e w' ⟨rfl, rfl⟩
    go_wp2_with fail
    refine (word_at _ _ _ _ _ hY (by omega) j (by omega) y Hy.out _ (by omega)).mono ?_
    rintro e w' ⟨rfl, rfl⟩
    go_wp2_with fail
    refine (word_at _ _ _ _ _ hX (by omega) j (by omega) x Hx.out _ (by omega)).mono ?_
    rintro e w' ⟨rfl, rfl⟩
    go_wp2_with fail
    refine (word_at _ _ _ _ _ hY (by omega) j (by omega) y Hy.out _ (by omega)).mono ?_
    rintro e w' ⟨rfl, rfl⟩
    go_wp2
    go_ret
    exact ⟨by rw [← HR.out]; simp, rfl⟩
  ·obtain rfl : k = 0 := by omega
   have HR : Hid (decide (val ys ≤ val xs) = true) := by
    have := HV.out
    simp only [List.drop_zero] at this
    exact decide_eq_true (by omega)
   go_wp2
   go_ret
   exact ⟨by rw [HR.out]; rfl, rfl⟩

theorem grown_drewN {w wr : World} {b : Option Nat} (h : w.grownBy wr b) (d : Nat) : w.grownBy (wr.drewN d) b := ⟨h.os, h.tape, h.output, h.size, h.block⟩

theorem grown_set {w wr : World} {b : Nat} (h : w.grownBy wr (some b)) (j : Nat) (u : Value) : w.grownBy (wr.setCell ⟨b, j, none⟩ u) (some b) := grownBy_trans h (grownBy_set _ _ _ _)

theorem half_dig {x y : Int} (hx0 : 0 ≤ x) (hx1 : x < 4294967296) (hy0 : 0 ≤ y) (hy1 : y < 4294967296) :
  ∃ u, bits .or .u64 (x / 2) (y * 2147483648) = u ∧ 0 ≤ u ∧ u < 18446744073709551616 ∧ Hid (2 * (u % 4294967296) = x - x % 2 + 4294967296 * (y % 2)) := by
 have h := (or_u64 31 (y * 2147483648) (x / 2) (by omega) (by omega) (by omega) (by omega) (by show x / 2 < 2147483648; omega) (by show y * 2147483648 % 2147483648 = 0; omega)).2
 refine ⟨_, h, by omega, by omega, ?_⟩
 show _ = _
 omega

set_option maxRecDepth 20000 in
set_option maxHeartbeats 1000000 in
theorem half_any (w : World) (b n c : Nat) (zs : List Int) (hM : Mine w b n zs) (hc : n ≤ c) (hb1 : n ≤ 4000000) :
  Calls Try.prog 96 #[.slice (some ⟨b, 0, none⟩) n c] w fun e w' => ∃ zs', e = .returned (.tuple #[]) ∧ Mine w' b n zs' ∧ val zs' = val zs / 2 ∧ w.grownBy w' (some b) ∧ w'.heap.size = w.heap.size := by
 have hzl := hidd hM.len
 have hdz := hM.digs
 go_enter Try.func96, Try.ntmps96
 go_wp2
 go_loopw [2] (fun vi wr => ∃ (k : Nat) (us : List Int), k ≤ n ∧ vi = .int .i64 k ∧ Mine wr b n us ∧ us.drop k = zs.drop k ∧ 2 * val (us.take k) = val (zs.take k) - zs.getD 0 0 % 2 + pw k * (zs.getD k 0 % 2) ∧ w.grownBy wr (some b) ∧ wr.heap.size = w.heap.size) (fun vi _ => n - (intOf vi).toNat)
 case atStart => exact ⟨0, zs, Nat.zero_le _, rfl, hM, rfl, by simp [val, pw_zero]; omega, World.grownBy.refl _ _, rfl⟩
 case round =>
  obtain ⟨k, us, hk, rfl, hU, hdr, hv, hg, hsz⟩ := hrel
  have HDR := hidd hdr
  have HV := hidd hv
  have HSZ := hidd hsz
  clear hdr hv hsz
  by_cases hkn : k < n
  ·obtain ⟨x, hx⟩ : ∃ x, us.getD k 0 = x := ⟨_, rfl⟩
   obtain ⟨y, hy⟩ : ∃ y, us.getD (k + 1) 0 = y := ⟨_, rfl⟩
   have hxd := hU.digs.getD k
   have hyd := hU.digs.getD (k + 1)
   rw [hx] at hxd
   rw [hy] at hyd
   have Hx := hidd hx
   have Hy := hidd hy
   clear hx hy
   obtain ⟨u, hor, hu0, hu1, HU⟩ := half_dig hxd.1 hxd.2 hyd.1 hyd.2
   have hfr := hU.frozen k
   have hcell := hU.cell hkn
   go_wp2_with fail
   refine (word_at _ _ _ _ _ (hU.sl hc) (by omega) k (by omega) x Hx.out _ (by omega)).mono ?_
   rintro e w' ⟨rfl, rfl⟩
   go_wp2_with fail
   refine (word_at _ _ _ _ _ (hU.sl hc) (by omega) (k + 1) (by omega) y Hy.out _ (by omega)).mono ?_
   rintro e w' ⟨rfl, rfl⟩
   go_wp2
   go_roundw
   case rel =>
    have hlen := hU.len
    have e1 : zs.getD k 0 = x := by
     have := congrArg (fun l => l.getD 0 0) HDR.out
     simp only [getD_drop, Nat.add_zero] at this
     rw [← this]; exact Hx.out
    have e2 : zs.getD (k + 1) 0 = y := by
     have := congrArg (fun l => l.getD 1 0) HDR.out
     simp only [getD_drop] at this
     rw [← this]; exact Hy.out
    refine ⟨k + 1, us.set k (u % 4294967296), by omega, by go_num, hU.set hkn (by omega) (by omega), ?_, shr_step (by omega) HV.out e1 e2 HU.out, grown_set hg _ _, by rw [World.size_setCell]; exact HSZ.out⟩
    rw [List.drop_set_of_lt (by omega), ← List.drop_drop, HDR.out, List.drop_drop]
   case measure => simp [intOf]; omega
  ·obtain rfl : k = n := by omega
   have HE : Hid (val us = val zs / 2) := by
    have h1 := HV.out
    rw [val_take_all us (by rw [hU.len]; omega), val_take_all zs (by rw [hzl.out]; omega), getD_out (xs := zs) (k := k) (by rw [hzl.out]; omega)] at h1
    have h2 := val_drop_any zs 0
    rw [List.drop_zero] at h2
    show val us = _
    omega
   go_wp2
   (try simp only [Exit.inBlock, Exit.then])
   exact bodyPost_end (results_none rfl _ _ _) rfl ⟨us, rfl, hU, HE.out, hg, HSZ.out⟩

theorem take_step {k : Nat} {us xs ys : List Int} {q x y : Int} (hk : k < us.length) (h : val (us.take k) = val (xs.take k) - val (ys.take k) + pw k * q) (hx : xs.getD k 0 = x) (hy : ys.getD k 0 = y) :
  val ((us.set k ((4294967296 + x - y - q) % 4294967296)).take (k + 1)) = val (xs.take (k + 1)) - val (ys.take (k + 1)) + pw (k + 1) * (1 - (4294967296 + x - y - q) / 4294967296) := by
 rw [val_take_succ, val_take_set _ _ _ _ (Nat.le_refl _), getD_set _ _ _ hk, val_take_succ, val_take_succ, hx, hy]
 have h1 := pw_split k (4294967296 + x - y - q)
 have h2 : pw k * (4294967296 + x - y - q) = pw (k + 1) + pw k * x - pw k * y - pw k * q := by
  rw [pw_succ, Int.mul_sub, Int.mul_sub, Int.mul_add]
 rw [Int.mul_sub, Int.mul_one]
 omega

theorem Sl.other {w w' : World} {ay : Option Addr} {m cy b : Nat} {ys : List Int} (h : Sl w ay m cy ys) (hg : w.grownBy w' (some b)) (hne : ∀ b' o, ay = some ⟨b', o, none⟩ → b' ≠ b) : Sl w' ay m cy ys := by
 refine ⟨h.len, h.cap, h.digs, ?_⟩
 rcases h.cells.2 with h1 | ⟨b', off, h1, h2, h3⟩
 ·exact .inl h1
 ·refine .inr ⟨b', off, h1, Nat.lt_of_lt_of_le h2 hg.size, fun j hj => ?_⟩
  have := hg.block b' h2 (by simpa using hne b' off h1)
  have h4 := h3 j hj
  unfold World.cell? at h4 ⊢
  rw [this]
  exact h4

set_option maxRecDepth 20000 in
set_option maxHeartbeats 1000000 in
theorem take_any (w : World) (b n c : Nat) (zs : List Int) (hM : Mine w b n zs) (hc : n ≤ c) (hb1 : n ≤ 4000000) (ay : Option Addr) (m cy : Nat) (ys : List Int) (hY : Sl w ay m cy ys) (hb2 : m ≤ 4000000) (hne : ∀ b' o, ay = some ⟨b', o, none⟩ → b' ≠ b) (hle : val ys ≤ val zs) :
  Calls Try.prog 95 #[.slice (some ⟨b, 0, none⟩) n c, .slice ay m cy] w fun e w' => ∃ zs', e = .returned (.tuple #[]) ∧ Mine w' b n zs' ∧ val zs' = val zs - val ys ∧ w.grownBy w' (some b) ∧ w'.heap.size = w.heap.size := by
 have hzl := hidd hM.len
 have hdz := hidd hM.digs
 have HLE := hidd hle
 have HNE := hidd hne
 clear hle hne
 go_enter Try.func95, Try.ntmps95
 go_wp2
 go_loopw [4, 5] (fun vc vi wr => ∃ (k : Nat) (q : Int) (us : List Int), k ≤ n ∧ vi = .int .i64 k ∧ vc = .int .u64 q ∧ 0 ≤ q ∧ q ≤ 1 ∧ Mine wr b n us ∧ us.drop k = zs.drop k ∧ val (us.take k) = val (zs.take k) - val (ys.take k) + pw k * q ∧ w.grownBy wr (some b) ∧ wr.heap.size = w.heap.size) (fun _ vi _ => n - (intOf vi).toNat)
 case atStart => exact ⟨0, 0, zs, Nat.zero_le _, rfl, rfl, by omega, by omega, hM, rfl, by simp [val], World.grownBy.refl _ _, rfl⟩
 case round =>
  obtain ⟨k, q, us, hk, rfl, rfl, hq0, hq1, hU, hdr, hv, hg, hsz⟩ := hrel
  have HDR := hidd hdr
  have HV := hidd hv
  have HSZ := hidd hsz
  clear hdr hv hsz
  by_cases hkn : k < n
  ·obtain ⟨x, hx⟩ : ∃ x, us.getD k 0 = x := ⟨_, rfl⟩
   obtain ⟨y, hy⟩ : ∃ y, ys.getD k 0 = y := ⟨_, rfl⟩
   have hxd := hU.digs.getD k
   have hyd := hY.digs.getD k
   rw [hx] at hxd
   rw [hy] at hyd
   obtain ⟨hx0, hx1⟩ := hxd
   obtain ⟨hy0, hy1⟩ := hyd
   have hcell := hU.cell hkn
   rw [hx] at hcell
   have Hx := hidd hx
   have Hy := hidd hy
   clear hx hy
   have hYr := hY.other hg HNE.out
   go_wp2
   go_quiet ((go_at_call 54; exact Calls.quiet_of_same (word_same _ _ _ _ _ (Sl.drewN hYr _) (by omega) k (by omega) y Hy.out)))
   obtain ⟨w2, hw2⟩ : ∃ w2, w2 = wr.drewN nq := ⟨_, rfl⟩
   rw [← hw2]
   have hU2 : Mine w2 b n us := by rw [hw2]; exact hU.drewN _
   have hg2 : w.grownBy w2 (some b) := by rw [hw2]; exact grown_drewN hg _
   have HS2 : Hid (w2.heap.size = w.heap.size) := by show _ = _; rw [hw2]; exact HSZ.out
   clear hw2 hcell hYr hU hg HSZ
   have hfr := hU2.frozen k
   have hcell := hU2.cell hkn
   go_wp2
   go_roundw
   case rel =>
    have hlen := hU2.len
    have e1 : zs.getD k 0 = x := by
     have := congrArg (fun l => l.getD 0 0) HDR.out
     simp only [getD_drop, Nat.add_zero] at this
     rw [← this]; exact Hx.out
    refine ⟨k + 1, 1 - (4294967296 + x - y - q) / 4294967296, us.set k ((4294967296 + x - y - q) % 4294967296), by omega, by go_num, by go_num, by omega, by omega, hU2.set hkn (by omega) (by omega), ?_, take_step (by omega) HV.out e1 Hy.out, grown_set hg2 _ _, by rw [World.size_setCell]; exact HS2.out⟩
    rw [List.drop_set_of_lt (by omega), ← List.drop_drop, HDR.out, List.drop_drop]
   case measure => simp [intOf]; omega
  ·obtain rfl : k = n := by omega
   have HE : Hid (val us = val zs - val ys) := by
    have h1 := HV.out
    rw [val_take_all us (by rw [hU.len]; omega), val_take_all zs (by rw [hzl.out]; omega)] at h1
    have h2 := val_split_any ys k
    have h3 := val_lt hdz.out
    rw [hzl.out] at h3
    have h4 := val_nonneg (hY.digs.drop k)
    have h5 := val_lt hU.digs
    rw [hU.len] at h5
    have h6 := val_nonneg (hY.digs.take k)
    have h7 := val_nonneg hU.digs
    have h8 := HLE.out
    have h9 := pw_pos k
    show val us = _
    have h10 : val (ys.drop k) = 0 := by
     rcases (by omega : val (ys.drop k) = 0 ∨ 1 ≤ val (ys.drop k)) with h | h
     ·exact h
     ·have := Int.mul_le_mul_of_nonneg_left h (Int.le_of_lt h9)
      omega
    rw [h10, Int.mul_zero] at h2
    rcases (by omega : q = 0 ∨ q = 1) with rfl | rfl
    ·omega
    ·omega
   go_wp2
   (try simp only [Exit.inBlock, Exit.then])
   exact bodyPost_end (results_none rfl _ _ _) rfl ⟨us, rfl, hU, HE.out, hg, HSZ.out⟩

end Go.Proofs.Ytihhlaagndingaa
