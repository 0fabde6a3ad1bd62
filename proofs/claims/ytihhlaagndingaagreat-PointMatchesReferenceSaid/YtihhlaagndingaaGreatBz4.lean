/- Ma, Nt, Mb, Mc, Op, Rg, Rm, Me, Oq, Or, Os, Mg, Mh, Mi, Mj, Mk, Pn, Pd, Pe, Pg, Pf, Pk, Ps, Ph, Pi, Pj, Qf, Pq, Qg, Pr, Pt, Pu, Ml, Mm, Mo, Mq, Ms, Mu, Mw, Mx, Na. -/
import Derived.Test.YtihhlaagndingaaGreatBz3
import Derived.WalkSmall
import Derived.Shelf.Spec.TrailingZeros
import Derived.Shelf.Bits.Mul64
import Derived.Lib.BitFns
import Derived.Lib.Walk
import Derived.Lib.Small
import Derived.RangeFuncNested
import Derived.RangeFuncBound
import Derived.RangeFuncCalls
import Derived.RangeFuncLeaves
import Derived.Shelf.Abstract
import Derived.Shelf.RegionOpen
import Derived.WalkKit
import Derived.OwnWalkIn
import Derived.TacticsInMore
import Derived.LoopNIn
import Derived.LoopIn
import Derived.Laws.OwnMore
import Derived.Deep.AppendLies
namespace Go.Proofs.YtihhlaagndingaaGreat
open Go Go.RowKit

theorem Pq.G.made {p : Pq} {B B0 : Nat} {w0 w w' : World} {L : Nat → Bool} {vs : Nat → Value} (h : p.G B B0 w0 L vs w) (hp : p.Ok B B0) {n0 : Nb} (hi : n0 ∈ p.new) {F : Fq} (hk : n0.now (up L n0.i true) = F)
  (hC : ∀ v w', (p.c n0.i).P v w') (h1 : ∀ o ∈ p.old, o.k ≠ n0.i) (h2 : ∀ n ∈ p.new, n.i ≠ n0.i → n.k ≠ n0.i) {b : Nat} (hbs : w.heap.size ≤ b) (hb : Below w.heap.size w w') (hbx : Bq w' b n0.m F) :
  p.G B B0 w0 (up L n0.i true) (up vs n0.i (n0.ptr b)) w' := by
 refine ⟨h.below.trans (hb.mono (Nat.le_trans hp.le h.size)), Nat.le_trans h.size hb.size, fun j hj => ?_, fun o ho => ?_, fun n hn hj => ?_, fun n hn m hm hne hj hk' => ?_⟩
 ·by_cases hji : j = n0.i
  ·subst hji; exact hC _ _
  ·rw [zAs _ _ hji] at hj ⊢; exact (p.c j).mono (h.val j hj) hb
 ·rw [zAs _ _ (h1 o ho)]; exact (h.old o ho).mono hb
 ·by_cases hni : n.i = n0.i
  ·have e := hp.newinj n hn _ hi hni
   subst e
   rw [zB6, hk]
   exact ⟨_, rfl, Nat.le_trans h.size hbs, hbx⟩
  ·rw [Nb.now_up (h2 n hn hni)]
   rw [zAs _ _ hni] at hj ⊢
   obtain ⟨b, e1, e2, e3⟩ := h.new n hn hj
   exact ⟨b, e1, e2, e3.mono hb⟩
 ·by_cases hni : n.i = n0.i
  ·have hmi : m.i ≠ n0.i := fun e => hne (hni.trans e.symm)
   rw [hni, zB6]
   rw [zAs _ _ hmi] at hk' ⊢
   obtain ⟨b, e1, e2, e3⟩ := h.new m hm hk'
   rw [e1, Nb.block_ptr, Nb.block_ptr]
   have := e3.lt
   omega
  ·rw [zAs _ _ hni] at hj ⊢
   by_cases hmi : m.i = n0.i
   ·rw [hmi, zB6]
    obtain ⟨b, e1, e2, e3⟩ := h.new n hn hj
    rw [e1, Nb.block_ptr, Nb.block_ptr]
    have := e3.lt
    omega
   ·rw [zAs _ _ hmi] at hk' ⊢
    exact h.apart n hn m hm hne hj hk'

section
variable {os : List Oper} {Q : Exit → Act → World → Prop} {a : Act} {p : Pq} {B B0 : Nat} {w0 : World}
variable {i s : Nat} {d : Option Tmp} {ty : TypeId} {ps : String} {af : Array Edge} {gd : Option (Nat × Bool)}

theorem zCx (hp : p.Ok B B0) (hF : p.Free i) (hg : GdQ os a p B B0 w0 af gd) (hC : ∀ w, (p.c i).P (.agg #[.bool false, .slice none 0 0]) w) : zAr os Q a p B B0 w0 i { dst := d, op := .build 32 #[], type := ty, pos := ps, after := af, guard := gd } := by
 refine zBk hp hF hg fun L vs w hG hL hc hd => ⟨.agg #[.bool false, .slice none 0 0], ?_, hC w⟩
 generalize (lay os.toArray L vs os.toArray.size a).eval = ρ
 simp [execOp, go_sem]
theorem zBa {x y z : Operand} {F G F3 : Value → World → Prop} {f : FuncId} {ts : Array TypeId} (hp : p.Ok B B0) (hF : p.Free i) (hg : GdQ os a p B B0 w0 af gd) (hen : ∀ args w, (callFunc f args).run Tryz.prog w = .ok (.enter f args) w)
  (hx : SrcQ os a p B B0 w0 af x F) (hy : SrcQ os a p B B0 w0 af y G) (hz : SrcQ os a p B B0 w0 af z F3) (hC : ∀ v v' u w, F v w → G v' w → F3 u w → Calls Tryz.prog f #[v, v', u] w fun e w' => ∃ v', e = .returned v' ∧ Below w.heap.size w w' ∧ (p.c i).P v' w') :
  zAr os Q a p B B0 w0 i { dst := d, op := .call { callee := .value (.func f), args := #[x, y, z], argTypes := ts }, type := ty, pos := ps, after := af, guard := gd } :=
 zF8 hp hF hg hen fun L vs w hG hd => ⟨#[_, _, _], by simp, hC _ _ _ _ (hx L vs w hG hd) (hy L vs w hG hd) (hz L vs w hG hd)⟩
theorem q_call4 {x y z t : Operand} {F G F3 F4 : Value → World → Prop} {f : FuncId} {ts : Array TypeId} (hp : p.Ok B B0) (hF : p.Free i) (hg : GdQ os a p B B0 w0 af gd) (hen : ∀ args w, (callFunc f args).run Tryz.prog w = .ok (.enter f args) w)
  (hx : SrcQ os a p B B0 w0 af x F) (hy : SrcQ os a p B B0 w0 af y G) (hz : SrcQ os a p B B0 w0 af z F3) (ht : SrcQ os a p B B0 w0 af t F4) (hC : ∀ v v' u u' w, F v w → G v' w → F3 u w → F4 u' w → Calls Tryz.prog f #[v, v', u, u'] w fun e w' => ∃ v', e = .returned v' ∧ Below w.heap.size w w' ∧ (p.c i).P v' w') :
  zAr os Q a p B B0 w0 i { dst := d, op := .call { callee := .value (.func f), args := #[x, y, z, t], argTypes := ts }, type := ty, pos := ps, after := af, guard := gd } :=
 zF8 hp hF hg hen fun L vs w hG hd => ⟨#[_, _, _, _], by simp, hC _ _ _ _ _ (hx L vs w hG hd) (hy L vs w hG hd) (hz L vs w hG hd) (ht L vs w hG hd)⟩

theorem zOm {n0 : Nb} {x : Operand} {f g : FuncId} {ts : Array TypeId} {F : Value → World → Prop} (hp : p.Ok B B0) (hen : ∀ args w, (callFunc f args).run Tryz.prog w = .ok (.enter f args) w) (hi : n0 ∈ p.new) (hii : n0.i = i) (hki : n0.k = i) (hsl : n0.s = some (.clo g))
  (hx : SrcQ os a p B B0 w0 af x F) (hC : ∀ v w, F v w → Calls Tryz.prog f #[v] w fun e w' => ∃ b, e = .returned (cloV g b) ∧ w.heap.size ≤ b ∧ Below w.heap.size w w' ∧ Bq w' b n0.m n0.F1)
  (hany : ∀ v w', (p.c i).P v w') (h1 : ∀ o ∈ p.old, o.k ≠ i) (h2 : ∀ n ∈ p.new, n.i ≠ i → n.k ≠ i) :
  zAr os Q a p B B0 w0 i { dst := d, op := .call { callee := .value (.func f), args := #[x], argTypes := ts }, type := ty, pos := ps, after := af, guard := none } := by
 intro hio L vs w hG hL hd hc
 refine wpOp_step hio fun K' hK => ?_
 have h0 := hx L vs w hG hd
 have hwn : Region.wanted ({ dst := d, op := .call { callee := .value (.func f), args := #[x], argTypes := ts }, type := ty, pos := ps, after := af, guard := none } : Oper) (yielded os.toArray (lay os.toArray L vs os.toArray.size a).tmps) = true := rfl
 rw [if_pos hwn]
 have e : (execOp (lay os.toArray L vs os.toArray.size a).eval ({ dst := d, op := .call { callee := .value (.func f), args := #[x], argTypes := ts }, type := ty, pos := ps, after := af, guard := none } : Oper)).run Tryz.prog w = (.ok (.enter f #[(lay os.toArray L vs os.toArray.size a).eval x]) w) := by
  have hf : (lay os.toArray L vs os.toArray.size a).eval (.func f) = .func (.func f) #[] #[] := rfl
  generalize (lay os.toArray L vs os.toArray.size a).eval = ρ at hf
  simp [execOp, go_sem, hf, hen]
 unfold Oper.wp
 rw [e]
 refine (hC _ w h0).mono ?_
 rintro e' w' ⟨b, rfl, hbs, hb, hbx⟩
 subst hii
 have hnow : n0.now (up L n0.i true) = n0.F1 := by
  unfold Nb.now
  rw [hsl]
  rfl
 have hlay := hG.made hp hi (F := n0.F1) hnow hany h1 h2 hbs hb hbx
 have hptr : n0.ptr b = cloV g b := by unfold Nb.ptr; rw [hsl]
 rw [hptr] at hlay
 exact hK _ _ ⟨_, rfl, hlay⟩

theorem stq_clo {f0 : Operand} {g : FuncId} {xs : Array Operand} {ts : Array TypeId} (hp : p.Ok B B0) (hF : p.Free i) (hg : GdQ os a p B B0 w0 af gd) (hen : ∀ args w, (callFunc g args).run Tryz.prog w = .ok (.enter g args) w)
  (hr : ∀ L vs w, p.G B B0 w0 L vs w → (∀ e ∈ af, Region.binds .any e = true → L e.on = true) → ∃ args b, xs.map (lay os.toArray L vs os.toArray.size a).eval = args ∧ (lay os.toArray L vs os.toArray.size a).eval f0 = cloV g b ∧
   Calls Tryz.prog g (args ++ #[.pointer (some ⟨b, 0, none⟩)]) w fun e w' => ∃ v', e = .returned v' ∧ Below w.heap.size w w' ∧ (p.c i).P v' w') :
  zAr os Q a p B B0 w0 i { dst := d, op := .call { callee := .value f0, args := xs, argTypes := ts }, type := ty, pos := ps, after := af, guard := gd } := by
 intro hio L vs w hG hL hd hc
 refine wpOp_step hio fun K' hK => ?_
 obtain ⟨args, b, hx, hf, hC⟩ := hr L vs w hG hd
 rw [if_pos (zIb (o := { dst := d, op := .call { callee := .value f0, args := xs, argTypes := ts }, type := ty, pos := ps, after := af, guard := gd }) hg hG hd)]
 have e : (execOp (lay os.toArray L vs os.toArray.size a).eval ({ dst := d, op := .call { callee := .value f0, args := xs, argTypes := ts }, type := ty, pos := ps, after := af, guard := gd } : Oper)).run Tryz.prog w = (.ok (.enter g (args ++ #[.pointer (some ⟨b, 0, none⟩)])) w) := by
  unfold cloV at hf
  generalize (lay os.toArray L vs os.toArray.size a).eval = ρ at hx hf
  simp [execOp, go_sem, hx, hf, hen]
 unfold Oper.wp
 rw [e]
 refine hC.mono ?_
 rintro e' w' ⟨v', rfl, hb, h⟩
 exact hK _ _ ⟨_, rfl, hG.plain hp hF hb h⟩

theorem zOl {n0 : Nb} {f0 x : Operand} {g : FuncId} {ts : Array TypeId} {F : Value → World → Prop} (hp : p.Ok B B0) (hF : p.Free i) (hg : GdQ os a p B B0 w0 af gd) (hen : ∀ args w, (callFunc g args).run Tryz.prog w = .ok (.enter g args) w) (hi : n0 ∈ p.new) (hsl : n0.s = some (.clo g))
  (hf : ∀ L vs w, p.G B B0 w0 L vs w → (∀ e ∈ af, Region.binds .any e = true → L e.on = true) → L n0.i = true ∧ (lay os.toArray L vs os.toArray.size a).eval f0 = vs n0.i) (hx : SrcQ os a p B B0 w0 af x F)
  (hC : ∀ v b w, F v w → Bq w b n0.m n0.F1 → Calls Tryz.prog g #[v, .pointer (some ⟨b, 0, none⟩)] w fun e w' => ∃ v', e = .returned v' ∧ Below w.heap.size w w' ∧ (p.c i).P v' w') :
  zAr os Q a p B B0 w0 i { dst := d, op := .call { callee := .value f0, args := #[x], argTypes := ts }, type := ty, pos := ps, after := af, guard := gd } :=
 stq_clo hp hF hg hen fun L vs w hG hd => by
  obtain ⟨hLi, hye⟩ := hf L vs w hG hd
  obtain ⟨b, e1, _, hb⟩ := hG.new _ hi hLi
  have hptr : n0.ptr b = cloV g b := by unfold Nb.ptr; rw [hsl]
  have hnow : n0.now L = n0.F1 := by
   unfold Nb.now
   rw [hsl]
   rfl
  rw [hnow] at hb
  exact ⟨_, b, rfl, by rw [hye, e1, hptr], by simpa using hC _ b w (hx L vs w hG hd) hb⟩

end

theorem zM9 (args : Array Value) (w : World) : (callFunc 85 args).run Tryz.prog w = .ok (.enter 85 args) w := zAn Tryz.func85 (by kernel_rfl) rfl args w
theorem zNa (args : Array Value) (w : World) : (callFunc 96 args).run Tryz.prog w = .ok (.enter 96 args) w := zAn Tryz.func96 (by kernel_rfl) rfl args w

theorem exWithin {w : World} {v : Value} {m : Int} (h : Num w v m) : Calls Tryz.prog 85 #[v] w fun e w' => ∃ b, e = .returned (cloV 96 b) ∧ w.heap.size ≤ b ∧ Below w.heap.size w w' ∧ Bq w' b 2 (Fq.num m) := by
 obtain ⟨n0, ao0, k0, c0, rfl⟩ := h.parts
 obtain ⟨w1, b1, hw1, hb1, hs1, E⟩ := zB8 w (F := Fq.num m) (us := [.bool n0, .slice ao0 k0 c0]) 32 rfl (by simp) (zBr _ _ _ _) h
 go_enter Tryz.func85, Tryz.ntmps85
 go_upto_region 1 with (fail)
 rw [← hw1]
 rw [← hb1]
 have hbs : w.heap.size ≤ b1 := (E.boxes _ (List.mem_cons_self ..)).1
 have hbx := (E.boxes _ (List.mem_cons_self ..)).2
 clear hw1 hb1 hs1
 go_wp2
 refine bodyPost_ret (v := cloV 96 b1) ?_ rfl ⟨_, rfl, hbs, E.below, hbx⟩
 simp [results, Tryz.results85, go_sem, cloV]

def sg (n : Nat) (x : Int) : Int := if 2 * (x % n) < n then 1 else -1
theorem zM7 {n x y : Int} (h : n ∣ x - y) : x % n = y % n := Int.emod_eq_emod_iff_emod_sub_eq_zero.2 (Int.emod_eq_zero_of_dvd h)
theorem zM6 {n x y : Int} (h : x % n = y % n) : n ∣ x - y := Int.dvd_of_emod_eq_zero (Int.emod_eq_emod_iff_emod_sub_eq_zero.1 h)
theorem gcd_emod {a : Int} {n : Nat} : Int.gcd (a % n) n = Int.gcd a n := by
 rw [Int.gcd_comm, Int.gcd_comm a]
 have h := Int.mul_ediv_add_emod a n
 have e : a % n = a + n * (-(a / n)) := by rw [Int.mul_neg]; omega
 rw [e]; simp
def Pr (p : Nat) : Prop := 2 ≤ p ∧ ∀ d, d ∣ p → d = 1 ∨ d = p
theorem bez_ex : ∀ (n : Nat) (a : Int), ∃ u v : Int, u * a + v * n = (Int.gcd a n : Int) := by
 intro n
 induction n using Nat.strongRecOn with
 | _ n ih =>
  intro a
  by_cases h0 : n = 0
  ·subst h0
   refine ⟨if a < 0 then -1 else 1, 0, ?_⟩
   have : (Int.gcd a ((0 : Nat) : Int) : Int) = (a.natAbs : Int) := by simp
   rw [this]
   split <;> omega
  ·have h1 := Int.emod_nonneg a (show (n : Int) ≠ 0 by omega)
   have h2 := Int.emod_lt_of_pos a (show (0 : Int) < n by omega)
   obtain ⟨u, v, h⟩ := ih (a % n).toNat (by omega) (n : Int)
   rw [Int.toNat_of_nonneg h1, Int.gcd_comm, gcd_emod] at h
   refine ⟨v, u - v * (a / n), ?_⟩
   rw [← h]
   have e := Int.mul_ediv_add_emod a n
   have e2 : v * a = v * (n * (a / n)) + v * (a % n) := by rw [← Int.mul_add, e]
   rw [e2, Int.sub_mul]
   have e3 : v * (a / n) * n = v * (n * (a / n)) := by ac_rfl
   omega

theorem zHw {a m : Int} (hm : m ≠ 0) : (0 : Int) < Int.gcd a m := by
 have := Int.gcd_pos_iff (a := a) (b := m)
 have h : 0 < Int.gcd a m := this.2 (.inr hm)
 omega

theorem zIm (a m : Int) (hm : 0 < m) : ∃ u v : Int, 0 ≤ u ∧ u < m / (Int.gcd a m : Int) ∧ u * a + v * m = (Int.gcd a m : Int) := by
 obtain ⟨u, v, h⟩ := bez_ex m.toNat a
 rw [Int.toNat_of_nonneg (by omega)] at h
 have hg := zHw (a := a) (show m ≠ 0 by omega)
 obtain ⟨c, hc⟩ := Int.gcd_dvd_left (a := a) (b := m)
 obtain ⟨d, hd⟩ := Int.gcd_dvd_right (a := a) (b := m)
 generalize (Int.gcd a m : Int) = g at *
 have e0 : m / g = d := by rw [hd]; exact Int.mul_ediv_cancel_left _ (by omega)
 have hd0 : 0 < d := by
  rcases Int.lt_or_le 0 d with h1 | h1
  ·exact h1
  ·have := Int.mul_le_mul_of_nonneg_left h1 (show 0 ≤ g by omega)
   omega
 rw [e0]
 refine ⟨u % d, v + u / d * c, Int.emod_nonneg _ (by omega), Int.emod_lt_of_pos _ hd0, ?_⟩
 rw [← h]
 have e := Int.mul_ediv_add_emod u d
 have e2 : u * a = d * (u / d) * a + u % d * a := by rw [← Int.add_mul, e]
 rw [e2, Int.add_mul]
 have e3 : u / d * c * m = d * (u / d) * a := by rw [hc, hd]; ac_rfl
 omega
noncomputable def bezU (a m : Int) : Int := if h : 0 < m then Classical.choose (zIm a m h) else 0
noncomputable def bezV (a m : Int) : Int := if h : 0 < m then Classical.choose (Classical.choose_spec (zIm a m h)) else 0
theorem zD6 {a m : Int} (hm : 0 < m) : 0 ≤ bezU a m ∧ bezU a m < m / (Int.gcd a m : Int) ∧ bezU a m * a + bezV a m * m = (Int.gcd a m : Int) := by
 unfold bezU bezV
 rw [dif_pos hm, dif_pos hm]
 exact Classical.choose_spec (Classical.choose_spec (zIm a m hm))
theorem zMc {x n : Int} (h : n ∣ x) (h1 : -n < x) (h2 : x < n) : x = 0 := by
 obtain ⟨c, hc⟩ := h
 have hn : (0 : Int) ≤ n := by omega
 rcases Int.lt_trichotomy c 0 with h3 | h3 | h3
 ·have := Int.mul_le_mul_of_nonneg_left (show c ≤ -1 by omega) hn
  omega
 ·rw [hc, h3, Int.mul_zero]
 ·have := Int.mul_le_mul_of_nonneg_left (show 1 ≤ c by omega) hn
  omega
theorem zKa {n b x : Int} (h : Int.gcd n b = 1) (hd : n ∣ b * x) : n ∣ x := by
 have h1 : n.natAbs ∣ b.natAbs * x.natAbs := by rw [← Int.natAbs_mul]; exact Int.natAbs_dvd_natAbs.2 hd
 have h2 : Nat.Coprime n.natAbs b.natAbs := h
 exact Int.natAbs_dvd_natAbs.1 (h2.dvd_of_dvd_mul_left h1)
theorem zJ4 {a m : Int} (hm : 0 < m) {u v : Int} (h0 : 0 ≤ u) (h1 : u < m / (Int.gcd a m : Int)) (h2 : u * a + v * m = (Int.gcd a m : Int)) : u = bezU a m ∧ v = bezV a m := by
 obtain ⟨g0, g1, g2⟩ := zD6 (a := a) hm
 have hg := zHw (a := a) (show m ≠ 0 by omega)
 have hco := Int.gcd_ediv_gcd_ediv_gcd (i := a) (j := m) (by
  have := Int.gcd_pos_iff (a := a) (b := m)
  exact this.2 (.inr (by omega)))
 obtain ⟨c, hc⟩ := Int.gcd_dvd_left (a := a) (b := m)
 obtain ⟨d, hd⟩ := Int.gcd_dvd_right (a := a) (b := m)
 generalize bezU a m = p at *
 generalize bezV a m = q at *
 generalize hG : (Int.gcd a m : Int) = g at *
 have e0 : m / g = d := by rw [hd]; exact Int.mul_ediv_cancel_left _ (by omega)
 have e1 : a / g = c := by rw [hc]; exact Int.mul_ediv_cancel_left _ (by omega)
 rw [e0, e1] at hco
 rw [e0] at h1 g1
 have h3 : (u - p) * a + (v - q) * m = 0 := by rw [Int.sub_mul, Int.sub_mul]; omega
 have h4 : g * (c * (u - p) + d * (v - q)) = 0 := by
  rw [← h3, Int.mul_add]
  congr 1
  ·conv => rhs; rw [hc]
   ac_rfl
  ·conv => rhs; rw [hd]
   ac_rfl
 have h5 : c * (u - p) + d * (v - q) = 0 := by
  rcases Int.mul_eq_zero.1 h4 with h | h
  ·omega
  ·exact h
 have h6 : d ∣ c * (u - p) := ⟨-(v - q), by rw [Int.mul_neg]; omega⟩
 have h7 := zMc (zKa (by rw [Int.gcd_comm]; exact hco) h6) (by omega) (by omega)
 rw [h7, Int.mul_zero, Int.zero_add] at h5
 refine ⟨by omega, ?_⟩
 rcases Int.mul_eq_zero.1 h5 with h | h
 ·rw [h, Int.mul_zero] at hd; omega
 ·omega
theorem zGd {a m : Int} (hm : 0 < m) : bezU a m < m := by
 obtain ⟨g0, g1, _⟩ := zD6 (a := a) hm
 have hg := zHw (a := a) (show m ≠ 0 by omega)
 have := Int.ediv_le_self (a := m) (Int.gcd a m : Int) (by omega)
 omega
theorem zIn {a m : Int} (hm : 0 < m) (hg : Int.gcd a m = 1) : (a * bezU a m) % m = 1 % m := by
 have h := (zD6 (a := a) hm).2.2
 rw [hg] at h
 refine zM7 ⟨-(bezV a m), ?_⟩
 rw [Int.mul_neg]
 have : a * bezU a m = bezU a m * a := Int.mul_comm _ _
 have h2 : m * bezV a m = bezV a m * m := Int.mul_comm _ _
 omega
theorem zLb {a m x : Int} (hm : 0 < m) (h0 : 0 ≤ x) (h1 : x < m) (h : (a * x) % m = 1 % m) : Int.gcd a m = 1 ∧ x = bezU a m := by
 have hd := zM6 h
 have hg : Int.gcd a m = 1 := by
  have g1 := Int.gcd_dvd_left (a := a) (b := m)
  have g2 := Int.gcd_dvd_right (a := a) (b := m)
  have g3 : (Int.gcd a m : Int) ∣ a * x - 1 := Int.dvd_trans g2 hd
  have g4 : (Int.gcd a m : Int) ∣ 1 := by
   have g5 : (Int.gcd a m : Int) ∣ a * x := Int.dvd_trans g1 ⟨x, rfl⟩
   have := Int.dvd_sub g5 g3
   have e : a * x - (a * x - 1) = 1 := by omega
   rwa [e] at this
  have := Int.le_of_dvd (by decide) g4
  have := zHw (a := a) (show m ≠ 0 by omega)
  omega
 refine ⟨hg, ?_⟩
 have h2 := zIn hm hg
 have h3 : (a * (x - bezU a m)) % m = 0 := by
  rw [Int.mul_sub]
  exact Int.emod_eq_emod_iff_emod_sub_eq_zero.1 (h.trans h2.symm)
 have h4 := zKa (by rw [Int.gcd_comm]; exact hg) (Int.dvd_of_emod_eq_zero h3)
 have h5 := (zD6 (a := a) hm).1
 have h6 := zGd (a := a) hm
 have := zMc h4 (by omega) (by omega)
 omega

theorem enq_M_Mod (args : Array Value) (w : World) : (callFunc 71 args).run Tryz.prog w = .ok (.enter 71 args) w := zAn Tryz.func71 (by kernel_rfl) rfl args w
theorem zKc (args : Array Value) (w : World) : (callFunc 78 args).run Tryz.prog w = .ok (.enter 78 args) w := zAn Tryz.func78 (by kernel_rfl) rfl args w
theorem zKd (args : Array Value) (w : World) : (callFunc 91 args).run Tryz.prog w = .ok (.enter 91 args) w := zAn Tryz.func91 (by kernel_rfl) rfl args w
theorem zKb (args : Array Value) (w : World) : (callFunc 90 args).run Tryz.prog w = .ok (.enter 90 args) w := zAn Tryz.func90 (by kernel_rfl) rfl args w
theorem zIs (args : Array Value) (w : World) : (callFunc 98 args).run Tryz.prog w = .ok (.enter 98 args) w := zAn Tryz.func98 (by kernel_rfl) rfl args w
theorem zIr (args : Array Value) (w : World) : (callFunc 58 args).run Tryz.prog w = .ok (.enter 58 args) w := zAn Tryz.func58 (by kernel_rfl) rfl args w
theorem enq_Bits (args : Array Value) (w : World) : (callFunc 82 args).run Tryz.prog w = .ok (.enter 82 args) w := zAn Tryz.func82 (by kernel_rfl) rfl args w
theorem exResidue {w : World} {v : Value} {b : Nat} {a m : Int} (h : Num w v a) (hb : Bq w b 2 (Fq.num m)) (hm : m ≠ 0) (ha : ab a < pw 300) (hn : ab m < pw 300) :
  Calls Tryz.prog 96 #[v, .pointer (some ⟨b, 0, none⟩)] w fun e w' => ∃ v', e = .returned v' ∧ Below w.heap.size w w' ∧ Num w' v' (a % m) := by
 have ho := hb
 have HM := hidd hm
 clear hb hm
 replace ha := hidd ha
 replace hn := hidd hn
 obtain ⟨n0, ao0, k0, c0, rfl⟩ := h.parts
 obtain ⟨w1, b1, hw1, hb1, hs1, E⟩ := zB8 w (F := Fq.num a) (us := [.bool n0, .slice ao0 k0 c0]) 32 rfl (by simp) (zBr _ _ _ _) h
 obtain ⟨w2, b2, hw2, hb2, hs2, E⟩ := fZ E hs1 32
 go_enter Tryz.func96, Tryz.ntmps96
 go_upto_region 1 with (fail)
 rw [← hw1]
 rw [← hw2]
 rw [← hb2]
 rw [← hb1]
 clear hw1 hw2 hb1 hb2 hs2 hs1
 have B3 : Hid (ab ((a / m)) < pw 301) := zE7 ha.out (by omega)
 have B4 : Hid (ab ((a % m)) < pw 300) := zCz HM.out hn.out
 refine rg [Fq.num a, Fq.num m, Fq.tup3 (Fq.num (a / m)) (Fq.num (a % m)) (Fq.is (.int .i64 0)), Fq.tup3 (Fq.num (a / m)) (Fq.num (a % m)) (Fq.is (.int .i64 0)), Fq.num (a / m), Fq.num (a % m), Fq.is (.int .i64 0), Fq.any, Fq.any, Fq.any, Fq.any, Fq.is (.int .i64 0)] N2 [⟨7, 9, 2, Fq.num 0, Fq.num (a / m), none⟩, ⟨8, 10, 2, Fq.num 0, Fq.num (a % m), none⟩] E (fun hp => ⟨?_, ?_, ?_, ?_, ?_, ?_, ?_, ?_, ?_, ?_, ?_, ?_, tv⟩) ?_
 ·exact zAz (off := 0) hp fo tv (mq 1 rfl) (.inl rfl) (Nat.le_of_ble_eq_true rfl) (zA2 rfl rfl (fun _ _ => rfl)) (fun us w hl h => zAh hl h)
 ·exact zOq hp fo tv ho rfl (zA2 rfl rfl (fun _ _ => rfl)) (fun v w h => h)
 ·exact wXb (Fq.num a) (Fq.num m) hp zM8 (sqi 0) (sqi 1) fun v v' w h h' => exDMq h h' HM.out B3.out B4.out (by omega) (by omega)
 ·exact zAe hp fo tv (sqi 2)
 ·exact zBx hp fo tv (sqi 3) (fun v1 v2 v3 w h1 h2 h3 => ⟨_, rfl, h1⟩)
 ·exact zBx hp fo tv (sqi 3) (fun v1 v2 v3 w h1 h2 h3 => ⟨_, rfl, h2⟩)
 ·exact zBx hp fo tv (sqi 3) (fun v1 v2 v3 w h1 h2 h3 => ⟨_, rfl, h3⟩)
 ·exact aN hp (mq 0 rfl)
 ·exact aN hp (mq 1 rfl)
 ·exact sN 4 hp (mq 0 rfl)
 ·exact sN 5 hp (mq 1 rfl)
 ·exact zAo hp fo tv (sqi 6)
 intro L vs w5 nb hL hC hn E5
 have e6 := wXi hC 6
 have e11 := wXi hC 11
 have e7 : vs 7 = .pointer (some ⟨nb 7, 0, none⟩) := hn _ (mq 0 rfl)
 have e8 : vs 8 = .pointer (some ⟨nb 8, 0, none⟩) := hn _ (mq 1 rfl)
 have E := E5; simp only [LM, zAb] at E
 rw [zAa hL]
 simp only [SP, Nat.zero_add, Nat.reduceAdd]
 rw [e6, e11, e7, e8]
 generalize nb 7 = b5_7 at E ⊢
 generalize nb 8 = b5_8 at E ⊢
 generalize vs 0 = u5_0
 generalize vs 1 = u5_1
 generalize vs 2 = u5_2
 generalize vs 3 = u5_3
 generalize vs 4 = u5_4
 generalize vs 5 = u5_5
 clear e6 e11 e7 e8 hC hn E5 hL vs L nb
 go_upto_region 2 with (fail)
 refine rg [Fq.num (a % m), Fq.any] [none, none, some (1, Fq.num (a % m)), none] [] E (fun hp => ⟨?_, ?_, tv⟩) ?_
 ·exact zAz (off := 0) hp fo tv (mq 1 rfl) (.inl rfl) (Nat.le_of_ble_eq_true rfl) (zA2 rfl rfl (fun _ _ => rfl)) (fun us w hl h => zAh hl h)
 ·exact zDp hp (mq 2 rfl) rfl rfl (zA2 rfl rfl (fun _ _ => rfl)) (zB9 0 rfl rfl (by simp) rfl (fun v w h => zDg h)) (fun _ _ => trivial) (zBw rfl)
 intro L vs w6 nb hL hC hn E6
 have E := E6; simp only [LM, zAb] at E
 rw [zAa hL]
 simp only [SP, Nat.zero_add, Nat.reduceAdd]
 generalize vs 0 = u6_0
 clear  hC hn E6 hL vs L nb
 clear HM ho
 obtain ⟨p0, p1, c0, c1, hP⟩ := zBd (E.box 2 rfl)
 clear B3 B4 ha hn
 go_wp2
 refine bodyPost_ret (v := .agg #[p0, p1]) ?_ rfl ⟨_, rfl, E.below, hP⟩
 simp [results, Tryz.results96, go_sem, c0, c1]

theorem exLowQ {w : World} {v : Value} {z : Int} (h : Num w v z) {n : Int} {t : Bool} (e : lowV z = .tuple #[.int .i64 n, .bool t]) : Calls Tryz.prog 98 #[v] w fun e w' => ∃ v', e = .returned v' ∧ Below w.heap.size w w' ∧ (Fq.tup2 (Fq.is (.int .i64 n)) (Fq.is (.bool t))).P v' w' :=
 (LowV h).mono fun _ _ ⟨he, hb⟩ => ⟨_, he, hb, _, _, e, rfl, rfl⟩
theorem lowV_in {z : Int} (h0 : -9223372036854775808 ≤ z) (h1 : z ≤ 9223372036854775807) : lowV z = .tuple #[.int .i64 z, .bool true] := by unfold lowV; rw [if_pos ⟨h0, h1⟩]
theorem lowV_out {z : Int} (h : ¬ (-9223372036854775808 ≤ z ∧ z ≤ 9223372036854775807)) : lowV z = .tuple #[.int .i64 0, .bool false] := by unfold lowV; rw [if_neg h]

set_option maxRecDepth 100000 in
set_option maxHeartbeats 4000000 in
theorem exIsOneM {w : World} {v : Value} {z : Int} (h : Num w v z) :
  Calls Tryz.prog 91 #[v] w fun e w' => ∃ v', e = .returned v' ∧ Below w.heap.size w w' ∧ v' = .bool (decide (z = 1)) := by
 obtain ⟨n0, ao0, k0, c0, rfl⟩ := h.parts
 obtain ⟨w1, b1, hw1, hb1, hs1, E⟩ := zB8 w (F := Fq.num z) (us := [.bool n0, .slice ao0 k0 c0]) 32 rfl (by simp) (zBr _ _ _ _) h
 go_enter Tryz.func91, Tryz.ntmps91
 go_upto_region 1 with (fail)
 rw [← hw1]
 rw [← hb1]
 clear hw1 hb1 hs1
 by_cases hl : -9223372036854775808 ≤ z ∧ z ≤ 9223372036854775807
 ·by_cases hc : z = 1
  ·have HL := hidd (lowV_in hl.1 hl.2)
   have T : Hid (z = 1) := hc
   have T2 : Hid (decide (z = 1) = true) := decide_eq_true hc
   clear hl hc
   refine rg [Fq.num z, Fq.tup2 (Fq.is (.int .i64 z)) (yT), Fq.tup2 (Fq.is (.int .i64 z)) (yT), Fq.is (.int .i64 z), yT, Fq.is (.int .i64 z), yT] [none] [] E (fun hp => ⟨?_, ?_, ?_, ?_, ?_, ?_, ?_, tv⟩) ?_
   ·exact zAz (off := 0) hp fo tv (mq 0 rfl) (.inl rfl) (Nat.le_of_ble_eq_true rfl) (zA2 rfl rfl (fun _ _ => rfl)) (fun us w hl h => zAh hl h)
   ·exact wXa (Fq.num z) hp zIs (sqi 0) fun v w h => exLowQ h HL.out
   ·exact zAe hp fo tv (sqi 1)
   ·exact zA5 hp fo tv (sqi 2) (fun v1 v2 w h1 h2 => ⟨_, rfl, h1⟩)
   ·exact zA5 hp fo tv (sqi 2) (fun v1 v2 w h1 h2 => ⟨_, rfl, h2⟩)
   ·exact zAo hp fo tv (sqi 3)
   ·exact zAo hp fo tv (sqi 4)
   intro L vs w2 nb hL hC hn E2
   have e3 := wXi hC 3
   have e4 := wXi hC 4
   have e5 := wXi hC 5
   have e6 := wXi hC 6
   have E := E2; simp only [LM, zAb] at E
   rw [zAa hL]
   simp only [SP, Nat.zero_add, Nat.reduceAdd]
   rw [e3, e4, e5, e6]
   generalize vs 0 = u2_0
   generalize vs 1 = u2_1
   generalize vs 2 = u2_2
   clear e3 e4 e5 e6 hC hn E2 hL vs L nb
   go_upto_region 2 with (fail)
   refine rg [yT, yT, Fq.is (.int .i64 z), yT, yT, yT] [none] [] E (fun hp => ⟨?_, ?_, ?_, ?_, ?_, ?_, tv⟩) ?_
   ·exact zAe hp fo tv (zA2 rfl rfl (fun _ _ => rfl))
   ·exact zAe hp fo tv (sqi 0)
   ·exact zAe hp fo gqi (zA2 rfl rfl (fun _ _ => rfl))
   ·exact zAf (F := fun v _ => v = .int .i64 z) hp fo gqi (sqi 2) (fun ρ w hc h => ⟨.bool true, by simp [execOp, go_sem, h, hc, T.out], rfl⟩)
   ·exact zAi (F := fun v _ => v = .bool true) (G := fun v _ => v = .bool true) hp fo tv (sqi 1) (sqi 3) (fun ρ w hc h h' => ⟨_, by simp [execOp, go_sem, h, h'], rfl⟩)
   ·exact zAo hp fo tv (sqi 4)
   intro L vs w3 nb hL hC hn E3
   have e0 := wXi hC 0
   have e1 := wXi hC 1
   have e2 := wXi hC 2
   have e3 := wXi hC 3
   have e4 := wXi hC 4
   have e5 := wXi hC 5
   have E := E3; simp only [LM, zAb] at E
   rw [zAa hL]
   simp only [SP, Nat.zero_add, Nat.reduceAdd]
   rw [e0, e1, e2, e3, e4, e5]
   clear e0 e1 e2 e3 e4 e5 hC hn E3 hL vs L nb
   clear T HL
   go_wp2
   refine bodyPost_ret (v := .bool true) ?_ rfl (by first | exact ⟨_, rfl, E.below, by rw [T2.out]⟩ | exact ⟨_, rfl, E.below⟩ | exact ⟨rfl, E.below⟩)
   simp [results, Tryz.results91, go_sem]
  ·have HL := hidd (lowV_in hl.1 hl.2)
   have T : Hid (¬ z = 1) := hc
   have T2 : Hid (decide (z = 1) = false) := decide_eq_false hc
   clear hl hc
   refine rg [Fq.num z, Fq.tup2 (Fq.is (.int .i64 z)) (yT), Fq.tup2 (Fq.is (.int .i64 z)) (yT), Fq.is (.int .i64 z), yT, Fq.is (.int .i64 z), yT] [none] [] E (fun hp => ⟨?_, ?_, ?_, ?_, ?_, ?_, ?_, tv⟩) ?_
   ·exact zAz (off := 0) hp fo tv (mq 0 rfl) (.inl rfl) (Nat.le_of_ble_eq_true rfl) (zA2 rfl rfl (fun _ _ => rfl)) (fun us w hl h => zAh hl h)
   ·exact wXa (Fq.num z) hp zIs (sqi 0) fun v w h => exLowQ h HL.out
   ·exact zAe hp fo tv (sqi 1)
   ·exact zA5 hp fo tv (sqi 2) (fun v1 v2 w h1 h2 => ⟨_, rfl, h1⟩)
   ·exact zA5 hp fo tv (sqi 2) (fun v1 v2 w h1 h2 => ⟨_, rfl, h2⟩)
   ·exact zAo hp fo tv (sqi 3)
   ·exact zAo hp fo tv (sqi 4)
   intro L vs w4 nb hL hC hn E4
   have e3 := wXi hC 3
   have e4 := wXi hC 4
   have e5 := wXi hC 5
   have e6 := wXi hC 6
   have E := E4; simp only [LM, zAb] at E
   rw [zAa hL]
   simp only [SP, Nat.zero_add, Nat.reduceAdd]
   rw [e3, e4, e5, e6]
   generalize vs 0 = u4_0
   generalize vs 1 = u4_1
   generalize vs 2 = u4_2
   clear e3 e4 e5 e6 hC hn E4 hL vs L nb
   go_upto_region 2 with (fail)
   refine rg [yT, yT, Fq.is (.int .i64 z), yF, yF, yF] [none] [] E (fun hp => ⟨?_, ?_, ?_, ?_, ?_, ?_, tv⟩) ?_
   ·exact zAe hp fo tv (zA2 rfl rfl (fun _ _ => rfl))
   ·exact zAe hp fo tv (sqi 0)
   ·exact zAe hp fo gqi (zA2 rfl rfl (fun _ _ => rfl))
   ·exact zAf (F := fun v _ => v = .int .i64 z) hp fo gqi (sqi 2) (fun ρ w hc h => ⟨.bool false, by simp [execOp, go_sem, h, hc, T.out], rfl⟩)
   ·exact zAi (F := fun v _ => v = .bool true) (G := fun v _ => v = .bool false) hp fo tv (sqi 1) (sqi 3) (fun ρ w hc h h' => ⟨_, by simp [execOp, go_sem, h, h'], rfl⟩)
   ·exact zAo hp fo tv (sqi 4)
   intro L vs w5 nb hL hC hn E5
   have e0 := wXi hC 0
   have e1 := wXi hC 1
   have e2 := wXi hC 2
   have e3 := wXi hC 3
   have e4 := wXi hC 4
   have e5 := wXi hC 5
   have E := E5; simp only [LM, zAb] at E
   rw [zAa hL]
   simp only [SP, Nat.zero_add, Nat.reduceAdd]
   rw [e0, e1, e2, e3, e4, e5]
   clear e0 e1 e2 e3 e4 e5 hC hn E5 hL vs L nb
   clear T HL
   go_wp2
   refine bodyPost_ret (v := .bool false) ?_ rfl (by first | exact ⟨_, rfl, E.below, by rw [T2.out]⟩ | exact ⟨_, rfl, E.below⟩ | exact ⟨rfl, E.below⟩)
   simp [results, Tryz.results91, go_sem]
 ·have HL := hidd (lowV_out hl)
  have T2 : Hid (decide (z = 1) = false) := decide_eq_false (by omega)
  clear hl
  refine rg [Fq.num z, Fq.tup2 (Fq.is (.int .i64 0)) (yF), Fq.tup2 (Fq.is (.int .i64 0)) (yF), Fq.is (.int .i64 0), yF, Fq.is (.int .i64 0), yF] [none] [] E (fun hp => ⟨?_, ?_, ?_, ?_, ?_, ?_, ?_, tv⟩) ?_
  ·exact zAz (off := 0) hp fo tv (mq 0 rfl) (.inl rfl) (Nat.le_of_ble_eq_true rfl) (zA2 rfl rfl (fun _ _ => rfl)) (fun us w hl h => zAh hl h)
  ·exact wXa (Fq.num z) hp zIs (sqi 0) fun v w h => exLowQ h HL.out
  ·exact zAe hp fo tv (sqi 1)
  ·exact zA5 hp fo tv (sqi 2) (fun v1 v2 w h1 h2 => ⟨_, rfl, h1⟩)
  ·exact zA5 hp fo tv (sqi 2) (fun v1 v2 w h1 h2 => ⟨_, rfl, h2⟩)
  ·exact zAo hp fo tv (sqi 3)
  ·exact zAo hp fo tv (sqi 4)
  intro L vs w6 nb hL hC hn E6
  have e3 := wXi hC 3
  have e4 := wXi hC 4
  have e5 := wXi hC 5
  have e6 := wXi hC 6
  have E := E6; simp only [LM, zAb] at E
  rw [zAa hL]
  simp only [SP, Nat.zero_add, Nat.reduceAdd]
  rw [e3, e4, e5, e6]
  generalize vs 0 = u6_0
  generalize vs 1 = u6_1
  generalize vs 2 = u6_2
  clear e3 e4 e5 e6 hC hn E6 hL vs L nb
  go_upto_region 2 with (fail)
  refine rg [yF, yF, Fq.is (undef), Fq.is (undef), yF, yF] [none] [] E (fun hp => ⟨?_, ?_, ?_, ?_, ?_, ?_, tv⟩) ?_
  ·exact zAe hp fo tv (zA2 rfl rfl (fun _ _ => rfl))
  ·exact zAe hp fo tv (sqi 0)
  ·exact zAj hp fo rfl gqi (fun _ => rfl)
  ·exact zAj hp fo rfl gqi (fun _ => rfl)
  ·exact zAi (F := fun v _ => v = .bool false) (G := fun v _ => v = .bool false) hp fo tv (sqi 1) (zAl (fun _ => rfl)) (fun ρ w hc h h' => ⟨_, by simp [execOp, go_sem, h, h'], rfl⟩)
  ·exact zAo hp fo tv (sqi 4)
  intro L vs w7 nb hL hC hn E7
  have e0 := wXi hC 0
  have e1 := wXi hC 1
  have e2 := wXi hC 2
  have e3 := wXi hC 3
  have e4 := wXi hC 4
  have e5 := wXi hC 5
  have E := E7; simp only [LM, zAb] at E
  rw [zAa hL]
  simp only [SP, Nat.zero_add, Nat.reduceAdd]
  rw [e0, e1, e2, e3, e4, e5]
  clear e0 e1 e2 e3 e4 e5 hC hn E7 hL vs L nb
  clear HL
  go_wp2
  refine bodyPost_ret (v := .bool false) ?_ rfl (by first | exact ⟨_, rfl, E.below, by rw [T2.out]⟩ | exact ⟨_, rfl, E.below⟩ | exact ⟨rfl, E.below⟩)
  simp [results, Tryz.results91, go_sem]

theorem zK1 {w : World} {v : Value} {z : Int} {t : Bool} (h : Num w v z) (ht : decide (z = 1) = t) : Calls Tryz.prog 91 #[v] w fun e w' => ∃ v', e = .returned v' ∧ Below w.heap.size w w' ∧ v' = .bool t := by
 have := exIsOneM h
 rw [ht] at this
 exact this

theorem cmpI_le0 {x : Int} : cmpI x 0 ≤ 0 ↔ x ≤ 0 := by
 constructor
 ·intro h
  rcases Int.lt_or_le 0 x with h2 | h2
  ·have := cmpIqgt.2 h2; omega
  ·exact h2
 ·intro h
  rcases Int.lt_or_le 0 (cmpI x 0) with h2 | h2
  ·have := cmpIqgt.1 h2; omega
  ·exact h2

set_option maxRecDepth 100000 in
set_option maxHeartbeats 4000000 in
theorem exModP {w : World} {v v' : Value} {a m : Int} (h : Num w v a) (h' : Num w v' m) (ha : ab a < pw 300) (hm : ab m < pw 300) (h0 : 0 < m) :
  Calls Tryz.prog 71 #[v, v'] w fun e w' => ∃ v', e = .returned v' ∧ Below w.heap.size w w' ∧ (Fq.tup2 (Fq.num (a % m)) (Fq.is (.int .i64 0))).P v' w' := by
 replace ha := hidd ha
 replace hm := hidd hm
 obtain ⟨n0, ao0, k0, c0, rfl⟩ := h.parts
 obtain ⟨n1, ao1, k1, c1, rfl⟩ := h'.parts
 obtain ⟨w1, b1, hw1, hb1, hs1, E⟩ := zB8 w (F := Fq.num a) (us := [.bool n0, .slice ao0 k0 c0]) 32 rfl (by simp) (zBr _ _ _ _) h
 obtain ⟨w2, b2, hw2, hb2, hs2, E⟩ := fN E hs1 32 h'
 obtain ⟨w3, b3, hw3, hb3, hs3, E⟩ := fZ E hs2 32
 go_enter Tryz.func71, Tryz.ntmps71
 go_upto_region 1 with (fail)
 rw [← hw1]
 rw [← hw2]
 rw [← hw3]
 rw [← hb3]
 rw [← hb2]
 rw [← hb1]
 clear hw1 hw2 hw3 hb1 hb2 hb3 hs3 hs1 hs2
 have T1 : Hid (¬ cmpI m 0 ≤ 0) := fun e => by have := cmpI_le0.1 e; omega
 have HM : Hid (m ≠ 0) := by show _ ≠ _; omega
 clear h0
 refine rg [Fq.num m, Fq.is (.int .i64 (cmpI m 0)), yF] N3 [] E (fun hp => ⟨?_, ?_, ?_, tv⟩) ?_
 ·exact zAz (off := 0) hp fo tv (mq 1 rfl) (.inl rfl) (Nat.le_of_ble_eq_true rfl) (zA2 rfl rfl (fun _ _ => rfl)) (fun us w hl h => zAh hl h)
 ·exact wXa (Fq.num m) hp zCf (sqi 0) fun v w h => zCg h
 ·exact zAf (F := fun v _ => v = .int .i64 (cmpI m 0)) hp fo tv (sqi 1) (fun ρ w hc h => ⟨.bool false, by simp [execOp, go_sem, h, hc, T1.out], rfl⟩)
 intro L vs w4 nb hL hC hn E4
 have e1 := wXi hC 1
 have e2 := wXi hC 2
 have E := E4; simp only [LM, zAb] at E
 rw [zAa hL]
 simp only [SP, Nat.zero_add, Nat.reduceAdd]
 rw [e1, e2]
 generalize vs 0 = u4_0
 clear e1 e2 hC hn E4 hL vs L nb
 clear T1
 go_upto_region 3 with (fail)
 have B5 : Hid (ab ((a % m)) < pw 300) := zCz HM.out hm.out
 refine rg [Fq.num m, Fq.any, Fq.num a, Fq.num (a % m), Fq.any, Fq.is (.int .i64 0)] [some (4, Fq.num (a % m)), none, none] [⟨1, 1, 2, Fq.num m, Fq.num m, (some (.clo 96))⟩] E (fun hp => ⟨?_, ?_, ?_, ?_, ?_, ?_, tv⟩) ?_
 ·exact zAz (off := 0) hp fo tv (mq 1 rfl) (.inl rfl) (Nat.le_of_ble_eq_true rfl) (zA2 rfl rfl (fun _ _ => rfl)) (fun us w hl h => zAh hl h)
 ·exact zOm (F := (Fq.num m).P) hp zM9 (mq 0 rfl) rfl rfl rfl (sqi 0) (fun v w h => exWithin h) (fun _ _ => trivial) (zFu rfl) (newks_ne rfl)
 ·exact zAz (off := 0) hp fo tv (mq 2 rfl) (.inl rfl) (Nat.le_of_ble_eq_true rfl) (zA2 rfl rfl (fun _ _ => rfl)) (fun us w hl h => zAh hl h)
 ·exact zOl (F := (Fq.num a).P) hp fo tv zNa (mq 0 rfl) rfl (zJc rfl rfl (by simp) rfl) (sqi 2) (fun v b w h hb => exResidue h hb HM.out (Int.lt_of_lt_of_le ha.out (zAg (by omega))) (Int.lt_of_lt_of_le hm.out (zAg (by omega))))
 ·exact zDp hp (mq 0 rfl) rfl rfl (zA2 rfl rfl (fun _ _ => rfl)) (zB9 3 rfl rfl (by simp) rfl (fun v w h => zDg h)) (fun _ _ => trivial) (zBw rfl)
 ·exact zAo hp fo tv (zAl (fun _ => rfl))
 intro L vs w6 nb hL hC hn E6
 have e5 := wXi hC 5
 have e1 : vs 1 = cloV 96 (nb 1) := hn _ (mq 0 rfl)
 have E := E6; simp only [LM, zAb] at E
 rw [zAa hL]
 simp only [SP, Nat.zero_add, Nat.reduceAdd]
 rw [e5, e1]
 generalize nb 1 = b6_1 at E ⊢
 generalize vs 0 = u6_0
 generalize vs 2 = u6_2
 generalize vs 3 = u6_3
 clear e5 e1 hC hn E6 hL vs L nb
 clear HM
 obtain ⟨p0, p1, c0, c1, hP⟩ := zBd (E.box 1 rfl)
 clear B5 ha hm
 go_wp2
 refine bodyPost_ret (v := .tuple #[.agg #[p0, p1], .int .i64 0]) ?_ rfl ⟨_, rfl, E.below, ⟨_, _, rfl, hP, rfl⟩⟩
 simp [results, Tryz.results71, go_sem, c0, c1]

theorem zKw {w : World} {v v' : Value} {a m : Int} (h : Num w v a) (h' : Num w v' m) (ha : ab a < pw 300) (hn : ab m < pw 300) (hm : 0 < m) :
  Calls Tryz.prog 90 #[v, v'] w fun e w' => ∃ v', e = .returned v' ∧ Below w.heap.size w w' ∧ (Fq.tup3 (Fq.num (Int.gcd a m : Int)) (Fq.num (bezU a m)) (Fq.num (bezV a m))).P v' w' := by
 refine (BezoutV h h' ha hn (by omega)).mono fun e w' hh => ?_
 obtain ⟨hb, v1, v2, v3, g, u, x, rfl, h1, h2, h3, rfl, ⟨h4, _⟩ | ⟨_, h5, h6, h7⟩⟩ := hh
 ·omega
 ·rw [zBl (by omega)] at h6
  obtain ⟨rfl, rfl⟩ := zJ4 hm h5 h6 h7
  exact ⟨_, rfl, hb, _, _, _, rfl, h1, h2, h3⟩
theorem zFa {a m : Int} {k : Nat} (hm : 0 < m) (h : ab m < pw k) : ab (bezU a m) < pw k := by
 have h1 := (zD6 (a := a) hm).1
 have h2 := zGd (a := a) hm
 unfold ab at *
 omega

set_option maxRecDepth 100000 in
set_option maxHeartbeats 4000000 in
theorem exInvP {w : World} {v v' : Value} {a m : Int} (h : Num w v a) (h' : Num w v' m) (ha : ab a < pw 300) (hm : ab m < pw 300) (h0 : 0 < m) (hg : Int.gcd a m = 1) :
  Calls Tryz.prog 78 #[v, v'] w fun e w' => ∃ v', e = .returned v' ∧ Below w.heap.size w w' ∧ (Fq.tup2 (Fq.num (bezU a m)) (Fq.is (.int .i64 0))).P v' w' := by
 replace ha := hidd ha
 replace hm := hidd hm
 obtain ⟨n0, ao0, k0, c0, rfl⟩ := h.parts
 obtain ⟨n1, ao1, k1, c1, rfl⟩ := h'.parts
 obtain ⟨w1, b1, hw1, hb1, hs1, E⟩ := zB8 w (F := Fq.num a) (us := [.bool n0, .slice ao0 k0 c0]) 32 rfl (by simp) (zBr _ _ _ _) h
 obtain ⟨w2, b2, hw2, hb2, hs2, E⟩ := fN E hs1 32 h'
 obtain ⟨w3, b3, hw3, hb3, hs3, E⟩ := fZ E hs2 32
 go_enter Tryz.func78, Tryz.ntmps78
 go_upto_region 1 with (fail)
 rw [← hw1]
 rw [← hw2]
 rw [← hw3]
 rw [← hb3]
 rw [← hb2]
 rw [← hb1]
 clear hw1 hw2 hw3 hb1 hb2 hb3 hs3 hs1 hs2
 have T1 : Hid (¬ cmpI m 0 ≤ 0) := fun e => by have := cmpI_le0.1 e; omega
 have HP := hidd h0
 have T2 : Hid (decide ((Int.gcd a m : Int) = 1) = true) := decide_eq_true (by omega)
 clear h0 hg
 refine rg [Fq.num m, Fq.is (.int .i64 (cmpI m 0)), yF] N3 [] E (fun hp => ⟨?_, ?_, ?_, tv⟩) ?_
 ·exact zAz (off := 0) hp fo tv (mq 1 rfl) (.inl rfl) (Nat.le_of_ble_eq_true rfl) (zA2 rfl rfl (fun _ _ => rfl)) (fun us w hl h => zAh hl h)
 ·exact wXa (Fq.num m) hp zCf (sqi 0) fun v w h => zCg h
 ·exact zAf (F := fun v _ => v = .int .i64 (cmpI m 0)) hp fo tv (sqi 1) (fun ρ w hc h => ⟨.bool false, by simp [execOp, go_sem, h, hc, T1.out], rfl⟩)
 intro L vs w4 nb hL hC hn E4
 have e1 := wXi hC 1
 have e2 := wXi hC 2
 have E := E4; simp only [LM, zAb] at E
 rw [zAa hL]
 simp only [SP, Nat.zero_add, Nat.reduceAdd]
 rw [e1, e2]
 generalize vs 0 = u4_0
 clear e1 e2 hC hn E4 hL vs L nb
 clear T1
 go_upto_region 3 with (fail)
 have B5 : Hid (ab ((Int.gcd a m : Int)) < pw 300) := zIg ha.out hm.out (by omega) (by omega)
 have B6 : Hid (ab (bezU a m) < pw 300) := zFa HP.out hm.out
 refine rg [Fq.num a, Fq.num m, Fq.tup3 (Fq.num (Int.gcd a m : Int)) (Fq.num (bezU a m)) (Fq.num (bezV a m)), Fq.tup3 (Fq.num (Int.gcd a m : Int)) (Fq.num (bezU a m)) (Fq.num (bezV a m)), Fq.num (Int.gcd a m : Int), Fq.num (bezU a m), Fq.num (bezV a m), Fq.any, Fq.any, Fq.any, Fq.any, Fq.any, Fq.any] N3 [⟨7, 10, 2, Fq.num 0, Fq.num (Int.gcd a m : Int), none⟩, ⟨8, 11, 2, Fq.num 0, Fq.num (bezU a m), none⟩, ⟨9, 12, 2, Fq.num 0, Fq.num (bezV a m), none⟩] E (fun hp => ⟨?_, ?_, ?_, ?_, ?_, ?_, ?_, ?_, ?_, ?_, ?_, ?_, ?_, tv⟩) ?_
 ·exact zAz (off := 0) hp fo tv (mq 2 rfl) (.inl rfl) (Nat.le_of_ble_eq_true rfl) (zA2 rfl rfl (fun _ _ => rfl)) (fun us w hl h => zAh hl h)
 ·exact zAz (off := 0) hp fo tv (mq 1 rfl) (.inl rfl) (Nat.le_of_ble_eq_true rfl) (zA2 rfl rfl (fun _ _ => rfl)) (fun us w hl h => zAh hl h)
 ·exact wXb (Fq.num a) (Fq.num m) hp zKb (sqi 0) (sqi 1) fun v v' w h h' => zKw h h' (Int.lt_of_lt_of_le ha.out (zAg (by omega))) (Int.lt_of_lt_of_le hm.out (zAg (by omega))) HP.out
 ·exact zAe hp fo tv (sqi 2)
 ·exact zBx hp fo tv (sqi 3) (fun v1 v2 v3 w h1 h2 h3 => ⟨_, rfl, h1⟩)
 ·exact zBx hp fo tv (sqi 3) (fun v1 v2 v3 w h1 h2 h3 => ⟨_, rfl, h2⟩)
 ·exact zBx hp fo tv (sqi 3) (fun v1 v2 v3 w h1 h2 h3 => ⟨_, rfl, h3⟩)
 ·exact aN hp (mq 0 rfl)
 ·exact aN hp (mq 1 rfl)
 ·exact aN hp (mq 2 rfl)
 ·exact sN 4 hp (mq 0 rfl)
 ·exact sN 5 hp (mq 1 rfl)
 ·exact sN 6 hp (mq 2 rfl)
 intro L vs w7 nb hL hC hn E7
 have e7 : vs 7 = .pointer (some ⟨nb 7, 0, none⟩) := hn _ (mq 0 rfl)
 have e8 : vs 8 = .pointer (some ⟨nb 8, 0, none⟩) := hn _ (mq 1 rfl)
 have e9 : vs 9 = .pointer (some ⟨nb 9, 0, none⟩) := hn _ (mq 2 rfl)
 have E := E7; simp only [LM, zAb] at E
 rw [zAa hL]
 simp only [SP, Nat.zero_add, Nat.reduceAdd]
 rw [e7, e8, e9]
 generalize nb 7 = b7_7 at E ⊢
 generalize nb 8 = b7_8 at E ⊢
 generalize nb 9 = b7_9 at E ⊢
 generalize vs 0 = u7_0
 generalize vs 1 = u7_1
 generalize vs 2 = u7_2
 generalize vs 3 = u7_3
 generalize vs 4 = u7_4
 generalize vs 5 = u7_5
 generalize vs 6 = u7_6
 clear e7 e8 e9 hC hn E7 hL vs L nb
 go_upto_region 4 with (fail)
 refine rg [Fq.num (Int.gcd a m : Int), yT, yF] N6 [] E (fun hp => ⟨?_, ?_, ?_, tv⟩) ?_
 ·exact zAz (off := 0) hp fo tv (mq 0 rfl) (.inl rfl) (Nat.le_of_ble_eq_true rfl) (zA2 rfl rfl (fun _ _ => rfl)) (fun us w hl h => zAh hl h)
 ·exact wXa (Fq.num (Int.gcd a m : Int)) hp zKd (sqi 0) fun v w h => zK1 h T2.out
 ·exact zAf (F := fun v _ => v = .bool true) hp fo tv (sqi 1) (fun ρ w _ h => ⟨.bool false, by simp [execOp, go_sem, h], rfl⟩)
 intro L vs w8 nb hL hC hn E8
 have e1 := wXi hC 1
 have e2 := wXi hC 2
 have E := E8; simp only [LM, zAb] at E
 rw [zAa hL]
 simp only [SP, Nat.zero_add, Nat.reduceAdd]
 rw [e1, e2]
 generalize vs 0 = u8_0
 clear e1 e2 hC hn E8 hL vs L nb
 clear T2
 go_upto_region 6 with (fail)
 refine rg [Fq.num (bezU a m), Fq.any, Fq.is (.int .i64 0)] [none, none, none, some (1, Fq.num (bezU a m)), none, none] [] E (fun hp => ⟨?_, ?_, ?_, tv⟩) ?_
 ·exact zAz (off := 0) hp fo tv (mq 1 rfl) (.inl rfl) (Nat.le_of_ble_eq_true rfl) (zA2 rfl rfl (fun _ _ => rfl)) (fun us w hl h => zAh hl h)
 ·exact zDp hp (mq 3 rfl) rfl rfl (zA2 rfl rfl (fun _ _ => rfl)) (zB9 0 rfl rfl (by simp) rfl (fun v w h => zDg h)) (fun _ _ => trivial) (zBw rfl)
 ·exact zAo hp fo tv (zAl (fun _ => rfl))
 intro L vs w9 nb hL hC hn E9
 have e2 := wXi hC 2
 have E := E9; simp only [LM, zAb] at E
 rw [zAa hL]
 simp only [SP, Nat.zero_add, Nat.reduceAdd]
 rw [e2]
 generalize vs 0 = u9_0
 clear e2 hC hn E9 hL vs L nb
 clear HP
 obtain ⟨p0, p1, c0, c1, hP⟩ := zBd (E.box 3 rfl)
 clear B5 B6 ha hm
 go_wp2
 refine bodyPost_ret (v := .tuple #[.agg #[p0, p1], .int .i64 0]) ?_ rfl ⟨_, rfl, E.below, ⟨_, _, rfl, hP, rfl⟩⟩
 simp [results, Tryz.results78, go_sem, c0, c1]

set_option maxRecDepth 100000 in
set_option maxHeartbeats 4000000 in
theorem exInvN {w : World} {v v' : Value} {a m : Int} (h : Num w v a) (h' : Num w v' m) (ha : ab a < pw 300) (hm : ab m < pw 300) (h0 : 0 < m) (hg : Int.gcd a m ≠ 1) :
  Calls Tryz.prog 78 #[v, v'] w fun e w' => ∃ v', e = .returned v' ∧ Below w.heap.size w w' ∧ (Fq.tup2 (Fq.num 0) (Fq.is (.int .i64 4))).P v' w' := by
 replace ha := hidd ha
 replace hm := hidd hm
 obtain ⟨n0, ao0, k0, c0, rfl⟩ := h.parts
 obtain ⟨n1, ao1, k1, c1, rfl⟩ := h'.parts
 obtain ⟨w1, b1, hw1, hb1, hs1, E⟩ := zB8 w (F := Fq.num a) (us := [.bool n0, .slice ao0 k0 c0]) 32 rfl (by simp) (zBr _ _ _ _) h
 obtain ⟨w2, b2, hw2, hb2, hs2, E⟩ := fN E hs1 32 h'
 obtain ⟨w3, b3, hw3, hb3, hs3, E⟩ := fZ E hs2 32
 go_enter Tryz.func78, Tryz.ntmps78
 go_upto_region 1 with (fail)
 rw [← hw1]
 rw [← hw2]
 rw [← hw3]
 rw [← hb3]
 rw [← hb2]
 rw [← hb1]
 clear hw1 hw2 hw3 hb1 hb2 hb3 hs3 hs1 hs2
 have T1 : Hid (¬ cmpI m 0 ≤ 0) := fun e => by have := cmpI_le0.1 e; omega
 have HP := hidd h0
 have T2 : Hid (decide ((Int.gcd a m : Int) = 1) = false) := decide_eq_false (by omega)
 clear h0 hg
 refine rg [Fq.num m, Fq.is (.int .i64 (cmpI m 0)), yF] N3 [] E (fun hp => ⟨?_, ?_, ?_, tv⟩) ?_
 ·exact zAz (off := 0) hp fo tv (mq 1 rfl) (.inl rfl) (Nat.le_of_ble_eq_true rfl) (zA2 rfl rfl (fun _ _ => rfl)) (fun us w hl h => zAh hl h)
 ·exact wXa (Fq.num m) hp zCf (sqi 0) fun v w h => zCg h
 ·exact zAf (F := fun v _ => v = .int .i64 (cmpI m 0)) hp fo tv (sqi 1) (fun ρ w hc h => ⟨.bool false, by simp [execOp, go_sem, h, hc, T1.out], rfl⟩)
 intro L vs w4 nb hL hC hn E4
 have e1 := wXi hC 1
 have e2 := wXi hC 2
 have E := E4; simp only [LM, zAb] at E
 rw [zAa hL]
 simp only [SP, Nat.zero_add, Nat.reduceAdd]
 rw [e1, e2]
 generalize vs 0 = u4_0
 clear e1 e2 hC hn E4 hL vs L nb
 clear T1
 go_upto_region 3 with (fail)
 have B5 : Hid (ab ((Int.gcd a m : Int)) < pw 300) := zIg ha.out hm.out (by omega) (by omega)
 have B6 : Hid (ab (bezU a m) < pw 300) := zFa HP.out hm.out
 refine rg [Fq.num a, Fq.num m, Fq.tup3 (Fq.num (Int.gcd a m : Int)) (Fq.num (bezU a m)) (Fq.num (bezV a m)), Fq.tup3 (Fq.num (Int.gcd a m : Int)) (Fq.num (bezU a m)) (Fq.num (bezV a m)), Fq.num (Int.gcd a m : Int), Fq.num (bezU a m), Fq.num (bezV a m), Fq.any, Fq.any, Fq.any, Fq.any, Fq.any, Fq.any] N3 [⟨7, 10, 2, Fq.num 0, Fq.num (Int.gcd a m : Int), none⟩, ⟨8, 11, 2, Fq.num 0, Fq.num (bezU a m), none⟩, ⟨9, 12, 2, Fq.num 0, Fq.num (bezV a m), none⟩] E (fun hp => ⟨?_, ?_, ?_, ?_, ?_, ?_, ?_, ?_, ?_, ?_, ?_, ?_, ?_, tv⟩) ?_
 ·exact zAz (off := 0) hp fo tv (mq 2 rfl) (.inl rfl) (Nat.le_of_ble_eq_true rfl) (zA2 rfl rfl (fun _ _ => rfl)) (fun us w hl h => zAh hl h)
 ·exact zAz (off := 0) hp fo tv (mq 1 rfl) (.inl rfl) (Nat.le_of_ble_eq_true rfl) (zA2 rfl rfl (fun _ _ => rfl)) (fun us w hl h => zAh hl h)
 ·exact wXb (Fq.num a) (Fq.num m) hp zKb (sqi 0) (sqi 1) fun v v' w h h' => zKw h h' (Int.lt_of_lt_of_le ha.out (zAg (by omega))) (Int.lt_of_lt_of_le hm.out (zAg (by omega))) HP.out
 ·exact zAe hp fo tv (sqi 2)
 ·exact zBx hp fo tv (sqi 3) (fun v1 v2 v3 w h1 h2 h3 => ⟨_, rfl, h1⟩)
 ·exact zBx hp fo tv (sqi 3) (fun v1 v2 v3 w h1 h2 h3 => ⟨_, rfl, h2⟩)
 ·exact zBx hp fo tv (sqi 3) (fun v1 v2 v3 w h1 h2 h3 => ⟨_, rfl, h3⟩)
 ·exact aN hp (mq 0 rfl)
 ·exact aN hp (mq 1 rfl)
 ·exact aN hp (mq 2 rfl)
 ·exact sN 4 hp (mq 0 rfl)
 ·exact sN 5 hp (mq 1 rfl)
 ·exact sN 6 hp (mq 2 rfl)
 intro L vs w7 nb hL hC hn E7
 have e7 : vs 7 = .pointer (some ⟨nb 7, 0, none⟩) := hn _ (mq 0 rfl)
 have e8 : vs 8 = .pointer (some ⟨nb 8, 0, none⟩) := hn _ (mq 1 rfl)
 have e9 : vs 9 = .pointer (some ⟨nb 9, 0, none⟩) := hn _ (mq 2 rfl)
 have E := E7; simp only [LM, zAb] at E
 rw [zAa hL]
 simp only [SP, Nat.zero_add, Nat.reduceAdd]
 rw [e7, e8, e9]
 generalize nb 7 = b7_7 at E ⊢
 generalize nb 8 = b7_8 at E ⊢
 generalize nb 9 = b7_9 at E ⊢
 generalize vs 0 = u7_0
 generalize vs 1 = u7_1
 generalize vs 2 = u7_2
 generalize vs 3 = u7_3
 generalize vs 4 = u7_4
 generalize vs 5 = u7_5
 generalize vs 6 = u7_6
 clear e7 e8 e9 hC hn E7 hL vs L nb
 go_upto_region 4 with (fail)
 refine rg [Fq.num (Int.gcd a m : Int), yF, yT] N6 [] E (fun hp => ⟨?_, ?_, ?_, tv⟩) ?_
 ·exact zAz (off := 0) hp fo tv (mq 0 rfl) (.inl rfl) (Nat.le_of_ble_eq_true rfl) (zA2 rfl rfl (fun _ _ => rfl)) (fun us w hl h => zAh hl h)
 ·exact wXa (Fq.num (Int.gcd a m : Int)) hp zKd (sqi 0) fun v w h => zK1 h T2.out
 ·exact zAf (F := fun v _ => v = .bool false) hp fo tv (sqi 1) (fun ρ w _ h => ⟨.bool true, by simp [execOp, go_sem, h], rfl⟩)
 intro L vs w8 nb hL hC hn E8
 have e1 := wXi hC 1
 have e2 := wXi hC 2
 have E := E8; simp only [LM, zAb] at E
 rw [zAa hL]
 simp only [SP, Nat.zero_add, Nat.reduceAdd]
 rw [e1, e2]
 generalize vs 0 = u8_0
 clear e1 e2 hC hn E8 hL vs L nb
 clear T2
 go_upto_region 5 with (fail)
 refine rg [Fq.num 0, Fq.any, Fq.is (.int .i64 4)] [none, none, none, some (1, Fq.num 0), none, none] [] E (fun hp => ⟨?_, ?_, ?_, tv⟩) ?_
 ·exact zCx hp fo tv (fun w => Num.zero w)
 ·exact zDp hp (mq 3 rfl) rfl rfl (zA2 rfl rfl (fun _ _ => rfl)) (zB9 0 rfl rfl (by simp) rfl (fun v w h => zDg h)) (fun _ _ => trivial) (zBw rfl)
 ·exact zAo hp fo tv (zAl (fun _ => rfl))
 intro L vs w9 nb hL hC hn E9
 have e2 := wXi hC 2
 have E := E9; simp only [LM, zAb] at E
 rw [zAa hL]
 simp only [SP, Nat.zero_add, Nat.reduceAdd]
 rw [e2]
 generalize vs 0 = u9_0
 clear e2 hC hn E9 hL vs L nb
 clear HP
 obtain ⟨p0, p1, c0, c1, hP⟩ := zBd (E.box 3 rfl)
 clear B5 B6 ha hm
 go_wp2
 refine bodyPost_ret (v := .tuple #[.agg #[p0, p1], .int .i64 4]) ?_ rfl ⟨_, rfl, E.below, ⟨_, _, rfl, hP, rfl⟩⟩
 simp [results, Tryz.results78, go_sem, c0, c1]

theorem zAm : rowB 34 6 = true := by kernel_rfl
theorem zE1 : zDa 34 6 = true := by kernel_rfl
theorem zEg (w : World) : Fits w [.n 0, .n 0, .n 0] [.bool false, .slice none 0 0, .bool false, .slice none 0 0, .bool false, .slice none 0 0] := ⟨_, _, _, rfl, Num.zero w, _, _, _, rfl, Num.zero w, _, _, _, rfl, Num.zero w, rfl⟩
theorem zN5 (w : World) : (Fq.st [.n 0, .n 0, .n 0]).P (.agg ([.bool false, .slice none 0 0, .bool false, .slice none 0 0, .bool false, .slice none 0 0] : List Value).toArray) w := ⟨_, rfl, zEg w⟩
theorem zG0 {d : Option Tmp} {ty : TypeId} {ps : String} {af : Array Edge} (ρ : Operand → Value) (w : World) : (execOp ρ { dst := d, op := .alloc 34, type := ty, pos := ps, after := af, guard := none }).run Tryz.prog w = .ok (.value (.pointer (some ⟨w.heap.size, 0, none⟩))) (w.alloc (.cells [.bool false, .slice none 0 0, .bool false, .slice none 0 0, .bool false, .slice none 0 0].toArray 34)) := by
 simp [execOp, go_sem]
theorem zAk : rowB 36 5 = true := by kernel_rfl
theorem zAy : zDa 36 5 = true := by kernel_rfl
theorem zA1 (w : World) : Fits w [.n 0, .n 0, .v (.bool false)] [.bool false, .slice none 0 0, .bool false, .slice none 0 0, .bool false] := ⟨_, _, _, rfl, Num.zero w, _, _, _, rfl, Num.zero w, _, rfl, rfl, rfl⟩
theorem zN6 (w : World) : (Fq.st [.n 0, .n 0, .v (.bool false)]).P (.agg ([.bool false, .slice none 0 0, .bool false, .slice none 0 0, .bool false] : List Value).toArray) w := ⟨_, rfl, zA1 w⟩
theorem zC9 {d : Option Tmp} {ty : TypeId} {ps : String} {af : Array Edge} (ρ : Operand → Value) (w : World) : (execOp ρ { dst := d, op := .alloc 36, type := ty, pos := ps, after := af, guard := none }).run Tryz.prog w = .ok (.value (.pointer (some ⟨w.heap.size, 0, none⟩))) (w.alloc (.cells [.bool false, .slice none 0 0, .bool false, .slice none 0 0, .bool false].toArray 36)) := by
 simp [execOp, go_sem]
theorem zAd : rowB 32 2 = true := by kernel_rfl
theorem zG2 : zDa 42 1 = true := by kernel_rfl
theorem exAbsN {w : World} {v : Value} {z : Int} (h : Num w v z) (hz : ab z < pw 40) (h0 : 0 ≤ z) : Calls Tryz.prog 58 #[v] w fun e w' => ∃ v', e = .returned v' ∧ Below w.heap.size w w' ∧ Num w' v' z := by
 have e : (z.natAbs : Int) = z := by omega
 have := exK (AbsV h) (k := 40) (by rw [e]; exact hz) (by omega)
 rw [e] at this
 exact this
section
variable {os : List Oper} {Q : Exit → Act → World → Prop} {a : Act} {p : Pq} {B B0 : Nat} {w0 : World}
variable {i s : Nat} {d : Option Tmp} {ty : TypeId} {ps : String} {af : Array Edge} {gd : Option (Nat × Bool)}
theorem zL2 {x0 : Operand} {z0 : Int} {x1 : Operand} {z1 : Int} {x2 : Operand} {u2 : Bool} (hp : p.Ok B B0) (hF : p.Free i) (hg : GdQ os a p B B0 w0 af gd) (h0 : SrcQ os a p B B0 w0 af x0 fun v w => Num w v z0) (h1 : SrcQ os a p B B0 w0 af x1 fun v w => Num w v z1) (h2 : SrcQ os a p B B0 w0 af x2 fun v _ => v = .bool u2) (hC : ∀ v w, (Fq.st [.n z0, .n z1, .v (.bool u2)]).P v w → (p.c i).P v w) :
  zAr os Q a p B B0 w0 i { dst := d, op := .build 36 #[(0, x0), (1, x1), (2, x2)], type := ty, pos := ps, after := af, guard := gd } := by
 refine zBk hp hF hg fun L vs w hG hL hc hd => ?_
 have g0 := h0 L vs w hG hd
 obtain ⟨n0, ao0, k0, c0, e0⟩ := g0.parts
 have m0 : Num w (.agg #[.bool n0, .slice ao0 k0 c0]) z0 := by rw [← e0]; exact g0
 have g1 := h1 L vs w hG hd
 obtain ⟨n1, ao1, k1, c1, e1⟩ := g1.parts
 have m1 : Num w (.agg #[.bool n1, .slice ao1 k1 c1]) z1 := by rw [← e1]; exact g1
 have g2 := h2 L vs w hG hd
 refine ⟨.agg #[.bool n0, .slice ao0 k0 c0, .bool n1, .slice ao1 k1 c1, .bool u2], ?_, hC _ _ ⟨_, rfl, _, _, _, rfl, m0, _, _, _, rfl, m1, _, rfl, rfl, rfl⟩⟩
 generalize (lay os.toArray L vs os.toArray.size a).eval = ρ at e0 e1 g2
 simp [execOp, go_sem, e0, e1, g2]
end
set_option maxRecDepth 100000 in
set_option maxHeartbeats 4000000 in
theorem zFm {w : World} {v v' : Value} {a m : Int} (h : Num w v a) (h' : Num w v' m) (ha : ab a < pw 40) (hm : ab m < pw 40) (h0 : 0 < m) :
  Calls Tryz.prog 49 #[v, v'] w fun e w' => ∃ v', e = .returned v' ∧ Below w.heap.size w w' ∧ Num w' v' (a % m) := by
 replace ha := hidd ha
 replace hm := hidd hm
 replace h0 := hidd h0
 obtain ⟨n0, ao0, k0, c0, rfl⟩ := h.parts
 obtain ⟨n1, ao1, k1, c1, rfl⟩ := h'.parts
 obtain ⟨w1, b1, hw1, hb1, hs1, E⟩ := zB8 w (F := Fq.num a) (us := [.bool n0, .slice ao0 k0 c0]) 32 rfl (by simp) (zBr _ _ _ _) h
 obtain ⟨w2, b2, hw2, hb2, hs2, E⟩ := fN E hs1 32 h'
 obtain ⟨w3, b3, hw3, hb3, hs3, E⟩ := fZ E hs2 32
 go_enter Tryz.func49, Tryz.ntmps49
 go_upto_region 1 with (fail)
 rw [← hw1]
 rw [← hw2]
 rw [← hw3]
 rw [← hb3]
 rw [← hb2]
 rw [← hb1]
 clear hw1 hw2 hw3 hb1 hb2 hb3 hs3 hs1 hs2
 refine rg [Fq.num a, Fq.num m, Fq.tup2 (Fq.num (a % m)) (Fq.is (.int .i64 0)), Fq.tup2 (Fq.num (a % m)) (Fq.is (.int .i64 0)), Fq.num (a % m), Fq.is (.int .i64 0), Fq.any, Fq.any, Fq.is (.int .i64 0)] N3 [⟨6, 7, 2, Fq.num 0, Fq.num (a % m), none⟩] E (fun hp => ⟨?_, ?_, ?_, ?_, ?_, ?_, ?_, ?_, ?_, tv⟩) ?_
 ·exact lI 0 hp (mq 2 rfl) (sqo 2) fun us w hl h => zAh hl h
 ·exact lI 0 hp (mq 1 rfl) (sqo 3) fun us w hl h => zAh hl h
 ·exact wXb (Fq.num a) (Fq.num m) hp enq_M_Mod (sqi 0) (sqi 1) fun v v' w h h' => exModP h h' (Int.lt_of_lt_of_le ha.out (zAg (by omega))) (Int.lt_of_lt_of_le hm.out (zAg (by omega))) h0.out
 ·exact zAe hp fo tv (sqi 2)
 ·exact zA5 hp fo tv (sqi 3) (fun v1 v2 w h1 h2 => ⟨_, rfl, h1⟩)
 ·exact zA5 hp fo tv (sqi 3) (fun v1 v2 w h1 h2 => ⟨_, rfl, h2⟩)
 ·exact aN hp (mq 0 rfl)
 ·exact sN 4 hp (mq 0 rfl)
 ·exact zAo hp fo tv (sqi 5)
 intro L vs w4 nb hL hC hn E4
 have e5 := wXi hC 5
 have e8 := wXi hC 8
 have e6 : vs 6 = .pointer (some ⟨nb 6, 0, none⟩) := hn _ (mq 0 rfl)
 have E := E4; simp only [LM, zAb] at E
 rw [zAa hL]
 simp only [SP, Nat.zero_add, Nat.reduceAdd]
 rw [e5, e8, e6]
 generalize nb 6 = b4_6 at E ⊢
 generalize vs 0 = u4_0
 generalize vs 1 = u4_1
 generalize vs 2 = u4_2
 generalize vs 3 = u4_3
 generalize vs 4 = u4_4
 clear e5 e8 e6 hC hn E4 hL vs L nb
 go_upto_region 2 with (fail)
 refine rg [Fq.num (a % m), Fq.any] [none, some (1, Fq.num (a % m)), none, none] [] E (fun hp => ⟨?_, ?_, tv⟩) ?_
 ·exact lI 0 hp (mq 0 rfl) (sqo 5) fun us w hl h => zAh hl h
 ·exact sP 0 hp (mq 1 rfl) (sqo 4)
 intro L vs w5 nb hL hC hn E5
 have E := E5; simp only [LM, zAb] at E
 rw [zAa hL]
 simp only [SP, Nat.zero_add, Nat.reduceAdd]
 generalize vs 0 = u5_0
 clear  hC hn E5 hL vs L nb
 clear h0
 obtain ⟨p0_0, p0_1, c0_0, c0_1, hP0⟩ := zBd (E.box 1 rfl)
 clear ha hm
 go_wp2
 refine bodyPost_ret (v := .agg #[p0_0, p0_1]) ?_ rfl ⟨_, rfl, E.below, hP0⟩
 simp [results, Tryz.results49, go_sem, c0_0, c0_1]

set_option maxRecDepth 100000 in
set_option maxHeartbeats 4000000 in
theorem zKx {w : World} {v : Value} {x y : Int} {i : Bool} (h : (Fq.st [.n x, .n y, .v (.bool i)]).P v w) (hx : ab x < pw 40) (hy : ab y < pw 40) (hx0 : 0 ≤ x) (hy0 : 0 ≤ y) :
  Calls Tryz.prog 76 #[v] w fun e w' => ∃ v', e = .returned v' ∧ Below w.heap.size w w' ∧ (Fq.st [.n x, .n y, .v (.bool i)]).P v' w' := by
 replace hx := hidd hx
 replace hy := hidd hy
 obtain ⟨_, rfl, hf0⟩ := h
 have hF0 := hf0
 obtain ⟨y0_p0, y0_q0, _, rfl, _y0_n0, y0_p1, y0_q1, _, rfl, _y0_n1, _, rfl, _, rfl⟩ := hf0
 obtain ⟨w1, b1, hw1, hb1, hs1, E⟩ := gS w 36 hF0
 obtain ⟨w2, b2, hw2, hb2, hs2, E⟩ := fO E hs1 36 zA1
 go_enter Tryz.func76, Tryz.ntmps76
 go_upto_region 1 with (fail)
 rw [← hw1]
 rw [← hw2]
 rw [← hb2]
 rw [← hb1]
 clear hw1 hw2 hb1 hb2 hs2 hs1
 replace hx0 := hidd hx0
 replace hy0 := hidd hy0
 refine rg [ip b1 0, Fq.num x, Fq.num x, ip b1 2, Fq.num y, Fq.num y, ip b1 4, Fq.is (.bool i), Fq.st [.n x, .n y, .v (.bool i)], Fq.any] [some (9, Fq.st [.n x, .n y, .v (.bool i)]), none] [] E (fun hp => ⟨?_, ?_, ?_, ?_, ?_, ?_, ?_, ?_, ?_, ?_, tv⟩) ?_
 ·exact qa b1 0 0 hp (sqo 1)
 ·exact lN 0 2 hp (mq 1 rfl) zAd (sqi 0)
 ·exact wXa (Fq.num x) hp zIr (sqi 1) fun v w h => exAbsN h hx.out hx0.out
 ·exact qa b1 0 2 hp (sqo 1)
 ·exact lN 2 2 hp (mq 1 rfl) zAd (sqi 3)
 ·exact wXa (Fq.num y) hp zIr (sqi 4) fun v w h => exAbsN h hy.out hy0.out
 ·exact qa b1 0 4 hp (sqo 1)
 ·exact wXc 4 hp (mq 1 rfl) (sqi 6)
 ·exact zL2 (z0 := x) (z1 := y) (u2 := i) hp fo tv (sqi 2) (sqi 5) (sqi 7) (fun v w h => h)
 ·exact sO 0 8 hp (mq 0 rfl) zAy (sqo 2)
 intro L vs w3 nb hL hC hn E3
 have e0 := wXi hC 0
 have e3 := wXi hC 3
 have e6 := wXi hC 6
 have e7 := wXi hC 7
 have E := E3; simp only [LM, zAb] at E
 rw [zAa hL]
 simp only [SP, Nat.zero_add, Nat.reduceAdd]
 rw [e0, e3, e6, e7]
 generalize vs 1 = u3_1
 generalize vs 2 = u3_2
 generalize vs 4 = u3_4
 generalize vs 5 = u3_5
 generalize vs 8 = u3_8
 clear e0 e3 e6 e7 hC hn E3 hL vs L nb
 clear hx0 hy0
 obtain ⟨_, _, hc0, hf0⟩ := zAu (E.box 0 rfl)
 have hP0 := hf0
 obtain ⟨r0_p0, r0_q0, _, rfl, _r0_n0, r0_p1, r0_q1, _, rfl, _r0_n1, _, rfl, _, rfl⟩ := hf0
 have c0_0 := hc0 0 (by simp)
 have c0_1 := hc0 1 (by simp)
 have c0_2 := hc0 2 (by simp)
 have c0_3 := hc0 3 (by simp)
 have c0_4 := hc0 4 (by simp)
 simp only [List.getD_cons_zero, List.getD_cons_succ] at c0_0 c0_1 c0_2 c0_3 c0_4
 clear hc0
 clear hx hy
 go_wp2
 refine bodyPost_ret (v := .agg #[r0_p0, r0_q0, r0_p1, r0_q1, .bool i]) ?_ rfl ⟨_, rfl, E.below, ⟨_, rfl, hP0⟩⟩
 simp [results, Tryz.results76, go_sem, c0_0, c0_1, c0_2, c0_3, c0_4]

def FiveAt (zs : List Int) (g : Nat) (w : World) : Prop :=
 g < w.heap.size ∧ ∀ j, j < 5 → ∃ (n : Bool) (ao : Option Addr) (k c : Nat), w.cell? ⟨g, 2 * j, none⟩ = some (.bool n) ∧ w.cell? ⟨g, 2 * j + 1, none⟩ = some (.slice ao k c) ∧ Num w (.agg #[.bool n, .slice ao k c]) (zs.getD j 0)

theorem FiveAt.mono {zs : List Int} {g : Nat} {w w' : World} (h : FiveAt zs g w) (hb : Below w.heap.size w w') : FiveAt zs g w' := by
 refine ⟨Nat.lt_of_lt_of_le h.1 hb.size, fun j hj => ?_⟩
 obtain ⟨n, ao, k, c, h1, h2, h3⟩ := h.2 j hj
 exact ⟨n, ao, k, c, (hb.cell (p := ⟨g, 2 * j, none⟩) h.1).trans h1, (hb.cell (p := ⟨g, 2 * j + 1, none⟩) h.1).trans h2, h3.mono hb⟩

section
variable {os : List Oper} {Q : Exit → Act → World → Prop} {a : Act} {p : Plan} {B B0 : Nat} {w0 : World}
variable {i s : Nat} {d : Option Tmp} {ty : TypeId} {ps : String} {af : Array Edge} {gd : Option (Nat × Bool)}

end

theorem zO3 {neg : Bool} {xs : List Int} (hc : Canon xs) (hn : neg = true → xs.length ≠ 0) : zG5 neg xs = true := by
 unfold zG5
 by_cases h : xs.length = 0
 ·rw [if_pos h]
  cases neg with
  | false => rfl
  | true => exact absurd h (hn rfl)
 ·rw [if_neg h]
  have h1 : pw (xs.length - 1) ≤ val xs := hc.2.resolve_left h
  have h2 := zAw xs (xs.length - 1)
  rw [show xs.length - 1 + 1 = xs.length by omega, List.take_length] at h2
  have h3 := zBc (hc.1.take (xs.length - 1))
  rw [List.length_take, Nat.min_eq_left (by omega)] at h3
  simp only [bne_iff_ne, ne_eq]
  intro h0
  rw [h0, Int.mul_zero] at h2
  omega

theorem exValid {w : World} {n : Bool} {ao : Option Addr} {k c : Nat} {z : Int} (h : Num w (.agg #[.bool n, .slice ao k c]) z) : Calls Tryz.prog 41 #[.agg #[.bool n, .slice ao k c]] w fun e w' => e = .returned (.bool true) ∧ Below w.heap.size w w' := by
 obtain ⟨neg, ao', k', c', xs, hv, hs, hn, hz, hc, hnn⟩ := h
 obtain ⟨rfl, rfl, rfl, rfl⟩ : n = neg ∧ ao = ao' ∧ k = k' ∧ c = c' := by
  simp at hv; exact ⟨hv.1, hv.2.1, hv.2.2.1, hv.2.2.2⟩
 have := Valid_any w n ao k c xs hs (by omega)
 rw [zO3 hc (by rw [hs.len]; exact hnn)] at this
 exact this

end Go.Proofs.YtihhlaagndingaaGreat

namespace Go.Proofs.YtihhlaagndingaaGreat
open Go Go.RowKit

theorem zJ7 {v : Int} {m m' : Nat} (h : zCp v m) (h' : zCp v m') : m = m' := by
 rcases h with ⟨h1, h2⟩ | ⟨h1, h2, h3⟩ <;> rcases h' with ⟨h4, h5⟩ | ⟨h4, h5, h6⟩
 ·omega
 ·have := zCb (m' - 1); omega
 ·have := zCb (m - 1); omega
 ·rcases Nat.lt_trichotomy m m' with h | h | h
  ·have := zH9 (show m ≤ m' - 1 by omega); omega
  ·exact h
  ·have := zH9 (show m' ≤ m - 1 by omega); omega

theorem RBitsV {w : World} {v : Value} {z : Int} (h : Num w v z) : Calls Tryz.prog 37 #[v] w fun e w' => ∃ m : Nat, e = .returned (.int .i64 m) ∧ zCp (ab z) m ∧ m ≤ 28800000 ∧ Below w.heap.size w w' := by
 obtain ⟨neg, ao, n, c, xs, rfl, hs, hn, rfl, hc, _⟩ := h
 refine (zJl _ _ _ _ _ _ hs hc (by omega)).mono fun e w' hh => ?_
 obtain ⟨m, rfl, hm, hm2, hb⟩ := hh
 exact ⟨m, rfl, by rw [zDv, zBl (zAx hs.digs)]; exact hm, by omega, hb⟩

end Go.Proofs.YtihhlaagndingaaGreat

namespace Go.Proofs.YtihhlaagndingaaGreat
open Go Go.RowKit

end Go.Proofs.YtihhlaagndingaaGreat

namespace Go.Proofs.YtihhlaagndingaaGreat
open Go Go.RowKit

theorem zGm {w : World} {v v' : Value} {z z' : Int} (h : Num w v z) (h' : Num w v' z') : Calls Tryz.prog 50 #[v, v'] w fun e w' => ∃ v', e = .returned v' ∧ Below w.heap.size w w' ∧ v' = .int .i64 (cmpI z z') :=
 (RCmpV h h').mono fun _ _ hh => ⟨_, hh.1, hh.2, rfl⟩

def Fc.sz (V : Int) : Fc := ⟨fun v w => ∃ (ao : Option Addr) (l c : Nat) (zs : List Int), v = .slice ao l c ∧ Sl w ao l c zs ∧ l ≤ 3000000 ∧ val zs = V,
 fun ⟨ao, l, c, zs, e, h, h1, h2⟩ hb => ⟨ao, l, c, zs, e, h.mono hb, h1, h2⟩, fun ⟨ao, l, c, zs, e, h, h1, h2⟩ hb n' a' k' c' => by
 obtain ⟨p, q, r, t, hI, _⟩ := hb
 exact ⟨ao, l, c, zs, e, h.putBox hI n' a' k' c', h1, h2⟩⟩

theorem zMy {xs : List Int} (hd : Digs xs) {k r : Nat} (hk : k < xs.length) (hr : r < 32) : (val xs / 2 ^ (32 * k + r)) % 2 = (xs.getD k 0 / 2 ^ r) % 2 := by
 have h1 := zCk xs (k := k) (by omega)
 have h2 := zDj xs hk
 have h3 := zBc (hd.take k)
 have h4 := zAx (hd.take k)
 rw [List.length_take, Nat.min_eq_left (by omega)] at h3
 rw [Int.pow_add, ← zCv, ← Int.ediv_ediv_of_nonneg (by have := zBh k; omega)]
 have e1 : val xs / pw k = xs.getD k 0 + 4294967296 * val (xs.drop (k + 1)) := by
  rw [h1, Int.add_mul_ediv_left _ _ (by have := zBh k; omega), Int.ediv_eq_zero_of_lt h4 h3, Int.zero_add, h2]
 rw [e1]
 have e2 : (4294967296 : Int) = 2 ^ r * 2 ^ (32 - r) := by rw [← Int.pow_add, show r + (32 - r) = 32 by omega]; rfl
 obtain ⟨m, hm⟩ : ∃ m, 32 - r = m + 1 := ⟨31 - r, by omega⟩
 rw [e2, hm, Int.mul_assoc, Int.add_mul_ediv_left _ _ (by have := zCb r; omega), zFw, Int.mul_assoc, Int.mul_left_comm, Int.add_mul_emod_self_left]

theorem and_one (x : Int) (h0 : 0 ≤ x) (h1 : x < 4294967296) : bits .and .u32 x 1 = x % 2 := by
 obtain ⟨n, rfl⟩ := Int.eq_ofNat_of_zero_le h0
 have hn : n < 4294967296 := by omega
 have h2 : (BitVec.ofInt 32 ((n : Nat) : Int)).toNat = n := by rw [BitVec.ofInt_natCast, BitVec.toNat_ofNat]; exact Nat.mod_eq_of_lt (by omega)
 show IntKind.u32.wrap (((BitVec.ofInt 32 (n : Int)) &&& (BitVec.ofInt 32 1)).toNat : Int) = _
 rw [BitVec.toNat_and, h2]
 have h3 : (BitVec.ofInt 32 1).toNat = 1 := rfl
 rw [h3, Nat.and_one_is_mod]
 simp only [IntKind.wrap, IntKind.bits, IntKind.signed]
 simp
 omega

def zAp (z : Int) : Nat := if z = 0 then 0 else z.natAbs.log2 + 1
theorem zI7 (z : Int) : zCp (ab z) (zAp z) := by
 unfold zAp zCp ab
 by_cases h : z = 0
 ·rw [if_pos h, h]; exact .inl ⟨rfl, rfl⟩
 ·rw [if_neg h]
  right
  have h0 : z.natAbs ≠ 0 := by omega
  have h1 := Nat.log2_self_le h0
  have h2 := Nat.lt_log2_self (n := z.natAbs)
  refine ⟨by omega, ?_, ?_⟩
  ·rw [show z.natAbs.log2 + 1 - 1 = z.natAbs.log2 by omega]
   exact_mod_cast h1
  ·exact_mod_cast h2
theorem zH1 {z : Int} {k : Nat} (h : ab z < pw k) : zAp z ≤ 32 * k := by
 rcases zI7 z with ⟨_, h2⟩ | ⟨h1, h2, _⟩
 ·omega
 ·rw [zCv] at h
  by_cases hc : zAp z ≤ 32 * k
  ·exact hc
  ·exfalso
   have h3 : (2 : Int) ^ (32 * k) ≤ 2 ^ (zAp z - 1) := zH9 (by omega)
   omega
theorem exBits {w : World} {v : Value} {z : Int} (h : Num w v z) : Calls Tryz.prog 82 #[v] w fun e w' => ∃ v', e = .returned v' ∧ Below w.heap.size w w' ∧ v' = .int .i64 ((zAp z : Nat) : Int) := by
 obtain ⟨neg, ao, n, c, xs, rfl, hs, hn, rfl, hc, _⟩ := h
 refine (Bits_any _ _ _ _ _ _ hs (by omega)).mono fun e w' hh => ?_
 obtain ⟨m, rfl, hm, _, hb⟩ := hh
 refine ⟨_, rfl, hb, ?_⟩
 have h2 := zI7 (sgn neg (val xs))
 rw [zDv, zBl (zAx hs.digs)] at h2
 rw [zJ7 hm h2]
theorem zC5 {i : Nat} : (intOf (.int .i64 ((i : Int) - 1)) + 1).toNat < (intOf (.int .i64 (i : Int)) + 1).toNat := by simp [intOf]
theorem zEo (args : Array Value) (w : World) : (callFunc 45 args).run Tryz.prog w = .ok (.enter 45 args) w := zAn Tryz.func45 (by kernel_rfl) rfl args w
theorem zEc (args : Array Value) (w : World) : (callFunc 44 args).run Tryz.prog w = .ok (.enter 44 args) w := zAn Tryz.func44 (by kernel_rfl) rfl args w
theorem zKo (args : Array Value) (w : World) : (callFunc 23 args).run Tryz.prog w = .ok (.enter 23 args) w := zAn Tryz.func23 (by kernel_rfl) rfl args w
theorem zNi (args : Array Value) (w : World) : (callFunc 24 args).run Tryz.prog w = .ok (.enter 24 args) w := zAn Tryz.func24 (by kernel_rfl) rfl args w
theorem zB3 (args : Array Value) (w : World) : (callFunc 7 args).run Tryz.prog w = .ok (.enter 7 args) w := zAn Tryz.func7 (by kernel_rfl) rfl args w
theorem zIu (args : Array Value) (w : World) : (callFunc 33 args).run Tryz.prog w = .ok (.enter 33 args) w := zAn Tryz.func33 (by kernel_rfl) rfl args w
theorem zNj (args : Array Value) (w : World) : (callFunc 77 args).run Tryz.prog w = .ok (.enter 77 args) w := zAn Tryz.func77 (by kernel_rfl) rfl args w
theorem zFj (args : Array Value) (w : World) : (callFunc 53 args).run Tryz.prog w = .ok (.enter 53 args) w := zAn Tryz.func53 (by kernel_rfl) rfl args w
theorem zFi (args : Array Value) (w : World) : (callFunc 49 args).run Tryz.prog w = .ok (.enter 49 args) w := zAn Tryz.func49 (by kernel_rfl) rfl args w
theorem zKn (args : Array Value) (w : World) : (callFunc 76 args).run Tryz.prog w = .ok (.enter 76 args) w := zAn Tryz.func76 (by kernel_rfl) rfl args w
theorem zKm (args : Array Value) (w : World) : (callFunc 12 args).run Tryz.prog w = .ok (.enter 12 args) w := zAn Tryz.func12 (by kernel_rfl) rfl args w
theorem zNg (args : Array Value) (w : World) : (callFunc 31 args).run Tryz.prog w = .ok (.enter 31 args) w := zAn Tryz.func31 (by kernel_rfl) rfl args w
theorem zHn (args : Array Value) (w : World) : (callFunc 83 args).run Tryz.prog w = .ok (.enter 83 args) w := zAn Tryz.func83 (by kernel_rfl) rfl args w
theorem zHo (args : Array Value) (w : World) : (callFunc 61 args).run Tryz.prog w = .ok (.enter 61 args) w := zAn Tryz.func61 (by kernel_rfl) rfl args w
theorem zNh (args : Array Value) (w : World) : (callFunc 35 args).run Tryz.prog w = .ok (.enter 35 args) w := zAn Tryz.func35 (by kernel_rfl) rfl args w
theorem zEf {w : World} {v : Value} {z : Int} (h : Num w v z) : Calls Tryz.prog 41 #[v] w fun e w' => ∃ v', e = .returned v' ∧ Below w.heap.size w w' ∧ v' = .bool true := by
 obtain ⟨n, ao, k, c, rfl⟩ := h.parts
 refine (exValid h).mono ?_
 rintro e w' ⟨rfl, hb⟩
 exact ⟨_, rfl, hb, rfl⟩
theorem zCr {b : Bool} (h : ¬ b = true) : b = false := by cases b <;> simp_all
theorem zK4 {n : Bool} {xs : List Int} {z : Int} {k : Nat} (h : z = sgn n (val xs) ∧ Canon xs ∧ xs.length = k ∧ (n = true → k ≠ 0) ∧ Digs xs) (h0 : 0 < z) : 0 < k ∧ ∃ x0 : Int, xs.getD 0 0 = x0 ∧ bits .and .u32 x0 1 = z % 2 := by
 obtain ⟨hz, hc, hl, hn, hd⟩ := h
 match xs, hl with
 | [], _ => cases n <;> simp [val, sgn] at hz <;> omega
 | x :: t, hl =>
  refine ⟨by rw [← hl]; exact Nat.succ_pos _, x, rfl, ?_⟩
  have hx := hd.getD 0
  have ht := zAx hd
  have hv : val (x :: t) = x + val t * 4294967296 := by simp [val]; try omega
  have hzv : z = val (x :: t) := by cases n <;> simp [sgn] at hz <;> omega
  have hx0 : 0 ≤ x := hx.1
  have hx1 : x < 4294967296 := hx.2
  rw [and_one x hx0 hx1, hzv, hv]
  omega
def resB (a m : Int) : Bool := decide (0 ≤ a ∧ a < m)
def zBs (A B M : Int) : Bool := decide (3 < M ∧ M % 2 = 1) && (resB A M && resB B M)
def ptB (A B M x y : Int) (i : Bool) : Bool := if i then decide (x = 0 ∧ y = 0) else resB x M && (resB y M && decide ((y * y - (((x * x) + A) * x + B)) % M = 0))
def onB (A B M x y : Int) (i : Bool) : Bool := zBs A B M && ptB A B M x y i
theorem zIp {A B M : Int} (h : zBs A B M = true) : 0 < M ∧ (3 < M ∧ M % 2 = 1) ∧ (0 ≤ A ∧ A < M) ∧ 0 ≤ B ∧ B < M := by
 simp only [zBs, resB, Bool.and_eq_true, decide_eq_true_eq] at h
 exact ⟨by omega, h.1, h.2.1, h.2.2⟩
set_option maxRecDepth 100000 in
set_option maxHeartbeats 4000000 in
theorem zEq {w : World} {v : Value} {a : Int} {t : Bool} (h : Num w v a) (ht : decide (a = 0) = t) :
  Calls Tryz.prog 45 #[v] w fun e w' => ∃ v', e = .returned v' ∧ Below w.heap.size w w' ∧ v' = .bool t := by
 obtain ⟨n0, ao0, k0, c0, rfl⟩ := h.parts
 obtain ⟨w1, b1, hw1, hb1, hs1, E⟩ := zB8 w (F := Fq.num a) (us := [.bool n0, .slice ao0 k0 c0]) 32 rfl (by simp) (zBr _ _ _ _) h
 go_enter Tryz.func45, Tryz.ntmps45
 go_upto_region 1 with (fail)
 rw [← hw1]
 rw [← hb1]
 clear hw1 hb1 hs1
 by_cases h0 : a = 0
 ·have T1 : Hid (cmpI a 0 = 0) := cmpIq0.2 h0
  have ht2 : t = true := ht.symm.trans (decide_eq_true h0)
  subst ht2
  clear ht
  clear h0
  refine rg [Fq.num a, yT, yT, Fq.num a, Fq.is (.int .i64 (cmpI a 0)), yT, yT, yT] [none] [] E (fun hp => ⟨?_, ?_, ?_, ?_, ?_, ?_, ?_, ?_, tv⟩) ?_
  ·exact lI 0 hp (mq 0 rfl) (sqo 1) fun us w hl h => zAh hl h
  ·exact wXa (Fq.num a) hp zD9 (sqi 0) fun v w h => zEf h
  ·exact zAe hp fo tv (sqi 1)
  ·exact zAz (off := 0) hp fo gqi (mq 0 rfl) (.inl rfl) (Nat.le_of_ble_eq_true rfl) (sqo 1) (fun us w hl h => zAh hl h)
  ·exact zA7 (F := (Fq.num a).P) hp fo gqi (zCf) (sqi 3) (fun v w h => zCg h)
  ·exact zAf (F := fun v _ => v = .int .i64 (cmpI a 0)) hp fo gqi (sqi 4) (fun ρ w hc h => ⟨.bool true, by simp [execOp, go_sem, h, hc, T1.out], rfl⟩)
  ·exact zAi (F := fun v _ => v = .bool true) (G := fun v _ => v = .bool true) hp fo tv (sqi 2) (sqi 5) (fun ρ w hc h h' => ⟨_, by simp [execOp, go_sem, h, h'], rfl⟩)
  ·exact zAo hp fo tv (sqi 6)
  intro L vs w2 nb hL hC hn E2
  have e1 := wXi hC 1
  have e2 := wXi hC 2
  have e4 := wXi hC 4
  have e5 := wXi hC 5
  have e6 := wXi hC 6
  have e7 := wXi hC 7
  have E := E2; simp only [LM, zAb] at E
  rw [zAa hL]
  simp only [SP, Nat.zero_add, Nat.reduceAdd]
  rw [e1, e2, e4, e5, e6, e7]
  generalize vs 0 = u2_0
  generalize vs 3 = u2_3
  clear e1 e2 e4 e5 e6 e7 hC hn E2 hL vs L nb
  clear T1
  go_wp2
  refine bodyPost_ret (v := .bool true) ?_ rfl ⟨_, rfl, E.below, rfl⟩
  simp [results, Tryz.results45, go_sem]
 ·have T1 : Hid (¬ cmpI a 0 = 0) := fun e => h0 (cmpIq0.1 e)
  have ht2 : t = false := ht.symm.trans (decide_eq_false h0)
  subst ht2
  clear ht
  clear h0
  refine rg [Fq.num a, yT, yT, Fq.num a, Fq.is (.int .i64 (cmpI a 0)), yF, yF, yF] [none] [] E (fun hp => ⟨?_, ?_, ?_, ?_, ?_, ?_, ?_, ?_, tv⟩) ?_
  ·exact lI 0 hp (mq 0 rfl) (sqo 1) fun us w hl h => zAh hl h
  ·exact wXa (Fq.num a) hp zD9 (sqi 0) fun v w h => zEf h
  ·exact zAe hp fo tv (sqi 1)
  ·exact zAz (off := 0) hp fo gqi (mq 0 rfl) (.inl rfl) (Nat.le_of_ble_eq_true rfl) (sqo 1) (fun us w hl h => zAh hl h)
  ·exact zA7 (F := (Fq.num a).P) hp fo gqi (zCf) (sqi 3) (fun v w h => zCg h)
  ·exact zAf (F := fun v _ => v = .int .i64 (cmpI a 0)) hp fo gqi (sqi 4) (fun ρ w hc h => ⟨.bool false, by simp [execOp, go_sem, h, hc, T1.out], rfl⟩)
  ·exact zAi (F := fun v _ => v = .bool true) (G := fun v _ => v = .bool false) hp fo tv (sqi 2) (sqi 5) (fun ρ w hc h h' => ⟨_, by simp [execOp, go_sem, h, h'], rfl⟩)
  ·exact zAo hp fo tv (sqi 6)
  intro L vs w3 nb hL hC hn E3
  have e1 := wXi hC 1
  have e2 := wXi hC 2
  have e4 := wXi hC 4
  have e5 := wXi hC 5
  have e6 := wXi hC 6
  have e7 := wXi hC 7
  have E := E3; simp only [LM, zAb] at E
  rw [zAa hL]
  simp only [SP, Nat.zero_add, Nat.reduceAdd]
  rw [e1, e2, e4, e5, e6, e7]
  generalize vs 0 = u3_0
  generalize vs 3 = u3_3
  clear e1 e2 e4 e5 e6 e7 hC hn E3 hL vs L nb
  clear T1
  go_wp2
  refine bodyPost_ret (v := .bool false) ?_ rfl ⟨_, rfl, E.below, rfl⟩
  simp [results, Tryz.results45, go_sem]

set_option maxRecDepth 100000 in
set_option maxHeartbeats 4000000 in
theorem zEd {w : World} {v v' : Value} {a m : Int} (h : Num w v a) (h' : Num w v' m) {t : Bool} (ht : resB a m = t) :
  Calls Tryz.prog 44 #[v, v'] w fun e w' => ∃ v', e = .returned v' ∧ Below w.heap.size w w' ∧ v' = .bool t := by
 obtain ⟨n0, ao0, k0, c0, rfl⟩ := h.parts
 obtain ⟨n1, ao1, k1, c1, rfl⟩ := h'.parts
 obtain ⟨w1, b1, hw1, hb1, hs1, E⟩ := zB8 w (F := Fq.num a) (us := [.bool n0, .slice ao0 k0 c0]) 32 rfl (by simp) (zBr _ _ _ _) h
 obtain ⟨w2, b2, hw2, hb2, hs2, E⟩ := fN E hs1 32 h'
 go_enter Tryz.func44, Tryz.ntmps44
 go_upto_region 1 with (fail)
 rw [← hw1]
 rw [← hw2]
 rw [← hb2]
 rw [← hb1]
 clear hw1 hw2 hb1 hb2 hs2 hs1
 by_cases h0 : 0 ≤ a
 ·have T1 : Hid (0 ≤ cmpI a 0) := by have := mt cmpIqlt.1 (show ¬ a < 0 by omega); show _ ≤ _; omega
  by_cases h1 : a < m
  ·have T2 : Hid (cmpI a m < 0) := cmpIqlt.2 h1
   have ht2 : t = true := ht.symm.trans (decide_eq_true ⟨h0, h1⟩)
   subst ht2
   clear ht
   clear h0 h1
   refine rg [Fq.num a, yT, yT, Fq.num a, Fq.is (.int .i64 (cmpI a 0)), yT, yT, yT, Fq.num a, Fq.num m, Fq.is (.int .i64 (cmpI a m)), yT, yT, yT] N2 [] E (fun hp => ⟨?_, ?_, ?_, ?_, ?_, ?_, ?_, ?_, ?_, ?_, ?_, ?_, ?_, ?_, tv⟩) ?_
   ·exact lI 0 hp (mq 1 rfl) (sqo 2) fun us w hl h => zAh hl h
   ·exact wXa (Fq.num a) hp zD9 (sqi 0) fun v w h => zEf h
   ·exact zAe hp fo tv (sqi 1)
   ·exact zAz (off := 0) hp fo gqi (mq 1 rfl) (.inl rfl) (Nat.le_of_ble_eq_true rfl) (sqo 2) (fun us w hl h => zAh hl h)
   ·exact zA7 (F := (Fq.num a).P) hp fo gqi (zCf) (sqi 3) (fun v w h => zCg h)
   ·exact zAf (F := fun v _ => v = .int .i64 (cmpI a 0)) hp fo gqi (sqi 4) (fun ρ w hc h => ⟨.bool true, by simp [execOp, go_sem, h, hc, T1.out], rfl⟩)
   ·exact zAi (F := fun v _ => v = .bool true) (G := fun v _ => v = .bool true) hp fo tv (sqi 2) (sqi 5) (fun ρ w hc h h' => ⟨_, by simp [execOp, go_sem, h, h'], rfl⟩)
   ·exact zAe hp fo tv (sqi 6)
   ·exact zAz (off := 0) hp fo gqi (mq 1 rfl) (.inl rfl) (Nat.le_of_ble_eq_true rfl) (sqo 2) (fun us w hl h => zAh hl h)
   ·exact zAz (off := 0) hp fo gqi (mq 0 rfl) (.inl rfl) (Nat.le_of_ble_eq_true rfl) (sqo 3) (fun us w hl h => zAh hl h)
   ·exact zAt (F := (Fq.num a).P) (G := (Fq.num m).P) hp fo gqi (zEn) (sqi 8) (sqi 9) (fun v v' w h h' => zEp h h')
   ·exact zAf (F := fun v _ => v = .int .i64 (cmpI a m)) hp fo gqi (sqi 10) (fun ρ w hc h => ⟨.bool true, by simp [execOp, go_sem, h, hc, T2.out], rfl⟩)
   ·exact zAi (F := fun v _ => v = .bool true) (G := fun v _ => v = .bool true) hp fo tv (sqi 7) (sqi 11) (fun ρ w hc h h' => ⟨_, by simp [execOp, go_sem, h, h'], rfl⟩)
   ·exact zAo hp fo tv (sqi 12)
   intro L vs w3 nb hL hC hn E3
   have e1 := wXi hC 1
   have e2 := wXi hC 2
   have e4 := wXi hC 4
   have e5 := wXi hC 5
   have e6 := wXi hC 6
   have e7 := wXi hC 7
   have e10 := wXi hC 10
   have e11 := wXi hC 11
   have e12 := wXi hC 12
   have e13 := wXi hC 13
   have E := E3; simp only [LM, zAb] at E
   rw [zAa hL]
   simp only [SP, Nat.zero_add, Nat.reduceAdd]
   rw [e1, e2, e4, e5, e6, e7, e10, e11, e12, e13]
   generalize vs 0 = u3_0
   generalize vs 3 = u3_3
   generalize vs 8 = u3_8
   generalize vs 9 = u3_9
   clear e1 e2 e4 e5 e6 e7 e10 e11 e12 e13 hC hn E3 hL vs L nb
   clear T1 T2
   go_wp2
   refine bodyPost_ret (v := .bool true) ?_ rfl ⟨_, rfl, E.below, rfl⟩
   simp [results, Tryz.results44, go_sem]
  ·have T2 : Hid (¬ cmpI a m < 0) := fun e => h1 (cmpIqlt.1 e)
   have ht2 : t = false := ht.symm.trans (decide_eq_false fun e => h1 e.2)
   subst ht2
   clear ht
   clear h0 h1
   refine rg [Fq.num a, yT, yT, Fq.num a, Fq.is (.int .i64 (cmpI a 0)), yT, yT, yT, Fq.num a, Fq.num m, Fq.is (.int .i64 (cmpI a m)), yF, yF, yF] N2 [] E (fun hp => ⟨?_, ?_, ?_, ?_, ?_, ?_, ?_, ?_, ?_, ?_, ?_, ?_, ?_, ?_, tv⟩) ?_
   ·exact lI 0 hp (mq 1 rfl) (sqo 2) fun us w hl h => zAh hl h
   ·exact wXa (Fq.num a) hp zD9 (sqi 0) fun v w h => zEf h
   ·exact zAe hp fo tv (sqi 1)
   ·exact zAz (off := 0) hp fo gqi (mq 1 rfl) (.inl rfl) (Nat.le_of_ble_eq_true rfl) (sqo 2) (fun us w hl h => zAh hl h)
   ·exact zA7 (F := (Fq.num a).P) hp fo gqi (zCf) (sqi 3) (fun v w h => zCg h)
   ·exact zAf (F := fun v _ => v = .int .i64 (cmpI a 0)) hp fo gqi (sqi 4) (fun ρ w hc h => ⟨.bool true, by simp [execOp, go_sem, h, hc, T1.out], rfl⟩)
   ·exact zAi (F := fun v _ => v = .bool true) (G := fun v _ => v = .bool true) hp fo tv (sqi 2) (sqi 5) (fun ρ w hc h h' => ⟨_, by simp [execOp, go_sem, h, h'], rfl⟩)
   ·exact zAe hp fo tv (sqi 6)
   ·exact zAz (off := 0) hp fo gqi (mq 1 rfl) (.inl rfl) (Nat.le_of_ble_eq_true rfl) (sqo 2) (fun us w hl h => zAh hl h)
   ·exact zAz (off := 0) hp fo gqi (mq 0 rfl) (.inl rfl) (Nat.le_of_ble_eq_true rfl) (sqo 3) (fun us w hl h => zAh hl h)
   ·exact zAt (F := (Fq.num a).P) (G := (Fq.num m).P) hp fo gqi (zEn) (sqi 8) (sqi 9) (fun v v' w h h' => zEp h h')
   ·exact zAf (F := fun v _ => v = .int .i64 (cmpI a m)) hp fo gqi (sqi 10) (fun ρ w hc h => ⟨.bool false, by simp [execOp, go_sem, h, hc, T2.out], rfl⟩)
   ·exact zAi (F := fun v _ => v = .bool true) (G := fun v _ => v = .bool false) hp fo tv (sqi 7) (sqi 11) (fun ρ w hc h h' => ⟨_, by simp [execOp, go_sem, h, h'], rfl⟩)
   ·exact zAo hp fo tv (sqi 12)
   intro L vs w4 nb hL hC hn E4
   have e1 := wXi hC 1
   have e2 := wXi hC 2
   have e4 := wXi hC 4
   have e5 := wXi hC 5
   have e6 := wXi hC 6
   have e7 := wXi hC 7
   have e10 := wXi hC 10
   have e11 := wXi hC 11
   have e12 := wXi hC 12
   have e13 := wXi hC 13
   have E := E4; simp only [LM, zAb] at E
   rw [zAa hL]
   simp only [SP, Nat.zero_add, Nat.reduceAdd]
   rw [e1, e2, e4, e5, e6, e7, e10, e11, e12, e13]
   generalize vs 0 = u4_0
   generalize vs 3 = u4_3
   generalize vs 8 = u4_8
   generalize vs 9 = u4_9
   clear e1 e2 e4 e5 e6 e7 e10 e11 e12 e13 hC hn E4 hL vs L nb
   clear T1 T2
   go_wp2
   refine bodyPost_ret (v := .bool false) ?_ rfl ⟨_, rfl, E.below, rfl⟩
   simp [results, Tryz.results44, go_sem]
 ·have T1 : Hid (¬ 0 ≤ cmpI a 0) := by have := cmpIqlt.2 (show a < 0 by omega); show ¬ _; omega
  have ht2 : t = false := ht.symm.trans (decide_eq_false fun e => h0 e.1)
  subst ht2
  clear ht
  clear h0
  refine rg [Fq.num a, yT, yT, Fq.num a, Fq.is (.int .i64 (cmpI a 0)), yF, yF, yF, Fq.is (undef), Fq.is (undef), Fq.is (undef), Fq.is (undef), yF, yF] N2 [] E (fun hp => ⟨?_, ?_, ?_, ?_, ?_, ?_, ?_, ?_, ?_, ?_, ?_, ?_, ?_, ?_, tv⟩) ?_
  ·exact lI 0 hp (mq 1 rfl) (sqo 2) fun us w hl h => zAh hl h
  ·exact wXa (Fq.num a) hp zD9 (sqi 0) fun v w h => zEf h
  ·exact zAe hp fo tv (sqi 1)
  ·exact zAz (off := 0) hp fo gqi (mq 1 rfl) (.inl rfl) (Nat.le_of_ble_eq_true rfl) (sqo 2) (fun us w hl h => zAh hl h)
  ·exact zA7 (F := (Fq.num a).P) hp fo gqi (zCf) (sqi 3) (fun v w h => zCg h)
  ·exact zAf (F := fun v _ => v = .int .i64 (cmpI a 0)) hp fo gqi (sqi 4) (fun ρ w hc h => ⟨.bool false, by simp [execOp, go_sem, h, hc, T1.out], rfl⟩)
  ·exact zAi (F := fun v _ => v = .bool true) (G := fun v _ => v = .bool false) hp fo tv (sqi 2) (sqi 5) (fun ρ w hc h h' => ⟨_, by simp [execOp, go_sem, h, h'], rfl⟩)
  ·exact zAe hp fo tv (sqi 6)
  ·exact zAj hp fo rfl gqi (fun _ => rfl)
  ·exact zAj hp fo rfl gqi (fun _ => rfl)
  ·exact zAj hp fo rfl gqi (fun _ => rfl)
  ·exact zAj hp fo rfl gqi (fun _ => rfl)
  ·exact zAi (F := fun v _ => v = .bool false) (G := fun v _ => v = .bool false) hp fo tv (sqi 7) (zAl (fun _ => rfl)) (fun ρ w hc h h' => ⟨_, by simp [execOp, go_sem, h, h'], rfl⟩)
  ·exact zAo hp fo tv (sqi 12)
  intro L vs w5 nb hL hC hn E5
  have e1 := wXi hC 1
  have e2 := wXi hC 2
  have e4 := wXi hC 4
  have e5 := wXi hC 5
  have e6 := wXi hC 6
  have e7 := wXi hC 7
  have e8 := wXi hC 8
  have e9 := wXi hC 9
  have e10 := wXi hC 10
  have e11 := wXi hC 11
  have e12 := wXi hC 12
  have e13 := wXi hC 13
  have E := E5; simp only [LM, zAb] at E
  rw [zAa hL]
  simp only [SP, Nat.zero_add, Nat.reduceAdd]
  rw [e1, e2, e4, e5, e6, e7, e8, e9, e10, e11, e12, e13]
  generalize vs 0 = u5_0
  generalize vs 3 = u5_3
  clear e1 e2 e4 e5 e6 e7 e8 e9 e10 e11 e12 e13 hC hn E5 hL vs L nb
  clear T1
  go_wp2
  refine bodyPost_ret (v := .bool false) ?_ rfl ⟨_, rfl, E.below, rfl⟩
  simp [results, Tryz.results44, go_sem]

set_option maxRecDepth 100000 in
set_option maxHeartbeats 4000000 in
theorem zK0 {w : World} {v : Value} {A B M : Int} (h : (Fq.st [.n A, .n B, .n M]).P v w) (hM : ab M < pw 40) {t : Bool} (ht : zBs A B M = t) :
  Calls Tryz.prog 23 #[v] w fun e w' => ∃ v', e = .returned v' ∧ Below w.heap.size w w' ∧ v' = .bool t := by
 replace hM := hidd hM
 obtain ⟨n, ao, k, c, xs, hop, h⟩ := st_open (z := M) [.n A, .n B] [] h
 by_cases h3 : 3 < M
 ·by_cases h2 : M % 2 = 0
  ·have ht2 : t = false := ht.symm.trans (by unfold zBs; rw [show decide (3 < M ∧ M % 2 = 1) = false from decide_eq_false fun e => by omega]; rfl)
   subst ht2
   clear ht
   have T1 : Hid (¬ cmpI M 3 ≤ 0) := by have := cmpIqgt.2 h3; show ¬ _; omega
   obtain ⟨hj, x0, hy, hm⟩ := zK4 hop (by omega)
   obtain ⟨ad, off, rfl⟩ := st_addr (off := 4) h rfl hj
   have HJ := hidd hj
   have HY := hidd hy
   have WM := hidd (hm.trans h2)
   clear hop hj hy hm h3 h2
   obtain ⟨_, rfl, hf0⟩ := h
   have hF0 := hf0
   obtain ⟨y0_p0, y0_q0, _, rfl, _y0_n0, y0_p1, y0_q1, _, rfl, _y0_n1, _, rfl, _, rfl⟩ := hf0
   obtain ⟨w1, b1, hw1, hb1, hs1, E⟩ := gS w 34 hF0
   go_enter Tryz.func23, Tryz.ntmps23
   go_upto_region 1 with (fail)
   rw [← hw1]
   rw [← hb1]
   clear hw1 hb1 hs1
   have B2 : Hid (ab ((3)) < pw 3) := zBq (by decide)
   refine rg [ip b1 4, Fq.num M, yT, yF, yF, ip b1 4, Fq.num M, Fq.num (3), Fq.is (.int .i64 (cmpI M (3))), yF, yF, yF, ip b1 4, ip b1 5, Fq.is (.slice (some ⟨ad, off, none⟩) k c), Fq.is (.pointer (some ⟨ad, off, none⟩)), Fq.is (.int .u32 x0), Fq.is (.int .u32 (0)), yT, yT] [none] [] E (fun hp => ⟨?_, ?_, ?_, ?_, ?_, ?_, ?_, ?_, ?_, ?_, ?_, ?_, ?_, ?_, ?_, ?_, ?_, ?_, ?_, ?_, tv⟩) ?_
   ·exact qa b1 0 4 hp (sqo 1)
   ·exact zBe (off := 4) (l := 2) hp fo tv (mq 0 rfl) (.inl rfl) rfl zAd rfl (sqi 0) (fun v w h => zD3 h)
   ·exact wXa (Fq.num M) hp zD9 (sqi 1) fun v w h => zEf h
   ·exact zAf (F := fun v _ => v = .bool true) hp fo tv (sqi 2) (fun ρ w _ h => ⟨.bool false, by simp [execOp, go_sem, h], rfl⟩)
   ·exact zAe hp fo tv (sqi 3)
   ·exact zAv (b := b1) (off := 0) (off' := 4) hp fo gqi (sqo 1) (fun ρ w h => by simp [execOp, go_sem, h]) (fun _ => rfl)
   ·exact lG 4 2 hp gqi (mq 0 rfl) zAd (sqi 5) fun v w h => zD3 h
   ·exact zA7 (F := (Fq.is (.int .i64 3)).P) hp fo gqi (zHj) (zAl (fun _ => rfl)) (fun v w h => (by subst h; exact OfK w (3) (by omega) (by omega)))
   ·exact zAt (F := (Fq.num M).P) (G := (Fq.num (3)).P) hp fo gqi (zEn) (sqi 6) (sqi 7) (fun v v' w h h' => zEp h h')
   ·exact zAf (F := fun v _ => v = .int .i64 (cmpI M (3))) hp fo gqi (sqi 8) (fun ρ w hc h => ⟨.bool false, by simp [execOp, go_sem, h, hc, T1.out], rfl⟩)
   ·exact zAi (F := fun v _ => v = .bool false) (G := fun v _ => v = .bool false) hp fo tv (sqi 4) (sqi 9) (fun ρ w hc h h' => ⟨_, by simp [execOp, go_sem, h, h'], rfl⟩)
   ·exact zAe hp fo tv (sqi 10)
   ·exact zAv (b := b1) (off := 0) (off' := 4) hp fo gqi (sqo 1) (fun ρ w h => by simp [execOp, go_sem, h]) (fun _ => rfl)
   ·exact zAv (b := b1) (off := 4) (off' := 5) hp fo gqi (sqi 12) (fun ρ w h => by simp [execOp, go_sem, h]) (fun _ => rfl)
   ·exact zL6 (off := 5) (v := .slice (some ⟨ad, off, none⟩) k c) hp fo gqi (mq 0 rfl) (.inl rfl) (Nat.le_of_ble_eq_true rfl) (sqi 13) (fun us w hl h => ⟨(zHu (off := 4) h rfl).1, rfl⟩)
   ·exact zAf (F := fun v _ => v = .slice (some ⟨ad, off, none⟩) k c) hp fo gqi (sqi 14) (fun ρ w hc h => ⟨.pointer (some ⟨ad, off, none⟩), by simp [execOp, go_sem, h, hc, HJ.out], rfl⟩)
   ·exact zL8 (bx := b1) (x0 := x0) hp fo gqi (mq 0 rfl) (.inl rfl) (sqi 15) (fun us w hl h => zK5 (off := 4) rfl HJ.out HY.out h) (fun _ => rfl)
   ·exact zAf (F := fun v _ => v = .int .u32 x0) hp fo gqi (sqi 16) (fun ρ w hc h => ⟨.int .u32 (0), by simp [execOp, go_sem, h, hc, WM.out], rfl⟩)
   ·exact zAf (F := fun v _ => v = .int .u32 (0)) hp fo gqi (sqi 17) (fun ρ w hc h => ⟨.bool true, by simp [execOp, go_sem, h, hc], rfl⟩)
   ·exact zAi (F := fun v _ => v = .bool false) (G := fun v _ => v = .bool true) hp fo tv (sqi 11) (sqi 18) (fun ρ w hc h h' => ⟨_, by simp [execOp, go_sem, h, h'], rfl⟩)
   intro L vs w3 nb hL hC hn E3
   have e0 := wXi hC 0
   have e2 := wXi hC 2
   have e3 := wXi hC 3
   have e4 := wXi hC 4
   have e5 := wXi hC 5
   have e8 := wXi hC 8
   have e9 := wXi hC 9
   have e10 := wXi hC 10
   have e11 := wXi hC 11
   have e12 := wXi hC 12
   have e13 := wXi hC 13
   have e14 := wXi hC 14
   have e15 := wXi hC 15
   have e16 := wXi hC 16
   have e17 := wXi hC 17
   have e18 := wXi hC 18
   have e19 := wXi hC 19
   have E := E3; simp only [LM, zAb] at E
   rw [zAa hL]
   simp only [SP, Nat.zero_add, Nat.reduceAdd]
   rw [e0, e2, e3, e4, e5, e8, e9, e10, e11, e12, e13, e14, e15, e16, e17, e18, e19]
   generalize vs 1 = u3_1
   generalize vs 6 = u3_6
   generalize vs 7 = u3_7
   clear e0 e2 e3 e4 e5 e8 e9 e10 e11 e12 e13 e14 e15 e16 e17 e18 e19 hC hn E3 hL vs L nb
   clear T1 HJ HY WM
   go_upto_region 2 with (fail)
   refine rg [yF] [none] [] E (fun hp => ⟨?_, tv⟩) ?_
   ·exact zAo hp fo tv (zAl (fun _ => rfl))
   intro L vs w4 nb hL hC hn E4
   have e0 := wXi hC 0
   have E := E4; simp only [LM, zAb] at E
   rw [zAa hL]
   simp only [SP, Nat.zero_add, Nat.reduceAdd]
   rw [e0]
   clear e0 hC hn E4 hL vs L nb
   clear B2 hM
   go_wp2
   refine bodyPost_ret (v := .bool false) ?_ rfl ⟨_, rfl, E.below, rfl⟩
   simp [results, Tryz.results23, go_sem]
  ·replace h2 : M % 2 = 1 := by omega
   have ht2 : t = (resB A M && resB B M) := ht.symm.trans (by unfold zBs; rw [show decide (3 < M ∧ M % 2 = 1) = true from decide_eq_true ⟨h3, h2⟩]; rfl)
   clear ht
   have T1 : Hid (¬ cmpI M 3 ≤ 0) := by have := cmpIqgt.2 h3; show ¬ _; omega
   obtain ⟨hj, x0, hy, hm⟩ := zK4 hop (by omega)
   obtain ⟨ad, off, rfl⟩ := st_addr (off := 4) h rfl hj
   have HJ := hidd hj
   have HY := hidd hy
   have WM := hidd (hm.trans h2)
   clear hop hj hy hm h3 h2
   obtain ⟨_, rfl, hf0⟩ := h
   have hF0 := hf0
   obtain ⟨y0_p0, y0_q0, _, rfl, _y0_n0, y0_p1, y0_q1, _, rfl, _y0_n1, _, rfl, _, rfl⟩ := hf0
   obtain ⟨w5, b5, hw5, hb5, hs5, E⟩ := gS w 34 hF0
   go_enter Tryz.func23, Tryz.ntmps23
   go_upto_region 1 with (fail)
   rw [← hw5]
   rw [← hb5]
   clear hw5 hb5 hs5
   have B6 : Hid (ab ((3)) < pw 3) := zBq (by decide)
   refine rg [ip b5 4, Fq.num M, yT, yF, yF, ip b5 4, Fq.num M, Fq.num (3), Fq.is (.int .i64 (cmpI M (3))), yF, yF, yF, ip b5 4, ip b5 5, Fq.is (.slice (some ⟨ad, off, none⟩) k c), Fq.is (.pointer (some ⟨ad, off, none⟩)), Fq.is (.int .u32 x0), Fq.is (.int .u32 (1)), yF, yF] [none] [] E (fun hp => ⟨?_, ?_, ?_, ?_, ?_, ?_, ?_, ?_, ?_, ?_, ?_, ?_, ?_, ?_, ?_, ?_, ?_, ?_, ?_, ?_, tv⟩) ?_
   ·exact qa b5 0 4 hp (sqo 1)
   ·exact zBe (off := 4) (l := 2) hp fo tv (mq 0 rfl) (.inl rfl) rfl zAd rfl (sqi 0) (fun v w h => zD3 h)
   ·exact wXa (Fq.num M) hp zD9 (sqi 1) fun v w h => zEf h
   ·exact zAf (F := fun v _ => v = .bool true) hp fo tv (sqi 2) (fun ρ w _ h => ⟨.bool false, by simp [execOp, go_sem, h], rfl⟩)
   ·exact zAe hp fo tv (sqi 3)
   ·exact zAv (b := b5) (off := 0) (off' := 4) hp fo gqi (sqo 1) (fun ρ w h => by simp [execOp, go_sem, h]) (fun _ => rfl)
   ·exact lG 4 2 hp gqi (mq 0 rfl) zAd (sqi 5) fun v w h => zD3 h
   ·exact zA7 (F := (Fq.is (.int .i64 3)).P) hp fo gqi (zHj) (zAl (fun _ => rfl)) (fun v w h => (by subst h; exact OfK w (3) (by omega) (by omega)))
   ·exact zAt (F := (Fq.num M).P) (G := (Fq.num (3)).P) hp fo gqi (zEn) (sqi 6) (sqi 7) (fun v v' w h h' => zEp h h')
   ·exact zAf (F := fun v _ => v = .int .i64 (cmpI M (3))) hp fo gqi (sqi 8) (fun ρ w hc h => ⟨.bool false, by simp [execOp, go_sem, h, hc, T1.out], rfl⟩)
   ·exact zAi (F := fun v _ => v = .bool false) (G := fun v _ => v = .bool false) hp fo tv (sqi 4) (sqi 9) (fun ρ w hc h h' => ⟨_, by simp [execOp, go_sem, h, h'], rfl⟩)
   ·exact zAe hp fo tv (sqi 10)
   ·exact zAv (b := b5) (off := 0) (off' := 4) hp fo gqi (sqo 1) (fun ρ w h => by simp [execOp, go_sem, h]) (fun _ => rfl)
   ·exact zAv (b := b5) (off := 4) (off' := 5) hp fo gqi (sqi 12) (fun ρ w h => by simp [execOp, go_sem, h]) (fun _ => rfl)
   ·exact zL6 (off := 5) (v := .slice (some ⟨ad, off, none⟩) k c) hp fo gqi (mq 0 rfl) (.inl rfl) (Nat.le_of_ble_eq_true rfl) (sqi 13) (fun us w hl h => ⟨(zHu (off := 4) h rfl).1, rfl⟩)
   ·exact zAf (F := fun v _ => v = .slice (some ⟨ad, off, none⟩) k c) hp fo gqi (sqi 14) (fun ρ w hc h => ⟨.pointer (some ⟨ad, off, none⟩), by simp [execOp, go_sem, h, hc, HJ.out], rfl⟩)
   ·exact zL8 (bx := b5) (x0 := x0) hp fo gqi (mq 0 rfl) (.inl rfl) (sqi 15) (fun us w hl h => zK5 (off := 4) rfl HJ.out HY.out h) (fun _ => rfl)
   ·exact zAf (F := fun v _ => v = .int .u32 x0) hp fo gqi (sqi 16) (fun ρ w hc h => ⟨.int .u32 (1), by simp [execOp, go_sem, h, hc, WM.out], rfl⟩)
   ·exact zAf (F := fun v _ => v = .int .u32 (1)) hp fo gqi (sqi 17) (fun ρ w hc h => ⟨.bool false, by simp [execOp, go_sem, h, hc], rfl⟩)
   ·exact zAi (F := fun v _ => v = .bool false) (G := fun v _ => v = .bool false) hp fo tv (sqi 11) (sqi 18) (fun ρ w hc h h' => ⟨_, by simp [execOp, go_sem, h, h'], rfl⟩)
   intro L vs w7 nb hL hC hn E7
   have e0 := wXi hC 0
   have e2 := wXi hC 2
   have e3 := wXi hC 3
   have e4 := wXi hC 4
   have e5 := wXi hC 5
   have e8 := wXi hC 8
   have e9 := wXi hC 9
   have e10 := wXi hC 10
   have e11 := wXi hC 11
   have e12 := wXi hC 12
   have e13 := wXi hC 13
   have e14 := wXi hC 14
   have e15 := wXi hC 15
   have e16 := wXi hC 16
   have e17 := wXi hC 17
   have e18 := wXi hC 18
   have e19 := wXi hC 19
   have E := E7; simp only [LM, zAb] at E
   rw [zAa hL]
   simp only [SP, Nat.zero_add, Nat.reduceAdd]
   rw [e0, e2, e3, e4, e5, e8, e9, e10, e11, e12, e13, e14, e15, e16, e17, e18, e19]
   generalize vs 1 = u7_1
   generalize vs 6 = u7_6
   generalize vs 7 = u7_7
   clear e0 e2 e3 e4 e5 e8 e9 e10 e11 e12 e13 e14 e15 e16 e17 e18 e19 hC hn E7 hL vs L nb
   clear T1 HJ HY WM
   go_upto_region 3 with (fail)
   cases ha : resB A M
   case false =>
    have HA := hidd ha
    rw [ha, Bool.false_and] at ht2
    subst ht2
    clear ha
    refine rg [ip b5 0, Fq.num A, ip b5 4, Fq.num M, yF, yF, Fq.is (undef), Fq.is (undef), Fq.is (undef), Fq.is (undef), Fq.is (undef), yF, yF] [none] [] E (fun hp => ⟨?_, ?_, ?_, ?_, ?_, ?_, ?_, ?_, ?_, ?_, ?_, ?_, ?_, tv⟩) ?_
    ·exact qa b5 0 0 hp (sqo 1)
    ·exact lN 0 2 hp (mq 0 rfl) zAd (sqi 0)
    ·exact qa b5 0 4 hp (sqo 1)
    ·exact zBe (off := 4) (l := 2) hp fo tv (mq 0 rfl) (.inl rfl) rfl zAd rfl (sqi 2) (fun v w h => zD3 h)
    ·exact wXb (Fq.num A) (Fq.num M) hp zEc (sqi 1) (sqi 3) fun v v' w h h' => zEd h h' HA.out
    ·exact zAe hp fo tv (sqi 4)
    ·exact zAj hp fo rfl gqi (fun _ => rfl)
    ·exact zAj hp fo rfl gqi (fun _ => rfl)
    ·exact zAj hp fo rfl gqi (fun _ => rfl)
    ·exact zAj hp fo rfl gqi (fun _ => rfl)
    ·exact zAj hp fo rfl gqi (fun _ => rfl)
    ·exact zAi (F := fun v _ => v = .bool false) (G := fun v _ => v = .bool false) hp fo tv (sqi 5) (zAl (fun _ => rfl)) (fun ρ w hc h h' => ⟨_, by simp [execOp, go_sem, h, h'], rfl⟩)
    ·exact zAo hp fo tv (sqi 11)
    intro L vs w8 nb hL hC hn E8
    have e0 := wXi hC 0
    have e2 := wXi hC 2
    have e4 := wXi hC 4
    have e5 := wXi hC 5
    have e6 := wXi hC 6
    have e7 := wXi hC 7
    have e8 := wXi hC 8
    have e9 := wXi hC 9
    have e10 := wXi hC 10
    have e11 := wXi hC 11
    have e12 := wXi hC 12
    have E := E8; simp only [LM, zAb] at E
    rw [zAa hL]
    simp only [SP, Nat.zero_add, Nat.reduceAdd]
    rw [e0, e2, e4, e5, e6, e7, e8, e9, e10, e11, e12]
    generalize vs 1 = u8_1
    generalize vs 3 = u8_3
    clear e0 e2 e4 e5 e6 e7 e8 e9 e10 e11 e12 hC hn E8 hL vs L nb
    clear HA
    clear B6 hM
    go_wp2
    refine bodyPost_ret (v := .bool false) ?_ rfl ⟨_, rfl, E.below, rfl⟩
    simp [results, Tryz.results23, go_sem]
   case true =>
    have HA := hidd ha
    rw [ha, Bool.true_and] at ht2
    subst ht2
    clear ha
    refine rg [ip b5 0, Fq.num A, ip b5 4, Fq.num M, yT, yT, ip b5 2, Fq.num B, ip b5 4, Fq.num M, Fq.is (.bool (resB B M)), Fq.is (.bool (resB B M)), Fq.is (.bool (resB B M))] [none] [] E (fun hp => ⟨?_, ?_, ?_, ?_, ?_, ?_, ?_, ?_, ?_, ?_, ?_, ?_, ?_, tv⟩) ?_
    ·exact qa b5 0 0 hp (sqo 1)
    ·exact lN 0 2 hp (mq 0 rfl) zAd (sqi 0)
    ·exact qa b5 0 4 hp (sqo 1)
    ·exact zBe (off := 4) (l := 2) hp fo tv (mq 0 rfl) (.inl rfl) rfl zAd rfl (sqi 2) (fun v w h => zD3 h)
    ·exact wXb (Fq.num A) (Fq.num M) hp zEc (sqi 1) (sqi 3) fun v v' w h h' => zEd h h' HA.out
    ·exact zAe hp fo tv (sqi 4)
    ·exact zAv (b := b5) (off := 0) (off' := 2) hp fo gqi (sqo 1) (fun ρ w h => by simp [execOp, go_sem, h]) (fun _ => rfl)
    ·exact lG 2 2 hp gqi (mq 0 rfl) zAd (sqi 6) fun v w h => zA8 h
    ·exact zAv (b := b5) (off := 0) (off' := 4) hp fo gqi (sqo 1) (fun ρ w h => by simp [execOp, go_sem, h]) (fun _ => rfl)
    ·exact lG 4 2 hp gqi (mq 0 rfl) zAd (sqi 8) fun v w h => zD3 h
    ·exact zAt (F := (Fq.num B).P) (G := (Fq.num M).P) hp fo gqi (zEc) (sqi 7) (sqi 9) (fun v v' w h h' => zEd h h' rfl)
    ·exact zAi (F := fun v _ => v = .bool true) (G := fun v _ => v = .bool (resB B M)) hp fo tv (sqi 5) (sqi 10) (fun ρ w hc h h' => ⟨_, by simp [execOp, go_sem, h, h'], rfl⟩)
    ·exact zAo hp fo tv (sqi 11)
    intro L vs w9 nb hL hC hn E9
    have e0 := wXi hC 0
    have e2 := wXi hC 2
    have e4 := wXi hC 4
    have e5 := wXi hC 5
    have e6 := wXi hC 6
    have e8 := wXi hC 8
    have e10 := wXi hC 10
    have e11 := wXi hC 11
    have e12 := wXi hC 12
    have E := E9; simp only [LM, zAb] at E
    rw [zAa hL]
    simp only [SP, Nat.zero_add, Nat.reduceAdd]
    rw [e0, e2, e4, e5, e6, e8, e10, e11, e12]
    generalize vs 1 = u9_1
    generalize vs 3 = u9_3
    generalize vs 7 = u9_7
    generalize vs 9 = u9_9
    clear e0 e2 e4 e5 e6 e8 e10 e11 e12 hC hn E9 hL vs L nb
    clear HA
    clear B6 hM
    go_wp2
    refine bodyPost_ret (v := .bool (resB B M)) ?_ rfl ⟨_, rfl, E.below, rfl⟩
    simp [results, Tryz.results23, go_sem]
 ·have T1 : Hid (cmpI M 3 ≤ 0) := by have := mt cmpIqgt.1 h3; show _ ≤ _; omega
  have ht2 : t = false := ht.symm.trans (by unfold zBs; rw [show decide (3 < M ∧ M % 2 = 1) = false from decide_eq_false fun e => by omega]; rfl)
  subst ht2
  clear ht
  clear hop h3
  obtain ⟨_, rfl, hf0⟩ := h
  have hF0 := hf0
  obtain ⟨y0_p0, y0_q0, _, rfl, _y0_n0, y0_p1, y0_q1, _, rfl, _y0_n1, _, rfl, _, rfl⟩ := hf0
  obtain ⟨w10, b10, hw10, hb10, hs10, E⟩ := gS w 34 hF0
  go_enter Tryz.func23, Tryz.ntmps23
  go_upto_region 1 with (fail)
  rw [← hw10]
  rw [← hb10]
  clear hw10 hb10 hs10
  have B11 : Hid (ab ((3)) < pw 3) := zBq (by decide)
  refine rg [ip b10 4, Fq.num M, yT, yF, yF, ip b10 4, Fq.num M, Fq.num (3), Fq.is (.int .i64 (cmpI M (3))), yT, yT, yT, Fq.is (undef), Fq.is (undef), Fq.is (undef), Fq.is (undef), Fq.is (undef), Fq.is (undef), Fq.is (undef), yT] [none] [] E (fun hp => ⟨?_, ?_, ?_, ?_, ?_, ?_, ?_, ?_, ?_, ?_, ?_, ?_, ?_, ?_, ?_, ?_, ?_, ?_, ?_, ?_, tv⟩) ?_
  ·exact qa b10 0 4 hp (sqo 1)
  ·exact zBe (off := 4) (l := 2) hp fo tv (mq 0 rfl) (.inl rfl) rfl zAd rfl (sqi 0) (fun v w h => zD3 h)
  ·exact wXa (Fq.num M) hp zD9 (sqi 1) fun v w h => zEf h
  ·exact zAf (F := fun v _ => v = .bool true) hp fo tv (sqi 2) (fun ρ w _ h => ⟨.bool false, by simp [execOp, go_sem, h], rfl⟩)
  ·exact zAe hp fo tv (sqi 3)
  ·exact zAv (b := b10) (off := 0) (off' := 4) hp fo gqi (sqo 1) (fun ρ w h => by simp [execOp, go_sem, h]) (fun _ => rfl)
  ·exact lG 4 2 hp gqi (mq 0 rfl) zAd (sqi 5) fun v w h => zD3 h
  ·exact zA7 (F := (Fq.is (.int .i64 3)).P) hp fo gqi (zHj) (zAl (fun _ => rfl)) (fun v w h => (by subst h; exact OfK w (3) (by omega) (by omega)))
  ·exact zAt (F := (Fq.num M).P) (G := (Fq.num (3)).P) hp fo gqi (zEn) (sqi 6) (sqi 7) (fun v v' w h h' => zEp h h')
  ·exact zAf (F := fun v _ => v = .int .i64 (cmpI M (3))) hp fo gqi (sqi 8) (fun ρ w hc h => ⟨.bool true, by simp [execOp, go_sem, h, hc, T1.out], rfl⟩)
  ·exact zAi (F := fun v _ => v = .bool false) (G := fun v _ => v = .bool true) hp fo tv (sqi 4) (sqi 9) (fun ρ w hc h h' => ⟨_, by simp [execOp, go_sem, h, h'], rfl⟩)
  ·exact zAe hp fo tv (sqi 10)
  ·exact zAj hp fo rfl gqi (fun _ => rfl)
  ·exact zAj hp fo rfl gqi (fun _ => rfl)
  ·exact zAj hp fo rfl gqi (fun _ => rfl)
  ·exact zAj hp fo rfl gqi (fun _ => rfl)
  ·exact zAj hp fo rfl gqi (fun _ => rfl)
  ·exact zAj hp fo rfl gqi (fun _ => rfl)
  ·exact zAj hp fo rfl gqi (fun _ => rfl)
  ·exact zAi (F := fun v _ => v = .bool true) (G := fun v _ => v = .bool true) hp fo tv (sqi 11) (zAl (fun _ => rfl)) (fun ρ w hc h h' => ⟨_, by simp [execOp, go_sem, h, h'], rfl⟩)
  intro L vs w12 nb hL hC hn E12
  have e0 := wXi hC 0
  have e2 := wXi hC 2
  have e3 := wXi hC 3
  have e4 := wXi hC 4
  have e5 := wXi hC 5
  have e8 := wXi hC 8
  have e9 := wXi hC 9
  have e10 := wXi hC 10
  have e11 := wXi hC 11
  have e12 := wXi hC 12
  have e13 := wXi hC 13
  have e14 := wXi hC 14
  have e15 := wXi hC 15
  have e16 := wXi hC 16
  have e17 := wXi hC 17
  have e18 := wXi hC 18
  have e19 := wXi hC 19
  have E := E12; simp only [LM, zAb] at E
  rw [zAa hL]
  simp only [SP, Nat.zero_add, Nat.reduceAdd]
  rw [e0, e2, e3, e4, e5, e8, e9, e10, e11, e12, e13, e14, e15, e16, e17, e18, e19]
  generalize vs 1 = u12_1
  generalize vs 6 = u12_6
  generalize vs 7 = u12_7
  clear e0 e2 e3 e4 e5 e8 e9 e10 e11 e12 e13 e14 e15 e16 e17 e18 e19 hC hn E12 hL vs L nb
  clear T1
  go_upto_region 2 with (fail)
  refine rg [yF] [none] [] E (fun hp => ⟨?_, tv⟩) ?_
  ·exact zAo hp fo tv (zAl (fun _ => rfl))
  intro L vs w13 nb hL hC hn E13
  have e0 := wXi hC 0
  have E := E13; simp only [LM, zAb] at E
  rw [zAa hL]
  simp only [SP, Nat.zero_add, Nat.reduceAdd]
  rw [e0]
  clear e0 hC hn E13 hL vs L nb
  clear B11 hM
  go_wp2
  refine bodyPost_ret (v := .bool false) ?_ rfl ⟨_, rfl, E.below, rfl⟩
  simp [results, Tryz.results23, go_sem]

set_option maxRecDepth 100000 in
set_option maxHeartbeats 4000000 in
theorem zNy {w : World} {v v' : Value} {A B M x y : Int} (h : (Fq.st [.n A, .n B, .n M]).P v w) (h' : (Fq.st [.n x, .n y, .v (.bool true)]).P v' w) (hM : ab M < pw 5) (hA : ab A < pw 5) (hB : ab B < pw 5) (hx : ab x < pw 5) (hy : ab y < pw 5) {t : Bool} (ht : decide (x = 0 ∧ y = 0) = t) :
  Calls Tryz.prog 24 #[v, v'] w fun e w' => ∃ v', e = .returned v' ∧ Below w.heap.size w w' ∧ v' = .bool t := by
 replace hM := hidd hM
 replace hA := hidd hA
 replace hB := hidd hB
 replace hx := hidd hx
 replace hy := hidd hy
 obtain ⟨_, rfl, hf0⟩ := h
 have hF0 := hf0
 obtain ⟨y0_p0, y0_q0, _, rfl, _y0_n0, y0_p1, y0_q1, _, rfl, _y0_n1, y0_p2, y0_q2, _, rfl, _y0_n2, rfl⟩ := hf0
 obtain ⟨_, rfl, hf1⟩ := h'
 have hF1 := hf1
 obtain ⟨y1_p0, y1_q0, _, rfl, _y1_n0, y1_p1, y1_q1, _, rfl, _y1_n1, _, rfl, _, rfl⟩ := hf1
 obtain ⟨w1, b1, hw1, hb1, hs1, E⟩ := gS w 34 hF0
 obtain ⟨w2, b2, hw2, hb2, hs2, E⟩ := fS E hs1 36 hF1
 go_enter Tryz.func24, Tryz.ntmps24
 go_upto_region 1 with (fail)
 rw [← hw1]
 rw [← hw2]
 rw [← hb2]
 rw [← hb1]
 clear hw1 hw2 hb1 hb2 hs2 hs1
 refine rg [ip b2 4, yT] N2 [] E (fun hp => ⟨?_, ?_, tv⟩) ?_
 ·exact qa b2 0 4 hp (sqo 3)
 ·exact wXc 4 hp (mq 0 rfl) (sqi 0)
 intro L vs w3 nb hL hC hn E3
 have e0 := wXi hC 0
 have e1 := wXi hC 1
 have E := E3; simp only [LM, zAb] at E
 rw [zAa hL]
 simp only [SP, Nat.zero_add, Nat.reduceAdd]
 rw [e0, e1]
 clear e0 e1 hC hn E3 hL vs L nb
 go_upto_region 2 with (fail)
 by_cases h0 : x = 0
 ·have ht2 : t = decide (y = 0) := ht.symm.trans (by rw [decide_eq_decide.2 (show (x = 0 ∧ y = 0) ↔ y = 0 from ⟨fun e => e.2, fun e => ⟨h0, e⟩⟩)])
  subst ht2
  clear ht
  have HX := hidd (decide_eq_true h0)
  clear h0
  refine rg [ip b2 0, Fq.num x, yT, yT, ip b2 2, Fq.num y, Fq.is (.bool (decide (y = 0))), Fq.is (.bool (decide (y = 0))), Fq.is (.bool (decide (y = 0)))] N2 [] E (fun hp => ⟨?_, ?_, ?_, ?_, ?_, ?_, ?_, ?_, ?_, tv⟩) ?_
  ·exact qa b2 0 0 hp (sqo 3)
  ·exact lN 0 2 hp (mq 0 rfl) zAd (sqi 0)
  ·exact wXa (Fq.num x) hp zEo (sqi 1) fun v w h => zEq h HX.out
  ·exact zAe hp fo tv (sqi 2)
  ·exact zAv (b := b2) (off := 0) (off' := 2) hp fo gqi (sqo 3) (fun ρ w h => by simp [execOp, go_sem, h]) (fun _ => rfl)
  ·exact lG 2 2 hp gqi (mq 0 rfl) zAd (sqi 4) fun v w h => zA8 h
  ·exact zA7 (F := (Fq.num y).P) hp fo gqi (zEo) (sqi 5) (fun v w h => zEq h rfl)
  ·exact zAi (F := fun v _ => v = .bool true) (G := fun v _ => v = .bool (decide (y = 0))) hp fo tv (sqi 3) (sqi 6) (fun ρ w hc h h' => ⟨_, by simp [execOp, go_sem, h, h'], rfl⟩)
  ·exact zAo hp fo tv (sqi 7)
  intro L vs w4 nb hL hC hn E4
  have e0 := wXi hC 0
  have e2 := wXi hC 2
  have e3 := wXi hC 3
  have e4 := wXi hC 4
  have e6 := wXi hC 6
  have e7 := wXi hC 7
  have e8 := wXi hC 8
  have E := E4; simp only [LM, zAb] at E
  rw [zAa hL]
  simp only [SP, Nat.zero_add, Nat.reduceAdd]
  rw [e0, e2, e3, e4, e6, e7, e8]
  generalize vs 1 = u4_1
  generalize vs 5 = u4_5
  clear e0 e2 e3 e4 e6 e7 e8 hC hn E4 hL vs L nb
  clear HX
  clear hM hA hB hx hy
  go_wp2
  refine bodyPost_ret (v := .bool (decide (y = 0))) ?_ rfl ⟨_, rfl, E.below, rfl⟩
  simp [results, Tryz.results24, go_sem]
 ·have ht2 : t = false := ht.symm.trans (decide_eq_false fun e => h0 e.1)
  subst ht2
  clear ht
  have HX := hidd (decide_eq_false h0)
  clear h0
  refine rg [ip b2 0, Fq.num x, yF, yF, Fq.is (undef), Fq.is (undef), Fq.is (undef), yF, yF] N2 [] E (fun hp => ⟨?_, ?_, ?_, ?_, ?_, ?_, ?_, ?_, ?_, tv⟩) ?_
  ·exact qa b2 0 0 hp (sqo 3)
  ·exact lN 0 2 hp (mq 0 rfl) zAd (sqi 0)
  ·exact wXa (Fq.num x) hp zEo (sqi 1) fun v w h => zEq h HX.out
  ·exact zAe hp fo tv (sqi 2)
  ·exact zAj hp fo rfl gqi (fun _ => rfl)
  ·exact zAj hp fo rfl gqi (fun _ => rfl)
  ·exact zAj hp fo rfl gqi (fun _ => rfl)
  ·exact zAi (F := fun v _ => v = .bool false) (G := fun v _ => v = .bool false) hp fo tv (sqi 3) (zAl (fun _ => rfl)) (fun ρ w hc h h' => ⟨_, by simp [execOp, go_sem, h, h'], rfl⟩)
  ·exact zAo hp fo tv (sqi 7)
  intro L vs w5 nb hL hC hn E5
  have e0 := wXi hC 0
  have e2 := wXi hC 2
  have e3 := wXi hC 3
  have e4 := wXi hC 4
  have e5 := wXi hC 5
  have e6 := wXi hC 6
  have e7 := wXi hC 7
  have e8 := wXi hC 8
  have E := E5; simp only [LM, zAb] at E
  rw [zAa hL]
  simp only [SP, Nat.zero_add, Nat.reduceAdd]
  rw [e0, e2, e3, e4, e5, e6, e7, e8]
  generalize vs 1 = u5_1
  clear e0 e2 e3 e4 e5 e6 e7 e8 hC hn E5 hL vs L nb
  clear HX
  clear hM hA hB hx hy
  go_wp2
  refine bodyPost_ret (v := .bool false) ?_ rfl ⟨_, rfl, E.below, rfl⟩
  simp [results, Tryz.results24, go_sem]

set_option maxRecDepth 100000 in
set_option maxHeartbeats 4000000 in
theorem zNx {w : World} {v v' : Value} {A B M x y : Int} (h : (Fq.st [.n A, .n B, .n M]).P v w) (h' : (Fq.st [.n x, .n y, .v (.bool false)]).P v' w) (hM : ab M < pw 5) (hA : ab A < pw 5) (hB : ab B < pw 5) (hx : ab x < pw 5) (hy : ab y < pw 5) (hM0 : 0 < M) {t : Bool} (ht : (resB x M && (resB y M && decide ((y * y - (((x * x) + A) * x + B)) % M = 0))) = t) :
  Calls Tryz.prog 24 #[v, v'] w fun e w' => ∃ v', e = .returned v' ∧ Below w.heap.size w w' ∧ v' = .bool t := by
 replace hM := hidd hM
 replace hA := hidd hA
 replace hB := hidd hB
 replace hx := hidd hx
 replace hy := hidd hy
 obtain ⟨_, rfl, hf0⟩ := h
 have hF0 := hf0
 obtain ⟨y0_p0, y0_q0, _, rfl, _y0_n0, y0_p1, y0_q1, _, rfl, _y0_n1, y0_p2, y0_q2, _, rfl, _y0_n2, rfl⟩ := hf0
 obtain ⟨_, rfl, hf1⟩ := h'
 have hF1 := hf1
 obtain ⟨y1_p0, y1_q0, _, rfl, _y1_n0, y1_p1, y1_q1, _, rfl, _y1_n1, _, rfl, _, rfl⟩ := hf1
 obtain ⟨w1, b1, hw1, hb1, hs1, E⟩ := gS w 34 hF0
 obtain ⟨w2, b2, hw2, hb2, hs2, E⟩ := fS E hs1 36 hF1
 go_enter Tryz.func24, Tryz.ntmps24
 go_upto_region 1 with (fail)
 rw [← hw1]
 rw [← hw2]
 rw [← hb2]
 rw [← hb1]
 clear hw1 hw2 hb1 hb2 hs2 hs1
 have HM0 := hidd hM0
 clear hM0
 refine rg [ip b2 4, yF] N2 [] E (fun hp => ⟨?_, ?_, tv⟩) ?_
 ·exact qa b2 0 4 hp (sqo 3)
 ·exact wXc 4 hp (mq 0 rfl) (sqi 0)
 intro L vs w3 nb hL hC hn E3
 have e0 := wXi hC 0
 have e1 := wXi hC 1
 have E := E3; simp only [LM, zAb] at E
 rw [zAa hL]
 simp only [SP, Nat.zero_add, Nat.reduceAdd]
 rw [e0, e1]
 clear e0 e1 hC hn E3 hL vs L nb
 go_upto_region 3 with (fail)
 by_cases hx0 : resB x M = true
 ·by_cases hy0 : resB y M = true
  ·have ht2 : t = decide ((y * y - (((x * x) + A) * x + B)) % M = 0) := ht.symm.trans (by rw [hx0, hy0, Bool.true_and, Bool.true_and])
   subst ht2
   clear ht
   have HX := hidd hx0
   have HY := hidd hy0
   clear hx0 hy0
   refine rg [ip b2 0, Fq.num x, ip b1 4, Fq.num M, yT, yF, yF, ip b2 2, Fq.num y, ip b1 4, Fq.num M, yT, yF, yF] N2 [] E (fun hp => ⟨?_, ?_, ?_, ?_, ?_, ?_, ?_, ?_, ?_, ?_, ?_, ?_, ?_, ?_, tv⟩) ?_
   ·exact qa b2 0 0 hp (sqo 3)
   ·exact lN 0 2 hp (mq 0 rfl) zAd (sqi 0)
   ·exact qa b1 0 4 hp (sqo 2)
   ·exact lN 4 2 hp (mq 1 rfl) zAd (sqi 2)
   ·exact wXb (Fq.num x) (Fq.num M) hp zEc (sqi 1) (sqi 3) fun v v' w h h' => zEd h h' HX.out
   ·exact zAf (F := fun v _ => v = .bool true) hp fo tv (sqi 4) (fun ρ w _ h => ⟨.bool false, by simp [execOp, go_sem, h], rfl⟩)
   ·exact zAe hp fo tv (sqi 5)
   ·exact zAv (b := b2) (off := 0) (off' := 2) hp fo gqi (sqo 3) (fun ρ w h => by simp [execOp, go_sem, h]) (fun _ => rfl)
   ·exact lG 2 2 hp gqi (mq 0 rfl) zAd (sqi 7) fun v w h => zA8 h
   ·exact zAv (b := b1) (off := 0) (off' := 4) hp fo gqi (sqo 2) (fun ρ w h => by simp [execOp, go_sem, h]) (fun _ => rfl)
   ·exact lG 4 2 hp gqi (mq 1 rfl) zAd (sqi 9) fun v w h => zA8 h
   ·exact zAt (F := (Fq.num y).P) (G := (Fq.num M).P) hp fo gqi (zEc) (sqi 8) (sqi 10) (fun v v' w h h' => zEd h h' HY.out)
   ·exact zAf (F := fun v _ => v = .bool true) hp fo gqi (sqi 11) (fun ρ w _ h => ⟨.bool false, by simp [execOp, go_sem, h], rfl⟩)
   ·exact zAi (F := fun v _ => v = .bool false) (G := fun v _ => v = .bool false) hp fo tv (sqi 6) (sqi 12) (fun ρ w hc h h' => ⟨_, by simp [execOp, go_sem, h, h'], rfl⟩)
   intro L vs w4 nb hL hC hn E4
   have e0 := wXi hC 0
   have e2 := wXi hC 2
   have e4 := wXi hC 4
   have e5 := wXi hC 5
   have e6 := wXi hC 6
   have e7 := wXi hC 7
   have e9 := wXi hC 9
   have e11 := wXi hC 11
   have e12 := wXi hC 12
   have e13 := wXi hC 13
   have E := E4; simp only [LM, zAb] at E
   rw [zAa hL]
   simp only [SP, Nat.zero_add, Nat.reduceAdd]
   rw [e0, e2, e4, e5, e6, e7, e9, e11, e12, e13]
   generalize vs 1 = u4_1
   generalize vs 3 = u4_3
   generalize vs 8 = u4_8
   generalize vs 10 = u4_10
   clear e0 e2 e4 e5 e6 e7 e9 e11 e12 e13 hC hn E4 hL vs L nb
   clear HX HY
   go_upto_region 5 with (fail)
   have B5 : Hid (ab ((x * x)) < pw 10) := zBp hx.out hx.out (by omega)
   have B6 : Hid (ab (((x * x) + A)) < pw 11) := zB7 B5.out hA.out (by omega) (by omega)
   have B7 : Hid (ab ((((x * x) + A) * x)) < pw 16) := zBp B6.out hx.out (by omega)
   refine rg [ip b2 0, Fq.num x, ip b2 0, Fq.num x, Fq.num (x * x), ip b1 0, Fq.num A, Fq.num ((x * x) + A), ip b2 0, Fq.num x, Fq.num (((x * x) + A) * x), Fq.any, Fq.any] N2 [⟨11, 12, 2, Fq.num 0, Fq.num (((x * x) + A) * x), none⟩] E (fun hp => ⟨?_, ?_, ?_, ?_, ?_, ?_, ?_, ?_, ?_, ?_, ?_, ?_, ?_, tv⟩) ?_
   ·exact qa b2 0 0 hp (sqo 3)
   ·exact lN 0 2 hp (mq 0 rfl) zAd (sqi 0)
   ·exact qa b2 0 0 hp (sqo 3)
   ·exact lN 0 2 hp (mq 0 rfl) zAd (sqi 2)
   ·exact wXb (Fq.num x) (Fq.num x) hp zD8 (sqi 1) (sqi 3) fun v v' w h h' => exK (MulV h h') B5.out (by omega)
   ·exact qa b1 0 0 hp (sqo 2)
   ·exact lN 0 2 hp (mq 1 rfl) zAd (sqi 5)
   ·exact wXb (Fq.num (x * x)) (Fq.num A) hp zGf (sqi 4) (sqi 6) fun v v' w h h' => exK (AddV h h') B6.out (by omega)
   ·exact qa b2 0 0 hp (sqo 3)
   ·exact lN 0 2 hp (mq 0 rfl) zAd (sqi 8)
   ·exact wXb (Fq.num ((x * x) + A)) (Fq.num x) hp zD8 (sqi 7) (sqi 9) fun v v' w h h' => exK (MulV h h') B7.out (by omega)
   ·exact aN hp (mq 0 rfl)
   ·exact sN 10 hp (mq 0 rfl)
   intro L vs w8 nb hL hC hn E8
   have e0 := wXi hC 0
   have e2 := wXi hC 2
   have e5 := wXi hC 5
   have e8 := wXi hC 8
   have e11 : vs 11 = .pointer (some ⟨nb 11, 0, none⟩) := hn _ (mq 0 rfl)
   have E := E8; simp only [LM, zAb] at E
   rw [zAa hL]
   simp only [SP, Nat.zero_add, Nat.reduceAdd]
   rw [e0, e2, e5, e8, e11]
   generalize nb 11 = b8_11 at E ⊢
   generalize vs 1 = u8_1
   generalize vs 3 = u8_3
   generalize vs 4 = u8_4
   generalize vs 6 = u8_6
   generalize vs 7 = u8_7
   generalize vs 9 = u8_9
   generalize vs 10 = u8_10
   clear e0 e2 e5 e8 e11 hC hn E8 hL vs L nb
   go_upto_region 6 with (fail)
   have B9 : Hid (ab ((y * y)) < pw 10) := zBp hy.out hy.out (by omega)
   have B10 : Hid (ab (((((x * x) + A) * x) + B)) < pw 17) := zB7 B7.out hB.out (by omega) (by omega)
   have B11 : Hid (ab (((y * y) - ((((x * x) + A) * x) + B))) < pw 18) := zBi B9.out B10.out (by omega) (by omega)
   refine rg [ip b2 2, Fq.num y, ip b2 2, Fq.num y, Fq.num (y * y), Fq.num (((x * x) + A) * x), ip b1 2, Fq.num B, Fq.num ((((x * x) + A) * x) + B), Fq.num ((y * y) - ((((x * x) + A) * x) + B)), Fq.any, Fq.any] N3 [⟨10, 11, 2, Fq.num 0, Fq.num ((y * y) - ((((x * x) + A) * x) + B)), none⟩] E (fun hp => ⟨?_, ?_, ?_, ?_, ?_, ?_, ?_, ?_, ?_, ?_, ?_, ?_, tv⟩) ?_
   ·exact qa b2 0 2 hp (sqo 3)
   ·exact lN 2 2 hp (mq 1 rfl) zAd (sqi 0)
   ·exact qa b2 0 2 hp (sqo 3)
   ·exact lN 2 2 hp (mq 1 rfl) zAd (sqi 2)
   ·exact wXb (Fq.num y) (Fq.num y) hp zD8 (sqi 1) (sqi 3) fun v v' w h h' => exK (MulV h h') B9.out (by omega)
   ·exact lI 0 hp (mq 0 rfl) (sqo 5) fun us w hl h => zAh hl h
   ·exact qa b1 0 2 hp (sqo 2)
   ·exact lN 2 2 hp (mq 2 rfl) zAd (sqi 6)
   ·exact wXb (Fq.num (((x * x) + A) * x)) (Fq.num B) hp zGf (sqi 5) (sqi 7) fun v v' w h h' => exK (AddV h h') B10.out (by omega)
   ·exact wXb (Fq.num (y * y)) (Fq.num ((((x * x) + A) * x) + B)) hp zFh (sqi 4) (sqi 8) fun v v' w h h' => exK (SubV h h') B11.out (by omega)
   ·exact aN hp (mq 0 rfl)
   ·exact sN 9 hp (mq 0 rfl)
   intro L vs w12 nb hL hC hn E12
   have e0 := wXi hC 0
   have e2 := wXi hC 2
   have e6 := wXi hC 6
   have e10 : vs 10 = .pointer (some ⟨nb 10, 0, none⟩) := hn _ (mq 0 rfl)
   have E := E12; simp only [LM, zAb] at E
   rw [zAa hL]
   simp only [SP, Nat.zero_add, Nat.reduceAdd]
   rw [e0, e2, e6, e10]
   generalize nb 10 = b12_10 at E ⊢
   generalize vs 1 = u12_1
   generalize vs 3 = u12_3
   generalize vs 4 = u12_4
   generalize vs 5 = u12_5
   generalize vs 7 = u12_7
   generalize vs 8 = u12_8
   generalize vs 9 = u12_9
   clear e0 e2 e6 e10 hC hn E12 hL vs L nb
   go_upto_region 7 with (fail)
   refine rg [Fq.num ((y * y) - ((((x * x) + A) * x) + B)), ip b1 4, Fq.num M, Fq.num ((y * y - (((x * x) + A) * x + B)) % M), Fq.is (.bool (decide (((y * y - (((x * x) + A) * x + B)) % M) = 0))), Fq.is (.bool (decide (((y * y - (((x * x) + A) * x + B)) % M) = 0)))] N4 [] E (fun hp => ⟨?_, ?_, ?_, ?_, ?_, ?_, tv⟩) ?_
   ·exact lI 0 hp (mq 0 rfl) (sqo 6) fun us w hl h => zAh hl h
   ·exact qa b1 0 4 hp (sqo 2)
   ·exact lN 4 2 hp (mq 3 rfl) zAd (sqi 1)
   ·exact wXb (Fq.num ((y * y) - ((((x * x) + A) * x) + B))) (Fq.num M) hp zFi (sqi 0) (sqi 2) fun v v' w h h' => zFm h h' (Int.lt_of_lt_of_le B11.out (zAg (by omega))) (Int.lt_of_lt_of_le hM.out (zAg (by omega))) HM0.out
   ·exact wXa (Fq.num ((y * y - (((x * x) + A) * x + B)) % M)) hp zEo (sqi 3) fun v w h => zEq h rfl
   ·exact zAo hp fo tv (sqi 4)
   intro L vs w13 nb hL hC hn E13
   have e1 := wXi hC 1
   have e4 := wXi hC 4
   have e5 := wXi hC 5
   have E := E13; simp only [LM, zAb] at E
   rw [zAa hL]
   simp only [SP, Nat.zero_add, Nat.reduceAdd]
   rw [e1, e4, e5]
   generalize vs 0 = u13_0
   generalize vs 2 = u13_2
   generalize vs 3 = u13_3
   clear e1 e4 e5 hC hn E13 hL vs L nb
   clear HM0
   clear B5 B6 B7 B9 B10 B11 hM hA hB hx hy
   go_wp2
   refine bodyPost_ret (v := .bool (decide ((y * y - (((x * x) + A) * x + B)) % M = 0))) ?_ rfl ⟨_, rfl, E.below, rfl⟩
   simp [results, Tryz.results24, go_sem]
  ·have ht2 : t = false := ht.symm.trans (by rw [hx0, zCr hy0]; rfl)
   subst ht2
   clear ht
   have HX := hidd hx0
   have HY := hidd (zCr hy0)
   clear hx0 hy0
   refine rg [ip b2 0, Fq.num x, ip b1 4, Fq.num M, yT, yF, yF, ip b2 2, Fq.num y, ip b1 4, Fq.num M, yF, yT, yT] N2 [] E (fun hp => ⟨?_, ?_, ?_, ?_, ?_, ?_, ?_, ?_, ?_, ?_, ?_, ?_, ?_, ?_, tv⟩) ?_
   ·exact qa b2 0 0 hp (sqo 3)
   ·exact lN 0 2 hp (mq 0 rfl) zAd (sqi 0)
   ·exact qa b1 0 4 hp (sqo 2)
   ·exact lN 4 2 hp (mq 1 rfl) zAd (sqi 2)
   ·exact wXb (Fq.num x) (Fq.num M) hp zEc (sqi 1) (sqi 3) fun v v' w h h' => zEd h h' HX.out
   ·exact zAf (F := fun v _ => v = .bool true) hp fo tv (sqi 4) (fun ρ w _ h => ⟨.bool false, by simp [execOp, go_sem, h], rfl⟩)
   ·exact zAe hp fo tv (sqi 5)
   ·exact zAv (b := b2) (off := 0) (off' := 2) hp fo gqi (sqo 3) (fun ρ w h => by simp [execOp, go_sem, h]) (fun _ => rfl)
   ·exact lG 2 2 hp gqi (mq 0 rfl) zAd (sqi 7) fun v w h => zA8 h
   ·exact zAv (b := b1) (off := 0) (off' := 4) hp fo gqi (sqo 2) (fun ρ w h => by simp [execOp, go_sem, h]) (fun _ => rfl)
   ·exact lG 4 2 hp gqi (mq 1 rfl) zAd (sqi 9) fun v w h => zA8 h
   ·exact zAt (F := (Fq.num y).P) (G := (Fq.num M).P) hp fo gqi (zEc) (sqi 8) (sqi 10) (fun v v' w h h' => zEd h h' HY.out)
   ·exact zAf (F := fun v _ => v = .bool false) hp fo gqi (sqi 11) (fun ρ w _ h => ⟨.bool true, by simp [execOp, go_sem, h], rfl⟩)
   ·exact zAi (F := fun v _ => v = .bool false) (G := fun v _ => v = .bool true) hp fo tv (sqi 6) (sqi 12) (fun ρ w hc h h' => ⟨_, by simp [execOp, go_sem, h, h'], rfl⟩)
   intro L vs w14 nb hL hC hn E14
   have e0 := wXi hC 0
   have e2 := wXi hC 2
   have e4 := wXi hC 4
   have e5 := wXi hC 5
   have e6 := wXi hC 6
   have e7 := wXi hC 7
   have e9 := wXi hC 9
   have e11 := wXi hC 11
   have e12 := wXi hC 12
   have e13 := wXi hC 13
   have E := E14; simp only [LM, zAb] at E
   rw [zAa hL]
   simp only [SP, Nat.zero_add, Nat.reduceAdd]
   rw [e0, e2, e4, e5, e6, e7, e9, e11, e12, e13]
   generalize vs 1 = u14_1
   generalize vs 3 = u14_3
   generalize vs 8 = u14_8
   generalize vs 10 = u14_10
   clear e0 e2 e4 e5 e6 e7 e9 e11 e12 e13 hC hn E14 hL vs L nb
   clear HX HY
   go_upto_region 4 with (fail)
   refine rg [yF] N2 [] E (fun hp => ⟨?_, tv⟩) ?_
   ·exact zAo hp fo tv (zAl (fun _ => rfl))
   intro L vs w15 nb hL hC hn E15
   have e0 := wXi hC 0
   have E := E15; simp only [LM, zAb] at E
   rw [zAa hL]
   simp only [SP, Nat.zero_add, Nat.reduceAdd]
   rw [e0]
   clear e0 hC hn E15 hL vs L nb
   clear HM0
   clear hM hA hB hx hy
   go_wp2
   refine bodyPost_ret (v := .bool false) ?_ rfl ⟨_, rfl, E.below, rfl⟩
   simp [results, Tryz.results24, go_sem]
 ·have ht2 : t = false := ht.symm.trans (by rw [zCr hx0]; rfl)
  subst ht2
  clear ht
  have HX := hidd (zCr hx0)
  clear hx0
  refine rg [ip b2 0, Fq.num x, ip b1 4, Fq.num M, yF, yT, yT, Fq.is (undef), Fq.is (undef), Fq.is (undef), Fq.is (undef), Fq.is (undef), Fq.is (undef), yT] N2 [] E (fun hp => ⟨?_, ?_, ?_, ?_, ?_, ?_, ?_, ?_, ?_, ?_, ?_, ?_, ?_, ?_, tv⟩) ?_
  ·exact qa b2 0 0 hp (sqo 3)
  ·exact lN 0 2 hp (mq 0 rfl) zAd (sqi 0)
  ·exact qa b1 0 4 hp (sqo 2)
  ·exact lN 4 2 hp (mq 1 rfl) zAd (sqi 2)
  ·exact wXb (Fq.num x) (Fq.num M) hp zEc (sqi 1) (sqi 3) fun v v' w h h' => zEd h h' HX.out
  ·exact zAf (F := fun v _ => v = .bool false) hp fo tv (sqi 4) (fun ρ w _ h => ⟨.bool true, by simp [execOp, go_sem, h], rfl⟩)
  ·exact zAe hp fo tv (sqi 5)
  ·exact zAj hp fo rfl gqi (fun _ => rfl)
  ·exact zAj hp fo rfl gqi (fun _ => rfl)
  ·exact zAj hp fo rfl gqi (fun _ => rfl)
  ·exact zAj hp fo rfl gqi (fun _ => rfl)
  ·exact zAj hp fo rfl gqi (fun _ => rfl)
  ·exact zAj hp fo rfl gqi (fun _ => rfl)
  ·exact zAi (F := fun v _ => v = .bool true) (G := fun v _ => v = .bool true) hp fo tv (sqi 6) (zAl (fun _ => rfl)) (fun ρ w hc h h' => ⟨_, by simp [execOp, go_sem, h, h'], rfl⟩)
  intro L vs w16 nb hL hC hn E16
  have e0 := wXi hC 0
  have e2 := wXi hC 2
  have e4 := wXi hC 4
  have e5 := wXi hC 5
  have e6 := wXi hC 6
  have e7 := wXi hC 7
  have e8 := wXi hC 8
  have e9 := wXi hC 9
  have e10 := wXi hC 10
  have e11 := wXi hC 11
  have e12 := wXi hC 12
  have e13 := wXi hC 13
  have E := E16; simp only [LM, zAb] at E
  rw [zAa hL]
  simp only [SP, Nat.zero_add, Nat.reduceAdd]
  rw [e0, e2, e4, e5, e6, e7, e8, e9, e10, e11, e12, e13]
  generalize vs 1 = u16_1
  generalize vs 3 = u16_3
  clear e0 e2 e4 e5 e6 e7 e8 e9 e10 e11 e12 e13 hC hn E16 hL vs L nb
  clear HX
  go_upto_region 4 with (fail)
  refine rg [yF] N2 [] E (fun hp => ⟨?_, tv⟩) ?_
  ·exact zAo hp fo tv (zAl (fun _ => rfl))
  intro L vs w17 nb hL hC hn E17
  have e0 := wXi hC 0
  have E := E17; simp only [LM, zAb] at E
  rw [zAa hL]
  simp only [SP, Nat.zero_add, Nat.reduceAdd]
  rw [e0]
  clear e0 hC hn E17 hL vs L nb
  clear HM0
  clear hM hA hB hx hy
  go_wp2
  refine bodyPost_ret (v := .bool false) ?_ rfl ⟨_, rfl, E.below, rfl⟩
  simp [results, Tryz.results24, go_sem]

theorem exIsPoint {w : World} {v v' : Value} {A B M x y : Int} {i : Bool} (h : (Fq.st [.n A, .n B, .n M]).P v w) (h' : (Fq.st [.n x, .n y, .v (.bool i)]).P v' w) (hM : ab M < pw 5) (hA : ab A < pw 5) (hB : ab B < pw 5) (hx : ab x < pw 5) (hy : ab y < pw 5) (hM0 : 0 < M) {t : Bool} (ht : ptB A B M x y i = t) : Calls Tryz.prog 24 #[v, v'] w fun e w' => ∃ v', e = .returned v' ∧ Below w.heap.size w w' ∧ v' = .bool t := by
 cases i with
 | true => exact zNy h h' hM hA hB hx hy ht
 | false => exact zNx h h' hM hA hB hx hy hM0 ht

set_option maxRecDepth 100000 in
set_option maxHeartbeats 4000000 in
theorem exOn {w : World} {v v' : Value} {A B M x y : Int} {i : Bool} (h : (Fq.st [.n A, .n B, .n M]).P v w) (h' : (Fq.st [.n x, .n y, .v (.bool i)]).P v' w) (hM : ab M < pw 5) (hA : ab A < pw 5) (hB : ab B < pw 5) (hx : ab x < pw 5) (hy : ab y < pw 5) {t : Bool} (ht : onB A B M x y i = t) :
  Calls Tryz.prog 7 #[v, v'] w fun e w' => ∃ v', e = .returned v' ∧ Below w.heap.size w w' ∧ v' = .bool t := by
 replace hM := hidd hM
 replace hA := hidd hA
 replace hB := hidd hB
 replace hx := hidd hx
 replace hy := hidd hy
 obtain ⟨_, rfl, hf0⟩ := h
 have hF0 := hf0
 obtain ⟨y0_p0, y0_q0, _, rfl, _y0_n0, y0_p1, y0_q1, _, rfl, _y0_n1, y0_p2, y0_q2, _, rfl, _y0_n2, rfl⟩ := hf0
 obtain ⟨_, rfl, hf1⟩ := h'
 have hF1 := hf1
 obtain ⟨y1_p0, y1_q0, _, rfl, _y1_n0, y1_p1, y1_q1, _, rfl, _y1_n1, _, rfl, _, rfl⟩ := hf1
 obtain ⟨w1, b1, hw1, hb1, hs1, E⟩ := gS w 34 hF0
 obtain ⟨w2, b2, hw2, hb2, hs2, E⟩ := fS E hs1 36 hF1
 go_enter Tryz.func7, Tryz.ntmps7
 go_upto_region 1 with (fail)
 rw [← hw1]
 rw [← hw2]
 rw [← hb2]
 rw [← hb1]
 clear hw1 hw2 hb1 hb2 hs2 hs1
 by_cases hc : zBs A B M = true
 ·have ht2 : t = ptB A B M x y i := ht.symm.trans (by unfold onB; rw [hc, Bool.true_and])
  subst ht2
  clear ht
  have HM0 : Hid (0 < M) := (zIp hc).1
  have HC := hidd hc
  clear hc
  refine rg [Fq.st [.n A, .n B, .n M], yT, yT, Fq.st [.n A, .n B, .n M], Fq.st [.n x, .n y, .v (.bool i)], Fq.is (.bool (ptB A B M x y i)), Fq.is (.bool (ptB A B M x y i)), Fq.is (.bool (ptB A B M x y i))] N2 [] E (fun hp => ⟨?_, ?_, ?_, ?_, ?_, ?_, ?_, ?_, tv⟩) ?_
  ·exact lS 0 6 hp (mq 1 rfl) zAm (sqo 2)
  ·exact wXa (Fq.st [.n A, .n B, .n M]) hp zKo (sqi 0) fun v w h => zK0 h (Int.lt_of_lt_of_le hM.out (zAg (by omega))) HC.out
  ·exact zAe hp fo tv (sqi 1)
  ·exact lG 0 6 hp gqi (mq 1 rfl) zAm (sqo 2) fun v w h => h
  ·exact lG 0 5 hp gqi (mq 0 rfl) zAk (sqo 3) fun v w h => h
  ·exact zAt (F := (Fq.st [.n A, .n B, .n M]).P) (G := (Fq.st [.n x, .n y, .v (.bool i)]).P) hp fo gqi (zNi) (sqi 3) (sqi 4) (fun v v' w h h' => exIsPoint h h' hM.out hA.out hB.out hx.out hy.out HM0.out rfl)
  ·exact zAi (F := fun v _ => v = .bool true) (G := fun v _ => v = .bool (ptB A B M x y i)) hp fo tv (sqi 2) (sqi 5) (fun ρ w hc h h' => ⟨_, by simp [execOp, go_sem, h, h'], rfl⟩)
  ·exact zAo hp fo tv (sqi 6)
  intro L vs w3 nb hL hC hn E3
  have e1 := wXi hC 1
  have e2 := wXi hC 2
  have e5 := wXi hC 5
  have e6 := wXi hC 6
  have e7 := wXi hC 7
  have E := E3; simp only [LM, zAb] at E
  rw [zAa hL]
  simp only [SP, Nat.zero_add, Nat.reduceAdd]
  rw [e1, e2, e5, e6, e7]
  generalize vs 0 = u3_0
  generalize vs 3 = u3_3
  generalize vs 4 = u3_4
  clear e1 e2 e5 e6 e7 hC hn E3 hL vs L nb
  clear HC HM0
  clear hM hA hB hx hy
  go_wp2
  refine bodyPost_ret (v := .bool (ptB A B M x y i)) ?_ rfl ⟨_, rfl, E.below, rfl⟩
  simp [results, Tryz.results7, go_sem]
 ·have ht2 : t = false := ht.symm.trans (by unfold onB; rw [zCr hc, Bool.false_and])
  subst ht2
  clear ht
  have HC := hidd (zCr hc)
  clear hc
  refine rg [Fq.st [.n A, .n B, .n M], yF, yF, Fq.is (undef), Fq.is (undef), Fq.is (undef), yF, yF] N2 [] E (fun hp => ⟨?_, ?_, ?_, ?_, ?_, ?_, ?_, ?_, tv⟩) ?_
  ·exact lS 0 6 hp (mq 1 rfl) zAm (sqo 2)
  ·exact wXa (Fq.st [.n A, .n B, .n M]) hp zKo (sqi 0) fun v w h => zK0 h (Int.lt_of_lt_of_le hM.out (zAg (by omega))) HC.out
  ·exact zAe hp fo tv (sqi 1)
  ·exact zAj hp fo rfl gqi (fun _ => rfl)
  ·exact zAj hp fo rfl gqi (fun _ => rfl)
  ·exact zAj hp fo rfl gqi (fun _ => rfl)
  ·exact zAi (F := fun v _ => v = .bool false) (G := fun v _ => v = .bool false) hp fo tv (sqi 2) (zAl (fun _ => rfl)) (fun ρ w hc h h' => ⟨_, by simp [execOp, go_sem, h, h'], rfl⟩)
  ·exact zAo hp fo tv (sqi 6)
  intro L vs w4 nb hL hC hn E4
  have e1 := wXi hC 1
  have e2 := wXi hC 2
  have e3 := wXi hC 3
  have e4 := wXi hC 4
  have e5 := wXi hC 5
  have e6 := wXi hC 6
  have e7 := wXi hC 7
  have E := E4; simp only [LM, zAb] at E
  rw [zAa hL]
  simp only [SP, Nat.zero_add, Nat.reduceAdd]
  rw [e1, e2, e3, e4, e5, e6, e7]
  generalize vs 0 = u4_0
  clear e1 e2 e3 e4 e5 e6 e7 hC hn E4 hL vs L nb
  clear HC
  clear hM hA hB hx hy
  go_wp2
  refine bodyPost_ret (v := .bool false) ?_ rfl ⟨_, rfl, E.below, rfl⟩
  simp [results, Tryz.results7, go_sem]

structure Pt where
 x : Int
 y : Int
 i : Bool
def Fq.pt (P : Pt) : Fq := Fq.st [.n P.x, .n P.y, .v (.bool P.i)]
def slN (A x1 y1 x2 y2 : Int) : Int := if x1 = x2 then (3 * (x1 * x1)) + A else y2 - y1
def slD (M x1 y1 x2 y2 : Int) : Int := if x1 = x2 then (y1 + y2) % M else x2 - x1
noncomputable def finX (M x1 x2 N D : Int) : Int := (((N * bezU D M) % M) * ((N * bezU D M) % M) - (x1 + x2)) % M
noncomputable def finY (M x1 y1 x2 N D : Int) : Int := (((N * bezU D M) % M) * (x1 - finX M x1 x2 N D) - y1) % M
noncomputable def finP (M x1 y1 x2 N D : Int) : Pt × Int := if D = 0 then (⟨0, 0, true⟩, 0) else if Int.gcd D M = 1 then (⟨finX M x1 x2 N D, finY M x1 y1 x2 N D, false⟩, 0) else (⟨0, 0, false⟩, (Int.gcd D M : Int))
noncomputable def sumP (A M : Int) (P Q : Pt) : Pt × Int := if P.i then (Q, 0) else if Q.i then (P, 0) else finP M P.x P.y Q.x (slN A P.x P.y Q.x Q.y) (slD M P.x P.y Q.x Q.y)
def oppP (M : Int) (P : Pt) : Pt := if P.i then ⟨0, 0, true⟩ else ⟨P.x, (-P.y) % M, false⟩
def Pt.Ok (M : Int) (P : Pt) : Prop := 0 ≤ P.x ∧ P.x < M ∧ 0 ≤ P.y ∧ P.y < M
theorem Pt.Ok.ab {M : Int} {P : Pt} (h : P.Ok M) (hM : ab M < pw 5) : Go.Proofs.YtihhlaagndingaaGreat.ab P.x < pw 5 ∧ Go.Proofs.YtihhlaagndingaaGreat.ab P.y < pw 5 := by
 obtain ⟨h1, h2, h3, h4⟩ := h
 unfold Go.Proofs.YtihhlaagndingaaGreat.ab at hM ⊢
 generalize pw 5 = k at hM
 constructor <;> omega
theorem zCq {a m : Int} {k : Nat} (h0 : 0 < m) (h : ab m < pw k) : ab (a % m) < pw k := by
 have h1 := Int.emod_nonneg a (show m ≠ 0 by omega)
 have h2 := Int.emod_lt_of_pos a h0
 unfold ab at h ⊢
 generalize pw k = q at h
 omega
theorem slN_ab {A x1 y1 x2 y2 : Int} (hA : ab A < pw 5) (hx : ab x1 < pw 5) (hy1 : ab y1 < pw 5) (hy2 : ab y2 < pw 5) : ab (slN A x1 y1 x2 y2) < pw 20 := by
 unfold slN
 split
 ·have h1 : ab (x1 * x1) < pw 10 := zBp hx hx (by omega)
  have h3 : ab (3 : Int) < pw 3 := zBq (by decide)
  have h2 : ab (3 * (x1 * x1)) < pw 13 := zBp h3 h1 (by omega)
  have h4 : ab (3 * (x1 * x1) + A) < pw 14 := zB7 h2 hA (by omega) (by omega)
  exact Int.lt_of_lt_of_le h4 (zAg (by omega))
 ·have h4 : ab (y2 - y1) < pw 6 := zBi hy2 hy1 (by omega) (by omega)
  exact Int.lt_of_lt_of_le h4 (zAg (by omega))
theorem slD_ab {M x1 y1 x2 y2 : Int} (hM : ab M < pw 5) (h0 : 0 < M) (hx1 : ab x1 < pw 5) (hx2 : ab x2 < pw 5) : ab (slD M x1 y1 x2 y2) < pw 20 := by
 unfold slD
 split
 ·exact Int.lt_of_lt_of_le (zCq h0 hM) (zAg (by omega))
 ·have h4 : ab (x2 - x1) < pw 6 := zBi hx2 hx1 (by omega) (by omega)
  exact Int.lt_of_lt_of_le h4 (zAg (by omega))
theorem gcd_ab {D M : Int} {k : Nat} (h0 : 0 < M) (h : ab M < pw k) : ab (Int.gcd D M : Int) < pw k := by
 have h1 := Int.gcd_le_natAbs_right D (show M ≠ 0 by omega)
 unfold ab at h ⊢
 generalize pw k = q at h
 omega
section
variable {os : List Oper} {Q : Exit → Act → World → Prop} {a : Act} {p : Pq} {B B0 : Nat} {w0 : World}
variable {i s : Nat} {d : Option Tmp} {ty : TypeId} {ps : String} {af : Array Edge} {gd : Option (Nat × Bool)}
theorem zEy (hp : p.Ok B B0) (hF : p.Free i) (hg : GdQ os a p B B0 w0 af gd) (hC : ∀ v w, (Fq.st [.n 0, .n 0, .v (.bool false)]).P v w → (p.c i).P v w) :
  zAr os Q a p B B0 w0 i { dst := d, op := .build 36 #[], type := ty, pos := ps, after := af, guard := gd } := by
 refine zBk hp hF hg fun L vs w hG hL hc hd => ?_
 refine ⟨.agg #[.bool false, .slice none 0 0, .bool false, .slice none 0 0, .bool false], ?_, hC _ _ ⟨_, rfl, _, _, _, rfl, Num.zero w, _, _, _, rfl, Num.zero w, _, rfl, rfl, rfl⟩⟩
 simp [execOp, go_sem]
theorem zFx {x0 : Operand} {z0 : Int} {x1 : Operand} {z1 : Int} (hp : p.Ok B B0) (hF : p.Free i) (hg : GdQ os a p B B0 w0 af gd) (h0 : SrcQ os a p B B0 w0 af x0 fun v w => Num w v z0) (h1 : SrcQ os a p B B0 w0 af x1 fun v w => Num w v z1) (hC : ∀ v w, (Fq.st [.n z0, .n z1, .v (.bool false)]).P v w → (p.c i).P v w) :
  zAr os Q a p B B0 w0 i { dst := d, op := .build 36 #[(0, x0), (1, x1)], type := ty, pos := ps, after := af, guard := gd } := by
 refine zBk hp hF hg fun L vs w hG hL hc hd => ?_
 have g0 := h0 L vs w hG hd
 obtain ⟨n0, ao0, k0, c0, e0⟩ := g0.parts
 have m0 : Num w (.agg #[.bool n0, .slice ao0 k0 c0]) z0 := by rw [← e0]; exact g0
 have g1 := h1 L vs w hG hd
 obtain ⟨n1, ao1, k1, c1, e1⟩ := g1.parts
 have m1 : Num w (.agg #[.bool n1, .slice ao1 k1 c1]) z1 := by rw [← e1]; exact g1
 refine ⟨.agg #[.bool n0, .slice ao0 k0 c0, .bool n1, .slice ao1 k1 c1, .bool false], ?_, hC _ _ ⟨_, rfl, _, _, _, rfl, m0, _, _, _, rfl, m1, _, rfl, rfl, rfl⟩⟩
 generalize (lay os.toArray L vs os.toArray.size a).eval = ρ at e0 e1
 simp [execOp, go_sem, e0, e1]
theorem zFy {x2 : Operand} {u2 : Bool} (hp : p.Ok B B0) (hF : p.Free i) (hg : GdQ os a p B B0 w0 af gd) (h2 : SrcQ os a p B B0 w0 af x2 fun v _ => v = .bool u2) (hC : ∀ v w, (Fq.st [.n 0, .n 0, .v (.bool u2)]).P v w → (p.c i).P v w) :
  zAr os Q a p B B0 w0 i { dst := d, op := .build 36 #[(2, x2)], type := ty, pos := ps, after := af, guard := gd } := by
 refine zBk hp hF hg fun L vs w hG hL hc hd => ?_
 have g2 := h2 L vs w hG hd
 refine ⟨.agg #[.bool false, .slice none 0 0, .bool false, .slice none 0 0, .bool u2], ?_, hC _ _ ⟨_, rfl, _, _, _, rfl, Num.zero w, _, _, _, rfl, Num.zero w, _, rfl, rfl, rfl⟩⟩
 generalize (lay os.toArray L vs os.toArray.size a).eval = ρ at g2
 simp [execOp, go_sem, g2]
end
set_option maxRecDepth 100000 in
set_option maxHeartbeats 4000000 in
theorem exOppI {w : World} {v v' : Value} {A B M x y : Int} (h : (Fq.st [.n A, .n B, .n M]).P v w) (h' : (Fq.st [.n x, .n y, .v (.bool true)]).P v' w) (hM : ab M < pw 5) (hx : ab x < pw 5) (hy : ab y < pw 5) (hx0 : 0 ≤ x) (hM0 : 0 < M) :
  Calls Tryz.prog 33 #[v, v'] w fun e w' => ∃ v', e = .returned v' ∧ Below w.heap.size w w' ∧ (Fq.st [.n 0, .n 0, .v (.bool true)]).P v' w' := by
 replace hM := hidd hM
 replace hx := hidd hx
 replace hy := hidd hy
 have HX0 := hidd hx0
 have HM0 := hidd hM0
 clear hx0 hM0
 obtain ⟨_, rfl, hf0⟩ := h
 have hF0 := hf0
 obtain ⟨y0_p0, y0_q0, _, rfl, _y0_n0, y0_p1, y0_q1, _, rfl, _y0_n1, y0_p2, y0_q2, _, rfl, _y0_n2, rfl⟩ := hf0
 obtain ⟨_, rfl, hf1⟩ := h'
 have hF1 := hf1
 obtain ⟨y1_p0, y1_q0, _, rfl, _y1_n0, y1_p1, y1_q1, _, rfl, _y1_n1, _, rfl, _, rfl⟩ := hf1
 obtain ⟨w1, b1, hw1, hb1, hs1, E⟩ := gS w 34 hF0
 obtain ⟨w2, b2, hw2, hb2, hs2, E⟩ := fS E hs1 36 hF1
 obtain ⟨w3, b3, hw3, hb3, hs3, E⟩ := fO E hs2 36 zA1
 go_enter Tryz.func33, Tryz.ntmps33
 go_upto_region 1 with (fail)
 rw [← hw1]
 rw [← hw2]
 rw [← hw3]
 rw [← hb3]
 rw [← hb2]
 rw [← hb1]
 clear hw1 hw2 hw3 hb1 hb2 hb3 hs3 hs1 hs2
 refine rg [ip b2 4, yT] N3 [] E (fun hp => ⟨?_, ?_, tv⟩) ?_
 ·exact qa b2 0 4 hp (sqo 3)
 ·exact wXc 4 hp (mq 1 rfl) (sqi 0)
 intro L vs w4 nb hL hC hn E4
 have e0 := wXi hC 0
 have e1 := wXi hC 1
 have E := E4; simp only [LM, zAb] at E
 rw [zAa hL]
 simp only [SP, Nat.zero_add, Nat.reduceAdd]
 rw [e0, e1]
 clear e0 e1 hC hn E4 hL vs L nb
 go_upto_region 2 with (fail)
 refine rg [Fq.st [.n 0, .n 0, .v (.bool true)], Fq.any] [some (1, Fq.st [.n 0, .n 0, .v (.bool true)]), none, none] [] E (fun hp => ⟨?_, ?_, tv⟩) ?_
 ·exact zFy (u2 := true) hp fo tv (zAl (fun _ => rfl)) (fun v w h => h)
 ·exact sO 0 0 hp (mq 0 rfl) zAy (sqo 4)
 intro L vs w5 nb hL hC hn E5
 have E := E5; simp only [LM, zAb] at E
 rw [zAa hL]
 simp only [SP, Nat.zero_add, Nat.reduceAdd]
 generalize vs 0 = u5_0
 clear  hC hn E5 hL vs L nb
 clear HX0 HM0
 obtain ⟨_, _, hc0, hf0⟩ := zAu (E.box 0 rfl)
 have hP0 := hf0
 obtain ⟨r0_p0, r0_q0, _, rfl, _r0_n0, r0_p1, r0_q1, _, rfl, _r0_n1, _, rfl, _, rfl⟩ := hf0
 have c0_0 := hc0 0 (by simp)
 have c0_1 := hc0 1 (by simp)
 have c0_2 := hc0 2 (by simp)
 have c0_3 := hc0 3 (by simp)
 have c0_4 := hc0 4 (by simp)
 simp only [List.getD_cons_zero, List.getD_cons_succ] at c0_0 c0_1 c0_2 c0_3 c0_4
 clear hc0
 clear hM hx hy
 go_wp2
 refine bodyPost_ret (v := .agg #[r0_p0, r0_q0, r0_p1, r0_q1, .bool true]) ?_ rfl ⟨_, rfl, E.below, ⟨_, rfl, hP0⟩⟩
 simp [results, Tryz.results33, go_sem, c0_0, c0_1, c0_2, c0_3, c0_4]

set_option maxRecDepth 100000 in
set_option maxHeartbeats 4000000 in
theorem exOppF {w : World} {v v' : Value} {A B M x y : Int} (h : (Fq.st [.n A, .n B, .n M]).P v w) (h' : (Fq.st [.n x, .n y, .v (.bool false)]).P v' w) (hM : ab M < pw 5) (hx : ab x < pw 5) (hy : ab y < pw 5) (hx0 : 0 ≤ x) (hM0 : 0 < M) :
  Calls Tryz.prog 33 #[v, v'] w fun e w' => ∃ v', e = .returned v' ∧ Below w.heap.size w w' ∧ (Fq.st [.n x, .n ((-y) % M), .v (.bool false)]).P v' w' := by
 replace hM := hidd hM
 replace hx := hidd hx
 replace hy := hidd hy
 have HX0 := hidd hx0
 have HM0 := hidd hM0
 clear hx0 hM0
 obtain ⟨_, rfl, hf0⟩ := h
 have hF0 := hf0
 obtain ⟨y0_p0, y0_q0, _, rfl, _y0_n0, y0_p1, y0_q1, _, rfl, _y0_n1, y0_p2, y0_q2, _, rfl, _y0_n2, rfl⟩ := hf0
 obtain ⟨_, rfl, hf1⟩ := h'
 have hF1 := hf1
 obtain ⟨y1_p0, y1_q0, _, rfl, _y1_n0, y1_p1, y1_q1, _, rfl, _y1_n1, _, rfl, _, rfl⟩ := hf1
 obtain ⟨w1, b1, hw1, hb1, hs1, E⟩ := gS w 34 hF0
 obtain ⟨w2, b2, hw2, hb2, hs2, E⟩ := fS E hs1 36 hF1
 obtain ⟨w3, b3, hw3, hb3, hs3, E⟩ := fO E hs2 36 zA1
 go_enter Tryz.func33, Tryz.ntmps33
 go_upto_region 1 with (fail)
 rw [← hw1]
 rw [← hw2]
 rw [← hw3]
 rw [← hb3]
 rw [← hb2]
 rw [← hb1]
 clear hw1 hw2 hw3 hb1 hb2 hb3 hs3 hs1 hs2
 refine rg [ip b2 4, yF] N3 [] E (fun hp => ⟨?_, ?_, tv⟩) ?_
 ·exact qa b2 0 4 hp (sqo 3)
 ·exact wXc 4 hp (mq 1 rfl) (sqi 0)
 intro L vs w4 nb hL hC hn E4
 have e0 := wXi hC 0
 have e1 := wXi hC 1
 have E := E4; simp only [LM, zAb] at E
 rw [zAa hL]
 simp only [SP, Nat.zero_add, Nat.reduceAdd]
 rw [e0, e1]
 clear e0 e1 hC hn E4 hL vs L nb
 go_upto_region 3 with (fail)
 have B5 : Hid (ab ((-y)) < pw 5) := zE8 hy.out
 refine rg [ip b2 0, Fq.num x, Fq.num x, ip b2 2, Fq.num y, Fq.num (-y), ip b1 4, Fq.num M, Fq.num ((-y) % M), Fq.st [.n x, .n ((-y) % M), .v (.bool false)], Fq.any] [some (10, Fq.st [.n x, .n ((-y) % M), .v (.bool false)]), none, none] [] E (fun hp => ⟨?_, ?_, ?_, ?_, ?_, ?_, ?_, ?_, ?_, ?_, ?_, tv⟩) ?_
 ·exact qa b2 0 0 hp (sqo 3)
 ·exact lN 0 2 hp (mq 1 rfl) zAd (sqi 0)
 ·exact wXa (Fq.num x) hp zIr (sqi 1) fun v w h => exAbsN h (Int.lt_of_lt_of_le hx.out (zAg (by omega))) HX0.out
 ·exact qa b2 0 2 hp (sqo 3)
 ·exact lN 2 2 hp (mq 1 rfl) zAd (sqi 3)
 ·exact wXa (Fq.num y) hp enq_Neg (sqi 4) fun v w h => exK (NegV h) B5.out (by omega)
 ·exact qa b1 0 4 hp (sqo 2)
 ·exact lN 4 2 hp (mq 2 rfl) zAd (sqi 6)
 ·exact wXb (Fq.num (-y)) (Fq.num M) hp zFi (sqi 5) (sqi 7) fun v v' w h h' => zFm h h' (Int.lt_of_lt_of_le B5.out (zAg (by omega))) (Int.lt_of_lt_of_le hM.out (zAg (by omega))) HM0.out
 ·exact zFx (z0 := x) (z1 := ((-y) % M)) hp fo tv (sqi 2) (sqi 8) (fun v w h => h)
 ·exact sO 0 9 hp (mq 0 rfl) zAy (sqo 4)
 intro L vs w6 nb hL hC hn E6
 have e0 := wXi hC 0
 have e3 := wXi hC 3
 have e6 := wXi hC 6
 have E := E6; simp only [LM, zAb] at E
 rw [zAa hL]
 simp only [SP, Nat.zero_add, Nat.reduceAdd]
 rw [e0, e3, e6]
 generalize vs 1 = u6_1
 generalize vs 2 = u6_2
 generalize vs 4 = u6_4
 generalize vs 5 = u6_5
 generalize vs 7 = u6_7
 generalize vs 8 = u6_8
 generalize vs 9 = u6_9
 clear e0 e3 e6 hC hn E6 hL vs L nb
 clear HX0 HM0
 obtain ⟨_, _, hc0, hf0⟩ := zAu (E.box 0 rfl)
 have hP0 := hf0
 obtain ⟨r0_p0, r0_q0, _, rfl, _r0_n0, r0_p1, r0_q1, _, rfl, _r0_n1, _, rfl, _, rfl⟩ := hf0
 have c0_0 := hc0 0 (by simp)
 have c0_1 := hc0 1 (by simp)
 have c0_2 := hc0 2 (by simp)
 have c0_3 := hc0 3 (by simp)
 have c0_4 := hc0 4 (by simp)
 simp only [List.getD_cons_zero, List.getD_cons_succ] at c0_0 c0_1 c0_2 c0_3 c0_4
 clear hc0
 clear B5 hM hx hy
 go_wp2
 refine bodyPost_ret (v := .agg #[r0_p0, r0_q0, r0_p1, r0_q1, .bool false]) ?_ rfl ⟨_, rfl, E.below, ⟨_, rfl, hP0⟩⟩
 simp [results, Tryz.results33, go_sem, c0_0, c0_1, c0_2, c0_3, c0_4]

theorem exOppP {w : World} {v v' : Value} {A B M : Int} {P : Pt} (h : (Fq.st [.n A, .n B, .n M]).P v w) (h' : (Fq.pt P).P v' w) (hM : ab M < pw 5) (hP : P.Ok M) : Calls Tryz.prog 33 #[v, v'] w fun e w' => ∃ v', e = .returned v' ∧ Below w.heap.size w w' ∧ (Fq.pt (oppP M P)).P v' w' := by
 obtain ⟨x, y, i⟩ := P
 have h1 := hP.ab hM
 cases i with
 | true => exact exOppI h h' hM h1.1 h1.2 hP.1 (by have := hP.1; have := hP.2.1; omega)
 | false => exact exOppF h h' hM h1.1 h1.2 hP.1 (by have := hP.1; have := hP.2.1; omega)

set_option maxRecDepth 100000 in
set_option maxHeartbeats 4000000 in
theorem exSlope {w : World} {v v' u : Value} {A B M x1 y1 x2 y2 : Int} {i1 i2 : Bool} (h : (Fq.st [.n A, .n B, .n M]).P v w) (h' : (Fq.st [.n x1, .n y1, .v (.bool i1)]).P v' w) (h2 : (Fq.st [.n x2, .n y2, .v (.bool i2)]).P u w) (hM : ab M < pw 5) (hA : ab A < pw 5) (hx1 : ab x1 < pw 5) (hy1 : ab y1 < pw 5) (hx2 : ab x2 < pw 5) (hy2 : ab y2 < pw 5) (hM0 : 0 < M) {N D : Int} (hN : slN A x1 y1 x2 y2 = N) (hD : slD M x1 y1 x2 y2 = D) :
  Calls Tryz.prog 77 #[v, v', u] w fun e w' => ∃ v', e = .returned v' ∧ Below w.heap.size w w' ∧ (Fq.tup2 (Fq.num N) (Fq.num D)).P v' w' := by
 replace hM := hidd hM
 replace hA := hidd hA
 replace hx1 := hidd hx1
 replace hy1 := hidd hy1
 replace hx2 := hidd hx2
 replace hy2 := hidd hy2
 have HM0 := hidd hM0
 clear hM0
 obtain ⟨_, rfl, hf0⟩ := h
 have hF0 := hf0
 obtain ⟨y0_p0, y0_q0, _, rfl, _y0_n0, y0_p1, y0_q1, _, rfl, _y0_n1, y0_p2, y0_q2, _, rfl, _y0_n2, rfl⟩ := hf0
 obtain ⟨_, rfl, hf1⟩ := h'
 have hF1 := hf1
 obtain ⟨y1_p0, y1_q0, _, rfl, _y1_n0, y1_p1, y1_q1, _, rfl, _y1_n1, _, rfl, _, rfl⟩ := hf1
 obtain ⟨_, rfl, hf2⟩ := h2
 have hF2 := hf2
 obtain ⟨y2_p0, y2_q0, _, rfl, _y2_n0, y2_p1, y2_q1, _, rfl, _y2_n1, _, rfl, _, rfl⟩ := hf2
 obtain ⟨w1, b1, hw1, hb1, hs1, E⟩ := gS w 34 hF0
 obtain ⟨w2, b2, hw2, hb2, hs2, E⟩ := fS E hs1 36 hF1
 obtain ⟨w3, b3, hw3, hb3, hs3, E⟩ := fS E hs2 36 hF2
 obtain ⟨w4, b4, hw4, hb4, hs4, E⟩ := fZ E hs3 32
 obtain ⟨w5, b5, hw5, hb5, hs5, E⟩ := fZ E hs4 32
 go_enter Tryz.func77, Tryz.ntmps77
 go_upto_region 1 with (fail)
 rw [← hw1]
 rw [← hw2]
 rw [← hw3]
 rw [← hw4]
 rw [← hw5]
 rw [← hb5]
 rw [← hb4]
 rw [← hb3]
 rw [← hb2]
 rw [← hb1]
 clear hw1 hw2 hw3 hw4 hw5 hb1 hb2 hb3 hb4 hb5 hs5 hs1 hs2 hs3 hs4
 by_cases h0 : x1 = x2
 ·have T1 : Hid (cmpI x1 x2 = 0) := cmpIq0.2 h0
  unfold slN at hN
  unfold slD at hD
  rw [if_pos h0] at hN hD
  subst hN hD
  clear h0
  refine rg [ip b2 0, Fq.num x1, ip b3 0, Fq.num x2, Fq.is (.int .i64 (cmpI x1 x2)), yF] N5 [] E (fun hp => ⟨?_, ?_, ?_, ?_, ?_, ?_, tv⟩) ?_
  ·exact qa b2 0 0 hp (sqo 4)
  ·exact lN 0 2 hp (mq 3 rfl) zAd (sqi 0)
  ·exact qa b3 0 0 hp (sqo 5)
  ·exact lN 0 2 hp (mq 2 rfl) zAd (sqi 2)
  ·exact wXb (Fq.num x1) (Fq.num x2) hp zEn (sqi 1) (sqi 3) fun v v' w h h' => zEp h h'
  ·exact zAf (F := fun v _ => v = .int .i64 (cmpI x1 x2)) hp fo tv (sqi 4) (fun ρ w hc h => ⟨.bool false, by simp [execOp, go_sem, h, hc, T1.out], rfl⟩)
  intro L vs w6 nb hL hC hn E6
  have e0 := wXi hC 0
  have e2 := wXi hC 2
  have e4 := wXi hC 4
  have e5 := wXi hC 5
  have E := E6; simp only [LM, zAb] at E
  rw [zAa hL]
  simp only [SP, Nat.zero_add, Nat.reduceAdd]
  rw [e0, e2, e4, e5]
  generalize vs 1 = u6_1
  generalize vs 3 = u6_3
  clear e0 e2 e4 e5 hC hn E6 hL vs L nb
  clear T1
  go_upto_region 3 with (fail)
  have B7 : Hid (ab ((3)) < pw 3) := zBq (by decide)
  have B8 : Hid (ab ((x1 * x1)) < pw 10) := zBp hx1.out hx1.out (by omega)
  have B9 : Hid (ab (((3) * (x1 * x1))) < pw 13) := zBp B7.out B8.out (by omega)
  have B10 : Hid (ab ((((3) * (x1 * x1)) + A)) < pw 14) := zB7 B9.out hA.out (by omega) (by omega)
  refine rg [Fq.num (3), ip b2 0, Fq.num x1, ip b2 0, Fq.num x1, Fq.num (x1 * x1), Fq.num ((3) * (x1 * x1)), ip b1 0, Fq.num A, Fq.num (((3) * (x1 * x1)) + A), Fq.any, Fq.any] N5 [⟨10, 11, 2, Fq.num 0, Fq.num (((3) * (x1 * x1)) + A), none⟩] E (fun hp => ⟨?_, ?_, ?_, ?_, ?_, ?_, ?_, ?_, ?_, ?_, ?_, ?_, tv⟩) ?_
  ·exact zA7 (F := (Fq.is (.int .i64 3)).P) hp fo tv (zHj) (zAl (fun _ => rfl)) (fun v w h => (by subst h; exact OfK w (3) (by omega) (by omega)))
  ·exact qa b2 0 0 hp (sqo 4)
  ·exact lN 0 2 hp (mq 3 rfl) zAd (sqi 1)
  ·exact qa b2 0 0 hp (sqo 4)
  ·exact lN 0 2 hp (mq 3 rfl) zAd (sqi 3)
  ·exact wXb (Fq.num x1) (Fq.num x1) hp zD8 (sqi 2) (sqi 4) fun v v' w h h' => exK (MulV h h') B8.out (by omega)
  ·exact wXb (Fq.num (3)) (Fq.num (x1 * x1)) hp zD8 (sqi 0) (sqi 5) fun v v' w h h' => exK (MulV h h') B9.out (by omega)
  ·exact qa b1 0 0 hp (sqo 3)
  ·exact lN 0 2 hp (mq 4 rfl) zAd (sqi 7)
  ·exact wXb (Fq.num ((3) * (x1 * x1))) (Fq.num A) hp zGf (sqi 6) (sqi 8) fun v v' w h h' => exK (AddV h h') B10.out (by omega)
  ·exact aN hp (mq 0 rfl)
  ·exact sN 9 hp (mq 0 rfl)
  intro L vs w11 nb hL hC hn E11
  have e1 := wXi hC 1
  have e3 := wXi hC 3
  have e7 := wXi hC 7
  have e10 : vs 10 = .pointer (some ⟨nb 10, 0, none⟩) := hn _ (mq 0 rfl)
  have E := E11; simp only [LM, zAb] at E
  rw [zAa hL]
  simp only [SP, Nat.zero_add, Nat.reduceAdd]
  rw [e1, e3, e7, e10]
  generalize nb 10 = b11_10 at E ⊢
  generalize vs 0 = u11_0
  generalize vs 2 = u11_2
  generalize vs 4 = u11_4
  generalize vs 5 = u11_5
  generalize vs 6 = u11_6
  generalize vs 8 = u11_8
  generalize vs 9 = u11_9
  clear e1 e3 e7 e10 hC hn E11 hL vs L nb
  go_upto_region 4 with (fail)
  have B12 : Hid (ab ((y1 + y2)) < pw 6) := zB7 hy1.out hy2.out (by omega) (by omega)
  refine rg [Fq.num (((3) * (x1 * x1)) + A), ip b2 2, Fq.num y1, ip b3 2, Fq.num y2, Fq.num (y1 + y2), ip b1 4, Fq.num M, Fq.num ((y1 + y2) % M), Fq.any, Fq.any] [none, some (10, Fq.num ((y1 + y2) % M)), some (9, Fq.num (((3) * (x1 * x1)) + A)), none, none, none] [] E (fun hp => ⟨?_, ?_, ?_, ?_, ?_, ?_, ?_, ?_, ?_, ?_, ?_, tv⟩) ?_
  ·exact lI 0 hp (mq 0 rfl) (sqo 8) fun us w hl h => zAh hl h
  ·exact qa b2 0 2 hp (sqo 4)
  ·exact lN 2 2 hp (mq 4 rfl) zAd (sqi 1)
  ·exact qa b3 0 2 hp (sqo 5)
  ·exact lN 2 2 hp (mq 3 rfl) zAd (sqi 3)
  ·exact wXb (Fq.num y1) (Fq.num y2) hp zGf (sqi 2) (sqi 4) fun v v' w h h' => exK (AddV h h') B12.out (by omega)
  ·exact qa b1 0 4 hp (sqo 3)
  ·exact lN 4 2 hp (mq 5 rfl) zAd (sqi 6)
  ·exact wXb (Fq.num (y1 + y2)) (Fq.num M) hp zFi (sqi 5) (sqi 7) fun v v' w h h' => zFm h h' (Int.lt_of_lt_of_le B12.out (zAg (by omega))) (Int.lt_of_lt_of_le hM.out (zAg (by omega))) HM0.out
  ·exact sP 0 hp (mq 2 rfl) (sqo 6)
  ·exact sP 8 hp (mq 1 rfl) (sqo 7)
  intro L vs w13 nb hL hC hn E13
  have e1 := wXi hC 1
  have e3 := wXi hC 3
  have e6 := wXi hC 6
  have E := E13; simp only [LM, zAb] at E
  rw [zAa hL]
  simp only [SP, Nat.zero_add, Nat.reduceAdd]
  rw [e1, e3, e6]
  generalize vs 0 = u13_0
  generalize vs 2 = u13_2
  generalize vs 4 = u13_4
  generalize vs 5 = u13_5
  generalize vs 7 = u13_7
  generalize vs 8 = u13_8
  clear e1 e3 e6 hC hn E13 hL vs L nb
  clear HM0
  obtain ⟨p0_0, p0_1, c0_0, c0_1, hP0⟩ := zBd (E.box 2 rfl)
  obtain ⟨p1_0, p1_1, c1_0, c1_1, hP1⟩ := zBd (E.box 1 rfl)
  clear B7 B8 B9 B10 B12 hM hA hx1 hy1 hx2 hy2
  go_wp2
  refine bodyPost_ret (v := .tuple #[.agg #[p0_0, p0_1], .agg #[p1_0, p1_1]]) ?_ rfl ⟨_, rfl, E.below, ⟨_, _, rfl, hP0, hP1⟩⟩
  simp [results, Tryz.results77, go_sem, c0_0, c0_1, c1_0, c1_1]
 ·have T1 : Hid (¬ cmpI x1 x2 = 0) := fun e => h0 (cmpIq0.1 e)
  unfold slN at hN
  unfold slD at hD
  rw [if_neg h0] at hN hD
  subst hN hD
  clear h0
  refine rg [ip b2 0, Fq.num x1, ip b3 0, Fq.num x2, Fq.is (.int .i64 (cmpI x1 x2)), yT] N5 [] E (fun hp => ⟨?_, ?_, ?_, ?_, ?_, ?_, tv⟩) ?_
  ·exact qa b2 0 0 hp (sqo 4)
  ·exact lN 0 2 hp (mq 3 rfl) zAd (sqi 0)
  ·exact qa b3 0 0 hp (sqo 5)
  ·exact lN 0 2 hp (mq 2 rfl) zAd (sqi 2)
  ·exact wXb (Fq.num x1) (Fq.num x2) hp zEn (sqi 1) (sqi 3) fun v v' w h h' => zEp h h'
  ·exact zAf (F := fun v _ => v = .int .i64 (cmpI x1 x2)) hp fo tv (sqi 4) (fun ρ w hc h => ⟨.bool true, by simp [execOp, go_sem, h, hc, T1.out], rfl⟩)
  intro L vs w14 nb hL hC hn E14
  have e0 := wXi hC 0
  have e2 := wXi hC 2
  have e4 := wXi hC 4
  have e5 := wXi hC 5
  have E := E14; simp only [LM, zAb] at E
  rw [zAa hL]
  simp only [SP, Nat.zero_add, Nat.reduceAdd]
  rw [e0, e2, e4, e5]
  generalize vs 1 = u14_1
  generalize vs 3 = u14_3
  clear e0 e2 e4 e5 hC hn E14 hL vs L nb
  clear T1
  go_upto_region 2 with (fail)
  have B15 : Hid (ab ((y2 - y1)) < pw 6) := zBi hy2.out hy1.out (by omega) (by omega)
  have B16 : Hid (ab ((x2 - x1)) < pw 6) := zBi hx2.out hx1.out (by omega) (by omega)
  refine rg [ip b3 2, Fq.num y2, ip b2 2, Fq.num y1, Fq.num (y2 - y1), ip b3 0, Fq.num x2, ip b2 0, Fq.num x1, Fq.num (x2 - x1), Fq.any, Fq.any] [some (11, Fq.num (x2 - x1)), some (10, Fq.num (y2 - y1)), none, none, none] [] E (fun hp => ⟨?_, ?_, ?_, ?_, ?_, ?_, ?_, ?_, ?_, ?_, ?_, ?_, tv⟩) ?_
  ·exact qa b3 0 2 hp (sqo 5)
  ·exact lN 2 2 hp (mq 2 rfl) zAd (sqi 0)
  ·exact qa b2 0 2 hp (sqo 4)
  ·exact lN 2 2 hp (mq 3 rfl) zAd (sqi 2)
  ·exact wXb (Fq.num y2) (Fq.num y1) hp zFh (sqi 1) (sqi 3) fun v v' w h h' => exK (SubV h h') B15.out (by omega)
  ·exact qa b3 0 0 hp (sqo 5)
  ·exact lN 0 2 hp (mq 2 rfl) zAd (sqi 5)
  ·exact qa b2 0 0 hp (sqo 4)
  ·exact lN 0 2 hp (mq 3 rfl) zAd (sqi 7)
  ·exact wXb (Fq.num x2) (Fq.num x1) hp zFh (sqi 6) (sqi 8) fun v v' w h h' => exK (SubV h h') B16.out (by omega)
  ·exact sP 4 hp (mq 1 rfl) (sqo 6)
  ·exact sP 9 hp (mq 0 rfl) (sqo 7)
  intro L vs w17 nb hL hC hn E17
  have e0 := wXi hC 0
  have e2 := wXi hC 2
  have e5 := wXi hC 5
  have e7 := wXi hC 7
  have E := E17; simp only [LM, zAb] at E
  rw [zAa hL]
  simp only [SP, Nat.zero_add, Nat.reduceAdd]
  rw [e0, e2, e5, e7]
  generalize vs 1 = u17_1
  generalize vs 3 = u17_3
  generalize vs 4 = u17_4
  generalize vs 6 = u17_6
  generalize vs 8 = u17_8
  generalize vs 9 = u17_9
  clear e0 e2 e5 e7 hC hn E17 hL vs L nb
  clear HM0
  obtain ⟨p0_0, p0_1, c0_0, c0_1, hP0⟩ := zBd (E.box 1 rfl)
  obtain ⟨p1_0, p1_1, c1_0, c1_1, hP1⟩ := zBd (E.box 0 rfl)
  clear B15 B16 hM hA hx1 hy1 hx2 hy2
  go_wp2
  refine bodyPost_ret (v := .tuple #[.agg #[p0_0, p0_1], .agg #[p1_0, p1_1]]) ?_ rfl ⟨_, rfl, E.below, ⟨_, _, rfl, hP0, hP1⟩⟩
  simp [results, Tryz.results77, go_sem, c0_0, c0_1, c1_0, c1_1]

set_option maxRecDepth 100000 in
set_option maxHeartbeats 4000000 in
theorem exSumI {w : World} {v v' u : Value} {A B M x1 y1 x2 y2 : Int} {i2 : Bool} (h : (Fq.st [.n A, .n B, .n M]).P v w) (h' : (Fq.st [.n x1, .n y1, .v (.bool true)]).P v' w) (h2 : (Fq.st [.n x2, .n y2, .v (.bool i2)]).P u w) (hx2 : ab x2 < pw 5) (hy2 : ab y2 < pw 5) (h0x2 : 0 ≤ x2) (h0y2 : 0 ≤ y2) :
  Calls Tryz.prog 53 #[v, v', u] w fun e w' => ∃ v', e = .returned v' ∧ Below w.heap.size w w' ∧ (Fq.tup2 (Fq.st [.n x2, .n y2, .v (.bool i2)]) (Fq.num 0)).P v' w' := by
 replace hx2 := hidd hx2
 replace hy2 := hidd hy2
 have HX := hidd h0x2
 have HY := hidd h0y2
 clear h0x2 h0y2
 obtain ⟨_, rfl, hf0⟩ := h
 have hF0 := hf0
 obtain ⟨y0_p0, y0_q0, _, rfl, _y0_n0, y0_p1, y0_q1, _, rfl, _y0_n1, y0_p2, y0_q2, _, rfl, _y0_n2, rfl⟩ := hf0
 obtain ⟨_, rfl, hf1⟩ := h'
 have hF1 := hf1
 obtain ⟨y1_p0, y1_q0, _, rfl, _y1_n0, y1_p1, y1_q1, _, rfl, _y1_n1, _, rfl, _, rfl⟩ := hf1
 obtain ⟨_, rfl, hf2⟩ := h2
 have hF2 := hf2
 obtain ⟨y2_p0, y2_q0, _, rfl, _y2_n0, y2_p1, y2_q1, _, rfl, _y2_n1, _, rfl, _, rfl⟩ := hf2
 obtain ⟨w1, b1, hw1, hb1, hs1, E⟩ := gS w 34 hF0
 obtain ⟨w2, b2, hw2, hb2, hs2, E⟩ := fS E hs1 36 hF1
 obtain ⟨w3, b3, hw3, hb3, hs3, E⟩ := fS E hs2 36 hF2
 obtain ⟨w4, b4, hw4, hb4, hs4, E⟩ := fO E hs3 36 zA1
 obtain ⟨w5, b5, hw5, hb5, hs5, E⟩ := fZ E hs4 32
 go_enter Tryz.func53, Tryz.ntmps53
 go_upto_region 1 with (fail)
 rw [← hw1]
 rw [← hw2]
 rw [← hw3]
 rw [← hw4]
 rw [← hw5]
 rw [← hb5]
 rw [← hb4]
 rw [← hb3]
 rw [← hb2]
 rw [← hb1]
 clear hw1 hw2 hw3 hw4 hw5 hb1 hb2 hb3 hb4 hb5 hs5 hs1 hs2 hs3 hs4
 refine rg [ip b2 4, yT, yT] N5 [] E (fun hp => ⟨?_, ?_, ?_, tv⟩) ?_
 ·exact qa b2 0 4 hp (sqo 4)
 ·exact wXc 4 hp (mq 3 rfl) (sqi 0)
 ·exact zAo hp fo tv (sqi 1)
 intro L vs w6 nb hL hC hn E6
 have e0 := wXi hC 0
 have e1 := wXi hC 1
 have e2 := wXi hC 2
 have E := E6; simp only [LM, zAb] at E
 rw [zAa hL]
 simp only [SP, Nat.zero_add, Nat.reduceAdd]
 rw [e0, e1, e2]
 clear e0 e1 e2 hC hn E6 hL vs L nb
 go_upto_region 2 with (fail)
 refine rg [Fq.st [.n x2, .n y2, .v (.bool i2)], Fq.st [.n x2, .n y2, .v (.bool i2)], Fq.num 0, Fq.any, Fq.any] [some (4, Fq.num 0), some (3, Fq.st [.n x2, .n y2, .v (.bool i2)]), none, none, none] [] E (fun hp => ⟨?_, ?_, ?_, ?_, ?_, tv⟩) ?_
 ·exact lS 0 5 hp (mq 2 rfl) zAk (sqo 5)
 ·exact wXa (Fq.st [.n x2, .n y2, .v (.bool i2)]) hp zKn (sqi 0) fun v w h => zKx h (Int.lt_of_lt_of_le hx2.out (zAg (by omega))) (Int.lt_of_lt_of_le hy2.out (zAg (by omega))) HX.out HY.out
 ·exact zCx hp fo tv (fun w => Num.zero w)
 ·exact sO 0 1 hp (mq 1 rfl) zAy (sqo 6)
 ·exact sP 2 hp (mq 0 rfl) (sqo 7)
 intro L vs w7 nb hL hC hn E7
 have E := E7; simp only [LM, zAb] at E
 rw [zAa hL]
 simp only [SP, Nat.zero_add, Nat.reduceAdd]
 generalize vs 0 = u7_0
 generalize vs 1 = u7_1
 generalize vs 2 = u7_2
 clear  hC hn E7 hL vs L nb
 clear HX HY
 obtain ⟨_, _, hc0, hf0⟩ := zAu (E.box 1 rfl)
 have hP0 := hf0
 obtain ⟨r0_p0, r0_q0, _, rfl, _r0_n0, r0_p1, r0_q1, _, rfl, _r0_n1, _, rfl, _, rfl⟩ := hf0
 have c0_0 := hc0 0 (by simp)
 have c0_1 := hc0 1 (by simp)
 have c0_2 := hc0 2 (by simp)
 have c0_3 := hc0 3 (by simp)
 have c0_4 := hc0 4 (by simp)
 simp only [List.getD_cons_zero, List.getD_cons_succ] at c0_0 c0_1 c0_2 c0_3 c0_4
 clear hc0
 obtain ⟨p1_0, p1_1, c1_0, c1_1, hP1⟩ := zBd (E.box 0 rfl)
 clear hx2 hy2
 go_wp2
 refine bodyPost_ret (v := .tuple #[.agg #[r0_p0, r0_q0, r0_p1, r0_q1, .bool i2], .agg #[p1_0, p1_1]]) ?_ rfl ⟨_, rfl, E.below, ⟨_, _, rfl, ⟨_, rfl, hP0⟩, hP1⟩⟩
 simp [results, Tryz.results53, go_sem, c0_0, c0_1, c0_2, c0_3, c0_4, c1_0, c1_1]

set_option maxRecDepth 100000 in
set_option maxHeartbeats 4000000 in
theorem exSumJ {w : World} {v v' u : Value} {A B M x1 y1 x2 y2 : Int} (h : (Fq.st [.n A, .n B, .n M]).P v w) (h' : (Fq.st [.n x1, .n y1, .v (.bool false)]).P v' w) (h2 : (Fq.st [.n x2, .n y2, .v (.bool true)]).P u w) (hx1 : ab x1 < pw 5) (hy1 : ab y1 < pw 5) (h0x1 : 0 ≤ x1) (h0y1 : 0 ≤ y1) :
  Calls Tryz.prog 53 #[v, v', u] w fun e w' => ∃ v', e = .returned v' ∧ Below w.heap.size w w' ∧ (Fq.tup2 (Fq.st [.n x1, .n y1, .v (.bool false)]) (Fq.num 0)).P v' w' := by
 replace hx1 := hidd hx1
 replace hy1 := hidd hy1
 have HX := hidd h0x1
 have HY := hidd h0y1
 clear h0x1 h0y1
 obtain ⟨_, rfl, hf0⟩ := h
 have hF0 := hf0
 obtain ⟨y0_p0, y0_q0, _, rfl, _y0_n0, y0_p1, y0_q1, _, rfl, _y0_n1, y0_p2, y0_q2, _, rfl, _y0_n2, rfl⟩ := hf0
 obtain ⟨_, rfl, hf1⟩ := h'
 have hF1 := hf1
 obtain ⟨y1_p0, y1_q0, _, rfl, _y1_n0, y1_p1, y1_q1, _, rfl, _y1_n1, _, rfl, _, rfl⟩ := hf1
 obtain ⟨_, rfl, hf2⟩ := h2
 have hF2 := hf2
 obtain ⟨y2_p0, y2_q0, _, rfl, _y2_n0, y2_p1, y2_q1, _, rfl, _y2_n1, _, rfl, _, rfl⟩ := hf2
 obtain ⟨w1, b1, hw1, hb1, hs1, E⟩ := gS w 34 hF0
 obtain ⟨w2, b2, hw2, hb2, hs2, E⟩ := fS E hs1 36 hF1
 obtain ⟨w3, b3, hw3, hb3, hs3, E⟩ := fS E hs2 36 hF2
 obtain ⟨w4, b4, hw4, hb4, hs4, E⟩ := fO E hs3 36 zA1
 obtain ⟨w5, b5, hw5, hb5, hs5, E⟩ := fZ E hs4 32
 go_enter Tryz.func53, Tryz.ntmps53
 go_upto_region 1 with (fail)
 rw [← hw1]
 rw [← hw2]
 rw [← hw3]
 rw [← hw4]
 rw [← hw5]
 rw [← hb5]
 rw [← hb4]
 rw [← hb3]
 rw [← hb2]
 rw [← hb1]
 clear hw1 hw2 hw3 hw4 hw5 hb1 hb2 hb3 hb4 hb5 hs5 hs1 hs2 hs3 hs4
 refine rg [ip b2 4, yF, yF] N5 [] E (fun hp => ⟨?_, ?_, ?_, tv⟩) ?_
 ·exact qa b2 0 4 hp (sqo 4)
 ·exact wXc 4 hp (mq 3 rfl) (sqi 0)
 ·exact zAo hp fo tv (sqi 1)
 intro L vs w6 nb hL hC hn E6
 have e0 := wXi hC 0
 have e1 := wXi hC 1
 have e2 := wXi hC 2
 have E := E6; simp only [LM, zAb] at E
 rw [zAa hL]
 simp only [SP, Nat.zero_add, Nat.reduceAdd]
 rw [e0, e1, e2]
 clear e0 e1 e2 hC hn E6 hL vs L nb
 go_upto_region 3 with (fail)
 refine rg [ip b3 4, yT, yT] N5 [] E (fun hp => ⟨?_, ?_, ?_, tv⟩) ?_
 ·exact qa b3 0 4 hp (sqo 5)
 ·exact wXc 4 hp (mq 2 rfl) (sqi 0)
 ·exact zAo hp fo tv (sqi 1)
 intro L vs w7 nb hL hC hn E7
 have e0 := wXi hC 0
 have e1 := wXi hC 1
 have e2 := wXi hC 2
 have E := E7; simp only [LM, zAb] at E
 rw [zAa hL]
 simp only [SP, Nat.zero_add, Nat.reduceAdd]
 rw [e0, e1, e2]
 clear e0 e1 e2 hC hn E7 hL vs L nb
 go_upto_region 4 with (fail)
 refine rg [Fq.st [.n x1, .n y1, .v (.bool false)], Fq.st [.n x1, .n y1, .v (.bool false)], Fq.num 0, Fq.any, Fq.any] [some (4, Fq.num 0), some (3, Fq.st [.n x1, .n y1, .v (.bool false)]), none, none, none] [] E (fun hp => ⟨?_, ?_, ?_, ?_, ?_, tv⟩) ?_
 ·exact lS 0 5 hp (mq 3 rfl) zAk (sqo 4)
 ·exact wXa (Fq.st [.n x1, .n y1, .v (.bool false)]) hp zKn (sqi 0) fun v w h => zKx h (Int.lt_of_lt_of_le hx1.out (zAg (by omega))) (Int.lt_of_lt_of_le hy1.out (zAg (by omega))) HX.out HY.out
 ·exact zCx hp fo tv (fun w => Num.zero w)
 ·exact sO 0 1 hp (mq 1 rfl) zAy (sqo 6)
 ·exact sP 2 hp (mq 0 rfl) (sqo 7)
 intro L vs w8 nb hL hC hn E8
 have E := E8; simp only [LM, zAb] at E
 rw [zAa hL]
 simp only [SP, Nat.zero_add, Nat.reduceAdd]
 generalize vs 0 = u8_0
 generalize vs 1 = u8_1
 generalize vs 2 = u8_2
 clear  hC hn E8 hL vs L nb
 clear HX HY
 obtain ⟨_, _, hc0, hf0⟩ := zAu (E.box 1 rfl)
 have hP0 := hf0
 obtain ⟨r0_p0, r0_q0, _, rfl, _r0_n0, r0_p1, r0_q1, _, rfl, _r0_n1, _, rfl, _, rfl⟩ := hf0
 have c0_0 := hc0 0 (by simp)
 have c0_1 := hc0 1 (by simp)
 have c0_2 := hc0 2 (by simp)
 have c0_3 := hc0 3 (by simp)
 have c0_4 := hc0 4 (by simp)
 simp only [List.getD_cons_zero, List.getD_cons_succ] at c0_0 c0_1 c0_2 c0_3 c0_4
 clear hc0
 obtain ⟨p1_0, p1_1, c1_0, c1_1, hP1⟩ := zBd (E.box 0 rfl)
 clear hx1 hy1
 go_wp2
 refine bodyPost_ret (v := .tuple #[.agg #[r0_p0, r0_q0, r0_p1, r0_q1, .bool false], .agg #[p1_0, p1_1]]) ?_ rfl ⟨_, rfl, E.below, ⟨_, _, rfl, ⟨_, rfl, hP0⟩, hP1⟩⟩
 simp [results, Tryz.results53, go_sem, c0_0, c0_1, c0_2, c0_3, c0_4, c1_0, c1_1]

set_option maxRecDepth 100000 in
set_option maxHeartbeats 4000000 in
theorem exSumF {w : World} {v v' u : Value} {A B M x1 y1 x2 y2 : Int} {R : Pt × Int} (h : (Fq.st [.n A, .n B, .n M]).P v w) (h' : (Fq.st [.n x1, .n y1, .v (.bool false)]).P v' w) (h2 : (Fq.st [.n x2, .n y2, .v (.bool false)]).P u w) (hM : ab M < pw 5) (hA : ab A < pw 5) (hx1 : ab x1 < pw 5) (hy1 : ab y1 < pw 5) (hx2 : ab x2 < pw 5) (hy2 : ab y2 < pw 5) (hM0 : 0 < M) (ht : finP M x1 y1 x2 (slN A x1 y1 x2 y2) (slD M x1 y1 x2 y2) = R) :
  Calls Tryz.prog 53 #[v, v', u] w fun e w' => ∃ v', e = .returned v' ∧ Below w.heap.size w w' ∧ (Fq.tup2 (Fq.pt R.1) (Fq.num R.2)).P v' w' := by
 replace hM := hidd hM
 replace hA := hidd hA
 replace hx1 := hidd hx1
 replace hy1 := hidd hy1
 replace hx2 := hidd hx2
 replace hy2 := hidd hy2
 have HM0 := hidd hM0
 obtain ⟨N, hN⟩ : ∃ N, N = slN A x1 y1 x2 y2 := ⟨_, rfl⟩
 obtain ⟨D, hD⟩ : ∃ D, D = slD M x1 y1 x2 y2 := ⟨_, rfl⟩
 have HNB : Hid (ab N < pw 20) := by rw [hN]; exact slN_ab hA.out hx1.out hy1.out hy2.out
 have HDB : Hid (ab D < pw 20) := by rw [hD]; exact slD_ab hM.out hM0 hx1.out hx2.out
 have HND := hidd (And.intro hN hD)
 rw [← hN, ← hD] at ht
 clear hN hD hM0
 obtain ⟨_, rfl, hf0⟩ := h
 have hF0 := hf0
 obtain ⟨y0_p0, y0_q0, _, rfl, _y0_n0, y0_p1, y0_q1, _, rfl, _y0_n1, y0_p2, y0_q2, _, rfl, _y0_n2, rfl⟩ := hf0
 obtain ⟨_, rfl, hf1⟩ := h'
 have hF1 := hf1
 obtain ⟨y1_p0, y1_q0, _, rfl, _y1_n0, y1_p1, y1_q1, _, rfl, _y1_n1, _, rfl, _, rfl⟩ := hf1
 obtain ⟨_, rfl, hf2⟩ := h2
 have hF2 := hf2
 obtain ⟨y2_p0, y2_q0, _, rfl, _y2_n0, y2_p1, y2_q1, _, rfl, _y2_n1, _, rfl, _, rfl⟩ := hf2
 obtain ⟨w1, b1, hw1, hb1, hs1, E⟩ := gS w 34 hF0
 obtain ⟨w2, b2, hw2, hb2, hs2, E⟩ := fS E hs1 36 hF1
 obtain ⟨w3, b3, hw3, hb3, hs3, E⟩ := fS E hs2 36 hF2
 obtain ⟨w4, b4, hw4, hb4, hs4, E⟩ := fO E hs3 36 zA1
 obtain ⟨w5, b5, hw5, hb5, hs5, E⟩ := fZ E hs4 32
 go_enter Tryz.func53, Tryz.ntmps53
 go_upto_region 1 with (fail)
 rw [← hw1]
 rw [← hw2]
 rw [← hw3]
 rw [← hw4]
 rw [← hw5]
 rw [← hb5]
 rw [← hb4]
 rw [← hb3]
 rw [← hb2]
 rw [← hb1]
 clear hw1 hw2 hw3 hw4 hw5 hb1 hb2 hb3 hb4 hb5 hs5 hs1 hs2 hs3 hs4
 refine rg [ip b2 4, yF, yF] N5 [] E (fun hp => ⟨?_, ?_, ?_, tv⟩) ?_
 ·exact qa b2 0 4 hp (sqo 4)
 ·exact wXc 4 hp (mq 3 rfl) (sqi 0)
 ·exact zAo hp fo tv (sqi 1)
 intro L vs w6 nb hL hC hn E6
 have e0 := wXi hC 0
 have e1 := wXi hC 1
 have e2 := wXi hC 2
 have E := E6; simp only [LM, zAb] at E
 rw [zAa hL]
 simp only [SP, Nat.zero_add, Nat.reduceAdd]
 rw [e0, e1, e2]
 clear e0 e1 e2 hC hn E6 hL vs L nb
 go_upto_region 3 with (fail)
 refine rg [ip b3 4, yF, yF] N5 [] E (fun hp => ⟨?_, ?_, ?_, tv⟩) ?_
 ·exact qa b3 0 4 hp (sqo 5)
 ·exact wXc 4 hp (mq 2 rfl) (sqi 0)
 ·exact zAo hp fo tv (sqi 1)
 intro L vs w7 nb hL hC hn E7
 have e0 := wXi hC 0
 have e1 := wXi hC 1
 have e2 := wXi hC 2
 have E := E7; simp only [LM, zAb] at E
 rw [zAa hL]
 simp only [SP, Nat.zero_add, Nat.reduceAdd]
 rw [e0, e1, e2]
 clear e0 e1 e2 hC hn E7 hL vs L nb
 go_upto_region 5 with (fail)
 refine rg [Fq.st [.n A, .n B, .n M], Fq.st [.n x1, .n y1, .v (.bool false)], Fq.st [.n x2, .n y2, .v (.bool false)], Fq.tup2 (Fq.num N) (Fq.num D), Fq.tup2 (Fq.num N) (Fq.num D), Fq.num N, Fq.num D, Fq.any, Fq.any, Fq.any, Fq.any] N5 [⟨7, 9, 2, Fq.num 0, Fq.num N, none⟩, ⟨8, 10, 2, Fq.num 0, Fq.num D, none⟩] E (fun hp => ⟨?_, ?_, ?_, ?_, ?_, ?_, ?_, ?_, ?_, ?_, ?_, tv⟩) ?_
 ·exact lS 0 6 hp (mq 4 rfl) zAm (sqo 3)
 ·exact lS 0 5 hp (mq 3 rfl) zAk (sqo 4)
 ·exact lS 0 5 hp (mq 2 rfl) zAk (sqo 5)
 ·exact zBa (F := (Fq.st [.n A, .n B, .n M]).P) (G := (Fq.st [.n x1, .n y1, .v (.bool false)]).P) (F3 := (Fq.st [.n x2, .n y2, .v (.bool false)]).P) hp fo tv (zNj) (sqi 0) (sqi 1) (sqi 2) (fun v v' u w h h' g => exSlope h h' g hM.out hA.out hx1.out hy1.out hx2.out hy2.out HM0.out HND.out.1.symm HND.out.2.symm)
 ·exact zAe hp fo tv (sqi 3)
 ·exact zA5 hp fo tv (sqi 4) (fun v1 v2 w h1 h2 => ⟨_, rfl, h1⟩)
 ·exact zA5 hp fo tv (sqi 4) (fun v1 v2 w h1 h2 => ⟨_, rfl, h2⟩)
 ·exact aN hp (mq 0 rfl)
 ·exact aN hp (mq 1 rfl)
 ·exact sN 5 hp (mq 0 rfl)
 ·exact sN 6 hp (mq 1 rfl)
 intro L vs w8 nb hL hC hn E8
 have e7 : vs 7 = .pointer (some ⟨nb 7, 0, none⟩) := hn _ (mq 0 rfl)
 have e8 : vs 8 = .pointer (some ⟨nb 8, 0, none⟩) := hn _ (mq 1 rfl)
 have E := E8; simp only [LM, zAb] at E
 rw [zAa hL]
 simp only [SP, Nat.zero_add, Nat.reduceAdd]
 rw [e7, e8]
 generalize nb 7 = b8_7 at E ⊢
 generalize nb 8 = b8_8 at E ⊢
 generalize vs 0 = u8_0
 generalize vs 1 = u8_1
 generalize vs 2 = u8_2
 generalize vs 3 = u8_3
 generalize vs 4 = u8_4
 generalize vs 5 = u8_5
 generalize vs 6 = u8_6
 clear e7 e8 hC hn E8 hL vs L nb
 by_cases h0 : D = 0
 ·unfold finP at ht
  rw [if_pos h0] at ht
  subst ht
  have T0 := hidd (decide_eq_true h0)
  clear h0
  go_upto_region 6 with (fail)
  refine rg [Fq.num D, yT] N7 [] E (fun hp => ⟨?_, ?_, tv⟩) ?_
  ·exact lI 0 hp (mq 1 rfl) (sqo 9) fun us w hl h => zAh hl h
  ·exact wXa (Fq.num D) hp zEo (sqi 0) fun v w h => zEq h T0.out
  intro L vs w9 nb hL hC hn E9
  have e1 := wXi hC 1
  have E := E9; simp only [LM, zAb] at E
  rw [zAa hL]
  simp only [SP, Nat.zero_add, Nat.reduceAdd]
  rw [e1]
  generalize vs 0 = u9_0
  clear e1 hC hn E9 hL vs L nb
  go_upto_region 7 with (fail)
  refine rg [Fq.st [.n 0, .n 0, .v (.bool true)], Fq.num 0, Fq.any, Fq.any] [none, none, some (3, Fq.num 0), some (2, Fq.st [.n 0, .n 0, .v (.bool true)]), none, none, none] [] E (fun hp => ⟨?_, ?_, ?_, ?_, tv⟩) ?_
  ·exact zFy (u2 := true) hp fo tv (zAl (fun _ => rfl)) (fun v w h => h)
  ·exact zCx hp fo tv (fun w => Num.zero w)
  ·exact sO 0 0 hp (mq 3 rfl) zAy (sqo 6)
  ·exact sP 1 hp (mq 2 rfl) (sqo 7)
  intro L vs w10 nb hL hC hn E10
  have E := E10; simp only [LM, zAb] at E
  rw [zAa hL]
  simp only [SP, Nat.zero_add, Nat.reduceAdd]
  generalize vs 0 = u10_0
  generalize vs 1 = u10_1
  clear  hC hn E10 hL vs L nb
  clear T0 HM0 HND
  obtain ⟨_, _, hc0, hf0⟩ := zAu (E.box 3 rfl)
  have hP0 := hf0
  obtain ⟨r0_p0, r0_q0, _, rfl, _r0_n0, r0_p1, r0_q1, _, rfl, _r0_n1, _, rfl, _, rfl⟩ := hf0
  have c0_0 := hc0 0 (by simp)
  have c0_1 := hc0 1 (by simp)
  have c0_2 := hc0 2 (by simp)
  have c0_3 := hc0 3 (by simp)
  have c0_4 := hc0 4 (by simp)
  simp only [List.getD_cons_zero, List.getD_cons_succ] at c0_0 c0_1 c0_2 c0_3 c0_4
  clear hc0
  obtain ⟨p1_0, p1_1, c1_0, c1_1, hP1⟩ := zBd (E.box 2 rfl)
  clear hM hA hx1 hy1 hx2 hy2 HNB HDB
  go_wp2
  refine bodyPost_ret (v := .tuple #[.agg #[r0_p0, r0_q0, r0_p1, r0_q1, .bool true], .agg #[p1_0, p1_1]]) ?_ rfl ⟨_, rfl, E.below, ⟨_, _, rfl, ⟨_, rfl, hP0⟩, hP1⟩⟩
  simp [results, Tryz.results53, go_sem, c0_0, c0_1, c0_2, c0_3, c0_4, c1_0, c1_1]
 ·by_cases h1 : Int.gcd D M = 1
  ·unfold finP at ht
   rw [if_neg h0, if_pos h1] at ht
   subst ht
   have T0 := hidd (decide_eq_false h0)
   have HG := hidd h1
   have HU : Hid (ab (bezU D M) < pw 5) := zFa HM0.out hM.out
   clear h0 h1
   go_upto_region 6 with (fail)
   refine rg [Fq.num D, yF] N7 [] E (fun hp => ⟨?_, ?_, tv⟩) ?_
   ·exact lI 0 hp (mq 1 rfl) (sqo 9) fun us w hl h => zAh hl h
   ·exact wXa (Fq.num D) hp zEo (sqi 0) fun v w h => zEq h T0.out
   intro L vs w11 nb hL hC hn E11
   have e1 := wXi hC 1
   have E := E11; simp only [LM, zAb] at E
   rw [zAa hL]
   simp only [SP, Nat.zero_add, Nat.reduceAdd]
   rw [e1]
   generalize vs 0 = u11_0
   clear e1 hC hn E11 hL vs L nb
   go_upto_region 8 with (fail)
   refine rg [Fq.num D, ip b1 4, Fq.num M, Fq.tup2 (Fq.num (bezU D M)) (Fq.is (.int .i64 0)), Fq.tup2 (Fq.num (bezU D M)) (Fq.is (.int .i64 0)), Fq.num (bezU D M), Fq.is (.int .i64 0), Fq.any, Fq.any, Fq.is (.int .i64 0)] N7 [⟨7, 8, 2, Fq.num 0, Fq.num (bezU D M), none⟩] E (fun hp => ⟨?_, ?_, ?_, ?_, ?_, ?_, ?_, ?_, ?_, ?_, tv⟩) ?_
   ·exact lI 0 hp (mq 1 rfl) (sqo 9) fun us w hl h => zAh hl h
   ·exact qa b1 0 4 hp (sqo 3)
   ·exact lN 4 2 hp (mq 6 rfl) zAd (sqi 1)
   ·exact wXb (Fq.num D) (Fq.num M) hp zKc (sqi 0) (sqi 2) fun v v' w h h' => exInvP h h' (Int.lt_of_lt_of_le HDB.out (zAg (by omega))) (Int.lt_of_lt_of_le hM.out (zAg (by omega))) HM0.out HG.out
   ·exact zAe hp fo tv (sqi 3)
   ·exact zA5 hp fo tv (sqi 4) (fun v1 v2 w h1 h2 => ⟨_, rfl, h1⟩)
   ·exact zA5 hp fo tv (sqi 4) (fun v1 v2 w h1 h2 => ⟨_, rfl, h2⟩)
   ·exact aN hp (mq 0 rfl)
   ·exact sN 5 hp (mq 0 rfl)
   ·exact zAo hp fo tv (sqi 6)
   intro L vs w12 nb hL hC hn E12
   have e1 := wXi hC 1
   have e6 := wXi hC 6
   have e9 := wXi hC 9
   have e7 : vs 7 = .pointer (some ⟨nb 7, 0, none⟩) := hn _ (mq 0 rfl)
   have E := E12; simp only [LM, zAb] at E
   rw [zAa hL]
   simp only [SP, Nat.zero_add, Nat.reduceAdd]
   rw [e1, e6, e9, e7]
   generalize nb 7 = b12_7 at E ⊢
   generalize vs 0 = u12_0
   generalize vs 2 = u12_2
   generalize vs 3 = u12_3
   generalize vs 4 = u12_4
   generalize vs 5 = u12_5
   clear e1 e6 e9 e7 hC hn E12 hL vs L nb
   go_upto_region 9 with (fail)
   refine rg [Fq.is (.int .i64 0), yF] N8 [] E (fun hp => ⟨?_, ?_, tv⟩) ?_
   ·exact zAe hp fo tv (sqo 11)
   ·exact zAf (F := fun v _ => v = .int .i64 0) hp fo tv (sqi 0) (fun ρ w hc h => ⟨.bool false, by simp [execOp, go_sem, h, hc], rfl⟩)
   intro L vs w13 nb hL hC hn E13
   have e0 := wXi hC 0
   have e1 := wXi hC 1
   have E := E13; simp only [LM, zAb] at E
   rw [zAa hL]
   simp only [SP, Nat.zero_add, Nat.reduceAdd]
   rw [e0, e1]
   clear e0 e1 hC hn E13 hL vs L nb
   go_upto_region 11 with (fail)
   have B14 : Hid (ab ((N * (bezU D M))) < pw 25) := zBp HNB.out HU.out (by omega)
   have B15 : Hid (ab (((N * (bezU D M)) % M)) < pw 5) := zCq HM0.out hM.out
   refine rg [Fq.num N, Fq.num (bezU D M), Fq.num (N * (bezU D M)), ip b1 4, Fq.num M, Fq.num ((N * (bezU D M)) % M), Fq.any, Fq.any] N8 [⟨6, 7, 2, Fq.num 0, Fq.num ((N * (bezU D M)) % M), none⟩] E (fun hp => ⟨?_, ?_, ?_, ?_, ?_, ?_, ?_, ?_, tv⟩) ?_
   ·exact lI 0 hp (mq 1 rfl) (sqo 8) fun us w hl h => zAh hl h
   ·exact lI 0 hp (mq 0 rfl) (sqo 10) fun us w hl h => zAh hl h
   ·exact wXb (Fq.num N) (Fq.num (bezU D M)) hp zD8 (sqi 0) (sqi 1) fun v v' w h h' => exK (MulV h h') B14.out (by omega)
   ·exact qa b1 0 4 hp (sqo 3)
   ·exact lN 4 2 hp (mq 7 rfl) zAd (sqi 3)
   ·exact wXb (Fq.num (N * (bezU D M))) (Fq.num M) hp zFi (sqi 2) (sqi 4) fun v v' w h h' => zFm h h' (Int.lt_of_lt_of_le B14.out (zAg (by omega))) (Int.lt_of_lt_of_le hM.out (zAg (by omega))) HM0.out
   ·exact aN hp (mq 0 rfl)
   ·exact sN 5 hp (mq 0 rfl)
   intro L vs w16 nb hL hC hn E16
   have e3 := wXi hC 3
   have e6 : vs 6 = .pointer (some ⟨nb 6, 0, none⟩) := hn _ (mq 0 rfl)
   have E := E16; simp only [LM, zAb] at E
   rw [zAa hL]
   simp only [SP, Nat.zero_add, Nat.reduceAdd]
   rw [e3, e6]
   generalize nb 6 = b16_6 at E ⊢
   generalize vs 0 = u16_0
   generalize vs 1 = u16_1
   generalize vs 2 = u16_2
   generalize vs 4 = u16_4
   generalize vs 5 = u16_5
   clear e3 e6 hC hn E16 hL vs L nb
   go_upto_region 12 with (fail)
   have B17 : Hid (ab ((((N * (bezU D M)) % M) * ((N * (bezU D M)) % M))) < pw 10) := zBp B15.out B15.out (by omega)
   have B18 : Hid (ab ((x1 + x2)) < pw 6) := zB7 hx1.out hx2.out (by omega) (by omega)
   have B19 : Hid (ab (((((N * (bezU D M)) % M) * ((N * (bezU D M)) % M)) - (x1 + x2))) < pw 11) := zBi B17.out B18.out (by omega) (by omega)
   have B20 : Hid (ab ((((((N * (bezU D M)) % M) * ((N * (bezU D M)) % M)) - (x1 + x2)) % M)) < pw 5) := zCq HM0.out hM.out
   refine rg [Fq.num ((N * (bezU D M)) % M), Fq.num ((N * (bezU D M)) % M), Fq.num (((N * (bezU D M)) % M) * ((N * (bezU D M)) % M)), ip b2 0, Fq.num x1, ip b3 0, Fq.num x2, Fq.num (x1 + x2), Fq.num ((((N * (bezU D M)) % M) * ((N * (bezU D M)) % M)) - (x1 + x2)), ip b1 4, Fq.num M, Fq.num (((((N * (bezU D M)) % M) * ((N * (bezU D M)) % M)) - (x1 + x2)) % M), Fq.any, Fq.any] N9 [⟨12, 13, 2, Fq.num 0, Fq.num (((((N * (bezU D M)) % M) * ((N * (bezU D M)) % M)) - (x1 + x2)) % M), none⟩] E (fun hp => ⟨?_, ?_, ?_, ?_, ?_, ?_, ?_, ?_, ?_, ?_, ?_, ?_, ?_, ?_, tv⟩) ?_
   ·exact lI 0 hp (mq 0 rfl) (sqo 12) fun us w hl h => zAh hl h
   ·exact lI 0 hp (mq 0 rfl) (sqo 12) fun us w hl h => zAh hl h
   ·exact wXb (Fq.num ((N * (bezU D M)) % M)) (Fq.num ((N * (bezU D M)) % M)) hp zD8 (sqi 0) (sqi 1) fun v v' w h h' => exK (MulV h h') B17.out (by omega)
   ·exact qa b2 0 0 hp (sqo 4)
   ·exact lN 0 2 hp (mq 7 rfl) zAd (sqi 3)
   ·exact qa b3 0 0 hp (sqo 5)
   ·exact lN 0 2 hp (mq 6 rfl) zAd (sqi 5)
   ·exact wXb (Fq.num x1) (Fq.num x2) hp zGf (sqi 4) (sqi 6) fun v v' w h h' => exK (AddV h h') B18.out (by omega)
   ·exact wXb (Fq.num (((N * (bezU D M)) % M) * ((N * (bezU D M)) % M))) (Fq.num (x1 + x2)) hp zFh (sqi 2) (sqi 7) fun v v' w h h' => exK (SubV h h') B19.out (by omega)
   ·exact qa b1 0 4 hp (sqo 3)
   ·exact lN 4 2 hp (mq 8 rfl) zAd (sqi 9)
   ·exact wXb (Fq.num ((((N * (bezU D M)) % M) * ((N * (bezU D M)) % M)) - (x1 + x2))) (Fq.num M) hp zFi (sqi 8) (sqi 10) fun v v' w h h' => zFm h h' (Int.lt_of_lt_of_le B19.out (zAg (by omega))) (Int.lt_of_lt_of_le hM.out (zAg (by omega))) HM0.out
   ·exact aN hp (mq 0 rfl)
   ·exact sN 11 hp (mq 0 rfl)
   intro L vs w21 nb hL hC hn E21
   have e3 := wXi hC 3
   have e5 := wXi hC 5
   have e9 := wXi hC 9
   have e12 : vs 12 = .pointer (some ⟨nb 12, 0, none⟩) := hn _ (mq 0 rfl)
   have E := E21; simp only [LM, zAb] at E
   rw [zAa hL]
   simp only [SP, Nat.zero_add, Nat.reduceAdd]
   rw [e3, e5, e9, e12]
   generalize nb 12 = b21_12 at E ⊢
   generalize vs 0 = u21_0
   generalize vs 1 = u21_1
   generalize vs 2 = u21_2
   generalize vs 4 = u21_4
   generalize vs 6 = u21_6
   generalize vs 7 = u21_7
   generalize vs 8 = u21_8
   generalize vs 10 = u21_10
   generalize vs 11 = u21_11
   clear e3 e5 e9 e12 hC hn E21 hL vs L nb
   go_upto_region 13 with (fail)
   have B22 : Hid (ab ((x1 - (((((N * (bezU D M)) % M) * ((N * (bezU D M)) % M)) - (x1 + x2)) % M))) < pw 6) := zBi hx1.out B20.out (by omega) (by omega)
   have B23 : Hid (ab ((((N * (bezU D M)) % M) * (x1 - (((((N * (bezU D M)) % M) * ((N * (bezU D M)) % M)) - (x1 + x2)) % M)))) < pw 11) := zBp B15.out B22.out (by omega)
   have B24 : Hid (ab (((((N * (bezU D M)) % M) * (x1 - (((((N * (bezU D M)) % M) * ((N * (bezU D M)) % M)) - (x1 + x2)) % M))) - y1)) < pw 12) := zBi B23.out hy1.out (by omega) (by omega)
   have B25 : Hid (ab ((((((N * (bezU D M)) % M) * (x1 - (((((N * (bezU D M)) % M) * ((N * (bezU D M)) % M)) - (x1 + x2)) % M))) - y1) % M)) < pw 5) := zCq HM0.out hM.out
   refine rg [Fq.num ((N * (bezU D M)) % M), ip b2 0, Fq.num x1, Fq.num (((((N * (bezU D M)) % M) * ((N * (bezU D M)) % M)) - (x1 + x2)) % M), Fq.num (x1 - (((((N * (bezU D M)) % M) * ((N * (bezU D M)) % M)) - (x1 + x2)) % M)), Fq.num (((N * (bezU D M)) % M) * (x1 - (((((N * (bezU D M)) % M) * ((N * (bezU D M)) % M)) - (x1 + x2)) % M))), ip b2 2, Fq.num y1, Fq.num ((((N * (bezU D M)) % M) * (x1 - (((((N * (bezU D M)) % M) * ((N * (bezU D M)) % M)) - (x1 + x2)) % M))) - y1), ip b1 4, Fq.num M, Fq.num (((((N * (bezU D M)) % M) * (x1 - (((((N * (bezU D M)) % M) * ((N * (bezU D M)) % M)) - (x1 + x2)) % M))) - y1) % M), Fq.any, Fq.any] N10 [⟨12, 13, 2, Fq.num 0, Fq.num (((((N * (bezU D M)) % M) * (x1 - (((((N * (bezU D M)) % M) * ((N * (bezU D M)) % M)) - (x1 + x2)) % M))) - y1) % M), none⟩] E (fun hp => ⟨?_, ?_, ?_, ?_, ?_, ?_, ?_, ?_, ?_, ?_, ?_, ?_, ?_, ?_, tv⟩) ?_
   ·exact lI 0 hp (mq 1 rfl) (sqo 12) fun us w hl h => zAh hl h
   ·exact qa b2 0 0 hp (sqo 4)
   ·exact lN 0 2 hp (mq 8 rfl) zAd (sqi 1)
   ·exact lI 0 hp (mq 0 rfl) (sqo 13) fun us w hl h => zAh hl h
   ·exact wXb (Fq.num x1) (Fq.num (((((N * (bezU D M)) % M) * ((N * (bezU D M)) % M)) - (x1 + x2)) % M)) hp zFh (sqi 2) (sqi 3) fun v v' w h h' => exK (SubV h h') B22.out (by omega)
   ·exact wXb (Fq.num ((N * (bezU D M)) % M)) (Fq.num (x1 - (((((N * (bezU D M)) % M) * ((N * (bezU D M)) % M)) - (x1 + x2)) % M))) hp zD8 (sqi 0) (sqi 4) fun v v' w h h' => exK (MulV h h') B23.out (by omega)
   ·exact qa b2 0 2 hp (sqo 4)
   ·exact lN 2 2 hp (mq 8 rfl) zAd (sqi 6)
   ·exact wXb (Fq.num (((N * (bezU D M)) % M) * (x1 - (((((N * (bezU D M)) % M) * ((N * (bezU D M)) % M)) - (x1 + x2)) % M)))) (Fq.num y1) hp zFh (sqi 5) (sqi 7) fun v v' w h h' => exK (SubV h h') B24.out (by omega)
   ·exact qa b1 0 4 hp (sqo 3)
   ·exact lN 4 2 hp (mq 9 rfl) zAd (sqi 9)
   ·exact wXb (Fq.num ((((N * (bezU D M)) % M) * (x1 - (((((N * (bezU D M)) % M) * ((N * (bezU D M)) % M)) - (x1 + x2)) % M))) - y1)) (Fq.num M) hp zFi (sqi 8) (sqi 10) fun v v' w h h' => zFm h h' (Int.lt_of_lt_of_le B24.out (zAg (by omega))) (Int.lt_of_lt_of_le hM.out (zAg (by omega))) HM0.out
   ·exact aN hp (mq 0 rfl)
   ·exact sN 11 hp (mq 0 rfl)
   intro L vs w26 nb hL hC hn E26
   have e1 := wXi hC 1
   have e6 := wXi hC 6
   have e9 := wXi hC 9
   have e12 : vs 12 = .pointer (some ⟨nb 12, 0, none⟩) := hn _ (mq 0 rfl)
   have E := E26; simp only [LM, zAb] at E
   rw [zAa hL]
   simp only [SP, Nat.zero_add, Nat.reduceAdd]
   rw [e1, e6, e9, e12]
   generalize nb 12 = b26_12 at E ⊢
   generalize vs 0 = u26_0
   generalize vs 2 = u26_2
   generalize vs 3 = u26_3
   generalize vs 4 = u26_4
   generalize vs 5 = u26_5
   generalize vs 7 = u26_7
   generalize vs 8 = u26_8
   generalize vs 10 = u26_10
   generalize vs 11 = u26_11
   clear e1 e6 e9 e12 hC hn E26 hL vs L nb
   go_upto_region 14 with (fail)
   refine rg [Fq.num (((((N * (bezU D M)) % M) * ((N * (bezU D M)) % M)) - (x1 + x2)) % M), Fq.num (((((N * (bezU D M)) % M) * (x1 - (((((N * (bezU D M)) % M) * ((N * (bezU D M)) % M)) - (x1 + x2)) % M))) - y1) % M), Fq.st [.n (((((N * (bezU D M)) % M) * ((N * (bezU D M)) % M)) - (x1 + x2)) % M), .n (((((N * (bezU D M)) % M) * (x1 - (((((N * (bezU D M)) % M) * ((N * (bezU D M)) % M)) - (x1 + x2)) % M))) - y1) % M), .v (.bool false)], Fq.num 0, Fq.any, Fq.any] [none, none, none, none, none, none, some (5, Fq.num 0), some (4, Fq.st [.n (((((N * (bezU D M)) % M) * ((N * (bezU D M)) % M)) - (x1 + x2)) % M), .n (((((N * (bezU D M)) % M) * (x1 - (((((N * (bezU D M)) % M) * ((N * (bezU D M)) % M)) - (x1 + x2)) % M))) - y1) % M), .v (.bool false)]), none, none, none] [] E (fun hp => ⟨?_, ?_, ?_, ?_, ?_, ?_, tv⟩) ?_
   ·exact lI 0 hp (mq 1 rfl) (sqo 13) fun us w hl h => zAh hl h
   ·exact lI 0 hp (mq 0 rfl) (sqo 14) fun us w hl h => zAh hl h
   ·exact zFx (z0 := (((((N * (bezU D M)) % M) * ((N * (bezU D M)) % M)) - (x1 + x2)) % M)) (z1 := (((((N * (bezU D M)) % M) * (x1 - (((((N * (bezU D M)) % M) * ((N * (bezU D M)) % M)) - (x1 + x2)) % M))) - y1) % M)) hp fo tv (sqi 0) (sqi 1) (fun v w h => h)
   ·exact zCx hp fo tv (fun w => Num.zero w)
   ·exact sO 0 2 hp (mq 7 rfl) zAy (sqo 6)
   ·exact sP 3 hp (mq 6 rfl) (sqo 7)
   intro L vs w27 nb hL hC hn E27
   have E := E27; simp only [LM, zAb] at E
   rw [zAa hL]
   simp only [SP, Nat.zero_add, Nat.reduceAdd]
   generalize vs 0 = u27_0
   generalize vs 1 = u27_1
   generalize vs 2 = u27_2
   generalize vs 3 = u27_3
   clear  hC hn E27 hL vs L nb
   clear T0 HM0 HND HG
   obtain ⟨_, _, hc0, hf0⟩ := zAu (E.box 7 rfl)
   have hP0 := hf0
   obtain ⟨r0_p0, r0_q0, _, rfl, _r0_n0, r0_p1, r0_q1, _, rfl, _r0_n1, _, rfl, _, rfl⟩ := hf0
   have c0_0 := hc0 0 (by simp)
   have c0_1 := hc0 1 (by simp)
   have c0_2 := hc0 2 (by simp)
   have c0_3 := hc0 3 (by simp)
   have c0_4 := hc0 4 (by simp)
   simp only [List.getD_cons_zero, List.getD_cons_succ] at c0_0 c0_1 c0_2 c0_3 c0_4
   clear hc0
   obtain ⟨p1_0, p1_1, c1_0, c1_1, hP1⟩ := zBd (E.box 6 rfl)
   clear B14 B15 B17 B18 B19 B20 B22 B23 B24 B25 hM hA hx1 hy1 hx2 hy2 HNB HDB HU
   go_wp2
   refine bodyPost_ret (v := .tuple #[.agg #[r0_p0, r0_q0, r0_p1, r0_q1, .bool false], .agg #[p1_0, p1_1]]) ?_ rfl ⟨_, rfl, E.below, ⟨_, _, rfl, ⟨_, rfl, hP0⟩, hP1⟩⟩
   simp [results, Tryz.results53, go_sem, c0_0, c0_1, c0_2, c0_3, c0_4, c1_0, c1_1]
  ·unfold finP at ht
   rw [if_neg h0, if_neg h1] at ht
   subst ht
   have T0 := hidd (decide_eq_false h0)
   have HG := hidd h1
   clear h0 h1
   go_upto_region 6 with (fail)
   refine rg [Fq.num D, yF] N7 [] E (fun hp => ⟨?_, ?_, tv⟩) ?_
   ·exact lI 0 hp (mq 1 rfl) (sqo 9) fun us w hl h => zAh hl h
   ·exact wXa (Fq.num D) hp zEo (sqi 0) fun v w h => zEq h T0.out
   intro L vs w28 nb hL hC hn E28
   have e1 := wXi hC 1
   have E := E28; simp only [LM, zAb] at E
   rw [zAa hL]
   simp only [SP, Nat.zero_add, Nat.reduceAdd]
   rw [e1]
   generalize vs 0 = u28_0
   clear e1 hC hn E28 hL vs L nb
   go_upto_region 8 with (fail)
   refine rg [Fq.num D, ip b1 4, Fq.num M, Fq.tup2 (Fq.num (0)) (Fq.is (.int .i64 4)), Fq.tup2 (Fq.num (0)) (Fq.is (.int .i64 4)), Fq.num (0), Fq.is (.int .i64 4), Fq.any, Fq.any, Fq.is (.int .i64 4)] N7 [⟨7, 8, 2, Fq.num 0, Fq.num (0), none⟩] E (fun hp => ⟨?_, ?_, ?_, ?_, ?_, ?_, ?_, ?_, ?_, ?_, tv⟩) ?_
   ·exact lI 0 hp (mq 1 rfl) (sqo 9) fun us w hl h => zAh hl h
   ·exact qa b1 0 4 hp (sqo 3)
   ·exact lN 4 2 hp (mq 6 rfl) zAd (sqi 1)
   ·exact wXb (Fq.num D) (Fq.num M) hp zKc (sqi 0) (sqi 2) fun v v' w h h' => exInvN h h' (Int.lt_of_lt_of_le HDB.out (zAg (by omega))) (Int.lt_of_lt_of_le hM.out (zAg (by omega))) HM0.out HG.out
   ·exact zAe hp fo tv (sqi 3)
   ·exact zA5 hp fo tv (sqi 4) (fun v1 v2 w h1 h2 => ⟨_, rfl, h1⟩)
   ·exact zA5 hp fo tv (sqi 4) (fun v1 v2 w h1 h2 => ⟨_, rfl, h2⟩)
   ·exact aN hp (mq 0 rfl)
   ·exact sN 5 hp (mq 0 rfl)
   ·exact zAo hp fo tv (sqi 6)
   intro L vs w29 nb hL hC hn E29
   have e1 := wXi hC 1
   have e6 := wXi hC 6
   have e9 := wXi hC 9
   have e7 : vs 7 = .pointer (some ⟨nb 7, 0, none⟩) := hn _ (mq 0 rfl)
   have E := E29; simp only [LM, zAb] at E
   rw [zAa hL]
   simp only [SP, Nat.zero_add, Nat.reduceAdd]
   rw [e1, e6, e9, e7]
   generalize nb 7 = b29_7 at E ⊢
   generalize vs 0 = u29_0
   generalize vs 2 = u29_2
   generalize vs 3 = u29_3
   generalize vs 4 = u29_4
   generalize vs 5 = u29_5
   clear e1 e6 e9 e7 hC hn E29 hL vs L nb
   go_upto_region 9 with (fail)
   refine rg [Fq.is (.int .i64 4), yT] N8 [] E (fun hp => ⟨?_, ?_, tv⟩) ?_
   ·exact zAe hp fo tv (sqo 11)
   ·exact zAf (F := fun v _ => v = .int .i64 4) hp fo tv (sqi 0) (fun ρ w hc h => ⟨.bool true, by simp [execOp, go_sem, h, hc], rfl⟩)
   intro L vs w30 nb hL hC hn E30
   have e0 := wXi hC 0
   have e1 := wXi hC 1
   have E := E30; simp only [LM, zAb] at E
   rw [zAa hL]
   simp only [SP, Nat.zero_add, Nat.reduceAdd]
   rw [e0, e1]
   clear e0 e1 hC hn E30 hL vs L nb
   go_upto_region 10 with (fail)
   refine rg [Fq.st [.n 0, .n 0, .v (.bool false)], Fq.num D, ip b1 4, Fq.num M, Fq.num (Int.gcd D M : Int), Fq.any, Fq.any] [none, none, none, some (6, Fq.num (Int.gcd D M : Int)), some (5, Fq.st [.n 0, .n 0, .v (.bool false)]), none, none, none] [] E (fun hp => ⟨?_, ?_, ?_, ?_, ?_, ?_, ?_, tv⟩) ?_
   ·exact zEy hp fo tv (fun v w h => h)
   ·exact lI 0 hp (mq 2 rfl) (sqo 9) fun us w hl h => zAh hl h
   ·exact qa b1 0 4 hp (sqo 3)
   ·exact lN 4 2 hp (mq 7 rfl) zAd (sqi 2)
   ·exact wXb (Fq.num D) (Fq.num M) hp enq_Gcd (sqi 1) (sqi 3) fun v v' w h h' => exK (GcdV h h') (gcd_ab HM0.out hM.out) (by omega)
   ·exact sO 0 0 hp (mq 4 rfl) zAy (sqo 6)
   ·exact sP 4 hp (mq 3 rfl) (sqo 7)
   intro L vs w31 nb hL hC hn E31
   have e2 := wXi hC 2
   have E := E31; simp only [LM, zAb] at E
   rw [zAa hL]
   simp only [SP, Nat.zero_add, Nat.reduceAdd]
   rw [e2]
   generalize vs 0 = u31_0
   generalize vs 1 = u31_1
   generalize vs 3 = u31_3
   generalize vs 4 = u31_4
   clear e2 hC hn E31 hL vs L nb
   clear T0 HM0 HND HG
   obtain ⟨_, _, hc0, hf0⟩ := zAu (E.box 4 rfl)
   have hP0 := hf0
   obtain ⟨r0_p0, r0_q0, _, rfl, _r0_n0, r0_p1, r0_q1, _, rfl, _r0_n1, _, rfl, _, rfl⟩ := hf0
   have c0_0 := hc0 0 (by simp)
   have c0_1 := hc0 1 (by simp)
   have c0_2 := hc0 2 (by simp)
   have c0_3 := hc0 3 (by simp)
   have c0_4 := hc0 4 (by simp)
   simp only [List.getD_cons_zero, List.getD_cons_succ] at c0_0 c0_1 c0_2 c0_3 c0_4
   clear hc0
   obtain ⟨p1_0, p1_1, c1_0, c1_1, hP1⟩ := zBd (E.box 3 rfl)
   clear hM hA hx1 hy1 hx2 hy2 HNB HDB
   go_wp2
   refine bodyPost_ret (v := .tuple #[.agg #[r0_p0, r0_q0, r0_p1, r0_q1, .bool false], .agg #[p1_0, p1_1]]) ?_ rfl ⟨_, rfl, E.below, ⟨_, _, rfl, ⟨_, rfl, hP0⟩, hP1⟩⟩
   simp [results, Tryz.results53, go_sem, c0_0, c0_1, c0_2, c0_3, c0_4, c1_0, c1_1]

theorem zFn {w : World} {v v' u : Value} {A B M : Int} {P Q : Pt} (h : (Fq.st [.n A, .n B, .n M]).P v w) (h' : (Fq.pt P).P v' w) (h2 : (Fq.pt Q).P u w) (hM : ab M < pw 5) (hA : ab A < pw 5) (hP : P.Ok M) (hQ : Q.Ok M) {R : Pt × Int} (ht : sumP A M P Q = R) : Calls Tryz.prog 53 #[v, v', u] w fun e w' => ∃ v', e = .returned v' ∧ Below w.heap.size w w' ∧ (Fq.tup2 (Fq.pt R.1) (Fq.num R.2)).P v' w' := by
 subst ht
 have h1 := hP.ab hM
 have h3 := hQ.ab hM
 obtain ⟨x1, y1, i1⟩ := P
 obtain ⟨x2, y2, i2⟩ := Q
 cases i1 with
 | true => exact exSumI h h' h2 h3.1 h3.2 hQ.1 hQ.2.2.1
 | false =>
  cases i2 with
  | true => exact exSumJ h h' h2 h1.1 h1.2 hP.1 hP.2.2.1
  | false => exact exSumF h h' h2 hM hA h1.1 h1.2 h3.1 h3.2 (by have := hP.1; have := hP.2.1; omega) rfl

theorem zCt {A B M : Int} {P : Pt} (h : onB A B M P.x P.y P.i = true) : P.Ok M ∧ 3 < M := by
 obtain ⟨x, y, i⟩ := P
 simp only [onB, Bool.and_eq_true] at h
 have hc := zIp h.1
 refine ⟨?_, hc.2.1.1⟩
 have h2 := h.2
 unfold ptB at h2
 cases i with
 | true => simp at h2; obtain ⟨rfl, rfl⟩ := h2; exact ⟨by show (0 : Int) ≤ 0; omega, by show (0 : Int) < M; omega, by show (0 : Int) ≤ 0; omega, by show (0 : Int) < M; omega⟩
 | false =>
  simp only [resB, Bool.and_eq_true, decide_eq_true_eq, Bool.false_eq_true, if_false] at h2
  exact ⟨h2.1.1, h2.1.2, h2.2.1.1, h2.2.1.2⟩
set_option maxRecDepth 100000 in
set_option maxHeartbeats 4000000 in
theorem zKy {w : World} {v v' : Value} {x y d : Int} {i : Bool} (h : (Fq.st [.n x, .n y, .v (.bool i)]).P v w) (h' : Num w v' d) (hd : d = 0) :
  Calls Tryz.prog 83 #[v, v'] w fun e w' => ∃ v', e = .returned v' ∧ Below w.heap.size w w' ∧ (Fq.st [.n x, .n y, .v (.bool i)]).P v' w' := by
 obtain ⟨_, rfl, hf0⟩ := h
 have hF0 := hf0
 obtain ⟨y0_p0, y0_q0, _, rfl, _y0_n0, y0_p1, y0_q1, _, rfl, _y0_n1, _, rfl, _, rfl⟩ := hf0
 obtain ⟨n1, ao1, k1, c1, rfl⟩ := h'.parts
 obtain ⟨w1, b1, hw1, hb1, hs1, E⟩ := gS w 36 hF0
 obtain ⟨w2, b2, hw2, hb2, hs2, E⟩ := fN E hs1 32 h'
 obtain ⟨w3, b3, hw3, hb3, hs3, E⟩ := fO E hs2 36 zA1
 go_enter Tryz.func83, Tryz.ntmps83
 go_upto_region 1 with (fail)
 rw [← hw1]
 rw [← hw2]
 rw [← hw3]
 rw [← hb3]
 rw [← hb2]
 rw [← hb1]
 clear hw1 hw2 hw3 hb1 hb2 hb3 hs3 hs1 hs2
 subst hd
 have T1 : Hid (cmpI 0 0 = 0) := cmpIq0.2 rfl
 refine rg [Fq.num 0, Fq.is (.int .i64 (cmpI 0 0)), yF] N3 [] E (fun hp => ⟨?_, ?_, ?_, tv⟩) ?_
 ·exact lI 0 hp (mq 1 rfl) (sqo 3) fun us w hl h => zAh hl h
 ·exact wXa (Fq.num 0) hp zCf (sqi 0) fun v w h => zCg h
 ·exact zAf (F := fun v _ => v = .int .i64 (cmpI 0 0)) hp fo tv (sqi 1) (fun ρ w hc h => ⟨.bool false, by simp [execOp, go_sem, h, hc, T1.out], rfl⟩)
 intro L vs w4 nb hL hC hn E4
 have e1 := wXi hC 1
 have e2 := wXi hC 2
 have E := E4; simp only [LM, zAb] at E
 rw [zAa hL]
 simp only [SP, Nat.zero_add, Nat.reduceAdd]
 rw [e1, e2]
 generalize vs 0 = u4_0
 clear e1 e2 hC hn E4 hL vs L nb
 clear T1
 go_upto_region 3 with (fail)
 refine rg [Fq.st [.n x, .n y, .v (.bool i)], Fq.any] [some (1, Fq.st [.n x, .n y, .v (.bool i)]), none, none] [] E (fun hp => ⟨?_, ?_, tv⟩) ?_
 ·exact lS 0 5 hp (mq 2 rfl) zAk (sqo 2)
 ·exact sO 0 0 hp (mq 0 rfl) zAy (sqo 4)
 intro L vs w5 nb hL hC hn E5
 have E := E5; simp only [LM, zAb] at E
 rw [zAa hL]
 simp only [SP, Nat.zero_add, Nat.reduceAdd]
 generalize vs 0 = u5_0
 clear  hC hn E5 hL vs L nb
 obtain ⟨_, _, hc0, hf0⟩ := zAu (E.box 0 rfl)
 have hP0 := hf0
 obtain ⟨r0_p0, r0_q0, _, rfl, _r0_n0, r0_p1, r0_q1, _, rfl, _r0_n1, _, rfl, _, rfl⟩ := hf0
 have c0_0 := hc0 0 (by simp)
 have c0_1 := hc0 1 (by simp)
 have c0_2 := hc0 2 (by simp)
 have c0_3 := hc0 3 (by simp)
 have c0_4 := hc0 4 (by simp)
 simp only [List.getD_cons_zero, List.getD_cons_succ] at c0_0 c0_1 c0_2 c0_3 c0_4
 clear hc0
 go_wp2
 refine bodyPost_ret (v := .agg #[r0_p0, r0_q0, r0_p1, r0_q1, .bool i]) ?_ rfl ⟨_, rfl, E.below, ⟨_, rfl, hP0⟩⟩
 simp [results, Tryz.results83, go_sem, c0_0, c0_1, c0_2, c0_3, c0_4]

set_option maxRecDepth 100000 in
set_option maxHeartbeats 4000000 in
theorem zKz {w : World} {v v' : Value} {x y d : Int} {i : Bool} (h : (Fq.st [.n x, .n y, .v (.bool i)]).P v w) (h' : Num w v' d) (hd : ¬ d = 0) :
  Calls Tryz.prog 83 #[v, v'] w fun e w' => ∃ v', e = .panicked [{ v := .iface 32 v', recovered := false }] ∧ Below w.heap.size w w' ∧ Num w' v' d := by
 obtain ⟨_, rfl, hf0⟩ := h
 have hF0 := hf0
 obtain ⟨y0_p0, y0_q0, _, rfl, _y0_n0, y0_p1, y0_q1, _, rfl, _y0_n1, _, rfl, _, rfl⟩ := hf0
 obtain ⟨n1, ao1, k1, c1, rfl⟩ := h'.parts
 obtain ⟨w1, b1, hw1, hb1, hs1, E⟩ := gS w 36 hF0
 obtain ⟨w2, b2, hw2, hb2, hs2, E⟩ := fN E hs1 32 h'
 obtain ⟨w3, b3, hw3, hb3, hs3, E⟩ := fO E hs2 36 zA1
 go_enter Tryz.func83, Tryz.ntmps83
 go_upto_region 1 with (fail)
 rw [← hw1]
 rw [← hw2]
 rw [← hw3]
 rw [← hb3]
 rw [← hb2]
 rw [← hb1]
 clear hw1 hw2 hw3 hb1 hb2 hb3 hs3 hs1 hs2
 have T1 : Hid (¬ cmpI d 0 = 0) := fun e => hd (cmpIq0.1 e)
 clear hd
 refine rg [Fq.num d, Fq.is (.int .i64 (cmpI d 0)), yT] N3 [] E (fun hp => ⟨?_, ?_, ?_, tv⟩) ?_
 ·exact lI 0 hp (mq 1 rfl) (sqo 3) fun us w hl h => zAh hl h
 ·exact wXa (Fq.num d) hp zCf (sqi 0) fun v w h => zCg h
 ·exact zAf (F := fun v _ => v = .int .i64 (cmpI d 0)) hp fo tv (sqi 1) (fun ρ w hc h => ⟨.bool true, by simp [execOp, go_sem, h, hc, T1.out], rfl⟩)
 intro L vs w4 nb hL hC hn E4
 have e1 := wXi hC 1
 have e2 := wXi hC 2
 have E := E4; simp only [LM, zAb] at E
 rw [zAa hL]
 simp only [SP, Nat.zero_add, Nat.reduceAdd]
 rw [e1, e2]
 generalize vs 0 = u4_0
 clear e1 e2 hC hn E4 hL vs L nb
 clear T1
 obtain ⟨p0, p1, c0, c1, hP⟩ := zBd (E.box 1 rfl)
 go_wp2
 exact ⟨rfl, _, rfl, E.below, hP⟩

set_option maxRecDepth 100000 in
set_option maxHeartbeats 4000000 in
theorem exNegE {w : World} {v v' : Value} {A B M : Int} {P : Pt} (h : (Fq.st [.n A, .n B, .n M]).P v w) (h' : (Fq.pt P).P v' w) (hM : ab M < pw 5) (hA : ab A < pw 5) (hB : ab B < pw 5) (hP : ab P.x < pw 5 ∧ ab P.y < pw 5) (ht : onB A B M P.x P.y P.i = false) :
  Calls Tryz.prog 12 #[v, v'] w fun e w' => ∃ v', e = .returned v' ∧ Below w.heap.size w w' ∧ (Fq.tup2 (Fq.pt ⟨0, 0, false⟩) (Fq.is (.int .i64 1))).P v' w' := by
 replace hM := hidd hM
 replace hA := hidd hA
 replace hB := hidd hB
 replace hP := hidd hP
 replace ht := hidd ht
 obtain ⟨_, rfl, hf0⟩ := h
 have hF0 := hf0
 obtain ⟨y0_p0, y0_q0, _, rfl, _y0_n0, y0_p1, y0_q1, _, rfl, _y0_n1, y0_p2, y0_q2, _, rfl, _y0_n2, rfl⟩ := hf0
 obtain ⟨_, rfl, hf1⟩ := h'
 have hF1 := hf1
 obtain ⟨y1_p0, y1_q0, _, rfl, _y1_n0, y1_p1, y1_q1, _, rfl, _y1_n1, _, rfl, _, rfl⟩ := hf1
 obtain ⟨w1, b1, hw1, hb1, hs1, E⟩ := gS w 34 hF0
 obtain ⟨w2, b2, hw2, hb2, hs2, E⟩ := fS E hs1 36 hF1
 obtain ⟨w3, b3, hw3, hb3, hs3, E⟩ := fO E hs2 36 zA1
 go_enter Tryz.func12, Tryz.ntmps12
 go_upto_region 1 with (fail)
 rw [← hw1]
 rw [← hw2]
 rw [← hw3]
 rw [← hb3]
 rw [← hb2]
 rw [← hb1]
 clear hw1 hw2 hw3 hb1 hb2 hb3 hs3 hs1 hs2
 refine rg [Fq.st [.n A, .n B, .n M], Fq.st [.n P.x, .n P.y, .v (.bool P.i)], yF, yT] N3 [] E (fun hp => ⟨?_, ?_, ?_, ?_, tv⟩) ?_
 ·exact lS 0 6 hp (mq 2 rfl) zAm (sqo 2)
 ·exact lS 0 5 hp (mq 1 rfl) zAk (sqo 3)
 ·exact wXb (Fq.st [.n A, .n B, .n M]) (Fq.st [.n P.x, .n P.y, .v (.bool P.i)]) hp zB3 (sqi 0) (sqi 1) fun v v' w h h' => exOn h h' hM.out hA.out hB.out hP.out.1 hP.out.2 ht.out
 ·exact zAf (F := fun v _ => v = .bool false) hp fo tv (sqi 2) (fun ρ w _ h => ⟨.bool true, by simp [execOp, go_sem, h], rfl⟩)
 intro L vs w4 nb hL hC hn E4
 have e2 := wXi hC 2
 have e3 := wXi hC 3
 have E := E4; simp only [LM, zAb] at E
 rw [zAa hL]
 simp only [SP, Nat.zero_add, Nat.reduceAdd]
 rw [e2, e3]
 generalize vs 0 = u4_0
 generalize vs 1 = u4_1
 clear e2 e3 hC hn E4 hL vs L nb
 go_upto_region 2 with (fail)
 refine rg [Fq.st [.n 0, .n 0, .v (.bool false)], Fq.any, Fq.is (.int .i64 1)] [some (1, Fq.st [.n 0, .n 0, .v (.bool false)]), none, none] [] E (fun hp => ⟨?_, ?_, ?_, tv⟩) ?_
 ·exact zEy hp fo tv (fun v w h => h)
 ·exact sO 0 0 hp (mq 0 rfl) zAy (sqo 4)
 ·exact zAo hp fo tv (zAl (fun _ => rfl))
 intro L vs w5 nb hL hC hn E5
 have e2 := wXi hC 2
 have E := E5; simp only [LM, zAb] at E
 rw [zAa hL]
 simp only [SP, Nat.zero_add, Nat.reduceAdd]
 rw [e2]
 generalize vs 0 = u5_0
 clear e2 hC hn E5 hL vs L nb
 clear ht
 obtain ⟨_, _, hc, hf⟩ := zAu (E.box 0 rfl)
 have hR := hf
 obtain ⟨r_p0, r_q0, _, rfl, _r_n0, r_p1, r_q1, _, rfl, _r_n1, _, rfl, _, rfl⟩ := hf
 have c0 := hc 0 (by simp)
 have c1 := hc 1 (by simp)
 have c2 := hc 2 (by simp)
 have c3 := hc 3 (by simp)
 have c4 := hc 4 (by simp)
 simp only [List.getD_cons_zero, List.getD_cons_succ] at c0 c1 c2 c3 c4
 clear hc
 clear hM hA hB hP
 go_wp2
 refine bodyPost_ret (v := .tuple #[.agg #[r_p0, r_q0, r_p1, r_q1, .bool false], .int .i64 1]) ?_ rfl ⟨_, rfl, E.below, _, _, rfl, ⟨_, rfl, hR⟩, rfl⟩
 simp [results, Tryz.results12, go_sem, c0, c1, c2, c3, c4]

set_option maxRecDepth 100000 in
set_option maxHeartbeats 4000000 in
theorem exNegN {w : World} {v v' : Value} {A B M : Int} {P : Pt} (h : (Fq.st [.n A, .n B, .n M]).P v w) (h' : (Fq.pt P).P v' w) (hM : ab M < pw 5) (hA : ab A < pw 5) (hB : ab B < pw 5) (hP : ab P.x < pw 5 ∧ ab P.y < pw 5) (ht : onB A B M P.x P.y P.i = true) :
  Calls Tryz.prog 12 #[v, v'] w fun e w' => ∃ v', e = .returned v' ∧ Below w.heap.size w w' ∧ (Fq.tup2 (Fq.pt (oppP M P)) (Fq.is (.int .i64 0))).P v' w' := by
 replace hM := hidd hM
 replace hA := hidd hA
 replace hB := hidd hB
 replace hP := hidd hP
 replace ht := hidd ht
 obtain ⟨_, rfl, hf0⟩ := h
 have hF0 := hf0
 obtain ⟨y0_p0, y0_q0, _, rfl, _y0_n0, y0_p1, y0_q1, _, rfl, _y0_n1, y0_p2, y0_q2, _, rfl, _y0_n2, rfl⟩ := hf0
 obtain ⟨_, rfl, hf1⟩ := h'
 have hF1 := hf1
 obtain ⟨y1_p0, y1_q0, _, rfl, _y1_n0, y1_p1, y1_q1, _, rfl, _y1_n1, _, rfl, _, rfl⟩ := hf1
 obtain ⟨w1, b1, hw1, hb1, hs1, E⟩ := gS w 34 hF0
 obtain ⟨w2, b2, hw2, hb2, hs2, E⟩ := fS E hs1 36 hF1
 obtain ⟨w3, b3, hw3, hb3, hs3, E⟩ := fO E hs2 36 zA1
 go_enter Tryz.func12, Tryz.ntmps12
 go_upto_region 1 with (fail)
 rw [← hw1]
 rw [← hw2]
 rw [← hw3]
 rw [← hb3]
 rw [← hb2]
 rw [← hb1]
 clear hw1 hw2 hw3 hb1 hb2 hb3 hs3 hs1 hs2
 refine rg [Fq.st [.n A, .n B, .n M], Fq.st [.n P.x, .n P.y, .v (.bool P.i)], yT, yF] N3 [] E (fun hp => ⟨?_, ?_, ?_, ?_, tv⟩) ?_
 ·exact lS 0 6 hp (mq 2 rfl) zAm (sqo 2)
 ·exact lS 0 5 hp (mq 1 rfl) zAk (sqo 3)
 ·exact wXb (Fq.st [.n A, .n B, .n M]) (Fq.st [.n P.x, .n P.y, .v (.bool P.i)]) hp zB3 (sqi 0) (sqi 1) fun v v' w h h' => exOn h h' hM.out hA.out hB.out hP.out.1 hP.out.2 ht.out
 ·exact zAf (F := fun v _ => v = .bool true) hp fo tv (sqi 2) (fun ρ w _ h => ⟨.bool false, by simp [execOp, go_sem, h], rfl⟩)
 intro L vs w4 nb hL hC hn E4
 have e2 := wXi hC 2
 have e3 := wXi hC 3
 have E := E4; simp only [LM, zAb] at E
 rw [zAa hL]
 simp only [SP, Nat.zero_add, Nat.reduceAdd]
 rw [e2, e3]
 generalize vs 0 = u4_0
 generalize vs 1 = u4_1
 clear e2 e3 hC hn E4 hL vs L nb
 go_upto_region 3 with (fail)
 refine rg [Fq.st [.n A, .n B, .n M], Fq.st [.n P.x, .n P.y, .v (.bool P.i)], Fq.st [.n ((oppP M P).x), .n ((oppP M P).y), .v (.bool (oppP M P).i)], Fq.any, Fq.is (.int .i64 0)] [some (3, Fq.st [.n ((oppP M P).x), .n ((oppP M P).y), .v (.bool (oppP M P).i)]), none, none] [] E (fun hp => ⟨?_, ?_, ?_, ?_, ?_, tv⟩) ?_
 ·exact lS 0 6 hp (mq 2 rfl) zAm (sqo 2)
 ·exact lS 0 5 hp (mq 1 rfl) zAk (sqo 3)
 ·exact wXb (Fq.st [.n A, .n B, .n M]) (Fq.st [.n P.x, .n P.y, .v (.bool P.i)]) hp zIu (sqi 0) (sqi 1) fun v v' w h h' => exOppP h h' hM.out (zCt ht.out).1
 ·exact sO 0 2 hp (mq 0 rfl) zAy (sqo 4)
 ·exact zAo hp fo tv (zAl (fun _ => rfl))
 intro L vs w5 nb hL hC hn E5
 have e4 := wXi hC 4
 have E := E5; simp only [LM, zAb] at E
 rw [zAa hL]
 simp only [SP, Nat.zero_add, Nat.reduceAdd]
 rw [e4]
 generalize vs 0 = u5_0
 generalize vs 1 = u5_1
 generalize vs 2 = u5_2
 clear e4 hC hn E5 hL vs L nb
 clear ht
 obtain ⟨_, _, hc, hf⟩ := zAu (E.box 0 rfl)
 have hR := hf
 obtain ⟨r_p0, r_q0, _, rfl, _r_n0, r_p1, r_q1, _, rfl, _r_n1, _, rfl, _, rfl⟩ := hf
 have c0 := hc 0 (by simp)
 have c1 := hc 1 (by simp)
 have c2 := hc 2 (by simp)
 have c3 := hc 3 (by simp)
 have c4 := hc 4 (by simp)
 simp only [List.getD_cons_zero, List.getD_cons_succ] at c0 c1 c2 c3 c4
 clear hc
 clear hM hA hB hP
 go_wp2
 refine bodyPost_ret (v := .tuple #[.agg #[r_p0, r_q0, r_p1, r_q1, .bool (oppP M P).i], .int .i64 0]) ?_ rfl ⟨_, rfl, E.below, _, _, rfl, ⟨_, rfl, hR⟩, rfl⟩
 simp [results, Tryz.results12, go_sem, c0, c1, c2, c3, c4]

set_option maxRecDepth 100000 in
set_option maxHeartbeats 4000000 in
theorem exAddE1 {w : World} {v v' u : Value} {A B M : Int} {P Q : Pt} (h : (Fq.st [.n A, .n B, .n M]).P v w) (h' : (Fq.pt P).P v' w) (h2 : (Fq.pt Q).P u w) (hM : ab M < pw 5) (hA : ab A < pw 5) (hB : ab B < pw 5) (hP : ab P.x < pw 5 ∧ ab P.y < pw 5) (hQ : ab Q.x < pw 5 ∧ ab Q.y < pw 5) (kp : onB A B M P.x P.y P.i = false) :
  Calls Tryz.prog 31 #[v, v', u] w fun e w' => ∃ v', e = .returned v' ∧ Below w.heap.size w w' ∧ (Fq.tup3 (Fq.pt ⟨0, 0, false⟩) (Fq.num 0) (Fq.is (.int .i64 1))).P v' w' := by
 replace hM := hidd hM
 replace hA := hidd hA
 replace hB := hidd hB
 replace hP := hidd hP
 replace hQ := hidd hQ
 replace kp := hidd kp
 obtain ⟨_, rfl, hf0⟩ := h
 have hF0 := hf0
 obtain ⟨y0_p0, y0_q0, _, rfl, _y0_n0, y0_p1, y0_q1, _, rfl, _y0_n1, y0_p2, y0_q2, _, rfl, _y0_n2, rfl⟩ := hf0
 obtain ⟨_, rfl, hf1⟩ := h'
 have hF1 := hf1
 obtain ⟨y1_p0, y1_q0, _, rfl, _y1_n0, y1_p1, y1_q1, _, rfl, _y1_n1, _, rfl, _, rfl⟩ := hf1
 obtain ⟨_, rfl, hf2⟩ := h2
 have hF2 := hf2
 obtain ⟨y2_p0, y2_q0, _, rfl, _y2_n0, y2_p1, y2_q1, _, rfl, _y2_n1, _, rfl, _, rfl⟩ := hf2
 obtain ⟨w1, b1, hw1, hb1, hs1, E⟩ := gS w 34 hF0
 obtain ⟨w2, b2, hw2, hb2, hs2, E⟩ := fS E hs1 36 hF1
 obtain ⟨w3, b3, hw3, hb3, hs3, E⟩ := fS E hs2 36 hF2
 obtain ⟨w4, b4, hw4, hb4, hs4, E⟩ := fO E hs3 36 zA1
 obtain ⟨w5, b5, hw5, hb5, hs5, E⟩ := fZ E hs4 32
 go_enter Tryz.func31, Tryz.ntmps31
 go_upto_region 1 with (fail)
 rw [← hw1]
 rw [← hw2]
 rw [← hw3]
 rw [← hw4]
 rw [← hw5]
 rw [← hb5]
 rw [← hb4]
 rw [← hb3]
 rw [← hb2]
 rw [← hb1]
 clear hw1 hw2 hw3 hw4 hw5 hb1 hb2 hb3 hb4 hb5 hs5 hs1 hs2 hs3 hs4
 refine rg [Fq.st [.n A, .n B, .n M], Fq.st [.n P.x, .n P.y, .v (.bool P.i)], yF, yT, yT, Fq.is (undef), Fq.is (undef), Fq.is (undef), Fq.is (undef), yT] N5 [] E (fun hp => ⟨?_, ?_, ?_, ?_, ?_, ?_, ?_, ?_, ?_, ?_, tv⟩) ?_
 ·exact lS 0 6 hp (mq 4 rfl) zAm (sqo 3)
 ·exact lS 0 5 hp (mq 3 rfl) zAk (sqo 4)
 ·exact wXb (Fq.st [.n A, .n B, .n M]) (Fq.st [.n P.x, .n P.y, .v (.bool P.i)]) hp zB3 (sqi 0) (sqi 1) fun v v' w h h' => exOn h h' hM.out hA.out hB.out hP.out.1 hP.out.2 kp.out
 ·exact zAf (F := fun v _ => v = .bool false) hp fo tv (sqi 2) (fun ρ w _ h => ⟨.bool true, by simp [execOp, go_sem, h], rfl⟩)
 ·exact zAe hp fo tv (sqi 3)
 ·exact zAj hp fo rfl gqi (fun _ => rfl)
 ·exact zAj hp fo rfl gqi (fun _ => rfl)
 ·exact zAj hp fo rfl gqi (fun _ => rfl)
 ·exact zAj hp fo rfl gqi (fun _ => rfl)
 ·exact zAi (F := fun v _ => v = .bool true) (G := fun v _ => v = .bool true) hp fo tv (sqi 4) (zAl (fun _ => rfl)) (fun ρ w hc h h' => ⟨_, by simp [execOp, go_sem, h, h'], rfl⟩)
 intro L vs w6 nb hL hC hn E6
 have e2 := wXi hC 2
 have e3 := wXi hC 3
 have e4 := wXi hC 4
 have e5 := wXi hC 5
 have e6 := wXi hC 6
 have e7 := wXi hC 7
 have e8 := wXi hC 8
 have e9 := wXi hC 9
 have E := E6; simp only [LM, zAb] at E
 rw [zAa hL]
 simp only [SP, Nat.zero_add, Nat.reduceAdd]
 rw [e2, e3, e4, e5, e6, e7, e8, e9]
 generalize vs 0 = u6_0
 generalize vs 1 = u6_1
 clear e2 e3 e4 e5 e6 e7 e8 e9 hC hn E6 hL vs L nb
 go_upto_region 2 with (fail)
 refine rg [Fq.st [.n 0, .n 0, .v (.bool false)], Fq.num 0, Fq.any, Fq.any, Fq.is (.int .i64 1)] [some (3, Fq.num 0), some (2, Fq.st [.n 0, .n 0, .v (.bool false)]), none, none, none] [] E (fun hp => ⟨?_, ?_, ?_, ?_, ?_, tv⟩) ?_
 ·exact zEy hp fo tv (fun v w h => h)
 ·exact zCx hp fo tv (fun w => Num.zero w)
 ·exact sO 0 0 hp (mq 1 rfl) zAy (sqo 6)
 ·exact sP 1 hp (mq 0 rfl) (sqo 7)
 ·exact zAo hp fo tv (zAl (fun _ => rfl))
 intro L vs w7 nb hL hC hn E7
 have e4 := wXi hC 4
 have E := E7; simp only [LM, zAb] at E
 rw [zAa hL]
 simp only [SP, Nat.zero_add, Nat.reduceAdd]
 rw [e4]
 generalize vs 0 = u7_0
 generalize vs 1 = u7_1
 clear e4 hC hn E7 hL vs L nb
 clear kp
 obtain ⟨_, _, hc, hf⟩ := zAu (E.box 1 rfl)
 have hR := hf
 obtain ⟨r_p0, r_q0, _, rfl, _r_n0, r_p1, r_q1, _, rfl, _r_n1, _, rfl, _, rfl⟩ := hf
 have c0 := hc 0 (by simp)
 have c1 := hc 1 (by simp)
 have c2 := hc 2 (by simp)
 have c3 := hc 3 (by simp)
 have c4 := hc 4 (by simp)
 simp only [List.getD_cons_zero, List.getD_cons_succ] at c0 c1 c2 c3 c4
 clear hc
 obtain ⟨d0, d1, e0, e1, hD⟩ := zBd (E.box 0 rfl)
 clear hM hA hB hP hQ
 go_wp2
 refine bodyPost_ret (v := .tuple #[.agg #[r_p0, r_q0, r_p1, r_q1, .bool false], .agg #[d0, d1], .int .i64 1]) ?_ rfl ⟨_, rfl, E.below, _, _, _, rfl, ⟨_, rfl, hR⟩, hD, rfl⟩
 simp [results, Tryz.results31, go_sem, e0, e1, c0, c1, c2, c3, c4]

set_option maxRecDepth 100000 in
set_option maxHeartbeats 4000000 in
theorem exAddE2 {w : World} {v v' u : Value} {A B M : Int} {P Q : Pt} (h : (Fq.st [.n A, .n B, .n M]).P v w) (h' : (Fq.pt P).P v' w) (h2 : (Fq.pt Q).P u w) (hM : ab M < pw 5) (hA : ab A < pw 5) (hB : ab B < pw 5) (hP : ab P.x < pw 5 ∧ ab P.y < pw 5) (hQ : ab Q.x < pw 5 ∧ ab Q.y < pw 5) (kp : onB A B M P.x P.y P.i = true) (kq : onB A B M Q.x Q.y Q.i = false) :
  Calls Tryz.prog 31 #[v, v', u] w fun e w' => ∃ v', e = .returned v' ∧ Below w.heap.size w w' ∧ (Fq.tup3 (Fq.pt ⟨0, 0, false⟩) (Fq.num 0) (Fq.is (.int .i64 1))).P v' w' := by
 replace hM := hidd hM
 replace hA := hidd hA
 replace hB := hidd hB
 replace hP := hidd hP
 replace hQ := hidd hQ
 replace kp := hidd kp
 replace kq := hidd kq
 obtain ⟨_, rfl, hf0⟩ := h
 have hF0 := hf0
 obtain ⟨y0_p0, y0_q0, _, rfl, _y0_n0, y0_p1, y0_q1, _, rfl, _y0_n1, y0_p2, y0_q2, _, rfl, _y0_n2, rfl⟩ := hf0
 obtain ⟨_, rfl, hf1⟩ := h'
 have hF1 := hf1
 obtain ⟨y1_p0, y1_q0, _, rfl, _y1_n0, y1_p1, y1_q1, _, rfl, _y1_n1, _, rfl, _, rfl⟩ := hf1
 obtain ⟨_, rfl, hf2⟩ := h2
 have hF2 := hf2
 obtain ⟨y2_p0, y2_q0, _, rfl, _y2_n0, y2_p1, y2_q1, _, rfl, _y2_n1, _, rfl, _, rfl⟩ := hf2
 obtain ⟨w1, b1, hw1, hb1, hs1, E⟩ := gS w 34 hF0
 obtain ⟨w2, b2, hw2, hb2, hs2, E⟩ := fS E hs1 36 hF1
 obtain ⟨w3, b3, hw3, hb3, hs3, E⟩ := fS E hs2 36 hF2
 obtain ⟨w4, b4, hw4, hb4, hs4, E⟩ := fO E hs3 36 zA1
 obtain ⟨w5, b5, hw5, hb5, hs5, E⟩ := fZ E hs4 32
 go_enter Tryz.func31, Tryz.ntmps31
 go_upto_region 1 with (fail)
 rw [← hw1]
 rw [← hw2]
 rw [← hw3]
 rw [← hw4]
 rw [← hw5]
 rw [← hb5]
 rw [← hb4]
 rw [← hb3]
 rw [← hb2]
 rw [← hb1]
 clear hw1 hw2 hw3 hw4 hw5 hb1 hb2 hb3 hb4 hb5 hs5 hs1 hs2 hs3 hs4
 refine rg [Fq.st [.n A, .n B, .n M], Fq.st [.n P.x, .n P.y, .v (.bool P.i)], yT, yF, yF, Fq.st [.n A, .n B, .n M], Fq.st [.n Q.x, .n Q.y, .v (.bool Q.i)], yF, yT, yT] N5 [] E (fun hp => ⟨?_, ?_, ?_, ?_, ?_, ?_, ?_, ?_, ?_, ?_, tv⟩) ?_
 ·exact lS 0 6 hp (mq 4 rfl) zAm (sqo 3)
 ·exact lS 0 5 hp (mq 3 rfl) zAk (sqo 4)
 ·exact wXb (Fq.st [.n A, .n B, .n M]) (Fq.st [.n P.x, .n P.y, .v (.bool P.i)]) hp zB3 (sqi 0) (sqi 1) fun v v' w h h' => exOn h h' hM.out hA.out hB.out hP.out.1 hP.out.2 kp.out
 ·exact zAf (F := fun v _ => v = .bool true) hp fo tv (sqi 2) (fun ρ w _ h => ⟨.bool false, by simp [execOp, go_sem, h], rfl⟩)
 ·exact zAe hp fo tv (sqi 3)
 ·exact lG 0 6 hp gqi (mq 4 rfl) zAm (sqo 3) fun v w h => h
 ·exact lG 0 5 hp gqi (mq 2 rfl) zAk (sqo 5) fun v w h => h
 ·exact zAt (F := (Fq.st [.n A, .n B, .n M]).P) (G := (Fq.st [.n Q.x, .n Q.y, .v (.bool Q.i)]).P) hp fo gqi (zB3) (sqi 5) (sqi 6) (fun v v' w h h' => exOn h h' hM.out hA.out hB.out hQ.out.1 hQ.out.2 kq.out)
 ·exact zAf (F := fun v _ => v = .bool false) hp fo gqi (sqi 7) (fun ρ w _ h => ⟨.bool true, by simp [execOp, go_sem, h], rfl⟩)
 ·exact zAi (F := fun v _ => v = .bool false) (G := fun v _ => v = .bool true) hp fo tv (sqi 4) (sqi 8) (fun ρ w hc h h' => ⟨_, by simp [execOp, go_sem, h, h'], rfl⟩)
 intro L vs w6 nb hL hC hn E6
 have e2 := wXi hC 2
 have e3 := wXi hC 3
 have e4 := wXi hC 4
 have e7 := wXi hC 7
 have e8 := wXi hC 8
 have e9 := wXi hC 9
 have E := E6; simp only [LM, zAb] at E
 rw [zAa hL]
 simp only [SP, Nat.zero_add, Nat.reduceAdd]
 rw [e2, e3, e4, e7, e8, e9]
 generalize vs 0 = u6_0
 generalize vs 1 = u6_1
 generalize vs 5 = u6_5
 generalize vs 6 = u6_6
 clear e2 e3 e4 e7 e8 e9 hC hn E6 hL vs L nb
 go_upto_region 2 with (fail)
 refine rg [Fq.st [.n 0, .n 0, .v (.bool false)], Fq.num 0, Fq.any, Fq.any, Fq.is (.int .i64 1)] [some (3, Fq.num 0), some (2, Fq.st [.n 0, .n 0, .v (.bool false)]), none, none, none] [] E (fun hp => ⟨?_, ?_, ?_, ?_, ?_, tv⟩) ?_
 ·exact zEy hp fo tv (fun v w h => h)
 ·exact zCx hp fo tv (fun w => Num.zero w)
 ·exact sO 0 0 hp (mq 1 rfl) zAy (sqo 6)
 ·exact sP 1 hp (mq 0 rfl) (sqo 7)
 ·exact zAo hp fo tv (zAl (fun _ => rfl))
 intro L vs w7 nb hL hC hn E7
 have e4 := wXi hC 4
 have E := E7; simp only [LM, zAb] at E
 rw [zAa hL]
 simp only [SP, Nat.zero_add, Nat.reduceAdd]
 rw [e4]
 generalize vs 0 = u7_0
 generalize vs 1 = u7_1
 clear e4 hC hn E7 hL vs L nb
 clear kp kq
 obtain ⟨_, _, hc, hf⟩ := zAu (E.box 1 rfl)
 have hR := hf
 obtain ⟨r_p0, r_q0, _, rfl, _r_n0, r_p1, r_q1, _, rfl, _r_n1, _, rfl, _, rfl⟩ := hf
 have c0 := hc 0 (by simp)
 have c1 := hc 1 (by simp)
 have c2 := hc 2 (by simp)
 have c3 := hc 3 (by simp)
 have c4 := hc 4 (by simp)
 simp only [List.getD_cons_zero, List.getD_cons_succ] at c0 c1 c2 c3 c4
 clear hc
 obtain ⟨d0, d1, e0, e1, hD⟩ := zBd (E.box 0 rfl)
 clear hM hA hB hP hQ
 go_wp2
 refine bodyPost_ret (v := .tuple #[.agg #[r_p0, r_q0, r_p1, r_q1, .bool false], .agg #[d0, d1], .int .i64 1]) ?_ rfl ⟨_, rfl, E.below, _, _, _, rfl, ⟨_, rfl, hR⟩, hD, rfl⟩
 simp [results, Tryz.results31, go_sem, e0, e1, c0, c1, c2, c3, c4]

set_option maxRecDepth 100000 in
set_option maxHeartbeats 4000000 in
theorem exAddN {w : World} {v v' u : Value} {A B M : Int} {P Q : Pt} (h : (Fq.st [.n A, .n B, .n M]).P v w) (h' : (Fq.pt P).P v' w) (h2 : (Fq.pt Q).P u w) (hM : ab M < pw 5) (hA : ab A < pw 5) (hB : ab B < pw 5) (hP : ab P.x < pw 5 ∧ ab P.y < pw 5) (hQ : ab Q.x < pw 5 ∧ ab Q.y < pw 5) (kp : onB A B M P.x P.y P.i = true) (kq : onB A B M Q.x Q.y Q.i = true) {R : Pt × Int} (hR : sumP A M P Q = R) (hd : ¬ R.2 = 0) :
  Calls Tryz.prog 31 #[v, v', u] w fun e w' => ∃ v', e = .returned v' ∧ Below w.heap.size w w' ∧ (Fq.tup3 (Fq.pt ⟨0, 0, false⟩) (Fq.num R.2) (Fq.is (.int .i64 6))).P v' w' := by
 replace hM := hidd hM
 replace hA := hidd hA
 replace hB := hidd hB
 replace hP := hidd hP
 replace hQ := hidd hQ
 replace kp := hidd kp
 replace kq := hidd kq
 obtain ⟨_, rfl, hf0⟩ := h
 have hF0 := hf0
 obtain ⟨y0_p0, y0_q0, _, rfl, _y0_n0, y0_p1, y0_q1, _, rfl, _y0_n1, y0_p2, y0_q2, _, rfl, _y0_n2, rfl⟩ := hf0
 obtain ⟨_, rfl, hf1⟩ := h'
 have hF1 := hf1
 obtain ⟨y1_p0, y1_q0, _, rfl, _y1_n0, y1_p1, y1_q1, _, rfl, _y1_n1, _, rfl, _, rfl⟩ := hf1
 obtain ⟨_, rfl, hf2⟩ := h2
 have hF2 := hf2
 obtain ⟨y2_p0, y2_q0, _, rfl, _y2_n0, y2_p1, y2_q1, _, rfl, _y2_n1, _, rfl, _, rfl⟩ := hf2
 obtain ⟨w1, b1, hw1, hb1, hs1, E⟩ := gS w 34 hF0
 obtain ⟨w2, b2, hw2, hb2, hs2, E⟩ := fS E hs1 36 hF1
 obtain ⟨w3, b3, hw3, hb3, hs3, E⟩ := fS E hs2 36 hF2
 obtain ⟨w4, b4, hw4, hb4, hs4, E⟩ := fO E hs3 36 zA1
 obtain ⟨w5, b5, hw5, hb5, hs5, E⟩ := fZ E hs4 32
 go_enter Tryz.func31, Tryz.ntmps31
 go_upto_region 1 with (fail)
 rw [← hw1]
 rw [← hw2]
 rw [← hw3]
 rw [← hw4]
 rw [← hw5]
 rw [← hb5]
 rw [← hb4]
 rw [← hb3]
 rw [← hb2]
 rw [← hb1]
 clear hw1 hw2 hw3 hw4 hw5 hb1 hb2 hb3 hb4 hb5 hs5 hs1 hs2 hs3 hs4
 obtain ⟨R, d⟩ := R
 have T1 : Hid (¬ cmpI d 0 = 0) := fun e => hd (cmpIq0.1 e)
 have HR := hidd hR
 clear hd hR
 refine rg [Fq.st [.n A, .n B, .n M], Fq.st [.n P.x, .n P.y, .v (.bool P.i)], yT, yF, yF, Fq.st [.n A, .n B, .n M], Fq.st [.n Q.x, .n Q.y, .v (.bool Q.i)], yT, yF, yF] N5 [] E (fun hp => ⟨?_, ?_, ?_, ?_, ?_, ?_, ?_, ?_, ?_, ?_, tv⟩) ?_
 ·exact lS 0 6 hp (mq 4 rfl) zAm (sqo 3)
 ·exact lS 0 5 hp (mq 3 rfl) zAk (sqo 4)
 ·exact wXb (Fq.st [.n A, .n B, .n M]) (Fq.st [.n P.x, .n P.y, .v (.bool P.i)]) hp zB3 (sqi 0) (sqi 1) fun v v' w h h' => exOn h h' hM.out hA.out hB.out hP.out.1 hP.out.2 kp.out
 ·exact zAf (F := fun v _ => v = .bool true) hp fo tv (sqi 2) (fun ρ w _ h => ⟨.bool false, by simp [execOp, go_sem, h], rfl⟩)
 ·exact zAe hp fo tv (sqi 3)
 ·exact lG 0 6 hp gqi (mq 4 rfl) zAm (sqo 3) fun v w h => h
 ·exact lG 0 5 hp gqi (mq 2 rfl) zAk (sqo 5) fun v w h => h
 ·exact zAt (F := (Fq.st [.n A, .n B, .n M]).P) (G := (Fq.st [.n Q.x, .n Q.y, .v (.bool Q.i)]).P) hp fo gqi (zB3) (sqi 5) (sqi 6) (fun v v' w h h' => exOn h h' hM.out hA.out hB.out hQ.out.1 hQ.out.2 kq.out)
 ·exact zAf (F := fun v _ => v = .bool true) hp fo gqi (sqi 7) (fun ρ w _ h => ⟨.bool false, by simp [execOp, go_sem, h], rfl⟩)
 ·exact zAi (F := fun v _ => v = .bool false) (G := fun v _ => v = .bool false) hp fo tv (sqi 4) (sqi 8) (fun ρ w hc h h' => ⟨_, by simp [execOp, go_sem, h, h'], rfl⟩)
 intro L vs w6 nb hL hC hn E6
 have e2 := wXi hC 2
 have e3 := wXi hC 3
 have e4 := wXi hC 4
 have e7 := wXi hC 7
 have e8 := wXi hC 8
 have e9 := wXi hC 9
 have E := E6; simp only [LM, zAb] at E
 rw [zAa hL]
 simp only [SP, Nat.zero_add, Nat.reduceAdd]
 rw [e2, e3, e4, e7, e8, e9]
 generalize vs 0 = u6_0
 generalize vs 1 = u6_1
 generalize vs 5 = u6_5
 generalize vs 6 = u6_6
 clear e2 e3 e4 e7 e8 e9 hC hn E6 hL vs L nb
 go_upto_region 3 with (fail)
 refine rg [Fq.st [.n A, .n B, .n M], Fq.st [.n P.x, .n P.y, .v (.bool P.i)], Fq.st [.n Q.x, .n Q.y, .v (.bool Q.i)], Fq.tup2 (Fq.st [.n R.x, .n R.y, .v (.bool R.i)]) (Fq.num d), Fq.tup2 (Fq.st [.n R.x, .n R.y, .v (.bool R.i)]) (Fq.num d), Fq.st [.n R.x, .n R.y, .v (.bool R.i)], Fq.num d, Fq.any, Fq.any, Fq.any, Fq.any] N5 [⟨7, 9, 5, Fq.st [.n 0, .n 0, .v (.bool false)], Fq.st [.n R.x, .n R.y, .v (.bool R.i)], none⟩, ⟨8, 10, 2, Fq.num 0, Fq.num d, none⟩] E (fun hp => ⟨?_, ?_, ?_, ?_, ?_, ?_, ?_, ?_, ?_, ?_, ?_, tv⟩) ?_
 ·exact lS 0 6 hp (mq 4 rfl) zAm (sqo 3)
 ·exact lS 0 5 hp (mq 3 rfl) zAk (sqo 4)
 ·exact lS 0 5 hp (mq 2 rfl) zAk (sqo 5)
 ·exact zBa (F := (Fq.st [.n A, .n B, .n M]).P) (G := (Fq.st [.n P.x, .n P.y, .v (.bool P.i)]).P) (F3 := (Fq.st [.n Q.x, .n Q.y, .v (.bool Q.i)]).P) hp fo tv (zFj) (sqi 0) (sqi 1) (sqi 2) (fun v v' u w h h' g => zFn h h' g hM.out hA.out (zCt kp.out).1 (zCt kq.out).1 HR.out)
 ·exact zAe hp fo tv (sqi 3)
 ·exact zA5 hp fo tv (sqi 4) (fun v1 v2 w h1 h2 => ⟨_, rfl, h1⟩)
 ·exact zA5 hp fo tv (sqi 4) (fun v1 v2 w h1 h2 => ⟨_, rfl, h2⟩)
 ·exact aS hp (mq 0 rfl) zA1 zC9
 ·exact aN hp (mq 1 rfl)
 ·exact sS 5 hp (mq 0 rfl) zAy
 ·exact sN 6 hp (mq 1 rfl)
 intro L vs w7 nb hL hC hn E7
 have e7 : vs 7 = .pointer (some ⟨nb 7, 0, none⟩) := hn _ (mq 0 rfl)
 have e8 : vs 8 = .pointer (some ⟨nb 8, 0, none⟩) := hn _ (mq 1 rfl)
 have E := E7; simp only [LM, zAb] at E
 rw [zAa hL]
 simp only [SP, Nat.zero_add, Nat.reduceAdd]
 rw [e7, e8]
 generalize nb 7 = b7_7 at E ⊢
 generalize nb 8 = b7_8 at E ⊢
 generalize vs 0 = u7_0
 generalize vs 1 = u7_1
 generalize vs 2 = u7_2
 generalize vs 3 = u7_3
 generalize vs 4 = u7_4
 generalize vs 5 = u7_5
 generalize vs 6 = u7_6
 clear e7 e8 hC hn E7 hL vs L nb
 go_upto_region 4 with (fail)
 refine rg [Fq.num d, Fq.is (.int .i64 (cmpI d 0)), yT] N7 [] E (fun hp => ⟨?_, ?_, ?_, tv⟩) ?_
 ·exact lI 0 hp (mq 1 rfl) (sqo 10) fun us w hl h => zAh hl h
 ·exact wXa (Fq.num d) hp zCf (sqi 0) fun v w h => zCg h
 ·exact zAf (F := fun v _ => v = .int .i64 (cmpI d 0)) hp fo tv (sqi 1) (fun ρ w hc h => ⟨.bool true, by simp [execOp, go_sem, h, hc, T1.out], rfl⟩)
 intro L vs w8 nb hL hC hn E8
 have e1 := wXi hC 1
 have e2 := wXi hC 2
 have E := E8; simp only [LM, zAb] at E
 rw [zAa hL]
 simp only [SP, Nat.zero_add, Nat.reduceAdd]
 rw [e1, e2]
 generalize vs 0 = u8_0
 clear e1 e2 hC hn E8 hL vs L nb
 go_upto_region 5 with (fail)
 refine rg [Fq.st [.n 0, .n 0, .v (.bool false)], Fq.num d, Fq.any, Fq.any, Fq.is (.int .i64 6)] [none, none, some (3, Fq.num d), some (2, Fq.st [.n 0, .n 0, .v (.bool false)]), none, none, none] [] E (fun hp => ⟨?_, ?_, ?_, ?_, ?_, tv⟩) ?_
 ·exact zEy hp fo tv (fun v w h => h)
 ·exact lI 0 hp (mq 1 rfl) (sqo 10) fun us w hl h => zAh hl h
 ·exact sO 0 0 hp (mq 3 rfl) zAy (sqo 6)
 ·exact sP 1 hp (mq 2 rfl) (sqo 7)
 ·exact zAo hp fo tv (zAl (fun _ => rfl))
 intro L vs w9 nb hL hC hn E9
 have e4 := wXi hC 4
 have E := E9; simp only [LM, zAb] at E
 rw [zAa hL]
 simp only [SP, Nat.zero_add, Nat.reduceAdd]
 rw [e4]
 generalize vs 0 = u9_0
 generalize vs 1 = u9_1
 clear e4 hC hn E9 hL vs L nb
 clear kp kq T1 HR
 obtain ⟨_, _, hc, hf⟩ := zAu (E.box 3 rfl)
 have hR := hf
 obtain ⟨r_p0, r_q0, _, rfl, _r_n0, r_p1, r_q1, _, rfl, _r_n1, _, rfl, _, rfl⟩ := hf
 have c0 := hc 0 (by simp)
 have c1 := hc 1 (by simp)
 have c2 := hc 2 (by simp)
 have c3 := hc 3 (by simp)
 have c4 := hc 4 (by simp)
 simp only [List.getD_cons_zero, List.getD_cons_succ] at c0 c1 c2 c3 c4
 clear hc
 obtain ⟨d0, d1, e0, e1, hD⟩ := zBd (E.box 2 rfl)
 clear hM hA hB hP hQ
 go_wp2
 refine bodyPost_ret (v := .tuple #[.agg #[r_p0, r_q0, r_p1, r_q1, .bool false], .agg #[d0, d1], .int .i64 6]) ?_ rfl ⟨_, rfl, E.below, _, _, _, rfl, ⟨_, rfl, hR⟩, hD, rfl⟩
 simp [results, Tryz.results31, go_sem, e0, e1, c0, c1, c2, c3, c4]

set_option maxRecDepth 100000 in
set_option maxHeartbeats 4000000 in
theorem exAddP {w : World} {v v' u : Value} {A B M : Int} {P Q : Pt} (h : (Fq.st [.n A, .n B, .n M]).P v w) (h' : (Fq.pt P).P v' w) (h2 : (Fq.pt Q).P u w) (hM : ab M < pw 5) (hA : ab A < pw 5) (hB : ab B < pw 5) (hP : ab P.x < pw 5 ∧ ab P.y < pw 5) (hQ : ab Q.x < pw 5 ∧ ab Q.y < pw 5) (kp : onB A B M P.x P.y P.i = true) (kq : onB A B M Q.x Q.y Q.i = true) {R : Pt × Int} (hR : sumP A M P Q = R) (hd :  R.2 = 0) :
  Calls Tryz.prog 31 #[v, v', u] w fun e w' => ∃ v', e = .returned v' ∧ Below w.heap.size w w' ∧ (Fq.tup3 (Fq.pt R.1) (Fq.num 0) (Fq.is (.int .i64 0))).P v' w' := by
 replace hM := hidd hM
 replace hA := hidd hA
 replace hB := hidd hB
 replace hP := hidd hP
 replace hQ := hidd hQ
 replace kp := hidd kp
 replace kq := hidd kq
 obtain ⟨_, rfl, hf0⟩ := h
 have hF0 := hf0
 obtain ⟨y0_p0, y0_q0, _, rfl, _y0_n0, y0_p1, y0_q1, _, rfl, _y0_n1, y0_p2, y0_q2, _, rfl, _y0_n2, rfl⟩ := hf0
 obtain ⟨_, rfl, hf1⟩ := h'
 have hF1 := hf1
 obtain ⟨y1_p0, y1_q0, _, rfl, _y1_n0, y1_p1, y1_q1, _, rfl, _y1_n1, _, rfl, _, rfl⟩ := hf1
 obtain ⟨_, rfl, hf2⟩ := h2
 have hF2 := hf2
 obtain ⟨y2_p0, y2_q0, _, rfl, _y2_n0, y2_p1, y2_q1, _, rfl, _y2_n1, _, rfl, _, rfl⟩ := hf2
 obtain ⟨w1, b1, hw1, hb1, hs1, E⟩ := gS w 34 hF0
 obtain ⟨w2, b2, hw2, hb2, hs2, E⟩ := fS E hs1 36 hF1
 obtain ⟨w3, b3, hw3, hb3, hs3, E⟩ := fS E hs2 36 hF2
 obtain ⟨w4, b4, hw4, hb4, hs4, E⟩ := fO E hs3 36 zA1
 obtain ⟨w5, b5, hw5, hb5, hs5, E⟩ := fZ E hs4 32
 go_enter Tryz.func31, Tryz.ntmps31
 go_upto_region 1 with (fail)
 rw [← hw1]
 rw [← hw2]
 rw [← hw3]
 rw [← hw4]
 rw [← hw5]
 rw [← hb5]
 rw [← hb4]
 rw [← hb3]
 rw [← hb2]
 rw [← hb1]
 clear hw1 hw2 hw3 hw4 hw5 hb1 hb2 hb3 hb4 hb5 hs5 hs1 hs2 hs3 hs4
 obtain ⟨R, d⟩ := R
 have T1 : Hid ( cmpI d 0 = 0) := cmpIq0.2 hd
 have HR := hidd hR
 clear hd hR
 refine rg [Fq.st [.n A, .n B, .n M], Fq.st [.n P.x, .n P.y, .v (.bool P.i)], yT, yF, yF, Fq.st [.n A, .n B, .n M], Fq.st [.n Q.x, .n Q.y, .v (.bool Q.i)], yT, yF, yF] N5 [] E (fun hp => ⟨?_, ?_, ?_, ?_, ?_, ?_, ?_, ?_, ?_, ?_, tv⟩) ?_
 ·exact lS 0 6 hp (mq 4 rfl) zAm (sqo 3)
 ·exact lS 0 5 hp (mq 3 rfl) zAk (sqo 4)
 ·exact wXb (Fq.st [.n A, .n B, .n M]) (Fq.st [.n P.x, .n P.y, .v (.bool P.i)]) hp zB3 (sqi 0) (sqi 1) fun v v' w h h' => exOn h h' hM.out hA.out hB.out hP.out.1 hP.out.2 kp.out
 ·exact zAf (F := fun v _ => v = .bool true) hp fo tv (sqi 2) (fun ρ w _ h => ⟨.bool false, by simp [execOp, go_sem, h], rfl⟩)
 ·exact zAe hp fo tv (sqi 3)
 ·exact lG 0 6 hp gqi (mq 4 rfl) zAm (sqo 3) fun v w h => h
 ·exact lG 0 5 hp gqi (mq 2 rfl) zAk (sqo 5) fun v w h => h
 ·exact zAt (F := (Fq.st [.n A, .n B, .n M]).P) (G := (Fq.st [.n Q.x, .n Q.y, .v (.bool Q.i)]).P) hp fo gqi (zB3) (sqi 5) (sqi 6) (fun v v' w h h' => exOn h h' hM.out hA.out hB.out hQ.out.1 hQ.out.2 kq.out)
 ·exact zAf (F := fun v _ => v = .bool true) hp fo gqi (sqi 7) (fun ρ w _ h => ⟨.bool false, by simp [execOp, go_sem, h], rfl⟩)
 ·exact zAi (F := fun v _ => v = .bool false) (G := fun v _ => v = .bool false) hp fo tv (sqi 4) (sqi 8) (fun ρ w hc h h' => ⟨_, by simp [execOp, go_sem, h, h'], rfl⟩)
 intro L vs w6 nb hL hC hn E6
 have e2 := wXi hC 2
 have e3 := wXi hC 3
 have e4 := wXi hC 4
 have e7 := wXi hC 7
 have e8 := wXi hC 8
 have e9 := wXi hC 9
 have E := E6; simp only [LM, zAb] at E
 rw [zAa hL]
 simp only [SP, Nat.zero_add, Nat.reduceAdd]
 rw [e2, e3, e4, e7, e8, e9]
 generalize vs 0 = u6_0
 generalize vs 1 = u6_1
 generalize vs 5 = u6_5
 generalize vs 6 = u6_6
 clear e2 e3 e4 e7 e8 e9 hC hn E6 hL vs L nb
 go_upto_region 3 with (fail)
 refine rg [Fq.st [.n A, .n B, .n M], Fq.st [.n P.x, .n P.y, .v (.bool P.i)], Fq.st [.n Q.x, .n Q.y, .v (.bool Q.i)], Fq.tup2 (Fq.st [.n R.x, .n R.y, .v (.bool R.i)]) (Fq.num d), Fq.tup2 (Fq.st [.n R.x, .n R.y, .v (.bool R.i)]) (Fq.num d), Fq.st [.n R.x, .n R.y, .v (.bool R.i)], Fq.num d, Fq.any, Fq.any, Fq.any, Fq.any] N5 [⟨7, 9, 5, Fq.st [.n 0, .n 0, .v (.bool false)], Fq.st [.n R.x, .n R.y, .v (.bool R.i)], none⟩, ⟨8, 10, 2, Fq.num 0, Fq.num d, none⟩] E (fun hp => ⟨?_, ?_, ?_, ?_, ?_, ?_, ?_, ?_, ?_, ?_, ?_, tv⟩) ?_
 ·exact lS 0 6 hp (mq 4 rfl) zAm (sqo 3)
 ·exact lS 0 5 hp (mq 3 rfl) zAk (sqo 4)
 ·exact lS 0 5 hp (mq 2 rfl) zAk (sqo 5)
 ·exact zBa (F := (Fq.st [.n A, .n B, .n M]).P) (G := (Fq.st [.n P.x, .n P.y, .v (.bool P.i)]).P) (F3 := (Fq.st [.n Q.x, .n Q.y, .v (.bool Q.i)]).P) hp fo tv (zFj) (sqi 0) (sqi 1) (sqi 2) (fun v v' u w h h' g => zFn h h' g hM.out hA.out (zCt kp.out).1 (zCt kq.out).1 HR.out)
 ·exact zAe hp fo tv (sqi 3)
 ·exact zA5 hp fo tv (sqi 4) (fun v1 v2 w h1 h2 => ⟨_, rfl, h1⟩)
 ·exact zA5 hp fo tv (sqi 4) (fun v1 v2 w h1 h2 => ⟨_, rfl, h2⟩)
 ·exact aS hp (mq 0 rfl) zA1 zC9
 ·exact aN hp (mq 1 rfl)
 ·exact sS 5 hp (mq 0 rfl) zAy
 ·exact sN 6 hp (mq 1 rfl)
 intro L vs w7 nb hL hC hn E7
 have e7 : vs 7 = .pointer (some ⟨nb 7, 0, none⟩) := hn _ (mq 0 rfl)
 have e8 : vs 8 = .pointer (some ⟨nb 8, 0, none⟩) := hn _ (mq 1 rfl)
 have E := E7; simp only [LM, zAb] at E
 rw [zAa hL]
 simp only [SP, Nat.zero_add, Nat.reduceAdd]
 rw [e7, e8]
 generalize nb 7 = b7_7 at E ⊢
 generalize nb 8 = b7_8 at E ⊢
 generalize vs 0 = u7_0
 generalize vs 1 = u7_1
 generalize vs 2 = u7_2
 generalize vs 3 = u7_3
 generalize vs 4 = u7_4
 generalize vs 5 = u7_5
 generalize vs 6 = u7_6
 clear e7 e8 hC hn E7 hL vs L nb
 go_upto_region 4 with (fail)
 refine rg [Fq.num d, Fq.is (.int .i64 (cmpI d 0)), yF] N7 [] E (fun hp => ⟨?_, ?_, ?_, tv⟩) ?_
 ·exact lI 0 hp (mq 1 rfl) (sqo 10) fun us w hl h => zAh hl h
 ·exact wXa (Fq.num d) hp zCf (sqi 0) fun v w h => zCg h
 ·exact zAf (F := fun v _ => v = .int .i64 (cmpI d 0)) hp fo tv (sqi 1) (fun ρ w hc h => ⟨.bool false, by simp [execOp, go_sem, h, hc, T1.out], rfl⟩)
 intro L vs w8 nb hL hC hn E8
 have e1 := wXi hC 1
 have e2 := wXi hC 2
 have E := E8; simp only [LM, zAb] at E
 rw [zAa hL]
 simp only [SP, Nat.zero_add, Nat.reduceAdd]
 rw [e1, e2]
 generalize vs 0 = u8_0
 clear e1 e2 hC hn E8 hL vs L nb
 go_upto_region 6 with (fail)
 refine rg [Fq.st [.n R.x, .n R.y, .v (.bool R.i)], Fq.num 0, Fq.any, Fq.any, Fq.is (.int .i64 0)] [none, none, some (3, Fq.num 0), some (2, Fq.st [.n R.x, .n R.y, .v (.bool R.i)]), none, none, none] [] E (fun hp => ⟨?_, ?_, ?_, ?_, ?_, tv⟩) ?_
 ·exact lS 0 5 hp (mq 0 rfl) zAk (sqo 9)
 ·exact zCx hp fo tv (fun w => Num.zero w)
 ·exact sO 0 0 hp (mq 3 rfl) zAy (sqo 6)
 ·exact sP 1 hp (mq 2 rfl) (sqo 7)
 ·exact zAo hp fo tv (zAl (fun _ => rfl))
 intro L vs w9 nb hL hC hn E9
 have e4 := wXi hC 4
 have E := E9; simp only [LM, zAb] at E
 rw [zAa hL]
 simp only [SP, Nat.zero_add, Nat.reduceAdd]
 rw [e4]
 generalize vs 0 = u9_0
 generalize vs 1 = u9_1
 clear e4 hC hn E9 hL vs L nb
 clear kp kq T1 HR
 obtain ⟨_, _, hc, hf⟩ := zAu (E.box 3 rfl)
 have hR := hf
 obtain ⟨r_p0, r_q0, _, rfl, _r_n0, r_p1, r_q1, _, rfl, _r_n1, _, rfl, _, rfl⟩ := hf
 have c0 := hc 0 (by simp)
 have c1 := hc 1 (by simp)
 have c2 := hc 2 (by simp)
 have c3 := hc 3 (by simp)
 have c4 := hc 4 (by simp)
 simp only [List.getD_cons_zero, List.getD_cons_succ] at c0 c1 c2 c3 c4
 clear hc
 obtain ⟨d0, d1, e0, e1, hD⟩ := zBd (E.box 2 rfl)
 clear hM hA hB hP hQ
 go_wp2
 refine bodyPost_ret (v := .tuple #[.agg #[r_p0, r_q0, r_p1, r_q1, .bool R.i], .agg #[d0, d1], .int .i64 0]) ?_ rfl ⟨_, rfl, E.below, _, _, _, rfl, ⟨_, rfl, hR⟩, hD, rfl⟩
 simp [results, Tryz.results31, go_sem, e0, e1, c0, c1, c2, c3, c4]

def v2 (z : Int) : Nat := Lib.ctzFrom (zAp z) z.natAbs
section
variable {os : List Oper} {Q : Exit → Act → World → Prop} {a : Act} {p : Pq} {B B0 : Nat} {w0 : World}
variable {i s : Nat} {d : Option Tmp} {ty : TypeId} {ps : String} {af : Array Edge} {gd : Option (Nat × Bool)}
end
section
variable {os : List Oper} {Q : Exit → Act → World → Prop} {a : Act} {p : Pq} {B B0 : Nat} {w0 : World}
variable {i s : Nat} {d : Option Tmp} {ty : TypeId} {ps : String} {af : Array Edge} {gd : Option (Nat × Bool)}
theorem zL3 {x y : Operand} {F G : Value → World → Prop} {f : FuncId} {ts : Array TypeId} (hp : p.Ok B B0) (hF : p.Free i) (hg : GdQ os a p B B0 w0 af gd) (hen : ∀ args w, (callFunc f args).run Tryz.prog w = .ok (.enter f args) w) (hB : B = w0.heap.size)
  (hx : SrcQ os a p B B0 w0 af x F) (hy : SrcQ os a p B B0 w0 af y G) (hC : ∀ v v' w, Below w0.heap.size w0 w → F v w → G v' w → Calls Tryz.prog f #[v, v'] w fun e w' => ∃ v', e = .returned v' ∧ Below w.heap.size w w' ∧ (p.c i).P v' w') :
  zAr os Q a p B B0 w0 i { dst := d, op := .call { callee := .value (.func f), args := #[x, y], argTypes := ts }, type := ty, pos := ps, after := af, guard := gd } := by
 subst hB
 exact zF8 hp hF hg hen fun L vs w hG hd => ⟨#[_, _], by simp, hC _ _ _ hG.below (hx L vs w hG hd) (hy L vs w hG hd)⟩
end
section
variable {U Y y1 y0 B u q r : Nat}
end
def ad (x y : Int × Int) : Int × Int := (x.1 + y.1, x.2 + y.2)
def sm (c : Int) (x : Int × Int) : Int × Int := (c * x.1, c * x.2)
def Eqp (p : Int) (x y : Int × Int) : Prop := x.1 % p = y.1 % p ∧ x.2 % p = y.2 % p
theorem Eqp.refl (p : Int) (x : Int × Int) : Eqp p x x := ⟨rfl, rfl⟩
theorem Eqp.symm {p : Int} {x y : Int × Int} (h : Eqp p x y) : Eqp p y x := ⟨h.1.symm, h.2.symm⟩
theorem Eqp.trans {p : Int} {x y z : Int × Int} (h : Eqp p x y) (h' : Eqp p y z) : Eqp p x z := ⟨h.1.trans h'.1, h.2.trans h'.2⟩
theorem zLj {p a b c d : Int} (h : a % p = c % p) (h' : b % p = d % p) : (a * b) % p = (c * d) % p := by rw [Int.mul_emod, h, h', ← Int.mul_emod]
theorem zJx {p a b c d : Int} (h : a % p = c % p) (h' : b % p = d % p) : (a + b) % p = (c + d) % p := by rw [Int.add_emod, h, h', ← Int.add_emod]
theorem Eqp.ad {p : Int} {x y x' y' : Int × Int} (h : Eqp p x x') (h' : Eqp p y y') : Eqp p (ad x y) (ad x' y') := ⟨zJx h.1 h'.1, zJx h.2 h'.2⟩
theorem Eqp.sm {p : Int} {c d : Int} {x y : Int × Int} (hc : c % p = d % p) (h : Eqp p x y) : Eqp p (sm c x) (sm d y) := ⟨zLj hc h.1, zLj hc h.2⟩
def ch : Nat → Nat → Nat
 | _, 0 => 1
 | 0, _ + 1 => 0
 | n + 1, k + 1 => ch n k + ch n (k + 1)
end Go.Proofs.YtihhlaagndingaaGreat
namespace Go.Proofs.YtihhlaagndingaaGreat
open Go Go.RowKit Go.Shelf

attribute [local go_sem] Oper.semAt_some

abbrev MulP (p n : Nat) := { x : Nat // p * p ≤ x ∧ x ≤ n ∧ x % p = 0 }
def KpM (Bp Bn : Nat) (A B : World) : Prop := B.heap[Bp]? = A.heap[Bp]? ∧ B.heap[Bn]? = A.heap[Bn]?
theorem cell_same {A B : World} {b j : Nat} (h : B.heap[b]? = A.heap[b]?) : B.cell? ⟨b, j, none⟩ = A.cell? ⟨b, j, none⟩ := by
 unfold World.cell?
 simp only [h]
theorem zN7 {A B : World} {b j : Nat} (h : B.heap[b]? = A.heap[b]?) : B.frozen? ⟨b, j, none⟩ = A.frozen? ⟨b, j, none⟩ := by
 unfold World.frozen?
 simp only [h]
theorem KpM.trans {Bp Bn : Nat} {A B C : World} (h : KpM Bp Bn A B) (k : KpM Bp Bn B C) : KpM Bp Bn A C := ⟨k.1.trans h.1, k.2.trans h.2⟩
attribute [local go_sem] Oper.semAt_some

def isP (q : Nat) : Bool := decide (2 ≤ q) && (List.range q).all (fun d => decide (d < 2) || decide (q % d ≠ 0))
def mkB (p m : Nat) : Bool := (List.range p).any (fun q => isP q && decide (q * q ≤ m) && (m % q == 0))
def below (p : Nat) : List Nat := (List.range p).filter isP
def Ni (W : World) (B : Nat) (v : Value) (xs : List Nat) : Prop := W.ownsRow B 3 1 v xs.length (xs.map fun x : Nat => Value.int .i64 (x : Int))
theorem Ni.shape {W : World} {B : Nat} {v : Value} {xs : List Nat} (h : Ni W B v xs) : ∃ ao cap, v = .slice ao xs.length cap := by
 rcases h.2 with ⟨rfl, h0⟩ | ⟨g, cap, cur, rfl, _⟩
 ·exact ⟨none, 0, by rw [h0]⟩
 ·exact ⟨_, _, rfl⟩
theorem Ni.nil (w : World) (B : Nat) : Ni w B (.slice none 0 0) [] := World.ownsRow_nil w B _ _
theorem Ni.mono {w w' : World} {B : Nat} {v : Value} {xs : List Nat} (h : Ni w B v xs) (hb : ∀ g, (∃ cur t r, w.heap[g]? = some (.cells cur t r)) → B ≤ g → v.ownBlock = some g → w'.heap[g]? = w.heap[g]?) : Ni w' B v xs := by
 refine ⟨h.1, ?_⟩
 rcases h.2 with h2 | ⟨g, cap, cur, h1, h2, h3, h4⟩
 ·exact .inl h2
 ·exact .inr ⟨g, cap, cur, h1, h2, by rw [hb g ⟨_, _, _, h3⟩ h2 (by rw [h1]; rfl)]; exact h3, h4⟩
theorem Ni.below {w w' : World} {B : Nat} {v : Value} {xs : List Nat} (h : Ni w B v xs) (hb : Below w.heap.size w w') : Ni w' B v xs :=
 h.mono fun g ⟨_, _, _, hg⟩ _ _ => hb.block g (Array.getElem?_eq_some_iff.1 hg).1
theorem Ni.cell {w : World} {B : Nat} {ao : Option Addr} {n c : Nat} {xs : List Nat} (h : Ni w B (.slice ao n c) xs) {i : Nat} (hi : i < xs.length) : ∃ g, ao = some ⟨g, 0, none⟩ ∧ w.cell? ⟨g, i, none⟩ = some (.int .i64 ((xs.getD i 0 : Nat) : Int)) := by
 rcases h.2 with ⟨_, h0⟩ | ⟨g, cap, cur, e, _⟩
 ·omega
 ·injection e with e1 e2 e3
  subst e1
  have := World.ownsRow.cells h (g := g) rfl i (.int .i64 ((xs.getD i 0 : Nat) : Int)) (by simp [hi])
  rw [zIj] at this
  exact ⟨g, rfl, this⟩
def Bo (W : World) (C N : Nat) (f : Nat → Bool) : Prop := ∀ m, m ≤ N → W.cell? ⟨C, m, none⟩ = some (.bool (f m)) ∧ W.frozen? ⟨C, m, none⟩ = false
def Marks (B : Nat) (W : World) (ds : List Deferred) : Prop := ∃ Ds : List Nat, ds = Ds.map (fun D => { target := .collected D, args := #[] }) ∧ Ds.Nodup ∧ ∀ D ∈ Ds, B ≤ D ∧ W.heap[D]? = some (Obj.deferred (some []))
theorem Marks.mono {B : Nat} {W W' : World} {ds : List Deferred} (h : Marks B W ds) (hk : ∀ D : Nat, W.heap[D]? = some (Obj.deferred (some [])) → W'.heap[D]? = some (Obj.deferred (some []))) : Marks B W' ds := by
 obtain ⟨Ds, h1, h2, h3⟩ := h
 exact ⟨Ds, h1, h2, fun D hD => ⟨(h3 D hD).1, hk D (h3 D hD).2⟩⟩
theorem Marks.nil (B : Nat) (W : World) : Marks B W [] := ⟨[], rfl, List.nodup_nil, fun _ h => by simp at h⟩
theorem Marks.cons {B : Nat} {W W1 : World} {ds : List Deferred} (h : Marks B W1 ds) (hk : ∀ E, E < W1.heap.size → W.heap[E]? = W1.heap[E]? ∨ W1.heap[E]? ≠ some (Obj.deferred (some []))) {D : Nat} (hB : B ≤ D) (hD1 : W1.heap.size ≤ D) (hD : W.heap[D]? = some (Obj.deferred (some []))) : Marks B W ({ target := .collected D, args := #[] } :: ds) := by
 obtain ⟨Ds, rfl, h2, h3⟩ := h
 have hlt : ∀ E ∈ Ds, E < W1.heap.size := fun E hE => (Array.getElem?_eq_some_iff.1 (h3 E hE).2).1
 refine ⟨D :: Ds, rfl, List.nodup_cons.2 ⟨fun hm => ?_, h2⟩, fun E hE => ?_⟩
 ·have := hlt D hm; omega
 ·rcases List.mem_cons.1 hE with rfl | hE
  ·exact ⟨hB, hD⟩
  ·refine ⟨(h3 E hE).1, ?_⟩
   rcases hk E (hlt E hE) with e | e
   ·exact e.trans (h3 E hE).2
   ·exact absurd (h3 E hE).2 e
attribute [local go_sem] Oper.semAt_some

def SvI (C N p : Nat) (S : World) (pre : List (MulP p N)) (W : World) : Prop :=
 S.heap.size ≤ W.heap.size ∧ (∀ k, k < S.heap.size → k ≠ C → W.heap[k]? = S.heap[k]?) ∧ Bo W C N (fun m => mkB p m || pre.any (fun x => x.1 == m)) ∧ Below C S W
theorem SvI.own {C N p : Nat} {S : World} (hC : C < S.heap.size) : OwnFrom S.heap.size (SvI C N p S) :=
 fun s A B row hs hg hr => ⟨Nat.le_trans hs.1 hg.size, fun k hk hkC => (hg.block k (by have := hs.1; omega) (fun e => by have := (hr k e.symm).1; omega)).trans (hs.2.1 k hk hkC), fun m hm => by
  have hc : B.heap[C]? = A.heap[C]? := hg.block C (by have := hs.1; omega) (fun e => by have := (hr C e.symm).1; omega)
  rw [cell_same hc, zN7 hc]
  exact hs.2.2.1 m hm, hs.2.2.2.grown hg (by have := hs.1; omega) (fun k e => by have := (hr k e).1; omega)⟩
theorem SvI.step {C N p : Nat} {S W : World} {pre : List (MulP p N)} {x : MulP p N} {y : Nat} (h : SvI C N p S pre W) (hy : y = x.1) (hyN : y ≤ N) : SvI C N p S (pre ++ [x]) (W.setCell ⟨C, y, none⟩ (.bool true)) := by
 obtain ⟨h1, h2, h3, h4⟩ := h
 refine ⟨Nat.le_trans h1 (KeepsOthers.setCell _ _ _).size, fun k hk hkC => (Below.heap_setCell _ _ _ k (fun e => hkC e)).trans (h2 k hk hkC), fun m hm => ?_, h4.setCell (p := ⟨C, y, none⟩) (Nat.le_refl _) _⟩
 rw [World.frozen?_setCell]
 refine ⟨?_, (h3 m hm).2⟩
 show _ = some (Value.bool (mkB p m || (pre ++ [x]).any (fun x => x.1 == m)))
 have h3m : W.cell? ⟨C, m, none⟩ = some (.bool (mkB p m || pre.any (fun x => x.1 == m))) := (h3 m hm).1
 rw [List.any_append, List.any_cons, List.any_nil, Bool.or_false, ← hy]
 by_cases e : m = y
 ·subst e
  rw [World.cell?_setCell_same' _ _ _ (by rw [h3m]; rfl)]
  simp
 ·rw [World.cell?_setCell_other _ _ _ _ (by intro e2; injection e2 with e3 e4; omega), h3m]
  have : (y == m) = false := by simp; omega
  rw [this, Bool.or_false]
end Go.Proofs.YtihhlaagndingaaGreat
namespace Go.Proofs.YtihhlaagndingaaGreat
open Go Go.RowKit

def Got (w : World) (v : Value) (z r : Int) : Prop := ∃ n ao k c, v = .agg #[.bool n, .slice ao k c, .int .i64 r] ∧ Num w (.agg #[.bool n, .slice ao k c]) z
theorem Got.parts {w : World} {v : Value} {z r : Int} (h : Got w v z r) : ∃ n ao k c, v = .agg #[.bool n, .slice ao k c, .int .i64 r] ∧ Num w (.agg #[.bool n, .slice ao k c]) z := h
def zeroGot : List Value := [.bool false, .slice none 0 0, .int .i64 0]
theorem Got.zero (w : World) : Got w (.agg zeroGot.toArray) 0 0 := ⟨_, _, _, _, rfl, Num.zero w⟩
section
variable {os : List Oper} {Q : Exit → Act → World → Prop} {a : Act} {p : Pq} {B B0 : Nat} {w0 : World}
variable {i s : Nat} {d : Option Tmp} {ty : TypeId} {ps : String} {af : Array Edge} {gd : Option (Nat × Bool)}
end
section
variable {os : List Oper} {Q : Exit → Act → World → Prop} {a : Act} {p : Pq} {B B0 : Nat} {w0 : World}
variable {i s : Nat} {d : Option Tmp} {ty : TypeId} {ps : String} {af : Array Edge} {gd : Option (Nat × Bool)}
end
def Li (W : World) (B : Nat) (v : Value) (xs : List Int) : Prop := W.ownsRow B 2 1 v xs.length (xs.map (Value.int .i64))
theorem Li.shape {W : World} {B : Nat} {v : Value} {xs : List Int} (h : Li W B v xs) : ∃ ao cap, v = .slice ao xs.length cap := by
 rcases h.2 with ⟨rfl, h0⟩ | ⟨g, cap, cur, rfl, _⟩
 ·exact ⟨none, 0, by rw [h0]⟩
 ·exact ⟨_, _, rfl⟩
theorem Li.nil (w : World) (B : Nat) : Li w B (.slice none 0 0) [] := World.ownsRow_nil w B _ _
theorem Li.one (w : World) {B : Nat} (hB : B ≤ w.heap.size) (x : Int) : Li (w.alloc (.cells #[.int .i64 x] 2)) B (.slice (some ⟨w.heap.size, 0, none⟩) 1 1) [x] :=
 ⟨rfl, .inr ⟨w.heap.size, 1, #[.int .i64 x], rfl, hB, heap_alloc_new _ _, Nat.le_refl _, by decide, rfl, rfl⟩⟩
theorem Li.mono {w w' : World} {B : Nat} {v : Value} {xs : List Int} (h : Li w B v xs) (hb : Below w.heap.size w w') : Li w' B v xs := by
 refine ⟨h.1, ?_⟩
 rcases h.2 with h2 | ⟨g, cap, cur, h1, h2, h3, h4⟩
 ·exact .inl h2
 ·exact .inr ⟨g, cap, cur, h1, h2, by rw [hb.block g (Array.getElem?_eq_some_iff.1 h3).1]; exact h3, h4⟩
theorem Li.cell {w : World} {B : Nat} {ao : Option Addr} {n c : Nat} {xs : List Int} (h : Li w B (.slice ao n c) xs) {i : Nat} (hi : i < xs.length) : ∃ g, ao = some ⟨g, 0, none⟩ ∧ w.cell? ⟨g, i, none⟩ = some (.int .i64 (xs.getD i 0)) := by
 rcases h.2 with ⟨_, h0⟩ | ⟨g, cap, cur, e, _⟩
 ·omega
 ·injection e with e1 e2 e3
  subst e1
  have := World.ownsRow.cells h (g := g) rfl i (.int .i64 (xs.getD i 0)) (by simp [hi])
  rw [zIj] at this
  exact ⟨g, rfl, this⟩
theorem Li.step {B : Nat} {w wr w1 : World} {v v' : Value} {xs : List Int} {d : Int} {o : Obj} (h : Li wr B v xs) (hB : B ≤ wr.heap.size) (hnx : Below B w wr)
  (hown' : w1.ownsRow B 2 1 v' (xs.length + 1) (xs.map (Value.int .i64) ++ [.int .i64 d])) (hgrow : (wr.alloc o).grownBy w1 v.ownBlock) :
  Li w1 B v' (xs ++ [d]) ∧ Below B w w1 := by
 refine ⟨?_, ?_⟩
 ·unfold Li; simpa using hown'
 ·exact (hnx.alloc hB o).grown hgrow (by simp; omega) (fun j hj => (World.ownsRow.lt h j hj).1)

def GivesAt (w : World) (ax : Option Addr) (z : Int) (e : Ending) (w' : World) : Prop :=
 ∃ (neg : Bool) (ao : Option Addr) (n c : Nat) (xs : List Int), e = .returned (.agg #[.bool neg, .slice ao n c]) ∧ (ao = none ∨ ao = ax) ∧ Sl w' ao n c xs ∧ Canon xs ∧ (neg = true → n ≠ 0) ∧ z = sgn neg (val xs) ∧ Below w.heap.size w w'

def NumAt (w : World) (g i : Nat) (z : Int) : Prop := ∃ n ao k c, w.cell? ⟨g, i * 2, none⟩ = some (.bool n) ∧ w.cell? ⟨g, i * 2 + 1, none⟩ = some (.slice ao k c) ∧ Num w (.agg #[.bool n, .slice ao k c]) z
def Nums (w : World) (v : Value) (zs : List Int) : Prop := ∃ ao cap, v = .slice ao zs.length cap ∧ (zs = [] ∨ ∃ g, ao = some ⟨g, 0, none⟩ ∧ g < w.heap.size ∧ ∀ i z, zs[i]? = some z → NumAt w g i z)
theorem NumAt.mono {w w' : World} {g i : Nat} {z : Int} (h : NumAt w g i z) (hb : Below w.heap.size w w') : NumAt w' g i z := by
 obtain ⟨n, ao, k, c, h1, h2, h3⟩ := h
 have hl := World.block_lt_of_cell? w _ h1
 exact ⟨n, ao, k, c, (hb.cell (p := ⟨g, i * 2, none⟩) hl).trans h1, (hb.cell (p := ⟨g, i * 2 + 1, none⟩) hl).trans h2, h3.mono hb⟩
theorem Nums.mono {w w' : World} {v : Value} {zs : List Int} (h : Nums w v zs) (hb : Below w.heap.size w w') : Nums w' v zs := by
 obtain ⟨ao, cap, e, h⟩ := h
 refine ⟨ao, cap, e, ?_⟩
 rcases h with h | ⟨g, h1, h2, h3⟩
 ·exact .inl h
 ·exact .inr ⟨g, h1, Nat.lt_of_lt_of_le h2 hb.size, fun i z hi => (h3 i z hi).mono hb⟩
theorem Nums.at {w : World} {ao : Option Addr} {n c : Nat} {zs : List Int} (h : Nums w (.slice ao n c) zs) {i : Nat} (hi : i < zs.length) :
  ∃ g p r k d, ao = some ⟨g, 0, none⟩ ∧ w.cell? ⟨g, i * 2, none⟩ = some (.bool p) ∧ w.cell? ⟨g, i * 2 + 1, none⟩ = some (.slice r k d) ∧ Num w (.agg #[.bool p, .slice r k d]) (zs.getD i 0) := by
 obtain ⟨ao', cap, e, h⟩ := h
 injection e with e1 e2 e3
 subst e1
 rcases h with h | ⟨g, h1, h2, h3⟩
 ·subst h; simp at hi
 ·obtain ⟨p, r, k, d, g1, g2, g3⟩ := h3 i (zs.getD i 0) (by simp [hi])
  exact ⟨g, p, r, k, d, h1, g1, g2, g3⟩

def NumCell (us : List Value) (w : World) (own : Option Nat) (i : Nat) (z : Int) : Prop :=
 ∃ n ao k c, us[i * 2]? = some (.bool n) ∧ us[i * 2 + 1]? = some (.slice ao k c) ∧ (∀ a, ao = some a → k ≠ 0 → some a.block ≠ own) ∧ Num w (.agg #[.bool n, .slice ao k c]) z
def Ln (W : World) (B : Nat) (v : Value) (zs : List Int) : Prop := ∃ us, W.ownsRow B 32 2 v zs.length us ∧ ∀ i z, zs[i]? = some z → NumCell us W v.ownBlock i z
theorem Ln.shape {W : World} {B : Nat} {v : Value} {zs : List Int} (h : Ln W B v zs) : ∃ ao cap, v = .slice ao zs.length cap := by
 obtain ⟨us, h, _⟩ := h
 rcases h.2 with ⟨rfl, h0⟩ | ⟨g, cap, cur, rfl, _⟩
 ·exact ⟨none, 0, by rw [h0]⟩
 ·exact ⟨_, _, rfl⟩
theorem Ln.nil (w : World) (B : Nat) : Ln w B (.slice none 0 0) [] := ⟨[], World.ownsRow_nil w B _ _, fun i z h => by simp at h⟩
theorem Ln.made (w : World) {B cap : Nat} (cur : Array Value) (hb : B ≤ w.heap.size) (hm : cap ≤ maxLen) (hs : cur.size = cap * 2) : Ln (w.alloc (.cells cur 32)) B (.slice (some ⟨w.heap.size, 0, none⟩) 0 cap) [] :=
 ⟨[], World.ownsRow_made w cur cap hb hm hs, fun i z h => by simp at h⟩
theorem Ln.mono {w w' : World} {B : Nat} {v : Value} {zs : List Int} (h : Ln w B v zs) (hb : Below w.heap.size w w') : Ln w' B v zs := by
 obtain ⟨us, h, hE⟩ := h
 refine ⟨us, ⟨h.1, ?_⟩, fun i z hi => ?_⟩
 ·rcases h.2 with h2 | ⟨g, cap, cur, h1, h2, h3, h4⟩
  ·exact .inl h2
  ·exact .inr ⟨g, cap, cur, h1, h2, by rw [hb.block g (Array.getElem?_eq_some_iff.1 h3).1]; exact h3, h4⟩
 ·obtain ⟨n, ao, k, c, g1, g2, g3, g4⟩ := hE i z hi
  exact ⟨n, ao, k, c, g1, g2, g3, g4.mono hb⟩
theorem Num.grown {w w' : World} {n : Bool} {ao : Option Addr} {k c : Nat} {z : Int} {row : Option Nat} (h : Num w (.agg #[.bool n, .slice ao k c]) z) (hg : w.grownBy w' row) (hne : ∀ a, ao = some a → k ≠ 0 → some a.block ≠ row) : Num w' (.agg #[.bool n, .slice ao k c]) z := by
 obtain ⟨neg, ao', k', c', xs, hv, hs, hn, hz⟩ := h
 injection hv with hv
 have hv2 := congrArg Array.toList hv
 simp at hv2
 obtain ⟨rfl, rfl, rfl, rfl⟩ := hv2
 refine ⟨n, ao, k, c, xs, rfl, ⟨hs.len, hs.cap, hs.cells.1, ?_⟩, hn, hz⟩
 rcases hs.cells.2 with h0 | ⟨b, off, rfl, hlt, hc⟩
 ·exact .inl h0
 ·rcases Nat.eq_zero_or_pos k with h0 | h0
  ·exact .inl (List.eq_nil_of_length_eq_zero (hs.len.trans h0))
  ·refine .inr ⟨b, off, rfl, Nat.lt_of_lt_of_le hlt hg.size, fun j hj => hg.cell (hc j hj) (show some b ≠ row from hne ⟨b, off, none⟩ rfl (by omega))⟩
theorem Num.blk {w : World} {n : Bool} {a : Addr} {k c : Nat} {z : Int} (h : Num w (.agg #[.bool n, .slice (some a) k c]) z) (hk : k ≠ 0) : a.block < w.heap.size := by
 obtain ⟨neg, ao', k', c', xs, hv, hs, hn, hz⟩ := h
 injection hv with hv
 have hv2 := congrArg Array.toList hv
 simp at hv2
 obtain ⟨rfl, rfl, rfl, rfl⟩ := hv2
 rcases hs.cells.2 with h0 | ⟨b, off, e, hlt, hc⟩
 ·have := hs.len; rw [h0] at this; simp at this; omega
 ·injection e with e; rw [e]; exact hlt
theorem Ln.step {B : Nat} {w wr w1 w2 : World} {v : Value} {zs : List Int} {us : List Value} {z : Int} {o : Obj} {g cap H : Nat} {ng : Bool} {ao : Option Addr} {n c : Nat}
  (hO : wr.ownsRow B 32 2 v zs.length us) (hE : ∀ i z, zs[i]? = some z → NumCell us wr v.ownBlock i z) (hB : B ≤ wr.heap.size) (hnx : Below B w wr) (hb : Below wr.heap.size wr w1)
  (hnew : ∀ a, ao = some a → wr.heap.size ≤ a.block) (hN : Num w1 (.agg #[.bool ng, .slice ao n c]) z)
  (hown' : w2.ownsRow B 32 2 (.slice (some ⟨g, 0, none⟩) (zs.length + 1) cap) (zs.length + 1) (us ++ [.bool ng, .slice ao n c])) (hgrow : (w1.alloc o).grownBy w2 v.ownBlock) (hat : v.ownBlock = some g ∨ g = H) (hH : (w1.alloc o).heap.size = H) :
  Ln w2 B (.slice (some ⟨g, 0, none⟩) (zs.length + 1) cap) (zs ++ [z]) ∧ Below B w w2 := by
 have hsz := hb.size
 have hH2 : w1.heap.size + 1 = H := by rw [← hH]; simp
 have hlt := hO.lt
 have hul := hO.1
 refine ⟨⟨us ++ [.bool ng, .slice ao n c], by simpa using hown', fun i y hi => ?_⟩, ?_⟩
 ·have hne : ∀ {a : Addr} {k : Nat} {m : Bool} {d : Nat} {x : Int}, Num w1 (.agg #[.bool m, .slice (some a) k d]) x → k ≠ 0 → some a.block ≠ v.ownBlock → a.block ≠ g := by
   intro a k m d x hx hk hr e
   have h1 := hx.blk hk
   rcases hat with h | h
   ·rw [h, e] at hr; exact hr rfl
   ·omega
  by_cases hil : i < zs.length
  ·rw [List.getElem?_append_left hil] at hi
   obtain ⟨p, r, k, d, g1, g2, g3, g4⟩ := hE i y hi
   refine ⟨p, r, k, d, ?_, ?_, fun a ha hk => ?_, ?_⟩
   ·rw [List.getElem?_append_left (by omega)]; exact g1
   ·rw [List.getElem?_append_left (by omega)]; exact g2
   ·subst ha
    intro e
    exact hne (g4.mono hb) hk (g3 _ rfl hk) (by simpa [Value.ownBlock] using e)
   ·exact ((g4.mono hb).mono (zAq w1 o)).grown hgrow g3
  ·have hi2 : i = zs.length := by
    rcases Nat.lt_or_ge i (zs ++ [z]).length with h | h
    ·simp at h; omega
    ·rw [List.getElem?_eq_none h] at hi; cases hi
   subst hi2
   rw [List.getElem?_append_right (Nat.le_refl _), Nat.sub_self] at hi
   simp only [List.getElem?_cons_zero, Option.some.injEq] at hi
   subst hi
   have hfar : ∀ a, ao = some a → some a.block ≠ v.ownBlock := fun a ha e => by
    have h1 := hnew a ha
    have h2 := (hlt a.block e.symm).2
    omega
   refine ⟨ng, ao, n, c, ?_, ?_, fun a ha hk => ?_, ?_⟩
   ·rw [List.getElem?_append_right (by omega), show zs.length * 2 - us.length = 0 by omega]; rfl
   ·rw [List.getElem?_append_right (by omega), show zs.length * 2 + 1 - us.length = 1 by omega]; rfl
   ·subst ha
    intro e
    exact hne hN hk (hfar _ rfl) (by simpa [Value.ownBlock] using e)
   ·exact (hN.mono (zAq w1 o)).grown hgrow fun a ha _ => hfar a ha
 ·exact ((hnx.trans (hb.mono hB)).alloc (by omega) o).grown hgrow (by simp; omega) (fun j hj => (hO.lt j hj).1)
end Go.Proofs.YtihhlaagndingaaGreat
