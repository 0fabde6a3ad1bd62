/- What the walks of the laws share: bounds of sizes, contracts on values, the boxes carried along, lengths of sizes. -/
import Derived.Test.YtjpbmghdamcdcaaMd
import Derived.Test.YtjpbmghdamcdcaaLi
import Derived.Test.YtjpbmghdamcdcaaEx
import Derived.Test.YtjpbmghdamcdcaaSk
namespace Go.Proofs.Ytjpbmghdamcdcaa
open Go Go.RowKit

theorem ab_addB {x y : Int} {j k m : Nat} (hx : ab x < pw j) (hy : ab y < pw k) (hj : j < m) (hk : k < m) : ab (x + y) < pw m := by
  have h1 := pw_le (show j ≤ m - 1 by omega)
  have h2 := pw_le (show k ≤ m - 1 by omega)
  have h3 := pw_succ (m - 1)
  rw [show m - 1 + 1 = m by omega] at h3
  have h4 := pw_pos (m - 1)
  unfold ab at *
  omega

theorem ab_negB {x : Int} {k : Nat} (hx : ab x < pw k) : ab (-x) < pw k := by
  unfold ab at *
  omega

theorem ab_subB {x y : Int} {j k m : Nat} (hx : ab x < pw j) (hy : ab y < pw k) (hj : j < m) (hk : k < m) : ab (x - y) < pw m := by
  have := ab_addB hx (ab_negB hy) hj hk
  rw [Int.sub_eq_add_neg]
  exact this

theorem ab_mulB {x y : Int} {j k : Nat} (hx : ab x < pw j) (hy : ab y < pw k) : ab (x * y) < pw (j + k) := by
  rw [ab_mul, pw_add]
  have h1 := ab_nonneg x
  have h2 := ab_nonneg y
  exact Int.mul_lt_mul' (Int.le_of_lt hx) hy h2 (pw_pos _)

theorem ab_mulM {x y : Int} {j k m : Nat} (hx : ab x < pw j) (hy : ab y < pw k) (hm : j + k = m) : ab (x * y) < pw m := by
  subst hm
  exact ab_mulB hx hy

theorem ab_absB {x : Int} {k : Nat} (hx : ab x < pw k) : ab (x.natAbs : Int) < pw k := by
  unfold ab at *
  omega

theorem ab_modB {x y : Int} {k : Nat} (hy0 : y ≠ 0) (hy : ab y < pw k) : ab (x % y) < pw k := by
  have h1 := Int.emod_nonneg x hy0
  have h2 := Int.emod_lt x hy0
  unfold ab at *
  omega

theorem ab_divB {x y : Int} {k m : Nat} (hx : ab x < pw k) (hk : k < m) : ab (x / y) < pw m := by
  have h1 : (x / y).natAbs ≤ x.natAbs + 1 := by
    have h0 := Int.natAbs_ediv_le_natAbs x y
    omega
  have h2 := pw_le (show k + 1 ≤ m by omega)
  have h3 := pw_succ k
  have h4 := pw_pos k
  unfold ab at *
  omega

theorem exK {w : World} {z : Int} {f : FuncId} {args : Array Value} (h : Calls Try.prog f args w (GivesInt w z)) {k : Nat} (hz : ab z < pw k) (hk : k ≤ 900000) :
    Calls Try.prog f args w fun e w' => ∃ v', e = .returned v' ∧ Below w.heap.size w w' ∧ Num w' v' z :=
  h.mono fun _ _ hh => gives_num hh hz hk

theorem exKP {w : World} {z : Int} {f : FuncId} {args : Array Value} (h : Calls Try.prog f args w (GivesInt w z)) {k : Nat} (hz : ab z < pw k) (hk : k ≤ 900000) :
    Calls Try.prog f args w fun e w' => ∃ (n : Bool) (ao : Option Addr) (k c : Nat), e = .returned (.agg #[.bool n, .slice ao k c]) ∧ Below w.heap.size w w' ∧ Num w' (.agg #[.bool n, .slice ao k c]) z :=
  (exK h hz hk).mono fun _ _ hh => by
    obtain ⟨v, rfl, hb, hn⟩ := hh
    obtain ⟨n, ao, k, c, rfl⟩ := hn.parts
    exact ⟨_, _, _, _, rfl, hb, hn⟩

theorem exDK {w : World} {v v' : Value} {a b : Int} (h : Num w v a) (h' : Num w v' b) (hb : b ≠ 0) {j k : Nat} (hq : ab (a / b) < pw j) (hr : ab (a % b) < pw k) (hj : j ≤ 900000) (hk : k ≤ 900000) : Calls Try.prog 13 #[v, v'] w (RTwo w (a / b) (a % b)) :=
  (DivModV h h').mono fun e w' hg => by
    obtain ⟨hbl, ⟨h0, _⟩ | ⟨_, vq, vr, rfl, i1, i2⟩⟩ := hg
    · exact absurd h0 hb
    · have n1 := num_of i1 hq hj
      have n2 := num_of i2 hr hk
      obtain ⟨n, ao, k, c, rfl⟩ := n1.parts
      obtain ⟨n', ao', k', c', rfl⟩ := n2.parts
      exact ⟨_, _, _, _, _, _, _, _, rfl, hbl, n1, n2⟩

theorem exDT {w : World} {v v' : Value} {a b : Int} (h : Num w v a) (h' : Num w v' b) (hb : b ≠ 0) {j k : Nat} (hq : ab (a / b) < pw j) (hr : ab (a % b) < pw k) (hj : j ≤ 900000) (hk : k ≤ 900000) :
    Calls Try.prog 13 #[v, v'] w fun e w' => ∃ v', e = .returned v' ∧ Below w.heap.size w w' ∧ (Fc.tup (a / b) (a % b)).P v' w' :=
  (exDK h h' hb hq hr hj hk).mono fun e w' hg => by
    obtain ⟨_, _, _, _, _, _, _, _, rfl, hbl, n1, n2⟩ := hg
    exact ⟨_, rfl, hbl, _, _, rfl, n1, n2⟩

theorem exSame {w : World} {v v' : Value} {z z' : Int} (h : Num w v z) (h' : Num w v' z') (he : z = z') : Calls Try.prog 17 #[v, v'] w fun e w' => ∃ v', e = .returned v' ∧ Below w.heap.size w w' ∧ v' = .bool true :=
  (SameV h h').mono fun _ _ hh => ⟨_, hh.1, hh.2, by rw [decide_eq_true he]⟩

theorem exSign {w : World} {v : Value} {z : Int} (h : Num w v z) : Calls Try.prog 31 #[v] w fun e w' => ∃ v', e = .returned v' ∧ Below w.heap.size w w' ∧ v' = .int .i64 (cmpI z 0) :=
  (SignV h).mono fun _ _ hh => ⟨_, hh.1, hh.2, rfl⟩

theorem exCmp {w : World} {v v' : Value} {z z' : Int} (h : Num w v z) (h' : Num w v' z') : Calls Try.prog 29 #[v, v'] w fun e w' => ∃ v', e = .returned v' ∧ Below w.heap.size w w' ∧ v' = .int .i64 (cmpI z z') :=
  (CmpV h h').mono fun _ _ hh => ⟨_, hh.1, hh.2, rfl⟩

theorem enter_DivMod' (args : Array Value) (w : World) : (callFunc 13 args).run Try.prog w = .ok (.enter 13 args) w := enter_of Try.func13 (by kernel_rfl) rfl args w
theorem enter_Add' (args : Array Value) (w : World) : (callFunc 19 args).run Try.prog w = .ok (.enter 19 args) w := enter_of Try.func19 (by kernel_rfl) rfl args w
theorem enter_Neg (args : Array Value) (w : World) : (callFunc 25 args).run Try.prog w = .ok (.enter 25 args) w := enter_of Try.func25 (by kernel_rfl) rfl args w
theorem enter_Cmp (args : Array Value) (w : World) : (callFunc 29 args).run Try.prog w = .ok (.enter 29 args) w := enter_of Try.func29 (by kernel_rfl) rfl args w
theorem enter_Gcd (args : Array Value) (w : World) : (callFunc 18 args).run Try.prog w = .ok (.enter 18 args) w := enter_of Try.func18 (by kernel_rfl) rfl args w
theorem enter_Sqrt (args : Array Value) (w : World) : (callFunc 35 args).run Try.prog w = .ok (.enter 35 args) w := enter_of Try.func35 (by kernel_rfl) rfl args w

/-- The size of a number that is 0 exactly if the number is. -/
def MagOf (z : Int) (v : Value) : Prop := ∃ ao k c, v = .slice ao k c ∧ (k = 0 ↔ z = 0) ∧ k ≤ 900000
def LenOf (z : Int) (v : Value) : Prop := ∃ k : Nat, v = .int .i64 k ∧ (k = 0 ↔ z = 0) ∧ k ≤ 900000

theorem Num.len_zero {w : World} {n : Bool} {ao : Option Addr} {k c : Nat} {z : Int} (h : Num w (.agg #[.bool n, .slice ao k c]) z) : (k = 0 ↔ z = 0) ∧ k ≤ 900000 := by
  obtain ⟨neg, ao', k', c', xs, hv, hs, hn, hz, hc, hnn⟩ := h
  obtain ⟨rfl, rfl, rfl, rfl⟩ : n = neg ∧ ao = ao' ∧ k = k' ∧ c = c' := by
    simp at hv; exact ⟨hv.1, hv.2.1, hv.2.2.1, hv.2.2.2⟩
  refine ⟨?_, hn⟩
  have h1 := hc.zero
  rw [hs.len] at h1
  rw [h1, hz]
  cases n <;> simp [sgn]

/-- The arguments that came in as a sign and words. -/
def Rw (w : World) : List (Nat × Bool × Option Addr × Nat × Nat × List Int) → Prop
  | [] => True
  | (b, neg, ao, n, c, xs) :: r => (IntBox w b (.bool neg) (.slice ao n c) ∧ Sl w ao n c xs) ∧ Rw w r

theorem Rw.mono {w w' : World} (hb : Below w.heap.size w w') : ∀ {l : List (Nat × Bool × Option Addr × Nat × Nat × List Int)}, Rw w l → Rw w' l
  | [], _ => trivial
  | (_, _, _, _, _, _) :: _, h => ⟨⟨h.1.1.mono hb h.1.1.lt, h.1.2.mono hb⟩, Rw.mono hb h.2⟩

/-- What is carried along a law's walk. -/
structure Ev (w0 : World) (rs : List (Nat × Bool × Option Addr × Nat × Nat × List Int)) (l : List (Nat × Int)) (W : World) : Prop where
  below : Below w0.heap.size w0 W
  raws : Rw W rs
  bs : Bs W l

theorem Ev.mono {w0 W W' : World} {rs : List (Nat × Bool × Option Addr × Nat × Nat × List Int)} {l : List (Nat × Int)} (h : Ev w0 rs l W) (hb : Below W.heap.size W W') : Ev w0 rs l W' :=
  ⟨h.below.trans (hb.mono h.below.size), h.raws.mono hb, h.bs.mono hb⟩

theorem Ev.push {w0 W : World} {rs : List (Nat × Bool × Option Addr × Nat × Nat × List Int)} {l : List (Nat × Int)} (h : Ev w0 rs l W) {b : Nat} {z : Int} (hb : BoxNum W b z) : Ev w0 rs ((b, z) :: l) W :=
  ⟨h.below, h.raws, hb, h.bs⟩

theorem raw_boxes1 (w : World) {n1 : Bool} {a1 : Option Addr} {k1 c1 : Nat} {xs1 : List Int} (h1 : Sl w a1 k1 c1 xs1) (t : TypeId) :
    ∃ w1, w1 = w.alloc (.cells #[.bool n1, .slice a1 k1 c1] t) ∧ Ev w [(w.heap.size, n1, a1, k1, c1, xs1)] [] w1 :=
  ⟨_, rfl, alloc_below _ _, ⟨⟨IntBox.new _ _ _ _, h1.mono (alloc_below _ _)⟩, trivial⟩, trivial⟩

theorem raw_boxes2 (w : World) {n1 n2 : Bool} {a1 a2 : Option Addr} {k1 c1 k2 c2 : Nat} {xs1 xs2 : List Int} (h1 : Sl w a1 k1 c1 xs1) (h2 : Sl w a2 k2 c2 xs2) (t : TypeId) :
    ∃ w1, w1 = (w.alloc (.cells #[.bool n1, .slice a1 k1 c1] t)).alloc (.cells #[.bool n2, .slice a2 k2 c2] t) ∧ Ev w [(w.heap.size, n1, a1, k1, c1, xs1), (w.heap.size + 1, n2, a2, k2, c2, xs2)] [] w1 := by
  obtain ⟨u, hu, E⟩ := raw_boxes1 w (n1 := n1) h1 t
  have hs : u.heap.size = w.heap.size + 1 := by rw [hu, World.size_alloc]
  have hI := IntBox.new u (.bool n2) (.slice a2 k2 c2) t
  rw [hs] at hI
  have hb := alloc_below u (.cells #[.bool n2, .slice a2 k2 c2] t)
  have E2 := E.mono hb
  exact ⟨u.alloc (.cells #[.bool n2, .slice a2 k2 c2] t), by rw [hu], E2.below, ⟨E2.raws.1, ⟨hI, h2.mono E2.below⟩, trivial⟩, trivial⟩

theorem raw_boxes3 (w : World) {n1 n2 n3 : Bool} {a1 a2 a3 : Option Addr} {k1 c1 k2 c2 k3 c3 : Nat} {xs1 xs2 xs3 : List Int} (h1 : Sl w a1 k1 c1 xs1) (h2 : Sl w a2 k2 c2 xs2) (h3 : Sl w a3 k3 c3 xs3) (t : TypeId) :
    ∃ w1, w1 = ((w.alloc (.cells #[.bool n1, .slice a1 k1 c1] t)).alloc (.cells #[.bool n2, .slice a2 k2 c2] t)).alloc (.cells #[.bool n3, .slice a3 k3 c3] t) ∧
      Ev w [(w.heap.size, n1, a1, k1, c1, xs1), (w.heap.size + 1, n2, a2, k2, c2, xs2), (w.heap.size + 1 + 1, n3, a3, k3, c3, xs3)] [] w1 := by
  obtain ⟨u, hu, E⟩ := raw_boxes2 w (n1 := n1) (n2 := n2) h1 h2 t
  have hs : u.heap.size = w.heap.size + 1 + 1 := by rw [hu, World.size_alloc, World.size_alloc]
  have hI := IntBox.new u (.bool n3) (.slice a3 k3 c3) t
  rw [hs] at hI
  have hb := alloc_below u (.cells #[.bool n3, .slice a3 k3 c3] t)
  have E2 := E.mono hb
  exact ⟨u.alloc (.cells #[.bool n3, .slice a3 k3 c3] t), by rw [hu], E2.below, ⟨E2.raws.1, E2.raws.2.1, ⟨hI, h3.mono E2.below⟩, trivial⟩, trivial⟩

theorem Num.ofMade {neg : Bool} {xs : List Int} {m : Nat} (hd : Digs xs) : ab (sgn neg (val (xs.take m))) < pw m := by
  have h1 := val_nonneg (hd.take m)
  have h2 := val_lt (hd.take m)
  have h3 := pw_le (show (xs.take m).length ≤ m by rw [List.length_take]; omega)
  unfold ab
  cases neg <;> simp [sgn] <;> omega

section
variable {os : List Oper} {Q : Exit → Act → World → Prop} {a : Act} {p : Plan} {B B0 : Nat} {w0 : World}
variable {i s : Nat} {d : Option Tmp} {ty : TypeId} {ps : String} {af : Array Edge} {gd : Option (Nat × Bool)}

/-- The address of a number's size. -/
theorem g_magAddr {b : Nat} {x : Operand} (hp : PMono p B B0) (hF : p.Free i) (hg : Gd os a p B B0 w0 af gd) (hx : Src os a p B B0 w0 af x fun v _ => v = .pointer (some ⟨b, 0, none⟩)) (hC : ∀ w, p.C i (.pointer (some ⟨b, 1, none⟩)) w) :
    Step os Q a p B B0 w0 i { dst := d, op := .fieldAddr 27 x 1, type := ty, pos := ps, after := af, guard := gd } :=
  g_one hp hF hg hx fun ρ w _ h => ⟨_, by simp [execOp, go_sem, h], hC w⟩

/-- A number's size. -/
theorem g_magLoad {b : Nat} {z : Int} {x : Operand} (hp : PMono p B B0) (hF : p.Free i) (hg : Gd os a p B B0 w0 af gd) (hx : Src os a p B B0 w0 af x fun v _ => v = .pointer (some ⟨b, 1, none⟩)) (hb : BoxNum w0 b z) (hB : B = w0.heap.size)
    (hC : ∀ v w, MagOf z v → p.C i v w) : Step os Q a p B B0 w0 i { dst := d, op := .load 22 x, type := ty, pos := ps, after := af, guard := gd } := by
  refine stg_val hp hF hg fun L vs w hG hd => ?_
  subst hB
  have e := hx L vs w hG hd
  obtain ⟨n, ao, k, c, ⟨_, c1, _, _⟩, hN⟩ := hb.mono hG.below
  refine ⟨.slice ao k c, ?_, hC _ _ ⟨ao, k, c, rfl, hN.len_zero⟩⟩
  generalize (lay os.toArray L vs os.toArray.size a).eval = ρ at e
  simp [execOp, go_sem, e, c1]

theorem g_magLen {z : Int} {x : Operand} {ts : Array TypeId} (hp : PMono p B B0) (hF : p.Free i) (hts : ts = #[22]) (hg : Gd os a p B B0 w0 af gd) (hx : Src os a p B B0 w0 af x fun v _ => MagOf z v) (hC : ∀ v w, LenOf z v → p.C i v w) :
    Step os Q a p B B0 w0 i { dst := d, op := .call { callee := .builtin .len, args := #[x], argTypes := ts }, type := ty, pos := ps, after := af, guard := gd } := by
  subst hts
  exact g_one hp hF hg hx fun ρ w _ h => by
    obtain ⟨ao, k, c, e, h1, h2⟩ := h
    exact ⟨.int .i64 k, by simp [go_sem, e], hC _ _ ⟨k, rfl, h1, h2⟩⟩

/-- A call on a constant. -/
theorem g_callC {x : Value} {f : FuncId} {ts : Array TypeId} (hp : PMono p B B0) (hF : p.Free i) (hg : Gd os a p B B0 w0 af gd) (hen : ∀ args w, (callFunc f args).run Try.prog w = .ok (.enter f args) w)
    (hC : ∀ w, Calls Try.prog f #[x] w fun e w' => ∃ v', e = .returned v' ∧ Below w.heap.size w w' ∧ p.C i v' w') :
    Step os Q a p B B0 w0 i { dst := d, op := .call { callee := .value (.func f), args := #[.const x], argTypes := ts }, type := ty, pos := ps, after := af, guard := gd } :=
  stg_call hp hF hg hen fun L vs w _ _ => ⟨#[x], by simp [Act.eval], hC w⟩

/-- A number's size is empty. -/
theorem g_lenNone {x : Operand} (hp : PMono p B B0) (hF : p.Free i) (hg : Gd os a p B B0 w0 af gd) (hx : Src os a p B B0 w0 af x fun v _ => LenOf 0 v) (hC : ∀ w, p.C i (.bool true) w) :
    Step os Q a p B B0 w0 i { dst := d, op := .binOp .eql 3 x (.const (.int .i64 0)) 3, type := ty, pos := ps, after := af, guard := gd } :=
  g_one hp hF hg hx fun ρ w hc h => by
    obtain ⟨k, e, h1, _⟩ := h
    obtain rfl := h1.2 rfl
    exact ⟨.bool true, by simp [execOp, go_sem, e, hc], hC w⟩
end

end Go.Proofs.Ytjpbmghdamcdcaa
