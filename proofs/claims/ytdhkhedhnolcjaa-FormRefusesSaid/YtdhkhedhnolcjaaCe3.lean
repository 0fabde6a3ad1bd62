/- Ma, Nt, Mb, Mc, Op, Ea, Ua, Rm, Yp, Ub, Rg, Uc, Ud. -/
import Derived.Test.YtdhkhedhnolcjaaCe2
set_option linter.unusedSimpArgs false
set_option linter.unusedVariables false
namespace Go.Proofs.Ytdhkhedhnolcjaa
open Go Go.RowKit

section
variable {os : List Oper} {Q : Exit → Act → World → Prop} {a : Act} {p : Pq} {B B0 : Nat} {w0 : World}
variable {i s : Nat} {d : Option Tmp} {ty : TypeId} {ps : String} {af : Array Edge} {gd : Option (Nat × Bool)}

theorem zCl {x y z : Operand} {F G F3 : Value → World → Prop} {f : FuncId} {ts : Array TypeId} (hp : p.Ok B B0) (hF : p.Free i) (hg : GdQ os a p B B0 w0 af gd) (hen : ∀ args w, (callFunc f args).run Try.prog w = .ok (.enter f args) w)
  (hx : SrcQ os a p B B0 w0 af x F) (hy : SrcQ os a p B B0 w0 af y G) (hz : SrcQ os a p B B0 w0 af z F3) (hC : ∀ v v' u w, F v w → G v' w → F3 u w → Calls Try.prog f #[v, v', u] w fun e w' => ∃ v', e = .returned v' ∧ Below w.heap.size w w' ∧ (p.c i).P v' w') :
  zAm os Q a p B B0 w0 i { dst := d, op := .call { callee := .value (.func f), args := #[x, y, z], argTypes := ts }, type := ty, pos := ps, after := af, guard := gd } :=
 zEn hp hF hg hen fun L vs w hG hd => ⟨#[_, _, _], by simp, hC _ _ _ _ (hx L vs w hG hd) (hy L vs w hG hd) (hz L vs w hG hd)⟩
theorem q_call4 {x y z t : Operand} {F G F3 F4 : Value → World → Prop} {f : FuncId} {ts : Array TypeId} (hp : p.Ok B B0) (hF : p.Free i) (hg : GdQ os a p B B0 w0 af gd) (hen : ∀ args w, (callFunc f args).run Try.prog w = .ok (.enter f args) w)
  (hx : SrcQ os a p B B0 w0 af x F) (hy : SrcQ os a p B B0 w0 af y G) (hz : SrcQ os a p B B0 w0 af z F3) (ht : SrcQ os a p B B0 w0 af t F4) (hC : ∀ v v' u u' w, F v w → G v' w → F3 u w → F4 u' w → Calls Try.prog f #[v, v', u, u'] w fun e w' => ∃ v', e = .returned v' ∧ Below w.heap.size w w' ∧ (p.c i).P v' w') :
  zAm os Q a p B B0 w0 i { dst := d, op := .call { callee := .value (.func f), args := #[x, y, z, t], argTypes := ts }, type := ty, pos := ps, after := af, guard := gd } :=
 zEn hp hF hg hen fun L vs w hG hd => ⟨#[_, _, _, _], by simp, hC _ _ _ _ _ (hx L vs w hG hd) (hy L vs w hG hd) (hz L vs w hG hd) (ht L vs w hG hd)⟩

end

theorem zCr (args : Array Value) (w : World) : (callFunc 90 args).run Try.prog w = .ok (.enter 90 args) w := zAs Try.func90 (by kernel_rfl) rfl args w
theorem zHp (args : Array Value) (w : World) : (callFunc 97 args).run Try.prog w = .ok (.enter 97 args) w := zAs Try.func97 (by kernel_rfl) rfl args w

theorem zEm : zB5 31 2 = true := by kernel_rfl
theorem zAg : rowB 31 2 = true := by kernel_rfl
section
variable {os : List Oper} {Q : Exit → Act → World → Prop} {a : Act} {p : Pq} {B B0 : Nat} {w0 : World}
variable {i s : Nat} {d : Option Tmp} {ty : TypeId} {ps : String} {af : Array Edge} {gd : Option (Nat × Bool)}
end
inductive PE where
 | c (k : Int)
 | v (i : Nat)
 | a (x y : PE)
 | m (x y : PE)
 | n (x : PE)
def PE.den (ρ : List Int) : PE → Int
 | .c k => k
 | .v i => ρ.getD i 0
 | .a x y => x.den ρ + y.den ρ
 | .m x y => x.den ρ * y.den ρ
 | .n x => - x.den ρ
def insV (i : Nat) : List Nat → List Nat
 | [] => [i]
 | j :: r => if i ≤ j then i :: j :: r else j :: insV i r
def monD (ρ : List Int) : List Nat → Int
 | [] => 1
 | i :: r => ρ.getD i 0 * monD ρ r
def polD (ρ : List Int) : List (Int × List Nat) → Int
 | [] => 0
 | t :: r => t.1 * monD ρ t.2 + polD ρ r
theorem zH4 (ρ : List Int) (i : Nat) : ∀ l, monD ρ (insV i l) = ρ.getD i 0 * monD ρ l
 | [] => rfl
 | j :: r => by
  unfold insV
  split
  ·rfl
  ·show _ * monD ρ (insV i r) = _ * (_ * monD ρ r)
   rw [zH4 ρ i r, Int.mul_left_comm]
def mulM : List Nat → List Nat → List Nat
 | [], l => l
 | i :: r, l => insV i (mulM r l)
theorem zIb (ρ : List Int) : ∀ a b, monD ρ (mulM a b) = monD ρ a * monD ρ b
 | [], b => by show monD ρ b = 1 * _; rw [Int.one_mul]
 | i :: r, b => by
  show monD ρ (insV i (mulM r b)) = _ * monD ρ r * _
  rw [zH4, zIb ρ r b, Int.mul_assoc]
def addT (k : Int) (mo : List Nat) : List (Int × List Nat) → List (Int × List Nat)
 | [] => [(k, mo)]
 | t :: p => if t.2 = mo then (k + t.1, mo) :: p else t :: addT k mo p
theorem zHe (ρ : List Int) (k : Int) (mo : List Nat) : ∀ p, polD ρ (addT k mo p) = k * monD ρ mo + polD ρ p
 | [] => rfl
 | t :: p => by
  unfold addT
  split
  ·rename_i h
   show (k + t.1) * monD ρ mo + polD ρ p = _ + (t.1 * monD ρ t.2 + polD ρ p)
   rw [Int.add_mul, h]
   omega
  ·show t.1 * monD ρ t.2 + polD ρ (addT k mo p) = _ + (t.1 * monD ρ t.2 + polD ρ p)
   rw [zHe ρ k mo p]
   omega
def addQ : List (Int × List Nat) → List (Int × List Nat) → List (Int × List Nat)
 | [], q => q
 | t :: p, q => addT t.1 t.2 (addQ p q)
theorem zFr (ρ : List Int) : ∀ p q, polD ρ (addQ p q) = polD ρ p + polD ρ q
 | [], q => by show polD ρ q = 0 + _; omega
 | t :: p, q => by
  show polD ρ (addT t.1 t.2 (addQ p q)) = t.1 * monD ρ t.2 + polD ρ p + polD ρ q
  rw [zHe, zFr ρ p q]
  omega
def mulT (k : Int) (mo : List Nat) : List (Int × List Nat) → List (Int × List Nat)
 | [] => []
 | t :: p => (k * t.1, mulM mo t.2) :: mulT k mo p
theorem zGh (ρ : List Int) (k : Int) (mo : List Nat) : ∀ p, polD ρ (mulT k mo p) = k * monD ρ mo * polD ρ p
 | [] => by show (0 : Int) = _ * 0; omega
 | t :: p => by
  show k * t.1 * monD ρ (mulM mo t.2) + polD ρ (mulT k mo p) = k * monD ρ mo * (t.1 * monD ρ t.2 + polD ρ p)
  rw [zIb, zGh ρ k mo p, Int.mul_add]
  congr 1
  simp only [Int.mul_assoc, Int.mul_left_comm]
def mulQ : List (Int × List Nat) → List (Int × List Nat) → List (Int × List Nat)
 | [], _ => []
 | t :: p, q => addQ (mulT t.1 t.2 q) (mulQ p q)
theorem zIc (ρ : List Int) : ∀ p q, polD ρ (mulQ p q) = polD ρ p * polD ρ q
 | [], q => by show (0 : Int) = 0 * _; omega
 | t :: p, q => by
  show polD ρ (addQ (mulT t.1 t.2 q) (mulQ p q)) = (t.1 * monD ρ t.2 + polD ρ p) * polD ρ q
  rw [zFr, zGh, zIc ρ p q, Int.add_mul]
def PE.norm : PE → List (Int × List Nat)
 | .c k => [(k, [])]
 | .v i => [(1, [i])]
 | .a x y => addQ x.norm y.norm
 | .m x y => mulQ x.norm y.norm
 | .n x => mulT (-1) [] x.norm
theorem PE.norm_den (ρ : List Int) : ∀ e : PE, polD ρ e.norm = e.den ρ
 | .c k => by show k * 1 + 0 = k; omega
 | .v i => by show 1 * (ρ.getD i 0 * 1) + 0 = ρ.getD i 0; omega
 | .a x y => by show polD ρ (addQ _ _) = _ + _; rw [zFr, PE.norm_den ρ x, PE.norm_den ρ y]
 | .m x y => by show polD ρ (mulQ _ _) = _ * _; rw [zIc, PE.norm_den ρ x, PE.norm_den ρ y]
 | .n x => by show polD ρ (mulT _ _ _) = - _; rw [zGh, PE.norm_den ρ x]; show -1 * 1 * _ = _; omega
theorem zIm (ρ : List Int) : ∀ p : List (Int × List Nat), p.all (fun t => t.1 == 0) = true → polD ρ p = 0
 | [], _ => rfl
 | t :: p, h => by
  simp only [List.all_cons, Bool.and_eq_true, beq_iff_eq] at h
  show t.1 * _ + polD ρ p = 0
  rw [h.1, zIm ρ p h.2]
  omega
theorem PE.same (ρ : List Int) (x y : PE) (h : ((PE.a x (.n y)).norm.all fun t => t.1 == 0) = true) : x.den ρ = y.den ρ := by
 have h1 := zIm ρ _ h
 rw [PE.norm_den] at h1
 have h2 : x.den ρ + - y.den ρ = 0 := h1
 omega
theorem zAt {x : Int} (h0 : -9223372036854775808 ≤ x) (h1 : x ≤ 9223372036854775807) : ab x < pw 3 := by
 have hp : pw 3 = 79228162514264337593543950336 := by decide
 rw [hp]
 unfold ab
 omega

theorem qf_disc (a b c p q r s : Int) : (2 * (a * (p * q) + c * (r * s)) + b * (p * s + q * r)) * (2 * (a * (p * q) + c * (r * s)) + b * (p * s + q * r)) - 4 * ((a * (p * p) + b * (p * r) + c * (r * r)) * (a * (q * q) + b * (q * s) + c * (s * s))) = (b * b - 4 * (a * c)) * ((p * s - q * r) * (p * s - q * r)) := by
 have h := PE.same [a, b, c, p, q, r, s] (.a (.m (.a (.m (.c 2) (.a (.m (.v 0) (.m (.v 3) (.v 4))) (.m (.v 2) (.m (.v 5) (.v 6))))) (.m (.v 1) (.a (.m (.v 3) (.v 6)) (.m (.v 4) (.v 5))))) (.a (.m (.c 2) (.a (.m (.v 0) (.m (.v 3) (.v 4))) (.m (.v 2) (.m (.v 5) (.v 6))))) (.m (.v 1) (.a (.m (.v 3) (.v 6)) (.m (.v 4) (.v 5)))))) (.n (.m (.c 4) (.m (.a (.a (.m (.v 0) (.m (.v 3) (.v 3))) (.m (.v 1) (.m (.v 3) (.v 5)))) (.m (.v 2) (.m (.v 5) (.v 5)))) (.a (.a (.m (.v 0) (.m (.v 4) (.v 4))) (.m (.v 1) (.m (.v 4) (.v 6)))) (.m (.v 2) (.m (.v 6) (.v 6)))))))) (.m (.a (.m (.v 1) (.v 1)) (.n (.m (.c 4) (.m (.v 0) (.v 2))))) (.m (.a (.m (.v 3) (.v 6)) (.n (.m (.v 4) (.v 5)))) (.a (.m (.v 3) (.v 6)) (.n (.m (.v 4) (.v 5)))))) (by decide +kernel)
 simp only [PE.den, List.getD_cons_zero, List.getD_cons_succ] at h
 try simp only [Int.sub_eq_add_neg]
 exact h

theorem zIy (a b c p q r s : Int) : (a * (p * p) + b * (p * r) + c * (r * r)) * (s * s) + (2 * (a * (p * q) + c * (r * s)) + b * (p * s + q * r)) * (s * (-r)) + (a * (q * q) + b * (q * s) + c * (s * s)) * ((-r) * (-r)) = a * ((p * s - q * r) * (p * s - q * r)) := by
 have h := PE.same [a, b, c, p, q, r, s] (.a (.a (.m (.a (.a (.m (.v 0) (.m (.v 3) (.v 3))) (.m (.v 1) (.m (.v 3) (.v 5)))) (.m (.v 2) (.m (.v 5) (.v 5)))) (.m (.v 6) (.v 6))) (.m (.a (.m (.c 2) (.a (.m (.v 0) (.m (.v 3) (.v 4))) (.m (.v 2) (.m (.v 5) (.v 6))))) (.m (.v 1) (.a (.m (.v 3) (.v 6)) (.m (.v 4) (.v 5))))) (.m (.v 6) (.n (.v 5))))) (.m (.a (.a (.m (.v 0) (.m (.v 4) (.v 4))) (.m (.v 1) (.m (.v 4) (.v 6)))) (.m (.v 2) (.m (.v 6) (.v 6)))) (.m (.n (.v 5)) (.n (.v 5))))) (.m (.v 0) (.m (.a (.m (.v 3) (.v 6)) (.n (.m (.v 4) (.v 5)))) (.a (.m (.v 3) (.v 6)) (.n (.m (.v 4) (.v 5)))))) (by decide +kernel)
 simp only [PE.den, List.getD_cons_zero, List.getD_cons_succ] at h
 try simp only [Int.sub_eq_add_neg]
 exact h

theorem qf_inv_b (a b c p q r s : Int) : 2 * ((a * (p * p) + b * (p * r) + c * (r * r)) * (s * (-q)) + (a * (q * q) + b * (q * s) + c * (s * s)) * ((-r) * p)) + (2 * (a * (p * q) + c * (r * s)) + b * (p * s + q * r)) * (s * p + (-q) * (-r)) = b * ((p * s - q * r) * (p * s - q * r)) := by
 have h := PE.same [a, b, c, p, q, r, s] (.a (.m (.c 2) (.a (.m (.a (.a (.m (.v 0) (.m (.v 3) (.v 3))) (.m (.v 1) (.m (.v 3) (.v 5)))) (.m (.v 2) (.m (.v 5) (.v 5)))) (.m (.v 6) (.n (.v 4)))) (.m (.a (.a (.m (.v 0) (.m (.v 4) (.v 4))) (.m (.v 1) (.m (.v 4) (.v 6)))) (.m (.v 2) (.m (.v 6) (.v 6)))) (.m (.n (.v 5)) (.v 3))))) (.m (.a (.m (.c 2) (.a (.m (.v 0) (.m (.v 3) (.v 4))) (.m (.v 2) (.m (.v 5) (.v 6))))) (.m (.v 1) (.a (.m (.v 3) (.v 6)) (.m (.v 4) (.v 5))))) (.a (.m (.v 6) (.v 3)) (.m (.n (.v 4)) (.n (.v 5)))))) (.m (.v 1) (.m (.a (.m (.v 3) (.v 6)) (.n (.m (.v 4) (.v 5)))) (.a (.m (.v 3) (.v 6)) (.n (.m (.v 4) (.v 5)))))) (by decide +kernel)
 simp only [PE.den, List.getD_cons_zero, List.getD_cons_succ] at h
 try simp only [Int.sub_eq_add_neg]
 exact h

theorem qf_inv_c (a b c p q r s : Int) : (a * (p * p) + b * (p * r) + c * (r * r)) * ((-q) * (-q)) + (2 * (a * (p * q) + c * (r * s)) + b * (p * s + q * r)) * ((-q) * p) + (a * (q * q) + b * (q * s) + c * (s * s)) * (p * p) = c * ((p * s - q * r) * (p * s - q * r)) := by
 have h := PE.same [a, b, c, p, q, r, s] (.a (.a (.m (.a (.a (.m (.v 0) (.m (.v 3) (.v 3))) (.m (.v 1) (.m (.v 3) (.v 5)))) (.m (.v 2) (.m (.v 5) (.v 5)))) (.m (.n (.v 4)) (.n (.v 4)))) (.m (.a (.m (.c 2) (.a (.m (.v 0) (.m (.v 3) (.v 4))) (.m (.v 2) (.m (.v 5) (.v 6))))) (.m (.v 1) (.a (.m (.v 3) (.v 6)) (.m (.v 4) (.v 5))))) (.m (.n (.v 4)) (.v 3)))) (.m (.a (.a (.m (.v 0) (.m (.v 4) (.v 4))) (.m (.v 1) (.m (.v 4) (.v 6)))) (.m (.v 2) (.m (.v 6) (.v 6)))) (.m (.v 3) (.v 3)))) (.m (.v 2) (.m (.a (.m (.v 3) (.v 6)) (.n (.m (.v 4) (.v 5)))) (.a (.m (.v 3) (.v 6)) (.n (.m (.v 4) (.v 5)))))) (by decide +kernel)
 simp only [PE.den, List.getD_cons_zero, List.getD_cons_succ] at h
 try simp only [Int.sub_eq_add_neg]
 exact h

theorem qf_mul_a (a b c p q r s t v : Int) : (a * (p * p) + b * (p * r) + c * (r * r)) * (t * t) + (2 * (a * (p * q) + c * (r * s)) + b * (p * s + q * r)) * (t * v) + (a * (q * q) + b * (q * s) + c * (s * s)) * (v * v) = a * ((p * t + q * v) * (p * t + q * v)) + b * ((p * t + q * v) * (r * t + s * v)) + c * ((r * t + s * v) * (r * t + s * v)) := by
 have h := PE.same [a, b, c, p, q, r, s, t, v] (.a (.a (.m (.a (.a (.m (.v 0) (.m (.v 3) (.v 3))) (.m (.v 1) (.m (.v 3) (.v 5)))) (.m (.v 2) (.m (.v 5) (.v 5)))) (.m (.v 7) (.v 7))) (.m (.a (.m (.c 2) (.a (.m (.v 0) (.m (.v 3) (.v 4))) (.m (.v 2) (.m (.v 5) (.v 6))))) (.m (.v 1) (.a (.m (.v 3) (.v 6)) (.m (.v 4) (.v 5))))) (.m (.v 7) (.v 8)))) (.m (.a (.a (.m (.v 0) (.m (.v 4) (.v 4))) (.m (.v 1) (.m (.v 4) (.v 6)))) (.m (.v 2) (.m (.v 6) (.v 6)))) (.m (.v 8) (.v 8)))) (.a (.a (.m (.v 0) (.m (.a (.m (.v 3) (.v 7)) (.m (.v 4) (.v 8))) (.a (.m (.v 3) (.v 7)) (.m (.v 4) (.v 8))))) (.m (.v 1) (.m (.a (.m (.v 3) (.v 7)) (.m (.v 4) (.v 8))) (.a (.m (.v 5) (.v 7)) (.m (.v 6) (.v 8)))))) (.m (.v 2) (.m (.a (.m (.v 5) (.v 7)) (.m (.v 6) (.v 8))) (.a (.m (.v 5) (.v 7)) (.m (.v 6) (.v 8)))))) (by decide +kernel)
 simp only [PE.den, List.getD_cons_zero, List.getD_cons_succ] at h
 try simp only [Int.sub_eq_add_neg]
 exact h

theorem qf_mul_b (a b c p q r s t u v w : Int) : 2 * ((a * (p * p) + b * (p * r) + c * (r * r)) * (t * u) + (a * (q * q) + b * (q * s) + c * (s * s)) * (v * w)) + (2 * (a * (p * q) + c * (r * s)) + b * (p * s + q * r)) * (t * w + u * v) = 2 * (a * ((p * t + q * v) * (p * u + q * w)) + c * ((r * t + s * v) * (r * u + s * w))) + b * ((p * t + q * v) * (r * u + s * w) + (p * u + q * w) * (r * t + s * v)) := by
 have h := PE.same [a, b, c, p, q, r, s, t, u, v, w] (.a (.m (.c 2) (.a (.m (.a (.a (.m (.v 0) (.m (.v 3) (.v 3))) (.m (.v 1) (.m (.v 3) (.v 5)))) (.m (.v 2) (.m (.v 5) (.v 5)))) (.m (.v 7) (.v 8))) (.m (.a (.a (.m (.v 0) (.m (.v 4) (.v 4))) (.m (.v 1) (.m (.v 4) (.v 6)))) (.m (.v 2) (.m (.v 6) (.v 6)))) (.m (.v 9) (.v 10))))) (.m (.a (.m (.c 2) (.a (.m (.v 0) (.m (.v 3) (.v 4))) (.m (.v 2) (.m (.v 5) (.v 6))))) (.m (.v 1) (.a (.m (.v 3) (.v 6)) (.m (.v 4) (.v 5))))) (.a (.m (.v 7) (.v 10)) (.m (.v 8) (.v 9))))) (.a (.m (.c 2) (.a (.m (.v 0) (.m (.a (.m (.v 3) (.v 7)) (.m (.v 4) (.v 9))) (.a (.m (.v 3) (.v 8)) (.m (.v 4) (.v 10))))) (.m (.v 2) (.m (.a (.m (.v 5) (.v 7)) (.m (.v 6) (.v 9))) (.a (.m (.v 5) (.v 8)) (.m (.v 6) (.v 10))))))) (.m (.v 1) (.a (.m (.a (.m (.v 3) (.v 7)) (.m (.v 4) (.v 9))) (.a (.m (.v 5) (.v 8)) (.m (.v 6) (.v 10)))) (.m (.a (.m (.v 3) (.v 8)) (.m (.v 4) (.v 10))) (.a (.m (.v 5) (.v 7)) (.m (.v 6) (.v 9))))))) (by decide +kernel)
 simp only [PE.den, List.getD_cons_zero, List.getD_cons_succ] at h
 try simp only [Int.sub_eq_add_neg]
 exact h

theorem qf_mul_c (a b c p q r s u w : Int) : (a * (p * p) + b * (p * r) + c * (r * r)) * (u * u) + (2 * (a * (p * q) + c * (r * s)) + b * (p * s + q * r)) * (u * w) + (a * (q * q) + b * (q * s) + c * (s * s)) * (w * w) = a * ((p * u + q * w) * (p * u + q * w)) + b * ((p * u + q * w) * (r * u + s * w)) + c * ((r * u + s * w) * (r * u + s * w)) := by
 have h := PE.same [a, b, c, p, q, r, s, u, w] (.a (.a (.m (.a (.a (.m (.v 0) (.m (.v 3) (.v 3))) (.m (.v 1) (.m (.v 3) (.v 5)))) (.m (.v 2) (.m (.v 5) (.v 5)))) (.m (.v 7) (.v 7))) (.m (.a (.m (.c 2) (.a (.m (.v 0) (.m (.v 3) (.v 4))) (.m (.v 2) (.m (.v 5) (.v 6))))) (.m (.v 1) (.a (.m (.v 3) (.v 6)) (.m (.v 4) (.v 5))))) (.m (.v 7) (.v 8)))) (.m (.a (.a (.m (.v 0) (.m (.v 4) (.v 4))) (.m (.v 1) (.m (.v 4) (.v 6)))) (.m (.v 2) (.m (.v 6) (.v 6)))) (.m (.v 8) (.v 8)))) (.a (.a (.m (.v 0) (.m (.a (.m (.v 3) (.v 7)) (.m (.v 4) (.v 8))) (.a (.m (.v 3) (.v 7)) (.m (.v 4) (.v 8))))) (.m (.v 1) (.m (.a (.m (.v 3) (.v 7)) (.m (.v 4) (.v 8))) (.a (.m (.v 5) (.v 7)) (.m (.v 6) (.v 8)))))) (.m (.v 2) (.m (.a (.m (.v 5) (.v 7)) (.m (.v 6) (.v 8))) (.a (.m (.v 5) (.v 7)) (.m (.v 6) (.v 8)))))) (by decide +kernel)
 simp only [PE.den, List.getD_cons_zero, List.getD_cons_succ] at h
 try simp only [Int.sub_eq_add_neg]
 exact h

theorem qf_det (p q r s t u v w : Int) : (p * t + q * v) * (r * u + s * w) - (p * u + q * w) * (r * t + s * v) = (p * s - q * r) * (t * w - u * v) := by
 have h := PE.same [p, q, r, s, t, u, v, w] (.a (.m (.a (.m (.v 0) (.v 4)) (.m (.v 1) (.v 6))) (.a (.m (.v 2) (.v 5)) (.m (.v 3) (.v 7)))) (.n (.m (.a (.m (.v 0) (.v 5)) (.m (.v 1) (.v 7))) (.a (.m (.v 2) (.v 4)) (.m (.v 3) (.v 6)))))) (.m (.a (.m (.v 0) (.v 3)) (.n (.m (.v 1) (.v 2)))) (.a (.m (.v 4) (.v 7)) (.n (.m (.v 5) (.v 6))))) (by decide +kernel)
 simp only [PE.den, List.getD_cons_zero, List.getD_cons_succ] at h
 try simp only [Int.sub_eq_add_neg]
 exact h

theorem qf_four (a b c x y : Int) : 4 * (a * (a * (x * x) + b * (x * y) + c * (y * y))) = (2 * (a * x) + b * y) * (2 * (a * x) + b * y) - (b * b - 4 * (a * c)) * (y * y) := by
 have h := PE.same [a, b, c, x, y] (.m (.c 4) (.m (.v 0) (.a (.a (.m (.v 0) (.m (.v 3) (.v 3))) (.m (.v 1) (.m (.v 3) (.v 4)))) (.m (.v 2) (.m (.v 4) (.v 4)))))) (.a (.m (.a (.m (.c 2) (.m (.v 0) (.v 3))) (.m (.v 1) (.v 4))) (.a (.m (.c 2) (.m (.v 0) (.v 3))) (.m (.v 1) (.v 4)))) (.n (.m (.a (.m (.v 1) (.v 1)) (.n (.m (.c 4) (.m (.v 0) (.v 2))))) (.m (.v 4) (.v 4))))) (by decide +kernel)
 simp only [PE.den, List.getD_cons_zero, List.getD_cons_succ] at h
 try simp only [Int.sub_eq_add_neg]
 exact h

theorem qf_four2 (a b c x y : Int) : 4 * (c * (a * (x * x) + b * (x * y) + c * (y * y))) = (2 * (c * y) + b * x) * (2 * (c * y) + b * x) - (b * b - 4 * (a * c)) * (x * x) := by
 have h := PE.same [a, b, c, x, y] (.m (.c 4) (.m (.v 2) (.a (.a (.m (.v 0) (.m (.v 3) (.v 3))) (.m (.v 1) (.m (.v 3) (.v 4)))) (.m (.v 2) (.m (.v 4) (.v 4)))))) (.a (.m (.a (.m (.c 2) (.m (.v 2) (.v 4))) (.m (.v 1) (.v 3))) (.a (.m (.c 2) (.m (.v 2) (.v 4))) (.m (.v 1) (.v 3)))) (.n (.m (.a (.m (.v 1) (.v 1)) (.n (.m (.c 4) (.m (.v 0) (.v 2))))) (.m (.v 3) (.v 3))))) (by decide +kernel)
 simp only [PE.den, List.getD_cons_zero, List.getD_cons_succ] at h
 try simp only [Int.sub_eq_add_neg]
 exact h

def qv (a b c x y : Int) : Int := a * (x * x) + b * (x * y) + c * (y * y)
def qm (a b c p q r s : Int) : Int := 2 * (a * (p * q) + c * (r * s)) + b * (p * s + q * r)
structure Rdf (a b c : Int) : Prop where
 pos : 0 < a
 lo : -a < b
 hi : b ≤ a
 ac : a ≤ c
 eq : a = c → 0 ≤ b
theorem zKz {a b z : Int} (h1 : -a ≤ b) (h2 : b ≤ a) : -(a * (z.natAbs : Int)) ≤ b * z := by
 rcases Int.le_total 0 z with hz | hz
 ·have e : (z.natAbs : Int) = z := by omega
  rw [e]
  have := Int.mul_le_mul_of_nonneg_right h1 hz
  rw [Int.neg_mul] at this
  exact this
 ·have e : (z.natAbs : Int) = -z := by omega
  rw [e, Int.mul_neg, Int.neg_neg]
  exact Int.mul_le_mul_of_nonpos_right h2 hz
theorem zC1 (x : Int) : (x.natAbs : Int) * (x.natAbs : Int) = x * x := by
 rcases Int.le_total 0 x with h | h
 ·have e : (x.natAbs : Int) = x := by omega
  rw [e]
 ·have e : (x.natAbs : Int) = -x := by omega
  rw [e, Int.neg_mul_neg]
theorem zGu {a b c x y : Int} (h1 : -a ≤ b) (h2 : b ≤ a) (h3 : a ≤ c) (h0 : 0 < a) (hy : y ≠ 0) : c ≤ qv a b c x y := by
 have k1 := zKz (z := x * y) h1 h2
 rw [Int.natAbs_mul, Int.natCast_mul] at k1
 have kx := zC1 x
 have ky := zC1 y
 unfold qv
 rw [← kx, ← ky]
 obtain ⟨X, hX⟩ : ∃ X : Int, X = (x.natAbs : Int) := ⟨_, rfl⟩
 obtain ⟨Y, hY⟩ : ∃ Y : Int, Y = (y.natAbs : Int) := ⟨_, rfl⟩
 rw [← hX, ← hY] at k1 ⊢
 have hX0 : 0 ≤ X := by omega
 have hY1 : 1 ≤ Y := by omega
 clear kx ky hX hY
 generalize b * (x * y) = t at k1 ⊢
 rcases Int.lt_or_le X Y with hl | hl
 ·-- X < Y
  have e1 : a * (X * (Y - X)) ≤ c * (X * (Y - X)) := Int.mul_le_mul_of_nonneg_right h3 (Int.mul_nonneg hX0 (by omega))
  have e2 : c * 1 ≤ c * ((Y - X) * Y + X * X) := by
   refine Int.mul_le_mul_of_nonneg_left ?_ (by omega)
   have g1 : 1 * 1 ≤ (Y - X) * Y := Int.mul_le_mul (by omega) hY1 (by omega) (by omega)
   have g2 : 0 ≤ X * X := Int.mul_nonneg hX0 hX0
   omega
  have e3 : c * ((Y - X) * Y + X * X) + c * (X * (Y - X)) = c * (Y * Y) := by
   rw [← Int.mul_add]
   congr 1
   rw [Int.sub_mul, Int.mul_sub]
   omega
  have e4 : a * (X * (Y - X)) = a * (X * Y) - a * (X * X) := by rw [Int.mul_sub, Int.mul_sub]
  omega
 ·have e1 : 0 ≤ a * (X * (X - Y)) := Int.mul_nonneg (by omega) (Int.mul_nonneg hX0 (by omega))
  have e2 : c * (1 * 1) ≤ c * (Y * Y) := Int.mul_le_mul_of_nonneg_left (Int.mul_le_mul hY1 hY1 (by omega) (by omega)) (by omega)
  have e4 : a * (X * (X - Y)) = a * (X * X) - a * (X * Y) := by rw [Int.mul_sub, Int.mul_sub]
  omega
theorem zIz {a b c x y : Int} (h1 : -a ≤ b) (h2 : b ≤ a) (h3 : a ≤ c) (h0 : 0 < a) (hxy : ¬ (x = 0 ∧ y = 0)) : a ≤ qv a b c x y := by
 by_cases hy : y = 0
 ·subst hy
  have hx : x ≠ 0 := fun e => hxy ⟨e, rfl⟩
  have k := zC1 x
  unfold qv
  rw [Int.mul_zero, Int.mul_zero, Int.mul_zero, Int.mul_zero, ← k]
  have e2 : a * (1 * 1) ≤ a * ((x.natAbs : Int) * (x.natAbs : Int)) := Int.mul_le_mul_of_nonneg_left (Int.mul_le_mul (by omega) (by omega) (by omega) (by omega)) (by omega)
  omega
 ·exact Int.le_trans h3 (zGu h1 h2 h3 h0 hy)
theorem det_ne {p q r s : Int} (hd : p * s - q * r = 1) : ¬ (p = 0 ∧ r = 0) := by
 rintro ⟨rfl, rfl⟩
 rw [Int.zero_mul, Int.mul_zero] at hd
 omega
theorem zK0 {p s : Int} (h : p * s = 1) : (p = 1 ∧ s = 1) ∨ (p = -1 ∧ s = -1) := by
 have h1 : p.natAbs * s.natAbs = 1 := by rw [← Int.natAbs_mul, h]; rfl
 have h2 := Nat.eq_one_of_mul_eq_one_right h1
 have h3 := Nat.eq_one_of_mul_eq_one_left h1
 rcases Int.natAbs_eq_iff.1 h2 with e | e <;> rcases Int.natAbs_eq_iff.1 h3 with g | g <;> subst e g
 ·exact .inl ⟨rfl, rfl⟩
 ·exact absurd h (by decide)
 ·exact absurd h (by decide)
 ·exact .inr ⟨rfl, rfl⟩
theorem zLn {a b c p q r s a' b' c' : Int} (hf : Rdf a b c) (hg : Rdf a' b' c') (hd : p * s - q * r = 1) (ea : a' = qv a b c p r) (eb : b' = qm a b c p q r s) (ec : c' = qv a b c q s) : a' = a ∧ b' = b ∧ c' = c := by
 have f1 : -a ≤ b := by have := hf.lo; omega
 have g1 : -a' ≤ b' := by have := hg.lo; omega
 have ia : qv a' b' c' s (-r) = a := by
  rw [ea, eb, ec]
  have := zIy a b c p q r s
  rw [hd] at this
  simpa [qv, qm] using this
 have ha1 : a ≤ a' := by rw [ea]; exact zIz f1 hf.hi hf.ac hf.pos (det_ne hd)
 have ha2 : a' ≤ a := by
  have hn : ¬ (s = 0 ∧ -r = 0) := by
   rintro ⟨rfl, h2⟩
   have : r = 0 := by omega
   subst this
   rw [Int.mul_zero, Int.mul_zero] at hd
   omega
  have := zIz g1 hg.hi hg.ac hg.pos hn
  omega
 have haa : a' = a := by omega
 have dg : b' * b' - 4 * (a' * c') = b * b - 4 * (a * c) := by
  have := qf_disc a b c p q r s
  rw [hd, Int.one_mul, Int.mul_one] at this
  rw [ea, eb, ec]
  exact this
 by_cases hr : r = 0
 ·subst hr
  rw [Int.mul_zero, Int.sub_zero] at hd
  have hb : b' = b + 2 * (a * (p * q)) := by
   rw [eb]
   unfold qm
   rw [Int.zero_mul, Int.mul_zero, Int.mul_zero, hd]
   omega
  have hq : q = 0 := by
   have hlo := hf.lo; have hhi := hf.hi; have hlo' := hg.lo; have hhi' := hg.hi; have hp := hf.pos
   rcases zK0 hd with ⟨rfl, _⟩ | ⟨rfl, _⟩
   ·rw [Int.one_mul] at hb
    rcases Int.lt_trichotomy q 0 with h | h | h
    ·have := Int.mul_le_mul_of_nonneg_left (show q ≤ -1 by omega) (show 0 ≤ a by omega); omega
    ·exact h
    ·have := Int.mul_le_mul_of_nonneg_left (show 1 ≤ q by omega) (show 0 ≤ a by omega); omega
   ·rw [Int.neg_mul, Int.one_mul, Int.mul_neg] at hb
    rcases Int.lt_trichotomy q 0 with h | h | h
    ·have := Int.mul_le_mul_of_nonneg_left (show q ≤ -1 by omega) (show 0 ≤ a by omega); omega
    ·exact h
    ·have := Int.mul_le_mul_of_nonneg_left (show 1 ≤ q by omega) (show 0 ≤ a by omega); omega
  subst hq
  rw [Int.mul_zero, Int.mul_zero, Int.mul_zero, Int.add_zero] at hb
  refine ⟨haa, hb, ?_⟩
  rw [haa, hb] at dg
  have h4 : a * c' = a * c := by omega
  exact Int.eq_of_mul_eq_mul_left (by have := hf.pos; omega) h4
 ·have hc1 : c ≤ a := by
   have := zGu (x := p) f1 hf.hi hf.ac hf.pos hr
   rw [← ea] at this
   omega
  have hc2 : c' ≤ a := by
   have := zGu (x := s) (y := -r) g1 hg.hi hg.ac hg.pos (by omega)
   omega
  have h1 := hf.ac
  have h2 := hg.ac
  have hca : c = a := by omega
  have hca' : c' = a := by omega
  have hb0 := hf.eq hca.symm
  have hb0' := hg.eq (by omega)
  rw [haa, hca, hca'] at dg
  have hbb : b' * b' = b * b := by omega
  have hb : b' = b := by
   rcases Int.lt_trichotomy b' b with h | h | h
   ·have k1 := Int.mul_le_mul_of_nonneg_left (show b' ≤ b by omega) hb0'; have k2 := Int.mul_lt_mul_of_pos_right h (show 0 < b by omega); omega
   ·exact h
   ·have k1 := Int.mul_le_mul_of_nonneg_left (show b ≤ b' by omega) hb0; have k2 := Int.mul_lt_mul_of_pos_right h (show 0 < b' by omega); omega
  exact ⟨haa, hb, by omega⟩
structure Und (a b c p q r s a' b' c' : Int) : Prop where
 d : p * s - q * r = 1
 ea : a' = qv a b c p r
 eb : b' = qm a b c p q r s
 ec : c' = qv a b c q s
theorem Und.one (a b c : Int) : Und a b c 1 0 0 1 a b c := by
 refine ⟨by decide, ?_, ?_, ?_⟩ <;> simp [qv, qm]
theorem Und.mul {a b c p q r s a' b' c' t u v w a'' b'' c'' : Int} (h : Und a b c p q r s a' b' c') (g : Und a' b' c' t u v w a'' b'' c'') : Und a b c (p * t + q * v) (p * u + q * w) (r * t + s * v) (r * u + s * w) a'' b'' c'' := by
 refine ⟨?_, ?_, ?_, ?_⟩
 ·have := qf_det p q r s t u v w
  rw [h.d, g.d] at this
  exact this
 ·rw [g.ea, h.ea, h.eb, h.ec]; exact qf_mul_a a b c p q r s t v
 ·rw [g.eb, h.ea, h.eb, h.ec]; exact qf_mul_b a b c p q r s t u v w
 ·rw [g.ec, h.ea, h.eb, h.ec]; exact qf_mul_c a b c p q r s u w
theorem Und.disc {a b c p q r s a' b' c' : Int} (h : Und a b c p q r s a' b' c') : b' * b' - 4 * (a' * c') = b * b - 4 * (a * c) := by
 have := qf_disc a b c p q r s
 rw [h.d, Int.one_mul, Int.mul_one] at this
 rw [h.ea, h.eb, h.ec]
 exact this
theorem Und.back {a b c p q r s a' b' c' : Int} (h : Und a b c p q r s a' b' c') : Und a' b' c' s (-q) (-r) p a b c := by
 have d2 := h.d
 refine ⟨?_, ?_, ?_, ?_⟩
 ·rw [Int.neg_mul_neg, Int.mul_comm s p]; exact d2
 ·have := zIy a b c p q r s
  rw [d2] at this
  rw [h.ea, h.eb, h.ec]
  simpa [qv, qm] using this.symm
 ·have := qf_inv_b a b c p q r s
  rw [d2] at this
  rw [h.ea, h.eb, h.ec]
  simpa [qv, qm] using this.symm
 ·have := qf_inv_c a b c p q r s
  rw [d2] at this
  rw [h.ea, h.eb, h.ec]
  simpa [qv, qm] using this.symm
theorem Und.uniq {a b c p q r s a' b' c' : Int} (h : Und a b c p q r s a' b' c') (hf : Rdf a b c) (hg : Rdf a' b' c') : a' = a ∧ b' = b ∧ c' = c := zLn hf hg h.d h.ea h.eb h.ec
theorem Und.same {a b c p q r s a1 b1 c1 t u v w a2 b2 c2 : Int} (h : Und a b c p q r s a1 b1 c1) (g : Und a b c t u v w a2 b2 c2) (h1 : Rdf a1 b1 c1) (h2 : Rdf a2 b2 c2) : a2 = a1 ∧ b2 = b1 ∧ c2 = c1 := (h.back.mul g).uniq h1 h2
theorem Und.shift (a b c k : Int) : Und a b c 1 k 0 1 a (b + 2 * (a * k)) (a * (k * k) + b * k + c) := by
 refine ⟨by simp, ?_, ?_, ?_⟩ <;> simp [qv, qm]
 omega
theorem Und.swap (a b c : Int) : Und a b c 0 (-1) 1 0 c (-b) a := by
 refine ⟨by decide, ?_, ?_, ?_⟩ <;> simp [qv, qm]
def redB (a b c : Int) : Bool := decide (((b.natAbs : Int) ≤ a ∧ a ≤ c) ∧ (((b.natAbs : Int) = a ∨ a = c) → 0 ≤ b))
theorem zD0 {a b c : Int} (h0 : 0 < a) : redB a b c = true ↔ Rdf a b c := by
 simp only [redB, decide_eq_true_eq]
 constructor
 ·rintro ⟨⟨h1, h2⟩, h3⟩
  refine ⟨h0, ?_, by omega, h2, fun e => h3 (.inr e)⟩
  by_cases hb : 0 ≤ b
  ·omega
  ·have : ¬ (b.natAbs : Int) = a := fun e => hb (h3 (.inl e))
   omega
 ·intro h
  have := h.lo; have := h.hi
  refine ⟨⟨by omega, h.ac⟩, ?_⟩
  rintro (e | e)
  ·omega
  ·exact h.eq e
theorem shift_mid {a b : Int} (h0 : 0 < a) : -a < b + 2 * (a * ((a - b) / (2 * a))) ∧ b + 2 * (a * ((a - b) / (2 * a))) ≤ a := by
 have h1 := Int.mul_ediv_add_emod (a - b) (2 * a)
 have h2 := Int.emod_nonneg (a - b) (show 2 * a ≠ 0 by omega)
 have h3 := Int.emod_lt_of_pos (a - b) (show 0 < 2 * a by omega)
 rw [Int.mul_assoc] at h1
 omega
theorem zJf {a b c : Int} (h0 : 0 < a) (h1 : -a < b) (h2 : b ≤ a) (hr : ¬ Rdf a b c) : c < a ∨ (c = a ∧ b < 0 ∧ Rdf c (-b) a) := by
 by_cases hc : c < a
 ·exact .inl hc
 ·right
  by_cases he : a = c
  ·by_cases hb : 0 ≤ b
   ·exact absurd ⟨h0, h1, h2, by omega, fun _ => hb⟩ hr
   ·exact ⟨he.symm, by omega, by omega, by omega, by omega, by omega, fun _ => by omega⟩
  ·exact absurd ⟨h0, h1, h2, by omega, fun e => absurd e he⟩ hr
theorem zFb {a b c : Int} (h0 : 0 < a) (hd : b * b - 4 * (a * c) < 0) : 0 < c := by
 have hb : 0 ≤ b * b := by rw [← zC1 b]; exact Int.mul_nonneg (by omega) (by omega)
 rcases Int.lt_or_le 0 c with h | h
 ·exact h
 ·have := Int.mul_nonneg_of_nonpos_of_nonpos (show -a ≤ 0 by omega) h
  rw [Int.neg_mul] at this
  omega
theorem zC2 (x : Int) : 0 ≤ x * x := by rw [← zC1 x]; exact Int.mul_nonneg (by omega) (by omega)
theorem four_y {a b c x y : Int} (hd : b * b - 4 * (a * c) < 0) : y * y ≤ 4 * (a * qv a b c x y) := by
 unfold qv
 rw [qf_four]
 have h1 := zC2 (2 * (a * x) + b * y)
 have h2 := Int.mul_le_mul_of_nonneg_right (show 1 ≤ -(b * b - 4 * (a * c)) by omega) (zC2 y)
 rw [Int.one_mul, Int.neg_mul] at h2
 omega
theorem four_x {a b c x y : Int} (hd : b * b - 4 * (a * c) < 0) : x * x ≤ 4 * (c * qv a b c x y) := by
 unfold qv
 rw [qf_four2]
 have h1 := zC2 (2 * (c * y) + b * x)
 have h2 := Int.mul_le_mul_of_nonneg_right (show 1 ≤ -(b * b - 4 * (a * c)) by omega) (zC2 x)
 rw [Int.one_mul, Int.neg_mul] at h2
 omega
theorem Und.bds {a b c p q r s a' b' c' : Int} (h : Und a b c p q r s a' b' c') (hd : b * b - 4 * (a * c) < 0) : p * p ≤ 4 * (c * a') ∧ q * q ≤ 4 * (c * c') ∧ r * r ≤ 4 * (a * a') ∧ s * s ≤ 4 * (a * c') := by
 rw [h.ea, h.ec]
 exact ⟨four_x hd, four_x hd, four_y hd, four_y hd⟩
theorem qv_pos {a b c x y : Int} (h0 : 0 < a) (hd : b * b - 4 * (a * c) < 0) (hn : ¬ (x = 0 ∧ y = 0)) : 0 < qv a b c x y := by
 have hy := four_y (x := x) (y := y) hd
 have hx := four_x (x := x) (y := y) hd
 have hc := zFb h0 hd
 rcases Int.lt_or_le 0 (qv a b c x y) with h | h
 ·exact h
 ·exfalso
  have e1 := Int.mul_nonneg_of_nonpos_of_nonpos (show -a ≤ 0 by omega) h
  have e2 := Int.mul_nonneg_of_nonpos_of_nonpos (show -c ≤ 0 by omega) h
  rw [Int.neg_mul] at e1 e2
  have sx := zC2 x
  have sy := zC2 y
  refine hn ⟨?_, ?_⟩
  ·exact (Int.mul_eq_zero.1 (show x * x = 0 by omega)).elim id id
  ·exact (Int.mul_eq_zero.1 (show y * y = 0 by omega)).elim id id
theorem Und.pos {a b c p q r s a' b' c' : Int} (h : Und a b c p q r s a' b' c') (h0 : 0 < a) (hd : b * b - 4 * (a * c) < 0) : 0 < a' := by
 rw [h.ea]
 exact qv_pos h0 hd (det_ne h.d)
theorem last_le {a b c : Int} (h0 : 0 < a) (h1 : -a ≤ b) (h2 : b ≤ a) (hd : b * b - 4 * (a * c) < 0) : c ≤ a * a - (b * b - 4 * (a * c)) := by
 have hb : b * b ≤ a * a := by
  rw [← zC1 b]
  exact Int.mul_le_mul (by omega) (by omega) (by omega) (by omega)
 have hc := zFb h0 hd
 have h3 := Int.mul_le_mul_of_nonneg_right (show 1 ≤ a by omega) (show 0 ≤ c by omega)
 omega

end Go.Proofs.Ytdhkhedhnolcjaa

namespace Go.Proofs.Ytdhkhedhnolcjaa
open Go Go.RowKit

end Go.Proofs.Ytdhkhedhnolcjaa

namespace Go.Proofs.Ytdhkhedhnolcjaa
open Go Go.RowKit

end Go.Proofs.Ytdhkhedhnolcjaa

namespace Go.Proofs.Ytdhkhedhnolcjaa
open Go Go.RowKit

def Fc.sz (V : Int) : Fc := ⟨fun v w => ∃ (ao : Option Addr) (l c : Nat) (zs : List Int), v = .slice ao l c ∧ Sl w ao l c zs ∧ l ≤ 3000000 ∧ val zs = V,
 fun ⟨ao, l, c, zs, e, h, h1, h2⟩ hb => ⟨ao, l, c, zs, e, h.mono hb, h1, h2⟩, fun ⟨ao, l, c, zs, e, h, h1, h2⟩ hb n' a' k' c' => by
 obtain ⟨p, q, r, t, hI, _⟩ := hb
 exact ⟨ao, l, c, zs, e, h.putBox hI n' a' k' c', h1, h2⟩⟩

section
variable {w : World} {v : Value} {n : Bool} {a : Option Addr} {k c : Nat} {xs : List Int} {m : Bool} {r : Option Addr} {l q : Nat} {ys : List Int}

end

theorem zE3 (args : Array Value) (w : World) : (callFunc 13 args).run Try.prog w = .ok (.enter 13 args) w := zAs Try.func13 (by kernel_rfl) rfl args w
theorem zJv (args : Array Value) (w : World) : (callFunc 26 args).run Try.prog w = .ok (.enter 26 args) w := zAs Try.func26 (by kernel_rfl) rfl args w
theorem zCs (args : Array Value) (w : World) : (callFunc 45 args).run Try.prog w = .ok (.enter 45 args) w := zAs Try.func45 (by kernel_rfl) rfl args w
theorem zJw (args : Array Value) (w : World) : (callFunc 65 args).run Try.prog w = .ok (.enter 65 args) w := zAs Try.func65 (by kernel_rfl) rfl args w
theorem zAl : rowB 33 6 = true := by kernel_rfl
theorem zAx : zB5 33 6 = true := by kernel_rfl
theorem zAy (w : World) : Fits w [.n 0, .n 0, .n 0] [.bool false, .slice none 0 0, .bool false, .slice none 0 0, .bool false, .slice none 0 0] := ⟨_, _, _, rfl, Num.zero w, _, _, _, rfl, Num.zero w, _, _, _, rfl, Num.zero w, rfl⟩
theorem zKu (w : World) : (Fq.st [.n 0, .n 0, .n 0]).P (.agg ([.bool false, .slice none 0 0, .bool false, .slice none 0 0, .bool false, .slice none 0 0] : List Value).toArray) w := ⟨_, rfl, zAy w⟩
theorem zA9 {d : Option Tmp} {ty : TypeId} {ps : String} {af : Array Edge} (ρ : Operand → Value) (w : World) : (execOp ρ { dst := d, op := .alloc 33, type := ty, pos := ps, after := af, guard := none }).run Try.prog w = .ok (.value (.pointer (some ⟨w.heap.size, 0, none⟩))) (w.alloc (.cells [.bool false, .slice none 0 0, .bool false, .slice none 0 0, .bool false, .slice none 0 0].toArray 33)) := by
 simp [execOp, go_sem]
theorem zCq : rowB 36 8 = true := by kernel_rfl
theorem zBc : zB5 36 8 = true := by kernel_rfl
theorem zBe (w : World) : Fits w [.n 0, .n 0, .n 0, .n 0] [.bool false, .slice none 0 0, .bool false, .slice none 0 0, .bool false, .slice none 0 0, .bool false, .slice none 0 0] := ⟨_, _, _, rfl, Num.zero w, _, _, _, rfl, Num.zero w, _, _, _, rfl, Num.zero w, _, _, _, rfl, Num.zero w, rfl⟩
theorem fits0P_api_Mat (w : World) : (Fq.st [.n 0, .n 0, .n 0, .n 0]).P (.agg ([.bool false, .slice none 0 0, .bool false, .slice none 0 0, .bool false, .slice none 0 0, .bool false, .slice none 0 0] : List Value).toArray) w := ⟨_, rfl, zBe w⟩
theorem zBw {d : Option Tmp} {ty : TypeId} {ps : String} {af : Array Edge} (ρ : Operand → Value) (w : World) : (execOp ρ { dst := d, op := .alloc 36, type := ty, pos := ps, after := af, guard := none }).run Try.prog w = .ok (.value (.pointer (some ⟨w.heap.size, 0, none⟩))) (w.alloc (.cells [.bool false, .slice none 0 0, .bool false, .slice none 0 0, .bool false, .slice none 0 0, .bool false, .slice none 0 0].toArray 36)) := by
 simp [execOp, go_sem]
def eqF (a b c x y z : Int) : Bool := decide (a = x) && (decide (b = y) && decide (c = z))
section
variable {os : List Oper} {Q : Exit → Act → World → Prop} {a : Act} {p : Pq} {B B0 : Nat} {w0 : World}
variable {i s : Nat} {d : Option Tmp} {ty : TypeId} {ps : String} {af : Array Edge} {gd : Option (Nat × Bool)}
theorem zDz {x0 : Operand} {z0 : Int} {x1 : Operand} {z1 : Int} {x2 : Operand} {z2 : Int} (hp : p.Ok B B0) (hF : p.Free i) (hg : GdQ os a p B B0 w0 af gd) (h0 : SrcQ os a p B B0 w0 af x0 fun v w => Num w v z0) (h1 : SrcQ os a p B B0 w0 af x1 fun v w => Num w v z1) (h2 : SrcQ os a p B B0 w0 af x2 fun v w => Num w v z2) (hC : ∀ v w, (Fq.st [.n z0, .n z1, .n z2]).P v w → (p.c i).P v w) :
  zAm os Q a p B B0 w0 i { dst := d, op := .build 33 #[(0, x0), (1, x1), (2, x2)], type := ty, pos := ps, after := af, guard := gd } := by
 refine zBf hp hF hg fun L vs w hG hL hc hd => ?_
 have g0 := h0 L vs w hG hd
 obtain ⟨n0, ao0, k0, c0, e0⟩ := g0.parts
 have m0 : Num w (.agg #[.bool n0, .slice ao0 k0 c0]) z0 := by rw [← e0]; exact g0
 have g1 := h1 L vs w hG hd
 obtain ⟨n1, ao1, k1, c1, e1⟩ := g1.parts
 have m1 : Num w (.agg #[.bool n1, .slice ao1 k1 c1]) z1 := by rw [← e1]; exact g1
 have g2 := h2 L vs w hG hd
 obtain ⟨n2, ao2, k2, c2, e2⟩ := g2.parts
 have m2 : Num w (.agg #[.bool n2, .slice ao2 k2 c2]) z2 := by rw [← e2]; exact g2
 refine ⟨.agg #[.bool n0, .slice ao0 k0 c0, .bool n1, .slice ao1 k1 c1, .bool n2, .slice ao2 k2 c2], ?_, hC _ _ ⟨_, rfl, _, _, _, rfl, m0, _, _, _, rfl, m1, _, _, _, rfl, m2, rfl⟩⟩
 generalize (lay os.toArray L vs os.toArray.size a).eval = ρ at e0 e1 e2
 simp [execOp, go_sem, e0, e1, e2]
theorem zLd {x0 : Operand} {z0 : Int} {x1 : Operand} {z1 : Int} {x2 : Operand} {z2 : Int} {x3 : Operand} {z3 : Int} (hp : p.Ok B B0) (hF : p.Free i) (hg : GdQ os a p B B0 w0 af gd) (h0 : SrcQ os a p B B0 w0 af x0 fun v w => Num w v z0) (h1 : SrcQ os a p B B0 w0 af x1 fun v w => Num w v z1) (h2 : SrcQ os a p B B0 w0 af x2 fun v w => Num w v z2) (h3 : SrcQ os a p B B0 w0 af x3 fun v w => Num w v z3) (hC : ∀ v w, (Fq.st [.n z0, .n z1, .n z2, .n z3]).P v w → (p.c i).P v w) :
  zAm os Q a p B B0 w0 i { dst := d, op := .build 36 #[(0, x0), (1, x1), (2, x2), (3, x3)], type := ty, pos := ps, after := af, guard := gd } := by
 refine zBf hp hF hg fun L vs w hG hL hc hd => ?_
 have g0 := h0 L vs w hG hd
 obtain ⟨n0, ao0, k0, c0, e0⟩ := g0.parts
 have m0 : Num w (.agg #[.bool n0, .slice ao0 k0 c0]) z0 := by rw [← e0]; exact g0
 have g1 := h1 L vs w hG hd
 obtain ⟨n1, ao1, k1, c1, e1⟩ := g1.parts
 have m1 : Num w (.agg #[.bool n1, .slice ao1 k1 c1]) z1 := by rw [← e1]; exact g1
 have g2 := h2 L vs w hG hd
 obtain ⟨n2, ao2, k2, c2, e2⟩ := g2.parts
 have m2 : Num w (.agg #[.bool n2, .slice ao2 k2 c2]) z2 := by rw [← e2]; exact g2
 have g3 := h3 L vs w hG hd
 obtain ⟨n3, ao3, k3, c3, e3⟩ := g3.parts
 have m3 : Num w (.agg #[.bool n3, .slice ao3 k3 c3]) z3 := by rw [← e3]; exact g3
 refine ⟨.agg #[.bool n0, .slice ao0 k0 c0, .bool n1, .slice ao1 k1 c1, .bool n2, .slice ao2 k2 c2, .bool n3, .slice ao3 k3 c3], ?_, hC _ _ ⟨_, rfl, _, _, _, rfl, m0, _, _, _, rfl, m1, _, _, _, rfl, m2, _, _, _, rfl, m3, rfl⟩⟩
 generalize (lay os.toArray L vs os.toArray.size a).eval = ρ at e0 e1 e2 e3
 simp [execOp, go_sem, e0, e1, e2, e3]
end
set_option maxRecDepth 100000 in
set_option maxHeartbeats 4000000 in
theorem exQSum {w : World} {v v' u u' : Value} {a b c d : Int} (h : Num w v a) (h' : Num w v' b) (g : Num w u c) (g' : Num w u' d) (ha : ab a < pw 200) (hb : ab b < pw 200) (hc : ab c < pw 200) (hd : ab d < pw 200) :
  Calls Try.prog 65 #[v, v', u, u'] w fun e w' => ∃ v', e = .returned v' ∧ Below w.heap.size w w' ∧ Num w' v' ((a * b) + (c * d)) := by
 replace ha := hidd ha
 replace hb := hidd hb
 replace hc := hidd hc
 replace hd := hidd hd
 obtain ⟨n0, ao0, k0, c0, rfl⟩ := h.parts
 obtain ⟨n1, ao1, k1, c1, rfl⟩ := h'.parts
 obtain ⟨n2, ao2, k2, c2, rfl⟩ := g.parts
 obtain ⟨n3, ao3, k3, c3, rfl⟩ := g'.parts
 obtain ⟨w1, b1, hw1, hb1, hs1, E⟩ := zCv w (F := Fq.num a) (us := [.bool n0, .slice ao0 k0 c0]) 31 rfl (by simp) (zBq _ _ _ _) h
 obtain ⟨w2, b2, hw2, hb2, hs2, E⟩ := fN E hs1 31 h'
 obtain ⟨w3, b3, hw3, hb3, hs3, E⟩ := zCb E hs2 (F := Fq.num c) (us := [.bool n2, .slice ao2 k2 c2]) 31 rfl (by simp) (zBq _ _ _ _) (g.mono E.below)
 obtain ⟨w4, b4, hw4, hb4, hs4, E⟩ := zCb E hs3 (F := Fq.num d) (us := [.bool n3, .slice ao3 k3 c3]) 31 rfl (by simp) (zBq _ _ _ _) (g'.mono E.below)
 obtain ⟨w5, b5, hw5, hb5, hs5, E⟩ := fZ E hs4 31
 go_enter Try.func65, Try.ntmps65
 go_upto_region 1 with (fail)
 rw [← hw1]
 rw [← hw2]
 rw [← hw3]
 rw [← hw4]
 rw [← hw5]
 rw [← hb5]
 rw [← hb4]
 rw [← hb3]
 rw [← hb2]
 rw [← hb1]
 clear hw1 hw2 hw3 hw4 hw5 hb1 hb2 hb3 hb4 hb5 hs5 hs1 hs2 hs3 hs4
 have B6 : Hid (ab ((a * b)) < pw 400) := zA0 ha.out hb.out (by omega)
 have B7 : Hid (ab ((c * d)) < pw 400) := zA0 hc.out hd.out (by omega)
 have B8 : Hid (ab (((a * b) + (c * d))) < pw 401) := zBr B6.out B7.out (by omega) (by omega)
 refine rg [Fq.num a, Fq.num b, Fq.num (a * b), Fq.num c, Fq.num d, Fq.num (c * d), Fq.num ((a * b) + (c * d)), Fq.any] [some (7, Fq.num ((a * b) + (c * d))), none, none, none, none] [] E (fun hp => ⟨?_, ?_, ?_, ?_, ?_, ?_, ?_, ?_, tv⟩) ?_
 ·exact lI 0 hp (mq 4 rfl) (sqo 4) fun us w hl h => zAp hl h
 ·exact lI 0 hp (mq 3 rfl) (sqo 5) fun us w hl h => zAp hl h
 ·exact wXb (Fq.num a) (Fq.num b) hp zDs (sqi 0) (sqi 1) fun v v' w h h' => exK (zDn h h') B6.out (by omega)
 ·exact lI 0 hp (mq 2 rfl) (sqo 6) fun us w hl h => zAp hl h
 ·exact lI 0 hp (mq 1 rfl) (sqo 7) fun us w hl h => zAp hl h
 ·exact wXb (Fq.num c) (Fq.num d) hp zDs (sqi 3) (sqi 4) fun v v' w h h' => exK (zDn h h') B7.out (by omega)
 ·exact wXb (Fq.num (a * b)) (Fq.num (c * d)) hp zFz (sqi 2) (sqi 5) fun v v' w h h' => exK (RAddV h h') B8.out (by omega)
 ·exact sP 6 hp (mq 0 rfl) (sqo 8)
 intro L vs w9 nb hL hC hn E9
 have E := E9; try simp only [LM, zAc] at E
 rw [zAd hL]
 simp only [SP, Nat.zero_add, Nat.reduceAdd]
 generalize vs 0 = u9_0
 generalize vs 1 = u9_1
 generalize vs 2 = u9_2
 generalize vs 3 = u9_3
 generalize vs 4 = u9_4
 generalize vs 5 = u9_5
 generalize vs 6 = u9_6
 clear  hC hn E9 hL vs L nb
 obtain ⟨p0_0, p0_1, c0_0, c0_1, hP0⟩ := zD3 (E.box 0 rfl)
 clear B6 B7 B8 ha hb hc hd
 go_wp2
 refine bodyPost_ret (v := .agg #[p0_0, p0_1]) ?_ rfl ⟨_, rfl, E.below, hP0⟩
 simp [results, Try.results65, go_sem, c0_0, c0_1]

set_option maxRecDepth 100000 in
set_option maxHeartbeats 4000000 in
theorem exQDet0 {w : World} {v : Value} {x1 x2 x3 x4 : Int} (h : (Fq.st [.n x1, .n x2, .n x3, .n x4]).P v w) (hx1 : ab x1 < pw 60) (hx2 : ab x2 < pw 60) (hx3 : ab x3 < pw 60) (hx4 : ab x4 < pw 60) :
  Calls Try.prog 26 #[v] w fun e w' => ∃ v', e = .returned v' ∧ Below w.heap.size w w' ∧ Num w' v' (((x1 * x4) + ((-x2) * x3))) := by
 replace hx1 := hidd hx1
 replace hx2 := hidd hx2
 replace hx3 := hidd hx3
 replace hx4 := hidd hx4
 obtain ⟨_, rfl, hf0⟩ := h
 have hF0 := hf0
 obtain ⟨y0_p0, y0_q0, _, rfl, _y0_n0, y0_p1, y0_q1, _, rfl, _y0_n1, y0_p2, y0_q2, _, rfl, _y0_n2, y0_p3, y0_q3, _, rfl, _y0_n3, rfl⟩ := hf0
 obtain ⟨w1, b1, hw1, hb1, hs1, E⟩ := gS w 36 hF0
 obtain ⟨w2, b2, hw2, hb2, hs2, E⟩ := fZ E hs1 31
 go_enter Try.func26, Try.ntmps26
 go_upto_region 1 with (fail)
 rw [← hw1]
 rw [← hw2]
 rw [← hb2]
 rw [← hb1]
 clear hw1 hw2 hb1 hb2 hs2 hs1
 have B3 : Hid (ab ((-x2)) < pw 60) := zC9 hx2.out
 have B4 : Hid (ab ((x1 * x4)) < pw 120) := zA0 hx1.out hx4.out (by omega)
 have B5 : Hid (ab (((-x2) * x3)) < pw 120) := zA0 B3.out hx3.out (by omega)
 have B6 : Hid (ab (((x1 * x4) + ((-x2) * x3))) < pw 121) := zBr B4.out B5.out (by omega) (by omega)
 refine rg [ip b1 0, Fq.num x1, ip b1 6, Fq.num x4, ip b1 2, Fq.num x2, Fq.num (-x2), ip b1 4, Fq.num x3, Fq.num ((x1 * x4) + ((-x2) * x3)), Fq.any] [some (10, Fq.num ((x1 * x4) + ((-x2) * x3))), none] [] E (fun hp => ⟨?_, ?_, ?_, ?_, ?_, ?_, ?_, ?_, ?_, ?_, ?_, tv⟩) ?_
 ·exact qa b1 0 0 hp (sqo 1)
 ·exact lN 0 2 hp (mq 1 rfl) zAg (sqi 0)
 ·exact qa b1 0 6 hp (sqo 1)
 ·exact lN 6 2 hp (mq 1 rfl) zAg (sqi 2)
 ·exact qa b1 0 2 hp (sqo 1)
 ·exact lN 2 2 hp (mq 1 rfl) zAg (sqi 4)
 ·exact wXa (Fq.num x2) hp zF1 (sqi 5) fun v w h => exK (RNegV h) B3.out (by omega)
 ·exact qa b1 0 4 hp (sqo 1)
 ·exact lN 4 2 hp (mq 1 rfl) zAg (sqi 7)
 ·exact q_call4 (F := (Fq.num x1).P) (G := (Fq.num x4).P) (F3 := (Fq.num (-x2)).P) (F4 := (Fq.num x3).P) hp fo tv (zJw) (sqi 1) (sqi 3) (sqi 6) (sqi 8) (fun v v' u u' w h h' g g' => exQSum h h' g g' (Int.lt_of_lt_of_le hx1.out (zAb (by omega))) (Int.lt_of_lt_of_le hx4.out (zAb (by omega))) (Int.lt_of_lt_of_le B3.out (zAb (by omega))) (Int.lt_of_lt_of_le hx3.out (zAb (by omega))))
 ·exact sP 9 hp (mq 0 rfl) (sqo 2)
 intro L vs w7 nb hL hC hn E7
 have e0 := wXi hC 0
 have e2 := wXi hC 2
 have e4 := wXi hC 4
 have e7 := wXi hC 7
 have E := E7; try simp only [LM, zAc] at E
 rw [zAd hL]
 simp only [SP, Nat.zero_add, Nat.reduceAdd]
 rw [e0, e2, e4, e7]
 generalize vs 1 = u7_1
 generalize vs 3 = u7_3
 generalize vs 5 = u7_5
 generalize vs 6 = u7_6
 generalize vs 8 = u7_8
 generalize vs 9 = u7_9
 clear e0 e2 e4 e7 hC hn E7 hL vs L nb
 obtain ⟨p0_0, p0_1, c0_0, c0_1, hP0⟩ := zD3 (E.box 0 rfl)
 clear B3 B4 B5 B6 hx1 hx2 hx3 hx4
 go_wp2
 refine bodyPost_ret (v := .agg #[p0_0, p0_1]) ?_ rfl ⟨_, rfl, E.below, hP0⟩
 simp [results, Try.results26, go_sem, c0_0, c0_1]

theorem exQDet {w : World} {v : Value} {x1 x2 x3 x4 : Int} (h : (Fq.st [.n x1, .n x2, .n x3, .n x4]).P v w) (hx1 : ab x1 < pw 60) (hx2 : ab x2 < pw 60) (hx3 : ab x3 < pw 60) (hx4 : ab x4 < pw 60) :
  Calls Try.prog 26 #[v] w fun e w' => ∃ v', e = .returned v' ∧ Below w.heap.size w w' ∧ Num w' v' (x1 * x4 - x2 * x3) := by
 have e : x1 * x4 - x2 * x3 = ((x1 * x4) + ((-x2) * x3)) := by rw [Int.neg_mul]; omega
 rw [e]
 exact exQDet0 h hx1 hx2 hx3 hx4

set_option maxRecDepth 100000 in
set_option maxHeartbeats 4000000 in
theorem exQEqual0 {w : World} {v v' : Value} {a b c x y z : Int} (h : (Fq.st [.n a, .n b, .n c]).P v w) (h' : (Fq.st [.n x, .n y, .n z]).P v' w) (e0 : ¬ a = x) {t : Bool} (ht : eqF a b c x y z = t) :
  Calls Try.prog 13 #[v, v'] w fun e w' => ∃ v', e = .returned v' ∧ Below w.heap.size w w' ∧ v' = .bool t := by
 have ht2 : t = false := ht.symm.trans (by unfold eqF; simp [e0])
 subst ht2
 clear ht
 have T0 := hidd (decide_eq_false e0)
 clear e0
 obtain ⟨_, rfl, hf0⟩ := h
 have hF0 := hf0
 obtain ⟨y0_p0, y0_q0, _, rfl, _y0_n0, y0_p1, y0_q1, _, rfl, _y0_n1, y0_p2, y0_q2, _, rfl, _y0_n2, rfl⟩ := hf0
 obtain ⟨_, rfl, hf1⟩ := h'
 have hF1 := hf1
 obtain ⟨y1_p0, y1_q0, _, rfl, _y1_n0, y1_p1, y1_q1, _, rfl, _y1_n1, y1_p2, y1_q2, _, rfl, _y1_n2, rfl⟩ := hf1
 obtain ⟨w1, b1, hw1, hb1, hs1, E⟩ := gS w 33 hF0
 obtain ⟨w2, b2, hw2, hb2, hs2, E⟩ := fS E hs1 33 hF1
 go_enter Try.func13, Try.ntmps13
 go_upto_region 1 with (fail)
 rw [← hw1]
 rw [← hw2]
 rw [← hb2]
 rw [← hb1]
 clear hw1 hw2 hb1 hb2 hs2 hs1
 refine rg [ip b1 0, Fq.num a, ip b2 0, Fq.num x, yF, yF, Fq.is (undef), Fq.is (undef), Fq.is (undef), Fq.is (undef), Fq.is (undef), yF, yF, Fq.is (undef), Fq.is (undef), Fq.is (undef), Fq.is (undef), Fq.is (undef), yF, yF] N2 [] E (fun hp => ⟨?_, ?_, ?_, ?_, ?_, ?_, ?_, ?_, ?_, ?_, ?_, ?_, ?_, ?_, ?_, ?_, ?_, ?_, ?_, ?_, tv⟩) ?_
 ·exact qa b1 0 0 hp (sqo 2)
 ·exact lN 0 2 hp (mq 1 rfl) zAg (sqi 0)
 ·exact qa b2 0 0 hp (sqo 3)
 ·exact lN 0 2 hp (mq 0 rfl) zAg (sqi 2)
 ·exact wXb (Fq.num a) (Fq.num x) hp zCi (sqi 1) (sqi 3) fun v v' w h h' => zCj h h' T0.out
 ·exact zAa hp fo tv (sqi 4)
 ·exact zAj hp fo rfl gqi (fun _ => rfl)
 ·exact zAj hp fo rfl gqi (fun _ => rfl)
 ·exact zAj hp fo rfl gqi (fun _ => rfl)
 ·exact zAj hp fo rfl gqi (fun _ => rfl)
 ·exact zAj hp fo rfl gqi (fun _ => rfl)
 ·exact zAe (F := fun v _ => v = .bool false) (G := fun v _ => v = .bool false) hp fo tv (sqi 5) (zAi (fun _ => rfl)) (fun ρ w hc h h' => ⟨_, by simp [execOp, go_sem, h, h'], rfl⟩)
 ·exact zAa hp fo tv (sqi 11)
 ·exact zAj hp fo rfl gqi (fun _ => rfl)
 ·exact zAj hp fo rfl gqi (fun _ => rfl)
 ·exact zAj hp fo rfl gqi (fun _ => rfl)
 ·exact zAj hp fo rfl gqi (fun _ => rfl)
 ·exact zAj hp fo rfl gqi (fun _ => rfl)
 ·exact zAe (F := fun v _ => v = .bool false) (G := fun v _ => v = .bool false) hp fo tv (sqi 12) (zAi (fun _ => rfl)) (fun ρ w hc h h' => ⟨_, by simp [execOp, go_sem, h, h'], rfl⟩)
 ·exact zAh hp fo tv (sqi 18)
 intro L vs w3 nb hL hC hn E3
 have e0 := wXi hC 0
 have e2 := wXi hC 2
 have e4 := wXi hC 4
 have e5 := wXi hC 5
 have e6 := wXi hC 6
 have e7 := wXi hC 7
 have e8 := wXi hC 8
 have e9 := wXi hC 9
 have e10 := wXi hC 10
 have e11 := wXi hC 11
 have e12 := wXi hC 12
 have e13 := wXi hC 13
 have e14 := wXi hC 14
 have e15 := wXi hC 15
 have e16 := wXi hC 16
 have e17 := wXi hC 17
 have e18 := wXi hC 18
 have e19 := wXi hC 19
 have E := E3; try simp only [LM, zAc] at E
 rw [zAd hL]
 simp only [SP, Nat.zero_add, Nat.reduceAdd]
 rw [e0, e2, e4, e5, e6, e7, e8, e9, e10, e11, e12, e13, e14, e15, e16, e17, e18, e19]
 generalize vs 1 = u3_1
 generalize vs 3 = u3_3
 clear e0 e2 e4 e5 e6 e7 e8 e9 e10 e11 e12 e13 e14 e15 e16 e17 e18 e19 hC hn E3 hL vs L nb
 clear T0
 go_wp2
 refine bodyPost_ret (v := .bool false) ?_ rfl ⟨_, rfl, E.below, rfl⟩
 simp [results, Try.results13, go_sem]

set_option maxRecDepth 100000 in
set_option maxHeartbeats 4000000 in
theorem exQEqual1 {w : World} {v v' : Value} {a b c x y z : Int} (h : (Fq.st [.n a, .n b, .n c]).P v w) (h' : (Fq.st [.n x, .n y, .n z]).P v' w) (e0 : a = x) (e1 : ¬ b = y) {t : Bool} (ht : eqF a b c x y z = t) :
  Calls Try.prog 13 #[v, v'] w fun e w' => ∃ v', e = .returned v' ∧ Below w.heap.size w w' ∧ v' = .bool t := by
 have ht2 : t = false := ht.symm.trans (by unfold eqF; simp [e0, e1])
 subst ht2
 clear ht
 have T0 := hidd (decide_eq_true e0)
 have T1 := hidd (decide_eq_false e1)
 clear e0 e1
 obtain ⟨_, rfl, hf0⟩ := h
 have hF0 := hf0
 obtain ⟨y0_p0, y0_q0, _, rfl, _y0_n0, y0_p1, y0_q1, _, rfl, _y0_n1, y0_p2, y0_q2, _, rfl, _y0_n2, rfl⟩ := hf0
 obtain ⟨_, rfl, hf1⟩ := h'
 have hF1 := hf1
 obtain ⟨y1_p0, y1_q0, _, rfl, _y1_n0, y1_p1, y1_q1, _, rfl, _y1_n1, y1_p2, y1_q2, _, rfl, _y1_n2, rfl⟩ := hf1
 obtain ⟨w1, b1, hw1, hb1, hs1, E⟩ := gS w 33 hF0
 obtain ⟨w2, b2, hw2, hb2, hs2, E⟩ := fS E hs1 33 hF1
 go_enter Try.func13, Try.ntmps13
 go_upto_region 1 with (fail)
 rw [← hw1]
 rw [← hw2]
 rw [← hb2]
 rw [← hb1]
 clear hw1 hw2 hb1 hb2 hs2 hs1
 refine rg [ip b1 0, Fq.num a, ip b2 0, Fq.num x, yT, yT, ip b1 2, Fq.num b, ip b2 2, Fq.num y, yF, yF, yF, Fq.is (undef), Fq.is (undef), Fq.is (undef), Fq.is (undef), Fq.is (undef), yF, yF] N2 [] E (fun hp => ⟨?_, ?_, ?_, ?_, ?_, ?_, ?_, ?_, ?_, ?_, ?_, ?_, ?_, ?_, ?_, ?_, ?_, ?_, ?_, ?_, tv⟩) ?_
 ·exact qa b1 0 0 hp (sqo 2)
 ·exact lN 0 2 hp (mq 1 rfl) zAg (sqi 0)
 ·exact qa b2 0 0 hp (sqo 3)
 ·exact lN 0 2 hp (mq 0 rfl) zAg (sqi 2)
 ·exact wXb (Fq.num a) (Fq.num x) hp zCi (sqi 1) (sqi 3) fun v v' w h h' => zCj h h' T0.out
 ·exact zAa hp fo tv (sqi 4)
 ·exact zAv (b := b1) (off := 0) (off' := 2) hp fo gqi (sqo 2) (fun ρ w h => by simp [execOp, go_sem, h]) (fun _ => rfl)
 ·exact lG 2 2 hp gqi (mq 1 rfl) zAg (sqi 6) fun v w h => zAw h
 ·exact zAv (b := b2) (off := 0) (off' := 2) hp fo gqi (sqo 3) (fun ρ w h => by simp [execOp, go_sem, h]) (fun _ => rfl)
 ·exact lG 2 2 hp gqi (mq 0 rfl) zAg (sqi 8) fun v w h => zAw h
 ·exact zBh (F := (Fq.num b).P) (G := (Fq.num y).P) hp fo gqi (zCi) (sqi 7) (sqi 9) (fun v v' w h h' => zCj h h' T1.out)
 ·exact zAe (F := fun v _ => v = .bool true) (G := fun v _ => v = .bool false) hp fo tv (sqi 5) (sqi 10) (fun ρ w hc h h' => ⟨_, by simp [execOp, go_sem, h, h'], rfl⟩)
 ·exact zAa hp fo tv (sqi 11)
 ·exact zAj hp fo rfl gqi (fun _ => rfl)
 ·exact zAj hp fo rfl gqi (fun _ => rfl)
 ·exact zAj hp fo rfl gqi (fun _ => rfl)
 ·exact zAj hp fo rfl gqi (fun _ => rfl)
 ·exact zAj hp fo rfl gqi (fun _ => rfl)
 ·exact zAe (F := fun v _ => v = .bool false) (G := fun v _ => v = .bool false) hp fo tv (sqi 12) (zAi (fun _ => rfl)) (fun ρ w hc h h' => ⟨_, by simp [execOp, go_sem, h, h'], rfl⟩)
 ·exact zAh hp fo tv (sqi 18)
 intro L vs w3 nb hL hC hn E3
 have e0 := wXi hC 0
 have e2 := wXi hC 2
 have e4 := wXi hC 4
 have e5 := wXi hC 5
 have e6 := wXi hC 6
 have e8 := wXi hC 8
 have e10 := wXi hC 10
 have e11 := wXi hC 11
 have e12 := wXi hC 12
 have e13 := wXi hC 13
 have e14 := wXi hC 14
 have e15 := wXi hC 15
 have e16 := wXi hC 16
 have e17 := wXi hC 17
 have e18 := wXi hC 18
 have e19 := wXi hC 19
 have E := E3; try simp only [LM, zAc] at E
 rw [zAd hL]
 simp only [SP, Nat.zero_add, Nat.reduceAdd]
 rw [e0, e2, e4, e5, e6, e8, e10, e11, e12, e13, e14, e15, e16, e17, e18, e19]
 generalize vs 1 = u3_1
 generalize vs 3 = u3_3
 generalize vs 7 = u3_7
 generalize vs 9 = u3_9
 clear e0 e2 e4 e5 e6 e8 e10 e11 e12 e13 e14 e15 e16 e17 e18 e19 hC hn E3 hL vs L nb
 clear T0 T1
 go_wp2
 refine bodyPost_ret (v := .bool false) ?_ rfl ⟨_, rfl, E.below, rfl⟩
 simp [results, Try.results13, go_sem]

set_option maxRecDepth 100000 in
set_option maxHeartbeats 4000000 in
theorem exQEqual2 {w : World} {v v' : Value} {a b c x y z : Int} (h : (Fq.st [.n a, .n b, .n c]).P v w) (h' : (Fq.st [.n x, .n y, .n z]).P v' w) (e0 : a = x) (e1 : b = y) (e2 : ¬ c = z) {t : Bool} (ht : eqF a b c x y z = t) :
  Calls Try.prog 13 #[v, v'] w fun e w' => ∃ v', e = .returned v' ∧ Below w.heap.size w w' ∧ v' = .bool t := by
 have ht2 : t = false := ht.symm.trans (by unfold eqF; simp [e0, e1, e2])
 subst ht2
 clear ht
 have T0 := hidd (decide_eq_true e0)
 have T1 := hidd (decide_eq_true e1)
 have T2 := hidd (decide_eq_false e2)
 clear e0 e1 e2
 obtain ⟨_, rfl, hf0⟩ := h
 have hF0 := hf0
 obtain ⟨y0_p0, y0_q0, _, rfl, _y0_n0, y0_p1, y0_q1, _, rfl, _y0_n1, y0_p2, y0_q2, _, rfl, _y0_n2, rfl⟩ := hf0
 obtain ⟨_, rfl, hf1⟩ := h'
 have hF1 := hf1
 obtain ⟨y1_p0, y1_q0, _, rfl, _y1_n0, y1_p1, y1_q1, _, rfl, _y1_n1, y1_p2, y1_q2, _, rfl, _y1_n2, rfl⟩ := hf1
 obtain ⟨w1, b1, hw1, hb1, hs1, E⟩ := gS w 33 hF0
 obtain ⟨w2, b2, hw2, hb2, hs2, E⟩ := fS E hs1 33 hF1
 go_enter Try.func13, Try.ntmps13
 go_upto_region 1 with (fail)
 rw [← hw1]
 rw [← hw2]
 rw [← hb2]
 rw [← hb1]
 clear hw1 hw2 hb1 hb2 hs2 hs1
 refine rg [ip b1 0, Fq.num a, ip b2 0, Fq.num x, yT, yT, ip b1 2, Fq.num b, ip b2 2, Fq.num y, yT, yT, yT, ip b1 4, Fq.num c, ip b2 4, Fq.num z, yF, yF, yF] N2 [] E (fun hp => ⟨?_, ?_, ?_, ?_, ?_, ?_, ?_, ?_, ?_, ?_, ?_, ?_, ?_, ?_, ?_, ?_, ?_, ?_, ?_, ?_, tv⟩) ?_
 ·exact qa b1 0 0 hp (sqo 2)
 ·exact lN 0 2 hp (mq 1 rfl) zAg (sqi 0)
 ·exact qa b2 0 0 hp (sqo 3)
 ·exact lN 0 2 hp (mq 0 rfl) zAg (sqi 2)
 ·exact wXb (Fq.num a) (Fq.num x) hp zCi (sqi 1) (sqi 3) fun v v' w h h' => zCj h h' T0.out
 ·exact zAa hp fo tv (sqi 4)
 ·exact zAv (b := b1) (off := 0) (off' := 2) hp fo gqi (sqo 2) (fun ρ w h => by simp [execOp, go_sem, h]) (fun _ => rfl)
 ·exact lG 2 2 hp gqi (mq 1 rfl) zAg (sqi 6) fun v w h => zAw h
 ·exact zAv (b := b2) (off := 0) (off' := 2) hp fo gqi (sqo 3) (fun ρ w h => by simp [execOp, go_sem, h]) (fun _ => rfl)
 ·exact lG 2 2 hp gqi (mq 0 rfl) zAg (sqi 8) fun v w h => zAw h
 ·exact zBh (F := (Fq.num b).P) (G := (Fq.num y).P) hp fo gqi (zCi) (sqi 7) (sqi 9) (fun v v' w h h' => zCj h h' T1.out)
 ·exact zAe (F := fun v _ => v = .bool true) (G := fun v _ => v = .bool true) hp fo tv (sqi 5) (sqi 10) (fun ρ w hc h h' => ⟨_, by simp [execOp, go_sem, h, h'], rfl⟩)
 ·exact zAa hp fo tv (sqi 11)
 ·exact zAv (b := b1) (off := 0) (off' := 4) hp fo gqi (sqo 2) (fun ρ w h => by simp [execOp, go_sem, h]) (fun _ => rfl)
 ·exact lG 4 2 hp gqi (mq 1 rfl) zAg (sqi 13) fun v w h => zAw h
 ·exact zAv (b := b2) (off := 0) (off' := 4) hp fo gqi (sqo 3) (fun ρ w h => by simp [execOp, go_sem, h]) (fun _ => rfl)
 ·exact lG 4 2 hp gqi (mq 0 rfl) zAg (sqi 15) fun v w h => zAw h
 ·exact zBh (F := (Fq.num c).P) (G := (Fq.num z).P) hp fo gqi (zCi) (sqi 14) (sqi 16) (fun v v' w h h' => zCj h h' T2.out)
 ·exact zAe (F := fun v _ => v = .bool true) (G := fun v _ => v = .bool false) hp fo tv (sqi 12) (sqi 17) (fun ρ w hc h h' => ⟨_, by simp [execOp, go_sem, h, h'], rfl⟩)
 ·exact zAh hp fo tv (sqi 18)
 intro L vs w3 nb hL hC hn E3
 have e0 := wXi hC 0
 have e2 := wXi hC 2
 have e4 := wXi hC 4
 have e5 := wXi hC 5
 have e6 := wXi hC 6
 have e8 := wXi hC 8
 have e10 := wXi hC 10
 have e11 := wXi hC 11
 have e12 := wXi hC 12
 have e13 := wXi hC 13
 have e15 := wXi hC 15
 have e17 := wXi hC 17
 have e18 := wXi hC 18
 have e19 := wXi hC 19
 have E := E3; try simp only [LM, zAc] at E
 rw [zAd hL]
 simp only [SP, Nat.zero_add, Nat.reduceAdd]
 rw [e0, e2, e4, e5, e6, e8, e10, e11, e12, e13, e15, e17, e18, e19]
 generalize vs 1 = u3_1
 generalize vs 3 = u3_3
 generalize vs 7 = u3_7
 generalize vs 9 = u3_9
 generalize vs 14 = u3_14
 generalize vs 16 = u3_16
 clear e0 e2 e4 e5 e6 e8 e10 e11 e12 e13 e15 e17 e18 e19 hC hn E3 hL vs L nb
 clear T0 T1 T2
 go_wp2
 refine bodyPost_ret (v := .bool false) ?_ rfl ⟨_, rfl, E.below, rfl⟩
 simp [results, Try.results13, go_sem]

set_option maxRecDepth 100000 in
set_option maxHeartbeats 4000000 in
theorem exQEqual3 {w : World} {v v' : Value} {a b c x y z : Int} (h : (Fq.st [.n a, .n b, .n c]).P v w) (h' : (Fq.st [.n x, .n y, .n z]).P v' w) (e0 : a = x) (e1 : b = y) (e2 : c = z) {t : Bool} (ht : eqF a b c x y z = t) :
  Calls Try.prog 13 #[v, v'] w fun e w' => ∃ v', e = .returned v' ∧ Below w.heap.size w w' ∧ v' = .bool t := by
 have ht2 : t = true := ht.symm.trans (by unfold eqF; simp [e0, e1, e2])
 subst ht2
 clear ht
 have T0 := hidd (decide_eq_true e0)
 have T1 := hidd (decide_eq_true e1)
 have T2 := hidd (decide_eq_true e2)
 clear e0 e1 e2
 obtain ⟨_, rfl, hf0⟩ := h
 have hF0 := hf0
 obtain ⟨y0_p0, y0_q0, _, rfl, _y0_n0, y0_p1, y0_q1, _, rfl, _y0_n1, y0_p2, y0_q2, _, rfl, _y0_n2, rfl⟩ := hf0
 obtain ⟨_, rfl, hf1⟩ := h'
 have hF1 := hf1
 obtain ⟨y1_p0, y1_q0, _, rfl, _y1_n0, y1_p1, y1_q1, _, rfl, _y1_n1, y1_p2, y1_q2, _, rfl, _y1_n2, rfl⟩ := hf1
 obtain ⟨w1, b1, hw1, hb1, hs1, E⟩ := gS w 33 hF0
 obtain ⟨w2, b2, hw2, hb2, hs2, E⟩ := fS E hs1 33 hF1
 go_enter Try.func13, Try.ntmps13
 go_upto_region 1 with (fail)
 rw [← hw1]
 rw [← hw2]
 rw [← hb2]
 rw [← hb1]
 clear hw1 hw2 hb1 hb2 hs2 hs1
 refine rg [ip b1 0, Fq.num a, ip b2 0, Fq.num x, yT, yT, ip b1 2, Fq.num b, ip b2 2, Fq.num y, yT, yT, yT, ip b1 4, Fq.num c, ip b2 4, Fq.num z, yT, yT, yT] N2 [] E (fun hp => ⟨?_, ?_, ?_, ?_, ?_, ?_, ?_, ?_, ?_, ?_, ?_, ?_, ?_, ?_, ?_, ?_, ?_, ?_, ?_, ?_, tv⟩) ?_
 ·exact qa b1 0 0 hp (sqo 2)
 ·exact lN 0 2 hp (mq 1 rfl) zAg (sqi 0)
 ·exact qa b2 0 0 hp (sqo 3)
 ·exact lN 0 2 hp (mq 0 rfl) zAg (sqi 2)
 ·exact wXb (Fq.num a) (Fq.num x) hp zCi (sqi 1) (sqi 3) fun v v' w h h' => zCj h h' T0.out
 ·exact zAa hp fo tv (sqi 4)
 ·exact zAv (b := b1) (off := 0) (off' := 2) hp fo gqi (sqo 2) (fun ρ w h => by simp [execOp, go_sem, h]) (fun _ => rfl)
 ·exact lG 2 2 hp gqi (mq 1 rfl) zAg (sqi 6) fun v w h => zAw h
 ·exact zAv (b := b2) (off := 0) (off' := 2) hp fo gqi (sqo 3) (fun ρ w h => by simp [execOp, go_sem, h]) (fun _ => rfl)
 ·exact lG 2 2 hp gqi (mq 0 rfl) zAg (sqi 8) fun v w h => zAw h
 ·exact zBh (F := (Fq.num b).P) (G := (Fq.num y).P) hp fo gqi (zCi) (sqi 7) (sqi 9) (fun v v' w h h' => zCj h h' T1.out)
 ·exact zAe (F := fun v _ => v = .bool true) (G := fun v _ => v = .bool true) hp fo tv (sqi 5) (sqi 10) (fun ρ w hc h h' => ⟨_, by simp [execOp, go_sem, h, h'], rfl⟩)
 ·exact zAa hp fo tv (sqi 11)
 ·exact zAv (b := b1) (off := 0) (off' := 4) hp fo gqi (sqo 2) (fun ρ w h => by simp [execOp, go_sem, h]) (fun _ => rfl)
 ·exact lG 4 2 hp gqi (mq 1 rfl) zAg (sqi 13) fun v w h => zAw h
 ·exact zAv (b := b2) (off := 0) (off' := 4) hp fo gqi (sqo 3) (fun ρ w h => by simp [execOp, go_sem, h]) (fun _ => rfl)
 ·exact lG 4 2 hp gqi (mq 0 rfl) zAg (sqi 15) fun v w h => zAw h
 ·exact zBh (F := (Fq.num c).P) (G := (Fq.num z).P) hp fo gqi (zCi) (sqi 14) (sqi 16) (fun v v' w h h' => zCj h h' T2.out)
 ·exact zAe (F := fun v _ => v = .bool true) (G := fun v _ => v = .bool true) hp fo tv (sqi 12) (sqi 17) (fun ρ w hc h h' => ⟨_, by simp [execOp, go_sem, h, h'], rfl⟩)
 ·exact zAh hp fo tv (sqi 18)
 intro L vs w3 nb hL hC hn E3
 have e0 := wXi hC 0
 have e2 := wXi hC 2
 have e4 := wXi hC 4
 have e5 := wXi hC 5
 have e6 := wXi hC 6
 have e8 := wXi hC 8
 have e10 := wXi hC 10
 have e11 := wXi hC 11
 have e12 := wXi hC 12
 have e13 := wXi hC 13
 have e15 := wXi hC 15
 have e17 := wXi hC 17
 have e18 := wXi hC 18
 have e19 := wXi hC 19
 have E := E3; try simp only [LM, zAc] at E
 rw [zAd hL]
 simp only [SP, Nat.zero_add, Nat.reduceAdd]
 rw [e0, e2, e4, e5, e6, e8, e10, e11, e12, e13, e15, e17, e18, e19]
 generalize vs 1 = u3_1
 generalize vs 3 = u3_3
 generalize vs 7 = u3_7
 generalize vs 9 = u3_9
 generalize vs 14 = u3_14
 generalize vs 16 = u3_16
 clear e0 e2 e4 e5 e6 e8 e10 e11 e12 e13 e15 e17 e18 e19 hC hn E3 hL vs L nb
 clear T0 T1 T2
 go_wp2
 refine bodyPost_ret (v := .bool true) ?_ rfl ⟨_, rfl, E.below, rfl⟩
 simp [results, Try.results13, go_sem]

theorem zE6 {w : World} {v v' : Value} {a b c x y z : Int} (h : (Fq.st [.n a, .n b, .n c]).P v w) (h' : (Fq.st [.n x, .n y, .n z]).P v' w) {t : Bool} (ht : eqF a b c x y z = t) :
  Calls Try.prog 13 #[v, v'] w fun e w' => ∃ v', e = .returned v' ∧ Below w.heap.size w w' ∧ v' = .bool t := by
 by_cases e0 : a = x
 ·by_cases e1 : b = y
  ·by_cases e2 : c = z
   ·exact exQEqual3 h h' e0 e1 e2 ht
   ·exact exQEqual2 h h' e0 e1 e2 ht
  ·exact exQEqual1 h h' e0 e1 ht
 ·exact exQEqual0 h h' e0 ht

set_option maxRecDepth 100000 in
set_option maxHeartbeats 4000000 in
theorem zCu {w : World} {a b c : Int} (ha : -9223372036854775808 ≤ a ∧ a ≤ 9223372036854775807) (hb : -9223372036854775808 ≤ b ∧ b ≤ 9223372036854775807) (hc : -9223372036854775808 ≤ c ∧ c ≤ 9223372036854775807) :
  Calls Try.prog 45 #[.int .i64 a, .int .i64 b, .int .i64 c] w fun e w' => ∃ v', e = .returned v' ∧ Below w.heap.size w w' ∧ (Fq.st [.n a, .n b, .n c]).P v' w' := by
 have Ha := hidd ha
 have Ba : Hid (ab a < pw 3) := zAt ha.1 ha.2
 have Hb := hidd hb
 have Bb : Hid (ab b < pw 3) := zAt hb.1 hb.2
 have Hc := hidd hc
 have Bc : Hid (ab c < pw 3) := zAt hc.1 hc.2
 clear ha hb hc
 obtain ⟨w1, b1, hw1, hb1, hs1, E⟩ := zCv w (F := Fq.st [.n 0, .n 0, .n 0]) (us := [.bool false, .slice none 0 0, .bool false, .slice none 0 0, .bool false, .slice none 0 0]) 33 rfl (by simp) ((Fits.tame (zAy w))) (zKu _)
 go_enter Try.func45, Try.ntmps45
 go_upto_region 1 with (fail)
 rw [← hw1]
 rw [← hb1]
 clear hw1 hb1 hs1
 refine rg [Fq.is (.int .i64 a), Fq.num a, Fq.is (.int .i64 b), Fq.num b, Fq.is (.int .i64 c), Fq.num c, Fq.st [.n a, .n b, .n c], Fq.any] [some (7, Fq.st [.n a, .n b, .n c])] [] E (fun hp => ⟨?_, ?_, ?_, ?_, ?_, ?_, ?_, ?_, tv⟩) ?_
 ·exact zAa hp fo tv (sqo 0)
 ·exact wXa (Fq.is (.int .i64 a)) hp zB3 (sqi 0) fun v w h => (by subst h; exact rOfK w a Ha.out.1 Ha.out.2)
 ·exact zAa hp fo tv (sqo 1)
 ·exact wXa (Fq.is (.int .i64 b)) hp zB3 (sqi 2) fun v w h => (by subst h; exact rOfK w b Hb.out.1 Hb.out.2)
 ·exact zAa hp fo tv (sqo 2)
 ·exact wXa (Fq.is (.int .i64 c)) hp zB3 (sqi 4) fun v w h => (by subst h; exact rOfK w c Hc.out.1 Hc.out.2)
 ·exact zDz (z0 := a) (z1 := b) (z2 := c) hp fo tv (sqi 1) (sqi 3) (sqi 5) (fun v w h => h)
 ·exact sO 0 6 hp (mq 0 rfl) zAx (sqo 6)
 intro L vs w2 nb hL hC hn E2
 have e0 := wXi hC 0
 have e2 := wXi hC 2
 have e4 := wXi hC 4
 have E := E2; try simp only [LM, zAc] at E
 rw [zAd hL]
 simp only [SP, Nat.zero_add, Nat.reduceAdd]
 rw [e0, e2, e4]
 generalize vs 1 = u2_1
 generalize vs 3 = u2_3
 generalize vs 5 = u2_5
 generalize vs 6 = u2_6
 clear e0 e2 e4 hC hn E2 hL vs L nb
 clear Ha Hb Hc
 obtain ⟨_, _, hc0, hf0⟩ := zBt (E.box 0 rfl)
 have hP0 := hf0
 obtain ⟨r0_p0, r0_q0, _, rfl, _r0_n0, r0_p1, r0_q1, _, rfl, _r0_n1, r0_p2, r0_q2, _, rfl, _r0_n2, rfl⟩ := hf0
 have c0_0 := hc0 0 (by simp)
 have c0_1 := hc0 1 (by simp)
 have c0_2 := hc0 2 (by simp)
 have c0_3 := hc0 3 (by simp)
 have c0_4 := hc0 4 (by simp)
 have c0_5 := hc0 5 (by simp)
 simp only [List.getD_cons_zero, List.getD_cons_succ] at c0_0 c0_1 c0_2 c0_3 c0_4 c0_5
 clear hc0
 clear Ba Bb Bc
 go_wp2
 refine bodyPost_ret (v := .agg #[r0_p0, r0_q0, r0_p1, r0_q1, r0_p2, r0_q2]) ?_ rfl ⟨_, rfl, E.below, ⟨_, rfl, hP0⟩⟩
 simp [results, Try.results45, go_sem, c0_0, c0_1, c0_2, c0_3, c0_4, c0_5]

def FiveAt (zs : List Int) (g : Nat) (w : World) : Prop :=
 g < w.heap.size ∧ ∀ j, j < 5 → ∃ (n : Bool) (ao : Option Addr) (k c : Nat), w.cell? ⟨g, 2 * j, none⟩ = some (.bool n) ∧ w.cell? ⟨g, 2 * j + 1, none⟩ = some (.slice ao k c) ∧ Num w (.agg #[.bool n, .slice ao k c]) (zs.getD j 0)

theorem FiveAt.mono {zs : List Int} {g : Nat} {w w' : World} (h : FiveAt zs g w) (hb : Below w.heap.size w w') : FiveAt zs g w' := by
 refine ⟨Nat.lt_of_lt_of_le h.1 hb.size, fun j hj => ?_⟩
 obtain ⟨n, ao, k, c, h1, h2, h3⟩ := h.2 j hj
 exact ⟨n, ao, k, c, (hb.cell (p := ⟨g, 2 * j, none⟩) h.1).trans h1, (hb.cell (p := ⟨g, 2 * j + 1, none⟩) h.1).trans h2, h3.mono hb⟩

section
variable {os : List Oper} {Q : Exit → Act → World → Prop} {a : Act} {p : Plan} {B B0 : Nat} {w0 : World}
variable {i s : Nat} {d : Option Tmp} {ty : TypeId} {ps : String} {af : Array Edge} {gd : Option (Nat × Bool)}

end

theorem zL1 {neg : Bool} {xs : List Int} (hc : Canon xs) (hn : neg = true → xs.length ≠ 0) : zEo neg xs = true := by
 unfold zEo
 by_cases h : xs.length = 0
 ·rw [if_pos h]
  cases neg with
  | false => rfl
  | true => exact absurd h (hn rfl)
 ·rw [if_neg h]
  have h1 : pw (xs.length - 1) ≤ val xs := hc.2.resolve_left h
  have h2 := zAq xs (xs.length - 1)
  rw [show xs.length - 1 + 1 = xs.length by omega, List.take_length] at h2
  have h3 := zA5 (hc.1.take (xs.length - 1))
  rw [List.length_take, Nat.min_eq_left (by omega)] at h3
  simp only [bne_iff_ne, ne_eq]
  intro h0
  rw [h0, Int.mul_zero] at h2
  omega

theorem exValid {w : World} {n : Bool} {ao : Option Addr} {k c : Nat} {z : Int} (h : Num w (.agg #[.bool n, .slice ao k c]) z) : Calls Try.prog 71 #[.agg #[.bool n, .slice ao k c]] w fun e w' => e = .returned (.bool true) ∧ Below w.heap.size w w' := by
 obtain ⟨neg, ao', k', c', xs, hv, hs, hn, hz, hc, hnn⟩ := h
 obtain ⟨rfl, rfl, rfl, rfl⟩ : n = neg ∧ ao = ao' ∧ k = k' ∧ c = c' := by
  simp at hv; exact ⟨hv.1, hv.2.1, hv.2.2.1, hv.2.2.2⟩
 have := zHc w n ao k c xs hs (by omega)
 rw [zL1 hc (by rw [hs.len]; exact hnn)] at this
 exact this

def sqB (n : Int) : Bool := decide (0 ≤ n) && (List.range (n.toNat + 1)).any fun k => k * k == n.toNat
theorem sqB_iff {n : Int} : sqB n = true ↔ ∃ k : Int, k * k = n := by
 simp only [sqB, Bool.and_eq_true, decide_eq_true_eq, List.any_eq_true, List.mem_range, beq_iff_eq]
 constructor
 ·rintro ⟨h0, k, _, hk⟩
  refine ⟨(k : Int), ?_⟩
  have : ((k * k : Nat) : Int) = ((n.toNat : Nat) : Int) := by rw [hk]
  rw [Int.natCast_mul] at this
  omega
 ·rintro ⟨k, hk⟩
  have h0 := zC2 k
  have h1 := zC1 k
  have h2 : (k.natAbs : Int) * (k.natAbs : Int) = ((k.natAbs * k.natAbs : Nat) : Int) := by rw [Int.natCast_mul]
  have h3 : k.natAbs ≤ k.natAbs * k.natAbs := by
   rcases Nat.eq_zero_or_pos k.natAbs with e | e
   ·rw [e]; omega
   ·exact Nat.le_mul_of_pos_left _ e
  refine ⟨by omega, k.natAbs, by omega, by omega⟩
theorem isq_ex : ∀ p : Nat, ∃ s : Int, 0 ≤ s ∧ s * s ≤ p ∧ (p : Int) < (s + 1) * (s + 1)
 | 0 => ⟨0, by decide, by decide, by decide⟩
 | p + 1 => by
  obtain ⟨s, h0, h1, h2⟩ := isq_ex p
  have e : (s + 1 + 1) * (s + 1 + 1) = (s + 1) * (s + 1) + 2 * (s + 1) + 1 := by rw [Int.add_mul (s + 1) 1, Int.mul_add (s + 1) (s + 1) 1]; omega
  by_cases h : ((p + 1 : Nat) : Int) < (s + 1) * (s + 1)
  ·exact ⟨s, h0, by omega, h⟩
  ·exact ⟨s + 1, by omega, by omega, by rw [e]; omega⟩
theorem zH6 {X r s : Int} (r0 : 0 ≤ r) (r1 : r * r ≤ X) (r2 : X < (r + 1) * (r + 1)) (s0 : 0 ≤ s) (h1 : s * s ≤ X) (h2 : X < (s + 1) * (s + 1)) : r = s := by
 rcases Int.lt_trichotomy r s with h | h | h
 ·have := Int.mul_le_mul (show r + 1 ≤ s by omega) (show r + 1 ≤ s by omega) (by omega) s0
  omega
 ·exact h
 ·have := Int.mul_le_mul (show s + 1 ≤ r by omega) (show s + 1 ≤ r by omega) (by omega) r0
  omega
theorem root_sq {X r : Int} (hr : IsRoot X 2 r) : 0 ≤ r ∧ r * r ≤ X ∧ X < (r + 1) * (r + 1) := by
 obtain ⟨r0, r1, r2⟩ := hr
 have e : ∀ z : Int, z ^ 2 = z * z := fun z => by rw [show (2 : Nat) = 1 + 1 by rfl, Int.pow_succ, Int.pow_succ, Int.pow_zero, Int.one_mul]
 rw [e] at r1 r2
 exact ⟨r0, r1, r2⟩
theorem sqB_root {n s : Int} (s0 : 0 ≤ s) (h1 : s * s ≤ n) (h2 : n < (s + 1) * (s + 1)) : sqB n = decide (n - s * s = 0) := by
 by_cases e : n - s * s = 0
 ·rw [decide_eq_true e]
  exact sqB_iff.2 ⟨s, by omega⟩
 ·rw [decide_eq_false e]
  refine Bool.eq_false_iff.2 fun h => e ?_
  obtain ⟨k, hk⟩ := sqB_iff.1 h
  have hk2 := zC1 k
  have := zH6 (X := n) (r := (k.natAbs : Int)) (by omega) (by omega) (by rw [Int.add_mul, Int.mul_add]; omega) s0 h1 h2
  rw [← this]
  omega
theorem zG1 {n : Int} (h : n < 0) : sqB n = false := by
 refine Bool.eq_false_iff.2 fun e => ?_
 obtain ⟨k, hk⟩ := sqB_iff.1 e
 have := zC2 k
 omega
theorem zDb {a b c : Int} (ha : ab a < pw 15) (hb : ab b < pw 15) (hc : ab c < pw 15) : ab (b * b - 4 * (a * c)) < pw 40 :=
 zDo (zBp hb hb) (zBp (zAt (x := 4) (by decide) (by decide)) (zBp ha hc)) (by omega) (by omega)
def chkF (a b c : Int) : Int := if sqB (b * b - 4 * (a * c)) = true then 5 else if b * b - 4 * (a * c) < 0 ∧ a < 0 then 1 else 0
theorem zHk {a b c : Int} (hd : b * b - 4 * (a * c) < 0) (hz : ¬ a < 0) : chkF a b c = 0 := by
 unfold chkF
 rw [zG1 hd, if_neg (by decide), if_neg fun x => hz x.2]
theorem zHl {a b c : Int} (hd : b * b - 4 * (a * c) < 0) (hz : a < 0) : chkF a b c = 1 := by
 unfold chkF
 rw [zG1 hd, if_neg (by decide), if_pos ⟨hd, hz⟩]
theorem chkF_ind {a b c : Int} (hd : ¬ b * b - 4 * (a * c) < 0) : chkF a b c = if sqB (b * b - 4 * (a * c)) = true then 5 else 0 := by
 unfold chkF
 by_cases h : sqB (b * b - 4 * (a * c)) = true
 ·rw [if_pos h, if_pos h]
 ·rw [if_neg h, if_neg h, if_neg fun x => hd x.1]
def dfB (a b c : Int) : Bool := decide (b * b - 4 * (a * c) < 0 ∧ 0 ≤ a)
section
variable {os : List Oper} {Q : Exit → Act → World → Prop} {a : Act} {p : Pq} {B B0 : Nat} {w0 : World}
variable {i s : Nat} {d : Option Tmp} {ty : TypeId} {ps : String} {af : Array Edge} {gd : Option (Nat × Bool)}
theorem zGr (hp : p.Ok B B0) (hF : p.Free i) (hg : GdQ os a p B B0 w0 af gd) (hC : ∀ v w, (Fq.st [.n 0, .n 0, .n 0]).P v w → (p.c i).P v w) :
  zAm os Q a p B B0 w0 i { dst := d, op := .build 33 #[], type := ty, pos := ps, after := af, guard := gd } := by
 refine zBf hp hF hg fun L vs w hG hL hc hd => ?_
 refine ⟨.agg #[.bool false, .slice none 0 0, .bool false, .slice none 0 0, .bool false, .slice none 0 0], ?_, hC _ _ ⟨_, rfl, _, _, _, rfl, Num.zero w, _, _, _, rfl, Num.zero w, _, _, _, rfl, Num.zero w, rfl⟩⟩
 simp [execOp, go_sem]
end
theorem frm_uniq {w : World} {b : Nat} {x y z x' y' z' : Int} (h : Bq w b 6 (Fq.st [.n x, .n y, .n z])) (h' : Bq w b 6 (Fq.st [.n x', .n y', .n z'])) : x = x' ∧ y = y' ∧ z = z' := by
 obtain ⟨us, h1, _, h2, _, us1, e1, h3⟩ := h
 obtain ⟨us', g1, _, g2, _, us2, e2, g3⟩ := h'
 have e : us = us' := by
  refine List.ext_getElem (by omega) fun j hj hj' => ?_
  have a1 := (h2 j hj).1
  have a2 := (g2 j hj').1
  rw [a2] at a1
  injection a1 with a1
  rw [List.getD_eq_getElem?_getD, List.getD_eq_getElem?_getD, List.getElem?_eq_getElem hj, List.getElem?_eq_getElem hj', Option.getD_some, Option.getD_some] at a1
  exact a1.symm
 injection e1 with e1
 injection e2 with e2
 have e1 := congrArg Array.toList e1
 have e2 := congrArg Array.toList e2
 simp at e1 e2
 subst e e1 e2
 obtain ⟨p1, q1, r1, rfl, n1, p2, q2, r2, rfl, n2, p3, q3, r3, rfl, n3, rfl⟩ := h3
 obtain ⟨_, _, _, i1, m1, _, _, _, rfl, m2, _, _, _, rfl, m3, rfl⟩ := g3
 injection i1 with j1 i1
 injection i1 with j2 i1
 injection i1 with j3 i1
 injection i1 with j4 i1
 injection i1 with j5 i1
 injection i1 with j6 i1
 subst j1 j2 j3 j4 j5 j6
 exact ⟨n1.unique m1, n2.unique m2, n3.unique m3⟩
open Classical in
noncomputable def frmMes (w : World) (b : Nat) : Nat :=
 if h : ∃ x : Nat, ∃ fa fb fc : Int, Bq w b 6 (Fq.st [.n fa, .n fb, .n fc]) ∧ x = 2 * fa.natAbs + (if redB fa fb fc = true then 0 else 1) then Classical.choose h else 0
theorem zH2 {w : World} {b : Nat} {fa fb fc : Int} (h : Bq w b 6 (Fq.st [.n fa, .n fb, .n fc])) : frmMes w b = 2 * fa.natAbs + (if redB fa fb fc = true then 0 else 1) := by
 have he : ∃ x : Nat, ∃ fa fb fc : Int, Bq w b 6 (Fq.st [.n fa, .n fb, .n fc]) ∧ x = 2 * fa.natAbs + (if redB fa fb fc = true then 0 else 1) := ⟨_, fa, fb, fc, h, rfl⟩
 unfold frmMes
 rw [dif_pos he]
 obtain ⟨x, y, z, h', hx⟩ := Classical.choose_spec he
 obtain ⟨rfl, rfl, rfl⟩ := frm_uniq h h'
 exact hx
structure RIn (a b c x1 x2 x3 x4 fa fb fc : Int) : Prop where
 u : Und a b c x1 x2 x3 x4 fa fb fc
 p : 0 < fa
 l : fa ≤ a
 bb : ab fb < pw 5
 cb : ab fc < pw 15
theorem ab_le_sq {x n : Int} (h : x * x ≤ n) : ab x ≤ ab n := by
 have h1 := zC1 x
 have h2 : (x.natAbs : Int) ≤ (x.natAbs : Int) * (x.natAbs : Int) := by
  rcases Nat.eq_zero_or_pos x.natAbs with e | e
  ·rw [e]; decide
  ·have := Int.mul_le_mul_of_nonneg_left (show (1 : Int) ≤ (x.natAbs : Int) by omega) (show (0 : Int) ≤ (x.natAbs : Int) by omega)
   omega
 unfold ab
 omega
theorem RIn.bds {a b c x1 x2 x3 x4 fa fb fc : Int} (h : RIn a b c x1 x2 x3 x4 fa fb fc) (ha : ab a < pw 5) (hc : ab c < pw 5) (hd : b * b - 4 * (a * c) < 0) : (ab fa < pw 5 ∧ ab fb < pw 5 ∧ ab fc < pw 15) ∧ ab x1 < pw 30 ∧ ab x2 < pw 30 ∧ ab x3 < pw 30 ∧ ab x4 < pw 30 := by
 have hfa : ab fa < pw 5 := by
  have h1 := h.p
  have h2 := h.l
  unfold ab at ha ⊢
  generalize pw 5 = k at ha ⊢
  omega
 have h4 : ab (4 : Int) < pw 3 := zAt (by decide) (by decide)
 obtain ⟨g1, g2, g3, g4⟩ := h.u.bds hd
 have up : ∀ {x y z : Int}, x * x ≤ 4 * (y * z) → ab y < pw 5 → ab z < pw 15 → ab x < pw 30 := fun {x y z} hx hy hz => Int.lt_of_le_of_lt (ab_le_sq hx) (Int.lt_of_lt_of_le (zBp h4 (zBp hy hz)) (zAb (by omega)))
 have hfa2 : ab fa < pw 15 := Int.lt_of_lt_of_le hfa (zAb (by omega))
 exact ⟨⟨hfa, h.bb, h.cb⟩, up g1 hc hfa2, up g2 hc h.cb, up g3 ha hfa2, up g4 ha h.cb⟩
theorem RIn.one {a b c : Int} (h0 : 0 < a) (hb : ab b < pw 5) (hc : ab c < pw 5) : RIn a b c 1 0 0 1 a b c := ⟨Und.one a b c, h0, Int.le_refl _, hb, Int.lt_of_lt_of_le hc (zAb (by omega))⟩
theorem RIn.shift {a b c x1 x2 x3 x4 fa fb fc kk gb gc : Int} (h : RIn a b c x1 x2 x3 x4 fa fb fc) (ha : ab a < pw 5) (hb : ab b < pw 5) (hc : ab c < pw 5) (hd : b * b - 4 * (a * c) < 0) (hk : kk = (fa - fb) / (2 * fa)) (hgb : gb = fb + 2 * (fa * kk)) (hgc : gc = fa * (kk * kk) + fb * kk + fc) : RIn a b c (x1 * 1 + x2 * 0) (x1 * kk + x2 * 1) (x3 * 1 + x4 * 0) (x3 * kk + x4 * 1) fa gb gc ∧ -fa < gb ∧ gb ≤ fa := by
 have hm := shift_mid (b := fb) h.p
 rw [← hk, ← hgb] at hm
 have hu : Und fa fb fc 1 kk 0 1 fa gb gc := by rw [hgb, hgc]; exact Und.shift fa fb fc kk
 have hU := h.u.mul hu
 have hfa := (h.bds ha hc hd).1.1
 have hD : gb * gb - 4 * (fa * gc) = b * b - 4 * (a * c) := hU.disc
 have hc1 := zFb h.p (by rw [hD]; exact hd)
 have hc2 := last_le h.p (by omega) hm.2 (by rw [hD]; exact hd)
 rw [hD] at hc2
 refine ⟨⟨hU, h.p, h.l, ?_, ?_⟩, hm⟩
 ·have h1 := h.p
  unfold ab at hfa ⊢
  generalize pw 5 = k at hfa ⊢
  omega
 ·have hb1 : ab (fa * fa - (b * b - 4 * (a * c))) < pw 15 := zDo (zBp hfa hfa) (zDo (m := 14) (zBp hb hb) (zBp (zAt (x := 4) (by decide) (by decide)) (zBp ha hc)) (by omega) (by omega)) (by omega) (by omega)
  unfold ab at hb1 ⊢
  generalize pw 15 = k at hb1 ⊢
  omega
theorem RIn.swap {a b c x1 x2 x3 x4 fa fb fc : Int} (h : RIn a b c x1 x2 x3 x4 fa fb fc) (ha : ab a < pw 5) (hc : ab c < pw 5) (hd : b * b - 4 * (a * c) < 0) (hl : fc ≤ fa) : RIn a b c (x1 * 0 + x2 * 1) (x1 * -1 + x2 * 0) (x3 * 0 + x4 * 1) (x3 * -1 + x4 * 0) fc (-fb) fa := by
 have hU := h.u.mul (Und.swap fa fb fc)
 have hD : fb * fb - 4 * (fa * fc) = b * b - 4 * (a * c) := h.u.disc
 have hc1 := zFb h.p (by rw [hD]; exact hd)
 have hl2 := h.l
 refine ⟨hU, hc1, by omega, ?_, Int.lt_of_lt_of_le (h.bds ha hc hd).1.1 (zAb (by omega))⟩
 have := h.bb
 unfold ab at this ⊢
 rw [Int.natAbs_neg]
 exact this
theorem ediv_ab {x y : Int} {k : Nat} (hx : ab x < pw k) : ab (x / y) < pw k := by
 have := Int.natAbs_ediv_le_natAbs x y
 unfold ab at hx ⊢
 generalize pw k = m at hx ⊢
 omega
structure RS where
 x1 : Int
 x2 : Int
 x3 : Int
 x4 : Int
 fa : Int
 fb : Int
 fc : Int
def RS.kk (S : RS) : Int := (S.fa - S.fb) / (2 * S.fa)
def rsh (S : RS) : RS := ⟨S.x1 * 1 + S.x2 * 0, S.x1 * S.kk + S.x2 * 1, S.x3 * 1 + S.x4 * 0, S.x3 * S.kk + S.x4 * 1, S.fa, S.fb + 2 * (S.fa * S.kk), S.fa * (S.kk * S.kk) + S.fb * S.kk + S.fc⟩
def rsw (S : RS) : RS := ⟨S.x1 * 0 + S.x2 * 1, S.x1 * -1 + S.x2 * 0, S.x3 * 0 + S.x4 * 1, S.x3 * -1 + S.x4 * 0, S.fc, -S.fb, S.fa⟩
def RS.red (S : RS) : Bool := redB S.fa S.fb S.fc
def zBx (S : RS) : RS := if (rsh S).red = true then rsh S else rsw (rsh S)
def riter (a b c : Int) : Nat → RS
 | 0 => ⟨1, 0, 0, 1, a, b, c⟩
 | n + 1 => zBx (riter a b c n)
def RAt (a b c : Int) (S : RS) : Prop := ∃ n, S = riter a b c n ∧ ∀ m, m < n → (riter a b c m).red = false
theorem RAt.zero (a b c : Int) : RAt a b c ⟨1, 0, 0, 1, a, b, c⟩ := ⟨0, rfl, fun m hm => by omega⟩
theorem RAt.next {a b c : Int} {S : RS} (h : RAt a b c S) (hr : S.red = false) : RAt a b c (zBx S) := by
 obtain ⟨n, rfl, hn⟩ := h
 refine ⟨n + 1, rfl, fun m hm => ?_⟩
 rcases Nat.lt_or_ge m n with g | g
 ·exact hn m g
 ·rw [show m = n by omega]; exact hr
theorem RAt.uniq {a b c : Int} {S T : RS} (h : RAt a b c S) (g : RAt a b c T) (hs : S.red = true) (ht : T.red = true) : S = T := by
 obtain ⟨n, rfl, hn⟩ := h
 obtain ⟨m, rfl, hm⟩ := g
 rcases Nat.lt_trichotomy n m with e | e | e
 ·have := hm n e; rw [hs] at this; cases this
 ·rw [e]
 ·have := hn m e; rw [ht] at this; cases this
open Classical in
noncomputable def zBs (a b c : Int) : RS := if h : ∃ S, RAt a b c S ∧ S.red = true then Classical.choose h else ⟨1, 0, 0, 1, a, b, c⟩
theorem zGw {a b c : Int} {S : RS} (h : RAt a b c S) (hs : S.red = true) : zBs a b c = S := by
 have he : ∃ S, RAt a b c S ∧ S.red = true := ⟨S, h, hs⟩
 unfold zBs
 rw [dif_pos he]
 exact (Classical.choose_spec he).1.uniq h (Classical.choose_spec he).2 hs
theorem RIn.next {a b c : Int} {S : RS} (h : RIn a b c S.x1 S.x2 S.x3 S.x4 S.fa S.fb S.fc) (ha : ab a < pw 5) (hb : ab b < pw 5) (hc : ab c < pw 5) (hd : b * b - 4 * (a * c) < 0) : RIn a b c (zBx S).x1 (zBx S).x2 (zBx S).x3 (zBx S).x4 (zBx S).fa (zBx S).fb (zBx S).fc ∧ ((zBx S).red = true ∧ (zBx S).fa ≤ S.fa ∨ (zBx S).fa < S.fa) := by
 obtain ⟨h1, h2, h3⟩ := h.shift ha hb hc hd (kk := S.kk) rfl rfl rfl
 unfold zBx
 by_cases hr : (rsh S).red = true
 ·rw [if_pos hr]
  exact ⟨h1, .inl ⟨hr, Int.le_refl _⟩⟩
 ·rw [if_neg hr]
  have hsw := zJf (a := (rsh S).fa) (b := (rsh S).fb) (c := (rsh S).fc) h1.p h2 h3 (fun e => hr ((zD0 h1.p).2 e))
  have hle : (rsh S).fc ≤ (rsh S).fa := by rcases hsw with h | h <;> omega
  refine ⟨RIn.swap (fa := (rsh S).fa) (fb := (rsh S).fb) (fc := (rsh S).fc) h1 ha hc hd hle, ?_⟩
  rcases hsw with h | ⟨h, _, g⟩
  ·exact .inr h
  ·exact .inl ⟨(zD0 (a := (rsh S).fc) (b := -(rsh S).fb) (c := (rsh S).fa) (by rw [h]; exact h1.p)).2 g, by show (rsh S).fc ≤ S.fa; rw [h]; exact Int.le_refl _⟩
theorem zI3 {a b c : Int} (ha : ab a < pw 5) (hb : ab b < pw 5) (hc : ab c < pw 5) (hd : b * b - 4 * (a * c) < 0) : ∀ (k : Nat) (S : RS), S.fa.natAbs ≤ k → RAt a b c S → RIn a b c S.x1 S.x2 S.x3 S.x4 S.fa S.fb S.fc → ∃ T, RAt a b c T ∧ T.red = true ∧ RIn a b c T.x1 T.x2 T.x3 T.x4 T.fa T.fb T.fc
 | 0, S, hk, _, hI => by have := hI.p; omega
 | k + 1, S, hk, hA, hI => by
  cases hr : S.red with
  | true => exact ⟨S, hA, hr, hI⟩
  | false =>
   obtain ⟨hI2, h⟩ := hI.next ha hb hc hd
   have hA2 := hA.next hr
   rcases h with ⟨h, _⟩ | h
   ·exact ⟨_, hA2, h, hI2⟩
   ·have p1 := hI.p
    have p2 := hI2.p
    exact zI3 ha hb hc hd k _ (by omega) hA2 hI2
theorem zI2 {a b c : Int} (ha : ab a < pw 5) (hb : ab b < pw 5) (hc : ab c < pw 5) (hd : b * b - 4 * (a * c) < 0) (h0 : 0 < a) : RIn a b c (zBs a b c).x1 (zBs a b c).x2 (zBs a b c).x3 (zBs a b c).x4 (zBs a b c).fa (zBs a b c).fb (zBs a b c).fc ∧ Rdf (zBs a b c).fa (zBs a b c).fb (zBs a b c).fc := by
 obtain ⟨T, hA, hr, hI⟩ := zI3 ha hb hc hd a.natAbs _ (Nat.le_refl _) (RAt.zero a b c) (RIn.one h0 hb hc)
 rw [zGw hA hr]
 exact ⟨hI, (zD0 hI.p).1 hr⟩
def Fq.red (R : RS) : Fq := Fq.tup3 (Fq.st [.n R.fa, .n R.fb, .n R.fc]) (Fq.st [.n R.x1, .n R.x2, .n R.x3, .n R.x4]) (Fq.is (.int .i64 0))
def redE (a b c : Int) : Int := if chkF a b c = 0 ∧ 0 < b * b - 4 * (a * c) then 5 else chkF a b c
section
variable {os : List Oper} {Q : Exit → Act → World → Prop} {a : Act} {p : Pq} {B B0 : Nat} {w0 : World}
variable {i s : Nat} {d : Option Tmp} {ty : TypeId} {ps : String} {af : Array Edge} {gd : Option (Nat × Bool)}
theorem zFh (hp : p.Ok B B0) (hF : p.Free i) (hg : GdQ os a p B B0 w0 af gd) (hC : ∀ v w, (Fq.st [.n 0, .n 0, .n 0, .n 0]).P v w → (p.c i).P v w) :
  zAm os Q a p B B0 w0 i { dst := d, op := .build 36 #[], type := ty, pos := ps, after := af, guard := gd } := by
 refine zBf hp hF hg fun L vs w hG hL hc hd => ?_
 refine ⟨.agg #[.bool false, .slice none 0 0, .bool false, .slice none 0 0, .bool false, .slice none 0 0, .bool false, .slice none 0 0], ?_, hC _ _ ⟨_, rfl, _, _, _, rfl, Num.zero w, _, _, _, rfl, Num.zero w, _, _, _, rfl, Num.zero w, _, _, _, rfl, Num.zero w, rfl⟩⟩
 simp [execOp, go_sem]
end
end Go.Proofs.Ytdhkhedhnolcjaa
