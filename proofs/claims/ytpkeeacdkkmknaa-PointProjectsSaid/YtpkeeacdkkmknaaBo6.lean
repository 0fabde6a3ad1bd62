/- Om, Oy, Oz. -/
import Derived.Test.YtpkeeacdkkmknaaBo5
/- Arithmetic of points: polynomial identities by reckoning; sums are on the curve; sums modulo a divisor. -/
namespace Go.Proofs.Ytpkeeacdkkmknaa
open Go Go.RowKit

/-- Polynomials, and their normal form: terms with a factor and the numbers of the letters. -/
inductive PE where
  | c (k : Int)
  | v (i : Nat)
  | a (x y : PE)
  | m (x y : PE)
  | n (x : PE)
def PE.den (ρ : List Int) : PE → Int
  | .c k => k
  | .v i => ρ.getD i 0
  | .a x y => x.den ρ + y.den ρ
  | .m x y => x.den ρ * y.den ρ
  | .n x => - x.den ρ
def insV (i : Nat) : List Nat → List Nat
  | [] => [i]
  | j :: r => if i ≤ j then i :: j :: r else j :: insV i r
def monD (ρ : List Int) : List Nat → Int
  | [] => 1
  | i :: r => ρ.getD i 0 * monD ρ r
def polD (ρ : List Int) : List (Int × List Nat) → Int
  | [] => 0
  | t :: r => t.1 * monD ρ t.2 + polD ρ r
theorem insV_den (ρ : List Int) (i : Nat) : ∀ l, monD ρ (insV i l) = ρ.getD i 0 * monD ρ l
  | [] => rfl
  | j :: r => by
    unfold insV
    split
    · rfl
    · show _ * monD ρ (insV i r) = _ * (_ * monD ρ r)
      rw [insV_den ρ i r, Int.mul_left_comm]
def mulM : List Nat → List Nat → List Nat
  | [], l => l
  | i :: r, l => insV i (mulM r l)
theorem mulM_den (ρ : List Int) : ∀ a b, monD ρ (mulM a b) = monD ρ a * monD ρ b
  | [], b => by show monD ρ b = 1 * _; rw [Int.one_mul]
  | i :: r, b => by
    show monD ρ (insV i (mulM r b)) = _ * monD ρ r * _
    rw [insV_den, mulM_den ρ r b, Int.mul_assoc]
def addT (k : Int) (mo : List Nat) : List (Int × List Nat) → List (Int × List Nat)
  | [] => [(k, mo)]
  | t :: p => if t.2 = mo then (k + t.1, mo) :: p else t :: addT k mo p
theorem addT_den (ρ : List Int) (k : Int) (mo : List Nat) : ∀ p, polD ρ (addT k mo p) = k * monD ρ mo + polD ρ p
  | [] => rfl
  | t :: p => by
    unfold addT
    split
    · rename_i h
      show (k + t.1) * monD ρ mo + polD ρ p = _ + (t.1 * monD ρ t.2 + polD ρ p)
      rw [Int.add_mul, h]
      omega
    · show t.1 * monD ρ t.2 + polD ρ (addT k mo p) = _ + (t.1 * monD ρ t.2 + polD ρ p)
      rw [addT_den ρ k mo p]
      omega
def addQ : List (Int × List Nat) → List (Int × List Nat) → List (Int × List Nat)
  | [], q => q
  | t :: p, q => addT t.1 t.2 (addQ p q)
theorem addQ_den (ρ : List Int) : ∀ p q, polD ρ (addQ p q) = polD ρ p + polD ρ q
  | [], q => by show polD ρ q = 0 + _; omega
  | t :: p, q => by
    show polD ρ (addT t.1 t.2 (addQ p q)) = t.1 * monD ρ t.2 + polD ρ p + polD ρ q
    rw [addT_den, addQ_den ρ p q]
    omega
def mulT (k : Int) (mo : List Nat) : List (Int × List Nat) → List (Int × List Nat)
  | [] => []
  | t :: p => (k * t.1, mulM mo t.2) :: mulT k mo p
theorem mulT_den (ρ : List Int) (k : Int) (mo : List Nat) : ∀ p, polD ρ (mulT k mo p) = k * monD ρ mo * polD ρ p
  | [] => by show (0 : Int) = _ * 0; omega
  | t :: p => by
    show k * t.1 * monD ρ (mulM mo t.2) + polD ρ (mulT k mo p) = k * monD ρ mo * (t.1 * monD ρ t.2 + polD ρ p)
    rw [mulM_den, mulT_den ρ k mo p, Int.mul_add]
    congr 1
    simp only [Int.mul_assoc, Int.mul_left_comm]
def mulQ : List (Int × List Nat) → List (Int × List Nat) → List (Int × List Nat)
  | [], _ => []
  | t :: p, q => addQ (mulT t.1 t.2 q) (mulQ p q)
theorem mulQ_den (ρ : List Int) : ∀ p q, polD ρ (mulQ p q) = polD ρ p * polD ρ q
  | [], q => by show (0 : Int) = 0 * _; omega
  | t :: p, q => by
    show polD ρ (addQ (mulT t.1 t.2 q) (mulQ p q)) = (t.1 * monD ρ t.2 + polD ρ p) * polD ρ q
    rw [addQ_den, mulT_den, mulQ_den ρ p q, Int.add_mul]
def PE.norm : PE → List (Int × List Nat)
  | .c k => [(k, [])]
  | .v i => [(1, [i])]
  | .a x y => addQ x.norm y.norm
  | .m x y => mulQ x.norm y.norm
  | .n x => mulT (-1) [] x.norm
theorem PE.norm_den (ρ : List Int) : ∀ e : PE, polD ρ e.norm = e.den ρ
  | .c k => by show k * 1 + 0 = k; omega
  | .v i => by show 1 * (ρ.getD i 0 * 1) + 0 = ρ.getD i 0; omega
  | .a x y => by show polD ρ (addQ _ _) = _ + _; rw [addQ_den, PE.norm_den ρ x, PE.norm_den ρ y]
  | .m x y => by show polD ρ (mulQ _ _) = _ * _; rw [mulQ_den, PE.norm_den ρ x, PE.norm_den ρ y]
  | .n x => by show polD ρ (mulT _ _ _) = - _; rw [mulT_den, PE.norm_den ρ x]; show -1 * 1 * _ = _; omega
theorem polD_zero (ρ : List Int) : ∀ p : List (Int × List Nat), p.all (fun t => t.1 == 0) = true → polD ρ p = 0
  | [], _ => rfl
  | t :: p, h => by
    simp only [List.all_cons, Bool.and_eq_true, beq_iff_eq] at h
    show t.1 * _ + polD ρ p = 0
    rw [h.1, polD_zero ρ p h.2]
    omega
/-- Two polynomials are the same: reckoned. -/
theorem PE.same (ρ : List Int) (x y : PE) (h : ((PE.a x (.n y)).norm.all fun t => t.1 == 0) = true) : x.den ρ = y.den ρ := by
  have h1 := polD_zero ρ _ h
  rw [PE.norm_den] at h1
  have h2 : x.den ρ + - y.den ρ = 0 := h1
  omega

theorem cg_mul {M a b c d : Int} (h : M ∣ a - b) (h' : M ∣ c - d) : M ∣ a * c - b * d := by
  have e : a * c - b * d = (a - b) * c + b * (c - d) := by rw [Int.sub_mul, Int.mul_sub]; omega
  rw [e]
  exact Int.dvd_add (Int.dvd_mul_of_dvd_left h) (Int.dvd_mul_of_dvd_right h')
theorem cg_add {M a b c d : Int} (h : M ∣ a - b) (h' : M ∣ c - d) : M ∣ (a + c) - (b + d) := by
  have e : (a + c) - (b + d) = (a - b) + (c - d) := by omega
  rw [e]
  exact Int.dvd_add h h'
theorem cg_sub {M a b c d : Int} (h : M ∣ a - b) (h' : M ∣ c - d) : M ∣ (a - c) - (b - d) := by
  have e : (a - c) - (b - d) = (a - b) - (c - d) := by omega
  rw [e]
  exact Int.dvd_sub h h'
theorem cg_refl (M a : Int) : M ∣ a - a := by rw [Int.sub_self]; exact Int.dvd_zero M
theorem cg_symm {M a b : Int} (h : M ∣ a - b) : M ∣ b - a := by
  have e : b - a = -(a - b) := by omega
  rw [e]
  exact Int.dvd_neg.2 h
theorem cg_trans {M a b c : Int} (h : M ∣ a - b) (h' : M ∣ b - c) : M ∣ a - c := by
  have e : a - c = (a - b) + (b - c) := by omega
  rw [e]
  exact Int.dvd_add h h'
theorem cg_mod (M a : Int) : M ∣ a % M - a := by
  have h := Int.mul_ediv_add_emod a M
  exact ⟨-(a / M), by rw [Int.mul_neg]; omega⟩
theorem cg_iff {M a b : Int} : M ∣ a - b ↔ a % M = b % M := by
  constructor
  · intro h; exact Int.emod_eq_emod_iff_emod_sub_eq_zero.2 (Int.emod_eq_zero_of_dvd h)
  · intro h
    have h1 := cg_mod M a
    have h2 := cg_mod M b
    rw [h] at h1
    exact cg_trans (cg_symm h1) h2
-- PART2
theorem chord_id (A B x1 y1 x2 y2 s : Int) : (x2-x1)*((s*(x1-(s*s-(x1+x2)))-y1)*(s*(x1-(s*s-(x1+x2)))-y1)-(((s*s-(x1+x2))*(s*s-(x1+x2))+A)*(s*s-(x1+x2))+B)) = (x2-x1)*(y1*y1-((x1*x1+A)*x1+B))+((s*s-(x1+x2))-x1)*((y2*y2-((x2*x2+A)*x2+B))+(s*(x2-x1)-(y2-y1))*(2*y2+(s*(x2-x1)-(y2-y1)))-(y1*y1-((x1*x1+A)*x1+B))) := by
  have h := PE.same [A, B, x1, y1, x2, y2, s] (.m (.a (.v 4) (.n (.v 2))) (.a (.m (.a (.m (.v 6) (.a (.v 2) (.n (.a (.m (.v 6) (.v 6)) (.n (.a (.v 2) (.v 4))))))) (.n (.v 3))) (.a (.m (.v 6) (.a (.v 2) (.n (.a (.m (.v 6) (.v 6)) (.n (.a (.v 2) (.v 4))))))) (.n (.v 3)))) (.n (.a (.m (.a (.m (.a (.m (.v 6) (.v 6)) (.n (.a (.v 2) (.v 4)))) (.a (.m (.v 6) (.v 6)) (.n (.a (.v 2) (.v 4))))) (.v 0)) (.a (.m (.v 6) (.v 6)) (.n (.a (.v 2) (.v 4))))) (.v 1))))) (.a (.m (.a (.v 4) (.n (.v 2))) (.a (.m (.v 3) (.v 3)) (.n (.a (.m (.a (.m (.v 2) (.v 2)) (.v 0)) (.v 2)) (.v 1))))) (.m (.a (.a (.m (.v 6) (.v 6)) (.n (.a (.v 2) (.v 4)))) (.n (.v 2))) (.a (.a (.a (.m (.v 5) (.v 5)) (.n (.a (.m (.a (.m (.v 4) (.v 4)) (.v 0)) (.v 4)) (.v 1)))) (.m (.a (.m (.v 6) (.a (.v 4) (.n (.v 2)))) (.n (.a (.v 5) (.n (.v 3))))) (.a (.m (.c 2) (.v 5)) (.a (.m (.v 6) (.a (.v 4) (.n (.v 2)))) (.n (.a (.v 5) (.n (.v 3)))))))) (.n (.a (.m (.v 3) (.v 3)) (.n (.a (.m (.a (.m (.v 2) (.v 2)) (.v 0)) (.v 2)) (.v 1)))))))) (by decide +kernel)
  simp only [PE.den, List.getD_cons_zero, List.getD_cons_succ] at h
  simp only [Int.sub_eq_add_neg]
  exact h
theorem tang_id (A B x1 y1 s : Int) : ((s*(x1-(s*s-(x1+x1)))-y1)*(s*(x1-(s*s-(x1+x1)))-y1)-(((s*s-(x1+x1))*(s*s-(x1+x1))+A)*(s*s-(x1+x1))+B)) = (y1*y1-((x1*x1+A)*x1+B))+(s*(y1+y1)-(3*(x1*x1)+A))*((s*s-(x1+x1))-x1) := by
  have h := PE.same [A, B, x1, y1, s] (.a (.m (.a (.m (.v 4) (.a (.v 2) (.n (.a (.m (.v 4) (.v 4)) (.n (.a (.v 2) (.v 2))))))) (.n (.v 3))) (.a (.m (.v 4) (.a (.v 2) (.n (.a (.m (.v 4) (.v 4)) (.n (.a (.v 2) (.v 2))))))) (.n (.v 3)))) (.n (.a (.m (.a (.m (.a (.m (.v 4) (.v 4)) (.n (.a (.v 2) (.v 2)))) (.a (.m (.v 4) (.v 4)) (.n (.a (.v 2) (.v 2))))) (.v 0)) (.a (.m (.v 4) (.v 4)) (.n (.a (.v 2) (.v 2))))) (.v 1)))) (.a (.a (.m (.v 3) (.v 3)) (.n (.a (.m (.a (.m (.v 2) (.v 2)) (.v 0)) (.v 2)) (.v 1)))) (.m (.a (.m (.v 4) (.a (.v 3) (.v 3))) (.n (.a (.m (.c 3) (.m (.v 2) (.v 2))) (.v 0)))) (.a (.a (.m (.v 4) (.v 4)) (.n (.a (.v 2) (.v 2)))) (.n (.v 2))))) (by decide +kernel)
  simp only [PE.den, List.getD_cons_zero, List.getD_cons_succ] at h
  simp only [Int.sub_eq_add_neg]
  exact h
theorem sq_id (A B x y1 y2 : Int) : (y1-y2)*(y1+y2) = (y1*y1-((x*x+A)*x+B))-(y2*y2-((x*x+A)*x+B)) := by
  have h := PE.same [A, B, x, y1, y2] (.m (.a (.v 3) (.n (.v 4))) (.a (.v 3) (.v 4))) (.a (.a (.m (.v 3) (.v 3)) (.n (.a (.m (.a (.m (.v 2) (.v 2)) (.v 0)) (.v 2)) (.v 1)))) (.n (.a (.m (.v 4) (.v 4)) (.n (.a (.m (.a (.m (.v 2) (.v 2)) (.v 0)) (.v 2)) (.v 1)))))) (by decide +kernel)
  simp only [PE.den, List.getD_cons_zero, List.getD_cons_succ] at h
  simp only [Int.sub_eq_add_neg]
  exact h

theorem dvd_cop {M a b : Int} (h : M ∣ a * b) (hg : Int.gcd a M = 1) : M ∣ b := by
  have h1 : Nat.Coprime M.natAbs a.natAbs := by rw [Int.gcd_comm] at hg; exact hg
  have h2 : M.natAbs ∣ a.natAbs * b.natAbs := by rw [← Int.natAbs_mul]; exact Int.natAbs_dvd_natAbs.2 h
  exact Int.natAbs_dvd_natAbs.1 (h1.dvd_of_dvd_mul_left h2)
theorem on_cong {M A B x y x' y' : Int} (h : M ∣ y * y - ((x * x + A) * x + B)) (hx : M ∣ x' - x) (hy : M ∣ y' - y) : M ∣ y' * y' - ((x' * x' + A) * x' + B) := by
  have h1 := cg_sub (cg_mul hy hy) (cg_add (cg_mul (cg_add (cg_mul hx hx) (cg_refl M A)) hx) (cg_refl M B))
  have e : y' * y' - ((x' * x' + A) * x' + B) = (y' * y' - ((x' * x' + A) * x' + B) - (y * y - ((x * x + A) * x + B))) + (y * y - ((x * x + A) * x + B)) := by omega
  rw [e]
  exact Int.dvd_add h1 h
theorem chord_cl {M A B x1 y1 x2 y2 s x3 y3 : Int} (h1 : M ∣ y1 * y1 - ((x1 * x1 + A) * x1 + B)) (h2 : M ∣ y2 * y2 - ((x2 * x2 + A) * x2 + B)) (hs : M ∣ s * (x2 - x1) - (y2 - y1)) (hg : Int.gcd (x2 - x1) M = 1) (h3 : M ∣ x3 - (s * s - (x1 + x2))) (h4 : M ∣ y3 - (s * (x1 - x3) - y1)) : M ∣ y3 * y3 - ((x3 * x3 + A) * x3 + B) := by
  have hF : M ∣ (x2 - x1) * ((s * (x1 - (s * s - (x1 + x2))) - y1) * (s * (x1 - (s * s - (x1 + x2))) - y1) - (((s * s - (x1 + x2)) * (s * s - (x1 + x2)) + A) * (s * s - (x1 + x2)) + B)) := by
    rw [chord_id A B x1 y1 x2 y2 s]
    exact Int.dvd_add (Int.dvd_mul_of_dvd_right h1) (Int.dvd_mul_of_dvd_right (Int.dvd_sub (Int.dvd_add h2 (Int.dvd_mul_of_dvd_left hs)) h1))
  refine on_cong (dvd_cop hF hg) h3 (cg_trans h4 ?_)
  exact cg_sub (cg_mul (cg_refl M s) (cg_sub (cg_refl M x1) h3)) (cg_refl M y1)
theorem tang_cl {M A B x1 y1 s x3 y3 : Int} (h1 : M ∣ y1 * y1 - ((x1 * x1 + A) * x1 + B)) (hs : M ∣ s * (y1 + y1) - (3 * (x1 * x1) + A)) (h3 : M ∣ x3 - (s * s - (x1 + x1))) (h4 : M ∣ y3 - (s * (x1 - x3) - y1)) : M ∣ y3 * y3 - ((x3 * x3 + A) * x3 + B) := by
  have hF : M ∣ (s * (x1 - (s * s - (x1 + x1))) - y1) * (s * (x1 - (s * s - (x1 + x1))) - y1) - (((s * s - (x1 + x1)) * (s * s - (x1 + x1)) + A) * (s * s - (x1 + x1)) + B) := by
    rw [tang_id A B x1 y1 s]
    exact Int.dvd_add h1 (Int.dvd_mul_of_dvd_left hs)
  refine on_cong hF h3 (cg_trans h4 ?_)
  exact cg_sub (cg_mul (cg_refl M s) (cg_sub (cg_refl M x1) h3)) (cg_refl M y1)
/-- The slope times the denominator is the numerator. -/
theorem slope_cg {M N D : Int} (hM : 0 < M) (hg : Int.gcd D M = 1) : M ∣ ((N * bezU D M) % M) * D - N := by
  have h1 := cg_iff.2 (bez_inv hM hg)
  have h2 : M ∣ ((N * bezU D M) % M) * D - (N * bezU D M) * D := cg_mul (cg_mod M _) (cg_refl M D)
  have h3 : M ∣ (N * bezU D M) * D - N * 1 := by
    rw [Int.mul_assoc, Int.mul_comm (bezU D M)]
    exact cg_mul (cg_refl M N) h1
  rw [Int.mul_one] at h3
  exact cg_trans h2 h3
theorem fin_facts {M x1 y1 x2 N D : Int} (hM : 0 < M) (hg : Int.gcd D M = 1) : ∃ s, M ∣ s * D - N ∧ M ∣ finX M x1 x2 N D - (s * s - (x1 + x2)) ∧ M ∣ finY M x1 y1 x2 N D - (s * (x1 - finX M x1 x2 N D) - y1) := ⟨_, slope_cg hM hg, cg_mod M _, cg_mod M _⟩
theorem gcd_mod {a M : Int} : Int.gcd (a % M) M = Int.gcd a M := by
  have h : a / M * M + a % M = a := by rw [Int.mul_comm]; exact Int.mul_ediv_add_emod a M
  rw [Int.gcd_comm, Int.gcd_comm a]
  conv => rhs; rw [← h]
  exact (Int.gcd_mul_right_add_right M _ _).symm
theorem on_dvd {A B M x y : Int} {i : Bool} (h : onB A B M x y i = true) : curveB A B M = true ∧ (i = true → x = 0 ∧ y = 0) ∧ (i = false → (0 ≤ x ∧ x < M ∧ 0 ≤ y ∧ y < M) ∧ M ∣ y * y - ((x * x + A) * x + B)) := by
  simp only [onB, Bool.and_eq_true] at h
  refine ⟨h.1, fun hi => ?_, fun hi => ?_⟩
  · have h2 := h.2
    subst hi
    simpa [ptB] using h2
  · have h2 := h.2
    subst hi
    simp only [ptB, resB, Bool.and_eq_true, decide_eq_true_eq, Bool.false_eq_true, if_false] at h2
    exact ⟨⟨h2.1.1, h2.1.2, h2.2.1.1, h2.2.1.2⟩, Int.dvd_of_emod_eq_zero h2.2.2⟩
theorem on_of {A B M x y : Int} {i : Bool} (hc : curveB A B M = true) (h1 : i = true → x = 0 ∧ y = 0) (h2 : i = false → (0 ≤ x ∧ x < M ∧ 0 ≤ y ∧ y < M) ∧ M ∣ y * y - ((x * x + A) * x + B)) : onB A B M x y i = true := by
  simp only [onB, Bool.and_eq_true]
  refine ⟨hc, ?_⟩
  cases i with
  | true => simpa [ptB] using h1 rfl
  | false =>
    obtain ⟨⟨g1, g2, g3, g4⟩, g5⟩ := h2 rfl
    simp only [ptB, resB, Bool.and_eq_true, decide_eq_true_eq, Bool.false_eq_true, if_false]
    exact ⟨⟨g1, g2⟩, ⟨g3, g4⟩, Int.emod_eq_zero_of_dvd g5⟩
/-- The sum of two points of the curve, if there is one, is on the curve. -/
theorem sum_on {A B M : Int} {P Q : Pt} (hP : onB A B M P.x P.y P.i = true) (hQ : onB A B M Q.x Q.y Q.i = true) (h : (sumP A M P Q).2 = 0) : onB A B M (sumP A M P Q).1.x (sumP A M P Q).1.y (sumP A M P Q).1.i = true := by
  obtain ⟨x1, y1, i1⟩ := P
  obtain ⟨x2, y2, i2⟩ := Q
  cases i1 with
  | true => exact hQ
  | false =>
    cases i2 with
    | true => exact hP
    | false =>
      obtain ⟨hc, _, hp⟩ := on_dvd hP
      obtain ⟨_, _, hq⟩ := on_dvd hQ
      obtain ⟨hp1, hp2⟩ : (0 ≤ x1 ∧ x1 < M ∧ 0 ≤ y1 ∧ y1 < M) ∧ M ∣ y1 * y1 - ((x1 * x1 + A) * x1 + B) := hp rfl
      obtain ⟨hq1, hq2⟩ : (0 ≤ x2 ∧ x2 < M ∧ 0 ≤ y2 ∧ y2 < M) ∧ M ∣ y2 * y2 - ((x2 * x2 + A) * x2 + B) := hq rfl
      have hM : 0 < M := (curve_of hc).1
      simp only [sumP, Bool.false_eq_true, if_false] at h ⊢
      unfold finP at h ⊢
      by_cases h0 : slD M x1 y1 x2 y2 = 0
      · rw [if_pos h0]; exact on_of hc (fun _ => ⟨rfl, rfl⟩) (fun e => by cases e)
      · rw [if_neg h0] at h ⊢
        by_cases hg : Int.gcd (slD M x1 y1 x2 y2) M = 1
        · rw [if_pos hg]
          refine on_of hc (fun e => by cases e) fun _ => ⟨⟨Int.emod_nonneg _ (by omega), Int.emod_lt_of_pos _ hM, Int.emod_nonneg _ (by omega), Int.emod_lt_of_pos _ hM⟩, ?_⟩
          obtain ⟨s, hs, hx, hy⟩ := fin_facts (x1 := x1) (y1 := y1) (x2 := x2) (N := slN A x1 y1 x2 y2) hM hg
          by_cases hx12 : x1 = x2
          · unfold slD at hg hs hx hy
            unfold slN at hs
            rw [if_pos hx12] at hg
            rw [gcd_mod] at hg
            have hyy : M ∣ (y1 + y2) * (y1 - y2) := by
              rw [Int.mul_comm, sq_id A B x1 y1 y2]
              refine Int.dvd_sub hp2 ?_
              rw [hx12]
              exact hq2
            have hy12 : y1 = y2 := by
              obtain ⟨k, hk⟩ := dvd_cop hyy hg
              have : k = 0 := by
                rcases Int.lt_trichotomy k 0 with hk0 | hk0 | hk0
                · exfalso
                  have := Int.mul_le_mul_of_nonneg_left (show k ≤ -1 by omega) (show 0 ≤ M by omega)
                  omega
                · exact hk0
                · exfalso
                  have := Int.mul_le_mul_of_nonneg_left (show 1 ≤ k by omega) (show 0 ≤ M by omega)
                  omega
              rw [this] at hk
              omega
            subst hx12 hy12
            rw [if_pos rfl] at hs
            have hs2 : M ∣ s * (y1 + y1) - (3 * (x1 * x1) + A) := by
              rw [if_pos rfl] at hs
              exact cg_trans (cg_mul (cg_refl M s) (cg_symm (cg_mod M _))) hs
            exact tang_cl hp2 hs2 hx hy
          · unfold slD at hg hs hx hy
            unfold slN at hs hx hy
            rw [if_neg hx12] at hg
            rw [if_neg hx12, if_neg hx12] at hs
            unfold slN slD
            exact chord_cl hp2 hq2 hs hg hx hy
        · rw [if_neg hg] at h
          exfalso
          have := Int.gcd_pos_of_ne_zero_right (slD M x1 y1 x2 y2) (show M ≠ 0 by omega)
          simp at h
          omega

theorem opp_on {A B M : Int} {P : Pt} (hP : onB A B M P.x P.y P.i = true) : onB A B M (oppP M P).x (oppP M P).y (oppP M P).i = true := by
  obtain ⟨x, y, i⟩ := P
  obtain ⟨hc, _, h2⟩ := on_dvd hP
  have hM := (curve_of hc).1
  cases i with
  | true => exact on_of hc (fun _ => ⟨rfl, rfl⟩) fun e => by cases e
  | false =>
    obtain ⟨⟨g1, g2, g3, g4⟩, g5⟩ : (0 ≤ x ∧ x < M ∧ 0 ≤ y ∧ y < M) ∧ M ∣ y * y - ((x * x + A) * x + B) := h2 rfl
    refine on_of hc (fun e => by cases e) fun _ => ⟨⟨g1, g2, Int.emod_nonneg _ (by omega), Int.emod_lt_of_pos _ hM⟩, ?_⟩
    have e : y * y = (-y) * (-y) := by rw [Int.neg_mul_neg]
    rw [e] at g5
    exact on_cong g5 (cg_refl M x) (cg_mod M (-y))
theorem mulP_on {A B M : Int} {P : Pt} (hP : onB A B M P.x P.y P.i = true) : ∀ k m, (mulP A M P k m).2 = 0 → onB A B M (mulP A M P k m).1.x (mulP A M P k m).1.y (mulP A M P k m).1.i = true
  | 0, _, _ => on_of (on_dvd hP).1 (fun _ => ⟨rfl, rfl⟩) fun e => by cases e
  | k + 1, m, h => by
    rw [mulP] at h ⊢
    have ih := mulP_on hP k (m / 2)
    generalize mulP A M P k (m / 2) = R at h ih ⊢
    unfold stepP at h ⊢
    split at h
    · rename_i h0
      rw [if_pos h0]
      have hR := ih h0
      split at h
      · rename_i h1
        rw [if_pos h1]
        have hS := sum_on hR hR h1
        split at h
        · rename_i h2
          rw [if_pos h2]
          exact sum_on hS hP h
        · rename_i h2
          rw [if_neg h2]
          exact hS
      · rename_i h1
        exact absurd h h1
    · rename_i h0
      exact absurd h h0
theorem times_on {A B M n : Int} {P : Pt} (hP : onB A B M P.x P.y P.i = true) (h : (timesP A M P n).2 = 0) : onB A B M (timesP A M P n).1.x (timesP A M P n).1.y (timesP A M P n).1.i = true := by
  unfold timesP xjP at h ⊢
  by_cases hn : n < 0
  · rw [if_pos hn] at h ⊢
    exact mulP_on (opp_on hP) _ _ h
  · rw [if_neg hn] at h ⊢
    exact mulP_on hP _ _ h
/-- A divisor that is greater than 1 and less than the number. -/
def PDiv (M d : Int) : Prop := 1 < d ∧ d < M ∧ M % d = 0
theorem sum_div {A M : Int} {P Q : Pt} (hP : P.Ok M) (hQ : Q.Ok M) (h : ¬ (sumP A M P Q).2 = 0) : PDiv M (sumP A M P Q).2 := by
  obtain ⟨x1, y1, i1⟩ := P
  obtain ⟨x2, y2, i2⟩ := Q
  obtain ⟨p1, p2, p3, p4⟩ : 0 ≤ x1 ∧ x1 < M ∧ 0 ≤ y1 ∧ y1 < M := hP
  obtain ⟨q1, q2, q3, q4⟩ : 0 ≤ x2 ∧ x2 < M ∧ 0 ≤ y2 ∧ y2 < M := hQ
  cases i1 with
  | true => exact absurd rfl h
  | false =>
    cases i2 with
    | true => exact absurd rfl h
    | false =>
      simp only [sumP, Bool.false_eq_true, if_false] at h ⊢
      unfold finP at h ⊢
      by_cases h0 : slD M x1 y1 x2 y2 = 0
      · rw [if_pos h0] at h; exact absurd rfl h
      · rw [if_neg h0] at h ⊢
        by_cases hg : Int.gcd (slD M x1 y1 x2 y2) M = 1
        · rw [if_pos hg] at h; exact absurd rfl h
        · rw [if_neg hg] at h ⊢
          have hb : -M < slD M x1 y1 x2 y2 ∧ slD M x1 y1 x2 y2 < M := by
            unfold slD
            split
            · have := Int.emod_nonneg (y1 + y2) (show M ≠ 0 by omega)
              have := Int.emod_lt_of_pos (y1 + y2) (show 0 < M by omega)
              omega
            · omega
          have h1 := Int.gcd_le_natAbs_left M h0
          have h2 := Int.gcd_pos_of_ne_zero_left M h0
          refine ⟨?_, ?_, Int.emod_eq_zero_of_dvd (Int.gcd_dvd_right ..)⟩
          · show (1 : Int) < (Int.gcd (slD M x1 y1 x2 y2) M : Nat); omega
          · show ((Int.gcd (slD M x1 y1 x2 y2) M : Nat) : Int) < M; omega
theorem mulP_div {A M : Int} {P : Pt} (hP : P.Ok M) : ∀ k m, ¬ (mulP A M P k m).2 = 0 → PDiv M (mulP A M P k m).2
  | 0, _, h => absurd rfl h
  | k + 1, m, h => by
    rw [mulP] at h ⊢
    have ih := mulP_div (A := A) hP k (m / 2)
    have hO : (mulP A M P k (m / 2)).1.Ok M := by
      have := xj_ok (A := A) (N := m / 2) (L := k) hP 0
      unfold xjP at this
      rwa [Nat.sub_zero, Nat.pow_zero, Nat.div_one] at this
    generalize mulP A M P k (m / 2) = R at h ih hO ⊢
    unfold stepP at h ⊢
    by_cases h0 : R.2 = 0
    · rw [if_pos h0] at h ⊢
      by_cases h1 : (sumP A M R.1 R.1).2 = 0
      · rw [if_pos h1] at h ⊢
        by_cases h2 : decide (m % 2 = 1) = true
        · rw [if_pos h2] at h ⊢
          exact sum_div (sumP_ok hO hO) hP h
        · rw [if_neg h2] at h
          exact absurd h1 h
      · rw [if_neg h1]
        exact sum_div hO hO h1
    · rw [if_neg h0]
      exact ih h0
theorem times_div {A M n : Int} {P : Pt} (hP : P.Ok M) (h : ¬ (timesP A M P n).2 = 0) : PDiv M (timesP A M P n).2 := by
  unfold timesP xjP at h ⊢
  by_cases hn : n < 0
  · rw [if_pos hn] at h ⊢
    exact mulP_div (oppP_ok hP) _ _ h
  · rw [if_neg hn] at h ⊢
    exact mulP_div hP _ _ h
/-- The residues of a point. -/
def red (a : Int) (P : Pt) : Pt := ⟨P.x % a, P.y % a, P.i⟩
theorem cg_low {a M x : Int} (h : a ∣ M) : a ∣ x % M - x := Int.dvd_trans h (cg_mod M x)
theorem fin_proj {a M x1 y1 x2 N D N' D' : Int} (ha : 1 < a) (haM : a ∣ M) (hM : 0 < M) (hg : Int.gcd D M = 1) (hD : a ∣ D' - D) (hN : a ∣ N' - N) : finP a (x1 % a) (y1 % a) (x2 % a) N' D' = (⟨finX M x1 x2 N D % a, finY M x1 y1 x2 N D % a, false⟩, 0) := by
  have h0 : ¬ D' = 0 := by
    intro e
    have h1 : a ∣ D := by
      have := Int.dvd_neg.2 hD
      rw [e] at this
      have e2 : -(0 - D) = D := by omega
      rwa [e2] at this
    have h2 := Int.dvd_coe_gcd h1 haM
    rw [hg] at h2
    have := Int.le_of_dvd (by omega) h2
    omega
  have hg' : Int.gcd D' a = 1 := by
    rw [Int.gcd_eq_one_iff]
    intro k hk1 hk2
    have h1 : k ∣ D := by
      have e2 : D = D' - (D' - D) := by omega
      rw [e2]
      exact Int.dvd_sub hk1 (Int.dvd_trans hk2 hD)
    have h2 := Int.dvd_coe_gcd h1 (Int.dvd_trans hk2 haM)
    rwa [hg] at h2
  have hDu : a ∣ D * bezU D M - 1 := Int.dvd_trans haM (cg_iff.2 (bez_inv hM hg))
  have hu : bezU D' a = bezU D M % a := by
    refine ((inv_uniq (a := D') (m := a) (x := bezU D M % a) (by omega) (Int.emod_nonneg _ (by omega)) (Int.emod_lt_of_pos _ (by omega)) ?_).2).symm
    exact cg_iff.1 (cg_trans (cg_mul hD (cg_mod a _)) hDu)
  have hs : a ∣ (N' * bezU D' a) % a - (N * bezU D M) % M := by
    refine cg_trans (cg_mod a _) (cg_trans ?_ (cg_symm (cg_low haM)))
    rw [hu]
    exact cg_mul hN (cg_mod a _)
  have hX : finX a (x1 % a) (x2 % a) N' D' = finX M x1 x2 N D % a := by
    unfold finX
    refine cg_iff.1 (cg_trans (cg_sub (cg_mul hs hs) (cg_add (cg_mod a x1) (cg_mod a x2))) (cg_symm (cg_low haM)))
  have hY : finY a (x1 % a) (y1 % a) (x2 % a) N' D' = finY M x1 y1 x2 N D % a := by
    unfold finY
    rw [hX]
    refine cg_iff.1 (cg_trans (cg_sub (cg_mul hs (cg_sub (cg_mod a x1) (cg_mod a _))) (cg_mod a y1)) (cg_symm (cg_low haM)))
  unfold finP
  rw [if_neg h0, if_pos hg', hX, hY]
/-- The sum modulo a divisor is the sum of the residues. -/
theorem sum_proj {A M a : Int} {P Q : Pt} (ha : 1 < a) (haM : a ∣ M) (hM : 0 < M) (h : (sumP A M P Q).2 = 0) : sumP (A % a) a (red a P) (red a Q) = (red a (sumP A M P Q).1, 0) := by
  obtain ⟨x1, y1, i1⟩ := P
  obtain ⟨x2, y2, i2⟩ := Q
  cases i1 with
  | true => rfl
  | false =>
    cases i2 with
    | true => rfl
    | false =>
      simp only [sumP, red, Bool.false_eq_true, if_false] at h ⊢
      by_cases h0 : slD M x1 y1 x2 y2 = 0
      · have hx : x1 = x2 := by
          unfold slD at h0
          split at h0
          · assumption
          · omega
        subst hx
        have h1 : (y1 + y2) % M = 0 := by unfold slD at h0; rwa [if_pos rfl] at h0
        have h2 : slD a (x1 % a) (y1 % a) (x1 % a) (y2 % a) = 0 := by
          unfold slD
          rw [if_pos rfl]
          refine Int.emod_eq_zero_of_dvd ?_
          have h3 := cg_add (cg_mod a y1) (cg_mod a y2)
          have h4 : a ∣ y1 + y2 := Int.dvd_trans haM (Int.dvd_of_emod_eq_zero h1)
          have e : y1 % a + y2 % a = (y1 % a + y2 % a - (y1 + y2)) + (y1 + y2) := by omega
          rw [e]
          exact Int.dvd_add h3 h4
        unfold finP
        rw [if_pos h0, if_pos h2]
        simp
      · have hf : finP M x1 y1 x2 (slN A x1 y1 x2 y2) (slD M x1 y1 x2 y2) = (⟨finX M x1 x2 (slN A x1 y1 x2 y2) (slD M x1 y1 x2 y2), finY M x1 y1 x2 (slN A x1 y1 x2 y2) (slD M x1 y1 x2 y2), false⟩, 0) ∧ Int.gcd (slD M x1 y1 x2 y2) M = 1 := by
          unfold finP at h ⊢
          rw [if_neg h0] at h ⊢
          by_cases hg : Int.gcd (slD M x1 y1 x2 y2) M = 1
          · rw [if_pos hg]; exact ⟨rfl, hg⟩
          · rw [if_neg hg] at h
            exfalso
            have := Int.gcd_pos_of_ne_zero_right (slD M x1 y1 x2 y2) (show M ≠ 0 by omega)
            simp at h
            omega
        obtain ⟨hf, hg⟩ := hf
        rw [hf]
        by_cases hx : x1 = x2
        · subst hx
          refine fin_proj ha haM hM hg ?_ ?_
          · unfold slD
            rw [if_pos rfl, if_pos rfl]
            exact cg_trans (cg_mod a _) (cg_trans (cg_add (cg_mod a y1) (cg_mod a y2)) (cg_symm (cg_low haM)))
          · unfold slN
            rw [if_pos rfl, if_pos rfl]
            exact cg_add (cg_mul (cg_refl a 3) (cg_mul (cg_mod a x1) (cg_mod a x1))) (cg_mod a A)
        · have hx' : ¬ x1 % a = x2 % a := by
            intro e
            have h1 : a ∣ x2 - x1 := cg_iff.2 e.symm
            unfold slD at hg
            rw [if_neg hx] at hg
            have h2 := Int.dvd_coe_gcd h1 haM
            rw [hg] at h2
            have := Int.le_of_dvd (by omega) h2
            omega
          refine fin_proj ha haM hM hg ?_ ?_
          · unfold slD
            rw [if_neg hx, if_neg hx']
            exact cg_sub (cg_mod a x2) (cg_mod a x1)
          · unfold slN
            rw [if_neg hx, if_neg hx']
            exact cg_sub (cg_mod a y2) (cg_mod a y1)
theorem red_on {A B M a : Int} {P : Pt} (h3 : 3 < a) (ho : a % 2 = 1) (haM : a ∣ M) (hP : onB A B M P.x P.y P.i = true) : onB (A % a) (B % a) a (red a P).x (red a P).y (red a P).i = true := by
  obtain ⟨x, y, i⟩ := P
  obtain ⟨_, h1, h2⟩ := on_dvd hP
  have hc : curveB (A % a) (B % a) a = true := by
    have := Int.emod_nonneg A (show a ≠ 0 by omega)
    have := Int.emod_nonneg B (show a ≠ 0 by omega)
    have := Int.emod_lt_of_pos A (show 0 < a by omega)
    have := Int.emod_lt_of_pos B (show 0 < a by omega)
    simp only [curveB, resB, Bool.and_eq_true, decide_eq_true_eq]
    omega
  refine on_of hc (fun hi => ?_) fun hi => ?_
  · obtain ⟨g1, g2⟩ := h1 hi
    show x % a = 0 ∧ y % a = 0
    have g1' : x = 0 := g1
    have g2' : y = 0 := g2
    rw [g1', g2']
    exact ⟨Int.zero_emod a, Int.zero_emod a⟩
  · refine ⟨⟨Int.emod_nonneg _ (by omega), Int.emod_lt_of_pos _ (by omega), Int.emod_nonneg _ (by omega), Int.emod_lt_of_pos _ (by omega)⟩, ?_⟩
    have h4 : a ∣ y * y - ((x * x + A) * x + B) := Int.dvd_trans haM (h2 hi).2
    have h5 := on_cong h4 (cg_mod a x) (cg_mod a y)
    have h6 : a ∣ (y % a * (y % a) - (((x % a) * (x % a) + A % a) * (x % a) + B % a)) - (y % a * (y % a) - (((x % a) * (x % a) + A) * (x % a) + B)) := cg_sub (cg_refl a _) (cg_add (cg_mul (cg_add (cg_refl a _) (cg_mod a A)) (cg_refl a _)) (cg_mod a B))
    have e : y % a * (y % a) - (((x % a) * (x % a) + A % a) * (x % a) + B % a) = ((y % a * (y % a) - (((x % a) * (x % a) + A % a) * (x % a) + B % a)) - (y % a * (y % a) - (((x % a) * (x % a) + A) * (x % a) + B))) + (y % a * (y % a) - (((x % a) * (x % a) + A) * (x % a) + B)) := by omega
    show a ∣ y % a * (y % a) - (((x % a) * (x % a) + A % a) * (x % a) + B % a)
    rw [e]
    exact Int.dvd_add h6 h5
end Go.Proofs.Ytpkeeacdkkmknaa

/- Walk: the examples of layer 6's laws, reckoned. -/
namespace Go.Proofs.Ytpkeeacdkkmknaa
open Go Go.RowKit

def invC (D M : Int) : Option Nat := (List.range M.toNat).find? fun u => decide ((D * (u : Int)) % M = 1 % M)
def finC (M x1 y1 x2 N D : Int) : Pt × Int := if D = 0 then (⟨0, 0, true⟩, 0) else match invC D M with
  | some u => (⟨((N * u) % M * ((N * u) % M) - (x1 + x2)) % M, ((N * u) % M * (x1 - ((N * u) % M * ((N * u) % M) - (x1 + x2)) % M) - y1) % M, false⟩, 0)
  | none => (⟨0, 0, false⟩, (Int.gcd D M : Int))
theorem finC_eq {M x1 y1 x2 N D : Int} (hM : 0 < M) : finP M x1 y1 x2 N D = finC M x1 y1 x2 N D := by
  unfold finP finC
  by_cases h0 : D = 0
  · rw [if_pos h0, if_pos h0]
  · rw [if_neg h0, if_neg h0]
    cases hi : invC D M with
    | some u =>
      have h1 := List.find?_some hi
      have h2 := List.mem_of_find?_eq_some hi
      simp only [decide_eq_true_eq] at h1
      simp only [List.mem_range] at h2
      obtain ⟨h3, h4⟩ := inv_uniq hM (show (0 : Int) ≤ (u : Int) by omega) (show (u : Int) < M by omega) h1
      rw [if_pos h3]
      simp only [finX, finY, ← h4]
    | none =>
      have h1 := List.find?_eq_none.1 hi
      have h3 : ¬ Int.gcd D M = 1 := by
        intro h
        have h4 := bez_inv hM h
        have h5 := bez_spec (a := D) hM
        have h6 := bez_lt (a := D) hM
        refine h1 (bezU D M).toNat (by simp only [List.mem_range]; omega) ?_
        rw [show ((bezU D M).toNat : Int) = bezU D M by omega]
        exact decide_eq_true h4
      rw [if_neg h3]
def sumC (A M : Int) (P Q : Pt) : Pt × Int := if P.i then (Q, 0) else if Q.i then (P, 0) else finC M P.x P.y Q.x (slN A P.x P.y Q.x Q.y) (slD M P.x P.y Q.x Q.y)
theorem sumC_eq {A M : Int} {P Q : Pt} (hM : 0 < M) : sumP A M P Q = sumC A M P Q := by
  unfold sumP sumC
  rw [finC_eq hM]
def stepC (A M : Int) (P : Pt) (R : Pt × Int) (b : Bool) : Pt × Int := if R.2 = 0 then (if (sumC A M R.1 R.1).2 = 0 then (if b then sumC A M (sumC A M R.1 R.1).1 P else sumC A M R.1 R.1) else sumC A M R.1 R.1) else R
def mulC (A M : Int) (P : Pt) : Nat → Nat → Pt × Int
  | 0, _ => (⟨0, 0, true⟩, 0)
  | k + 1, m => stepC A M P (mulC A M P k (m / 2)) (decide (m % 2 = 1))
theorem mulC_eq {A M : Int} {P : Pt} (hM : 0 < M) : ∀ k m, mulP A M P k m = mulC A M P k m
  | 0, _ => rfl
  | k + 1, m => by
    rw [mulP, mulC, mulC_eq hM k, stepP, stepC]
    simp only [sumC_eq hM]
def addC (A B M : Int) (P Q : Pt) : Pt × Int × Int := if onB A B M P.x P.y P.i = true then (if onB A B M Q.x Q.y Q.i = true then (if (sumC A M P Q).2 = 0 then ((sumC A M P Q).1, 0, 0) else (⟨0, 0, false⟩, (sumC A M P Q).2, 6)) else (⟨0, 0, false⟩, 0, 1)) else (⟨0, 0, false⟩, 0, 1)
theorem addC_eq {A B M : Int} {P Q : Pt} (hM : 0 < M) : addS A B M P Q = addC A B M P Q := by
  unfold addS addC
  simp only [sumC_eq hM]
theorem timesC_eq {A B M : Int} {P : Pt} {k m : Nat} {n : Int} (hM : 0 < M) (hn : ¬ n < 0) (hk : nbits n = k) (hm : n.natAbs = m) (h : onB A B M P.x P.y P.i = true) {R : Pt × Int} (hR : mulC A M P k m = R) (h0 : R.2 = 0) : timesS A B M n P = (R.1, 0, 0) := by
  have e : timesP A M P n = R := by
    unfold timesP xjP
    rw [if_neg hn, hk, hm, Nat.sub_zero, Nat.pow_zero, Nat.div_one, mulC_eq hM, hR]
  unfold timesS
  rw [if_pos h, e, if_pos h0]
theorem ex6_two : addS 1 1 5 ⟨0, 1, false⟩ ⟨0, 1, false⟩ = (⟨4, 2, false⟩, 0, 0) := by rw [addC_eq (by decide)]; kernel_rfl
theorem ex6_none : addS 1 1 35 ⟨0, 1, false⟩ ⟨7, 6, false⟩ = (⟨0, 0, false⟩, 7, 6) := by rw [addC_eq (by decide)]; kernel_rfl
theorem ex6_bad : addS 1 1 5 ⟨1, 1, false⟩ ⟨0, 1, false⟩ = (⟨0, 0, false⟩, 0, 1) := by rw [addC_eq (by decide)]; kernel_rfl
theorem nbits_three : nbits 3 = 2 := by kernel_rfl
theorem nbits_nine : nbits 9 = 4 := by kernel_rfl
theorem ex6_three : timesS 1 1 5 3 ⟨0, 1, false⟩ = (⟨2, 1, false⟩, 0, 0) := timesC_eq (R := (⟨2, 1, false⟩, 0)) (by decide) (by decide) nbits_three rfl (by decide) (by kernel_rfl) rfl
theorem ex6_nine : timesS 1 1 5 9 ⟨0, 1, false⟩ = (⟨0, 0, true⟩, 0, 0) := timesC_eq (R := (⟨0, 0, true⟩, 0)) (by decide) (by decide) nbits_nine rfl (by decide) (by kernel_rfl) rfl
theorem lit5 {z : Int} (h : ab z < 4294967296 * 4294967296 * 4294967296) : ab z < pw 5 := Int.lt_of_lt_of_le (ab_lit h) (pw_le (by omega))
set_option maxRecDepth 100000 in
set_option maxHeartbeats 4000000 in
theorem exSixExamples (w : World) :
    Calls Try.prog 7 #[] w fun e w' => ∃ v', e = .returned v' ∧ Below w.heap.size w w' ∧ v' = .bool true := by
  have E := Fr.start w
  go_enter Try.func7, Try.ntmps7
  go_upto_region 1 with (fail)
  have B1 : Hid (ab ((1)) < pw 3) := ab_lit (by decide)
  have B2 : Hid (ab ((5)) < pw 3) := ab_lit (by decide)
  refine region_fr (C := [Fq.num (1), Fq.num (1), Fq.num (5), Fq.st [.n (1), .n (1), .n (5)], Fq.any, Fq.any]) (ks := []) (new := [⟨4, 5, 6, Fq.st [.n 0, .n 0, .n 0], Fq.st [.n (1), .n (1), .n (5)], none⟩]) E rfl (by kernel_rfl) rfl rfl (fun hp => ⟨?_, ?_, ?_, ?_, ?_, ?_, trivial⟩) ?_
  · exact q_call1 (F := (Fq.is (.int .i64 1)).P) hp (free_of rfl) trivial (enq_R_Of) (sq_const (fun _ => rfl)) (fun v w h => (by subst h; exact rOfK w (1) (by omega) (by omega)))
  · exact q_call1 (F := (Fq.is (.int .i64 1)).P) hp (free_of rfl) trivial (enq_R_Of) (sq_const (fun _ => rfl)) (fun v w h => (by subst h; exact rOfK w (1) (by omega) (by omega)))
  · exact q_call1 (F := (Fq.is (.int .i64 5)).P) hp (free_of rfl) trivial (enq_R_Of) (sq_const (fun _ => rfl)) (fun v w h => (by subst h; exact rOfK w (5) (by omega) (by omega)))
  · exact q_build_api_Mod_012 (z0 := (1)) (z1 := (1)) (z2 := (5)) hp (free_of rfl) trivial (sq_in 0 rfl rfl (by simp) rfl (fun v w h => h)) (sq_in 1 rfl rfl (by simp) rfl (fun v w h => h)) (sq_in 2 rfl rfl (by simp) rfl (fun v w h => h)) (fun v w h => h)
  · exact q_allocSt (us := [.bool false, .slice none 0 0, .bool false, .slice none 0 0, .bool false, .slice none 0 0]) (fs := [.n 0, .n 0, .n 0]) hp (List.mem_iff_getElem?.2 ⟨0, rfl⟩) rfl rfl rfl (Nat.lt_of_sub_eq_succ rfl) rfl fits0_api_Mod (fun ρ w => ralloc_api_Mod ρ w) rfl (Nat.ne_of_beq_eq_false rfl) (fun _ _ => trivial) (old_ne rfl) (newk_ne rfl)
  · exact q_storeNewSt (fs := [.n 0, .n 0, .n 0]) (gs := [.n (1), .n (1), .n (5)]) hp (List.mem_iff_getElem?.2 ⟨0, rfl⟩) rfl rfl rfl rfl size_api_Mod rfl (own_ptr rfl rfl (by simp) rfl) (sq_in 3 rfl rfl (by simp) rfl (fun v w h => fitv_st h)) (fun _ _ => trivial) (old_ne rfl) (newi_ne rfl)
  intro L vs w3 nb hL hC hn E3
  have e4 : vs 4 = .pointer (some ⟨nb 4, 0, none⟩) := hn _ (List.mem_iff_getElem?.2 ⟨0, rfl⟩)
  have E : Fr w [(nb 4, 6, Fq.st [.n (1), .n (1), .n (5)])] w3 := E3
  rw [lay_all hL]
  simp only [putAll, dstOf, List.length_cons, List.length_nil, Nat.zero_add, Nat.reduceAdd, List.getElem?_toArray, List.getElem?_cons_zero, List.getElem?_cons_succ, Option.bind_some, Act.put, List.setIfInBounds_toArray, List.set_cons_succ, List.set_cons_zero]
  rw [e4]
  generalize nb 4 = b3_4 at E ⊢
  generalize vs 0 = u3_0
  generalize vs 1 = u3_1
  generalize vs 2 = u3_2
  generalize vs 3 = u3_3
  clear e4 hC hn E3 hL vs L nb
  go_upto_region 2 with (fail)
  have B4 : Hid (ab ((35)) < pw 3) := ab_lit (by decide)
  refine region_fr (C := [Fq.num (1), Fq.num (1), Fq.num (35), Fq.st [.n (1), .n (1), .n (35)], Fq.any, Fq.any]) (ks := [none]) (new := [⟨4, 5, 6, Fq.st [.n 0, .n 0, .n 0], Fq.st [.n (1), .n (1), .n (35)], none⟩]) E rfl (by kernel_rfl) rfl rfl (fun hp => ⟨?_, ?_, ?_, ?_, ?_, ?_, trivial⟩) ?_
  · exact q_call1 (F := (Fq.is (.int .i64 1)).P) hp (free_of rfl) trivial (enq_R_Of) (sq_const (fun _ => rfl)) (fun v w h => (by subst h; exact rOfK w (1) (by omega) (by omega)))
  · exact q_call1 (F := (Fq.is (.int .i64 1)).P) hp (free_of rfl) trivial (enq_R_Of) (sq_const (fun _ => rfl)) (fun v w h => (by subst h; exact rOfK w (1) (by omega) (by omega)))
  · exact q_call1 (F := (Fq.is (.int .i64 35)).P) hp (free_of rfl) trivial (enq_R_Of) (sq_const (fun _ => rfl)) (fun v w h => (by subst h; exact rOfK w (35) (by omega) (by omega)))
  · exact q_build_api_Mod_012 (z0 := (1)) (z1 := (1)) (z2 := (35)) hp (free_of rfl) trivial (sq_in 0 rfl rfl (by simp) rfl (fun v w h => h)) (sq_in 1 rfl rfl (by simp) rfl (fun v w h => h)) (sq_in 2 rfl rfl (by simp) rfl (fun v w h => h)) (fun v w h => h)
  · exact q_allocSt (us := [.bool false, .slice none 0 0, .bool false, .slice none 0 0, .bool false, .slice none 0 0]) (fs := [.n 0, .n 0, .n 0]) hp (List.mem_iff_getElem?.2 ⟨0, rfl⟩) rfl rfl rfl (Nat.lt_of_sub_eq_succ rfl) rfl fits0_api_Mod (fun ρ w => ralloc_api_Mod ρ w) rfl (Nat.ne_of_beq_eq_false rfl) (fun _ _ => trivial) (old_ne rfl) (newk_ne rfl)
  · exact q_storeNewSt (fs := [.n 0, .n 0, .n 0]) (gs := [.n (1), .n (1), .n (35)]) hp (List.mem_iff_getElem?.2 ⟨0, rfl⟩) rfl rfl rfl rfl size_api_Mod rfl (own_ptr rfl rfl (by simp) rfl) (sq_in 3 rfl rfl (by simp) rfl (fun v w h => fitv_st h)) (fun _ _ => trivial) (old_ne rfl) (newi_ne rfl)
  intro L vs w5 nb hL hC hn E5
  have e4 : vs 4 = .pointer (some ⟨nb 4, 0, none⟩) := hn _ (List.mem_iff_getElem?.2 ⟨0, rfl⟩)
  have E : Fr w [(nb 4, 6, Fq.st [.n (1), .n (1), .n (35)]), (b3_4, 6, Fq.st [.n (1), .n (1), .n (5)])] w5 := E5
  rw [lay_all hL]
  simp only [putAll, dstOf, List.length_cons, List.length_nil, Nat.zero_add, Nat.reduceAdd, List.getElem?_toArray, List.getElem?_cons_zero, List.getElem?_cons_succ, Option.bind_some, Act.put, List.setIfInBounds_toArray, List.set_cons_succ, List.set_cons_zero]
  rw [e4]
  generalize nb 4 = b5_4 at E ⊢
  generalize vs 0 = u5_0
  generalize vs 1 = u5_1
  generalize vs 2 = u5_2
  generalize vs 3 = u5_3
  clear e4 hC hn E5 hL vs L nb
  go_upto_region 3 with (fail)
  refine region_fr (C := [Fq.st [.n (0), .n (1), .v (.bool false)], Fq.any, Fq.any]) (ks := [none, none]) (new := [⟨1, 2, 5, Fq.st [.n 0, .n 0, .v (.bool false)], Fq.st [.n (0), .n (1), .v (.bool false)], none⟩]) E rfl (by kernel_rfl) rfl rfl (fun hp => ⟨?_, ?_, ?_, trivial⟩) ?_
  · exact q_call2 (F := (Fq.is (.int .i64 0)).P) (G := (Fq.is (.int .i64 1)).P) hp (free_of rfl) trivial (enq_f_algorist_algoristlaw06_at) (sq_const (fun _ => rfl)) (sq_const (fun _ => rfl)) (fun v v' w h h' => (by subst h h'; exact exAt (x := 0) (y := 1) (by omega) (by omega)))
  · exact q_allocSt (us := [.bool false, .slice none 0 0, .bool false, .slice none 0 0, .bool false]) (fs := [.n 0, .n 0, .v (.bool false)]) hp (List.mem_iff_getElem?.2 ⟨0, rfl⟩) rfl rfl rfl (Nat.lt_of_sub_eq_succ rfl) rfl fits0_api_Point (fun ρ w => ralloc_api_Point ρ w) rfl (Nat.ne_of_beq_eq_false rfl) (fun _ _ => trivial) (old_ne rfl) (newk_ne rfl)
  · exact q_storeNewSt (fs := [.n 0, .n 0, .v (.bool false)]) (gs := [.n (0), .n (1), .v (.bool false)]) hp (List.mem_iff_getElem?.2 ⟨0, rfl⟩) rfl rfl rfl rfl size_api_Point rfl (own_ptr rfl rfl (by simp) rfl) (sq_in 0 rfl rfl (by simp) rfl (fun v w h => fitv_st h)) (fun _ _ => trivial) (old_ne rfl) (newi_ne rfl)
  intro L vs w6 nb hL hC hn E6
  have e1 : vs 1 = .pointer (some ⟨nb 1, 0, none⟩) := hn _ (List.mem_iff_getElem?.2 ⟨0, rfl⟩)
  have E : Fr w [(nb 1, 5, Fq.st [.n (0), .n (1), .v (.bool false)]), (b5_4, 6, Fq.st [.n (1), .n (1), .n (35)]), (b3_4, 6, Fq.st [.n (1), .n (1), .n (5)])] w6 := E6
  rw [lay_all hL]
  simp only [putAll, dstOf, List.length_cons, List.length_nil, Nat.zero_add, Nat.reduceAdd, List.getElem?_toArray, List.getElem?_cons_zero, List.getElem?_cons_succ, Option.bind_some, Act.put, List.setIfInBounds_toArray, List.set_cons_succ, List.set_cons_zero]
  rw [e1]
  generalize nb 1 = b6_1 at E ⊢
  generalize vs 0 = u6_0
  clear e1 hC hn E6 hL vs L nb
  go_upto_region 4 with (fail)
  have B7 : Hid (ab ((3)) < pw 3) := ab_lit (by decide)
  have B8 : Hid (ab ((9)) < pw 3) := ab_lit (by decide)
  refine region_fr (C := [Fq.st [.n (1), .n (1), .n (5)], Fq.st [.n (0), .n (1), .v (.bool false)], Fq.st [.n (0), .n (1), .v (.bool false)], Fq.st [.n (4), .n (2), .v (.bool false), .n (0), .v (.int .i64 0)], Fq.st [.n (1), .n (1), .n (5)], Fq.num (3), Fq.st [.n (0), .n (1), .v (.bool false)], Fq.st [.n (2), .n (1), .v (.bool false), .n (0), .v (.int .i64 0)], Fq.st [.n (1), .n (1), .n (5)], Fq.num (9), Fq.st [.n (0), .n (1), .v (.bool false)], Fq.st [.n (0), .n (0), .v (.bool true), .n (0), .v (.int .i64 0)], Fq.any, Fq.any, Fq.any, Fq.any, Fq.any, Fq.any]) (ks := [none, none, none]) (new := [⟨12, 15, 8, Fq.st [.n 0, .n 0, .v (.bool false), .n 0, .v (.int .i64 0)], Fq.st [.n (4), .n (2), .v (.bool false), .n (0), .v (.int .i64 0)], none⟩, ⟨13, 16, 8, Fq.st [.n 0, .n 0, .v (.bool false), .n 0, .v (.int .i64 0)], Fq.st [.n (2), .n (1), .v (.bool false), .n (0), .v (.int .i64 0)], none⟩, ⟨14, 17, 8, Fq.st [.n 0, .n 0, .v (.bool false), .n 0, .v (.int .i64 0)], Fq.st [.n (0), .n (0), .v (.bool true), .n (0), .v (.int .i64 0)], none⟩]) E rfl (by kernel_rfl) rfl rfl (fun hp => ⟨?_, ?_, ?_, ?_, ?_, ?_, ?_, ?_, ?_, ?_, ?_, ?_, ?_, ?_, ?_, ?_, ?_, ?_, trivial⟩) ?_
  · exact q_loadSt (off := 0) (l := 6) (fs := [.n (1), .n (1), .n (5)]) (gs := [.n (1), .n (1), .n (5)]) hp (free_of rfl) trivial (List.mem_iff_getElem?.2 ⟨2, rfl⟩) (.inl rfl) rfl row_api_Mod rfl (sq_out (s := 1) rfl rfl (fun _ _ => rfl)) (fun v w h => h)
  · exact q_loadSt (off := 0) (l := 5) (fs := [.n (0), .n (1), .v (.bool false)]) (gs := [.n (0), .n (1), .v (.bool false)]) hp (free_of rfl) trivial (List.mem_iff_getElem?.2 ⟨0, rfl⟩) (.inl rfl) rfl row_api_Point rfl (sq_out (s := 3) rfl rfl (fun _ _ => rfl)) (fun v w h => h)
  · exact q_loadSt (off := 0) (l := 5) (fs := [.n (0), .n (1), .v (.bool false)]) (gs := [.n (0), .n (1), .v (.bool false)]) hp (free_of rfl) trivial (List.mem_iff_getElem?.2 ⟨0, rfl⟩) (.inl rfl) rfl row_api_Point rfl (sq_out (s := 3) rfl rfl (fun _ _ => rfl)) (fun v w h => h)
  · exact q_call3 (F := (Fq.st [.n (1), .n (1), .n (5)]).P) (G := (Fq.st [.n (0), .n (1), .v (.bool false)]).P) (F3 := (Fq.st [.n (0), .n (1), .v (.bool false)]).P) hp (free_of rfl) trivial (enq_f_algorist_algoristlaw06_add) (sq_in 0 rfl rfl (by simp) rfl (fun v w h => h)) (sq_in 1 rfl rfl (by simp) rfl (fun v w h => h)) (sq_in 2 rfl rfl (by simp) rfl (fun v w h => h)) (fun v v' u w h h' g => exLAdd (P := ⟨(0), (1), false⟩) (Q := ⟨(0), (1), false⟩) (R := (⟨4, 2, false⟩, 0, 0)) h h' g (lit5 (by decide)) (lit5 (by decide)) (lit5 (by decide)) ⟨(lit5 (by decide)), (lit5 (by decide))⟩ ⟨(lit5 (by decide)), (lit5 (by decide))⟩ ex6_two)
  · exact q_loadSt (off := 0) (l := 6) (fs := [.n (1), .n (1), .n (5)]) (gs := [.n (1), .n (1), .n (5)]) hp (free_of rfl) trivial (List.mem_iff_getElem?.2 ⟨2, rfl⟩) (.inl rfl) rfl row_api_Mod rfl (sq_out (s := 1) rfl rfl (fun _ _ => rfl)) (fun v w h => h)
  · exact q_call1 (F := (Fq.is (.int .i64 3)).P) hp (free_of rfl) trivial (enq_R_Of) (sq_const (fun _ => rfl)) (fun v w h => (by subst h; exact rOfK w (3) (by omega) (by omega)))
  · exact q_loadSt (off := 0) (l := 5) (fs := [.n (0), .n (1), .v (.bool false)]) (gs := [.n (0), .n (1), .v (.bool false)]) hp (free_of rfl) trivial (List.mem_iff_getElem?.2 ⟨0, rfl⟩) (.inl rfl) rfl row_api_Point rfl (sq_out (s := 3) rfl rfl (fun _ _ => rfl)) (fun v w h => h)
  · exact q_call3 (F := (Fq.st [.n (1), .n (1), .n (5)]).P) (G := (Fq.num (3)).P) (F3 := (Fq.st [.n (0), .n (1), .v (.bool false)]).P) hp (free_of rfl) trivial (enq_f_algorist_algoristlaw06_times) (sq_in 4 rfl rfl (by simp) rfl (fun v w h => h)) (sq_in 5 rfl rfl (by simp) rfl (fun v w h => h)) (sq_in 6 rfl rfl (by simp) rfl (fun v w h => h)) (fun v v' u w h h' g => exLTimes (P := ⟨(0), (1), false⟩) (R := (⟨2, 1, false⟩, 0, 0)) h h' g (lit5 (by decide)) (lit5 (by decide)) (lit5 (by decide)) (Int.lt_of_lt_of_le (lit5 (by decide)) (pw_le (by omega))) ⟨(lit5 (by decide)), (lit5 (by decide))⟩ ex6_three)
  · exact q_loadSt (off := 0) (l := 6) (fs := [.n (1), .n (1), .n (5)]) (gs := [.n (1), .n (1), .n (5)]) hp (free_of rfl) trivial (List.mem_iff_getElem?.2 ⟨2, rfl⟩) (.inl rfl) rfl row_api_Mod rfl (sq_out (s := 1) rfl rfl (fun _ _ => rfl)) (fun v w h => h)
  · exact q_call1 (F := (Fq.is (.int .i64 9)).P) hp (free_of rfl) trivial (enq_R_Of) (sq_const (fun _ => rfl)) (fun v w h => (by subst h; exact rOfK w (9) (by omega) (by omega)))
  · exact q_loadSt (off := 0) (l := 5) (fs := [.n (0), .n (1), .v (.bool false)]) (gs := [.n (0), .n (1), .v (.bool false)]) hp (free_of rfl) trivial (List.mem_iff_getElem?.2 ⟨0, rfl⟩) (.inl rfl) rfl row_api_Point rfl (sq_out (s := 3) rfl rfl (fun _ _ => rfl)) (fun v w h => h)
  · exact q_call3 (F := (Fq.st [.n (1), .n (1), .n (5)]).P) (G := (Fq.num (9)).P) (F3 := (Fq.st [.n (0), .n (1), .v (.bool false)]).P) hp (free_of rfl) trivial (enq_f_algorist_algoristlaw06_times) (sq_in 8 rfl rfl (by simp) rfl (fun v w h => h)) (sq_in 9 rfl rfl (by simp) rfl (fun v w h => h)) (sq_in 10 rfl rfl (by simp) rfl (fun v w h => h)) (fun v v' u w h h' g => exLTimes (P := ⟨(0), (1), false⟩) (R := (⟨0, 0, true⟩, 0, 0)) h h' g (lit5 (by decide)) (lit5 (by decide)) (lit5 (by decide)) (Int.lt_of_lt_of_le (lit5 (by decide)) (pw_le (by omega))) ⟨(lit5 (by decide)), (lit5 (by decide))⟩ ex6_nine)
  · exact q_allocSt (us := [.bool false, .slice none 0 0, .bool false, .slice none 0 0, .bool false, .bool false, .slice none 0 0, .int .i64 0]) (fs := [.n 0, .n 0, .v (.bool false), .n 0, .v (.int .i64 0)]) hp (List.mem_iff_getElem?.2 ⟨0, rfl⟩) rfl rfl rfl (Nat.lt_of_sub_eq_succ rfl) rfl fits0_algoristref06_Sum (fun ρ w => ralloc_algoristref06_Sum ρ w) rfl (Nat.ne_of_beq_eq_false rfl) (fun _ _ => trivial) (old_ne rfl) (newk_ne rfl)
  · exact q_allocSt (us := [.bool false, .slice none 0 0, .bool false, .slice none 0 0, .bool false, .bool false, .slice none 0 0, .int .i64 0]) (fs := [.n 0, .n 0, .v (.bool false), .n 0, .v (.int .i64 0)]) hp (List.mem_iff_getElem?.2 ⟨1, rfl⟩) rfl rfl rfl (Nat.lt_of_sub_eq_succ rfl) rfl fits0_algoristref06_Sum (fun ρ w => ralloc_algoristref06_Sum ρ w) rfl (Nat.ne_of_beq_eq_false rfl) (fun _ _ => trivial) (old_ne rfl) (newk_ne rfl)
  · exact q_allocSt (us := [.bool false, .slice none 0 0, .bool false, .slice none 0 0, .bool false, .bool false, .slice none 0 0, .int .i64 0]) (fs := [.n 0, .n 0, .v (.bool false), .n 0, .v (.int .i64 0)]) hp (List.mem_iff_getElem?.2 ⟨2, rfl⟩) rfl rfl rfl (Nat.lt_of_sub_eq_succ rfl) rfl fits0_algoristref06_Sum (fun ρ w => ralloc_algoristref06_Sum ρ w) rfl (Nat.ne_of_beq_eq_false rfl) (fun _ _ => trivial) (old_ne rfl) (newk_ne rfl)
  · exact q_storeNewSt (fs := [.n 0, .n 0, .v (.bool false), .n 0, .v (.int .i64 0)]) (gs := [.n (4), .n (2), .v (.bool false), .n (0), .v (.int .i64 0)]) hp (List.mem_iff_getElem?.2 ⟨0, rfl⟩) rfl rfl rfl rfl size_algoristref06_Sum rfl (own_ptr rfl rfl (by simp) rfl) (sq_in 3 rfl rfl (by simp) rfl (fun v w h => fitv_st h)) (fun _ _ => trivial) (old_ne rfl) (newi_ne rfl)
  · exact q_storeNewSt (fs := [.n 0, .n 0, .v (.bool false), .n 0, .v (.int .i64 0)]) (gs := [.n (2), .n (1), .v (.bool false), .n (0), .v (.int .i64 0)]) hp (List.mem_iff_getElem?.2 ⟨1, rfl⟩) rfl rfl rfl rfl size_algoristref06_Sum rfl (own_ptr rfl rfl (by simp) rfl) (sq_in 7 rfl rfl (by simp) rfl (fun v w h => fitv_st h)) (fun _ _ => trivial) (old_ne rfl) (newi_ne rfl)
  · exact q_storeNewSt (fs := [.n 0, .n 0, .v (.bool false), .n 0, .v (.int .i64 0)]) (gs := [.n (0), .n (0), .v (.bool true), .n (0), .v (.int .i64 0)]) hp (List.mem_iff_getElem?.2 ⟨2, rfl⟩) rfl rfl rfl rfl size_algoristref06_Sum rfl (own_ptr rfl rfl (by simp) rfl) (sq_in 11 rfl rfl (by simp) rfl (fun v w h => fitv_st h)) (fun _ _ => trivial) (old_ne rfl) (newi_ne rfl)
  intro L vs w9 nb hL hC hn E9
  have e12 : vs 12 = .pointer (some ⟨nb 12, 0, none⟩) := hn _ (List.mem_iff_getElem?.2 ⟨0, rfl⟩)
  have e13 : vs 13 = .pointer (some ⟨nb 13, 0, none⟩) := hn _ (List.mem_iff_getElem?.2 ⟨1, rfl⟩)
  have e14 : vs 14 = .pointer (some ⟨nb 14, 0, none⟩) := hn _ (List.mem_iff_getElem?.2 ⟨2, rfl⟩)
  have E : Fr w [(nb 12, 8, Fq.st [.n (4), .n (2), .v (.bool false), .n (0), .v (.int .i64 0)]), (nb 13, 8, Fq.st [.n (2), .n (1), .v (.bool false), .n (0), .v (.int .i64 0)]), (nb 14, 8, Fq.st [.n (0), .n (0), .v (.bool true), .n (0), .v (.int .i64 0)]), (b6_1, 5, Fq.st [.n (0), .n (1), .v (.bool false)]), (b5_4, 6, Fq.st [.n (1), .n (1), .n (35)]), (b3_4, 6, Fq.st [.n (1), .n (1), .n (5)])] w9 := E9
  rw [lay_all hL]
  simp only [putAll, dstOf, List.length_cons, List.length_nil, Nat.zero_add, Nat.reduceAdd, List.getElem?_toArray, List.getElem?_cons_zero, List.getElem?_cons_succ, Option.bind_some, Act.put, List.setIfInBounds_toArray, List.set_cons_succ, List.set_cons_zero]
  rw [e12, e13, e14]
  generalize nb 12 = b9_12 at E ⊢
  generalize nb 13 = b9_13 at E ⊢
  generalize nb 14 = b9_14 at E ⊢
  generalize vs 0 = u9_0
  generalize vs 1 = u9_1
  generalize vs 2 = u9_2
  generalize vs 3 = u9_3
  generalize vs 4 = u9_4
  generalize vs 5 = u9_5
  generalize vs 6 = u9_6
  generalize vs 7 = u9_7
  generalize vs 8 = u9_8
  generalize vs 9 = u9_9
  generalize vs 10 = u9_10
  generalize vs 11 = u9_11
  clear e12 e13 e14 hC hn E9 hL vs L nb
  go_upto_region 5 with (fail)
  refine region_fr (C := [Fq.st [.n (1), .n (1), .n (35)], Fq.st [.n (0), .n (1), .v (.bool false)], Fq.st [.n (7), .n (6), .v (.bool false)], Fq.st [.n (0), .n (0), .v (.bool false), .n (7), .v (.int .i64 6)], Fq.any, Fq.any]) (ks := [none, none, none, none, none, none]) (new := [⟨4, 5, 8, Fq.st [.n 0, .n 0, .v (.bool false), .n 0, .v (.int .i64 0)], Fq.st [.n (0), .n (0), .v (.bool false), .n (7), .v (.int .i64 6)], none⟩]) E rfl (by kernel_rfl) rfl rfl (fun hp => ⟨?_, ?_, ?_, ?_, ?_, ?_, trivial⟩) ?_
  · exact q_loadSt (off := 0) (l := 6) (fs := [.n (1), .n (1), .n (35)]) (gs := [.n (1), .n (1), .n (35)]) hp (free_of rfl) trivial (List.mem_iff_getElem?.2 ⟨4, rfl⟩) (.inl rfl) rfl row_api_Mod rfl (sq_out (s := 2) rfl rfl (fun _ _ => rfl)) (fun v w h => h)
  · exact q_loadSt (off := 0) (l := 5) (fs := [.n (0), .n (1), .v (.bool false)]) (gs := [.n (0), .n (1), .v (.bool false)]) hp (free_of rfl) trivial (List.mem_iff_getElem?.2 ⟨3, rfl⟩) (.inl rfl) rfl row_api_Point rfl (sq_out (s := 3) rfl rfl (fun _ _ => rfl)) (fun v w h => h)
  · exact q_call2 (F := (Fq.is (.int .i64 7)).P) (G := (Fq.is (.int .i64 6)).P) hp (free_of rfl) trivial (enq_f_algorist_algoristlaw06_at) (sq_const (fun _ => rfl)) (sq_const (fun _ => rfl)) (fun v v' w h h' => (by subst h h'; exact exAt (x := 7) (y := 6) (by omega) (by omega)))
  · exact q_call3 (F := (Fq.st [.n (1), .n (1), .n (35)]).P) (G := (Fq.st [.n (0), .n (1), .v (.bool false)]).P) (F3 := (Fq.st [.n (7), .n (6), .v (.bool false)]).P) hp (free_of rfl) trivial (enq_f_algorist_algoristlaw06_add) (sq_in 0 rfl rfl (by simp) rfl (fun v w h => h)) (sq_in 1 rfl rfl (by simp) rfl (fun v w h => h)) (sq_in 2 rfl rfl (by simp) rfl (fun v w h => h)) (fun v v' u w h h' g => exLAdd (P := ⟨(0), (1), false⟩) (Q := ⟨(7), (6), false⟩) (R := (⟨0, 0, false⟩, 7, 6)) h h' g (lit5 (by decide)) (lit5 (by decide)) (lit5 (by decide)) ⟨(lit5 (by decide)), (lit5 (by decide))⟩ ⟨(lit5 (by decide)), (lit5 (by decide))⟩ ex6_none)
  · exact q_allocSt (us := [.bool false, .slice none 0 0, .bool false, .slice none 0 0, .bool false, .bool false, .slice none 0 0, .int .i64 0]) (fs := [.n 0, .n 0, .v (.bool false), .n 0, .v (.int .i64 0)]) hp (List.mem_iff_getElem?.2 ⟨0, rfl⟩) rfl rfl rfl (Nat.lt_of_sub_eq_succ rfl) rfl fits0_algoristref06_Sum (fun ρ w => ralloc_algoristref06_Sum ρ w) rfl (Nat.ne_of_beq_eq_false rfl) (fun _ _ => trivial) (old_ne rfl) (newk_ne rfl)
  · exact q_storeNewSt (fs := [.n 0, .n 0, .v (.bool false), .n 0, .v (.int .i64 0)]) (gs := [.n (0), .n (0), .v (.bool false), .n (7), .v (.int .i64 6)]) hp (List.mem_iff_getElem?.2 ⟨0, rfl⟩) rfl rfl rfl rfl size_algoristref06_Sum rfl (own_ptr rfl rfl (by simp) rfl) (sq_in 3 rfl rfl (by simp) rfl (fun v w h => fitv_st h)) (fun _ _ => trivial) (old_ne rfl) (newi_ne rfl)
  intro L vs w10 nb hL hC hn E10
  have e4 : vs 4 = .pointer (some ⟨nb 4, 0, none⟩) := hn _ (List.mem_iff_getElem?.2 ⟨0, rfl⟩)
  have E : Fr w [(nb 4, 8, Fq.st [.n (0), .n (0), .v (.bool false), .n (7), .v (.int .i64 6)]), (b9_12, 8, Fq.st [.n (4), .n (2), .v (.bool false), .n (0), .v (.int .i64 0)]), (b9_13, 8, Fq.st [.n (2), .n (1), .v (.bool false), .n (0), .v (.int .i64 0)]), (b9_14, 8, Fq.st [.n (0), .n (0), .v (.bool true), .n (0), .v (.int .i64 0)]), (b6_1, 5, Fq.st [.n (0), .n (1), .v (.bool false)]), (b5_4, 6, Fq.st [.n (1), .n (1), .n (35)]), (b3_4, 6, Fq.st [.n (1), .n (1), .n (5)])] w10 := E10
  rw [lay_all hL]
  simp only [putAll, dstOf, List.length_cons, List.length_nil, Nat.zero_add, Nat.reduceAdd, List.getElem?_toArray, List.getElem?_cons_zero, List.getElem?_cons_succ, Option.bind_some, Act.put, List.setIfInBounds_toArray, List.set_cons_succ, List.set_cons_zero]
  rw [e4]
  generalize nb 4 = b10_4 at E ⊢
  generalize vs 0 = u10_0
  generalize vs 1 = u10_1
  generalize vs 2 = u10_2
  generalize vs 3 = u10_3
  clear e4 hC hn E10 hL vs L nb
  go_upto_region 6 with (fail)
  refine region_fr (C := [Fq.st [.n (1), .n (1), .n (5)], Fq.st [.n (1), .n (1), .v (.bool false)], Fq.st [.n (0), .n (1), .v (.bool false)], Fq.st [.n (0), .n (0), .v (.bool false), .n (0), .v (.int .i64 1)], Fq.any, Fq.any]) (ks := [none, none, none, none, none, none, none]) (new := [⟨4, 5, 8, Fq.st [.n 0, .n 0, .v (.bool false), .n 0, .v (.int .i64 0)], Fq.st [.n (0), .n (0), .v (.bool false), .n (0), .v (.int .i64 1)], none⟩]) E rfl (by kernel_rfl) rfl rfl (fun hp => ⟨?_, ?_, ?_, ?_, ?_, ?_, trivial⟩) ?_
  · exact q_loadSt (off := 0) (l := 6) (fs := [.n (1), .n (1), .n (5)]) (gs := [.n (1), .n (1), .n (5)]) hp (free_of rfl) trivial (List.mem_iff_getElem?.2 ⟨6, rfl⟩) (.inl rfl) rfl row_api_Mod rfl (sq_out (s := 1) rfl rfl (fun _ _ => rfl)) (fun v w h => h)
  · exact q_call2 (F := (Fq.is (.int .i64 1)).P) (G := (Fq.is (.int .i64 1)).P) hp (free_of rfl) trivial (enq_f_algorist_algoristlaw06_at) (sq_const (fun _ => rfl)) (sq_const (fun _ => rfl)) (fun v v' w h h' => (by subst h h'; exact exAt (x := 1) (y := 1) (by omega) (by omega)))
  · exact q_loadSt (off := 0) (l := 5) (fs := [.n (0), .n (1), .v (.bool false)]) (gs := [.n (0), .n (1), .v (.bool false)]) hp (free_of rfl) trivial (List.mem_iff_getElem?.2 ⟨4, rfl⟩) (.inl rfl) rfl row_api_Point rfl (sq_out (s := 3) rfl rfl (fun _ _ => rfl)) (fun v w h => h)
  · exact q_call3 (F := (Fq.st [.n (1), .n (1), .n (5)]).P) (G := (Fq.st [.n (1), .n (1), .v (.bool false)]).P) (F3 := (Fq.st [.n (0), .n (1), .v (.bool false)]).P) hp (free_of rfl) trivial (enq_f_algorist_algoristlaw06_add) (sq_in 0 rfl rfl (by simp) rfl (fun v w h => h)) (sq_in 1 rfl rfl (by simp) rfl (fun v w h => h)) (sq_in 2 rfl rfl (by simp) rfl (fun v w h => h)) (fun v v' u w h h' g => exLAdd (P := ⟨(1), (1), false⟩) (Q := ⟨(0), (1), false⟩) (R := (⟨0, 0, false⟩, 0, 1)) h h' g (lit5 (by decide)) (lit5 (by decide)) (lit5 (by decide)) ⟨(lit5 (by decide)), (lit5 (by decide))⟩ ⟨(lit5 (by decide)), (lit5 (by decide))⟩ ex6_bad)
  · exact q_allocSt (us := [.bool false, .slice none 0 0, .bool false, .slice none 0 0, .bool false, .bool false, .slice none 0 0, .int .i64 0]) (fs := [.n 0, .n 0, .v (.bool false), .n 0, .v (.int .i64 0)]) hp (List.mem_iff_getElem?.2 ⟨0, rfl⟩) rfl rfl rfl (Nat.lt_of_sub_eq_succ rfl) rfl fits0_algoristref06_Sum (fun ρ w => ralloc_algoristref06_Sum ρ w) rfl (Nat.ne_of_beq_eq_false rfl) (fun _ _ => trivial) (old_ne rfl) (newk_ne rfl)
  · exact q_storeNewSt (fs := [.n 0, .n 0, .v (.bool false), .n 0, .v (.int .i64 0)]) (gs := [.n (0), .n (0), .v (.bool false), .n (0), .v (.int .i64 1)]) hp (List.mem_iff_getElem?.2 ⟨0, rfl⟩) rfl rfl rfl rfl size_algoristref06_Sum rfl (own_ptr rfl rfl (by simp) rfl) (sq_in 3 rfl rfl (by simp) rfl (fun v w h => fitv_st h)) (fun _ _ => trivial) (old_ne rfl) (newi_ne rfl)
  intro L vs w11 nb hL hC hn E11
  have e4 : vs 4 = .pointer (some ⟨nb 4, 0, none⟩) := hn _ (List.mem_iff_getElem?.2 ⟨0, rfl⟩)
  have E : Fr w [(nb 4, 8, Fq.st [.n (0), .n (0), .v (.bool false), .n (0), .v (.int .i64 1)]), (b10_4, 8, Fq.st [.n (0), .n (0), .v (.bool false), .n (7), .v (.int .i64 6)]), (b9_12, 8, Fq.st [.n (4), .n (2), .v (.bool false), .n (0), .v (.int .i64 0)]), (b9_13, 8, Fq.st [.n (2), .n (1), .v (.bool false), .n (0), .v (.int .i64 0)]), (b9_14, 8, Fq.st [.n (0), .n (0), .v (.bool true), .n (0), .v (.int .i64 0)]), (b6_1, 5, Fq.st [.n (0), .n (1), .v (.bool false)]), (b5_4, 6, Fq.st [.n (1), .n (1), .n (35)]), (b3_4, 6, Fq.st [.n (1), .n (1), .n (5)])] w11 := E11
  rw [lay_all hL]
  simp only [putAll, dstOf, List.length_cons, List.length_nil, Nat.zero_add, Nat.reduceAdd, List.getElem?_toArray, List.getElem?_cons_zero, List.getElem?_cons_succ, Option.bind_some, Act.put, List.setIfInBounds_toArray, List.set_cons_succ, List.set_cons_zero]
  rw [e4]
  generalize nb 4 = b11_4 at E ⊢
  generalize vs 0 = u11_0
  generalize vs 1 = u11_1
  generalize vs 2 = u11_2
  generalize vs 3 = u11_3
  clear e4 hC hn E11 hL vs L nb
  go_upto_region 7 with (fail)
  refine region_fr (C := [Fq.st [.n (1), .n (1), .n (5)], Fq.st [.n (0), .n (1), .v (.bool false)], Fq.tup2 (Fq.st [.n (0), .n (4), .v (.bool false)]) (Fq.is (.int .i64 0)), Fq.tup2 (Fq.st [.n (0), .n (4), .v (.bool false)]) (Fq.is (.int .i64 0)), Fq.st [.n (0), .n (4), .v (.bool false)], Fq.is (.int .i64 0), Fq.any, Fq.any, Fq.is (.int .i64 0)]) (ks := [none, none, none, none, none, none, none, none]) (new := [⟨6, 7, 5, Fq.st [.n 0, .n 0, .v (.bool false)], Fq.st [.n (0), .n (4), .v (.bool false)], none⟩]) E rfl (by kernel_rfl) rfl rfl (fun hp => ⟨?_, ?_, ?_, ?_, ?_, ?_, ?_, ?_, ?_, trivial⟩) ?_
  · exact q_loadSt (off := 0) (l := 6) (fs := [.n (1), .n (1), .n (5)]) (gs := [.n (1), .n (1), .n (5)]) hp (free_of rfl) trivial (List.mem_iff_getElem?.2 ⟨7, rfl⟩) (.inl rfl) rfl row_api_Mod rfl (sq_out (s := 1) rfl rfl (fun _ _ => rfl)) (fun v w h => h)
  · exact q_loadSt (off := 0) (l := 5) (fs := [.n (0), .n (1), .v (.bool false)]) (gs := [.n (0), .n (1), .v (.bool false)]) hp (free_of rfl) trivial (List.mem_iff_getElem?.2 ⟨5, rfl⟩) (.inl rfl) rfl row_api_Point rfl (sq_out (s := 3) rfl rfl (fun _ _ => rfl)) (fun v w h => h)
  · exact q_call2 (F := (Fq.st [.n (1), .n (1), .n (5)]).P) (G := (Fq.st [.n (0), .n (1), .v (.bool false)]).P) hp (free_of rfl) trivial (enq_f_algorist_point_Neg) (sq_in 0 rfl rfl (by simp) rfl (fun v w h => h)) (sq_in 1 rfl rfl (by simp) rfl (fun v w h => h)) (fun v v' w h h' => exNegN (P := ⟨0, 1, false⟩) h h' (lit5 (by decide)) (lit5 (by decide)) (lit5 (by decide)) ⟨(lit5 (by decide)), (lit5 (by decide))⟩ (by decide))
  · exact q_move hp (free_of rfl) trivial (sq_in 2 rfl rfl (by simp) rfl (fun v w h => h))
  · exact q_extract2 hp (free_of rfl) trivial (sq_in 3 rfl rfl (by simp) rfl (fun v w h => h)) (fun v1 v2 w h1 h2 => ⟨_, rfl, h1⟩)
  · exact q_extract2 hp (free_of rfl) trivial (sq_in 3 rfl rfl (by simp) rfl (fun v w h => h)) (fun v1 v2 w h1 h2 => ⟨_, rfl, h2⟩)
  · exact q_allocSt (us := [.bool false, .slice none 0 0, .bool false, .slice none 0 0, .bool false]) (fs := [.n 0, .n 0, .v (.bool false)]) hp (List.mem_iff_getElem?.2 ⟨0, rfl⟩) rfl rfl rfl (Nat.lt_of_sub_eq_succ rfl) rfl fits0_api_Point (fun ρ w => ralloc_api_Point ρ w) rfl (Nat.ne_of_beq_eq_false rfl) (fun _ _ => trivial) (old_ne rfl) (newk_ne rfl)
  · exact q_storeNewSt (fs := [.n 0, .n 0, .v (.bool false)]) (gs := [.n (0), .n (4), .v (.bool false)]) hp (List.mem_iff_getElem?.2 ⟨0, rfl⟩) rfl rfl rfl rfl size_api_Point rfl (own_ptr rfl rfl (by simp) rfl) (sq_in 4 rfl rfl (by simp) rfl (fun v w h => fitv_st h)) (fun _ _ => trivial) (old_ne rfl) (newi_ne rfl)
  · exact q_assign hp (free_of rfl) trivial (sq_in 5 rfl rfl (by simp) rfl (fun v w h => h))
  intro L vs w12 nb hL hC hn E12
  have e5 : vs 5 = .int .i64 0 := hC 5 (by simp)
  have e8 : vs 8 = .int .i64 0 := hC 8 (by simp)
  have e6 : vs 6 = .pointer (some ⟨nb 6, 0, none⟩) := hn _ (List.mem_iff_getElem?.2 ⟨0, rfl⟩)
  have E : Fr w [(nb 6, 5, Fq.st [.n (0), .n (4), .v (.bool false)]), (b11_4, 8, Fq.st [.n (0), .n (0), .v (.bool false), .n (0), .v (.int .i64 1)]), (b10_4, 8, Fq.st [.n (0), .n (0), .v (.bool false), .n (7), .v (.int .i64 6)]), (b9_12, 8, Fq.st [.n (4), .n (2), .v (.bool false), .n (0), .v (.int .i64 0)]), (b9_13, 8, Fq.st [.n (2), .n (1), .v (.bool false), .n (0), .v (.int .i64 0)]), (b9_14, 8, Fq.st [.n (0), .n (0), .v (.bool true), .n (0), .v (.int .i64 0)]), (b6_1, 5, Fq.st [.n (0), .n (1), .v (.bool false)]), (b5_4, 6, Fq.st [.n (1), .n (1), .n (35)]), (b3_4, 6, Fq.st [.n (1), .n (1), .n (5)])] w12 := E12
  rw [lay_all hL]
  simp only [putAll, dstOf, List.length_cons, List.length_nil, Nat.zero_add, Nat.reduceAdd, List.getElem?_toArray, List.getElem?_cons_zero, List.getElem?_cons_succ, Option.bind_some, Act.put, List.setIfInBounds_toArray, List.set_cons_succ, List.set_cons_zero]
  rw [e5, e8, e6]
  generalize nb 6 = b12_6 at E ⊢
  generalize vs 0 = u12_0
  generalize vs 1 = u12_1
  generalize vs 2 = u12_2
  generalize vs 3 = u12_3
  generalize vs 4 = u12_4
  clear e5 e8 e6 hC hn E12 hL vs L nb
  go_upto_region 8 with (fail)
  refine region_fr (C := [Fq.is (.pointer (some ⟨b9_12, 7, none⟩)), Fq.is (.int .i64 0), Fq.is (.bool false), Fq.is (.bool false), Fq.is (.pointer (some ⟨b9_13, 7, none⟩)), Fq.is (.int .i64 0), Fq.is (.bool false), Fq.is (.bool false), Fq.is (.bool false), Fq.is (.pointer (some ⟨b9_14, 7, none⟩)), Fq.is (.int .i64 0), Fq.is (.bool false), Fq.is (.bool false), Fq.is (.bool false), Fq.is (.pointer (some ⟨b10_4, 7, none⟩)), Fq.is (.int .i64 6), Fq.is (.bool false), Fq.is (.bool false), Fq.is (.bool false), Fq.is (.pointer (some ⟨b11_4, 7, none⟩)), Fq.is (.int .i64 1), Fq.is (.bool false), Fq.is (.bool false), Fq.is (.bool false), Fq.is (.int .i64 0), Fq.is (.bool false), Fq.is (.bool false)]) (ks := [none, none, none, none, none, none, none, none, none]) (new := []) E rfl (by kernel_rfl) rfl rfl (fun hp => ⟨?_, ?_, ?_, ?_, ?_, ?_, ?_, ?_, ?_, ?_, ?_, ?_, ?_, ?_, ?_, ?_, ?_, ?_, ?_, ?_, ?_, ?_, ?_, ?_, ?_, ?_, ?_, trivial⟩) ?_
  · exact q_addr (b := b9_12) (off := 0) (off' := 7) hp (free_of rfl) trivial (sq_out (s := 4) rfl rfl (fun _ _ => rfl)) (fun ρ w h => by simp [execOp, go_sem, h]) (fun _ => rfl)
  · exact q_load1 (off := 7) (fs := [.n (4), .n (2), .v (.bool false), .n (0), .v (.int .i64 0)]) (u := .int .i64 0) hp (free_of rfl) trivial (List.mem_iff_getElem?.2 ⟨3, rfl⟩) (.inl rfl) rfl rfl (fun ρ w b h1 h2 => by simp [execOp, go_sem, h1, h2]) (sq_in 0 rfl rfl (by simp) rfl (fun v w h => h)) (fun _ => rfl)
  · exact q_one (F := fun v _ => v = .int .i64 0) hp (free_of rfl) trivial (sq_in 1 rfl rfl (by simp) rfl (fun v w h => h)) (fun ρ w hc h => ⟨.bool false, by simp [execOp, go_sem, h, hc], rfl⟩)
  · exact q_move hp (free_of rfl) trivial (sq_in 2 rfl rfl (by simp) rfl (fun v w h => h))
  · exact q_addr (b := b9_13) (off := 0) (off' := 7) hp (free_of rfl) (gq_some rfl rfl (by simp) rfl (fun v w h => h)) (sq_out (s := 5) rfl rfl (fun _ _ => rfl)) (fun ρ w h => by simp [execOp, go_sem, h]) (fun _ => rfl)
  · exact q_load1 (off := 7) (fs := [.n (2), .n (1), .v (.bool false), .n (0), .v (.int .i64 0)]) (u := .int .i64 0) hp (free_of rfl) (gq_some rfl rfl (by simp) rfl (fun v w h => h)) (List.mem_iff_getElem?.2 ⟨4, rfl⟩) (.inl rfl) rfl rfl (fun ρ w b h1 h2 => by simp [execOp, go_sem, h1, h2]) (sq_in 4 rfl rfl (by simp) rfl (fun v w h => h)) (fun _ => rfl)
  · exact q_one (F := fun v _ => v = .int .i64 0) hp (free_of rfl) (gq_some rfl rfl (by simp) rfl (fun v w h => h)) (sq_in 5 rfl rfl (by simp) rfl (fun v w h => h)) (fun ρ w hc h => ⟨.bool false, by simp [execOp, go_sem, h, hc], rfl⟩)
  · exact q_two (F := fun v _ => v = .bool false) (G := fun v _ => v = .bool false) hp (free_of rfl) trivial (sq_in 3 rfl rfl (by simp) rfl (fun v w h => h)) (sq_in 6 rfl rfl (by simp) rfl (fun v w h => h)) (fun ρ w hc h h' => ⟨_, by simp [execOp, go_sem, h, h'], rfl⟩)
  · exact q_move hp (free_of rfl) trivial (sq_in 7 rfl rfl (by simp) rfl (fun v w h => h))
  · exact q_addr (b := b9_14) (off := 0) (off' := 7) hp (free_of rfl) (gq_some rfl rfl (by simp) rfl (fun v w h => h)) (sq_out (s := 6) rfl rfl (fun _ _ => rfl)) (fun ρ w h => by simp [execOp, go_sem, h]) (fun _ => rfl)
  · exact q_load1 (off := 7) (fs := [.n (0), .n (0), .v (.bool true), .n (0), .v (.int .i64 0)]) (u := .int .i64 0) hp (free_of rfl) (gq_some rfl rfl (by simp) rfl (fun v w h => h)) (List.mem_iff_getElem?.2 ⟨5, rfl⟩) (.inl rfl) rfl rfl (fun ρ w b h1 h2 => by simp [execOp, go_sem, h1, h2]) (sq_in 9 rfl rfl (by simp) rfl (fun v w h => h)) (fun _ => rfl)
  · exact q_one (F := fun v _ => v = .int .i64 0) hp (free_of rfl) (gq_some rfl rfl (by simp) rfl (fun v w h => h)) (sq_in 10 rfl rfl (by simp) rfl (fun v w h => h)) (fun ρ w hc h => ⟨.bool false, by simp [execOp, go_sem, h, hc], rfl⟩)
  · exact q_two (F := fun v _ => v = .bool false) (G := fun v _ => v = .bool false) hp (free_of rfl) trivial (sq_in 8 rfl rfl (by simp) rfl (fun v w h => h)) (sq_in 11 rfl rfl (by simp) rfl (fun v w h => h)) (fun ρ w hc h h' => ⟨_, by simp [execOp, go_sem, h, h'], rfl⟩)
  · exact q_move hp (free_of rfl) trivial (sq_in 12 rfl rfl (by simp) rfl (fun v w h => h))
  · exact q_addr (b := b10_4) (off := 0) (off' := 7) hp (free_of rfl) (gq_some rfl rfl (by simp) rfl (fun v w h => h)) (sq_out (s := 7) rfl rfl (fun _ _ => rfl)) (fun ρ w h => by simp [execOp, go_sem, h]) (fun _ => rfl)
  · exact q_load1 (off := 7) (fs := [.n (0), .n (0), .v (.bool false), .n (7), .v (.int .i64 6)]) (u := .int .i64 6) hp (free_of rfl) (gq_some rfl rfl (by simp) rfl (fun v w h => h)) (List.mem_iff_getElem?.2 ⟨2, rfl⟩) (.inl rfl) rfl rfl (fun ρ w b h1 h2 => by simp [execOp, go_sem, h1, h2]) (sq_in 14 rfl rfl (by simp) rfl (fun v w h => h)) (fun _ => rfl)
  · exact q_one (F := fun v _ => v = .int .i64 6) hp (free_of rfl) (gq_some rfl rfl (by simp) rfl (fun v w h => h)) (sq_in 15 rfl rfl (by simp) rfl (fun v w h => h)) (fun ρ w hc h => ⟨.bool false, by simp [execOp, go_sem, h, hc], rfl⟩)
  · exact q_two (F := fun v _ => v = .bool false) (G := fun v _ => v = .bool false) hp (free_of rfl) trivial (sq_in 13 rfl rfl (by simp) rfl (fun v w h => h)) (sq_in 16 rfl rfl (by simp) rfl (fun v w h => h)) (fun ρ w hc h h' => ⟨_, by simp [execOp, go_sem, h, h'], rfl⟩)
  · exact q_move hp (free_of rfl) trivial (sq_in 17 rfl rfl (by simp) rfl (fun v w h => h))
  · exact q_addr (b := b11_4) (off := 0) (off' := 7) hp (free_of rfl) (gq_some rfl rfl (by simp) rfl (fun v w h => h)) (sq_out (s := 8) rfl rfl (fun _ _ => rfl)) (fun ρ w h => by simp [execOp, go_sem, h]) (fun _ => rfl)
  · exact q_load1 (off := 7) (fs := [.n (0), .n (0), .v (.bool false), .n (0), .v (.int .i64 1)]) (u := .int .i64 1) hp (free_of rfl) (gq_some rfl rfl (by simp) rfl (fun v w h => h)) (List.mem_iff_getElem?.2 ⟨1, rfl⟩) (.inl rfl) rfl rfl (fun ρ w b h1 h2 => by simp [execOp, go_sem, h1, h2]) (sq_in 19 rfl rfl (by simp) rfl (fun v w h => h)) (fun _ => rfl)
  · exact q_one (F := fun v _ => v = .int .i64 1) hp (free_of rfl) (gq_some rfl rfl (by simp) rfl (fun v w h => h)) (sq_in 20 rfl rfl (by simp) rfl (fun v w h => h)) (fun ρ w hc h => ⟨.bool false, by simp [execOp, go_sem, h, hc], rfl⟩)
  · exact q_two (F := fun v _ => v = .bool false) (G := fun v _ => v = .bool false) hp (free_of rfl) trivial (sq_in 18 rfl rfl (by simp) rfl (fun v w h => h)) (sq_in 21 rfl rfl (by simp) rfl (fun v w h => h)) (fun ρ w hc h h' => ⟨_, by simp [execOp, go_sem, h, h'], rfl⟩)
  · exact q_move hp (free_of rfl) trivial (sq_in 22 rfl rfl (by simp) rfl (fun v w h => h))
  · exact q_move hp (free_of rfl) (gq_some rfl rfl (by simp) rfl (fun v w h => h)) (sq_out (s := 10) rfl rfl (fun _ _ => rfl))
  · exact q_one (F := fun v _ => v = .int .i64 0) hp (free_of rfl) (gq_some rfl rfl (by simp) rfl (fun v w h => h)) (sq_in 24 rfl rfl (by simp) rfl (fun v w h => h)) (fun ρ w hc h => ⟨.bool false, by simp [execOp, go_sem, h, hc], rfl⟩)
  · exact q_two (F := fun v _ => v = .bool false) (G := fun v _ => v = .bool false) hp (free_of rfl) trivial (sq_in 23 rfl rfl (by simp) rfl (fun v w h => h)) (sq_in 25 rfl rfl (by simp) rfl (fun v w h => h)) (fun ρ w hc h h' => ⟨_, by simp [execOp, go_sem, h, h'], rfl⟩)
  intro L vs w13 nb hL hC hn E13
  have e0 : vs 0 = .pointer (some ⟨b9_12, 7, none⟩) := hC 0 (by simp)
  have e1 : vs 1 = .int .i64 0 := hC 1 (by simp)
  have e2 : vs 2 = .bool false := hC 2 (by simp)
  have e3 : vs 3 = .bool false := hC 3 (by simp)
  have e4 : vs 4 = .pointer (some ⟨b9_13, 7, none⟩) := hC 4 (by simp)
  have e5 : vs 5 = .int .i64 0 := hC 5 (by simp)
  have e6 : vs 6 = .bool false := hC 6 (by simp)
  have e7 : vs 7 = .bool false := hC 7 (by simp)
  have e8 : vs 8 = .bool false := hC 8 (by simp)
  have e9 : vs 9 = .pointer (some ⟨b9_14, 7, none⟩) := hC 9 (by simp)
  have e10 : vs 10 = .int .i64 0 := hC 10 (by simp)
  have e11 : vs 11 = .bool false := hC 11 (by simp)
  have e12 : vs 12 = .bool false := hC 12 (by simp)
  have e13 : vs 13 = .bool false := hC 13 (by simp)
  have e14 : vs 14 = .pointer (some ⟨b10_4, 7, none⟩) := hC 14 (by simp)
  have e15 : vs 15 = .int .i64 6 := hC 15 (by simp)
  have e16 : vs 16 = .bool false := hC 16 (by simp)
  have e17 : vs 17 = .bool false := hC 17 (by simp)
  have e18 : vs 18 = .bool false := hC 18 (by simp)
  have e19 : vs 19 = .pointer (some ⟨b11_4, 7, none⟩) := hC 19 (by simp)
  have e20 : vs 20 = .int .i64 1 := hC 20 (by simp)
  have e21 : vs 21 = .bool false := hC 21 (by simp)
  have e22 : vs 22 = .bool false := hC 22 (by simp)
  have e23 : vs 23 = .bool false := hC 23 (by simp)
  have e24 : vs 24 = .int .i64 0 := hC 24 (by simp)
  have e25 : vs 25 = .bool false := hC 25 (by simp)
  have e26 : vs 26 = .bool false := hC 26 (by simp)
  have E : Fr w [(b12_6, 5, Fq.st [.n (0), .n (4), .v (.bool false)]), (b11_4, 8, Fq.st [.n (0), .n (0), .v (.bool false), .n (0), .v (.int .i64 1)]), (b10_4, 8, Fq.st [.n (0), .n (0), .v (.bool false), .n (7), .v (.int .i64 6)]), (b9_12, 8, Fq.st [.n (4), .n (2), .v (.bool false), .n (0), .v (.int .i64 0)]), (b9_13, 8, Fq.st [.n (2), .n (1), .v (.bool false), .n (0), .v (.int .i64 0)]), (b9_14, 8, Fq.st [.n (0), .n (0), .v (.bool true), .n (0), .v (.int .i64 0)]), (b6_1, 5, Fq.st [.n (0), .n (1), .v (.bool false)]), (b5_4, 6, Fq.st [.n (1), .n (1), .n (35)]), (b3_4, 6, Fq.st [.n (1), .n (1), .n (5)])] w13 := E13
  rw [lay_all hL]
  simp only [putAll, dstOf, List.length_cons, List.length_nil, Nat.zero_add, Nat.reduceAdd, List.getElem?_toArray, List.getElem?_cons_zero, List.getElem?_cons_succ, Option.bind_some, Act.put, List.setIfInBounds_toArray, List.set_cons_succ, List.set_cons_zero]
  rw [e0, e1, e2, e3, e4, e5, e6, e7, e8, e9, e10, e11, e12, e13, e14, e15, e16, e17, e18, e19, e20, e21, e22, e23, e24, e25, e26]
  clear e0 e1 e2 e3 e4 e5 e6 e7 e8 e9 e10 e11 e12 e13 e14 e15 e16 e17 e18 e19 e20 e21 e22 e23 e24 e25 e26 hC hn E13 hL vs L nb
  go_upto_region 10 with (fail)
  have B14 : Hid (ab ((7)) < pw 3) := ab_lit (by decide)
  refine region_fr (C := [Fq.is (.pointer (some ⟨b9_12, 0, none⟩)), Fq.st [.n (4), .n (2), .v (.bool false)], Fq.st [.n (4), .n (2), .v (.bool false)], Fq.is (.bool true), Fq.is (.bool true), Fq.is (.pointer (some ⟨b9_13, 0, none⟩)), Fq.st [.n (2), .n (1), .v (.bool false)], Fq.st [.n (2), .n (1), .v (.bool false)], Fq.is (.bool true), Fq.is (.bool true), Fq.is (.bool true), Fq.is (.pointer (some ⟨b9_14, 0, none⟩)), Fq.is (.pointer (some ⟨b9_14, 4, none⟩)), Fq.is (.bool true), Fq.is (.bool true), Fq.is (.bool true), Fq.is (.pointer (some ⟨b10_4, 5, none⟩)), Fq.num (7), Fq.num (7), Fq.is (.bool true), Fq.is (.bool true), Fq.is (.bool true), Fq.st [.n (0), .n (4), .v (.bool false)], Fq.st [.n (0), .n (4), .v (.bool false)], Fq.is (.bool true), Fq.is (.bool true), Fq.is (.bool true), Fq.st [.n (1), .n (1), .n (5)], Fq.st [.n (0), .n (1), .v (.bool false)], Fq.is (.bool true), Fq.is (.bool true), Fq.is (.bool true), Fq.st [.n (1), .n (1), .n (5)], Fq.st [.n (1), .n (1), .v (.bool false)], Fq.is (.bool false), Fq.is (.bool true), Fq.is (.bool true), Fq.is (.bool true)]) (ks := [none, none, none, none, none, none, none, none, none]) (new := []) E rfl (by kernel_rfl) rfl rfl (fun hp => ⟨?_, ?_, ?_, ?_, ?_, ?_, ?_, ?_, ?_, ?_, ?_, ?_, ?_, ?_, ?_, ?_, ?_, ?_, ?_, ?_, ?_, ?_, ?_, ?_, ?_, ?_, ?_, ?_, ?_, ?_, ?_, ?_, ?_, ?_, ?_, ?_, ?_, ?_, trivial⟩) ?_
  · exact q_addr (b := b9_12) (off := 0) (off' := 0) hp (free_of rfl) trivial (sq_out (s := 4) rfl rfl (fun _ _ => rfl)) (fun ρ w h => by simp [execOp, go_sem, h]) (fun _ => rfl)
  · exact q_loadSt (off := 0) (l := 5) (fs := [.n (4), .n (2), .v (.bool false), .n (0), .v (.int .i64 0)]) (gs := [.n (4), .n (2), .v (.bool false)]) hp (free_of rfl) trivial (List.mem_iff_getElem?.2 ⟨3, rfl⟩) (.inl rfl) rfl row_api_Point rfl (sq_in 0 rfl rfl (by simp) rfl (fun v w h => h)) (fun v w h => h)
  · exact q_call2 (F := (Fq.is (.int .i64 4)).P) (G := (Fq.is (.int .i64 2)).P) hp (free_of rfl) trivial (enq_f_algorist_algoristlaw06_at) (sq_const (fun _ => rfl)) (sq_const (fun _ => rfl)) (fun v v' w h h' => (by subst h h'; exact exAt (x := 4) (y := 2) (by omega) (by omega)))
  · exact q_call2 (F := (Fq.st [.n (4), .n (2), .v (.bool false)]).P) (G := (Fq.st [.n (4), .n (2), .v (.bool false)]).P) hp (free_of rfl) trivial (enq_f_algorist_algoristref06_Same) (sq_in 1 rfl rfl (by simp) rfl (fun v w h => h)) (sq_in 2 rfl rfl (by simp) rfl (fun v w h => h)) (fun v v' w h h' => exPtSame (P := ⟨(4), (2), false⟩) (Q := ⟨(4), (2), false⟩) h h' rfl)
  · exact q_move hp (free_of rfl) trivial (sq_in 3 rfl rfl (by simp) rfl (fun v w h => h))
  · exact q_addr (b := b9_13) (off := 0) (off' := 0) hp (free_of rfl) (gq_some rfl rfl (by simp) rfl (fun v w h => h)) (sq_out (s := 5) rfl rfl (fun _ _ => rfl)) (fun ρ w h => by simp [execOp, go_sem, h]) (fun _ => rfl)
  · exact q_loadSt (off := 0) (l := 5) (fs := [.n (2), .n (1), .v (.bool false), .n (0), .v (.int .i64 0)]) (gs := [.n (2), .n (1), .v (.bool false)]) hp (free_of rfl) (gq_some rfl rfl (by simp) rfl (fun v w h => h)) (List.mem_iff_getElem?.2 ⟨4, rfl⟩) (.inl rfl) rfl row_api_Point rfl (sq_in 5 rfl rfl (by simp) rfl (fun v w h => h)) (fun v w h => h)
  · exact q_call2 (F := (Fq.is (.int .i64 2)).P) (G := (Fq.is (.int .i64 1)).P) hp (free_of rfl) (gq_some rfl rfl (by simp) rfl (fun v w h => h)) (enq_f_algorist_algoristlaw06_at) (sq_const (fun _ => rfl)) (sq_const (fun _ => rfl)) (fun v v' w h h' => (by subst h h'; exact exAt (x := 2) (y := 1) (by omega) (by omega)))
  · exact q_call2 (F := (Fq.st [.n (2), .n (1), .v (.bool false)]).P) (G := (Fq.st [.n (2), .n (1), .v (.bool false)]).P) hp (free_of rfl) (gq_some rfl rfl (by simp) rfl (fun v w h => h)) (enq_f_algorist_algoristref06_Same) (sq_in 6 rfl rfl (by simp) rfl (fun v w h => h)) (sq_in 7 rfl rfl (by simp) rfl (fun v w h => h)) (fun v v' w h h' => exPtSame (P := ⟨(2), (1), false⟩) (Q := ⟨(2), (1), false⟩) h h' rfl)
  · exact q_two (F := fun v _ => v = .bool true) (G := fun v _ => v = .bool true) hp (free_of rfl) trivial (sq_in 4 rfl rfl (by simp) rfl (fun v w h => h)) (sq_in 8 rfl rfl (by simp) rfl (fun v w h => h)) (fun ρ w hc h h' => ⟨_, by simp [execOp, go_sem, h, h'], rfl⟩)
  · exact q_move hp (free_of rfl) trivial (sq_in 9 rfl rfl (by simp) rfl (fun v w h => h))
  · exact q_addr (b := b9_14) (off := 0) (off' := 0) hp (free_of rfl) (gq_some rfl rfl (by simp) rfl (fun v w h => h)) (sq_out (s := 6) rfl rfl (fun _ _ => rfl)) (fun ρ w h => by simp [execOp, go_sem, h]) (fun _ => rfl)
  · exact q_addr (b := b9_14) (off := 0) (off' := 4) hp (free_of rfl) (gq_some rfl rfl (by simp) rfl (fun v w h => h)) (sq_in 11 rfl rfl (by simp) rfl (fun v w h => h)) (fun ρ w h => by simp [execOp, go_sem, h]) (fun _ => rfl)
  · exact q_load1 (off := 4) (fs := [.n (0), .n (0), .v (.bool true), .n (0), .v (.int .i64 0)]) (u := .bool true) hp (free_of rfl) (gq_some rfl rfl (by simp) rfl (fun v w h => h)) (List.mem_iff_getElem?.2 ⟨5, rfl⟩) (.inl rfl) rfl rfl (fun ρ w b h1 h2 => by simp [execOp, go_sem, h1, h2]) (sq_in 12 rfl rfl (by simp) rfl (fun v w h => h)) (fun _ => rfl)
  · exact q_two (F := fun v _ => v = .bool true) (G := fun v _ => v = .bool true) hp (free_of rfl) trivial (sq_in 10 rfl rfl (by simp) rfl (fun v w h => h)) (sq_in 13 rfl rfl (by simp) rfl (fun v w h => h)) (fun ρ w hc h h' => ⟨_, by simp [execOp, go_sem, h, h'], rfl⟩)
  · exact q_move hp (free_of rfl) trivial (sq_in 14 rfl rfl (by simp) rfl (fun v w h => h))
  · exact q_addr (b := b10_4) (off := 0) (off' := 5) hp (free_of rfl) (gq_some rfl rfl (by simp) rfl (fun v w h => h)) (sq_out (s := 7) rfl rfl (fun _ _ => rfl)) (fun ρ w h => by simp [execOp, go_sem, h]) (fun _ => rfl)
  · exact q_loadSt (off := 5) (l := 2) (fs := [.n (0), .n (0), .v (.bool false), .n (7), .v (.int .i64 6)]) (gs := [.n (7)]) hp (free_of rfl) (gq_some rfl rfl (by simp) rfl (fun v w h => h)) (List.mem_iff_getElem?.2 ⟨2, rfl⟩) (.inl rfl) rfl row_api_Int rfl (sq_in 16 rfl rfl (by simp) rfl (fun v w h => h)) (fun v w h => st_num h)
  · exact q_call1 (F := (Fq.is (.int .i64 7)).P) hp (free_of rfl) (gq_some rfl rfl (by simp) rfl (fun v w h => h)) (enq_R_Of) (sq_const (fun _ => rfl)) (fun v w h => (by subst h; exact rOfK w (7) (by omega) (by omega)))
  · exact q_call2 (F := (Fq.num (7)).P) (G := (Fq.num (7)).P) hp (free_of rfl) (gq_some rfl rfl (by simp) rfl (fun v w h => h)) (enq_R_Same) (sq_in 17 rfl rfl (by simp) rfl (fun v w h => h)) (sq_in 18 rfl rfl (by simp) rfl (fun v w h => h)) (fun v v' w h h' => exRSameB h h' rfl)
  · exact q_two (F := fun v _ => v = .bool true) (G := fun v _ => v = .bool true) hp (free_of rfl) trivial (sq_in 15 rfl rfl (by simp) rfl (fun v w h => h)) (sq_in 19 rfl rfl (by simp) rfl (fun v w h => h)) (fun ρ w hc h h' => ⟨_, by simp [execOp, go_sem, h, h'], rfl⟩)
  · exact q_move hp (free_of rfl) trivial (sq_in 20 rfl rfl (by simp) rfl (fun v w h => h))
  · exact q_loadSt (off := 0) (l := 5) (fs := [.n (0), .n (4), .v (.bool false)]) (gs := [.n (0), .n (4), .v (.bool false)]) hp (free_of rfl) (gq_some rfl rfl (by simp) rfl (fun v w h => h)) (List.mem_iff_getElem?.2 ⟨0, rfl⟩) (.inl rfl) rfl row_api_Point rfl (sq_out (s := 9) rfl rfl (fun _ _ => rfl)) (fun v w h => h)
  · exact q_call2 (F := (Fq.is (.int .i64 0)).P) (G := (Fq.is (.int .i64 4)).P) hp (free_of rfl) (gq_some rfl rfl (by simp) rfl (fun v w h => h)) (enq_f_algorist_algoristlaw06_at) (sq_const (fun _ => rfl)) (sq_const (fun _ => rfl)) (fun v v' w h h' => (by subst h h'; exact exAt (x := 0) (y := 4) (by omega) (by omega)))
  · exact q_call2 (F := (Fq.st [.n (0), .n (4), .v (.bool false)]).P) (G := (Fq.st [.n (0), .n (4), .v (.bool false)]).P) hp (free_of rfl) (gq_some rfl rfl (by simp) rfl (fun v w h => h)) (enq_f_algorist_algoristref06_Same) (sq_in 22 rfl rfl (by simp) rfl (fun v w h => h)) (sq_in 23 rfl rfl (by simp) rfl (fun v w h => h)) (fun v v' w h h' => exPtSame (P := ⟨(0), (4), false⟩) (Q := ⟨(0), (4), false⟩) h h' rfl)
  · exact q_two (F := fun v _ => v = .bool true) (G := fun v _ => v = .bool true) hp (free_of rfl) trivial (sq_in 21 rfl rfl (by simp) rfl (fun v w h => h)) (sq_in 24 rfl rfl (by simp) rfl (fun v w h => h)) (fun ρ w hc h h' => ⟨_, by simp [execOp, go_sem, h, h'], rfl⟩)
  · exact q_move hp (free_of rfl) trivial (sq_in 25 rfl rfl (by simp) rfl (fun v w h => h))
  · exact q_loadSt (off := 0) (l := 6) (fs := [.n (1), .n (1), .n (5)]) (gs := [.n (1), .n (1), .n (5)]) hp (free_of rfl) (gq_some rfl rfl (by simp) rfl (fun v w h => h)) (List.mem_iff_getElem?.2 ⟨8, rfl⟩) (.inl rfl) rfl row_api_Mod rfl (sq_out (s := 1) rfl rfl (fun _ _ => rfl)) (fun v w h => h)
  · exact q_loadSt (off := 0) (l := 5) (fs := [.n (0), .n (1), .v (.bool false)]) (gs := [.n (0), .n (1), .v (.bool false)]) hp (free_of rfl) (gq_some rfl rfl (by simp) rfl (fun v w h => h)) (List.mem_iff_getElem?.2 ⟨6, rfl⟩) (.inl rfl) rfl row_api_Point rfl (sq_out (s := 3) rfl rfl (fun _ _ => rfl)) (fun v w h => h)
  · exact q_call2 (F := (Fq.st [.n (1), .n (1), .n (5)]).P) (G := (Fq.st [.n (0), .n (1), .v (.bool false)]).P) hp (free_of rfl) (gq_some rfl rfl (by simp) rfl (fun v w h => h)) (enq_f_algorist_point_On) (sq_in 27 rfl rfl (by simp) rfl (fun v w h => h)) (sq_in 28 rfl rfl (by simp) rfl (fun v w h => h)) (fun v v' w h h' => exOn (x := 0) (y := 1) (i := false) h h' (lit5 (by decide)) (lit5 (by decide)) (lit5 (by decide)) (lit5 (by decide)) (lit5 (by decide)) (by decide))
  · exact q_two (F := fun v _ => v = .bool true) (G := fun v _ => v = .bool true) hp (free_of rfl) trivial (sq_in 26 rfl rfl (by simp) rfl (fun v w h => h)) (sq_in 29 rfl rfl (by simp) rfl (fun v w h => h)) (fun ρ w hc h h' => ⟨_, by simp [execOp, go_sem, h, h'], rfl⟩)
  · exact q_move hp (free_of rfl) trivial (sq_in 30 rfl rfl (by simp) rfl (fun v w h => h))
  · exact q_loadSt (off := 0) (l := 6) (fs := [.n (1), .n (1), .n (5)]) (gs := [.n (1), .n (1), .n (5)]) hp (free_of rfl) (gq_some rfl rfl (by simp) rfl (fun v w h => h)) (List.mem_iff_getElem?.2 ⟨8, rfl⟩) (.inl rfl) rfl row_api_Mod rfl (sq_out (s := 1) rfl rfl (fun _ _ => rfl)) (fun v w h => h)
  · exact q_call2 (F := (Fq.is (.int .i64 1)).P) (G := (Fq.is (.int .i64 1)).P) hp (free_of rfl) (gq_some rfl rfl (by simp) rfl (fun v w h => h)) (enq_f_algorist_algoristlaw06_at) (sq_const (fun _ => rfl)) (sq_const (fun _ => rfl)) (fun v v' w h h' => (by subst h h'; exact exAt (x := 1) (y := 1) (by omega) (by omega)))
  · exact q_call2 (F := (Fq.st [.n (1), .n (1), .n (5)]).P) (G := (Fq.st [.n (1), .n (1), .v (.bool false)]).P) hp (free_of rfl) (gq_some rfl rfl (by simp) rfl (fun v w h => h)) (enq_f_algorist_point_On) (sq_in 32 rfl rfl (by simp) rfl (fun v w h => h)) (sq_in 33 rfl rfl (by simp) rfl (fun v w h => h)) (fun v v' w h h' => exOn (x := 1) (y := 1) (i := false) h h' (lit5 (by decide)) (lit5 (by decide)) (lit5 (by decide)) (lit5 (by decide)) (lit5 (by decide)) (by decide))
  · exact q_one (F := fun v _ => v = .bool false) hp (free_of rfl) (gq_some rfl rfl (by simp) rfl (fun v w h => h)) (sq_in 34 rfl rfl (by simp) rfl (fun v w h => h)) (fun ρ w _ h => ⟨.bool true, by simp [execOp, go_sem, h], rfl⟩)
  · exact q_two (F := fun v _ => v = .bool true) (G := fun v _ => v = .bool true) hp (free_of rfl) trivial (sq_in 31 rfl rfl (by simp) rfl (fun v w h => h)) (sq_in 35 rfl rfl (by simp) rfl (fun v w h => h)) (fun ρ w hc h h' => ⟨_, by simp [execOp, go_sem, h, h'], rfl⟩)
  · exact q_assign hp (free_of rfl) trivial (sq_in 36 rfl rfl (by simp) rfl (fun v w h => h))
  intro L vs w15 nb hL hC hn E15
  have e0 : vs 0 = .pointer (some ⟨b9_12, 0, none⟩) := hC 0 (by simp)
  have e3 : vs 3 = .bool true := hC 3 (by simp)
  have e4 : vs 4 = .bool true := hC 4 (by simp)
  have e5 : vs 5 = .pointer (some ⟨b9_13, 0, none⟩) := hC 5 (by simp)
  have e8 : vs 8 = .bool true := hC 8 (by simp)
  have e9 : vs 9 = .bool true := hC 9 (by simp)
  have e10 : vs 10 = .bool true := hC 10 (by simp)
  have e11 : vs 11 = .pointer (some ⟨b9_14, 0, none⟩) := hC 11 (by simp)
  have e12 : vs 12 = .pointer (some ⟨b9_14, 4, none⟩) := hC 12 (by simp)
  have e13 : vs 13 = .bool true := hC 13 (by simp)
  have e14 : vs 14 = .bool true := hC 14 (by simp)
  have e15 : vs 15 = .bool true := hC 15 (by simp)
  have e16 : vs 16 = .pointer (some ⟨b10_4, 5, none⟩) := hC 16 (by simp)
  have e19 : vs 19 = .bool true := hC 19 (by simp)
  have e20 : vs 20 = .bool true := hC 20 (by simp)
  have e21 : vs 21 = .bool true := hC 21 (by simp)
  have e24 : vs 24 = .bool true := hC 24 (by simp)
  have e25 : vs 25 = .bool true := hC 25 (by simp)
  have e26 : vs 26 = .bool true := hC 26 (by simp)
  have e29 : vs 29 = .bool true := hC 29 (by simp)
  have e30 : vs 30 = .bool true := hC 30 (by simp)
  have e31 : vs 31 = .bool true := hC 31 (by simp)
  have e34 : vs 34 = .bool false := hC 34 (by simp)
  have e35 : vs 35 = .bool true := hC 35 (by simp)
  have e36 : vs 36 = .bool true := hC 36 (by simp)
  have e37 : vs 37 = .bool true := hC 37 (by simp)
  have E : Fr w [(b12_6, 5, Fq.st [.n (0), .n (4), .v (.bool false)]), (b11_4, 8, Fq.st [.n (0), .n (0), .v (.bool false), .n (0), .v (.int .i64 1)]), (b10_4, 8, Fq.st [.n (0), .n (0), .v (.bool false), .n (7), .v (.int .i64 6)]), (b9_12, 8, Fq.st [.n (4), .n (2), .v (.bool false), .n (0), .v (.int .i64 0)]), (b9_13, 8, Fq.st [.n (2), .n (1), .v (.bool false), .n (0), .v (.int .i64 0)]), (b9_14, 8, Fq.st [.n (0), .n (0), .v (.bool true), .n (0), .v (.int .i64 0)]), (b6_1, 5, Fq.st [.n (0), .n (1), .v (.bool false)]), (b5_4, 6, Fq.st [.n (1), .n (1), .n (35)]), (b3_4, 6, Fq.st [.n (1), .n (1), .n (5)])] w15 := E15
  rw [lay_all hL]
  simp only [putAll, dstOf, List.length_cons, List.length_nil, Nat.zero_add, Nat.reduceAdd, List.getElem?_toArray, List.getElem?_cons_zero, List.getElem?_cons_succ, Option.bind_some, Act.put, List.setIfInBounds_toArray, List.set_cons_succ, List.set_cons_zero]
  rw [e0, e3, e4, e5, e8, e9, e10, e11, e12, e13, e14, e15, e16, e19, e20, e21, e24, e25, e26, e29, e30, e31, e34, e35, e36, e37]
  generalize vs 1 = u15_1
  generalize vs 2 = u15_2
  generalize vs 6 = u15_6
  generalize vs 7 = u15_7
  generalize vs 17 = u15_17
  generalize vs 18 = u15_18
  generalize vs 22 = u15_22
  generalize vs 23 = u15_23
  generalize vs 27 = u15_27
  generalize vs 28 = u15_28
  generalize vs 32 = u15_32
  generalize vs 33 = u15_33
  clear e0 e3 e4 e5 e8 e9 e10 e11 e12 e13 e14 e15 e16 e19 e20 e21 e24 e25 e26 e29 e30 e31 e34 e35 e36 e37 hC hn E15 hL vs L nb
  clear B1 B2 B4 B7 B8 B14
  go_wp2
  refine bodyPost_ret (v := .bool true) ?_ rfl ⟨_, rfl, E.below, rfl⟩
  simp [results, Try.results7, go_sem]

end Go.Proofs.Ytpkeeacdkkmknaa

/- Walk of the law on projections. -/
namespace Go.Proofs.Ytpkeeacdkkmknaa
open Go Go.RowKit

theorem pr_67 : Pr 67 := by
  refine ⟨by omega, fun d hd => ?_⟩
  have h1 : d ≤ 67 := Nat.le_of_dvd (by omega) hd
  have h2 : ∀ d, d < 68 → d ∣ 67 → d = 1 ∨ d = 67 := by decide
  exact h2 d (by omega) hd
theorem least_pr {K : Nat} (hK : Pr K) : ∀ j n, n + j = K → ∃ p, Pr p ∧ n ≤ p ∧ p ≤ K ∧ ∀ q, n ≤ q → q < p → ¬ Pr q
  | 0, n, h => ⟨K, hK, by omega, Nat.le_refl _, fun q _ _ => by omega⟩
  | j + 1, n, h => by
    by_cases hp : Pr n
    · exact ⟨n, hp, Nat.le_refl _, by omega, fun q _ _ => by omega⟩
    · obtain ⟨p, h1, h2, h3, h4⟩ := least_pr hK j (n + 1) (by omega)
      refine ⟨p, h1, by omega, h3, fun q g1 g2 => ?_⟩
      rcases Nat.lt_or_ge n q with g | g
      · exact h4 q g g2
      · rw [show q = n by omega]; exact hp
theorem pr_odd {p : Nat} (h : Pr p) (h5 : 5 ≤ p) : p % 2 = 1 := by
  rcases Nat.mod_two_eq_zero_or_one p with e | e
  · have := h.2 2 (Nat.dvd_of_mod_eq_zero e); omega
  · exact e
/-- The point that the curve was made for. -/
theorem curve_on {m A X Y : Int} (h3 : 3 < m) (ho : m % 2 = 1) (hA : 0 ≤ A ∧ A < m) (hX : 0 ≤ X ∧ X < m) (hY : 0 ≤ Y ∧ Y < m) : onB A ((Y * Y - ((X * X) + A) * X) % m) m X Y false = true := by
  have h1 := Int.emod_nonneg (Y * Y - ((X * X) + A) * X) (show m ≠ 0 by omega)
  have h2 := Int.emod_lt_of_pos (Y * Y - ((X * X) + A) * X) (show 0 < m by omega)
  refine on_of ?_ (fun e => by cases e) fun _ => ⟨⟨hX.1, hX.2, hY.1, hY.2⟩, ?_⟩
  · simp only [curveB, resB, Bool.and_eq_true, decide_eq_true_eq]; omega
  · have h4 := cg_mod m (Y * Y - ((X * X) + A) * X)
    obtain ⟨k, hk⟩ := h4
    exact ⟨-k, by rw [Int.mul_neg]; omega⟩
theorem times_cases {A B M n : Int} {P : Pt} (h : onB A B M P.x P.y P.i = true) : (∃ d, timesS A B M n P = (⟨0, 0, false⟩, d, 6) ∧ PDiv M d) ∨ ∃ T, timesS A B M n P = (T, 0, 0) ∧ onB A B M T.x T.y T.i = true := by
  unfold timesS
  rw [if_pos h]
  by_cases h0 : (timesP A M P n).2 = 0
  · rw [if_pos h0]; exact .inr ⟨_, rfl, times_on h h0⟩
  · rw [if_neg h0]; exact .inl ⟨_, rfl, times_div (onB_ok h).1 h0⟩
theorem add_cases {A B M : Int} {P Q : Pt} (h : onB A B M P.x P.y P.i = true) (h' : onB A B M Q.x Q.y Q.i = true) : (∃ d, addS A B M P Q = (⟨0, 0, false⟩, d, 6) ∧ PDiv M d) ∨ ∃ T, addS A B M P Q = (T, 0, 0) ∧ onB A B M T.x T.y T.i = true ∧ sumP A M P Q = (T, 0) := by
  unfold addS
  rw [if_pos h, if_pos h']
  by_cases h0 : (sumP A M P Q).2 = 0
  · rw [if_pos h0]; exact .inr ⟨_, rfl, sum_on h h' h0, by rw [← h0]⟩
  · rw [if_neg h0]; exact .inl ⟨_, rfl, sum_div (onB_ok h).1 (onB_ok h').1 h0⟩
theorem add_proj {A B M a : Int} {P Q T : Pt} (h3 : 3 < a) (ho : a % 2 = 1) (haM : a ∣ M) (hM : 0 < M) (h : onB A B M P.x P.y P.i = true) (h' : onB A B M Q.x Q.y Q.i = true) (hT : sumP A M P Q = (T, 0)) : addS (A % a) (B % a) a (red a P) (red a Q) = (red a T, 0, 0) := by
  have h1 := sum_proj (A := A) (P := P) (Q := Q) (show 1 < a by omega) haM hM (by rw [hT])
  unfold addS
  rw [if_pos (red_on h3 ho haM h), if_pos (red_on h3 ho haM h'), h1, hT]
  exact if_pos rfl
theorem sameP_refl (P : Pt) : sameP P P = true := by simp [sameP]
theorem ab5 {z : Int} (h : -4294967296 ≤ z ∧ z ≤ 4294967296) : ab z < pw 5 := Int.lt_of_lt_of_le (ab_i64 (by omega) (by omega)) (pw_le (by omega))
set_option maxRecDepth 100000 in
set_option maxHeartbeats 4000000 in
theorem PointProjects_any (w : World) {v v' : Value} {M9 A X Y Q k0 k1 : Int} (h : (Fq.st [.v (.int .u8 M9), .v (.int .u8 A), .v (.int .u8 X), .v (.int .u8 Y), .v (.int .u16 Q)]).P v w) (h' : (Fq.st [.v (.int .u8 k0), .v (.int .u8 k1)]).P v' w) (hM9 : 0 ≤ M9) (hA : 0 ≤ A ∧ A ≤ 255) (hX : 0 ≤ X ∧ X ≤ 255) (hY : 0 ≤ Y ∧ Y ≤ 255) (hQ : 0 ≤ Q ∧ Q ≤ 65535) (hk0 : 0 ≤ k0 ∧ k0 ≤ 255) (hk1 : 0 ≤ k1 ∧ k1 ≤ 255) :
    Calls Try.prog 6 #[v, v'] w fun e w' => ∃ v', e = .returned v' ∧ Below w.heap.size w w' ∧ v' = .bool true := by
  obtain ⟨r0, hr0⟩ : ∃ r0, r0 = k0 % 60 := ⟨_, rfl⟩
  obtain ⟨r1, hr1⟩ : ∃ r1, r1 = k1 % 60 := ⟨_, rfl⟩
  have hr0b : 0 ≤ r0 ∧ r0 < 60 := by rw [hr0]; omega
  have hr1b : 0 ≤ r1 ∧ r1 < 60 := by rw [hr1]; omega
  obtain ⟨pa, hpa, hpa1, hpa2, hpa3⟩ := least_pr pr_67 (67 - (5 + r0).toNat) (5 + r0).toNat (by omega)
  obtain ⟨pb, hpb, hpb1, hpb2, hpb3⟩ := least_pr pr_67 (67 - (5 + r1).toNat) (5 + r1).toNat (by omega)
  obtain ⟨a, ha⟩ : ∃ a : Int, a = (pa : Int) := ⟨_, rfl⟩
  obtain ⟨b, hb⟩ : ∃ b : Int, b = (pb : Int) := ⟨_, rfl⟩
  obtain ⟨m, hm⟩ : ∃ m : Int, m = a * b := ⟨_, rfl⟩
  have ha5 : 5 ≤ a ∧ a ≤ 67 ∧ a % 2 = 1 := by have := pr_odd hpa (by omega); omega
  have hb5 : 5 ≤ b ∧ b ≤ 67 ∧ b % 2 = 1 := by have := pr_odd hpb (by omega); omega
  have hm1 : 25 ≤ m ∧ m ≤ 4489 := by rw [hm]; exact ⟨Int.mul_le_mul ha5.1 hb5.1 (by omega) (by omega), Int.mul_le_mul ha5.2.1 hb5.2.1 (by omega) (by omega)⟩
  have hm2 : m % 2 = 1 := by rw [hm, Int.mul_emod, ha5.2.2, hb5.2.2]; rfl
  have haM : a ∣ m := ⟨b, hm⟩
  obtain ⟨B, hB⟩ : ∃ B, B = (Y * Y - ((X * X) + A) * X) % m := ⟨_, rfl⟩
  have hB0 : 0 ≤ B ∧ B < m := by rw [hB]; exact ⟨Int.emod_nonneg _ (by omega), Int.emod_lt_of_pos _ (by omega)⟩
  obtain ⟨q, hq⟩ : ∃ q, q = Q % 40 := ⟨_, rfl⟩
  have hq0 : 0 ≤ q ∧ q < 40 := by rw [hq]; omega
  have HPA := hidd (And.intro hpa (And.intro hpa1 (And.intro (show pa ≤ 65537 by omega) hpa3)))
  have HPB := hidd (And.intro hpb (And.intro hpb1 (And.intro (show pb ≤ 65537 by omega) hpb3)))
  have HAE := hidd ha
  have HBE := hidd hb
  have HA5 := hidd ha5
  have HM1 := hidd (And.intro hm1 hm2)
  have HDV := hidd haM
  have HBB := hidd hB
  have HB0 := hidd hB0
  have HQ0 := hidd hq0
  have HAX := hidd (And.intro hA (And.intro hX hY))
  have C0 : Hid (Int.tmod k0 60 = r0) := by show _ = _; rw [Int.tmod_eq_emod_of_nonneg (by omega), hr0]
  have C1 : Hid (Int.tmod k1 60 = r1) := by show _ = _; rw [Int.tmod_eq_emod_of_nonneg (by omega), hr1]
  have C2 : Hid (Int.tmod Q 40 = q) := by show _ = _; rw [Int.tmod_eq_emod_of_nonneg (by omega), hq]
  have D0 : Hid (IntKind.u8.wrap r0 = r0) := by show _ = _; simp [IntKind.wrap, IntKind.bits, IntKind.signed]; omega
  have D1 : Hid (IntKind.u8.wrap r1 = r1) := by show _ = _; simp [IntKind.wrap, IntKind.bits, IntKind.signed]; omega
  have D2 : Hid (IntKind.u16.wrap q = q) := by show _ = _; simp [IntKind.wrap, IntKind.bits, IntKind.signed]; omega
  have E0 : Hid (IntKind.u16.wrap r0 = r0) := by show _ = _; simp [IntKind.wrap, IntKind.bits, IntKind.signed]; omega
  have E1 : Hid (IntKind.u16.wrap r1 = r1) := by show _ = _; simp [IntKind.wrap, IntKind.bits, IntKind.signed]; omega
  have F0 : Hid (IntKind.u16.wrap (5 + r0) = 5 + r0) := by show _ = _; simp [IntKind.wrap, IntKind.bits, IntKind.signed]; omega
  have F1 : Hid (IntKind.u16.wrap (5 + r1) = 5 + r1) := by show _ = _; simp [IntKind.wrap, IntKind.bits, IntKind.signed]; omega
  have G0 : Hid (IntKind.i64.wrap (a * b) = m) := by show _ = _; rw [← hm]; exact IntWalk.i64_in _ (by omega)
  have IA : Hid (IntKind.i64.wrap A = A) := IntWalk.i64_in _ (by omega)
  have IX : Hid (IntKind.i64.wrap X = X) := IntWalk.i64_in _ (by omega)
  have IY : Hid (IntKind.i64.wrap Y = Y) := IntWalk.i64_in _ (by omega)
  have IQ : Hid (IntKind.i64.wrap q = q) := IntWalk.i64_in _ (by omega)
  have Ba : Hid (ab a < pw 5) := ab5 (by omega)
  have Bq : Hid (ab q < pw 3) := ab_i64 (by omega) (by omega)
  have Ba3 : Hid (ab a < pw 3) := ab_i64 (by omega) (by omega)
  have RR : Hid (0 ≤ 5 + r0 ∧ 5 + r0 ≤ 65535 ∧ 0 ≤ 5 + r1 ∧ 5 + r1 ≤ 65535) := by show _ ∧ _; omega
  have KEEP := hidd hM9
  clear hr0 hr1 hr0b hr1b hpa hpa1 hpa2 hpa3 hpb hpb1 hpb2 hpb3 ha hb hm ha5 hb5 hm1 hm2 haM hB hB0 hq hq0 hA hX hY hQ hk0 hk1 hM9
  obtain ⟨_, rfl, hf0⟩ := h
  have hF0 := hf0
  obtain ⟨_, rfl, _, _, rfl, _, _, rfl, _, _, rfl, _, _, rfl, _, rfl⟩ := hf0
  obtain ⟨_, rfl, hf1⟩ := h'
  have hF1 := hf1
  obtain ⟨_, rfl, _, _, rfl, _, rfl⟩ := hf1
  obtain ⟨w1, b1, hw1, hb1, hs1, E⟩ := fr_start w (F := Fq.st [.v (.int .u8 M9), .v (.int .u8 A), .v (.int .u8 X), .v (.int .u8 Y), .v (.int .u16 Q)]) (us := [.int .u8 M9, .int .u8 A, .int .u8 X, .int .u8 Y, .int .u16 Q]) 24 rfl (by simp) (hF0.tame) (show (Fq.st [.v (.int .u8 M9), .v (.int .u8 A), .v (.int .u8 X), .v (.int .u8 Y), .v (.int .u16 Q)]).P _ w from ⟨_, rfl, hF0⟩)
  obtain ⟨w2, b2, hw2, hb2, hs2, E⟩ := fr_more E hs1 (F := Fq.st [.v (.int .u8 k0), .v (.int .u8 k1)]) (us := [.int .u8 k0, .int .u8 k1]) 63 rfl (by simp) (hF1.tame) ((Fq.st [.v (.int .u8 k0), .v (.int .u8 k1)]).mono (show (Fq.st [.v (.int .u8 k0), .v (.int .u8 k1)]).P _ w from ⟨_, rfl, hF1⟩) E.below)
  go_enter Try.func6, Try.ntmps6
  go_upto_region 1 with (fail)
  rw [← hw1]
  rw [← hw2]
  rw [← hb2]
  rw [← hb1]
  clear hw1 hw2 hb1 hb2 hs2 hs1
  refine region_fr (C := [Fq.is (.bool true), Fq.is (.bool true)]) (ks := [none, none]) (new := []) E rfl (by kernel_rfl) rfl rfl (fun hp => ⟨?_, ?_, trivial⟩) ?_
  · exact q_call0 hp (free_of rfl) trivial (enq_f_algorist_algoristlaw06_examples) (fun w => exSixExamples w)
  · exact q_assign hp (free_of rfl) trivial (sq_in 0 rfl rfl (by simp) rfl (fun v w h => h))
  intro L vs w3 nb hL hC hn E3
  have e0 : vs 0 = .bool true := hC 0 (by simp)
  have e1 : vs 1 = .bool true := hC 1 (by simp)
  have E : Fr w [(b2, 2, Fq.st [.v (.int .u8 k0), .v (.int .u8 k1)]), (b1, 5, Fq.st [.v (.int .u8 M9), .v (.int .u8 A), .v (.int .u8 X), .v (.int .u8 Y), .v (.int .u16 Q)])] w3 := E3
  rw [lay_all hL]
  simp only [putAll, dstOf, List.length_cons, List.length_nil, Nat.zero_add, Nat.reduceAdd, List.getElem?_toArray, List.getElem?_cons_zero, List.getElem?_cons_succ, Option.bind_some, Act.put, List.setIfInBounds_toArray, List.set_cons_succ, List.set_cons_zero]
  rw [e0, e1]
  clear e0 e1 hC hn E3 hL vs L nb
  go_upto_region 2 with (fail)
  refine region_fr (C := [Fq.is (.bool true), Fq.is (.bool false)]) (ks := [none, none]) (new := []) E rfl (by kernel_rfl) rfl rfl (fun hp => ⟨?_, ?_, trivial⟩) ?_
  · exact q_move hp (free_of rfl) trivial (sq_out (s := 5) rfl rfl (fun _ _ => rfl))
  · exact q_one (F := fun v _ => v = .bool true) hp (free_of rfl) trivial (sq_in 0 rfl rfl (by simp) rfl (fun v w h => h)) (fun ρ w _ h => ⟨.bool false, by simp [execOp, go_sem, h], rfl⟩)
  intro L vs w4 nb hL hC hn E4
  have e0 : vs 0 = .bool true := hC 0 (by simp)
  have e1 : vs 1 = .bool false := hC 1 (by simp)
  have E : Fr w [(b2, 2, Fq.st [.v (.int .u8 k0), .v (.int .u8 k1)]), (b1, 5, Fq.st [.v (.int .u8 M9), .v (.int .u8 A), .v (.int .u8 X), .v (.int .u8 Y), .v (.int .u16 Q)])] w4 := E4
  rw [lay_all hL]
  simp only [putAll, dstOf, List.length_cons, List.length_nil, Nat.zero_add, Nat.reduceAdd, List.getElem?_toArray, List.getElem?_cons_zero, List.getElem?_cons_succ, Option.bind_some, Act.put, List.setIfInBounds_toArray, List.set_cons_succ, List.set_cons_zero]
  rw [e0, e1]
  clear e0 e1 hC hn E4 hL vs L nb
  go_upto_region 4 with (fail)
  refine region_fr (C := [Fq.is (.pointer (some ⟨b2, 0, none⟩)), Fq.is (.int .u8 k0), Fq.is (.int .u8 r0), Fq.is (.int .u16 r0), Fq.is (.int .u16 (5 + r0)), Fq.is (.int .i64 a), Fq.is (.pointer (some ⟨b2, 1, none⟩)), Fq.is (.int .u8 k1), Fq.is (.int .u8 r1), Fq.is (.int .u16 r1), Fq.is (.int .u16 (5 + r1)), Fq.is (.int .i64 b), Fq.is (.int .i64 a), Fq.is (.int .i64 b)]) (ks := [none, none]) (new := []) E rfl (by kernel_rfl) rfl rfl (fun hp => ⟨?_, ?_, ?_, ?_, ?_, ?_, ?_, ?_, ?_, ?_, ?_, ?_, ?_, ?_, trivial⟩) ?_
  · exact q_one (F := fun v _ => v = .pointer (some ⟨b2, 0, none⟩)) hp (free_of rfl) trivial (sq_out (s := 3) rfl rfl (fun _ _ => rfl)) (fun ρ w hc h => ⟨.pointer (some ⟨b2, 0, none⟩), by simp [execOp, go_sem, h, hc], rfl⟩)
  · exact q_load1 (off := 0) (fs := [.v (.int .u8 k0), .v (.int .u8 k1)]) (u := .int .u8 k0) hp (free_of rfl) trivial (List.mem_iff_getElem?.2 ⟨0, rfl⟩) (.inl rfl) rfl rfl (fun ρ w b h1 h2 => by simp [execOp, go_sem, h1, h2]) (sq_in 0 rfl rfl (by simp) rfl (fun v w h => h)) (fun _ => rfl)
  · exact q_one (F := fun v _ => v = .int .u8 k0) hp (free_of rfl) trivial (sq_in 1 rfl rfl (by simp) rfl (fun v w h => h)) (fun ρ w hc h => ⟨.int .u8 r0, by simp [execOp, go_sem, h, hc, C0.out], rfl⟩)
  · exact q_one (F := fun v _ => v = .int .u8 r0) hp (free_of rfl) trivial (sq_in 2 rfl rfl (by simp) rfl (fun v w h => h)) (fun ρ w hc h => ⟨.int .u16 r0, by simp [execOp, go_sem, h, E0.out], rfl⟩)
  · exact q_one (F := fun v _ => v = .int .u16 r0) hp (free_of rfl) trivial (sq_in 3 rfl rfl (by simp) rfl (fun v w h => h)) (fun ρ w hc h => ⟨.int .u16 (5 + r0), by simp [execOp, go_sem, h, hc, F0.out], rfl⟩)
  · exact q_call1 (F := (Fq.is (.int .u16 (5 + r0))).P) hp (free_of rfl) trivial (enq_U_Prime) (sq_in 4 rfl rfl (by simp) rfl (fun v w h => h)) (fun v w h => (by subst h; rw [HAE.out]; exact exPrime _ RR.out.1 RR.out.2.1 HPA.out.1 HPA.out.2.1 HPA.out.2.2.1 HPA.out.2.2.2))
  · exact q_one (F := fun v _ => v = .pointer (some ⟨b2, 0, none⟩)) hp (free_of rfl) trivial (sq_out (s := 3) rfl rfl (fun _ _ => rfl)) (fun ρ w hc h => ⟨.pointer (some ⟨b2, 1, none⟩), by simp [execOp, go_sem, h, hc], rfl⟩)
  · exact q_load1 (off := 1) (fs := [.v (.int .u8 k0), .v (.int .u8 k1)]) (u := .int .u8 k1) hp (free_of rfl) trivial (List.mem_iff_getElem?.2 ⟨0, rfl⟩) (.inl rfl) rfl rfl (fun ρ w b h1 h2 => by simp [execOp, go_sem, h1, h2]) (sq_in 6 rfl rfl (by simp) rfl (fun v w h => h)) (fun _ => rfl)
  · exact q_one (F := fun v _ => v = .int .u8 k1) hp (free_of rfl) trivial (sq_in 7 rfl rfl (by simp) rfl (fun v w h => h)) (fun ρ w hc h => ⟨.int .u8 r1, by simp [execOp, go_sem, h, hc, C1.out], rfl⟩)
  · exact q_one (F := fun v _ => v = .int .u8 r1) hp (free_of rfl) trivial (sq_in 8 rfl rfl (by simp) rfl (fun v w h => h)) (fun ρ w hc h => ⟨.int .u16 r1, by simp [execOp, go_sem, h, E1.out], rfl⟩)
  · exact q_one (F := fun v _ => v = .int .u16 r1) hp (free_of rfl) trivial (sq_in 9 rfl rfl (by simp) rfl (fun v w h => h)) (fun ρ w hc h => ⟨.int .u16 (5 + r1), by simp [execOp, go_sem, h, hc, F1.out], rfl⟩)
  · exact q_call1 (F := (Fq.is (.int .u16 (5 + r1))).P) hp (free_of rfl) trivial (enq_U_Prime) (sq_in 10 rfl rfl (by simp) rfl (fun v w h => h)) (fun v w h => (by subst h; rw [HBE.out]; exact exPrime _ RR.out.2.2.1 RR.out.2.2.2 HPB.out.1 HPB.out.2.1 HPB.out.2.2.1 HPB.out.2.2.2))
  · exact q_assign hp (free_of rfl) trivial (sq_in 5 rfl rfl (by simp) rfl (fun v w h => h))
  · exact q_assign hp (free_of rfl) trivial (sq_in 11 rfl rfl (by simp) rfl (fun v w h => h))
  intro L vs w5 nb hL hC hn E5
  have e0 : vs 0 = .pointer (some ⟨b2, 0, none⟩) := hC 0 (by simp)
  have e1 : vs 1 = .int .u8 k0 := hC 1 (by simp)
  have e2 : vs 2 = .int .u8 r0 := hC 2 (by simp)
  have e3 : vs 3 = .int .u16 r0 := hC 3 (by simp)
  have e4 : vs 4 = .int .u16 (5 + r0) := hC 4 (by simp)
  have e5 : vs 5 = .int .i64 a := hC 5 (by simp)
  have e6 : vs 6 = .pointer (some ⟨b2, 1, none⟩) := hC 6 (by simp)
  have e7 : vs 7 = .int .u8 k1 := hC 7 (by simp)
  have e8 : vs 8 = .int .u8 r1 := hC 8 (by simp)
  have e9 : vs 9 = .int .u16 r1 := hC 9 (by simp)
  have e10 : vs 10 = .int .u16 (5 + r1) := hC 10 (by simp)
  have e11 : vs 11 = .int .i64 b := hC 11 (by simp)
  have e12 : vs 12 = .int .i64 a := hC 12 (by simp)
  have e13 : vs 13 = .int .i64 b := hC 13 (by simp)
  have E : Fr w [(b2, 2, Fq.st [.v (.int .u8 k0), .v (.int .u8 k1)]), (b1, 5, Fq.st [.v (.int .u8 M9), .v (.int .u8 A), .v (.int .u8 X), .v (.int .u8 Y), .v (.int .u16 Q)])] w5 := E5
  rw [lay_all hL]
  simp only [putAll, dstOf, List.length_cons, List.length_nil, Nat.zero_add, Nat.reduceAdd, List.getElem?_toArray, List.getElem?_cons_zero, List.getElem?_cons_succ, Option.bind_some, Act.put, List.setIfInBounds_toArray, List.set_cons_succ, List.set_cons_zero]
  rw [e0, e1, e2, e3, e4, e5, e6, e7, e8, e9, e10, e11, e12, e13]
  clear e0 e1 e2 e3 e4 e5 e6 e7 e8 e9 e10 e11 e12 e13 hC hn E5 hL vs L nb
  go_upto_region 5 with (fail)
  refine region_fr (C := [Fq.is (.int .i64 a), Fq.is (.int .i64 b), Fq.is (.int .i64 m), Fq.is (.int .i64 m)]) (ks := [none, none]) (new := []) E rfl (by kernel_rfl) rfl rfl (fun hp => ⟨?_, ?_, ?_, ?_, trivial⟩) ?_
  · exact q_move hp (free_of rfl) trivial (sq_out (s := 6) rfl rfl (fun _ _ => rfl))
  · exact q_move hp (free_of rfl) trivial (sq_out (s := 7) rfl rfl (fun _ _ => rfl))
  · exact q_two (F := fun v _ => v = .int .i64 a) (G := fun v _ => v = .int .i64 b) hp (free_of rfl) trivial (sq_in 0 rfl rfl (by simp) rfl (fun v w h => h)) (sq_in 1 rfl rfl (by simp) rfl (fun v w h => h)) (fun ρ w hc h h' => ⟨.int .i64 m, by simp [execOp, go_sem, h, h', G0.out], rfl⟩)
  · exact q_assign hp (free_of rfl) trivial (sq_in 2 rfl rfl (by simp) rfl (fun v w h => h))
  intro L vs w6 nb hL hC hn E6
  have e0 : vs 0 = .int .i64 a := hC 0 (by simp)
  have e1 : vs 1 = .int .i64 b := hC 1 (by simp)
  have e2 : vs 2 = .int .i64 m := hC 2 (by simp)
  have e3 : vs 3 = .int .i64 m := hC 3 (by simp)
  have E : Fr w [(b2, 2, Fq.st [.v (.int .u8 k0), .v (.int .u8 k1)]), (b1, 5, Fq.st [.v (.int .u8 M9), .v (.int .u8 A), .v (.int .u8 X), .v (.int .u8 Y), .v (.int .u16 Q)])] w6 := E6
  rw [lay_all hL]
  simp only [putAll, dstOf, List.length_cons, List.length_nil, Nat.zero_add, Nat.reduceAdd, List.getElem?_toArray, List.getElem?_cons_zero, List.getElem?_cons_succ, Option.bind_some, Act.put, List.setIfInBounds_toArray, List.set_cons_succ, List.set_cons_zero]
  rw [e0, e1, e2, e3]
  clear e0 e1 e2 e3 hC hn E6 hL vs L nb
  go_upto_region 6 with (fail)
  refine region_fr (C := [Fq.is (.int .i64 m), Fq.is (.pointer (some ⟨b1, 1, none⟩)), Fq.is (.int .u8 A), Fq.is (.int .i64 A), Fq.is (.pointer (some ⟨b1, 2, none⟩)), Fq.is (.int .u8 X), Fq.is (.int .i64 X), Fq.is (.pointer (some ⟨b1, 3, none⟩)), Fq.is (.int .u8 Y), Fq.is (.int .i64 Y), Fq.st [.n A, .n B, .n m], Fq.any, Fq.any]) (ks := [none, none]) (new := [⟨11, 12, 6, Fq.st [.n 0, .n 0, .n 0], Fq.st [.n A, .n B, .n m], none⟩]) E rfl (by kernel_rfl) rfl rfl (fun hp => ⟨?_, ?_, ?_, ?_, ?_, ?_, ?_, ?_, ?_, ?_, ?_, ?_, ?_, trivial⟩) ?_
  · exact q_move hp (free_of rfl) trivial (sq_out (s := 8) rfl rfl (fun _ _ => rfl))
  · exact q_addr (b := b1) (off := 0) (off' := 1) hp (free_of rfl) trivial (sq_out (s := 2) rfl rfl (fun _ _ => rfl)) (fun ρ w h => by simp [execOp, go_sem, h]) (fun _ => rfl)
  · exact q_load1 (off := 1) (fs := [.v (.int .u8 M9), .v (.int .u8 A), .v (.int .u8 X), .v (.int .u8 Y), .v (.int .u16 Q)]) (u := .int .u8 A) hp (free_of rfl) trivial (List.mem_iff_getElem?.2 ⟨1, rfl⟩) (.inl rfl) rfl rfl (fun ρ w b h1 h2 => by simp [execOp, go_sem, h1, h2]) (sq_in 1 rfl rfl (by simp) rfl (fun v w h => h)) (fun _ => rfl)
  · exact q_one (F := fun v _ => v = .int .u8 A) hp (free_of rfl) trivial (sq_in 2 rfl rfl (by simp) rfl (fun v w h => h)) (fun ρ w hc h => ⟨.int .i64 A, by simp [execOp, go_sem, h, IA.out], rfl⟩)
  · exact q_addr (b := b1) (off := 0) (off' := 2) hp (free_of rfl) trivial (sq_out (s := 2) rfl rfl (fun _ _ => rfl)) (fun ρ w h => by simp [execOp, go_sem, h]) (fun _ => rfl)
  · exact q_load1 (off := 2) (fs := [.v (.int .u8 M9), .v (.int .u8 A), .v (.int .u8 X), .v (.int .u8 Y), .v (.int .u16 Q)]) (u := .int .u8 X) hp (free_of rfl) trivial (List.mem_iff_getElem?.2 ⟨1, rfl⟩) (.inl rfl) rfl rfl (fun ρ w b h1 h2 => by simp [execOp, go_sem, h1, h2]) (sq_in 4 rfl rfl (by simp) rfl (fun v w h => h)) (fun _ => rfl)
  · exact q_one (F := fun v _ => v = .int .u8 X) hp (free_of rfl) trivial (sq_in 5 rfl rfl (by simp) rfl (fun v w h => h)) (fun ρ w hc h => ⟨.int .i64 X, by simp [execOp, go_sem, h, IX.out], rfl⟩)
  · exact q_addr (b := b1) (off := 0) (off' := 3) hp (free_of rfl) trivial (sq_out (s := 2) rfl rfl (fun _ _ => rfl)) (fun ρ w h => by simp [execOp, go_sem, h]) (fun _ => rfl)
  · exact q_load1 (off := 3) (fs := [.v (.int .u8 M9), .v (.int .u8 A), .v (.int .u8 X), .v (.int .u8 Y), .v (.int .u16 Q)]) (u := .int .u8 Y) hp (free_of rfl) trivial (List.mem_iff_getElem?.2 ⟨1, rfl⟩) (.inl rfl) rfl rfl (fun ρ w b h1 h2 => by simp [execOp, go_sem, h1, h2]) (sq_in 7 rfl rfl (by simp) rfl (fun v w h => h)) (fun _ => rfl)
  · exact q_one (F := fun v _ => v = .int .u8 Y) hp (free_of rfl) trivial (sq_in 8 rfl rfl (by simp) rfl (fun v w h => h)) (fun ρ w hc h => ⟨.int .i64 Y, by simp [execOp, go_sem, h, IY.out], rfl⟩)
  · exact q_call4 (F := (Fq.is (.int .i64 m)).P) (G := (Fq.is (.int .i64 A)).P) (F3 := (Fq.is (.int .i64 X)).P) (F4 := (Fq.is (.int .i64 Y)).P) hp (free_of rfl) trivial (enq_f_algorist_algoristref06_Curve) (sq_in 0 rfl rfl (by simp) rfl (fun v w h => h)) (sq_in 3 rfl rfl (by simp) rfl (fun v w h => h)) (sq_in 6 rfl rfl (by simp) rfl (fun v w h => h)) (sq_in 9 rfl rfl (by simp) rfl (fun v w h => h)) (fun v v' u u' w h h' g g' => (by subst h h' g g'; exact exCurve (by have := HM1.out; omega) (by have := HAX.out; omega) (by have := HAX.out; omega) (by have := HAX.out; omega) HBB.out.symm))
  · exact q_allocSt (us := [.bool false, .slice none 0 0, .bool false, .slice none 0 0, .bool false, .slice none 0 0]) (fs := [.n 0, .n 0, .n 0]) hp (List.mem_iff_getElem?.2 ⟨0, rfl⟩) rfl rfl rfl (Nat.lt_of_sub_eq_succ rfl) rfl fits0_api_Mod (fun ρ w => ralloc_api_Mod ρ w) rfl (Nat.ne_of_beq_eq_false rfl) (fun _ _ => trivial) (old_ne rfl) (newk_ne rfl)
  · exact q_storeNewSt (fs := [.n 0, .n 0, .n 0]) (gs := [.n A, .n B, .n m]) hp (List.mem_iff_getElem?.2 ⟨0, rfl⟩) rfl rfl rfl rfl size_api_Mod rfl (own_ptr rfl rfl (by simp) rfl) (sq_in 10 rfl rfl (by simp) rfl (fun v w h => fitv_st h)) (fun _ _ => trivial) (old_ne rfl) (newi_ne rfl)
  intro L vs w7 nb hL hC hn E7
  have e0 : vs 0 = .int .i64 m := hC 0 (by simp)
  have e1 : vs 1 = .pointer (some ⟨b1, 1, none⟩) := hC 1 (by simp)
  have e2 : vs 2 = .int .u8 A := hC 2 (by simp)
  have e3 : vs 3 = .int .i64 A := hC 3 (by simp)
  have e4 : vs 4 = .pointer (some ⟨b1, 2, none⟩) := hC 4 (by simp)
  have e5 : vs 5 = .int .u8 X := hC 5 (by simp)
  have e6 : vs 6 = .int .i64 X := hC 6 (by simp)
  have e7 : vs 7 = .pointer (some ⟨b1, 3, none⟩) := hC 7 (by simp)
  have e8 : vs 8 = .int .u8 Y := hC 8 (by simp)
  have e9 : vs 9 = .int .i64 Y := hC 9 (by simp)
  have e11 : vs 11 = .pointer (some ⟨nb 11, 0, none⟩) := hn _ (List.mem_iff_getElem?.2 ⟨0, rfl⟩)
  have E : Fr w [(nb 11, 6, Fq.st [.n A, .n B, .n m]), (b2, 2, Fq.st [.v (.int .u8 k0), .v (.int .u8 k1)]), (b1, 5, Fq.st [.v (.int .u8 M9), .v (.int .u8 A), .v (.int .u8 X), .v (.int .u8 Y), .v (.int .u16 Q)])] w7 := E7
  rw [lay_all hL]
  simp only [putAll, dstOf, List.length_cons, List.length_nil, Nat.zero_add, Nat.reduceAdd, List.getElem?_toArray, List.getElem?_cons_zero, List.getElem?_cons_succ, Option.bind_some, Act.put, List.setIfInBounds_toArray, List.set_cons_succ, List.set_cons_zero]
  rw [e0, e1, e2, e3, e4, e5, e6, e7, e8, e9, e11]
  generalize nb 11 = b7_11 at E ⊢
  generalize vs 10 = u7_10
  clear e0 e1 e2 e3 e4 e5 e6 e7 e8 e9 e11 hC hn E7 hL vs L nb
  clear C0 C1 D0 D1 E0 E1 F0 F1 G0 HPA HPB HAE HBE RR
  go_upto_region 7 with (fail)
  by_cases hA9 : A < m
  · by_cases hX9 : X < m
    · by_cases hY9 : Y < m
      · have T1 : Hid (¬ m ≤ A) := by show ¬ _; omega
        have T2 : Hid (¬ m ≤ X) := by show ¬ _; omega
        have T3 : Hid (¬ m ≤ Y) := by show ¬ _; omega
        have HON : Hid (onB A B m X Y false = true) := by show _ = _; rw [HBB.out]; exact curve_on (by have := HM1.out; omega) HM1.out.2 ⟨by have := HAX.out; omega, hA9⟩ ⟨by have := HAX.out; omega, hX9⟩ ⟨by have := HAX.out; omega, hY9⟩
        have Bm5 : Hid (ab m < pw 5) := ab5 (by have := HM1.out; omega)
        have BA5 : Hid (ab A < pw 5) := ab5 (by have := HAX.out; omega)
        have BB5 : Hid (ab B < pw 5) := ab5 (by have := HB0.out; have := HM1.out; omega)
        have BP5 : Hid (ab X < pw 5 ∧ ab Y < pw 5) := ⟨ab5 (by have := HAX.out; omega), ab5 (by have := HAX.out; omega)⟩
        have BQ20 : Hid (ab q < pw 20) := Int.lt_of_lt_of_le Bq.out (pw_le (by omega))
        have HTC := times_cases (A := A) (B := B) (M := m) (n := q) (P := ⟨X, Y, false⟩) HON.out
        clear hA9 hX9 hY9
        refine region_fr (C := [Fq.is (.pointer (some ⟨b1, 1, none⟩)), Fq.is (.int .u8 A), Fq.is (.int .i64 A), Fq.is (.int .i64 m), Fq.is (.bool false), Fq.is (.bool false), Fq.is (.pointer (some ⟨b1, 2, none⟩)), Fq.is (.int .u8 X), Fq.is (.int .i64 X), Fq.is (.int .i64 m), Fq.is (.bool false), Fq.is (.bool false), Fq.is (.bool false), Fq.is (.pointer (some ⟨b1, 3, none⟩)), Fq.is (.int .u8 Y), Fq.is (.int .i64 Y), Fq.is (.int .i64 m), Fq.is (.bool false), Fq.is (.bool false)]) (ks := [none, none, none]) (new := []) E rfl (by kernel_rfl) rfl rfl (fun hp => ⟨?_, ?_, ?_, ?_, ?_, ?_, ?_, ?_, ?_, ?_, ?_, ?_, ?_, ?_, ?_, ?_, ?_, ?_, ?_, trivial⟩) ?_
        · exact q_addr (b := b1) (off := 0) (off' := 1) hp (free_of rfl) trivial (sq_out (s := 2) rfl rfl (fun _ _ => rfl)) (fun ρ w h => by simp [execOp, go_sem, h]) (fun _ => rfl)
        · exact q_load1 (off := 1) (fs := [.v (.int .u8 M9), .v (.int .u8 A), .v (.int .u8 X), .v (.int .u8 Y), .v (.int .u16 Q)]) (u := .int .u8 A) hp (free_of rfl) trivial (List.mem_iff_getElem?.2 ⟨2, rfl⟩) (.inl rfl) rfl rfl (fun ρ w b h1 h2 => by simp [execOp, go_sem, h1, h2]) (sq_in 0 rfl rfl (by simp) rfl (fun v w h => h)) (fun _ => rfl)
        · exact q_one (F := fun v _ => v = .int .u8 A) hp (free_of rfl) trivial (sq_in 1 rfl rfl (by simp) rfl (fun v w h => h)) (fun ρ w hc h => ⟨.int .i64 A, by simp [execOp, go_sem, h, IA.out], rfl⟩)
        · exact q_move hp (free_of rfl) trivial (sq_out (s := 8) rfl rfl (fun _ _ => rfl))
        · exact q_two (F := fun v _ => v = .int .i64 A) (G := fun v _ => v = .int .i64 m) hp (free_of rfl) trivial (sq_in 2 rfl rfl (by simp) rfl (fun v w h => h)) (sq_in 3 rfl rfl (by simp) rfl (fun v w h => h)) (fun ρ w hc h h' => ⟨.bool false, by simp [execOp, go_sem, h, h', T1.out], rfl⟩)
        · exact q_move hp (free_of rfl) trivial (sq_in 4 rfl rfl (by simp) rfl (fun v w h => h))
        · exact q_addr (b := b1) (off := 0) (off' := 2) hp (free_of rfl) (gq_some rfl rfl (by simp) rfl (fun v w h => h)) (sq_out (s := 2) rfl rfl (fun _ _ => rfl)) (fun ρ w h => by simp [execOp, go_sem, h]) (fun _ => rfl)
        · exact q_load1 (off := 2) (fs := [.v (.int .u8 M9), .v (.int .u8 A), .v (.int .u8 X), .v (.int .u8 Y), .v (.int .u16 Q)]) (u := .int .u8 X) hp (free_of rfl) (gq_some rfl rfl (by simp) rfl (fun v w h => h)) (List.mem_iff_getElem?.2 ⟨2, rfl⟩) (.inl rfl) rfl rfl (fun ρ w b h1 h2 => by simp [execOp, go_sem, h1, h2]) (sq_in 6 rfl rfl (by simp) rfl (fun v w h => h)) (fun _ => rfl)
        · exact q_one (F := fun v _ => v = .int .u8 X) hp (free_of rfl) (gq_some rfl rfl (by simp) rfl (fun v w h => h)) (sq_in 7 rfl rfl (by simp) rfl (fun v w h => h)) (fun ρ w hc h => ⟨.int .i64 X, by simp [execOp, go_sem, h, IX.out], rfl⟩)
        · exact q_move hp (free_of rfl) (gq_some rfl rfl (by simp) rfl (fun v w h => h)) (sq_out (s := 8) rfl rfl (fun _ _ => rfl))
        · exact q_two (F := fun v _ => v = .int .i64 X) (G := fun v _ => v = .int .i64 m) hp (free_of rfl) (gq_some rfl rfl (by simp) rfl (fun v w h => h)) (sq_in 8 rfl rfl (by simp) rfl (fun v w h => h)) (sq_in 9 rfl rfl (by simp) rfl (fun v w h => h)) (fun ρ w hc h h' => ⟨.bool false, by simp [execOp, go_sem, h, h', T2.out], rfl⟩)
        · exact q_two (F := fun v _ => v = .bool false) (G := fun v _ => v = .bool false) hp (free_of rfl) trivial (sq_in 5 rfl rfl (by simp) rfl (fun v w h => h)) (sq_in 10 rfl rfl (by simp) rfl (fun v w h => h)) (fun ρ w hc h h' => ⟨_, by simp [execOp, go_sem, h, h'], rfl⟩)
        · exact q_move hp (free_of rfl) trivial (sq_in 11 rfl rfl (by simp) rfl (fun v w h => h))
        · exact q_addr (b := b1) (off := 0) (off' := 3) hp (free_of rfl) (gq_some rfl rfl (by simp) rfl (fun v w h => h)) (sq_out (s := 2) rfl rfl (fun _ _ => rfl)) (fun ρ w h => by simp [execOp, go_sem, h]) (fun _ => rfl)
        · exact q_load1 (off := 3) (fs := [.v (.int .u8 M9), .v (.int .u8 A), .v (.int .u8 X), .v (.int .u8 Y), .v (.int .u16 Q)]) (u := .int .u8 Y) hp (free_of rfl) (gq_some rfl rfl (by simp) rfl (fun v w h => h)) (List.mem_iff_getElem?.2 ⟨2, rfl⟩) (.inl rfl) rfl rfl (fun ρ w b h1 h2 => by simp [execOp, go_sem, h1, h2]) (sq_in 13 rfl rfl (by simp) rfl (fun v w h => h)) (fun _ => rfl)
        · exact q_one (F := fun v _ => v = .int .u8 Y) hp (free_of rfl) (gq_some rfl rfl (by simp) rfl (fun v w h => h)) (sq_in 14 rfl rfl (by simp) rfl (fun v w h => h)) (fun ρ w hc h => ⟨.int .i64 Y, by simp [execOp, go_sem, h, IY.out], rfl⟩)
        · exact q_move hp (free_of rfl) (gq_some rfl rfl (by simp) rfl (fun v w h => h)) (sq_out (s := 8) rfl rfl (fun _ _ => rfl))
        · exact q_two (F := fun v _ => v = .int .i64 Y) (G := fun v _ => v = .int .i64 m) hp (free_of rfl) (gq_some rfl rfl (by simp) rfl (fun v w h => h)) (sq_in 15 rfl rfl (by simp) rfl (fun v w h => h)) (sq_in 16 rfl rfl (by simp) rfl (fun v w h => h)) (fun ρ w hc h h' => ⟨.bool false, by simp [execOp, go_sem, h, h', T3.out], rfl⟩)
        · exact q_two (F := fun v _ => v = .bool false) (G := fun v _ => v = .bool false) hp (free_of rfl) trivial (sq_in 12 rfl rfl (by simp) rfl (fun v w h => h)) (sq_in 17 rfl rfl (by simp) rfl (fun v w h => h)) (fun ρ w hc h h' => ⟨_, by simp [execOp, go_sem, h, h'], rfl⟩)
        intro L vs w8 nb hL hC hn E8
        have e0 : vs 0 = .pointer (some ⟨b1, 1, none⟩) := hC 0 (by simp)
        have e1 : vs 1 = .int .u8 A := hC 1 (by simp)
        have e2 : vs 2 = .int .i64 A := hC 2 (by simp)
        have e3 : vs 3 = .int .i64 m := hC 3 (by simp)
        have e4 : vs 4 = .bool false := hC 4 (by simp)
        have e5 : vs 5 = .bool false := hC 5 (by simp)
        have e6 : vs 6 = .pointer (some ⟨b1, 2, none⟩) := hC 6 (by simp)
        have e7 : vs 7 = .int .u8 X := hC 7 (by simp)
        have e8 : vs 8 = .int .i64 X := hC 8 (by simp)
        have e9 : vs 9 = .int .i64 m := hC 9 (by simp)
        have e10 : vs 10 = .bool false := hC 10 (by simp)
        have e11 : vs 11 = .bool false := hC 11 (by simp)
        have e12 : vs 12 = .bool false := hC 12 (by simp)
        have e13 : vs 13 = .pointer (some ⟨b1, 3, none⟩) := hC 13 (by simp)
        have e14 : vs 14 = .int .u8 Y := hC 14 (by simp)
        have e15 : vs 15 = .int .i64 Y := hC 15 (by simp)
        have e16 : vs 16 = .int .i64 m := hC 16 (by simp)
        have e17 : vs 17 = .bool false := hC 17 (by simp)
        have e18 : vs 18 = .bool false := hC 18 (by simp)
        have E : Fr w [(b7_11, 6, Fq.st [.n A, .n B, .n m]), (b2, 2, Fq.st [.v (.int .u8 k0), .v (.int .u8 k1)]), (b1, 5, Fq.st [.v (.int .u8 M9), .v (.int .u8 A), .v (.int .u8 X), .v (.int .u8 Y), .v (.int .u16 Q)])] w8 := E8
        rw [lay_all hL]
        simp only [putAll, dstOf, List.length_cons, List.length_nil, Nat.zero_add, Nat.reduceAdd, List.getElem?_toArray, List.getElem?_cons_zero, List.getElem?_cons_succ, Option.bind_some, Act.put, List.setIfInBounds_toArray, List.set_cons_succ, List.set_cons_zero]
        rw [e0, e1, e2, e3, e4, e5, e6, e7, e8, e9, e10, e11, e12, e13, e14, e15, e16, e17, e18]
        clear e0 e1 e2 e3 e4 e5 e6 e7 e8 e9 e10 e11 e12 e13 e14 e15 e16 e17 e18 hC hn E8 hL vs L nb
        clear T1 T2 T3
        go_upto_region 9 with (fail)
        refine region_fr (C := [Fq.is (.pointer (some ⟨b1, 2, none⟩)), Fq.is (.int .u8 X), Fq.is (.int .i64 X), Fq.is (.pointer (some ⟨b1, 3, none⟩)), Fq.is (.int .u8 Y), Fq.is (.int .i64 Y), Fq.st [.n X, .n Y, .v (.bool false)], Fq.any, Fq.any]) (ks := [none, none, none]) (new := [⟨7, 8, 5, Fq.st [.n 0, .n 0, .v (.bool false)], Fq.st [.n X, .n Y, .v (.bool false)], none⟩]) E rfl (by kernel_rfl) rfl rfl (fun hp => ⟨?_, ?_, ?_, ?_, ?_, ?_, ?_, ?_, ?_, trivial⟩) ?_
        · exact q_addr (b := b1) (off := 0) (off' := 2) hp (free_of rfl) trivial (sq_out (s := 2) rfl rfl (fun _ _ => rfl)) (fun ρ w h => by simp [execOp, go_sem, h]) (fun _ => rfl)
        · exact q_load1 (off := 2) (fs := [.v (.int .u8 M9), .v (.int .u8 A), .v (.int .u8 X), .v (.int .u8 Y), .v (.int .u16 Q)]) (u := .int .u8 X) hp (free_of rfl) trivial (List.mem_iff_getElem?.2 ⟨2, rfl⟩) (.inl rfl) rfl rfl (fun ρ w b h1 h2 => by simp [execOp, go_sem, h1, h2]) (sq_in 0 rfl rfl (by simp) rfl (fun v w h => h)) (fun _ => rfl)
        · exact q_one (F := fun v _ => v = .int .u8 X) hp (free_of rfl) trivial (sq_in 1 rfl rfl (by simp) rfl (fun v w h => h)) (fun ρ w hc h => ⟨.int .i64 X, by simp [execOp, go_sem, h, IX.out], rfl⟩)
        · exact q_addr (b := b1) (off := 0) (off' := 3) hp (free_of rfl) trivial (sq_out (s := 2) rfl rfl (fun _ _ => rfl)) (fun ρ w h => by simp [execOp, go_sem, h]) (fun _ => rfl)
        · exact q_load1 (off := 3) (fs := [.v (.int .u8 M9), .v (.int .u8 A), .v (.int .u8 X), .v (.int .u8 Y), .v (.int .u16 Q)]) (u := .int .u8 Y) hp (free_of rfl) trivial (List.mem_iff_getElem?.2 ⟨2, rfl⟩) (.inl rfl) rfl rfl (fun ρ w b h1 h2 => by simp [execOp, go_sem, h1, h2]) (sq_in 3 rfl rfl (by simp) rfl (fun v w h => h)) (fun _ => rfl)
        · exact q_one (F := fun v _ => v = .int .u8 Y) hp (free_of rfl) trivial (sq_in 4 rfl rfl (by simp) rfl (fun v w h => h)) (fun ρ w hc h => ⟨.int .i64 Y, by simp [execOp, go_sem, h, IY.out], rfl⟩)
        · exact q_call2 (F := (Fq.is (.int .i64 X)).P) (G := (Fq.is (.int .i64 Y)).P) hp (free_of rfl) trivial (enq_f_algorist_algoristlaw06_at) (sq_in 2 rfl rfl (by simp) rfl (fun v w h => h)) (sq_in 5 rfl rfl (by simp) rfl (fun v w h => h)) (fun v v' w h h' => (by subst h h'; exact exAt (by have := HAX.out; omega) (by have := HAX.out; omega)))
        · exact q_allocSt (us := [.bool false, .slice none 0 0, .bool false, .slice none 0 0, .bool false]) (fs := [.n 0, .n 0, .v (.bool false)]) hp (List.mem_iff_getElem?.2 ⟨0, rfl⟩) rfl rfl rfl (Nat.lt_of_sub_eq_succ rfl) rfl fits0_api_Point (fun ρ w => ralloc_api_Point ρ w) rfl (Nat.ne_of_beq_eq_false rfl) (fun _ _ => trivial) (old_ne rfl) (newk_ne rfl)
        · exact q_storeNewSt (fs := [.n 0, .n 0, .v (.bool false)]) (gs := [.n X, .n Y, .v (.bool false)]) hp (List.mem_iff_getElem?.2 ⟨0, rfl⟩) rfl rfl rfl rfl size_api_Point rfl (own_ptr rfl rfl (by simp) rfl) (sq_in 6 rfl rfl (by simp) rfl (fun v w h => fitv_st h)) (fun _ _ => trivial) (old_ne rfl) (newi_ne rfl)
        intro L vs w9 nb hL hC hn E9
        have e0 : vs 0 = .pointer (some ⟨b1, 2, none⟩) := hC 0 (by simp)
        have e1 : vs 1 = .int .u8 X := hC 1 (by simp)
        have e2 : vs 2 = .int .i64 X := hC 2 (by simp)
        have e3 : vs 3 = .pointer (some ⟨b1, 3, none⟩) := hC 3 (by simp)
        have e4 : vs 4 = .int .u8 Y := hC 4 (by simp)
        have e5 : vs 5 = .int .i64 Y := hC 5 (by simp)
        have e7 : vs 7 = .pointer (some ⟨nb 7, 0, none⟩) := hn _ (List.mem_iff_getElem?.2 ⟨0, rfl⟩)
        have E : Fr w [(nb 7, 5, Fq.st [.n X, .n Y, .v (.bool false)]), (b7_11, 6, Fq.st [.n A, .n B, .n m]), (b2, 2, Fq.st [.v (.int .u8 k0), .v (.int .u8 k1)]), (b1, 5, Fq.st [.v (.int .u8 M9), .v (.int .u8 A), .v (.int .u8 X), .v (.int .u8 Y), .v (.int .u16 Q)])] w9 := E9
        rw [lay_all hL]
        simp only [putAll, dstOf, List.length_cons, List.length_nil, Nat.zero_add, Nat.reduceAdd, List.getElem?_toArray, List.getElem?_cons_zero, List.getElem?_cons_succ, Option.bind_some, Act.put, List.setIfInBounds_toArray, List.set_cons_succ, List.set_cons_zero]
        rw [e0, e1, e2, e3, e4, e5, e7]
        generalize nb 7 = b9_7 at E ⊢
        generalize vs 6 = u9_6
        clear e0 e1 e2 e3 e4 e5 e7 hC hn E9 hL vs L nb
        clear IX IY IA
        rcases HTC with ⟨d, hT, _⟩ | ⟨T, hT, hTon⟩
        · replace hT := hidd hT
          go_upto_region 10 with (fail)
          refine region_fr (C := [Fq.st [.n A, .n B, .n m], Fq.is (.pointer (some ⟨b1, 4, none⟩)), Fq.is (.int .u16 Q), Fq.is (.int .u16 q), Fq.is (.int .i64 q), Fq.num q, Fq.st [.n X, .n Y, .v (.bool false)], Fq.st [.n 0, .n 0, .v (.bool false), .n d, .v (.int .i64 6)], Fq.any, Fq.any]) (ks := [none, none, none, none]) (new := [⟨8, 9, 8, Fq.st [.n 0, .n 0, .v (.bool false), .n 0, .v (.int .i64 0)], Fq.st [.n 0, .n 0, .v (.bool false), .n d, .v (.int .i64 6)], none⟩]) E rfl (by kernel_rfl) rfl rfl (fun hp => ⟨?_, ?_, ?_, ?_, ?_, ?_, ?_, ?_, ?_, ?_, trivial⟩) ?_
          · exact q_loadSt (off := 0) (l := 6) (fs := [.n A, .n B, .n m]) (gs := [.n A, .n B, .n m]) hp (free_of rfl) trivial (List.mem_iff_getElem?.2 ⟨1, rfl⟩) (.inl rfl) rfl row_api_Mod rfl (sq_out (s := 9) rfl rfl (fun _ _ => rfl)) (fun v w h => h)
          · exact q_addr (b := b1) (off := 0) (off' := 4) hp (free_of rfl) trivial (sq_out (s := 2) rfl rfl (fun _ _ => rfl)) (fun ρ w h => by simp [execOp, go_sem, h]) (fun _ => rfl)
          · exact q_load1 (off := 4) (fs := [.v (.int .u8 M9), .v (.int .u8 A), .v (.int .u8 X), .v (.int .u8 Y), .v (.int .u16 Q)]) (u := .int .u16 Q) hp (free_of rfl) trivial (List.mem_iff_getElem?.2 ⟨3, rfl⟩) (.inl rfl) rfl rfl (fun ρ w b h1 h2 => by simp [execOp, go_sem, h1, h2]) (sq_in 1 rfl rfl (by simp) rfl (fun v w h => h)) (fun _ => rfl)
          · exact q_one (F := fun v _ => v = .int .u16 Q) hp (free_of rfl) trivial (sq_in 2 rfl rfl (by simp) rfl (fun v w h => h)) (fun ρ w hc h => ⟨.int .u16 q, by simp [execOp, go_sem, h, hc, C2.out], rfl⟩)
          · exact q_one (F := fun v _ => v = .int .u16 q) hp (free_of rfl) trivial (sq_in 3 rfl rfl (by simp) rfl (fun v w h => h)) (fun ρ w hc h => ⟨.int .i64 q, by simp [execOp, go_sem, h, IQ.out], rfl⟩)
          · exact q_call1 (F := (Fq.is (.int .i64 q)).P) hp (free_of rfl) trivial (enq_R_Of) (sq_in 4 rfl rfl (by simp) rfl (fun v w h => h)) (fun v w h => (by subst h; exact rOfK w q (by have := HQ0.out; omega) (by have := HQ0.out; omega)))
          · exact q_loadSt (off := 0) (l := 5) (fs := [.n X, .n Y, .v (.bool false)]) (gs := [.n X, .n Y, .v (.bool false)]) hp (free_of rfl) trivial (List.mem_iff_getElem?.2 ⟨0, rfl⟩) (.inl rfl) rfl row_api_Point rfl (sq_out (s := 10) rfl rfl (fun _ _ => rfl)) (fun v w h => h)
          · exact q_call3 (F := (Fq.st [.n A, .n B, .n m]).P) (G := (Fq.num q).P) (F3 := (Fq.st [.n X, .n Y, .v (.bool false)]).P) hp (free_of rfl) trivial (enq_f_algorist_algoristlaw06_times) (sq_in 0 rfl rfl (by simp) rfl (fun v w h => h)) (sq_in 5 rfl rfl (by simp) rfl (fun v w h => h)) (sq_in 6 rfl rfl (by simp) rfl (fun v w h => h)) (fun v v' u w h h' g => exLTimes (P := ⟨X, Y, false⟩) (R := (⟨0, 0, false⟩, d, 6)) h h' g Bm5.out BA5.out BB5.out BQ20.out BP5.out hT.out)
          · exact q_allocSt (us := [.bool false, .slice none 0 0, .bool false, .slice none 0 0, .bool false, .bool false, .slice none 0 0, .int .i64 0]) (fs := [.n 0, .n 0, .v (.bool false), .n 0, .v (.int .i64 0)]) hp (List.mem_iff_getElem?.2 ⟨0, rfl⟩) rfl rfl rfl (Nat.lt_of_sub_eq_succ rfl) rfl fits0_algoristref06_Sum (fun ρ w => ralloc_algoristref06_Sum ρ w) rfl (Nat.ne_of_beq_eq_false rfl) (fun _ _ => trivial) (old_ne rfl) (newk_ne rfl)
          · exact q_storeNewSt (fs := [.n 0, .n 0, .v (.bool false), .n 0, .v (.int .i64 0)]) (gs := [.n 0, .n 0, .v (.bool false), .n d, .v (.int .i64 6)]) hp (List.mem_iff_getElem?.2 ⟨0, rfl⟩) rfl rfl rfl rfl size_algoristref06_Sum rfl (own_ptr rfl rfl (by simp) rfl) (sq_in 7 rfl rfl (by simp) rfl (fun v w h => fitv_st h)) (fun _ _ => trivial) (old_ne rfl) (newi_ne rfl)
          intro L vs w10 nb hL hC hn E10
          have e1 : vs 1 = .pointer (some ⟨b1, 4, none⟩) := hC 1 (by simp)
          have e2 : vs 2 = .int .u16 Q := hC 2 (by simp)
          have e3 : vs 3 = .int .u16 q := hC 3 (by simp)
          have e4 : vs 4 = .int .i64 q := hC 4 (by simp)
          have e8 : vs 8 = .pointer (some ⟨nb 8, 0, none⟩) := hn _ (List.mem_iff_getElem?.2 ⟨0, rfl⟩)
          have E : Fr w [(nb 8, 8, Fq.st [.n 0, .n 0, .v (.bool false), .n d, .v (.int .i64 6)]), (b9_7, 5, Fq.st [.n X, .n Y, .v (.bool false)]), (b7_11, 6, Fq.st [.n A, .n B, .n m]), (b2, 2, Fq.st [.v (.int .u8 k0), .v (.int .u8 k1)]), (b1, 5, Fq.st [.v (.int .u8 M9), .v (.int .u8 A), .v (.int .u8 X), .v (.int .u8 Y), .v (.int .u16 Q)])] w10 := E10
          rw [lay_all hL]
          simp only [putAll, dstOf, List.length_cons, List.length_nil, Nat.zero_add, Nat.reduceAdd, List.getElem?_toArray, List.getElem?_cons_zero, List.getElem?_cons_succ, Option.bind_some, Act.put, List.setIfInBounds_toArray, List.set_cons_succ, List.set_cons_zero]
          rw [e1, e2, e3, e4, e8]
          generalize nb 8 = b10_8 at E ⊢
          generalize vs 0 = u10_0
          generalize vs 5 = u10_5
          generalize vs 6 = u10_6
          generalize vs 7 = u10_7
          clear e1 e2 e3 e4 e8 hC hn E10 hL vs L nb
          go_upto_region 11 with (fail)
          refine region_fr (C := [Fq.is (.pointer (some ⟨b10_8, 7, none⟩)), Fq.is (.int .i64 6), Fq.is (.bool true)]) (ks := [none, none, none, none, none]) (new := []) E rfl (by kernel_rfl) rfl rfl (fun hp => ⟨?_, ?_, ?_, trivial⟩) ?_
          · exact q_addr (b := b10_8) (off := 0) (off' := 7) hp (free_of rfl) trivial (sq_out (s := 11) rfl rfl (fun _ _ => rfl)) (fun ρ w h => by simp [execOp, go_sem, h]) (fun _ => rfl)
          · exact q_load1 (off := 7) (fs := [.n 0, .n 0, .v (.bool false), .n d, .v (.int .i64 6)]) (u := .int .i64 6) hp (free_of rfl) trivial (List.mem_iff_getElem?.2 ⟨0, rfl⟩) (.inl rfl) rfl rfl (fun ρ w b h1 h2 => by simp [execOp, go_sem, h1, h2]) (sq_in 0 rfl rfl (by simp) rfl (fun v w h => h)) (fun _ => rfl)
          · exact q_one (F := fun v _ => v = .int .i64 6) hp (free_of rfl) trivial (sq_in 1 rfl rfl (by simp) rfl (fun v w h => h)) (fun ρ w hc h => ⟨.bool true, by simp [execOp, go_sem, h, hc], rfl⟩)
          intro L vs w11 nb hL hC hn E11
          have e0 : vs 0 = .pointer (some ⟨b10_8, 7, none⟩) := hC 0 (by simp)
          have e1 : vs 1 = .int .i64 6 := hC 1 (by simp)
          have e2 : vs 2 = .bool true := hC 2 (by simp)
          have E : Fr w [(b10_8, 8, Fq.st [.n 0, .n 0, .v (.bool false), .n d, .v (.int .i64 6)]), (b9_7, 5, Fq.st [.n X, .n Y, .v (.bool false)]), (b7_11, 6, Fq.st [.n A, .n B, .n m]), (b2, 2, Fq.st [.v (.int .u8 k0), .v (.int .u8 k1)]), (b1, 5, Fq.st [.v (.int .u8 M9), .v (.int .u8 A), .v (.int .u8 X), .v (.int .u8 Y), .v (.int .u16 Q)])] w11 := E11
          rw [lay_all hL]
          simp only [putAll, dstOf, List.length_cons, List.length_nil, Nat.zero_add, Nat.reduceAdd, List.getElem?_toArray, List.getElem?_cons_zero, List.getElem?_cons_succ, Option.bind_some, Act.put, List.setIfInBounds_toArray, List.set_cons_succ, List.set_cons_zero]
          rw [e0, e1, e2]
          clear e0 e1 e2 hC hn E11 hL vs L nb
          go_upto_region 12 with (fail)
          refine region_fr (C := [Fq.is (.pointer (some ⟨b10_8, 7, none⟩)), Fq.is (.int .i64 6), Fq.is (.bool true), Fq.is (.bool true), Fq.is (.bool true), Fq.is (.bool true), Fq.is (.bool true)]) (ks := [none, none, none, none, none]) (new := []) E rfl (by kernel_rfl) rfl rfl (fun hp => ⟨?_, ?_, ?_, ?_, ?_, ?_, ?_, trivial⟩) ?_
          · exact q_addr (b := b10_8) (off := 0) (off' := 7) hp (free_of rfl) trivial (sq_out (s := 11) rfl rfl (fun _ _ => rfl)) (fun ρ w h => by simp [execOp, go_sem, h]) (fun _ => rfl)
          · exact q_load1 (off := 7) (fs := [.n 0, .n 0, .v (.bool false), .n d, .v (.int .i64 6)]) (u := .int .i64 6) hp (free_of rfl) trivial (List.mem_iff_getElem?.2 ⟨0, rfl⟩) (.inl rfl) rfl rfl (fun ρ w b h1 h2 => by simp [execOp, go_sem, h1, h2]) (sq_in 0 rfl rfl (by simp) rfl (fun v w h => h)) (fun _ => rfl)
          · exact q_one (F := fun v _ => v = .int .i64 6) hp (free_of rfl) trivial (sq_in 1 rfl rfl (by simp) rfl (fun v w h => h)) (fun ρ w hc h => ⟨.bool true, by simp [execOp, go_sem, h, hc], rfl⟩)
          · exact q_move hp (free_of rfl) trivial (sq_in 2 rfl rfl (by simp) rfl (fun v w h => h))
          · exact q_move hp (free_of rfl) (gq_some rfl rfl (by simp) rfl (fun v w h => h)) (sq_out (s := 5) rfl rfl (fun _ _ => rfl))
          · exact q_two (F := fun v _ => v = .bool true) (G := fun v _ => v = .bool true) hp (free_of rfl) trivial (sq_in 3 rfl rfl (by simp) rfl (fun v w h => h)) (sq_in 4 rfl rfl (by simp) rfl (fun v w h => h)) (fun ρ w hc h h' => ⟨_, by simp [execOp, go_sem, h, h'], rfl⟩)
          · exact q_assign hp (free_of rfl) trivial (sq_in 5 rfl rfl (by simp) rfl (fun v w h => h))
          intro L vs w12 nb hL hC hn E12
          have e0 : vs 0 = .pointer (some ⟨b10_8, 7, none⟩) := hC 0 (by simp)
          have e1 : vs 1 = .int .i64 6 := hC 1 (by simp)
          have e2 : vs 2 = .bool true := hC 2 (by simp)
          have e3 : vs 3 = .bool true := hC 3 (by simp)
          have e4 : vs 4 = .bool true := hC 4 (by simp)
          have e5 : vs 5 = .bool true := hC 5 (by simp)
          have e6 : vs 6 = .bool true := hC 6 (by simp)
          have E : Fr w [(b10_8, 8, Fq.st [.n 0, .n 0, .v (.bool false), .n d, .v (.int .i64 6)]), (b9_7, 5, Fq.st [.n X, .n Y, .v (.bool false)]), (b7_11, 6, Fq.st [.n A, .n B, .n m]), (b2, 2, Fq.st [.v (.int .u8 k0), .v (.int .u8 k1)]), (b1, 5, Fq.st [.v (.int .u8 M9), .v (.int .u8 A), .v (.int .u8 X), .v (.int .u8 Y), .v (.int .u16 Q)])] w12 := E12
          rw [lay_all hL]
          simp only [putAll, dstOf, List.length_cons, List.length_nil, Nat.zero_add, Nat.reduceAdd, List.getElem?_toArray, List.getElem?_cons_zero, List.getElem?_cons_succ, Option.bind_some, Act.put, List.setIfInBounds_toArray, List.set_cons_succ, List.set_cons_zero]
          rw [e0, e1, e2, e3, e4, e5, e6]
          clear e0 e1 e2 e3 e4 e5 e6 hC hn E12 hL vs L nb
          clear hT HON HA5 HM1 HDV HBB HB0 HQ0 HAX C2 D2 IQ KEEP
          clear Ba Bq Ba3 Bm5 BA5 BB5 BP5 BQ20
          go_wp2
          refine bodyPost_ret (v := .bool true) ?_ rfl ⟨_, rfl, E.below, rfl⟩
          simp [results, Try.results6, go_sem]
        · replace hT := hidd hT
          have HTO := hidd hTon
          have HTP : Hid (ab T.x < pw 5 ∧ ab T.y < pw 5) := (onB_ok hTon).1.ab Bm5.out
          have HAC := add_cases (A := A) (B := B) (M := m) (P := ⟨X, Y, false⟩) (Q := T) HON.out hTon
          clear hTon
          go_upto_region 10 with (fail)
          refine region_fr (C := [Fq.st [.n A, .n B, .n m], Fq.is (.pointer (some ⟨b1, 4, none⟩)), Fq.is (.int .u16 Q), Fq.is (.int .u16 q), Fq.is (.int .i64 q), Fq.num q, Fq.st [.n X, .n Y, .v (.bool false)], Fq.st [.n T.x, .n T.y, .v (.bool T.i), .n 0, .v (.int .i64 0)], Fq.any, Fq.any]) (ks := [none, none, none, none]) (new := [⟨8, 9, 8, Fq.st [.n 0, .n 0, .v (.bool false), .n 0, .v (.int .i64 0)], Fq.st [.n T.x, .n T.y, .v (.bool T.i), .n 0, .v (.int .i64 0)], none⟩]) E rfl (by kernel_rfl) rfl rfl (fun hp => ⟨?_, ?_, ?_, ?_, ?_, ?_, ?_, ?_, ?_, ?_, trivial⟩) ?_
          · exact q_loadSt (off := 0) (l := 6) (fs := [.n A, .n B, .n m]) (gs := [.n A, .n B, .n m]) hp (free_of rfl) trivial (List.mem_iff_getElem?.2 ⟨1, rfl⟩) (.inl rfl) rfl row_api_Mod rfl (sq_out (s := 9) rfl rfl (fun _ _ => rfl)) (fun v w h => h)
          · exact q_addr (b := b1) (off := 0) (off' := 4) hp (free_of rfl) trivial (sq_out (s := 2) rfl rfl (fun _ _ => rfl)) (fun ρ w h => by simp [execOp, go_sem, h]) (fun _ => rfl)
          · exact q_load1 (off := 4) (fs := [.v (.int .u8 M9), .v (.int .u8 A), .v (.int .u8 X), .v (.int .u8 Y), .v (.int .u16 Q)]) (u := .int .u16 Q) hp (free_of rfl) trivial (List.mem_iff_getElem?.2 ⟨3, rfl⟩) (.inl rfl) rfl rfl (fun ρ w b h1 h2 => by simp [execOp, go_sem, h1, h2]) (sq_in 1 rfl rfl (by simp) rfl (fun v w h => h)) (fun _ => rfl)
          · exact q_one (F := fun v _ => v = .int .u16 Q) hp (free_of rfl) trivial (sq_in 2 rfl rfl (by simp) rfl (fun v w h => h)) (fun ρ w hc h => ⟨.int .u16 q, by simp [execOp, go_sem, h, hc, C2.out], rfl⟩)
          · exact q_one (F := fun v _ => v = .int .u16 q) hp (free_of rfl) trivial (sq_in 3 rfl rfl (by simp) rfl (fun v w h => h)) (fun ρ w hc h => ⟨.int .i64 q, by simp [execOp, go_sem, h, IQ.out], rfl⟩)
          · exact q_call1 (F := (Fq.is (.int .i64 q)).P) hp (free_of rfl) trivial (enq_R_Of) (sq_in 4 rfl rfl (by simp) rfl (fun v w h => h)) (fun v w h => (by subst h; exact rOfK w q (by have := HQ0.out; omega) (by have := HQ0.out; omega)))
          · exact q_loadSt (off := 0) (l := 5) (fs := [.n X, .n Y, .v (.bool false)]) (gs := [.n X, .n Y, .v (.bool false)]) hp (free_of rfl) trivial (List.mem_iff_getElem?.2 ⟨0, rfl⟩) (.inl rfl) rfl row_api_Point rfl (sq_out (s := 10) rfl rfl (fun _ _ => rfl)) (fun v w h => h)
          · exact q_call3 (F := (Fq.st [.n A, .n B, .n m]).P) (G := (Fq.num q).P) (F3 := (Fq.st [.n X, .n Y, .v (.bool false)]).P) hp (free_of rfl) trivial (enq_f_algorist_algoristlaw06_times) (sq_in 0 rfl rfl (by simp) rfl (fun v w h => h)) (sq_in 5 rfl rfl (by simp) rfl (fun v w h => h)) (sq_in 6 rfl rfl (by simp) rfl (fun v w h => h)) (fun v v' u w h h' g => exLTimes (P := ⟨X, Y, false⟩) (R := (T, 0, 0)) h h' g Bm5.out BA5.out BB5.out BQ20.out BP5.out hT.out)
          · exact q_allocSt (us := [.bool false, .slice none 0 0, .bool false, .slice none 0 0, .bool false, .bool false, .slice none 0 0, .int .i64 0]) (fs := [.n 0, .n 0, .v (.bool false), .n 0, .v (.int .i64 0)]) hp (List.mem_iff_getElem?.2 ⟨0, rfl⟩) rfl rfl rfl (Nat.lt_of_sub_eq_succ rfl) rfl fits0_algoristref06_Sum (fun ρ w => ralloc_algoristref06_Sum ρ w) rfl (Nat.ne_of_beq_eq_false rfl) (fun _ _ => trivial) (old_ne rfl) (newk_ne rfl)
          · exact q_storeNewSt (fs := [.n 0, .n 0, .v (.bool false), .n 0, .v (.int .i64 0)]) (gs := [.n T.x, .n T.y, .v (.bool T.i), .n 0, .v (.int .i64 0)]) hp (List.mem_iff_getElem?.2 ⟨0, rfl⟩) rfl rfl rfl rfl size_algoristref06_Sum rfl (own_ptr rfl rfl (by simp) rfl) (sq_in 7 rfl rfl (by simp) rfl (fun v w h => fitv_st h)) (fun _ _ => trivial) (old_ne rfl) (newi_ne rfl)
          intro L vs w13 nb hL hC hn E13
          have e1 : vs 1 = .pointer (some ⟨b1, 4, none⟩) := hC 1 (by simp)
          have e2 : vs 2 = .int .u16 Q := hC 2 (by simp)
          have e3 : vs 3 = .int .u16 q := hC 3 (by simp)
          have e4 : vs 4 = .int .i64 q := hC 4 (by simp)
          have e8 : vs 8 = .pointer (some ⟨nb 8, 0, none⟩) := hn _ (List.mem_iff_getElem?.2 ⟨0, rfl⟩)
          have E : Fr w [(nb 8, 8, Fq.st [.n T.x, .n T.y, .v (.bool T.i), .n 0, .v (.int .i64 0)]), (b9_7, 5, Fq.st [.n X, .n Y, .v (.bool false)]), (b7_11, 6, Fq.st [.n A, .n B, .n m]), (b2, 2, Fq.st [.v (.int .u8 k0), .v (.int .u8 k1)]), (b1, 5, Fq.st [.v (.int .u8 M9), .v (.int .u8 A), .v (.int .u8 X), .v (.int .u8 Y), .v (.int .u16 Q)])] w13 := E13
          rw [lay_all hL]
          simp only [putAll, dstOf, List.length_cons, List.length_nil, Nat.zero_add, Nat.reduceAdd, List.getElem?_toArray, List.getElem?_cons_zero, List.getElem?_cons_succ, Option.bind_some, Act.put, List.setIfInBounds_toArray, List.set_cons_succ, List.set_cons_zero]
          rw [e1, e2, e3, e4, e8]
          generalize nb 8 = b13_8 at E ⊢
          generalize vs 0 = u13_0
          generalize vs 5 = u13_5
          generalize vs 6 = u13_6
          generalize vs 7 = u13_7
          clear e1 e2 e3 e4 e8 hC hn E13 hL vs L nb
          clear C2 D2 IQ
          go_upto_region 11 with (fail)
          refine region_fr (C := [Fq.is (.pointer (some ⟨b13_8, 7, none⟩)), Fq.is (.int .i64 0), Fq.is (.bool false)]) (ks := [none, none, none, none, none]) (new := []) E rfl (by kernel_rfl) rfl rfl (fun hp => ⟨?_, ?_, ?_, trivial⟩) ?_
          · exact q_addr (b := b13_8) (off := 0) (off' := 7) hp (free_of rfl) trivial (sq_out (s := 11) rfl rfl (fun _ _ => rfl)) (fun ρ w h => by simp [execOp, go_sem, h]) (fun _ => rfl)
          · exact q_load1 (off := 7) (fs := [.n T.x, .n T.y, .v (.bool T.i), .n 0, .v (.int .i64 0)]) (u := .int .i64 0) hp (free_of rfl) trivial (List.mem_iff_getElem?.2 ⟨0, rfl⟩) (.inl rfl) rfl rfl (fun ρ w b h1 h2 => by simp [execOp, go_sem, h1, h2]) (sq_in 0 rfl rfl (by simp) rfl (fun v w h => h)) (fun _ => rfl)
          · exact q_one (F := fun v _ => v = .int .i64 0) hp (free_of rfl) trivial (sq_in 1 rfl rfl (by simp) rfl (fun v w h => h)) (fun ρ w hc h => ⟨.bool false, by simp [execOp, go_sem, h, hc], rfl⟩)
          intro L vs w14 nb hL hC hn E14
          have e0 : vs 0 = .pointer (some ⟨b13_8, 7, none⟩) := hC 0 (by simp)
          have e1 : vs 1 = .int .i64 0 := hC 1 (by simp)
          have e2 : vs 2 = .bool false := hC 2 (by simp)
          have E : Fr w [(b13_8, 8, Fq.st [.n T.x, .n T.y, .v (.bool T.i), .n 0, .v (.int .i64 0)]), (b9_7, 5, Fq.st [.n X, .n Y, .v (.bool false)]), (b7_11, 6, Fq.st [.n A, .n B, .n m]), (b2, 2, Fq.st [.v (.int .u8 k0), .v (.int .u8 k1)]), (b1, 5, Fq.st [.v (.int .u8 M9), .v (.int .u8 A), .v (.int .u8 X), .v (.int .u8 Y), .v (.int .u16 Q)])] w14 := E14
          rw [lay_all hL]
          simp only [putAll, dstOf, List.length_cons, List.length_nil, Nat.zero_add, Nat.reduceAdd, List.getElem?_toArray, List.getElem?_cons_zero, List.getElem?_cons_succ, Option.bind_some, Act.put, List.setIfInBounds_toArray, List.set_cons_succ, List.set_cons_zero]
          rw [e0, e1, e2]
          clear e0 e1 e2 hC hn E14 hL vs L nb
          rcases HAC with ⟨d, hS, _⟩ | ⟨S, hS, hSon, hSum⟩
          · replace hS := hidd hS
            go_upto_region 13 with (fail)
            refine region_fr (C := [Fq.st [.n A, .n B, .n m], Fq.st [.n X, .n Y, .v (.bool false)], Fq.is (.pointer (some ⟨b13_8, 0, none⟩)), Fq.st [.n T.x, .n T.y, .v (.bool T.i)], Fq.st [.n 0, .n 0, .v (.bool false), .n d, .v (.int .i64 6)], Fq.any, Fq.any]) (ks := [none, none, none, none, none]) (new := [⟨5, 6, 8, Fq.st [.n 0, .n 0, .v (.bool false), .n 0, .v (.int .i64 0)], Fq.st [.n 0, .n 0, .v (.bool false), .n d, .v (.int .i64 6)], none⟩]) E rfl (by kernel_rfl) rfl rfl (fun hp => ⟨?_, ?_, ?_, ?_, ?_, ?_, ?_, trivial⟩) ?_
            · exact q_loadSt (off := 0) (l := 6) (fs := [.n A, .n B, .n m]) (gs := [.n A, .n B, .n m]) hp (free_of rfl) trivial (List.mem_iff_getElem?.2 ⟨2, rfl⟩) (.inl rfl) rfl row_api_Mod rfl (sq_out (s := 9) rfl rfl (fun _ _ => rfl)) (fun v w h => h)
            · exact q_loadSt (off := 0) (l := 5) (fs := [.n X, .n Y, .v (.bool false)]) (gs := [.n X, .n Y, .v (.bool false)]) hp (free_of rfl) trivial (List.mem_iff_getElem?.2 ⟨1, rfl⟩) (.inl rfl) rfl row_api_Point rfl (sq_out (s := 10) rfl rfl (fun _ _ => rfl)) (fun v w h => h)
            · exact q_addr (b := b13_8) (off := 0) (off' := 0) hp (free_of rfl) trivial (sq_out (s := 11) rfl rfl (fun _ _ => rfl)) (fun ρ w h => by simp [execOp, go_sem, h]) (fun _ => rfl)
            · exact q_loadSt (off := 0) (l := 5) (fs := [.n T.x, .n T.y, .v (.bool T.i), .n 0, .v (.int .i64 0)]) (gs := [.n T.x, .n T.y, .v (.bool T.i)]) hp (free_of rfl) trivial (List.mem_iff_getElem?.2 ⟨0, rfl⟩) (.inl rfl) rfl row_api_Point rfl (sq_in 2 rfl rfl (by simp) rfl (fun v w h => h)) (fun v w h => h)
            · exact q_call3 (F := (Fq.st [.n A, .n B, .n m]).P) (G := (Fq.st [.n X, .n Y, .v (.bool false)]).P) (F3 := (Fq.st [.n T.x, .n T.y, .v (.bool T.i)]).P) hp (free_of rfl) trivial (enq_f_algorist_algoristlaw06_add) (sq_in 0 rfl rfl (by simp) rfl (fun v w h => h)) (sq_in 1 rfl rfl (by simp) rfl (fun v w h => h)) (sq_in 3 rfl rfl (by simp) rfl (fun v w h => h)) (fun v v' u w h h' g => exLAdd (P := ⟨X, Y, false⟩) (Q := T) (R := (⟨0, 0, false⟩, d, 6)) h h' g Bm5.out BA5.out BB5.out BP5.out HTP.out hS.out)
            · exact q_allocSt (us := [.bool false, .slice none 0 0, .bool false, .slice none 0 0, .bool false, .bool false, .slice none 0 0, .int .i64 0]) (fs := [.n 0, .n 0, .v (.bool false), .n 0, .v (.int .i64 0)]) hp (List.mem_iff_getElem?.2 ⟨0, rfl⟩) rfl rfl rfl (Nat.lt_of_sub_eq_succ rfl) rfl fits0_algoristref06_Sum (fun ρ w => ralloc_algoristref06_Sum ρ w) rfl (Nat.ne_of_beq_eq_false rfl) (fun _ _ => trivial) (old_ne rfl) (newk_ne rfl)
            · exact q_storeNewSt (fs := [.n 0, .n 0, .v (.bool false), .n 0, .v (.int .i64 0)]) (gs := [.n 0, .n 0, .v (.bool false), .n d, .v (.int .i64 6)]) hp (List.mem_iff_getElem?.2 ⟨0, rfl⟩) rfl rfl rfl rfl size_algoristref06_Sum rfl (own_ptr rfl rfl (by simp) rfl) (sq_in 4 rfl rfl (by simp) rfl (fun v w h => fitv_st h)) (fun _ _ => trivial) (old_ne rfl) (newi_ne rfl)
            intro L vs w15 nb hL hC hn E15
            have e2 : vs 2 = .pointer (some ⟨b13_8, 0, none⟩) := hC 2 (by simp)
            have e5 : vs 5 = .pointer (some ⟨nb 5, 0, none⟩) := hn _ (List.mem_iff_getElem?.2 ⟨0, rfl⟩)
            have E : Fr w [(nb 5, 8, Fq.st [.n 0, .n 0, .v (.bool false), .n d, .v (.int .i64 6)]), (b13_8, 8, Fq.st [.n T.x, .n T.y, .v (.bool T.i), .n 0, .v (.int .i64 0)]), (b9_7, 5, Fq.st [.n X, .n Y, .v (.bool false)]), (b7_11, 6, Fq.st [.n A, .n B, .n m]), (b2, 2, Fq.st [.v (.int .u8 k0), .v (.int .u8 k1)]), (b1, 5, Fq.st [.v (.int .u8 M9), .v (.int .u8 A), .v (.int .u8 X), .v (.int .u8 Y), .v (.int .u16 Q)])] w15 := E15
            rw [lay_all hL]
            simp only [putAll, dstOf, List.length_cons, List.length_nil, Nat.zero_add, Nat.reduceAdd, List.getElem?_toArray, List.getElem?_cons_zero, List.getElem?_cons_succ, Option.bind_some, Act.put, List.setIfInBounds_toArray, List.set_cons_succ, List.set_cons_zero]
            rw [e2, e5]
            generalize nb 5 = b15_5 at E ⊢
            generalize vs 0 = u15_0
            generalize vs 1 = u15_1
            generalize vs 3 = u15_3
            generalize vs 4 = u15_4
            clear e2 e5 hC hn E15 hL vs L nb
            go_upto_region 14 with (fail)
            refine region_fr (C := [Fq.is (.pointer (some ⟨b15_5, 7, none⟩)), Fq.is (.int .i64 6), Fq.is (.bool true)]) (ks := [none, none, none, none, none, none]) (new := []) E rfl (by kernel_rfl) rfl rfl (fun hp => ⟨?_, ?_, ?_, trivial⟩) ?_
            · exact q_addr (b := b15_5) (off := 0) (off' := 7) hp (free_of rfl) trivial (sq_out (s := 12) rfl rfl (fun _ _ => rfl)) (fun ρ w h => by simp [execOp, go_sem, h]) (fun _ => rfl)
            · exact q_load1 (off := 7) (fs := [.n 0, .n 0, .v (.bool false), .n d, .v (.int .i64 6)]) (u := .int .i64 6) hp (free_of rfl) trivial (List.mem_iff_getElem?.2 ⟨0, rfl⟩) (.inl rfl) rfl rfl (fun ρ w b h1 h2 => by simp [execOp, go_sem, h1, h2]) (sq_in 0 rfl rfl (by simp) rfl (fun v w h => h)) (fun _ => rfl)
            · exact q_one (F := fun v _ => v = .int .i64 6) hp (free_of rfl) trivial (sq_in 1 rfl rfl (by simp) rfl (fun v w h => h)) (fun ρ w hc h => ⟨.bool true, by simp [execOp, go_sem, h, hc], rfl⟩)
            intro L vs w16 nb hL hC hn E16
            have e0 : vs 0 = .pointer (some ⟨b15_5, 7, none⟩) := hC 0 (by simp)
            have e1 : vs 1 = .int .i64 6 := hC 1 (by simp)
            have e2 : vs 2 = .bool true := hC 2 (by simp)
            have E : Fr w [(b15_5, 8, Fq.st [.n 0, .n 0, .v (.bool false), .n d, .v (.int .i64 6)]), (b13_8, 8, Fq.st [.n T.x, .n T.y, .v (.bool T.i), .n 0, .v (.int .i64 0)]), (b9_7, 5, Fq.st [.n X, .n Y, .v (.bool false)]), (b7_11, 6, Fq.st [.n A, .n B, .n m]), (b2, 2, Fq.st [.v (.int .u8 k0), .v (.int .u8 k1)]), (b1, 5, Fq.st [.v (.int .u8 M9), .v (.int .u8 A), .v (.int .u8 X), .v (.int .u8 Y), .v (.int .u16 Q)])] w16 := E16
            rw [lay_all hL]
            simp only [putAll, dstOf, List.length_cons, List.length_nil, Nat.zero_add, Nat.reduceAdd, List.getElem?_toArray, List.getElem?_cons_zero, List.getElem?_cons_succ, Option.bind_some, Act.put, List.setIfInBounds_toArray, List.set_cons_succ, List.set_cons_zero]
            rw [e0, e1, e2]
            clear e0 e1 e2 hC hn E16 hL vs L nb
            go_upto_region 15 with (fail)
            refine region_fr (C := [Fq.is (.pointer (some ⟨b15_5, 7, none⟩)), Fq.is (.int .i64 6), Fq.is (.bool true), Fq.is (.bool true), Fq.is (.bool true), Fq.is (.bool true), Fq.is (.bool true)]) (ks := [none, none, none, none, none, none]) (new := []) E rfl (by kernel_rfl) rfl rfl (fun hp => ⟨?_, ?_, ?_, ?_, ?_, ?_, ?_, trivial⟩) ?_
            · exact q_addr (b := b15_5) (off := 0) (off' := 7) hp (free_of rfl) trivial (sq_out (s := 12) rfl rfl (fun _ _ => rfl)) (fun ρ w h => by simp [execOp, go_sem, h]) (fun _ => rfl)
            · exact q_load1 (off := 7) (fs := [.n 0, .n 0, .v (.bool false), .n d, .v (.int .i64 6)]) (u := .int .i64 6) hp (free_of rfl) trivial (List.mem_iff_getElem?.2 ⟨0, rfl⟩) (.inl rfl) rfl rfl (fun ρ w b h1 h2 => by simp [execOp, go_sem, h1, h2]) (sq_in 0 rfl rfl (by simp) rfl (fun v w h => h)) (fun _ => rfl)
            · exact q_one (F := fun v _ => v = .int .i64 6) hp (free_of rfl) trivial (sq_in 1 rfl rfl (by simp) rfl (fun v w h => h)) (fun ρ w hc h => ⟨.bool true, by simp [execOp, go_sem, h, hc], rfl⟩)
            · exact q_move hp (free_of rfl) trivial (sq_in 2 rfl rfl (by simp) rfl (fun v w h => h))
            · exact q_move hp (free_of rfl) (gq_some rfl rfl (by simp) rfl (fun v w h => h)) (sq_out (s := 5) rfl rfl (fun _ _ => rfl))
            · exact q_two (F := fun v _ => v = .bool true) (G := fun v _ => v = .bool true) hp (free_of rfl) trivial (sq_in 3 rfl rfl (by simp) rfl (fun v w h => h)) (sq_in 4 rfl rfl (by simp) rfl (fun v w h => h)) (fun ρ w hc h h' => ⟨_, by simp [execOp, go_sem, h, h'], rfl⟩)
            · exact q_assign hp (free_of rfl) trivial (sq_in 5 rfl rfl (by simp) rfl (fun v w h => h))
            intro L vs w17 nb hL hC hn E17
            have e0 : vs 0 = .pointer (some ⟨b15_5, 7, none⟩) := hC 0 (by simp)
            have e1 : vs 1 = .int .i64 6 := hC 1 (by simp)
            have e2 : vs 2 = .bool true := hC 2 (by simp)
            have e3 : vs 3 = .bool true := hC 3 (by simp)
            have e4 : vs 4 = .bool true := hC 4 (by simp)
            have e5 : vs 5 = .bool true := hC 5 (by simp)
            have e6 : vs 6 = .bool true := hC 6 (by simp)
            have E : Fr w [(b15_5, 8, Fq.st [.n 0, .n 0, .v (.bool false), .n d, .v (.int .i64 6)]), (b13_8, 8, Fq.st [.n T.x, .n T.y, .v (.bool T.i), .n 0, .v (.int .i64 0)]), (b9_7, 5, Fq.st [.n X, .n Y, .v (.bool false)]), (b7_11, 6, Fq.st [.n A, .n B, .n m]), (b2, 2, Fq.st [.v (.int .u8 k0), .v (.int .u8 k1)]), (b1, 5, Fq.st [.v (.int .u8 M9), .v (.int .u8 A), .v (.int .u8 X), .v (.int .u8 Y), .v (.int .u16 Q)])] w17 := E17
            rw [lay_all hL]
            simp only [putAll, dstOf, List.length_cons, List.length_nil, Nat.zero_add, Nat.reduceAdd, List.getElem?_toArray, List.getElem?_cons_zero, List.getElem?_cons_succ, Option.bind_some, Act.put, List.setIfInBounds_toArray, List.set_cons_succ, List.set_cons_zero]
            rw [e0, e1, e2, e3, e4, e5, e6]
            clear e0 e1 e2 e3 e4 e5 e6 hC hn E17 hL vs L nb
            clear hT hS HTO HON HA5 HM1 HDV HBB HB0 HQ0 HAX KEEP
            clear Ba Bq Ba3 Bm5 BA5 BB5 BP5 BQ20 HTP
            go_wp2
            refine bodyPost_ret (v := .bool true) ?_ rfl ⟨_, rfl, E.below, rfl⟩
            simp [results, Try.results6, go_sem]
          · replace hS := hidd hS
            have HSP : Hid (ab S.x < pw 5 ∧ ab S.y < pw 5) := (onB_ok hSon).1.ab Bm5.out
            have HPR := hidd (add_proj (a := a) (by have := HA5.out; omega) HA5.out.2.2 HDV.out (by have := HM1.out; omega) HON.out HTO.out hSum)
            have HA0 : Hid (0 < a) := by have := HA5.out; show 0 < a; omega
            clear hSon hSum
            have BL1 : Hid (ab (A % a) < pw 5) := ab_mod' HA0.out Ba.out
            have BL2 : Hid (ab (B % a) < pw 5) := ab_mod' HA0.out Ba.out
            have BL3 : Hid (ab (X % a) < pw 5 ∧ ab (Y % a) < pw 5) := ⟨ab_mod' HA0.out Ba.out, ab_mod' HA0.out Ba.out⟩
            have BL4 : Hid (ab (T.x % a) < pw 5 ∧ ab (T.y % a) < pw 5) := ⟨ab_mod' HA0.out Ba.out, ab_mod' HA0.out Ba.out⟩
            go_upto_region 13 with (fail)
            refine region_fr (C := [Fq.st [.n A, .n B, .n m], Fq.st [.n X, .n Y, .v (.bool false)], Fq.is (.pointer (some ⟨b13_8, 0, none⟩)), Fq.st [.n T.x, .n T.y, .v (.bool T.i)], Fq.st [.n S.x, .n S.y, .v (.bool S.i), .n 0, .v (.int .i64 0)], Fq.any, Fq.any]) (ks := [none, none, none, none, none]) (new := [⟨5, 6, 8, Fq.st [.n 0, .n 0, .v (.bool false), .n 0, .v (.int .i64 0)], Fq.st [.n S.x, .n S.y, .v (.bool S.i), .n 0, .v (.int .i64 0)], none⟩]) E rfl (by kernel_rfl) rfl rfl (fun hp => ⟨?_, ?_, ?_, ?_, ?_, ?_, ?_, trivial⟩) ?_
            · exact q_loadSt (off := 0) (l := 6) (fs := [.n A, .n B, .n m]) (gs := [.n A, .n B, .n m]) hp (free_of rfl) trivial (List.mem_iff_getElem?.2 ⟨2, rfl⟩) (.inl rfl) rfl row_api_Mod rfl (sq_out (s := 9) rfl rfl (fun _ _ => rfl)) (fun v w h => h)
            · exact q_loadSt (off := 0) (l := 5) (fs := [.n X, .n Y, .v (.bool false)]) (gs := [.n X, .n Y, .v (.bool false)]) hp (free_of rfl) trivial (List.mem_iff_getElem?.2 ⟨1, rfl⟩) (.inl rfl) rfl row_api_Point rfl (sq_out (s := 10) rfl rfl (fun _ _ => rfl)) (fun v w h => h)
            · exact q_addr (b := b13_8) (off := 0) (off' := 0) hp (free_of rfl) trivial (sq_out (s := 11) rfl rfl (fun _ _ => rfl)) (fun ρ w h => by simp [execOp, go_sem, h]) (fun _ => rfl)
            · exact q_loadSt (off := 0) (l := 5) (fs := [.n T.x, .n T.y, .v (.bool T.i), .n 0, .v (.int .i64 0)]) (gs := [.n T.x, .n T.y, .v (.bool T.i)]) hp (free_of rfl) trivial (List.mem_iff_getElem?.2 ⟨0, rfl⟩) (.inl rfl) rfl row_api_Point rfl (sq_in 2 rfl rfl (by simp) rfl (fun v w h => h)) (fun v w h => h)
            · exact q_call3 (F := (Fq.st [.n A, .n B, .n m]).P) (G := (Fq.st [.n X, .n Y, .v (.bool false)]).P) (F3 := (Fq.st [.n T.x, .n T.y, .v (.bool T.i)]).P) hp (free_of rfl) trivial (enq_f_algorist_algoristlaw06_add) (sq_in 0 rfl rfl (by simp) rfl (fun v w h => h)) (sq_in 1 rfl rfl (by simp) rfl (fun v w h => h)) (sq_in 3 rfl rfl (by simp) rfl (fun v w h => h)) (fun v v' u w h h' g => exLAdd (P := ⟨X, Y, false⟩) (Q := T) (R := (S, 0, 0)) h h' g Bm5.out BA5.out BB5.out BP5.out HTP.out hS.out)
            · exact q_allocSt (us := [.bool false, .slice none 0 0, .bool false, .slice none 0 0, .bool false, .bool false, .slice none 0 0, .int .i64 0]) (fs := [.n 0, .n 0, .v (.bool false), .n 0, .v (.int .i64 0)]) hp (List.mem_iff_getElem?.2 ⟨0, rfl⟩) rfl rfl rfl (Nat.lt_of_sub_eq_succ rfl) rfl fits0_algoristref06_Sum (fun ρ w => ralloc_algoristref06_Sum ρ w) rfl (Nat.ne_of_beq_eq_false rfl) (fun _ _ => trivial) (old_ne rfl) (newk_ne rfl)
            · exact q_storeNewSt (fs := [.n 0, .n 0, .v (.bool false), .n 0, .v (.int .i64 0)]) (gs := [.n S.x, .n S.y, .v (.bool S.i), .n 0, .v (.int .i64 0)]) hp (List.mem_iff_getElem?.2 ⟨0, rfl⟩) rfl rfl rfl rfl size_algoristref06_Sum rfl (own_ptr rfl rfl (by simp) rfl) (sq_in 4 rfl rfl (by simp) rfl (fun v w h => fitv_st h)) (fun _ _ => trivial) (old_ne rfl) (newi_ne rfl)
            intro L vs w18 nb hL hC hn E18
            have e2 : vs 2 = .pointer (some ⟨b13_8, 0, none⟩) := hC 2 (by simp)
            have e5 : vs 5 = .pointer (some ⟨nb 5, 0, none⟩) := hn _ (List.mem_iff_getElem?.2 ⟨0, rfl⟩)
            have E : Fr w [(nb 5, 8, Fq.st [.n S.x, .n S.y, .v (.bool S.i), .n 0, .v (.int .i64 0)]), (b13_8, 8, Fq.st [.n T.x, .n T.y, .v (.bool T.i), .n 0, .v (.int .i64 0)]), (b9_7, 5, Fq.st [.n X, .n Y, .v (.bool false)]), (b7_11, 6, Fq.st [.n A, .n B, .n m]), (b2, 2, Fq.st [.v (.int .u8 k0), .v (.int .u8 k1)]), (b1, 5, Fq.st [.v (.int .u8 M9), .v (.int .u8 A), .v (.int .u8 X), .v (.int .u8 Y), .v (.int .u16 Q)])] w18 := E18
            rw [lay_all hL]
            simp only [putAll, dstOf, List.length_cons, List.length_nil, Nat.zero_add, Nat.reduceAdd, List.getElem?_toArray, List.getElem?_cons_zero, List.getElem?_cons_succ, Option.bind_some, Act.put, List.setIfInBounds_toArray, List.set_cons_succ, List.set_cons_zero]
            rw [e2, e5]
            generalize nb 5 = b18_5 at E ⊢
            generalize vs 0 = u18_0
            generalize vs 1 = u18_1
            generalize vs 3 = u18_3
            generalize vs 4 = u18_4
            clear e2 e5 hC hn E18 hL vs L nb
            go_upto_region 14 with (fail)
            refine region_fr (C := [Fq.is (.pointer (some ⟨b18_5, 7, none⟩)), Fq.is (.int .i64 0), Fq.is (.bool false)]) (ks := [none, none, none, none, none, none]) (new := []) E rfl (by kernel_rfl) rfl rfl (fun hp => ⟨?_, ?_, ?_, trivial⟩) ?_
            · exact q_addr (b := b18_5) (off := 0) (off' := 7) hp (free_of rfl) trivial (sq_out (s := 12) rfl rfl (fun _ _ => rfl)) (fun ρ w h => by simp [execOp, go_sem, h]) (fun _ => rfl)
            · exact q_load1 (off := 7) (fs := [.n S.x, .n S.y, .v (.bool S.i), .n 0, .v (.int .i64 0)]) (u := .int .i64 0) hp (free_of rfl) trivial (List.mem_iff_getElem?.2 ⟨0, rfl⟩) (.inl rfl) rfl rfl (fun ρ w b h1 h2 => by simp [execOp, go_sem, h1, h2]) (sq_in 0 rfl rfl (by simp) rfl (fun v w h => h)) (fun _ => rfl)
            · exact q_one (F := fun v _ => v = .int .i64 0) hp (free_of rfl) trivial (sq_in 1 rfl rfl (by simp) rfl (fun v w h => h)) (fun ρ w hc h => ⟨.bool false, by simp [execOp, go_sem, h, hc], rfl⟩)
            intro L vs w19 nb hL hC hn E19
            have e0 : vs 0 = .pointer (some ⟨b18_5, 7, none⟩) := hC 0 (by simp)
            have e1 : vs 1 = .int .i64 0 := hC 1 (by simp)
            have e2 : vs 2 = .bool false := hC 2 (by simp)
            have E : Fr w [(b18_5, 8, Fq.st [.n S.x, .n S.y, .v (.bool S.i), .n 0, .v (.int .i64 0)]), (b13_8, 8, Fq.st [.n T.x, .n T.y, .v (.bool T.i), .n 0, .v (.int .i64 0)]), (b9_7, 5, Fq.st [.n X, .n Y, .v (.bool false)]), (b7_11, 6, Fq.st [.n A, .n B, .n m]), (b2, 2, Fq.st [.v (.int .u8 k0), .v (.int .u8 k1)]), (b1, 5, Fq.st [.v (.int .u8 M9), .v (.int .u8 A), .v (.int .u8 X), .v (.int .u8 Y), .v (.int .u16 Q)])] w19 := E19
            rw [lay_all hL]
            simp only [putAll, dstOf, List.length_cons, List.length_nil, Nat.zero_add, Nat.reduceAdd, List.getElem?_toArray, List.getElem?_cons_zero, List.getElem?_cons_succ, Option.bind_some, Act.put, List.setIfInBounds_toArray, List.set_cons_succ, List.set_cons_zero]
            rw [e0, e1, e2]
            clear e0 e1 e2 hC hn E19 hL vs L nb
            go_upto_region 16 with (fail)
            refine region_fr (C := [Fq.st [.n A, .n B, .n m], Fq.st [.n X, .n Y, .v (.bool false)], Fq.is (.int .i64 a), Fq.num a, Fq.tup3 (Fq.st [.n (A % a), .n (B % a), .n a]) (Fq.st [.n (X % a), .n (Y % a), .v (.bool false)]) (Fq.is (.bool true)), Fq.tup3 (Fq.st [.n (A % a), .n (B % a), .n a]) (Fq.st [.n (X % a), .n (Y % a), .v (.bool false)]) (Fq.is (.bool true)), Fq.st [.n (A % a), .n (B % a), .n a], Fq.st [.n (X % a), .n (Y % a), .v (.bool false)], Fq.is (.bool true), Fq.any, Fq.any, Fq.any, Fq.any, Fq.is (.bool true)]) (ks := [none, none, none, none, none, none]) (new := [⟨9, 11, 6, Fq.st [.n 0, .n 0, .n 0], Fq.st [.n (A % a), .n (B % a), .n a], none⟩, ⟨10, 12, 5, Fq.st [.n 0, .n 0, .v (.bool false)], Fq.st [.n (X % a), .n (Y % a), .v (.bool false)], none⟩]) E rfl (by kernel_rfl) rfl rfl (fun hp => ⟨?_, ?_, ?_, ?_, ?_, ?_, ?_, ?_, ?_, ?_, ?_, ?_, ?_, ?_, trivial⟩) ?_
            · exact q_loadSt (off := 0) (l := 6) (fs := [.n A, .n B, .n m]) (gs := [.n A, .n B, .n m]) hp (free_of rfl) trivial (List.mem_iff_getElem?.2 ⟨3, rfl⟩) (.inl rfl) rfl row_api_Mod rfl (sq_out (s := 9) rfl rfl (fun _ _ => rfl)) (fun v w h => h)
            · exact q_loadSt (off := 0) (l := 5) (fs := [.n X, .n Y, .v (.bool false)]) (gs := [.n X, .n Y, .v (.bool false)]) hp (free_of rfl) trivial (List.mem_iff_getElem?.2 ⟨2, rfl⟩) (.inl rfl) rfl row_api_Point rfl (sq_out (s := 10) rfl rfl (fun _ _ => rfl)) (fun v w h => h)
            · exact q_move hp (free_of rfl) trivial (sq_out (s := 6) rfl rfl (fun _ _ => rfl))
            · exact q_call1 (F := (Fq.is (.int .i64 a)).P) hp (free_of rfl) trivial (enq_R_Of) (sq_in 2 rfl rfl (by simp) rfl (fun v w h => h)) (fun v w h => (by subst h; exact rOfK w a (by have := HA5.out; omega) (by have := HA5.out; omega)))
            · exact q_call3 (F := (Fq.st [.n A, .n B, .n m]).P) (G := (Fq.st [.n X, .n Y, .v (.bool false)]).P) (F3 := (Fq.num a).P) hp (free_of rfl) trivial (enq_f_algorist_algoristlaw06_low) (sq_in 0 rfl rfl (by simp) rfl (fun v w h => h)) (sq_in 1 rfl rfl (by simp) rfl (fun v w h => h)) (sq_in 3 rfl rfl (by simp) rfl (fun v w h => h)) (fun v v' u w h h' g => exLow6 (P := (⟨X, Y, false⟩ : Pt)) h h' g Bm5.out BA5.out BB5.out BP5.out Ba.out HA0.out)
            · exact q_move hp (free_of rfl) trivial (sq_in 4 rfl rfl (by simp) rfl (fun v w h => h))
            · exact q_extract3 hp (free_of rfl) trivial (sq_in 5 rfl rfl (by simp) rfl (fun v w h => h)) (fun v1 v2 v3 w h1 h2 h3 => ⟨_, rfl, h1⟩)
            · exact q_extract3 hp (free_of rfl) trivial (sq_in 5 rfl rfl (by simp) rfl (fun v w h => h)) (fun v1 v2 v3 w h1 h2 h3 => ⟨_, rfl, h2⟩)
            · exact q_extract3 hp (free_of rfl) trivial (sq_in 5 rfl rfl (by simp) rfl (fun v w h => h)) (fun v1 v2 v3 w h1 h2 h3 => ⟨_, rfl, h3⟩)
            · exact q_allocSt (us := [.bool false, .slice none 0 0, .bool false, .slice none 0 0, .bool false, .slice none 0 0]) (fs := [.n 0, .n 0, .n 0]) hp (List.mem_iff_getElem?.2 ⟨0, rfl⟩) rfl rfl rfl (Nat.lt_of_sub_eq_succ rfl) rfl fits0_api_Mod (fun ρ w => ralloc_api_Mod ρ w) rfl (Nat.ne_of_beq_eq_false rfl) (fun _ _ => trivial) (old_ne rfl) (newk_ne rfl)
            · exact q_allocSt (us := [.bool false, .slice none 0 0, .bool false, .slice none 0 0, .bool false]) (fs := [.n 0, .n 0, .v (.bool false)]) hp (List.mem_iff_getElem?.2 ⟨1, rfl⟩) rfl rfl rfl (Nat.lt_of_sub_eq_succ rfl) rfl fits0_api_Point (fun ρ w => ralloc_api_Point ρ w) rfl (Nat.ne_of_beq_eq_false rfl) (fun _ _ => trivial) (old_ne rfl) (newk_ne rfl)
            · exact q_storeNewSt (fs := [.n 0, .n 0, .n 0]) (gs := [.n (A % a), .n (B % a), .n a]) hp (List.mem_iff_getElem?.2 ⟨0, rfl⟩) rfl rfl rfl rfl size_api_Mod rfl (own_ptr rfl rfl (by simp) rfl) (sq_in 6 rfl rfl (by simp) rfl (fun v w h => fitv_st h)) (fun _ _ => trivial) (old_ne rfl) (newi_ne rfl)
            · exact q_storeNewSt (fs := [.n 0, .n 0, .v (.bool false)]) (gs := [.n (X % a), .n (Y % a), .v (.bool false)]) hp (List.mem_iff_getElem?.2 ⟨1, rfl⟩) rfl rfl rfl rfl size_api_Point rfl (own_ptr rfl rfl (by simp) rfl) (sq_in 7 rfl rfl (by simp) rfl (fun v w h => fitv_st h)) (fun _ _ => trivial) (old_ne rfl) (newi_ne rfl)
            · exact q_assign hp (free_of rfl) trivial (sq_in 8 rfl rfl (by simp) rfl (fun v w h => h))
            intro L vs w20 nb hL hC hn E20
            have e2 : vs 2 = .int .i64 a := hC 2 (by simp)
            have e8 : vs 8 = .bool true := hC 8 (by simp)
            have e13 : vs 13 = .bool true := hC 13 (by simp)
            have e9 : vs 9 = .pointer (some ⟨nb 9, 0, none⟩) := hn _ (List.mem_iff_getElem?.2 ⟨0, rfl⟩)
            have e10 : vs 10 = .pointer (some ⟨nb 10, 0, none⟩) := hn _ (List.mem_iff_getElem?.2 ⟨1, rfl⟩)
            have E : Fr w [(nb 9, 6, Fq.st [.n (A % a), .n (B % a), .n a]), (nb 10, 5, Fq.st [.n (X % a), .n (Y % a), .v (.bool false)]), (b18_5, 8, Fq.st [.n S.x, .n S.y, .v (.bool S.i), .n 0, .v (.int .i64 0)]), (b13_8, 8, Fq.st [.n T.x, .n T.y, .v (.bool T.i), .n 0, .v (.int .i64 0)]), (b9_7, 5, Fq.st [.n X, .n Y, .v (.bool false)]), (b7_11, 6, Fq.st [.n A, .n B, .n m]), (b2, 2, Fq.st [.v (.int .u8 k0), .v (.int .u8 k1)]), (b1, 5, Fq.st [.v (.int .u8 M9), .v (.int .u8 A), .v (.int .u8 X), .v (.int .u8 Y), .v (.int .u16 Q)])] w20 := E20
            rw [lay_all hL]
            simp only [putAll, dstOf, List.length_cons, List.length_nil, Nat.zero_add, Nat.reduceAdd, List.getElem?_toArray, List.getElem?_cons_zero, List.getElem?_cons_succ, Option.bind_some, Act.put, List.setIfInBounds_toArray, List.set_cons_succ, List.set_cons_zero]
            rw [e2, e8, e13, e9, e10]
            generalize nb 9 = b20_9 at E ⊢
            generalize nb 10 = b20_10 at E ⊢
            generalize vs 0 = u20_0
            generalize vs 1 = u20_1
            generalize vs 3 = u20_3
            generalize vs 4 = u20_4
            generalize vs 5 = u20_5
            generalize vs 6 = u20_6
            generalize vs 7 = u20_7
            clear e2 e8 e13 e9 e10 hC hn E20 hL vs L nb
            go_upto_region 17 with (fail)
            refine region_fr (C := [Fq.st [.n A, .n B, .n m], Fq.is (.pointer (some ⟨b13_8, 0, none⟩)), Fq.st [.n T.x, .n T.y, .v (.bool T.i)], Fq.is (.int .i64 a), Fq.num a, Fq.tup3 (Fq.st [.n (A % a), .n (B % a), .n a]) (Fq.st [.n (T.x % a), .n (T.y % a), .v (.bool T.i)]) (Fq.is (.bool true)), Fq.tup3 (Fq.st [.n (A % a), .n (B % a), .n a]) (Fq.st [.n (T.x % a), .n (T.y % a), .v (.bool T.i)]) (Fq.is (.bool true)), Fq.st [.n (A % a), .n (B % a), .n a], Fq.st [.n (T.x % a), .n (T.y % a), .v (.bool T.i)], Fq.is (.bool true), Fq.any, Fq.any, Fq.any, Fq.any, Fq.is (.bool true)]) (ks := [none, none, none, none, none, none, none, none]) (new := [⟨10, 12, 6, Fq.st [.n 0, .n 0, .n 0], Fq.st [.n (A % a), .n (B % a), .n a], none⟩, ⟨11, 13, 5, Fq.st [.n 0, .n 0, .v (.bool false)], Fq.st [.n (T.x % a), .n (T.y % a), .v (.bool T.i)], none⟩]) E rfl (by kernel_rfl) rfl rfl (fun hp => ⟨?_, ?_, ?_, ?_, ?_, ?_, ?_, ?_, ?_, ?_, ?_, ?_, ?_, ?_, ?_, trivial⟩) ?_
            · exact q_loadSt (off := 0) (l := 6) (fs := [.n A, .n B, .n m]) (gs := [.n A, .n B, .n m]) hp (free_of rfl) trivial (List.mem_iff_getElem?.2 ⟨5, rfl⟩) (.inl rfl) rfl row_api_Mod rfl (sq_out (s := 9) rfl rfl (fun _ _ => rfl)) (fun v w h => h)
            · exact q_addr (b := b13_8) (off := 0) (off' := 0) hp (free_of rfl) trivial (sq_out (s := 11) rfl rfl (fun _ _ => rfl)) (fun ρ w h => by simp [execOp, go_sem, h]) (fun _ => rfl)
            · exact q_loadSt (off := 0) (l := 5) (fs := [.n T.x, .n T.y, .v (.bool T.i), .n 0, .v (.int .i64 0)]) (gs := [.n T.x, .n T.y, .v (.bool T.i)]) hp (free_of rfl) trivial (List.mem_iff_getElem?.2 ⟨3, rfl⟩) (.inl rfl) rfl row_api_Point rfl (sq_in 1 rfl rfl (by simp) rfl (fun v w h => h)) (fun v w h => h)
            · exact q_move hp (free_of rfl) trivial (sq_out (s := 6) rfl rfl (fun _ _ => rfl))
            · exact q_call1 (F := (Fq.is (.int .i64 a)).P) hp (free_of rfl) trivial (enq_R_Of) (sq_in 3 rfl rfl (by simp) rfl (fun v w h => h)) (fun v w h => (by subst h; exact rOfK w a (by have := HA5.out; omega) (by have := HA5.out; omega)))
            · exact q_call3 (F := (Fq.st [.n A, .n B, .n m]).P) (G := (Fq.st [.n T.x, .n T.y, .v (.bool T.i)]).P) (F3 := (Fq.num a).P) hp (free_of rfl) trivial (enq_f_algorist_algoristlaw06_low) (sq_in 0 rfl rfl (by simp) rfl (fun v w h => h)) (sq_in 2 rfl rfl (by simp) rfl (fun v w h => h)) (sq_in 4 rfl rfl (by simp) rfl (fun v w h => h)) (fun v v' u w h h' g => exLow6 (P := T) h h' g Bm5.out BA5.out BB5.out HTP.out Ba.out HA0.out)
            · exact q_move hp (free_of rfl) trivial (sq_in 5 rfl rfl (by simp) rfl (fun v w h => h))
            · exact q_extract3 hp (free_of rfl) trivial (sq_in 6 rfl rfl (by simp) rfl (fun v w h => h)) (fun v1 v2 v3 w h1 h2 h3 => ⟨_, rfl, h1⟩)
            · exact q_extract3 hp (free_of rfl) trivial (sq_in 6 rfl rfl (by simp) rfl (fun v w h => h)) (fun v1 v2 v3 w h1 h2 h3 => ⟨_, rfl, h2⟩)
            · exact q_extract3 hp (free_of rfl) trivial (sq_in 6 rfl rfl (by simp) rfl (fun v w h => h)) (fun v1 v2 v3 w h1 h2 h3 => ⟨_, rfl, h3⟩)
            · exact q_allocSt (us := [.bool false, .slice none 0 0, .bool false, .slice none 0 0, .bool false, .slice none 0 0]) (fs := [.n 0, .n 0, .n 0]) hp (List.mem_iff_getElem?.2 ⟨0, rfl⟩) rfl rfl rfl (Nat.lt_of_sub_eq_succ rfl) rfl fits0_api_Mod (fun ρ w => ralloc_api_Mod ρ w) rfl (Nat.ne_of_beq_eq_false rfl) (fun _ _ => trivial) (old_ne rfl) (newk_ne rfl)
            · exact q_allocSt (us := [.bool false, .slice none 0 0, .bool false, .slice none 0 0, .bool false]) (fs := [.n 0, .n 0, .v (.bool false)]) hp (List.mem_iff_getElem?.2 ⟨1, rfl⟩) rfl rfl rfl (Nat.lt_of_sub_eq_succ rfl) rfl fits0_api_Point (fun ρ w => ralloc_api_Point ρ w) rfl (Nat.ne_of_beq_eq_false rfl) (fun _ _ => trivial) (old_ne rfl) (newk_ne rfl)
            · exact q_storeNewSt (fs := [.n 0, .n 0, .n 0]) (gs := [.n (A % a), .n (B % a), .n a]) hp (List.mem_iff_getElem?.2 ⟨0, rfl⟩) rfl rfl rfl rfl size_api_Mod rfl (own_ptr rfl rfl (by simp) rfl) (sq_in 7 rfl rfl (by simp) rfl (fun v w h => fitv_st h)) (fun _ _ => trivial) (old_ne rfl) (newi_ne rfl)
            · exact q_storeNewSt (fs := [.n 0, .n 0, .v (.bool false)]) (gs := [.n (T.x % a), .n (T.y % a), .v (.bool T.i)]) hp (List.mem_iff_getElem?.2 ⟨1, rfl⟩) rfl rfl rfl rfl size_api_Point rfl (own_ptr rfl rfl (by simp) rfl) (sq_in 8 rfl rfl (by simp) rfl (fun v w h => fitv_st h)) (fun _ _ => trivial) (old_ne rfl) (newi_ne rfl)
            · exact q_assign hp (free_of rfl) trivial (sq_in 9 rfl rfl (by simp) rfl (fun v w h => h))
            intro L vs w21 nb hL hC hn E21
            have e1 : vs 1 = .pointer (some ⟨b13_8, 0, none⟩) := hC 1 (by simp)
            have e3 : vs 3 = .int .i64 a := hC 3 (by simp)
            have e9 : vs 9 = .bool true := hC 9 (by simp)
            have e14 : vs 14 = .bool true := hC 14 (by simp)
            have e10 : vs 10 = .pointer (some ⟨nb 10, 0, none⟩) := hn _ (List.mem_iff_getElem?.2 ⟨0, rfl⟩)
            have e11 : vs 11 = .pointer (some ⟨nb 11, 0, none⟩) := hn _ (List.mem_iff_getElem?.2 ⟨1, rfl⟩)
            have E : Fr w [(nb 10, 6, Fq.st [.n (A % a), .n (B % a), .n a]), (nb 11, 5, Fq.st [.n (T.x % a), .n (T.y % a), .v (.bool T.i)]), (b20_9, 6, Fq.st [.n (A % a), .n (B % a), .n a]), (b20_10, 5, Fq.st [.n (X % a), .n (Y % a), .v (.bool false)]), (b18_5, 8, Fq.st [.n S.x, .n S.y, .v (.bool S.i), .n 0, .v (.int .i64 0)]), (b13_8, 8, Fq.st [.n T.x, .n T.y, .v (.bool T.i), .n 0, .v (.int .i64 0)]), (b9_7, 5, Fq.st [.n X, .n Y, .v (.bool false)]), (b7_11, 6, Fq.st [.n A, .n B, .n m]), (b2, 2, Fq.st [.v (.int .u8 k0), .v (.int .u8 k1)]), (b1, 5, Fq.st [.v (.int .u8 M9), .v (.int .u8 A), .v (.int .u8 X), .v (.int .u8 Y), .v (.int .u16 Q)])] w21 := E21
            rw [lay_all hL]
            simp only [putAll, dstOf, List.length_cons, List.length_nil, Nat.zero_add, Nat.reduceAdd, List.getElem?_toArray, List.getElem?_cons_zero, List.getElem?_cons_succ, Option.bind_some, Act.put, List.setIfInBounds_toArray, List.set_cons_succ, List.set_cons_zero]
            rw [e1, e3, e9, e14, e10, e11]
            generalize nb 10 = b21_10 at E ⊢
            generalize nb 11 = b21_11 at E ⊢
            generalize vs 0 = u21_0
            generalize vs 2 = u21_2
            generalize vs 4 = u21_4
            generalize vs 5 = u21_5
            generalize vs 6 = u21_6
            generalize vs 7 = u21_7
            generalize vs 8 = u21_8
            clear e1 e3 e9 e14 e10 e11 hC hn E21 hL vs L nb
            go_upto_region 18 with (fail)
            refine region_fr (C := [Fq.st [.n A, .n B, .n m], Fq.is (.pointer (some ⟨b18_5, 0, none⟩)), Fq.st [.n S.x, .n S.y, .v (.bool S.i)], Fq.is (.int .i64 a), Fq.num a, Fq.tup3 (Fq.st [.n (A % a), .n (B % a), .n a]) (Fq.st [.n (S.x % a), .n (S.y % a), .v (.bool S.i)]) (Fq.is (.bool true)), Fq.tup3 (Fq.st [.n (A % a), .n (B % a), .n a]) (Fq.st [.n (S.x % a), .n (S.y % a), .v (.bool S.i)]) (Fq.is (.bool true)), Fq.st [.n (A % a), .n (B % a), .n a], Fq.st [.n (S.x % a), .n (S.y % a), .v (.bool S.i)], Fq.is (.bool true), Fq.any, Fq.any, Fq.any, Fq.any, Fq.is (.bool true)]) (ks := [none, none, none, none, none, none, none, none, none, none]) (new := [⟨10, 12, 6, Fq.st [.n 0, .n 0, .n 0], Fq.st [.n (A % a), .n (B % a), .n a], none⟩, ⟨11, 13, 5, Fq.st [.n 0, .n 0, .v (.bool false)], Fq.st [.n (S.x % a), .n (S.y % a), .v (.bool S.i)], none⟩]) E rfl (by kernel_rfl) rfl rfl (fun hp => ⟨?_, ?_, ?_, ?_, ?_, ?_, ?_, ?_, ?_, ?_, ?_, ?_, ?_, ?_, ?_, trivial⟩) ?_
            · exact q_loadSt (off := 0) (l := 6) (fs := [.n A, .n B, .n m]) (gs := [.n A, .n B, .n m]) hp (free_of rfl) trivial (List.mem_iff_getElem?.2 ⟨7, rfl⟩) (.inl rfl) rfl row_api_Mod rfl (sq_out (s := 9) rfl rfl (fun _ _ => rfl)) (fun v w h => h)
            · exact q_addr (b := b18_5) (off := 0) (off' := 0) hp (free_of rfl) trivial (sq_out (s := 12) rfl rfl (fun _ _ => rfl)) (fun ρ w h => by simp [execOp, go_sem, h]) (fun _ => rfl)
            · exact q_loadSt (off := 0) (l := 5) (fs := [.n S.x, .n S.y, .v (.bool S.i), .n 0, .v (.int .i64 0)]) (gs := [.n S.x, .n S.y, .v (.bool S.i)]) hp (free_of rfl) trivial (List.mem_iff_getElem?.2 ⟨4, rfl⟩) (.inl rfl) rfl row_api_Point rfl (sq_in 1 rfl rfl (by simp) rfl (fun v w h => h)) (fun v w h => h)
            · exact q_move hp (free_of rfl) trivial (sq_out (s := 6) rfl rfl (fun _ _ => rfl))
            · exact q_call1 (F := (Fq.is (.int .i64 a)).P) hp (free_of rfl) trivial (enq_R_Of) (sq_in 3 rfl rfl (by simp) rfl (fun v w h => h)) (fun v w h => (by subst h; exact rOfK w a (by have := HA5.out; omega) (by have := HA5.out; omega)))
            · exact q_call3 (F := (Fq.st [.n A, .n B, .n m]).P) (G := (Fq.st [.n S.x, .n S.y, .v (.bool S.i)]).P) (F3 := (Fq.num a).P) hp (free_of rfl) trivial (enq_f_algorist_algoristlaw06_low) (sq_in 0 rfl rfl (by simp) rfl (fun v w h => h)) (sq_in 2 rfl rfl (by simp) rfl (fun v w h => h)) (sq_in 4 rfl rfl (by simp) rfl (fun v w h => h)) (fun v v' u w h h' g => exLow6 (P := S) h h' g Bm5.out BA5.out BB5.out HSP.out Ba.out HA0.out)
            · exact q_move hp (free_of rfl) trivial (sq_in 5 rfl rfl (by simp) rfl (fun v w h => h))
            · exact q_extract3 hp (free_of rfl) trivial (sq_in 6 rfl rfl (by simp) rfl (fun v w h => h)) (fun v1 v2 v3 w h1 h2 h3 => ⟨_, rfl, h1⟩)
            · exact q_extract3 hp (free_of rfl) trivial (sq_in 6 rfl rfl (by simp) rfl (fun v w h => h)) (fun v1 v2 v3 w h1 h2 h3 => ⟨_, rfl, h2⟩)
            · exact q_extract3 hp (free_of rfl) trivial (sq_in 6 rfl rfl (by simp) rfl (fun v w h => h)) (fun v1 v2 v3 w h1 h2 h3 => ⟨_, rfl, h3⟩)
            · exact q_allocSt (us := [.bool false, .slice none 0 0, .bool false, .slice none 0 0, .bool false, .slice none 0 0]) (fs := [.n 0, .n 0, .n 0]) hp (List.mem_iff_getElem?.2 ⟨0, rfl⟩) rfl rfl rfl (Nat.lt_of_sub_eq_succ rfl) rfl fits0_api_Mod (fun ρ w => ralloc_api_Mod ρ w) rfl (Nat.ne_of_beq_eq_false rfl) (fun _ _ => trivial) (old_ne rfl) (newk_ne rfl)
            · exact q_allocSt (us := [.bool false, .slice none 0 0, .bool false, .slice none 0 0, .bool false]) (fs := [.n 0, .n 0, .v (.bool false)]) hp (List.mem_iff_getElem?.2 ⟨1, rfl⟩) rfl rfl rfl (Nat.lt_of_sub_eq_succ rfl) rfl fits0_api_Point (fun ρ w => ralloc_api_Point ρ w) rfl (Nat.ne_of_beq_eq_false rfl) (fun _ _ => trivial) (old_ne rfl) (newk_ne rfl)
            · exact q_storeNewSt (fs := [.n 0, .n 0, .n 0]) (gs := [.n (A % a), .n (B % a), .n a]) hp (List.mem_iff_getElem?.2 ⟨0, rfl⟩) rfl rfl rfl rfl size_api_Mod rfl (own_ptr rfl rfl (by simp) rfl) (sq_in 7 rfl rfl (by simp) rfl (fun v w h => fitv_st h)) (fun _ _ => trivial) (old_ne rfl) (newi_ne rfl)
            · exact q_storeNewSt (fs := [.n 0, .n 0, .v (.bool false)]) (gs := [.n (S.x % a), .n (S.y % a), .v (.bool S.i)]) hp (List.mem_iff_getElem?.2 ⟨1, rfl⟩) rfl rfl rfl rfl size_api_Point rfl (own_ptr rfl rfl (by simp) rfl) (sq_in 8 rfl rfl (by simp) rfl (fun v w h => fitv_st h)) (fun _ _ => trivial) (old_ne rfl) (newi_ne rfl)
            · exact q_assign hp (free_of rfl) trivial (sq_in 9 rfl rfl (by simp) rfl (fun v w h => h))
            intro L vs w22 nb hL hC hn E22
            have e1 : vs 1 = .pointer (some ⟨b18_5, 0, none⟩) := hC 1 (by simp)
            have e3 : vs 3 = .int .i64 a := hC 3 (by simp)
            have e9 : vs 9 = .bool true := hC 9 (by simp)
            have e14 : vs 14 = .bool true := hC 14 (by simp)
            have e10 : vs 10 = .pointer (some ⟨nb 10, 0, none⟩) := hn _ (List.mem_iff_getElem?.2 ⟨0, rfl⟩)
            have e11 : vs 11 = .pointer (some ⟨nb 11, 0, none⟩) := hn _ (List.mem_iff_getElem?.2 ⟨1, rfl⟩)
            have E : Fr w [(nb 10, 6, Fq.st [.n (A % a), .n (B % a), .n a]), (nb 11, 5, Fq.st [.n (S.x % a), .n (S.y % a), .v (.bool S.i)]), (b21_10, 6, Fq.st [.n (A % a), .n (B % a), .n a]), (b21_11, 5, Fq.st [.n (T.x % a), .n (T.y % a), .v (.bool T.i)]), (b20_9, 6, Fq.st [.n (A % a), .n (B % a), .n a]), (b20_10, 5, Fq.st [.n (X % a), .n (Y % a), .v (.bool false)]), (b18_5, 8, Fq.st [.n S.x, .n S.y, .v (.bool S.i), .n 0, .v (.int .i64 0)]), (b13_8, 8, Fq.st [.n T.x, .n T.y, .v (.bool T.i), .n 0, .v (.int .i64 0)]), (b9_7, 5, Fq.st [.n X, .n Y, .v (.bool false)]), (b7_11, 6, Fq.st [.n A, .n B, .n m]), (b2, 2, Fq.st [.v (.int .u8 k0), .v (.int .u8 k1)]), (b1, 5, Fq.st [.v (.int .u8 M9), .v (.int .u8 A), .v (.int .u8 X), .v (.int .u8 Y), .v (.int .u16 Q)])] w22 := E22
            rw [lay_all hL]
            simp only [putAll, dstOf, List.length_cons, List.length_nil, Nat.zero_add, Nat.reduceAdd, List.getElem?_toArray, List.getElem?_cons_zero, List.getElem?_cons_succ, Option.bind_some, Act.put, List.setIfInBounds_toArray, List.set_cons_succ, List.set_cons_zero]
            rw [e1, e3, e9, e14, e10, e11]
            generalize nb 10 = b22_10 at E ⊢
            generalize nb 11 = b22_11 at E ⊢
            generalize vs 0 = u22_0
            generalize vs 2 = u22_2
            generalize vs 4 = u22_4
            generalize vs 5 = u22_5
            generalize vs 6 = u22_6
            generalize vs 7 = u22_7
            generalize vs 8 = u22_8
            clear e1 e3 e9 e14 e10 e11 hC hn E22 hL vs L nb
            go_upto_region 19 with (fail)
            refine region_fr (C := [Fq.st [.n (A % a), .n (B % a), .n a], Fq.st [.n (X % a), .n (Y % a), .v (.bool false)], Fq.st [.n (T.x % a), .n (T.y % a), .v (.bool T.i)], Fq.st [.n (S.x % a), .n (S.y % a), .v (.bool S.i), .n 0, .v (.int .i64 0)], Fq.any, Fq.any]) (ks := [none, none, none, none, none, none, none, none, none, none, none, none]) (new := [⟨4, 5, 8, Fq.st [.n 0, .n 0, .v (.bool false), .n 0, .v (.int .i64 0)], Fq.st [.n (S.x % a), .n (S.y % a), .v (.bool S.i), .n 0, .v (.int .i64 0)], none⟩]) E rfl (by kernel_rfl) rfl rfl (fun hp => ⟨?_, ?_, ?_, ?_, ?_, ?_, trivial⟩) ?_
            · exact q_loadSt (off := 0) (l := 6) (fs := [.n (A % a), .n (B % a), .n a]) (gs := [.n (A % a), .n (B % a), .n a]) hp (free_of rfl) trivial (List.mem_iff_getElem?.2 ⟨4, rfl⟩) (.inl rfl) rfl row_api_Mod rfl (sq_out (s := 13) rfl rfl (fun _ _ => rfl)) (fun v w h => h)
            · exact q_loadSt (off := 0) (l := 5) (fs := [.n (X % a), .n (Y % a), .v (.bool false)]) (gs := [.n (X % a), .n (Y % a), .v (.bool false)]) hp (free_of rfl) trivial (List.mem_iff_getElem?.2 ⟨5, rfl⟩) (.inl rfl) rfl row_api_Point rfl (sq_out (s := 14) rfl rfl (fun _ _ => rfl)) (fun v w h => h)
            · exact q_loadSt (off := 0) (l := 5) (fs := [.n (T.x % a), .n (T.y % a), .v (.bool T.i)]) (gs := [.n (T.x % a), .n (T.y % a), .v (.bool T.i)]) hp (free_of rfl) trivial (List.mem_iff_getElem?.2 ⟨3, rfl⟩) (.inl rfl) rfl row_api_Point rfl (sq_out (s := 17) rfl rfl (fun _ _ => rfl)) (fun v w h => h)
            · exact q_call3 (F := (Fq.st [.n (A % a), .n (B % a), .n a]).P) (G := (Fq.st [.n (X % a), .n (Y % a), .v (.bool false)]).P) (F3 := (Fq.st [.n (T.x % a), .n (T.y % a), .v (.bool T.i)]).P) hp (free_of rfl) trivial (enq_f_algorist_algoristlaw06_add) (sq_in 0 rfl rfl (by simp) rfl (fun v w h => h)) (sq_in 1 rfl rfl (by simp) rfl (fun v w h => h)) (sq_in 2 rfl rfl (by simp) rfl (fun v w h => h)) (fun v v' u w h h' g => exLAdd (P := red a ⟨X, Y, false⟩) (Q := red a T) (R := (red a S, 0, 0)) h h' g Ba.out BL1.out BL2.out BL3.out BL4.out HPR.out)
            · exact q_allocSt (us := [.bool false, .slice none 0 0, .bool false, .slice none 0 0, .bool false, .bool false, .slice none 0 0, .int .i64 0]) (fs := [.n 0, .n 0, .v (.bool false), .n 0, .v (.int .i64 0)]) hp (List.mem_iff_getElem?.2 ⟨0, rfl⟩) rfl rfl rfl (Nat.lt_of_sub_eq_succ rfl) rfl fits0_algoristref06_Sum (fun ρ w => ralloc_algoristref06_Sum ρ w) rfl (Nat.ne_of_beq_eq_false rfl) (fun _ _ => trivial) (old_ne rfl) (newk_ne rfl)
            · exact q_storeNewSt (fs := [.n 0, .n 0, .v (.bool false), .n 0, .v (.int .i64 0)]) (gs := [.n (S.x % a), .n (S.y % a), .v (.bool S.i), .n 0, .v (.int .i64 0)]) hp (List.mem_iff_getElem?.2 ⟨0, rfl⟩) rfl rfl rfl rfl size_algoristref06_Sum rfl (own_ptr rfl rfl (by simp) rfl) (sq_in 3 rfl rfl (by simp) rfl (fun v w h => fitv_st h)) (fun _ _ => trivial) (old_ne rfl) (newi_ne rfl)
            intro L vs w23 nb hL hC hn E23
            have e4 : vs 4 = .pointer (some ⟨nb 4, 0, none⟩) := hn _ (List.mem_iff_getElem?.2 ⟨0, rfl⟩)
            have E : Fr w [(nb 4, 8, Fq.st [.n (S.x % a), .n (S.y % a), .v (.bool S.i), .n 0, .v (.int .i64 0)]), (b22_10, 6, Fq.st [.n (A % a), .n (B % a), .n a]), (b22_11, 5, Fq.st [.n (S.x % a), .n (S.y % a), .v (.bool S.i)]), (b21_10, 6, Fq.st [.n (A % a), .n (B % a), .n a]), (b21_11, 5, Fq.st [.n (T.x % a), .n (T.y % a), .v (.bool T.i)]), (b20_9, 6, Fq.st [.n (A % a), .n (B % a), .n a]), (b20_10, 5, Fq.st [.n (X % a), .n (Y % a), .v (.bool false)]), (b18_5, 8, Fq.st [.n S.x, .n S.y, .v (.bool S.i), .n 0, .v (.int .i64 0)]), (b13_8, 8, Fq.st [.n T.x, .n T.y, .v (.bool T.i), .n 0, .v (.int .i64 0)]), (b9_7, 5, Fq.st [.n X, .n Y, .v (.bool false)]), (b7_11, 6, Fq.st [.n A, .n B, .n m]), (b2, 2, Fq.st [.v (.int .u8 k0), .v (.int .u8 k1)]), (b1, 5, Fq.st [.v (.int .u8 M9), .v (.int .u8 A), .v (.int .u8 X), .v (.int .u8 Y), .v (.int .u16 Q)])] w23 := E23
            rw [lay_all hL]
            simp only [putAll, dstOf, List.length_cons, List.length_nil, Nat.zero_add, Nat.reduceAdd, List.getElem?_toArray, List.getElem?_cons_zero, List.getElem?_cons_succ, Option.bind_some, Act.put, List.setIfInBounds_toArray, List.set_cons_succ, List.set_cons_zero]
            rw [e4]
            generalize nb 4 = b23_4 at E ⊢
            generalize vs 0 = u23_0
            generalize vs 1 = u23_1
            generalize vs 2 = u23_2
            generalize vs 3 = u23_3
            clear e4 hC hn E23 hL vs L nb
            go_upto_region 20 with (fail)
            refine region_fr (C := [Fq.is (.bool true), Fq.is (.bool true), Fq.is (.bool true), Fq.is (.bool true), Fq.is (.bool true), Fq.is (.bool true), Fq.is (.bool true), Fq.is (.bool true), Fq.is (.pointer (some ⟨b23_4, 7, none⟩)), Fq.is (.int .i64 0), Fq.is (.bool true), Fq.is (.bool true), Fq.is (.bool true), Fq.is (.pointer (some ⟨b23_4, 0, none⟩)), Fq.st [.n (S.x % a), .n (S.y % a), .v (.bool S.i)], Fq.st [.n (S.x % a), .n (S.y % a), .v (.bool S.i)], Fq.is (.bool true), Fq.is (.bool true), Fq.is (.bool true), Fq.is (.bool true), Fq.is (.bool true), Fq.is (.bool true)]) (ks := [none, none, none, none, none, none, none, none, none, none, none, none, none]) (new := []) E rfl (by kernel_rfl) rfl rfl (fun hp => ⟨?_, ?_, ?_, ?_, ?_, ?_, ?_, ?_, ?_, ?_, ?_, ?_, ?_, ?_, ?_, ?_, ?_, ?_, ?_, ?_, ?_, ?_, trivial⟩) ?_
            · exact q_move hp (free_of rfl) trivial (sq_out (s := 15) rfl rfl (fun _ _ => rfl))
            · exact q_move hp (free_of rfl) trivial (sq_in 0 rfl rfl (by simp) rfl (fun v w h => h))
            · exact q_move hp (free_of rfl) (gq_some rfl rfl (by simp) rfl (fun v w h => h)) (sq_out (s := 18) rfl rfl (fun _ _ => rfl))
            · exact q_two (F := fun v _ => v = .bool true) (G := fun v _ => v = .bool true) hp (free_of rfl) trivial (sq_in 1 rfl rfl (by simp) rfl (fun v w h => h)) (sq_in 2 rfl rfl (by simp) rfl (fun v w h => h)) (fun ρ w hc h h' => ⟨_, by simp [execOp, go_sem, h, h'], rfl⟩)
            · exact q_move hp (free_of rfl) trivial (sq_in 3 rfl rfl (by simp) rfl (fun v w h => h))
            · exact q_move hp (free_of rfl) (gq_some rfl rfl (by simp) rfl (fun v w h => h)) (sq_out (s := 21) rfl rfl (fun _ _ => rfl))
            · exact q_two (F := fun v _ => v = .bool true) (G := fun v _ => v = .bool true) hp (free_of rfl) trivial (sq_in 4 rfl rfl (by simp) rfl (fun v w h => h)) (sq_in 5 rfl rfl (by simp) rfl (fun v w h => h)) (fun ρ w hc h h' => ⟨_, by simp [execOp, go_sem, h, h'], rfl⟩)
            · exact q_move hp (free_of rfl) trivial (sq_in 6 rfl rfl (by simp) rfl (fun v w h => h))
            · exact q_addr (b := b23_4) (off := 0) (off' := 7) hp (free_of rfl) (gq_some rfl rfl (by simp) rfl (fun v w h => h)) (sq_out (s := 22) rfl rfl (fun _ _ => rfl)) (fun ρ w h => by simp [execOp, go_sem, h]) (fun _ => rfl)
            · exact q_load1 (off := 7) (fs := [.n (S.x % a), .n (S.y % a), .v (.bool S.i), .n 0, .v (.int .i64 0)]) (u := .int .i64 0) hp (free_of rfl) (gq_some rfl rfl (by simp) rfl (fun v w h => h)) (List.mem_iff_getElem?.2 ⟨0, rfl⟩) (.inl rfl) rfl rfl (fun ρ w b h1 h2 => by simp [execOp, go_sem, h1, h2]) (sq_in 8 rfl rfl (by simp) rfl (fun v w h => h)) (fun _ => rfl)
            · exact q_one (F := fun v _ => v = .int .i64 0) hp (free_of rfl) (gq_some rfl rfl (by simp) rfl (fun v w h => h)) (sq_in 9 rfl rfl (by simp) rfl (fun v w h => h)) (fun ρ w hc h => ⟨.bool true, by simp [execOp, go_sem, h, hc], rfl⟩)
            · exact q_two (F := fun v _ => v = .bool true) (G := fun v _ => v = .bool true) hp (free_of rfl) trivial (sq_in 7 rfl rfl (by simp) rfl (fun v w h => h)) (sq_in 10 rfl rfl (by simp) rfl (fun v w h => h)) (fun ρ w hc h h' => ⟨_, by simp [execOp, go_sem, h, h'], rfl⟩)
            · exact q_move hp (free_of rfl) trivial (sq_in 11 rfl rfl (by simp) rfl (fun v w h => h))
            · exact q_addr (b := b23_4) (off := 0) (off' := 0) hp (free_of rfl) (gq_some rfl rfl (by simp) rfl (fun v w h => h)) (sq_out (s := 22) rfl rfl (fun _ _ => rfl)) (fun ρ w h => by simp [execOp, go_sem, h]) (fun _ => rfl)
            · exact q_loadSt (off := 0) (l := 5) (fs := [.n (S.x % a), .n (S.y % a), .v (.bool S.i), .n 0, .v (.int .i64 0)]) (gs := [.n (S.x % a), .n (S.y % a), .v (.bool S.i)]) hp (free_of rfl) (gq_some rfl rfl (by simp) rfl (fun v w h => h)) (List.mem_iff_getElem?.2 ⟨0, rfl⟩) (.inl rfl) rfl row_api_Point rfl (sq_in 13 rfl rfl (by simp) rfl (fun v w h => h)) (fun v w h => h)
            · exact q_loadSt (off := 0) (l := 5) (fs := [.n (S.x % a), .n (S.y % a), .v (.bool S.i)]) (gs := [.n (S.x % a), .n (S.y % a), .v (.bool S.i)]) hp (free_of rfl) (gq_some rfl rfl (by simp) rfl (fun v w h => h)) (List.mem_iff_getElem?.2 ⟨2, rfl⟩) (.inl rfl) rfl row_api_Point rfl (sq_out (s := 20) rfl rfl (fun _ _ => rfl)) (fun v w h => h)
            · exact q_call2 (F := (Fq.st [.n (S.x % a), .n (S.y % a), .v (.bool S.i)]).P) (G := (Fq.st [.n (S.x % a), .n (S.y % a), .v (.bool S.i)]).P) hp (free_of rfl) (gq_some rfl rfl (by simp) rfl (fun v w h => h)) (enq_f_algorist_algoristref06_Same) (sq_in 14 rfl rfl (by simp) rfl (fun v w h => h)) (sq_in 15 rfl rfl (by simp) rfl (fun v w h => h)) (fun v v' w h h' => exPtSame (P := red a S) (Q := red a S) h h' (sameP_refl _))
            · exact q_two (F := fun v _ => v = .bool true) (G := fun v _ => v = .bool true) hp (free_of rfl) trivial (sq_in 12 rfl rfl (by simp) rfl (fun v w h => h)) (sq_in 16 rfl rfl (by simp) rfl (fun v w h => h)) (fun ρ w hc h h' => ⟨_, by simp [execOp, go_sem, h, h'], rfl⟩)
            · exact q_move hp (free_of rfl) trivial (sq_in 17 rfl rfl (by simp) rfl (fun v w h => h))
            · exact q_move hp (free_of rfl) (gq_some rfl rfl (by simp) rfl (fun v w h => h)) (sq_out (s := 5) rfl rfl (fun _ _ => rfl))
            · exact q_two (F := fun v _ => v = .bool true) (G := fun v _ => v = .bool true) hp (free_of rfl) trivial (sq_in 18 rfl rfl (by simp) rfl (fun v w h => h)) (sq_in 19 rfl rfl (by simp) rfl (fun v w h => h)) (fun ρ w hc h h' => ⟨_, by simp [execOp, go_sem, h, h'], rfl⟩)
            · exact q_assign hp (free_of rfl) trivial (sq_in 20 rfl rfl (by simp) rfl (fun v w h => h))
            intro L vs w24 nb hL hC hn E24
            have e0 : vs 0 = .bool true := hC 0 (by simp)
            have e1 : vs 1 = .bool true := hC 1 (by simp)
            have e2 : vs 2 = .bool true := hC 2 (by simp)
            have e3 : vs 3 = .bool true := hC 3 (by simp)
            have e4 : vs 4 = .bool true := hC 4 (by simp)
            have e5 : vs 5 = .bool true := hC 5 (by simp)
            have e6 : vs 6 = .bool true := hC 6 (by simp)
            have e7 : vs 7 = .bool true := hC 7 (by simp)
            have e8 : vs 8 = .pointer (some ⟨b23_4, 7, none⟩) := hC 8 (by simp)
            have e9 : vs 9 = .int .i64 0 := hC 9 (by simp)
            have e10 : vs 10 = .bool true := hC 10 (by simp)
            have e11 : vs 11 = .bool true := hC 11 (by simp)
            have e12 : vs 12 = .bool true := hC 12 (by simp)
            have e13 : vs 13 = .pointer (some ⟨b23_4, 0, none⟩) := hC 13 (by simp)
            have e16 : vs 16 = .bool true := hC 16 (by simp)
            have e17 : vs 17 = .bool true := hC 17 (by simp)
            have e18 : vs 18 = .bool true := hC 18 (by simp)
            have e19 : vs 19 = .bool true := hC 19 (by simp)
            have e20 : vs 20 = .bool true := hC 20 (by simp)
            have e21 : vs 21 = .bool true := hC 21 (by simp)
            have E : Fr w [(b23_4, 8, Fq.st [.n (S.x % a), .n (S.y % a), .v (.bool S.i), .n 0, .v (.int .i64 0)]), (b22_10, 6, Fq.st [.n (A % a), .n (B % a), .n a]), (b22_11, 5, Fq.st [.n (S.x % a), .n (S.y % a), .v (.bool S.i)]), (b21_10, 6, Fq.st [.n (A % a), .n (B % a), .n a]), (b21_11, 5, Fq.st [.n (T.x % a), .n (T.y % a), .v (.bool T.i)]), (b20_9, 6, Fq.st [.n (A % a), .n (B % a), .n a]), (b20_10, 5, Fq.st [.n (X % a), .n (Y % a), .v (.bool false)]), (b18_5, 8, Fq.st [.n S.x, .n S.y, .v (.bool S.i), .n 0, .v (.int .i64 0)]), (b13_8, 8, Fq.st [.n T.x, .n T.y, .v (.bool T.i), .n 0, .v (.int .i64 0)]), (b9_7, 5, Fq.st [.n X, .n Y, .v (.bool false)]), (b7_11, 6, Fq.st [.n A, .n B, .n m]), (b2, 2, Fq.st [.v (.int .u8 k0), .v (.int .u8 k1)]), (b1, 5, Fq.st [.v (.int .u8 M9), .v (.int .u8 A), .v (.int .u8 X), .v (.int .u8 Y), .v (.int .u16 Q)])] w24 := E24
            rw [lay_all hL]
            simp only [putAll, dstOf, List.length_cons, List.length_nil, Nat.zero_add, Nat.reduceAdd, List.getElem?_toArray, List.getElem?_cons_zero, List.getElem?_cons_succ, Option.bind_some, Act.put, List.setIfInBounds_toArray, List.set_cons_succ, List.set_cons_zero]
            rw [e0, e1, e2, e3, e4, e5, e6, e7, e8, e9, e10, e11, e12, e13, e16, e17, e18, e19, e20, e21]
            generalize vs 14 = u24_14
            generalize vs 15 = u24_15
            clear e0 e1 e2 e3 e4 e5 e6 e7 e8 e9 e10 e11 e12 e13 e16 e17 e18 e19 e20 e21 hC hn E24 hL vs L nb
            clear hT hS HTO HON HA5 HM1 HDV HBB HB0 HQ0 HAX KEEP HPR HA0
            clear Ba Bq Ba3 Bm5 BA5 BB5 BP5 BQ20 HTP HSP BL1 BL2 BL3 BL4
            go_wp2
            refine bodyPost_ret (v := .bool true) ?_ rfl ⟨_, rfl, E.below, rfl⟩
            simp [results, Try.results6, go_sem]
      · have T1 : Hid (¬ m ≤ A) := by show ¬ _; omega
        have T2 : Hid (¬ m ≤ X) := by show ¬ _; omega
        have T3 : Hid (m ≤ Y) := by show m ≤ Y; omega
        clear hA9 hX9 hY9
        refine region_fr (C := [Fq.is (.pointer (some ⟨b1, 1, none⟩)), Fq.is (.int .u8 A), Fq.is (.int .i64 A), Fq.is (.int .i64 m), Fq.is (.bool false), Fq.is (.bool false), Fq.is (.pointer (some ⟨b1, 2, none⟩)), Fq.is (.int .u8 X), Fq.is (.int .i64 X), Fq.is (.int .i64 m), Fq.is (.bool false), Fq.is (.bool false), Fq.is (.bool false), Fq.is (.pointer (some ⟨b1, 3, none⟩)), Fq.is (.int .u8 Y), Fq.is (.int .i64 Y), Fq.is (.int .i64 m), Fq.is (.bool true), Fq.is (.bool true)]) (ks := [none, none, none]) (new := []) E rfl (by kernel_rfl) rfl rfl (fun hp => ⟨?_, ?_, ?_, ?_, ?_, ?_, ?_, ?_, ?_, ?_, ?_, ?_, ?_, ?_, ?_, ?_, ?_, ?_, ?_, trivial⟩) ?_
        · exact q_addr (b := b1) (off := 0) (off' := 1) hp (free_of rfl) trivial (sq_out (s := 2) rfl rfl (fun _ _ => rfl)) (fun ρ w h => by simp [execOp, go_sem, h]) (fun _ => rfl)
        · exact q_load1 (off := 1) (fs := [.v (.int .u8 M9), .v (.int .u8 A), .v (.int .u8 X), .v (.int .u8 Y), .v (.int .u16 Q)]) (u := .int .u8 A) hp (free_of rfl) trivial (List.mem_iff_getElem?.2 ⟨2, rfl⟩) (.inl rfl) rfl rfl (fun ρ w b h1 h2 => by simp [execOp, go_sem, h1, h2]) (sq_in 0 rfl rfl (by simp) rfl (fun v w h => h)) (fun _ => rfl)
        · exact q_one (F := fun v _ => v = .int .u8 A) hp (free_of rfl) trivial (sq_in 1 rfl rfl (by simp) rfl (fun v w h => h)) (fun ρ w hc h => ⟨.int .i64 A, by simp [execOp, go_sem, h, IA.out], rfl⟩)
        · exact q_move hp (free_of rfl) trivial (sq_out (s := 8) rfl rfl (fun _ _ => rfl))
        · exact q_two (F := fun v _ => v = .int .i64 A) (G := fun v _ => v = .int .i64 m) hp (free_of rfl) trivial (sq_in 2 rfl rfl (by simp) rfl (fun v w h => h)) (sq_in 3 rfl rfl (by simp) rfl (fun v w h => h)) (fun ρ w hc h h' => ⟨.bool false, by simp [execOp, go_sem, h, h', T1.out], rfl⟩)
        · exact q_move hp (free_of rfl) trivial (sq_in 4 rfl rfl (by simp) rfl (fun v w h => h))
        · exact q_addr (b := b1) (off := 0) (off' := 2) hp (free_of rfl) (gq_some rfl rfl (by simp) rfl (fun v w h => h)) (sq_out (s := 2) rfl rfl (fun _ _ => rfl)) (fun ρ w h => by simp [execOp, go_sem, h]) (fun _ => rfl)
        · exact q_load1 (off := 2) (fs := [.v (.int .u8 M9), .v (.int .u8 A), .v (.int .u8 X), .v (.int .u8 Y), .v (.int .u16 Q)]) (u := .int .u8 X) hp (free_of rfl) (gq_some rfl rfl (by simp) rfl (fun v w h => h)) (List.mem_iff_getElem?.2 ⟨2, rfl⟩) (.inl rfl) rfl rfl (fun ρ w b h1 h2 => by simp [execOp, go_sem, h1, h2]) (sq_in 6 rfl rfl (by simp) rfl (fun v w h => h)) (fun _ => rfl)
        · exact q_one (F := fun v _ => v = .int .u8 X) hp (free_of rfl) (gq_some rfl rfl (by simp) rfl (fun v w h => h)) (sq_in 7 rfl rfl (by simp) rfl (fun v w h => h)) (fun ρ w hc h => ⟨.int .i64 X, by simp [execOp, go_sem, h, IX.out], rfl⟩)
        · exact q_move hp (free_of rfl) (gq_some rfl rfl (by simp) rfl (fun v w h => h)) (sq_out (s := 8) rfl rfl (fun _ _ => rfl))
        · exact q_two (F := fun v _ => v = .int .i64 X) (G := fun v _ => v = .int .i64 m) hp (free_of rfl) (gq_some rfl rfl (by simp) rfl (fun v w h => h)) (sq_in 8 rfl rfl (by simp) rfl (fun v w h => h)) (sq_in 9 rfl rfl (by simp) rfl (fun v w h => h)) (fun ρ w hc h h' => ⟨.bool false, by simp [execOp, go_sem, h, h', T2.out], rfl⟩)
        · exact q_two (F := fun v _ => v = .bool false) (G := fun v _ => v = .bool false) hp (free_of rfl) trivial (sq_in 5 rfl rfl (by simp) rfl (fun v w h => h)) (sq_in 10 rfl rfl (by simp) rfl (fun v w h => h)) (fun ρ w hc h h' => ⟨_, by simp [execOp, go_sem, h, h'], rfl⟩)
        · exact q_move hp (free_of rfl) trivial (sq_in 11 rfl rfl (by simp) rfl (fun v w h => h))
        · exact q_addr (b := b1) (off := 0) (off' := 3) hp (free_of rfl) (gq_some rfl rfl (by simp) rfl (fun v w h => h)) (sq_out (s := 2) rfl rfl (fun _ _ => rfl)) (fun ρ w h => by simp [execOp, go_sem, h]) (fun _ => rfl)
        · exact q_load1 (off := 3) (fs := [.v (.int .u8 M9), .v (.int .u8 A), .v (.int .u8 X), .v (.int .u8 Y), .v (.int .u16 Q)]) (u := .int .u8 Y) hp (free_of rfl) (gq_some rfl rfl (by simp) rfl (fun v w h => h)) (List.mem_iff_getElem?.2 ⟨2, rfl⟩) (.inl rfl) rfl rfl (fun ρ w b h1 h2 => by simp [execOp, go_sem, h1, h2]) (sq_in 13 rfl rfl (by simp) rfl (fun v w h => h)) (fun _ => rfl)
        · exact q_one (F := fun v _ => v = .int .u8 Y) hp (free_of rfl) (gq_some rfl rfl (by simp) rfl (fun v w h => h)) (sq_in 14 rfl rfl (by simp) rfl (fun v w h => h)) (fun ρ w hc h => ⟨.int .i64 Y, by simp [execOp, go_sem, h, IY.out], rfl⟩)
        · exact q_move hp (free_of rfl) (gq_some rfl rfl (by simp) rfl (fun v w h => h)) (sq_out (s := 8) rfl rfl (fun _ _ => rfl))
        · exact q_two (F := fun v _ => v = .int .i64 Y) (G := fun v _ => v = .int .i64 m) hp (free_of rfl) (gq_some rfl rfl (by simp) rfl (fun v w h => h)) (sq_in 15 rfl rfl (by simp) rfl (fun v w h => h)) (sq_in 16 rfl rfl (by simp) rfl (fun v w h => h)) (fun ρ w hc h h' => ⟨.bool true, by simp [execOp, go_sem, h, h', T3.out], rfl⟩)
        · exact q_two (F := fun v _ => v = .bool false) (G := fun v _ => v = .bool true) hp (free_of rfl) trivial (sq_in 12 rfl rfl (by simp) rfl (fun v w h => h)) (sq_in 17 rfl rfl (by simp) rfl (fun v w h => h)) (fun ρ w hc h h' => ⟨_, by simp [execOp, go_sem, h, h'], rfl⟩)
        intro L vs w25 nb hL hC hn E25
        have e0 : vs 0 = .pointer (some ⟨b1, 1, none⟩) := hC 0 (by simp)
        have e1 : vs 1 = .int .u8 A := hC 1 (by simp)
        have e2 : vs 2 = .int .i64 A := hC 2 (by simp)
        have e3 : vs 3 = .int .i64 m := hC 3 (by simp)
        have e4 : vs 4 = .bool false := hC 4 (by simp)
        have e5 : vs 5 = .bool false := hC 5 (by simp)
        have e6 : vs 6 = .pointer (some ⟨b1, 2, none⟩) := hC 6 (by simp)
        have e7 : vs 7 = .int .u8 X := hC 7 (by simp)
        have e8 : vs 8 = .int .i64 X := hC 8 (by simp)
        have e9 : vs 9 = .int .i64 m := hC 9 (by simp)
        have e10 : vs 10 = .bool false := hC 10 (by simp)
        have e11 : vs 11 = .bool false := hC 11 (by simp)
        have e12 : vs 12 = .bool false := hC 12 (by simp)
        have e13 : vs 13 = .pointer (some ⟨b1, 3, none⟩) := hC 13 (by simp)
        have e14 : vs 14 = .int .u8 Y := hC 14 (by simp)
        have e15 : vs 15 = .int .i64 Y := hC 15 (by simp)
        have e16 : vs 16 = .int .i64 m := hC 16 (by simp)
        have e17 : vs 17 = .bool true := hC 17 (by simp)
        have e18 : vs 18 = .bool true := hC 18 (by simp)
        have E : Fr w [(b7_11, 6, Fq.st [.n A, .n B, .n m]), (b2, 2, Fq.st [.v (.int .u8 k0), .v (.int .u8 k1)]), (b1, 5, Fq.st [.v (.int .u8 M9), .v (.int .u8 A), .v (.int .u8 X), .v (.int .u8 Y), .v (.int .u16 Q)])] w25 := E25
        rw [lay_all hL]
        simp only [putAll, dstOf, List.length_cons, List.length_nil, Nat.zero_add, Nat.reduceAdd, List.getElem?_toArray, List.getElem?_cons_zero, List.getElem?_cons_succ, Option.bind_some, Act.put, List.setIfInBounds_toArray, List.set_cons_succ, List.set_cons_zero]
        rw [e0, e1, e2, e3, e4, e5, e6, e7, e8, e9, e10, e11, e12, e13, e14, e15, e16, e17, e18]
        clear e0 e1 e2 e3 e4 e5 e6 e7 e8 e9 e10 e11 e12 e13 e14 e15 e16 e17 e18 hC hn E25 hL vs L nb
        clear T1 T2 T3
        go_upto_region 8 with (fail)
        refine region_fr (C := [Fq.is (.bool true), Fq.is (.bool true)]) (ks := [none, none, none]) (new := []) E rfl (by kernel_rfl) rfl rfl (fun hp => ⟨?_, ?_, trivial⟩) ?_
        · exact q_move hp (free_of rfl) trivial (sq_out (s := 5) rfl rfl (fun _ _ => rfl))
        · exact q_assign hp (free_of rfl) trivial (sq_in 0 rfl rfl (by simp) rfl (fun v w h => h))
        intro L vs w26 nb hL hC hn E26
        have e0 : vs 0 = .bool true := hC 0 (by simp)
        have e1 : vs 1 = .bool true := hC 1 (by simp)
        have E : Fr w [(b7_11, 6, Fq.st [.n A, .n B, .n m]), (b2, 2, Fq.st [.v (.int .u8 k0), .v (.int .u8 k1)]), (b1, 5, Fq.st [.v (.int .u8 M9), .v (.int .u8 A), .v (.int .u8 X), .v (.int .u8 Y), .v (.int .u16 Q)])] w26 := E26
        rw [lay_all hL]
        simp only [putAll, dstOf, List.length_cons, List.length_nil, Nat.zero_add, Nat.reduceAdd, List.getElem?_toArray, List.getElem?_cons_zero, List.getElem?_cons_succ, Option.bind_some, Act.put, List.setIfInBounds_toArray, List.set_cons_succ, List.set_cons_zero]
        rw [e0, e1]
        clear e0 e1 hC hn E26 hL vs L nb
        clear HA5 HM1 HDV HBB HB0 HQ0 HAX C2 D2 IA IX IY IQ KEEP
        clear Ba Bq Ba3
        go_wp2
        refine bodyPost_ret (v := .bool true) ?_ rfl ⟨_, rfl, E.below, rfl⟩
        simp [results, Try.results6, go_sem]
    · have T1 : Hid (¬ m ≤ A) := by show ¬ _; omega
      have T2 : Hid (m ≤ X) := by show m ≤ X; omega
      clear hA9 hX9
      refine region_fr (C := [Fq.is (.pointer (some ⟨b1, 1, none⟩)), Fq.is (.int .u8 A), Fq.is (.int .i64 A), Fq.is (.int .i64 m), Fq.is (.bool false), Fq.is (.bool false), Fq.is (.pointer (some ⟨b1, 2, none⟩)), Fq.is (.int .u8 X), Fq.is (.int .i64 X), Fq.is (.int .i64 m), Fq.is (.bool true), Fq.is (.bool true), Fq.is (.bool true), Fq.is (undef), Fq.is (undef), Fq.is (undef), Fq.is (undef), Fq.is (undef), Fq.is (.bool true)]) (ks := [none, none, none]) (new := []) E rfl (by kernel_rfl) rfl rfl (fun hp => ⟨?_, ?_, ?_, ?_, ?_, ?_, ?_, ?_, ?_, ?_, ?_, ?_, ?_, ?_, ?_, ?_, ?_, ?_, ?_, trivial⟩) ?_
      · exact q_addr (b := b1) (off := 0) (off' := 1) hp (free_of rfl) trivial (sq_out (s := 2) rfl rfl (fun _ _ => rfl)) (fun ρ w h => by simp [execOp, go_sem, h]) (fun _ => rfl)
      · exact q_load1 (off := 1) (fs := [.v (.int .u8 M9), .v (.int .u8 A), .v (.int .u8 X), .v (.int .u8 Y), .v (.int .u16 Q)]) (u := .int .u8 A) hp (free_of rfl) trivial (List.mem_iff_getElem?.2 ⟨2, rfl⟩) (.inl rfl) rfl rfl (fun ρ w b h1 h2 => by simp [execOp, go_sem, h1, h2]) (sq_in 0 rfl rfl (by simp) rfl (fun v w h => h)) (fun _ => rfl)
      · exact q_one (F := fun v _ => v = .int .u8 A) hp (free_of rfl) trivial (sq_in 1 rfl rfl (by simp) rfl (fun v w h => h)) (fun ρ w hc h => ⟨.int .i64 A, by simp [execOp, go_sem, h, IA.out], rfl⟩)
      · exact q_move hp (free_of rfl) trivial (sq_out (s := 8) rfl rfl (fun _ _ => rfl))
      · exact q_two (F := fun v _ => v = .int .i64 A) (G := fun v _ => v = .int .i64 m) hp (free_of rfl) trivial (sq_in 2 rfl rfl (by simp) rfl (fun v w h => h)) (sq_in 3 rfl rfl (by simp) rfl (fun v w h => h)) (fun ρ w hc h h' => ⟨.bool false, by simp [execOp, go_sem, h, h', T1.out], rfl⟩)
      · exact q_move hp (free_of rfl) trivial (sq_in 4 rfl rfl (by simp) rfl (fun v w h => h))
      · exact q_addr (b := b1) (off := 0) (off' := 2) hp (free_of rfl) (gq_some rfl rfl (by simp) rfl (fun v w h => h)) (sq_out (s := 2) rfl rfl (fun _ _ => rfl)) (fun ρ w h => by simp [execOp, go_sem, h]) (fun _ => rfl)
      · exact q_load1 (off := 2) (fs := [.v (.int .u8 M9), .v (.int .u8 A), .v (.int .u8 X), .v (.int .u8 Y), .v (.int .u16 Q)]) (u := .int .u8 X) hp (free_of rfl) (gq_some rfl rfl (by simp) rfl (fun v w h => h)) (List.mem_iff_getElem?.2 ⟨2, rfl⟩) (.inl rfl) rfl rfl (fun ρ w b h1 h2 => by simp [execOp, go_sem, h1, h2]) (sq_in 6 rfl rfl (by simp) rfl (fun v w h => h)) (fun _ => rfl)
      · exact q_one (F := fun v _ => v = .int .u8 X) hp (free_of rfl) (gq_some rfl rfl (by simp) rfl (fun v w h => h)) (sq_in 7 rfl rfl (by simp) rfl (fun v w h => h)) (fun ρ w hc h => ⟨.int .i64 X, by simp [execOp, go_sem, h, IX.out], rfl⟩)
      · exact q_move hp (free_of rfl) (gq_some rfl rfl (by simp) rfl (fun v w h => h)) (sq_out (s := 8) rfl rfl (fun _ _ => rfl))
      · exact q_two (F := fun v _ => v = .int .i64 X) (G := fun v _ => v = .int .i64 m) hp (free_of rfl) (gq_some rfl rfl (by simp) rfl (fun v w h => h)) (sq_in 8 rfl rfl (by simp) rfl (fun v w h => h)) (sq_in 9 rfl rfl (by simp) rfl (fun v w h => h)) (fun ρ w hc h h' => ⟨.bool true, by simp [execOp, go_sem, h, h', T2.out], rfl⟩)
      · exact q_two (F := fun v _ => v = .bool false) (G := fun v _ => v = .bool true) hp (free_of rfl) trivial (sq_in 5 rfl rfl (by simp) rfl (fun v w h => h)) (sq_in 10 rfl rfl (by simp) rfl (fun v w h => h)) (fun ρ w hc h h' => ⟨_, by simp [execOp, go_sem, h, h'], rfl⟩)
      · exact q_move hp (free_of rfl) trivial (sq_in 11 rfl rfl (by simp) rfl (fun v w h => h))
      · exact q_skip hp (free_of rfl) rfl (gq_some rfl rfl (by simp) rfl (fun v w h => h)) (fun _ => rfl)
      · exact q_skip hp (free_of rfl) rfl (gq_some rfl rfl (by simp) rfl (fun v w h => h)) (fun _ => rfl)
      · exact q_skip hp (free_of rfl) rfl (gq_some rfl rfl (by simp) rfl (fun v w h => h)) (fun _ => rfl)
      · exact q_skip hp (free_of rfl) rfl (gq_some rfl rfl (by simp) rfl (fun v w h => h)) (fun _ => rfl)
      · exact q_skip hp (free_of rfl) rfl (gq_some rfl rfl (by simp) rfl (fun v w h => h)) (fun _ => rfl)
      · exact q_two (F := fun v _ => v = .bool true) (G := fun v _ => v = .bool true) hp (free_of rfl) trivial (sq_in 12 rfl rfl (by simp) rfl (fun v w h => h)) (sq_const (fun _ => rfl)) (fun ρ w hc h h' => ⟨_, by simp [execOp, go_sem, h, h'], rfl⟩)
      intro L vs w27 nb hL hC hn E27
      have e0 : vs 0 = .pointer (some ⟨b1, 1, none⟩) := hC 0 (by simp)
      have e1 : vs 1 = .int .u8 A := hC 1 (by simp)
      have e2 : vs 2 = .int .i64 A := hC 2 (by simp)
      have e3 : vs 3 = .int .i64 m := hC 3 (by simp)
      have e4 : vs 4 = .bool false := hC 4 (by simp)
      have e5 : vs 5 = .bool false := hC 5 (by simp)
      have e6 : vs 6 = .pointer (some ⟨b1, 2, none⟩) := hC 6 (by simp)
      have e7 : vs 7 = .int .u8 X := hC 7 (by simp)
      have e8 : vs 8 = .int .i64 X := hC 8 (by simp)
      have e9 : vs 9 = .int .i64 m := hC 9 (by simp)
      have e10 : vs 10 = .bool true := hC 10 (by simp)
      have e11 : vs 11 = .bool true := hC 11 (by simp)
      have e12 : vs 12 = .bool true := hC 12 (by simp)
      have e13 : vs 13 = undef := hC 13 (by simp)
      have e14 : vs 14 = undef := hC 14 (by simp)
      have e15 : vs 15 = undef := hC 15 (by simp)
      have e16 : vs 16 = undef := hC 16 (by simp)
      have e17 : vs 17 = undef := hC 17 (by simp)
      have e18 : vs 18 = .bool true := hC 18 (by simp)
      have E : Fr w [(b7_11, 6, Fq.st [.n A, .n B, .n m]), (b2, 2, Fq.st [.v (.int .u8 k0), .v (.int .u8 k1)]), (b1, 5, Fq.st [.v (.int .u8 M9), .v (.int .u8 A), .v (.int .u8 X), .v (.int .u8 Y), .v (.int .u16 Q)])] w27 := E27
      rw [lay_all hL]
      simp only [putAll, dstOf, List.length_cons, List.length_nil, Nat.zero_add, Nat.reduceAdd, List.getElem?_toArray, List.getElem?_cons_zero, List.getElem?_cons_succ, Option.bind_some, Act.put, List.setIfInBounds_toArray, List.set_cons_succ, List.set_cons_zero]
      rw [e0, e1, e2, e3, e4, e5, e6, e7, e8, e9, e10, e11, e12, e13, e14, e15, e16, e17, e18]
      clear e0 e1 e2 e3 e4 e5 e6 e7 e8 e9 e10 e11 e12 e13 e14 e15 e16 e17 e18 hC hn E27 hL vs L nb
      clear T1 T2
      go_upto_region 8 with (fail)
      refine region_fr (C := [Fq.is (.bool true), Fq.is (.bool true)]) (ks := [none, none, none]) (new := []) E rfl (by kernel_rfl) rfl rfl (fun hp => ⟨?_, ?_, trivial⟩) ?_
      · exact q_move hp (free_of rfl) trivial (sq_out (s := 5) rfl rfl (fun _ _ => rfl))
      · exact q_assign hp (free_of rfl) trivial (sq_in 0 rfl rfl (by simp) rfl (fun v w h => h))
      intro L vs w28 nb hL hC hn E28
      have e0 : vs 0 = .bool true := hC 0 (by simp)
      have e1 : vs 1 = .bool true := hC 1 (by simp)
      have E : Fr w [(b7_11, 6, Fq.st [.n A, .n B, .n m]), (b2, 2, Fq.st [.v (.int .u8 k0), .v (.int .u8 k1)]), (b1, 5, Fq.st [.v (.int .u8 M9), .v (.int .u8 A), .v (.int .u8 X), .v (.int .u8 Y), .v (.int .u16 Q)])] w28 := E28
      rw [lay_all hL]
      simp only [putAll, dstOf, List.length_cons, List.length_nil, Nat.zero_add, Nat.reduceAdd, List.getElem?_toArray, List.getElem?_cons_zero, List.getElem?_cons_succ, Option.bind_some, Act.put, List.setIfInBounds_toArray, List.set_cons_succ, List.set_cons_zero]
      rw [e0, e1]
      clear e0 e1 hC hn E28 hL vs L nb
      clear HA5 HM1 HDV HBB HB0 HQ0 HAX C2 D2 IA IX IY IQ KEEP
      clear Ba Bq Ba3
      go_wp2
      refine bodyPost_ret (v := .bool true) ?_ rfl ⟨_, rfl, E.below, rfl⟩
      simp [results, Try.results6, go_sem]
  · have T1 : Hid (m ≤ A) := by show m ≤ A; omega
    clear hA9
    refine region_fr (C := [Fq.is (.pointer (some ⟨b1, 1, none⟩)), Fq.is (.int .u8 A), Fq.is (.int .i64 A), Fq.is (.int .i64 m), Fq.is (.bool true), Fq.is (.bool true), Fq.is (undef), Fq.is (undef), Fq.is (undef), Fq.is (undef), Fq.is (undef), Fq.is (.bool true), Fq.is (.bool true), Fq.is (undef), Fq.is (undef), Fq.is (undef), Fq.is (undef), Fq.is (undef), Fq.is (.bool true)]) (ks := [none, none, none]) (new := []) E rfl (by kernel_rfl) rfl rfl (fun hp => ⟨?_, ?_, ?_, ?_, ?_, ?_, ?_, ?_, ?_, ?_, ?_, ?_, ?_, ?_, ?_, ?_, ?_, ?_, ?_, trivial⟩) ?_
    · exact q_addr (b := b1) (off := 0) (off' := 1) hp (free_of rfl) trivial (sq_out (s := 2) rfl rfl (fun _ _ => rfl)) (fun ρ w h => by simp [execOp, go_sem, h]) (fun _ => rfl)
    · exact q_load1 (off := 1) (fs := [.v (.int .u8 M9), .v (.int .u8 A), .v (.int .u8 X), .v (.int .u8 Y), .v (.int .u16 Q)]) (u := .int .u8 A) hp (free_of rfl) trivial (List.mem_iff_getElem?.2 ⟨2, rfl⟩) (.inl rfl) rfl rfl (fun ρ w b h1 h2 => by simp [execOp, go_sem, h1, h2]) (sq_in 0 rfl rfl (by simp) rfl (fun v w h => h)) (fun _ => rfl)
    · exact q_one (F := fun v _ => v = .int .u8 A) hp (free_of rfl) trivial (sq_in 1 rfl rfl (by simp) rfl (fun v w h => h)) (fun ρ w hc h => ⟨.int .i64 A, by simp [execOp, go_sem, h, IA.out], rfl⟩)
    · exact q_move hp (free_of rfl) trivial (sq_out (s := 8) rfl rfl (fun _ _ => rfl))
    · exact q_two (F := fun v _ => v = .int .i64 A) (G := fun v _ => v = .int .i64 m) hp (free_of rfl) trivial (sq_in 2 rfl rfl (by simp) rfl (fun v w h => h)) (sq_in 3 rfl rfl (by simp) rfl (fun v w h => h)) (fun ρ w hc h h' => ⟨.bool true, by simp [execOp, go_sem, h, h', T1.out], rfl⟩)
    · exact q_move hp (free_of rfl) trivial (sq_in 4 rfl rfl (by simp) rfl (fun v w h => h))
    · exact q_skip hp (free_of rfl) rfl (gq_some rfl rfl (by simp) rfl (fun v w h => h)) (fun _ => rfl)
    · exact q_skip hp (free_of rfl) rfl (gq_some rfl rfl (by simp) rfl (fun v w h => h)) (fun _ => rfl)
    · exact q_skip hp (free_of rfl) rfl (gq_some rfl rfl (by simp) rfl (fun v w h => h)) (fun _ => rfl)
    · exact q_skip hp (free_of rfl) rfl (gq_some rfl rfl (by simp) rfl (fun v w h => h)) (fun _ => rfl)
    · exact q_skip hp (free_of rfl) rfl (gq_some rfl rfl (by simp) rfl (fun v w h => h)) (fun _ => rfl)
    · exact q_two (F := fun v _ => v = .bool true) (G := fun v _ => v = .bool true) hp (free_of rfl) trivial (sq_in 5 rfl rfl (by simp) rfl (fun v w h => h)) (sq_const (fun _ => rfl)) (fun ρ w hc h h' => ⟨_, by simp [execOp, go_sem, h, h'], rfl⟩)
    · exact q_move hp (free_of rfl) trivial (sq_in 11 rfl rfl (by simp) rfl (fun v w h => h))
    · exact q_skip hp (free_of rfl) rfl (gq_some rfl rfl (by simp) rfl (fun v w h => h)) (fun _ => rfl)
    · exact q_skip hp (free_of rfl) rfl (gq_some rfl rfl (by simp) rfl (fun v w h => h)) (fun _ => rfl)
    · exact q_skip hp (free_of rfl) rfl (gq_some rfl rfl (by simp) rfl (fun v w h => h)) (fun _ => rfl)
    · exact q_skip hp (free_of rfl) rfl (gq_some rfl rfl (by simp) rfl (fun v w h => h)) (fun _ => rfl)
    · exact q_skip hp (free_of rfl) rfl (gq_some rfl rfl (by simp) rfl (fun v w h => h)) (fun _ => rfl)
    · exact q_two (F := fun v _ => v = .bool true) (G := fun v _ => v = .bool true) hp (free_of rfl) trivial (sq_in 12 rfl rfl (by simp) rfl (fun v w h => h)) (sq_const (fun _ => rfl)) (fun ρ w hc h h' => ⟨_, by simp [execOp, go_sem, h, h'], rfl⟩)
    intro L vs w29 nb hL hC hn E29
    have e0 : vs 0 = .pointer (some ⟨b1, 1, none⟩) := hC 0 (by simp)
    have e1 : vs 1 = .int .u8 A := hC 1 (by simp)
    have e2 : vs 2 = .int .i64 A := hC 2 (by simp)
    have e3 : vs 3 = .int .i64 m := hC 3 (by simp)
    have e4 : vs 4 = .bool true := hC 4 (by simp)
    have e5 : vs 5 = .bool true := hC 5 (by simp)
    have e6 : vs 6 = undef := hC 6 (by simp)
    have e7 : vs 7 = undef := hC 7 (by simp)
    have e8 : vs 8 = undef := hC 8 (by simp)
    have e9 : vs 9 = undef := hC 9 (by simp)
    have e10 : vs 10 = undef := hC 10 (by simp)
    have e11 : vs 11 = .bool true := hC 11 (by simp)
    have e12 : vs 12 = .bool true := hC 12 (by simp)
    have e13 : vs 13 = undef := hC 13 (by simp)
    have e14 : vs 14 = undef := hC 14 (by simp)
    have e15 : vs 15 = undef := hC 15 (by simp)
    have e16 : vs 16 = undef := hC 16 (by simp)
    have e17 : vs 17 = undef := hC 17 (by simp)
    have e18 : vs 18 = .bool true := hC 18 (by simp)
    have E : Fr w [(b7_11, 6, Fq.st [.n A, .n B, .n m]), (b2, 2, Fq.st [.v (.int .u8 k0), .v (.int .u8 k1)]), (b1, 5, Fq.st [.v (.int .u8 M9), .v (.int .u8 A), .v (.int .u8 X), .v (.int .u8 Y), .v (.int .u16 Q)])] w29 := E29
    rw [lay_all hL]
    simp only [putAll, dstOf, List.length_cons, List.length_nil, Nat.zero_add, Nat.reduceAdd, List.getElem?_toArray, List.getElem?_cons_zero, List.getElem?_cons_succ, Option.bind_some, Act.put, List.setIfInBounds_toArray, List.set_cons_succ, List.set_cons_zero]
    rw [e0, e1, e2, e3, e4, e5, e6, e7, e8, e9, e10, e11, e12, e13, e14, e15, e16, e17, e18]
    clear e0 e1 e2 e3 e4 e5 e6 e7 e8 e9 e10 e11 e12 e13 e14 e15 e16 e17 e18 hC hn E29 hL vs L nb
    clear T1
    go_upto_region 8 with (fail)
    refine region_fr (C := [Fq.is (.bool true), Fq.is (.bool true)]) (ks := [none, none, none]) (new := []) E rfl (by kernel_rfl) rfl rfl (fun hp => ⟨?_, ?_, trivial⟩) ?_
    · exact q_move hp (free_of rfl) trivial (sq_out (s := 5) rfl rfl (fun _ _ => rfl))
    · exact q_assign hp (free_of rfl) trivial (sq_in 0 rfl rfl (by simp) rfl (fun v w h => h))
    intro L vs w30 nb hL hC hn E30
    have e0 : vs 0 = .bool true := hC 0 (by simp)
    have e1 : vs 1 = .bool true := hC 1 (by simp)
    have E : Fr w [(b7_11, 6, Fq.st [.n A, .n B, .n m]), (b2, 2, Fq.st [.v (.int .u8 k0), .v (.int .u8 k1)]), (b1, 5, Fq.st [.v (.int .u8 M9), .v (.int .u8 A), .v (.int .u8 X), .v (.int .u8 Y), .v (.int .u16 Q)])] w30 := E30
    rw [lay_all hL]
    simp only [putAll, dstOf, List.length_cons, List.length_nil, Nat.zero_add, Nat.reduceAdd, List.getElem?_toArray, List.getElem?_cons_zero, List.getElem?_cons_succ, Option.bind_some, Act.put, List.setIfInBounds_toArray, List.set_cons_succ, List.set_cons_zero]
    rw [e0, e1]
    clear e0 e1 hC hn E30 hL vs L nb
    clear HA5 HM1 HDV HBB HB0 HQ0 HAX C2 D2 IA IX IY IQ KEEP
    clear Ba Bq Ba3
    go_wp2
    refine bodyPost_ret (v := .bool true) ?_ rfl ⟨_, rfl, E.below, rfl⟩
    simp [results, Try.results6, go_sem]

theorem PointProjects_row (w : World) (M9 A X Y Q : Int) (hM9 : 0 ≤ M9 ∧ M9 ≤ 255) (hA : 0 ≤ A ∧ A ≤ 255) (hX : 0 ≤ X ∧ X ≤ 255) (hY : 0 ≤ Y ∧ Y ≤ 255) (hQ : 0 ≤ Q ∧ Q ≤ 65535) (k0 k1 : Int) (hk0 : 0 ≤ k0 ∧ k0 ≤ 255) (hk1 : 0 ≤ k1 ∧ k1 ≤ 255) : Calls Try.prog 6 #[.agg #[.int .u8 M9, .int .u8 A, .int .u8 X, .int .u8 Y, .int .u16 Q], .agg #[.int .u8 k0, .int .u8 k1]] w fun e w' => e = .returned (.bool true) ∧ Below w.heap.size w w' := by
  refine (PointProjects_any w (v := .agg #[.int .u8 M9, .int .u8 A, .int .u8 X, .int .u8 Y, .int .u16 Q]) (v' := .agg #[.int .u8 k0, .int .u8 k1]) ⟨[.int .u8 M9, .int .u8 A, .int .u8 X, .int .u8 Y, .int .u16 Q], rfl, _, rfl, rfl, _, rfl, rfl, _, rfl, rfl, _, rfl, rfl, _, rfl, rfl, rfl⟩ ⟨[.int .u8 k0, .int .u8 k1], rfl, _, rfl, rfl, _, rfl, rfl, rfl⟩ hM9.1 hA hX hY hQ hk0 hk1).mono ?_
  rintro e w' ⟨v', rfl, hb, rfl⟩
  exact ⟨rfl, hb⟩

end Go.Proofs.Ytpkeeacdkkmknaa
