/- Inequalities of the guess in the long division: plain numbers. -/
import Derived.WalkKit
set_option linter.unusedSimpArgs false
namespace Go.Proofs.Ytjpbmghdamcdcaa

theorem g_init (B P U V lo u2 t lv s f g r : Int) (hlo : lo < P) (hU : U = lo + P*(u2 + B*t)) (hV : V = lv + P*(s + B*f)) (hlv : 0 ≤ lv) (hs : 0 ≤ s) (hP : 0 < P) (hB : 0 < B) (hu2 : u2 < B)
   (ht : t = g*f + r) (hr : r < f) (hg : 0 ≤ g) : U < (g+1)*V := by
  have h0 : 0 ≤ (g+1)*f - (t+1) := by rw [Int.add_mul, ht]; omega
  have h1 := Int.mul_nonneg (Int.mul_nonneg (Int.le_of_lt hP) (Int.le_of_lt hB)) h0
  have h2 : 0 ≤ (g+1)*lv := Int.mul_nonneg (by omega) hlv
  have h3 : 0 ≤ (g+1)*(P*s) := Int.mul_nonneg (by omega) (Int.mul_nonneg (by omega) hs)
  have h4 : 0 ≤ P * (B - 1 - u2) := Int.mul_nonneg (by omega) (by omega)
  subst hU hV ht
  simp only [Int.mul_add, Int.add_mul, Int.mul_sub, Int.sub_mul, Int.mul_one, Int.one_mul, Int.mul_comm, Int.mul_left_comm, Int.mul_assoc] at *
  omega
theorem g_down1 (B P U V lo u2 t lv s f g r : Int) (hlo : lo < P) (hU : U = lo + P*(u2 + B*t)) (hV : V = lv + P*(s + B*f)) (hlv : 0 ≤ lv) (hP : 0 < P) 
   (ht : t = g*f + r)  (hg : 0 ≤ g) (hc : r*B + u2 < g*s) : U < g*V := by
  have h1 : 0 ≤ P * (g*s - (r*B + u2 + 1)) := Int.mul_nonneg (by omega) (by omega)
  have h2 : 0 ≤ g*lv := Int.mul_nonneg hg hlv
  subst hU hV ht
  simp only [Int.mul_add, Int.add_mul, Int.mul_sub, Int.sub_mul, Int.mul_one, Int.one_mul, Int.mul_comm, Int.mul_left_comm, Int.mul_assoc] at *
  omega
theorem g_end (B P U V lo u2 t lv s f g r : Int) (hlo : 0 ≤ lo) (hU : U = lo + P*(u2 + B*t)) (hV : V = lv + P*(s + B*f)) (hlv0 : 0 ≤ lv) (hlv : lv < P) (hs : 0 ≤ s) (hP : 0 < P) (hf : 1 ≤ f)
   (ht : t = g*f + r)  (hg : 0 ≤ g) (hgB : g < B) (hc : g*s ≤ r*B + u2) : (g-1)*V ≤ U := by
  have h1 : 0 ≤ P * (r*B + u2 - g*s) := Int.mul_nonneg (by omega) (by omega)
  have h2 : 0 ≤ g*(P - 1 - lv) := Int.mul_nonneg hg (by omega)
  have h3 : 0 ≤ P * (B - 1 - g) := Int.mul_nonneg (by omega) (by omega)
  have h4 : 0 ≤ P * s := Int.mul_nonneg (by omega) hs
  have h5 : 0 ≤ P * B * (f - 1) := Int.mul_nonneg (Int.mul_nonneg (by omega) (by omega)) (by omega)
  subst hU hV ht
  simp only [Int.mul_add, Int.add_mul, Int.mul_sub, Int.sub_mul, Int.mul_one, Int.one_mul, Int.mul_comm, Int.mul_left_comm, Int.mul_assoc] at *
  omega
theorem g_top (B P U V lo u2 u1 u0 lv s f : Int) (hlo : 0 ≤ lo) (hU : U = lo + P*(u2 + B*(u1 + B * u0))) (hV : V = lv + P*(s + B*f)) (hlv : lv < P) (hs : s < B) (hP : 0 < P) (hB : 0 < B) (hu2 : 0 ≤ u2) (hu1 : 0 ≤ u1)
   (h : U < V * B) : u0 ≤ f := by
  have h1 : 0 ≤ P * u2 := Int.mul_nonneg (by omega) hu2
  have h2 : 0 ≤ P * B * u1 := Int.mul_nonneg (Int.mul_nonneg (by omega) (by omega)) hu1
  have h3 : 0 ≤ B * (P - 1 - lv) := Int.mul_nonneg (by omega) (by omega)
  have h4 : 0 ≤ P * B * (B - 1 - s) := Int.mul_nonneg (Int.mul_nonneg (by omega) (by omega)) (by omega)
  refine Int.not_lt.1 fun hn => ?_
  have h5 : 0 ≤ P * B * B * (u0 - f - 1) := Int.mul_nonneg (Int.mul_nonneg (Int.mul_nonneg (by omega) (by omega)) (by omega)) (by omega)
  subst hU hV
  simp only [Int.mul_add, Int.add_mul, Int.mul_sub, Int.sub_mul, Int.mul_one, Int.one_mul, Int.mul_comm, Int.mul_left_comm, Int.mul_assoc] at *
  omega

end Go.Proofs.Ytjpbmghdamcdcaa
