/- Nt, Mb, Mc, Rm, Me, Mg, Mh. -/
import Derived.Test.YtieobgadihcgeaaGreatDoorCw3
import Derived.Shelf.Spec.TrailingZeros
namespace Go.Proofs.YtieobgadihcgeaaGreatDoor
open Go Go.RowKit

def prodL (f : Nat → Int) (l : List Nat) : Int := l.foldr (fun k z => f k * z) 1
def sumL (f : Nat → Int) (l : List Nat) : Int := l.foldr (fun k z => f k + z) 0
theorem prodL_perm {l l' : List Nat} (h : l.Perm l') (f : Nat → Int) : prodL f l = prodL f l' := h.foldr_eq' (fun x _ y _ z => by ac_rfl) 1
theorem prodL_cons (f : Nat → Int) (k : Nat) (l : List Nat) : prodL f (k :: l) = f k * prodL f l := rfl
theorem sumL_cons (f : Nat → Int) (k : Nat) (l : List Nat) : sumL f (k :: l) = f k + sumL f l := rfl
theorem prodL_mul (f g : Nat → Int) : ∀ l, prodL (fun k => f k * g k) l = prodL f l * prodL g l
  | [] => rfl
  | k :: l => by rw [prodL_cons, prodL_cons, prodL_cons, prodL_mul f g l]; ac_rfl
theorem sumL_add (f g : Nat → Int) : ∀ l, sumL (fun k => f k + g k) l = sumL f l + sumL g l
  | [] => rfl
  | k :: l => by rw [sumL_cons, sumL_cons, sumL_cons, sumL_add f g l]; omega
theorem prodL_map (f : Nat → Int) (s : Nat → Nat) : ∀ l, prodL f (l.map s) = prodL (fun k => f (s k)) l
  | [] => rfl
  | k :: l => by rw [List.map_cons, prodL_cons, prodL_cons, prodL_map f s l]
theorem prodL_congr {f g : Nat → Int} : ∀ {l : List Nat}, (∀ k ∈ l, f k = g k) → prodL f l = prodL g l
  | [], _ => rfl
  | k :: l, h => by rw [prodL_cons, prodL_cons, h k (by simp), prodL_congr (fun j hj => h j (by simp [hj]))]
theorem sumL_congr {f g : Nat → Int} : ∀ {l : List Nat}, (∀ k ∈ l, f k = g k) → sumL f l = sumL g l
  | [], _ => rfl
  | k :: l, h => by rw [sumL_cons, sumL_cons, h k (by simp), sumL_congr (fun j hj => h j (by simp [hj]))]
theorem sumL_swap (f : Nat → Nat → Int) (l2 : List Nat) : ∀ l1, sumL (fun k => sumL (fun j => f k j) l2) l1 = sumL (fun j => sumL (fun k => f k j) l1) l2
  | [] => by
    show (0 : Int) = _
    induction l2 with
    | nil => rfl
    | cons j l2 ih => rw [sumL_cons, ← ih]; rfl
  | k :: l1 => by
    rw [sumL_cons, sumL_swap f l2 l1, ← sumL_add]
    rfl
theorem sumL_append (f : Nat → Int) (l2 : List Nat) : ∀ l1, sumL f (l1 ++ l2) = sumL f l1 + sumL f l2
  | [] => by show _ = 0 + _; rw [Int.zero_add]; rfl
  | k :: l1 => by rw [List.cons_append, sumL_cons, sumL_cons, sumL_append f l2 l1]; omega
def up1 (h : Nat) : List Nat := List.range' 1 h
theorem up1_mem {h k : Nat} : k ∈ up1 h ↔ 1 ≤ k ∧ k ≤ h := by
  unfold up1
  rw [List.mem_range'_1]
  omega
theorem up1_succ (h : Nat) : up1 (h + 1) = up1 h ++ [h + 1] := by
  unfold up1
  rw [List.range'_1_concat, Nat.add_comm 1 h]
theorem up1_nodup (h : Nat) : (up1 h).Nodup := List.nodup_range' 1
theorem nlen_le : ∀ (h : Nat) (L : List Nat), L.Nodup → (∀ x ∈ L, 1 ≤ x ∧ x ≤ h) → L.length ≤ h
  | 0, L, _, hx => by
    cases L with
    | nil => exact Nat.le_refl _
    | cons x L => have := hx x (by simp); omega
  | h + 1, L, hn, hx => by
    by_cases hm : h + 1 ∈ L
    · have h1 := nlen_le h (L.erase (h + 1)) (hn.erase _) (fun x hxe => by
        have h2 := hx x (List.mem_of_mem_erase hxe)
        have h3 : x ≠ h + 1 := fun e => by subst e; exact hn.not_mem_erase hxe
        omega)
      have := List.length_erase_of_mem hm
      omega
    · have h1 := nlen_le h L hn (fun x hxe => by
        have h2 := hx x hxe
        have h3 : x ≠ h + 1 := fun e => hm (by rw [← e]; exact hxe)
        omega)
      omega
theorem perm_up1 : ∀ (h : Nat) (L : List Nat), L.Nodup → (∀ x ∈ L, 1 ≤ x ∧ x ≤ h) → L.length = h → L.Perm (up1 h)
  | 0, L, _, _, hl => by
    cases L with
    | nil => exact List.Perm.refl _
    | cons x L => simp at hl
  | h + 1, L, hn, hx, hl => by
    by_cases hm : h + 1 ∈ L
    · have h1 := perm_up1 h (L.erase (h + 1)) (hn.erase _) (fun x hxe => by
        have h2 := hx x (List.mem_of_mem_erase hxe)
        have h3 : x ≠ h + 1 := fun e => by subst e; exact hn.not_mem_erase hxe
        omega) (by rw [List.length_erase_of_mem hm]; omega)
      rw [up1_succ]
      exact (List.perm_cons_erase hm).trans ((h1.cons _).trans (List.perm_append_singleton _ _).symm)
    · have h1 := nlen_le h L hn (fun x hxe => by
        have h2 := hx x hxe
        have h3 : x ≠ h + 1 := fun e => hm (by rw [← e]; exact hxe)
        omega)
      omega

theorem nodup_map_of {s : Nat → Nat} : ∀ {l : List Nat}, l.Nodup → (∀ x ∈ l, ∀ y ∈ l, s x = s y → x = y) → (l.map s).Nodup
  | [], _, _ => by simp
  | k :: l, hn, hi => by
    rw [List.nodup_cons] at hn
    rw [List.map_cons, List.nodup_cons]
    refine ⟨fun hm => ?_, nodup_map_of hn.2 (fun x hx y hy => hi x (by simp [hx]) y (by simp [hy]))⟩
    obtain ⟨y, hy, e⟩ := List.mem_map.1 hm
    exact hn.1 (by rw [← hi y (by simp [hy]) k (by simp) e]; exact hy)

theorem perm_of_inj {h : Nat} {s : Nat → Nat} (h1 : ∀ k, 1 ≤ k → k ≤ h → 1 ≤ s k ∧ s k ≤ h) (h2 : ∀ j k, 1 ≤ j → j ≤ h → 1 ≤ k → k ≤ h → s j = s k → j = k) : ((up1 h).map s).Perm (up1 h) := by
  refine perm_up1 h _ (nodup_map_of (up1_nodup h) fun x hx y hy e => ?_) (fun x hx => ?_) (by rw [List.length_map]; unfold up1; rw [List.length_range'])
  · rw [up1_mem] at hx hy
    exact h2 x y hx.1 hx.2 hy.1 hy.2 e
  · obtain ⟨k, hk, rfl⟩ := List.mem_map.1 hx
    rw [up1_mem] at hk
    exact h1 k hk.1 hk.2

def sg (n : Nat) (x : Int) : Int := if 2 * (x % n) < n then 1 else -1
def la (n : Nat) (x : Int) : Nat := if 2 * (x % n) < n then (x % n).toNat else (n - x % n).toNat

theorem sg_congr {n : Nat} {x y : Int} (h : x % n = y % n) : sg n x = sg n y := by unfold sg; rw [h]
theorem emod_of_dvd {n x y : Int} (h : n ∣ x - y) : x % n = y % n := Int.emod_eq_emod_iff_emod_sub_eq_zero.2 (Int.emod_eq_zero_of_dvd h)
theorem dvd_of_emod {n x y : Int} (h : x % n = y % n) : n ∣ x - y := Int.dvd_of_emod_eq_zero (Int.emod_eq_emod_iff_emod_sub_eq_zero.1 h)
theorem sg_or (n : Nat) (x : Int) : sg n x = 1 ∨ sg n x = -1 := by unfold sg; split <;> simp
theorem neg_mod {n : Nat} (h0 : 0 < n) {x : Int} (hx : x % n ≠ 0) : (-x) % n = n - x % n := by
  have h1 := Int.mul_ediv_add_emod x n
  have h2 := Int.emod_nonneg x (show (n : Int) ≠ 0 by omega)
  have h3 := Int.emod_lt_of_pos x (show (0 : Int) < n by omega)
  have e : -x = (n - x % n) + n * (-(x / n) - 1) := by
    rw [Int.mul_sub, Int.mul_neg, Int.mul_one]
    omega
  rw [e, Int.add_mul_emod_self_left]
  exact Int.emod_eq_of_lt (by omega) (by omega)
theorem sg_neg {n : Nat} (ho : n % 2 = 1) {x : Int} (hx : x % n ≠ 0) : sg n (-x) = -(sg n x) := by
  have h1 := Int.emod_nonneg x (show (n : Int) ≠ 0 by omega)
  have h2 := Int.emod_lt_of_pos x (show (0 : Int) < n by omega)
  unfold sg
  rw [neg_mod (by omega) hx]
  split
  · rw [if_neg (by omega)]; rfl
  · rw [if_pos (by omega)]
theorem sg_la {n : Nat} (h0 : 0 < n) (x : Int) : x % n = (sg n x * (la n x : Int)) % n := by
  have h1 := Int.emod_nonneg x (show (n : Int) ≠ 0 by omega)
  have h2 := Int.emod_lt_of_pos x (show (0 : Int) < n by omega)
  unfold sg la
  split
  · rw [Int.one_mul, Int.toNat_of_nonneg h1, Int.emod_emod_of_dvd x (Int.dvd_refl _)]
  · rw [Int.toNat_of_nonneg (by omega), Int.neg_mul, Int.one_mul, Int.neg_sub]
    rw [Int.sub_emod_right]
    rw [Int.emod_emod_of_dvd x (Int.dvd_refl _)]
theorem la_range {n : Nat} (ho : n % 2 = 1) {x : Int} (hx : x % n ≠ 0) : 1 ≤ la n x ∧ la n x ≤ (n - 1) / 2 := by
  have h1 := Int.emod_nonneg x (show (n : Int) ≠ 0 by omega)
  have h2 := Int.emod_lt_of_pos x (show (0 : Int) < n by omega)
  unfold la
  split <;> omega

theorem cop_mod {n : Nat} {b : Int} (hb : Int.gcd b n = 1) {x : Int} (hx : x % n ≠ 0) : (b * x) % n ≠ 0 := by
  intro h
  apply hx
  have h1 : (n : Int) ∣ b * x := Int.dvd_of_emod_eq_zero h
  have h2 : n ∣ b.natAbs * x.natAbs := by
    have := Int.natAbs_dvd_natAbs.2 h1
    rw [Int.natAbs_mul] at this
    exact this
  have h3 : Nat.Coprime n b.natAbs := by
    have : Nat.gcd b.natAbs n = 1 := hb
    rw [Nat.gcd_comm] at this
    exact this
  have h4 := h3.dvd_of_dvd_mul_left h2
  exact Int.emod_eq_zero_of_dvd (Int.natAbs_dvd_natAbs.1 h4)
theorem small_mod {n : Nat} {x : Int} (h : x % n = 0) (h1 : -(n : Int) < x) (h2 : x < n) : x = 0 := by
  obtain ⟨c, hc⟩ := Int.dvd_of_emod_eq_zero h
  have hn : (0 : Int) ≤ n := by omega
  rcases Int.lt_trichotomy c 0 with h3 | h3 | h3
  · have := Int.mul_le_mul_of_nonneg_left (show c ≤ -1 by omega) hn
    omega
  · rw [hc, h3, Int.mul_zero]
  · have := Int.mul_le_mul_of_nonneg_left (show 1 ≤ c by omega) hn
    omega

theorem half_mod {n k : Nat} (h1 : 1 ≤ k) (h2 : k ≤ (n - 1) / 2) : (k : Int) % n ≠ 0 := by
  intro h
  have := small_mod h (by omega) (by omega)
  omega

theorem la_perm {n : Nat} (ho : n % 2 = 1) {b : Int} (hb : Int.gcd b n = 1) : ((up1 ((n - 1) / 2)).map (fun k : Nat => la n (b * k))).Perm (up1 ((n - 1) / 2)) := by
  refine perm_of_inj (fun k h1 h2 => la_range ho (cop_mod hb (half_mod h1 h2))) (fun j k hj1 hj2 hk1 hk2 e => ?_)
  have e1 := sg_la (show 0 < n by omega) (b * j)
  have e2 := sg_la (show 0 < n by omega) (b * k)
  rw [e] at e1
  have key : ∀ s : Int, (b * j) % n = (s * (b * k)) % n → (s = 1 ∨ s = -1) → j = k := by
    intro s hs hs1
    have h1 := dvd_of_emod hs
    have e3 : b * (j : Int) - s * (b * k) = b * (j - s * k) := by rw [Int.mul_sub]; congr 1; ac_rfl
    rw [e3] at h1
    have h2 : ((j : Int) - s * k) % n = 0 := by
      by_cases h : ((j : Int) - s * k) % n = 0
      · exact h
      · exact absurd (Int.emod_eq_zero_of_dvd h1) (cop_mod hb h)
    rcases hs1 with rfl | rfl
    · have := small_mod h2 (by omega) (by omega)
      omega
    · have := small_mod h2 (by omega) (by omega)
      omega
  have e4 : ∀ s t : Int, (s = 1 ∨ s = -1) → (t = 1 ∨ t = -1) → (b * j) % n = (s * (la n (b * k) : Int)) % n → (b * k) % n = (t * (la n (b * k) : Int)) % n → j = k := by
    intro s t hs ht h1 h2
    refine key (s * t) ?_ (by rcases hs with rfl | rfl <;> rcases ht with rfl | rfl <;> simp)
    have h3 : (s * t * (b * k)) % n = (s * t * (t * (la n (b * k) : Int))) % n := by
      rw [Int.mul_emod, h2, ← Int.mul_emod]
    rw [h1, h3]
    have : s * t * (t * (la n (b * k) : Int)) = s * (la n (b * k) : Int) * (t * t) := by ac_rfl
    rw [this, show t * t = 1 by rcases ht with rfl | rfl <;> rfl, Int.mul_one]
  exact e4 _ _ (sg_or _ _) (sg_or _ _) e1 e2

def J (a : Int) (n : Nat) : Int := if Int.gcd a n = 1 then prodL (fun k => sg n (a * k)) (up1 ((n - 1) / 2)) else 0
theorem J_cop {a : Int} {n : Nat} (h : Int.gcd a n = 1) : J a n = prodL (fun k => sg n (a * k)) (up1 ((n - 1) / 2)) := by unfold J; rw [if_pos h]
theorem J_not {a : Int} {n : Nat} (h : Int.gcd a n ≠ 1) : J a n = 0 := by unfold J; rw [if_neg h]
theorem prodS_or {n : Nat} {f : Nat → Int} : ∀ l, prodL (fun k => sg n (f k)) l = 1 ∨ prodL (fun k => sg n (f k)) l = -1
  | [] => .inl rfl
  | k :: l => by
    rw [prodL_cons]
    rcases sg_or n (f k) with h | h <;> rcases prodS_or (f := f) l with h2 | h2 <;> rw [h, h2] <;> simp
theorem J_or {a : Int} {n : Nat} (h : Int.gcd a n = 1) : J a n = 1 ∨ J a n = -1 := by rw [J_cop h]; exact prodS_or _
theorem gcd_emod {a : Int} {n : Nat} : Int.gcd (a % n) n = Int.gcd a n := by
  rw [Int.gcd_comm, Int.gcd_comm a]
  have h := Int.mul_ediv_add_emod a n
  have e : a % n = a + n * (-(a / n)) := by rw [Int.mul_neg]; omega
  rw [e]; simp
theorem J_mod (a : Int) (n : Nat) : J (a % n) n = J a n := by
  unfold J
  rw [gcd_emod]
  split
  · refine prodL_congr fun k _ => sg_congr ?_
    rw [Int.mul_emod, Int.emod_emod_of_dvd _ (Int.dvd_refl _), ← Int.mul_emod]
  · rfl
theorem J_congr {a b : Int} {n : Nat} (h : a % n = b % n) : J a n = J b n := by rw [← J_mod a, ← J_mod b, h]
theorem gcd_mul_iff {a b : Int} {n : Nat} : Int.gcd (a * b) n = 1 ↔ Int.gcd a n = 1 ∧ Int.gcd b n = 1 := by
  have e : Int.gcd (a * b) n = Nat.gcd (a.natAbs * b.natAbs) n := by
    unfold Int.gcd; rw [Int.natAbs_mul]; rfl
  rw [e]
  exact Nat.coprime_mul_iff_left
theorem J_mul {n : Nat} (ho : n % 2 = 1) (a b : Int) : J (a * b) n = J a n * J b n := by
  by_cases h : Int.gcd a n = 1 ∧ Int.gcd b n = 1
  · obtain ⟨ha, hb⟩ := h
    rw [J_cop (gcd_mul_iff.2 ⟨ha, hb⟩), J_cop ha, J_cop hb, ← prodL_perm (la_perm ho hb) (fun k => sg n (a * k)), prodL_map, ← prodL_mul]
    refine prodL_congr fun k hk => ?_
    rw [up1_mem] at hk
    have h0 := half_mod hk.1 hk.2
    have h1 := cop_mod hb h0
    have h2 := sg_la (show 0 < n by omega) (b * k)
    have h3 : (a * b * (k : Int)) % n = (sg n (b * k) * (a * (la n (b * k) : Int))) % n := by
      rw [Int.mul_assoc, Int.mul_emod, h2, ← Int.mul_emod]
      congr 1
      ac_rfl
    rw [sg_congr h3]
    have h4 : (a * (la n (b * k) : Int)) % n ≠ 0 := cop_mod ha (half_mod (la_range ho h1).1 (la_range ho h1).2)
    rcases sg_or n (b * k) with e | e
    · rw [e, Int.one_mul, Int.mul_one]
    · rw [e, Int.neg_mul, Int.one_mul, sg_neg ho h4, Int.mul_neg, Int.mul_one]
  · rw [J_not (fun e => h (gcd_mul_iff.1 e))]
    by_cases ha : Int.gcd a n = 1
    · rw [J_not (a := b) (fun e => h ⟨ha, e⟩), Int.mul_zero]
    · rw [J_not ha, Int.zero_mul]

def par (z : Int) : Int := if z % 2 = 0 then 1 else -1
theorem par_add (x y : Int) : par (x + y) = par x * par y := by
  unfold par
  split <;> split <;> split <;> first | rfl | omega
theorem par_sq (x : Int) : par x * par x = 1 := by unfold par; split <;> rfl
theorem par_sum (f : Nat → Int) : ∀ l, prodL (fun k => par (f k)) l = par (sumL f l)
  | [] => rfl
  | k :: l => by rw [prodL_cons, sumL_cons, par_add, par_sum f l]
theorem sg_par {n : Nat} (h0 : 0 < n) (x : Int) : sg n x = par ((2 * x) / n) := by
  have h1 := Int.emod_nonneg x (show (n : Int) ≠ 0 by omega)
  have h2 := Int.emod_lt_of_pos x (show (0 : Int) < n by omega)
  have h3 := Int.mul_ediv_add_emod x n
  have e : 2 * x = 2 * (x % n) + n * (2 * (x / n)) := by
    have : (n : Int) * (2 * (x / n)) = 2 * (n * (x / n)) := by ac_rfl
    omega
  rw [e, Int.add_mul_ediv_left _ _ (show (n : Int) ≠ 0 by omega)]
  unfold sg par
  by_cases h : 2 * (x % n) < n
  · rw [if_pos h, Int.ediv_eq_zero_of_lt (by omega) h, if_pos (by omega)]
  · have h5 : 2 * (x % n) / n = 1 := by
      have e2 : 2 * (x % n) = (2 * (x % n) - n) + n * 1 := by omega
      rw [e2, Int.add_mul_ediv_left _ _ (show (n : Int) ≠ 0 by omega), Int.ediv_eq_zero_of_lt (by omega) (by omega)]
      rfl
    rw [if_neg h, h5, if_neg (by omega)]
theorem J_par {a : Int} {n : Nat} (ho : n % 2 = 1) (h : Int.gcd a n = 1) : J a n = par (sumL (fun k => (2 * (a * k)) / n) (up1 ((n - 1) / 2))) := by
  rw [J_cop h, ← par_sum]
  exact prodL_congr fun k _ => sg_par (by omega) _

theorem J_half {m : Int} {n : Nat} (ho : n % 2 = 1) (hm : m % 2 = 1) (h : Int.gcd m n = 1) :
    Int.gcd 2 n = 1 ∧ J 2 n * J ((m + n) / 2) n = J m n ∧ J ((m + n) / 2) n = par (sumL (fun k => (m * k) / n) (up1 ((n - 1) / 2))) * par (sumL (fun k => (k : Int)) (up1 ((n - 1) / 2))) := by
  have e : 2 * ((m + n) / 2) = m + n := by omega
  have h1 : Int.gcd (m + n) n = 1 := by
    rw [Int.gcd_comm] at h ⊢
    have : m + (n : Int) = m + n * 1 := by omega
    rw [this]; simpa using h
  have h2 := h1
  rw [← e] at h2
  obtain ⟨h3, h4⟩ := gcd_mul_iff.1 h2
  refine ⟨h3, ?_, ?_⟩
  · rw [← J_mul ho, e]
    exact J_congr (by rw [Int.add_emod_right])
  · rw [J_par ho h4, ← par_add, ← sumL_add]
    refine congrArg par (sumL_congr fun k _ => ?_)
    have e2 : 2 * ((m + n) / 2 * (k : Int)) = m * k + n * k := by
      rw [← Int.mul_assoc, e, Int.add_mul]
    rw [e2, Int.add_mul_ediv_left _ _ (show (n : Int) ≠ 0 by omega)]
theorem gcd_one_left (n : Nat) : Int.gcd 1 n = 1 := by simp
theorem J_one (n : Nat) : J 1 n = 1 := by
  rw [J_cop (gcd_one_left n)]
  have : ∀ l : List Nat, (∀ k ∈ l, 1 ≤ k ∧ k ≤ (n - 1) / 2) → prodL (fun k => sg n (1 * k)) l = 1 := by
    intro l hl
    induction l with
    | nil => rfl
    | cons k l ih =>
      rw [prodL_cons, ih (fun j hj => hl j (by simp [hj]))]
      have := hl k (by simp)
      unfold sg
      rw [Int.one_mul, Int.emod_eq_of_lt (by omega) (by omega), if_pos (by omega)]
      rfl
  exact this _ (fun k hk => up1_mem.1 hk)
theorem sum_small {n : Nat} : sumL (fun k => ((1 : Int) * k) / n) (up1 ((n - 1) / 2)) = 0 := by
  have : ∀ l : List Nat, (∀ k ∈ l, 1 ≤ k ∧ k ≤ (n - 1) / 2) → sumL (fun k => ((1 : Int) * k) / n) l = 0 := by
    intro l hl
    induction l with
    | nil => rfl
    | cons k l ih =>
      rw [sumL_cons, ih (fun j hj => hl j (by simp [hj]))]
      have := hl k (by simp)
      rw [Int.one_mul, Int.ediv_eq_zero_of_lt (by omega) (by omega)]
      rfl
  exact this _ (fun k hk => up1_mem.1 hk)
theorem J_two_sum {n : Nat} (ho : n % 2 = 1) : J 2 n = par (sumL (fun k => (k : Int)) (up1 ((n - 1) / 2))) := by
  obtain ⟨h1, h2, h3⟩ := J_half (m := 1) ho (by decide) (gcd_one_left n)
  rw [sum_small, J_one] at *
  rw [h3] at h2
  have h4 : par 0 = 1 := rfl
  rw [h4, Int.one_mul] at h2
  have h5 := par_sq (sumL (fun k => (k : Int)) (up1 ((n - 1) / 2)))
  calc J 2 n = J 2 n * (par (sumL (fun k => (k : Int)) (up1 ((n - 1) / 2))) * par (sumL (fun k => (k : Int)) (up1 ((n - 1) / 2)))) := by rw [h5, Int.mul_one]
    _ = _ := by rw [← Int.mul_assoc, h2, Int.one_mul]
theorem sum_up1 : ∀ h : Nat, 2 * sumL (fun k => (k : Int)) (up1 h) = h * (h + 1)
  | 0 => rfl
  | h + 1 => by
    have ih := sum_up1 h
    rw [up1_succ, sumL_append, Int.mul_add, ih]
    show (h : Int) * (h + 1) + 2 * (((h + 1 : Nat) : Int) + 0) = _
    have e : ((h + 1 : Nat) : Int) = (h : Int) + 1 := rfl
    rw [e]
    simp only [Int.mul_add, Int.add_mul]
    omega
theorem J_two {n : Nat} (ho : n % 2 = 1) : J 2 n = if n % 8 = 3 ∨ n % 8 = 5 then -1 else 1 := by
  rw [J_two_sum ho]
  have h := sum_up1 ((n - 1) / 2)
  generalize sumL (fun k => (k : Int)) (up1 ((n - 1) / 2)) = s at *
  obtain ⟨q, hq⟩ : ∃ q : Nat, n = 8 * q + n % 8 := ⟨n / 8, by omega⟩
  have h8 : n % 8 = 1 ∨ n % 8 = 3 ∨ n % 8 = 5 ∨ n % 8 = 7 := by omega
  have sq : ∀ c : Nat, c < 4 → (n - 1) / 2 = 4 * q + c → 2 * s = 16 * ((q : Int) * q) + (8 * c + 4) * q + c * (c + 1) := by
    intro c _ hc
    rw [hc] at h
    rw [h]
    have : ((4 * q + c : Nat) : Int) = 4 * (q : Int) + c := by omega
    rw [this]
    simp only [Int.mul_add, Int.add_mul, Int.mul_one]
    have e1 : 4 * (q : Int) * (4 * q) = 16 * (q * q) := by
      rw [Int.mul_assoc, Int.mul_left_comm (q : Int) 4 q, ← Int.mul_assoc]; rfl
    have e2 : (c : Int) * (4 * q) = 4 * (c * q) := by ac_rfl
    have e3 : 4 * (q : Int) * c = 4 * (c * q) := by ac_rfl
    have e4 : 8 * (c : Int) * q = 8 * (c * q) := by ac_rfl
    omega
  unfold par
  rcases h8 with e | e | e | e
  · have := sq 0 (by omega) (by omega)
    rw [if_pos (show s % 2 = 0 by omega), if_neg (by omega)]
  · have := sq 1 (by omega) (by omega)
    rw [if_neg (show ¬ s % 2 = 0 by omega), if_pos (by omega)]
  · have := sq 2 (by omega) (by omega)
    rw [if_neg (show ¬ s % 2 = 0 by omega), if_pos (by omega)]
  · have := sq 3 (by omega) (by omega)
    rw [if_pos (show s % 2 = 0 by omega), if_neg (by omega)]
theorem J_odd {m : Int} {n : Nat} (ho : n % 2 = 1) (hm : m % 2 = 1) (h : Int.gcd m n = 1) : J m n = par (sumL (fun k => (m * k) / n) (up1 ((n - 1) / 2))) := by
  obtain ⟨h1, h2, h3⟩ := J_half ho hm h
  rw [← h2, h3, J_two_sum ho]
  rw [Int.mul_comm, Int.mul_assoc, par_sq, Int.mul_one]

theorem count_le {n : Nat} (h0 : 0 < n) {N : Int} (hN : 0 ≤ N) : ∀ H : Nat, sumL (fun j => if (n : Int) * j ≤ N then 1 else 0) (up1 H) = if (H : Int) ≤ N / n then (H : Int) else N / n
  | 0 => by
    have : 0 ≤ N / n := Int.ediv_nonneg hN (by omega)
    rw [if_pos (by omega)]; rfl
  | H + 1 => by
    rw [up1_succ, sumL_append, count_le h0 hN H]
    show _ + ((if (n : Int) * ((H + 1 : Nat) : Int) ≤ N then 1 else 0) + 0) = _
    have hi : (n : Int) * ((H + 1 : Nat) : Int) ≤ N ↔ ((H + 1 : Nat) : Int) ≤ N / n := by
      rw [Int.le_ediv_iff_mul_le (by omega), Int.mul_comm]
    by_cases h : ((H + 1 : Nat) : Int) ≤ N / n
    · rw [if_pos (hi.2 h), if_pos h, if_pos (by omega)]
      omega
    · rw [if_neg (mt hi.1 h), if_neg h]
      split <;> omega
theorem div_half {m n k : Nat} (hm : m % 2 = 1) (hn : n % 2 = 1) (hk : k ≤ (n - 1) / 2) : ((m : Int) * k) / n ≤ (((m - 1) / 2 : Nat) : Int) := by
  refine Int.le_of_lt_add_one (Int.ediv_lt_of_lt_mul (by omega) ?_)
  have h1 : (m : Int) * (2 * k + 1) ≤ m * n := Int.mul_le_mul_of_nonneg_left (by omega) (by omega)
  have h2 : (((m - 1) / 2 : Nat) : Int) * 2 + 1 = m := by omega
  have h3 : ((((m - 1) / 2 : Nat) : Int) + 1) * n * 2 = m * n + n := by
    rw [Int.mul_assoc, Int.mul_comm (n : Int) 2, ← Int.mul_assoc]
    have : ((((m - 1) / 2 : Nat) : Int) + 1) * 2 = m + 1 := by omega
    rw [this, Int.add_mul, Int.one_mul]
  have h4 : (m : Int) * (2 * k + 1) = 2 * (m * k) + m := by
    rw [Int.mul_add, Int.mul_one]; congr 1; ac_rfl
  omega
theorem lattice {m n : Nat} (hm : m % 2 = 1) (hn : n % 2 = 1) (hc : Nat.gcd m n = 1) :
    sumL (fun k => ((m : Int) * k) / n) (up1 ((n - 1) / 2)) + sumL (fun j => ((n : Int) * j) / m) (up1 ((m - 1) / 2)) = (((n - 1) / 2 : Nat) : Int) * (((m - 1) / 2 : Nat) : Int) := by
  have e1 : sumL (fun k => ((m : Int) * k) / n) (up1 ((n - 1) / 2)) = sumL (fun k => sumL (fun j => if (n : Int) * j ≤ m * k then 1 else 0) (up1 ((m - 1) / 2))) (up1 ((n - 1) / 2)) := by
    refine sumL_congr fun k hk => ?_
    rw [up1_mem] at hk
    rw [count_le (by omega) (Int.mul_nonneg (by omega) (by omega))]
    have := div_half hm hn hk.2
    split <;> omega
  have e2 : sumL (fun j => ((n : Int) * j) / m) (up1 ((m - 1) / 2)) = sumL (fun j => sumL (fun k => if (m : Int) * k ≤ n * j then 1 else 0) (up1 ((n - 1) / 2))) (up1 ((m - 1) / 2)) := by
    refine sumL_congr fun k hk => ?_
    rw [up1_mem] at hk
    rw [count_le (by omega) (Int.mul_nonneg (by omega) (by omega))]
    have := div_half hn hm hk.2
    split <;> omega
  rw [e1, e2, sumL_swap (fun j k : Nat => if (m : Int) * k ≤ n * j then (1 : Int) else 0), ← sumL_add]
  have e3 : ∀ l : List Nat, (∀ k ∈ l, 1 ≤ k ∧ k ≤ (n - 1) / 2) → sumL (fun k => sumL (fun j => if (n : Int) * j ≤ m * k then 1 else 0) (up1 ((m - 1) / 2)) + sumL (fun j => if (m : Int) * k ≤ n * j then 1 else 0) (up1 ((m - 1) / 2))) l = l.length * (((m - 1) / 2 : Nat) : Int) := by
    intro l hl
    induction l with
    | nil => show (0 : Int) = 0 * _; rw [Int.zero_mul]
    | cons k l ih =>
      rw [sumL_cons, ih (fun j hj => hl j (by simp [hj])), ← sumL_add]
      have hk := hl k (by simp)
      have e4 : ∀ l2 : List Nat, sumL (fun j => (if (n : Int) * j ≤ m * k then 1 else 0) + (if (m : Int) * k ≤ n * j then 1 else 0)) l2 = l2.length := by
        intro l2
        induction l2 with
        | nil => rfl
        | cons j l2 ih2 =>
          rw [sumL_cons, ih2]
          have hne : (n : Int) * j ≠ m * k := by
            intro e
            have h1 : n ∣ m * k := by
              have : (n : Int) ∣ m * k := ⟨j, e.symm⟩
              exact Int.natCast_dvd_natCast.1 (by simpa using this)
            have h2 : Nat.Coprime n m := by rw [Nat.coprime_comm]; exact hc
            have h3 := Nat.le_of_dvd (by omega) (h2.dvd_of_dvd_mul_left h1)
            omega
          rw [List.length_cons]
          by_cases h : (n : Int) * j ≤ m * k
          · rw [if_pos h, if_neg (by omega)]; omega
          · rw [if_neg h, if_pos (by omega)]; omega
      rw [e4]
      have : (up1 ((m - 1) / 2)).length = (m - 1) / 2 := by unfold up1; rw [List.length_range']
      rw [this, List.length_cons]
      have : (((l.length + 1 : Nat) : Int)) = (l.length : Int) + 1 := rfl
      rw [this, Int.add_mul, Int.one_mul, Int.add_comm]
  rw [e3 _ (fun k hk => up1_mem.1 hk)]
  have : (up1 ((n - 1) / 2)).length = (n - 1) / 2 := by unfold up1; rw [List.length_range']
  rw [this]

theorem J_rec {m n : Nat} (hm : m % 2 = 1) (hn : n % 2 = 1) : J m n = (if m % 4 = 3 ∧ n % 4 = 3 then -1 else 1) * J n m := by
  by_cases hc : Nat.gcd m n = 1
  · have h1 : Int.gcd (m : Int) n = 1 := hc
    have h2 : Int.gcd (n : Int) m = 1 := by rw [Int.gcd_comm]; exact h1
    rw [J_odd hn (by omega) h1, J_odd hm (by omega) h2]
    have h := lattice hm hn hc
    have h3 : par (sumL (fun k => ((m : Int) * k) / n) (up1 ((n - 1) / 2)) + sumL (fun j => ((n : Int) * j) / m) (up1 ((m - 1) / 2))) = if m % 4 = 3 ∧ n % 4 = 3 then -1 else 1 := by
      rw [h]
      unfold par
      by_cases h4 : m % 4 = 3 ∧ n % 4 = 3
      · rw [if_pos h4, if_neg]
        rw [Int.mul_emod]
        have e1 : (((n - 1) / 2 : Nat) : Int) % 2 = 1 := by omega
        have e2 : (((m - 1) / 2 : Nat) : Int) % 2 = 1 := by omega
        rw [e1, e2]; decide
      · rw [if_neg h4, if_pos]
        rw [Int.mul_emod]
        have : (((n - 1) / 2 : Nat) : Int) % 2 = 0 ∨ (((m - 1) / 2 : Nat) : Int) % 2 = 0 := by omega
        rcases this with e | e <;> rw [e] <;> simp
    rw [par_add] at h3
    rw [← h3, Int.mul_assoc, par_sq, Int.mul_one]
  · have h1 : Int.gcd (m : Int) n ≠ 1 := hc
    have h2 : Int.gcd (n : Int) m ≠ 1 := by rw [Int.gcd_comm]; exact h1
    rw [J_not h1, J_not h2, Int.mul_zero]

def Pr (p : Nat) : Prop := 2 ≤ p ∧ ∀ d, d ∣ p → d = 1 ∨ d = p
theorem Pr.cop {p : Nat} (hp : Pr p) {a : Int} (h : a % p ≠ 0) : Int.gcd a p = 1 := by
  have hd : Int.gcd a p ∣ p := by
    have := Int.gcd_dvd_right (a := a) (b := (p : Int))
    exact Int.natCast_dvd_natCast.1 this
  rcases hp.2 _ hd with e | e
  · exact e
  · exfalso
    apply h
    have := Int.gcd_dvd_left (a := a) (b := (p : Int))
    rw [e] at this
    exact Int.emod_eq_zero_of_dvd this
def two (a : Int) : Int := if a % 2 = 0 then 0 else if a % 8 = 3 ∨ a % 8 = 5 then -1 else 1
def kro (a : Int) (n : Nat) : Int := if n = 0 then 0 else if n % 2 = 0 then two a * kro a (n / 2) else J a n
  termination_by n
  decreasing_by omega
def kron (a n : Int) : Int := if n = 0 then (if a.natAbs = 1 then 1 else 0) else (if a < 0 ∧ n < 0 then -1 else 1) * kro a n.natAbs
theorem kro_odd {a : Int} {n : Nat} (h : n % 2 = 1) : kro a n = J a n := by
  rw [kro, if_neg (by omega), if_neg (by omega)]
theorem kro_even {a : Int} {n : Nat} (h : n ≠ 0) : kro a (2 * n) = two a * kro a n := by
  rw [kro, if_neg (by omega), if_pos (by omega), Nat.mul_div_cancel_left n (by omega)]
theorem kro_zero {a : Int} : ∀ n : Nat, n ≠ 0 → (kro a n = 0 ↔ Int.gcd a n ≠ 1) := by
  intro n
  induction n using Nat.strongRecOn with
  | _ n ih =>
    intro hn
    by_cases h : n % 2 = 1
    · rw [kro_odd h]
      constructor
      · intro h1 h2
        rcases J_or h2 with e | e <;> rw [e] at h1 <;> simp at h1
      · exact J_not
    · have e : n = 2 * (n / 2) := by omega
      have h1 := ih (n / 2) (by omega) (by omega)
      have h2 : kro a n = two a * kro a (n / 2) := by
        conv => lhs; rw [e]
        exact kro_even (by omega)
      have h3 : Int.gcd a n = 1 ↔ Int.gcd a 2 = 1 ∧ Int.gcd a (n / 2 : Nat) = 1 := by
        have : (n : Int) = 2 * ((n / 2 : Nat) : Int) := by omega
        rw [this, Int.gcd_comm, Int.gcd_comm a, Int.gcd_comm a]
        unfold Int.gcd
        rw [Int.natAbs_mul]
        exact Nat.coprime_mul_iff_left
      have h4 : Int.gcd a 2 = 1 ↔ a % 2 ≠ 0 := by
        constructor
        · intro h5 h6
          have h7 : (2 : Int) ∣ Int.gcd a 2 := Int.dvd_coe_gcd (Int.dvd_of_emod_eq_zero h6) (Int.dvd_refl _)
          rw [h5] at h7
          omega
        · intro h5
          refine Pr.cop (p := 2) ⟨by omega, fun d hd => ?_⟩ h5
          have h6 := Nat.le_of_dvd (by omega) hd
          have h7 : d ≠ 0 := fun e => by subst e; simp at hd
          omega
      have h5 : two a = 0 ↔ a % 2 = 0 := by
        unfold two
        by_cases c : a % 2 = 0
        · rw [if_pos c]; exact ⟨fun _ => c, fun _ => rfl⟩
        · rw [if_neg c]
          split
          · exact ⟨fun h => by simp at h, fun h => absurd h c⟩
          · exact ⟨fun h => by simp at h, fun h => absurd h c⟩
      rw [h2, Int.mul_eq_zero, h1, h5, ne_eq, ne_eq, h3, h4]
      by_cases c1 : a % 2 = 0 <;> by_cases c2 : Int.gcd a (n / 2 : Nat) = 1 <;> simp [c1]


end Go.Proofs.YtieobgadihcgeaaGreatDoor

namespace Go.Proofs.YtieobgadihcgeaaGreatDoor
open Go Go.RowKit

theorem bez_ex : ∀ (n : Nat) (a : Int), ∃ u v : Int, u * a + v * n = (Int.gcd a n : Int) := by
  intro n
  induction n using Nat.strongRecOn with
  | _ n ih =>
    intro a
    by_cases h0 : n = 0
    · subst h0
      refine ⟨if a < 0 then -1 else 1, 0, ?_⟩
      have : (Int.gcd a ((0 : Nat) : Int) : Int) = (a.natAbs : Int) := by simp
      rw [this]
      split <;> omega
    · have h1 := Int.emod_nonneg a (show (n : Int) ≠ 0 by omega)
      have h2 := Int.emod_lt_of_pos a (show (0 : Int) < n by omega)
      obtain ⟨u, v, h⟩ := ih (a % n).toNat (by omega) (n : Int)
      rw [Int.toNat_of_nonneg h1, Int.gcd_comm, gcd_emod] at h
      refine ⟨v, u - v * (a / n), ?_⟩
      rw [← h]
      have e := Int.mul_ediv_add_emod a n
      have e2 : v * a = v * (n * (a / n)) + v * (a % n) := by rw [← Int.mul_add, e]
      rw [e2, Int.sub_mul]
      have e3 : v * (a / n) * n = v * (n * (a / n)) := by ac_rfl
      omega

theorem gcd_pos_r {a m : Int} (hm : m ≠ 0) : (0 : Int) < Int.gcd a m := by
  have := Int.gcd_pos_iff (a := a) (b := m)
  have h : 0 < Int.gcd a m := this.2 (.inr hm)
  omega

theorem bez_ex2 (a m : Int) (hm : 0 < m) : ∃ u v : Int, 0 ≤ u ∧ u < m / (Int.gcd a m : Int) ∧ u * a + v * m = (Int.gcd a m : Int) := by
  obtain ⟨u, v, h⟩ := bez_ex m.toNat a
  rw [Int.toNat_of_nonneg (by omega)] at h
  have hg := gcd_pos_r (a := a) (show m ≠ 0 by omega)
  obtain ⟨c, hc⟩ := Int.gcd_dvd_left (a := a) (b := m)
  obtain ⟨d, hd⟩ := Int.gcd_dvd_right (a := a) (b := m)
  generalize (Int.gcd a m : Int) = g at *
  have e0 : m / g = d := by rw [hd]; exact Int.mul_ediv_cancel_left _ (by omega)
  have hd0 : 0 < d := by
    rcases Int.lt_or_le 0 d with h1 | h1
    · exact h1
    · have := Int.mul_le_mul_of_nonneg_left h1 (show 0 ≤ g by omega)
      omega
  rw [e0]
  refine ⟨u % d, v + u / d * c, Int.emod_nonneg _ (by omega), Int.emod_lt_of_pos _ hd0, ?_⟩
  rw [← h]
  have e := Int.mul_ediv_add_emod u d
  have e2 : u * a = d * (u / d) * a + u % d * a := by rw [← Int.add_mul, e]
  rw [e2, Int.add_mul]
  have e3 : u / d * c * m = d * (u / d) * a := by rw [hc, hd]; ac_rfl
  omega
noncomputable def bezU (a m : Int) : Int := if h : 0 < m then Classical.choose (bez_ex2 a m h) else 0
noncomputable def bezV (a m : Int) : Int := if h : 0 < m then Classical.choose (Classical.choose_spec (bez_ex2 a m h)) else 0
theorem bez_spec {a m : Int} (hm : 0 < m) : 0 ≤ bezU a m ∧ bezU a m < m / (Int.gcd a m : Int) ∧ bezU a m * a + bezV a m * m = (Int.gcd a m : Int) := by
  unfold bezU bezV
  rw [dif_pos hm, dif_pos hm]
  exact Classical.choose_spec (Classical.choose_spec (bez_ex2 a m hm))
theorem small_dvd {x n : Int} (h : n ∣ x) (h1 : -n < x) (h2 : x < n) : x = 0 := by
  obtain ⟨c, hc⟩ := h
  have hn : (0 : Int) ≤ n := by omega
  rcases Int.lt_trichotomy c 0 with h3 | h3 | h3
  · have := Int.mul_le_mul_of_nonneg_left (show c ≤ -1 by omega) hn
    omega
  · rw [hc, h3, Int.mul_zero]
  · have := Int.mul_le_mul_of_nonneg_left (show 1 ≤ c by omega) hn
    omega
theorem dvd_of_cop {n b x : Int} (h : Int.gcd n b = 1) (hd : n ∣ b * x) : n ∣ x := by
  have h1 : n.natAbs ∣ b.natAbs * x.natAbs := by rw [← Int.natAbs_mul]; exact Int.natAbs_dvd_natAbs.2 hd
  have h2 : Nat.Coprime n.natAbs b.natAbs := h
  exact Int.natAbs_dvd_natAbs.1 (h2.dvd_of_dvd_mul_left h1)
theorem bez_uniq {a m : Int} (hm : 0 < m) {u v : Int} (h0 : 0 ≤ u) (h1 : u < m / (Int.gcd a m : Int)) (h2 : u * a + v * m = (Int.gcd a m : Int)) : u = bezU a m ∧ v = bezV a m := by
  obtain ⟨g0, g1, g2⟩ := bez_spec (a := a) hm
  have hg := gcd_pos_r (a := a) (show m ≠ 0 by omega)
  have hco := Int.gcd_ediv_gcd_ediv_gcd (i := a) (j := m) (by
    have := Int.gcd_pos_iff (a := a) (b := m)
    exact this.2 (.inr (by omega)))
  obtain ⟨c, hc⟩ := Int.gcd_dvd_left (a := a) (b := m)
  obtain ⟨d, hd⟩ := Int.gcd_dvd_right (a := a) (b := m)
  generalize bezU a m = p at *
  generalize bezV a m = q at *
  generalize hG : (Int.gcd a m : Int) = g at *
  have e0 : m / g = d := by rw [hd]; exact Int.mul_ediv_cancel_left _ (by omega)
  have e1 : a / g = c := by rw [hc]; exact Int.mul_ediv_cancel_left _ (by omega)
  rw [e0, e1] at hco
  rw [e0] at h1 g1
  have h3 : (u - p) * a + (v - q) * m = 0 := by rw [Int.sub_mul, Int.sub_mul]; omega
  have h4 : g * (c * (u - p) + d * (v - q)) = 0 := by
    rw [← h3, Int.mul_add]
    congr 1
    · conv => rhs; rw [hc]
      ac_rfl
    · conv => rhs; rw [hd]
      ac_rfl
  have h5 : c * (u - p) + d * (v - q) = 0 := by
    rcases Int.mul_eq_zero.1 h4 with h | h
    · omega
    · exact h
  have h6 : d ∣ c * (u - p) := ⟨-(v - q), by rw [Int.mul_neg]; omega⟩
  have h7 := small_dvd (dvd_of_cop (by rw [Int.gcd_comm]; exact hco) h6) (by omega) (by omega)
  rw [h7, Int.mul_zero, Int.zero_add] at h5
  refine ⟨by omega, ?_⟩
  rcases Int.mul_eq_zero.1 h5 with h | h
  · rw [h, Int.mul_zero] at hd; omega
  · omega
theorem bez_lt {a m : Int} (hm : 0 < m) : bezU a m < m := by
  obtain ⟨g0, g1, _⟩ := bez_spec (a := a) hm
  have hg := gcd_pos_r (a := a) (show m ≠ 0 by omega)
  have := Int.ediv_le_self (a := m) (Int.gcd a m : Int) (by omega)
  omega
theorem bez_inv {a m : Int} (hm : 0 < m) (hg : Int.gcd a m = 1) : (a * bezU a m) % m = 1 % m := by
  have h := (bez_spec (a := a) hm).2.2
  rw [hg] at h
  refine emod_of_dvd ⟨-(bezV a m), ?_⟩
  rw [Int.mul_neg]
  have : a * bezU a m = bezU a m * a := Int.mul_comm _ _
  have h2 : m * bezV a m = bezV a m * m := Int.mul_comm _ _
  omega
theorem inv_uniq {a m x : Int} (hm : 0 < m) (h0 : 0 ≤ x) (h1 : x < m) (h : (a * x) % m = 1 % m) : Int.gcd a m = 1 ∧ x = bezU a m := by
  have hd := dvd_of_emod h
  have hg : Int.gcd a m = 1 := by
    have g1 := Int.gcd_dvd_left (a := a) (b := m)
    have g2 := Int.gcd_dvd_right (a := a) (b := m)
    have g3 : (Int.gcd a m : Int) ∣ a * x - 1 := Int.dvd_trans g2 hd
    have g4 : (Int.gcd a m : Int) ∣ 1 := by
      have g5 : (Int.gcd a m : Int) ∣ a * x := Int.dvd_trans g1 ⟨x, rfl⟩
      have := Int.dvd_sub g5 g3
      have e : a * x - (a * x - 1) = 1 := by omega
      rwa [e] at this
    have := Int.le_of_dvd (by decide) g4
    have := gcd_pos_r (a := a) (show m ≠ 0 by omega)
    omega
  refine ⟨hg, ?_⟩
  have h2 := bez_inv hm hg
  have h3 : (a * (x - bezU a m)) % m = 0 := by
    rw [Int.mul_sub]
    exact Int.emod_eq_emod_iff_emod_sub_eq_zero.1 (h.trans h2.symm)
  have h4 := dvd_of_cop (by rw [Int.gcd_comm]; exact hg) (Int.dvd_of_emod_eq_zero h3)
  have h5 := (bez_spec (a := a) hm).1
  have h6 := bez_lt (a := a) hm
  have := small_dvd h4 (by omega) (by omega)
  omega

noncomputable def crtR (r1 m1 r2 m2 : Int) : Int := (r1 + m1 * (((r2 - r1) / (Int.gcd m1 m2 : Int) * bezU m1 m2) % (m2 / (Int.gcd m1 m2 : Int)))) % (m1 * (m2 / (Int.gcd m1 m2 : Int)))
theorem crt_part {m1 m2 : Int} (h2 : 0 < m2) : 0 < m2 / (Int.gcd m1 m2 : Int) ∧ (Int.gcd m1 m2 : Int) * (m2 / (Int.gcd m1 m2 : Int)) = m2 := by
  have hg := gcd_pos_r (a := m1) (show m2 ≠ 0 by omega)
  have e := Int.mul_ediv_cancel' (Int.gcd_dvd_right (a := m1) (b := m2))
  refine ⟨?_, e⟩
  rcases Int.lt_or_le 0 (m2 / (Int.gcd m1 m2 : Int)) with h | h
  · exact h
  · have := Int.mul_le_mul_of_nonneg_left h (show 0 ≤ (Int.gcd m1 m2 : Int) by omega)
    omega
end Go.Proofs.YtieobgadihcgeaaGreatDoor

namespace Go.Proofs.YtieobgadihcgeaaGreatDoor
open Go Go.RowKit

theorem enq_M_Mod (args : Array Value) (w : World) : (callFunc 6 args).run Tryz.prog w = .ok (.enter 6 args) w := enter_of Tryz.func6 (by kernel_rfl) rfl args w
theorem enq_M_Inv (args : Array Value) (w : World) : (callFunc 32 args).run Tryz.prog w = .ok (.enter 32 args) w := enter_of Tryz.func32 (by kernel_rfl) rfl args w
theorem enq_M_Crt (args : Array Value) (w : World) : (callFunc 18 args).run Tryz.prog w = .ok (.enter 18 args) w := enter_of Tryz.func18 (by kernel_rfl) rfl args w
theorem enq_M_isOne (args : Array Value) (w : World) : (callFunc 34 args).run Tryz.prog w = .ok (.enter 34 args) w := enter_of Tryz.func34 (by kernel_rfl) rfl args w
theorem enq_M_bit (args : Array Value) (w : World) : (callFunc 64 args).run Tryz.prog w = .ok (.enter 64 args) w := enter_of Tryz.func64 (by kernel_rfl) rfl args w
theorem enq_M_Pow (args : Array Value) (w : World) : (callFunc 33 args).run Tryz.prog w = .ok (.enter 33 args) w := enter_of Tryz.func33 (by kernel_rfl) rfl args w
theorem enq_M_low (args : Array Value) (w : World) : (callFunc 36 args).run Tryz.prog w = .ok (.enter 36 args) w := enter_of Tryz.func36 (by kernel_rfl) rfl args w
theorem enq_M_oddPart (args : Array Value) (w : World) : (callFunc 37 args).run Tryz.prog w = .ok (.enter 37 args) w := enter_of Tryz.func37 (by kernel_rfl) rfl args w
theorem enq_M_jacobi (args : Array Value) (w : World) : (callFunc 39 args).run Tryz.prog w = .ok (.enter 39 args) w := enter_of Tryz.func39 (by kernel_rfl) rfl args w
theorem enq_M_jacobiWords (args : Array Value) (w : World) : (callFunc 69 args).run Tryz.prog w = .ok (.enter 69 args) w := enter_of Tryz.func69 (by kernel_rfl) rfl args w
theorem enq_M_ofTwos (args : Array Value) (w : World) : (callFunc 38 args).run Tryz.prog w = .ok (.enter 38 args) w := enter_of Tryz.func38 (by kernel_rfl) rfl args w
theorem enq_M_turned (args : Array Value) (w : World) : (callFunc 68 args).run Tryz.prog w = .ok (.enter 68 args) w := enter_of Tryz.func68 (by kernel_rfl) rfl args w
theorem enq_M_Kronecker (args : Array Value) (w : World) : (callFunc 14 args).run Tryz.prog w = .ok (.enter 14 args) w := enter_of Tryz.func14 (by kernel_rfl) rfl args w
theorem enq_M_Sqrt (args : Array Value) (w : World) : (callFunc 54 args).run Tryz.prog w = .ok (.enter 54 args) w := enter_of Tryz.func54 (by kernel_rfl) rfl args w
theorem enq_M_someRoot (args : Array Value) (w : World) : (callFunc 79 args).run Tryz.prog w = .ok (.enter 79 args) w := enter_of Tryz.func79 (by kernel_rfl) rfl args w
theorem enq_M_smallPower (args : Array Value) (w : World) : (callFunc 47 args).run Tryz.prog w = .ok (.enter 47 args) w := enter_of Tryz.func47 (by kernel_rfl) rfl args w
theorem enq_V_of (args : Array Value) (w : World) : (callFunc 17 args).run Tryz.prog w = .ok (.enter 17 args) w := enter_of Tryz.func17 (by kernel_rfl) rfl args w
theorem enq_V_inv (args : Array Value) (w : World) : (callFunc 12 args).run Tryz.prog w = .ok (.enter 12 args) w := enter_of Tryz.func12 (by kernel_rfl) rfl args w
theorem enq_V_pow (args : Array Value) (w : World) : (callFunc 13 args).run Tryz.prog w = .ok (.enter 13 args) w := enter_of Tryz.func13 (by kernel_rfl) rfl args w
theorem enq_V_root (args : Array Value) (w : World) : (callFunc 20 args).run Tryz.prog w = .ok (.enter 20 args) w := enter_of Tryz.func20 (by kernel_rfl) rfl args w
theorem enq_V_is (args : Array Value) (w : World) : (callFunc 19 args).run Tryz.prog w = .ok (.enter 19 args) w := enter_of Tryz.func19 (by kernel_rfl) rfl args w
theorem enq_V_examples (args : Array Value) (w : World) : (callFunc 4 args).run Tryz.prog w = .ok (.enter 4 args) w := enter_of Tryz.func4 (by kernel_rfl) rfl args w
theorem enq_U_SameList (args : Array Value) (w : World) : (callFunc 21 args).run Tryz.prog w = .ok (.enter 21 args) w := enter_of Tryz.func21 (by kernel_rfl) rfl args w
theorem enq_U_small (args : Array Value) (w : World) : (callFunc 41 args).run Tryz.prog w = .ok (.enter 41 args) w := enter_of Tryz.func41 (by kernel_rfl) rfl args w
theorem enq_Bezout (args : Array Value) (w : World) : (callFunc 49 args).run Tryz.prog w = .ok (.enter 49 args) w := enter_of Tryz.func49 (by kernel_rfl) rfl args w
theorem enq_Low (args : Array Value) (w : World) : (callFunc 46 args).run Tryz.prog w = .ok (.enter 46 args) w := enter_of Tryz.func46 (by kernel_rfl) rfl args w
theorem enq_Abs (args : Array Value) (w : World) : (callFunc 35 args).run Tryz.prog w = .ok (.enter 35 args) w := enter_of Tryz.func35 (by kernel_rfl) rfl args w
theorem enq_Bits (args : Array Value) (w : World) : (callFunc 63 args).run Tryz.prog w = .ok (.enter 63 args) w := enter_of Tryz.func63 (by kernel_rfl) rfl args w
theorem exResidue {w : World} {v : Value} {b : Nat} {a m : Int} (h : Num w v a) (hb : Bq w b 2 (Fq.num m)) (hm : m ≠ 0) (ha : ab a < pw 300) (hn : ab m < pw 300) :
    Calls Tryz.prog 57 #[v, .pointer (some ⟨b, 0, none⟩)] w fun e w' => ∃ v', e = .returned v' ∧ Below w.heap.size w w' ∧ Num w' v' (a % m) := by
  have ho := hb
  have HM := hidd hm
  clear hb hm
  replace ha := hidd ha
  replace hn := hidd hn
  obtain ⟨n0, ao0, k0, c0, rfl⟩ := h.parts
  obtain ⟨w1, b1, hw1, hb1, hs1, E⟩ := fr_start w (F := Fq.num a) (us := [.bool n0, .slice ao0 k0 c0]) 29 rfl (by simp) (tame_int _ _ _ _) h
  obtain ⟨w2, b2, hw2, hb2, hs2, E⟩ := fr_more E hs1 (F := Fq.num 0) (us := [.bool false, .slice none 0 0]) 29 rfl (by simp) (tame_int _ _ _ _) (Num.zero _)
  go_enter Tryz.func57, Tryz.ntmps57
  go_upto_region 1 with (fail)
  rw [← hw1]
  rw [← hw2]
  rw [← hb2]
  rw [← hb1]
  clear hw1 hw2 hb1 hb2 hs2 hs1
  have B3 : Hid (ab ((a / m)) < pw 301) := ab_divB ha.out (by omega)
  have B4 : Hid (ab ((a % m)) < pw 300) := ab_modB HM.out hn.out
  refine region_fr (C := [Fq.num a, Fq.num m, Fq.tup3 (Fq.num (a / m)) (Fq.num (a % m)) (Fq.is (.int .i64 0)), Fq.tup3 (Fq.num (a / m)) (Fq.num (a % m)) (Fq.is (.int .i64 0)), Fq.num (a / m), Fq.num (a % m), Fq.is (.int .i64 0), Fq.any, Fq.any, Fq.any, Fq.any, Fq.is (.int .i64 0)]) (ks := [none, none]) (new := [⟨7, 9, 2, Fq.num 0, Fq.num (a / m), none⟩, ⟨8, 10, 2, Fq.num 0, Fq.num (a % m), none⟩]) E rfl (by kernel_rfl) rfl rfl (fun hp => ⟨?_, ?_, ?_, ?_, ?_, ?_, ?_, ?_, ?_, ?_, ?_, ?_, trivial⟩) ?_
  · exact q_loadInt (off := 0) hp (free_of rfl) trivial (List.mem_iff_getElem?.2 ⟨1, rfl⟩) (.inl rfl) (Nat.le_of_ble_eq_true rfl) (sq_out rfl rfl (fun _ _ => rfl)) (fun us w hl h => ld_num hl h)
  · exact q_loadIntOut hp (free_of rfl) trivial ho rfl (sq_out rfl rfl (fun _ _ => rfl)) (fun v w h => h)
  · exact q_call2 (F := (Fq.num a).P) (G := (Fq.num m).P) hp (free_of rfl) trivial (enq_DivMod) (sqi 0) (sqi 1) (fun v v' w h h' => exDMq h h' HM.out B3.out B4.out (by omega) (by omega))
  · exact q_move hp (free_of rfl) trivial (sqi 2)
  · exact q_extract3 hp (free_of rfl) trivial (sqi 3) (fun v1 v2 v3 w h1 h2 h3 => ⟨_, rfl, h1⟩)
  · exact q_extract3 hp (free_of rfl) trivial (sqi 3) (fun v1 v2 v3 w h1 h2 h3 => ⟨_, rfl, h2⟩)
  · exact q_extract3 hp (free_of rfl) trivial (sqi 3) (fun v1 v2 v3 w h1 h2 h3 => ⟨_, rfl, h3⟩)
  · exact q_allocInt hp (List.mem_iff_getElem?.2 ⟨0, rfl⟩) rfl rfl rfl rfl (Nat.ne_of_beq_eq_false rfl) (fun _ _ => trivial) (old_ne rfl) (newk_ne rfl) (fun w => Num.zero w)
  · exact q_allocInt hp (List.mem_iff_getElem?.2 ⟨1, rfl⟩) rfl rfl rfl rfl (Nat.ne_of_beq_eq_false rfl) (fun _ _ => trivial) (old_ne rfl) (newk_ne rfl) (fun w => Num.zero w)
  · exact q_storeNewInt hp (List.mem_iff_getElem?.2 ⟨0, rfl⟩) rfl rfl rfl (own_ptr rfl rfl (by simp) rfl) (sq_in 4 rfl rfl (by simp) rfl (fun v w h => intV_num h)) (fun _ _ => trivial) (old_ne rfl) (newi_ne rfl)
  · exact q_storeNewInt hp (List.mem_iff_getElem?.2 ⟨1, rfl⟩) rfl rfl rfl (own_ptr rfl rfl (by simp) rfl) (sq_in 5 rfl rfl (by simp) rfl (fun v w h => intV_num h)) (fun _ _ => trivial) (old_ne rfl) (newi_ne rfl)
  · exact q_assign hp (free_of rfl) trivial (sqi 6)
  intro L vs w5 nb hL hC hn E5
  have e6 : vs 6 = .int .i64 0 := hC 6 (by simp)
  have e11 : vs 11 = .int .i64 0 := hC 11 (by simp)
  have e7 : vs 7 = .pointer (some ⟨nb 7, 0, none⟩) := hn _ (List.mem_iff_getElem?.2 ⟨0, rfl⟩)
  have e8 : vs 8 = .pointer (some ⟨nb 8, 0, none⟩) := hn _ (List.mem_iff_getElem?.2 ⟨1, rfl⟩)
  have E : Fr w [(nb 7, 2, Fq.num (a / m)), (nb 8, 2, Fq.num (a % m)), (b2, 2, Fq.num 0), (b1, 2, Fq.num a)] w5 := E5
  rw [lay_all hL]
  simp only [putAll, dstOf, List.length_cons, List.length_nil, Nat.zero_add, Nat.reduceAdd, List.getElem?_toArray, List.getElem?_cons_zero, List.getElem?_cons_succ, Option.bind_some, Act.put, List.setIfInBounds_toArray, List.set_cons_succ, List.set_cons_zero]
  rw [e6, e11, e7, e8]
  generalize nb 7 = b5_7 at E ⊢
  generalize nb 8 = b5_8 at E ⊢
  generalize vs 0 = u5_0
  generalize vs 1 = u5_1
  generalize vs 2 = u5_2
  generalize vs 3 = u5_3
  generalize vs 4 = u5_4
  generalize vs 5 = u5_5
  clear e6 e11 e7 e8 hC hn E5 hL vs L nb
  go_upto_region 2 with (fail)
  refine region_fr (C := [Fq.num (a % m), Fq.any]) (ks := [none, none, some (1, Fq.num (a % m)), none]) (new := []) E rfl (by kernel_rfl) rfl rfl (fun hp => ⟨?_, ?_, trivial⟩) ?_
  · exact q_loadInt (off := 0) hp (free_of rfl) trivial (List.mem_iff_getElem?.2 ⟨1, rfl⟩) (.inl rfl) (Nat.le_of_ble_eq_true rfl) (sq_out rfl rfl (fun _ _ => rfl)) (fun us w hl h => ld_num hl h)
  · exact q_storeOldInt hp (List.mem_iff_getElem?.2 ⟨2, rfl⟩) rfl rfl (sq_out rfl rfl (fun _ _ => rfl)) (sq_in 0 rfl rfl (by simp) rfl (fun v w h => intV_num h)) (fun _ _ => trivial) (newik_ne rfl)
  intro L vs w6 nb hL hC hn E6
  have E : Fr w [(b5_7, 2, Fq.num (a / m)), (b5_8, 2, Fq.num (a % m)), (b2, 2, Fq.num (a % m)), (b1, 2, Fq.num a)] w6 := E6
  rw [lay_all hL]
  simp only [putAll, dstOf, List.length_cons, List.length_nil, Nat.zero_add, Nat.reduceAdd, List.getElem?_toArray, List.getElem?_cons_zero, List.getElem?_cons_succ, Option.bind_some, Act.put, List.setIfInBounds_toArray, List.set_cons_succ, List.set_cons_zero]
  generalize vs 0 = u6_0
  clear  hC hn E6 hL vs L nb
  clear HM ho
  obtain ⟨p0, p1, c0, c1, hP⟩ := box_num (E.box 2 rfl)
  clear B3 B4 ha hn
  go_wp2
  refine bodyPost_ret (v := .agg #[p0, p1]) ?_ rfl ⟨_, rfl, E.below, hP⟩
  simp [results, Tryz.results57, go_sem, c0, c1]

theorem exLowQ {w : World} {v : Value} {z : Int} (h : Num w v z) {n : Int} {t : Bool} (e : lowV z = .tuple #[.int .i64 n, .bool t]) : Calls Tryz.prog 46 #[v] w fun e w' => ∃ v', e = .returned v' ∧ Below w.heap.size w w' ∧ (Fq.tup2 (Fq.is (.int .i64 n)) (Fq.is (.bool t))).P v' w' :=
  (LowV h).mono fun _ _ ⟨he, hb⟩ => ⟨_, he, hb, _, _, e, rfl, rfl⟩
theorem lowV_in {z : Int} (h0 : -9223372036854775808 ≤ z) (h1 : z ≤ 9223372036854775807) : lowV z = .tuple #[.int .i64 z, .bool true] := by unfold lowV; rw [if_pos ⟨h0, h1⟩]
theorem lowV_out {z : Int} (h : ¬ (-9223372036854775808 ≤ z ∧ z ≤ 9223372036854775807)) : lowV z = .tuple #[.int .i64 0, .bool false] := by unfold lowV; rw [if_neg h]

set_option maxRecDepth 100000 in
set_option maxHeartbeats 4000000 in
theorem exIsOneM {w : World} {v : Value} {z : Int} (h : Num w v z) :
    Calls Tryz.prog 34 #[v] w fun e w' => ∃ v', e = .returned v' ∧ Below w.heap.size w w' ∧ v' = .bool (decide (z = 1)) := by
  obtain ⟨n0, ao0, k0, c0, rfl⟩ := h.parts
  obtain ⟨w1, b1, hw1, hb1, hs1, E⟩ := fr_start w (F := Fq.num z) (us := [.bool n0, .slice ao0 k0 c0]) 29 rfl (by simp) (tame_int _ _ _ _) h
  go_enter Tryz.func34, Tryz.ntmps34
  go_upto_region 1 with (fail)
  rw [← hw1]
  rw [← hb1]
  clear hw1 hb1 hs1
  by_cases hl : -9223372036854775808 ≤ z ∧ z ≤ 9223372036854775807
  · by_cases hc : z = 1
    · have HL := hidd (lowV_in hl.1 hl.2)
      have T : Hid (z = 1) := hc
      have T2 : Hid (decide (z = 1) = true) := decide_eq_true hc
      clear hl hc
      refine region_fr (C := [Fq.num z, Fq.tup2 (Fq.is (.int .i64 z)) (Fq.is (.bool true)), Fq.tup2 (Fq.is (.int .i64 z)) (Fq.is (.bool true)), Fq.is (.int .i64 z), Fq.is (.bool true), Fq.is (.int .i64 z), Fq.is (.bool true)]) (ks := [none]) (new := []) E rfl (by kernel_rfl) rfl rfl (fun hp => ⟨?_, ?_, ?_, ?_, ?_, ?_, ?_, trivial⟩) ?_
      · exact q_loadInt (off := 0) hp (free_of rfl) trivial (List.mem_iff_getElem?.2 ⟨0, rfl⟩) (.inl rfl) (Nat.le_of_ble_eq_true rfl) (sq_out rfl rfl (fun _ _ => rfl)) (fun us w hl h => ld_num hl h)
      · exact q_call1 (F := (Fq.num z).P) hp (free_of rfl) trivial (enq_Low) (sqi 0) (fun v w h => exLowQ h HL.out)
      · exact q_move hp (free_of rfl) trivial (sqi 1)
      · exact q_extract2 hp (free_of rfl) trivial (sqi 2) (fun v1 v2 w h1 h2 => ⟨_, rfl, h1⟩)
      · exact q_extract2 hp (free_of rfl) trivial (sqi 2) (fun v1 v2 w h1 h2 => ⟨_, rfl, h2⟩)
      · exact q_assign hp (free_of rfl) trivial (sqi 3)
      · exact q_assign hp (free_of rfl) trivial (sqi 4)
      intro L vs w2 nb hL hC hn E2
      have e3 : vs 3 = .int .i64 z := hC 3 (by simp)
      have e4 : vs 4 = .bool true := hC 4 (by simp)
      have e5 : vs 5 = .int .i64 z := hC 5 (by simp)
      have e6 : vs 6 = .bool true := hC 6 (by simp)
      have E : Fr w [(b1, 2, Fq.num z)] w2 := E2
      rw [lay_all hL]
      simp only [putAll, dstOf, List.length_cons, List.length_nil, Nat.zero_add, Nat.reduceAdd, List.getElem?_toArray, List.getElem?_cons_zero, List.getElem?_cons_succ, Option.bind_some, Act.put, List.setIfInBounds_toArray, List.set_cons_succ, List.set_cons_zero]
      rw [e3, e4, e5, e6]
      generalize vs 0 = u2_0
      generalize vs 1 = u2_1
      generalize vs 2 = u2_2
      clear e3 e4 e5 e6 hC hn E2 hL vs L nb
      go_upto_region 2 with (fail)
      refine region_fr (C := [Fq.is (.bool true), Fq.is (.bool true), Fq.is (.int .i64 z), Fq.is (.bool true), Fq.is (.bool true), Fq.is (.bool true)]) (ks := [none]) (new := []) E rfl (by kernel_rfl) rfl rfl (fun hp => ⟨?_, ?_, ?_, ?_, ?_, ?_, trivial⟩) ?_
      · exact q_move hp (free_of rfl) trivial (sq_out rfl rfl (fun _ _ => rfl))
      · exact q_move hp (free_of rfl) trivial (sqi 0)
      · exact q_move hp (free_of rfl) (gq_some rfl rfl (by simp) rfl (fun v w h => h)) (sq_out rfl rfl (fun _ _ => rfl))
      · exact q_one (F := fun v _ => v = .int .i64 z) hp (free_of rfl) (gq_some rfl rfl (by simp) rfl (fun v w h => h)) (sqi 2) (fun ρ w hc h => ⟨.bool true, by simp [execOp, go_sem, h, hc, T.out], rfl⟩)
      · exact q_two (F := fun v _ => v = .bool true) (G := fun v _ => v = .bool true) hp (free_of rfl) trivial (sqi 1) (sqi 3) (fun ρ w hc h h' => ⟨_, by simp [execOp, go_sem, h, h'], rfl⟩)
      · exact q_assign hp (free_of rfl) trivial (sqi 4)
      intro L vs w3 nb hL hC hn E3
      have e0 : vs 0 = .bool true := hC 0 (by simp)
      have e1 : vs 1 = .bool true := hC 1 (by simp)
      have e2 : vs 2 = .int .i64 z := hC 2 (by simp)
      have e3 : vs 3 = .bool true := hC 3 (by simp)
      have e4 : vs 4 = .bool true := hC 4 (by simp)
      have e5 : vs 5 = .bool true := hC 5 (by simp)
      have E : Fr w [(b1, 2, Fq.num z)] w3 := E3
      rw [lay_all hL]
      simp only [putAll, dstOf, List.length_cons, List.length_nil, Nat.zero_add, Nat.reduceAdd, List.getElem?_toArray, List.getElem?_cons_zero, List.getElem?_cons_succ, Option.bind_some, Act.put, List.setIfInBounds_toArray, List.set_cons_succ, List.set_cons_zero]
      rw [e0, e1, e2, e3, e4, e5]
      clear e0 e1 e2 e3 e4 e5 hC hn E3 hL vs L nb
      clear T HL
      go_wp2
      refine bodyPost_ret (v := .bool true) ?_ rfl (by first | exact ⟨_, rfl, E.below, by rw [T2.out]⟩ | exact ⟨_, rfl, E.below⟩ | exact ⟨rfl, E.below⟩)
      simp [results, Tryz.results34, go_sem]
    · have HL := hidd (lowV_in hl.1 hl.2)
      have T : Hid (¬ z = 1) := hc
      have T2 : Hid (decide (z = 1) = false) := decide_eq_false hc
      clear hl hc
      refine region_fr (C := [Fq.num z, Fq.tup2 (Fq.is (.int .i64 z)) (Fq.is (.bool true)), Fq.tup2 (Fq.is (.int .i64 z)) (Fq.is (.bool true)), Fq.is (.int .i64 z), Fq.is (.bool true), Fq.is (.int .i64 z), Fq.is (.bool true)]) (ks := [none]) (new := []) E rfl (by kernel_rfl) rfl rfl (fun hp => ⟨?_, ?_, ?_, ?_, ?_, ?_, ?_, trivial⟩) ?_
      · exact q_loadInt (off := 0) hp (free_of rfl) trivial (List.mem_iff_getElem?.2 ⟨0, rfl⟩) (.inl rfl) (Nat.le_of_ble_eq_true rfl) (sq_out rfl rfl (fun _ _ => rfl)) (fun us w hl h => ld_num hl h)
      · exact q_call1 (F := (Fq.num z).P) hp (free_of rfl) trivial (enq_Low) (sqi 0) (fun v w h => exLowQ h HL.out)
      · exact q_move hp (free_of rfl) trivial (sqi 1)
      · exact q_extract2 hp (free_of rfl) trivial (sqi 2) (fun v1 v2 w h1 h2 => ⟨_, rfl, h1⟩)
      · exact q_extract2 hp (free_of rfl) trivial (sqi 2) (fun v1 v2 w h1 h2 => ⟨_, rfl, h2⟩)
      · exact q_assign hp (free_of rfl) trivial (sqi 3)
      · exact q_assign hp (free_of rfl) trivial (sqi 4)
      intro L vs w4 nb hL hC hn E4
      have e3 : vs 3 = .int .i64 z := hC 3 (by simp)
      have e4 : vs 4 = .bool true := hC 4 (by simp)
      have e5 : vs 5 = .int .i64 z := hC 5 (by simp)
      have e6 : vs 6 = .bool true := hC 6 (by simp)
      have E : Fr w [(b1, 2, Fq.num z)] w4 := E4
      rw [lay_all hL]
      simp only [putAll, dstOf, List.length_cons, List.length_nil, Nat.zero_add, Nat.reduceAdd, List.getElem?_toArray, List.getElem?_cons_zero, List.getElem?_cons_succ, Option.bind_some, Act.put, List.setIfInBounds_toArray, List.set_cons_succ, List.set_cons_zero]
      rw [e3, e4, e5, e6]
      generalize vs 0 = u4_0
      generalize vs 1 = u4_1
      generalize vs 2 = u4_2
      clear e3 e4 e5 e6 hC hn E4 hL vs L nb
      go_upto_region 2 with (fail)
      refine region_fr (C := [Fq.is (.bool true), Fq.is (.bool true), Fq.is (.int .i64 z), Fq.is (.bool false), Fq.is (.bool false), Fq.is (.bool false)]) (ks := [none]) (new := []) E rfl (by kernel_rfl) rfl rfl (fun hp => ⟨?_, ?_, ?_, ?_, ?_, ?_, trivial⟩) ?_
      · exact q_move hp (free_of rfl) trivial (sq_out rfl rfl (fun _ _ => rfl))
      · exact q_move hp (free_of rfl) trivial (sqi 0)
      · exact q_move hp (free_of rfl) (gq_some rfl rfl (by simp) rfl (fun v w h => h)) (sq_out rfl rfl (fun _ _ => rfl))
      · exact q_one (F := fun v _ => v = .int .i64 z) hp (free_of rfl) (gq_some rfl rfl (by simp) rfl (fun v w h => h)) (sqi 2) (fun ρ w hc h => ⟨.bool false, by simp [execOp, go_sem, h, hc, T.out], rfl⟩)
      · exact q_two (F := fun v _ => v = .bool true) (G := fun v _ => v = .bool false) hp (free_of rfl) trivial (sqi 1) (sqi 3) (fun ρ w hc h h' => ⟨_, by simp [execOp, go_sem, h, h'], rfl⟩)
      · exact q_assign hp (free_of rfl) trivial (sqi 4)
      intro L vs w5 nb hL hC hn E5
      have e0 : vs 0 = .bool true := hC 0 (by simp)
      have e1 : vs 1 = .bool true := hC 1 (by simp)
      have e2 : vs 2 = .int .i64 z := hC 2 (by simp)
      have e3 : vs 3 = .bool false := hC 3 (by simp)
      have e4 : vs 4 = .bool false := hC 4 (by simp)
      have e5 : vs 5 = .bool false := hC 5 (by simp)
      have E : Fr w [(b1, 2, Fq.num z)] w5 := E5
      rw [lay_all hL]
      simp only [putAll, dstOf, List.length_cons, List.length_nil, Nat.zero_add, Nat.reduceAdd, List.getElem?_toArray, List.getElem?_cons_zero, List.getElem?_cons_succ, Option.bind_some, Act.put, List.setIfInBounds_toArray, List.set_cons_succ, List.set_cons_zero]
      rw [e0, e1, e2, e3, e4, e5]
      clear e0 e1 e2 e3 e4 e5 hC hn E5 hL vs L nb
      clear T HL
      go_wp2
      refine bodyPost_ret (v := .bool false) ?_ rfl (by first | exact ⟨_, rfl, E.below, by rw [T2.out]⟩ | exact ⟨_, rfl, E.below⟩ | exact ⟨rfl, E.below⟩)
      simp [results, Tryz.results34, go_sem]
  · have HL := hidd (lowV_out hl)
    have T2 : Hid (decide (z = 1) = false) := decide_eq_false (by omega)
    clear hl
    refine region_fr (C := [Fq.num z, Fq.tup2 (Fq.is (.int .i64 0)) (Fq.is (.bool false)), Fq.tup2 (Fq.is (.int .i64 0)) (Fq.is (.bool false)), Fq.is (.int .i64 0), Fq.is (.bool false), Fq.is (.int .i64 0), Fq.is (.bool false)]) (ks := [none]) (new := []) E rfl (by kernel_rfl) rfl rfl (fun hp => ⟨?_, ?_, ?_, ?_, ?_, ?_, ?_, trivial⟩) ?_
    · exact q_loadInt (off := 0) hp (free_of rfl) trivial (List.mem_iff_getElem?.2 ⟨0, rfl⟩) (.inl rfl) (Nat.le_of_ble_eq_true rfl) (sq_out rfl rfl (fun _ _ => rfl)) (fun us w hl h => ld_num hl h)
    · exact q_call1 (F := (Fq.num z).P) hp (free_of rfl) trivial (enq_Low) (sqi 0) (fun v w h => exLowQ h HL.out)
    · exact q_move hp (free_of rfl) trivial (sqi 1)
    · exact q_extract2 hp (free_of rfl) trivial (sqi 2) (fun v1 v2 w h1 h2 => ⟨_, rfl, h1⟩)
    · exact q_extract2 hp (free_of rfl) trivial (sqi 2) (fun v1 v2 w h1 h2 => ⟨_, rfl, h2⟩)
    · exact q_assign hp (free_of rfl) trivial (sqi 3)
    · exact q_assign hp (free_of rfl) trivial (sqi 4)
    intro L vs w6 nb hL hC hn E6
    have e3 : vs 3 = .int .i64 0 := hC 3 (by simp)
    have e4 : vs 4 = .bool false := hC 4 (by simp)
    have e5 : vs 5 = .int .i64 0 := hC 5 (by simp)
    have e6 : vs 6 = .bool false := hC 6 (by simp)
    have E : Fr w [(b1, 2, Fq.num z)] w6 := E6
    rw [lay_all hL]
    simp only [putAll, dstOf, List.length_cons, List.length_nil, Nat.zero_add, Nat.reduceAdd, List.getElem?_toArray, List.getElem?_cons_zero, List.getElem?_cons_succ, Option.bind_some, Act.put, List.setIfInBounds_toArray, List.set_cons_succ, List.set_cons_zero]
    rw [e3, e4, e5, e6]
    generalize vs 0 = u6_0
    generalize vs 1 = u6_1
    generalize vs 2 = u6_2
    clear e3 e4 e5 e6 hC hn E6 hL vs L nb
    go_upto_region 2 with (fail)
    refine region_fr (C := [Fq.is (.bool false), Fq.is (.bool false), Fq.is (undef), Fq.is (undef), Fq.is (.bool false), Fq.is (.bool false)]) (ks := [none]) (new := []) E rfl (by kernel_rfl) rfl rfl (fun hp => ⟨?_, ?_, ?_, ?_, ?_, ?_, trivial⟩) ?_
    · exact q_move hp (free_of rfl) trivial (sq_out rfl rfl (fun _ _ => rfl))
    · exact q_move hp (free_of rfl) trivial (sqi 0)
    · exact q_skip hp (free_of rfl) rfl (gq_some rfl rfl (by simp) rfl (fun v w h => h)) (fun _ => rfl)
    · exact q_skip hp (free_of rfl) rfl (gq_some rfl rfl (by simp) rfl (fun v w h => h)) (fun _ => rfl)
    · exact q_two (F := fun v _ => v = .bool false) (G := fun v _ => v = .bool false) hp (free_of rfl) trivial (sqi 1) (sq_const (fun _ => rfl)) (fun ρ w hc h h' => ⟨_, by simp [execOp, go_sem, h, h'], rfl⟩)
    · exact q_assign hp (free_of rfl) trivial (sqi 4)
    intro L vs w7 nb hL hC hn E7
    have e0 : vs 0 = .bool false := hC 0 (by simp)
    have e1 : vs 1 = .bool false := hC 1 (by simp)
    have e2 : vs 2 = undef := hC 2 (by simp)
    have e3 : vs 3 = undef := hC 3 (by simp)
    have e4 : vs 4 = .bool false := hC 4 (by simp)
    have e5 : vs 5 = .bool false := hC 5 (by simp)
    have E : Fr w [(b1, 2, Fq.num z)] w7 := E7
    rw [lay_all hL]
    simp only [putAll, dstOf, List.length_cons, List.length_nil, Nat.zero_add, Nat.reduceAdd, List.getElem?_toArray, List.getElem?_cons_zero, List.getElem?_cons_succ, Option.bind_some, Act.put, List.setIfInBounds_toArray, List.set_cons_succ, List.set_cons_zero]
    rw [e0, e1, e2, e3, e4, e5]
    clear e0 e1 e2 e3 e4 e5 hC hn E7 hL vs L nb
    clear HL
    go_wp2
    refine bodyPost_ret (v := .bool false) ?_ rfl (by first | exact ⟨_, rfl, E.below, by rw [T2.out]⟩ | exact ⟨_, rfl, E.below⟩ | exact ⟨rfl, E.below⟩)
    simp [results, Tryz.results34, go_sem]

theorem exIsOneMB {w : World} {v : Value} {z : Int} {t : Bool} (h : Num w v z) (ht : decide (z = 1) = t) : Calls Tryz.prog 34 #[v] w fun e w' => ∃ v', e = .returned v' ∧ Below w.heap.size w w' ∧ v' = .bool t := by
  have := exIsOneM h
  rw [ht] at this
  exact this

theorem cmpI_le0 {x : Int} : cmpI x 0 ≤ 0 ↔ x ≤ 0 := by
  constructor
  · intro h
    rcases Int.lt_or_le 0 x with h2 | h2
    · have := cmpIqgt.2 h2; omega
    · exact h2
  · intro h
    rcases Int.lt_or_le 0 (cmpI x 0) with h2 | h2
    · have := cmpIqgt.1 h2; omega
    · exact h2

set_option maxRecDepth 100000 in
set_option maxHeartbeats 4000000 in
theorem exModZ {w : World} {v v' : Value} {a m : Int} (h : Num w v a) (h' : Num w v' m) (ha : ab a < pw 300) (hm : ab m < pw 300) (h0 : m ≤ 0) :
    Calls Tryz.prog 6 #[v, v'] w fun e w' => ∃ v', e = .returned v' ∧ Below w.heap.size w w' ∧ (Fq.tup2 (Fq.num 0) (Fq.is (.int .i64 1))).P v' w' := by
  replace ha := hidd ha
  replace hm := hidd hm
  obtain ⟨n0, ao0, k0, c0, rfl⟩ := h.parts
  obtain ⟨n1, ao1, k1, c1, rfl⟩ := h'.parts
  obtain ⟨w1, b1, hw1, hb1, hs1, E⟩ := fr_start w (F := Fq.num a) (us := [.bool n0, .slice ao0 k0 c0]) 29 rfl (by simp) (tame_int _ _ _ _) h
  obtain ⟨w2, b2, hw2, hb2, hs2, E⟩ := fr_more E hs1 (F := Fq.num m) (us := [.bool n1, .slice ao1 k1 c1]) 29 rfl (by simp) (tame_int _ _ _ _) (h'.mono E.below)
  obtain ⟨w3, b3, hw3, hb3, hs3, E⟩ := fr_more E hs2 (F := Fq.num 0) (us := [.bool false, .slice none 0 0]) 29 rfl (by simp) (tame_int _ _ _ _) (Num.zero _)
  go_enter Tryz.func6, Tryz.ntmps6
  go_upto_region 1 with (fail)
  rw [← hw1]
  rw [← hw2]
  rw [← hw3]
  rw [← hb3]
  rw [← hb2]
  rw [← hb1]
  clear hw1 hw2 hw3 hb1 hb2 hb3 hs3 hs1 hs2
  have T1 : Hid (cmpI m 0 ≤ 0) := cmpI_le0.2 h0
  clear h0
  refine region_fr (C := [Fq.num m, Fq.is (.int .i64 (cmpI m 0)), Fq.is (.bool true)]) (ks := [none, none, none]) (new := []) E rfl (by kernel_rfl) rfl rfl (fun hp => ⟨?_, ?_, ?_, trivial⟩) ?_
  · exact q_loadInt (off := 0) hp (free_of rfl) trivial (List.mem_iff_getElem?.2 ⟨1, rfl⟩) (.inl rfl) (Nat.le_of_ble_eq_true rfl) (sq_out rfl rfl (fun _ _ => rfl)) (fun us w hl h => ld_num hl h)
  · exact q_call1 (F := (Fq.num m).P) hp (free_of rfl) trivial (enq_Sign) (sqi 0) (fun v w h => exSign h)
  · exact q_one (F := fun v _ => v = .int .i64 (cmpI m 0)) hp (free_of rfl) trivial (sqi 1) (fun ρ w hc h => ⟨.bool true, by simp [execOp, go_sem, h, hc, T1.out], rfl⟩)
  intro L vs w4 nb hL hC hn E4
  have e1 : vs 1 = .int .i64 (cmpI m 0) := hC 1 (by simp)
  have e2 : vs 2 = .bool true := hC 2 (by simp)
  have E : Fr w [(b3, 2, Fq.num 0), (b2, 2, Fq.num m), (b1, 2, Fq.num a)] w4 := E4
  rw [lay_all hL]
  simp only [putAll, dstOf, List.length_cons, List.length_nil, Nat.zero_add, Nat.reduceAdd, List.getElem?_toArray, List.getElem?_cons_zero, List.getElem?_cons_succ, Option.bind_some, Act.put, List.setIfInBounds_toArray, List.set_cons_succ, List.set_cons_zero]
  rw [e1, e2]
  generalize vs 0 = u4_0
  clear e1 e2 hC hn E4 hL vs L nb
  clear T1
  go_upto_region 2 with (fail)
  refine region_fr (C := [Fq.num 0, Fq.any, Fq.is (.int .i64 1)]) (ks := [some (1, Fq.num 0), none, none]) (new := []) E rfl (by kernel_rfl) rfl rfl (fun hp => ⟨?_, ?_, ?_, trivial⟩) ?_
  · exact q_zeroInt hp (free_of rfl) trivial (fun w => Num.zero w)
  · exact q_storeOldInt hp (List.mem_iff_getElem?.2 ⟨0, rfl⟩) rfl rfl (sq_out rfl rfl (fun _ _ => rfl)) (sq_in 0 rfl rfl (by simp) rfl (fun v w h => intV_num h)) (fun _ _ => trivial) (newik_ne rfl)
  · exact q_assign hp (free_of rfl) trivial (sq_const (fun _ => rfl))
  intro L vs w5 nb hL hC hn E5
  have e2 : vs 2 = .int .i64 1 := hC 2 (by simp)
  have E : Fr w [(b3, 2, Fq.num 0), (b2, 2, Fq.num m), (b1, 2, Fq.num a)] w5 := E5
  rw [lay_all hL]
  simp only [putAll, dstOf, List.length_cons, List.length_nil, Nat.zero_add, Nat.reduceAdd, List.getElem?_toArray, List.getElem?_cons_zero, List.getElem?_cons_succ, Option.bind_some, Act.put, List.setIfInBounds_toArray, List.set_cons_succ, List.set_cons_zero]
  rw [e2]
  generalize vs 0 = u5_0
  clear e2 hC hn E5 hL vs L nb
  obtain ⟨p0, p1, c0, c1, hP⟩ := box_num (E.box 0 rfl)
  clear ha hm
  go_wp2
  refine bodyPost_ret (v := .tuple #[.agg #[p0, p1], .int .i64 1]) ?_ rfl ⟨_, rfl, E.below, ⟨_, _, rfl, hP, rfl⟩⟩
  simp [results, Tryz.results6, go_sem, c0, c1]

set_option maxRecDepth 100000 in
set_option maxHeartbeats 4000000 in
theorem exModP {w : World} {v v' : Value} {a m : Int} (h : Num w v a) (h' : Num w v' m) (ha : ab a < pw 300) (hm : ab m < pw 300) (h0 : 0 < m) :
    Calls Tryz.prog 6 #[v, v'] w fun e w' => ∃ v', e = .returned v' ∧ Below w.heap.size w w' ∧ (Fq.tup2 (Fq.num (a % m)) (Fq.is (.int .i64 0))).P v' w' := by
  replace ha := hidd ha
  replace hm := hidd hm
  obtain ⟨n0, ao0, k0, c0, rfl⟩ := h.parts
  obtain ⟨n1, ao1, k1, c1, rfl⟩ := h'.parts
  obtain ⟨w1, b1, hw1, hb1, hs1, E⟩ := fr_start w (F := Fq.num a) (us := [.bool n0, .slice ao0 k0 c0]) 29 rfl (by simp) (tame_int _ _ _ _) h
  obtain ⟨w2, b2, hw2, hb2, hs2, E⟩ := fr_more E hs1 (F := Fq.num m) (us := [.bool n1, .slice ao1 k1 c1]) 29 rfl (by simp) (tame_int _ _ _ _) (h'.mono E.below)
  obtain ⟨w3, b3, hw3, hb3, hs3, E⟩ := fr_more E hs2 (F := Fq.num 0) (us := [.bool false, .slice none 0 0]) 29 rfl (by simp) (tame_int _ _ _ _) (Num.zero _)
  go_enter Tryz.func6, Tryz.ntmps6
  go_upto_region 1 with (fail)
  rw [← hw1]
  rw [← hw2]
  rw [← hw3]
  rw [← hb3]
  rw [← hb2]
  rw [← hb1]
  clear hw1 hw2 hw3 hb1 hb2 hb3 hs3 hs1 hs2
  have T1 : Hid (¬ cmpI m 0 ≤ 0) := fun e => by have := cmpI_le0.1 e; omega
  have HM : Hid (m ≠ 0) := by show _ ≠ _; omega
  clear h0
  refine region_fr (C := [Fq.num m, Fq.is (.int .i64 (cmpI m 0)), Fq.is (.bool false)]) (ks := [none, none, none]) (new := []) E rfl (by kernel_rfl) rfl rfl (fun hp => ⟨?_, ?_, ?_, trivial⟩) ?_
  · exact q_loadInt (off := 0) hp (free_of rfl) trivial (List.mem_iff_getElem?.2 ⟨1, rfl⟩) (.inl rfl) (Nat.le_of_ble_eq_true rfl) (sq_out rfl rfl (fun _ _ => rfl)) (fun us w hl h => ld_num hl h)
  · exact q_call1 (F := (Fq.num m).P) hp (free_of rfl) trivial (enq_Sign) (sqi 0) (fun v w h => exSign h)
  · exact q_one (F := fun v _ => v = .int .i64 (cmpI m 0)) hp (free_of rfl) trivial (sqi 1) (fun ρ w hc h => ⟨.bool false, by simp [execOp, go_sem, h, hc, T1.out], rfl⟩)
  intro L vs w4 nb hL hC hn E4
  have e1 : vs 1 = .int .i64 (cmpI m 0) := hC 1 (by simp)
  have e2 : vs 2 = .bool false := hC 2 (by simp)
  have E : Fr w [(b3, 2, Fq.num 0), (b2, 2, Fq.num m), (b1, 2, Fq.num a)] w4 := E4
  rw [lay_all hL]
  simp only [putAll, dstOf, List.length_cons, List.length_nil, Nat.zero_add, Nat.reduceAdd, List.getElem?_toArray, List.getElem?_cons_zero, List.getElem?_cons_succ, Option.bind_some, Act.put, List.setIfInBounds_toArray, List.set_cons_succ, List.set_cons_zero]
  rw [e1, e2]
  generalize vs 0 = u4_0
  clear e1 e2 hC hn E4 hL vs L nb
  clear T1
  go_upto_region 3 with (fail)
  have B5 : Hid (ab ((a % m)) < pw 300) := ab_modB HM.out hm.out
  refine region_fr (C := [Fq.num m, Fq.any, Fq.num a, Fq.num (a % m), Fq.any, Fq.is (.int .i64 0)]) (ks := [some (4, Fq.num (a % m)), none, none]) (new := [⟨1, 1, 2, Fq.num m, Fq.num m, (some (.clo 57))⟩]) E rfl (by kernel_rfl) rfl rfl (fun hp => ⟨?_, ?_, ?_, ?_, ?_, ?_, trivial⟩) ?_
  · exact q_loadInt (off := 0) hp (free_of rfl) trivial (List.mem_iff_getElem?.2 ⟨1, rfl⟩) (.inl rfl) (Nat.le_of_ble_eq_true rfl) (sq_out rfl rfl (fun _ _ => rfl)) (fun us w hl h => ld_num hl h)
  · exact q_callMake (F := (Fq.num m).P) hp enq_M_within (List.mem_iff_getElem?.2 ⟨0, rfl⟩) rfl rfl rfl (sqi 0) (fun v w h => exWithin h) (fun _ _ => trivial) (old_ne rfl) (newks_ne rfl)
  · exact q_loadInt (off := 0) hp (free_of rfl) trivial (List.mem_iff_getElem?.2 ⟨2, rfl⟩) (.inl rfl) (Nat.le_of_ble_eq_true rfl) (sq_out rfl rfl (fun _ _ => rfl)) (fun us w hl h => ld_num hl h)
  · exact q_callCloIn (F := (Fq.num a).P) hp (free_of rfl) trivial enq_M_within1 (List.mem_iff_getElem?.2 ⟨0, rfl⟩) rfl (own_ptr rfl rfl (by simp) rfl) (sqi 2) (fun v b w h hb => exResidue h hb HM.out (Int.lt_of_lt_of_le ha.out (pw_le (by omega))) (Int.lt_of_lt_of_le hm.out (pw_le (by omega))))
  · exact q_storeOldInt hp (List.mem_iff_getElem?.2 ⟨0, rfl⟩) rfl rfl (sq_out rfl rfl (fun _ _ => rfl)) (sq_in 3 rfl rfl (by simp) rfl (fun v w h => intV_num h)) (fun _ _ => trivial) (newik_ne rfl)
  · exact q_assign hp (free_of rfl) trivial (sq_const (fun _ => rfl))
  intro L vs w6 nb hL hC hn E6
  have e5 : vs 5 = .int .i64 0 := hC 5 (by simp)
  have e1 : vs 1 = cloV 57 (nb 1) := hn _ (List.mem_iff_getElem?.2 ⟨0, rfl⟩)
  have E : Fr w [(nb 1, 2, Fq.num m), (b3, 2, Fq.num (a % m)), (b2, 2, Fq.num m), (b1, 2, Fq.num a)] w6 := E6
  rw [lay_all hL]
  simp only [putAll, dstOf, List.length_cons, List.length_nil, Nat.zero_add, Nat.reduceAdd, List.getElem?_toArray, List.getElem?_cons_zero, List.getElem?_cons_succ, Option.bind_some, Act.put, List.setIfInBounds_toArray, List.set_cons_succ, List.set_cons_zero]
  rw [e5, e1]
  generalize nb 1 = b6_1 at E ⊢
  generalize vs 0 = u6_0
  generalize vs 2 = u6_2
  generalize vs 3 = u6_3
  clear e5 e1 hC hn E6 hL vs L nb
  clear HM
  obtain ⟨p0, p1, c0, c1, hP⟩ := box_num (E.box 1 rfl)
  clear B5 ha hm
  go_wp2
  refine bodyPost_ret (v := .tuple #[.agg #[p0, p1], .int .i64 0]) ?_ rfl ⟨_, rfl, E.below, ⟨_, _, rfl, hP, rfl⟩⟩
  simp [results, Tryz.results6, go_sem, c0, c1]

set_option maxRecDepth 100000 in
set_option maxHeartbeats 4000000 in
theorem exInvZ {w : World} {v v' : Value} {a m : Int} (h : Num w v a) (h' : Num w v' m) (ha : ab a < pw 300) (hm : ab m < pw 300) (h0 : m ≤ 0) :
    Calls Tryz.prog 32 #[v, v'] w fun e w' => ∃ v', e = .returned v' ∧ Below w.heap.size w w' ∧ (Fq.tup2 (Fq.num 0) (Fq.is (.int .i64 1))).P v' w' := by
  replace ha := hidd ha
  replace hm := hidd hm
  obtain ⟨n0, ao0, k0, c0, rfl⟩ := h.parts
  obtain ⟨n1, ao1, k1, c1, rfl⟩ := h'.parts
  obtain ⟨w1, b1, hw1, hb1, hs1, E⟩ := fr_start w (F := Fq.num a) (us := [.bool n0, .slice ao0 k0 c0]) 29 rfl (by simp) (tame_int _ _ _ _) h
  obtain ⟨w2, b2, hw2, hb2, hs2, E⟩ := fr_more E hs1 (F := Fq.num m) (us := [.bool n1, .slice ao1 k1 c1]) 29 rfl (by simp) (tame_int _ _ _ _) (h'.mono E.below)
  obtain ⟨w3, b3, hw3, hb3, hs3, E⟩ := fr_more E hs2 (F := Fq.num 0) (us := [.bool false, .slice none 0 0]) 29 rfl (by simp) (tame_int _ _ _ _) (Num.zero _)
  go_enter Tryz.func32, Tryz.ntmps32
  go_upto_region 1 with (fail)
  rw [← hw1]
  rw [← hw2]
  rw [← hw3]
  rw [← hb3]
  rw [← hb2]
  rw [← hb1]
  clear hw1 hw2 hw3 hb1 hb2 hb3 hs3 hs1 hs2
  have T1 : Hid (cmpI m 0 ≤ 0) := cmpI_le0.2 h0
  clear h0
  refine region_fr (C := [Fq.num m, Fq.is (.int .i64 (cmpI m 0)), Fq.is (.bool true)]) (ks := [none, none, none]) (new := []) E rfl (by kernel_rfl) rfl rfl (fun hp => ⟨?_, ?_, ?_, trivial⟩) ?_
  · exact q_loadInt (off := 0) hp (free_of rfl) trivial (List.mem_iff_getElem?.2 ⟨1, rfl⟩) (.inl rfl) (Nat.le_of_ble_eq_true rfl) (sq_out rfl rfl (fun _ _ => rfl)) (fun us w hl h => ld_num hl h)
  · exact q_call1 (F := (Fq.num m).P) hp (free_of rfl) trivial (enq_Sign) (sqi 0) (fun v w h => exSign h)
  · exact q_one (F := fun v _ => v = .int .i64 (cmpI m 0)) hp (free_of rfl) trivial (sqi 1) (fun ρ w hc h => ⟨.bool true, by simp [execOp, go_sem, h, hc, T1.out], rfl⟩)
  intro L vs w4 nb hL hC hn E4
  have e1 : vs 1 = .int .i64 (cmpI m 0) := hC 1 (by simp)
  have e2 : vs 2 = .bool true := hC 2 (by simp)
  have E : Fr w [(b3, 2, Fq.num 0), (b2, 2, Fq.num m), (b1, 2, Fq.num a)] w4 := E4
  rw [lay_all hL]
  simp only [putAll, dstOf, List.length_cons, List.length_nil, Nat.zero_add, Nat.reduceAdd, List.getElem?_toArray, List.getElem?_cons_zero, List.getElem?_cons_succ, Option.bind_some, Act.put, List.setIfInBounds_toArray, List.set_cons_succ, List.set_cons_zero]
  rw [e1, e2]
  generalize vs 0 = u4_0
  clear e1 e2 hC hn E4 hL vs L nb
  clear T1
  go_upto_region 2 with (fail)
  refine region_fr (C := [Fq.num 0, Fq.any, Fq.is (.int .i64 1)]) (ks := [some (1, Fq.num 0), none, none]) (new := []) E rfl (by kernel_rfl) rfl rfl (fun hp => ⟨?_, ?_, ?_, trivial⟩) ?_
  · exact q_zeroInt hp (free_of rfl) trivial (fun w => Num.zero w)
  · exact q_storeOldInt hp (List.mem_iff_getElem?.2 ⟨0, rfl⟩) rfl rfl (sq_out rfl rfl (fun _ _ => rfl)) (sq_in 0 rfl rfl (by simp) rfl (fun v w h => intV_num h)) (fun _ _ => trivial) (newik_ne rfl)
  · exact q_assign hp (free_of rfl) trivial (sq_const (fun _ => rfl))
  intro L vs w5 nb hL hC hn E5
  have e2 : vs 2 = .int .i64 1 := hC 2 (by simp)
  have E : Fr w [(b3, 2, Fq.num 0), (b2, 2, Fq.num m), (b1, 2, Fq.num a)] w5 := E5
  rw [lay_all hL]
  simp only [putAll, dstOf, List.length_cons, List.length_nil, Nat.zero_add, Nat.reduceAdd, List.getElem?_toArray, List.getElem?_cons_zero, List.getElem?_cons_succ, Option.bind_some, Act.put, List.setIfInBounds_toArray, List.set_cons_succ, List.set_cons_zero]
  rw [e2]
  generalize vs 0 = u5_0
  clear e2 hC hn E5 hL vs L nb
  obtain ⟨p0, p1, c0, c1, hP⟩ := box_num (E.box 0 rfl)
  clear ha hm
  go_wp2
  refine bodyPost_ret (v := .tuple #[.agg #[p0, p1], .int .i64 1]) ?_ rfl ⟨_, rfl, E.below, ⟨_, _, rfl, hP, rfl⟩⟩
  simp [results, Tryz.results32, go_sem, c0, c1]

theorem exBezout {w : World} {v v' : Value} {a m : Int} (h : Num w v a) (h' : Num w v' m) (ha : ab a < pw 300) (hn : ab m < pw 300) (hm : 0 < m) :
    Calls Tryz.prog 49 #[v, v'] w fun e w' => ∃ v', e = .returned v' ∧ Below w.heap.size w w' ∧ (Fq.tup3 (Fq.num (Int.gcd a m : Int)) (Fq.num (bezU a m)) (Fq.num (bezV a m))).P v' w' := by
  refine (BezoutV h h' ha hn (by omega)).mono fun e w' hh => ?_
  obtain ⟨hb, v1, v2, v3, g, u, x, rfl, h1, h2, h3, rfl, ⟨h4, _⟩ | ⟨_, h5, h6, h7⟩⟩ := hh
  · omega
  · rw [ab_of (by omega)] at h6
    obtain ⟨rfl, rfl⟩ := bez_uniq hm h5 h6 h7
    exact ⟨_, rfl, hb, _, _, _, rfl, h1, h2, h3⟩
theorem bezU_ab {a m : Int} {k : Nat} (hm : 0 < m) (h : ab m < pw k) : ab (bezU a m) < pw k := by
  have h1 := (bez_spec (a := a) hm).1
  have h2 := bez_lt (a := a) hm
  unfold ab at *
  omega

set_option maxRecDepth 100000 in
set_option maxHeartbeats 4000000 in
theorem exInvP {w : World} {v v' : Value} {a m : Int} (h : Num w v a) (h' : Num w v' m) (ha : ab a < pw 300) (hm : ab m < pw 300) (h0 : 0 < m) (hg : Int.gcd a m = 1) :
    Calls Tryz.prog 32 #[v, v'] w fun e w' => ∃ v', e = .returned v' ∧ Below w.heap.size w w' ∧ (Fq.tup2 (Fq.num (bezU a m)) (Fq.is (.int .i64 0))).P v' w' := by
  replace ha := hidd ha
  replace hm := hidd hm
  obtain ⟨n0, ao0, k0, c0, rfl⟩ := h.parts
  obtain ⟨n1, ao1, k1, c1, rfl⟩ := h'.parts
  obtain ⟨w1, b1, hw1, hb1, hs1, E⟩ := fr_start w (F := Fq.num a) (us := [.bool n0, .slice ao0 k0 c0]) 29 rfl (by simp) (tame_int _ _ _ _) h
  obtain ⟨w2, b2, hw2, hb2, hs2, E⟩ := fr_more E hs1 (F := Fq.num m) (us := [.bool n1, .slice ao1 k1 c1]) 29 rfl (by simp) (tame_int _ _ _ _) (h'.mono E.below)
  obtain ⟨w3, b3, hw3, hb3, hs3, E⟩ := fr_more E hs2 (F := Fq.num 0) (us := [.bool false, .slice none 0 0]) 29 rfl (by simp) (tame_int _ _ _ _) (Num.zero _)
  go_enter Tryz.func32, Tryz.ntmps32
  go_upto_region 1 with (fail)
  rw [← hw1]
  rw [← hw2]
  rw [← hw3]
  rw [← hb3]
  rw [← hb2]
  rw [← hb1]
  clear hw1 hw2 hw3 hb1 hb2 hb3 hs3 hs1 hs2
  have T1 : Hid (¬ cmpI m 0 ≤ 0) := fun e => by have := cmpI_le0.1 e; omega
  have HP := hidd h0
  have T2 : Hid (decide ((Int.gcd a m : Int) = 1) = true) := decide_eq_true (by omega)
  clear h0 hg
  refine region_fr (C := [Fq.num m, Fq.is (.int .i64 (cmpI m 0)), Fq.is (.bool false)]) (ks := [none, none, none]) (new := []) E rfl (by kernel_rfl) rfl rfl (fun hp => ⟨?_, ?_, ?_, trivial⟩) ?_
  · exact q_loadInt (off := 0) hp (free_of rfl) trivial (List.mem_iff_getElem?.2 ⟨1, rfl⟩) (.inl rfl) (Nat.le_of_ble_eq_true rfl) (sq_out rfl rfl (fun _ _ => rfl)) (fun us w hl h => ld_num hl h)
  · exact q_call1 (F := (Fq.num m).P) hp (free_of rfl) trivial (enq_Sign) (sqi 0) (fun v w h => exSign h)
  · exact q_one (F := fun v _ => v = .int .i64 (cmpI m 0)) hp (free_of rfl) trivial (sqi 1) (fun ρ w hc h => ⟨.bool false, by simp [execOp, go_sem, h, hc, T1.out], rfl⟩)
  intro L vs w4 nb hL hC hn E4
  have e1 : vs 1 = .int .i64 (cmpI m 0) := hC 1 (by simp)
  have e2 : vs 2 = .bool false := hC 2 (by simp)
  have E : Fr w [(b3, 2, Fq.num 0), (b2, 2, Fq.num m), (b1, 2, Fq.num a)] w4 := E4
  rw [lay_all hL]
  simp only [putAll, dstOf, List.length_cons, List.length_nil, Nat.zero_add, Nat.reduceAdd, List.getElem?_toArray, List.getElem?_cons_zero, List.getElem?_cons_succ, Option.bind_some, Act.put, List.setIfInBounds_toArray, List.set_cons_succ, List.set_cons_zero]
  rw [e1, e2]
  generalize vs 0 = u4_0
  clear e1 e2 hC hn E4 hL vs L nb
  clear T1
  go_upto_region 3 with (fail)
  have B5 : Hid (ab ((Int.gcd a m : Int)) < pw 300) := ab_gcdB ha.out hm.out (by omega) (by omega)
  have B6 : Hid (ab (bezU a m) < pw 300) := bezU_ab HP.out hm.out
  refine region_fr (C := [Fq.num a, Fq.num m, Fq.tup3 (Fq.num (Int.gcd a m : Int)) (Fq.num (bezU a m)) (Fq.num (bezV a m)), Fq.tup3 (Fq.num (Int.gcd a m : Int)) (Fq.num (bezU a m)) (Fq.num (bezV a m)), Fq.num (Int.gcd a m : Int), Fq.num (bezU a m), Fq.num (bezV a m), Fq.any, Fq.any, Fq.any, Fq.any, Fq.any, Fq.any]) (ks := [none, none, none]) (new := [⟨7, 10, 2, Fq.num 0, Fq.num (Int.gcd a m : Int), none⟩, ⟨8, 11, 2, Fq.num 0, Fq.num (bezU a m), none⟩, ⟨9, 12, 2, Fq.num 0, Fq.num (bezV a m), none⟩]) E rfl (by kernel_rfl) rfl rfl (fun hp => ⟨?_, ?_, ?_, ?_, ?_, ?_, ?_, ?_, ?_, ?_, ?_, ?_, ?_, trivial⟩) ?_
  · exact q_loadInt (off := 0) hp (free_of rfl) trivial (List.mem_iff_getElem?.2 ⟨2, rfl⟩) (.inl rfl) (Nat.le_of_ble_eq_true rfl) (sq_out rfl rfl (fun _ _ => rfl)) (fun us w hl h => ld_num hl h)
  · exact q_loadInt (off := 0) hp (free_of rfl) trivial (List.mem_iff_getElem?.2 ⟨1, rfl⟩) (.inl rfl) (Nat.le_of_ble_eq_true rfl) (sq_out rfl rfl (fun _ _ => rfl)) (fun us w hl h => ld_num hl h)
  · exact q_call2 (F := (Fq.num a).P) (G := (Fq.num m).P) hp (free_of rfl) trivial (enq_Bezout) (sqi 0) (sqi 1) (fun v v' w h h' => exBezout h h' (Int.lt_of_lt_of_le ha.out (pw_le (by omega))) (Int.lt_of_lt_of_le hm.out (pw_le (by omega))) HP.out)
  · exact q_move hp (free_of rfl) trivial (sqi 2)
  · exact q_extract3 hp (free_of rfl) trivial (sqi 3) (fun v1 v2 v3 w h1 h2 h3 => ⟨_, rfl, h1⟩)
  · exact q_extract3 hp (free_of rfl) trivial (sqi 3) (fun v1 v2 v3 w h1 h2 h3 => ⟨_, rfl, h2⟩)
  · exact q_extract3 hp (free_of rfl) trivial (sqi 3) (fun v1 v2 v3 w h1 h2 h3 => ⟨_, rfl, h3⟩)
  · exact q_allocInt hp (List.mem_iff_getElem?.2 ⟨0, rfl⟩) rfl rfl rfl rfl (Nat.ne_of_beq_eq_false rfl) (fun _ _ => trivial) (old_ne rfl) (newk_ne rfl) (fun w => Num.zero w)
  · exact q_allocInt hp (List.mem_iff_getElem?.2 ⟨1, rfl⟩) rfl rfl rfl rfl (Nat.ne_of_beq_eq_false rfl) (fun _ _ => trivial) (old_ne rfl) (newk_ne rfl) (fun w => Num.zero w)
  · exact q_allocInt hp (List.mem_iff_getElem?.2 ⟨2, rfl⟩) rfl rfl rfl rfl (Nat.ne_of_beq_eq_false rfl) (fun _ _ => trivial) (old_ne rfl) (newk_ne rfl) (fun w => Num.zero w)
  · exact q_storeNewInt hp (List.mem_iff_getElem?.2 ⟨0, rfl⟩) rfl rfl rfl (own_ptr rfl rfl (by simp) rfl) (sq_in 4 rfl rfl (by simp) rfl (fun v w h => intV_num h)) (fun _ _ => trivial) (old_ne rfl) (newi_ne rfl)
  · exact q_storeNewInt hp (List.mem_iff_getElem?.2 ⟨1, rfl⟩) rfl rfl rfl (own_ptr rfl rfl (by simp) rfl) (sq_in 5 rfl rfl (by simp) rfl (fun v w h => intV_num h)) (fun _ _ => trivial) (old_ne rfl) (newi_ne rfl)
  · exact q_storeNewInt hp (List.mem_iff_getElem?.2 ⟨2, rfl⟩) rfl rfl rfl (own_ptr rfl rfl (by simp) rfl) (sq_in 6 rfl rfl (by simp) rfl (fun v w h => intV_num h)) (fun _ _ => trivial) (old_ne rfl) (newi_ne rfl)
  intro L vs w7 nb hL hC hn E7
  have e7 : vs 7 = .pointer (some ⟨nb 7, 0, none⟩) := hn _ (List.mem_iff_getElem?.2 ⟨0, rfl⟩)
  have e8 : vs 8 = .pointer (some ⟨nb 8, 0, none⟩) := hn _ (List.mem_iff_getElem?.2 ⟨1, rfl⟩)
  have e9 : vs 9 = .pointer (some ⟨nb 9, 0, none⟩) := hn _ (List.mem_iff_getElem?.2 ⟨2, rfl⟩)
  have E : Fr w [(nb 7, 2, Fq.num (Int.gcd a m : Int)), (nb 8, 2, Fq.num (bezU a m)), (nb 9, 2, Fq.num (bezV a m)), (b3, 2, Fq.num 0), (b2, 2, Fq.num m), (b1, 2, Fq.num a)] w7 := E7
  rw [lay_all hL]
  simp only [putAll, dstOf, List.length_cons, List.length_nil, Nat.zero_add, Nat.reduceAdd, List.getElem?_toArray, List.getElem?_cons_zero, List.getElem?_cons_succ, Option.bind_some, Act.put, List.setIfInBounds_toArray, List.set_cons_succ, List.set_cons_zero]
  rw [e7, e8, e9]
  generalize nb 7 = b7_7 at E ⊢
  generalize nb 8 = b7_8 at E ⊢
  generalize nb 9 = b7_9 at E ⊢
  generalize vs 0 = u7_0
  generalize vs 1 = u7_1
  generalize vs 2 = u7_2
  generalize vs 3 = u7_3
  generalize vs 4 = u7_4
  generalize vs 5 = u7_5
  generalize vs 6 = u7_6
  clear e7 e8 e9 hC hn E7 hL vs L nb
  go_upto_region 4 with (fail)
  refine region_fr (C := [Fq.num (Int.gcd a m : Int), Fq.is (.bool true), Fq.is (.bool false)]) (ks := [none, none, none, none, none, none]) (new := []) E rfl (by kernel_rfl) rfl rfl (fun hp => ⟨?_, ?_, ?_, trivial⟩) ?_
  · exact q_loadInt (off := 0) hp (free_of rfl) trivial (List.mem_iff_getElem?.2 ⟨0, rfl⟩) (.inl rfl) (Nat.le_of_ble_eq_true rfl) (sq_out rfl rfl (fun _ _ => rfl)) (fun us w hl h => ld_num hl h)
  · exact q_call1 (F := (Fq.num (Int.gcd a m : Int)).P) hp (free_of rfl) trivial (enq_M_isOne) (sqi 0) (fun v w h => exIsOneMB h T2.out)
  · exact q_one (F := fun v _ => v = .bool true) hp (free_of rfl) trivial (sqi 1) (fun ρ w _ h => ⟨.bool false, by simp [execOp, go_sem, h], rfl⟩)
  intro L vs w8 nb hL hC hn E8
  have e1 : vs 1 = .bool true := hC 1 (by simp)
  have e2 : vs 2 = .bool false := hC 2 (by simp)
  have E : Fr w [(b7_7, 2, Fq.num (Int.gcd a m : Int)), (b7_8, 2, Fq.num (bezU a m)), (b7_9, 2, Fq.num (bezV a m)), (b3, 2, Fq.num 0), (b2, 2, Fq.num m), (b1, 2, Fq.num a)] w8 := E8
  rw [lay_all hL]
  simp only [putAll, dstOf, List.length_cons, List.length_nil, Nat.zero_add, Nat.reduceAdd, List.getElem?_toArray, List.getElem?_cons_zero, List.getElem?_cons_succ, Option.bind_some, Act.put, List.setIfInBounds_toArray, List.set_cons_succ, List.set_cons_zero]
  rw [e1, e2]
  generalize vs 0 = u8_0
  clear e1 e2 hC hn E8 hL vs L nb
  clear T2
  go_upto_region 6 with (fail)
  refine region_fr (C := [Fq.num (bezU a m), Fq.any, Fq.is (.int .i64 0)]) (ks := [none, none, none, some (1, Fq.num (bezU a m)), none, none]) (new := []) E rfl (by kernel_rfl) rfl rfl (fun hp => ⟨?_, ?_, ?_, trivial⟩) ?_
  · exact q_loadInt (off := 0) hp (free_of rfl) trivial (List.mem_iff_getElem?.2 ⟨1, rfl⟩) (.inl rfl) (Nat.le_of_ble_eq_true rfl) (sq_out rfl rfl (fun _ _ => rfl)) (fun us w hl h => ld_num hl h)
  · exact q_storeOldInt hp (List.mem_iff_getElem?.2 ⟨3, rfl⟩) rfl rfl (sq_out rfl rfl (fun _ _ => rfl)) (sq_in 0 rfl rfl (by simp) rfl (fun v w h => intV_num h)) (fun _ _ => trivial) (newik_ne rfl)
  · exact q_assign hp (free_of rfl) trivial (sq_const (fun _ => rfl))
  intro L vs w9 nb hL hC hn E9
  have e2 : vs 2 = .int .i64 0 := hC 2 (by simp)
  have E : Fr w [(b7_7, 2, Fq.num (Int.gcd a m : Int)), (b7_8, 2, Fq.num (bezU a m)), (b7_9, 2, Fq.num (bezV a m)), (b3, 2, Fq.num (bezU a m)), (b2, 2, Fq.num m), (b1, 2, Fq.num a)] w9 := E9
  rw [lay_all hL]
  simp only [putAll, dstOf, List.length_cons, List.length_nil, Nat.zero_add, Nat.reduceAdd, List.getElem?_toArray, List.getElem?_cons_zero, List.getElem?_cons_succ, Option.bind_some, Act.put, List.setIfInBounds_toArray, List.set_cons_succ, List.set_cons_zero]
  rw [e2]
  generalize vs 0 = u9_0
  clear e2 hC hn E9 hL vs L nb
  clear HP
  obtain ⟨p0, p1, c0, c1, hP⟩ := box_num (E.box 3 rfl)
  clear B5 B6 ha hm
  go_wp2
  refine bodyPost_ret (v := .tuple #[.agg #[p0, p1], .int .i64 0]) ?_ rfl ⟨_, rfl, E.below, ⟨_, _, rfl, hP, rfl⟩⟩
  simp [results, Tryz.results32, go_sem, c0, c1]

set_option maxRecDepth 100000 in
set_option maxHeartbeats 4000000 in
theorem exInvN {w : World} {v v' : Value} {a m : Int} (h : Num w v a) (h' : Num w v' m) (ha : ab a < pw 300) (hm : ab m < pw 300) (h0 : 0 < m) (hg : Int.gcd a m ≠ 1) :
    Calls Tryz.prog 32 #[v, v'] w fun e w' => ∃ v', e = .returned v' ∧ Below w.heap.size w w' ∧ (Fq.tup2 (Fq.num 0) (Fq.is (.int .i64 4))).P v' w' := by
  replace ha := hidd ha
  replace hm := hidd hm
  obtain ⟨n0, ao0, k0, c0, rfl⟩ := h.parts
  obtain ⟨n1, ao1, k1, c1, rfl⟩ := h'.parts
  obtain ⟨w1, b1, hw1, hb1, hs1, E⟩ := fr_start w (F := Fq.num a) (us := [.bool n0, .slice ao0 k0 c0]) 29 rfl (by simp) (tame_int _ _ _ _) h
  obtain ⟨w2, b2, hw2, hb2, hs2, E⟩ := fr_more E hs1 (F := Fq.num m) (us := [.bool n1, .slice ao1 k1 c1]) 29 rfl (by simp) (tame_int _ _ _ _) (h'.mono E.below)
  obtain ⟨w3, b3, hw3, hb3, hs3, E⟩ := fr_more E hs2 (F := Fq.num 0) (us := [.bool false, .slice none 0 0]) 29 rfl (by simp) (tame_int _ _ _ _) (Num.zero _)
  go_enter Tryz.func32, Tryz.ntmps32
  go_upto_region 1 with (fail)
  rw [← hw1]
  rw [← hw2]
  rw [← hw3]
  rw [← hb3]
  rw [← hb2]
  rw [← hb1]
  clear hw1 hw2 hw3 hb1 hb2 hb3 hs3 hs1 hs2
  have T1 : Hid (¬ cmpI m 0 ≤ 0) := fun e => by have := cmpI_le0.1 e; omega
  have HP := hidd h0
  have T2 : Hid (decide ((Int.gcd a m : Int) = 1) = false) := decide_eq_false (by omega)
  clear h0 hg
  refine region_fr (C := [Fq.num m, Fq.is (.int .i64 (cmpI m 0)), Fq.is (.bool false)]) (ks := [none, none, none]) (new := []) E rfl (by kernel_rfl) rfl rfl (fun hp => ⟨?_, ?_, ?_, trivial⟩) ?_
  · exact q_loadInt (off := 0) hp (free_of rfl) trivial (List.mem_iff_getElem?.2 ⟨1, rfl⟩) (.inl rfl) (Nat.le_of_ble_eq_true rfl) (sq_out rfl rfl (fun _ _ => rfl)) (fun us w hl h => ld_num hl h)
  · exact q_call1 (F := (Fq.num m).P) hp (free_of rfl) trivial (enq_Sign) (sqi 0) (fun v w h => exSign h)
  · exact q_one (F := fun v _ => v = .int .i64 (cmpI m 0)) hp (free_of rfl) trivial (sqi 1) (fun ρ w hc h => ⟨.bool false, by simp [execOp, go_sem, h, hc, T1.out], rfl⟩)
  intro L vs w4 nb hL hC hn E4
  have e1 : vs 1 = .int .i64 (cmpI m 0) := hC 1 (by simp)
  have e2 : vs 2 = .bool false := hC 2 (by simp)
  have E : Fr w [(b3, 2, Fq.num 0), (b2, 2, Fq.num m), (b1, 2, Fq.num a)] w4 := E4
  rw [lay_all hL]
  simp only [putAll, dstOf, List.length_cons, List.length_nil, Nat.zero_add, Nat.reduceAdd, List.getElem?_toArray, List.getElem?_cons_zero, List.getElem?_cons_succ, Option.bind_some, Act.put, List.setIfInBounds_toArray, List.set_cons_succ, List.set_cons_zero]
  rw [e1, e2]
  generalize vs 0 = u4_0
  clear e1 e2 hC hn E4 hL vs L nb
  clear T1
  go_upto_region 3 with (fail)
  have B5 : Hid (ab ((Int.gcd a m : Int)) < pw 300) := ab_gcdB ha.out hm.out (by omega) (by omega)
  have B6 : Hid (ab (bezU a m) < pw 300) := bezU_ab HP.out hm.out
  refine region_fr (C := [Fq.num a, Fq.num m, Fq.tup3 (Fq.num (Int.gcd a m : Int)) (Fq.num (bezU a m)) (Fq.num (bezV a m)), Fq.tup3 (Fq.num (Int.gcd a m : Int)) (Fq.num (bezU a m)) (Fq.num (bezV a m)), Fq.num (Int.gcd a m : Int), Fq.num (bezU a m), Fq.num (bezV a m), Fq.any, Fq.any, Fq.any, Fq.any, Fq.any, Fq.any]) (ks := [none, none, none]) (new := [⟨7, 10, 2, Fq.num 0, Fq.num (Int.gcd a m : Int), none⟩, ⟨8, 11, 2, Fq.num 0, Fq.num (bezU a m), none⟩, ⟨9, 12, 2, Fq.num 0, Fq.num (bezV a m), none⟩]) E rfl (by kernel_rfl) rfl rfl (fun hp => ⟨?_, ?_, ?_, ?_, ?_, ?_, ?_, ?_, ?_, ?_, ?_, ?_, ?_, trivial⟩) ?_
  · exact q_loadInt (off := 0) hp (free_of rfl) trivial (List.mem_iff_getElem?.2 ⟨2, rfl⟩) (.inl rfl) (Nat.le_of_ble_eq_true rfl) (sq_out rfl rfl (fun _ _ => rfl)) (fun us w hl h => ld_num hl h)
  · exact q_loadInt (off := 0) hp (free_of rfl) trivial (List.mem_iff_getElem?.2 ⟨1, rfl⟩) (.inl rfl) (Nat.le_of_ble_eq_true rfl) (sq_out rfl rfl (fun _ _ => rfl)) (fun us w hl h => ld_num hl h)
  · exact q_call2 (F := (Fq.num a).P) (G := (Fq.num m).P) hp (free_of rfl) trivial (enq_Bezout) (sqi 0) (sqi 1) (fun v v' w h h' => exBezout h h' (Int.lt_of_lt_of_le ha.out (pw_le (by omega))) (Int.lt_of_lt_of_le hm.out (pw_le (by omega))) HP.out)
  · exact q_move hp (free_of rfl) trivial (sqi 2)
  · exact q_extract3 hp (free_of rfl) trivial (sqi 3) (fun v1 v2 v3 w h1 h2 h3 => ⟨_, rfl, h1⟩)
  · exact q_extract3 hp (free_of rfl) trivial (sqi 3) (fun v1 v2 v3 w h1 h2 h3 => ⟨_, rfl, h2⟩)
  · exact q_extract3 hp (free_of rfl) trivial (sqi 3) (fun v1 v2 v3 w h1 h2 h3 => ⟨_, rfl, h3⟩)
  · exact q_allocInt hp (List.mem_iff_getElem?.2 ⟨0, rfl⟩) rfl rfl rfl rfl (Nat.ne_of_beq_eq_false rfl) (fun _ _ => trivial) (old_ne rfl) (newk_ne rfl) (fun w => Num.zero w)
  · exact q_allocInt hp (List.mem_iff_getElem?.2 ⟨1, rfl⟩) rfl rfl rfl rfl (Nat.ne_of_beq_eq_false rfl) (fun _ _ => trivial) (old_ne rfl) (newk_ne rfl) (fun w => Num.zero w)
  · exact q_allocInt hp (List.mem_iff_getElem?.2 ⟨2, rfl⟩) rfl rfl rfl rfl (Nat.ne_of_beq_eq_false rfl) (fun _ _ => trivial) (old_ne rfl) (newk_ne rfl) (fun w => Num.zero w)
  · exact q_storeNewInt hp (List.mem_iff_getElem?.2 ⟨0, rfl⟩) rfl rfl rfl (own_ptr rfl rfl (by simp) rfl) (sq_in 4 rfl rfl (by simp) rfl (fun v w h => intV_num h)) (fun _ _ => trivial) (old_ne rfl) (newi_ne rfl)
  · exact q_storeNewInt hp (List.mem_iff_getElem?.2 ⟨1, rfl⟩) rfl rfl rfl (own_ptr rfl rfl (by simp) rfl) (sq_in 5 rfl rfl (by simp) rfl (fun v w h => intV_num h)) (fun _ _ => trivial) (old_ne rfl) (newi_ne rfl)
  · exact q_storeNewInt hp (List.mem_iff_getElem?.2 ⟨2, rfl⟩) rfl rfl rfl (own_ptr rfl rfl (by simp) rfl) (sq_in 6 rfl rfl (by simp) rfl (fun v w h => intV_num h)) (fun _ _ => trivial) (old_ne rfl) (newi_ne rfl)
  intro L vs w7 nb hL hC hn E7
  have e7 : vs 7 = .pointer (some ⟨nb 7, 0, none⟩) := hn _ (List.mem_iff_getElem?.2 ⟨0, rfl⟩)
  have e8 : vs 8 = .pointer (some ⟨nb 8, 0, none⟩) := hn _ (List.mem_iff_getElem?.2 ⟨1, rfl⟩)
  have e9 : vs 9 = .pointer (some ⟨nb 9, 0, none⟩) := hn _ (List.mem_iff_getElem?.2 ⟨2, rfl⟩)
  have E : Fr w [(nb 7, 2, Fq.num (Int.gcd a m : Int)), (nb 8, 2, Fq.num (bezU a m)), (nb 9, 2, Fq.num (bezV a m)), (b3, 2, Fq.num 0), (b2, 2, Fq.num m), (b1, 2, Fq.num a)] w7 := E7
  rw [lay_all hL]
  simp only [putAll, dstOf, List.length_cons, List.length_nil, Nat.zero_add, Nat.reduceAdd, List.getElem?_toArray, List.getElem?_cons_zero, List.getElem?_cons_succ, Option.bind_some, Act.put, List.setIfInBounds_toArray, List.set_cons_succ, List.set_cons_zero]
  rw [e7, e8, e9]
  generalize nb 7 = b7_7 at E ⊢
  generalize nb 8 = b7_8 at E ⊢
  generalize nb 9 = b7_9 at E ⊢
  generalize vs 0 = u7_0
  generalize vs 1 = u7_1
  generalize vs 2 = u7_2
  generalize vs 3 = u7_3
  generalize vs 4 = u7_4
  generalize vs 5 = u7_5
  generalize vs 6 = u7_6
  clear e7 e8 e9 hC hn E7 hL vs L nb
  go_upto_region 4 with (fail)
  refine region_fr (C := [Fq.num (Int.gcd a m : Int), Fq.is (.bool false), Fq.is (.bool true)]) (ks := [none, none, none, none, none, none]) (new := []) E rfl (by kernel_rfl) rfl rfl (fun hp => ⟨?_, ?_, ?_, trivial⟩) ?_
  · exact q_loadInt (off := 0) hp (free_of rfl) trivial (List.mem_iff_getElem?.2 ⟨0, rfl⟩) (.inl rfl) (Nat.le_of_ble_eq_true rfl) (sq_out rfl rfl (fun _ _ => rfl)) (fun us w hl h => ld_num hl h)
  · exact q_call1 (F := (Fq.num (Int.gcd a m : Int)).P) hp (free_of rfl) trivial (enq_M_isOne) (sqi 0) (fun v w h => exIsOneMB h T2.out)
  · exact q_one (F := fun v _ => v = .bool false) hp (free_of rfl) trivial (sqi 1) (fun ρ w _ h => ⟨.bool true, by simp [execOp, go_sem, h], rfl⟩)
  intro L vs w8 nb hL hC hn E8
  have e1 : vs 1 = .bool false := hC 1 (by simp)
  have e2 : vs 2 = .bool true := hC 2 (by simp)
  have E : Fr w [(b7_7, 2, Fq.num (Int.gcd a m : Int)), (b7_8, 2, Fq.num (bezU a m)), (b7_9, 2, Fq.num (bezV a m)), (b3, 2, Fq.num 0), (b2, 2, Fq.num m), (b1, 2, Fq.num a)] w8 := E8
  rw [lay_all hL]
  simp only [putAll, dstOf, List.length_cons, List.length_nil, Nat.zero_add, Nat.reduceAdd, List.getElem?_toArray, List.getElem?_cons_zero, List.getElem?_cons_succ, Option.bind_some, Act.put, List.setIfInBounds_toArray, List.set_cons_succ, List.set_cons_zero]
  rw [e1, e2]
  generalize vs 0 = u8_0
  clear e1 e2 hC hn E8 hL vs L nb
  clear T2
  go_upto_region 5 with (fail)
  refine region_fr (C := [Fq.num 0, Fq.any, Fq.is (.int .i64 4)]) (ks := [none, none, none, some (1, Fq.num 0), none, none]) (new := []) E rfl (by kernel_rfl) rfl rfl (fun hp => ⟨?_, ?_, ?_, trivial⟩) ?_
  · exact q_zeroInt hp (free_of rfl) trivial (fun w => Num.zero w)
  · exact q_storeOldInt hp (List.mem_iff_getElem?.2 ⟨3, rfl⟩) rfl rfl (sq_out rfl rfl (fun _ _ => rfl)) (sq_in 0 rfl rfl (by simp) rfl (fun v w h => intV_num h)) (fun _ _ => trivial) (newik_ne rfl)
  · exact q_assign hp (free_of rfl) trivial (sq_const (fun _ => rfl))
  intro L vs w9 nb hL hC hn E9
  have e2 : vs 2 = .int .i64 4 := hC 2 (by simp)
  have E : Fr w [(b7_7, 2, Fq.num (Int.gcd a m : Int)), (b7_8, 2, Fq.num (bezU a m)), (b7_9, 2, Fq.num (bezV a m)), (b3, 2, Fq.num 0), (b2, 2, Fq.num m), (b1, 2, Fq.num a)] w9 := E9
  rw [lay_all hL]
  simp only [putAll, dstOf, List.length_cons, List.length_nil, Nat.zero_add, Nat.reduceAdd, List.getElem?_toArray, List.getElem?_cons_zero, List.getElem?_cons_succ, Option.bind_some, Act.put, List.setIfInBounds_toArray, List.set_cons_succ, List.set_cons_zero]
  rw [e2]
  generalize vs 0 = u9_0
  clear e2 hC hn E9 hL vs L nb
  clear HP
  obtain ⟨p0, p1, c0, c1, hP⟩ := box_num (E.box 3 rfl)
  clear B5 B6 ha hm
  go_wp2
  refine bodyPost_ret (v := .tuple #[.agg #[p0, p1], .int .i64 4]) ?_ rfl ⟨_, rfl, E.below, ⟨_, _, rfl, hP, rfl⟩⟩
  simp [results, Tryz.results32, go_sem, c0, c1]

set_option maxRecDepth 100000 in
set_option maxHeartbeats 4000000 in
theorem exCrtP {w : World} {v v' u u' : Value} {r1 m1 r2 m2 : Int} (h : Num w v r1) (h' : Num w v' m1) (g : Num w u r2) (g' : Num w u' m2) (ha : ab r1 < pw 100) (hb : ab m1 < pw 100) (hc : ab r2 < pw 100) (hd : ab m2 < pw 100) (h1 : 0 < m1) (h2 : 0 < m2) (hz : (r2 - r1) % (Int.gcd m1 m2 : Int) = 0) :
    Calls Tryz.prog 18 #[v, v', u, u'] w fun e w' => ∃ v', e = .returned v' ∧ Below w.heap.size w w' ∧ (Fq.tup3 (Fq.num (crtR r1 m1 r2 m2)) (Fq.num (m1 * (m2 / (Int.gcd m1 m2 : Int)))) (Fq.is (.int .i64 0))).P v' w' := by
  replace ha := hidd ha
  replace hb := hidd hb
  replace hc := hidd hc
  replace hd := hidd hd
  obtain ⟨n0, ao0, k0, c0, rfl⟩ := h.parts
  obtain ⟨n1, ao1, k1, c1, rfl⟩ := h'.parts
  obtain ⟨n2, ao2, k2, c2, rfl⟩ := g.parts
  obtain ⟨n3, ao3, k3, c3, rfl⟩ := g'.parts
  obtain ⟨w1, b1, hw1, hb1, hs1, E⟩ := fr_start w (F := Fq.num r1) (us := [.bool n0, .slice ao0 k0 c0]) 29 rfl (by simp) (tame_int _ _ _ _) h
  obtain ⟨w2, b2, hw2, hb2, hs2, E⟩ := fr_more E hs1 (F := Fq.num m1) (us := [.bool n1, .slice ao1 k1 c1]) 29 rfl (by simp) (tame_int _ _ _ _) (h'.mono E.below)
  obtain ⟨w3, b3, hw3, hb3, hs3, E⟩ := fr_more E hs2 (F := Fq.num r2) (us := [.bool n2, .slice ao2 k2 c2]) 29 rfl (by simp) (tame_int _ _ _ _) (g.mono E.below)
  obtain ⟨w4, b4, hw4, hb4, hs4, E⟩ := fr_more E hs3 (F := Fq.num m2) (us := [.bool n3, .slice ao3 k3 c3]) 29 rfl (by simp) (tame_int _ _ _ _) (g'.mono E.below)
  obtain ⟨w5, b5, hw5, hb5, hs5, E⟩ := fr_more E hs4 (F := Fq.num 0) (us := [.bool false, .slice none 0 0]) 29 rfl (by simp) (tame_int _ _ _ _) (Num.zero _)
  obtain ⟨w6, b6, hw6, hb6, hs6, E⟩ := fr_more E hs5 (F := Fq.num 0) (us := [.bool false, .slice none 0 0]) 29 rfl (by simp) (tame_int _ _ _ _) (Num.zero _)
  go_enter Tryz.func18, Tryz.ntmps18
  go_upto_region 1 with (fail)
  rw [← hw1]
  rw [← hw2]
  rw [← hw3]
  rw [← hw4]
  rw [← hw5]
  rw [← hw6]
  rw [← hb6]
  rw [← hb5]
  rw [← hb4]
  rw [← hb3]
  rw [← hb2]
  rw [← hb1]
  clear hw1 hw2 hw3 hw4 hw5 hw6 hb1 hb2 hb3 hb4 hb5 hb6 hs6 hs1 hs2 hs3 hs4 hs5
  have T1 : Hid (¬ cmpI m1 0 ≤ 0) := fun e => by have := cmpI_le0.1 e; omega
  have T2 : Hid (¬ cmpI m2 0 ≤ 0) := fun e => by have := cmpI_le0.1 e; omega
  have HP := hidd h2
  have HG : Hid ((Int.gcd m1 m2 : Int) ≠ 0) := by have := gcd_pos_r (a := m1) (show m2 ≠ 0 by omega); show _ ≠ _; omega
  have T3 : Hid (cmpI ((r2 - r1) % (Int.gcd m1 m2 : Int)) 0 = 0) := cmpIq0.2 hz
  have HQ : Hid (m2 / (Int.gcd m1 m2 : Int) ≠ 0) := by have := (crt_part (m1 := m1) h2).1; show _ ≠ _; omega
  have HR : Hid (m1 * (m2 / (Int.gcd m1 m2 : Int)) ≠ 0) := Int.mul_ne_zero (by omega) HQ.out
  clear h1 h2 hz
  refine region_fr (C := [Fq.num m1, Fq.is (.int .i64 (cmpI m1 0)), Fq.is (.bool false), Fq.is (.bool false), Fq.num m2, Fq.is (.int .i64 (cmpI m2 0)), Fq.is (.bool false), Fq.is (.bool false)]) (ks := [none, none, none, none, none, none]) (new := []) E rfl (by kernel_rfl) rfl rfl (fun hp => ⟨?_, ?_, ?_, ?_, ?_, ?_, ?_, ?_, trivial⟩) ?_
  · exact q_loadInt (off := 0) hp (free_of rfl) trivial (List.mem_iff_getElem?.2 ⟨4, rfl⟩) (.inl rfl) (Nat.le_of_ble_eq_true rfl) (sq_out rfl rfl (fun _ _ => rfl)) (fun us w hl h => ld_num hl h)
  · exact q_call1 (F := (Fq.num m1).P) hp (free_of rfl) trivial (enq_Sign) (sqi 0) (fun v w h => exSign h)
  · exact q_one (F := fun v _ => v = .int .i64 (cmpI m1 0)) hp (free_of rfl) trivial (sqi 1) (fun ρ w hc h => ⟨.bool false, by simp [execOp, go_sem, h, hc, T1.out], rfl⟩)
  · exact q_move hp (free_of rfl) trivial (sqi 2)
  · exact q_loadInt (off := 0) hp (free_of rfl) (gq_some rfl rfl (by simp) rfl (fun v w h => h)) (List.mem_iff_getElem?.2 ⟨2, rfl⟩) (.inl rfl) (Nat.le_of_ble_eq_true rfl) (sq_out rfl rfl (fun _ _ => rfl)) (fun us w hl h => ld_num hl h)
  · exact q_call1 (F := (Fq.num m2).P) hp (free_of rfl) (gq_some rfl rfl (by simp) rfl (fun v w h => h)) (enq_Sign) (sqi 4) (fun v w h => exSign h)
  · exact q_one (F := fun v _ => v = .int .i64 (cmpI m2 0)) hp (free_of rfl) (gq_some rfl rfl (by simp) rfl (fun v w h => h)) (sqi 5) (fun ρ w hc h => ⟨.bool false, by simp [execOp, go_sem, h, hc, T2.out], rfl⟩)
  · exact q_two (F := fun v _ => v = .bool false) (G := fun v _ => v = .bool false) hp (free_of rfl) trivial (sqi 3) (sqi 6) (fun ρ w hc h h' => ⟨_, by simp [execOp, go_sem, h, h'], rfl⟩)
  intro L vs w7 nb hL hC hn E7
  have e1 : vs 1 = .int .i64 (cmpI m1 0) := hC 1 (by simp)
  have e2 : vs 2 = .bool false := hC 2 (by simp)
  have e3 : vs 3 = .bool false := hC 3 (by simp)
  have e5 : vs 5 = .int .i64 (cmpI m2 0) := hC 5 (by simp)
  have e6 : vs 6 = .bool false := hC 6 (by simp)
  have e7 : vs 7 = .bool false := hC 7 (by simp)
  have E : Fr w [(b6, 2, Fq.num 0), (b5, 2, Fq.num 0), (b4, 2, Fq.num m2), (b3, 2, Fq.num r2), (b2, 2, Fq.num m1), (b1, 2, Fq.num r1)] w7 := E7
  rw [lay_all hL]
  simp only [putAll, dstOf, List.length_cons, List.length_nil, Nat.zero_add, Nat.reduceAdd, List.getElem?_toArray, List.getElem?_cons_zero, List.getElem?_cons_succ, Option.bind_some, Act.put, List.setIfInBounds_toArray, List.set_cons_succ, List.set_cons_zero]
  rw [e1, e2, e3, e5, e6, e7]
  generalize vs 0 = u7_0
  generalize vs 4 = u7_4
  clear e1 e2 e3 e5 e6 e7 hC hn E7 hL vs L nb
  clear T1 T2
  go_upto_region 3 with (fail)
  have B8 : Hid (ab ((Int.gcd m1 m2 : Int)) < pw 100) := ab_gcdB hb.out hd.out (by omega) (by omega)
  have B9 : Hid (ab (bezU m1 m2) < pw 100) := bezU_ab HP.out hd.out
  refine region_fr (C := [Fq.num m1, Fq.num m2, Fq.tup3 (Fq.num (Int.gcd m1 m2 : Int)) (Fq.num (bezU m1 m2)) (Fq.num (bezV m1 m2)), Fq.tup3 (Fq.num (Int.gcd m1 m2 : Int)) (Fq.num (bezU m1 m2)) (Fq.num (bezV m1 m2)), Fq.num (Int.gcd m1 m2 : Int), Fq.num (bezU m1 m2), Fq.num (bezV m1 m2), Fq.any, Fq.any, Fq.any, Fq.any, Fq.any, Fq.any]) (ks := [none, none, none, none, none, none]) (new := [⟨7, 10, 2, Fq.num 0, Fq.num (Int.gcd m1 m2 : Int), none⟩, ⟨8, 11, 2, Fq.num 0, Fq.num (bezU m1 m2), none⟩, ⟨9, 12, 2, Fq.num 0, Fq.num (bezV m1 m2), none⟩]) E rfl (by kernel_rfl) rfl rfl (fun hp => ⟨?_, ?_, ?_, ?_, ?_, ?_, ?_, ?_, ?_, ?_, ?_, ?_, ?_, trivial⟩) ?_
  · exact q_loadInt (off := 0) hp (free_of rfl) trivial (List.mem_iff_getElem?.2 ⟨4, rfl⟩) (.inl rfl) (Nat.le_of_ble_eq_true rfl) (sq_out rfl rfl (fun _ _ => rfl)) (fun us w hl h => ld_num hl h)
  · exact q_loadInt (off := 0) hp (free_of rfl) trivial (List.mem_iff_getElem?.2 ⟨2, rfl⟩) (.inl rfl) (Nat.le_of_ble_eq_true rfl) (sq_out rfl rfl (fun _ _ => rfl)) (fun us w hl h => ld_num hl h)
  · exact q_call2 (F := (Fq.num m1).P) (G := (Fq.num m2).P) hp (free_of rfl) trivial (enq_Bezout) (sqi 0) (sqi 1) (fun v v' w h h' => exBezout h h' (Int.lt_of_lt_of_le hb.out (pw_le (by omega))) (Int.lt_of_lt_of_le hd.out (pw_le (by omega))) HP.out)
  · exact q_move hp (free_of rfl) trivial (sqi 2)
  · exact q_extract3 hp (free_of rfl) trivial (sqi 3) (fun v1 v2 v3 w h1 h2 h3 => ⟨_, rfl, h1⟩)
  · exact q_extract3 hp (free_of rfl) trivial (sqi 3) (fun v1 v2 v3 w h1 h2 h3 => ⟨_, rfl, h2⟩)
  · exact q_extract3 hp (free_of rfl) trivial (sqi 3) (fun v1 v2 v3 w h1 h2 h3 => ⟨_, rfl, h3⟩)
  · exact q_allocInt hp (List.mem_iff_getElem?.2 ⟨0, rfl⟩) rfl rfl rfl rfl (Nat.ne_of_beq_eq_false rfl) (fun _ _ => trivial) (old_ne rfl) (newk_ne rfl) (fun w => Num.zero w)
  · exact q_allocInt hp (List.mem_iff_getElem?.2 ⟨1, rfl⟩) rfl rfl rfl rfl (Nat.ne_of_beq_eq_false rfl) (fun _ _ => trivial) (old_ne rfl) (newk_ne rfl) (fun w => Num.zero w)
  · exact q_allocInt hp (List.mem_iff_getElem?.2 ⟨2, rfl⟩) rfl rfl rfl rfl (Nat.ne_of_beq_eq_false rfl) (fun _ _ => trivial) (old_ne rfl) (newk_ne rfl) (fun w => Num.zero w)
  · exact q_storeNewInt hp (List.mem_iff_getElem?.2 ⟨0, rfl⟩) rfl rfl rfl (own_ptr rfl rfl (by simp) rfl) (sq_in 4 rfl rfl (by simp) rfl (fun v w h => intV_num h)) (fun _ _ => trivial) (old_ne rfl) (newi_ne rfl)
  · exact q_storeNewInt hp (List.mem_iff_getElem?.2 ⟨1, rfl⟩) rfl rfl rfl (own_ptr rfl rfl (by simp) rfl) (sq_in 5 rfl rfl (by simp) rfl (fun v w h => intV_num h)) (fun _ _ => trivial) (old_ne rfl) (newi_ne rfl)
  · exact q_storeNewInt hp (List.mem_iff_getElem?.2 ⟨2, rfl⟩) rfl rfl rfl (own_ptr rfl rfl (by simp) rfl) (sq_in 6 rfl rfl (by simp) rfl (fun v w h => intV_num h)) (fun _ _ => trivial) (old_ne rfl) (newi_ne rfl)
  intro L vs w10 nb hL hC hn E10
  have e7 : vs 7 = .pointer (some ⟨nb 7, 0, none⟩) := hn _ (List.mem_iff_getElem?.2 ⟨0, rfl⟩)
  have e8 : vs 8 = .pointer (some ⟨nb 8, 0, none⟩) := hn _ (List.mem_iff_getElem?.2 ⟨1, rfl⟩)
  have e9 : vs 9 = .pointer (some ⟨nb 9, 0, none⟩) := hn _ (List.mem_iff_getElem?.2 ⟨2, rfl⟩)
  have E : Fr w [(nb 7, 2, Fq.num (Int.gcd m1 m2 : Int)), (nb 8, 2, Fq.num (bezU m1 m2)), (nb 9, 2, Fq.num (bezV m1 m2)), (b6, 2, Fq.num 0), (b5, 2, Fq.num 0), (b4, 2, Fq.num m2), (b3, 2, Fq.num r2), (b2, 2, Fq.num m1), (b1, 2, Fq.num r1)] w10 := E10
  rw [lay_all hL]
  simp only [putAll, dstOf, List.length_cons, List.length_nil, Nat.zero_add, Nat.reduceAdd, List.getElem?_toArray, List.getElem?_cons_zero, List.getElem?_cons_succ, Option.bind_some, Act.put, List.setIfInBounds_toArray, List.set_cons_succ, List.set_cons_zero]
  rw [e7, e8, e9]
  generalize nb 7 = b10_7 at E ⊢
  generalize nb 8 = b10_8 at E ⊢
  generalize nb 9 = b10_9 at E ⊢
  generalize vs 0 = u10_0
  generalize vs 1 = u10_1
  generalize vs 2 = u10_2
  generalize vs 3 = u10_3
  generalize vs 4 = u10_4
  generalize vs 5 = u10_5
  generalize vs 6 = u10_6
  clear e7 e8 e9 hC hn E10 hL vs L nb
  go_upto_region 4 with (fail)
  have B11 : Hid (ab ((r2 - r1)) < pw 101) := ab_subB hc.out ha.out (by omega) (by omega)
  have B12 : Hid (ab (((r2 - r1) / (Int.gcd m1 m2 : Int))) < pw 102) := ab_divB B11.out (by omega)
  have B13 : Hid (ab (((r2 - r1) % (Int.gcd m1 m2 : Int))) < pw 100) := ab_modB HG.out B8.out
  refine region_fr (C := [Fq.num r2, Fq.num r1, Fq.num (r2 - r1), Fq.num (Int.gcd m1 m2 : Int), Fq.tup3 (Fq.num ((r2 - r1) / (Int.gcd m1 m2 : Int))) (Fq.num ((r2 - r1) % (Int.gcd m1 m2 : Int))) (Fq.is (.int .i64 0)), Fq.tup3 (Fq.num ((r2 - r1) / (Int.gcd m1 m2 : Int))) (Fq.num ((r2 - r1) % (Int.gcd m1 m2 : Int))) (Fq.is (.int .i64 0)), Fq.num ((r2 - r1) / (Int.gcd m1 m2 : Int)), Fq.num ((r2 - r1) % (Int.gcd m1 m2 : Int)), Fq.is (.int .i64 0), Fq.any, Fq.any, Fq.any, Fq.any, Fq.is (.int .i64 0)]) (ks := [none, none, none, none, none, none, none, none, none]) (new := [⟨9, 11, 2, Fq.num 0, Fq.num ((r2 - r1) / (Int.gcd m1 m2 : Int)), none⟩, ⟨10, 12, 2, Fq.num 0, Fq.num ((r2 - r1) % (Int.gcd m1 m2 : Int)), none⟩]) E rfl (by kernel_rfl) rfl rfl (fun hp => ⟨?_, ?_, ?_, ?_, ?_, ?_, ?_, ?_, ?_, ?_, ?_, ?_, ?_, ?_, trivial⟩) ?_
  · exact q_loadInt (off := 0) hp (free_of rfl) trivial (List.mem_iff_getElem?.2 ⟨6, rfl⟩) (.inl rfl) (Nat.le_of_ble_eq_true rfl) (sq_out rfl rfl (fun _ _ => rfl)) (fun us w hl h => ld_num hl h)
  · exact q_loadInt (off := 0) hp (free_of rfl) trivial (List.mem_iff_getElem?.2 ⟨8, rfl⟩) (.inl rfl) (Nat.le_of_ble_eq_true rfl) (sq_out rfl rfl (fun _ _ => rfl)) (fun us w hl h => ld_num hl h)
  · exact q_call2 (F := (Fq.num r2).P) (G := (Fq.num r1).P) hp (free_of rfl) trivial (enq_Sub) (sqi 0) (sqi 1) (fun v v' w h h' => exK (SubV h h') B11.out (by omega))
  · exact q_loadInt (off := 0) hp (free_of rfl) trivial (List.mem_iff_getElem?.2 ⟨0, rfl⟩) (.inl rfl) (Nat.le_of_ble_eq_true rfl) (sq_out rfl rfl (fun _ _ => rfl)) (fun us w hl h => ld_num hl h)
  · exact q_call2 (F := (Fq.num (r2 - r1)).P) (G := (Fq.num (Int.gcd m1 m2 : Int)).P) hp (free_of rfl) trivial (enq_DivMod) (sqi 2) (sqi 3) (fun v v' w h h' => exDMq h h' HG.out B12.out B13.out (by omega) (by omega))
  · exact q_move hp (free_of rfl) trivial (sqi 4)
  · exact q_extract3 hp (free_of rfl) trivial (sqi 5) (fun v1 v2 v3 w h1 h2 h3 => ⟨_, rfl, h1⟩)
  · exact q_extract3 hp (free_of rfl) trivial (sqi 5) (fun v1 v2 v3 w h1 h2 h3 => ⟨_, rfl, h2⟩)
  · exact q_extract3 hp (free_of rfl) trivial (sqi 5) (fun v1 v2 v3 w h1 h2 h3 => ⟨_, rfl, h3⟩)
  · exact q_allocInt hp (List.mem_iff_getElem?.2 ⟨0, rfl⟩) rfl rfl rfl rfl (Nat.ne_of_beq_eq_false rfl) (fun _ _ => trivial) (old_ne rfl) (newk_ne rfl) (fun w => Num.zero w)
  · exact q_allocInt hp (List.mem_iff_getElem?.2 ⟨1, rfl⟩) rfl rfl rfl rfl (Nat.ne_of_beq_eq_false rfl) (fun _ _ => trivial) (old_ne rfl) (newk_ne rfl) (fun w => Num.zero w)
  · exact q_storeNewInt hp (List.mem_iff_getElem?.2 ⟨0, rfl⟩) rfl rfl rfl (own_ptr rfl rfl (by simp) rfl) (sq_in 6 rfl rfl (by simp) rfl (fun v w h => intV_num h)) (fun _ _ => trivial) (old_ne rfl) (newi_ne rfl)
  · exact q_storeNewInt hp (List.mem_iff_getElem?.2 ⟨1, rfl⟩) rfl rfl rfl (own_ptr rfl rfl (by simp) rfl) (sq_in 7 rfl rfl (by simp) rfl (fun v w h => intV_num h)) (fun _ _ => trivial) (old_ne rfl) (newi_ne rfl)
  · exact q_assign hp (free_of rfl) trivial (sqi 8)
  intro L vs w14 nb hL hC hn E14
  have e8 : vs 8 = .int .i64 0 := hC 8 (by simp)
  have e13 : vs 13 = .int .i64 0 := hC 13 (by simp)
  have e9 : vs 9 = .pointer (some ⟨nb 9, 0, none⟩) := hn _ (List.mem_iff_getElem?.2 ⟨0, rfl⟩)
  have e10 : vs 10 = .pointer (some ⟨nb 10, 0, none⟩) := hn _ (List.mem_iff_getElem?.2 ⟨1, rfl⟩)
  have E : Fr w [(nb 9, 2, Fq.num ((r2 - r1) / (Int.gcd m1 m2 : Int))), (nb 10, 2, Fq.num ((r2 - r1) % (Int.gcd m1 m2 : Int))), (b10_7, 2, Fq.num (Int.gcd m1 m2 : Int)), (b10_8, 2, Fq.num (bezU m1 m2)), (b10_9, 2, Fq.num (bezV m1 m2)), (b6, 2, Fq.num 0), (b5, 2, Fq.num 0), (b4, 2, Fq.num m2), (b3, 2, Fq.num r2), (b2, 2, Fq.num m1), (b1, 2, Fq.num r1)] w14 := E14
  rw [lay_all hL]
  simp only [putAll, dstOf, List.length_cons, List.length_nil, Nat.zero_add, Nat.reduceAdd, List.getElem?_toArray, List.getElem?_cons_zero, List.getElem?_cons_succ, Option.bind_some, Act.put, List.setIfInBounds_toArray, List.set_cons_succ, List.set_cons_zero]
  rw [e8, e13, e9, e10]
  generalize nb 9 = b14_9 at E ⊢
  generalize nb 10 = b14_10 at E ⊢
  generalize vs 0 = u14_0
  generalize vs 1 = u14_1
  generalize vs 2 = u14_2
  generalize vs 3 = u14_3
  generalize vs 4 = u14_4
  generalize vs 5 = u14_5
  generalize vs 6 = u14_6
  generalize vs 7 = u14_7
  clear e8 e13 e9 e10 hC hn E14 hL vs L nb
  go_upto_region 5 with (fail)
  refine region_fr (C := [Fq.num ((r2 - r1) % (Int.gcd m1 m2 : Int)), Fq.is (.int .i64 (cmpI ((r2 - r1) % (Int.gcd m1 m2 : Int)) 0)), Fq.is (.bool false)]) (ks := [none, none, none, none, none, none, none, none, none, none, none]) (new := []) E rfl (by kernel_rfl) rfl rfl (fun hp => ⟨?_, ?_, ?_, trivial⟩) ?_
  · exact q_loadInt (off := 0) hp (free_of rfl) trivial (List.mem_iff_getElem?.2 ⟨1, rfl⟩) (.inl rfl) (Nat.le_of_ble_eq_true rfl) (sq_out rfl rfl (fun _ _ => rfl)) (fun us w hl h => ld_num hl h)
  · exact q_call1 (F := (Fq.num ((r2 - r1) % (Int.gcd m1 m2 : Int))).P) hp (free_of rfl) trivial (enq_Sign) (sqi 0) (fun v w h => exSign h)
  · exact q_one (F := fun v _ => v = .int .i64 (cmpI ((r2 - r1) % (Int.gcd m1 m2 : Int)) 0)) hp (free_of rfl) trivial (sqi 1) (fun ρ w hc h => ⟨.bool false, by simp [execOp, go_sem, h, hc, T3.out], rfl⟩)
  intro L vs w15 nb hL hC hn E15
  have e1 : vs 1 = .int .i64 (cmpI ((r2 - r1) % (Int.gcd m1 m2 : Int)) 0) := hC 1 (by simp)
  have e2 : vs 2 = .bool false := hC 2 (by simp)
  have E : Fr w [(b14_9, 2, Fq.num ((r2 - r1) / (Int.gcd m1 m2 : Int))), (b14_10, 2, Fq.num ((r2 - r1) % (Int.gcd m1 m2 : Int))), (b10_7, 2, Fq.num (Int.gcd m1 m2 : Int)), (b10_8, 2, Fq.num (bezU m1 m2)), (b10_9, 2, Fq.num (bezV m1 m2)), (b6, 2, Fq.num 0), (b5, 2, Fq.num 0), (b4, 2, Fq.num m2), (b3, 2, Fq.num r2), (b2, 2, Fq.num m1), (b1, 2, Fq.num r1)] w15 := E15
  rw [lay_all hL]
  simp only [putAll, dstOf, List.length_cons, List.length_nil, Nat.zero_add, Nat.reduceAdd, List.getElem?_toArray, List.getElem?_cons_zero, List.getElem?_cons_succ, Option.bind_some, Act.put, List.setIfInBounds_toArray, List.set_cons_succ, List.set_cons_zero]
  rw [e1, e2]
  generalize vs 0 = u15_0
  clear e1 e2 hC hn E15 hL vs L nb
  clear T3
  go_upto_region 7 with (fail)
  have B16 : Hid (ab ((m2 / (Int.gcd m1 m2 : Int))) < pw 101) := ab_divB hd.out (by omega)
  have B17 : Hid (ab ((m2 % (Int.gcd m1 m2 : Int))) < pw 100) := ab_modB HG.out B8.out
  refine region_fr (C := [Fq.num m2, Fq.num (Int.gcd m1 m2 : Int), Fq.tup3 (Fq.num (m2 / (Int.gcd m1 m2 : Int))) (Fq.num (m2 % (Int.gcd m1 m2 : Int))) (Fq.is (.int .i64 0)), Fq.tup3 (Fq.num (m2 / (Int.gcd m1 m2 : Int))) (Fq.num (m2 % (Int.gcd m1 m2 : Int))) (Fq.is (.int .i64 0)), Fq.num (m2 / (Int.gcd m1 m2 : Int)), Fq.num (m2 % (Int.gcd m1 m2 : Int)), Fq.is (.int .i64 0), Fq.any, Fq.any, Fq.any, Fq.any, Fq.is (.int .i64 0)]) (ks := [none, none, none, none, none, none, none, none, none, none, none]) (new := [⟨7, 9, 2, Fq.num 0, Fq.num (m2 / (Int.gcd m1 m2 : Int)), none⟩, ⟨8, 10, 2, Fq.num 0, Fq.num (m2 % (Int.gcd m1 m2 : Int)), none⟩]) E rfl (by kernel_rfl) rfl rfl (fun hp => ⟨?_, ?_, ?_, ?_, ?_, ?_, ?_, ?_, ?_, ?_, ?_, ?_, trivial⟩) ?_
  · exact q_loadInt (off := 0) hp (free_of rfl) trivial (List.mem_iff_getElem?.2 ⟨7, rfl⟩) (.inl rfl) (Nat.le_of_ble_eq_true rfl) (sq_out rfl rfl (fun _ _ => rfl)) (fun us w hl h => ld_num hl h)
  · exact q_loadInt (off := 0) hp (free_of rfl) trivial (List.mem_iff_getElem?.2 ⟨2, rfl⟩) (.inl rfl) (Nat.le_of_ble_eq_true rfl) (sq_out rfl rfl (fun _ _ => rfl)) (fun us w hl h => ld_num hl h)
  · exact q_call2 (F := (Fq.num m2).P) (G := (Fq.num (Int.gcd m1 m2 : Int)).P) hp (free_of rfl) trivial (enq_DivMod) (sqi 0) (sqi 1) (fun v v' w h h' => exDMq h h' HG.out B16.out B17.out (by omega) (by omega))
  · exact q_move hp (free_of rfl) trivial (sqi 2)
  · exact q_extract3 hp (free_of rfl) trivial (sqi 3) (fun v1 v2 v3 w h1 h2 h3 => ⟨_, rfl, h1⟩)
  · exact q_extract3 hp (free_of rfl) trivial (sqi 3) (fun v1 v2 v3 w h1 h2 h3 => ⟨_, rfl, h2⟩)
  · exact q_extract3 hp (free_of rfl) trivial (sqi 3) (fun v1 v2 v3 w h1 h2 h3 => ⟨_, rfl, h3⟩)
  · exact q_allocInt hp (List.mem_iff_getElem?.2 ⟨0, rfl⟩) rfl rfl rfl rfl (Nat.ne_of_beq_eq_false rfl) (fun _ _ => trivial) (old_ne rfl) (newk_ne rfl) (fun w => Num.zero w)
  · exact q_allocInt hp (List.mem_iff_getElem?.2 ⟨1, rfl⟩) rfl rfl rfl rfl (Nat.ne_of_beq_eq_false rfl) (fun _ _ => trivial) (old_ne rfl) (newk_ne rfl) (fun w => Num.zero w)
  · exact q_storeNewInt hp (List.mem_iff_getElem?.2 ⟨0, rfl⟩) rfl rfl rfl (own_ptr rfl rfl (by simp) rfl) (sq_in 4 rfl rfl (by simp) rfl (fun v w h => intV_num h)) (fun _ _ => trivial) (old_ne rfl) (newi_ne rfl)
  · exact q_storeNewInt hp (List.mem_iff_getElem?.2 ⟨1, rfl⟩) rfl rfl rfl (own_ptr rfl rfl (by simp) rfl) (sq_in 5 rfl rfl (by simp) rfl (fun v w h => intV_num h)) (fun _ _ => trivial) (old_ne rfl) (newi_ne rfl)
  · exact q_assign hp (free_of rfl) trivial (sqi 6)
  intro L vs w18 nb hL hC hn E18
  have e6 : vs 6 = .int .i64 0 := hC 6 (by simp)
  have e11 : vs 11 = .int .i64 0 := hC 11 (by simp)
  have e7 : vs 7 = .pointer (some ⟨nb 7, 0, none⟩) := hn _ (List.mem_iff_getElem?.2 ⟨0, rfl⟩)
  have e8 : vs 8 = .pointer (some ⟨nb 8, 0, none⟩) := hn _ (List.mem_iff_getElem?.2 ⟨1, rfl⟩)
  have E : Fr w [(nb 7, 2, Fq.num (m2 / (Int.gcd m1 m2 : Int))), (nb 8, 2, Fq.num (m2 % (Int.gcd m1 m2 : Int))), (b14_9, 2, Fq.num ((r2 - r1) / (Int.gcd m1 m2 : Int))), (b14_10, 2, Fq.num ((r2 - r1) % (Int.gcd m1 m2 : Int))), (b10_7, 2, Fq.num (Int.gcd m1 m2 : Int)), (b10_8, 2, Fq.num (bezU m1 m2)), (b10_9, 2, Fq.num (bezV m1 m2)), (b6, 2, Fq.num 0), (b5, 2, Fq.num 0), (b4, 2, Fq.num m2), (b3, 2, Fq.num r2), (b2, 2, Fq.num m1), (b1, 2, Fq.num r1)] w18 := E18
  rw [lay_all hL]
  simp only [putAll, dstOf, List.length_cons, List.length_nil, Nat.zero_add, Nat.reduceAdd, List.getElem?_toArray, List.getElem?_cons_zero, List.getElem?_cons_succ, Option.bind_some, Act.put, List.setIfInBounds_toArray, List.set_cons_succ, List.set_cons_zero]
  rw [e6, e11, e7, e8]
  generalize nb 7 = b18_7 at E ⊢
  generalize nb 8 = b18_8 at E ⊢
  generalize vs 0 = u18_0
  generalize vs 1 = u18_1
  generalize vs 2 = u18_2
  generalize vs 3 = u18_3
  generalize vs 4 = u18_4
  generalize vs 5 = u18_5
  clear e6 e11 e7 e8 hC hn E18 hL vs L nb
  go_upto_region 8 with (fail)
  have B19 : Hid (ab ((((r2 - r1) / (Int.gcd m1 m2 : Int)) * bezU m1 m2)) < pw 202) := ab_mulM B12.out B9.out (by omega)
  have B20 : Hid (ab (((((r2 - r1) / (Int.gcd m1 m2 : Int)) * bezU m1 m2) % (m2 / (Int.gcd m1 m2 : Int)))) < pw 101) := ab_modB HQ.out B16.out
  refine region_fr (C := [Fq.num (m2 / (Int.gcd m1 m2 : Int)), Fq.any, Fq.num ((r2 - r1) / (Int.gcd m1 m2 : Int)), Fq.num (bezU m1 m2), Fq.num (((r2 - r1) / (Int.gcd m1 m2 : Int)) * bezU m1 m2), Fq.num ((((r2 - r1) / (Int.gcd m1 m2 : Int)) * bezU m1 m2) % (m2 / (Int.gcd m1 m2 : Int))), Fq.any]) (ks := [none, none, some (6, Fq.num ((((r2 - r1) / (Int.gcd m1 m2 : Int)) * bezU m1 m2) % (m2 / (Int.gcd m1 m2 : Int)))), none, none, none, none, none, none, none, none, none, none]) (new := [⟨1, 1, 2, Fq.num (m2 / (Int.gcd m1 m2 : Int)), Fq.num (m2 / (Int.gcd m1 m2 : Int)), (some (.clo 57))⟩]) E rfl (by kernel_rfl) rfl rfl (fun hp => ⟨?_, ?_, ?_, ?_, ?_, ?_, ?_, trivial⟩) ?_
  · exact q_loadInt (off := 0) hp (free_of rfl) trivial (List.mem_iff_getElem?.2 ⟨0, rfl⟩) (.inl rfl) (Nat.le_of_ble_eq_true rfl) (sq_out rfl rfl (fun _ _ => rfl)) (fun us w hl h => ld_num hl h)
  · exact q_callMake (F := (Fq.num (m2 / (Int.gcd m1 m2 : Int))).P) hp enq_M_within (List.mem_iff_getElem?.2 ⟨0, rfl⟩) rfl rfl rfl (sqi 0) (fun v w h => exWithin h) (fun _ _ => trivial) (old_ne rfl) (newks_ne rfl)
  · exact q_loadInt (off := 0) hp (free_of rfl) trivial (List.mem_iff_getElem?.2 ⟨2, rfl⟩) (.inr rfl) (Nat.le_of_ble_eq_true rfl) (sq_out rfl rfl (fun _ _ => rfl)) (fun us w hl h => ld_num hl h)
  · exact q_loadInt (off := 0) hp (free_of rfl) trivial (List.mem_iff_getElem?.2 ⟨5, rfl⟩) (.inl rfl) (Nat.le_of_ble_eq_true rfl) (sq_out rfl rfl (fun _ _ => rfl)) (fun us w hl h => ld_num hl h)
  · exact q_call2 (F := (Fq.num ((r2 - r1) / (Int.gcd m1 m2 : Int))).P) (G := (Fq.num (bezU m1 m2)).P) hp (free_of rfl) trivial (enq_Mul) (sqi 2) (sqi 3) (fun v v' w h h' => exK (MulV h h') B19.out (by omega))
  · exact q_callCloIn (F := (Fq.num (((r2 - r1) / (Int.gcd m1 m2 : Int)) * bezU m1 m2)).P) hp (free_of rfl) trivial enq_M_within1 (List.mem_iff_getElem?.2 ⟨0, rfl⟩) rfl (own_ptr rfl rfl (by simp) rfl) (sqi 4) (fun v b w h hb => exResidue h hb HQ.out (Int.lt_of_lt_of_le B19.out (pw_le (by omega))) (Int.lt_of_lt_of_le B16.out (pw_le (by omega))))
  · exact q_storeOldInt hp (List.mem_iff_getElem?.2 ⟨2, rfl⟩) rfl rfl (sq_out rfl rfl (fun _ _ => rfl)) (sq_in 5 rfl rfl (by simp) rfl (fun v w h => intV_num h)) (fun _ _ => trivial) (newik_ne rfl)
  intro L vs w21 nb hL hC hn E21
  have e1 : vs 1 = cloV 57 (nb 1) := hn _ (List.mem_iff_getElem?.2 ⟨0, rfl⟩)
  have E : Fr w [(nb 1, 2, Fq.num (m2 / (Int.gcd m1 m2 : Int))), (b18_7, 2, Fq.num (m2 / (Int.gcd m1 m2 : Int))), (b18_8, 2, Fq.num (m2 % (Int.gcd m1 m2 : Int))), (b14_9, 2, Fq.num ((((r2 - r1) / (Int.gcd m1 m2 : Int)) * bezU m1 m2) % (m2 / (Int.gcd m1 m2 : Int)))), (b14_10, 2, Fq.num ((r2 - r1) % (Int.gcd m1 m2 : Int))), (b10_7, 2, Fq.num (Int.gcd m1 m2 : Int)), (b10_8, 2, Fq.num (bezU m1 m2)), (b10_9, 2, Fq.num (bezV m1 m2)), (b6, 2, Fq.num 0), (b5, 2, Fq.num 0), (b4, 2, Fq.num m2), (b3, 2, Fq.num r2), (b2, 2, Fq.num m1), (b1, 2, Fq.num r1)] w21 := E21
  rw [lay_all hL]
  simp only [putAll, dstOf, List.length_cons, List.length_nil, Nat.zero_add, Nat.reduceAdd, List.getElem?_toArray, List.getElem?_cons_zero, List.getElem?_cons_succ, Option.bind_some, Act.put, List.setIfInBounds_toArray, List.set_cons_succ, List.set_cons_zero]
  rw [e1]
  generalize nb 1 = b21_1 at E ⊢
  generalize vs 0 = u21_0
  generalize vs 2 = u21_2
  generalize vs 3 = u21_3
  generalize vs 4 = u21_4
  generalize vs 5 = u21_5
  clear e1 hC hn E21 hL vs L nb
  go_upto_region 9 with (fail)
  have B22 : Hid (ab ((m1 * (m2 / (Int.gcd m1 m2 : Int)))) < pw 201) := ab_mulM hb.out B16.out (by omega)
  refine region_fr (C := [Fq.num m1, Fq.num (m2 / (Int.gcd m1 m2 : Int)), Fq.num (m1 * (m2 / (Int.gcd m1 m2 : Int))), Fq.any, Fq.any]) (ks := [none, none, none, none, none, none, none, none, none, none, none, none, none, none]) (new := [⟨3, 4, 2, Fq.num 0, Fq.num (m1 * (m2 / (Int.gcd m1 m2 : Int))), none⟩]) E rfl (by kernel_rfl) rfl rfl (fun hp => ⟨?_, ?_, ?_, ?_, ?_, trivial⟩) ?_
  · exact q_loadInt (off := 0) hp (free_of rfl) trivial (List.mem_iff_getElem?.2 ⟨12, rfl⟩) (.inl rfl) (Nat.le_of_ble_eq_true rfl) (sq_out rfl rfl (fun _ _ => rfl)) (fun us w hl h => ld_num hl h)
  · exact q_loadInt (off := 0) hp (free_of rfl) trivial (List.mem_iff_getElem?.2 ⟨1, rfl⟩) (.inl rfl) (Nat.le_of_ble_eq_true rfl) (sq_out rfl rfl (fun _ _ => rfl)) (fun us w hl h => ld_num hl h)
  · exact q_call2 (F := (Fq.num m1).P) (G := (Fq.num (m2 / (Int.gcd m1 m2 : Int))).P) hp (free_of rfl) trivial (enq_Mul) (sqi 0) (sqi 1) (fun v v' w h h' => exK (MulV h h') B22.out (by omega))
  · exact q_allocInt hp (List.mem_iff_getElem?.2 ⟨0, rfl⟩) rfl rfl rfl rfl (Nat.ne_of_beq_eq_false rfl) (fun _ _ => trivial) (old_ne rfl) (newk_ne rfl) (fun w => Num.zero w)
  · exact q_storeNewInt hp (List.mem_iff_getElem?.2 ⟨0, rfl⟩) rfl rfl rfl (own_ptr rfl rfl (by simp) rfl) (sq_in 2 rfl rfl (by simp) rfl (fun v w h => intV_num h)) (fun _ _ => trivial) (old_ne rfl) (newi_ne rfl)
  intro L vs w23 nb hL hC hn E23
  have e3 : vs 3 = .pointer (some ⟨nb 3, 0, none⟩) := hn _ (List.mem_iff_getElem?.2 ⟨0, rfl⟩)
  have E : Fr w [(nb 3, 2, Fq.num (m1 * (m2 / (Int.gcd m1 m2 : Int)))), (b21_1, 2, Fq.num (m2 / (Int.gcd m1 m2 : Int))), (b18_7, 2, Fq.num (m2 / (Int.gcd m1 m2 : Int))), (b18_8, 2, Fq.num (m2 % (Int.gcd m1 m2 : Int))), (b14_9, 2, Fq.num ((((r2 - r1) / (Int.gcd m1 m2 : Int)) * bezU m1 m2) % (m2 / (Int.gcd m1 m2 : Int)))), (b14_10, 2, Fq.num ((r2 - r1) % (Int.gcd m1 m2 : Int))), (b10_7, 2, Fq.num (Int.gcd m1 m2 : Int)), (b10_8, 2, Fq.num (bezU m1 m2)), (b10_9, 2, Fq.num (bezV m1 m2)), (b6, 2, Fq.num 0), (b5, 2, Fq.num 0), (b4, 2, Fq.num m2), (b3, 2, Fq.num r2), (b2, 2, Fq.num m1), (b1, 2, Fq.num r1)] w23 := E23
  rw [lay_all hL]
  simp only [putAll, dstOf, List.length_cons, List.length_nil, Nat.zero_add, Nat.reduceAdd, List.getElem?_toArray, List.getElem?_cons_zero, List.getElem?_cons_succ, Option.bind_some, Act.put, List.setIfInBounds_toArray, List.set_cons_succ, List.set_cons_zero]
  rw [e3]
  generalize nb 3 = b23_3 at E ⊢
  generalize vs 0 = u23_0
  generalize vs 1 = u23_1
  generalize vs 2 = u23_2
  clear e3 hC hn E23 hL vs L nb
  go_upto_region 10 with (fail)
  have B24 : Hid (ab ((m1 * ((((r2 - r1) / (Int.gcd m1 m2 : Int)) * bezU m1 m2) % (m2 / (Int.gcd m1 m2 : Int))))) < pw 201) := ab_mulM hb.out B20.out (by omega)
  have B25 : Hid (ab ((r1 + (m1 * ((((r2 - r1) / (Int.gcd m1 m2 : Int)) * bezU m1 m2) % (m2 / (Int.gcd m1 m2 : Int)))))) < pw 202) := ab_addB ha.out B24.out (by omega) (by omega)
  have B26 : Hid (ab (((r1 + (m1 * ((((r2 - r1) / (Int.gcd m1 m2 : Int)) * bezU m1 m2) % (m2 / (Int.gcd m1 m2 : Int))))) % (m1 * (m2 / (Int.gcd m1 m2 : Int))))) < pw 201) := ab_modB HR.out B22.out
  refine region_fr (C := [Fq.num (m1 * (m2 / (Int.gcd m1 m2 : Int))), Fq.any, Fq.num r1, Fq.num m1, Fq.num ((((r2 - r1) / (Int.gcd m1 m2 : Int)) * bezU m1 m2) % (m2 / (Int.gcd m1 m2 : Int))), Fq.num (m1 * ((((r2 - r1) / (Int.gcd m1 m2 : Int)) * bezU m1 m2) % (m2 / (Int.gcd m1 m2 : Int)))), Fq.num (r1 + (m1 * ((((r2 - r1) / (Int.gcd m1 m2 : Int)) * bezU m1 m2) % (m2 / (Int.gcd m1 m2 : Int))))), Fq.num ((r1 + (m1 * ((((r2 - r1) / (Int.gcd m1 m2 : Int)) * bezU m1 m2) % (m2 / (Int.gcd m1 m2 : Int))))) % (m1 * (m2 / (Int.gcd m1 m2 : Int)))), Fq.num (m1 * (m2 / (Int.gcd m1 m2 : Int))), Fq.any, Fq.any, Fq.is (.int .i64 0)]) (ks := [none, none, none, none, none, none, none, none, none, some (10, Fq.num (m1 * (m2 / (Int.gcd m1 m2 : Int)))), some (9, Fq.num ((r1 + (m1 * ((((r2 - r1) / (Int.gcd m1 m2 : Int)) * bezU m1 m2) % (m2 / (Int.gcd m1 m2 : Int))))) % (m1 * (m2 / (Int.gcd m1 m2 : Int))))), none, none, none, none]) (new := [⟨1, 1, 2, Fq.num (m1 * (m2 / (Int.gcd m1 m2 : Int))), Fq.num (m1 * (m2 / (Int.gcd m1 m2 : Int))), (some (.clo 57))⟩]) E rfl (by kernel_rfl) rfl rfl (fun hp => ⟨?_, ?_, ?_, ?_, ?_, ?_, ?_, ?_, ?_, ?_, ?_, ?_, trivial⟩) ?_
  · exact q_loadInt (off := 0) hp (free_of rfl) trivial (List.mem_iff_getElem?.2 ⟨0, rfl⟩) (.inl rfl) (Nat.le_of_ble_eq_true rfl) (sq_out rfl rfl (fun _ _ => rfl)) (fun us w hl h => ld_num hl h)
  · exact q_callMake (F := (Fq.num (m1 * (m2 / (Int.gcd m1 m2 : Int)))).P) hp enq_M_within (List.mem_iff_getElem?.2 ⟨0, rfl⟩) rfl rfl rfl (sqi 0) (fun v w h => exWithin h) (fun _ _ => trivial) (old_ne rfl) (newks_ne rfl)
  · exact q_loadInt (off := 0) hp (free_of rfl) trivial (List.mem_iff_getElem?.2 ⟨14, rfl⟩) (.inl rfl) (Nat.le_of_ble_eq_true rfl) (sq_out rfl rfl (fun _ _ => rfl)) (fun us w hl h => ld_num hl h)
  · exact q_loadInt (off := 0) hp (free_of rfl) trivial (List.mem_iff_getElem?.2 ⟨13, rfl⟩) (.inl rfl) (Nat.le_of_ble_eq_true rfl) (sq_out rfl rfl (fun _ _ => rfl)) (fun us w hl h => ld_num hl h)
  · exact q_loadInt (off := 0) hp (free_of rfl) trivial (List.mem_iff_getElem?.2 ⟨4, rfl⟩) (.inl rfl) (Nat.le_of_ble_eq_true rfl) (sq_out rfl rfl (fun _ _ => rfl)) (fun us w hl h => ld_num hl h)
  · exact q_call2 (F := (Fq.num m1).P) (G := (Fq.num ((((r2 - r1) / (Int.gcd m1 m2 : Int)) * bezU m1 m2) % (m2 / (Int.gcd m1 m2 : Int)))).P) hp (free_of rfl) trivial (enq_Mul) (sqi 3) (sqi 4) (fun v v' w h h' => exK (MulV h h') B24.out (by omega))
  · exact q_call2 (F := (Fq.num r1).P) (G := (Fq.num (m1 * ((((r2 - r1) / (Int.gcd m1 m2 : Int)) * bezU m1 m2) % (m2 / (Int.gcd m1 m2 : Int))))).P) hp (free_of rfl) trivial (enq_Add) (sqi 2) (sqi 5) (fun v v' w h h' => exK (AddV h h') B25.out (by omega))
  · exact q_callCloIn (F := (Fq.num (r1 + (m1 * ((((r2 - r1) / (Int.gcd m1 m2 : Int)) * bezU m1 m2) % (m2 / (Int.gcd m1 m2 : Int)))))).P) hp (free_of rfl) trivial enq_M_within1 (List.mem_iff_getElem?.2 ⟨0, rfl⟩) rfl (own_ptr rfl rfl (by simp) rfl) (sqi 6) (fun v b w h hb => exResidue h hb HR.out (Int.lt_of_lt_of_le B25.out (pw_le (by omega))) (Int.lt_of_lt_of_le B22.out (pw_le (by omega))))
  · exact q_loadInt (off := 0) hp (free_of rfl) trivial (List.mem_iff_getElem?.2 ⟨0, rfl⟩) (.inl rfl) (Nat.le_of_ble_eq_true rfl) (sq_out rfl rfl (fun _ _ => rfl)) (fun us w hl h => ld_num hl h)
  · exact q_storeOldInt hp (List.mem_iff_getElem?.2 ⟨10, rfl⟩) rfl rfl (sq_out rfl rfl (fun _ _ => rfl)) (sq_in 7 rfl rfl (by simp) rfl (fun v w h => intV_num h)) (fun _ _ => trivial) (newik_ne rfl)
  · exact q_storeOldInt hp (List.mem_iff_getElem?.2 ⟨9, rfl⟩) rfl rfl (sq_out rfl rfl (fun _ _ => rfl)) (sq_in 8 rfl rfl (by simp) rfl (fun v w h => intV_num h)) (fun _ _ => trivial) (newik_ne rfl)
  · exact q_assign hp (free_of rfl) trivial (sq_const (fun _ => rfl))
  intro L vs w27 nb hL hC hn E27
  have e11 : vs 11 = .int .i64 0 := hC 11 (by simp)
  have e1 : vs 1 = cloV 57 (nb 1) := hn _ (List.mem_iff_getElem?.2 ⟨0, rfl⟩)
  have E : Fr w [(nb 1, 2, Fq.num (m1 * (m2 / (Int.gcd m1 m2 : Int)))), (b23_3, 2, Fq.num (m1 * (m2 / (Int.gcd m1 m2 : Int)))), (b21_1, 2, Fq.num (m2 / (Int.gcd m1 m2 : Int))), (b18_7, 2, Fq.num (m2 / (Int.gcd m1 m2 : Int))), (b18_8, 2, Fq.num (m2 % (Int.gcd m1 m2 : Int))), (b14_9, 2, Fq.num ((((r2 - r1) / (Int.gcd m1 m2 : Int)) * bezU m1 m2) % (m2 / (Int.gcd m1 m2 : Int)))), (b14_10, 2, Fq.num ((r2 - r1) % (Int.gcd m1 m2 : Int))), (b10_7, 2, Fq.num (Int.gcd m1 m2 : Int)), (b10_8, 2, Fq.num (bezU m1 m2)), (b10_9, 2, Fq.num (bezV m1 m2)), (b6, 2, Fq.num (m1 * (m2 / (Int.gcd m1 m2 : Int)))), (b5, 2, Fq.num ((r1 + (m1 * ((((r2 - r1) / (Int.gcd m1 m2 : Int)) * bezU m1 m2) % (m2 / (Int.gcd m1 m2 : Int))))) % (m1 * (m2 / (Int.gcd m1 m2 : Int))))), (b4, 2, Fq.num m2), (b3, 2, Fq.num r2), (b2, 2, Fq.num m1), (b1, 2, Fq.num r1)] w27 := E27
  rw [lay_all hL]
  simp only [putAll, dstOf, List.length_cons, List.length_nil, Nat.zero_add, Nat.reduceAdd, List.getElem?_toArray, List.getElem?_cons_zero, List.getElem?_cons_succ, Option.bind_some, Act.put, List.setIfInBounds_toArray, List.set_cons_succ, List.set_cons_zero]
  rw [e11, e1]
  generalize nb 1 = b27_1 at E ⊢
  generalize vs 0 = u27_0
  generalize vs 2 = u27_2
  generalize vs 3 = u27_3
  generalize vs 4 = u27_4
  generalize vs 5 = u27_5
  generalize vs 6 = u27_6
  generalize vs 7 = u27_7
  generalize vs 8 = u27_8
  clear e11 e1 hC hn E27 hL vs L nb
  clear HP HG HQ HR
  obtain ⟨p0, p1, c0, c1, hP⟩ := box_num (E.box 11 rfl)
  obtain ⟨q0, q1, d0, d1, hQ⟩ := box_num (E.box 10 rfl)
  clear B8 B9 B11 B12 B13 B16 B17 B19 B20 B22 B24 B25 B26 ha hb hc hd
  go_wp2
  refine bodyPost_ret (v := .tuple #[.agg #[p0, p1], .agg #[q0, q1], .int .i64 0]) ?_ rfl ⟨_, rfl, E.below, ⟨_, _, _, rfl, hP, hQ, rfl⟩⟩
  simp [results, Tryz.results18, go_sem, c0, c1, d0, d1]

set_option maxRecDepth 100000 in
set_option maxHeartbeats 4000000 in
theorem exCrtN {w : World} {v v' u u' : Value} {r1 m1 r2 m2 : Int} (h : Num w v r1) (h' : Num w v' m1) (g : Num w u r2) (g' : Num w u' m2) (ha : ab r1 < pw 100) (hb : ab m1 < pw 100) (hc : ab r2 < pw 100) (hd : ab m2 < pw 100) (h1 : 0 < m1) (h2 : 0 < m2) (hz : (r2 - r1) % (Int.gcd m1 m2 : Int) ≠ 0) :
    Calls Tryz.prog 18 #[v, v', u, u'] w fun e w' => ∃ v', e = .returned v' ∧ Below w.heap.size w w' ∧ (Fq.tup3 (Fq.num 0) (Fq.num 0) (Fq.is (.int .i64 6))).P v' w' := by
  replace ha := hidd ha
  replace hb := hidd hb
  replace hc := hidd hc
  replace hd := hidd hd
  obtain ⟨n0, ao0, k0, c0, rfl⟩ := h.parts
  obtain ⟨n1, ao1, k1, c1, rfl⟩ := h'.parts
  obtain ⟨n2, ao2, k2, c2, rfl⟩ := g.parts
  obtain ⟨n3, ao3, k3, c3, rfl⟩ := g'.parts
  obtain ⟨w1, b1, hw1, hb1, hs1, E⟩ := fr_start w (F := Fq.num r1) (us := [.bool n0, .slice ao0 k0 c0]) 29 rfl (by simp) (tame_int _ _ _ _) h
  obtain ⟨w2, b2, hw2, hb2, hs2, E⟩ := fr_more E hs1 (F := Fq.num m1) (us := [.bool n1, .slice ao1 k1 c1]) 29 rfl (by simp) (tame_int _ _ _ _) (h'.mono E.below)
  obtain ⟨w3, b3, hw3, hb3, hs3, E⟩ := fr_more E hs2 (F := Fq.num r2) (us := [.bool n2, .slice ao2 k2 c2]) 29 rfl (by simp) (tame_int _ _ _ _) (g.mono E.below)
  obtain ⟨w4, b4, hw4, hb4, hs4, E⟩ := fr_more E hs3 (F := Fq.num m2) (us := [.bool n3, .slice ao3 k3 c3]) 29 rfl (by simp) (tame_int _ _ _ _) (g'.mono E.below)
  obtain ⟨w5, b5, hw5, hb5, hs5, E⟩ := fr_more E hs4 (F := Fq.num 0) (us := [.bool false, .slice none 0 0]) 29 rfl (by simp) (tame_int _ _ _ _) (Num.zero _)
  obtain ⟨w6, b6, hw6, hb6, hs6, E⟩ := fr_more E hs5 (F := Fq.num 0) (us := [.bool false, .slice none 0 0]) 29 rfl (by simp) (tame_int _ _ _ _) (Num.zero _)
  go_enter Tryz.func18, Tryz.ntmps18
  go_upto_region 1 with (fail)
  rw [← hw1]
  rw [← hw2]
  rw [← hw3]
  rw [← hw4]
  rw [← hw5]
  rw [← hw6]
  rw [← hb6]
  rw [← hb5]
  rw [← hb4]
  rw [← hb3]
  rw [← hb2]
  rw [← hb1]
  clear hw1 hw2 hw3 hw4 hw5 hw6 hb1 hb2 hb3 hb4 hb5 hb6 hs6 hs1 hs2 hs3 hs4 hs5
  have T1 : Hid (¬ cmpI m1 0 ≤ 0) := fun e => by have := cmpI_le0.1 e; omega
  have T2 : Hid (¬ cmpI m2 0 ≤ 0) := fun e => by have := cmpI_le0.1 e; omega
  have HP := hidd h2
  have HG : Hid ((Int.gcd m1 m2 : Int) ≠ 0) := by have := gcd_pos_r (a := m1) (show m2 ≠ 0 by omega); show _ ≠ _; omega
  have T3 : Hid (¬ cmpI ((r2 - r1) % (Int.gcd m1 m2 : Int)) 0 = 0) := fun e => hz (cmpIq0.1 e)
  have HQ : Hid (m2 / (Int.gcd m1 m2 : Int) ≠ 0) := by have := (crt_part (m1 := m1) h2).1; show _ ≠ _; omega
  have HR : Hid (m1 * (m2 / (Int.gcd m1 m2 : Int)) ≠ 0) := Int.mul_ne_zero (by omega) HQ.out
  clear h1 h2 hz
  refine region_fr (C := [Fq.num m1, Fq.is (.int .i64 (cmpI m1 0)), Fq.is (.bool false), Fq.is (.bool false), Fq.num m2, Fq.is (.int .i64 (cmpI m2 0)), Fq.is (.bool false), Fq.is (.bool false)]) (ks := [none, none, none, none, none, none]) (new := []) E rfl (by kernel_rfl) rfl rfl (fun hp => ⟨?_, ?_, ?_, ?_, ?_, ?_, ?_, ?_, trivial⟩) ?_
  · exact q_loadInt (off := 0) hp (free_of rfl) trivial (List.mem_iff_getElem?.2 ⟨4, rfl⟩) (.inl rfl) (Nat.le_of_ble_eq_true rfl) (sq_out rfl rfl (fun _ _ => rfl)) (fun us w hl h => ld_num hl h)
  · exact q_call1 (F := (Fq.num m1).P) hp (free_of rfl) trivial (enq_Sign) (sqi 0) (fun v w h => exSign h)
  · exact q_one (F := fun v _ => v = .int .i64 (cmpI m1 0)) hp (free_of rfl) trivial (sqi 1) (fun ρ w hc h => ⟨.bool false, by simp [execOp, go_sem, h, hc, T1.out], rfl⟩)
  · exact q_move hp (free_of rfl) trivial (sqi 2)
  · exact q_loadInt (off := 0) hp (free_of rfl) (gq_some rfl rfl (by simp) rfl (fun v w h => h)) (List.mem_iff_getElem?.2 ⟨2, rfl⟩) (.inl rfl) (Nat.le_of_ble_eq_true rfl) (sq_out rfl rfl (fun _ _ => rfl)) (fun us w hl h => ld_num hl h)
  · exact q_call1 (F := (Fq.num m2).P) hp (free_of rfl) (gq_some rfl rfl (by simp) rfl (fun v w h => h)) (enq_Sign) (sqi 4) (fun v w h => exSign h)
  · exact q_one (F := fun v _ => v = .int .i64 (cmpI m2 0)) hp (free_of rfl) (gq_some rfl rfl (by simp) rfl (fun v w h => h)) (sqi 5) (fun ρ w hc h => ⟨.bool false, by simp [execOp, go_sem, h, hc, T2.out], rfl⟩)
  · exact q_two (F := fun v _ => v = .bool false) (G := fun v _ => v = .bool false) hp (free_of rfl) trivial (sqi 3) (sqi 6) (fun ρ w hc h h' => ⟨_, by simp [execOp, go_sem, h, h'], rfl⟩)
  intro L vs w7 nb hL hC hn E7
  have e1 : vs 1 = .int .i64 (cmpI m1 0) := hC 1 (by simp)
  have e2 : vs 2 = .bool false := hC 2 (by simp)
  have e3 : vs 3 = .bool false := hC 3 (by simp)
  have e5 : vs 5 = .int .i64 (cmpI m2 0) := hC 5 (by simp)
  have e6 : vs 6 = .bool false := hC 6 (by simp)
  have e7 : vs 7 = .bool false := hC 7 (by simp)
  have E : Fr w [(b6, 2, Fq.num 0), (b5, 2, Fq.num 0), (b4, 2, Fq.num m2), (b3, 2, Fq.num r2), (b2, 2, Fq.num m1), (b1, 2, Fq.num r1)] w7 := E7
  rw [lay_all hL]
  simp only [putAll, dstOf, List.length_cons, List.length_nil, Nat.zero_add, Nat.reduceAdd, List.getElem?_toArray, List.getElem?_cons_zero, List.getElem?_cons_succ, Option.bind_some, Act.put, List.setIfInBounds_toArray, List.set_cons_succ, List.set_cons_zero]
  rw [e1, e2, e3, e5, e6, e7]
  generalize vs 0 = u7_0
  generalize vs 4 = u7_4
  clear e1 e2 e3 e5 e6 e7 hC hn E7 hL vs L nb
  clear T1 T2
  go_upto_region 3 with (fail)
  have B8 : Hid (ab ((Int.gcd m1 m2 : Int)) < pw 100) := ab_gcdB hb.out hd.out (by omega) (by omega)
  have B9 : Hid (ab (bezU m1 m2) < pw 100) := bezU_ab HP.out hd.out
  refine region_fr (C := [Fq.num m1, Fq.num m2, Fq.tup3 (Fq.num (Int.gcd m1 m2 : Int)) (Fq.num (bezU m1 m2)) (Fq.num (bezV m1 m2)), Fq.tup3 (Fq.num (Int.gcd m1 m2 : Int)) (Fq.num (bezU m1 m2)) (Fq.num (bezV m1 m2)), Fq.num (Int.gcd m1 m2 : Int), Fq.num (bezU m1 m2), Fq.num (bezV m1 m2), Fq.any, Fq.any, Fq.any, Fq.any, Fq.any, Fq.any]) (ks := [none, none, none, none, none, none]) (new := [⟨7, 10, 2, Fq.num 0, Fq.num (Int.gcd m1 m2 : Int), none⟩, ⟨8, 11, 2, Fq.num 0, Fq.num (bezU m1 m2), none⟩, ⟨9, 12, 2, Fq.num 0, Fq.num (bezV m1 m2), none⟩]) E rfl (by kernel_rfl) rfl rfl (fun hp => ⟨?_, ?_, ?_, ?_, ?_, ?_, ?_, ?_, ?_, ?_, ?_, ?_, ?_, trivial⟩) ?_
  · exact q_loadInt (off := 0) hp (free_of rfl) trivial (List.mem_iff_getElem?.2 ⟨4, rfl⟩) (.inl rfl) (Nat.le_of_ble_eq_true rfl) (sq_out rfl rfl (fun _ _ => rfl)) (fun us w hl h => ld_num hl h)
  · exact q_loadInt (off := 0) hp (free_of rfl) trivial (List.mem_iff_getElem?.2 ⟨2, rfl⟩) (.inl rfl) (Nat.le_of_ble_eq_true rfl) (sq_out rfl rfl (fun _ _ => rfl)) (fun us w hl h => ld_num hl h)
  · exact q_call2 (F := (Fq.num m1).P) (G := (Fq.num m2).P) hp (free_of rfl) trivial (enq_Bezout) (sqi 0) (sqi 1) (fun v v' w h h' => exBezout h h' (Int.lt_of_lt_of_le hb.out (pw_le (by omega))) (Int.lt_of_lt_of_le hd.out (pw_le (by omega))) HP.out)
  · exact q_move hp (free_of rfl) trivial (sqi 2)
  · exact q_extract3 hp (free_of rfl) trivial (sqi 3) (fun v1 v2 v3 w h1 h2 h3 => ⟨_, rfl, h1⟩)
  · exact q_extract3 hp (free_of rfl) trivial (sqi 3) (fun v1 v2 v3 w h1 h2 h3 => ⟨_, rfl, h2⟩)
  · exact q_extract3 hp (free_of rfl) trivial (sqi 3) (fun v1 v2 v3 w h1 h2 h3 => ⟨_, rfl, h3⟩)
  · exact q_allocInt hp (List.mem_iff_getElem?.2 ⟨0, rfl⟩) rfl rfl rfl rfl (Nat.ne_of_beq_eq_false rfl) (fun _ _ => trivial) (old_ne rfl) (newk_ne rfl) (fun w => Num.zero w)
  · exact q_allocInt hp (List.mem_iff_getElem?.2 ⟨1, rfl⟩) rfl rfl rfl rfl (Nat.ne_of_beq_eq_false rfl) (fun _ _ => trivial) (old_ne rfl) (newk_ne rfl) (fun w => Num.zero w)
  · exact q_allocInt hp (List.mem_iff_getElem?.2 ⟨2, rfl⟩) rfl rfl rfl rfl (Nat.ne_of_beq_eq_false rfl) (fun _ _ => trivial) (old_ne rfl) (newk_ne rfl) (fun w => Num.zero w)
  · exact q_storeNewInt hp (List.mem_iff_getElem?.2 ⟨0, rfl⟩) rfl rfl rfl (own_ptr rfl rfl (by simp) rfl) (sq_in 4 rfl rfl (by simp) rfl (fun v w h => intV_num h)) (fun _ _ => trivial) (old_ne rfl) (newi_ne rfl)
  · exact q_storeNewInt hp (List.mem_iff_getElem?.2 ⟨1, rfl⟩) rfl rfl rfl (own_ptr rfl rfl (by simp) rfl) (sq_in 5 rfl rfl (by simp) rfl (fun v w h => intV_num h)) (fun _ _ => trivial) (old_ne rfl) (newi_ne rfl)
  · exact q_storeNewInt hp (List.mem_iff_getElem?.2 ⟨2, rfl⟩) rfl rfl rfl (own_ptr rfl rfl (by simp) rfl) (sq_in 6 rfl rfl (by simp) rfl (fun v w h => intV_num h)) (fun _ _ => trivial) (old_ne rfl) (newi_ne rfl)
  intro L vs w10 nb hL hC hn E10
  have e7 : vs 7 = .pointer (some ⟨nb 7, 0, none⟩) := hn _ (List.mem_iff_getElem?.2 ⟨0, rfl⟩)
  have e8 : vs 8 = .pointer (some ⟨nb 8, 0, none⟩) := hn _ (List.mem_iff_getElem?.2 ⟨1, rfl⟩)
  have e9 : vs 9 = .pointer (some ⟨nb 9, 0, none⟩) := hn _ (List.mem_iff_getElem?.2 ⟨2, rfl⟩)
  have E : Fr w [(nb 7, 2, Fq.num (Int.gcd m1 m2 : Int)), (nb 8, 2, Fq.num (bezU m1 m2)), (nb 9, 2, Fq.num (bezV m1 m2)), (b6, 2, Fq.num 0), (b5, 2, Fq.num 0), (b4, 2, Fq.num m2), (b3, 2, Fq.num r2), (b2, 2, Fq.num m1), (b1, 2, Fq.num r1)] w10 := E10
  rw [lay_all hL]
  simp only [putAll, dstOf, List.length_cons, List.length_nil, Nat.zero_add, Nat.reduceAdd, List.getElem?_toArray, List.getElem?_cons_zero, List.getElem?_cons_succ, Option.bind_some, Act.put, List.setIfInBounds_toArray, List.set_cons_succ, List.set_cons_zero]
  rw [e7, e8, e9]
  generalize nb 7 = b10_7 at E ⊢
  generalize nb 8 = b10_8 at E ⊢
  generalize nb 9 = b10_9 at E ⊢
  generalize vs 0 = u10_0
  generalize vs 1 = u10_1
  generalize vs 2 = u10_2
  generalize vs 3 = u10_3
  generalize vs 4 = u10_4
  generalize vs 5 = u10_5
  generalize vs 6 = u10_6
  clear e7 e8 e9 hC hn E10 hL vs L nb
  go_upto_region 4 with (fail)
  have B11 : Hid (ab ((r2 - r1)) < pw 101) := ab_subB hc.out ha.out (by omega) (by omega)
  have B12 : Hid (ab (((r2 - r1) / (Int.gcd m1 m2 : Int))) < pw 102) := ab_divB B11.out (by omega)
  have B13 : Hid (ab (((r2 - r1) % (Int.gcd m1 m2 : Int))) < pw 100) := ab_modB HG.out B8.out
  refine region_fr (C := [Fq.num r2, Fq.num r1, Fq.num (r2 - r1), Fq.num (Int.gcd m1 m2 : Int), Fq.tup3 (Fq.num ((r2 - r1) / (Int.gcd m1 m2 : Int))) (Fq.num ((r2 - r1) % (Int.gcd m1 m2 : Int))) (Fq.is (.int .i64 0)), Fq.tup3 (Fq.num ((r2 - r1) / (Int.gcd m1 m2 : Int))) (Fq.num ((r2 - r1) % (Int.gcd m1 m2 : Int))) (Fq.is (.int .i64 0)), Fq.num ((r2 - r1) / (Int.gcd m1 m2 : Int)), Fq.num ((r2 - r1) % (Int.gcd m1 m2 : Int)), Fq.is (.int .i64 0), Fq.any, Fq.any, Fq.any, Fq.any, Fq.is (.int .i64 0)]) (ks := [none, none, none, none, none, none, none, none, none]) (new := [⟨9, 11, 2, Fq.num 0, Fq.num ((r2 - r1) / (Int.gcd m1 m2 : Int)), none⟩, ⟨10, 12, 2, Fq.num 0, Fq.num ((r2 - r1) % (Int.gcd m1 m2 : Int)), none⟩]) E rfl (by kernel_rfl) rfl rfl (fun hp => ⟨?_, ?_, ?_, ?_, ?_, ?_, ?_, ?_, ?_, ?_, ?_, ?_, ?_, ?_, trivial⟩) ?_
  · exact q_loadInt (off := 0) hp (free_of rfl) trivial (List.mem_iff_getElem?.2 ⟨6, rfl⟩) (.inl rfl) (Nat.le_of_ble_eq_true rfl) (sq_out rfl rfl (fun _ _ => rfl)) (fun us w hl h => ld_num hl h)
  · exact q_loadInt (off := 0) hp (free_of rfl) trivial (List.mem_iff_getElem?.2 ⟨8, rfl⟩) (.inl rfl) (Nat.le_of_ble_eq_true rfl) (sq_out rfl rfl (fun _ _ => rfl)) (fun us w hl h => ld_num hl h)
  · exact q_call2 (F := (Fq.num r2).P) (G := (Fq.num r1).P) hp (free_of rfl) trivial (enq_Sub) (sqi 0) (sqi 1) (fun v v' w h h' => exK (SubV h h') B11.out (by omega))
  · exact q_loadInt (off := 0) hp (free_of rfl) trivial (List.mem_iff_getElem?.2 ⟨0, rfl⟩) (.inl rfl) (Nat.le_of_ble_eq_true rfl) (sq_out rfl rfl (fun _ _ => rfl)) (fun us w hl h => ld_num hl h)
  · exact q_call2 (F := (Fq.num (r2 - r1)).P) (G := (Fq.num (Int.gcd m1 m2 : Int)).P) hp (free_of rfl) trivial (enq_DivMod) (sqi 2) (sqi 3) (fun v v' w h h' => exDMq h h' HG.out B12.out B13.out (by omega) (by omega))
  · exact q_move hp (free_of rfl) trivial (sqi 4)
  · exact q_extract3 hp (free_of rfl) trivial (sqi 5) (fun v1 v2 v3 w h1 h2 h3 => ⟨_, rfl, h1⟩)
  · exact q_extract3 hp (free_of rfl) trivial (sqi 5) (fun v1 v2 v3 w h1 h2 h3 => ⟨_, rfl, h2⟩)
  · exact q_extract3 hp (free_of rfl) trivial (sqi 5) (fun v1 v2 v3 w h1 h2 h3 => ⟨_, rfl, h3⟩)
  · exact q_allocInt hp (List.mem_iff_getElem?.2 ⟨0, rfl⟩) rfl rfl rfl rfl (Nat.ne_of_beq_eq_false rfl) (fun _ _ => trivial) (old_ne rfl) (newk_ne rfl) (fun w => Num.zero w)
  · exact q_allocInt hp (List.mem_iff_getElem?.2 ⟨1, rfl⟩) rfl rfl rfl rfl (Nat.ne_of_beq_eq_false rfl) (fun _ _ => trivial) (old_ne rfl) (newk_ne rfl) (fun w => Num.zero w)
  · exact q_storeNewInt hp (List.mem_iff_getElem?.2 ⟨0, rfl⟩) rfl rfl rfl (own_ptr rfl rfl (by simp) rfl) (sq_in 6 rfl rfl (by simp) rfl (fun v w h => intV_num h)) (fun _ _ => trivial) (old_ne rfl) (newi_ne rfl)
  · exact q_storeNewInt hp (List.mem_iff_getElem?.2 ⟨1, rfl⟩) rfl rfl rfl (own_ptr rfl rfl (by simp) rfl) (sq_in 7 rfl rfl (by simp) rfl (fun v w h => intV_num h)) (fun _ _ => trivial) (old_ne rfl) (newi_ne rfl)
  · exact q_assign hp (free_of rfl) trivial (sqi 8)
  intro L vs w14 nb hL hC hn E14
  have e8 : vs 8 = .int .i64 0 := hC 8 (by simp)
  have e13 : vs 13 = .int .i64 0 := hC 13 (by simp)
  have e9 : vs 9 = .pointer (some ⟨nb 9, 0, none⟩) := hn _ (List.mem_iff_getElem?.2 ⟨0, rfl⟩)
  have e10 : vs 10 = .pointer (some ⟨nb 10, 0, none⟩) := hn _ (List.mem_iff_getElem?.2 ⟨1, rfl⟩)
  have E : Fr w [(nb 9, 2, Fq.num ((r2 - r1) / (Int.gcd m1 m2 : Int))), (nb 10, 2, Fq.num ((r2 - r1) % (Int.gcd m1 m2 : Int))), (b10_7, 2, Fq.num (Int.gcd m1 m2 : Int)), (b10_8, 2, Fq.num (bezU m1 m2)), (b10_9, 2, Fq.num (bezV m1 m2)), (b6, 2, Fq.num 0), (b5, 2, Fq.num 0), (b4, 2, Fq.num m2), (b3, 2, Fq.num r2), (b2, 2, Fq.num m1), (b1, 2, Fq.num r1)] w14 := E14
  rw [lay_all hL]
  simp only [putAll, dstOf, List.length_cons, List.length_nil, Nat.zero_add, Nat.reduceAdd, List.getElem?_toArray, List.getElem?_cons_zero, List.getElem?_cons_succ, Option.bind_some, Act.put, List.setIfInBounds_toArray, List.set_cons_succ, List.set_cons_zero]
  rw [e8, e13, e9, e10]
  generalize nb 9 = b14_9 at E ⊢
  generalize nb 10 = b14_10 at E ⊢
  generalize vs 0 = u14_0
  generalize vs 1 = u14_1
  generalize vs 2 = u14_2
  generalize vs 3 = u14_3
  generalize vs 4 = u14_4
  generalize vs 5 = u14_5
  generalize vs 6 = u14_6
  generalize vs 7 = u14_7
  clear e8 e13 e9 e10 hC hn E14 hL vs L nb
  go_upto_region 5 with (fail)
  refine region_fr (C := [Fq.num ((r2 - r1) % (Int.gcd m1 m2 : Int)), Fq.is (.int .i64 (cmpI ((r2 - r1) % (Int.gcd m1 m2 : Int)) 0)), Fq.is (.bool true)]) (ks := [none, none, none, none, none, none, none, none, none, none, none]) (new := []) E rfl (by kernel_rfl) rfl rfl (fun hp => ⟨?_, ?_, ?_, trivial⟩) ?_
  · exact q_loadInt (off := 0) hp (free_of rfl) trivial (List.mem_iff_getElem?.2 ⟨1, rfl⟩) (.inl rfl) (Nat.le_of_ble_eq_true rfl) (sq_out rfl rfl (fun _ _ => rfl)) (fun us w hl h => ld_num hl h)
  · exact q_call1 (F := (Fq.num ((r2 - r1) % (Int.gcd m1 m2 : Int))).P) hp (free_of rfl) trivial (enq_Sign) (sqi 0) (fun v w h => exSign h)
  · exact q_one (F := fun v _ => v = .int .i64 (cmpI ((r2 - r1) % (Int.gcd m1 m2 : Int)) 0)) hp (free_of rfl) trivial (sqi 1) (fun ρ w hc h => ⟨.bool true, by simp [execOp, go_sem, h, hc, T3.out], rfl⟩)
  intro L vs w15 nb hL hC hn E15
  have e1 : vs 1 = .int .i64 (cmpI ((r2 - r1) % (Int.gcd m1 m2 : Int)) 0) := hC 1 (by simp)
  have e2 : vs 2 = .bool true := hC 2 (by simp)
  have E : Fr w [(b14_9, 2, Fq.num ((r2 - r1) / (Int.gcd m1 m2 : Int))), (b14_10, 2, Fq.num ((r2 - r1) % (Int.gcd m1 m2 : Int))), (b10_7, 2, Fq.num (Int.gcd m1 m2 : Int)), (b10_8, 2, Fq.num (bezU m1 m2)), (b10_9, 2, Fq.num (bezV m1 m2)), (b6, 2, Fq.num 0), (b5, 2, Fq.num 0), (b4, 2, Fq.num m2), (b3, 2, Fq.num r2), (b2, 2, Fq.num m1), (b1, 2, Fq.num r1)] w15 := E15
  rw [lay_all hL]
  simp only [putAll, dstOf, List.length_cons, List.length_nil, Nat.zero_add, Nat.reduceAdd, List.getElem?_toArray, List.getElem?_cons_zero, List.getElem?_cons_succ, Option.bind_some, Act.put, List.setIfInBounds_toArray, List.set_cons_succ, List.set_cons_zero]
  rw [e1, e2]
  generalize vs 0 = u15_0
  clear e1 e2 hC hn E15 hL vs L nb
  clear T3
  go_upto_region 6 with (fail)
  refine region_fr (C := [Fq.num 0, Fq.num 0, Fq.any, Fq.any, Fq.is (.int .i64 6)]) (ks := [none, none, none, none, none, some (3, Fq.num 0), some (2, Fq.num 0), none, none, none, none]) (new := []) E rfl (by kernel_rfl) rfl rfl (fun hp => ⟨?_, ?_, ?_, ?_, ?_, trivial⟩) ?_
  · exact q_zeroInt hp (free_of rfl) trivial (fun w => Num.zero w)
  · exact q_zeroInt hp (free_of rfl) trivial (fun w => Num.zero w)
  · exact q_storeOldInt hp (List.mem_iff_getElem?.2 ⟨6, rfl⟩) rfl rfl (sq_out rfl rfl (fun _ _ => rfl)) (sq_in 0 rfl rfl (by simp) rfl (fun v w h => intV_num h)) (fun _ _ => trivial) (newik_ne rfl)
  · exact q_storeOldInt hp (List.mem_iff_getElem?.2 ⟨5, rfl⟩) rfl rfl (sq_out rfl rfl (fun _ _ => rfl)) (sq_in 1 rfl rfl (by simp) rfl (fun v w h => intV_num h)) (fun _ _ => trivial) (newik_ne rfl)
  · exact q_assign hp (free_of rfl) trivial (sq_const (fun _ => rfl))
  intro L vs w16 nb hL hC hn E16
  have e4 : vs 4 = .int .i64 6 := hC 4 (by simp)
  have E : Fr w [(b14_9, 2, Fq.num ((r2 - r1) / (Int.gcd m1 m2 : Int))), (b14_10, 2, Fq.num ((r2 - r1) % (Int.gcd m1 m2 : Int))), (b10_7, 2, Fq.num (Int.gcd m1 m2 : Int)), (b10_8, 2, Fq.num (bezU m1 m2)), (b10_9, 2, Fq.num (bezV m1 m2)), (b6, 2, Fq.num 0), (b5, 2, Fq.num 0), (b4, 2, Fq.num m2), (b3, 2, Fq.num r2), (b2, 2, Fq.num m1), (b1, 2, Fq.num r1)] w16 := E16
  rw [lay_all hL]
  simp only [putAll, dstOf, List.length_cons, List.length_nil, Nat.zero_add, Nat.reduceAdd, List.getElem?_toArray, List.getElem?_cons_zero, List.getElem?_cons_succ, Option.bind_some, Act.put, List.setIfInBounds_toArray, List.set_cons_succ, List.set_cons_zero]
  rw [e4]
  generalize vs 0 = u16_0
  generalize vs 1 = u16_1
  clear e4 hC hn E16 hL vs L nb
  clear HP HG HQ HR
  obtain ⟨p0, p1, c0, c1, hP⟩ := box_num (E.box 6 rfl)
  obtain ⟨q0, q1, d0, d1, hQ⟩ := box_num (E.box 5 rfl)
  clear B8 B9 B11 B12 B13 ha hb hc hd
  go_wp2
  refine bodyPost_ret (v := .tuple #[.agg #[p0, p1], .agg #[q0, q1], .int .i64 6]) ?_ rfl ⟨_, rfl, E.below, ⟨_, _, _, rfl, hP, hQ, rfl⟩⟩
  simp [results, Tryz.results18, go_sem, c0, c1, d0, d1]

end Go.Proofs.YtieobgadihcgeaaGreatDoor

namespace Go.Proofs.YtieobgadihcgeaaGreatDoor
open Go Go.RowKit

end Go.Proofs.YtieobgadihcgeaaGreatDoor

namespace Go.Proofs.YtieobgadihcgeaaGreatDoor
open Go Go.RowKit

theorem bits_uniq {v : Int} {m m' : Nat} (h : IsBits v m) (h' : IsBits v m') : m = m' := by
  rcases h with ⟨h1, h2⟩ | ⟨h1, h2, h3⟩ <;> rcases h' with ⟨h4, h5⟩ | ⟨h4, h5, h6⟩
  · omega
  · have := pow_two_pos (m' - 1); omega
  · have := pow_two_pos (m - 1); omega
  · rcases Nat.lt_trichotomy m m' with h | h | h
    · have := two_pow_le (show m ≤ m' - 1 by omega); omega
    · exact h
    · have := two_pow_le (show m' ≤ m - 1 by omega); omega

theorem RBitsV {w : World} {v : Value} {z : Int} (h : Num w v z) : Calls Tryz.prog 61 #[v] w fun e w' => ∃ m : Nat, e = .returned (.int .i64 m) ∧ IsBits (ab z) m ∧ m ≤ 28800000 ∧ Below w.heap.size w w' := by
  obtain ⟨neg, ao, n, c, xs, rfl, hs, hn, rfl, hc, _⟩ := h
  refine (rBits_any _ _ _ _ _ _ hs hc (by omega)).mono fun e w' hh => ?_
  obtain ⟨m, rfl, hm, hm2, hb⟩ := hh
  exact ⟨m, rfl, by rw [ab_sgn, ab_of (val_nonneg hs.digs)]; exact hm, by omega, hb⟩

end Go.Proofs.YtieobgadihcgeaaGreatDoor

namespace Go.Proofs.YtieobgadihcgeaaGreatDoor
open Go Go.RowKit

end Go.Proofs.YtieobgadihcgeaaGreatDoor

namespace Go.Proofs.YtieobgadihcgeaaGreatDoor
open Go Go.RowKit

end Go.Proofs.YtieobgadihcgeaaGreatDoor

namespace Go.Proofs.YtieobgadihcgeaaGreatDoor
open Go Go.RowKit

theorem bit_of_val {xs : List Int} (hd : Digs xs) {k r : Nat} (hk : k < xs.length) (hr : r < 32) : (val xs / 2 ^ (32 * k + r)) % 2 = (xs.getD k 0 / 2 ^ r) % 2 := by
  have h1 := val_split xs (k := k) (by omega)
  have h2 := val_drop_step xs hk
  have h3 := val_lt (hd.take k)
  have h4 := val_nonneg (hd.take k)
  rw [List.length_take, Nat.min_eq_left (by omega)] at h3
  rw [Int.pow_add, ← pw_two, ← Int.ediv_ediv_of_nonneg (by have := pw_pos k; omega)]
  have e1 : val xs / pw k = xs.getD k 0 + 4294967296 * val (xs.drop (k + 1)) := by
    rw [h1, Int.add_mul_ediv_left _ _ (by have := pw_pos k; omega), Int.ediv_eq_zero_of_lt h4 h3, Int.zero_add, h2]
  rw [e1]
  have e2 : (4294967296 : Int) = 2 ^ r * 2 ^ (32 - r) := by rw [← Int.pow_add, show r + (32 - r) = 32 by omega]; rfl
  obtain ⟨m, hm⟩ : ∃ m, 32 - r = m + 1 := ⟨31 - r, by omega⟩
  rw [e2, hm, Int.mul_assoc, Int.add_mul_ediv_left _ _ (by have := pow_two_pos r; omega), pow_two_succ, Int.mul_assoc, Int.mul_left_comm, Int.add_mul_emod_self_left]

theorem and_one (x : Int) (h0 : 0 ≤ x) (h1 : x < 4294967296) : bits .and .u32 x 1 = x % 2 := by
  obtain ⟨n, rfl⟩ := Int.eq_ofNat_of_zero_le h0
  have hn : n < 4294967296 := by omega
  have h2 : (BitVec.ofInt 32 ((n : Nat) : Int)).toNat = n := by rw [BitVec.ofInt_natCast, BitVec.toNat_ofNat]; exact Nat.mod_eq_of_lt (by omega)
  show IntKind.u32.wrap (((BitVec.ofInt 32 (n : Int)) &&& (BitVec.ofInt 32 1)).toNat : Int) = _
  rw [BitVec.toNat_and, h2]
  have h3 : (BitVec.ofInt 32 1).toNat = 1 := rfl
  rw [h3, Nat.and_one_is_mod]
  simp only [IntKind.wrap, IntKind.bits, IntKind.signed]
  simp
  omega

set_option maxRecDepth 20000 in
set_option maxHeartbeats 1000000 in
theorem bit_any (w : World) (na : Bool) (ax : Option Addr) (n cx : Nat) (xs : List Int) (hX : Sl w ax n cx xs) (hb1 : n ≤ 1000000) (i : Nat) (hi : i < 32 * n) :
    Calls Tryz.prog 64 #[.agg #[.bool na, .slice ax n cx], .int .i64 (i : Int)] w fun e w' => e = .returned (.bool (decide ((val xs / 2 ^ i) % 2 = 1))) ∧ Below w.heap.size w w' := by
  have hX0 := hX.mono (alloc_below w (.cells #[.bool na, .slice ax n cx] 29))
  have hk : i / 32 < n := by omega
  obtain ⟨b, off, rfl, hbl, x, hxc, hx0, hx1, HX⟩ := hX0.cells.at (k := i / 32) (by rw [hX.len]; exact hk)
  have hB := bit_of_val hX.digs (k := i / 32) (r := i % 32) (by rw [hX.len]; exact hk) (by omega)
  rw [HX.out, show 32 * (i / 32) + i % 32 = i by omega] at hB
  rw [hB]
  have e3 : 0 ≤ x / 2 ^ (i % 32) ∧ x / 2 ^ (i % 32) < 4294967296 := by
    have h := Int.ediv_nonneg hx0 (show (0 : Int) ≤ 2 ^ (i % 32) by have := pow_two_pos (i % 32); omega)
    have h2 := Int.ediv_le_self (a := x) (2 ^ (i % 32)) hx0
    omega
  have e4 := and_one _ e3.1 e3.2
  have g1 : (0 : Int) ≤ (i : Int) / 32 ∧ (i : Int) / 32 < n := by omega
  have g2 : (0 : Int) ≤ (i : Int) % 32 := by omega
  have HB := hidd hB
  clear hB
  go_enter Tryz.func64, Tryz.ntmps64
  go_wp2
  go_ret
  refine ⟨?_, alloc_below _ _⟩
  by_cases h : x / 2 ^ (i % 32) % 2 = 1 <;> simp [h]

def nbits (z : Int) : Nat := if z = 0 then 0 else z.natAbs.log2 + 1
theorem nbits_isBits (z : Int) : IsBits (ab z) (nbits z) := by
  unfold nbits IsBits ab
  by_cases h : z = 0
  · rw [if_pos h, h]; exact .inl ⟨rfl, rfl⟩
  · rw [if_neg h]
    right
    have h0 : z.natAbs ≠ 0 := by omega
    have h1 := Nat.log2_self_le h0
    have h2 := Nat.lt_log2_self (n := z.natAbs)
    refine ⟨by omega, ?_, ?_⟩
    · rw [show z.natAbs.log2 + 1 - 1 = z.natAbs.log2 by omega]
      exact_mod_cast h1
    · exact_mod_cast h2
theorem nbits_le {z : Int} {k : Nat} (h : ab z < pw k) : nbits z ≤ 32 * k := by
  rcases nbits_isBits z with ⟨_, h2⟩ | ⟨h1, h2, _⟩
  · omega
  · rw [pw_two] at h
    by_cases hc : nbits z ≤ 32 * k
    · exact hc
    · exfalso
      have h3 : (2 : Int) ^ (32 * k) ≤ 2 ^ (nbits z - 1) := two_pow_le (by omega)
      omega
theorem nbits_top {z : Int} : z.natAbs / 2 ^ nbits z = 0 := by
  rcases nbits_isBits z with ⟨h1, _⟩ | ⟨_, _, h3⟩
  · unfold ab at h1
    have : z.natAbs = 0 := by omega
    rw [this]; simp
  · unfold ab at h3
    refine Nat.div_eq_of_lt ?_
    exact_mod_cast h3

theorem exBits {w : World} {v : Value} {z : Int} (h : Num w v z) : Calls Tryz.prog 63 #[v] w fun e w' => ∃ v', e = .returned v' ∧ Below w.heap.size w w' ∧ v' = .int .i64 ((nbits z : Nat) : Int) := by
  obtain ⟨neg, ao, n, c, xs, rfl, hs, hn, rfl, hc, _⟩ := h
  refine (Bits_any _ _ _ _ _ _ hs (by omega)).mono fun e w' hh => ?_
  obtain ⟨m, rfl, hm, _, hb⟩ := hh
  refine ⟨_, rfl, hb, ?_⟩
  have h2 := nbits_isBits (sgn neg (val xs))
  rw [ab_sgn, ab_of (val_nonneg hs.digs)] at h2
  rw [bits_uniq hm h2]
theorem exBit {w : World} {v : Value} {z : Int} {i : Nat} {t : Bool} (h : Num w v z) (hi : i < nbits z) (ht : decide (z.natAbs / 2 ^ i % 2 = 1) = t) : Calls Tryz.prog 64 #[v, .int .i64 (i : Int)] w fun e w' => ∃ v', e = .returned v' ∧ Below w.heap.size w w' ∧ v' = .bool t := by
  obtain ⟨neg, ao, n, c, xs, rfl, hs, hn, hz, hc, _⟩ := h
  have h1 : ab z = val xs := by rw [hz, ab_sgn, ab_of (val_nonneg hs.digs)]
  have h2 : ab z < pw n := by rw [h1]; have := val_lt hs.digs; rwa [hs.len] at this
  refine (bit_any _ _ _ _ _ _ hs (by omega) i (by have := nbits_le h2; omega)).mono fun e w' hh => ?_
  refine ⟨_, hh.1, hh.2, ?_⟩
  rw [← ht, ← h1]
  congr 2
  unfold ab
  refine propext ⟨fun h => ?_, fun h => ?_⟩
  · have : (((z.natAbs / 2 ^ i % 2 : Nat)) : Int) = 1 := by simpa using h
    exact_mod_cast this
  · have : (((z.natAbs / 2 ^ i % 2 : Nat)) : Int) = 1 := by exact_mod_cast h
    simpa using this

theorem measP {i : Nat} : (intOf (.int .i64 ((i : Int) - 1)) + 1).toNat < (intOf (.int .i64 (i : Int)) + 1).toNat := by simp [intOf]
theorem pow_mod_mul (p m : Int) : ((p % m) * (p % m)) % m = (p * p) % m := by rw [← Int.mul_emod]
theorem pow_step {B m : Int} {N i : Nat} {z : Int} (hz : z = B ^ (N / 2 ^ (i + 1)) % m) :
    (N / 2 ^ i % 2 = 1 → (((z * z) % m) * B) % m = B ^ (N / 2 ^ i) % m) ∧ (¬ N / 2 ^ i % 2 = 1 → (z * z) % m = B ^ (N / 2 ^ i) % m) := by
  have e1 : N / 2 ^ (i + 1) = N / 2 ^ i / 2 := by rw [Nat.pow_succ, Nat.div_div_eq_div_mul]
  generalize N / 2 ^ i = q at *
  rw [e1] at hz
  have e2 : (z * z) % m = B ^ (q / 2 + q / 2) % m := by rw [hz, pow_mod_mul, Int.pow_add]
  constructor
  · intro h
    have e3 : q = q / 2 + q / 2 + 1 := by omega
    rw [e2]
    conv => rhs; rw [e3, Int.pow_succ]
    rw [Int.mul_emod, Int.emod_emod_of_dvd _ (Int.dvd_refl _), ← Int.mul_emod]
  · intro h
    have e3 : q = q / 2 + q / 2 := by omega
    rw [e2]
    conv => rhs; rw [e3]

end Go.Proofs.YtieobgadihcgeaaGreatDoor

namespace Go.Proofs.YtieobgadihcgeaaGreatDoor
open Go Go.RowKit

noncomputable def powM (a n m : Int) : Int := (if 0 ≤ n then a % m else bezU (a % m) m) ^ n.natAbs % m

set_option maxRecDepth 100000 in
set_option maxHeartbeats 4000000 in
theorem exPowZ {w : World} {v v' u : Value} {a n m : Int} (h : Num w v a) (h' : Num w v' n) (g : Num w u m) (ha : ab a < pw 100) (hn : ab n < pw 100) (hm : ab m < pw 100) (h0 : m ≤ 0) :
    Calls Tryz.prog 33 #[v, v', u] w fun e w' => ∃ v', e = .returned v' ∧ Below w.heap.size w w' ∧ (Fq.tup2 (Fq.num 0) (Fq.is (.int .i64 1))).P v' w' := by
  replace ha := hidd ha
  replace hn := hidd hn
  replace hm := hidd hm
  obtain ⟨n0, ao0, k0, c0, rfl⟩ := h.parts
  obtain ⟨n1, ao1, k1, c1, rfl⟩ := h'.parts
  obtain ⟨n2, ao2, k2, c2, rfl⟩ := g.parts
  obtain ⟨w1, b1, hw1, hb1, hs1, E⟩ := fr_start w (F := Fq.num a) (us := [.bool n0, .slice ao0 k0 c0]) 29 rfl (by simp) (tame_int _ _ _ _) h
  obtain ⟨w2, b2, hw2, hb2, hs2, E⟩ := fr_more E hs1 (F := Fq.num n) (us := [.bool n1, .slice ao1 k1 c1]) 29 rfl (by simp) (tame_int _ _ _ _) (h'.mono E.below)
  obtain ⟨w3, b3, hw3, hb3, hs3, E⟩ := fr_more E hs2 (F := Fq.num m) (us := [.bool n2, .slice ao2 k2 c2]) 29 rfl (by simp) (tame_int _ _ _ _) (g.mono E.below)
  obtain ⟨w4, b4, hw4, hb4, hs4, E⟩ := fr_more E hs3 (F := Fq.num 0) (us := [.bool false, .slice none 0 0]) 29 rfl (by simp) (tame_int _ _ _ _) (Num.zero _)
  go_enter Tryz.func33, Tryz.ntmps33
  go_upto_region 1 with (fail)
  rw [← hw1]
  rw [← hw2]
  rw [← hw3]
  rw [← hw4]
  rw [← hb4]
  rw [← hb3]
  rw [← hb2]
  rw [← hb1]
  clear hw1 hw2 hw3 hw4 hb1 hb2 hb3 hb4 hs4 hs1 hs2 hs3
  have T1 : Hid (cmpI m 0 ≤ 0) := cmpI_le0.2 h0
  clear h0
  refine region_fr (C := [Fq.num m, Fq.is (.int .i64 (cmpI m 0)), Fq.is (.bool true)]) (ks := [none, none, none, none]) (new := []) E rfl (by kernel_rfl) rfl rfl (fun hp => ⟨?_, ?_, ?_, trivial⟩) ?_
  · exact q_loadInt (off := 0) hp (free_of rfl) trivial (List.mem_iff_getElem?.2 ⟨1, rfl⟩) (.inl rfl) (Nat.le_of_ble_eq_true rfl) (sq_out rfl rfl (fun _ _ => rfl)) (fun us w hl h => ld_num hl h)
  · exact q_call1 (F := (Fq.num m).P) hp (free_of rfl) trivial (enq_Sign) (sqi 0) (fun v w h => exSign h)
  · exact q_one (F := fun v _ => v = .int .i64 (cmpI m 0)) hp (free_of rfl) trivial (sqi 1) (fun ρ w hc h => ⟨.bool true, by simp [execOp, go_sem, h, hc, T1.out], rfl⟩)
  intro L vs w5 nb hL hC hn E5
  have e1 : vs 1 = .int .i64 (cmpI m 0) := hC 1 (by simp)
  have e2 : vs 2 = .bool true := hC 2 (by simp)
  have E : Fr w [(b4, 2, Fq.num 0), (b3, 2, Fq.num m), (b2, 2, Fq.num n), (b1, 2, Fq.num a)] w5 := E5
  rw [lay_all hL]
  simp only [putAll, dstOf, List.length_cons, List.length_nil, Nat.zero_add, Nat.reduceAdd, List.getElem?_toArray, List.getElem?_cons_zero, List.getElem?_cons_succ, Option.bind_some, Act.put, List.setIfInBounds_toArray, List.set_cons_succ, List.set_cons_zero]
  rw [e1, e2]
  generalize vs 0 = u5_0
  clear e1 e2 hC hn E5 hL vs L nb
  clear T1
  go_upto_region 2 with (fail)
  refine region_fr (C := [Fq.num 0, Fq.any, Fq.is (.int .i64 1)]) (ks := [some (1, Fq.num 0), none, none, none]) (new := []) E rfl (by kernel_rfl) rfl rfl (fun hp => ⟨?_, ?_, ?_, trivial⟩) ?_
  · exact q_zeroInt hp (free_of rfl) trivial (fun w => Num.zero w)
  · exact q_storeOldInt hp (List.mem_iff_getElem?.2 ⟨0, rfl⟩) rfl rfl (sq_out rfl rfl (fun _ _ => rfl)) (sq_in 0 rfl rfl (by simp) rfl (fun v w h => intV_num h)) (fun _ _ => trivial) (newik_ne rfl)
  · exact q_assign hp (free_of rfl) trivial (sq_const (fun _ => rfl))
  intro L vs w6 nb hL hC hn E6
  have e2 : vs 2 = .int .i64 1 := hC 2 (by simp)
  have E : Fr w [(b4, 2, Fq.num 0), (b3, 2, Fq.num m), (b2, 2, Fq.num n), (b1, 2, Fq.num a)] w6 := E6
  rw [lay_all hL]
  simp only [putAll, dstOf, List.length_cons, List.length_nil, Nat.zero_add, Nat.reduceAdd, List.getElem?_toArray, List.getElem?_cons_zero, List.getElem?_cons_succ, Option.bind_some, Act.put, List.setIfInBounds_toArray, List.set_cons_succ, List.set_cons_zero]
  rw [e2]
  generalize vs 0 = u6_0
  clear e2 hC hn E6 hL vs L nb
  obtain ⟨p0, p1, c0, c1, hP⟩ := box_num (E.box 0 rfl)
  clear ha hn hm
  go_wp2
  refine bodyPost_ret (v := .tuple #[.agg #[p0, p1], .int .i64 1]) ?_ rfl ⟨_, rfl, E.below, ⟨_, _, rfl, hP, rfl⟩⟩
  simp [results, Tryz.results33, go_sem, c0, c1]

set_option maxRecDepth 100000 in
set_option maxHeartbeats 4000000 in
theorem exPowE {w : World} {v v' u : Value} {a n m : Int} (h : Num w v a) (h' : Num w v' n) (g : Num w u m) (ha : ab a < pw 100) (hn : ab n < pw 100) (hm : ab m < pw 100) (h0 : 0 < m) (h1 : n < 0) (hg : Int.gcd (a % m) m ≠ 1) :
    Calls Tryz.prog 33 #[v, v', u] w fun e w' => ∃ v', e = .returned v' ∧ Below w.heap.size w w' ∧ (Fq.tup2 (Fq.num 0) (Fq.is (.int .i64 4))).P v' w' := by
  replace ha := hidd ha
  replace hn := hidd hn
  replace hm := hidd hm
  obtain ⟨n0, ao0, k0, c0, rfl⟩ := h.parts
  obtain ⟨n1, ao1, k1, c1, rfl⟩ := h'.parts
  obtain ⟨n2, ao2, k2, c2, rfl⟩ := g.parts
  obtain ⟨w1, b1, hw1, hb1, hs1, E⟩ := fr_start w (F := Fq.num a) (us := [.bool n0, .slice ao0 k0 c0]) 29 rfl (by simp) (tame_int _ _ _ _) h
  obtain ⟨w2, b2, hw2, hb2, hs2, E⟩ := fr_more E hs1 (F := Fq.num n) (us := [.bool n1, .slice ao1 k1 c1]) 29 rfl (by simp) (tame_int _ _ _ _) (h'.mono E.below)
  obtain ⟨w3, b3, hw3, hb3, hs3, E⟩ := fr_more E hs2 (F := Fq.num m) (us := [.bool n2, .slice ao2 k2 c2]) 29 rfl (by simp) (tame_int _ _ _ _) (g.mono E.below)
  obtain ⟨w4, b4, hw4, hb4, hs4, E⟩ := fr_more E hs3 (F := Fq.num 0) (us := [.bool false, .slice none 0 0]) 29 rfl (by simp) (tame_int _ _ _ _) (Num.zero _)
  go_enter Tryz.func33, Tryz.ntmps33
  go_upto_region 1 with (fail)
  rw [← hw1]
  rw [← hw2]
  rw [← hw3]
  rw [← hw4]
  rw [← hb4]
  rw [← hb3]
  rw [← hb2]
  rw [← hb1]
  clear hw1 hw2 hw3 hw4 hb1 hb2 hb3 hb4 hs4 hs1 hs2 hs3
  have T1 : Hid (¬ cmpI m 0 ≤ 0) := fun e => by have := cmpI_le0.1 e; omega
  have HM : Hid (m ≠ 0) := by show _ ≠ _; omega
  have HP := hidd h0
  clear h0
  refine region_fr (C := [Fq.num m, Fq.is (.int .i64 (cmpI m 0)), Fq.is (.bool false)]) (ks := [none, none, none, none]) (new := []) E rfl (by kernel_rfl) rfl rfl (fun hp => ⟨?_, ?_, ?_, trivial⟩) ?_
  · exact q_loadInt (off := 0) hp (free_of rfl) trivial (List.mem_iff_getElem?.2 ⟨1, rfl⟩) (.inl rfl) (Nat.le_of_ble_eq_true rfl) (sq_out rfl rfl (fun _ _ => rfl)) (fun us w hl h => ld_num hl h)
  · exact q_call1 (F := (Fq.num m).P) hp (free_of rfl) trivial (enq_Sign) (sqi 0) (fun v w h => exSign h)
  · exact q_one (F := fun v _ => v = .int .i64 (cmpI m 0)) hp (free_of rfl) trivial (sqi 1) (fun ρ w hc h => ⟨.bool false, by simp [execOp, go_sem, h, hc, T1.out], rfl⟩)
  intro L vs w5 nb hL hC hn E5
  have e1 : vs 1 = .int .i64 (cmpI m 0) := hC 1 (by simp)
  have e2 : vs 2 = .bool false := hC 2 (by simp)
  have E : Fr w [(b4, 2, Fq.num 0), (b3, 2, Fq.num m), (b2, 2, Fq.num n), (b1, 2, Fq.num a)] w5 := E5
  rw [lay_all hL]
  simp only [putAll, dstOf, List.length_cons, List.length_nil, Nat.zero_add, Nat.reduceAdd, List.getElem?_toArray, List.getElem?_cons_zero, List.getElem?_cons_succ, Option.bind_some, Act.put, List.setIfInBounds_toArray, List.set_cons_succ, List.set_cons_zero]
  rw [e1, e2]
  generalize vs 0 = u5_0
  clear e1 e2 hC hn E5 hL vs L nb
  clear T1
  go_upto_region 3 with (fail)
  refine region_frS (same := [(2, 1)]) (C := [Fq.num m, Fq.any, Fq.any]) (ks := [none, none, none, none]) (new := [⟨1, 1, 2, Fq.num m, Fq.num m, (some (.clo 57))⟩]) E rfl (by kernel_rfl) rfl rfl (fun hp => ⟨?_, ?_, ?_, trivial⟩) ?_
  · exact stepS_of (q_loadInt (off := 0) hp (free_of rfl) trivial (List.mem_iff_getElem?.2 ⟨1, rfl⟩) (.inl rfl) (Nat.le_of_ble_eq_true rfl) (sq_out rfl rfl (fun _ _ => rfl)) (fun us w hl h => ld_num hl h)) rfl
  · exact stepS_of (q_callMake (F := (Fq.num m).P) hp enq_M_within (List.mem_iff_getElem?.2 ⟨0, rfl⟩) rfl rfl rfl (sqi 0) (fun v w h => exWithin h) (fun _ _ => trivial) (old_ne rfl) (newks_ne rfl)) rfl
  · exact stepS_assign hp (free_of rfl) rfl (j := 1) rfl (by simp) rfl (fun _ _ => trivial) rfl (Nat.ne_of_beq_eq_false rfl)
  intro L vs w6 nb hsm hL hC hn E6
  have e1 : vs 1 = cloV 57 (nb 1) := hn _ (List.mem_iff_getElem?.2 ⟨0, rfl⟩)
  have e2 : vs 2 = cloV 57 (nb 1) := (hsm (2, 1) (by simp) (Nat.lt_of_sub_eq_succ rfl)).trans e1
  have E : Fr w [(nb 1, 2, Fq.num m), (b4, 2, Fq.num 0), (b3, 2, Fq.num m), (b2, 2, Fq.num n), (b1, 2, Fq.num a)] w6 := E6
  rw [lay_all hL]
  simp only [putAll, dstOf, List.length_cons, List.length_nil, Nat.zero_add, Nat.reduceAdd, List.getElem?_toArray, List.getElem?_cons_zero, List.getElem?_cons_succ, Option.bind_some, Act.put, List.setIfInBounds_toArray, List.set_cons_succ, List.set_cons_zero]
  rw [e1, e2]
  generalize nb 1 = b6_1 at E ⊢
  generalize vs 0 = u6_0
  clear e1 e2 hsm hC hn E6 hL vs L nb
  go_upto_region 4 with (fail)
  have B7 : Hid (ab ((a % m)) < pw 100) := ab_modB HM.out hm.out
  refine region_fr (C := [Fq.is (cloV 57 b6_1), Fq.num a, Fq.num (a % m), Fq.any, Fq.any]) (ks := [none, none, none, none, none]) (new := [⟨3, 4, 2, Fq.num 0, Fq.num (a % m), none⟩]) E rfl (by kernel_rfl) rfl rfl (fun hp => ⟨?_, ?_, ?_, ?_, ?_, trivial⟩) ?_
  · exact q_move hp (free_of rfl) trivial (sq_out rfl rfl (fun _ _ => rfl))
  · exact q_loadInt (off := 0) hp (free_of rfl) trivial (List.mem_iff_getElem?.2 ⟨4, rfl⟩) (.inl rfl) (Nat.le_of_ble_eq_true rfl) (sq_out rfl rfl (fun _ _ => rfl)) (fun us w hl h => ld_num hl h)
  · exact q_callCloOut (F := (Fq.num a).P) hp (free_of rfl) trivial enq_M_within1 (List.mem_iff_getElem?.2 ⟨0, rfl⟩) rfl (sqi 0) (sqi 1) (fun v w h hb => exResidue h hb HM.out (Int.lt_of_lt_of_le ha.out (pw_le (by omega))) (Int.lt_of_lt_of_le hm.out (pw_le (by omega))))
  · exact q_allocInt hp (List.mem_iff_getElem?.2 ⟨0, rfl⟩) rfl rfl rfl rfl (Nat.ne_of_beq_eq_false rfl) (fun _ _ => trivial) (old_ne rfl) (newk_ne rfl) (fun w => Num.zero w)
  · exact q_storeNewInt hp (List.mem_iff_getElem?.2 ⟨0, rfl⟩) rfl rfl rfl (own_ptr rfl rfl (by simp) rfl) (sq_in 2 rfl rfl (by simp) rfl (fun v w h => intV_num h)) (fun _ _ => trivial) (old_ne rfl) (newi_ne rfl)
  intro L vs w8 nb hL hC hn E8
  have e0 : vs 0 = cloV 57 b6_1 := hC 0 (by simp)
  have e3 : vs 3 = .pointer (some ⟨nb 3, 0, none⟩) := hn _ (List.mem_iff_getElem?.2 ⟨0, rfl⟩)
  have E : Fr w [(nb 3, 2, Fq.num (a % m)), (b6_1, 2, Fq.num m), (b4, 2, Fq.num 0), (b3, 2, Fq.num m), (b2, 2, Fq.num n), (b1, 2, Fq.num a)] w8 := E8
  rw [lay_all hL]
  simp only [putAll, dstOf, List.length_cons, List.length_nil, Nat.zero_add, Nat.reduceAdd, List.getElem?_toArray, List.getElem?_cons_zero, List.getElem?_cons_succ, Option.bind_some, Act.put, List.setIfInBounds_toArray, List.set_cons_succ, List.set_cons_zero]
  rw [e0, e3]
  generalize nb 3 = b8_3 at E ⊢
  generalize vs 1 = u8_1
  generalize vs 2 = u8_2
  clear e0 e3 hC hn E8 hL vs L nb
  have T2 : Hid (cmpI n 0 < 0) := cmpIqlt.2 h1
  have HG : Hid (Int.gcd (a % m) m ≠ 1) := hg
  clear h1 hg
  go_upto_region 5 with (fail)
  refine region_fr (C := [Fq.num n, Fq.is (.int .i64 (cmpI n 0)), Fq.is (.bool true)]) (ks := [none, none, none, none, none, none]) (new := []) E rfl (by kernel_rfl) rfl rfl (fun hp => ⟨?_, ?_, ?_, trivial⟩) ?_
  · exact q_loadInt (off := 0) hp (free_of rfl) trivial (List.mem_iff_getElem?.2 ⟨4, rfl⟩) (.inl rfl) (Nat.le_of_ble_eq_true rfl) (sq_out rfl rfl (fun _ _ => rfl)) (fun us w hl h => ld_num hl h)
  · exact q_call1 (F := (Fq.num n).P) hp (free_of rfl) trivial (enq_Sign) (sqi 0) (fun v w h => exSign h)
  · exact q_one (F := fun v _ => v = .int .i64 (cmpI n 0)) hp (free_of rfl) trivial (sqi 1) (fun ρ w hc h => ⟨.bool true, by simp [execOp, go_sem, h, hc, T2.out], rfl⟩)
  intro L vs w9 nb hL hC hn E9
  have e1 : vs 1 = .int .i64 (cmpI n 0) := hC 1 (by simp)
  have e2 : vs 2 = .bool true := hC 2 (by simp)
  have E : Fr w [(b8_3, 2, Fq.num (a % m)), (b6_1, 2, Fq.num m), (b4, 2, Fq.num 0), (b3, 2, Fq.num m), (b2, 2, Fq.num n), (b1, 2, Fq.num a)] w9 := E9
  rw [lay_all hL]
  simp only [putAll, dstOf, List.length_cons, List.length_nil, Nat.zero_add, Nat.reduceAdd, List.getElem?_toArray, List.getElem?_cons_zero, List.getElem?_cons_succ, Option.bind_some, Act.put, List.setIfInBounds_toArray, List.set_cons_succ, List.set_cons_zero]
  rw [e1, e2]
  generalize vs 0 = u9_0
  clear e1 e2 hC hn E9 hL vs L nb
  clear T2
  go_upto_region 6 with (fail)
  refine region_fr (C := [Fq.num (a % m), Fq.num m, Fq.tup2 (Fq.num 0) (Fq.is (.int .i64 4)), Fq.tup2 (Fq.num 0) (Fq.is (.int .i64 4)), Fq.num 0, Fq.is (.int .i64 4), Fq.any, Fq.any, Fq.is (.int .i64 4)]) (ks := [none, none, none, none, none, none]) (new := [⟨6, 7, 2, Fq.num 0, Fq.num 0, none⟩]) E rfl (by kernel_rfl) rfl rfl (fun hp => ⟨?_, ?_, ?_, ?_, ?_, ?_, ?_, ?_, ?_, trivial⟩) ?_
  · exact q_loadInt (off := 0) hp (free_of rfl) trivial (List.mem_iff_getElem?.2 ⟨0, rfl⟩) (.inl rfl) (Nat.le_of_ble_eq_true rfl) (sq_out rfl rfl (fun _ _ => rfl)) (fun us w hl h => ld_num hl h)
  · exact q_loadInt (off := 0) hp (free_of rfl) trivial (List.mem_iff_getElem?.2 ⟨3, rfl⟩) (.inl rfl) (Nat.le_of_ble_eq_true rfl) (sq_out rfl rfl (fun _ _ => rfl)) (fun us w hl h => ld_num hl h)
  · exact q_call2 (F := (Fq.num (a % m)).P) (G := (Fq.num m).P) hp (free_of rfl) trivial (enq_M_Inv) (sqi 0) (sqi 1) (fun v v' w h h' => exInvN h h' (Int.lt_of_lt_of_le B7.out (pw_le (by omega))) (Int.lt_of_lt_of_le hm.out (pw_le (by omega))) HP.out HG.out)
  · exact q_move hp (free_of rfl) trivial (sqi 2)
  · exact q_extract2 hp (free_of rfl) trivial (sqi 3) (fun v1 v2 w h1 h2 => ⟨_, rfl, h1⟩)
  · exact q_extract2 hp (free_of rfl) trivial (sqi 3) (fun v1 v2 w h1 h2 => ⟨_, rfl, h2⟩)
  · exact q_allocInt hp (List.mem_iff_getElem?.2 ⟨0, rfl⟩) rfl rfl rfl rfl (Nat.ne_of_beq_eq_false rfl) (fun _ _ => trivial) (old_ne rfl) (newk_ne rfl) (fun w => Num.zero w)
  · exact q_storeNewInt hp (List.mem_iff_getElem?.2 ⟨0, rfl⟩) rfl rfl rfl (own_ptr rfl rfl (by simp) rfl) (sq_in 4 rfl rfl (by simp) rfl (fun v w h => intV_num h)) (fun _ _ => trivial) (old_ne rfl) (newi_ne rfl)
  · exact q_assign hp (free_of rfl) trivial (sqi 5)
  intro L vs w10 nb hL hC hn E10
  have e5 : vs 5 = .int .i64 4 := hC 5 (by simp)
  have e8 : vs 8 = .int .i64 4 := hC 8 (by simp)
  have e6 : vs 6 = .pointer (some ⟨nb 6, 0, none⟩) := hn _ (List.mem_iff_getElem?.2 ⟨0, rfl⟩)
  have E : Fr w [(nb 6, 2, Fq.num 0), (b8_3, 2, Fq.num (a % m)), (b6_1, 2, Fq.num m), (b4, 2, Fq.num 0), (b3, 2, Fq.num m), (b2, 2, Fq.num n), (b1, 2, Fq.num a)] w10 := E10
  rw [lay_all hL]
  simp only [putAll, dstOf, List.length_cons, List.length_nil, Nat.zero_add, Nat.reduceAdd, List.getElem?_toArray, List.getElem?_cons_zero, List.getElem?_cons_succ, Option.bind_some, Act.put, List.setIfInBounds_toArray, List.set_cons_succ, List.set_cons_zero]
  rw [e5, e8, e6]
  generalize nb 6 = b10_6 at E ⊢
  generalize vs 0 = u10_0
  generalize vs 1 = u10_1
  generalize vs 2 = u10_2
  generalize vs 3 = u10_3
  generalize vs 4 = u10_4
  clear e5 e8 e6 hC hn E10 hL vs L nb
  go_upto_region 7 with (fail)
  refine region_fr (C := [Fq.is (.int .i64 4), Fq.is (.bool true)]) (ks := [none, none, none, none, none, none, none]) (new := []) E rfl (by kernel_rfl) rfl rfl (fun hp => ⟨?_, ?_, trivial⟩) ?_
  · exact q_move hp (free_of rfl) trivial (sq_out rfl rfl (fun _ _ => rfl))
  · exact q_one (F := fun v _ => v = .int .i64 4) hp (free_of rfl) trivial (sqi 0) (fun ρ w hc h => ⟨.bool true, by simp [execOp, go_sem, h, hc], rfl⟩)
  intro L vs w11 nb hL hC hn E11
  have e0 : vs 0 = .int .i64 4 := hC 0 (by simp)
  have e1 : vs 1 = .bool true := hC 1 (by simp)
  have E : Fr w [(b10_6, 2, Fq.num 0), (b8_3, 2, Fq.num (a % m)), (b6_1, 2, Fq.num m), (b4, 2, Fq.num 0), (b3, 2, Fq.num m), (b2, 2, Fq.num n), (b1, 2, Fq.num a)] w11 := E11
  rw [lay_all hL]
  simp only [putAll, dstOf, List.length_cons, List.length_nil, Nat.zero_add, Nat.reduceAdd, List.getElem?_toArray, List.getElem?_cons_zero, List.getElem?_cons_succ, Option.bind_some, Act.put, List.setIfInBounds_toArray, List.set_cons_succ, List.set_cons_zero]
  rw [e0, e1]
  clear e0 e1 hC hn E11 hL vs L nb
  go_upto_region 8 with (fail)
  refine region_fr (C := [Fq.num 0, Fq.is (.int .i64 4), Fq.any, Fq.is (.int .i64 4)]) (ks := [none, none, none, some (2, Fq.num 0), none, none, none]) (new := []) E rfl (by kernel_rfl) rfl rfl (fun hp => ⟨?_, ?_, ?_, ?_, trivial⟩) ?_
  · exact q_zeroInt hp (free_of rfl) trivial (fun w => Num.zero w)
  · exact q_move hp (free_of rfl) trivial (sq_out rfl rfl (fun _ _ => rfl))
  · exact q_storeOldInt hp (List.mem_iff_getElem?.2 ⟨3, rfl⟩) rfl rfl (sq_out rfl rfl (fun _ _ => rfl)) (sq_in 0 rfl rfl (by simp) rfl (fun v w h => intV_num h)) (fun _ _ => trivial) (newik_ne rfl)
  · exact q_assign hp (free_of rfl) trivial (sqi 1)
  intro L vs w12 nb hL hC hn E12
  have e1 : vs 1 = .int .i64 4 := hC 1 (by simp)
  have e3 : vs 3 = .int .i64 4 := hC 3 (by simp)
  have E : Fr w [(b10_6, 2, Fq.num 0), (b8_3, 2, Fq.num (a % m)), (b6_1, 2, Fq.num m), (b4, 2, Fq.num 0), (b3, 2, Fq.num m), (b2, 2, Fq.num n), (b1, 2, Fq.num a)] w12 := E12
  rw [lay_all hL]
  simp only [putAll, dstOf, List.length_cons, List.length_nil, Nat.zero_add, Nat.reduceAdd, List.getElem?_toArray, List.getElem?_cons_zero, List.getElem?_cons_succ, Option.bind_some, Act.put, List.setIfInBounds_toArray, List.set_cons_succ, List.set_cons_zero]
  rw [e1, e3]
  generalize vs 0 = u12_0
  clear e1 e3 hC hn E12 hL vs L nb
  clear HM HP HG
  obtain ⟨p0, p1, c0, c1, hP⟩ := box_num (E.box 3 rfl)
  clear B7 ha hn hm
  go_wp2
  refine bodyPost_ret (v := .tuple #[.agg #[p0, p1], .int .i64 4]) ?_ rfl ⟨_, rfl, E.below, ⟨_, _, rfl, hP, rfl⟩⟩
  simp [results, Tryz.results33, go_sem, c0, c1]

set_option maxRecDepth 100000 in
set_option maxHeartbeats 4000000 in
theorem exPowP {w : World} {v v' u : Value} {a n m : Int} (h : Num w v a) (h' : Num w v' n) (g : Num w u m) (ha : ab a < pw 100) (hn : ab n < pw 100) (hm : ab m < pw 100) (h0 : 0 < m) (h1 : 0 ≤ n) :
    Calls Tryz.prog 33 #[v, v', u] w fun e w' => ∃ v', e = .returned v' ∧ Below w.heap.size w w' ∧ (Fq.tup2 (Fq.num (powM a n m)) (Fq.is (.int .i64 0))).P v' w' := by
  replace ha := hidd ha
  replace hn := hidd hn
  replace hm := hidd hm
  obtain ⟨n0, ao0, k0, c0, rfl⟩ := h.parts
  obtain ⟨n1, ao1, k1, c1, rfl⟩ := h'.parts
  obtain ⟨n2, ao2, k2, c2, rfl⟩ := g.parts
  obtain ⟨w1, b1, hw1, hb1, hs1, E⟩ := fr_start w (F := Fq.num a) (us := [.bool n0, .slice ao0 k0 c0]) 29 rfl (by simp) (tame_int _ _ _ _) h
  obtain ⟨w2, b2, hw2, hb2, hs2, E⟩ := fr_more E hs1 (F := Fq.num n) (us := [.bool n1, .slice ao1 k1 c1]) 29 rfl (by simp) (tame_int _ _ _ _) (h'.mono E.below)
  obtain ⟨w3, b3, hw3, hb3, hs3, E⟩ := fr_more E hs2 (F := Fq.num m) (us := [.bool n2, .slice ao2 k2 c2]) 29 rfl (by simp) (tame_int _ _ _ _) (g.mono E.below)
  obtain ⟨w4, b4, hw4, hb4, hs4, E⟩ := fr_more E hs3 (F := Fq.num 0) (us := [.bool false, .slice none 0 0]) 29 rfl (by simp) (tame_int _ _ _ _) (Num.zero _)
  go_enter Tryz.func33, Tryz.ntmps33
  go_upto_region 1 with (fail)
  rw [← hw1]
  rw [← hw2]
  rw [← hw3]
  rw [← hw4]
  rw [← hb4]
  rw [← hb3]
  rw [← hb2]
  rw [← hb1]
  clear hw1 hw2 hw3 hw4 hb1 hb2 hb3 hb4 hs4 hs1 hs2 hs3
  have T1 : Hid (¬ cmpI m 0 ≤ 0) := fun e => by have := cmpI_le0.1 e; omega
  have HM : Hid (m ≠ 0) := by show _ ≠ _; omega
  have HP := hidd h0
  clear h0
  refine region_fr (C := [Fq.num m, Fq.is (.int .i64 (cmpI m 0)), Fq.is (.bool false)]) (ks := [none, none, none, none]) (new := []) E rfl (by kernel_rfl) rfl rfl (fun hp => ⟨?_, ?_, ?_, trivial⟩) ?_
  · exact q_loadInt (off := 0) hp (free_of rfl) trivial (List.mem_iff_getElem?.2 ⟨1, rfl⟩) (.inl rfl) (Nat.le_of_ble_eq_true rfl) (sq_out rfl rfl (fun _ _ => rfl)) (fun us w hl h => ld_num hl h)
  · exact q_call1 (F := (Fq.num m).P) hp (free_of rfl) trivial (enq_Sign) (sqi 0) (fun v w h => exSign h)
  · exact q_one (F := fun v _ => v = .int .i64 (cmpI m 0)) hp (free_of rfl) trivial (sqi 1) (fun ρ w hc h => ⟨.bool false, by simp [execOp, go_sem, h, hc, T1.out], rfl⟩)
  intro L vs w5 nb hL hC hn E5
  have e1 : vs 1 = .int .i64 (cmpI m 0) := hC 1 (by simp)
  have e2 : vs 2 = .bool false := hC 2 (by simp)
  have E : Fr w [(b4, 2, Fq.num 0), (b3, 2, Fq.num m), (b2, 2, Fq.num n), (b1, 2, Fq.num a)] w5 := E5
  rw [lay_all hL]
  simp only [putAll, dstOf, List.length_cons, List.length_nil, Nat.zero_add, Nat.reduceAdd, List.getElem?_toArray, List.getElem?_cons_zero, List.getElem?_cons_succ, Option.bind_some, Act.put, List.setIfInBounds_toArray, List.set_cons_succ, List.set_cons_zero]
  rw [e1, e2]
  generalize vs 0 = u5_0
  clear e1 e2 hC hn E5 hL vs L nb
  clear T1
  go_upto_region 3 with (fail)
  refine region_frS (same := [(2, 1)]) (C := [Fq.num m, Fq.any, Fq.any]) (ks := [none, none, none, none]) (new := [⟨1, 1, 2, Fq.num m, Fq.num m, (some (.clo 57))⟩]) E rfl (by kernel_rfl) rfl rfl (fun hp => ⟨?_, ?_, ?_, trivial⟩) ?_
  · exact stepS_of (q_loadInt (off := 0) hp (free_of rfl) trivial (List.mem_iff_getElem?.2 ⟨1, rfl⟩) (.inl rfl) (Nat.le_of_ble_eq_true rfl) (sq_out rfl rfl (fun _ _ => rfl)) (fun us w hl h => ld_num hl h)) rfl
  · exact stepS_of (q_callMake (F := (Fq.num m).P) hp enq_M_within (List.mem_iff_getElem?.2 ⟨0, rfl⟩) rfl rfl rfl (sqi 0) (fun v w h => exWithin h) (fun _ _ => trivial) (old_ne rfl) (newks_ne rfl)) rfl
  · exact stepS_assign hp (free_of rfl) rfl (j := 1) rfl (by simp) rfl (fun _ _ => trivial) rfl (Nat.ne_of_beq_eq_false rfl)
  intro L vs w6 nb hsm hL hC hn E6
  have e1 : vs 1 = cloV 57 (nb 1) := hn _ (List.mem_iff_getElem?.2 ⟨0, rfl⟩)
  have e2 : vs 2 = cloV 57 (nb 1) := (hsm (2, 1) (by simp) (Nat.lt_of_sub_eq_succ rfl)).trans e1
  have E : Fr w [(nb 1, 2, Fq.num m), (b4, 2, Fq.num 0), (b3, 2, Fq.num m), (b2, 2, Fq.num n), (b1, 2, Fq.num a)] w6 := E6
  rw [lay_all hL]
  simp only [putAll, dstOf, List.length_cons, List.length_nil, Nat.zero_add, Nat.reduceAdd, List.getElem?_toArray, List.getElem?_cons_zero, List.getElem?_cons_succ, Option.bind_some, Act.put, List.setIfInBounds_toArray, List.set_cons_succ, List.set_cons_zero]
  rw [e1, e2]
  generalize nb 1 = b6_1 at E ⊢
  generalize vs 0 = u6_0
  clear e1 e2 hsm hC hn E6 hL vs L nb
  go_upto_region 4 with (fail)
  have B7 : Hid (ab ((a % m)) < pw 100) := ab_modB HM.out hm.out
  refine region_fr (C := [Fq.is (cloV 57 b6_1), Fq.num a, Fq.num (a % m), Fq.any, Fq.any]) (ks := [none, none, none, none, none]) (new := [⟨3, 4, 2, Fq.num 0, Fq.num (a % m), none⟩]) E rfl (by kernel_rfl) rfl rfl (fun hp => ⟨?_, ?_, ?_, ?_, ?_, trivial⟩) ?_
  · exact q_move hp (free_of rfl) trivial (sq_out rfl rfl (fun _ _ => rfl))
  · exact q_loadInt (off := 0) hp (free_of rfl) trivial (List.mem_iff_getElem?.2 ⟨4, rfl⟩) (.inl rfl) (Nat.le_of_ble_eq_true rfl) (sq_out rfl rfl (fun _ _ => rfl)) (fun us w hl h => ld_num hl h)
  · exact q_callCloOut (F := (Fq.num a).P) hp (free_of rfl) trivial enq_M_within1 (List.mem_iff_getElem?.2 ⟨0, rfl⟩) rfl (sqi 0) (sqi 1) (fun v w h hb => exResidue h hb HM.out (Int.lt_of_lt_of_le ha.out (pw_le (by omega))) (Int.lt_of_lt_of_le hm.out (pw_le (by omega))))
  · exact q_allocInt hp (List.mem_iff_getElem?.2 ⟨0, rfl⟩) rfl rfl rfl rfl (Nat.ne_of_beq_eq_false rfl) (fun _ _ => trivial) (old_ne rfl) (newk_ne rfl) (fun w => Num.zero w)
  · exact q_storeNewInt hp (List.mem_iff_getElem?.2 ⟨0, rfl⟩) rfl rfl rfl (own_ptr rfl rfl (by simp) rfl) (sq_in 2 rfl rfl (by simp) rfl (fun v w h => intV_num h)) (fun _ _ => trivial) (old_ne rfl) (newi_ne rfl)
  intro L vs w8 nb hL hC hn E8
  have e0 : vs 0 = cloV 57 b6_1 := hC 0 (by simp)
  have e3 : vs 3 = .pointer (some ⟨nb 3, 0, none⟩) := hn _ (List.mem_iff_getElem?.2 ⟨0, rfl⟩)
  have E : Fr w [(nb 3, 2, Fq.num (a % m)), (b6_1, 2, Fq.num m), (b4, 2, Fq.num 0), (b3, 2, Fq.num m), (b2, 2, Fq.num n), (b1, 2, Fq.num a)] w8 := E8
  rw [lay_all hL]
  simp only [putAll, dstOf, List.length_cons, List.length_nil, Nat.zero_add, Nat.reduceAdd, List.getElem?_toArray, List.getElem?_cons_zero, List.getElem?_cons_succ, Option.bind_some, Act.put, List.setIfInBounds_toArray, List.set_cons_succ, List.set_cons_zero]
  rw [e0, e3]
  generalize nb 3 = b8_3 at E ⊢
  generalize vs 1 = u8_1
  generalize vs 2 = u8_2
  clear e0 e3 hC hn E8 hL vs L nb
  have T2 : Hid (¬ cmpI n 0 < 0) := fun e => by have := cmpIqlt.1 e; omega
  have HB : Hid (a % m = if 0 ≤ n then a % m else bezU (a % m) m) := (if_pos h1).symm
  clear h1
  go_upto_region 5 with (fail)
  refine region_fr (C := [Fq.num n, Fq.is (.int .i64 (cmpI n 0)), Fq.is (.bool false)]) (ks := [none, none, none, none, none, none]) (new := []) E rfl (by kernel_rfl) rfl rfl (fun hp => ⟨?_, ?_, ?_, trivial⟩) ?_
  · exact q_loadInt (off := 0) hp (free_of rfl) trivial (List.mem_iff_getElem?.2 ⟨4, rfl⟩) (.inl rfl) (Nat.le_of_ble_eq_true rfl) (sq_out rfl rfl (fun _ _ => rfl)) (fun us w hl h => ld_num hl h)
  · exact q_call1 (F := (Fq.num n).P) hp (free_of rfl) trivial (enq_Sign) (sqi 0) (fun v w h => exSign h)
  · exact q_one (F := fun v _ => v = .int .i64 (cmpI n 0)) hp (free_of rfl) trivial (sqi 1) (fun ρ w hc h => ⟨.bool false, by simp [execOp, go_sem, h, hc, T2.out], rfl⟩)
  intro L vs w9 nb hL hC hn E9
  have e1 : vs 1 = .int .i64 (cmpI n 0) := hC 1 (by simp)
  have e2 : vs 2 = .bool false := hC 2 (by simp)
  have E : Fr w [(b8_3, 2, Fq.num (a % m)), (b6_1, 2, Fq.num m), (b4, 2, Fq.num 0), (b3, 2, Fq.num m), (b2, 2, Fq.num n), (b1, 2, Fq.num a)] w9 := E9
  rw [lay_all hL]
  simp only [putAll, dstOf, List.length_cons, List.length_nil, Nat.zero_add, Nat.reduceAdd, List.getElem?_toArray, List.getElem?_cons_zero, List.getElem?_cons_succ, Option.bind_some, Act.put, List.setIfInBounds_toArray, List.set_cons_succ, List.set_cons_zero]
  rw [e1, e2]
  generalize vs 0 = u9_0
  clear e1 e2 hC hn E9 hL vs L nb
  clear T2
  obtain ⟨B, hB⟩ : ∃ B, B = a % m := ⟨_, rfl⟩
  have BB : Hid (ab B < pw 100) := by show _ < _; rw [hB]; exact B7.out
  have HB2 : Hid (B = if 0 ≤ n then a % m else bezU (a % m) m) := hB.trans HB.out
  clear HB
  replace E : Fr w [(b8_3, 2, Fq.num B), (b6_1, 2, Fq.num m), (b4, 2, Fq.num 0), (b3, 2, Fq.num m), (b2, 2, Fq.num n), (b1, 2, Fq.num a)] w9 := by rw [hB]; exact E
  clear hB
  go_upto_region 10 with (fail)
  have B10 : Hid (ab ((1)) < pw 3) := ab_lit (by decide)
  have B11 : Hid (ab (((1) % m)) < pw 100) := ab_modB HM.out hm.out
  refine region_fr (C := [Fq.is (cloV 57 b6_1), Fq.num (1), Fq.num ((1) % m), Fq.any, Fq.any]) (ks := [none, none, none, none, none, none]) (new := [⟨3, 4, 2, Fq.num 0, Fq.num ((1) % m), none⟩]) E rfl (by kernel_rfl) rfl rfl (fun hp => ⟨?_, ?_, ?_, ?_, ?_, trivial⟩) ?_
  · exact q_move hp (free_of rfl) trivial (sq_out rfl rfl (fun _ _ => rfl))
  · exact q_call1 (F := (Fq.is (.int .i64 1)).P) hp (free_of rfl) trivial (enq_Of) (sq_const (fun _ => rfl)) (fun v w h => (by subst h; exact OfK w (1) (by omega) (by omega)))
  · exact q_callCloOut (F := (Fq.num (1)).P) hp (free_of rfl) trivial enq_M_within1 (List.mem_iff_getElem?.2 ⟨1, rfl⟩) rfl (sqi 0) (sqi 1) (fun v w h hb => exResidue h hb HM.out (Int.lt_of_lt_of_le B10.out (pw_le (by omega))) (Int.lt_of_lt_of_le hm.out (pw_le (by omega))))
  · exact q_allocInt hp (List.mem_iff_getElem?.2 ⟨0, rfl⟩) rfl rfl rfl rfl (Nat.ne_of_beq_eq_false rfl) (fun _ _ => trivial) (old_ne rfl) (newk_ne rfl) (fun w => Num.zero w)
  · exact q_storeNewInt hp (List.mem_iff_getElem?.2 ⟨0, rfl⟩) rfl rfl rfl (own_ptr rfl rfl (by simp) rfl) (sq_in 2 rfl rfl (by simp) rfl (fun v w h => intV_num h)) (fun _ _ => trivial) (old_ne rfl) (newi_ne rfl)
  intro L vs w12 nb hL hC hn E12
  have e0 : vs 0 = cloV 57 b6_1 := hC 0 (by simp)
  have e3 : vs 3 = .pointer (some ⟨nb 3, 0, none⟩) := hn _ (List.mem_iff_getElem?.2 ⟨0, rfl⟩)
  have E : Fr w [(nb 3, 2, Fq.num ((1) % m)), (b8_3, 2, Fq.num B), (b6_1, 2, Fq.num m), (b4, 2, Fq.num 0), (b3, 2, Fq.num m), (b2, 2, Fq.num n), (b1, 2, Fq.num a)] w12 := E12
  rw [lay_all hL]
  simp only [putAll, dstOf, List.length_cons, List.length_nil, Nat.zero_add, Nat.reduceAdd, List.getElem?_toArray, List.getElem?_cons_zero, List.getElem?_cons_succ, Option.bind_some, Act.put, List.setIfInBounds_toArray, List.set_cons_succ, List.set_cons_zero]
  rw [e0, e3]
  generalize nb 3 = b12_3 at E ⊢
  generalize vs 1 = u12_1
  generalize vs 2 = u12_2
  clear e0 e3 hC hn E12 hL vs L nb
  have HNB : Hid (nbits n ≤ 3200) := nbits_le hn.out
  have TW : Hid (IntKind.i64.wrap (((nbits n : Nat) : Int) - 1) = ((nbits n : Nat) : Int) - 1) := IntWalk.i64_in _ (by have := HNB.out; omega)
  go_upto_region 11 with (fail)
  refine region_fr (C := [Fq.num n, Fq.is (.int .i64 ((nbits n : Nat) : Int)), Fq.is (.int .i64 (((nbits n : Nat) : Int) - 1)), Fq.is (.int .i64 (((nbits n : Nat) : Int) - 1))]) (ks := [none, none, none, none, none, none, none]) (new := []) E rfl (by kernel_rfl) rfl rfl (fun hp => ⟨?_, ?_, ?_, ?_, trivial⟩) ?_
  · exact q_loadInt (off := 0) hp (free_of rfl) trivial (List.mem_iff_getElem?.2 ⟨5, rfl⟩) (.inl rfl) (Nat.le_of_ble_eq_true rfl) (sq_out rfl rfl (fun _ _ => rfl)) (fun us w hl h => ld_num hl h)
  · exact q_call1 (F := (Fq.num n).P) hp (free_of rfl) trivial (enq_Bits) (sqi 0) (fun v w h => exBits h)
  · exact q_one (F := fun v _ => v = .int .i64 ((nbits n : Nat) : Int)) hp (free_of rfl) trivial (sqi 1) (fun ρ w hc h => ⟨.int .i64 (((nbits n : Nat) : Int) - 1), by simp [execOp, go_sem, h, hc, TW.out], rfl⟩)
  · exact q_assign hp (free_of rfl) trivial (sqi 2)
  intro L vs w13 nb hL hC hn E13
  have e1 : vs 1 = .int .i64 ((nbits n : Nat) : Int) := hC 1 (by simp)
  have e2 : vs 2 = .int .i64 (((nbits n : Nat) : Int) - 1) := hC 2 (by simp)
  have e3 : vs 3 = .int .i64 (((nbits n : Nat) : Int) - 1) := hC 3 (by simp)
  have E : Fr w [(b12_3, 2, Fq.num ((1) % m)), (b8_3, 2, Fq.num B), (b6_1, 2, Fq.num m), (b4, 2, Fq.num 0), (b3, 2, Fq.num m), (b2, 2, Fq.num n), (b1, 2, Fq.num a)] w13 := E13
  rw [lay_all hL]
  simp only [putAll, dstOf, List.length_cons, List.length_nil, Nat.zero_add, Nat.reduceAdd, List.getElem?_toArray, List.getElem?_cons_zero, List.getElem?_cons_succ, Option.bind_some, Act.put, List.setIfInBounds_toArray, List.set_cons_succ, List.set_cons_zero]
  rw [e1, e2, e3]
  generalize vs 0 = u13_0
  clear e1 e2 e3 hC hn E13 hL vs L nb
  clear TW
  have HS := hidd E
  go_upto_region 12 with (fail)
  go_loopw [13] (fun vi W => ∃ j : Nat, j ≤ nbits n ∧ vi = .int .i64 ((j : Int) - 1) ∧ Fr w [(b12_3, 2, Fq.num (B ^ (n.natAbs / 2 ^ j) % m)), (b8_3, 2, Fq.num B), (b6_1, 2, Fq.num m), (b4, 2, Fq.num 0), (b3, 2, Fq.num m), (b2, 2, Fq.num n), (b1, 2, Fq.num a)] W) (fun vi _ => (intOf vi + 1).toNat)
  case atStart => exact ⟨nbits n, Nat.le_refl _, rfl, by rw [nbits_top, Int.pow_zero]; exact HS.out⟩
  case round =>
    obtain ⟨j, hj, rfl, E⟩ := hrel
    clear HS
    by_cases h0 : j = 0
    · subst h0
      have TL : Hid (¬ 0 ≤ ((0 : Nat) : Int) - 1) := by show ¬ _; omega
      have ET : Hid (B ^ (n.natAbs / 2 ^ 0) % m = powM a n m) := by show _ = _; unfold powM; rw [Nat.pow_zero, Nat.div_one, ← HB2.out]
      rw [ET.out] at E
      clear hj
      go_upto_region 12 with (fail)
      refine region_fr (C := [Fq.is (.int .i64 (((0 : Nat) : Int) - 1)), Fq.is (.bool false)]) (ks := [none, none, none, none, none, none, none]) (new := []) E rfl (by kernel_rfl) rfl rfl (fun hp => ⟨?_, ?_, trivial⟩) ?_
      · exact q_move hp (free_of rfl) trivial (sq_out rfl rfl (fun _ _ => rfl))
      · exact q_one (F := fun v _ => v = .int .i64 (((0 : Nat) : Int) - 1)) hp (free_of rfl) trivial (sqi 0) (fun ρ w hc h => ⟨.bool false, by simp [execOp, go_sem, h, hc], rfl⟩)
      intro L vs w14 nb hL hC hn E14
      have e0 : vs 0 = .int .i64 (((0 : Nat) : Int) - 1) := hC 0 (by simp)
      have e1 : vs 1 = .bool false := hC 1 (by simp)
      have E : Fr w [(b12_3, 2, Fq.num (powM a n m)), (b8_3, 2, Fq.num B), (b6_1, 2, Fq.num m), (b4, 2, Fq.num 0), (b3, 2, Fq.num m), (b2, 2, Fq.num n), (b1, 2, Fq.num a)] w14 := E14
      rw [lay_all hL]
      simp only [putAll, dstOf, List.length_cons, List.length_nil, Nat.zero_add, Nat.reduceAdd, List.getElem?_toArray, List.getElem?_cons_zero, List.getElem?_cons_succ, Option.bind_some, Act.put, List.setIfInBounds_toArray, List.set_cons_succ, List.set_cons_zero]
      rw [e0, e1]
      clear e0 e1 hC hn E14 hL vs L nb
      clear TL
      go_upto_region 17 with (fail)
      refine region_fr (C := [Fq.num (powM a n m), Fq.any, Fq.is (.int .i64 0)]) (ks := [none, none, none, some (1, Fq.num (powM a n m)), none, none, none]) (new := []) E rfl (by kernel_rfl) rfl rfl (fun hp => ⟨?_, ?_, ?_, trivial⟩) ?_
      · exact q_loadInt (off := 0) hp (free_of rfl) trivial (List.mem_iff_getElem?.2 ⟨0, rfl⟩) (.inl rfl) (Nat.le_of_ble_eq_true rfl) (sq_out rfl rfl (fun _ _ => rfl)) (fun us w hl h => ld_num hl h)
      · exact q_storeOldInt hp (List.mem_iff_getElem?.2 ⟨3, rfl⟩) rfl rfl (sq_out rfl rfl (fun _ _ => rfl)) (sq_in 0 rfl rfl (by simp) rfl (fun v w h => intV_num h)) (fun _ _ => trivial) (newik_ne rfl)
      · exact q_assign hp (free_of rfl) trivial (sq_const (fun _ => rfl))
      intro L vs w15 nb hL hC hn E15
      have e2 : vs 2 = .int .i64 0 := hC 2 (by simp)
      have E : Fr w [(b12_3, 2, Fq.num (powM a n m)), (b8_3, 2, Fq.num B), (b6_1, 2, Fq.num m), (b4, 2, Fq.num (powM a n m)), (b3, 2, Fq.num m), (b2, 2, Fq.num n), (b1, 2, Fq.num a)] w15 := E15
      rw [lay_all hL]
      simp only [putAll, dstOf, List.length_cons, List.length_nil, Nat.zero_add, Nat.reduceAdd, List.getElem?_toArray, List.getElem?_cons_zero, List.getElem?_cons_succ, Option.bind_some, Act.put, List.setIfInBounds_toArray, List.set_cons_succ, List.set_cons_zero]
      rw [e2]
      generalize vs 0 = u15_0
      clear e2 hC hn E15 hL vs L nb
      clear HM HP HB2 HNB ET
      obtain ⟨p0, p1, c0, c1, hP⟩ := box_num (E.box 3 rfl)
      clear B7 B10 B11 ha hn hm BB
      go_wp2
      refine bodyPost_ret (v := .tuple #[.agg #[p0, p1], .int .i64 0]) ?_ rfl ⟨_, rfl, E.below, ⟨_, _, rfl, hP, rfl⟩⟩
      simp [results, Tryz.results33, go_sem, c0, c1]
    · obtain ⟨i, rfl⟩ : ∃ i, j = i + 1 := ⟨j - 1, by omega⟩
      have ei : (((i + 1 : Nat) : Int) - 1) = (i : Int) := by omega
      rw [ei]
      have HJ := hidd hj
      obtain ⟨z, hz⟩ : ∃ z, z = B ^ (n.natAbs / 2 ^ (i + 1)) % m := ⟨_, rfl⟩
      rw [← hz] at E
      have Bz : Hid (ab z < pw 100) := by show _ < _; rw [hz]; exact ab_modB HM.out hm.out
      have HZ := hidd (pow_step hz)
      have TL : Hid (0 ≤ (i : Int)) := by show 0 ≤ _; omega
      have hw : wrap64 ((i : Int) - 1) = (i : Int) - 1 := by have := HJ.out; have := HNB.out; simp only [wrap64]; omega
      clear ei hz h0 hj
      go_upto_region 12 with (fail)
      refine region_fr (C := [Fq.is (.int .i64 (i : Int)), Fq.is (.bool true)]) (ks := [none, none, none, none, none, none, none]) (new := []) E rfl (by kernel_rfl) rfl rfl (fun hp => ⟨?_, ?_, trivial⟩) ?_
      · exact q_move hp (free_of rfl) trivial (sq_out rfl rfl (fun _ _ => rfl))
      · exact q_one (F := fun v _ => v = .int .i64 (i : Int)) hp (free_of rfl) trivial (sqi 0) (fun ρ w hc h => ⟨.bool true, by simp [execOp, go_sem, h, hc, TL.out], rfl⟩)
      intro L vs w16 nb hL hC hn E16
      have e0 : vs 0 = .int .i64 (i : Int) := hC 0 (by simp)
      have e1 : vs 1 = .bool true := hC 1 (by simp)
      have E : Fr w [(b12_3, 2, Fq.num z), (b8_3, 2, Fq.num B), (b6_1, 2, Fq.num m), (b4, 2, Fq.num 0), (b3, 2, Fq.num m), (b2, 2, Fq.num n), (b1, 2, Fq.num a)] w16 := E16
      rw [lay_all hL]
      simp only [putAll, dstOf, List.length_cons, List.length_nil, Nat.zero_add, Nat.reduceAdd, List.getElem?_toArray, List.getElem?_cons_zero, List.getElem?_cons_succ, Option.bind_some, Act.put, List.setIfInBounds_toArray, List.set_cons_succ, List.set_cons_zero]
      rw [e0, e1]
      clear e0 e1 hC hn E16 hL vs L nb
      clear TL
      go_upto_region 14 with (fail)
      have B17 : Hid (ab ((z * z)) < pw 200) := ab_mulM Bz.out Bz.out (by omega)
      have B18 : Hid (ab (((z * z) % m)) < pw 100) := ab_modB HM.out hm.out
      refine region_fr (C := [Fq.is (cloV 57 b6_1), Fq.num z, Fq.num z, Fq.num (z * z), Fq.num ((z * z) % m), Fq.any]) (ks := [some (5, Fq.num ((z * z) % m)), none, none, none, none, none, none]) (new := []) E rfl (by kernel_rfl) rfl rfl (fun hp => ⟨?_, ?_, ?_, ?_, ?_, ?_, trivial⟩) ?_
      · exact q_move hp (free_of rfl) trivial (sq_out rfl rfl (fun _ _ => rfl))
      · exact q_loadInt (off := 0) hp (free_of rfl) trivial (List.mem_iff_getElem?.2 ⟨0, rfl⟩) (.inr rfl) (Nat.le_of_ble_eq_true rfl) (sq_out rfl rfl (fun _ _ => rfl)) (fun us w hl h => ld_num hl h)
      · exact q_loadInt (off := 0) hp (free_of rfl) trivial (List.mem_iff_getElem?.2 ⟨0, rfl⟩) (.inr rfl) (Nat.le_of_ble_eq_true rfl) (sq_out rfl rfl (fun _ _ => rfl)) (fun us w hl h => ld_num hl h)
      · exact q_call2 (F := (Fq.num z).P) (G := (Fq.num z).P) hp (free_of rfl) trivial (enq_Mul) (sqi 1) (sqi 2) (fun v v' w h h' => exK (MulV h h') B17.out (by omega))
      · exact q_callCloOut (F := (Fq.num (z * z)).P) hp (free_of rfl) trivial enq_M_within1 (List.mem_iff_getElem?.2 ⟨2, rfl⟩) rfl (sqi 0) (sqi 3) (fun v w h hb => exResidue h hb HM.out (Int.lt_of_lt_of_le B17.out (pw_le (by omega))) (Int.lt_of_lt_of_le hm.out (pw_le (by omega))))
      · exact q_storeOldInt hp (List.mem_iff_getElem?.2 ⟨0, rfl⟩) rfl rfl (sq_out rfl rfl (fun _ _ => rfl)) (sq_in 4 rfl rfl (by simp) rfl (fun v w h => intV_num h)) (fun _ _ => trivial) (newik_ne rfl)
      intro L vs w19 nb hL hC hn E19
      have e0 : vs 0 = cloV 57 b6_1 := hC 0 (by simp)
      have E : Fr w [(b12_3, 2, Fq.num ((z * z) % m)), (b8_3, 2, Fq.num B), (b6_1, 2, Fq.num m), (b4, 2, Fq.num 0), (b3, 2, Fq.num m), (b2, 2, Fq.num n), (b1, 2, Fq.num a)] w19 := E19
      rw [lay_all hL]
      simp only [putAll, dstOf, List.length_cons, List.length_nil, Nat.zero_add, Nat.reduceAdd, List.getElem?_toArray, List.getElem?_cons_zero, List.getElem?_cons_succ, Option.bind_some, Act.put, List.setIfInBounds_toArray, List.set_cons_succ, List.set_cons_zero]
      rw [e0]
      generalize vs 1 = u19_1
      generalize vs 2 = u19_2
      generalize vs 3 = u19_3
      generalize vs 4 = u19_4
      clear e0 hC hn E19 hL vs L nb
      by_cases hb : n.natAbs / 2 ^ i % 2 = 1
      · have TB : Hid (decide (n.natAbs / 2 ^ i % 2 = 1) = true) := decide_eq_true hb
        have EZ : Hid ((((z * z) % m) * B) % m = B ^ (n.natAbs / 2 ^ i) % m) := HZ.out.1 hb
        clear hb HZ
        go_upto_region 15 with (fail)
        refine region_fr (C := [Fq.num n, Fq.is (.int .i64 (i : Int)), Fq.is (.bool true)]) (ks := [none, none, none, none, none, none, none]) (new := []) E rfl (by kernel_rfl) rfl rfl (fun hp => ⟨?_, ?_, ?_, trivial⟩) ?_
        · exact q_loadInt (off := 0) hp (free_of rfl) trivial (List.mem_iff_getElem?.2 ⟨5, rfl⟩) (.inl rfl) (Nat.le_of_ble_eq_true rfl) (sq_out rfl rfl (fun _ _ => rfl)) (fun us w hl h => ld_num hl h)
        · exact q_move hp (free_of rfl) trivial (sq_out rfl rfl (fun _ _ => rfl))
        · exact q_call2 (F := (Fq.num n).P) (G := (Fq.is (.int .i64 (i : Int))).P) hp (free_of rfl) trivial (enq_M_bit) (sqi 0) (sqi 1) (fun v v' w h h' => (by subst h'; exact exBit h (by have := HJ.out; omega) TB.out))
        intro L vs w20 nb hL hC hn E20
        have e1 : vs 1 = .int .i64 (i : Int) := hC 1 (by simp)
        have e2 : vs 2 = .bool true := hC 2 (by simp)
        have E : Fr w [(b12_3, 2, Fq.num ((z * z) % m)), (b8_3, 2, Fq.num B), (b6_1, 2, Fq.num m), (b4, 2, Fq.num 0), (b3, 2, Fq.num m), (b2, 2, Fq.num n), (b1, 2, Fq.num a)] w20 := E20
        rw [lay_all hL]
        simp only [putAll, dstOf, List.length_cons, List.length_nil, Nat.zero_add, Nat.reduceAdd, List.getElem?_toArray, List.getElem?_cons_zero, List.getElem?_cons_succ, Option.bind_some, Act.put, List.setIfInBounds_toArray, List.set_cons_succ, List.set_cons_zero]
        rw [e1, e2]
        generalize vs 0 = u20_0
        clear e1 e2 hC hn E20 hL vs L nb
        clear TB
        go_upto_region 16 with (fail)
        have B21 : Hid (ab ((((z * z) % m) * B)) < pw 200) := ab_mulM B18.out BB.out (by omega)
        have B22 : Hid (ab (((((z * z) % m) * B) % m)) < pw 100) := ab_modB HM.out hm.out
        refine region_fr (C := [Fq.is (cloV 57 b6_1), Fq.num ((z * z) % m), Fq.num B, Fq.num (((z * z) % m) * B), Fq.num ((((z * z) % m) * B) % m), Fq.any]) (ks := [some (5, Fq.num ((((z * z) % m) * B) % m)), none, none, none, none, none, none]) (new := []) E rfl (by kernel_rfl) rfl rfl (fun hp => ⟨?_, ?_, ?_, ?_, ?_, ?_, trivial⟩) ?_
        · exact q_move hp (free_of rfl) trivial (sq_out rfl rfl (fun _ _ => rfl))
        · exact q_loadInt (off := 0) hp (free_of rfl) trivial (List.mem_iff_getElem?.2 ⟨0, rfl⟩) (.inr rfl) (Nat.le_of_ble_eq_true rfl) (sq_out rfl rfl (fun _ _ => rfl)) (fun us w hl h => ld_num hl h)
        · exact q_loadInt (off := 0) hp (free_of rfl) trivial (List.mem_iff_getElem?.2 ⟨1, rfl⟩) (.inl rfl) (Nat.le_of_ble_eq_true rfl) (sq_out rfl rfl (fun _ _ => rfl)) (fun us w hl h => ld_num hl h)
        · exact q_call2 (F := (Fq.num ((z * z) % m)).P) (G := (Fq.num B).P) hp (free_of rfl) trivial (enq_Mul) (sqi 1) (sqi 2) (fun v v' w h h' => exK (MulV h h') B21.out (by omega))
        · exact q_callCloOut (F := (Fq.num (((z * z) % m) * B)).P) hp (free_of rfl) trivial enq_M_within1 (List.mem_iff_getElem?.2 ⟨2, rfl⟩) rfl (sqi 0) (sqi 3) (fun v w h hb => exResidue h hb HM.out (Int.lt_of_lt_of_le B21.out (pw_le (by omega))) (Int.lt_of_lt_of_le hm.out (pw_le (by omega))))
        · exact q_storeOldInt hp (List.mem_iff_getElem?.2 ⟨0, rfl⟩) rfl rfl (sq_out rfl rfl (fun _ _ => rfl)) (sq_in 4 rfl rfl (by simp) rfl (fun v w h => intV_num h)) (fun _ _ => trivial) (newik_ne rfl)
        intro L vs w23 nb hL hC hn E23
        have e0 : vs 0 = cloV 57 b6_1 := hC 0 (by simp)
        have E : Fr w [(b12_3, 2, Fq.num ((((z * z) % m) * B) % m)), (b8_3, 2, Fq.num B), (b6_1, 2, Fq.num m), (b4, 2, Fq.num 0), (b3, 2, Fq.num m), (b2, 2, Fq.num n), (b1, 2, Fq.num a)] w23 := E23
        rw [lay_all hL]
        simp only [putAll, dstOf, List.length_cons, List.length_nil, Nat.zero_add, Nat.reduceAdd, List.getElem?_toArray, List.getElem?_cons_zero, List.getElem?_cons_succ, Option.bind_some, Act.put, List.setIfInBounds_toArray, List.set_cons_succ, List.set_cons_zero]
        rw [e0]
        generalize vs 1 = u23_1
        generalize vs 2 = u23_2
        generalize vs 3 = u23_3
        generalize vs 4 = u23_4
        clear e0 hC hn E23 hL vs L nb
        go_wp2
        go_roundw
        case rel => exact ⟨i, by have := HJ.out; omega, by first | go_num | (rw [hw]; go_num), by rw [← EZ.out]; exact E⟩
        case measure => first | exact measP | (rw [hw]; exact measP)
      · have TB : Hid (decide (n.natAbs / 2 ^ i % 2 = 1) = false) := decide_eq_false hb
        have EZ : Hid ((z * z) % m = B ^ (n.natAbs / 2 ^ i) % m) := HZ.out.2 hb
        clear hb HZ
        go_upto_region 15 with (fail)
        refine region_fr (C := [Fq.num n, Fq.is (.int .i64 (i : Int)), Fq.is (.bool false)]) (ks := [none, none, none, none, none, none, none]) (new := []) E rfl (by kernel_rfl) rfl rfl (fun hp => ⟨?_, ?_, ?_, trivial⟩) ?_
        · exact q_loadInt (off := 0) hp (free_of rfl) trivial (List.mem_iff_getElem?.2 ⟨5, rfl⟩) (.inl rfl) (Nat.le_of_ble_eq_true rfl) (sq_out rfl rfl (fun _ _ => rfl)) (fun us w hl h => ld_num hl h)
        · exact q_move hp (free_of rfl) trivial (sq_out rfl rfl (fun _ _ => rfl))
        · exact q_call2 (F := (Fq.num n).P) (G := (Fq.is (.int .i64 (i : Int))).P) hp (free_of rfl) trivial (enq_M_bit) (sqi 0) (sqi 1) (fun v v' w h h' => (by subst h'; exact exBit h (by have := HJ.out; omega) TB.out))
        intro L vs w24 nb hL hC hn E24
        have e1 : vs 1 = .int .i64 (i : Int) := hC 1 (by simp)
        have e2 : vs 2 = .bool false := hC 2 (by simp)
        have E : Fr w [(b12_3, 2, Fq.num ((z * z) % m)), (b8_3, 2, Fq.num B), (b6_1, 2, Fq.num m), (b4, 2, Fq.num 0), (b3, 2, Fq.num m), (b2, 2, Fq.num n), (b1, 2, Fq.num a)] w24 := E24
        rw [lay_all hL]
        simp only [putAll, dstOf, List.length_cons, List.length_nil, Nat.zero_add, Nat.reduceAdd, List.getElem?_toArray, List.getElem?_cons_zero, List.getElem?_cons_succ, Option.bind_some, Act.put, List.setIfInBounds_toArray, List.set_cons_succ, List.set_cons_zero]
        rw [e1, e2]
        generalize vs 0 = u24_0
        clear e1 e2 hC hn E24 hL vs L nb
        clear TB
        go_wp2
        go_roundw
        case rel => exact ⟨i, by have := HJ.out; omega, by first | go_num | (rw [hw]; go_num), by rw [← EZ.out]; exact E⟩
        case measure => first | exact measP | (rw [hw]; exact measP)

set_option maxRecDepth 100000 in
set_option maxHeartbeats 4000000 in
theorem exPowN {w : World} {v v' u : Value} {a n m : Int} (h : Num w v a) (h' : Num w v' n) (g : Num w u m) (ha : ab a < pw 100) (hn : ab n < pw 100) (hm : ab m < pw 100) (h0 : 0 < m) (h1 : n < 0) (hg : Int.gcd (a % m) m = 1) :
    Calls Tryz.prog 33 #[v, v', u] w fun e w' => ∃ v', e = .returned v' ∧ Below w.heap.size w w' ∧ (Fq.tup2 (Fq.num (powM a n m)) (Fq.is (.int .i64 0))).P v' w' := by
  replace ha := hidd ha
  replace hn := hidd hn
  replace hm := hidd hm
  obtain ⟨n0, ao0, k0, c0, rfl⟩ := h.parts
  obtain ⟨n1, ao1, k1, c1, rfl⟩ := h'.parts
  obtain ⟨n2, ao2, k2, c2, rfl⟩ := g.parts
  obtain ⟨w1, b1, hw1, hb1, hs1, E⟩ := fr_start w (F := Fq.num a) (us := [.bool n0, .slice ao0 k0 c0]) 29 rfl (by simp) (tame_int _ _ _ _) h
  obtain ⟨w2, b2, hw2, hb2, hs2, E⟩ := fr_more E hs1 (F := Fq.num n) (us := [.bool n1, .slice ao1 k1 c1]) 29 rfl (by simp) (tame_int _ _ _ _) (h'.mono E.below)
  obtain ⟨w3, b3, hw3, hb3, hs3, E⟩ := fr_more E hs2 (F := Fq.num m) (us := [.bool n2, .slice ao2 k2 c2]) 29 rfl (by simp) (tame_int _ _ _ _) (g.mono E.below)
  obtain ⟨w4, b4, hw4, hb4, hs4, E⟩ := fr_more E hs3 (F := Fq.num 0) (us := [.bool false, .slice none 0 0]) 29 rfl (by simp) (tame_int _ _ _ _) (Num.zero _)
  go_enter Tryz.func33, Tryz.ntmps33
  go_upto_region 1 with (fail)
  rw [← hw1]
  rw [← hw2]
  rw [← hw3]
  rw [← hw4]
  rw [← hb4]
  rw [← hb3]
  rw [← hb2]
  rw [← hb1]
  clear hw1 hw2 hw3 hw4 hb1 hb2 hb3 hb4 hs4 hs1 hs2 hs3
  have T1 : Hid (¬ cmpI m 0 ≤ 0) := fun e => by have := cmpI_le0.1 e; omega
  have HM : Hid (m ≠ 0) := by show _ ≠ _; omega
  have HP := hidd h0
  clear h0
  refine region_fr (C := [Fq.num m, Fq.is (.int .i64 (cmpI m 0)), Fq.is (.bool false)]) (ks := [none, none, none, none]) (new := []) E rfl (by kernel_rfl) rfl rfl (fun hp => ⟨?_, ?_, ?_, trivial⟩) ?_
  · exact q_loadInt (off := 0) hp (free_of rfl) trivial (List.mem_iff_getElem?.2 ⟨1, rfl⟩) (.inl rfl) (Nat.le_of_ble_eq_true rfl) (sq_out rfl rfl (fun _ _ => rfl)) (fun us w hl h => ld_num hl h)
  · exact q_call1 (F := (Fq.num m).P) hp (free_of rfl) trivial (enq_Sign) (sqi 0) (fun v w h => exSign h)
  · exact q_one (F := fun v _ => v = .int .i64 (cmpI m 0)) hp (free_of rfl) trivial (sqi 1) (fun ρ w hc h => ⟨.bool false, by simp [execOp, go_sem, h, hc, T1.out], rfl⟩)
  intro L vs w5 nb hL hC hn E5
  have e1 : vs 1 = .int .i64 (cmpI m 0) := hC 1 (by simp)
  have e2 : vs 2 = .bool false := hC 2 (by simp)
  have E : Fr w [(b4, 2, Fq.num 0), (b3, 2, Fq.num m), (b2, 2, Fq.num n), (b1, 2, Fq.num a)] w5 := E5
  rw [lay_all hL]
  simp only [putAll, dstOf, List.length_cons, List.length_nil, Nat.zero_add, Nat.reduceAdd, List.getElem?_toArray, List.getElem?_cons_zero, List.getElem?_cons_succ, Option.bind_some, Act.put, List.setIfInBounds_toArray, List.set_cons_succ, List.set_cons_zero]
  rw [e1, e2]
  generalize vs 0 = u5_0
  clear e1 e2 hC hn E5 hL vs L nb
  clear T1
  go_upto_region 3 with (fail)
  refine region_frS (same := [(2, 1)]) (C := [Fq.num m, Fq.any, Fq.any]) (ks := [none, none, none, none]) (new := [⟨1, 1, 2, Fq.num m, Fq.num m, (some (.clo 57))⟩]) E rfl (by kernel_rfl) rfl rfl (fun hp => ⟨?_, ?_, ?_, trivial⟩) ?_
  · exact stepS_of (q_loadInt (off := 0) hp (free_of rfl) trivial (List.mem_iff_getElem?.2 ⟨1, rfl⟩) (.inl rfl) (Nat.le_of_ble_eq_true rfl) (sq_out rfl rfl (fun _ _ => rfl)) (fun us w hl h => ld_num hl h)) rfl
  · exact stepS_of (q_callMake (F := (Fq.num m).P) hp enq_M_within (List.mem_iff_getElem?.2 ⟨0, rfl⟩) rfl rfl rfl (sqi 0) (fun v w h => exWithin h) (fun _ _ => trivial) (old_ne rfl) (newks_ne rfl)) rfl
  · exact stepS_assign hp (free_of rfl) rfl (j := 1) rfl (by simp) rfl (fun _ _ => trivial) rfl (Nat.ne_of_beq_eq_false rfl)
  intro L vs w6 nb hsm hL hC hn E6
  have e1 : vs 1 = cloV 57 (nb 1) := hn _ (List.mem_iff_getElem?.2 ⟨0, rfl⟩)
  have e2 : vs 2 = cloV 57 (nb 1) := (hsm (2, 1) (by simp) (Nat.lt_of_sub_eq_succ rfl)).trans e1
  have E : Fr w [(nb 1, 2, Fq.num m), (b4, 2, Fq.num 0), (b3, 2, Fq.num m), (b2, 2, Fq.num n), (b1, 2, Fq.num a)] w6 := E6
  rw [lay_all hL]
  simp only [putAll, dstOf, List.length_cons, List.length_nil, Nat.zero_add, Nat.reduceAdd, List.getElem?_toArray, List.getElem?_cons_zero, List.getElem?_cons_succ, Option.bind_some, Act.put, List.setIfInBounds_toArray, List.set_cons_succ, List.set_cons_zero]
  rw [e1, e2]
  generalize nb 1 = b6_1 at E ⊢
  generalize vs 0 = u6_0
  clear e1 e2 hsm hC hn E6 hL vs L nb
  go_upto_region 4 with (fail)
  have B7 : Hid (ab ((a % m)) < pw 100) := ab_modB HM.out hm.out
  refine region_fr (C := [Fq.is (cloV 57 b6_1), Fq.num a, Fq.num (a % m), Fq.any, Fq.any]) (ks := [none, none, none, none, none]) (new := [⟨3, 4, 2, Fq.num 0, Fq.num (a % m), none⟩]) E rfl (by kernel_rfl) rfl rfl (fun hp => ⟨?_, ?_, ?_, ?_, ?_, trivial⟩) ?_
  · exact q_move hp (free_of rfl) trivial (sq_out rfl rfl (fun _ _ => rfl))
  · exact q_loadInt (off := 0) hp (free_of rfl) trivial (List.mem_iff_getElem?.2 ⟨4, rfl⟩) (.inl rfl) (Nat.le_of_ble_eq_true rfl) (sq_out rfl rfl (fun _ _ => rfl)) (fun us w hl h => ld_num hl h)
  · exact q_callCloOut (F := (Fq.num a).P) hp (free_of rfl) trivial enq_M_within1 (List.mem_iff_getElem?.2 ⟨0, rfl⟩) rfl (sqi 0) (sqi 1) (fun v w h hb => exResidue h hb HM.out (Int.lt_of_lt_of_le ha.out (pw_le (by omega))) (Int.lt_of_lt_of_le hm.out (pw_le (by omega))))
  · exact q_allocInt hp (List.mem_iff_getElem?.2 ⟨0, rfl⟩) rfl rfl rfl rfl (Nat.ne_of_beq_eq_false rfl) (fun _ _ => trivial) (old_ne rfl) (newk_ne rfl) (fun w => Num.zero w)
  · exact q_storeNewInt hp (List.mem_iff_getElem?.2 ⟨0, rfl⟩) rfl rfl rfl (own_ptr rfl rfl (by simp) rfl) (sq_in 2 rfl rfl (by simp) rfl (fun v w h => intV_num h)) (fun _ _ => trivial) (old_ne rfl) (newi_ne rfl)
  intro L vs w8 nb hL hC hn E8
  have e0 : vs 0 = cloV 57 b6_1 := hC 0 (by simp)
  have e3 : vs 3 = .pointer (some ⟨nb 3, 0, none⟩) := hn _ (List.mem_iff_getElem?.2 ⟨0, rfl⟩)
  have E : Fr w [(nb 3, 2, Fq.num (a % m)), (b6_1, 2, Fq.num m), (b4, 2, Fq.num 0), (b3, 2, Fq.num m), (b2, 2, Fq.num n), (b1, 2, Fq.num a)] w8 := E8
  rw [lay_all hL]
  simp only [putAll, dstOf, List.length_cons, List.length_nil, Nat.zero_add, Nat.reduceAdd, List.getElem?_toArray, List.getElem?_cons_zero, List.getElem?_cons_succ, Option.bind_some, Act.put, List.setIfInBounds_toArray, List.set_cons_succ, List.set_cons_zero]
  rw [e0, e3]
  generalize nb 3 = b8_3 at E ⊢
  generalize vs 1 = u8_1
  generalize vs 2 = u8_2
  clear e0 e3 hC hn E8 hL vs L nb
  have T2 : Hid (cmpI n 0 < 0) := cmpIqlt.2 h1
  have HG : Hid (Int.gcd (a % m) m = 1) := hg
  have HB : Hid (bezU (a % m) m = if 0 ≤ n then a % m else bezU (a % m) m) := (if_neg (by omega)).symm
  clear h1 hg
  go_upto_region 5 with (fail)
  refine region_fr (C := [Fq.num n, Fq.is (.int .i64 (cmpI n 0)), Fq.is (.bool true)]) (ks := [none, none, none, none, none, none]) (new := []) E rfl (by kernel_rfl) rfl rfl (fun hp => ⟨?_, ?_, ?_, trivial⟩) ?_
  · exact q_loadInt (off := 0) hp (free_of rfl) trivial (List.mem_iff_getElem?.2 ⟨4, rfl⟩) (.inl rfl) (Nat.le_of_ble_eq_true rfl) (sq_out rfl rfl (fun _ _ => rfl)) (fun us w hl h => ld_num hl h)
  · exact q_call1 (F := (Fq.num n).P) hp (free_of rfl) trivial (enq_Sign) (sqi 0) (fun v w h => exSign h)
  · exact q_one (F := fun v _ => v = .int .i64 (cmpI n 0)) hp (free_of rfl) trivial (sqi 1) (fun ρ w hc h => ⟨.bool true, by simp [execOp, go_sem, h, hc, T2.out], rfl⟩)
  intro L vs w9 nb hL hC hn E9
  have e1 : vs 1 = .int .i64 (cmpI n 0) := hC 1 (by simp)
  have e2 : vs 2 = .bool true := hC 2 (by simp)
  have E : Fr w [(b8_3, 2, Fq.num (a % m)), (b6_1, 2, Fq.num m), (b4, 2, Fq.num 0), (b3, 2, Fq.num m), (b2, 2, Fq.num n), (b1, 2, Fq.num a)] w9 := E9
  rw [lay_all hL]
  simp only [putAll, dstOf, List.length_cons, List.length_nil, Nat.zero_add, Nat.reduceAdd, List.getElem?_toArray, List.getElem?_cons_zero, List.getElem?_cons_succ, Option.bind_some, Act.put, List.setIfInBounds_toArray, List.set_cons_succ, List.set_cons_zero]
  rw [e1, e2]
  generalize vs 0 = u9_0
  clear e1 e2 hC hn E9 hL vs L nb
  clear T2
  go_upto_region 6 with (fail)
  have B10 : Hid (ab (bezU (a % m) m) < pw 100) := bezU_ab HP.out hm.out
  refine region_fr (C := [Fq.num (a % m), Fq.num m, Fq.tup2 (Fq.num (bezU (a % m) m)) (Fq.is (.int .i64 0)), Fq.tup2 (Fq.num (bezU (a % m) m)) (Fq.is (.int .i64 0)), Fq.num (bezU (a % m) m), Fq.is (.int .i64 0), Fq.any, Fq.any, Fq.is (.int .i64 0)]) (ks := [none, none, none, none, none, none]) (new := [⟨6, 7, 2, Fq.num 0, Fq.num (bezU (a % m) m), none⟩]) E rfl (by kernel_rfl) rfl rfl (fun hp => ⟨?_, ?_, ?_, ?_, ?_, ?_, ?_, ?_, ?_, trivial⟩) ?_
  · exact q_loadInt (off := 0) hp (free_of rfl) trivial (List.mem_iff_getElem?.2 ⟨0, rfl⟩) (.inl rfl) (Nat.le_of_ble_eq_true rfl) (sq_out rfl rfl (fun _ _ => rfl)) (fun us w hl h => ld_num hl h)
  · exact q_loadInt (off := 0) hp (free_of rfl) trivial (List.mem_iff_getElem?.2 ⟨3, rfl⟩) (.inl rfl) (Nat.le_of_ble_eq_true rfl) (sq_out rfl rfl (fun _ _ => rfl)) (fun us w hl h => ld_num hl h)
  · exact q_call2 (F := (Fq.num (a % m)).P) (G := (Fq.num m).P) hp (free_of rfl) trivial (enq_M_Inv) (sqi 0) (sqi 1) (fun v v' w h h' => exInvP h h' (Int.lt_of_lt_of_le B7.out (pw_le (by omega))) (Int.lt_of_lt_of_le hm.out (pw_le (by omega))) HP.out HG.out)
  · exact q_move hp (free_of rfl) trivial (sqi 2)
  · exact q_extract2 hp (free_of rfl) trivial (sqi 3) (fun v1 v2 w h1 h2 => ⟨_, rfl, h1⟩)
  · exact q_extract2 hp (free_of rfl) trivial (sqi 3) (fun v1 v2 w h1 h2 => ⟨_, rfl, h2⟩)
  · exact q_allocInt hp (List.mem_iff_getElem?.2 ⟨0, rfl⟩) rfl rfl rfl rfl (Nat.ne_of_beq_eq_false rfl) (fun _ _ => trivial) (old_ne rfl) (newk_ne rfl) (fun w => Num.zero w)
  · exact q_storeNewInt hp (List.mem_iff_getElem?.2 ⟨0, rfl⟩) rfl rfl rfl (own_ptr rfl rfl (by simp) rfl) (sq_in 4 rfl rfl (by simp) rfl (fun v w h => intV_num h)) (fun _ _ => trivial) (old_ne rfl) (newi_ne rfl)
  · exact q_assign hp (free_of rfl) trivial (sqi 5)
  intro L vs w11 nb hL hC hn E11
  have e5 : vs 5 = .int .i64 0 := hC 5 (by simp)
  have e8 : vs 8 = .int .i64 0 := hC 8 (by simp)
  have e6 : vs 6 = .pointer (some ⟨nb 6, 0, none⟩) := hn _ (List.mem_iff_getElem?.2 ⟨0, rfl⟩)
  have E : Fr w [(nb 6, 2, Fq.num (bezU (a % m) m)), (b8_3, 2, Fq.num (a % m)), (b6_1, 2, Fq.num m), (b4, 2, Fq.num 0), (b3, 2, Fq.num m), (b2, 2, Fq.num n), (b1, 2, Fq.num a)] w11 := E11
  rw [lay_all hL]
  simp only [putAll, dstOf, List.length_cons, List.length_nil, Nat.zero_add, Nat.reduceAdd, List.getElem?_toArray, List.getElem?_cons_zero, List.getElem?_cons_succ, Option.bind_some, Act.put, List.setIfInBounds_toArray, List.set_cons_succ, List.set_cons_zero]
  rw [e5, e8, e6]
  generalize nb 6 = b11_6 at E ⊢
  generalize vs 0 = u11_0
  generalize vs 1 = u11_1
  generalize vs 2 = u11_2
  generalize vs 3 = u11_3
  generalize vs 4 = u11_4
  clear e5 e8 e6 hC hn E11 hL vs L nb
  go_upto_region 7 with (fail)
  refine region_fr (C := [Fq.is (.int .i64 0), Fq.is (.bool false)]) (ks := [none, none, none, none, none, none, none]) (new := []) E rfl (by kernel_rfl) rfl rfl (fun hp => ⟨?_, ?_, trivial⟩) ?_
  · exact q_move hp (free_of rfl) trivial (sq_out rfl rfl (fun _ _ => rfl))
  · exact q_one (F := fun v _ => v = .int .i64 0) hp (free_of rfl) trivial (sqi 0) (fun ρ w hc h => ⟨.bool false, by simp [execOp, go_sem, h, hc], rfl⟩)
  intro L vs w12 nb hL hC hn E12
  have e0 : vs 0 = .int .i64 0 := hC 0 (by simp)
  have e1 : vs 1 = .bool false := hC 1 (by simp)
  have E : Fr w [(b11_6, 2, Fq.num (bezU (a % m) m)), (b8_3, 2, Fq.num (a % m)), (b6_1, 2, Fq.num m), (b4, 2, Fq.num 0), (b3, 2, Fq.num m), (b2, 2, Fq.num n), (b1, 2, Fq.num a)] w12 := E12
  rw [lay_all hL]
  simp only [putAll, dstOf, List.length_cons, List.length_nil, Nat.zero_add, Nat.reduceAdd, List.getElem?_toArray, List.getElem?_cons_zero, List.getElem?_cons_succ, Option.bind_some, Act.put, List.setIfInBounds_toArray, List.set_cons_succ, List.set_cons_zero]
  rw [e0, e1]
  clear e0 e1 hC hn E12 hL vs L nb
  go_upto_region 9 with (fail)
  refine region_fr (C := [Fq.num (bezU (a % m) m), Fq.any]) (ks := [none, some (1, Fq.num (bezU (a % m) m)), none, none, none, none, none]) (new := []) E rfl (by kernel_rfl) rfl rfl (fun hp => ⟨?_, ?_, trivial⟩) ?_
  · exact q_loadInt (off := 0) hp (free_of rfl) trivial (List.mem_iff_getElem?.2 ⟨0, rfl⟩) (.inl rfl) (Nat.le_of_ble_eq_true rfl) (sq_out rfl rfl (fun _ _ => rfl)) (fun us w hl h => ld_num hl h)
  · exact q_storeOldInt hp (List.mem_iff_getElem?.2 ⟨1, rfl⟩) rfl rfl (sq_out rfl rfl (fun _ _ => rfl)) (sq_in 0 rfl rfl (by simp) rfl (fun v w h => intV_num h)) (fun _ _ => trivial) (newik_ne rfl)
  intro L vs w13 nb hL hC hn E13
  have E : Fr w [(b11_6, 2, Fq.num (bezU (a % m) m)), (b8_3, 2, Fq.num (bezU (a % m) m)), (b6_1, 2, Fq.num m), (b4, 2, Fq.num 0), (b3, 2, Fq.num m), (b2, 2, Fq.num n), (b1, 2, Fq.num a)] w13 := E13
  rw [lay_all hL]
  simp only [putAll, dstOf, List.length_cons, List.length_nil, Nat.zero_add, Nat.reduceAdd, List.getElem?_toArray, List.getElem?_cons_zero, List.getElem?_cons_succ, Option.bind_some, Act.put, List.setIfInBounds_toArray, List.set_cons_succ, List.set_cons_zero]
  generalize vs 0 = u13_0
  clear  hC hn E13 hL vs L nb
  clear HG
  obtain ⟨B, hB⟩ : ∃ B, B = bezU (a % m) m := ⟨_, rfl⟩
  have BB : Hid (ab B < pw 100) := by show _ < _; rw [hB]; exact B10.out
  have HB2 : Hid (B = if 0 ≤ n then a % m else bezU (a % m) m) := hB.trans HB.out
  clear HB
  replace E : Fr w [(b11_6, 2, Fq.num (bezU (a % m) m)), (b8_3, 2, Fq.num B), (b6_1, 2, Fq.num m), (b4, 2, Fq.num 0), (b3, 2, Fq.num m), (b2, 2, Fq.num n), (b1, 2, Fq.num a)] w13 := by rw [hB]; exact E
  clear hB
  go_upto_region 10 with (fail)
  have B14 : Hid (ab ((1)) < pw 3) := ab_lit (by decide)
  have B15 : Hid (ab (((1) % m)) < pw 100) := ab_modB HM.out hm.out
  refine region_fr (C := [Fq.is (cloV 57 b6_1), Fq.num (1), Fq.num ((1) % m), Fq.any, Fq.any]) (ks := [none, none, none, none, none, none, none]) (new := [⟨3, 4, 2, Fq.num 0, Fq.num ((1) % m), none⟩]) E rfl (by kernel_rfl) rfl rfl (fun hp => ⟨?_, ?_, ?_, ?_, ?_, trivial⟩) ?_
  · exact q_move hp (free_of rfl) trivial (sq_out rfl rfl (fun _ _ => rfl))
  · exact q_call1 (F := (Fq.is (.int .i64 1)).P) hp (free_of rfl) trivial (enq_Of) (sq_const (fun _ => rfl)) (fun v w h => (by subst h; exact OfK w (1) (by omega) (by omega)))
  · exact q_callCloOut (F := (Fq.num (1)).P) hp (free_of rfl) trivial enq_M_within1 (List.mem_iff_getElem?.2 ⟨2, rfl⟩) rfl (sqi 0) (sqi 1) (fun v w h hb => exResidue h hb HM.out (Int.lt_of_lt_of_le B14.out (pw_le (by omega))) (Int.lt_of_lt_of_le hm.out (pw_le (by omega))))
  · exact q_allocInt hp (List.mem_iff_getElem?.2 ⟨0, rfl⟩) rfl rfl rfl rfl (Nat.ne_of_beq_eq_false rfl) (fun _ _ => trivial) (old_ne rfl) (newk_ne rfl) (fun w => Num.zero w)
  · exact q_storeNewInt hp (List.mem_iff_getElem?.2 ⟨0, rfl⟩) rfl rfl rfl (own_ptr rfl rfl (by simp) rfl) (sq_in 2 rfl rfl (by simp) rfl (fun v w h => intV_num h)) (fun _ _ => trivial) (old_ne rfl) (newi_ne rfl)
  intro L vs w16 nb hL hC hn E16
  have e0 : vs 0 = cloV 57 b6_1 := hC 0 (by simp)
  have e3 : vs 3 = .pointer (some ⟨nb 3, 0, none⟩) := hn _ (List.mem_iff_getElem?.2 ⟨0, rfl⟩)
  have E : Fr w [(nb 3, 2, Fq.num ((1) % m)), (b11_6, 2, Fq.num (bezU (a % m) m)), (b8_3, 2, Fq.num B), (b6_1, 2, Fq.num m), (b4, 2, Fq.num 0), (b3, 2, Fq.num m), (b2, 2, Fq.num n), (b1, 2, Fq.num a)] w16 := E16
  rw [lay_all hL]
  simp only [putAll, dstOf, List.length_cons, List.length_nil, Nat.zero_add, Nat.reduceAdd, List.getElem?_toArray, List.getElem?_cons_zero, List.getElem?_cons_succ, Option.bind_some, Act.put, List.setIfInBounds_toArray, List.set_cons_succ, List.set_cons_zero]
  rw [e0, e3]
  generalize nb 3 = b16_3 at E ⊢
  generalize vs 1 = u16_1
  generalize vs 2 = u16_2
  clear e0 e3 hC hn E16 hL vs L nb
  have HNB : Hid (nbits n ≤ 3200) := nbits_le hn.out
  have TW : Hid (IntKind.i64.wrap (((nbits n : Nat) : Int) - 1) = ((nbits n : Nat) : Int) - 1) := IntWalk.i64_in _ (by have := HNB.out; omega)
  go_upto_region 11 with (fail)
  refine region_fr (C := [Fq.num n, Fq.is (.int .i64 ((nbits n : Nat) : Int)), Fq.is (.int .i64 (((nbits n : Nat) : Int) - 1)), Fq.is (.int .i64 (((nbits n : Nat) : Int) - 1))]) (ks := [none, none, none, none, none, none, none, none]) (new := []) E rfl (by kernel_rfl) rfl rfl (fun hp => ⟨?_, ?_, ?_, ?_, trivial⟩) ?_
  · exact q_loadInt (off := 0) hp (free_of rfl) trivial (List.mem_iff_getElem?.2 ⟨6, rfl⟩) (.inl rfl) (Nat.le_of_ble_eq_true rfl) (sq_out rfl rfl (fun _ _ => rfl)) (fun us w hl h => ld_num hl h)
  · exact q_call1 (F := (Fq.num n).P) hp (free_of rfl) trivial (enq_Bits) (sqi 0) (fun v w h => exBits h)
  · exact q_one (F := fun v _ => v = .int .i64 ((nbits n : Nat) : Int)) hp (free_of rfl) trivial (sqi 1) (fun ρ w hc h => ⟨.int .i64 (((nbits n : Nat) : Int) - 1), by simp [execOp, go_sem, h, hc, TW.out], rfl⟩)
  · exact q_assign hp (free_of rfl) trivial (sqi 2)
  intro L vs w17 nb hL hC hn E17
  have e1 : vs 1 = .int .i64 ((nbits n : Nat) : Int) := hC 1 (by simp)
  have e2 : vs 2 = .int .i64 (((nbits n : Nat) : Int) - 1) := hC 2 (by simp)
  have e3 : vs 3 = .int .i64 (((nbits n : Nat) : Int) - 1) := hC 3 (by simp)
  have E : Fr w [(b16_3, 2, Fq.num ((1) % m)), (b11_6, 2, Fq.num (bezU (a % m) m)), (b8_3, 2, Fq.num B), (b6_1, 2, Fq.num m), (b4, 2, Fq.num 0), (b3, 2, Fq.num m), (b2, 2, Fq.num n), (b1, 2, Fq.num a)] w17 := E17
  rw [lay_all hL]
  simp only [putAll, dstOf, List.length_cons, List.length_nil, Nat.zero_add, Nat.reduceAdd, List.getElem?_toArray, List.getElem?_cons_zero, List.getElem?_cons_succ, Option.bind_some, Act.put, List.setIfInBounds_toArray, List.set_cons_succ, List.set_cons_zero]
  rw [e1, e2, e3]
  generalize vs 0 = u17_0
  clear e1 e2 e3 hC hn E17 hL vs L nb
  clear TW
  have HS := hidd E
  go_upto_region 12 with (fail)
  go_loopw [13] (fun vi W => ∃ j : Nat, j ≤ nbits n ∧ vi = .int .i64 ((j : Int) - 1) ∧ Fr w [(b16_3, 2, Fq.num (B ^ (n.natAbs / 2 ^ j) % m)), (b11_6, 2, Fq.num (bezU (a % m) m)), (b8_3, 2, Fq.num B), (b6_1, 2, Fq.num m), (b4, 2, Fq.num 0), (b3, 2, Fq.num m), (b2, 2, Fq.num n), (b1, 2, Fq.num a)] W) (fun vi _ => (intOf vi + 1).toNat)
  case atStart => exact ⟨nbits n, Nat.le_refl _, rfl, by rw [nbits_top, Int.pow_zero]; exact HS.out⟩
  case round =>
    obtain ⟨j, hj, rfl, E⟩ := hrel
    clear HS
    by_cases h0 : j = 0
    · subst h0
      have TL : Hid (¬ 0 ≤ ((0 : Nat) : Int) - 1) := by show ¬ _; omega
      have ET : Hid (B ^ (n.natAbs / 2 ^ 0) % m = powM a n m) := by show _ = _; unfold powM; rw [Nat.pow_zero, Nat.div_one, ← HB2.out]
      rw [ET.out] at E
      clear hj
      go_upto_region 12 with (fail)
      refine region_fr (C := [Fq.is (.int .i64 (((0 : Nat) : Int) - 1)), Fq.is (.bool false)]) (ks := [none, none, none, none, none, none, none, none]) (new := []) E rfl (by kernel_rfl) rfl rfl (fun hp => ⟨?_, ?_, trivial⟩) ?_
      · exact q_move hp (free_of rfl) trivial (sq_out rfl rfl (fun _ _ => rfl))
      · exact q_one (F := fun v _ => v = .int .i64 (((0 : Nat) : Int) - 1)) hp (free_of rfl) trivial (sqi 0) (fun ρ w hc h => ⟨.bool false, by simp [execOp, go_sem, h, hc], rfl⟩)
      intro L vs w18 nb hL hC hn E18
      have e0 : vs 0 = .int .i64 (((0 : Nat) : Int) - 1) := hC 0 (by simp)
      have e1 : vs 1 = .bool false := hC 1 (by simp)
      have E : Fr w [(b16_3, 2, Fq.num (powM a n m)), (b11_6, 2, Fq.num (bezU (a % m) m)), (b8_3, 2, Fq.num B), (b6_1, 2, Fq.num m), (b4, 2, Fq.num 0), (b3, 2, Fq.num m), (b2, 2, Fq.num n), (b1, 2, Fq.num a)] w18 := E18
      rw [lay_all hL]
      simp only [putAll, dstOf, List.length_cons, List.length_nil, Nat.zero_add, Nat.reduceAdd, List.getElem?_toArray, List.getElem?_cons_zero, List.getElem?_cons_succ, Option.bind_some, Act.put, List.setIfInBounds_toArray, List.set_cons_succ, List.set_cons_zero]
      rw [e0, e1]
      clear e0 e1 hC hn E18 hL vs L nb
      clear TL
      go_upto_region 17 with (fail)
      refine region_fr (C := [Fq.num (powM a n m), Fq.any, Fq.is (.int .i64 0)]) (ks := [none, none, none, none, some (1, Fq.num (powM a n m)), none, none, none]) (new := []) E rfl (by kernel_rfl) rfl rfl (fun hp => ⟨?_, ?_, ?_, trivial⟩) ?_
      · exact q_loadInt (off := 0) hp (free_of rfl) trivial (List.mem_iff_getElem?.2 ⟨0, rfl⟩) (.inl rfl) (Nat.le_of_ble_eq_true rfl) (sq_out rfl rfl (fun _ _ => rfl)) (fun us w hl h => ld_num hl h)
      · exact q_storeOldInt hp (List.mem_iff_getElem?.2 ⟨4, rfl⟩) rfl rfl (sq_out rfl rfl (fun _ _ => rfl)) (sq_in 0 rfl rfl (by simp) rfl (fun v w h => intV_num h)) (fun _ _ => trivial) (newik_ne rfl)
      · exact q_assign hp (free_of rfl) trivial (sq_const (fun _ => rfl))
      intro L vs w19 nb hL hC hn E19
      have e2 : vs 2 = .int .i64 0 := hC 2 (by simp)
      have E : Fr w [(b16_3, 2, Fq.num (powM a n m)), (b11_6, 2, Fq.num (bezU (a % m) m)), (b8_3, 2, Fq.num B), (b6_1, 2, Fq.num m), (b4, 2, Fq.num (powM a n m)), (b3, 2, Fq.num m), (b2, 2, Fq.num n), (b1, 2, Fq.num a)] w19 := E19
      rw [lay_all hL]
      simp only [putAll, dstOf, List.length_cons, List.length_nil, Nat.zero_add, Nat.reduceAdd, List.getElem?_toArray, List.getElem?_cons_zero, List.getElem?_cons_succ, Option.bind_some, Act.put, List.setIfInBounds_toArray, List.set_cons_succ, List.set_cons_zero]
      rw [e2]
      generalize vs 0 = u19_0
      clear e2 hC hn E19 hL vs L nb
      clear HM HP HB2 HNB ET
      obtain ⟨p0, p1, c0, c1, hP⟩ := box_num (E.box 4 rfl)
      clear B7 B10 B14 B15 ha hn hm BB
      go_wp2
      refine bodyPost_ret (v := .tuple #[.agg #[p0, p1], .int .i64 0]) ?_ rfl ⟨_, rfl, E.below, ⟨_, _, rfl, hP, rfl⟩⟩
      simp [results, Tryz.results33, go_sem, c0, c1]
    · obtain ⟨i, rfl⟩ : ∃ i, j = i + 1 := ⟨j - 1, by omega⟩
      have ei : (((i + 1 : Nat) : Int) - 1) = (i : Int) := by omega
      rw [ei]
      have HJ := hidd hj
      obtain ⟨z, hz⟩ : ∃ z, z = B ^ (n.natAbs / 2 ^ (i + 1)) % m := ⟨_, rfl⟩
      rw [← hz] at E
      have Bz : Hid (ab z < pw 100) := by show _ < _; rw [hz]; exact ab_modB HM.out hm.out
      have HZ := hidd (pow_step hz)
      have TL : Hid (0 ≤ (i : Int)) := by show 0 ≤ _; omega
      have hw : wrap64 ((i : Int) - 1) = (i : Int) - 1 := by have := HJ.out; have := HNB.out; simp only [wrap64]; omega
      clear ei hz h0 hj
      go_upto_region 12 with (fail)
      refine region_fr (C := [Fq.is (.int .i64 (i : Int)), Fq.is (.bool true)]) (ks := [none, none, none, none, none, none, none, none]) (new := []) E rfl (by kernel_rfl) rfl rfl (fun hp => ⟨?_, ?_, trivial⟩) ?_
      · exact q_move hp (free_of rfl) trivial (sq_out rfl rfl (fun _ _ => rfl))
      · exact q_one (F := fun v _ => v = .int .i64 (i : Int)) hp (free_of rfl) trivial (sqi 0) (fun ρ w hc h => ⟨.bool true, by simp [execOp, go_sem, h, hc, TL.out], rfl⟩)
      intro L vs w20 nb hL hC hn E20
      have e0 : vs 0 = .int .i64 (i : Int) := hC 0 (by simp)
      have e1 : vs 1 = .bool true := hC 1 (by simp)
      have E : Fr w [(b16_3, 2, Fq.num z), (b11_6, 2, Fq.num (bezU (a % m) m)), (b8_3, 2, Fq.num B), (b6_1, 2, Fq.num m), (b4, 2, Fq.num 0), (b3, 2, Fq.num m), (b2, 2, Fq.num n), (b1, 2, Fq.num a)] w20 := E20
      rw [lay_all hL]
      simp only [putAll, dstOf, List.length_cons, List.length_nil, Nat.zero_add, Nat.reduceAdd, List.getElem?_toArray, List.getElem?_cons_zero, List.getElem?_cons_succ, Option.bind_some, Act.put, List.setIfInBounds_toArray, List.set_cons_succ, List.set_cons_zero]
      rw [e0, e1]
      clear e0 e1 hC hn E20 hL vs L nb
      clear TL
      go_upto_region 14 with (fail)
      have B21 : Hid (ab ((z * z)) < pw 200) := ab_mulM Bz.out Bz.out (by omega)
      have B22 : Hid (ab (((z * z) % m)) < pw 100) := ab_modB HM.out hm.out
      refine region_fr (C := [Fq.is (cloV 57 b6_1), Fq.num z, Fq.num z, Fq.num (z * z), Fq.num ((z * z) % m), Fq.any]) (ks := [some (5, Fq.num ((z * z) % m)), none, none, none, none, none, none, none]) (new := []) E rfl (by kernel_rfl) rfl rfl (fun hp => ⟨?_, ?_, ?_, ?_, ?_, ?_, trivial⟩) ?_
      · exact q_move hp (free_of rfl) trivial (sq_out rfl rfl (fun _ _ => rfl))
      · exact q_loadInt (off := 0) hp (free_of rfl) trivial (List.mem_iff_getElem?.2 ⟨0, rfl⟩) (.inr rfl) (Nat.le_of_ble_eq_true rfl) (sq_out rfl rfl (fun _ _ => rfl)) (fun us w hl h => ld_num hl h)
      · exact q_loadInt (off := 0) hp (free_of rfl) trivial (List.mem_iff_getElem?.2 ⟨0, rfl⟩) (.inr rfl) (Nat.le_of_ble_eq_true rfl) (sq_out rfl rfl (fun _ _ => rfl)) (fun us w hl h => ld_num hl h)
      · exact q_call2 (F := (Fq.num z).P) (G := (Fq.num z).P) hp (free_of rfl) trivial (enq_Mul) (sqi 1) (sqi 2) (fun v v' w h h' => exK (MulV h h') B21.out (by omega))
      · exact q_callCloOut (F := (Fq.num (z * z)).P) hp (free_of rfl) trivial enq_M_within1 (List.mem_iff_getElem?.2 ⟨3, rfl⟩) rfl (sqi 0) (sqi 3) (fun v w h hb => exResidue h hb HM.out (Int.lt_of_lt_of_le B21.out (pw_le (by omega))) (Int.lt_of_lt_of_le hm.out (pw_le (by omega))))
      · exact q_storeOldInt hp (List.mem_iff_getElem?.2 ⟨0, rfl⟩) rfl rfl (sq_out rfl rfl (fun _ _ => rfl)) (sq_in 4 rfl rfl (by simp) rfl (fun v w h => intV_num h)) (fun _ _ => trivial) (newik_ne rfl)
      intro L vs w23 nb hL hC hn E23
      have e0 : vs 0 = cloV 57 b6_1 := hC 0 (by simp)
      have E : Fr w [(b16_3, 2, Fq.num ((z * z) % m)), (b11_6, 2, Fq.num (bezU (a % m) m)), (b8_3, 2, Fq.num B), (b6_1, 2, Fq.num m), (b4, 2, Fq.num 0), (b3, 2, Fq.num m), (b2, 2, Fq.num n), (b1, 2, Fq.num a)] w23 := E23
      rw [lay_all hL]
      simp only [putAll, dstOf, List.length_cons, List.length_nil, Nat.zero_add, Nat.reduceAdd, List.getElem?_toArray, List.getElem?_cons_zero, List.getElem?_cons_succ, Option.bind_some, Act.put, List.setIfInBounds_toArray, List.set_cons_succ, List.set_cons_zero]
      rw [e0]
      generalize vs 1 = u23_1
      generalize vs 2 = u23_2
      generalize vs 3 = u23_3
      generalize vs 4 = u23_4
      clear e0 hC hn E23 hL vs L nb
      by_cases hb : n.natAbs / 2 ^ i % 2 = 1
      · have TB : Hid (decide (n.natAbs / 2 ^ i % 2 = 1) = true) := decide_eq_true hb
        have EZ : Hid ((((z * z) % m) * B) % m = B ^ (n.natAbs / 2 ^ i) % m) := HZ.out.1 hb
        clear hb HZ
        go_upto_region 15 with (fail)
        refine region_fr (C := [Fq.num n, Fq.is (.int .i64 (i : Int)), Fq.is (.bool true)]) (ks := [none, none, none, none, none, none, none, none]) (new := []) E rfl (by kernel_rfl) rfl rfl (fun hp => ⟨?_, ?_, ?_, trivial⟩) ?_
        · exact q_loadInt (off := 0) hp (free_of rfl) trivial (List.mem_iff_getElem?.2 ⟨6, rfl⟩) (.inl rfl) (Nat.le_of_ble_eq_true rfl) (sq_out rfl rfl (fun _ _ => rfl)) (fun us w hl h => ld_num hl h)
        · exact q_move hp (free_of rfl) trivial (sq_out rfl rfl (fun _ _ => rfl))
        · exact q_call2 (F := (Fq.num n).P) (G := (Fq.is (.int .i64 (i : Int))).P) hp (free_of rfl) trivial (enq_M_bit) (sqi 0) (sqi 1) (fun v v' w h h' => (by subst h'; exact exBit h (by have := HJ.out; omega) TB.out))
        intro L vs w24 nb hL hC hn E24
        have e1 : vs 1 = .int .i64 (i : Int) := hC 1 (by simp)
        have e2 : vs 2 = .bool true := hC 2 (by simp)
        have E : Fr w [(b16_3, 2, Fq.num ((z * z) % m)), (b11_6, 2, Fq.num (bezU (a % m) m)), (b8_3, 2, Fq.num B), (b6_1, 2, Fq.num m), (b4, 2, Fq.num 0), (b3, 2, Fq.num m), (b2, 2, Fq.num n), (b1, 2, Fq.num a)] w24 := E24
        rw [lay_all hL]
        simp only [putAll, dstOf, List.length_cons, List.length_nil, Nat.zero_add, Nat.reduceAdd, List.getElem?_toArray, List.getElem?_cons_zero, List.getElem?_cons_succ, Option.bind_some, Act.put, List.setIfInBounds_toArray, List.set_cons_succ, List.set_cons_zero]
        rw [e1, e2]
        generalize vs 0 = u24_0
        clear e1 e2 hC hn E24 hL vs L nb
        clear TB
        go_upto_region 16 with (fail)
        have B25 : Hid (ab ((((z * z) % m) * B)) < pw 200) := ab_mulM B22.out BB.out (by omega)
        have B26 : Hid (ab (((((z * z) % m) * B) % m)) < pw 100) := ab_modB HM.out hm.out
        refine region_fr (C := [Fq.is (cloV 57 b6_1), Fq.num ((z * z) % m), Fq.num B, Fq.num (((z * z) % m) * B), Fq.num ((((z * z) % m) * B) % m), Fq.any]) (ks := [some (5, Fq.num ((((z * z) % m) * B) % m)), none, none, none, none, none, none, none]) (new := []) E rfl (by kernel_rfl) rfl rfl (fun hp => ⟨?_, ?_, ?_, ?_, ?_, ?_, trivial⟩) ?_
        · exact q_move hp (free_of rfl) trivial (sq_out rfl rfl (fun _ _ => rfl))
        · exact q_loadInt (off := 0) hp (free_of rfl) trivial (List.mem_iff_getElem?.2 ⟨0, rfl⟩) (.inr rfl) (Nat.le_of_ble_eq_true rfl) (sq_out rfl rfl (fun _ _ => rfl)) (fun us w hl h => ld_num hl h)
        · exact q_loadInt (off := 0) hp (free_of rfl) trivial (List.mem_iff_getElem?.2 ⟨2, rfl⟩) (.inl rfl) (Nat.le_of_ble_eq_true rfl) (sq_out rfl rfl (fun _ _ => rfl)) (fun us w hl h => ld_num hl h)
        · exact q_call2 (F := (Fq.num ((z * z) % m)).P) (G := (Fq.num B).P) hp (free_of rfl) trivial (enq_Mul) (sqi 1) (sqi 2) (fun v v' w h h' => exK (MulV h h') B25.out (by omega))
        · exact q_callCloOut (F := (Fq.num (((z * z) % m) * B)).P) hp (free_of rfl) trivial enq_M_within1 (List.mem_iff_getElem?.2 ⟨3, rfl⟩) rfl (sqi 0) (sqi 3) (fun v w h hb => exResidue h hb HM.out (Int.lt_of_lt_of_le B25.out (pw_le (by omega))) (Int.lt_of_lt_of_le hm.out (pw_le (by omega))))
        · exact q_storeOldInt hp (List.mem_iff_getElem?.2 ⟨0, rfl⟩) rfl rfl (sq_out rfl rfl (fun _ _ => rfl)) (sq_in 4 rfl rfl (by simp) rfl (fun v w h => intV_num h)) (fun _ _ => trivial) (newik_ne rfl)
        intro L vs w27 nb hL hC hn E27
        have e0 : vs 0 = cloV 57 b6_1 := hC 0 (by simp)
        have E : Fr w [(b16_3, 2, Fq.num ((((z * z) % m) * B) % m)), (b11_6, 2, Fq.num (bezU (a % m) m)), (b8_3, 2, Fq.num B), (b6_1, 2, Fq.num m), (b4, 2, Fq.num 0), (b3, 2, Fq.num m), (b2, 2, Fq.num n), (b1, 2, Fq.num a)] w27 := E27
        rw [lay_all hL]
        simp only [putAll, dstOf, List.length_cons, List.length_nil, Nat.zero_add, Nat.reduceAdd, List.getElem?_toArray, List.getElem?_cons_zero, List.getElem?_cons_succ, Option.bind_some, Act.put, List.setIfInBounds_toArray, List.set_cons_succ, List.set_cons_zero]
        rw [e0]
        generalize vs 1 = u27_1
        generalize vs 2 = u27_2
        generalize vs 3 = u27_3
        generalize vs 4 = u27_4
        clear e0 hC hn E27 hL vs L nb
        go_wp2
        go_roundw
        case rel => exact ⟨i, by have := HJ.out; omega, by first | go_num | (rw [hw]; go_num), by rw [← EZ.out]; exact E⟩
        case measure => first | exact measP | (rw [hw]; exact measP)
      · have TB : Hid (decide (n.natAbs / 2 ^ i % 2 = 1) = false) := decide_eq_false hb
        have EZ : Hid ((z * z) % m = B ^ (n.natAbs / 2 ^ i) % m) := HZ.out.2 hb
        clear hb HZ
        go_upto_region 15 with (fail)
        refine region_fr (C := [Fq.num n, Fq.is (.int .i64 (i : Int)), Fq.is (.bool false)]) (ks := [none, none, none, none, none, none, none, none]) (new := []) E rfl (by kernel_rfl) rfl rfl (fun hp => ⟨?_, ?_, ?_, trivial⟩) ?_
        · exact q_loadInt (off := 0) hp (free_of rfl) trivial (List.mem_iff_getElem?.2 ⟨6, rfl⟩) (.inl rfl) (Nat.le_of_ble_eq_true rfl) (sq_out rfl rfl (fun _ _ => rfl)) (fun us w hl h => ld_num hl h)
        · exact q_move hp (free_of rfl) trivial (sq_out rfl rfl (fun _ _ => rfl))
        · exact q_call2 (F := (Fq.num n).P) (G := (Fq.is (.int .i64 (i : Int))).P) hp (free_of rfl) trivial (enq_M_bit) (sqi 0) (sqi 1) (fun v v' w h h' => (by subst h'; exact exBit h (by have := HJ.out; omega) TB.out))
        intro L vs w28 nb hL hC hn E28
        have e1 : vs 1 = .int .i64 (i : Int) := hC 1 (by simp)
        have e2 : vs 2 = .bool false := hC 2 (by simp)
        have E : Fr w [(b16_3, 2, Fq.num ((z * z) % m)), (b11_6, 2, Fq.num (bezU (a % m) m)), (b8_3, 2, Fq.num B), (b6_1, 2, Fq.num m), (b4, 2, Fq.num 0), (b3, 2, Fq.num m), (b2, 2, Fq.num n), (b1, 2, Fq.num a)] w28 := E28
        rw [lay_all hL]
        simp only [putAll, dstOf, List.length_cons, List.length_nil, Nat.zero_add, Nat.reduceAdd, List.getElem?_toArray, List.getElem?_cons_zero, List.getElem?_cons_succ, Option.bind_some, Act.put, List.setIfInBounds_toArray, List.set_cons_succ, List.set_cons_zero]
        rw [e1, e2]
        generalize vs 0 = u28_0
        clear e1 e2 hC hn E28 hL vs L nb
        clear TB
        go_wp2
        go_roundw
        case rel => exact ⟨i, by have := HJ.out; omega, by first | go_num | (rw [hw]; go_num), by rw [← EZ.out]; exact E⟩
        case measure => first | exact measP | (rw [hw]; exact measP)

end Go.Proofs.YtieobgadihcgeaaGreatDoor

namespace Go.Proofs.YtieobgadihcgeaaGreatDoor
open Go Go.RowKit

def Tabs (w : World) : Prop := TabAt 0 Lib.deBruijn32tab w ∧ TabAt 1 Lib.deBruijn64tab w
theorem tabAt_mono {g : Nat} {tab : List Nat} {w w' : World} (h : TabAt g tab w) (hb : Below w.heap.size w w') : TabAt g tab w' := fun j hj => by
  have h1 := h j hj
  have h2 := World.block_lt_of_cell? w ⟨g, j, none⟩ h1
  exact (hb.cell (p := ⟨g, j, none⟩) h2).trans h1
theorem Tabs.mono {w w' : World} (h : Tabs w) (hb : Below w.heap.size w w') : Tabs w' := ⟨tabAt_mono h.1 hb, tabAt_mono h.2 hb⟩

theorem tz64_core (x k idx : Nat) (w : World) (hx0 : ((x : Int) == 0) = false)
    (key : IntKind.u64.wrap (bits BinOp.and IntKind.u64 (x : Int) (IntKind.u64.wrap (-(x : Int))) * 285870213051353865) / 288230376151711744 = (idx : Int))
    (hi : idx < 64) (hk : k < 64) (hcell : w.cell? ⟨1, idx, none⟩ = some (.int .u8 k)) :
    Calls Tryz.prog 83 #[.int .u64 x] w fun e w' => e = .returned (.int .i64 k) ∧ w' = w := by
  go_enter Tryz.func83, Tryz.ntmps83
  go_wp2_with (simp only [key])
  go_ret
  exact ⟨rfl, rfl⟩
theorem tz64_any (x : Nat) (hx : x < 18446744073709551616) (hx0 : x ≠ 0) (w : World) (hT : Tabs w) :
    Calls Tryz.prog 83 #[.int .u64 x] w fun e w' => e = .returned (.int .i64 (Lib.ctz 64 x)) ∧ w' = w := by
  obtain ⟨hlow, hk⟩ := Lib.lowest_bit 64 x hx0 hx
  obtain ⟨hi, htab⟩ := Lib.deBruijn64_at _ hk
  have hcell := hT.2 _ hi
  rw [htab] at hcell
  exact tz64_core x _ _ w (by simp; omega) (tz64_key x _ hx hx0 hlow) hi hk hcell
theorem tz32_core (x k idx : Nat) (w : World) (hx0 : ((x : Int) == 0) = false)
    (key : bits BinOp.and IntKind.u32 (x : Int) (-(x : Int) % 4294967296) * 125613361 % 4294967296 / 134217728 = (idx : Int))
    (hi : idx < 32) (hk : k < 32) (hcell : w.cell? ⟨0, idx, none⟩ = some (.int .u8 k)) :
    Calls Tryz.prog 67 #[.int .u32 x] w fun e w' => e = .returned (.int .i64 k) ∧ w' = w := by
  go_enter Tryz.func67, Tryz.ntmps67
  go_wp2_with (simp only [key])
  go_ret
  exact ⟨rfl, rfl⟩
theorem tz32_any (x : Nat) (hx : x < 4294967296) (hx0 : x ≠ 0) (w : World) (hT : Tabs w) :
    Calls Tryz.prog 67 #[.int .u32 x] w fun e w' => e = .returned (.int .i64 (Lib.ctz 32 x)) ∧ w' = w := by
  obtain ⟨hlow, hk⟩ := Lib.lowest_bit 32 x hx0 hx
  obtain ⟨hi, htab⟩ := Lib.deBruijn32_at _ hk
  have hcell := hT.1 _ hi
  rw [htab] at hcell
  exact tz32_core x _ _ w (by simp; omega) (tz32_key x _ hx hx0 hlow) hi hk hcell

theorem low_any (w : World) (na : Bool) (ax : Option Addr) (n cx : Nat) (xs : List Int) (hX : Sl w ax n cx xs) (hb1 : n ≤ 1000000) :
    Calls Tryz.prog 36 #[.agg #[.bool na, .slice ax n cx]] w fun e w' => e = .returned (.int .u32 (val xs % 4294967296)) ∧ Below w.heap.size w w' := by
  have hX0 := hX.mono (alloc_below w (.cells #[.bool na, .slice ax n cx] 29))
  by_cases h0 : n = 0
  · subst h0
    have e : xs = [] := List.eq_nil_of_length_eq_zero hX.len
    subst e
    go_enter Tryz.func36, Tryz.ntmps36
    go_wp2
    go_ret
    exact ⟨rfl, alloc_below _ _⟩
  · have h1 : ((n : Int) == 0) = false := by simp; omega
    obtain ⟨b, off, rfl, hbl, x, hxc, hx0, hx1, HX⟩ := hX0.cells.at (k := 0) (by rw [hX.len]; omega)
    have hv : val xs % 4294967296 = x := by
      have h2 := val_drop_step xs (k := 0) (by rw [hX.len]; omega)
      rw [List.drop_zero, HX.out] at h2
      omega
    have HV := hidd hv
    clear hv
    have g1 : (0 : Int) < n := by omega
    rw [Nat.add_zero] at hxc
    go_enter Tryz.func36, Tryz.ntmps36
    go_wp2
    go_ret
    exact ⟨by rw [HV.out]; rfl, alloc_below _ _⟩
theorem exLow {w : World} {v : Value} {z : Int} (h : Num w v z) : Calls Tryz.prog 36 #[v] w fun e w' => ∃ v', e = .returned v' ∧ Below w.heap.size w w' ∧ v' = .int .u32 (ab z % 4294967296) := by
  obtain ⟨neg, ao, n, c, xs, rfl, hs, hn, hz, hc, _⟩ := h
  have h1 : ab z = val xs := by rw [hz, ab_sgn, ab_of (val_nonneg hs.digs)]
  rw [h1]
  exact (low_any _ _ _ _ _ _ hs (by omega)).mono fun e w' hh => ⟨_, hh.1, hh.2, rfl⟩

theorem and_u32 (a b : Nat) (ha : a < 4294967296) (hb : b < 4294967296) : bits .and .u32 (a : Int) (b : Int) = ((a &&& b : Nat) : Int) := bits_and_u32_nat a b ha hb
theorem and_seven (n : Nat) (h : n < 4294967296) : bits .and .u32 (n : Int) 7 = ((n % 8 : Nat) : Int) := by
  have := and_u32 n 7 h (by decide)
  have e : n &&& 7 = n % 8 := Nat.and_two_pow_sub_one_eq_mod n 3
  rw [e] at this
  exact this
theorem and_two (a n : Nat) (ha : a < 4294967296) (hn : n < 4294967296) : bits .and .u32 (bits .and .u32 (a : Int) (n : Int)) 3 = (((a % 4) &&& (n % 4) : Nat) : Int) := by
  have h0 : a &&& n < 2 ^ 32 := Nat.and_lt_two_pow _ (by omega)
  rw [and_u32 a n ha hn]
  have := and_u32 (a &&& n) 3 (by omega) (by decide)
  have e : (a &&& n) &&& 3 = (a &&& n) % 4 := Nat.and_two_pow_sub_one_eq_mod _ 2
  have e2 : (a &&& n) % 2 ^ 2 = (a % 2 ^ 2) &&& (n % 2 ^ 2) := Nat.and_mod_two_pow
  rw [e] at this
  rw [show ((3 : Nat) : Int) = 3 from rfl] at this
  rw [this]
  exact congrArg _ e2
theorem and_i64_one (k : Nat) (h : k < 9223372036854775808) : bits .and .i64 (k : Int) 1 = ((k % 2 : Nat) : Int) := by
  have h2 : (BitVec.ofInt 64 ((k : Nat) : Int)).toNat = k := by rw [BitVec.ofInt_natCast, BitVec.toNat_ofNat]; exact Nat.mod_eq_of_lt (by omega)
  show IntKind.i64.wrap (((BitVec.ofInt 64 (k : Int)) &&& (BitVec.ofInt 64 1)).toNat : Int) = _
  rw [BitVec.toNat_and, h2]
  have h3 : (BitVec.ofInt 64 1).toNat = 1 := rfl
  rw [h3, Nat.and_one_is_mod]
  exact IntWalk.i64_in _ (by omega)

def twosI (k n : Nat) : Int := if k % 2 = 1 ∧ (n % 8 = 3 ∨ n % 8 = 5) then -1 else 1
def turnI (a n : Nat) : Int := if a % 4 = 3 ∧ n % 4 = 3 then -1 else 1
theorem ofTwos_any (w : World) (k n : Nat) (hk : k < 9223372036854775808) (hn : n < 4294967296) :
    Calls Tryz.prog 38 #[.int .i64 (k : Int), .int .u32 (n : Int)] w fun e w' => e = .returned (.int .i64 (twosI k n)) ∧ w' = w := by
  have e1 : bits .and .i64 (k : Int) 1 = (k : Int) % 2 := by rw [and_i64_one k hk]; omega
  have e2 : bits .and .u32 (n : Int) 7 = (n : Int) % 8 := by rw [and_seven n hn]; omega
  unfold twosI
  by_cases h1 : k % 2 = 1
  · have f1 : ((k : Int) % 2 == 1) = true := by simp; omega
    by_cases h2 : n % 8 = 3
    · have f2 : ((n : Int) % 8 == 3) = true := by simp; omega
      rw [if_pos ⟨h1, .inl h2⟩]
      clear h1 h2
      go_enter Tryz.func38, Tryz.ntmps38
      go_wp2_with (simp only [e1, e2, f1, f2])
      go_ret
      exact ⟨rfl, rfl⟩
    · have f2 : ((n : Int) % 8 == 3) = false := by simp; omega
      by_cases h3 : n % 8 = 5
      · have f3 : ((n : Int) % 8 == 5) = true := by simp; omega
        rw [if_pos ⟨h1, .inr h3⟩]
        clear h1 h2 h3
        go_enter Tryz.func38, Tryz.ntmps38
        go_wp2_with (simp only [e1, e2, f1, f2, f3])
        go_ret
        exact ⟨rfl, rfl⟩
      · have f3 : ((n : Int) % 8 == 5) = false := by simp; omega
        rw [if_neg (by omega)]
        clear h1 h2 h3
        go_enter Tryz.func38, Tryz.ntmps38
        go_wp2_with (simp only [e1, e2, f1, f2, f3])
        go_ret
        exact ⟨rfl, rfl⟩
  · have f1 : ((k : Int) % 2 == 1) = false := by simp; omega
    rw [if_neg (by omega)]
    clear h1
    go_enter Tryz.func38, Tryz.ntmps38
    go_wp2_with (simp only [e1, f1])
    go_ret
    exact ⟨rfl, rfl⟩
theorem and_three {a n : Nat} : ((a % 4) &&& (n % 4) = 3) ↔ a % 4 = 3 ∧ n % 4 = 3 := by
  have h1 : a % 4 = 0 ∨ a % 4 = 1 ∨ a % 4 = 2 ∨ a % 4 = 3 := by omega
  have h2 : n % 4 = 0 ∨ n % 4 = 1 ∨ n % 4 = 2 ∨ n % 4 = 3 := by omega
  rcases h1 with e | e | e | e <;> rcases h2 with f | f | f | f <;> rw [e, f] <;> decide
theorem turned_any (w : World) (a n : Nat) (ha : a < 4294967296) (hn : n < 4294967296) :
    Calls Tryz.prog 68 #[.int .u32 (a : Int), .int .u32 (n : Int)] w fun e w' => e = .returned (.int .i64 (turnI a n)) ∧ w' = w := by
  have e1 := and_two a n ha hn
  obtain ⟨X, hX⟩ : ∃ X : Int, X = (((a % 4) &&& (n % 4) : Nat) : Int) := ⟨_, rfl⟩
  rw [← hX] at e1
  unfold turnI
  by_cases h : a % 4 = 3 ∧ n % 4 = 3
  · have f1 : (X == 3) = true := by rw [hX, and_three.2 h]; rfl
    rw [if_pos h]
    clear h hX
    go_enter Tryz.func68, Tryz.ntmps68
    go_wp2_with (simp only [e1, f1])
    go_ret
    exact ⟨rfl, rfl⟩
  · have f1 : (X == 3) = false := by
      have := mt and_three.1 h
      rw [hX]
      simp
      omega
    rw [if_neg h]
    clear h hX
    go_enter Tryz.func68, Tryz.ntmps68
    go_wp2_with (simp only [e1, f1])
    go_ret
    exact ⟨rfl, rfl⟩

end Go.Proofs.YtieobgadihcgeaaGreatDoor
