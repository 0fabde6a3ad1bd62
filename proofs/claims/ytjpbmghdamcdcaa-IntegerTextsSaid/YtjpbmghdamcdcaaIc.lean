/- Checks for a region that draws its order; contracts on values. -/
import Derived.Test.YtjpbmghdamcdcaaIb
import Derived.Test.YtjpbmghdamcdcaaS
import Derived.Test.YtjpbmghdamcdcaaK
import Derived.Test.YtjpbmghdamcdcaaRa
namespace Go.Proofs.Ytjpbmghdamcdcaa
open Go Go.RowKit

def AllOps (R : Nat → Oper → Prop) : List Oper → Nat → Prop
  | [], _ => True
  | o :: os, k => R k o ∧ AllOps R os (k + 1)

theorem AllOps.at {R : Nat → Oper → Prop} : ∀ {os : List Oper} {k : Nat}, AllOps R os k → ∀ (i : Nat) (o : Oper), os[i]? = some o → R (k + i) o
  | [], _, _, i, o, h => by simp at h
  | o' :: os, k, hh, 0, o, h => by simp at h; subst h; exact hh.1
  | o' :: os, k, hh, i + 1, o, h => by
    have := AllOps.at hh.2 i o (by simpa using h)
    rw [show k + 1 + i = k + (i + 1) from by omega] at this
    exact this

theorem all_ops {R : Nat → Oper → Prop} {os : List Oper} (h : AllOps R os 0) (i : Nat) (o : Oper) (ho : os.toArray[i]? = some o) : R i o := by
  have := h.at i o (by simpa using ho)
  rwa [Nat.zero_add] at this

/-- No two lay into the same slot, as a check. -/
def apartB (ds : List (Option Tmp)) : Bool := match ds with
  | [] => true
  | none :: r => apartB r
  | some d :: r => !r.contains (some d) && apartB r

theorem apartB_spec : ∀ {ds : List (Option Tmp)}, apartB ds = true → ∀ (j k : Nat) (d : Tmp), j < k → ds[j]? = some (some d) → ds[k]? ≠ some (some d)
  | [], _, j, k, d, _, h => by simp at h
  | none :: r, hb, 0, k, d, _, h => by simp at h
  | none :: r, hb, j + 1, k + 1, d, hjk, h => by
    simp at h ⊢
    exact apartB_spec (by simpa [apartB] using hb) j k d (by omega) h
  | some d' :: r, hb, 0, k + 1, d, _, h => by
    simp at h
    subst h
    simp [apartB] at hb
    simp
    intro e
    exact hb.1 (List.mem_of_getElem? e)
  | some d' :: r, hb, j + 1, k + 1, d, hjk, h => by
    simp [apartB] at hb
    simp at h ⊢
    exact apartB_spec hb.2 j k d (by omega) h

theorem apart_of {os : List Oper} (h : apartB (os.map (·.dst)) = true) : ApartAll os.toArray := by
  have key : ∀ j d, dstOf os.toArray j = some d → (os.map (·.dst))[j]? = some (some d) := fun j d hd => by
    unfold dstOf at hd
    simp at hd ⊢
    cases ho : os[j]? with
    | none => simp [ho] at hd
    | some o => simp [ho] at hd ⊢; exact hd
  intro j k d hne hj hk
  have h1 := key j d hj
  have h2 := key k d hk
  rcases Nat.lt_or_gt_of_ne hne with hlt | hlt
  · exact apartB_spec h j k d hlt h1 h2
  · exact apartB_spec h k j d hlt h2 h1

/-- Binding edges lead back, as a check. -/
def backB : List Oper → Nat → Bool
  | [], _ => true
  | o :: os, k => o.after.toList.all (fun e => !Region.binds .any e || decide (e.on < k)) && backB os (k + 1)

theorem backB_spec : ∀ {os : List Oper} {k : Nat}, backB os k = true → AllOps (fun i o => ∀ e ∈ o.after, Region.binds .any e = true → e.on < i) os k
  | [], _, _ => trivial
  | o :: os, k, h => by
    simp only [backB, Bool.and_eq_true] at h
    refine ⟨fun e he hb => ?_, backB_spec h.2⟩
    have := List.all_eq_true.1 h.1 e (by simpa using he)
    simpa [hb] using this

theorem back_of {os : List Oper} (h : backB os 0 = true) : ∀ i o, os.toArray[i]? = some o → ∀ e ∈ o.after, Region.binds .any e = true → e.on < i := fun i o ho => all_ops (backB_spec h) i o ho

/-- A number's length. -/
theorem IsInt.num {w : World} {v : Value} {z : Int} (h : IsInt w v z) {k : Nat} (hk : k ≤ 900000) (hz : (z.natAbs : Int) < pw k) : Num w v z := by
  obtain ⟨neg, ao, n, c, xs, hv, hs, hc, hn, hz'⟩ := h
  have h0 := val_nonneg hs.digs
  have h1 : val xs < pw k := by
    subst hz'
    cases neg <;> simp [sgn] at hz <;> omega
  have h2 := hc.length_le h1
  rw [hs.len] at h2
  exact ⟨neg, ao, n, c, xs, hv, hs, by omega, hz', hc, hn⟩

theorem Num.isInt {w : World} {v : Value} {z : Int} (h : Num w v z) : IsInt w v z := by
  obtain ⟨neg, ao, n, c, xs, hv, hs, hn, hz, hc, hnn⟩ := h
  exact ⟨neg, ao, n, c, xs, hv, hs, hc, hnn, hz⟩

theorem Num.lt {w : World} {v : Value} {z : Int} (h : Num w v z) : (z.natAbs : Int) < pw 900000 := by
  obtain ⟨neg, ao, n, c, xs, hv, hs, hn, hz, _⟩ := h
  have h0 := val_nonneg hs.digs
  have h1 := val_lt hs.digs
  have h2 := pw_le (show xs.length ≤ 900000 by rw [hs.len]; exact hn)
  subst hz
  cases neg <;> simp [sgn] <;> omega

theorem AbsV {w : World} {v : Value} {z : Int} (h : Num w v z) : Calls Try.prog 27 #[v] w (GivesInt w z.natAbs) := by
  obtain ⟨neg, ao, n, c, xs, rfl, hs, hn, rfl, _⟩ := h
  have h0 := val_nonneg hs.digs
  have e : ((sgn neg (val xs)).natAbs : Int) = val xs := by cases neg <;> simp [sgn] <;> omega
  rw [e]
  exact Abs_any _ _ _ _ _ _ hs (by omega)

theorem SignV {w : World} {v : Value} {z : Int} (h : Num w v z) : Calls Try.prog 31 #[v] w fun e w' => e = .returned (.int .i64 (cmpI z 0)) ∧ Below w.heap.size w w' := by
  obtain ⟨neg, ao, n, c, xs, rfl, hs, hn, rfl, _⟩ := h
  exact Sign_any _ _ _ _ _ _ hs (by omega)

theorem MulV {w : World} {v v' : Value} {z z' : Int} (h : Num w v z) (h' : Num w v' z') : Calls Try.prog 23 #[v, v'] w (GivesInt w (z * z')) := by
  obtain ⟨neg, ao, n, c, xs, rfl, hs, hn, rfl, _⟩ := h
  obtain ⟨neg', ao', n', c', xs', rfl, hs', hn', rfl, _⟩ := h'
  exact Mul_any _ _ _ _ _ _ _ _ _ _ _ hs hs' (by omega) (by omega)

theorem SubV {w : World} {v v' : Value} {z z' : Int} (h : Num w v z) (h' : Num w v' z') : Calls Try.prog 21 #[v, v'] w (GivesInt w (z - z')) := by
  obtain ⟨neg, ao, n, c, xs, rfl, hs, hn, rfl, _⟩ := h
  obtain ⟨neg', ao', n', c', xs', rfl, hs', hn', rfl, _⟩ := h'
  exact Sub_any _ _ _ _ _ _ _ _ _ _ _ hs hs' (by omega) (by omega)

theorem DivModV {w : World} {v v' : Value} {z z' : Int} (h : Num w v z) (h' : Num w v' z') : Calls Try.prog 13 #[v, v'] w (DivGives w z z') := by
  obtain ⟨neg, ao, n, c, xs, rfl, hs, hn, rfl, _⟩ := h
  obtain ⟨neg', ao', n', c', xs', rfl, hs', hn', rfl, _⟩ := h'
  exact DivMod_any _ _ _ _ _ _ _ _ _ _ _ hs hs' (by omega) (by omega)

end Go.Proofs.Ytjpbmghdamcdcaa
