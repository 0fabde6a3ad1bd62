/- Integers in memory; walks: signed, Add. -/
import Derived.Test.YtjpbmghdamcdcaaA
import Derived.Test.YtjpbmghdamcdcaaB
import Derived.Test.YtjpbmghdamcdcaaC
import Derived.Deep.RegionHeld3
namespace Go.Proofs.Ytjpbmghdamcdcaa
open Go.RowKit

theorem Sl.drew {w : World} {ao : Option Addr} {n c : Nat} {xs : List Int} (h : Sl w ao n c xs) : Sl w.drew ao n c xs := ⟨h.len, h.cap, h.cells⟩

def sgn (neg : Bool) (v : Int) : Int := if neg then -v else v

/-- A value that is the canonical form of an integer. -/
def IsInt (w : World) (v : Value) (z : Int) : Prop :=
  ∃ (neg : Bool) (ao : Option Addr) (n c : Nat) (xs : List Int), v = .agg #[.bool neg, .slice ao n c] ∧ Sl w ao n c xs ∧ Canon xs ∧ (neg = true → n ≠ 0) ∧ z = sgn neg (val xs)

theorem IsInt.mono {w w' : World} {v : Value} {z : Int} (h : IsInt w v z) (hb : Below w.heap.size w w') : IsInt w' v z := by
  obtain ⟨neg, ao, n, c, xs, hv, hs, hc, hn, hz⟩ := h
  exact ⟨neg, ao, n, c, xs, hv, hs.mono hb, hc, hn, hz⟩

/-- A call's result and what became of memory. -/
def GivesInt (w : World) (z : Int) (e : Ending) (w' : World) : Prop := ∃ v, e = .returned v ∧ IsInt w' v z ∧ Below w.heap.size w w'

set_option maxHeartbeats 1000000 in
theorem signed_any (w : World) (neg : Bool) (ax : Option Addr) (n c : Nat) (xs : List Int) (hX : Sl w ax n c xs) (hb : n ≤ 4000000) :
    Calls Try.prog 57 #[.bool neg, .slice ax n c] w (GivesInt w (sgn neg (val xs))) := by
  have hbl : ∀ o, Below w.heap.size w (w.alloc o) := fun o => (Below.refl _ _).alloc (Nat.le_refl _) o
  go_enter Try.func57, Try.ntmps57
  go_wp2_with (go_at_call 53; refine (trim_any _ _ _ _ _ (hX.mono (hbl _)) (by omega)).mono ?_; rintro e w' ⟨m, rfl, hm, hsm, hvm, hcm, rfl⟩)
  · rename_i h0
    refine bodyPost_ret (v := .agg #[.bool false, .slice none 0 0]) (by simp [results, Try.results57, go_sem]) rfl ⟨_, rfl, ⟨false, none, 0, 0, [], rfl, Sl.nil _, ⟨fun _ hx => by simp at hx, .inl rfl⟩, by simp, ?_⟩, hbl _⟩
    have h1 : m = 0 := by simpa using h0
    subst h1
    simp only [List.take_zero, val] at hvm
    cases neg <;> simp [sgn, val, ← hvm]
  · rename_i h0
    have h1 : m ≠ 0 := by simpa using h0
    have hs2 : Sl (w.alloc (.cells #[.bool neg, .slice ax m c] 27)) ax m c (xs.take m) := (hX.take hm).mono (hbl _)
    exact bodyPost_ret (v := .agg #[.bool neg, .slice ax m c]) (by simp [results, Try.results57, go_sem]) rfl ⟨_, rfl, ⟨neg, ax, m, c, _, rfl, hs2, hcm, fun _ => h1, by rw [hvm]⟩, hbl _⟩

/-- What lies below block B is as it was at the start. -/
def Kept (B : Nat) (w0 W : World) : Prop := B ≤ W.heap.size ∧ (∀ b o, b < B → W.cell? ⟨b, o, none⟩ = w0.cell? ⟨b, o, none⟩) ∧ ∀ b o, b < B → W.frozen? ⟨b, o, none⟩ = w0.frozen? ⟨b, o, none⟩

theorem Kept.call {B : Nat} {w0 w1 w2 : World} (h : Kept B w0 w1) (hb : Below w1.heap.size w1 w2) : Kept B w0 w2 :=
  ⟨Nat.le_trans h.1 hb.size, fun b o hlt => (hb.cell (p := ⟨b, o, none⟩) (Nat.lt_of_lt_of_le hlt h.1)).trans (h.2.1 b o hlt),
    fun b o hlt => (hb.frozen (p := ⟨b, o, none⟩) (Nat.lt_of_lt_of_le hlt h.1)).trans (h.2.2 b o hlt)⟩

theorem Kept.start {B : Nat} {w : World} (h : B ≤ w.heap.size) : Kept B w w.drew := ⟨h, fun _ _ _ => rfl, fun _ _ _ => rfl⟩

theorem Kept.set {B : Nat} {w0 w1 : World} (h : Kept B w0 w1) {b o : Nat} (hb : B ≤ b) (v : Value) : Kept B w0 (w1.setCell ⟨b, o, none⟩ v) := by
  refine ⟨by rw [World.size_setCell]; exact h.1, fun b' o' hlt => ?_, fun b' o' hlt => ?_⟩
  · rw [World.cell?_setCell_other _ _ _ _ (by intro e; cases e; omega)]; exact h.2.1 b' o' hlt
  · rw [World.frozen?_setCell]; exact h.2.2 b' o' hlt

/-- An integer's two cells, the call's own. -/
def IntBox (W : World) (b : Nat) (p q : Value) : Prop :=
  W.cell? ⟨b, 0, none⟩ = some p ∧ W.cell? ⟨b, 1, none⟩ = some q ∧ W.frozen? ⟨b, 0, none⟩ = false ∧ W.frozen? ⟨b, 1, none⟩ = false

theorem IntBox.mono {W W' : World} {b B : Nat} {p q : Value} (h : IntBox W b p q) (hb : Below B W W') (hlt : b < B) : IntBox W' b p q :=
  ⟨(hb.cell (p := ⟨b, 0, none⟩) hlt).trans h.1, (hb.cell (p := ⟨b, 1, none⟩) hlt).trans h.2.1, (hb.frozen (p := ⟨b, 0, none⟩) hlt).trans h.2.2.1, (hb.frozen (p := ⟨b, 1, none⟩) hlt).trans h.2.2.2⟩

theorem IntBox.new (W : World) (p q : Value) (t : TypeId) : IntBox (W.alloc (.cells #[p, q] t)) W.heap.size p q := by
  refine ⟨?_, ?_, ?_, ?_⟩ <;> simp

theorem IntBox.lt {W : World} {b : Nat} {p q : Value} (h : IntBox W b p q) : b < W.heap.size := World.block_lt_of_cell? W ⟨b, 0, none⟩ h.1

theorem Sl.setOther {w : World} {ao : Option Addr} {n c : Nat} {xs : List Int} (h : Sl w ao n c xs) {a : Addr} {v : Value} (ha : w.cell? a = some v) (hv : ∀ q, v ≠ .int .u32 q) (u : Value) : Sl (w.setCell a u) ao n c xs := by
  refine ⟨h.len, h.cap, h.digs, ?_⟩
  rcases h.cells.2 with h0 | ⟨b, off, hao, hlt, hc⟩
  · exact .inl h0
  · refine .inr ⟨b, off, hao, by rw [World.size_setCell]; exact hlt, fun j hj => ?_⟩
    rw [World.cell?_setCell_other _ _ _ _ (by intro e; rw [e, hc j hj] at ha; cases ha; exact hv _ rfl)]
    exact hc j hj

/-- The result is stored in its box. -/
theorem gives_store {w w3 : World} {r : Nat} {ng : Bool} {ao : Option Addr} {nn cc : Nat} {rs : List Int} {z : Int} (hI : IntBox w3 r (.bool false) (.slice none 0 0)) (hs : Sl w3 ao nn cc rs) (hc : Canon rs) (hn : ng = true → nn ≠ 0) (hz : z = sgn ng (val rs))
    (hb : Below w.heap.size w w3) (hr : w.heap.size ≤ r) :
    GivesInt w z (.returned (.agg #[.bool ng, .slice ao nn cc])) ((w3.setCell ⟨r, 0, none⟩ (.bool ng)).setCell ⟨r, 1, none⟩ (.slice ao nn cc)) := by
  have h1 : (w3.setCell ⟨r, 0, none⟩ (.bool ng)).cell? ⟨r, 1, none⟩ = some (.slice none 0 0) := by
    rw [World.cell?_setCell_other _ _ _ _ (by intro e; cases e)]; exact hI.2.1
  exact ⟨_, rfl, ⟨ng, ao, nn, cc, rs, rfl, (hs.setOther hI.1 (by intro q e; cases e) _).setOther h1 (by intro q e; cases e) _, hc, hn, hz⟩, (hb.setCell hr _).setCell hr _⟩

theorem Sl.drawn' {w w' : World} {ao : Option Addr} {n c : Nat} {xs : List Int} (h : Sl w ao n c xs) (d : Drawn w w') : Sl w' ao n c xs := h.mono (d.below _)

theorem len_le {w : World} {ax ay : Option Addr} {n m cx cy : Nat} {xs ys : List Int} (hc : Canon xs) (hX : Sl w ax n cx xs) (hY : Sl w ay m cy ys) (h : val xs ≤ val ys) : n ≤ m := by
  have h1 := val_lt hY.digs
  have h2 := hc.length_le (k := ys.length) (by omega)
  rw [hX.len, hY.len] at h2
  exact h2

/-- Three boxes: two arguments and the result. -/
theorem boxes3 (w : World) (a1 a2 b1 b2 : Value) (t : TypeId) :
    ∃ w0, w0 = ((w.alloc (.cells #[a1, a2] t)).alloc (.cells #[b1, b2] t)).alloc (.cells #[.bool false, .slice none 0 0] t) ∧ IntBox w0 w.heap.size a1 a2 ∧ IntBox w0 (w.heap.size + 1) b1 b2 ∧ IntBox w0 (w.heap.size + 1 + 1) (.bool false) (.slice none 0 0) ∧
      Below w.heap.size w w0 ∧ Hid (w0.heap.size = w.heap.size + 3) := by
  have l1 := (Below.refl (w.heap.size + 1) (w.alloc (.cells #[a1, a2] t))).alloc (by simp) (.cells #[b1, b2] t)
  have l2 := (Below.refl (w.heap.size + 1 + 1) ((w.alloc (.cells #[a1, a2] t)).alloc (.cells #[b1, b2] t))).alloc (by simp) (.cells #[.bool false, .slice none 0 0] t)
  refine ⟨_, rfl, ?_, ?_, ?_, ?_, ?_⟩
  · exact ((IntBox.new w a1 a2 t).mono l1 (by omega)).mono l2 (by omega)
  · have := IntBox.new (w.alloc (.cells #[a1, a2] t)) b1 b2 t
    rw [World.size_alloc] at this
    exact this.mono l2 (by omega)
  · have := IntBox.new ((w.alloc (.cells #[a1, a2] t)).alloc (.cells #[b1, b2] t)) (.bool false) (.slice none 0 0) t
    rw [World.size_alloc, World.size_alloc] at this
    exact this
  · exact (((Below.refl _ _).alloc (Nat.le_refl _) _).alloc (by simp) _).alloc (by simp; omega) _
  · show _ = _
    simp

end Go.Proofs.Ytjpbmghdamcdcaa
