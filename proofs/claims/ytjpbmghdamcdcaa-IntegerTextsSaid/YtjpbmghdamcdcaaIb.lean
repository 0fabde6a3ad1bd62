/- A region that draws its order, over boxes of integers. -/
import Derived.Test.YtjpbmghdamcdcaaIs
namespace Go.Proofs.Ytjpbmghdamcdcaa
open Go Go.RowKit

/-- A number in its canonical form, of at most 900000 words. -/
def Num (w : World) (v : Value) (z : Int) : Prop :=
  ∃ (neg : Bool) (ao : Option Addr) (n c : Nat) (xs : List Int), v = .agg #[.bool neg, .slice ao n c] ∧ Sl w ao n c xs ∧ n ≤ 900000 ∧ z = sgn neg (val xs) ∧ Canon xs ∧ (neg = true → n ≠ 0)

theorem Num.mono {w w' : World} {v : Value} {z : Int} (h : Num w v z) (hb : Below w.heap.size w w') : Num w' v z := by
  obtain ⟨neg, ao, n, c, xs, hv, hs, hn, hz⟩ := h
  exact ⟨neg, ao, n, c, xs, hv, hs.mono hb, hn, hz⟩

/-- A box that holds a number. -/
def BoxNum (w : World) (b : Nat) (z : Int) : Prop := ∃ (n : Bool) (ao : Option Addr) (k c : Nat), IntBox w b (.bool n) (.slice ao k c) ∧ Num w (.agg #[.bool n, .slice ao k c]) z

theorem BoxNum.lt {w : World} {b : Nat} {z : Int} (h : BoxNum w b z) : b < w.heap.size := by
  obtain ⟨n, ao, k, c, hI, _⟩ := h
  exact hI.lt

theorem BoxNum.mono {w w' : World} {b : Nat} {z : Int} (h : BoxNum w b z) (hb : Below w.heap.size w w') : BoxNum w' b z := by
  have hl := h.lt
  obtain ⟨n, ao, k, c, hI, hN⟩ := h
  exact ⟨n, ao, k, c, hI.mono hb hl, hN.mono hb⟩

/-- An integer is stored in a box. -/
def putBox (w : World) (b : Nat) (n : Bool) (ao : Option Addr) (k c : Nat) : World := (w.setCell ⟨b, 0, none⟩ (.bool n)).setCell ⟨b, 1, none⟩ (.slice ao k c)

theorem putBox_size (w : World) (b : Nat) (n : Bool) (ao : Option Addr) (k c : Nat) : (putBox w b n ao k c).heap.size = w.heap.size := by
  unfold putBox; rw [World.size_setCell, World.size_setCell]

theorem Sl.putBox {w : World} {ao : Option Addr} {n c : Nat} {xs : List Int} (h : Sl w ao n c xs) {b : Nat} {p' : Bool} {q' : Option Addr} {r' s' : Nat} (hI : IntBox w b (.bool p') (.slice q' r' s')) (n' : Bool) (a' : Option Addr) (k' c' : Nat) : Sl (putBox w b n' a' k' c') ao n c xs := by
  have h1 : (w.setCell ⟨b, 0, none⟩ (.bool n')).cell? ⟨b, 1, none⟩ = some (.slice q' r' s') := by
    rw [World.cell?_setCell_other _ _ _ _ (by intro e; cases e)]; exact hI.2.1
  exact (h.setOther hI.1 (by intro q e; cases e) _).setOther h1 (by intro q e; cases e) _

theorem Num.putBox {w : World} {v : Value} {z y : Int} {b : Nat} (h : Num w v z) (hb : BoxNum w b y) (n' : Bool) (a' : Option Addr) (k' c' : Nat) : Num (putBox w b n' a' k' c') v z := by
  obtain ⟨neg, ao, n, c, xs, hv, hs, hn, hz⟩ := h
  obtain ⟨_, _, _, _, hI, _⟩ := hb
  exact ⟨neg, ao, n, c, xs, hv, hs.putBox hI _ _ _ _, hn, hz⟩

theorem IntBox.putOther {w : World} {b b' : Nat} {p q : Value} (h : IntBox w b p q) (hne : b ≠ b') (n' : Bool) (a' : Option Addr) (k' c' : Nat) : IntBox (putBox w b' n' a' k' c') b p q := by
  unfold Go.Proofs.Ytjpbmghdamcdcaa.putBox
  refine ⟨?_, ?_, ?_, ?_⟩
  · rw [World.cell?_setCell_other _ _ _ _ (by intro e; exact hne (congrArg Addr.block e).symm), World.cell?_setCell_other _ _ _ _ (by intro e; exact hne (congrArg Addr.block e).symm)]; exact h.1
  · rw [World.cell?_setCell_other _ _ _ _ (by intro e; exact hne (congrArg Addr.block e).symm), World.cell?_setCell_other _ _ _ _ (by intro e; exact hne (congrArg Addr.block e).symm)]; exact h.2.1
  · rw [World.frozen?_setCell, World.frozen?_setCell]; exact h.2.2.1
  · rw [World.frozen?_setCell, World.frozen?_setCell]; exact h.2.2.2

theorem BoxNum.putOther {w : World} {b b' : Nat} {z y : Int} (h : BoxNum w b z) (hb : BoxNum w b' y) (hne : b ≠ b') (n' : Bool) (a' : Option Addr) (k' c' : Nat) : BoxNum (putBox w b' n' a' k' c') b z := by
  obtain ⟨n, ao, k, c, hI, hN⟩ := h
  exact ⟨n, ao, k, c, hI.putOther hne _ _ _ _, hN.putBox hb _ _ _ _⟩

theorem BoxNum.putSame {w : World} {b : Nat} {z y : Int} {n' : Bool} {a' : Option Addr} {k' c' : Nat} (h : BoxNum w b y) (hN : Num w (.agg #[.bool n', .slice a' k' c']) z) : BoxNum (putBox w b n' a' k' c') b z := by
  have hN' := hN.putBox h n' a' k' c'
  obtain ⟨n, ao, k, c, hI, _⟩ := h
  refine ⟨n', a', k', c', ⟨?_, ?_, ?_, ?_⟩, hN'⟩
  · unfold Go.Proofs.Ytjpbmghdamcdcaa.putBox
    rw [World.cell?_setCell_other _ _ _ _ (by intro e; cases e)]
    exact World.cell?_setCell_same' _ _ _ (by rw [hI.1]; rfl)
  · unfold Go.Proofs.Ytjpbmghdamcdcaa.putBox
    refine World.cell?_setCell_same' _ _ _ ?_
    rw [World.cell?_setCell_other _ _ _ _ (by intro e; cases e), hI.2.1]; rfl
  · unfold Go.Proofs.Ytjpbmghdamcdcaa.putBox
    rw [World.frozen?_setCell, World.frozen?_setCell]; exact hI.2.2.1
  · unfold Go.Proofs.Ytjpbmghdamcdcaa.putBox
    rw [World.frozen?_setCell, World.frozen?_setCell]; exact hI.2.2.2

theorem belowPut {B : Nat} {w w' : World} (h : Below B w w') {b : Nat} (hb : B ≤ b) (n' : Bool) (a' : Option Addr) (k' c' : Nat) : Below B w (putBox w' b n' a' k' c') := (h.setCell hb _).setCell hb _

/-- What a region's operations are to give: C: the values; old: boxes from before (block, the store's number, the number before it, and behind it); new: boxes of its own (the allocation's number, the store's, the number stored). -/
structure Plan where
  C : Nat → Value → World → Prop
  old : List (Nat × Nat × Int × Int)
  new : List (Nat × Nat × Int)

/-- What is held at any time. -/
structure Plan.G (p : Plan) (B B0 : Nat) (w0 : World) (L : Nat → Bool) (vs : Nat → Value) (w : World) : Prop where
  below : Below B w0 w
  size : B0 ≤ w.heap.size
  val : ∀ j, L j = true → p.C j (vs j) w
  old : ∀ o ∈ p.old, BoxNum w o.1 (if L o.2.1 then o.2.2.2 else o.2.2.1)
  new : ∀ n ∈ p.new, L n.1 = true → ∃ b, vs n.1 = .pointer (some ⟨b, 0, none⟩) ∧ B0 ≤ b ∧ BoxNum w b (if L n.2.1 then n.2.2 else 0)
  apart : ∀ n ∈ p.new, ∀ m ∈ p.new, n.1 ≠ m.1 → L n.1 = true → L m.1 = true → vs n.1 ≠ vs m.1

/-- What the plan itself must meet. -/
structure Plan.Ok (p : Plan) (B B0 : Nat) : Prop where
  mono : ∀ j v w w', p.C j v w → Below w.heap.size w w' → p.C j v w'
  put : ∀ j v w b y n' a' k' c', p.C j v w → BoxNum w b y → p.C j v (putBox w b n' a' k' c')
  oldlt : ∀ o ∈ p.old, B ≤ o.1 ∧ o.1 < B0
  oldne : ∀ o ∈ p.old, ∀ q ∈ p.old, o.2.1 ≠ q.2.1 → o.1 ≠ q.1
  newinj : ∀ n ∈ p.new, ∀ m ∈ p.new, n.1 = m.1 → n = m
  le : B ≤ B0

/-- An operation that stores nothing in a box, and makes none. -/
theorem Plan.G.plain {p : Plan} {B B0 : Nat} {w0 w w' : World} {L : Nat → Bool} {vs : Nat → Value} (h : p.G B B0 w0 L vs w) (hp : p.Ok B B0) {i : Nat} {v : Value} (hL : L i = false) (hb : Below w.heap.size w w') (hC : p.C i v w')
    (h1 : ∀ o ∈ p.old, o.2.1 ≠ i) (h2 : ∀ n ∈ p.new, n.1 ≠ i ∧ n.2.1 ≠ i) : p.G B B0 w0 (up L i true) (up vs i v) w' where
  below := h.below.trans (hb.mono (Nat.le_trans hp.le h.size))
  size := Nat.le_trans h.size hb.size
  val := fun j hj => by
    by_cases hji : j = i
    · subst hji; rw [up_same]; exact hC
    · rw [up_ne _ _ hji] at hj ⊢; exact hp.mono _ _ _ _ (h.val j hj) hb
  old := fun o ho => by rw [up_ne _ _ (h1 o ho)]; exact (h.old o ho).mono hb
  new := fun n hn hj => by
    rw [up_ne _ _ (h2 n hn).1] at hj ⊢
    rw [up_ne _ _ (h2 n hn).2]
    obtain ⟨b, e1, e2, e3⟩ := h.new n hn hj
    exact ⟨b, e1, e2, e3.mono hb⟩
  apart := fun n hn m hm hne hj hk => by
    rw [up_ne _ _ (h2 n hn).1] at hj ⊢
    rw [up_ne _ _ (h2 m hm).1] at hk ⊢
    exact h.apart n hn m hm hne hj hk

theorem BoxNum.zero {w : World} {b : Nat} (h : IntBox w b (.bool false) (.slice none 0 0)) : BoxNum w b 0 :=
  ⟨false, none, 0, 0, h, false, none, 0, 0, [], rfl, Sl.nil _, by omega, by simp [sgn, Go.Proofs.Ytjpbmghdamcdcaa.val], ⟨fun _ hx => by simp at hx, .inl rfl⟩, by simp⟩

/-- A box is made. -/
theorem Plan.G.alloc {p : Plan} {B B0 : Nat} {w0 w : World} {L : Nat → Bool} {vs : Nat → Value} (h : p.G B B0 w0 L vs w) (hp : p.Ok B B0) {i k : Nat} {z : Int} (hL : L i = false) (hk : L k = false) (hi : (i, k, z) ∈ p.new)
    (hC : ∀ v w', p.C i v w') (h1 : ∀ o ∈ p.old, o.2.1 ≠ i) (h2 : ∀ n ∈ p.new, n.2.1 ≠ i ∧ (n.1 = i → n = (i, k, z))) (t : TypeId) :
    p.G B B0 w0 (up L i true) (up vs i (.pointer (some ⟨w.heap.size, 0, none⟩))) (w.alloc (.cells #[.bool false, .slice none 0 0] t)) := by
  have hb := alloc_below w (.cells #[.bool false, .slice none 0 0] t)
  refine ⟨h.below.trans (hb.mono (Nat.le_trans hp.le h.size)), Nat.le_trans h.size hb.size, fun j hj => ?_, fun o ho => ?_, fun n hn hj => ?_, fun n hn m hm hne hj hk' => ?_⟩
  · by_cases hji : j = i
    · subst hji; exact hC _ _
    · rw [up_ne _ _ hji] at hj ⊢; exact hp.mono _ _ _ _ (h.val j hj) hb
  · rw [up_ne _ _ (h1 o ho)]; exact (h.old o ho).mono hb
  · rw [up_ne _ _ (h2 n hn).1]
    by_cases hni : n.1 = i
    · have e := (h2 n hn).2 hni
      subst e
      rw [up_same]
      refine ⟨_, rfl, h.size, ?_⟩
      show BoxNum _ _ (if L k then z else 0)
      rw [hk]
      exact BoxNum.zero (IntBox.new w _ _ t)
    · rw [up_ne _ _ hni] at hj ⊢
      obtain ⟨b, e1, e2, e3⟩ := h.new n hn hj
      exact ⟨b, e1, e2, e3.mono hb⟩
  · by_cases hni : n.1 = i
    · have hmi : m.1 ≠ i := fun e => hne (hni.trans e.symm)
      rw [hni, up_same]
      rw [up_ne _ _ hmi] at hk' ⊢
      obtain ⟨b, e1, e2, e3⟩ := h.new m hm hk'
      rw [e1]
      intro e
      have := e3.lt
      injection e with e
      injection e with e
      injection e with e
      omega
    · rw [up_ne _ _ hni] at hj ⊢
      by_cases hmi : m.1 = i
      · rw [hmi, up_same]
        obtain ⟨b, e1, e2, e3⟩ := h.new n hn hj
        rw [e1]
        intro e
        have := e3.lt
        injection e with e
        injection e with e
        injection e with e
        omega
      · rw [up_ne _ _ hmi] at hk' ⊢
        exact h.apart n hn m hm hne hj hk'

/-- A number is stored in a box of the region's own. -/
theorem Plan.G.storeNew {p : Plan} {B B0 : Nat} {w0 w : World} {L : Nat → Bool} {vs : Nat → Value} (h : p.G B B0 w0 L vs w) (hp : p.Ok B B0) {i k : Nat} {z : Int} (hL : L k = false) (hi : (i, k, z) ∈ p.new) (hLi : L i = true)
    {n' : Bool} {a' : Option Addr} {k' c' : Nat} (hN : Num w (.agg #[.bool n', .slice a' k' c']) z) (hC : ∀ v w', p.C k v w') (h1 : ∀ o ∈ p.old, o.2.1 ≠ k) (h2 : ∀ n ∈ p.new, n.1 ≠ k ∧ (n.2.1 = k → n = (i, k, z))) {b : Nat} (hb : vs i = .pointer (some ⟨b, 0, none⟩)) (v : Value) :
    p.G B B0 w0 (up L k true) (up vs k v) (putBox w b n' a' k' c') := by
  obtain ⟨b', hb', hB0, hbox⟩ := h.new _ hi hLi
  have hbb : b' = b := by
    have := hb'.symm.trans hb
    injection this with e
    injection e with e
    injection e with e
  subst hbb
  have hsz : B0 ≤ (putBox w b' n' a' k' c').heap.size := by rw [putBox_size]; exact h.size
  refine ⟨belowPut h.below (Nat.le_trans hp.le hB0) _ _ _ _, hsz, fun j hj => ?_, fun o ho => ?_, fun n hn hj => ?_, fun n hn m hm hne hj hk' => ?_⟩
  · by_cases hji : j = k
    · subst hji; exact hC _ _
    · rw [up_ne _ _ hji] at hj ⊢; exact hp.put _ _ _ _ _ _ _ _ _ (h.val j hj) hbox
  · rw [up_ne _ _ (h1 o ho)]
    exact (h.old o ho).putOther hbox (by have := (hp.oldlt o ho).2; omega) _ _ _ _
  · rw [up_ne _ _ (h2 n hn).1] at hj ⊢
    by_cases hnk : n.2.1 = k
    · have e := (h2 n hn).2 hnk
      subst e
      refine ⟨b', hb', hB0, ?_⟩
      show BoxNum _ _ (if up L k true k then z else 0)
      rw [up_same]
      exact hbox.putSame hN
    · rw [up_ne _ _ hnk]
      obtain ⟨b2, e1, e2, e3⟩ := h.new n hn hj
      refine ⟨b2, e1, e2, e3.putOther hbox (fun e => ?_) _ _ _ _⟩
      have hni : n.1 ≠ i := fun e' => by
        have e2 := hp.newinj n hn _ hi e'
        exact hnk (by rw [e2])
      exact h.apart n hn _ hi hni hj hLi (by rw [e1, hb', e])
  · rw [up_ne _ _ (h2 n hn).1] at hj ⊢
    rw [up_ne _ _ (h2 m hm).1] at hk' ⊢
    exact h.apart n hn m hm hne hj hk'

/-- A number is stored in a box from before. -/
theorem Plan.G.storeOld {p : Plan} {B B0 : Nat} {w0 w : World} {L : Nat → Bool} {vs : Nat → Value} (h : p.G B B0 w0 L vs w) (hp : p.Ok B B0) {b k : Nat} {z z' : Int} (hi : (b, k, z, z') ∈ p.old)
    {n' : Bool} {a' : Option Addr} {k' c' : Nat} (hN : Num w (.agg #[.bool n', .slice a' k' c']) z') (hC : ∀ v w', p.C k v w') (h1 : ∀ o ∈ p.old, o.2.1 = k → o = (b, k, z, z')) (h2 : ∀ n ∈ p.new, n.1 ≠ k ∧ n.2.1 ≠ k) (v : Value) :
    p.G B B0 w0 (up L k true) (up vs k v) (putBox w b n' a' k' c') := by
  have hbox := h.old _ hi
  have hblt := hp.oldlt _ hi
  have hsz : B0 ≤ (putBox w b n' a' k' c').heap.size := by rw [putBox_size]; exact h.size
  refine ⟨belowPut h.below hblt.1 _ _ _ _, hsz, fun j hj => ?_, fun o ho => ?_, fun n hn hj => ?_, fun n hn m hm hne hj hk' => ?_⟩
  · by_cases hji : j = k
    · subst hji; exact hC _ _
    · rw [up_ne _ _ hji] at hj ⊢; exact hp.put _ _ _ _ _ _ _ _ _ (h.val j hj) hbox
  · by_cases hok : o.2.1 = k
    · have e := h1 o ho hok
      subst e
      show BoxNum _ _ (if up L k true k then z' else z)
      rw [up_same]
      exact hbox.putSame hN
    · rw [up_ne _ _ hok]
      exact (h.old o ho).putOther hbox (hp.oldne o ho _ hi hok) _ _ _ _
  · rw [up_ne _ _ (h2 n hn).1] at hj ⊢
    rw [up_ne _ _ (h2 n hn).2]
    obtain ⟨b2, e1, e2, e3⟩ := h.new n hn hj
    exact ⟨b2, e1, e2, e3.putOther hbox (by have := hblt.2; simp at this; omega) _ _ _ _⟩
  · rw [up_ne _ _ (h2 n hn).1] at hj ⊢
    rw [up_ne _ _ (h2 m hm).1] at hk' ⊢
    exact h.apart n hn m hm hne hj hk'

end Go.Proofs.Ytjpbmghdamcdcaa
