/- Ve, Vf, Vg. -/
import Derived.Test.YtoimphnhmpmipaaGreatBh5
/- Arrays of descriptions; the least and the greatest of fractions. -/
namespace Go.Proofs.YtoimphnhmpmipaaGreat
open Go Go.RowKit

/-- Four signs and words. -/
def Fq.raws2 (n1 : Bool) (a1 : Option Addr) (k1 c1 : Nat) (xs1 : List Int) (n2 : Bool) (a2 : Option Addr) (k2 c2 : Nat) (xs2 : List Int) (n3 : Bool) (a3 : Option Addr) (k3 c3 : Nat) (xs3 : List Int) (n4 : Bool) (a4 : Option Addr) (k4 c4 : Nat) (xs4 : List Int) : Fq :=
  ⟨fun v w => v = .agg #[.bool n1, .slice a1 k1 c1, .bool n2, .slice a2 k2 c2, .bool n3, .slice a3 k3 c3, .bool n4, .slice a4 k4 c4] ∧ Sl w a1 k1 c1 xs1 ∧ Sl w a2 k2 c2 xs2 ∧ Sl w a3 k3 c3 xs3 ∧ Sl w a4 k4 c4 xs4,
    fun h hb => ⟨h.1, h.2.1.mono hb, h.2.2.1.mono hb, h.2.2.2.1.mono hb, h.2.2.2.2.mono hb⟩, fun h ha ht hl => ⟨h.1, h.2.1.putAt ha ht hl, h.2.2.1.putAt ha ht hl, h.2.2.2.1.putAt ha ht hl, h.2.2.2.2.putAt ha ht hl⟩⟩
theorem tame_u8s (s t : Int) : Tame [.int .u8 s, .int .u8 t] := by
  intro u hu q e
  simp at hu
  rcases hu with rfl | rfl <;> cases e

section
variable {n1 n2 n3 n4 : Bool} {a1 a2 a3 a4 : Option Addr} {k1 c1 k2 c2 k3 c3 k4 c4 : Nat} {xs1 xs2 xs3 xs4 : List Int}
theorem ld_raws0 {us : List Value} {w : World} (hl : us.length = 8) (h : (Fq.raws2 n1 a1 k1 c1 xs1 n2 a2 k2 c2 xs2 n3 a3 k3 c3 xs3 n4 a4 k4 c4 xs4).P (.agg us.toArray) w) : (Fq.raw2 n1 a1 k1 c1 xs1 n2 a2 k2 c2 xs2).P (.agg #[us.getD 0 undef, us.getD (0 + 1) undef, us.getD (0 + 2) undef, us.getD (0 + 3) undef]) w := by
  match us, hl with
  | [u0, u1, u2, u3, u4, u5, u6, u7], _ =>
    obtain ⟨e, h1, h2, h3, h4⟩ := h
    injection e with e
    have e2 := congrArg Array.toList e
    simp at e2
    obtain ⟨rfl, rfl, rfl, rfl, rfl, rfl, rfl, rfl⟩ := e2
    exact ⟨rfl, h1, h2⟩
theorem ld_raws1 {us : List Value} {w : World} (hl : us.length = 8) (h : (Fq.raws2 n1 a1 k1 c1 xs1 n2 a2 k2 c2 xs2 n3 a3 k3 c3 xs3 n4 a4 k4 c4 xs4).P (.agg us.toArray) w) : (Fq.raw2 n3 a3 k3 c3 xs3 n4 a4 k4 c4 xs4).P (.agg #[us.getD 4 undef, us.getD (4 + 1) undef, us.getD (4 + 2) undef, us.getD (4 + 3) undef]) w := by
  match us, hl with
  | [u0, u1, u2, u3, u4, u5, u6, u7], _ =>
    obtain ⟨e, h1, h2, h3, h4⟩ := h
    injection e with e
    have e2 := congrArg Array.toList e
    simp at e2
    obtain ⟨rfl, rfl, rfl, rfl, rfl, rfl, rfl, rfl⟩ := e2
    exact ⟨rfl, h3, h4⟩
end
theorem ld_u8s0 {s t : Int} {us : List Value} {w : World} (hl : us.length = 2) (h : (Fq.is (.agg #[.int .u8 s, .int .u8 t])).P (.agg us.toArray) w) : us.getD 0 undef = .int .u8 s := by
  match us, hl with
  | [u0, u1], _ =>
    injection (show (Value.agg _ = _) from h) with e
    have e2 := congrArg Array.toList e
    simp at e2
    exact e2.1
theorem ld_u8s1 {s t : Int} {us : List Value} {w : World} (hl : us.length = 2) (h : (Fq.is (.agg #[.int .u8 s, .int .u8 t])).P (.agg us.toArray) w) : us.getD 1 undef = .int .u8 t := by
  match us, hl with
  | [u0, u1], _ =>
    injection (show (Value.agg _ = _) from h) with e
    have e2 := congrArg Array.toList e
    simp at e2
    exact e2.2

section
variable {os : List Oper} {Q : Exit → Act → World → Prop} {a : Act} {p : Pq} {B B0 : Nat} {w0 : World}
variable {i s : Nat} {d : Option Tmp} {ty : TypeId} {ps : String} {af : Array Edge} {gd : Option (Nat × Bool)}
theorem q_loadRaw2At {o : Ob} {off : Nat} {x : Operand} (hp : p.Ok B B0) (hF : p.Free i) (hg : GdQ os a p B B0 w0 af gd) (ho : o ∈ p.old) (hk : o.F1 = o.F0 ∨ leadsB os 9 o.k i = true) (hoff : off + 4 ≤ o.m)
    (hx : SrcQ os a p B B0 w0 af x fun u _ => u = .pointer (some ⟨o.b, off, none⟩)) (hC : ∀ (us : List Value) (w : World), us.length = o.m → o.F0.P (.agg us.toArray) w → (p.c i).P (.agg #[us.getD off undef, us.getD (off + 1) undef, us.getD (off + 2) undef, us.getD (off + 3) undef]) w) :
    StepQ os Q a p B B0 w0 i { dst := d, op := .load 26 x, type := ty, pos := ps, after := af, guard := gd } := by
  refine stq_val hp hF hg fun L vs w hG hL hc hd => ?_
  obtain ⟨us, hl, h0, hat, ht, hP⟩ := box_now ho hk hG hL hc
  have e := hx L vs w hG hd
  have c0 := (hat off (by omega)).1
  have c1 := (hat (off + 1) (by omega)).1
  have c2 := (hat (off + 2) (by omega)).1
  have c3 := (hat (off + 3) (by omega)).1
  refine ⟨_, ?_, hC us w hl hP⟩
  generalize (lay os.toArray L vs os.toArray.size a).eval = ρ at e
  generalize us.getD off undef = u0 at c0 ⊢
  generalize us.getD (off + 1) undef = u1 at c1 ⊢
  generalize us.getD (off + 2) undef = u2 at c2 ⊢
  generalize us.getD (off + 3) undef = u3 at c3 ⊢
  simp [execOp, go_sem, e, c0, c1, c2, c3]
theorem q_loadU8 {o : Ob} {off : Nat} {x : Operand} {v : Value} (hp : p.Ok B B0) (hF : p.Free i) (hg : GdQ os a p B B0 w0 af gd) (ho : o ∈ p.old) (hk : o.F1 = o.F0 ∨ leadsB os 9 o.k i = true) (hoff : off + 1 ≤ o.m)
    (hx : SrcQ os a p B B0 w0 af x fun u _ => u = .pointer (some ⟨o.b, off, none⟩)) (hC : ∀ (us : List Value) (w : World), us.length = o.m → o.F0.P (.agg us.toArray) w → us.getD off undef = v ∧ (p.c i).P v w) :
    StepQ os Q a p B B0 w0 i { dst := d, op := .load 5 x, type := ty, pos := ps, after := af, guard := gd } := by
  refine stq_val hp hF hg fun L vs w hG hL hc hd => ?_
  obtain ⟨us, hl, h0, hat, ht, hP⟩ := box_now ho hk hG hL hc
  have e := hx L vs w hG hd
  have c0 := (hat off (by omega)).1
  obtain ⟨e2, hP2⟩ := hC us w hl hP
  refine ⟨_, ?_, hP2⟩
  rw [e2] at c0
  generalize (lay os.toArray L vs os.toArray.size a).eval = ρ at e
  simp [execOp, go_sem, e, c0]
end

/-- The least and the greatest of some fractions. -/
def leastQ (a : Rat) (l : List Rat) : Rat := l.foldl (fun m q => if q < m then q else m) a
def greatQ (a : Rat) (l : List Rat) : Rat := l.foldl (fun m q => if m < q then q else m) a
def prQ (q : Rat) : Int × Int := (q.num, (q.den : Int))

theorem least_mem (l : List Rat) : ∀ a, leastQ a l = a ∨ leastQ a l ∈ l := by
  induction l with
  | nil => intro a; exact .inl rfl
  | cons q r ih =>
    intro a
    show leastQ (if q < a then q else a) r = a ∨ leastQ (if q < a then q else a) r ∈ q :: r
    rcases ih (if q < a then q else a) with h | h
    · rw [h]
      split
      · exact .inr (by simp)
      · exact .inl rfl
    · exact .inr (List.mem_cons_of_mem _ h)
theorem great_mem (l : List Rat) : ∀ a, greatQ a l = a ∨ greatQ a l ∈ l := by
  induction l with
  | nil => intro a; exact .inl rfl
  | cons q r ih =>
    intro a
    show greatQ (if a < q then q else a) r = a ∨ greatQ (if a < q then q else a) r ∈ q :: r
    rcases ih (if a < q then q else a) with h | h
    · rw [h]
      split
      · exact .inr (by simp)
      · exact .inl rfl
    · exact .inr (List.mem_cons_of_mem _ h)
theorem least_le (l : List Rat) : ∀ a, leastQ a l ≤ a ∧ ∀ q ∈ l, leastQ a l ≤ q := by
  induction l with
  | nil => intro a; exact ⟨Rat.le_refl, fun _ h => by simp at h⟩
  | cons q r ih =>
    intro a
    show leastQ (if q < a then q else a) r ≤ a ∧ ∀ x ∈ q :: r, leastQ (if q < a then q else a) r ≤ x
    obtain ⟨h1, h2⟩ := ih (if q < a then q else a)
    have h3 : (if q < a then q else a) ≤ a ∧ (if q < a then q else a) ≤ q := by
      split
      · rename_i h; exact ⟨Rat.le_of_lt h, Rat.le_refl⟩
      · rename_i h; exact ⟨Rat.le_refl, Rat.not_lt.1 h⟩
    refine ⟨Rat.le_trans h1 h3.1, fun x hx => ?_⟩
    rcases List.mem_cons.1 hx with rfl | hx
    · exact Rat.le_trans h1 h3.2
    · exact h2 x hx
theorem le_great (l : List Rat) : ∀ a, a ≤ greatQ a l ∧ ∀ q ∈ l, q ≤ greatQ a l := by
  induction l with
  | nil => intro a; exact ⟨Rat.le_refl, fun _ h => by simp at h⟩
  | cons q r ih =>
    intro a
    show a ≤ greatQ (if a < q then q else a) r ∧ ∀ x ∈ q :: r, x ≤ greatQ (if a < q then q else a) r
    obtain ⟨h1, h2⟩ := ih (if a < q then q else a)
    have h3 : a ≤ (if a < q then q else a) ∧ q ≤ (if a < q then q else a) := by
      split
      · rename_i h; exact ⟨Rat.le_of_lt h, Rat.le_refl⟩
      · rename_i h; exact ⟨Rat.le_refl, Rat.not_lt.1 h⟩
    refine ⟨Rat.le_trans h3.1 h1, fun x hx => ?_⟩
    rcases List.mem_cons.1 hx with rfl | hx
    · exact Rat.le_trans h3.2 h1
    · exact h2 x hx
theorem least_snoc (a : Rat) (l : List Rat) (q : Rat) : leastQ a (l ++ [q]) = if q < leastQ a l then q else leastQ a l := by unfold leastQ; rw [List.foldl_append]; rfl
theorem great_snoc (a : Rat) (l : List Rat) (q : Rat) : greatQ a (l ++ [q]) = if greatQ a l < q then q else greatQ a l := by unfold greatQ; rw [List.foldl_append]; rfl
theorem rb_least {a : Rat} {l : List Rat} {k : Nat} (ha : Rb a k) (hl : ∀ q ∈ l, Rb q k) : Rb (leastQ a l) k := by
  rcases least_mem l a with h | h
  · rw [h]; exact ha
  · exact hl _ h
theorem rb_great {a : Rat} {l : List Rat} {k : Nat} (ha : Rb a k) (hl : ∀ q ∈ l, Rb q k) : Rb (greatQ a l) k := by
  rcases great_mem l a with h | h
  · rw [h]; exact ha
  · exact hl _ h
theorem at_map {l : List Rat} {k : Nat} (h : k < l.length) : ∃ q, l[k]? = some q ∧ (l.map prQ)[k]? = some (q.num, (q.den : Int)) ∧ q ∈ l :=
  ⟨l[k], by simp [h], by simp [h, prQ], List.getElem_mem h⟩
theorem take_snoc {l : List Rat} {k : Nat} {q : Rat} (h : l[k]? = some q) : l.take (k + 1) = l.take k ++ [q] := by
  rw [List.take_add_one, h]
  rfl

theorem setCell_same {w : World} {a : Addr} {v : Value} (h : w.cell? a = some v) : w.setCell a v = w := by
  have e : (w.setCell a v).heap = w.heap := by
    unfold World.cell? at h
    unfold World.setCell
    apply Array.ext
    · simp
    · intro j h1 h2
      simp only [Array.getElem_modify]
      split
      · rename_i hj
        subst hj
        rw [Array.getElem?_eq_getElem h2] at h
        cases hc : w.heap[a.block] with
        | cells c el fr =>
          rw [hc] at h
          simp only at h
          split at h
          · cases h
          · rename_i hs
            simp only [hs, Bool.false_eq_true, if_false]
            congr 1
            apply Array.ext
            · simp
            · intro k g1 g2
              rw [Array.getElem_setIfInBounds]
              split
              · rename_i hk
                subst hk
                rw [Array.getElem?_eq_getElem g2] at h
                exact (Option.some.inj h).symm
              · rfl
        | _ => rfl
      · rfl
  have e2 : w.setCell a v = { w with heap := (w.setCell a v).heap } := rfl
  rw [e2, e]

/-- One cell of a box is stored to. -/
theorem cell_put1 {w : World} {b : Nat} {u0 u1 u2 u3 : Value} (h : At w b [u0, u1, u2, u3]) (x : Value) : w.setCell ⟨b, 1, none⟩ x = putFrom w b 0 [u0, x, u2, u3] := by
  have c0 := (h 0 (by simp)).1
  have c2 := (h 2 (by simp)).1
  have c3 := (h 3 (by simp)).1
  simp at c0 c2 c3
  simp only [putFrom, Nat.zero_add, Nat.reduceAdd]
  rw [setCell_same c0]
  rw [setCell_same (a := ⟨b, 2, none⟩) (v := u2) (by rw [World.cell?_setCell_other _ _ _ _ (by intro e; injection e with e1 e2; omega)]; exact c2)]
  rw [setCell_same (a := ⟨b, 3, none⟩) (v := u3) (by rw [World.cell?_setCell_other _ _ _ _ (by intro e; injection e with e1 e2; omega)]; exact c3)]
theorem cell_put3 {w : World} {b : Nat} {u0 u1 u2 u3 : Value} (h : At w b [u0, u1, u2, u3]) (x : Value) : w.setCell ⟨b, 3, none⟩ x = putFrom w b 0 [u0, u1, u2, x] := by
  have c0 := (h 0 (by simp)).1
  have c1 := (h 1 (by simp)).1
  have c2 := (h 2 (by simp)).1
  simp at c0 c1 c2
  simp only [putFrom, Nat.zero_add, Nat.reduceAdd]
  rw [setCell_same c0, setCell_same c1, setCell_same c2]

theorem box_raw2 {w : World} {b : Nat} {n n' : Bool} {a a' : Option Addr} {k c k' c' : Nat} {xs xs' : List Int} (h : Bq w b 4 (Fq.raw2 n a k c xs n' a' k' c' xs')) : At w b [.bool n, .slice a k c, .bool n', .slice a' k' c'] ∧ Sl w a k c xs ∧ Sl w a' k' c' xs' := by
  obtain ⟨us, hl, _, hat, _, hP⟩ := h
  match us, hl, hat, hP with
  | [p, q, r, s], _, hat, hP =>
    obtain ⟨e, h1, h2⟩ := hP
    injection e with e
    have e2 := congrArg Array.toList e
    simp at e2
    obtain ⟨rfl, rfl, rfl, rfl⟩ := e2
    exact ⟨hat, h1, h2⟩
theorem Fr.swap {w0 W : World} {x y : Nat × Nat × Fq} {bs : List (Nat × Nat × Fq)} (h : Fr w0 (x :: y :: bs) W) : Fr w0 (y :: x :: bs) W := by
  refine ⟨h.below, fun z hz => h.boxes z ?_, ?_⟩
  · simp at hz ⊢
    rcases hz with h | h | h
    · exact .inr (.inl h)
    · exact .inl h
    · exact .inr (.inr h)
  · have := h.apart
    simp at this ⊢
    exact ⟨⟨fun e => this.1.1 e.symm, this.2.1⟩, this.1.2, this.2.2⟩

set_option maxRecDepth 100000 in
set_option maxHeartbeats 2000000 in
/-- A fraction copied. -/
theorem exCopied {w : World} {v : Value} {n d : Int} (h : Pair w v n d) : Calls Tryz.prog 99 #[v] w fun e w' => ∃ v', e = .returned v' ∧ Below w.heap.size w w' ∧ Pair w' v' n d := by
  obtain ⟨p, q, r, s, rfl, hN, hD⟩ := h
  obtain ⟨m1, a1, k1, c1, xs1, e1, hS1, hk1, hz1, hc1, hn1⟩ := hN
  obtain ⟨m2, a2, k2, c2, xs2, e2, hS2, hk2, hz2, hc2, hn2⟩ := hD
  have g1 := congrArg (fun v => match v with | Value.agg us => us.toList | _ => []) e1
  have g2 := congrArg (fun v => match v with | Value.agg us => us.toList | _ => []) e2
  simp at g1 g2
  obtain ⟨rfl, rfl⟩ := g1
  obtain ⟨rfl, rfl⟩ := g2
  clear e1 e2
  have HZ1 := hidd hz1
  have HZ2 := hidd hz2
  have HC1 := hidd hc1
  have HC2 := hidd hc2
  have HN1 := hidd hn1
  have HN2 := hidd hn2
  clear hz1 hz2 hc1 hc2 hn1 hn2
  obtain ⟨w1, b1, hw1, hb1, hs1, E⟩ := fr_start w (F := Fq.raw2 m1 a1 k1 c1 xs1 m2 a2 k2 c2 xs2) (us := [.bool m1, .slice a1 k1 c1, .bool m2, .slice a2 k2 c2]) 31 rfl (by simp) (tame_rat _ _ _ _ _ _ _ _) ⟨rfl, hS1, hS2⟩
  obtain ⟨w2, b2, hw2, hb2, hs2, E⟩ := fr_more E hs1 (F := Fq.pair 0 0) (us := [.bool false, .slice none 0 0, .bool false, .slice none 0 0]) 31 rfl (by simp) (tame_rat _ _ _ _ _ _ _ _) (Pair.zero _)
  clear hS1 hS2
  go_enter Tryz.func99, Tryz.ntmps99
  go_upto_region 1 with (fail)
  rw [← hw1]
  rw [← hw2]
  rw [← hb2]
  rw [← hb1]
  clear hw1 hw2 hb1 hb2 hs2 hs1
  replace E := E.swap
  obtain ⟨hat, hS, hS'⟩ := box_raw2 (E.box 0 rfl)
  have d1 := (hat 1 (by simp)).1
  simp at d1
  go_wp2_with fail
  refine (exClone _ _ _ _ _ hS hk1).mono ?_
  rintro e w3 ⟨a1', c1', rfl, hb, hT⟩
  replace E := E.mono hb
  clear d1 hb hat hS hS'
  obtain ⟨hat, hS, hS'⟩ := box_raw2 (E.box 0 rfl)
  obtain ⟨d1, f1⟩ := hat 1 (by simp)
  simp at d1
  go_upto_region 2 with (fail)
  rw [cell_put1 hat]
  replace E := E.put (us := [.bool m1, .slice a1' k1 c1', .bool m2, .slice a2 k2 c2]) (F' := Fq.raw2 m1 a1' k1 c1' xs1 m2 a2 k2 c2 xs2) rfl (tame_rat _ _ _ _ _ _ _ _) ⟨rfl, hT, hS'⟩
  generalize putFrom w3 b1 0 _ = w4 at E ⊢
  clear d1 f1 hat hS hS' hT
  obtain ⟨hat, hS, hS'⟩ := box_raw2 (E.box 0 rfl)
  have d3 := (hat 3 (by simp)).1
  simp at d3
  go_wp2_with fail
  refine (exClone _ _ _ _ _ hS' hk2).mono ?_
  rintro e w5 ⟨a2', c2', rfl, hb, hT⟩
  replace E := E.mono hb
  clear d3 hb hat hS hS'
  obtain ⟨hat, hS, hS'⟩ := box_raw2 (E.box 0 rfl)
  obtain ⟨d3, f3⟩ := hat 3 (by simp)
  simp at d3
  go_upto_region 3 with (fail)
  rw [cell_put3 hat]
  replace E := E.put (us := [.bool m1, .slice a1' k1 c1', .bool m2, .slice a2' k2 c2']) (F' := Fq.raw2 m1 a1' k1 c1' xs1 m2 a2' k2 c2' xs2) rfl (tame_rat _ _ _ _ _ _ _ _) ⟨rfl, hS, hT⟩
  generalize putFrom w5 b1 0 _ = w6 at E ⊢
  clear d3 f3 hat hS hS' hT
  refine region_fr (C := [Fq.raw2 m1 a1' k1 c1' xs1 m2 a2' k2 c2' xs2, Fq.any]) (ks := [none, some (1, Fq.raw2 m1 a1' k1 c1' xs1 m2 a2' k2 c2' xs2)]) (new := []) E rfl (by kernel_rfl) rfl rfl (fun hp => ⟨?_, ?_, trivial⟩) ?_
  · exact q_loadRat hp (free_of rfl) trivial (List.mem_iff_getElem?.2 ⟨0, rfl⟩) (.inl rfl) rfl (sq_out rfl rfl (fun _ _ => rfl)) (fun us w hl h => h)
  · exact q_storeOldRat hp (List.mem_iff_getElem?.2 ⟨1, rfl⟩) rfl rfl (sq_out rfl rfl (fun _ _ => rfl)) (sq_in 0 rfl rfl (by simp) rfl (fun v w h => ⟨_, _, _, _, _, _, _, _, h.1, h⟩)) (fun _ _ => trivial) (newik_ne rfl)
  intro L vs w7 nb hL hC hn E7
  have E : Fr w [(b1, 4, Fq.raw2 m1 a1' k1 c1' xs1 m2 a2' k2 c2' xs2), (b2, 4, Fq.raw2 m1 a1' k1 c1' xs1 m2 a2' k2 c2' xs2)] w7 := E7
  rw [lay_all hL]
  simp only [putAll, dstOf, List.length_cons, List.length_nil, Nat.zero_add, Nat.reduceAdd, List.getElem?_toArray, List.getElem?_cons_zero, List.getElem?_cons_succ, Option.bind_some, Act.put, List.setIfInBounds_toArray, List.set_cons_succ, List.set_cons_zero]
  generalize vs 0 = u7
  clear hC hn E7 hL vs L nb
  obtain ⟨hat, hS, hS'⟩ := box_raw2 (E.box 1 rfl)
  have c0 := (hat 0 (by simp)).1
  have c1 := (hat 1 (by simp)).1
  have c2 := (hat 2 (by simp)).1
  have c3 := (hat 3 (by simp)).1
  simp at c0 c1 c2 c3
  go_wp2
  refine bodyPost_ret (v := .agg #[.bool m1, .slice a1' k1 c1', .bool m2, .slice a2' k2 c2']) ?_ rfl ⟨_, rfl, E.below, _, _, _, _, rfl, ⟨_, _, _, _, _, rfl, hS, hk1, HZ1.out, HC1.out, HN1.out⟩, ⟨_, _, _, _, _, rfl, hS', hk2, HZ2.out, HC2.out, HN2.out⟩⟩
  simp [results, Tryz.results99, go_sem, c0, c1, c2, c3]

end Go.Proofs.YtoimphnhmpmipaaGreat

/- Walks: the least and the greatest of some fractions, in the code and in the reference. -/
namespace Go.Proofs.YtoimphnhmpmipaaGreat
open Go Go.RowKit

theorem enq_Q_hull (args : Array Value) (w : World) : (callFunc 73 args).run Tryz.prog w = .ok (.enter 73 args) w := enter_of Tryz.func73 (by kernel_rfl) rfl args w
theorem enq_Q_copied (args : Array Value) (w : World) : (callFunc 99 args).run Tryz.prog w = .ok (.enter 99 args) w := enter_of Tryz.func99 (by kernel_rfl) rfl args w
theorem enq_Q_IAdd (args : Array Value) (w : World) : (callFunc 29 args).run Tryz.prog w = .ok (.enter 29 args) w := enter_of Tryz.func29 (by kernel_rfl) rfl args w
theorem enq_Q_ISub (args : Array Value) (w : World) : (callFunc 30 args).run Tryz.prog w = .ok (.enter 30 args) w := enter_of Tryz.func30 (by kernel_rfl) rfl args w
theorem enq_Q_IMul (args : Array Value) (w : World) : (callFunc 31 args).run Tryz.prog w = .ok (.enter 31 args) w := enter_of Tryz.func31 (by kernel_rfl) rfl args w
theorem enq_Q_Scale (args : Array Value) (w : World) : (callFunc 32 args).run Tryz.prog w = .ok (.enter 32 args) w := enter_of Tryz.func32 (by kernel_rfl) rfl args w
theorem enq_Q_Exactly (args : Array Value) (w : World) : (callFunc 38 args).run Tryz.prog w = .ok (.enter 38 args) w := enter_of Tryz.func38 (by kernel_rfl) rfl args w
theorem enq_Q_Has (args : Array Value) (w : World) : (callFunc 39 args).run Tryz.prog w = .ok (.enter 39 args) w := enter_of Tryz.func39 (by kernel_rfl) rfl args w
theorem enq_K_inner (args : Array Value) (w : World) : (callFunc 28 args).run Tryz.prog w = .ok (.enter 28 args) w := enter_of Tryz.func28 (by kernel_rfl) rfl args w

theorem measJ {n k : Nat} (h : k + 1 < n) : n - (intOf (.int .i64 ((k : Int) + 1 + 1))).toNat < n - (intOf (.int .i64 ((k : Int) + 1))).toNat := by simp [intOf]; omega
theorem measI {n k : Nat} (h : k < n) : n - (intOf (.int .i64 ((k : Int) + 1))).toNat < n - (intOf (.int .i64 (k : Int))).toNat := by simp [intOf]; omega

theorem box_ivl {w : World} {b : Nat} {n1 d1 n2 d2 : Int} (h : Bq w b 8 (Fq.ivl n1 d1 n2 d2)) : ∃ p q r s p' q' r' s', w.cell? ⟨b, 0, none⟩ = some p ∧ w.cell? ⟨b, 1, none⟩ = some q ∧ w.cell? ⟨b, 2, none⟩ = some r ∧ w.cell? ⟨b, 3, none⟩ = some s ∧ w.cell? ⟨b, 4, none⟩ = some p' ∧ w.cell? ⟨b, 5, none⟩ = some q' ∧ w.cell? ⟨b, 6, none⟩ = some r' ∧ w.cell? ⟨b, 7, none⟩ = some s' ∧ Ivl w (.agg #[p, q, r, s, p', q', r', s']) n1 d1 n2 d2 := by
  obtain ⟨us, hl, _, hat, _, hP⟩ := h
  match us, hl, hat with
  | [p, q, r, s, p', q', r', s'], _, hat => exact ⟨p, q, r, s, p', q', r', s', (hat 0 (by simp)).1, (hat 1 (by simp)).1, (hat 2 (by simp)).1, (hat 3 (by simp)).1, (hat 4 (by simp)).1, (hat 5 (by simp)).1, (hat 6 (by simp)).1, (hat 7 (by simp)).1, hP⟩

set_option maxRecDepth 100000 in
set_option maxHeartbeats 4000000 in
theorem exSLeast {w : World} {b l : Nat} {a : Rat} {r : List Rat} (hb : Bq w b (l * 4) (Fq.rats ((a :: r).map prQ))) (hl : l = r.length + 1) (hl2 : l ≤ 100) (hR : ∀ q ∈ a :: r, Rb q 300) :
    Calls Tryz.prog 71 #[.slice (some ⟨b, 0, none⟩) l l] w fun e w' => ∃ v', e = .returned v' ∧ Below w.heap.size w w' ∧ Pair w' v' (leastQ a r).num ((leastQ a r).den : Int) := by
  have HB := hidd hb
  have HR := hidd hR
  have HL := hidd hl2
  have HE := hidd hl
  clear hb hR hl2 hl
  obtain ⟨w1, b1, hw1, hb1, hs1, E⟩ := fr_start w (F := Fq.pair 0 0) (us := [.bool false, .slice none 0 0, .bool false, .slice none 0 0]) 31 rfl (by simp) (tame_rat _ _ _ _ _ _ _ _) (Pair.zero _)
  go_enter Tryz.func71, Tryz.ntmps71
  go_upto_region 1 with (fail)
  rw [← hw1]
  rw [← hb1]
  clear hw1 hb1 hs1
  refine region_fr (C := [Fq.is (.slice (some ⟨b, 0, none⟩) l l), Fq.is (.pointer (some ⟨b, 0 * 4, none⟩)), Fq.pair a.num (a.den : Int), Fq.any, Fq.any]) (ks := [none]) (new := [⟨3, 4, 4, Fq.pair 0 0, Fq.pair a.num (a.den : Int), none⟩]) E rfl (by kernel_rfl) rfl rfl (fun hp => ⟨?_, ?_, ?_, ?_, ?_, trivial⟩) ?_
  · exact q_move hp (free_of rfl) trivial (sq_out rfl rfl (fun _ _ => rfl))
  · exact q_index (b := b) (l := l) (k := 0) hp (free_of rfl) trivial (sq_in 0 rfl rfl (by simp) rfl (fun v w h => h)) (sq_const (fun _ => rfl)) (by have := HE.out; omega) (fun _ => rfl)
  · exact q_loadRatOut (off := 0 * 4) hp (free_of rfl) trivial HB.out rfl (by have := HE.out; omega) (sq_in 1 rfl rfl (by simp) rfl (fun v w h => h)) (fun us w hl h => ld_rats (qs := (a :: r).map prQ) (k := 0) rfl h)
  · exact q_allocRat hp (List.mem_iff_getElem?.2 ⟨0, rfl⟩) rfl rfl rfl rfl (Nat.ne_of_beq_eq_false rfl) (fun _ _ => trivial) (old_ne rfl) (newk_ne rfl) (fun w => Pair.zero w)
  · exact q_storeNewRat hp (List.mem_iff_getElem?.2 ⟨0, rfl⟩) rfl rfl rfl (own_ptr rfl rfl (by simp) rfl) (sq_in 2 rfl rfl (by simp) rfl (fun v w h => ratV_pair h)) (fun _ _ => trivial) (old_ne rfl) (newi_ne rfl)
  intro L vs w2 nb hL hC hn E2
  have e0 : vs 0 = .slice (some ⟨b, 0, none⟩) l l := hC 0 (by simp)
  have e1 : vs 1 = .pointer (some ⟨b, 0 * 4, none⟩) := hC 1 (by simp)
  have e3 : vs 3 = .pointer (some ⟨nb 3, 0, none⟩) := hn _ (List.mem_iff_getElem?.2 ⟨0, rfl⟩)
  have E : Fr w [(nb 3, 4, Fq.pair a.num (a.den : Int)), (b1, 4, Fq.pair 0 0)] w2 := E2
  rw [lay_all hL]
  simp only [putAll, dstOf, List.length_cons, List.length_nil, Nat.zero_add, Nat.reduceAdd, List.getElem?_toArray, List.getElem?_cons_zero, List.getElem?_cons_succ, Option.bind_some, Act.put, List.setIfInBounds_toArray, List.set_cons_succ, List.set_cons_zero]
  rw [e0, e1, e3]
  generalize nb 3 = b2_3 at E ⊢
  generalize vs 2 = u2_2
  clear e0 e1 e3 hC hn E2 hL vs L nb
  go_upto_region 2 with (fail)
  refine region_fr (C := [Fq.is (.int .i64 1)]) (ks := [none, none]) (new := []) E rfl (by kernel_rfl) rfl rfl (fun hp => ⟨?_, trivial⟩) ?_
  · exact q_assign hp (free_of rfl) trivial (sq_const (fun _ => rfl))
  intro L vs w3 nb hL hC hn E3
  have e0 : vs 0 = .int .i64 1 := hC 0 (by simp)
  have E : Fr w [(b2_3, 4, Fq.pair a.num (a.den : Int)), (b1, 4, Fq.pair 0 0)] w3 := E3
  rw [lay_all hL]
  simp only [putAll, dstOf, List.length_cons, List.length_nil, Nat.zero_add, List.getElem?_toArray, List.getElem?_cons_zero, Option.bind_some, Act.put, List.setIfInBounds_toArray, List.set_cons_succ, List.set_cons_zero]
  rw [e0]
  clear e0 hC hn E3 hL vs L nb
  have HS := hidd E
  go_upto_region 3 with (fail)
  go_loopw [4] (fun vi W => ∃ j : Nat, j ≤ r.length ∧ vi = .int .i64 ((j : Int) + 1) ∧ Fr w [(b2_3, 4, Fq.pair (leastQ a (r.take j)).num ((leastQ a (r.take j)).den : Int)), (b1, 4, Fq.pair 0 0)] W) (fun vi _ => l - (intOf vi).toNat)
  case atStart => exact ⟨0, Nat.zero_le _, rfl, HS.out⟩
  case round =>
    obtain ⟨j, hj, rfl, E⟩ := hrel
    clear HS
    obtain ⟨m, hm⟩ : ∃ m, m = leastQ a (r.take j) := ⟨_, rfl⟩
    rw [← hm] at E
    have Bm : Hid (Rb m 300) := by rw [hm]; exact rb_least (HR.out a (by simp)) (fun q hq => HR.out q (List.mem_cons_of_mem _ (List.mem_of_mem_take hq)))
    have HM := hidd hm
    clear hm
    by_cases hjl : j < r.length
    · obtain ⟨q, hq1, hq2, hq3⟩ := at_map hjl
      have Bq : Hid (Rb q 300) := HR.out q (List.mem_cons_of_mem _ hq3)
      have TL : Hid ((j : Int) + 1 < ((l : Nat) : Int)) := by have := HE.out; show _ < _; omega
      have HJ := hidd hjl
      have hw : wrap64 ((j : Int) + 1 + 1) = (j : Int) + 1 + 1 := by have := HL.out; have := HE.out; simp only [wrap64]; omega
      have HQ1 := hidd hq1
      have HQ2 := hidd hq2
      clear hq1 hq2 hq3 hjl hj
      go_upto_region 3 with (fail)
      refine region_fr (C := [Fq.is (.int .i64 ((j : Int) + 1)), Fq.is (.slice (some ⟨b, 0, none⟩) l l), Fq.is (.int .i64 ((l : Nat) : Int)), Fq.is (.bool true)]) (ks := [none, none]) (new := []) E rfl (by kernel_rfl) rfl rfl (fun hp => ⟨?_, ?_, ?_, ?_, trivial⟩) ?_
      · exact q_move hp (free_of rfl) trivial (sq_out rfl rfl (fun _ _ => rfl))
      · exact q_move hp (free_of rfl) trivial (sq_out rfl rfl (fun _ _ => rfl))
      · exact q_lenR hp (free_of rfl) trivial (sq_in 1 rfl rfl (by simp) rfl (fun v w h => h)) (fun _ => rfl)
      · exact q_two (F := fun v _ => v = .int .i64 ((j : Int) + 1)) (G := fun v _ => v = .int .i64 ((l : Nat) : Int)) hp (free_of rfl) trivial (sq_in 0 rfl rfl (by simp) rfl (fun v w h => h)) (sq_in 2 rfl rfl (by simp) rfl (fun v w h => h)) (fun ρ w hc h h' => ⟨.bool true, by simp [execOp, go_sem, h, h', TL.out], rfl⟩)
      intro L vs w4 nb hL hC hn E4
      have e0 : vs 0 = .int .i64 ((j : Int) + 1) := hC 0 (by simp)
      have e1 : vs 1 = .slice (some ⟨b, 0, none⟩) l l := hC 1 (by simp)
      have e2 : vs 2 = .int .i64 ((l : Nat) : Int) := hC 2 (by simp)
      have e3 : vs 3 = .bool true := hC 3 (by simp)
      have E : Fr w [(b2_3, 4, Fq.pair m.num (m.den : Int)), (b1, 4, Fq.pair 0 0)] w4 := E4
      rw [lay_all hL]
      simp only [putAll, dstOf, List.length_cons, List.length_nil, Nat.zero_add, Nat.reduceAdd, List.getElem?_toArray, List.getElem?_cons_zero, List.getElem?_cons_succ, Option.bind_some, Act.put, List.setIfInBounds_toArray, List.set_cons_succ, List.set_cons_zero]
      rw [e0, e1, e2, e3]
      clear e0 e1 e2 e3 hC hn E4 hL vs L nb
      clear TL
      by_cases hlt : q < m
      · have TC := hidd (cmpQ_lt.2 hlt)
        have hm2 : Hid (leastQ a (r.take (j + 1)) = q) := by show _ = _; rw [take_snoc HQ1.out, least_snoc, ← HM.out, if_pos hlt]
        clear hlt
        go_upto_region 5 with (fail)
        refine region_fr (C := [Fq.is (.slice (some ⟨b, 0, none⟩) l l), Fq.is (.int .i64 ((j : Int) + 1)), Fq.is (.pointer (some ⟨b, (j + 1) * 4, none⟩)), Fq.pair q.num (q.den : Int), Fq.pair m.num (m.den : Int), Fq.is (.int .i64 (cmpQ q m)), Fq.is (.bool true)]) (ks := [none, none]) (new := []) E rfl (by kernel_rfl) rfl rfl (fun hp => ⟨?_, ?_, ?_, ?_, ?_, ?_, ?_, trivial⟩) ?_
        · exact q_move hp (free_of rfl) trivial (sq_out rfl rfl (fun _ _ => rfl))
        · exact q_move hp (free_of rfl) trivial (sq_out rfl rfl (fun _ _ => rfl))
        · exact q_index (b := b) (l := l) (k := (j + 1)) hp (free_of rfl) trivial (sq_in 0 rfl rfl (by simp) rfl (fun v w h => h)) (sq_in 1 rfl rfl (by simp) rfl (fun v w h => h)) (by have := HE.out; have := HJ.out; omega) (fun _ => rfl)
        · exact q_loadRatOut (off := (j + 1) * 4) hp (free_of rfl) trivial HB.out rfl (by have := HE.out; have := HJ.out; omega) (sq_in 2 rfl rfl (by simp) rfl (fun v w h => h)) (fun us w hl h => ld_rats (qs := (a :: r).map prQ) (k := j + 1) HQ2.out h)
        · exact q_loadRat hp (free_of rfl) trivial (List.mem_iff_getElem?.2 ⟨0, rfl⟩) (.inl rfl) rfl (sq_out rfl rfl (fun _ _ => rfl)) (fun us w hl h => h)
        · exact q_call2 (F := (Fq.pair q.num (q.den : Int)).P) (G := (Fq.pair m.num (m.den : Int)).P) hp (free_of rfl) trivial (enq_S_Cmp) (sq_in 3 rfl rfl (by simp) rfl (fun v w h => h)) (sq_in 4 rfl rfl (by simp) rfl (fun v w h => h)) (fun v v' w h h' => exSCmpQ h h' (rb_le Bq.out (by omega)) (rb_le Bm.out (by omega)))
        · exact q_one (F := fun v _ => v = .int .i64 (cmpQ q m)) hp (free_of rfl) trivial (sq_in 5 rfl rfl (by simp) rfl (fun v w h => h)) (fun ρ w hc h => ⟨.bool true, by simp [execOp, go_sem, h, hc, TC.out], rfl⟩)
        intro L vs w5 nb hL hC hn E5
        have e0 : vs 0 = .slice (some ⟨b, 0, none⟩) l l := hC 0 (by simp)
        have e1 : vs 1 = .int .i64 ((j : Int) + 1) := hC 1 (by simp)
        have e2 : vs 2 = .pointer (some ⟨b, (j + 1) * 4, none⟩) := hC 2 (by simp)
        have e5 : vs 5 = .int .i64 (cmpQ q m) := hC 5 (by simp)
        have e6 : vs 6 = .bool true := hC 6 (by simp)
        have E : Fr w [(b2_3, 4, Fq.pair m.num (m.den : Int)), (b1, 4, Fq.pair 0 0)] w5 := E5
        rw [lay_all hL]
        simp only [putAll, dstOf, List.length_cons, List.length_nil, Nat.zero_add, Nat.reduceAdd, List.getElem?_toArray, List.getElem?_cons_zero, List.getElem?_cons_succ, Option.bind_some, Act.put, List.setIfInBounds_toArray, List.set_cons_succ, List.set_cons_zero]
        rw [e0, e1, e2, e5, e6]
        generalize vs 3 = u5_3
        generalize vs 4 = u5_4
        clear e0 e1 e2 e5 e6 hC hn E5 hL vs L nb
        clear TC
        go_upto_region 6 with (fail)
        refine region_fr (C := [Fq.is (.slice (some ⟨b, 0, none⟩) l l), Fq.is (.int .i64 ((j : Int) + 1)), Fq.is (.pointer (some ⟨b, (j + 1) * 4, none⟩)), Fq.pair q.num (q.den : Int), Fq.any]) (ks := [some (4, Fq.pair q.num (q.den : Int)), none]) (new := []) E rfl (by kernel_rfl) rfl rfl (fun hp => ⟨?_, ?_, ?_, ?_, ?_, trivial⟩) ?_
        · exact q_move hp (free_of rfl) trivial (sq_out rfl rfl (fun _ _ => rfl))
        · exact q_move hp (free_of rfl) trivial (sq_out rfl rfl (fun _ _ => rfl))
        · exact q_index (b := b) (l := l) (k := (j + 1)) hp (free_of rfl) trivial (sq_in 0 rfl rfl (by simp) rfl (fun v w h => h)) (sq_in 1 rfl rfl (by simp) rfl (fun v w h => h)) (by have := HE.out; have := HJ.out; omega) (fun _ => rfl)
        · exact q_loadRatOut (off := (j + 1) * 4) hp (free_of rfl) trivial HB.out rfl (by have := HE.out; have := HJ.out; omega) (sq_in 2 rfl rfl (by simp) rfl (fun v w h => h)) (fun us w hl h => ld_rats (qs := (a :: r).map prQ) (k := j + 1) HQ2.out h)
        · exact q_storeOldRat hp (List.mem_iff_getElem?.2 ⟨0, rfl⟩) rfl rfl (sq_out rfl rfl (fun _ _ => rfl)) (sq_in 3 rfl rfl (by simp) rfl (fun v w h => ratV_pair h)) (fun _ _ => trivial) (newik_ne rfl)
        intro L vs w6 nb hL hC hn E6
        have e0 : vs 0 = .slice (some ⟨b, 0, none⟩) l l := hC 0 (by simp)
        have e1 : vs 1 = .int .i64 ((j : Int) + 1) := hC 1 (by simp)
        have e2 : vs 2 = .pointer (some ⟨b, (j + 1) * 4, none⟩) := hC 2 (by simp)
        have E : Fr w [(b2_3, 4, Fq.pair q.num (q.den : Int)), (b1, 4, Fq.pair 0 0)] w6 := E6
        rw [lay_all hL]
        simp only [putAll, dstOf, List.length_cons, List.length_nil, Nat.zero_add, Nat.reduceAdd, List.getElem?_toArray, List.getElem?_cons_zero, List.getElem?_cons_succ, Option.bind_some, Act.put, List.setIfInBounds_toArray, List.set_cons_succ, List.set_cons_zero]
        rw [e0, e1, e2]
        generalize vs 3 = u6_3
        clear e0 e1 e2 hC hn E6 hL vs L nb
        go_wp2
        go_roundw
        case rel => exact ⟨j + 1, by have := HJ.out; omega, by first | go_num | (rw [hw]; go_num), by rw [hm2.out]; exact E⟩
        case measure => first | exact measJ (by have := HE.out; have := HJ.out; omega) | (rw [hw]; exact measJ (by have := HE.out; have := HJ.out; omega))
      · have TC := hidd (mt cmpQ_lt.1 hlt)
        have hm2 : Hid (leastQ a (r.take (j + 1)) = m) := by show _ = _; rw [take_snoc HQ1.out, least_snoc, ← HM.out, if_neg hlt]
        clear hlt
        go_upto_region 5 with (fail)
        refine region_fr (C := [Fq.is (.slice (some ⟨b, 0, none⟩) l l), Fq.is (.int .i64 ((j : Int) + 1)), Fq.is (.pointer (some ⟨b, (j + 1) * 4, none⟩)), Fq.pair q.num (q.den : Int), Fq.pair m.num (m.den : Int), Fq.is (.int .i64 (cmpQ q m)), Fq.is (.bool false)]) (ks := [none, none]) (new := []) E rfl (by kernel_rfl) rfl rfl (fun hp => ⟨?_, ?_, ?_, ?_, ?_, ?_, ?_, trivial⟩) ?_
        · exact q_move hp (free_of rfl) trivial (sq_out rfl rfl (fun _ _ => rfl))
        · exact q_move hp (free_of rfl) trivial (sq_out rfl rfl (fun _ _ => rfl))
        · exact q_index (b := b) (l := l) (k := (j + 1)) hp (free_of rfl) trivial (sq_in 0 rfl rfl (by simp) rfl (fun v w h => h)) (sq_in 1 rfl rfl (by simp) rfl (fun v w h => h)) (by have := HE.out; have := HJ.out; omega) (fun _ => rfl)
        · exact q_loadRatOut (off := (j + 1) * 4) hp (free_of rfl) trivial HB.out rfl (by have := HE.out; have := HJ.out; omega) (sq_in 2 rfl rfl (by simp) rfl (fun v w h => h)) (fun us w hl h => ld_rats (qs := (a :: r).map prQ) (k := j + 1) HQ2.out h)
        · exact q_loadRat hp (free_of rfl) trivial (List.mem_iff_getElem?.2 ⟨0, rfl⟩) (.inl rfl) rfl (sq_out rfl rfl (fun _ _ => rfl)) (fun us w hl h => h)
        · exact q_call2 (F := (Fq.pair q.num (q.den : Int)).P) (G := (Fq.pair m.num (m.den : Int)).P) hp (free_of rfl) trivial (enq_S_Cmp) (sq_in 3 rfl rfl (by simp) rfl (fun v w h => h)) (sq_in 4 rfl rfl (by simp) rfl (fun v w h => h)) (fun v v' w h h' => exSCmpQ h h' (rb_le Bq.out (by omega)) (rb_le Bm.out (by omega)))
        · exact q_one (F := fun v _ => v = .int .i64 (cmpQ q m)) hp (free_of rfl) trivial (sq_in 5 rfl rfl (by simp) rfl (fun v w h => h)) (fun ρ w hc h => ⟨.bool false, by simp [execOp, go_sem, h, hc, TC.out], rfl⟩)
        intro L vs w7 nb hL hC hn E7
        have e0 : vs 0 = .slice (some ⟨b, 0, none⟩) l l := hC 0 (by simp)
        have e1 : vs 1 = .int .i64 ((j : Int) + 1) := hC 1 (by simp)
        have e2 : vs 2 = .pointer (some ⟨b, (j + 1) * 4, none⟩) := hC 2 (by simp)
        have e5 : vs 5 = .int .i64 (cmpQ q m) := hC 5 (by simp)
        have e6 : vs 6 = .bool false := hC 6 (by simp)
        have E : Fr w [(b2_3, 4, Fq.pair m.num (m.den : Int)), (b1, 4, Fq.pair 0 0)] w7 := E7
        rw [lay_all hL]
        simp only [putAll, dstOf, List.length_cons, List.length_nil, Nat.zero_add, Nat.reduceAdd, List.getElem?_toArray, List.getElem?_cons_zero, List.getElem?_cons_succ, Option.bind_some, Act.put, List.setIfInBounds_toArray, List.set_cons_succ, List.set_cons_zero]
        rw [e0, e1, e2, e5, e6]
        generalize vs 3 = u7_3
        generalize vs 4 = u7_4
        clear e0 e1 e2 e5 e6 hC hn E7 hL vs L nb
        clear TC
        go_wp2
        go_roundw
        case rel => exact ⟨j + 1, by have := HJ.out; omega, by first | go_num | (rw [hw]; go_num), by rw [hm2.out]; exact E⟩
        case measure => first | exact measJ (by have := HE.out; have := HJ.out; omega) | (rw [hw]; exact measJ (by have := HE.out; have := HJ.out; omega))
    · have TL : Hid (¬ (j : Int) + 1 < ((l : Nat) : Int)) := by have := HE.out; show ¬ _; omega
      have hm2 : Hid (leastQ a r = m) := by show _ = _; rw [HM.out, List.take_of_length_le (by omega)]
      clear hjl hj
      go_upto_region 3 with (fail)
      refine region_fr (C := [Fq.is (.int .i64 ((j : Int) + 1)), Fq.is (.slice (some ⟨b, 0, none⟩) l l), Fq.is (.int .i64 ((l : Nat) : Int)), Fq.is (.bool false)]) (ks := [none, none]) (new := []) E rfl (by kernel_rfl) rfl rfl (fun hp => ⟨?_, ?_, ?_, ?_, trivial⟩) ?_
      · exact q_move hp (free_of rfl) trivial (sq_out rfl rfl (fun _ _ => rfl))
      · exact q_move hp (free_of rfl) trivial (sq_out rfl rfl (fun _ _ => rfl))
      · exact q_lenR hp (free_of rfl) trivial (sq_in 1 rfl rfl (by simp) rfl (fun v w h => h)) (fun _ => rfl)
      · exact q_two (F := fun v _ => v = .int .i64 ((j : Int) + 1)) (G := fun v _ => v = .int .i64 ((l : Nat) : Int)) hp (free_of rfl) trivial (sq_in 0 rfl rfl (by simp) rfl (fun v w h => h)) (sq_in 2 rfl rfl (by simp) rfl (fun v w h => h)) (fun ρ w hc h h' => ⟨.bool false, by simp [execOp, go_sem, h, h', TL.out], rfl⟩)
      intro L vs w8 nb hL hC hn E8
      have e0 : vs 0 = .int .i64 ((j : Int) + 1) := hC 0 (by simp)
      have e1 : vs 1 = .slice (some ⟨b, 0, none⟩) l l := hC 1 (by simp)
      have e2 : vs 2 = .int .i64 ((l : Nat) : Int) := hC 2 (by simp)
      have e3 : vs 3 = .bool false := hC 3 (by simp)
      have E : Fr w [(b2_3, 4, Fq.pair m.num (m.den : Int)), (b1, 4, Fq.pair 0 0)] w8 := E8
      rw [lay_all hL]
      simp only [putAll, dstOf, List.length_cons, List.length_nil, Nat.zero_add, Nat.reduceAdd, List.getElem?_toArray, List.getElem?_cons_zero, List.getElem?_cons_succ, Option.bind_some, Act.put, List.setIfInBounds_toArray, List.set_cons_succ, List.set_cons_zero]
      rw [e0, e1, e2, e3]
      clear e0 e1 e2 e3 hC hn E8 hL vs L nb
      clear TL
      go_upto_region 7 with (fail)
      refine region_fr (C := [Fq.pair m.num (m.den : Int), Fq.any]) (ks := [none, some (1, Fq.pair m.num (m.den : Int))]) (new := []) E rfl (by kernel_rfl) rfl rfl (fun hp => ⟨?_, ?_, trivial⟩) ?_
      · exact q_loadRat hp (free_of rfl) trivial (List.mem_iff_getElem?.2 ⟨0, rfl⟩) (.inl rfl) rfl (sq_out rfl rfl (fun _ _ => rfl)) (fun us w hl h => h)
      · exact q_storeOldRat hp (List.mem_iff_getElem?.2 ⟨1, rfl⟩) rfl rfl (sq_out rfl rfl (fun _ _ => rfl)) (sq_in 0 rfl rfl (by simp) rfl (fun v w h => ratV_pair h)) (fun _ _ => trivial) (newik_ne rfl)
      intro L vs w9 nb hL hC hn E9
      have E : Fr w [(b2_3, 4, Fq.pair m.num (m.den : Int)), (b1, 4, Fq.pair m.num (m.den : Int))] w9 := E9
      rw [lay_all hL]
      simp only [putAll, dstOf, List.length_cons, List.length_nil, Nat.zero_add, Nat.reduceAdd, List.getElem?_toArray, List.getElem?_cons_zero, List.getElem?_cons_succ, Option.bind_some, Act.put, List.setIfInBounds_toArray, List.set_cons_succ, List.set_cons_zero]
      generalize vs 0 = u9_0
      clear  hC hn E9 hL vs L nb
      clear HB HR HL HE HM Bm
      obtain ⟨p0, p1, p2, p3, c0, c1, c2, c3, hP⟩ := box_pair (E.box 1 rfl)
      go_wp2
      refine bodyPost_ret (v := .agg #[p0, p1, p2, p3]) ?_ rfl ⟨_, rfl, E.below, by rw [hm2.out]; exact hP⟩
      simp [results, Tryz.results71, go_sem, c0, c1, c2, c3]

set_option maxRecDepth 100000 in
set_option maxHeartbeats 4000000 in
theorem exSGreatest {w : World} {b l : Nat} {a : Rat} {r : List Rat} (hb : Bq w b (l * 4) (Fq.rats ((a :: r).map prQ))) (hl : l = r.length + 1) (hl2 : l ≤ 100) (hR : ∀ q ∈ a :: r, Rb q 300) :
    Calls Tryz.prog 72 #[.slice (some ⟨b, 0, none⟩) l l] w fun e w' => ∃ v', e = .returned v' ∧ Below w.heap.size w w' ∧ Pair w' v' (greatQ a r).num ((greatQ a r).den : Int) := by
  have HB := hidd hb
  have HR := hidd hR
  have HL := hidd hl2
  have HE := hidd hl
  clear hb hR hl2 hl
  obtain ⟨w1, b1, hw1, hb1, hs1, E⟩ := fr_start w (F := Fq.pair 0 0) (us := [.bool false, .slice none 0 0, .bool false, .slice none 0 0]) 31 rfl (by simp) (tame_rat _ _ _ _ _ _ _ _) (Pair.zero _)
  go_enter Tryz.func72, Tryz.ntmps72
  go_upto_region 1 with (fail)
  rw [← hw1]
  rw [← hb1]
  clear hw1 hb1 hs1
  refine region_fr (C := [Fq.is (.slice (some ⟨b, 0, none⟩) l l), Fq.is (.pointer (some ⟨b, 0 * 4, none⟩)), Fq.pair a.num (a.den : Int), Fq.any, Fq.any]) (ks := [none]) (new := [⟨3, 4, 4, Fq.pair 0 0, Fq.pair a.num (a.den : Int), none⟩]) E rfl (by kernel_rfl) rfl rfl (fun hp => ⟨?_, ?_, ?_, ?_, ?_, trivial⟩) ?_
  · exact q_move hp (free_of rfl) trivial (sq_out rfl rfl (fun _ _ => rfl))
  · exact q_index (b := b) (l := l) (k := 0) hp (free_of rfl) trivial (sq_in 0 rfl rfl (by simp) rfl (fun v w h => h)) (sq_const (fun _ => rfl)) (by have := HE.out; omega) (fun _ => rfl)
  · exact q_loadRatOut (off := 0 * 4) hp (free_of rfl) trivial HB.out rfl (by have := HE.out; omega) (sq_in 1 rfl rfl (by simp) rfl (fun v w h => h)) (fun us w hl h => ld_rats (qs := (a :: r).map prQ) (k := 0) rfl h)
  · exact q_allocRat hp (List.mem_iff_getElem?.2 ⟨0, rfl⟩) rfl rfl rfl rfl (Nat.ne_of_beq_eq_false rfl) (fun _ _ => trivial) (old_ne rfl) (newk_ne rfl) (fun w => Pair.zero w)
  · exact q_storeNewRat hp (List.mem_iff_getElem?.2 ⟨0, rfl⟩) rfl rfl rfl (own_ptr rfl rfl (by simp) rfl) (sq_in 2 rfl rfl (by simp) rfl (fun v w h => ratV_pair h)) (fun _ _ => trivial) (old_ne rfl) (newi_ne rfl)
  intro L vs w2 nb hL hC hn E2
  have e0 : vs 0 = .slice (some ⟨b, 0, none⟩) l l := hC 0 (by simp)
  have e1 : vs 1 = .pointer (some ⟨b, 0 * 4, none⟩) := hC 1 (by simp)
  have e3 : vs 3 = .pointer (some ⟨nb 3, 0, none⟩) := hn _ (List.mem_iff_getElem?.2 ⟨0, rfl⟩)
  have E : Fr w [(nb 3, 4, Fq.pair a.num (a.den : Int)), (b1, 4, Fq.pair 0 0)] w2 := E2
  rw [lay_all hL]
  simp only [putAll, dstOf, List.length_cons, List.length_nil, Nat.zero_add, Nat.reduceAdd, List.getElem?_toArray, List.getElem?_cons_zero, List.getElem?_cons_succ, Option.bind_some, Act.put, List.setIfInBounds_toArray, List.set_cons_succ, List.set_cons_zero]
  rw [e0, e1, e3]
  generalize nb 3 = b2_3 at E ⊢
  generalize vs 2 = u2_2
  clear e0 e1 e3 hC hn E2 hL vs L nb
  go_upto_region 2 with (fail)
  refine region_fr (C := [Fq.is (.int .i64 1)]) (ks := [none, none]) (new := []) E rfl (by kernel_rfl) rfl rfl (fun hp => ⟨?_, trivial⟩) ?_
  · exact q_assign hp (free_of rfl) trivial (sq_const (fun _ => rfl))
  intro L vs w3 nb hL hC hn E3
  have e0 : vs 0 = .int .i64 1 := hC 0 (by simp)
  have E : Fr w [(b2_3, 4, Fq.pair a.num (a.den : Int)), (b1, 4, Fq.pair 0 0)] w3 := E3
  rw [lay_all hL]
  simp only [putAll, dstOf, List.length_cons, List.length_nil, Nat.zero_add, List.getElem?_toArray, List.getElem?_cons_zero, Option.bind_some, Act.put, List.setIfInBounds_toArray, List.set_cons_succ, List.set_cons_zero]
  rw [e0]
  clear e0 hC hn E3 hL vs L nb
  have HS := hidd E
  go_upto_region 3 with (fail)
  go_loopw [4] (fun vi W => ∃ j : Nat, j ≤ r.length ∧ vi = .int .i64 ((j : Int) + 1) ∧ Fr w [(b2_3, 4, Fq.pair (greatQ a (r.take j)).num ((greatQ a (r.take j)).den : Int)), (b1, 4, Fq.pair 0 0)] W) (fun vi _ => l - (intOf vi).toNat)
  case atStart => exact ⟨0, Nat.zero_le _, rfl, HS.out⟩
  case round =>
    obtain ⟨j, hj, rfl, E⟩ := hrel
    clear HS
    obtain ⟨m, hm⟩ : ∃ m, m = greatQ a (r.take j) := ⟨_, rfl⟩
    rw [← hm] at E
    have Bm : Hid (Rb m 300) := by rw [hm]; exact rb_great (HR.out a (by simp)) (fun q hq => HR.out q (List.mem_cons_of_mem _ (List.mem_of_mem_take hq)))
    have HM := hidd hm
    clear hm
    by_cases hjl : j < r.length
    · obtain ⟨q, hq1, hq2, hq3⟩ := at_map hjl
      have Bq : Hid (Rb q 300) := HR.out q (List.mem_cons_of_mem _ hq3)
      have TL : Hid ((j : Int) + 1 < ((l : Nat) : Int)) := by have := HE.out; show _ < _; omega
      have HJ := hidd hjl
      have hw : wrap64 ((j : Int) + 1 + 1) = (j : Int) + 1 + 1 := by have := HL.out; have := HE.out; simp only [wrap64]; omega
      have HQ1 := hidd hq1
      have HQ2 := hidd hq2
      clear hq1 hq2 hq3 hjl hj
      go_upto_region 3 with (fail)
      refine region_fr (C := [Fq.is (.int .i64 ((j : Int) + 1)), Fq.is (.slice (some ⟨b, 0, none⟩) l l), Fq.is (.int .i64 ((l : Nat) : Int)), Fq.is (.bool true)]) (ks := [none, none]) (new := []) E rfl (by kernel_rfl) rfl rfl (fun hp => ⟨?_, ?_, ?_, ?_, trivial⟩) ?_
      · exact q_move hp (free_of rfl) trivial (sq_out rfl rfl (fun _ _ => rfl))
      · exact q_move hp (free_of rfl) trivial (sq_out rfl rfl (fun _ _ => rfl))
      · exact q_lenR hp (free_of rfl) trivial (sq_in 1 rfl rfl (by simp) rfl (fun v w h => h)) (fun _ => rfl)
      · exact q_two (F := fun v _ => v = .int .i64 ((j : Int) + 1)) (G := fun v _ => v = .int .i64 ((l : Nat) : Int)) hp (free_of rfl) trivial (sq_in 0 rfl rfl (by simp) rfl (fun v w h => h)) (sq_in 2 rfl rfl (by simp) rfl (fun v w h => h)) (fun ρ w hc h h' => ⟨.bool true, by simp [execOp, go_sem, h, h', TL.out], rfl⟩)
      intro L vs w4 nb hL hC hn E4
      have e0 : vs 0 = .int .i64 ((j : Int) + 1) := hC 0 (by simp)
      have e1 : vs 1 = .slice (some ⟨b, 0, none⟩) l l := hC 1 (by simp)
      have e2 : vs 2 = .int .i64 ((l : Nat) : Int) := hC 2 (by simp)
      have e3 : vs 3 = .bool true := hC 3 (by simp)
      have E : Fr w [(b2_3, 4, Fq.pair m.num (m.den : Int)), (b1, 4, Fq.pair 0 0)] w4 := E4
      rw [lay_all hL]
      simp only [putAll, dstOf, List.length_cons, List.length_nil, Nat.zero_add, Nat.reduceAdd, List.getElem?_toArray, List.getElem?_cons_zero, List.getElem?_cons_succ, Option.bind_some, Act.put, List.setIfInBounds_toArray, List.set_cons_succ, List.set_cons_zero]
      rw [e0, e1, e2, e3]
      clear e0 e1 e2 e3 hC hn E4 hL vs L nb
      clear TL
      by_cases hlt : m < q
      · have TC := hidd (cmpQ_gt.2 hlt)
        have hm2 : Hid (greatQ a (r.take (j + 1)) = q) := by show _ = _; rw [take_snoc HQ1.out, great_snoc, ← HM.out, if_pos hlt]
        clear hlt
        go_upto_region 5 with (fail)
        refine region_fr (C := [Fq.is (.slice (some ⟨b, 0, none⟩) l l), Fq.is (.int .i64 ((j : Int) + 1)), Fq.is (.pointer (some ⟨b, (j + 1) * 4, none⟩)), Fq.pair q.num (q.den : Int), Fq.pair m.num (m.den : Int), Fq.is (.int .i64 (cmpQ q m)), Fq.is (.bool true)]) (ks := [none, none]) (new := []) E rfl (by kernel_rfl) rfl rfl (fun hp => ⟨?_, ?_, ?_, ?_, ?_, ?_, ?_, trivial⟩) ?_
        · exact q_move hp (free_of rfl) trivial (sq_out rfl rfl (fun _ _ => rfl))
        · exact q_move hp (free_of rfl) trivial (sq_out rfl rfl (fun _ _ => rfl))
        · exact q_index (b := b) (l := l) (k := (j + 1)) hp (free_of rfl) trivial (sq_in 0 rfl rfl (by simp) rfl (fun v w h => h)) (sq_in 1 rfl rfl (by simp) rfl (fun v w h => h)) (by have := HE.out; have := HJ.out; omega) (fun _ => rfl)
        · exact q_loadRatOut (off := (j + 1) * 4) hp (free_of rfl) trivial HB.out rfl (by have := HE.out; have := HJ.out; omega) (sq_in 2 rfl rfl (by simp) rfl (fun v w h => h)) (fun us w hl h => ld_rats (qs := (a :: r).map prQ) (k := j + 1) HQ2.out h)
        · exact q_loadRat hp (free_of rfl) trivial (List.mem_iff_getElem?.2 ⟨0, rfl⟩) (.inl rfl) rfl (sq_out rfl rfl (fun _ _ => rfl)) (fun us w hl h => h)
        · exact q_call2 (F := (Fq.pair q.num (q.den : Int)).P) (G := (Fq.pair m.num (m.den : Int)).P) hp (free_of rfl) trivial (enq_S_Cmp) (sq_in 3 rfl rfl (by simp) rfl (fun v w h => h)) (sq_in 4 rfl rfl (by simp) rfl (fun v w h => h)) (fun v v' w h h' => exSCmpQ h h' (rb_le Bq.out (by omega)) (rb_le Bm.out (by omega)))
        · exact q_one (F := fun v _ => v = .int .i64 (cmpQ q m)) hp (free_of rfl) trivial (sq_in 5 rfl rfl (by simp) rfl (fun v w h => h)) (fun ρ w hc h => ⟨.bool true, by simp [execOp, go_sem, h, hc, TC.out], rfl⟩)
        intro L vs w5 nb hL hC hn E5
        have e0 : vs 0 = .slice (some ⟨b, 0, none⟩) l l := hC 0 (by simp)
        have e1 : vs 1 = .int .i64 ((j : Int) + 1) := hC 1 (by simp)
        have e2 : vs 2 = .pointer (some ⟨b, (j + 1) * 4, none⟩) := hC 2 (by simp)
        have e5 : vs 5 = .int .i64 (cmpQ q m) := hC 5 (by simp)
        have e6 : vs 6 = .bool true := hC 6 (by simp)
        have E : Fr w [(b2_3, 4, Fq.pair m.num (m.den : Int)), (b1, 4, Fq.pair 0 0)] w5 := E5
        rw [lay_all hL]
        simp only [putAll, dstOf, List.length_cons, List.length_nil, Nat.zero_add, Nat.reduceAdd, List.getElem?_toArray, List.getElem?_cons_zero, List.getElem?_cons_succ, Option.bind_some, Act.put, List.setIfInBounds_toArray, List.set_cons_succ, List.set_cons_zero]
        rw [e0, e1, e2, e5, e6]
        generalize vs 3 = u5_3
        generalize vs 4 = u5_4
        clear e0 e1 e2 e5 e6 hC hn E5 hL vs L nb
        clear TC
        go_upto_region 6 with (fail)
        refine region_fr (C := [Fq.is (.slice (some ⟨b, 0, none⟩) l l), Fq.is (.int .i64 ((j : Int) + 1)), Fq.is (.pointer (some ⟨b, (j + 1) * 4, none⟩)), Fq.pair q.num (q.den : Int), Fq.any]) (ks := [some (4, Fq.pair q.num (q.den : Int)), none]) (new := []) E rfl (by kernel_rfl) rfl rfl (fun hp => ⟨?_, ?_, ?_, ?_, ?_, trivial⟩) ?_
        · exact q_move hp (free_of rfl) trivial (sq_out rfl rfl (fun _ _ => rfl))
        · exact q_move hp (free_of rfl) trivial (sq_out rfl rfl (fun _ _ => rfl))
        · exact q_index (b := b) (l := l) (k := (j + 1)) hp (free_of rfl) trivial (sq_in 0 rfl rfl (by simp) rfl (fun v w h => h)) (sq_in 1 rfl rfl (by simp) rfl (fun v w h => h)) (by have := HE.out; have := HJ.out; omega) (fun _ => rfl)
        · exact q_loadRatOut (off := (j + 1) * 4) hp (free_of rfl) trivial HB.out rfl (by have := HE.out; have := HJ.out; omega) (sq_in 2 rfl rfl (by simp) rfl (fun v w h => h)) (fun us w hl h => ld_rats (qs := (a :: r).map prQ) (k := j + 1) HQ2.out h)
        · exact q_storeOldRat hp (List.mem_iff_getElem?.2 ⟨0, rfl⟩) rfl rfl (sq_out rfl rfl (fun _ _ => rfl)) (sq_in 3 rfl rfl (by simp) rfl (fun v w h => ratV_pair h)) (fun _ _ => trivial) (newik_ne rfl)
        intro L vs w6 nb hL hC hn E6
        have e0 : vs 0 = .slice (some ⟨b, 0, none⟩) l l := hC 0 (by simp)
        have e1 : vs 1 = .int .i64 ((j : Int) + 1) := hC 1 (by simp)
        have e2 : vs 2 = .pointer (some ⟨b, (j + 1) * 4, none⟩) := hC 2 (by simp)
        have E : Fr w [(b2_3, 4, Fq.pair q.num (q.den : Int)), (b1, 4, Fq.pair 0 0)] w6 := E6
        rw [lay_all hL]
        simp only [putAll, dstOf, List.length_cons, List.length_nil, Nat.zero_add, Nat.reduceAdd, List.getElem?_toArray, List.getElem?_cons_zero, List.getElem?_cons_succ, Option.bind_some, Act.put, List.setIfInBounds_toArray, List.set_cons_succ, List.set_cons_zero]
        rw [e0, e1, e2]
        generalize vs 3 = u6_3
        clear e0 e1 e2 hC hn E6 hL vs L nb
        go_wp2
        go_roundw
        case rel => exact ⟨j + 1, by have := HJ.out; omega, by first | go_num | (rw [hw]; go_num), by rw [hm2.out]; exact E⟩
        case measure => first | exact measJ (by have := HE.out; have := HJ.out; omega) | (rw [hw]; exact measJ (by have := HE.out; have := HJ.out; omega))
      · have TC := hidd (mt cmpQ_gt.1 hlt)
        have hm2 : Hid (greatQ a (r.take (j + 1)) = m) := by show _ = _; rw [take_snoc HQ1.out, great_snoc, ← HM.out, if_neg hlt]
        clear hlt
        go_upto_region 5 with (fail)
        refine region_fr (C := [Fq.is (.slice (some ⟨b, 0, none⟩) l l), Fq.is (.int .i64 ((j : Int) + 1)), Fq.is (.pointer (some ⟨b, (j + 1) * 4, none⟩)), Fq.pair q.num (q.den : Int), Fq.pair m.num (m.den : Int), Fq.is (.int .i64 (cmpQ q m)), Fq.is (.bool false)]) (ks := [none, none]) (new := []) E rfl (by kernel_rfl) rfl rfl (fun hp => ⟨?_, ?_, ?_, ?_, ?_, ?_, ?_, trivial⟩) ?_
        · exact q_move hp (free_of rfl) trivial (sq_out rfl rfl (fun _ _ => rfl))
        · exact q_move hp (free_of rfl) trivial (sq_out rfl rfl (fun _ _ => rfl))
        · exact q_index (b := b) (l := l) (k := (j + 1)) hp (free_of rfl) trivial (sq_in 0 rfl rfl (by simp) rfl (fun v w h => h)) (sq_in 1 rfl rfl (by simp) rfl (fun v w h => h)) (by have := HE.out; have := HJ.out; omega) (fun _ => rfl)
        · exact q_loadRatOut (off := (j + 1) * 4) hp (free_of rfl) trivial HB.out rfl (by have := HE.out; have := HJ.out; omega) (sq_in 2 rfl rfl (by simp) rfl (fun v w h => h)) (fun us w hl h => ld_rats (qs := (a :: r).map prQ) (k := j + 1) HQ2.out h)
        · exact q_loadRat hp (free_of rfl) trivial (List.mem_iff_getElem?.2 ⟨0, rfl⟩) (.inl rfl) rfl (sq_out rfl rfl (fun _ _ => rfl)) (fun us w hl h => h)
        · exact q_call2 (F := (Fq.pair q.num (q.den : Int)).P) (G := (Fq.pair m.num (m.den : Int)).P) hp (free_of rfl) trivial (enq_S_Cmp) (sq_in 3 rfl rfl (by simp) rfl (fun v w h => h)) (sq_in 4 rfl rfl (by simp) rfl (fun v w h => h)) (fun v v' w h h' => exSCmpQ h h' (rb_le Bq.out (by omega)) (rb_le Bm.out (by omega)))
        · exact q_one (F := fun v _ => v = .int .i64 (cmpQ q m)) hp (free_of rfl) trivial (sq_in 5 rfl rfl (by simp) rfl (fun v w h => h)) (fun ρ w hc h => ⟨.bool false, by simp [execOp, go_sem, h, hc, TC.out], rfl⟩)
        intro L vs w7 nb hL hC hn E7
        have e0 : vs 0 = .slice (some ⟨b, 0, none⟩) l l := hC 0 (by simp)
        have e1 : vs 1 = .int .i64 ((j : Int) + 1) := hC 1 (by simp)
        have e2 : vs 2 = .pointer (some ⟨b, (j + 1) * 4, none⟩) := hC 2 (by simp)
        have e5 : vs 5 = .int .i64 (cmpQ q m) := hC 5 (by simp)
        have e6 : vs 6 = .bool false := hC 6 (by simp)
        have E : Fr w [(b2_3, 4, Fq.pair m.num (m.den : Int)), (b1, 4, Fq.pair 0 0)] w7 := E7
        rw [lay_all hL]
        simp only [putAll, dstOf, List.length_cons, List.length_nil, Nat.zero_add, Nat.reduceAdd, List.getElem?_toArray, List.getElem?_cons_zero, List.getElem?_cons_succ, Option.bind_some, Act.put, List.setIfInBounds_toArray, List.set_cons_succ, List.set_cons_zero]
        rw [e0, e1, e2, e5, e6]
        generalize vs 3 = u7_3
        generalize vs 4 = u7_4
        clear e0 e1 e2 e5 e6 hC hn E7 hL vs L nb
        clear TC
        go_wp2
        go_roundw
        case rel => exact ⟨j + 1, by have := HJ.out; omega, by first | go_num | (rw [hw]; go_num), by rw [hm2.out]; exact E⟩
        case measure => first | exact measJ (by have := HE.out; have := HJ.out; omega) | (rw [hw]; exact measJ (by have := HE.out; have := HJ.out; omega))
    · have TL : Hid (¬ (j : Int) + 1 < ((l : Nat) : Int)) := by have := HE.out; show ¬ _; omega
      have hm2 : Hid (greatQ a r = m) := by show _ = _; rw [HM.out, List.take_of_length_le (by omega)]
      clear hjl hj
      go_upto_region 3 with (fail)
      refine region_fr (C := [Fq.is (.int .i64 ((j : Int) + 1)), Fq.is (.slice (some ⟨b, 0, none⟩) l l), Fq.is (.int .i64 ((l : Nat) : Int)), Fq.is (.bool false)]) (ks := [none, none]) (new := []) E rfl (by kernel_rfl) rfl rfl (fun hp => ⟨?_, ?_, ?_, ?_, trivial⟩) ?_
      · exact q_move hp (free_of rfl) trivial (sq_out rfl rfl (fun _ _ => rfl))
      · exact q_move hp (free_of rfl) trivial (sq_out rfl rfl (fun _ _ => rfl))
      · exact q_lenR hp (free_of rfl) trivial (sq_in 1 rfl rfl (by simp) rfl (fun v w h => h)) (fun _ => rfl)
      · exact q_two (F := fun v _ => v = .int .i64 ((j : Int) + 1)) (G := fun v _ => v = .int .i64 ((l : Nat) : Int)) hp (free_of rfl) trivial (sq_in 0 rfl rfl (by simp) rfl (fun v w h => h)) (sq_in 2 rfl rfl (by simp) rfl (fun v w h => h)) (fun ρ w hc h h' => ⟨.bool false, by simp [execOp, go_sem, h, h', TL.out], rfl⟩)
      intro L vs w8 nb hL hC hn E8
      have e0 : vs 0 = .int .i64 ((j : Int) + 1) := hC 0 (by simp)
      have e1 : vs 1 = .slice (some ⟨b, 0, none⟩) l l := hC 1 (by simp)
      have e2 : vs 2 = .int .i64 ((l : Nat) : Int) := hC 2 (by simp)
      have e3 : vs 3 = .bool false := hC 3 (by simp)
      have E : Fr w [(b2_3, 4, Fq.pair m.num (m.den : Int)), (b1, 4, Fq.pair 0 0)] w8 := E8
      rw [lay_all hL]
      simp only [putAll, dstOf, List.length_cons, List.length_nil, Nat.zero_add, Nat.reduceAdd, List.getElem?_toArray, List.getElem?_cons_zero, List.getElem?_cons_succ, Option.bind_some, Act.put, List.setIfInBounds_toArray, List.set_cons_succ, List.set_cons_zero]
      rw [e0, e1, e2, e3]
      clear e0 e1 e2 e3 hC hn E8 hL vs L nb
      clear TL
      go_upto_region 7 with (fail)
      refine region_fr (C := [Fq.pair m.num (m.den : Int), Fq.any]) (ks := [none, some (1, Fq.pair m.num (m.den : Int))]) (new := []) E rfl (by kernel_rfl) rfl rfl (fun hp => ⟨?_, ?_, trivial⟩) ?_
      · exact q_loadRat hp (free_of rfl) trivial (List.mem_iff_getElem?.2 ⟨0, rfl⟩) (.inl rfl) rfl (sq_out rfl rfl (fun _ _ => rfl)) (fun us w hl h => h)
      · exact q_storeOldRat hp (List.mem_iff_getElem?.2 ⟨1, rfl⟩) rfl rfl (sq_out rfl rfl (fun _ _ => rfl)) (sq_in 0 rfl rfl (by simp) rfl (fun v w h => ratV_pair h)) (fun _ _ => trivial) (newik_ne rfl)
      intro L vs w9 nb hL hC hn E9
      have E : Fr w [(b2_3, 4, Fq.pair m.num (m.den : Int)), (b1, 4, Fq.pair m.num (m.den : Int))] w9 := E9
      rw [lay_all hL]
      simp only [putAll, dstOf, List.length_cons, List.length_nil, Nat.zero_add, Nat.reduceAdd, List.getElem?_toArray, List.getElem?_cons_zero, List.getElem?_cons_succ, Option.bind_some, Act.put, List.setIfInBounds_toArray, List.set_cons_succ, List.set_cons_zero]
      generalize vs 0 = u9_0
      clear  hC hn E9 hL vs L nb
      clear HB HR HL HE HM Bm
      obtain ⟨p0, p1, p2, p3, c0, c1, c2, c3, hP⟩ := box_pair (E.box 1 rfl)
      go_wp2
      refine bodyPost_ret (v := .agg #[p0, p1, p2, p3]) ?_ rfl ⟨_, rfl, E.below, by rw [hm2.out]; exact hP⟩
      simp [results, Tryz.results72, go_sem, c0, c1, c2, c3]

set_option maxRecDepth 100000 in
set_option maxHeartbeats 4000000 in
theorem exHull0 {w : World} {v : Value} {a : Rat} (h : Pair w v a.num a.den) (ha : Rb a 300) :
    Calls Tryz.prog 73 #[v, .slice none 0 0] w fun e w' => ∃ v', e = .returned v' ∧ Below w.heap.size w w' ∧ Ivl w' v' a.num (a.den : Int) a.num (a.den : Int) := by
  replace ha := hidd ha
  obtain ⟨n0, ao0, k0, c0, n0', ao0', k0', c0', rfl, _⟩ := ratV_pair h
  obtain ⟨w1, b1, hw1, hb1, hs1, E⟩ := fr_start w (F := Fq.pair a.num (a.den : Int)) (us := [.bool n0, .slice ao0 k0 c0, .bool n0', .slice ao0' k0' c0']) 31 rfl (by simp) (tame_rat _ _ _ _ _ _ _ _) h
  obtain ⟨w2, b2, hw2, hb2, hs2, E⟩ := fr_more E hs1 (F := Fq.ivl 0 0 0 0) (us := [.bool false, .slice none 0 0, .bool false, .slice none 0 0, .bool false, .slice none 0 0, .bool false, .slice none 0 0]) 47 rfl (by simp) (tame_ivl _ _ _ _ _ _ _ _ _ _ _ _ _ _ _ _) (Ivl.zero _)
  go_enter Tryz.func73, Tryz.ntmps73
  go_upto_region 1 with (fail)
  rw [← hw1]
  rw [← hw2]
  rw [← hb2]
  rw [← hb1]
  clear hw1 hw2 hb1 hb2 hs2 hs1
  refine region_fr (C := [Fq.pair a.num (a.den : Int), Fq.pair a.num (a.den : Int), Fq.any, Fq.any, Fq.any, Fq.any]) (ks := [none, none]) (new := [⟨2, 4, 4, Fq.pair 0 0, Fq.pair a.num (a.den : Int), none⟩, ⟨3, 5, 4, Fq.pair 0 0, Fq.pair a.num (a.den : Int), none⟩]) E rfl (by kernel_rfl) rfl rfl (fun hp => ⟨?_, ?_, ?_, ?_, ?_, ?_, trivial⟩) ?_
  · exact q_loadRat hp (free_of rfl) trivial (List.mem_iff_getElem?.2 ⟨1, rfl⟩) (.inl rfl) rfl (sq_out rfl rfl (fun _ _ => rfl)) (fun us w hl h => h)
  · exact q_loadRat hp (free_of rfl) trivial (List.mem_iff_getElem?.2 ⟨1, rfl⟩) (.inl rfl) rfl (sq_out rfl rfl (fun _ _ => rfl)) (fun us w hl h => h)
  · exact q_allocRat hp (List.mem_iff_getElem?.2 ⟨0, rfl⟩) rfl rfl rfl rfl (Nat.ne_of_beq_eq_false rfl) (fun _ _ => trivial) (old_ne rfl) (newk_ne rfl) (fun w => Pair.zero w)
  · exact q_allocRat hp (List.mem_iff_getElem?.2 ⟨1, rfl⟩) rfl rfl rfl rfl (Nat.ne_of_beq_eq_false rfl) (fun _ _ => trivial) (old_ne rfl) (newk_ne rfl) (fun w => Pair.zero w)
  · exact q_storeNewRat hp (List.mem_iff_getElem?.2 ⟨0, rfl⟩) rfl rfl rfl (own_ptr rfl rfl (by simp) rfl) (sq_in 0 rfl rfl (by simp) rfl (fun v w h => ratV_pair h)) (fun _ _ => trivial) (old_ne rfl) (newi_ne rfl)
  · exact q_storeNewRat hp (List.mem_iff_getElem?.2 ⟨1, rfl⟩) rfl rfl rfl (own_ptr rfl rfl (by simp) rfl) (sq_in 1 rfl rfl (by simp) rfl (fun v w h => ratV_pair h)) (fun _ _ => trivial) (old_ne rfl) (newi_ne rfl)
  intro L vs w3 nb hL hC hn E3
  have e2 : vs 2 = .pointer (some ⟨nb 2, 0, none⟩) := hn _ (List.mem_iff_getElem?.2 ⟨0, rfl⟩)
  have e3 : vs 3 = .pointer (some ⟨nb 3, 0, none⟩) := hn _ (List.mem_iff_getElem?.2 ⟨1, rfl⟩)
  have E : Fr w [(nb 2, 4, Fq.pair a.num (a.den : Int)), (nb 3, 4, Fq.pair a.num (a.den : Int)), (b2, 8, Fq.ivl 0 0 0 0), (b1, 4, Fq.pair a.num (a.den : Int))] w3 := E3
  rw [lay_all hL]
  simp only [putAll, dstOf, List.length_cons, List.length_nil, Nat.zero_add, Nat.reduceAdd, List.getElem?_toArray, List.getElem?_cons_zero, List.getElem?_cons_succ, Option.bind_some, Act.put, List.setIfInBounds_toArray, List.set_cons_succ, List.set_cons_zero]
  rw [e2, e3]
  generalize nb 2 = b3_2 at E ⊢
  generalize nb 3 = b3_3 at E ⊢
  generalize vs 0 = u3_0
  generalize vs 1 = u3_1
  clear e2 e3 hC hn E3 hL vs L nb
  go_upto_region 2 with (fail)
  refine region_fr (C := [Fq.is (.slice none 0 0), Fq.is (.int .i64 ((0 : Nat) : Int)), Fq.is (.int .i64 0)]) (ks := [none, none, none, none]) (new := []) E rfl (by kernel_rfl) rfl rfl (fun hp => ⟨?_, ?_, ?_, trivial⟩) ?_
  · exact q_move hp (free_of rfl) trivial (sq_out rfl rfl (fun _ _ => rfl))
  · exact q_lenR hp (free_of rfl) trivial (sq_in 0 rfl rfl (by simp) rfl (fun v w h => h)) (fun _ => rfl)
  · exact q_move hp (free_of rfl) trivial (sq_const (fun _ => rfl))
  intro L vs w4 nb hL hC hn E4
  have e0 : vs 0 = .slice none 0 0 := hC 0 (by simp)
  have e1 : vs 1 = .int .i64 ((0 : Nat) : Int) := hC 1 (by simp)
  have e2 : vs 2 = .int .i64 0 := hC 2 (by simp)
  have E : Fr w [(b3_2, 4, Fq.pair a.num (a.den : Int)), (b3_3, 4, Fq.pair a.num (a.den : Int)), (b2, 8, Fq.ivl 0 0 0 0), (b1, 4, Fq.pair a.num (a.den : Int))] w4 := E4
  rw [lay_all hL]
  simp only [putAll, dstOf, List.length_cons, List.length_nil, Nat.zero_add, Nat.reduceAdd, List.getElem?_toArray, List.getElem?_cons_zero, List.getElem?_cons_succ, Option.bind_some, Act.put, List.setIfInBounds_toArray, List.set_cons_succ, List.set_cons_zero]
  rw [e0, e1, e2]
  clear e0 e1 e2 hC hn E4 hL vs L nb
  have HS := hidd E
  go_upto_region 3 with (fail)
  go_loopw [13] (fun vi W => vi = .int .i64 0 ∧ Fr w [(b3_2, 4, Fq.pair a.num (a.den : Int)), (b3_3, 4, Fq.pair a.num (a.den : Int)), (b2, 8, Fq.ivl 0 0 0 0), (b1, 4, Fq.pair a.num (a.den : Int))] W) (fun _ _ => 0)
  case atStart => exact ⟨rfl, HS.out⟩
  case round =>
    obtain ⟨rfl, E⟩ := hrel
    clear HS
    go_upto_region 3 with (fail)
    refine region_fr (C := [Fq.is (.bool false)]) (ks := [none, none, none, none]) (new := []) E rfl (by kernel_rfl) rfl rfl (fun hp => ⟨?_, trivial⟩) ?_
    · exact q_two (F := fun v _ => v = .int .i64 0) (G := fun v _ => v = .int .i64 ((0 : Nat) : Int)) hp (free_of rfl) trivial (sq_out (s := 13) rfl rfl (fun _ _ => rfl)) (sq_out (s := 12) rfl rfl (fun _ _ => rfl)) (fun ρ w hc h h' => ⟨.bool false, by simp [execOp, go_sem, h, h'], rfl⟩)
    intro L vs w5 nb hL hC hn E5
    have e0 : vs 0 = .bool false := hC 0 (by simp)
    have E : Fr w [(b3_2, 4, Fq.pair a.num (a.den : Int)), (b3_3, 4, Fq.pair a.num (a.den : Int)), (b2, 8, Fq.ivl 0 0 0 0), (b1, 4, Fq.pair a.num (a.den : Int))] w5 := E5
    rw [lay_all hL]
    simp only [putAll, dstOf, List.length_cons, List.length_nil, Nat.zero_add, List.getElem?_toArray, List.getElem?_cons_zero, Option.bind_some, Act.put, List.setIfInBounds_toArray, List.set_cons_succ, List.set_cons_zero]
    rw [e0]
    clear e0 hC hn E5 hL vs L nb
    go_upto_region 10 with (fail)
    refine region_fr (C := [Fq.pair a.num (a.den : Int), Fq.pair a.num (a.den : Int), Fq.pair a.num (a.den : Int), Fq.pair a.num (a.den : Int), Fq.ivl a.num (a.den : Int) a.num (a.den : Int), Fq.any]) (ks := [none, none, some (5, Fq.ivl a.num (a.den : Int) a.num (a.den : Int)), none]) (new := []) E rfl (by kernel_rfl) rfl rfl (fun hp => ⟨?_, ?_, ?_, ?_, ?_, ?_, trivial⟩) ?_
    · exact q_loadRat hp (free_of rfl) trivial (List.mem_iff_getElem?.2 ⟨0, rfl⟩) (.inl rfl) rfl (sq_out rfl rfl (fun _ _ => rfl)) (fun us w hl h => h)
    · exact q_call1 (F := (Fq.pair a.num (a.den : Int)).P) hp (free_of rfl) trivial (enq_Q_copied) (sq_in 0 rfl rfl (by simp) rfl (fun v w h => h)) (fun v w h => exCopied h)
    · exact q_loadRat hp (free_of rfl) trivial (List.mem_iff_getElem?.2 ⟨1, rfl⟩) (.inl rfl) rfl (sq_out rfl rfl (fun _ _ => rfl)) (fun us w hl h => h)
    · exact q_call1 (F := (Fq.pair a.num (a.den : Int)).P) hp (free_of rfl) trivial (enq_Q_copied) (sq_in 2 rfl rfl (by simp) rfl (fun v w h => h)) (fun v w h => exCopied h)
    · exact q_buildIvl hp (free_of rfl) trivial (sq_in 1 rfl rfl (by simp) rfl (fun v w h => h)) (sq_in 3 rfl rfl (by simp) rfl (fun v w h => h)) (fun v w h => h)
    · exact q_storeOldIvl hp (List.mem_iff_getElem?.2 ⟨2, rfl⟩) rfl rfl (sq_out rfl rfl (fun _ _ => rfl)) (sq_in 4 rfl rfl (by simp) rfl (fun v w h => h.parts)) (fun _ _ => trivial) (newik_ne rfl)
    intro L vs w6 nb hL hC hn E6
    have E : Fr w [(b3_2, 4, Fq.pair a.num (a.den : Int)), (b3_3, 4, Fq.pair a.num (a.den : Int)), (b2, 8, Fq.ivl a.num (a.den : Int) a.num (a.den : Int)), (b1, 4, Fq.pair a.num (a.den : Int))] w6 := E6
    rw [lay_all hL]
    simp only [putAll, dstOf, List.length_cons, List.length_nil, Nat.zero_add, Nat.reduceAdd, List.getElem?_toArray, List.getElem?_cons_zero, List.getElem?_cons_succ, Option.bind_some, Act.put, List.setIfInBounds_toArray, List.set_cons_succ, List.set_cons_zero]
    generalize vs 0 = u6_0
    generalize vs 1 = u6_1
    generalize vs 2 = u6_2
    generalize vs 3 = u6_3
    generalize vs 4 = u6_4
    clear  hC hn E6 hL vs L nb
    obtain ⟨p0, p1, p2, p3, p4, p5, p6, p7, c0, c1, c2, c3, c4, c5, c6, c7, hP⟩ := box_ivl (E.box 2 rfl)
    clear ha
    go_wp2
    refine bodyPost_ret (v := .agg #[p0, p1, p2, p3, p4, p5, p6, p7]) ?_ rfl ⟨_, rfl, E.below, hP⟩
    simp [results, Tryz.results73, go_sem, c0, c1, c2, c3, c4, c5, c6, c7]

set_option maxRecDepth 100000 in
set_option maxHeartbeats 4000000 in
theorem exHull {w : World} {v : Value} {b l : Nat} {a : Rat} {r : List Rat} (h : Pair w v a.num a.den) (hb : Bq w b (l * 4) (Fq.rats (r.map prQ))) (hl : l = r.length) (hl2 : l ≤ 100) (ha : Rb a 300) (hR : ∀ q ∈ r, Rb q 300) :
    Calls Tryz.prog 73 #[v, .slice (some ⟨b, 0, none⟩) l l] w fun e w' => ∃ v', e = .returned v' ∧ Below w.heap.size w w' ∧ Ivl w' v' (leastQ a r).num ((leastQ a r).den : Int) (greatQ a r).num ((greatQ a r).den : Int) := by
  replace ha := hidd ha
  have HB := hidd hb
  have HR := hidd hR
  have HL := hidd hl2
  have HE := hidd hl
  clear hb hR hl2 hl
  obtain ⟨n0, ao0, k0, c0, n0', ao0', k0', c0', rfl, _⟩ := ratV_pair h
  obtain ⟨w1, b1, hw1, hb1, hs1, E⟩ := fr_start w (F := Fq.pair a.num (a.den : Int)) (us := [.bool n0, .slice ao0 k0 c0, .bool n0', .slice ao0' k0' c0']) 31 rfl (by simp) (tame_rat _ _ _ _ _ _ _ _) h
  obtain ⟨w2, b2, hw2, hb2, hs2, E⟩ := fr_more E hs1 (F := Fq.ivl 0 0 0 0) (us := [.bool false, .slice none 0 0, .bool false, .slice none 0 0, .bool false, .slice none 0 0, .bool false, .slice none 0 0]) 47 rfl (by simp) (tame_ivl _ _ _ _ _ _ _ _ _ _ _ _ _ _ _ _) (Ivl.zero _)
  go_enter Tryz.func73, Tryz.ntmps73
  go_upto_region 1 with (fail)
  rw [← hw1]
  rw [← hw2]
  rw [← hb2]
  rw [← hb1]
  clear hw1 hw2 hb1 hb2 hs2 hs1
  refine region_fr (C := [Fq.pair a.num (a.den : Int), Fq.pair a.num (a.den : Int), Fq.any, Fq.any, Fq.any, Fq.any]) (ks := [none, none]) (new := [⟨2, 4, 4, Fq.pair 0 0, Fq.pair a.num (a.den : Int), none⟩, ⟨3, 5, 4, Fq.pair 0 0, Fq.pair a.num (a.den : Int), none⟩]) E rfl (by kernel_rfl) rfl rfl (fun hp => ⟨?_, ?_, ?_, ?_, ?_, ?_, trivial⟩) ?_
  · exact q_loadRat hp (free_of rfl) trivial (List.mem_iff_getElem?.2 ⟨1, rfl⟩) (.inl rfl) rfl (sq_out rfl rfl (fun _ _ => rfl)) (fun us w hl h => h)
  · exact q_loadRat hp (free_of rfl) trivial (List.mem_iff_getElem?.2 ⟨1, rfl⟩) (.inl rfl) rfl (sq_out rfl rfl (fun _ _ => rfl)) (fun us w hl h => h)
  · exact q_allocRat hp (List.mem_iff_getElem?.2 ⟨0, rfl⟩) rfl rfl rfl rfl (Nat.ne_of_beq_eq_false rfl) (fun _ _ => trivial) (old_ne rfl) (newk_ne rfl) (fun w => Pair.zero w)
  · exact q_allocRat hp (List.mem_iff_getElem?.2 ⟨1, rfl⟩) rfl rfl rfl rfl (Nat.ne_of_beq_eq_false rfl) (fun _ _ => trivial) (old_ne rfl) (newk_ne rfl) (fun w => Pair.zero w)
  · exact q_storeNewRat hp (List.mem_iff_getElem?.2 ⟨0, rfl⟩) rfl rfl rfl (own_ptr rfl rfl (by simp) rfl) (sq_in 0 rfl rfl (by simp) rfl (fun v w h => ratV_pair h)) (fun _ _ => trivial) (old_ne rfl) (newi_ne rfl)
  · exact q_storeNewRat hp (List.mem_iff_getElem?.2 ⟨1, rfl⟩) rfl rfl rfl (own_ptr rfl rfl (by simp) rfl) (sq_in 1 rfl rfl (by simp) rfl (fun v w h => ratV_pair h)) (fun _ _ => trivial) (old_ne rfl) (newi_ne rfl)
  intro L vs w3 nb hL hC hn E3
  have e2 : vs 2 = .pointer (some ⟨nb 2, 0, none⟩) := hn _ (List.mem_iff_getElem?.2 ⟨0, rfl⟩)
  have e3 : vs 3 = .pointer (some ⟨nb 3, 0, none⟩) := hn _ (List.mem_iff_getElem?.2 ⟨1, rfl⟩)
  have E : Fr w [(nb 2, 4, Fq.pair a.num (a.den : Int)), (nb 3, 4, Fq.pair a.num (a.den : Int)), (b2, 8, Fq.ivl 0 0 0 0), (b1, 4, Fq.pair a.num (a.den : Int))] w3 := E3
  rw [lay_all hL]
  simp only [putAll, dstOf, List.length_cons, List.length_nil, Nat.zero_add, Nat.reduceAdd, List.getElem?_toArray, List.getElem?_cons_zero, List.getElem?_cons_succ, Option.bind_some, Act.put, List.setIfInBounds_toArray, List.set_cons_succ, List.set_cons_zero]
  rw [e2, e3]
  generalize nb 2 = b3_2 at E ⊢
  generalize nb 3 = b3_3 at E ⊢
  generalize vs 0 = u3_0
  generalize vs 1 = u3_1
  clear e2 e3 hC hn E3 hL vs L nb
  go_upto_region 2 with (fail)
  refine region_fr (C := [Fq.is (.slice (some ⟨b, 0, none⟩) l l), Fq.is (.int .i64 ((l : Nat) : Int)), Fq.is (.int .i64 0)]) (ks := [none, none, none, none]) (new := []) E rfl (by kernel_rfl) rfl rfl (fun hp => ⟨?_, ?_, ?_, trivial⟩) ?_
  · exact q_move hp (free_of rfl) trivial (sq_out rfl rfl (fun _ _ => rfl))
  · exact q_lenR hp (free_of rfl) trivial (sq_in 0 rfl rfl (by simp) rfl (fun v w h => h)) (fun _ => rfl)
  · exact q_move hp (free_of rfl) trivial (sq_const (fun _ => rfl))
  intro L vs w4 nb hL hC hn E4
  have e0 : vs 0 = .slice (some ⟨b, 0, none⟩) l l := hC 0 (by simp)
  have e1 : vs 1 = .int .i64 ((l : Nat) : Int) := hC 1 (by simp)
  have e2 : vs 2 = .int .i64 0 := hC 2 (by simp)
  have E : Fr w [(b3_2, 4, Fq.pair a.num (a.den : Int)), (b3_3, 4, Fq.pair a.num (a.den : Int)), (b2, 8, Fq.ivl 0 0 0 0), (b1, 4, Fq.pair a.num (a.den : Int))] w4 := E4
  rw [lay_all hL]
  simp only [putAll, dstOf, List.length_cons, List.length_nil, Nat.zero_add, Nat.reduceAdd, List.getElem?_toArray, List.getElem?_cons_zero, List.getElem?_cons_succ, Option.bind_some, Act.put, List.setIfInBounds_toArray, List.set_cons_succ, List.set_cons_zero]
  rw [e0, e1, e2]
  clear e0 e1 e2 hC hn E4 hL vs L nb
  have HS := hidd E
  go_upto_region 3 with (fail)
  go_loopw [13] (fun vi W => ∃ j : Nat, j ≤ r.length ∧ vi = .int .i64 (j : Int) ∧ Fr w [(b3_2, 4, Fq.pair (leastQ a (r.take j)).num ((leastQ a (r.take j)).den : Int)), (b3_3, 4, Fq.pair (greatQ a (r.take j)).num ((greatQ a (r.take j)).den : Int)), (b2, 8, Fq.ivl 0 0 0 0), (b1, 4, Fq.pair a.num (a.den : Int))] W) (fun vi _ => l - (intOf vi).toNat)
  case atStart => exact ⟨0, Nat.zero_le _, rfl, HS.out⟩
  case round =>
    obtain ⟨j, hj, rfl, E⟩ := hrel
    clear HS
    obtain ⟨m, hm⟩ : ∃ m, m = leastQ a (r.take j) := ⟨_, rfl⟩
    rw [← hm] at E
    have Bm : Hid (Rb m 300) := by rw [hm]; exact rb_least ha.out (fun q hq => HR.out q (List.mem_of_mem_take hq))
    have Hm := hidd hm
    clear hm
    obtain ⟨n, hn⟩ : ∃ n, n = greatQ a (r.take j) := ⟨_, rfl⟩
    rw [← hn] at E
    have Bn : Hid (Rb n 300) := by rw [hn]; exact rb_great ha.out (fun q hq => HR.out q (List.mem_of_mem_take hq))
    have Hn := hidd hn
    clear hn
    by_cases hjl : j < r.length
    · obtain ⟨q, hq1, hq2, hq3⟩ := at_map hjl
      have Bq : Hid (Rb q 300) := HR.out q hq3
      have TL : Hid ((j : Int) < ((l : Nat) : Int)) := by have := HE.out; show _ < _; omega
      have HJ := hidd hjl
      have hw : wrap64 ((j : Int) + 1) = (j : Int) + 1 := by have := HL.out; have := HE.out; simp only [wrap64]; omega
      have HQ1 := hidd hq1
      have HQ2 := hidd hq2
      clear hq1 hq2 hq3 hjl hj
      go_upto_region 3 with (fail)
      refine region_fr (C := [Fq.is (.bool true)]) (ks := [none, none, none, none]) (new := []) E rfl (by kernel_rfl) rfl rfl (fun hp => ⟨?_, trivial⟩) ?_
      · exact q_two (F := fun v _ => v = .int .i64 ((j : Nat) : Int)) (G := fun v _ => v = .int .i64 ((l : Nat) : Int)) hp (free_of rfl) trivial (sq_out (s := 13) rfl rfl (fun _ _ => rfl)) (sq_out (s := 12) rfl rfl (fun _ _ => rfl)) (fun ρ w hc h h' => ⟨.bool true, by simp [execOp, go_sem, h, h', TL.out], rfl⟩)
      intro L vs w5 nb hL hC hn E5
      have e0 : vs 0 = .bool true := hC 0 (by simp)
      have E : Fr w [(b3_2, 4, Fq.pair m.num (m.den : Int)), (b3_3, 4, Fq.pair n.num (n.den : Int)), (b2, 8, Fq.ivl 0 0 0 0), (b1, 4, Fq.pair a.num (a.den : Int))] w5 := E5
      rw [lay_all hL]
      simp only [putAll, dstOf, List.length_cons, List.length_nil, Nat.zero_add, List.getElem?_toArray, List.getElem?_cons_zero, Option.bind_some, Act.put, List.setIfInBounds_toArray, List.set_cons_succ, List.set_cons_zero]
      rw [e0]
      clear e0 hC hn E5 hL vs L nb
      clear TL
      go_upto_region 4 with (fail)
      refine region_fr (C := [Fq.is (.pointer (some ⟨b, j * 4, none⟩)), Fq.pair q.num (q.den : Int), Fq.any, Fq.any]) (ks := [none, none, none, none]) (new := [⟨2, 3, 4, Fq.pair 0 0, Fq.pair q.num (q.den : Int), none⟩]) E rfl (by kernel_rfl) rfl rfl (fun hp => ⟨?_, ?_, ?_, ?_, trivial⟩) ?_
      · exact q_index (b := b) (l := l) (k := j) hp (free_of rfl) trivial (sq_out rfl rfl (fun _ _ => rfl)) (sq_out rfl rfl (fun _ _ => rfl)) (by have := HE.out; have := HJ.out; omega) (fun _ => rfl)
      · exact q_loadRatOut (off := j * 4) hp (free_of rfl) trivial HB.out rfl (by have := HE.out; have := HJ.out; omega) (sq_in 0 rfl rfl (by simp) rfl (fun v w h => h)) (fun us w hl h => ld_rats (qs := r.map prQ) (k := j) HQ2.out h)
      · exact q_allocRat hp (List.mem_iff_getElem?.2 ⟨0, rfl⟩) rfl rfl rfl rfl (Nat.ne_of_beq_eq_false rfl) (fun _ _ => trivial) (old_ne rfl) (newk_ne rfl) (fun w => Pair.zero w)
      · exact q_storeNewRat hp (List.mem_iff_getElem?.2 ⟨0, rfl⟩) rfl rfl rfl (own_ptr rfl rfl (by simp) rfl) (sq_in 1 rfl rfl (by simp) rfl (fun v w h => ratV_pair h)) (fun _ _ => trivial) (old_ne rfl) (newi_ne rfl)
      intro L vs w6 nb hL hC hn E6
      have e0 : vs 0 = .pointer (some ⟨b, j * 4, none⟩) := hC 0 (by simp)
      have e2 : vs 2 = .pointer (some ⟨nb 2, 0, none⟩) := hn _ (List.mem_iff_getElem?.2 ⟨0, rfl⟩)
      have E : Fr w [(nb 2, 4, Fq.pair q.num (q.den : Int)), (b3_2, 4, Fq.pair m.num (m.den : Int)), (b3_3, 4, Fq.pair n.num (n.den : Int)), (b2, 8, Fq.ivl 0 0 0 0), (b1, 4, Fq.pair a.num (a.den : Int))] w6 := E6
      rw [lay_all hL]
      simp only [putAll, dstOf, List.length_cons, List.length_nil, Nat.zero_add, Nat.reduceAdd, List.getElem?_toArray, List.getElem?_cons_zero, List.getElem?_cons_succ, Option.bind_some, Act.put, List.setIfInBounds_toArray, List.set_cons_succ, List.set_cons_zero]
      rw [e0, e2]
      generalize nb 2 = b6_2 at E ⊢
      generalize vs 1 = u6_1
      clear e0 e2 hC hn E6 hL vs L nb
      have el : Hid (leastQ a (r.take (j + 1)) = if q < m then q else m) := by show _ = _; rw [take_snoc HQ1.out, least_snoc, ← Hm.out]
      have eg : Hid (greatQ a (r.take (j + 1)) = if n < q then q else n) := by show _ = _; rw [take_snoc HQ1.out, great_snoc, ← Hn.out]
      by_cases hlt : q < m
      · have TC := hidd (cmpQ_lt.2 hlt)
        have e1 : Hid (leastQ a (r.take (j + 1)) = q) := by show _ = _; rw [el.out, if_pos hlt]
        clear hlt
        go_upto_region 5 with (fail)
        refine region_fr (C := [Fq.pair q.num (q.den : Int), Fq.pair m.num (m.den : Int), Fq.is (.int .i64 (cmpQ q m)), Fq.is (.bool true)]) (ks := [none, none, none, none, none]) (new := []) E rfl (by kernel_rfl) rfl rfl (fun hp => ⟨?_, ?_, ?_, ?_, trivial⟩) ?_
        · exact q_loadRat hp (free_of rfl) trivial (List.mem_iff_getElem?.2 ⟨0, rfl⟩) (.inl rfl) rfl (sq_out rfl rfl (fun _ _ => rfl)) (fun us w hl h => h)
        · exact q_loadRat hp (free_of rfl) trivial (List.mem_iff_getElem?.2 ⟨1, rfl⟩) (.inl rfl) rfl (sq_out rfl rfl (fun _ _ => rfl)) (fun us w hl h => h)
        · exact q_call2 (F := (Fq.pair q.num (q.den : Int)).P) (G := (Fq.pair m.num (m.den : Int)).P) hp (free_of rfl) trivial (enq_Q_Cmp) (sq_in 0 rfl rfl (by simp) rfl (fun v w h => h)) (sq_in 1 rfl rfl (by simp) rfl (fun v w h => h)) (fun v v' w h h' => exCmpQ h h' (rb_le Bq.out (by omega)) (rb_le Bm.out (by omega)))
        · exact q_one (F := fun v _ => v = .int .i64 (cmpQ q m)) hp (free_of rfl) trivial (sq_in 2 rfl rfl (by simp) rfl (fun v w h => h)) (fun ρ w hc h => ⟨.bool true, by simp [execOp, go_sem, h, hc, TC.out], rfl⟩)
        intro L vs w7 nb hL hC hn E7
        have e2 : vs 2 = .int .i64 (cmpQ q m) := hC 2 (by simp)
        have e3 : vs 3 = .bool true := hC 3 (by simp)
        have E : Fr w [(b6_2, 4, Fq.pair q.num (q.den : Int)), (b3_2, 4, Fq.pair m.num (m.den : Int)), (b3_3, 4, Fq.pair n.num (n.den : Int)), (b2, 8, Fq.ivl 0 0 0 0), (b1, 4, Fq.pair a.num (a.den : Int))] w7 := E7
        rw [lay_all hL]
        simp only [putAll, dstOf, List.length_cons, List.length_nil, Nat.zero_add, Nat.reduceAdd, List.getElem?_toArray, List.getElem?_cons_zero, List.getElem?_cons_succ, Option.bind_some, Act.put, List.setIfInBounds_toArray, List.set_cons_succ, List.set_cons_zero]
        rw [e2, e3]
        generalize vs 0 = u7_0
        generalize vs 1 = u7_1
        clear e2 e3 hC hn E7 hL vs L nb
        clear TC
        go_upto_region 6 with (fail)
        refine region_fr (C := [Fq.pair q.num (q.den : Int), Fq.any]) (ks := [none, some (1, Fq.pair q.num (q.den : Int)), none, none, none]) (new := []) E rfl (by kernel_rfl) rfl rfl (fun hp => ⟨?_, ?_, trivial⟩) ?_
        · exact q_loadRat hp (free_of rfl) trivial (List.mem_iff_getElem?.2 ⟨0, rfl⟩) (.inl rfl) rfl (sq_out rfl rfl (fun _ _ => rfl)) (fun us w hl h => h)
        · exact q_storeOldRat hp (List.mem_iff_getElem?.2 ⟨1, rfl⟩) rfl rfl (sq_out rfl rfl (fun _ _ => rfl)) (sq_in 0 rfl rfl (by simp) rfl (fun v w h => ratV_pair h)) (fun _ _ => trivial) (newik_ne rfl)
        intro L vs w8 nb hL hC hn E8
        have E : Fr w [(b6_2, 4, Fq.pair q.num (q.den : Int)), (b3_2, 4, Fq.pair q.num (q.den : Int)), (b3_3, 4, Fq.pair n.num (n.den : Int)), (b2, 8, Fq.ivl 0 0 0 0), (b1, 4, Fq.pair a.num (a.den : Int))] w8 := E8
        rw [lay_all hL]
        simp only [putAll, dstOf, List.length_cons, List.length_nil, Nat.zero_add, Nat.reduceAdd, List.getElem?_toArray, List.getElem?_cons_zero, List.getElem?_cons_succ, Option.bind_some, Act.put, List.setIfInBounds_toArray, List.set_cons_succ, List.set_cons_zero]
        generalize vs 0 = u8_0
        clear  hC hn E8 hL vs L nb
        by_cases hgt : n < q
        · have TC := hidd (cmpQ_gt.2 hgt)
          have e2 : Hid (greatQ a (r.take (j + 1)) = q) := by show _ = _; rw [eg.out, if_pos hgt]
          clear hgt
          go_upto_region 7 with (fail)
          refine region_fr (C := [Fq.pair q.num (q.den : Int), Fq.pair n.num (n.den : Int), Fq.is (.int .i64 (cmpQ q n)), Fq.is (.bool true)]) (ks := [none, none, none, none, none]) (new := []) E rfl (by kernel_rfl) rfl rfl (fun hp => ⟨?_, ?_, ?_, ?_, trivial⟩) ?_
          · exact q_loadRat hp (free_of rfl) trivial (List.mem_iff_getElem?.2 ⟨0, rfl⟩) (.inl rfl) rfl (sq_out rfl rfl (fun _ _ => rfl)) (fun us w hl h => h)
          · exact q_loadRat hp (free_of rfl) trivial (List.mem_iff_getElem?.2 ⟨2, rfl⟩) (.inl rfl) rfl (sq_out rfl rfl (fun _ _ => rfl)) (fun us w hl h => h)
          · exact q_call2 (F := (Fq.pair q.num (q.den : Int)).P) (G := (Fq.pair n.num (n.den : Int)).P) hp (free_of rfl) trivial (enq_Q_Cmp) (sq_in 0 rfl rfl (by simp) rfl (fun v w h => h)) (sq_in 1 rfl rfl (by simp) rfl (fun v w h => h)) (fun v v' w h h' => exCmpQ h h' (rb_le Bq.out (by omega)) (rb_le Bn.out (by omega)))
          · exact q_one (F := fun v _ => v = .int .i64 (cmpQ q n)) hp (free_of rfl) trivial (sq_in 2 rfl rfl (by simp) rfl (fun v w h => h)) (fun ρ w hc h => ⟨.bool true, by simp [execOp, go_sem, h, hc, TC.out], rfl⟩)
          intro L vs w9 nb hL hC hn E9
          have e2 : vs 2 = .int .i64 (cmpQ q n) := hC 2 (by simp)
          have e3 : vs 3 = .bool true := hC 3 (by simp)
          have E : Fr w [(b6_2, 4, Fq.pair q.num (q.den : Int)), (b3_2, 4, Fq.pair q.num (q.den : Int)), (b3_3, 4, Fq.pair n.num (n.den : Int)), (b2, 8, Fq.ivl 0 0 0 0), (b1, 4, Fq.pair a.num (a.den : Int))] w9 := E9
          rw [lay_all hL]
          simp only [putAll, dstOf, List.length_cons, List.length_nil, Nat.zero_add, Nat.reduceAdd, List.getElem?_toArray, List.getElem?_cons_zero, List.getElem?_cons_succ, Option.bind_some, Act.put, List.setIfInBounds_toArray, List.set_cons_succ, List.set_cons_zero]
          rw [e2, e3]
          generalize vs 0 = u9_0
          generalize vs 1 = u9_1
          clear e2 e3 hC hn E9 hL vs L nb
          clear TC
          go_upto_region 8 with (fail)
          refine region_fr (C := [Fq.pair q.num (q.den : Int), Fq.any]) (ks := [none, none, some (1, Fq.pair q.num (q.den : Int)), none, none]) (new := []) E rfl (by kernel_rfl) rfl rfl (fun hp => ⟨?_, ?_, trivial⟩) ?_
          · exact q_loadRat hp (free_of rfl) trivial (List.mem_iff_getElem?.2 ⟨0, rfl⟩) (.inl rfl) rfl (sq_out rfl rfl (fun _ _ => rfl)) (fun us w hl h => h)
          · exact q_storeOldRat hp (List.mem_iff_getElem?.2 ⟨2, rfl⟩) rfl rfl (sq_out rfl rfl (fun _ _ => rfl)) (sq_in 0 rfl rfl (by simp) rfl (fun v w h => ratV_pair h)) (fun _ _ => trivial) (newik_ne rfl)
          intro L vs w10 nb hL hC hn E10
          have E : Fr w [(b6_2, 4, Fq.pair q.num (q.den : Int)), (b3_2, 4, Fq.pair q.num (q.den : Int)), (b3_3, 4, Fq.pair q.num (q.den : Int)), (b2, 8, Fq.ivl 0 0 0 0), (b1, 4, Fq.pair a.num (a.den : Int))] w10 := E10
          rw [lay_all hL]
          simp only [putAll, dstOf, List.length_cons, List.length_nil, Nat.zero_add, Nat.reduceAdd, List.getElem?_toArray, List.getElem?_cons_zero, List.getElem?_cons_succ, Option.bind_some, Act.put, List.setIfInBounds_toArray, List.set_cons_succ, List.set_cons_zero]
          generalize vs 0 = u10_0
          clear  hC hn E10 hL vs L nb
          go_wp2
          go_roundw
          case rel => exact ⟨j + 1, by have := HJ.out; omega, by first | go_num | (rw [hw]; go_num), by rw [e1.out, e2.out]; exact E.drop⟩
          case measure => first | exact measI (by have := HE.out; have := HJ.out; omega) | (rw [hw]; exact measI (by have := HE.out; have := HJ.out; omega))
        · have TC := hidd (mt cmpQ_gt.1 hgt)
          have e2 : Hid (greatQ a (r.take (j + 1)) = n) := by show _ = _; rw [eg.out, if_neg hgt]
          clear hgt
          go_upto_region 7 with (fail)
          refine region_fr (C := [Fq.pair q.num (q.den : Int), Fq.pair n.num (n.den : Int), Fq.is (.int .i64 (cmpQ q n)), Fq.is (.bool false)]) (ks := [none, none, none, none, none]) (new := []) E rfl (by kernel_rfl) rfl rfl (fun hp => ⟨?_, ?_, ?_, ?_, trivial⟩) ?_
          · exact q_loadRat hp (free_of rfl) trivial (List.mem_iff_getElem?.2 ⟨0, rfl⟩) (.inl rfl) rfl (sq_out rfl rfl (fun _ _ => rfl)) (fun us w hl h => h)
          · exact q_loadRat hp (free_of rfl) trivial (List.mem_iff_getElem?.2 ⟨2, rfl⟩) (.inl rfl) rfl (sq_out rfl rfl (fun _ _ => rfl)) (fun us w hl h => h)
          · exact q_call2 (F := (Fq.pair q.num (q.den : Int)).P) (G := (Fq.pair n.num (n.den : Int)).P) hp (free_of rfl) trivial (enq_Q_Cmp) (sq_in 0 rfl rfl (by simp) rfl (fun v w h => h)) (sq_in 1 rfl rfl (by simp) rfl (fun v w h => h)) (fun v v' w h h' => exCmpQ h h' (rb_le Bq.out (by omega)) (rb_le Bn.out (by omega)))
          · exact q_one (F := fun v _ => v = .int .i64 (cmpQ q n)) hp (free_of rfl) trivial (sq_in 2 rfl rfl (by simp) rfl (fun v w h => h)) (fun ρ w hc h => ⟨.bool false, by simp [execOp, go_sem, h, hc, TC.out], rfl⟩)
          intro L vs w11 nb hL hC hn E11
          have e2 : vs 2 = .int .i64 (cmpQ q n) := hC 2 (by simp)
          have e3 : vs 3 = .bool false := hC 3 (by simp)
          have E : Fr w [(b6_2, 4, Fq.pair q.num (q.den : Int)), (b3_2, 4, Fq.pair q.num (q.den : Int)), (b3_3, 4, Fq.pair n.num (n.den : Int)), (b2, 8, Fq.ivl 0 0 0 0), (b1, 4, Fq.pair a.num (a.den : Int))] w11 := E11
          rw [lay_all hL]
          simp only [putAll, dstOf, List.length_cons, List.length_nil, Nat.zero_add, Nat.reduceAdd, List.getElem?_toArray, List.getElem?_cons_zero, List.getElem?_cons_succ, Option.bind_some, Act.put, List.setIfInBounds_toArray, List.set_cons_succ, List.set_cons_zero]
          rw [e2, e3]
          generalize vs 0 = u11_0
          generalize vs 1 = u11_1
          clear e2 e3 hC hn E11 hL vs L nb
          clear TC
          go_wp2
          go_roundw
          case rel => exact ⟨j + 1, by have := HJ.out; omega, by first | go_num | (rw [hw]; go_num), by rw [e1.out, e2.out]; exact E.drop⟩
          case measure => first | exact measI (by have := HE.out; have := HJ.out; omega) | (rw [hw]; exact measI (by have := HE.out; have := HJ.out; omega))
      · have TC := hidd (mt cmpQ_lt.1 hlt)
        have e1 : Hid (leastQ a (r.take (j + 1)) = m) := by show _ = _; rw [el.out, if_neg hlt]
        clear hlt
        go_upto_region 5 with (fail)
        refine region_fr (C := [Fq.pair q.num (q.den : Int), Fq.pair m.num (m.den : Int), Fq.is (.int .i64 (cmpQ q m)), Fq.is (.bool false)]) (ks := [none, none, none, none, none]) (new := []) E rfl (by kernel_rfl) rfl rfl (fun hp => ⟨?_, ?_, ?_, ?_, trivial⟩) ?_
        · exact q_loadRat hp (free_of rfl) trivial (List.mem_iff_getElem?.2 ⟨0, rfl⟩) (.inl rfl) rfl (sq_out rfl rfl (fun _ _ => rfl)) (fun us w hl h => h)
        · exact q_loadRat hp (free_of rfl) trivial (List.mem_iff_getElem?.2 ⟨1, rfl⟩) (.inl rfl) rfl (sq_out rfl rfl (fun _ _ => rfl)) (fun us w hl h => h)
        · exact q_call2 (F := (Fq.pair q.num (q.den : Int)).P) (G := (Fq.pair m.num (m.den : Int)).P) hp (free_of rfl) trivial (enq_Q_Cmp) (sq_in 0 rfl rfl (by simp) rfl (fun v w h => h)) (sq_in 1 rfl rfl (by simp) rfl (fun v w h => h)) (fun v v' w h h' => exCmpQ h h' (rb_le Bq.out (by omega)) (rb_le Bm.out (by omega)))
        · exact q_one (F := fun v _ => v = .int .i64 (cmpQ q m)) hp (free_of rfl) trivial (sq_in 2 rfl rfl (by simp) rfl (fun v w h => h)) (fun ρ w hc h => ⟨.bool false, by simp [execOp, go_sem, h, hc, TC.out], rfl⟩)
        intro L vs w12 nb hL hC hn E12
        have e2 : vs 2 = .int .i64 (cmpQ q m) := hC 2 (by simp)
        have e3 : vs 3 = .bool false := hC 3 (by simp)
        have E : Fr w [(b6_2, 4, Fq.pair q.num (q.den : Int)), (b3_2, 4, Fq.pair m.num (m.den : Int)), (b3_3, 4, Fq.pair n.num (n.den : Int)), (b2, 8, Fq.ivl 0 0 0 0), (b1, 4, Fq.pair a.num (a.den : Int))] w12 := E12
        rw [lay_all hL]
        simp only [putAll, dstOf, List.length_cons, List.length_nil, Nat.zero_add, Nat.reduceAdd, List.getElem?_toArray, List.getElem?_cons_zero, List.getElem?_cons_succ, Option.bind_some, Act.put, List.setIfInBounds_toArray, List.set_cons_succ, List.set_cons_zero]
        rw [e2, e3]
        generalize vs 0 = u12_0
        generalize vs 1 = u12_1
        clear e2 e3 hC hn E12 hL vs L nb
        clear TC
        by_cases hgt : n < q
        · have TC := hidd (cmpQ_gt.2 hgt)
          have e2 : Hid (greatQ a (r.take (j + 1)) = q) := by show _ = _; rw [eg.out, if_pos hgt]
          clear hgt
          go_upto_region 7 with (fail)
          refine region_fr (C := [Fq.pair q.num (q.den : Int), Fq.pair n.num (n.den : Int), Fq.is (.int .i64 (cmpQ q n)), Fq.is (.bool true)]) (ks := [none, none, none, none, none]) (new := []) E rfl (by kernel_rfl) rfl rfl (fun hp => ⟨?_, ?_, ?_, ?_, trivial⟩) ?_
          · exact q_loadRat hp (free_of rfl) trivial (List.mem_iff_getElem?.2 ⟨0, rfl⟩) (.inl rfl) rfl (sq_out rfl rfl (fun _ _ => rfl)) (fun us w hl h => h)
          · exact q_loadRat hp (free_of rfl) trivial (List.mem_iff_getElem?.2 ⟨2, rfl⟩) (.inl rfl) rfl (sq_out rfl rfl (fun _ _ => rfl)) (fun us w hl h => h)
          · exact q_call2 (F := (Fq.pair q.num (q.den : Int)).P) (G := (Fq.pair n.num (n.den : Int)).P) hp (free_of rfl) trivial (enq_Q_Cmp) (sq_in 0 rfl rfl (by simp) rfl (fun v w h => h)) (sq_in 1 rfl rfl (by simp) rfl (fun v w h => h)) (fun v v' w h h' => exCmpQ h h' (rb_le Bq.out (by omega)) (rb_le Bn.out (by omega)))
          · exact q_one (F := fun v _ => v = .int .i64 (cmpQ q n)) hp (free_of rfl) trivial (sq_in 2 rfl rfl (by simp) rfl (fun v w h => h)) (fun ρ w hc h => ⟨.bool true, by simp [execOp, go_sem, h, hc, TC.out], rfl⟩)
          intro L vs w13 nb hL hC hn E13
          have e2 : vs 2 = .int .i64 (cmpQ q n) := hC 2 (by simp)
          have e3 : vs 3 = .bool true := hC 3 (by simp)
          have E : Fr w [(b6_2, 4, Fq.pair q.num (q.den : Int)), (b3_2, 4, Fq.pair m.num (m.den : Int)), (b3_3, 4, Fq.pair n.num (n.den : Int)), (b2, 8, Fq.ivl 0 0 0 0), (b1, 4, Fq.pair a.num (a.den : Int))] w13 := E13
          rw [lay_all hL]
          simp only [putAll, dstOf, List.length_cons, List.length_nil, Nat.zero_add, Nat.reduceAdd, List.getElem?_toArray, List.getElem?_cons_zero, List.getElem?_cons_succ, Option.bind_some, Act.put, List.setIfInBounds_toArray, List.set_cons_succ, List.set_cons_zero]
          rw [e2, e3]
          generalize vs 0 = u13_0
          generalize vs 1 = u13_1
          clear e2 e3 hC hn E13 hL vs L nb
          clear TC
          go_upto_region 8 with (fail)
          refine region_fr (C := [Fq.pair q.num (q.den : Int), Fq.any]) (ks := [none, none, some (1, Fq.pair q.num (q.den : Int)), none, none]) (new := []) E rfl (by kernel_rfl) rfl rfl (fun hp => ⟨?_, ?_, trivial⟩) ?_
          · exact q_loadRat hp (free_of rfl) trivial (List.mem_iff_getElem?.2 ⟨0, rfl⟩) (.inl rfl) rfl (sq_out rfl rfl (fun _ _ => rfl)) (fun us w hl h => h)
          · exact q_storeOldRat hp (List.mem_iff_getElem?.2 ⟨2, rfl⟩) rfl rfl (sq_out rfl rfl (fun _ _ => rfl)) (sq_in 0 rfl rfl (by simp) rfl (fun v w h => ratV_pair h)) (fun _ _ => trivial) (newik_ne rfl)
          intro L vs w14 nb hL hC hn E14
          have E : Fr w [(b6_2, 4, Fq.pair q.num (q.den : Int)), (b3_2, 4, Fq.pair m.num (m.den : Int)), (b3_3, 4, Fq.pair q.num (q.den : Int)), (b2, 8, Fq.ivl 0 0 0 0), (b1, 4, Fq.pair a.num (a.den : Int))] w14 := E14
          rw [lay_all hL]
          simp only [putAll, dstOf, List.length_cons, List.length_nil, Nat.zero_add, Nat.reduceAdd, List.getElem?_toArray, List.getElem?_cons_zero, List.getElem?_cons_succ, Option.bind_some, Act.put, List.setIfInBounds_toArray, List.set_cons_succ, List.set_cons_zero]
          generalize vs 0 = u14_0
          clear  hC hn E14 hL vs L nb
          go_wp2
          go_roundw
          case rel => exact ⟨j + 1, by have := HJ.out; omega, by first | go_num | (rw [hw]; go_num), by rw [e1.out, e2.out]; exact E.drop⟩
          case measure => first | exact measI (by have := HE.out; have := HJ.out; omega) | (rw [hw]; exact measI (by have := HE.out; have := HJ.out; omega))
        · have TC := hidd (mt cmpQ_gt.1 hgt)
          have e2 : Hid (greatQ a (r.take (j + 1)) = n) := by show _ = _; rw [eg.out, if_neg hgt]
          clear hgt
          go_upto_region 7 with (fail)
          refine region_fr (C := [Fq.pair q.num (q.den : Int), Fq.pair n.num (n.den : Int), Fq.is (.int .i64 (cmpQ q n)), Fq.is (.bool false)]) (ks := [none, none, none, none, none]) (new := []) E rfl (by kernel_rfl) rfl rfl (fun hp => ⟨?_, ?_, ?_, ?_, trivial⟩) ?_
          · exact q_loadRat hp (free_of rfl) trivial (List.mem_iff_getElem?.2 ⟨0, rfl⟩) (.inl rfl) rfl (sq_out rfl rfl (fun _ _ => rfl)) (fun us w hl h => h)
          · exact q_loadRat hp (free_of rfl) trivial (List.mem_iff_getElem?.2 ⟨2, rfl⟩) (.inl rfl) rfl (sq_out rfl rfl (fun _ _ => rfl)) (fun us w hl h => h)
          · exact q_call2 (F := (Fq.pair q.num (q.den : Int)).P) (G := (Fq.pair n.num (n.den : Int)).P) hp (free_of rfl) trivial (enq_Q_Cmp) (sq_in 0 rfl rfl (by simp) rfl (fun v w h => h)) (sq_in 1 rfl rfl (by simp) rfl (fun v w h => h)) (fun v v' w h h' => exCmpQ h h' (rb_le Bq.out (by omega)) (rb_le Bn.out (by omega)))
          · exact q_one (F := fun v _ => v = .int .i64 (cmpQ q n)) hp (free_of rfl) trivial (sq_in 2 rfl rfl (by simp) rfl (fun v w h => h)) (fun ρ w hc h => ⟨.bool false, by simp [execOp, go_sem, h, hc, TC.out], rfl⟩)
          intro L vs w15 nb hL hC hn E15
          have e2 : vs 2 = .int .i64 (cmpQ q n) := hC 2 (by simp)
          have e3 : vs 3 = .bool false := hC 3 (by simp)
          have E : Fr w [(b6_2, 4, Fq.pair q.num (q.den : Int)), (b3_2, 4, Fq.pair m.num (m.den : Int)), (b3_3, 4, Fq.pair n.num (n.den : Int)), (b2, 8, Fq.ivl 0 0 0 0), (b1, 4, Fq.pair a.num (a.den : Int))] w15 := E15
          rw [lay_all hL]
          simp only [putAll, dstOf, List.length_cons, List.length_nil, Nat.zero_add, Nat.reduceAdd, List.getElem?_toArray, List.getElem?_cons_zero, List.getElem?_cons_succ, Option.bind_some, Act.put, List.setIfInBounds_toArray, List.set_cons_succ, List.set_cons_zero]
          rw [e2, e3]
          generalize vs 0 = u15_0
          generalize vs 1 = u15_1
          clear e2 e3 hC hn E15 hL vs L nb
          clear TC
          go_wp2
          go_roundw
          case rel => exact ⟨j + 1, by have := HJ.out; omega, by first | go_num | (rw [hw]; go_num), by rw [e1.out, e2.out]; exact E.drop⟩
          case measure => first | exact measI (by have := HE.out; have := HJ.out; omega) | (rw [hw]; exact measI (by have := HE.out; have := HJ.out; omega))
    · have TL : Hid (¬ (j : Int) < ((l : Nat) : Int)) := by have := HE.out; show ¬ _; omega
      have e1 : Hid (leastQ a r = m) := by show _ = _; rw [Hm.out, List.take_of_length_le (by omega)]
      have e2 : Hid (greatQ a r = n) := by show _ = _; rw [Hn.out, List.take_of_length_le (by omega)]
      clear hjl hj
      go_upto_region 3 with (fail)
      refine region_fr (C := [Fq.is (.bool false)]) (ks := [none, none, none, none]) (new := []) E rfl (by kernel_rfl) rfl rfl (fun hp => ⟨?_, trivial⟩) ?_
      · exact q_two (F := fun v _ => v = .int .i64 ((j : Nat) : Int)) (G := fun v _ => v = .int .i64 ((l : Nat) : Int)) hp (free_of rfl) trivial (sq_out (s := 13) rfl rfl (fun _ _ => rfl)) (sq_out (s := 12) rfl rfl (fun _ _ => rfl)) (fun ρ w hc h h' => ⟨.bool false, by simp [execOp, go_sem, h, h', TL.out], rfl⟩)
      intro L vs w16 nb hL hC hn E16
      have e0 : vs 0 = .bool false := hC 0 (by simp)
      have E : Fr w [(b3_2, 4, Fq.pair m.num (m.den : Int)), (b3_3, 4, Fq.pair n.num (n.den : Int)), (b2, 8, Fq.ivl 0 0 0 0), (b1, 4, Fq.pair a.num (a.den : Int))] w16 := E16
      rw [lay_all hL]
      simp only [putAll, dstOf, List.length_cons, List.length_nil, Nat.zero_add, List.getElem?_toArray, List.getElem?_cons_zero, Option.bind_some, Act.put, List.setIfInBounds_toArray, List.set_cons_succ, List.set_cons_zero]
      rw [e0]
      clear e0 hC hn E16 hL vs L nb
      clear TL
      go_upto_region 10 with (fail)
      refine region_fr (C := [Fq.pair m.num (m.den : Int), Fq.pair m.num (m.den : Int), Fq.pair n.num (n.den : Int), Fq.pair n.num (n.den : Int), Fq.ivl m.num (m.den : Int) n.num (n.den : Int), Fq.any]) (ks := [none, none, some (5, Fq.ivl m.num (m.den : Int) n.num (n.den : Int)), none]) (new := []) E rfl (by kernel_rfl) rfl rfl (fun hp => ⟨?_, ?_, ?_, ?_, ?_, ?_, trivial⟩) ?_
      · exact q_loadRat hp (free_of rfl) trivial (List.mem_iff_getElem?.2 ⟨0, rfl⟩) (.inl rfl) rfl (sq_out rfl rfl (fun _ _ => rfl)) (fun us w hl h => h)
      · exact q_call1 (F := (Fq.pair m.num (m.den : Int)).P) hp (free_of rfl) trivial (enq_Q_copied) (sq_in 0 rfl rfl (by simp) rfl (fun v w h => h)) (fun v w h => exCopied h)
      · exact q_loadRat hp (free_of rfl) trivial (List.mem_iff_getElem?.2 ⟨1, rfl⟩) (.inl rfl) rfl (sq_out rfl rfl (fun _ _ => rfl)) (fun us w hl h => h)
      · exact q_call1 (F := (Fq.pair n.num (n.den : Int)).P) hp (free_of rfl) trivial (enq_Q_copied) (sq_in 2 rfl rfl (by simp) rfl (fun v w h => h)) (fun v w h => exCopied h)
      · exact q_buildIvl hp (free_of rfl) trivial (sq_in 1 rfl rfl (by simp) rfl (fun v w h => h)) (sq_in 3 rfl rfl (by simp) rfl (fun v w h => h)) (fun v w h => h)
      · exact q_storeOldIvl hp (List.mem_iff_getElem?.2 ⟨2, rfl⟩) rfl rfl (sq_out rfl rfl (fun _ _ => rfl)) (sq_in 4 rfl rfl (by simp) rfl (fun v w h => h.parts)) (fun _ _ => trivial) (newik_ne rfl)
      intro L vs w17 nb hL hC hn E17
      have E : Fr w [(b3_2, 4, Fq.pair m.num (m.den : Int)), (b3_3, 4, Fq.pair n.num (n.den : Int)), (b2, 8, Fq.ivl m.num (m.den : Int) n.num (n.den : Int)), (b1, 4, Fq.pair a.num (a.den : Int))] w17 := E17
      rw [lay_all hL]
      simp only [putAll, dstOf, List.length_cons, List.length_nil, Nat.zero_add, Nat.reduceAdd, List.getElem?_toArray, List.getElem?_cons_zero, List.getElem?_cons_succ, Option.bind_some, Act.put, List.setIfInBounds_toArray, List.set_cons_succ, List.set_cons_zero]
      generalize vs 0 = u17_0
      generalize vs 1 = u17_1
      generalize vs 2 = u17_2
      generalize vs 3 = u17_3
      generalize vs 4 = u17_4
      clear  hC hn E17 hL vs L nb
      clear HB HR HL HE Hm Hn Bm Bn
      obtain ⟨p0, p1, p2, p3, p4, p5, p6, p7, c0, c1, c2, c3, c4, c5, c6, c7, hP⟩ := box_ivl (E.box 2 rfl)
      clear ha
      go_wp2
      refine bodyPost_ret (v := .agg #[p0, p1, p2, p3, p4, p5, p6, p7]) ?_ rfl ⟨_, rfl, E.below, by rw [e1.out, e2.out]; exact hP⟩
      simp [results, Tryz.results73, go_sem, c0, c1, c2, c3, c4, c5, c6, c7]

end Go.Proofs.YtoimphnhmpmipaaGreat

/- Walks: intervals, in the code and in the reference. -/
namespace Go.Proofs.YtoimphnhmpmipaaGreat
open Go Go.RowKit

theorem Ivl.mono {w w' : World} {v : Value} {n1 d1 n2 d2 : Int} (h : Ivl w v n1 d1 n2 d2) (hb : Below w.heap.size w w') : Ivl w' v n1 d1 n2 d2 := (Fq.ivl n1 d1 n2 d2).mono h hb
theorem nilR {k : Nat} : ∀ q ∈ ([] : List Rat), Rb q k := fun _ h => by simp at h
theorem allR {x : Rat} {l : List Rat} {k : Nat} (h : Rb x k) (hl : ∀ q ∈ l, Rb q k) : ∀ q ∈ x :: l, Rb q k := fun q hq => by
  rcases List.mem_cons.1 hq with rfl | hq
  · exact h
  · exact hl q hq
theorem cmpQ_leN {a b : Rat} : cmpQ a b ≤ 0 ↔ a ≤ b := by
  constructor
  · intro h
    refine Rat.not_lt.1 fun h2 => ?_
    have := cmpQ_gt.2 h2
    omega
  · intro h
    rcases Int.lt_or_le 0 (cmpQ a b) with h2 | h2
    · exact absurd (cmpQ_gt.1 h2) (Rat.not_lt.2 h)
    · exact h2
theorem exSSameN {w : World} {v v' : Value} {a b : Rat} (h : Pair w v a.num a.den) (h' : Pair w v' b.num b.den) {t : Bool} (ht : decide (a = b) = t) : Calls Tryz.prog 13 #[v, v'] w fun e w' => ∃ v', e = .returned v' ∧ Below w.heap.size w w' ∧ v' = .bool t := by
  refine (exSSame h h').mono fun e w' ⟨v1, he, hb, hv⟩ => ⟨v1, he, hb, ?_⟩
  rw [hv, ← ht]
  congr 1
  by_cases hq : a = b
  · rw [decide_eq_true hq, decide_eq_true ⟨congrArg Rat.num hq, by rw [hq]⟩]
  · rw [decide_eq_false hq, decide_eq_false]
    rintro ⟨h1, h2⟩
    exact hq (Rat.ext h1 (by omega))

set_option maxRecDepth 100000 in
set_option maxHeartbeats 4000000 in
theorem exQIAdd {w : World} {v v' : Value} {a b c d : Rat} (h : Ivl w v a.num a.den b.num b.den) (h' : Ivl w v' c.num c.den d.num d.den) (ha : Rb a 100) (hb : Rb b 100) (hc : Rb c 100) (hd : Rb d 100) :
    Calls Tryz.prog 29 #[v, v'] w fun e w' => ∃ v', e = .returned v' ∧ Below w.heap.size w w' ∧ Ivl w' v' (a + c).num ((a + c).den : Int) (b + d).num ((b + d).den : Int) := by
  replace ha := hidd ha
  replace hb := hidd hb
  replace hc := hidd hc
  replace hd := hidd hd
  obtain ⟨n0_0, ao0_0, k0_0, c0_0, n0_1, ao0_1, k0_1, c0_1, n0_2, ao0_2, k0_2, c0_2, n0_3, ao0_3, k0_3, c0_3, rfl, _⟩ := h.parts
  obtain ⟨n1_0, ao1_0, k1_0, c1_0, n1_1, ao1_1, k1_1, c1_1, n1_2, ao1_2, k1_2, c1_2, n1_3, ao1_3, k1_3, c1_3, rfl, _⟩ := h'.parts
  obtain ⟨w1, b1, hw1, hb1, hs1, E⟩ := fr_start w (F := Fq.ivl a.num (a.den : Int) b.num (b.den : Int)) (us := [.bool n0_0, .slice ao0_0 k0_0 c0_0, .bool n0_1, .slice ao0_1 k0_1 c0_1, .bool n0_2, .slice ao0_2 k0_2 c0_2, .bool n0_3, .slice ao0_3 k0_3 c0_3]) 47 rfl (by simp) (tame_ivl _ _ _ _ _ _ _ _ _ _ _ _ _ _ _ _) h
  obtain ⟨w2, b2, hw2, hb2, hs2, E⟩ := fr_more E hs1 (F := Fq.ivl c.num (c.den : Int) d.num (d.den : Int)) (us := [.bool n1_0, .slice ao1_0 k1_0 c1_0, .bool n1_1, .slice ao1_1 k1_1 c1_1, .bool n1_2, .slice ao1_2 k1_2 c1_2, .bool n1_3, .slice ao1_3 k1_3 c1_3]) 47 rfl (by simp) (tame_ivl _ _ _ _ _ _ _ _ _ _ _ _ _ _ _ _) (h'.mono E.below)
  obtain ⟨w3, b3, hw3, hb3, hs3, E⟩ := fr_more E hs2 (F := Fq.ivl 0 0 0 0) (us := [.bool false, .slice none 0 0, .bool false, .slice none 0 0, .bool false, .slice none 0 0, .bool false, .slice none 0 0]) 47 rfl (by simp) (tame_ivl _ _ _ _ _ _ _ _ _ _ _ _ _ _ _ _) (Ivl.zero _)
  go_enter Tryz.func29, Tryz.ntmps29
  go_upto_region 1 with (fail)
  rw [← hw1]
  rw [← hw2]
  rw [← hw3]
  rw [← hb3]
  rw [← hb2]
  rw [← hb1]
  clear hw1 hw2 hw3 hb1 hb2 hb3 hs3 hs1 hs2
  have B4 : Hid (Rb (a + c) 201) := rb_le (rb_add ha.out hc.out) (by omega)
  have B5 : Hid (Rb (b + d) 201) := rb_le (rb_add hb.out hd.out) (by omega)
  refine region_fr (C := [Fq.is (.pointer (some ⟨b1, 0, none⟩)), Fq.pair a.num (a.den : Int), Fq.is (.pointer (some ⟨b2, 0, none⟩)), Fq.pair c.num (c.den : Int), Fq.pair (a + c).num ((a + c).den : Int), Fq.is (.pointer (some ⟨b1, 4, none⟩)), Fq.pair b.num (b.den : Int), Fq.is (.pointer (some ⟨b2, 4, none⟩)), Fq.pair d.num (d.den : Int), Fq.pair (b + d).num ((b + d).den : Int), Fq.ivl (a + c).num ((a + c).den : Int) (b + d).num ((b + d).den : Int), Fq.any]) (ks := [some (11, Fq.ivl (a + c).num ((a + c).den : Int) (b + d).num ((b + d).den : Int)), none, none]) (new := []) E rfl (by kernel_rfl) rfl rfl (fun hp => ⟨?_, ?_, ?_, ?_, ?_, ?_, ?_, ?_, ?_, ?_, ?_, ?_, trivial⟩) ?_
  · exact q_addr (b := b1) (off := 0) (off' := 0) hp (free_of rfl) trivial (sq_out rfl rfl (fun _ _ => rfl)) (fun ρ w h => by simp [execOp, go_sem, h]) (fun _ => rfl)
  · exact q_loadRatAt (off := 0) hp (free_of rfl) trivial (List.mem_iff_getElem?.2 ⟨2, rfl⟩) (.inl rfl) (Nat.le_of_ble_eq_true rfl) (sq_in 0 rfl rfl (by simp) rfl (fun v w h => h)) (fun us w hl h => ld_ivl0 hl h)
  · exact q_addr (b := b2) (off := 0) (off' := 0) hp (free_of rfl) trivial (sq_out rfl rfl (fun _ _ => rfl)) (fun ρ w h => by simp [execOp, go_sem, h]) (fun _ => rfl)
  · exact q_loadRatAt (off := 0) hp (free_of rfl) trivial (List.mem_iff_getElem?.2 ⟨1, rfl⟩) (.inl rfl) (Nat.le_of_ble_eq_true rfl) (sq_in 2 rfl rfl (by simp) rfl (fun v w h => h)) (fun us w hl h => ld_ivl0 hl h)
  · exact q_call2 (F := (Fq.pair a.num (a.den : Int)).P) (G := (Fq.pair c.num (c.den : Int)).P) hp (free_of rfl) trivial (enq_Q_Add) (sq_in 1 rfl rfl (by simp) rfl (fun v w h => h)) (sq_in 3 rfl rfl (by simp) rfl (fun v w h => h)) (fun v v' w h h' => exAddQ h h' (rb_le ha.out (by omega)) (rb_le hc.out (by omega)))
  · exact q_addr (b := b1) (off := 0) (off' := 4) hp (free_of rfl) trivial (sq_out rfl rfl (fun _ _ => rfl)) (fun ρ w h => by simp [execOp, go_sem, h]) (fun _ => rfl)
  · exact q_loadRatAt (off := 4) hp (free_of rfl) trivial (List.mem_iff_getElem?.2 ⟨2, rfl⟩) (.inl rfl) (Nat.le_of_ble_eq_true rfl) (sq_in 5 rfl rfl (by simp) rfl (fun v w h => h)) (fun us w hl h => ld_ivl1 hl h)
  · exact q_addr (b := b2) (off := 0) (off' := 4) hp (free_of rfl) trivial (sq_out rfl rfl (fun _ _ => rfl)) (fun ρ w h => by simp [execOp, go_sem, h]) (fun _ => rfl)
  · exact q_loadRatAt (off := 4) hp (free_of rfl) trivial (List.mem_iff_getElem?.2 ⟨1, rfl⟩) (.inl rfl) (Nat.le_of_ble_eq_true rfl) (sq_in 7 rfl rfl (by simp) rfl (fun v w h => h)) (fun us w hl h => ld_ivl1 hl h)
  · exact q_call2 (F := (Fq.pair b.num (b.den : Int)).P) (G := (Fq.pair d.num (d.den : Int)).P) hp (free_of rfl) trivial (enq_Q_Add) (sq_in 6 rfl rfl (by simp) rfl (fun v w h => h)) (sq_in 8 rfl rfl (by simp) rfl (fun v w h => h)) (fun v v' w h h' => exAddQ h h' (rb_le hb.out (by omega)) (rb_le hd.out (by omega)))
  · exact q_buildIvl hp (free_of rfl) trivial (sq_in 4 rfl rfl (by simp) rfl (fun v w h => h)) (sq_in 9 rfl rfl (by simp) rfl (fun v w h => h)) (fun v w h => h)
  · exact q_storeOldIvl hp (List.mem_iff_getElem?.2 ⟨0, rfl⟩) rfl rfl (sq_out rfl rfl (fun _ _ => rfl)) (sq_in 10 rfl rfl (by simp) rfl (fun v w h => h.parts)) (fun _ _ => trivial) (newik_ne rfl)
  intro L vs w6 nb hL hC hn E6
  have e0 : vs 0 = .pointer (some ⟨b1, 0, none⟩) := hC 0 (by simp)
  have e2 : vs 2 = .pointer (some ⟨b2, 0, none⟩) := hC 2 (by simp)
  have e5 : vs 5 = .pointer (some ⟨b1, 4, none⟩) := hC 5 (by simp)
  have e7 : vs 7 = .pointer (some ⟨b2, 4, none⟩) := hC 7 (by simp)
  have E : Fr w [(b3, 8, Fq.ivl (a + c).num ((a + c).den : Int) (b + d).num ((b + d).den : Int)), (b2, 8, Fq.ivl c.num (c.den : Int) d.num (d.den : Int)), (b1, 8, Fq.ivl a.num (a.den : Int) b.num (b.den : Int))] w6 := E6
  rw [lay_all hL]
  simp only [putAll, dstOf, List.length_cons, List.length_nil, Nat.zero_add, Nat.reduceAdd, List.getElem?_toArray, List.getElem?_cons_zero, List.getElem?_cons_succ, Option.bind_some, Act.put, List.setIfInBounds_toArray, List.set_cons_succ, List.set_cons_zero]
  rw [e0, e2, e5, e7]
  generalize vs 1 = u6_1
  generalize vs 3 = u6_3
  generalize vs 4 = u6_4
  generalize vs 6 = u6_6
  generalize vs 8 = u6_8
  generalize vs 9 = u6_9
  generalize vs 10 = u6_10
  clear e0 e2 e5 e7 hC hn E6 hL vs L nb
  obtain ⟨p0, p1, p2, p3, p4, p5, p6, p7, c0, c1, c2, c3, c4, c5, c6, c7, hP⟩ := box_ivl (E.box 0 rfl)
  clear B4 B5 ha hb hc hd
  go_wp2
  refine bodyPost_ret (v := .agg #[p0, p1, p2, p3, p4, p5, p6, p7]) ?_ rfl ⟨_, rfl, E.below, hP⟩
  simp [results, Tryz.results29, go_sem, c0, c1, c2, c3, c4, c5, c6, c7]

set_option maxRecDepth 100000 in
set_option maxHeartbeats 4000000 in
theorem exQISub {w : World} {v v' : Value} {a b c d : Rat} (h : Ivl w v a.num a.den b.num b.den) (h' : Ivl w v' c.num c.den d.num d.den) (ha : Rb a 100) (hb : Rb b 100) (hc : Rb c 100) (hd : Rb d 100) :
    Calls Tryz.prog 30 #[v, v'] w fun e w' => ∃ v', e = .returned v' ∧ Below w.heap.size w w' ∧ Ivl w' v' (a - d).num ((a - d).den : Int) (b - c).num ((b - c).den : Int) := by
  replace ha := hidd ha
  replace hb := hidd hb
  replace hc := hidd hc
  replace hd := hidd hd
  obtain ⟨n0_0, ao0_0, k0_0, c0_0, n0_1, ao0_1, k0_1, c0_1, n0_2, ao0_2, k0_2, c0_2, n0_3, ao0_3, k0_3, c0_3, rfl, _⟩ := h.parts
  obtain ⟨n1_0, ao1_0, k1_0, c1_0, n1_1, ao1_1, k1_1, c1_1, n1_2, ao1_2, k1_2, c1_2, n1_3, ao1_3, k1_3, c1_3, rfl, _⟩ := h'.parts
  obtain ⟨w1, b1, hw1, hb1, hs1, E⟩ := fr_start w (F := Fq.ivl a.num (a.den : Int) b.num (b.den : Int)) (us := [.bool n0_0, .slice ao0_0 k0_0 c0_0, .bool n0_1, .slice ao0_1 k0_1 c0_1, .bool n0_2, .slice ao0_2 k0_2 c0_2, .bool n0_3, .slice ao0_3 k0_3 c0_3]) 47 rfl (by simp) (tame_ivl _ _ _ _ _ _ _ _ _ _ _ _ _ _ _ _) h
  obtain ⟨w2, b2, hw2, hb2, hs2, E⟩ := fr_more E hs1 (F := Fq.ivl c.num (c.den : Int) d.num (d.den : Int)) (us := [.bool n1_0, .slice ao1_0 k1_0 c1_0, .bool n1_1, .slice ao1_1 k1_1 c1_1, .bool n1_2, .slice ao1_2 k1_2 c1_2, .bool n1_3, .slice ao1_3 k1_3 c1_3]) 47 rfl (by simp) (tame_ivl _ _ _ _ _ _ _ _ _ _ _ _ _ _ _ _) (h'.mono E.below)
  obtain ⟨w3, b3, hw3, hb3, hs3, E⟩ := fr_more E hs2 (F := Fq.ivl 0 0 0 0) (us := [.bool false, .slice none 0 0, .bool false, .slice none 0 0, .bool false, .slice none 0 0, .bool false, .slice none 0 0]) 47 rfl (by simp) (tame_ivl _ _ _ _ _ _ _ _ _ _ _ _ _ _ _ _) (Ivl.zero _)
  go_enter Tryz.func30, Tryz.ntmps30
  go_upto_region 1 with (fail)
  rw [← hw1]
  rw [← hw2]
  rw [← hw3]
  rw [← hb3]
  rw [← hb2]
  rw [← hb1]
  clear hw1 hw2 hw3 hb1 hb2 hb3 hs3 hs1 hs2
  have B4 : Hid (Rb (a - d) 201) := rb_le (rb_sub ha.out hd.out) (by omega)
  have B5 : Hid (Rb (b - c) 201) := rb_le (rb_sub hb.out hc.out) (by omega)
  refine region_fr (C := [Fq.is (.pointer (some ⟨b1, 0, none⟩)), Fq.pair a.num (a.den : Int), Fq.is (.pointer (some ⟨b2, 4, none⟩)), Fq.pair d.num (d.den : Int), Fq.pair (a - d).num ((a - d).den : Int), Fq.is (.pointer (some ⟨b1, 4, none⟩)), Fq.pair b.num (b.den : Int), Fq.is (.pointer (some ⟨b2, 0, none⟩)), Fq.pair c.num (c.den : Int), Fq.pair (b - c).num ((b - c).den : Int), Fq.ivl (a - d).num ((a - d).den : Int) (b - c).num ((b - c).den : Int), Fq.any]) (ks := [some (11, Fq.ivl (a - d).num ((a - d).den : Int) (b - c).num ((b - c).den : Int)), none, none]) (new := []) E rfl (by kernel_rfl) rfl rfl (fun hp => ⟨?_, ?_, ?_, ?_, ?_, ?_, ?_, ?_, ?_, ?_, ?_, ?_, trivial⟩) ?_
  · exact q_addr (b := b1) (off := 0) (off' := 0) hp (free_of rfl) trivial (sq_out rfl rfl (fun _ _ => rfl)) (fun ρ w h => by simp [execOp, go_sem, h]) (fun _ => rfl)
  · exact q_loadRatAt (off := 0) hp (free_of rfl) trivial (List.mem_iff_getElem?.2 ⟨2, rfl⟩) (.inl rfl) (Nat.le_of_ble_eq_true rfl) (sq_in 0 rfl rfl (by simp) rfl (fun v w h => h)) (fun us w hl h => ld_ivl0 hl h)
  · exact q_addr (b := b2) (off := 0) (off' := 4) hp (free_of rfl) trivial (sq_out rfl rfl (fun _ _ => rfl)) (fun ρ w h => by simp [execOp, go_sem, h]) (fun _ => rfl)
  · exact q_loadRatAt (off := 4) hp (free_of rfl) trivial (List.mem_iff_getElem?.2 ⟨1, rfl⟩) (.inl rfl) (Nat.le_of_ble_eq_true rfl) (sq_in 2 rfl rfl (by simp) rfl (fun v w h => h)) (fun us w hl h => ld_ivl1 hl h)
  · exact q_call2 (F := (Fq.pair a.num (a.den : Int)).P) (G := (Fq.pair d.num (d.den : Int)).P) hp (free_of rfl) trivial (enq_Q_Sub) (sq_in 1 rfl rfl (by simp) rfl (fun v w h => h)) (sq_in 3 rfl rfl (by simp) rfl (fun v w h => h)) (fun v v' w h h' => exSubQ h h' (rb_le ha.out (by omega)) (rb_le hd.out (by omega)))
  · exact q_addr (b := b1) (off := 0) (off' := 4) hp (free_of rfl) trivial (sq_out rfl rfl (fun _ _ => rfl)) (fun ρ w h => by simp [execOp, go_sem, h]) (fun _ => rfl)
  · exact q_loadRatAt (off := 4) hp (free_of rfl) trivial (List.mem_iff_getElem?.2 ⟨2, rfl⟩) (.inl rfl) (Nat.le_of_ble_eq_true rfl) (sq_in 5 rfl rfl (by simp) rfl (fun v w h => h)) (fun us w hl h => ld_ivl1 hl h)
  · exact q_addr (b := b2) (off := 0) (off' := 0) hp (free_of rfl) trivial (sq_out rfl rfl (fun _ _ => rfl)) (fun ρ w h => by simp [execOp, go_sem, h]) (fun _ => rfl)
  · exact q_loadRatAt (off := 0) hp (free_of rfl) trivial (List.mem_iff_getElem?.2 ⟨1, rfl⟩) (.inl rfl) (Nat.le_of_ble_eq_true rfl) (sq_in 7 rfl rfl (by simp) rfl (fun v w h => h)) (fun us w hl h => ld_ivl0 hl h)
  · exact q_call2 (F := (Fq.pair b.num (b.den : Int)).P) (G := (Fq.pair c.num (c.den : Int)).P) hp (free_of rfl) trivial (enq_Q_Sub) (sq_in 6 rfl rfl (by simp) rfl (fun v w h => h)) (sq_in 8 rfl rfl (by simp) rfl (fun v w h => h)) (fun v v' w h h' => exSubQ h h' (rb_le hb.out (by omega)) (rb_le hc.out (by omega)))
  · exact q_buildIvl hp (free_of rfl) trivial (sq_in 4 rfl rfl (by simp) rfl (fun v w h => h)) (sq_in 9 rfl rfl (by simp) rfl (fun v w h => h)) (fun v w h => h)
  · exact q_storeOldIvl hp (List.mem_iff_getElem?.2 ⟨0, rfl⟩) rfl rfl (sq_out rfl rfl (fun _ _ => rfl)) (sq_in 10 rfl rfl (by simp) rfl (fun v w h => h.parts)) (fun _ _ => trivial) (newik_ne rfl)
  intro L vs w6 nb hL hC hn E6
  have e0 : vs 0 = .pointer (some ⟨b1, 0, none⟩) := hC 0 (by simp)
  have e2 : vs 2 = .pointer (some ⟨b2, 4, none⟩) := hC 2 (by simp)
  have e5 : vs 5 = .pointer (some ⟨b1, 4, none⟩) := hC 5 (by simp)
  have e7 : vs 7 = .pointer (some ⟨b2, 0, none⟩) := hC 7 (by simp)
  have E : Fr w [(b3, 8, Fq.ivl (a - d).num ((a - d).den : Int) (b - c).num ((b - c).den : Int)), (b2, 8, Fq.ivl c.num (c.den : Int) d.num (d.den : Int)), (b1, 8, Fq.ivl a.num (a.den : Int) b.num (b.den : Int))] w6 := E6
  rw [lay_all hL]
  simp only [putAll, dstOf, List.length_cons, List.length_nil, Nat.zero_add, Nat.reduceAdd, List.getElem?_toArray, List.getElem?_cons_zero, List.getElem?_cons_succ, Option.bind_some, Act.put, List.setIfInBounds_toArray, List.set_cons_succ, List.set_cons_zero]
  rw [e0, e2, e5, e7]
  generalize vs 1 = u6_1
  generalize vs 3 = u6_3
  generalize vs 4 = u6_4
  generalize vs 6 = u6_6
  generalize vs 8 = u6_8
  generalize vs 9 = u6_9
  generalize vs 10 = u6_10
  clear e0 e2 e5 e7 hC hn E6 hL vs L nb
  obtain ⟨p0, p1, p2, p3, p4, p5, p6, p7, c0, c1, c2, c3, c4, c5, c6, c7, hP⟩ := box_ivl (E.box 0 rfl)
  clear B4 B5 ha hb hc hd
  go_wp2
  refine bodyPost_ret (v := .agg #[p0, p1, p2, p3, p4, p5, p6, p7]) ?_ rfl ⟨_, rfl, E.below, hP⟩
  simp [results, Tryz.results30, go_sem, c0, c1, c2, c3, c4, c5, c6, c7]

set_option maxRecDepth 100000 in
set_option maxHeartbeats 4000000 in
theorem exQIMul {w : World} {v v' : Value} {a b c d : Rat} (h : Ivl w v a.num a.den b.num b.den) (h' : Ivl w v' c.num c.den d.num d.den) (ha : Rb a 100) (hb : Rb b 100) (hc : Rb c 100) (hd : Rb d 100) :
    Calls Tryz.prog 31 #[v, v'] w fun e w' => ∃ v', e = .returned v' ∧ Below w.heap.size w w' ∧ Ivl w' v' (leastQ (a * c) [a * d, b * c, b * d]).num ((leastQ (a * c) [a * d, b * c, b * d]).den : Int) (greatQ (a * c) [a * d, b * c, b * d]).num ((greatQ (a * c) [a * d, b * c, b * d]).den : Int) := by
  replace ha := hidd ha
  replace hb := hidd hb
  replace hc := hidd hc
  replace hd := hidd hd
  obtain ⟨n0_0, ao0_0, k0_0, c0_0, n0_1, ao0_1, k0_1, c0_1, n0_2, ao0_2, k0_2, c0_2, n0_3, ao0_3, k0_3, c0_3, rfl, _⟩ := h.parts
  obtain ⟨n1_0, ao1_0, k1_0, c1_0, n1_1, ao1_1, k1_1, c1_1, n1_2, ao1_2, k1_2, c1_2, n1_3, ao1_3, k1_3, c1_3, rfl, _⟩ := h'.parts
  obtain ⟨w1, b1, hw1, hb1, hs1, E⟩ := fr_start w (F := Fq.ivl a.num (a.den : Int) b.num (b.den : Int)) (us := [.bool n0_0, .slice ao0_0 k0_0 c0_0, .bool n0_1, .slice ao0_1 k0_1 c0_1, .bool n0_2, .slice ao0_2 k0_2 c0_2, .bool n0_3, .slice ao0_3 k0_3 c0_3]) 47 rfl (by simp) (tame_ivl _ _ _ _ _ _ _ _ _ _ _ _ _ _ _ _) h
  obtain ⟨w2, b2, hw2, hb2, hs2, E⟩ := fr_more E hs1 (F := Fq.ivl c.num (c.den : Int) d.num (d.den : Int)) (us := [.bool n1_0, .slice ao1_0 k1_0 c1_0, .bool n1_1, .slice ao1_1 k1_1 c1_1, .bool n1_2, .slice ao1_2 k1_2 c1_2, .bool n1_3, .slice ao1_3 k1_3 c1_3]) 47 rfl (by simp) (tame_ivl _ _ _ _ _ _ _ _ _ _ _ _ _ _ _ _) (h'.mono E.below)
  obtain ⟨w3, b3, hw3, hb3, hs3, E⟩ := fr_more E hs2 (F := Fq.ivl 0 0 0 0) (us := [.bool false, .slice none 0 0, .bool false, .slice none 0 0, .bool false, .slice none 0 0, .bool false, .slice none 0 0]) 47 rfl (by simp) (tame_ivl _ _ _ _ _ _ _ _ _ _ _ _ _ _ _ _) (Ivl.zero _)
  go_enter Tryz.func31, Tryz.ntmps31
  go_upto_region 1 with (fail)
  rw [← hw1]
  rw [← hw2]
  rw [← hw3]
  rw [← hb3]
  rw [← hb2]
  rw [← hb1]
  clear hw1 hw2 hw3 hb1 hb2 hb3 hs3 hs1 hs2
  have B4 : Hid (Rb (a * c) 200) := rb_le (rb_mul ha.out hc.out) (by omega)
  have B5 : Hid (Rb (a * d) 200) := rb_le (rb_mul ha.out hd.out) (by omega)
  have B6 : Hid (Rb (b * c) 200) := rb_le (rb_mul hb.out hc.out) (by omega)
  have B7 : Hid (Rb (b * d) 200) := rb_le (rb_mul hb.out hd.out) (by omega)
  have B8 : Hid (Rb (leastQ (a * c) [a * d, b * c, b * d]) 200) := rb_least (rb_le B4.out (by omega)) (allR (rb_le B5.out (by omega)) (allR (rb_le B6.out (by omega)) (allR (rb_le B7.out (by omega)) nilR)))
  have B9 : Hid (Rb (greatQ (a * c) [a * d, b * c, b * d]) 200) := rb_great (rb_le B4.out (by omega)) (allR (rb_le B5.out (by omega)) (allR (rb_le B6.out (by omega)) (allR (rb_le B7.out (by omega)) nilR)))
  refine region_fr (C := [Fq.is (.pointer (some ⟨b1, 0, none⟩)), Fq.pair a.num (a.den : Int), Fq.is (.pointer (some ⟨b2, 0, none⟩)), Fq.pair c.num (c.den : Int), Fq.pair (a * c).num ((a * c).den : Int), Fq.is (.pointer (some ⟨b1, 0, none⟩)), Fq.pair a.num (a.den : Int), Fq.is (.pointer (some ⟨b2, 4, none⟩)), Fq.pair d.num (d.den : Int), Fq.pair (a * d).num ((a * d).den : Int), Fq.is (.pointer (some ⟨b1, 4, none⟩)), Fq.pair b.num (b.den : Int), Fq.is (.pointer (some ⟨b2, 0, none⟩)), Fq.pair c.num (c.den : Int), Fq.pair (b * c).num ((b * c).den : Int), Fq.is (.pointer (some ⟨b1, 4, none⟩)), Fq.pair b.num (b.den : Int), Fq.is (.pointer (some ⟨b2, 4, none⟩)), Fq.pair d.num (d.den : Int), Fq.pair (b * d).num ((b * d).den : Int), Fq.any, Fq.ivl (leastQ (a * c) [a * d, b * c, b * d]).num ((leastQ (a * c) [a * d, b * c, b * d]).den : Int) (greatQ (a * c) [a * d, b * c, b * d]).num ((greatQ (a * c) [a * d, b * c, b * d]).den : Int), Fq.any]) (ks := [some (22, Fq.ivl (leastQ (a * c) [a * d, b * c, b * d]).num ((leastQ (a * c) [a * d, b * c, b * d]).den : Int) (greatQ (a * c) [a * d, b * c, b * d]).num ((greatQ (a * c) [a * d, b * c, b * d]).den : Int)), none, none]) (new := [⟨20, 20, 12, Fq.rats [((a * d).num, ((a * d).den : Int)), ((b * c).num, ((b * c).den : Int)), ((b * d).num, ((b * d).den : Int))], Fq.rats [((a * d).num, ((a * d).den : Int)), ((b * c).num, ((b * c).den : Int)), ((b * d).num, ((b * d).den : Int))], (some 3)⟩]) E rfl (by kernel_rfl) rfl rfl (fun hp => ⟨?_, ?_, ?_, ?_, ?_, ?_, ?_, ?_, ?_, ?_, ?_, ?_, ?_, ?_, ?_, ?_, ?_, ?_, ?_, ?_, ?_, ?_, ?_, trivial⟩) ?_
  · exact q_addr (b := b1) (off := 0) (off' := 0) hp (free_of rfl) trivial (sq_out rfl rfl (fun _ _ => rfl)) (fun ρ w h => by simp [execOp, go_sem, h]) (fun _ => rfl)
  · exact q_loadRatAt (off := 0) hp (free_of rfl) trivial (List.mem_iff_getElem?.2 ⟨2, rfl⟩) (.inl rfl) (Nat.le_of_ble_eq_true rfl) (sq_in 0 rfl rfl (by simp) rfl (fun v w h => h)) (fun us w hl h => ld_ivl0 hl h)
  · exact q_addr (b := b2) (off := 0) (off' := 0) hp (free_of rfl) trivial (sq_out rfl rfl (fun _ _ => rfl)) (fun ρ w h => by simp [execOp, go_sem, h]) (fun _ => rfl)
  · exact q_loadRatAt (off := 0) hp (free_of rfl) trivial (List.mem_iff_getElem?.2 ⟨1, rfl⟩) (.inl rfl) (Nat.le_of_ble_eq_true rfl) (sq_in 2 rfl rfl (by simp) rfl (fun v w h => h)) (fun us w hl h => ld_ivl0 hl h)
  · exact q_call2 (F := (Fq.pair a.num (a.den : Int)).P) (G := (Fq.pair c.num (c.den : Int)).P) hp (free_of rfl) trivial (enq_Q_Mul) (sq_in 1 rfl rfl (by simp) rfl (fun v w h => h)) (sq_in 3 rfl rfl (by simp) rfl (fun v w h => h)) (fun v v' w h h' => exMulQ h h' (rb_le ha.out (by omega)) (rb_le hc.out (by omega)))
  · exact q_addr (b := b1) (off := 0) (off' := 0) hp (free_of rfl) trivial (sq_out rfl rfl (fun _ _ => rfl)) (fun ρ w h => by simp [execOp, go_sem, h]) (fun _ => rfl)
  · exact q_loadRatAt (off := 0) hp (free_of rfl) trivial (List.mem_iff_getElem?.2 ⟨2, rfl⟩) (.inl rfl) (Nat.le_of_ble_eq_true rfl) (sq_in 5 rfl rfl (by simp) rfl (fun v w h => h)) (fun us w hl h => ld_ivl0 hl h)
  · exact q_addr (b := b2) (off := 0) (off' := 4) hp (free_of rfl) trivial (sq_out rfl rfl (fun _ _ => rfl)) (fun ρ w h => by simp [execOp, go_sem, h]) (fun _ => rfl)
  · exact q_loadRatAt (off := 4) hp (free_of rfl) trivial (List.mem_iff_getElem?.2 ⟨1, rfl⟩) (.inl rfl) (Nat.le_of_ble_eq_true rfl) (sq_in 7 rfl rfl (by simp) rfl (fun v w h => h)) (fun us w hl h => ld_ivl1 hl h)
  · exact q_call2 (F := (Fq.pair a.num (a.den : Int)).P) (G := (Fq.pair d.num (d.den : Int)).P) hp (free_of rfl) trivial (enq_Q_Mul) (sq_in 6 rfl rfl (by simp) rfl (fun v w h => h)) (sq_in 8 rfl rfl (by simp) rfl (fun v w h => h)) (fun v v' w h h' => exMulQ h h' (rb_le ha.out (by omega)) (rb_le hd.out (by omega)))
  · exact q_addr (b := b1) (off := 0) (off' := 4) hp (free_of rfl) trivial (sq_out rfl rfl (fun _ _ => rfl)) (fun ρ w h => by simp [execOp, go_sem, h]) (fun _ => rfl)
  · exact q_loadRatAt (off := 4) hp (free_of rfl) trivial (List.mem_iff_getElem?.2 ⟨2, rfl⟩) (.inl rfl) (Nat.le_of_ble_eq_true rfl) (sq_in 10 rfl rfl (by simp) rfl (fun v w h => h)) (fun us w hl h => ld_ivl1 hl h)
  · exact q_addr (b := b2) (off := 0) (off' := 0) hp (free_of rfl) trivial (sq_out rfl rfl (fun _ _ => rfl)) (fun ρ w h => by simp [execOp, go_sem, h]) (fun _ => rfl)
  · exact q_loadRatAt (off := 0) hp (free_of rfl) trivial (List.mem_iff_getElem?.2 ⟨1, rfl⟩) (.inl rfl) (Nat.le_of_ble_eq_true rfl) (sq_in 12 rfl rfl (by simp) rfl (fun v w h => h)) (fun us w hl h => ld_ivl0 hl h)
  · exact q_call2 (F := (Fq.pair b.num (b.den : Int)).P) (G := (Fq.pair c.num (c.den : Int)).P) hp (free_of rfl) trivial (enq_Q_Mul) (sq_in 11 rfl rfl (by simp) rfl (fun v w h => h)) (sq_in 13 rfl rfl (by simp) rfl (fun v w h => h)) (fun v v' w h h' => exMulQ h h' (rb_le hb.out (by omega)) (rb_le hc.out (by omega)))
  · exact q_addr (b := b1) (off := 0) (off' := 4) hp (free_of rfl) trivial (sq_out rfl rfl (fun _ _ => rfl)) (fun ρ w h => by simp [execOp, go_sem, h]) (fun _ => rfl)
  · exact q_loadRatAt (off := 4) hp (free_of rfl) trivial (List.mem_iff_getElem?.2 ⟨2, rfl⟩) (.inl rfl) (Nat.le_of_ble_eq_true rfl) (sq_in 15 rfl rfl (by simp) rfl (fun v w h => h)) (fun us w hl h => ld_ivl1 hl h)
  · exact q_addr (b := b2) (off := 0) (off' := 4) hp (free_of rfl) trivial (sq_out rfl rfl (fun _ _ => rfl)) (fun ρ w h => by simp [execOp, go_sem, h]) (fun _ => rfl)
  · exact q_loadRatAt (off := 4) hp (free_of rfl) trivial (List.mem_iff_getElem?.2 ⟨1, rfl⟩) (.inl rfl) (Nat.le_of_ble_eq_true rfl) (sq_in 17 rfl rfl (by simp) rfl (fun v w h => h)) (fun us w hl h => ld_ivl1 hl h)
  · exact q_call2 (F := (Fq.pair b.num (b.den : Int)).P) (G := (Fq.pair d.num (d.den : Int)).P) hp (free_of rfl) trivial (enq_Q_Mul) (sq_in 16 rfl rfl (by simp) rfl (fun v w h => h)) (sq_in 18 rfl rfl (by simp) rfl (fun v w h => h)) (fun v v' w h h' => exMulQ h h' (rb_le hb.out (by omega)) (rb_le hd.out (by omega)))
  · exact q_buildRats3 hp (List.mem_iff_getElem?.2 ⟨0, rfl⟩) rfl rfl rfl rfl rfl (sq_in 9 rfl rfl (by simp) rfl (fun v w h => h)) (sq_in 14 rfl rfl (by simp) rfl (fun v w h => h)) (sq_in 19 rfl rfl (by simp) rfl (fun v w h => h)) (fun _ _ => trivial) (old_ne rfl) (newks_ne rfl)
  · exact q_callPSl (F := (Fq.pair (a * c).num ((a * c).den : Int)).P) hp (free_of rfl) trivial enq_Q_hull (List.mem_iff_getElem?.2 ⟨0, rfl⟩) rfl (sq_in 4 rfl rfl (by simp) rfl (fun v w h => h)) (own_ptr rfl rfl (by simp) rfl) (fun v bx w h hbx => exHull (a := a * c) (r := [a * d, b * c, b * d]) h hbx rfl (Nat.le_of_ble_eq_true rfl) (rb_le B4.out (by omega)) (allR (rb_le B5.out (by omega)) (allR (rb_le B6.out (by omega)) (allR (rb_le B7.out (by omega)) nilR))))
  · exact q_storeOldIvl hp (List.mem_iff_getElem?.2 ⟨0, rfl⟩) rfl rfl (sq_out rfl rfl (fun _ _ => rfl)) (sq_in 21 rfl rfl (by simp) rfl (fun v w h => h.parts)) (fun _ _ => trivial) (newik_ne rfl)
  intro L vs w10 nb hL hC hn E10
  have e0 : vs 0 = .pointer (some ⟨b1, 0, none⟩) := hC 0 (by simp)
  have e2 : vs 2 = .pointer (some ⟨b2, 0, none⟩) := hC 2 (by simp)
  have e5 : vs 5 = .pointer (some ⟨b1, 0, none⟩) := hC 5 (by simp)
  have e7 : vs 7 = .pointer (some ⟨b2, 4, none⟩) := hC 7 (by simp)
  have e10 : vs 10 = .pointer (some ⟨b1, 4, none⟩) := hC 10 (by simp)
  have e12 : vs 12 = .pointer (some ⟨b2, 0, none⟩) := hC 12 (by simp)
  have e15 : vs 15 = .pointer (some ⟨b1, 4, none⟩) := hC 15 (by simp)
  have e17 : vs 17 = .pointer (some ⟨b2, 4, none⟩) := hC 17 (by simp)
  have e20 : vs 20 = .slice (some ⟨nb 20, 0, none⟩) 3 3 := hn _ (List.mem_iff_getElem?.2 ⟨0, rfl⟩)
  have E : Fr w [(nb 20, 12, Fq.rats [((a * d).num, ((a * d).den : Int)), ((b * c).num, ((b * c).den : Int)), ((b * d).num, ((b * d).den : Int))]), (b3, 8, Fq.ivl (leastQ (a * c) [a * d, b * c, b * d]).num ((leastQ (a * c) [a * d, b * c, b * d]).den : Int) (greatQ (a * c) [a * d, b * c, b * d]).num ((greatQ (a * c) [a * d, b * c, b * d]).den : Int)), (b2, 8, Fq.ivl c.num (c.den : Int) d.num (d.den : Int)), (b1, 8, Fq.ivl a.num (a.den : Int) b.num (b.den : Int))] w10 := E10
  rw [lay_all hL]
  simp only [putAll, dstOf, List.length_cons, List.length_nil, Nat.zero_add, Nat.reduceAdd, List.getElem?_toArray, List.getElem?_cons_zero, List.getElem?_cons_succ, Option.bind_some, Act.put, List.setIfInBounds_toArray, List.set_cons_succ, List.set_cons_zero]
  rw [e0, e2, e5, e7, e10, e12, e15, e17, e20]
  generalize nb 20 = b10_20 at E ⊢
  generalize vs 1 = u10_1
  generalize vs 3 = u10_3
  generalize vs 4 = u10_4
  generalize vs 6 = u10_6
  generalize vs 8 = u10_8
  generalize vs 9 = u10_9
  generalize vs 11 = u10_11
  generalize vs 13 = u10_13
  generalize vs 14 = u10_14
  generalize vs 16 = u10_16
  generalize vs 18 = u10_18
  generalize vs 19 = u10_19
  generalize vs 21 = u10_21
  clear e0 e2 e5 e7 e10 e12 e15 e17 e20 hC hn E10 hL vs L nb
  obtain ⟨p0, p1, p2, p3, p4, p5, p6, p7, c0, c1, c2, c3, c4, c5, c6, c7, hP⟩ := box_ivl (E.box 1 rfl)
  clear B4 B5 B6 B7 B8 B9 ha hb hc hd
  go_wp2
  refine bodyPost_ret (v := .agg #[p0, p1, p2, p3, p4, p5, p6, p7]) ?_ rfl ⟨_, rfl, E.below, hP⟩
  simp [results, Tryz.results31, go_sem, c0, c1, c2, c3, c4, c5, c6, c7]

set_option maxRecDepth 100000 in
set_option maxHeartbeats 4000000 in
theorem exSIAdd {w : World} {v v' : Value} {a b c d : Rat} (h : Ivl w v a.num a.den b.num b.den) (h' : Ivl w v' c.num c.den d.num d.den) (ha : Rb a 100) (hb : Rb b 100) (hc : Rb c 100) (hd : Rb d 100) :
    Calls Tryz.prog 34 #[v, v'] w fun e w' => ∃ v', e = .returned v' ∧ Below w.heap.size w w' ∧ Ivl w' v' (a + c).num ((a + c).den : Int) (b + d).num ((b + d).den : Int) := by
  replace ha := hidd ha
  replace hb := hidd hb
  replace hc := hidd hc
  replace hd := hidd hd
  obtain ⟨n0_0, ao0_0, k0_0, c0_0, n0_1, ao0_1, k0_1, c0_1, n0_2, ao0_2, k0_2, c0_2, n0_3, ao0_3, k0_3, c0_3, rfl, _⟩ := h.parts
  obtain ⟨n1_0, ao1_0, k1_0, c1_0, n1_1, ao1_1, k1_1, c1_1, n1_2, ao1_2, k1_2, c1_2, n1_3, ao1_3, k1_3, c1_3, rfl, _⟩ := h'.parts
  obtain ⟨w1, b1, hw1, hb1, hs1, E⟩ := fr_start w (F := Fq.ivl a.num (a.den : Int) b.num (b.den : Int)) (us := [.bool n0_0, .slice ao0_0 k0_0 c0_0, .bool n0_1, .slice ao0_1 k0_1 c0_1, .bool n0_2, .slice ao0_2 k0_2 c0_2, .bool n0_3, .slice ao0_3 k0_3 c0_3]) 47 rfl (by simp) (tame_ivl _ _ _ _ _ _ _ _ _ _ _ _ _ _ _ _) h
  obtain ⟨w2, b2, hw2, hb2, hs2, E⟩ := fr_more E hs1 (F := Fq.ivl c.num (c.den : Int) d.num (d.den : Int)) (us := [.bool n1_0, .slice ao1_0 k1_0 c1_0, .bool n1_1, .slice ao1_1 k1_1 c1_1, .bool n1_2, .slice ao1_2 k1_2 c1_2, .bool n1_3, .slice ao1_3 k1_3 c1_3]) 47 rfl (by simp) (tame_ivl _ _ _ _ _ _ _ _ _ _ _ _ _ _ _ _) (h'.mono E.below)
  obtain ⟨w3, b3, hw3, hb3, hs3, E⟩ := fr_more E hs2 (F := Fq.ivl 0 0 0 0) (us := [.bool false, .slice none 0 0, .bool false, .slice none 0 0, .bool false, .slice none 0 0, .bool false, .slice none 0 0]) 47 rfl (by simp) (tame_ivl _ _ _ _ _ _ _ _ _ _ _ _ _ _ _ _) (Ivl.zero _)
  go_enter Tryz.func34, Tryz.ntmps34
  go_upto_region 1 with (fail)
  rw [← hw1]
  rw [← hw2]
  rw [← hw3]
  rw [← hb3]
  rw [← hb2]
  rw [← hb1]
  clear hw1 hw2 hw3 hb1 hb2 hb3 hs3 hs1 hs2
  have B4 : Hid (Rb (a + c) 201) := rb_le (rb_add ha.out hc.out) (by omega)
  have B5 : Hid (Rb (b + d) 201) := rb_le (rb_add hb.out hd.out) (by omega)
  refine region_fr (C := [Fq.is (.pointer (some ⟨b1, 0, none⟩)), Fq.pair a.num (a.den : Int), Fq.is (.pointer (some ⟨b2, 0, none⟩)), Fq.pair c.num (c.den : Int), Fq.pair (a + c).num ((a + c).den : Int), Fq.is (.pointer (some ⟨b1, 4, none⟩)), Fq.pair b.num (b.den : Int), Fq.is (.pointer (some ⟨b2, 4, none⟩)), Fq.pair d.num (d.den : Int), Fq.pair (b + d).num ((b + d).den : Int), Fq.ivl (a + c).num ((a + c).den : Int) (b + d).num ((b + d).den : Int), Fq.any]) (ks := [some (11, Fq.ivl (a + c).num ((a + c).den : Int) (b + d).num ((b + d).den : Int)), none, none]) (new := []) E rfl (by kernel_rfl) rfl rfl (fun hp => ⟨?_, ?_, ?_, ?_, ?_, ?_, ?_, ?_, ?_, ?_, ?_, ?_, trivial⟩) ?_
  · exact q_addr (b := b1) (off := 0) (off' := 0) hp (free_of rfl) trivial (sq_out rfl rfl (fun _ _ => rfl)) (fun ρ w h => by simp [execOp, go_sem, h]) (fun _ => rfl)
  · exact q_loadRatAt (off := 0) hp (free_of rfl) trivial (List.mem_iff_getElem?.2 ⟨2, rfl⟩) (.inl rfl) (Nat.le_of_ble_eq_true rfl) (sq_in 0 rfl rfl (by simp) rfl (fun v w h => h)) (fun us w hl h => ld_ivl0 hl h)
  · exact q_addr (b := b2) (off := 0) (off' := 0) hp (free_of rfl) trivial (sq_out rfl rfl (fun _ _ => rfl)) (fun ρ w h => by simp [execOp, go_sem, h]) (fun _ => rfl)
  · exact q_loadRatAt (off := 0) hp (free_of rfl) trivial (List.mem_iff_getElem?.2 ⟨1, rfl⟩) (.inl rfl) (Nat.le_of_ble_eq_true rfl) (sq_in 2 rfl rfl (by simp) rfl (fun v w h => h)) (fun us w hl h => ld_ivl0 hl h)
  · exact q_call2 (F := (Fq.pair a.num (a.den : Int)).P) (G := (Fq.pair c.num (c.den : Int)).P) hp (free_of rfl) trivial (enq_S_Add) (sq_in 1 rfl rfl (by simp) rfl (fun v w h => h)) (sq_in 3 rfl rfl (by simp) rfl (fun v w h => h)) (fun v v' w h h' => exSAddQ h h' (rb_le ha.out (by omega)) (rb_le hc.out (by omega)))
  · exact q_addr (b := b1) (off := 0) (off' := 4) hp (free_of rfl) trivial (sq_out rfl rfl (fun _ _ => rfl)) (fun ρ w h => by simp [execOp, go_sem, h]) (fun _ => rfl)
  · exact q_loadRatAt (off := 4) hp (free_of rfl) trivial (List.mem_iff_getElem?.2 ⟨2, rfl⟩) (.inl rfl) (Nat.le_of_ble_eq_true rfl) (sq_in 5 rfl rfl (by simp) rfl (fun v w h => h)) (fun us w hl h => ld_ivl1 hl h)
  · exact q_addr (b := b2) (off := 0) (off' := 4) hp (free_of rfl) trivial (sq_out rfl rfl (fun _ _ => rfl)) (fun ρ w h => by simp [execOp, go_sem, h]) (fun _ => rfl)
  · exact q_loadRatAt (off := 4) hp (free_of rfl) trivial (List.mem_iff_getElem?.2 ⟨1, rfl⟩) (.inl rfl) (Nat.le_of_ble_eq_true rfl) (sq_in 7 rfl rfl (by simp) rfl (fun v w h => h)) (fun us w hl h => ld_ivl1 hl h)
  · exact q_call2 (F := (Fq.pair b.num (b.den : Int)).P) (G := (Fq.pair d.num (d.den : Int)).P) hp (free_of rfl) trivial (enq_S_Add) (sq_in 6 rfl rfl (by simp) rfl (fun v w h => h)) (sq_in 8 rfl rfl (by simp) rfl (fun v w h => h)) (fun v v' w h h' => exSAddQ h h' (rb_le hb.out (by omega)) (rb_le hd.out (by omega)))
  · exact q_buildIvl hp (free_of rfl) trivial (sq_in 4 rfl rfl (by simp) rfl (fun v w h => h)) (sq_in 9 rfl rfl (by simp) rfl (fun v w h => h)) (fun v w h => h)
  · exact q_storeOldIvl hp (List.mem_iff_getElem?.2 ⟨0, rfl⟩) rfl rfl (sq_out rfl rfl (fun _ _ => rfl)) (sq_in 10 rfl rfl (by simp) rfl (fun v w h => h.parts)) (fun _ _ => trivial) (newik_ne rfl)
  intro L vs w6 nb hL hC hn E6
  have e0 : vs 0 = .pointer (some ⟨b1, 0, none⟩) := hC 0 (by simp)
  have e2 : vs 2 = .pointer (some ⟨b2, 0, none⟩) := hC 2 (by simp)
  have e5 : vs 5 = .pointer (some ⟨b1, 4, none⟩) := hC 5 (by simp)
  have e7 : vs 7 = .pointer (some ⟨b2, 4, none⟩) := hC 7 (by simp)
  have E : Fr w [(b3, 8, Fq.ivl (a + c).num ((a + c).den : Int) (b + d).num ((b + d).den : Int)), (b2, 8, Fq.ivl c.num (c.den : Int) d.num (d.den : Int)), (b1, 8, Fq.ivl a.num (a.den : Int) b.num (b.den : Int))] w6 := E6
  rw [lay_all hL]
  simp only [putAll, dstOf, List.length_cons, List.length_nil, Nat.zero_add, Nat.reduceAdd, List.getElem?_toArray, List.getElem?_cons_zero, List.getElem?_cons_succ, Option.bind_some, Act.put, List.setIfInBounds_toArray, List.set_cons_succ, List.set_cons_zero]
  rw [e0, e2, e5, e7]
  generalize vs 1 = u6_1
  generalize vs 3 = u6_3
  generalize vs 4 = u6_4
  generalize vs 6 = u6_6
  generalize vs 8 = u6_8
  generalize vs 9 = u6_9
  generalize vs 10 = u6_10
  clear e0 e2 e5 e7 hC hn E6 hL vs L nb
  obtain ⟨p0, p1, p2, p3, p4, p5, p6, p7, c0, c1, c2, c3, c4, c5, c6, c7, hP⟩ := box_ivl (E.box 0 rfl)
  clear B4 B5 ha hb hc hd
  go_wp2
  refine bodyPost_ret (v := .agg #[p0, p1, p2, p3, p4, p5, p6, p7]) ?_ rfl ⟨_, rfl, E.below, hP⟩
  simp [results, Tryz.results34, go_sem, c0, c1, c2, c3, c4, c5, c6, c7]

set_option maxRecDepth 100000 in
set_option maxHeartbeats 4000000 in
theorem exSISub {w : World} {v v' : Value} {a b c d : Rat} (h : Ivl w v a.num a.den b.num b.den) (h' : Ivl w v' c.num c.den d.num d.den) (ha : Rb a 100) (hb : Rb b 100) (hc : Rb c 100) (hd : Rb d 100) :
    Calls Tryz.prog 35 #[v, v'] w fun e w' => ∃ v', e = .returned v' ∧ Below w.heap.size w w' ∧ Ivl w' v' (a - d).num ((a - d).den : Int) (b - c).num ((b - c).den : Int) := by
  replace ha := hidd ha
  replace hb := hidd hb
  replace hc := hidd hc
  replace hd := hidd hd
  obtain ⟨n0_0, ao0_0, k0_0, c0_0, n0_1, ao0_1, k0_1, c0_1, n0_2, ao0_2, k0_2, c0_2, n0_3, ao0_3, k0_3, c0_3, rfl, _⟩ := h.parts
  obtain ⟨n1_0, ao1_0, k1_0, c1_0, n1_1, ao1_1, k1_1, c1_1, n1_2, ao1_2, k1_2, c1_2, n1_3, ao1_3, k1_3, c1_3, rfl, _⟩ := h'.parts
  obtain ⟨w1, b1, hw1, hb1, hs1, E⟩ := fr_start w (F := Fq.ivl a.num (a.den : Int) b.num (b.den : Int)) (us := [.bool n0_0, .slice ao0_0 k0_0 c0_0, .bool n0_1, .slice ao0_1 k0_1 c0_1, .bool n0_2, .slice ao0_2 k0_2 c0_2, .bool n0_3, .slice ao0_3 k0_3 c0_3]) 47 rfl (by simp) (tame_ivl _ _ _ _ _ _ _ _ _ _ _ _ _ _ _ _) h
  obtain ⟨w2, b2, hw2, hb2, hs2, E⟩ := fr_more E hs1 (F := Fq.ivl c.num (c.den : Int) d.num (d.den : Int)) (us := [.bool n1_0, .slice ao1_0 k1_0 c1_0, .bool n1_1, .slice ao1_1 k1_1 c1_1, .bool n1_2, .slice ao1_2 k1_2 c1_2, .bool n1_3, .slice ao1_3 k1_3 c1_3]) 47 rfl (by simp) (tame_ivl _ _ _ _ _ _ _ _ _ _ _ _ _ _ _ _) (h'.mono E.below)
  obtain ⟨w3, b3, hw3, hb3, hs3, E⟩ := fr_more E hs2 (F := Fq.ivl 0 0 0 0) (us := [.bool false, .slice none 0 0, .bool false, .slice none 0 0, .bool false, .slice none 0 0, .bool false, .slice none 0 0]) 47 rfl (by simp) (tame_ivl _ _ _ _ _ _ _ _ _ _ _ _ _ _ _ _) (Ivl.zero _)
  go_enter Tryz.func35, Tryz.ntmps35
  go_upto_region 1 with (fail)
  rw [← hw1]
  rw [← hw2]
  rw [← hw3]
  rw [← hb3]
  rw [← hb2]
  rw [← hb1]
  clear hw1 hw2 hw3 hb1 hb2 hb3 hs3 hs1 hs2
  have B4 : Hid (Rb (a - d) 201) := rb_le (rb_sub ha.out hd.out) (by omega)
  have B5 : Hid (Rb (b - c) 201) := rb_le (rb_sub hb.out hc.out) (by omega)
  refine region_fr (C := [Fq.is (.pointer (some ⟨b1, 0, none⟩)), Fq.pair a.num (a.den : Int), Fq.is (.pointer (some ⟨b2, 4, none⟩)), Fq.pair d.num (d.den : Int), Fq.pair (a - d).num ((a - d).den : Int), Fq.is (.pointer (some ⟨b1, 4, none⟩)), Fq.pair b.num (b.den : Int), Fq.is (.pointer (some ⟨b2, 0, none⟩)), Fq.pair c.num (c.den : Int), Fq.pair (b - c).num ((b - c).den : Int), Fq.ivl (a - d).num ((a - d).den : Int) (b - c).num ((b - c).den : Int), Fq.any]) (ks := [some (11, Fq.ivl (a - d).num ((a - d).den : Int) (b - c).num ((b - c).den : Int)), none, none]) (new := []) E rfl (by kernel_rfl) rfl rfl (fun hp => ⟨?_, ?_, ?_, ?_, ?_, ?_, ?_, ?_, ?_, ?_, ?_, ?_, trivial⟩) ?_
  · exact q_addr (b := b1) (off := 0) (off' := 0) hp (free_of rfl) trivial (sq_out rfl rfl (fun _ _ => rfl)) (fun ρ w h => by simp [execOp, go_sem, h]) (fun _ => rfl)
  · exact q_loadRatAt (off := 0) hp (free_of rfl) trivial (List.mem_iff_getElem?.2 ⟨2, rfl⟩) (.inl rfl) (Nat.le_of_ble_eq_true rfl) (sq_in 0 rfl rfl (by simp) rfl (fun v w h => h)) (fun us w hl h => ld_ivl0 hl h)
  · exact q_addr (b := b2) (off := 0) (off' := 4) hp (free_of rfl) trivial (sq_out rfl rfl (fun _ _ => rfl)) (fun ρ w h => by simp [execOp, go_sem, h]) (fun _ => rfl)
  · exact q_loadRatAt (off := 4) hp (free_of rfl) trivial (List.mem_iff_getElem?.2 ⟨1, rfl⟩) (.inl rfl) (Nat.le_of_ble_eq_true rfl) (sq_in 2 rfl rfl (by simp) rfl (fun v w h => h)) (fun us w hl h => ld_ivl1 hl h)
  · exact q_call2 (F := (Fq.pair a.num (a.den : Int)).P) (G := (Fq.pair d.num (d.den : Int)).P) hp (free_of rfl) trivial (enq_S_Sub) (sq_in 1 rfl rfl (by simp) rfl (fun v w h => h)) (sq_in 3 rfl rfl (by simp) rfl (fun v w h => h)) (fun v v' w h h' => exSSubQ h h' (rb_le ha.out (by omega)) (rb_le hd.out (by omega)))
  · exact q_addr (b := b1) (off := 0) (off' := 4) hp (free_of rfl) trivial (sq_out rfl rfl (fun _ _ => rfl)) (fun ρ w h => by simp [execOp, go_sem, h]) (fun _ => rfl)
  · exact q_loadRatAt (off := 4) hp (free_of rfl) trivial (List.mem_iff_getElem?.2 ⟨2, rfl⟩) (.inl rfl) (Nat.le_of_ble_eq_true rfl) (sq_in 5 rfl rfl (by simp) rfl (fun v w h => h)) (fun us w hl h => ld_ivl1 hl h)
  · exact q_addr (b := b2) (off := 0) (off' := 0) hp (free_of rfl) trivial (sq_out rfl rfl (fun _ _ => rfl)) (fun ρ w h => by simp [execOp, go_sem, h]) (fun _ => rfl)
  · exact q_loadRatAt (off := 0) hp (free_of rfl) trivial (List.mem_iff_getElem?.2 ⟨1, rfl⟩) (.inl rfl) (Nat.le_of_ble_eq_true rfl) (sq_in 7 rfl rfl (by simp) rfl (fun v w h => h)) (fun us w hl h => ld_ivl0 hl h)
  · exact q_call2 (F := (Fq.pair b.num (b.den : Int)).P) (G := (Fq.pair c.num (c.den : Int)).P) hp (free_of rfl) trivial (enq_S_Sub) (sq_in 6 rfl rfl (by simp) rfl (fun v w h => h)) (sq_in 8 rfl rfl (by simp) rfl (fun v w h => h)) (fun v v' w h h' => exSSubQ h h' (rb_le hb.out (by omega)) (rb_le hc.out (by omega)))
  · exact q_buildIvl hp (free_of rfl) trivial (sq_in 4 rfl rfl (by simp) rfl (fun v w h => h)) (sq_in 9 rfl rfl (by simp) rfl (fun v w h => h)) (fun v w h => h)
  · exact q_storeOldIvl hp (List.mem_iff_getElem?.2 ⟨0, rfl⟩) rfl rfl (sq_out rfl rfl (fun _ _ => rfl)) (sq_in 10 rfl rfl (by simp) rfl (fun v w h => h.parts)) (fun _ _ => trivial) (newik_ne rfl)
  intro L vs w6 nb hL hC hn E6
  have e0 : vs 0 = .pointer (some ⟨b1, 0, none⟩) := hC 0 (by simp)
  have e2 : vs 2 = .pointer (some ⟨b2, 4, none⟩) := hC 2 (by simp)
  have e5 : vs 5 = .pointer (some ⟨b1, 4, none⟩) := hC 5 (by simp)
  have e7 : vs 7 = .pointer (some ⟨b2, 0, none⟩) := hC 7 (by simp)
  have E : Fr w [(b3, 8, Fq.ivl (a - d).num ((a - d).den : Int) (b - c).num ((b - c).den : Int)), (b2, 8, Fq.ivl c.num (c.den : Int) d.num (d.den : Int)), (b1, 8, Fq.ivl a.num (a.den : Int) b.num (b.den : Int))] w6 := E6
  rw [lay_all hL]
  simp only [putAll, dstOf, List.length_cons, List.length_nil, Nat.zero_add, Nat.reduceAdd, List.getElem?_toArray, List.getElem?_cons_zero, List.getElem?_cons_succ, Option.bind_some, Act.put, List.setIfInBounds_toArray, List.set_cons_succ, List.set_cons_zero]
  rw [e0, e2, e5, e7]
  generalize vs 1 = u6_1
  generalize vs 3 = u6_3
  generalize vs 4 = u6_4
  generalize vs 6 = u6_6
  generalize vs 8 = u6_8
  generalize vs 9 = u6_9
  generalize vs 10 = u6_10
  clear e0 e2 e5 e7 hC hn E6 hL vs L nb
  obtain ⟨p0, p1, p2, p3, p4, p5, p6, p7, c0, c1, c2, c3, c4, c5, c6, c7, hP⟩ := box_ivl (E.box 0 rfl)
  clear B4 B5 ha hb hc hd
  go_wp2
  refine bodyPost_ret (v := .agg #[p0, p1, p2, p3, p4, p5, p6, p7]) ?_ rfl ⟨_, rfl, E.below, hP⟩
  simp [results, Tryz.results35, go_sem, c0, c1, c2, c3, c4, c5, c6, c7]

set_option maxRecDepth 100000 in
set_option maxHeartbeats 4000000 in
theorem exSIMul {w : World} {v v' : Value} {a b c d : Rat} (h : Ivl w v a.num a.den b.num b.den) (h' : Ivl w v' c.num c.den d.num d.den) (ha : Rb a 100) (hb : Rb b 100) (hc : Rb c 100) (hd : Rb d 100) :
    Calls Tryz.prog 36 #[v, v'] w fun e w' => ∃ v', e = .returned v' ∧ Below w.heap.size w w' ∧ Ivl w' v' (leastQ (a * c) [a * d, b * c, b * d]).num ((leastQ (a * c) [a * d, b * c, b * d]).den : Int) (greatQ (a * c) [a * d, b * c, b * d]).num ((greatQ (a * c) [a * d, b * c, b * d]).den : Int) := by
  replace ha := hidd ha
  replace hb := hidd hb
  replace hc := hidd hc
  replace hd := hidd hd
  obtain ⟨n0_0, ao0_0, k0_0, c0_0, n0_1, ao0_1, k0_1, c0_1, n0_2, ao0_2, k0_2, c0_2, n0_3, ao0_3, k0_3, c0_3, rfl, _⟩ := h.parts
  obtain ⟨n1_0, ao1_0, k1_0, c1_0, n1_1, ao1_1, k1_1, c1_1, n1_2, ao1_2, k1_2, c1_2, n1_3, ao1_3, k1_3, c1_3, rfl, _⟩ := h'.parts
  obtain ⟨w1, b1, hw1, hb1, hs1, E⟩ := fr_start w (F := Fq.ivl a.num (a.den : Int) b.num (b.den : Int)) (us := [.bool n0_0, .slice ao0_0 k0_0 c0_0, .bool n0_1, .slice ao0_1 k0_1 c0_1, .bool n0_2, .slice ao0_2 k0_2 c0_2, .bool n0_3, .slice ao0_3 k0_3 c0_3]) 47 rfl (by simp) (tame_ivl _ _ _ _ _ _ _ _ _ _ _ _ _ _ _ _) h
  obtain ⟨w2, b2, hw2, hb2, hs2, E⟩ := fr_more E hs1 (F := Fq.ivl c.num (c.den : Int) d.num (d.den : Int)) (us := [.bool n1_0, .slice ao1_0 k1_0 c1_0, .bool n1_1, .slice ao1_1 k1_1 c1_1, .bool n1_2, .slice ao1_2 k1_2 c1_2, .bool n1_3, .slice ao1_3 k1_3 c1_3]) 47 rfl (by simp) (tame_ivl _ _ _ _ _ _ _ _ _ _ _ _ _ _ _ _) (h'.mono E.below)
  obtain ⟨w3, b3, hw3, hb3, hs3, E⟩ := fr_more E hs2 (F := Fq.ivl 0 0 0 0) (us := [.bool false, .slice none 0 0, .bool false, .slice none 0 0, .bool false, .slice none 0 0, .bool false, .slice none 0 0]) 47 rfl (by simp) (tame_ivl _ _ _ _ _ _ _ _ _ _ _ _ _ _ _ _) (Ivl.zero _)
  go_enter Tryz.func36, Tryz.ntmps36
  go_upto_region 1 with (fail)
  rw [← hw1]
  rw [← hw2]
  rw [← hw3]
  rw [← hb3]
  rw [← hb2]
  rw [← hb1]
  clear hw1 hw2 hw3 hb1 hb2 hb3 hs3 hs1 hs2
  have B4 : Hid (Rb (a * c) 200) := rb_le (rb_mul ha.out hc.out) (by omega)
  have B5 : Hid (Rb (a * d) 200) := rb_le (rb_mul ha.out hd.out) (by omega)
  have B6 : Hid (Rb (b * c) 200) := rb_le (rb_mul hb.out hc.out) (by omega)
  have B7 : Hid (Rb (b * d) 200) := rb_le (rb_mul hb.out hd.out) (by omega)
  refine region_frS (same := [(21, 20)]) (C := [Fq.is (.pointer (some ⟨b1, 0, none⟩)), Fq.pair a.num (a.den : Int), Fq.is (.pointer (some ⟨b2, 0, none⟩)), Fq.pair c.num (c.den : Int), Fq.pair (a * c).num ((a * c).den : Int), Fq.is (.pointer (some ⟨b1, 0, none⟩)), Fq.pair a.num (a.den : Int), Fq.is (.pointer (some ⟨b2, 4, none⟩)), Fq.pair d.num (d.den : Int), Fq.pair (a * d).num ((a * d).den : Int), Fq.is (.pointer (some ⟨b1, 4, none⟩)), Fq.pair b.num (b.den : Int), Fq.is (.pointer (some ⟨b2, 0, none⟩)), Fq.pair c.num (c.den : Int), Fq.pair (b * c).num ((b * c).den : Int), Fq.is (.pointer (some ⟨b1, 4, none⟩)), Fq.pair b.num (b.den : Int), Fq.is (.pointer (some ⟨b2, 4, none⟩)), Fq.pair d.num (d.den : Int), Fq.pair (b * d).num ((b * d).den : Int), Fq.any, Fq.any]) (ks := [none, none, none]) (new := [⟨20, 20, 16, Fq.rats [((a * c).num, ((a * c).den : Int)), ((a * d).num, ((a * d).den : Int)), ((b * c).num, ((b * c).den : Int)), ((b * d).num, ((b * d).den : Int))], Fq.rats [((a * c).num, ((a * c).den : Int)), ((a * d).num, ((a * d).den : Int)), ((b * c).num, ((b * c).den : Int)), ((b * d).num, ((b * d).den : Int))], (some 4)⟩]) E rfl (by kernel_rfl) rfl rfl (fun hp => ⟨?_, ?_, ?_, ?_, ?_, ?_, ?_, ?_, ?_, ?_, ?_, ?_, ?_, ?_, ?_, ?_, ?_, ?_, ?_, ?_, ?_, ?_, trivial⟩) ?_
  · exact stepS_of (q_addr (b := b1) (off := 0) (off' := 0) hp (free_of rfl) trivial (sq_out rfl rfl (fun _ _ => rfl)) (fun ρ w h => by simp [execOp, go_sem, h]) (fun _ => rfl)) rfl
  · exact stepS_of (q_loadRatAt (off := 0) hp (free_of rfl) trivial (List.mem_iff_getElem?.2 ⟨2, rfl⟩) (.inl rfl) (Nat.le_of_ble_eq_true rfl) (sq_in 0 rfl rfl (by simp) rfl (fun v w h => h)) (fun us w hl h => ld_ivl0 hl h)) rfl
  · exact stepS_of (q_addr (b := b2) (off := 0) (off' := 0) hp (free_of rfl) trivial (sq_out rfl rfl (fun _ _ => rfl)) (fun ρ w h => by simp [execOp, go_sem, h]) (fun _ => rfl)) rfl
  · exact stepS_of (q_loadRatAt (off := 0) hp (free_of rfl) trivial (List.mem_iff_getElem?.2 ⟨1, rfl⟩) (.inl rfl) (Nat.le_of_ble_eq_true rfl) (sq_in 2 rfl rfl (by simp) rfl (fun v w h => h)) (fun us w hl h => ld_ivl0 hl h)) rfl
  · exact stepS_of (q_call2 (F := (Fq.pair a.num (a.den : Int)).P) (G := (Fq.pair c.num (c.den : Int)).P) hp (free_of rfl) trivial (enq_S_Mul) (sq_in 1 rfl rfl (by simp) rfl (fun v w h => h)) (sq_in 3 rfl rfl (by simp) rfl (fun v w h => h)) (fun v v' w h h' => exSMulQ h h' (rb_le ha.out (by omega)) (rb_le hc.out (by omega)))) rfl
  · exact stepS_of (q_addr (b := b1) (off := 0) (off' := 0) hp (free_of rfl) trivial (sq_out rfl rfl (fun _ _ => rfl)) (fun ρ w h => by simp [execOp, go_sem, h]) (fun _ => rfl)) rfl
  · exact stepS_of (q_loadRatAt (off := 0) hp (free_of rfl) trivial (List.mem_iff_getElem?.2 ⟨2, rfl⟩) (.inl rfl) (Nat.le_of_ble_eq_true rfl) (sq_in 5 rfl rfl (by simp) rfl (fun v w h => h)) (fun us w hl h => ld_ivl0 hl h)) rfl
  · exact stepS_of (q_addr (b := b2) (off := 0) (off' := 4) hp (free_of rfl) trivial (sq_out rfl rfl (fun _ _ => rfl)) (fun ρ w h => by simp [execOp, go_sem, h]) (fun _ => rfl)) rfl
  · exact stepS_of (q_loadRatAt (off := 4) hp (free_of rfl) trivial (List.mem_iff_getElem?.2 ⟨1, rfl⟩) (.inl rfl) (Nat.le_of_ble_eq_true rfl) (sq_in 7 rfl rfl (by simp) rfl (fun v w h => h)) (fun us w hl h => ld_ivl1 hl h)) rfl
  · exact stepS_of (q_call2 (F := (Fq.pair a.num (a.den : Int)).P) (G := (Fq.pair d.num (d.den : Int)).P) hp (free_of rfl) trivial (enq_S_Mul) (sq_in 6 rfl rfl (by simp) rfl (fun v w h => h)) (sq_in 8 rfl rfl (by simp) rfl (fun v w h => h)) (fun v v' w h h' => exSMulQ h h' (rb_le ha.out (by omega)) (rb_le hd.out (by omega)))) rfl
  · exact stepS_of (q_addr (b := b1) (off := 0) (off' := 4) hp (free_of rfl) trivial (sq_out rfl rfl (fun _ _ => rfl)) (fun ρ w h => by simp [execOp, go_sem, h]) (fun _ => rfl)) rfl
  · exact stepS_of (q_loadRatAt (off := 4) hp (free_of rfl) trivial (List.mem_iff_getElem?.2 ⟨2, rfl⟩) (.inl rfl) (Nat.le_of_ble_eq_true rfl) (sq_in 10 rfl rfl (by simp) rfl (fun v w h => h)) (fun us w hl h => ld_ivl1 hl h)) rfl
  · exact stepS_of (q_addr (b := b2) (off := 0) (off' := 0) hp (free_of rfl) trivial (sq_out rfl rfl (fun _ _ => rfl)) (fun ρ w h => by simp [execOp, go_sem, h]) (fun _ => rfl)) rfl
  · exact stepS_of (q_loadRatAt (off := 0) hp (free_of rfl) trivial (List.mem_iff_getElem?.2 ⟨1, rfl⟩) (.inl rfl) (Nat.le_of_ble_eq_true rfl) (sq_in 12 rfl rfl (by simp) rfl (fun v w h => h)) (fun us w hl h => ld_ivl0 hl h)) rfl
  · exact stepS_of (q_call2 (F := (Fq.pair b.num (b.den : Int)).P) (G := (Fq.pair c.num (c.den : Int)).P) hp (free_of rfl) trivial (enq_S_Mul) (sq_in 11 rfl rfl (by simp) rfl (fun v w h => h)) (sq_in 13 rfl rfl (by simp) rfl (fun v w h => h)) (fun v v' w h h' => exSMulQ h h' (rb_le hb.out (by omega)) (rb_le hc.out (by omega)))) rfl
  · exact stepS_of (q_addr (b := b1) (off := 0) (off' := 4) hp (free_of rfl) trivial (sq_out rfl rfl (fun _ _ => rfl)) (fun ρ w h => by simp [execOp, go_sem, h]) (fun _ => rfl)) rfl
  · exact stepS_of (q_loadRatAt (off := 4) hp (free_of rfl) trivial (List.mem_iff_getElem?.2 ⟨2, rfl⟩) (.inl rfl) (Nat.le_of_ble_eq_true rfl) (sq_in 15 rfl rfl (by simp) rfl (fun v w h => h)) (fun us w hl h => ld_ivl1 hl h)) rfl
  · exact stepS_of (q_addr (b := b2) (off := 0) (off' := 4) hp (free_of rfl) trivial (sq_out rfl rfl (fun _ _ => rfl)) (fun ρ w h => by simp [execOp, go_sem, h]) (fun _ => rfl)) rfl
  · exact stepS_of (q_loadRatAt (off := 4) hp (free_of rfl) trivial (List.mem_iff_getElem?.2 ⟨1, rfl⟩) (.inl rfl) (Nat.le_of_ble_eq_true rfl) (sq_in 17 rfl rfl (by simp) rfl (fun v w h => h)) (fun us w hl h => ld_ivl1 hl h)) rfl
  · exact stepS_of (q_call2 (F := (Fq.pair b.num (b.den : Int)).P) (G := (Fq.pair d.num (d.den : Int)).P) hp (free_of rfl) trivial (enq_S_Mul) (sq_in 16 rfl rfl (by simp) rfl (fun v w h => h)) (sq_in 18 rfl rfl (by simp) rfl (fun v w h => h)) (fun v v' w h h' => exSMulQ h h' (rb_le hb.out (by omega)) (rb_le hd.out (by omega)))) rfl
  · exact stepS_of (q_buildRats4 hp (List.mem_iff_getElem?.2 ⟨0, rfl⟩) rfl rfl rfl rfl rfl (sq_in 4 rfl rfl (by simp) rfl (fun v w h => h)) (sq_in 9 rfl rfl (by simp) rfl (fun v w h => h)) (sq_in 14 rfl rfl (by simp) rfl (fun v w h => h)) (sq_in 19 rfl rfl (by simp) rfl (fun v w h => h)) (fun _ _ => trivial) (old_ne rfl) (newks_ne rfl)) rfl
  · exact stepS_assign hp (free_of rfl) rfl (j := 20) rfl (by simp) rfl (fun _ _ => trivial) rfl (Nat.ne_of_beq_eq_false rfl)
  intro L vs w8 nb hsm hL hC hn E8
  have e0 : vs 0 = .pointer (some ⟨b1, 0, none⟩) := hC 0 (by simp)
  have e2 : vs 2 = .pointer (some ⟨b2, 0, none⟩) := hC 2 (by simp)
  have e5 : vs 5 = .pointer (some ⟨b1, 0, none⟩) := hC 5 (by simp)
  have e7 : vs 7 = .pointer (some ⟨b2, 4, none⟩) := hC 7 (by simp)
  have e10 : vs 10 = .pointer (some ⟨b1, 4, none⟩) := hC 10 (by simp)
  have e12 : vs 12 = .pointer (some ⟨b2, 0, none⟩) := hC 12 (by simp)
  have e15 : vs 15 = .pointer (some ⟨b1, 4, none⟩) := hC 15 (by simp)
  have e17 : vs 17 = .pointer (some ⟨b2, 4, none⟩) := hC 17 (by simp)
  have e20 : vs 20 = .slice (some ⟨nb 20, 0, none⟩) 4 4 := hn _ (List.mem_iff_getElem?.2 ⟨0, rfl⟩)
  have e21 : vs 21 = .slice (some ⟨nb 20, 0, none⟩) 4 4 := (hsm (21, 20) (by simp) (Nat.lt_of_sub_eq_succ rfl)).trans e20
  have E : Fr w [(nb 20, 16, Fq.rats [((a * c).num, ((a * c).den : Int)), ((a * d).num, ((a * d).den : Int)), ((b * c).num, ((b * c).den : Int)), ((b * d).num, ((b * d).den : Int))]), (b3, 8, Fq.ivl 0 0 0 0), (b2, 8, Fq.ivl c.num (c.den : Int) d.num (d.den : Int)), (b1, 8, Fq.ivl a.num (a.den : Int) b.num (b.den : Int))] w8 := E8
  rw [lay_all hL]
  simp only [putAll, dstOf, List.length_cons, List.length_nil, Nat.zero_add, Nat.reduceAdd, List.getElem?_toArray, List.getElem?_cons_zero, List.getElem?_cons_succ, Option.bind_some, Act.put, List.setIfInBounds_toArray, List.set_cons_succ, List.set_cons_zero]
  rw [e0, e2, e5, e7, e10, e12, e15, e17, e20, e21]
  generalize nb 20 = b8_20 at E ⊢
  generalize vs 1 = u8_1
  generalize vs 3 = u8_3
  generalize vs 4 = u8_4
  generalize vs 6 = u8_6
  generalize vs 8 = u8_8
  generalize vs 9 = u8_9
  generalize vs 11 = u8_11
  generalize vs 13 = u8_13
  generalize vs 14 = u8_14
  generalize vs 16 = u8_16
  generalize vs 18 = u8_18
  generalize vs 19 = u8_19
  clear e0 e2 e5 e7 e10 e12 e15 e17 e20 e21 hsm hC hn E8 hL vs L nb
  go_upto_region 2 with (fail)
  have B9 : Hid (Rb (leastQ (a * c) [a * d, b * c, b * d]) 200) := rb_least (rb_le B4.out (by omega)) (allR (rb_le B5.out (by omega)) (allR (rb_le B6.out (by omega)) (allR (rb_le B7.out (by omega)) nilR)))
  have B10 : Hid (Rb (greatQ (a * c) [a * d, b * c, b * d]) 200) := rb_great (rb_le B4.out (by omega)) (allR (rb_le B5.out (by omega)) (allR (rb_le B6.out (by omega)) (allR (rb_le B7.out (by omega)) nilR)))
  refine region_fr (C := [Fq.is (.slice (some ⟨b8_20, 0, none⟩) 4 4), Fq.pair (leastQ (a * c) [a * d, b * c, b * d]).num ((leastQ (a * c) [a * d, b * c, b * d]).den : Int), Fq.is (.slice (some ⟨b8_20, 0, none⟩) 4 4), Fq.pair (greatQ (a * c) [a * d, b * c, b * d]).num ((greatQ (a * c) [a * d, b * c, b * d]).den : Int), Fq.ivl (leastQ (a * c) [a * d, b * c, b * d]).num ((leastQ (a * c) [a * d, b * c, b * d]).den : Int) (greatQ (a * c) [a * d, b * c, b * d]).num ((greatQ (a * c) [a * d, b * c, b * d]).den : Int), Fq.any]) (ks := [none, some (5, Fq.ivl (leastQ (a * c) [a * d, b * c, b * d]).num ((leastQ (a * c) [a * d, b * c, b * d]).den : Int) (greatQ (a * c) [a * d, b * c, b * d]).num ((greatQ (a * c) [a * d, b * c, b * d]).den : Int)), none, none]) (new := []) E rfl (by kernel_rfl) rfl rfl (fun hp => ⟨?_, ?_, ?_, ?_, ?_, ?_, trivial⟩) ?_
  · exact q_move hp (free_of rfl) trivial (sq_out rfl rfl (fun _ _ => rfl))
  · exact q_callSl (u := .slice (some ⟨b8_20, 0, none⟩) 4 4) hp (free_of rfl) trivial (enq_S_Least) (List.mem_iff_getElem?.2 ⟨0, rfl⟩) rfl (sq_in 0 rfl rfl (by simp) rfl (fun v w h => h)) (fun w hbx => exSLeast (a := a * c) (r := [a * d, b * c, b * d]) hbx rfl (Nat.le_of_ble_eq_true rfl) (allR (rb_le B4.out (by omega)) (allR (rb_le B5.out (by omega)) (allR (rb_le B6.out (by omega)) (allR (rb_le B7.out (by omega)) nilR)))))
  · exact q_move hp (free_of rfl) trivial (sq_out rfl rfl (fun _ _ => rfl))
  · exact q_callSl (u := .slice (some ⟨b8_20, 0, none⟩) 4 4) hp (free_of rfl) trivial (enq_S_Greatest) (List.mem_iff_getElem?.2 ⟨0, rfl⟩) rfl (sq_in 2 rfl rfl (by simp) rfl (fun v w h => h)) (fun w hbx => exSGreatest (a := a * c) (r := [a * d, b * c, b * d]) hbx rfl (Nat.le_of_ble_eq_true rfl) (allR (rb_le B4.out (by omega)) (allR (rb_le B5.out (by omega)) (allR (rb_le B6.out (by omega)) (allR (rb_le B7.out (by omega)) nilR)))))
  · exact q_buildIvl hp (free_of rfl) trivial (sq_in 1 rfl rfl (by simp) rfl (fun v w h => h)) (sq_in 3 rfl rfl (by simp) rfl (fun v w h => h)) (fun v w h => h)
  · exact q_storeOldIvl hp (List.mem_iff_getElem?.2 ⟨1, rfl⟩) rfl rfl (sq_out rfl rfl (fun _ _ => rfl)) (sq_in 4 rfl rfl (by simp) rfl (fun v w h => h.parts)) (fun _ _ => trivial) (newik_ne rfl)
  intro L vs w11 nb hL hC hn E11
  have e0 : vs 0 = .slice (some ⟨b8_20, 0, none⟩) 4 4 := hC 0 (by simp)
  have e2 : vs 2 = .slice (some ⟨b8_20, 0, none⟩) 4 4 := hC 2 (by simp)
  have E : Fr w [(b8_20, 16, Fq.rats [((a * c).num, ((a * c).den : Int)), ((a * d).num, ((a * d).den : Int)), ((b * c).num, ((b * c).den : Int)), ((b * d).num, ((b * d).den : Int))]), (b3, 8, Fq.ivl (leastQ (a * c) [a * d, b * c, b * d]).num ((leastQ (a * c) [a * d, b * c, b * d]).den : Int) (greatQ (a * c) [a * d, b * c, b * d]).num ((greatQ (a * c) [a * d, b * c, b * d]).den : Int)), (b2, 8, Fq.ivl c.num (c.den : Int) d.num (d.den : Int)), (b1, 8, Fq.ivl a.num (a.den : Int) b.num (b.den : Int))] w11 := E11
  rw [lay_all hL]
  simp only [putAll, dstOf, List.length_cons, List.length_nil, Nat.zero_add, Nat.reduceAdd, List.getElem?_toArray, List.getElem?_cons_zero, List.getElem?_cons_succ, Option.bind_some, Act.put, List.setIfInBounds_toArray, List.set_cons_succ, List.set_cons_zero]
  rw [e0, e2]
  generalize vs 1 = u11_1
  generalize vs 3 = u11_3
  generalize vs 4 = u11_4
  clear e0 e2 hC hn E11 hL vs L nb
  obtain ⟨p0, p1, p2, p3, p4, p5, p6, p7, c0, c1, c2, c3, c4, c5, c6, c7, hP⟩ := box_ivl (E.box 1 rfl)
  clear B4 B5 B6 B7 B9 B10 ha hb hc hd
  go_wp2
  refine bodyPost_ret (v := .agg #[p0, p1, p2, p3, p4, p5, p6, p7]) ?_ rfl ⟨_, rfl, E.below, hP⟩
  simp [results, Tryz.results36, go_sem, c0, c1, c2, c3, c4, c5, c6, c7]

set_option maxRecDepth 100000 in
set_option maxHeartbeats 4000000 in
theorem exSSpan {w : World} {v v' : Value} {a b : Rat} (h : Pair w v a.num a.den) (h' : Pair w v' b.num b.den) (ha : Rb a 300) (hb : Rb b 300) :
    Calls Tryz.prog 27 #[v, v'] w fun e w' => ∃ v', e = .returned v' ∧ Below w.heap.size w w' ∧ Ivl w' v' (leastQ a [b]).num ((leastQ a [b]).den : Int) (greatQ a [b]).num ((greatQ a [b]).den : Int) := by
  replace ha := hidd ha
  replace hb := hidd hb
  obtain ⟨n0, ao0, k0, c0, n0', ao0', k0', c0', rfl, _⟩ := ratV_pair h
  obtain ⟨n1, ao1, k1, c1, n1', ao1', k1', c1', rfl, _⟩ := ratV_pair h'
  obtain ⟨w1, b1, hw1, hb1, hs1, E⟩ := fr_start w (F := Fq.pair a.num (a.den : Int)) (us := [.bool n0, .slice ao0 k0 c0, .bool n0', .slice ao0' k0' c0']) 31 rfl (by simp) (tame_rat _ _ _ _ _ _ _ _) h
  obtain ⟨w2, b2, hw2, hb2, hs2, E⟩ := fr_more E hs1 (F := Fq.pair b.num (b.den : Int)) (us := [.bool n1, .slice ao1 k1 c1, .bool n1', .slice ao1' k1' c1']) 31 rfl (by simp) (tame_rat _ _ _ _ _ _ _ _) (h'.mono E.below)
  obtain ⟨w3, b3, hw3, hb3, hs3, E⟩ := fr_more E hs2 (F := Fq.ivl 0 0 0 0) (us := [.bool false, .slice none 0 0, .bool false, .slice none 0 0, .bool false, .slice none 0 0, .bool false, .slice none 0 0]) 47 rfl (by simp) (tame_ivl _ _ _ _ _ _ _ _ _ _ _ _ _ _ _ _) (Ivl.zero _)
  go_enter Tryz.func27, Tryz.ntmps27
  go_upto_region 1 with (fail)
  rw [← hw1]
  rw [← hw2]
  rw [← hw3]
  rw [← hb3]
  rw [← hb2]
  rw [← hb1]
  clear hw1 hw2 hw3 hb1 hb2 hb3 hs3 hs1 hs2
  refine region_frS (same := [(3, 2)]) (C := [Fq.pair a.num (a.den : Int), Fq.pair b.num (b.den : Int), Fq.any, Fq.any]) (ks := [none, none, none]) (new := [⟨2, 2, 8, Fq.rats [(a.num, (a.den : Int)), (b.num, (b.den : Int))], Fq.rats [(a.num, (a.den : Int)), (b.num, (b.den : Int))], (some 2)⟩]) E rfl (by kernel_rfl) rfl rfl (fun hp => ⟨?_, ?_, ?_, ?_, trivial⟩) ?_
  · exact stepS_of (q_loadRat hp (free_of rfl) trivial (List.mem_iff_getElem?.2 ⟨2, rfl⟩) (.inl rfl) rfl (sq_out rfl rfl (fun _ _ => rfl)) (fun us w hl h => h)) rfl
  · exact stepS_of (q_loadRat hp (free_of rfl) trivial (List.mem_iff_getElem?.2 ⟨1, rfl⟩) (.inl rfl) rfl (sq_out rfl rfl (fun _ _ => rfl)) (fun us w hl h => h)) rfl
  · exact stepS_of (q_buildRats2 hp (List.mem_iff_getElem?.2 ⟨0, rfl⟩) rfl rfl rfl rfl rfl (sq_in 0 rfl rfl (by simp) rfl (fun v w h => h)) (sq_in 1 rfl rfl (by simp) rfl (fun v w h => h)) (fun _ _ => trivial) (old_ne rfl) (newks_ne rfl)) rfl
  · exact stepS_assign hp (free_of rfl) rfl (j := 2) rfl (by simp) rfl (fun _ _ => trivial) rfl (Nat.ne_of_beq_eq_false rfl)
  intro L vs w4 nb hsm hL hC hn E4
  have e2 : vs 2 = .slice (some ⟨nb 2, 0, none⟩) 2 2 := hn _ (List.mem_iff_getElem?.2 ⟨0, rfl⟩)
  have e3 : vs 3 = .slice (some ⟨nb 2, 0, none⟩) 2 2 := (hsm (3, 2) (by simp) (Nat.lt_of_sub_eq_succ rfl)).trans e2
  have E : Fr w [(nb 2, 8, Fq.rats [(a.num, (a.den : Int)), (b.num, (b.den : Int))]), (b3, 8, Fq.ivl 0 0 0 0), (b2, 4, Fq.pair b.num (b.den : Int)), (b1, 4, Fq.pair a.num (a.den : Int))] w4 := E4
  rw [lay_all hL]
  simp only [putAll, dstOf, List.length_cons, List.length_nil, Nat.zero_add, Nat.reduceAdd, List.getElem?_toArray, List.getElem?_cons_zero, List.getElem?_cons_succ, Option.bind_some, Act.put, List.setIfInBounds_toArray, List.set_cons_succ, List.set_cons_zero]
  rw [e2, e3]
  generalize nb 2 = b4_2 at E ⊢
  generalize vs 0 = u4_0
  generalize vs 1 = u4_1
  clear e2 e3 hsm hC hn E4 hL vs L nb
  go_upto_region 2 with (fail)
  have B5 : Hid (Rb (leastQ a [b]) 300) := rb_least (rb_le ha.out (by omega)) (allR (rb_le hb.out (by omega)) nilR)
  have B6 : Hid (Rb (greatQ a [b]) 300) := rb_great (rb_le ha.out (by omega)) (allR (rb_le hb.out (by omega)) nilR)
  refine region_fr (C := [Fq.is (.slice (some ⟨b4_2, 0, none⟩) 2 2), Fq.pair (leastQ a [b]).num ((leastQ a [b]).den : Int), Fq.is (.slice (some ⟨b4_2, 0, none⟩) 2 2), Fq.pair (greatQ a [b]).num ((greatQ a [b]).den : Int), Fq.ivl (leastQ a [b]).num ((leastQ a [b]).den : Int) (greatQ a [b]).num ((greatQ a [b]).den : Int), Fq.any]) (ks := [none, some (5, Fq.ivl (leastQ a [b]).num ((leastQ a [b]).den : Int) (greatQ a [b]).num ((greatQ a [b]).den : Int)), none, none]) (new := []) E rfl (by kernel_rfl) rfl rfl (fun hp => ⟨?_, ?_, ?_, ?_, ?_, ?_, trivial⟩) ?_
  · exact q_move hp (free_of rfl) trivial (sq_out rfl rfl (fun _ _ => rfl))
  · exact q_callSl (u := .slice (some ⟨b4_2, 0, none⟩) 2 2) hp (free_of rfl) trivial (enq_S_Least) (List.mem_iff_getElem?.2 ⟨0, rfl⟩) rfl (sq_in 0 rfl rfl (by simp) rfl (fun v w h => h)) (fun w hbx => exSLeast (a := a) (r := [b]) hbx rfl (Nat.le_of_ble_eq_true rfl) (allR (rb_le ha.out (by omega)) (allR (rb_le hb.out (by omega)) nilR)))
  · exact q_move hp (free_of rfl) trivial (sq_out rfl rfl (fun _ _ => rfl))
  · exact q_callSl (u := .slice (some ⟨b4_2, 0, none⟩) 2 2) hp (free_of rfl) trivial (enq_S_Greatest) (List.mem_iff_getElem?.2 ⟨0, rfl⟩) rfl (sq_in 2 rfl rfl (by simp) rfl (fun v w h => h)) (fun w hbx => exSGreatest (a := a) (r := [b]) hbx rfl (Nat.le_of_ble_eq_true rfl) (allR (rb_le ha.out (by omega)) (allR (rb_le hb.out (by omega)) nilR)))
  · exact q_buildIvl hp (free_of rfl) trivial (sq_in 1 rfl rfl (by simp) rfl (fun v w h => h)) (sq_in 3 rfl rfl (by simp) rfl (fun v w h => h)) (fun v w h => h)
  · exact q_storeOldIvl hp (List.mem_iff_getElem?.2 ⟨1, rfl⟩) rfl rfl (sq_out rfl rfl (fun _ _ => rfl)) (sq_in 4 rfl rfl (by simp) rfl (fun v w h => h.parts)) (fun _ _ => trivial) (newik_ne rfl)
  intro L vs w7 nb hL hC hn E7
  have e0 : vs 0 = .slice (some ⟨b4_2, 0, none⟩) 2 2 := hC 0 (by simp)
  have e2 : vs 2 = .slice (some ⟨b4_2, 0, none⟩) 2 2 := hC 2 (by simp)
  have E : Fr w [(b4_2, 8, Fq.rats [(a.num, (a.den : Int)), (b.num, (b.den : Int))]), (b3, 8, Fq.ivl (leastQ a [b]).num ((leastQ a [b]).den : Int) (greatQ a [b]).num ((greatQ a [b]).den : Int)), (b2, 4, Fq.pair b.num (b.den : Int)), (b1, 4, Fq.pair a.num (a.den : Int))] w7 := E7
  rw [lay_all hL]
  simp only [putAll, dstOf, List.length_cons, List.length_nil, Nat.zero_add, Nat.reduceAdd, List.getElem?_toArray, List.getElem?_cons_zero, List.getElem?_cons_succ, Option.bind_some, Act.put, List.setIfInBounds_toArray, List.set_cons_succ, List.set_cons_zero]
  rw [e0, e2]
  generalize vs 1 = u7_1
  generalize vs 3 = u7_3
  generalize vs 4 = u7_4
  clear e0 e2 hC hn E7 hL vs L nb
  obtain ⟨p0, p1, p2, p3, p4, p5, p6, p7, c0, c1, c2, c3, c4, c5, c6, c7, hP⟩ := box_ivl (E.box 1 rfl)
  clear B5 B6 ha hb
  go_wp2
  refine bodyPost_ret (v := .agg #[p0, p1, p2, p3, p4, p5, p6, p7]) ?_ rfl ⟨_, rfl, E.below, hP⟩
  simp [results, Tryz.results27, go_sem, c0, c1, c2, c3, c4, c5, c6, c7]

set_option maxRecDepth 100000 in
set_option maxHeartbeats 4000000 in
theorem exQScale {w : World} {v v' : Value} {a b q : Rat} (h : Ivl w v a.num a.den b.num b.den) (h' : Pair w v' q.num q.den) (ha : Rb a 100) (hb : Rb b 100) (hq : Rb q 100) :
    Calls Tryz.prog 32 #[v, v'] w fun e w' => ∃ v', e = .returned v' ∧ Below w.heap.size w w' ∧ Ivl w' v' (leastQ (a * q) [b * q]).num ((leastQ (a * q) [b * q]).den : Int) (greatQ (a * q) [b * q]).num ((greatQ (a * q) [b * q]).den : Int) := by
  replace ha := hidd ha
  replace hb := hidd hb
  replace hq := hidd hq
  obtain ⟨n0_0, ao0_0, k0_0, c0_0, n0_1, ao0_1, k0_1, c0_1, n0_2, ao0_2, k0_2, c0_2, n0_3, ao0_3, k0_3, c0_3, rfl, _⟩ := h.parts
  obtain ⟨n1, ao1, k1, c1, n1', ao1', k1', c1', rfl, _⟩ := ratV_pair h'
  obtain ⟨w1, b1, hw1, hb1, hs1, E⟩ := fr_start w (F := Fq.ivl a.num (a.den : Int) b.num (b.den : Int)) (us := [.bool n0_0, .slice ao0_0 k0_0 c0_0, .bool n0_1, .slice ao0_1 k0_1 c0_1, .bool n0_2, .slice ao0_2 k0_2 c0_2, .bool n0_3, .slice ao0_3 k0_3 c0_3]) 47 rfl (by simp) (tame_ivl _ _ _ _ _ _ _ _ _ _ _ _ _ _ _ _) h
  obtain ⟨w2, b2, hw2, hb2, hs2, E⟩ := fr_more E hs1 (F := Fq.pair q.num (q.den : Int)) (us := [.bool n1, .slice ao1 k1 c1, .bool n1', .slice ao1' k1' c1']) 31 rfl (by simp) (tame_rat _ _ _ _ _ _ _ _) (h'.mono E.below)
  obtain ⟨w3, b3, hw3, hb3, hs3, E⟩ := fr_more E hs2 (F := Fq.ivl 0 0 0 0) (us := [.bool false, .slice none 0 0, .bool false, .slice none 0 0, .bool false, .slice none 0 0, .bool false, .slice none 0 0]) 47 rfl (by simp) (tame_ivl _ _ _ _ _ _ _ _ _ _ _ _ _ _ _ _) (Ivl.zero _)
  go_enter Tryz.func32, Tryz.ntmps32
  go_upto_region 1 with (fail)
  rw [← hw1]
  rw [← hw2]
  rw [← hw3]
  rw [← hb3]
  rw [← hb2]
  rw [← hb1]
  clear hw1 hw2 hw3 hb1 hb2 hb3 hs3 hs1 hs2
  have B4 : Hid (Rb (a * q) 200) := rb_le (rb_mul ha.out hq.out) (by omega)
  have B5 : Hid (Rb (b * q) 200) := rb_le (rb_mul hb.out hq.out) (by omega)
  have B6 : Hid (Rb (leastQ (a * q) [b * q]) 200) := rb_least (rb_le B4.out (by omega)) (allR (rb_le B5.out (by omega)) nilR)
  have B7 : Hid (Rb (greatQ (a * q) [b * q]) 200) := rb_great (rb_le B4.out (by omega)) (allR (rb_le B5.out (by omega)) nilR)
  refine region_fr (C := [Fq.is (.pointer (some ⟨b1, 0, none⟩)), Fq.pair a.num (a.den : Int), Fq.pair q.num (q.den : Int), Fq.pair (a * q).num ((a * q).den : Int), Fq.is (.pointer (some ⟨b1, 4, none⟩)), Fq.pair b.num (b.den : Int), Fq.pair q.num (q.den : Int), Fq.pair (b * q).num ((b * q).den : Int), Fq.any, Fq.ivl (leastQ (a * q) [b * q]).num ((leastQ (a * q) [b * q]).den : Int) (greatQ (a * q) [b * q]).num ((greatQ (a * q) [b * q]).den : Int), Fq.any]) (ks := [some (10, Fq.ivl (leastQ (a * q) [b * q]).num ((leastQ (a * q) [b * q]).den : Int) (greatQ (a * q) [b * q]).num ((greatQ (a * q) [b * q]).den : Int)), none, none]) (new := [⟨8, 8, 4, Fq.rats [((b * q).num, ((b * q).den : Int))], Fq.rats [((b * q).num, ((b * q).den : Int))], (some 1)⟩]) E rfl (by kernel_rfl) rfl rfl (fun hp => ⟨?_, ?_, ?_, ?_, ?_, ?_, ?_, ?_, ?_, ?_, ?_, trivial⟩) ?_
  · exact q_addr (b := b1) (off := 0) (off' := 0) hp (free_of rfl) trivial (sq_out rfl rfl (fun _ _ => rfl)) (fun ρ w h => by simp [execOp, go_sem, h]) (fun _ => rfl)
  · exact q_loadRatAt (off := 0) hp (free_of rfl) trivial (List.mem_iff_getElem?.2 ⟨2, rfl⟩) (.inl rfl) (Nat.le_of_ble_eq_true rfl) (sq_in 0 rfl rfl (by simp) rfl (fun v w h => h)) (fun us w hl h => ld_ivl0 hl h)
  · exact q_loadRat hp (free_of rfl) trivial (List.mem_iff_getElem?.2 ⟨1, rfl⟩) (.inl rfl) rfl (sq_out rfl rfl (fun _ _ => rfl)) (fun us w hl h => h)
  · exact q_call2 (F := (Fq.pair a.num (a.den : Int)).P) (G := (Fq.pair q.num (q.den : Int)).P) hp (free_of rfl) trivial (enq_Q_Mul) (sq_in 1 rfl rfl (by simp) rfl (fun v w h => h)) (sq_in 2 rfl rfl (by simp) rfl (fun v w h => h)) (fun v v' w h h' => exMulQ h h' (rb_le ha.out (by omega)) (rb_le hq.out (by omega)))
  · exact q_addr (b := b1) (off := 0) (off' := 4) hp (free_of rfl) trivial (sq_out rfl rfl (fun _ _ => rfl)) (fun ρ w h => by simp [execOp, go_sem, h]) (fun _ => rfl)
  · exact q_loadRatAt (off := 4) hp (free_of rfl) trivial (List.mem_iff_getElem?.2 ⟨2, rfl⟩) (.inl rfl) (Nat.le_of_ble_eq_true rfl) (sq_in 4 rfl rfl (by simp) rfl (fun v w h => h)) (fun us w hl h => ld_ivl1 hl h)
  · exact q_loadRat hp (free_of rfl) trivial (List.mem_iff_getElem?.2 ⟨1, rfl⟩) (.inl rfl) rfl (sq_out rfl rfl (fun _ _ => rfl)) (fun us w hl h => h)
  · exact q_call2 (F := (Fq.pair b.num (b.den : Int)).P) (G := (Fq.pair q.num (q.den : Int)).P) hp (free_of rfl) trivial (enq_Q_Mul) (sq_in 5 rfl rfl (by simp) rfl (fun v w h => h)) (sq_in 6 rfl rfl (by simp) rfl (fun v w h => h)) (fun v v' w h h' => exMulQ h h' (rb_le hb.out (by omega)) (rb_le hq.out (by omega)))
  · exact q_buildRats1 hp (List.mem_iff_getElem?.2 ⟨0, rfl⟩) rfl rfl rfl rfl rfl (sq_in 7 rfl rfl (by simp) rfl (fun v w h => h)) (fun _ _ => trivial) (old_ne rfl) (newks_ne rfl)
  · exact q_callPSl (F := (Fq.pair (a * q).num ((a * q).den : Int)).P) hp (free_of rfl) trivial enq_Q_hull (List.mem_iff_getElem?.2 ⟨0, rfl⟩) rfl (sq_in 3 rfl rfl (by simp) rfl (fun v w h => h)) (own_ptr rfl rfl (by simp) rfl) (fun v bx w h hbx => exHull (a := a * q) (r := [b * q]) h hbx rfl (Nat.le_of_ble_eq_true rfl) (rb_le B4.out (by omega)) (allR (rb_le B5.out (by omega)) nilR))
  · exact q_storeOldIvl hp (List.mem_iff_getElem?.2 ⟨0, rfl⟩) rfl rfl (sq_out rfl rfl (fun _ _ => rfl)) (sq_in 9 rfl rfl (by simp) rfl (fun v w h => h.parts)) (fun _ _ => trivial) (newik_ne rfl)
  intro L vs w8 nb hL hC hn E8
  have e0 : vs 0 = .pointer (some ⟨b1, 0, none⟩) := hC 0 (by simp)
  have e4 : vs 4 = .pointer (some ⟨b1, 4, none⟩) := hC 4 (by simp)
  have e8 : vs 8 = .slice (some ⟨nb 8, 0, none⟩) 1 1 := hn _ (List.mem_iff_getElem?.2 ⟨0, rfl⟩)
  have E : Fr w [(nb 8, 4, Fq.rats [((b * q).num, ((b * q).den : Int))]), (b3, 8, Fq.ivl (leastQ (a * q) [b * q]).num ((leastQ (a * q) [b * q]).den : Int) (greatQ (a * q) [b * q]).num ((greatQ (a * q) [b * q]).den : Int)), (b2, 4, Fq.pair q.num (q.den : Int)), (b1, 8, Fq.ivl a.num (a.den : Int) b.num (b.den : Int))] w8 := E8
  rw [lay_all hL]
  simp only [putAll, dstOf, List.length_cons, List.length_nil, Nat.zero_add, Nat.reduceAdd, List.getElem?_toArray, List.getElem?_cons_zero, List.getElem?_cons_succ, Option.bind_some, Act.put, List.setIfInBounds_toArray, List.set_cons_succ, List.set_cons_zero]
  rw [e0, e4, e8]
  generalize nb 8 = b8_8 at E ⊢
  generalize vs 1 = u8_1
  generalize vs 2 = u8_2
  generalize vs 3 = u8_3
  generalize vs 5 = u8_5
  generalize vs 6 = u8_6
  generalize vs 7 = u8_7
  generalize vs 9 = u8_9
  clear e0 e4 e8 hC hn E8 hL vs L nb
  obtain ⟨p0, p1, p2, p3, p4, p5, p6, p7, c0, c1, c2, c3, c4, c5, c6, c7, hP⟩ := box_ivl (E.box 1 rfl)
  clear B4 B5 B6 B7 ha hb hq
  go_wp2
  refine bodyPost_ret (v := .agg #[p0, p1, p2, p3, p4, p5, p6, p7]) ?_ rfl ⟨_, rfl, E.below, hP⟩
  simp [results, Tryz.results32, go_sem, c0, c1, c2, c3, c4, c5, c6, c7]

set_option maxRecDepth 100000 in
set_option maxHeartbeats 4000000 in
theorem exQExactly {w : World} {v : Value} {a : Rat} (h : Pair w v a.num a.den) (ha : Rb a 300) :
    Calls Tryz.prog 38 #[v] w fun e w' => ∃ v', e = .returned v' ∧ Below w.heap.size w w' ∧ Ivl w' v' a.num (a.den : Int) a.num (a.den : Int) := by
  replace ha := hidd ha
  obtain ⟨n0, ao0, k0, c0, n0', ao0', k0', c0', rfl, _⟩ := ratV_pair h
  obtain ⟨w1, b1, hw1, hb1, hs1, E⟩ := fr_start w (F := Fq.pair a.num (a.den : Int)) (us := [.bool n0, .slice ao0 k0 c0, .bool n0', .slice ao0' k0' c0']) 31 rfl (by simp) (tame_rat _ _ _ _ _ _ _ _) h
  obtain ⟨w2, b2, hw2, hb2, hs2, E⟩ := fr_more E hs1 (F := Fq.ivl 0 0 0 0) (us := [.bool false, .slice none 0 0, .bool false, .slice none 0 0, .bool false, .slice none 0 0, .bool false, .slice none 0 0]) 47 rfl (by simp) (tame_ivl _ _ _ _ _ _ _ _ _ _ _ _ _ _ _ _) (Ivl.zero _)
  go_enter Tryz.func38, Tryz.ntmps38
  go_upto_region 1 with (fail)
  rw [← hw1]
  rw [← hw2]
  rw [← hb2]
  rw [← hb1]
  clear hw1 hw2 hb1 hb2 hs2 hs1
  refine region_fr (C := [Fq.pair a.num (a.den : Int), Fq.ivl a.num (a.den : Int) a.num (a.den : Int), Fq.any]) (ks := [some (2, Fq.ivl a.num (a.den : Int) a.num (a.den : Int)), none]) (new := []) E rfl (by kernel_rfl) rfl rfl (fun hp => ⟨?_, ?_, ?_, trivial⟩) ?_
  · exact q_loadRat hp (free_of rfl) trivial (List.mem_iff_getElem?.2 ⟨1, rfl⟩) (.inl rfl) rfl (sq_out rfl rfl (fun _ _ => rfl)) (fun us w hl h => h)
  · exact q_call2 (F := (Fq.pair a.num (a.den : Int)).P) (G := (Fq.is (.slice none 0 0)).P) hp (free_of rfl) trivial (enq_Q_hull) (sq_in 0 rfl rfl (by simp) rfl (fun v w h => h)) (sq_const (fun _ => rfl)) (fun v v' w h h' => (by subst h'; exact exHull0 h (rb_le ha.out (by omega))))
  · exact q_storeOldIvl hp (List.mem_iff_getElem?.2 ⟨0, rfl⟩) rfl rfl (sq_out rfl rfl (fun _ _ => rfl)) (sq_in 1 rfl rfl (by simp) rfl (fun v w h => h.parts)) (fun _ _ => trivial) (newik_ne rfl)
  intro L vs w3 nb hL hC hn E3
  have E : Fr w [(b2, 8, Fq.ivl a.num (a.den : Int) a.num (a.den : Int)), (b1, 4, Fq.pair a.num (a.den : Int))] w3 := E3
  rw [lay_all hL]
  simp only [putAll, dstOf, List.length_cons, List.length_nil, Nat.zero_add, Nat.reduceAdd, List.getElem?_toArray, List.getElem?_cons_zero, List.getElem?_cons_succ, Option.bind_some, Act.put, List.setIfInBounds_toArray, List.set_cons_succ, List.set_cons_zero]
  generalize vs 0 = u3_0
  generalize vs 1 = u3_1
  clear  hC hn E3 hL vs L nb
  obtain ⟨p0, p1, p2, p3, p4, p5, p6, p7, c0, c1, c2, c3, c4, c5, c6, c7, hP⟩ := box_ivl (E.box 0 rfl)
  clear ha
  go_wp2
  refine bodyPost_ret (v := .agg #[p0, p1, p2, p3, p4, p5, p6, p7]) ?_ rfl ⟨_, rfl, E.below, hP⟩
  simp [results, Tryz.results38, go_sem, c0, c1, c2, c3, c4, c5, c6, c7]

set_option maxRecDepth 100000 in
set_option maxHeartbeats 4000000 in
theorem exQHas {w : World} {v v' : Value} {a b q : Rat} (h : Ivl w v a.num a.den b.num b.den) (h' : Pair w v' q.num q.den) (ha : Rb a 300) (hb : Rb b 300) (hq : Rb q 300) :
    Calls Tryz.prog 39 #[v, v'] w fun e w' => ∃ v', e = .returned v' ∧ Below w.heap.size w w' ∧ v' = .bool (decide (a ≤ q) && decide (q ≤ b)) := by
  replace ha := hidd ha
  replace hb := hidd hb
  replace hq := hidd hq
  obtain ⟨n0_0, ao0_0, k0_0, c0_0, n0_1, ao0_1, k0_1, c0_1, n0_2, ao0_2, k0_2, c0_2, n0_3, ao0_3, k0_3, c0_3, rfl, _⟩ := h.parts
  obtain ⟨n1, ao1, k1, c1, n1', ao1', k1', c1', rfl, _⟩ := ratV_pair h'
  obtain ⟨w1, b1, hw1, hb1, hs1, E⟩ := fr_start w (F := Fq.ivl a.num (a.den : Int) b.num (b.den : Int)) (us := [.bool n0_0, .slice ao0_0 k0_0 c0_0, .bool n0_1, .slice ao0_1 k0_1 c0_1, .bool n0_2, .slice ao0_2 k0_2 c0_2, .bool n0_3, .slice ao0_3 k0_3 c0_3]) 47 rfl (by simp) (tame_ivl _ _ _ _ _ _ _ _ _ _ _ _ _ _ _ _) h
  obtain ⟨w2, b2, hw2, hb2, hs2, E⟩ := fr_more E hs1 (F := Fq.pair q.num (q.den : Int)) (us := [.bool n1, .slice ao1 k1 c1, .bool n1', .slice ao1' k1' c1']) 31 rfl (by simp) (tame_rat _ _ _ _ _ _ _ _) (h'.mono E.below)
  go_enter Tryz.func39, Tryz.ntmps39
  go_upto_region 1 with (fail)
  rw [← hw1]
  rw [← hw2]
  rw [← hb2]
  rw [← hb1]
  clear hw1 hw2 hb1 hb2 hs2 hs1
  by_cases h1 : a ≤ q
  · have T1 := hidd (cmpQ_leN.2 h1)
    have e1 := hidd (decide_eq_true h1)
    clear h1
    by_cases h2 : q ≤ b
    · have T2 := hidd (cmpQ_leN.2 h2)
      have e2 := hidd (decide_eq_true h2)
      clear h2
      refine region_fr (C := [Fq.is (.pointer (some ⟨b1, 0, none⟩)), Fq.pair a.num (a.den : Int), Fq.pair q.num (q.den : Int), Fq.is (.int .i64 (cmpQ a q)), Fq.is (.bool true), Fq.is (.bool true), Fq.pair q.num (q.den : Int), Fq.is (.pointer (some ⟨b1, 4, none⟩)), Fq.pair b.num (b.den : Int), Fq.is (.int .i64 (cmpQ q b)), Fq.is (.bool true), Fq.is (.bool true), Fq.is (.bool true)]) (ks := [none, none]) (new := []) E rfl (by kernel_rfl) rfl rfl (fun hp => ⟨?_, ?_, ?_, ?_, ?_, ?_, ?_, ?_, ?_, ?_, ?_, ?_, ?_, trivial⟩) ?_
      · exact q_addr (b := b1) (off := 0) (off' := 0) hp (free_of rfl) trivial (sq_out rfl rfl (fun _ _ => rfl)) (fun ρ w h => by simp [execOp, go_sem, h]) (fun _ => rfl)
      · exact q_loadRatAt (off := 0) hp (free_of rfl) trivial (List.mem_iff_getElem?.2 ⟨1, rfl⟩) (.inl rfl) (Nat.le_of_ble_eq_true rfl) (sq_in 0 rfl rfl (by simp) rfl (fun v w h => h)) (fun us w hl h => ld_ivl0 hl h)
      · exact q_loadRat hp (free_of rfl) trivial (List.mem_iff_getElem?.2 ⟨0, rfl⟩) (.inl rfl) rfl (sq_out rfl rfl (fun _ _ => rfl)) (fun us w hl h => h)
      · exact q_call2 (F := (Fq.pair a.num (a.den : Int)).P) (G := (Fq.pair q.num (q.den : Int)).P) hp (free_of rfl) trivial (enq_Q_Cmp) (sq_in 1 rfl rfl (by simp) rfl (fun v w h => h)) (sq_in 2 rfl rfl (by simp) rfl (fun v w h => h)) (fun v v' w h h' => exCmpQ h h' (rb_le ha.out (by omega)) (rb_le hq.out (by omega)))
      · exact q_one (F := fun v _ => v = .int .i64 (cmpQ a q)) hp (free_of rfl) trivial (sq_in 3 rfl rfl (by simp) rfl (fun v w h => h)) (fun ρ w hc h => ⟨.bool true, by simp [execOp, go_sem, h, hc, T1.out], rfl⟩)
      · exact q_move hp (free_of rfl) trivial (sq_in 4 rfl rfl (by simp) rfl (fun v w h => h))
      · exact q_loadRat hp (free_of rfl) (gq_some rfl rfl (by simp) rfl (fun v w h => h)) (List.mem_iff_getElem?.2 ⟨0, rfl⟩) (.inl rfl) rfl (sq_out rfl rfl (fun _ _ => rfl)) (fun us w hl h => h)
      · exact q_addr (b := b1) (off := 0) (off' := 4) hp (free_of rfl) (gq_some rfl rfl (by simp) rfl (fun v w h => h)) (sq_out rfl rfl (fun _ _ => rfl)) (fun ρ w h => by simp [execOp, go_sem, h]) (fun _ => rfl)
      · exact q_loadRatAt (off := 4) hp (free_of rfl) (gq_some rfl rfl (by simp) rfl (fun v w h => h)) (List.mem_iff_getElem?.2 ⟨1, rfl⟩) (.inl rfl) (Nat.le_of_ble_eq_true rfl) (sq_in 7 rfl rfl (by simp) rfl (fun v w h => h)) (fun us w hl h => ld_ivl1 hl h)
      · exact q_call2 (F := (Fq.pair q.num (q.den : Int)).P) (G := (Fq.pair b.num (b.den : Int)).P) hp (free_of rfl) (gq_some rfl rfl (by simp) rfl (fun v w h => h)) (enq_Q_Cmp) (sq_in 6 rfl rfl (by simp) rfl (fun v w h => h)) (sq_in 8 rfl rfl (by simp) rfl (fun v w h => h)) (fun v v' w h h' => exCmpQ h h' (rb_le hq.out (by omega)) (rb_le hb.out (by omega)))
      · exact q_one (F := fun v _ => v = .int .i64 (cmpQ q b)) hp (free_of rfl) (gq_some rfl rfl (by simp) rfl (fun v w h => h)) (sq_in 9 rfl rfl (by simp) rfl (fun v w h => h)) (fun ρ w hc h => ⟨.bool true, by simp [execOp, go_sem, h, hc, T2.out], rfl⟩)
      · exact q_two (F := fun v _ => v = .bool true) (G := fun v _ => v = .bool true) hp (free_of rfl) trivial (sq_in 5 rfl rfl (by simp) rfl (fun v w h => h)) (sq_in 10 rfl rfl (by simp) rfl (fun v w h => h)) (fun ρ w hc h h' => ⟨_, by simp [execOp, go_sem, h, h'], rfl⟩)
      · exact q_assign hp (free_of rfl) trivial (sq_in 11 rfl rfl (by simp) rfl (fun v w h => h))
      intro L vs w3 nb hL hC hn E3
      have e0 : vs 0 = .pointer (some ⟨b1, 0, none⟩) := hC 0 (by simp)
      have e3 : vs 3 = .int .i64 (cmpQ a q) := hC 3 (by simp)
      have e4 : vs 4 = .bool true := hC 4 (by simp)
      have e5 : vs 5 = .bool true := hC 5 (by simp)
      have e7 : vs 7 = .pointer (some ⟨b1, 4, none⟩) := hC 7 (by simp)
      have e9 : vs 9 = .int .i64 (cmpQ q b) := hC 9 (by simp)
      have e10 : vs 10 = .bool true := hC 10 (by simp)
      have e11 : vs 11 = .bool true := hC 11 (by simp)
      have e12 : vs 12 = .bool true := hC 12 (by simp)
      have E : Fr w [(b2, 4, Fq.pair q.num (q.den : Int)), (b1, 8, Fq.ivl a.num (a.den : Int) b.num (b.den : Int))] w3 := E3
      rw [lay_all hL]
      simp only [putAll, dstOf, List.length_cons, List.length_nil, Nat.zero_add, Nat.reduceAdd, List.getElem?_toArray, List.getElem?_cons_zero, List.getElem?_cons_succ, Option.bind_some, Act.put, List.setIfInBounds_toArray, List.set_cons_succ, List.set_cons_zero]
      rw [e0, e3, e4, e5, e7, e9, e10, e11, e12]
      generalize vs 1 = u3_1
      generalize vs 2 = u3_2
      generalize vs 6 = u3_6
      generalize vs 8 = u3_8
      clear e0 e3 e4 e5 e7 e9 e10 e11 e12 hC hn E3 hL vs L nb
      clear T1 T2
      clear ha hb hq
      go_wp2
      refine bodyPost_ret (v := .bool true) ?_ rfl (by first | exact ⟨_, rfl, E.below, by rw [e1.out, e2.out]; rfl⟩ | exact ⟨_, rfl, E.below⟩ | exact ⟨rfl, E.below⟩)
      simp [results, Tryz.results39, go_sem]
    · have T2 := hidd (mt cmpQ_leN.1 h2)
      have e2 := hidd (decide_eq_false h2)
      clear h2
      refine region_fr (C := [Fq.is (.pointer (some ⟨b1, 0, none⟩)), Fq.pair a.num (a.den : Int), Fq.pair q.num (q.den : Int), Fq.is (.int .i64 (cmpQ a q)), Fq.is (.bool true), Fq.is (.bool true), Fq.pair q.num (q.den : Int), Fq.is (.pointer (some ⟨b1, 4, none⟩)), Fq.pair b.num (b.den : Int), Fq.is (.int .i64 (cmpQ q b)), Fq.is (.bool false), Fq.is (.bool false), Fq.is (.bool false)]) (ks := [none, none]) (new := []) E rfl (by kernel_rfl) rfl rfl (fun hp => ⟨?_, ?_, ?_, ?_, ?_, ?_, ?_, ?_, ?_, ?_, ?_, ?_, ?_, trivial⟩) ?_
      · exact q_addr (b := b1) (off := 0) (off' := 0) hp (free_of rfl) trivial (sq_out rfl rfl (fun _ _ => rfl)) (fun ρ w h => by simp [execOp, go_sem, h]) (fun _ => rfl)
      · exact q_loadRatAt (off := 0) hp (free_of rfl) trivial (List.mem_iff_getElem?.2 ⟨1, rfl⟩) (.inl rfl) (Nat.le_of_ble_eq_true rfl) (sq_in 0 rfl rfl (by simp) rfl (fun v w h => h)) (fun us w hl h => ld_ivl0 hl h)
      · exact q_loadRat hp (free_of rfl) trivial (List.mem_iff_getElem?.2 ⟨0, rfl⟩) (.inl rfl) rfl (sq_out rfl rfl (fun _ _ => rfl)) (fun us w hl h => h)
      · exact q_call2 (F := (Fq.pair a.num (a.den : Int)).P) (G := (Fq.pair q.num (q.den : Int)).P) hp (free_of rfl) trivial (enq_Q_Cmp) (sq_in 1 rfl rfl (by simp) rfl (fun v w h => h)) (sq_in 2 rfl rfl (by simp) rfl (fun v w h => h)) (fun v v' w h h' => exCmpQ h h' (rb_le ha.out (by omega)) (rb_le hq.out (by omega)))
      · exact q_one (F := fun v _ => v = .int .i64 (cmpQ a q)) hp (free_of rfl) trivial (sq_in 3 rfl rfl (by simp) rfl (fun v w h => h)) (fun ρ w hc h => ⟨.bool true, by simp [execOp, go_sem, h, hc, T1.out], rfl⟩)
      · exact q_move hp (free_of rfl) trivial (sq_in 4 rfl rfl (by simp) rfl (fun v w h => h))
      · exact q_loadRat hp (free_of rfl) (gq_some rfl rfl (by simp) rfl (fun v w h => h)) (List.mem_iff_getElem?.2 ⟨0, rfl⟩) (.inl rfl) rfl (sq_out rfl rfl (fun _ _ => rfl)) (fun us w hl h => h)
      · exact q_addr (b := b1) (off := 0) (off' := 4) hp (free_of rfl) (gq_some rfl rfl (by simp) rfl (fun v w h => h)) (sq_out rfl rfl (fun _ _ => rfl)) (fun ρ w h => by simp [execOp, go_sem, h]) (fun _ => rfl)
      · exact q_loadRatAt (off := 4) hp (free_of rfl) (gq_some rfl rfl (by simp) rfl (fun v w h => h)) (List.mem_iff_getElem?.2 ⟨1, rfl⟩) (.inl rfl) (Nat.le_of_ble_eq_true rfl) (sq_in 7 rfl rfl (by simp) rfl (fun v w h => h)) (fun us w hl h => ld_ivl1 hl h)
      · exact q_call2 (F := (Fq.pair q.num (q.den : Int)).P) (G := (Fq.pair b.num (b.den : Int)).P) hp (free_of rfl) (gq_some rfl rfl (by simp) rfl (fun v w h => h)) (enq_Q_Cmp) (sq_in 6 rfl rfl (by simp) rfl (fun v w h => h)) (sq_in 8 rfl rfl (by simp) rfl (fun v w h => h)) (fun v v' w h h' => exCmpQ h h' (rb_le hq.out (by omega)) (rb_le hb.out (by omega)))
      · exact q_one (F := fun v _ => v = .int .i64 (cmpQ q b)) hp (free_of rfl) (gq_some rfl rfl (by simp) rfl (fun v w h => h)) (sq_in 9 rfl rfl (by simp) rfl (fun v w h => h)) (fun ρ w hc h => ⟨.bool false, by simp [execOp, go_sem, h, hc, T2.out], rfl⟩)
      · exact q_two (F := fun v _ => v = .bool true) (G := fun v _ => v = .bool false) hp (free_of rfl) trivial (sq_in 5 rfl rfl (by simp) rfl (fun v w h => h)) (sq_in 10 rfl rfl (by simp) rfl (fun v w h => h)) (fun ρ w hc h h' => ⟨_, by simp [execOp, go_sem, h, h'], rfl⟩)
      · exact q_assign hp (free_of rfl) trivial (sq_in 11 rfl rfl (by simp) rfl (fun v w h => h))
      intro L vs w4 nb hL hC hn E4
      have e0 : vs 0 = .pointer (some ⟨b1, 0, none⟩) := hC 0 (by simp)
      have e3 : vs 3 = .int .i64 (cmpQ a q) := hC 3 (by simp)
      have e4 : vs 4 = .bool true := hC 4 (by simp)
      have e5 : vs 5 = .bool true := hC 5 (by simp)
      have e7 : vs 7 = .pointer (some ⟨b1, 4, none⟩) := hC 7 (by simp)
      have e9 : vs 9 = .int .i64 (cmpQ q b) := hC 9 (by simp)
      have e10 : vs 10 = .bool false := hC 10 (by simp)
      have e11 : vs 11 = .bool false := hC 11 (by simp)
      have e12 : vs 12 = .bool false := hC 12 (by simp)
      have E : Fr w [(b2, 4, Fq.pair q.num (q.den : Int)), (b1, 8, Fq.ivl a.num (a.den : Int) b.num (b.den : Int))] w4 := E4
      rw [lay_all hL]
      simp only [putAll, dstOf, List.length_cons, List.length_nil, Nat.zero_add, Nat.reduceAdd, List.getElem?_toArray, List.getElem?_cons_zero, List.getElem?_cons_succ, Option.bind_some, Act.put, List.setIfInBounds_toArray, List.set_cons_succ, List.set_cons_zero]
      rw [e0, e3, e4, e5, e7, e9, e10, e11, e12]
      generalize vs 1 = u4_1
      generalize vs 2 = u4_2
      generalize vs 6 = u4_6
      generalize vs 8 = u4_8
      clear e0 e3 e4 e5 e7 e9 e10 e11 e12 hC hn E4 hL vs L nb
      clear T1 T2
      clear ha hb hq
      go_wp2
      refine bodyPost_ret (v := .bool false) ?_ rfl (by first | exact ⟨_, rfl, E.below, by rw [e1.out, e2.out]; rfl⟩ | exact ⟨_, rfl, E.below⟩ | exact ⟨rfl, E.below⟩)
      simp [results, Tryz.results39, go_sem]
  · have T1 := hidd (mt cmpQ_leN.1 h1)
    have e1 := hidd (decide_eq_false h1)
    clear h1
    refine region_fr (C := [Fq.is (.pointer (some ⟨b1, 0, none⟩)), Fq.pair a.num (a.den : Int), Fq.pair q.num (q.den : Int), Fq.is (.int .i64 (cmpQ a q)), Fq.is (.bool false), Fq.is (.bool false), Fq.is (undef), Fq.is (undef), Fq.is (undef), Fq.is (undef), Fq.is (undef), Fq.is (.bool false), Fq.is (.bool false)]) (ks := [none, none]) (new := []) E rfl (by kernel_rfl) rfl rfl (fun hp => ⟨?_, ?_, ?_, ?_, ?_, ?_, ?_, ?_, ?_, ?_, ?_, ?_, ?_, trivial⟩) ?_
    · exact q_addr (b := b1) (off := 0) (off' := 0) hp (free_of rfl) trivial (sq_out rfl rfl (fun _ _ => rfl)) (fun ρ w h => by simp [execOp, go_sem, h]) (fun _ => rfl)
    · exact q_loadRatAt (off := 0) hp (free_of rfl) trivial (List.mem_iff_getElem?.2 ⟨1, rfl⟩) (.inl rfl) (Nat.le_of_ble_eq_true rfl) (sq_in 0 rfl rfl (by simp) rfl (fun v w h => h)) (fun us w hl h => ld_ivl0 hl h)
    · exact q_loadRat hp (free_of rfl) trivial (List.mem_iff_getElem?.2 ⟨0, rfl⟩) (.inl rfl) rfl (sq_out rfl rfl (fun _ _ => rfl)) (fun us w hl h => h)
    · exact q_call2 (F := (Fq.pair a.num (a.den : Int)).P) (G := (Fq.pair q.num (q.den : Int)).P) hp (free_of rfl) trivial (enq_Q_Cmp) (sq_in 1 rfl rfl (by simp) rfl (fun v w h => h)) (sq_in 2 rfl rfl (by simp) rfl (fun v w h => h)) (fun v v' w h h' => exCmpQ h h' (rb_le ha.out (by omega)) (rb_le hq.out (by omega)))
    · exact q_one (F := fun v _ => v = .int .i64 (cmpQ a q)) hp (free_of rfl) trivial (sq_in 3 rfl rfl (by simp) rfl (fun v w h => h)) (fun ρ w hc h => ⟨.bool false, by simp [execOp, go_sem, h, hc, T1.out], rfl⟩)
    · exact q_move hp (free_of rfl) trivial (sq_in 4 rfl rfl (by simp) rfl (fun v w h => h))
    · exact q_skip hp (free_of rfl) rfl (gq_some rfl rfl (by simp) rfl (fun v w h => h)) (fun _ => rfl)
    · exact q_skip hp (free_of rfl) rfl (gq_some rfl rfl (by simp) rfl (fun v w h => h)) (fun _ => rfl)
    · exact q_skip hp (free_of rfl) rfl (gq_some rfl rfl (by simp) rfl (fun v w h => h)) (fun _ => rfl)
    · exact q_skip hp (free_of rfl) rfl (gq_some rfl rfl (by simp) rfl (fun v w h => h)) (fun _ => rfl)
    · exact q_skip hp (free_of rfl) rfl (gq_some rfl rfl (by simp) rfl (fun v w h => h)) (fun _ => rfl)
    · exact q_two (F := fun v _ => v = .bool false) (G := fun v _ => v = .bool false) hp (free_of rfl) trivial (sq_in 5 rfl rfl (by simp) rfl (fun v w h => h)) (sq_const (fun _ => rfl)) (fun ρ w hc h h' => ⟨_, by simp [execOp, go_sem, h, h'], rfl⟩)
    · exact q_assign hp (free_of rfl) trivial (sq_in 11 rfl rfl (by simp) rfl (fun v w h => h))
    intro L vs w5 nb hL hC hn E5
    have e0 : vs 0 = .pointer (some ⟨b1, 0, none⟩) := hC 0 (by simp)
    have e3 : vs 3 = .int .i64 (cmpQ a q) := hC 3 (by simp)
    have e4 : vs 4 = .bool false := hC 4 (by simp)
    have e5 : vs 5 = .bool false := hC 5 (by simp)
    have e6 : vs 6 = undef := hC 6 (by simp)
    have e7 : vs 7 = undef := hC 7 (by simp)
    have e8 : vs 8 = undef := hC 8 (by simp)
    have e9 : vs 9 = undef := hC 9 (by simp)
    have e10 : vs 10 = undef := hC 10 (by simp)
    have e11 : vs 11 = .bool false := hC 11 (by simp)
    have e12 : vs 12 = .bool false := hC 12 (by simp)
    have E : Fr w [(b2, 4, Fq.pair q.num (q.den : Int)), (b1, 8, Fq.ivl a.num (a.den : Int) b.num (b.den : Int))] w5 := E5
    rw [lay_all hL]
    simp only [putAll, dstOf, List.length_cons, List.length_nil, Nat.zero_add, Nat.reduceAdd, List.getElem?_toArray, List.getElem?_cons_zero, List.getElem?_cons_succ, Option.bind_some, Act.put, List.setIfInBounds_toArray, List.set_cons_succ, List.set_cons_zero]
    rw [e0, e3, e4, e5, e6, e7, e8, e9, e10, e11, e12]
    generalize vs 1 = u5_1
    generalize vs 2 = u5_2
    clear e0 e3 e4 e5 e6 e7 e8 e9 e10 e11 e12 hC hn E5 hL vs L nb
    clear T1
    clear ha hb hq
    go_wp2
    refine bodyPost_ret (v := .bool false) ?_ rfl (by first | exact ⟨_, rfl, E.below, by rw [e1.out]; rfl⟩ | exact ⟨_, rfl, E.below⟩ | exact ⟨rfl, E.below⟩)
    simp [results, Tryz.results39, go_sem]

set_option maxRecDepth 100000 in
set_option maxHeartbeats 4000000 in
theorem exSHas {w : World} {v v' : Value} {a b q : Rat} (h : Ivl w v a.num a.den b.num b.den) (h' : Pair w v' q.num q.den) (ha : Rb a 300) (hb : Rb b 300) (hq : Rb q 300) :
    Calls Tryz.prog 37 #[v, v'] w fun e w' => ∃ v', e = .returned v' ∧ Below w.heap.size w w' ∧ v' = .bool (decide (a ≤ q) && decide (q ≤ b)) := by
  replace ha := hidd ha
  replace hb := hidd hb
  replace hq := hidd hq
  obtain ⟨n0_0, ao0_0, k0_0, c0_0, n0_1, ao0_1, k0_1, c0_1, n0_2, ao0_2, k0_2, c0_2, n0_3, ao0_3, k0_3, c0_3, rfl, _⟩ := h.parts
  obtain ⟨n1, ao1, k1, c1, n1', ao1', k1', c1', rfl, _⟩ := ratV_pair h'
  obtain ⟨w1, b1, hw1, hb1, hs1, E⟩ := fr_start w (F := Fq.ivl a.num (a.den : Int) b.num (b.den : Int)) (us := [.bool n0_0, .slice ao0_0 k0_0 c0_0, .bool n0_1, .slice ao0_1 k0_1 c0_1, .bool n0_2, .slice ao0_2 k0_2 c0_2, .bool n0_3, .slice ao0_3 k0_3 c0_3]) 47 rfl (by simp) (tame_ivl _ _ _ _ _ _ _ _ _ _ _ _ _ _ _ _) h
  obtain ⟨w2, b2, hw2, hb2, hs2, E⟩ := fr_more E hs1 (F := Fq.pair q.num (q.den : Int)) (us := [.bool n1, .slice ao1 k1 c1, .bool n1', .slice ao1' k1' c1']) 31 rfl (by simp) (tame_rat _ _ _ _ _ _ _ _) (h'.mono E.below)
  go_enter Tryz.func37, Tryz.ntmps37
  go_upto_region 1 with (fail)
  rw [← hw1]
  rw [← hw2]
  rw [← hb2]
  rw [← hb1]
  clear hw1 hw2 hb1 hb2 hs2 hs1
  by_cases h1 : a ≤ q
  · have T1 := hidd (cmpQ_leN.2 h1)
    have e1 := hidd (decide_eq_true h1)
    clear h1
    by_cases h2 : q ≤ b
    · have T2 := hidd (cmpQ_leN.2 h2)
      have e2 := hidd (decide_eq_true h2)
      clear h2
      refine region_fr (C := [Fq.is (.pointer (some ⟨b1, 0, none⟩)), Fq.pair a.num (a.den : Int), Fq.pair q.num (q.den : Int), Fq.is (.int .i64 (cmpQ a q)), Fq.is (.bool true), Fq.is (.bool true), Fq.pair q.num (q.den : Int), Fq.is (.pointer (some ⟨b1, 4, none⟩)), Fq.pair b.num (b.den : Int), Fq.is (.int .i64 (cmpQ q b)), Fq.is (.bool true), Fq.is (.bool true), Fq.is (.bool true)]) (ks := [none, none]) (new := []) E rfl (by kernel_rfl) rfl rfl (fun hp => ⟨?_, ?_, ?_, ?_, ?_, ?_, ?_, ?_, ?_, ?_, ?_, ?_, ?_, trivial⟩) ?_
      · exact q_addr (b := b1) (off := 0) (off' := 0) hp (free_of rfl) trivial (sq_out rfl rfl (fun _ _ => rfl)) (fun ρ w h => by simp [execOp, go_sem, h]) (fun _ => rfl)
      · exact q_loadRatAt (off := 0) hp (free_of rfl) trivial (List.mem_iff_getElem?.2 ⟨1, rfl⟩) (.inl rfl) (Nat.le_of_ble_eq_true rfl) (sq_in 0 rfl rfl (by simp) rfl (fun v w h => h)) (fun us w hl h => ld_ivl0 hl h)
      · exact q_loadRat hp (free_of rfl) trivial (List.mem_iff_getElem?.2 ⟨0, rfl⟩) (.inl rfl) rfl (sq_out rfl rfl (fun _ _ => rfl)) (fun us w hl h => h)
      · exact q_call2 (F := (Fq.pair a.num (a.den : Int)).P) (G := (Fq.pair q.num (q.den : Int)).P) hp (free_of rfl) trivial (enq_S_Cmp) (sq_in 1 rfl rfl (by simp) rfl (fun v w h => h)) (sq_in 2 rfl rfl (by simp) rfl (fun v w h => h)) (fun v v' w h h' => exSCmpQ h h' (rb_le ha.out (by omega)) (rb_le hq.out (by omega)))
      · exact q_one (F := fun v _ => v = .int .i64 (cmpQ a q)) hp (free_of rfl) trivial (sq_in 3 rfl rfl (by simp) rfl (fun v w h => h)) (fun ρ w hc h => ⟨.bool true, by simp [execOp, go_sem, h, hc, T1.out], rfl⟩)
      · exact q_move hp (free_of rfl) trivial (sq_in 4 rfl rfl (by simp) rfl (fun v w h => h))
      · exact q_loadRat hp (free_of rfl) (gq_some rfl rfl (by simp) rfl (fun v w h => h)) (List.mem_iff_getElem?.2 ⟨0, rfl⟩) (.inl rfl) rfl (sq_out rfl rfl (fun _ _ => rfl)) (fun us w hl h => h)
      · exact q_addr (b := b1) (off := 0) (off' := 4) hp (free_of rfl) (gq_some rfl rfl (by simp) rfl (fun v w h => h)) (sq_out rfl rfl (fun _ _ => rfl)) (fun ρ w h => by simp [execOp, go_sem, h]) (fun _ => rfl)
      · exact q_loadRatAt (off := 4) hp (free_of rfl) (gq_some rfl rfl (by simp) rfl (fun v w h => h)) (List.mem_iff_getElem?.2 ⟨1, rfl⟩) (.inl rfl) (Nat.le_of_ble_eq_true rfl) (sq_in 7 rfl rfl (by simp) rfl (fun v w h => h)) (fun us w hl h => ld_ivl1 hl h)
      · exact q_call2 (F := (Fq.pair q.num (q.den : Int)).P) (G := (Fq.pair b.num (b.den : Int)).P) hp (free_of rfl) (gq_some rfl rfl (by simp) rfl (fun v w h => h)) (enq_S_Cmp) (sq_in 6 rfl rfl (by simp) rfl (fun v w h => h)) (sq_in 8 rfl rfl (by simp) rfl (fun v w h => h)) (fun v v' w h h' => exSCmpQ h h' (rb_le hq.out (by omega)) (rb_le hb.out (by omega)))
      · exact q_one (F := fun v _ => v = .int .i64 (cmpQ q b)) hp (free_of rfl) (gq_some rfl rfl (by simp) rfl (fun v w h => h)) (sq_in 9 rfl rfl (by simp) rfl (fun v w h => h)) (fun ρ w hc h => ⟨.bool true, by simp [execOp, go_sem, h, hc, T2.out], rfl⟩)
      · exact q_two (F := fun v _ => v = .bool true) (G := fun v _ => v = .bool true) hp (free_of rfl) trivial (sq_in 5 rfl rfl (by simp) rfl (fun v w h => h)) (sq_in 10 rfl rfl (by simp) rfl (fun v w h => h)) (fun ρ w hc h h' => ⟨_, by simp [execOp, go_sem, h, h'], rfl⟩)
      · exact q_assign hp (free_of rfl) trivial (sq_in 11 rfl rfl (by simp) rfl (fun v w h => h))
      intro L vs w3 nb hL hC hn E3
      have e0 : vs 0 = .pointer (some ⟨b1, 0, none⟩) := hC 0 (by simp)
      have e3 : vs 3 = .int .i64 (cmpQ a q) := hC 3 (by simp)
      have e4 : vs 4 = .bool true := hC 4 (by simp)
      have e5 : vs 5 = .bool true := hC 5 (by simp)
      have e7 : vs 7 = .pointer (some ⟨b1, 4, none⟩) := hC 7 (by simp)
      have e9 : vs 9 = .int .i64 (cmpQ q b) := hC 9 (by simp)
      have e10 : vs 10 = .bool true := hC 10 (by simp)
      have e11 : vs 11 = .bool true := hC 11 (by simp)
      have e12 : vs 12 = .bool true := hC 12 (by simp)
      have E : Fr w [(b2, 4, Fq.pair q.num (q.den : Int)), (b1, 8, Fq.ivl a.num (a.den : Int) b.num (b.den : Int))] w3 := E3
      rw [lay_all hL]
      simp only [putAll, dstOf, List.length_cons, List.length_nil, Nat.zero_add, Nat.reduceAdd, List.getElem?_toArray, List.getElem?_cons_zero, List.getElem?_cons_succ, Option.bind_some, Act.put, List.setIfInBounds_toArray, List.set_cons_succ, List.set_cons_zero]
      rw [e0, e3, e4, e5, e7, e9, e10, e11, e12]
      generalize vs 1 = u3_1
      generalize vs 2 = u3_2
      generalize vs 6 = u3_6
      generalize vs 8 = u3_8
      clear e0 e3 e4 e5 e7 e9 e10 e11 e12 hC hn E3 hL vs L nb
      clear T1 T2
      clear ha hb hq
      go_wp2
      refine bodyPost_ret (v := .bool true) ?_ rfl (by first | exact ⟨_, rfl, E.below, by rw [e1.out, e2.out]; rfl⟩ | exact ⟨_, rfl, E.below⟩ | exact ⟨rfl, E.below⟩)
      simp [results, Tryz.results37, go_sem]
    · have T2 := hidd (mt cmpQ_leN.1 h2)
      have e2 := hidd (decide_eq_false h2)
      clear h2
      refine region_fr (C := [Fq.is (.pointer (some ⟨b1, 0, none⟩)), Fq.pair a.num (a.den : Int), Fq.pair q.num (q.den : Int), Fq.is (.int .i64 (cmpQ a q)), Fq.is (.bool true), Fq.is (.bool true), Fq.pair q.num (q.den : Int), Fq.is (.pointer (some ⟨b1, 4, none⟩)), Fq.pair b.num (b.den : Int), Fq.is (.int .i64 (cmpQ q b)), Fq.is (.bool false), Fq.is (.bool false), Fq.is (.bool false)]) (ks := [none, none]) (new := []) E rfl (by kernel_rfl) rfl rfl (fun hp => ⟨?_, ?_, ?_, ?_, ?_, ?_, ?_, ?_, ?_, ?_, ?_, ?_, ?_, trivial⟩) ?_
      · exact q_addr (b := b1) (off := 0) (off' := 0) hp (free_of rfl) trivial (sq_out rfl rfl (fun _ _ => rfl)) (fun ρ w h => by simp [execOp, go_sem, h]) (fun _ => rfl)
      · exact q_loadRatAt (off := 0) hp (free_of rfl) trivial (List.mem_iff_getElem?.2 ⟨1, rfl⟩) (.inl rfl) (Nat.le_of_ble_eq_true rfl) (sq_in 0 rfl rfl (by simp) rfl (fun v w h => h)) (fun us w hl h => ld_ivl0 hl h)
      · exact q_loadRat hp (free_of rfl) trivial (List.mem_iff_getElem?.2 ⟨0, rfl⟩) (.inl rfl) rfl (sq_out rfl rfl (fun _ _ => rfl)) (fun us w hl h => h)
      · exact q_call2 (F := (Fq.pair a.num (a.den : Int)).P) (G := (Fq.pair q.num (q.den : Int)).P) hp (free_of rfl) trivial (enq_S_Cmp) (sq_in 1 rfl rfl (by simp) rfl (fun v w h => h)) (sq_in 2 rfl rfl (by simp) rfl (fun v w h => h)) (fun v v' w h h' => exSCmpQ h h' (rb_le ha.out (by omega)) (rb_le hq.out (by omega)))
      · exact q_one (F := fun v _ => v = .int .i64 (cmpQ a q)) hp (free_of rfl) trivial (sq_in 3 rfl rfl (by simp) rfl (fun v w h => h)) (fun ρ w hc h => ⟨.bool true, by simp [execOp, go_sem, h, hc, T1.out], rfl⟩)
      · exact q_move hp (free_of rfl) trivial (sq_in 4 rfl rfl (by simp) rfl (fun v w h => h))
      · exact q_loadRat hp (free_of rfl) (gq_some rfl rfl (by simp) rfl (fun v w h => h)) (List.mem_iff_getElem?.2 ⟨0, rfl⟩) (.inl rfl) rfl (sq_out rfl rfl (fun _ _ => rfl)) (fun us w hl h => h)
      · exact q_addr (b := b1) (off := 0) (off' := 4) hp (free_of rfl) (gq_some rfl rfl (by simp) rfl (fun v w h => h)) (sq_out rfl rfl (fun _ _ => rfl)) (fun ρ w h => by simp [execOp, go_sem, h]) (fun _ => rfl)
      · exact q_loadRatAt (off := 4) hp (free_of rfl) (gq_some rfl rfl (by simp) rfl (fun v w h => h)) (List.mem_iff_getElem?.2 ⟨1, rfl⟩) (.inl rfl) (Nat.le_of_ble_eq_true rfl) (sq_in 7 rfl rfl (by simp) rfl (fun v w h => h)) (fun us w hl h => ld_ivl1 hl h)
      · exact q_call2 (F := (Fq.pair q.num (q.den : Int)).P) (G := (Fq.pair b.num (b.den : Int)).P) hp (free_of rfl) (gq_some rfl rfl (by simp) rfl (fun v w h => h)) (enq_S_Cmp) (sq_in 6 rfl rfl (by simp) rfl (fun v w h => h)) (sq_in 8 rfl rfl (by simp) rfl (fun v w h => h)) (fun v v' w h h' => exSCmpQ h h' (rb_le hq.out (by omega)) (rb_le hb.out (by omega)))
      · exact q_one (F := fun v _ => v = .int .i64 (cmpQ q b)) hp (free_of rfl) (gq_some rfl rfl (by simp) rfl (fun v w h => h)) (sq_in 9 rfl rfl (by simp) rfl (fun v w h => h)) (fun ρ w hc h => ⟨.bool false, by simp [execOp, go_sem, h, hc, T2.out], rfl⟩)
      · exact q_two (F := fun v _ => v = .bool true) (G := fun v _ => v = .bool false) hp (free_of rfl) trivial (sq_in 5 rfl rfl (by simp) rfl (fun v w h => h)) (sq_in 10 rfl rfl (by simp) rfl (fun v w h => h)) (fun ρ w hc h h' => ⟨_, by simp [execOp, go_sem, h, h'], rfl⟩)
      · exact q_assign hp (free_of rfl) trivial (sq_in 11 rfl rfl (by simp) rfl (fun v w h => h))
      intro L vs w4 nb hL hC hn E4
      have e0 : vs 0 = .pointer (some ⟨b1, 0, none⟩) := hC 0 (by simp)
      have e3 : vs 3 = .int .i64 (cmpQ a q) := hC 3 (by simp)
      have e4 : vs 4 = .bool true := hC 4 (by simp)
      have e5 : vs 5 = .bool true := hC 5 (by simp)
      have e7 : vs 7 = .pointer (some ⟨b1, 4, none⟩) := hC 7 (by simp)
      have e9 : vs 9 = .int .i64 (cmpQ q b) := hC 9 (by simp)
      have e10 : vs 10 = .bool false := hC 10 (by simp)
      have e11 : vs 11 = .bool false := hC 11 (by simp)
      have e12 : vs 12 = .bool false := hC 12 (by simp)
      have E : Fr w [(b2, 4, Fq.pair q.num (q.den : Int)), (b1, 8, Fq.ivl a.num (a.den : Int) b.num (b.den : Int))] w4 := E4
      rw [lay_all hL]
      simp only [putAll, dstOf, List.length_cons, List.length_nil, Nat.zero_add, Nat.reduceAdd, List.getElem?_toArray, List.getElem?_cons_zero, List.getElem?_cons_succ, Option.bind_some, Act.put, List.setIfInBounds_toArray, List.set_cons_succ, List.set_cons_zero]
      rw [e0, e3, e4, e5, e7, e9, e10, e11, e12]
      generalize vs 1 = u4_1
      generalize vs 2 = u4_2
      generalize vs 6 = u4_6
      generalize vs 8 = u4_8
      clear e0 e3 e4 e5 e7 e9 e10 e11 e12 hC hn E4 hL vs L nb
      clear T1 T2
      clear ha hb hq
      go_wp2
      refine bodyPost_ret (v := .bool false) ?_ rfl (by first | exact ⟨_, rfl, E.below, by rw [e1.out, e2.out]; rfl⟩ | exact ⟨_, rfl, E.below⟩ | exact ⟨rfl, E.below⟩)
      simp [results, Tryz.results37, go_sem]
  · have T1 := hidd (mt cmpQ_leN.1 h1)
    have e1 := hidd (decide_eq_false h1)
    clear h1
    refine region_fr (C := [Fq.is (.pointer (some ⟨b1, 0, none⟩)), Fq.pair a.num (a.den : Int), Fq.pair q.num (q.den : Int), Fq.is (.int .i64 (cmpQ a q)), Fq.is (.bool false), Fq.is (.bool false), Fq.is (undef), Fq.is (undef), Fq.is (undef), Fq.is (undef), Fq.is (undef), Fq.is (.bool false), Fq.is (.bool false)]) (ks := [none, none]) (new := []) E rfl (by kernel_rfl) rfl rfl (fun hp => ⟨?_, ?_, ?_, ?_, ?_, ?_, ?_, ?_, ?_, ?_, ?_, ?_, ?_, trivial⟩) ?_
    · exact q_addr (b := b1) (off := 0) (off' := 0) hp (free_of rfl) trivial (sq_out rfl rfl (fun _ _ => rfl)) (fun ρ w h => by simp [execOp, go_sem, h]) (fun _ => rfl)
    · exact q_loadRatAt (off := 0) hp (free_of rfl) trivial (List.mem_iff_getElem?.2 ⟨1, rfl⟩) (.inl rfl) (Nat.le_of_ble_eq_true rfl) (sq_in 0 rfl rfl (by simp) rfl (fun v w h => h)) (fun us w hl h => ld_ivl0 hl h)
    · exact q_loadRat hp (free_of rfl) trivial (List.mem_iff_getElem?.2 ⟨0, rfl⟩) (.inl rfl) rfl (sq_out rfl rfl (fun _ _ => rfl)) (fun us w hl h => h)
    · exact q_call2 (F := (Fq.pair a.num (a.den : Int)).P) (G := (Fq.pair q.num (q.den : Int)).P) hp (free_of rfl) trivial (enq_S_Cmp) (sq_in 1 rfl rfl (by simp) rfl (fun v w h => h)) (sq_in 2 rfl rfl (by simp) rfl (fun v w h => h)) (fun v v' w h h' => exSCmpQ h h' (rb_le ha.out (by omega)) (rb_le hq.out (by omega)))
    · exact q_one (F := fun v _ => v = .int .i64 (cmpQ a q)) hp (free_of rfl) trivial (sq_in 3 rfl rfl (by simp) rfl (fun v w h => h)) (fun ρ w hc h => ⟨.bool false, by simp [execOp, go_sem, h, hc, T1.out], rfl⟩)
    · exact q_move hp (free_of rfl) trivial (sq_in 4 rfl rfl (by simp) rfl (fun v w h => h))
    · exact q_skip hp (free_of rfl) rfl (gq_some rfl rfl (by simp) rfl (fun v w h => h)) (fun _ => rfl)
    · exact q_skip hp (free_of rfl) rfl (gq_some rfl rfl (by simp) rfl (fun v w h => h)) (fun _ => rfl)
    · exact q_skip hp (free_of rfl) rfl (gq_some rfl rfl (by simp) rfl (fun v w h => h)) (fun _ => rfl)
    · exact q_skip hp (free_of rfl) rfl (gq_some rfl rfl (by simp) rfl (fun v w h => h)) (fun _ => rfl)
    · exact q_skip hp (free_of rfl) rfl (gq_some rfl rfl (by simp) rfl (fun v w h => h)) (fun _ => rfl)
    · exact q_two (F := fun v _ => v = .bool false) (G := fun v _ => v = .bool false) hp (free_of rfl) trivial (sq_in 5 rfl rfl (by simp) rfl (fun v w h => h)) (sq_const (fun _ => rfl)) (fun ρ w hc h h' => ⟨_, by simp [execOp, go_sem, h, h'], rfl⟩)
    · exact q_assign hp (free_of rfl) trivial (sq_in 11 rfl rfl (by simp) rfl (fun v w h => h))
    intro L vs w5 nb hL hC hn E5
    have e0 : vs 0 = .pointer (some ⟨b1, 0, none⟩) := hC 0 (by simp)
    have e3 : vs 3 = .int .i64 (cmpQ a q) := hC 3 (by simp)
    have e4 : vs 4 = .bool false := hC 4 (by simp)
    have e5 : vs 5 = .bool false := hC 5 (by simp)
    have e6 : vs 6 = undef := hC 6 (by simp)
    have e7 : vs 7 = undef := hC 7 (by simp)
    have e8 : vs 8 = undef := hC 8 (by simp)
    have e9 : vs 9 = undef := hC 9 (by simp)
    have e10 : vs 10 = undef := hC 10 (by simp)
    have e11 : vs 11 = .bool false := hC 11 (by simp)
    have e12 : vs 12 = .bool false := hC 12 (by simp)
    have E : Fr w [(b2, 4, Fq.pair q.num (q.den : Int)), (b1, 8, Fq.ivl a.num (a.den : Int) b.num (b.den : Int))] w5 := E5
    rw [lay_all hL]
    simp only [putAll, dstOf, List.length_cons, List.length_nil, Nat.zero_add, Nat.reduceAdd, List.getElem?_toArray, List.getElem?_cons_zero, List.getElem?_cons_succ, Option.bind_some, Act.put, List.setIfInBounds_toArray, List.set_cons_succ, List.set_cons_zero]
    rw [e0, e3, e4, e5, e6, e7, e8, e9, e10, e11, e12]
    generalize vs 1 = u5_1
    generalize vs 2 = u5_2
    clear e0 e3 e4 e5 e6 e7 e8 e9 e10 e11 e12 hC hn E5 hL vs L nb
    clear T1
    clear ha hb hq
    go_wp2
    refine bodyPost_ret (v := .bool false) ?_ rfl (by first | exact ⟨_, rfl, E.below, by rw [e1.out]; rfl⟩ | exact ⟨_, rfl, E.below⟩ | exact ⟨rfl, E.below⟩)
    simp [results, Tryz.results37, go_sem]

theorem exQHasB {w : World} {v v' : Value} {a b q : Rat} {t : Bool} (h : Ivl w v a.num a.den b.num b.den) (h' : Pair w v' q.num q.den) (ha : Rb a 300) (hb : Rb b 300) (hq : Rb q 300) (ht : (decide (a ≤ q) && decide (q ≤ b)) = t) : Calls Tryz.prog 39 #[v, v'] w fun e w' => ∃ v', e = .returned v' ∧ Below w.heap.size w w' ∧ v' = .bool t := by
  have := exQHas h h' ha hb hq
  rw [ht] at this
  exact this
theorem exSHasB {w : World} {v v' : Value} {a b q : Rat} {t : Bool} (h : Ivl w v a.num a.den b.num b.den) (h' : Pair w v' q.num q.den) (ha : Rb a 300) (hb : Rb b 300) (hq : Rb q 300) (ht : (decide (a ≤ q) && decide (q ≤ b)) = t) : Calls Tryz.prog 37 #[v, v'] w fun e w' => ∃ v', e = .returned v' ∧ Below w.heap.size w w' ∧ v' = .bool t := by
  have := exSHas h h' ha hb hq
  rw [ht] at this
  exact this

set_option maxRecDepth 100000 in
set_option maxHeartbeats 4000000 in
theorem exSSameI {w : World} {v v' : Value} {a b c d : Rat} (h : Ivl w v a.num a.den b.num b.den) (h' : Ivl w v' c.num c.den d.num d.den) :
    Calls Tryz.prog 33 #[v, v'] w fun e w' => ∃ v', e = .returned v' ∧ Below w.heap.size w w' ∧ v' = .bool (decide (a = c) && decide (b = d)) := by
  obtain ⟨n0_0, ao0_0, k0_0, c0_0, n0_1, ao0_1, k0_1, c0_1, n0_2, ao0_2, k0_2, c0_2, n0_3, ao0_3, k0_3, c0_3, rfl, _⟩ := h.parts
  obtain ⟨n1_0, ao1_0, k1_0, c1_0, n1_1, ao1_1, k1_1, c1_1, n1_2, ao1_2, k1_2, c1_2, n1_3, ao1_3, k1_3, c1_3, rfl, _⟩ := h'.parts
  obtain ⟨w1, b1, hw1, hb1, hs1, E⟩ := fr_start w (F := Fq.ivl a.num (a.den : Int) b.num (b.den : Int)) (us := [.bool n0_0, .slice ao0_0 k0_0 c0_0, .bool n0_1, .slice ao0_1 k0_1 c0_1, .bool n0_2, .slice ao0_2 k0_2 c0_2, .bool n0_3, .slice ao0_3 k0_3 c0_3]) 47 rfl (by simp) (tame_ivl _ _ _ _ _ _ _ _ _ _ _ _ _ _ _ _) h
  obtain ⟨w2, b2, hw2, hb2, hs2, E⟩ := fr_more E hs1 (F := Fq.ivl c.num (c.den : Int) d.num (d.den : Int)) (us := [.bool n1_0, .slice ao1_0 k1_0 c1_0, .bool n1_1, .slice ao1_1 k1_1 c1_1, .bool n1_2, .slice ao1_2 k1_2 c1_2, .bool n1_3, .slice ao1_3 k1_3 c1_3]) 47 rfl (by simp) (tame_ivl _ _ _ _ _ _ _ _ _ _ _ _ _ _ _ _) (h'.mono E.below)
  go_enter Tryz.func33, Tryz.ntmps33
  go_upto_region 1 with (fail)
  rw [← hw1]
  rw [← hw2]
  rw [← hb2]
  rw [← hb1]
  clear hw1 hw2 hb1 hb2 hs2 hs1
  by_cases h1 : a = c
  · have e1 := hidd (decide_eq_true h1)
    by_cases h2 : b = d
    · have e2 := hidd (decide_eq_true h2)
      clear h1 h2
      refine region_fr (C := [Fq.is (.pointer (some ⟨b1, 0, none⟩)), Fq.pair a.num (a.den : Int), Fq.is (.pointer (some ⟨b2, 0, none⟩)), Fq.pair c.num (c.den : Int), Fq.is (.bool true), Fq.is (.bool true), Fq.is (.pointer (some ⟨b1, 4, none⟩)), Fq.pair b.num (b.den : Int), Fq.is (.pointer (some ⟨b2, 4, none⟩)), Fq.pair d.num (d.den : Int), Fq.is (.bool true), Fq.is (.bool true), Fq.is (.bool true)]) (ks := [none, none]) (new := []) E rfl (by kernel_rfl) rfl rfl (fun hp => ⟨?_, ?_, ?_, ?_, ?_, ?_, ?_, ?_, ?_, ?_, ?_, ?_, ?_, trivial⟩) ?_
      · exact q_addr (b := b1) (off := 0) (off' := 0) hp (free_of rfl) trivial (sq_out rfl rfl (fun _ _ => rfl)) (fun ρ w h => by simp [execOp, go_sem, h]) (fun _ => rfl)
      · exact q_loadRatAt (off := 0) hp (free_of rfl) trivial (List.mem_iff_getElem?.2 ⟨1, rfl⟩) (.inl rfl) (Nat.le_of_ble_eq_true rfl) (sq_in 0 rfl rfl (by simp) rfl (fun v w h => h)) (fun us w hl h => ld_ivl0 hl h)
      · exact q_addr (b := b2) (off := 0) (off' := 0) hp (free_of rfl) trivial (sq_out rfl rfl (fun _ _ => rfl)) (fun ρ w h => by simp [execOp, go_sem, h]) (fun _ => rfl)
      · exact q_loadRatAt (off := 0) hp (free_of rfl) trivial (List.mem_iff_getElem?.2 ⟨0, rfl⟩) (.inl rfl) (Nat.le_of_ble_eq_true rfl) (sq_in 2 rfl rfl (by simp) rfl (fun v w h => h)) (fun us w hl h => ld_ivl0 hl h)
      · exact q_call2 (F := (Fq.pair a.num (a.den : Int)).P) (G := (Fq.pair c.num (c.den : Int)).P) hp (free_of rfl) trivial (enq_S_Same) (sq_in 1 rfl rfl (by simp) rfl (fun v w h => h)) (sq_in 3 rfl rfl (by simp) rfl (fun v w h => h)) (fun v v' w h h' => exSSameN h h' e1.out)
      · exact q_move hp (free_of rfl) trivial (sq_in 4 rfl rfl (by simp) rfl (fun v w h => h))
      · exact q_addr (b := b1) (off := 0) (off' := 4) hp (free_of rfl) (gq_some rfl rfl (by simp) rfl (fun v w h => h)) (sq_out rfl rfl (fun _ _ => rfl)) (fun ρ w h => by simp [execOp, go_sem, h]) (fun _ => rfl)
      · exact q_loadRatAt (off := 4) hp (free_of rfl) (gq_some rfl rfl (by simp) rfl (fun v w h => h)) (List.mem_iff_getElem?.2 ⟨1, rfl⟩) (.inl rfl) (Nat.le_of_ble_eq_true rfl) (sq_in 6 rfl rfl (by simp) rfl (fun v w h => h)) (fun us w hl h => ld_ivl1 hl h)
      · exact q_addr (b := b2) (off := 0) (off' := 4) hp (free_of rfl) (gq_some rfl rfl (by simp) rfl (fun v w h => h)) (sq_out rfl rfl (fun _ _ => rfl)) (fun ρ w h => by simp [execOp, go_sem, h]) (fun _ => rfl)
      · exact q_loadRatAt (off := 4) hp (free_of rfl) (gq_some rfl rfl (by simp) rfl (fun v w h => h)) (List.mem_iff_getElem?.2 ⟨0, rfl⟩) (.inl rfl) (Nat.le_of_ble_eq_true rfl) (sq_in 8 rfl rfl (by simp) rfl (fun v w h => h)) (fun us w hl h => ld_ivl1 hl h)
      · exact q_call2 (F := (Fq.pair b.num (b.den : Int)).P) (G := (Fq.pair d.num (d.den : Int)).P) hp (free_of rfl) (gq_some rfl rfl (by simp) rfl (fun v w h => h)) (enq_S_Same) (sq_in 7 rfl rfl (by simp) rfl (fun v w h => h)) (sq_in 9 rfl rfl (by simp) rfl (fun v w h => h)) (fun v v' w h h' => exSSameN h h' e2.out)
      · exact q_two (F := fun v _ => v = .bool true) (G := fun v _ => v = .bool true) hp (free_of rfl) trivial (sq_in 5 rfl rfl (by simp) rfl (fun v w h => h)) (sq_in 10 rfl rfl (by simp) rfl (fun v w h => h)) (fun ρ w hc h h' => ⟨_, by simp [execOp, go_sem, h, h'], rfl⟩)
      · exact q_assign hp (free_of rfl) trivial (sq_in 11 rfl rfl (by simp) rfl (fun v w h => h))
      intro L vs w3 nb hL hC hn E3
      have e0 : vs 0 = .pointer (some ⟨b1, 0, none⟩) := hC 0 (by simp)
      have e2 : vs 2 = .pointer (some ⟨b2, 0, none⟩) := hC 2 (by simp)
      have e4 : vs 4 = .bool true := hC 4 (by simp)
      have e5 : vs 5 = .bool true := hC 5 (by simp)
      have e6 : vs 6 = .pointer (some ⟨b1, 4, none⟩) := hC 6 (by simp)
      have e8 : vs 8 = .pointer (some ⟨b2, 4, none⟩) := hC 8 (by simp)
      have e10 : vs 10 = .bool true := hC 10 (by simp)
      have e11 : vs 11 = .bool true := hC 11 (by simp)
      have e12 : vs 12 = .bool true := hC 12 (by simp)
      have E : Fr w [(b2, 8, Fq.ivl c.num (c.den : Int) d.num (d.den : Int)), (b1, 8, Fq.ivl a.num (a.den : Int) b.num (b.den : Int))] w3 := E3
      rw [lay_all hL]
      simp only [putAll, dstOf, List.length_cons, List.length_nil, Nat.zero_add, Nat.reduceAdd, List.getElem?_toArray, List.getElem?_cons_zero, List.getElem?_cons_succ, Option.bind_some, Act.put, List.setIfInBounds_toArray, List.set_cons_succ, List.set_cons_zero]
      rw [e0, e2, e4, e5, e6, e8, e10, e11, e12]
      generalize vs 1 = u3_1
      generalize vs 3 = u3_3
      generalize vs 7 = u3_7
      generalize vs 9 = u3_9
      clear e0 e2 e4 e5 e6 e8 e10 e11 e12 hC hn E3 hL vs L nb
      go_wp2
      refine bodyPost_ret (v := .bool true) ?_ rfl (by first | exact ⟨_, rfl, E.below, by rw [e1.out, e2.out]; rfl⟩ | exact ⟨_, rfl, E.below⟩ | exact ⟨rfl, E.below⟩)
      simp [results, Tryz.results33, go_sem]
    · have e2 := hidd (decide_eq_false h2)
      clear h1 h2
      refine region_fr (C := [Fq.is (.pointer (some ⟨b1, 0, none⟩)), Fq.pair a.num (a.den : Int), Fq.is (.pointer (some ⟨b2, 0, none⟩)), Fq.pair c.num (c.den : Int), Fq.is (.bool true), Fq.is (.bool true), Fq.is (.pointer (some ⟨b1, 4, none⟩)), Fq.pair b.num (b.den : Int), Fq.is (.pointer (some ⟨b2, 4, none⟩)), Fq.pair d.num (d.den : Int), Fq.is (.bool false), Fq.is (.bool false), Fq.is (.bool false)]) (ks := [none, none]) (new := []) E rfl (by kernel_rfl) rfl rfl (fun hp => ⟨?_, ?_, ?_, ?_, ?_, ?_, ?_, ?_, ?_, ?_, ?_, ?_, ?_, trivial⟩) ?_
      · exact q_addr (b := b1) (off := 0) (off' := 0) hp (free_of rfl) trivial (sq_out rfl rfl (fun _ _ => rfl)) (fun ρ w h => by simp [execOp, go_sem, h]) (fun _ => rfl)
      · exact q_loadRatAt (off := 0) hp (free_of rfl) trivial (List.mem_iff_getElem?.2 ⟨1, rfl⟩) (.inl rfl) (Nat.le_of_ble_eq_true rfl) (sq_in 0 rfl rfl (by simp) rfl (fun v w h => h)) (fun us w hl h => ld_ivl0 hl h)
      · exact q_addr (b := b2) (off := 0) (off' := 0) hp (free_of rfl) trivial (sq_out rfl rfl (fun _ _ => rfl)) (fun ρ w h => by simp [execOp, go_sem, h]) (fun _ => rfl)
      · exact q_loadRatAt (off := 0) hp (free_of rfl) trivial (List.mem_iff_getElem?.2 ⟨0, rfl⟩) (.inl rfl) (Nat.le_of_ble_eq_true rfl) (sq_in 2 rfl rfl (by simp) rfl (fun v w h => h)) (fun us w hl h => ld_ivl0 hl h)
      · exact q_call2 (F := (Fq.pair a.num (a.den : Int)).P) (G := (Fq.pair c.num (c.den : Int)).P) hp (free_of rfl) trivial (enq_S_Same) (sq_in 1 rfl rfl (by simp) rfl (fun v w h => h)) (sq_in 3 rfl rfl (by simp) rfl (fun v w h => h)) (fun v v' w h h' => exSSameN h h' e1.out)
      · exact q_move hp (free_of rfl) trivial (sq_in 4 rfl rfl (by simp) rfl (fun v w h => h))
      · exact q_addr (b := b1) (off := 0) (off' := 4) hp (free_of rfl) (gq_some rfl rfl (by simp) rfl (fun v w h => h)) (sq_out rfl rfl (fun _ _ => rfl)) (fun ρ w h => by simp [execOp, go_sem, h]) (fun _ => rfl)
      · exact q_loadRatAt (off := 4) hp (free_of rfl) (gq_some rfl rfl (by simp) rfl (fun v w h => h)) (List.mem_iff_getElem?.2 ⟨1, rfl⟩) (.inl rfl) (Nat.le_of_ble_eq_true rfl) (sq_in 6 rfl rfl (by simp) rfl (fun v w h => h)) (fun us w hl h => ld_ivl1 hl h)
      · exact q_addr (b := b2) (off := 0) (off' := 4) hp (free_of rfl) (gq_some rfl rfl (by simp) rfl (fun v w h => h)) (sq_out rfl rfl (fun _ _ => rfl)) (fun ρ w h => by simp [execOp, go_sem, h]) (fun _ => rfl)
      · exact q_loadRatAt (off := 4) hp (free_of rfl) (gq_some rfl rfl (by simp) rfl (fun v w h => h)) (List.mem_iff_getElem?.2 ⟨0, rfl⟩) (.inl rfl) (Nat.le_of_ble_eq_true rfl) (sq_in 8 rfl rfl (by simp) rfl (fun v w h => h)) (fun us w hl h => ld_ivl1 hl h)
      · exact q_call2 (F := (Fq.pair b.num (b.den : Int)).P) (G := (Fq.pair d.num (d.den : Int)).P) hp (free_of rfl) (gq_some rfl rfl (by simp) rfl (fun v w h => h)) (enq_S_Same) (sq_in 7 rfl rfl (by simp) rfl (fun v w h => h)) (sq_in 9 rfl rfl (by simp) rfl (fun v w h => h)) (fun v v' w h h' => exSSameN h h' e2.out)
      · exact q_two (F := fun v _ => v = .bool true) (G := fun v _ => v = .bool false) hp (free_of rfl) trivial (sq_in 5 rfl rfl (by simp) rfl (fun v w h => h)) (sq_in 10 rfl rfl (by simp) rfl (fun v w h => h)) (fun ρ w hc h h' => ⟨_, by simp [execOp, go_sem, h, h'], rfl⟩)
      · exact q_assign hp (free_of rfl) trivial (sq_in 11 rfl rfl (by simp) rfl (fun v w h => h))
      intro L vs w4 nb hL hC hn E4
      have e0 : vs 0 = .pointer (some ⟨b1, 0, none⟩) := hC 0 (by simp)
      have e2 : vs 2 = .pointer (some ⟨b2, 0, none⟩) := hC 2 (by simp)
      have e4 : vs 4 = .bool true := hC 4 (by simp)
      have e5 : vs 5 = .bool true := hC 5 (by simp)
      have e6 : vs 6 = .pointer (some ⟨b1, 4, none⟩) := hC 6 (by simp)
      have e8 : vs 8 = .pointer (some ⟨b2, 4, none⟩) := hC 8 (by simp)
      have e10 : vs 10 = .bool false := hC 10 (by simp)
      have e11 : vs 11 = .bool false := hC 11 (by simp)
      have e12 : vs 12 = .bool false := hC 12 (by simp)
      have E : Fr w [(b2, 8, Fq.ivl c.num (c.den : Int) d.num (d.den : Int)), (b1, 8, Fq.ivl a.num (a.den : Int) b.num (b.den : Int))] w4 := E4
      rw [lay_all hL]
      simp only [putAll, dstOf, List.length_cons, List.length_nil, Nat.zero_add, Nat.reduceAdd, List.getElem?_toArray, List.getElem?_cons_zero, List.getElem?_cons_succ, Option.bind_some, Act.put, List.setIfInBounds_toArray, List.set_cons_succ, List.set_cons_zero]
      rw [e0, e2, e4, e5, e6, e8, e10, e11, e12]
      generalize vs 1 = u4_1
      generalize vs 3 = u4_3
      generalize vs 7 = u4_7
      generalize vs 9 = u4_9
      clear e0 e2 e4 e5 e6 e8 e10 e11 e12 hC hn E4 hL vs L nb
      go_wp2
      refine bodyPost_ret (v := .bool false) ?_ rfl (by first | exact ⟨_, rfl, E.below, by rw [e1.out, e2.out]; rfl⟩ | exact ⟨_, rfl, E.below⟩ | exact ⟨rfl, E.below⟩)
      simp [results, Tryz.results33, go_sem]
  · have e1 := hidd (decide_eq_false h1)
    clear h1
    refine region_fr (C := [Fq.is (.pointer (some ⟨b1, 0, none⟩)), Fq.pair a.num (a.den : Int), Fq.is (.pointer (some ⟨b2, 0, none⟩)), Fq.pair c.num (c.den : Int), Fq.is (.bool false), Fq.is (.bool false), Fq.is (undef), Fq.is (undef), Fq.is (undef), Fq.is (undef), Fq.is (undef), Fq.is (.bool false), Fq.is (.bool false)]) (ks := [none, none]) (new := []) E rfl (by kernel_rfl) rfl rfl (fun hp => ⟨?_, ?_, ?_, ?_, ?_, ?_, ?_, ?_, ?_, ?_, ?_, ?_, ?_, trivial⟩) ?_
    · exact q_addr (b := b1) (off := 0) (off' := 0) hp (free_of rfl) trivial (sq_out rfl rfl (fun _ _ => rfl)) (fun ρ w h => by simp [execOp, go_sem, h]) (fun _ => rfl)
    · exact q_loadRatAt (off := 0) hp (free_of rfl) trivial (List.mem_iff_getElem?.2 ⟨1, rfl⟩) (.inl rfl) (Nat.le_of_ble_eq_true rfl) (sq_in 0 rfl rfl (by simp) rfl (fun v w h => h)) (fun us w hl h => ld_ivl0 hl h)
    · exact q_addr (b := b2) (off := 0) (off' := 0) hp (free_of rfl) trivial (sq_out rfl rfl (fun _ _ => rfl)) (fun ρ w h => by simp [execOp, go_sem, h]) (fun _ => rfl)
    · exact q_loadRatAt (off := 0) hp (free_of rfl) trivial (List.mem_iff_getElem?.2 ⟨0, rfl⟩) (.inl rfl) (Nat.le_of_ble_eq_true rfl) (sq_in 2 rfl rfl (by simp) rfl (fun v w h => h)) (fun us w hl h => ld_ivl0 hl h)
    · exact q_call2 (F := (Fq.pair a.num (a.den : Int)).P) (G := (Fq.pair c.num (c.den : Int)).P) hp (free_of rfl) trivial (enq_S_Same) (sq_in 1 rfl rfl (by simp) rfl (fun v w h => h)) (sq_in 3 rfl rfl (by simp) rfl (fun v w h => h)) (fun v v' w h h' => exSSameN h h' e1.out)
    · exact q_move hp (free_of rfl) trivial (sq_in 4 rfl rfl (by simp) rfl (fun v w h => h))
    · exact q_skip hp (free_of rfl) rfl (gq_some rfl rfl (by simp) rfl (fun v w h => h)) (fun _ => rfl)
    · exact q_skip hp (free_of rfl) rfl (gq_some rfl rfl (by simp) rfl (fun v w h => h)) (fun _ => rfl)
    · exact q_skip hp (free_of rfl) rfl (gq_some rfl rfl (by simp) rfl (fun v w h => h)) (fun _ => rfl)
    · exact q_skip hp (free_of rfl) rfl (gq_some rfl rfl (by simp) rfl (fun v w h => h)) (fun _ => rfl)
    · exact q_skip hp (free_of rfl) rfl (gq_some rfl rfl (by simp) rfl (fun v w h => h)) (fun _ => rfl)
    · exact q_two (F := fun v _ => v = .bool false) (G := fun v _ => v = .bool false) hp (free_of rfl) trivial (sq_in 5 rfl rfl (by simp) rfl (fun v w h => h)) (sq_const (fun _ => rfl)) (fun ρ w hc h h' => ⟨_, by simp [execOp, go_sem, h, h'], rfl⟩)
    · exact q_assign hp (free_of rfl) trivial (sq_in 11 rfl rfl (by simp) rfl (fun v w h => h))
    intro L vs w5 nb hL hC hn E5
    have e0 : vs 0 = .pointer (some ⟨b1, 0, none⟩) := hC 0 (by simp)
    have e2 : vs 2 = .pointer (some ⟨b2, 0, none⟩) := hC 2 (by simp)
    have e4 : vs 4 = .bool false := hC 4 (by simp)
    have e5 : vs 5 = .bool false := hC 5 (by simp)
    have e6 : vs 6 = undef := hC 6 (by simp)
    have e7 : vs 7 = undef := hC 7 (by simp)
    have e8 : vs 8 = undef := hC 8 (by simp)
    have e9 : vs 9 = undef := hC 9 (by simp)
    have e10 : vs 10 = undef := hC 10 (by simp)
    have e11 : vs 11 = .bool false := hC 11 (by simp)
    have e12 : vs 12 = .bool false := hC 12 (by simp)
    have E : Fr w [(b2, 8, Fq.ivl c.num (c.den : Int) d.num (d.den : Int)), (b1, 8, Fq.ivl a.num (a.den : Int) b.num (b.den : Int))] w5 := E5
    rw [lay_all hL]
    simp only [putAll, dstOf, List.length_cons, List.length_nil, Nat.zero_add, Nat.reduceAdd, List.getElem?_toArray, List.getElem?_cons_zero, List.getElem?_cons_succ, Option.bind_some, Act.put, List.setIfInBounds_toArray, List.set_cons_succ, List.set_cons_zero]
    rw [e0, e2, e4, e5, e6, e7, e8, e9, e10, e11, e12]
    generalize vs 1 = u5_1
    generalize vs 3 = u5_3
    clear e0 e2 e4 e5 e6 e7 e8 e9 e10 e11 e12 hC hn E5 hL vs L nb
    go_wp2
    refine bodyPost_ret (v := .bool false) ?_ rfl (by first | exact ⟨_, rfl, E.below, by rw [e1.out]; rfl⟩ | exact ⟨_, rfl, E.below⟩ | exact ⟨rfl, E.below⟩)
    simp [results, Tryz.results33, go_sem]

theorem exSSameIB {w : World} {v v' : Value} {a b c d : Rat} {t : Bool} (h : Ivl w v a.num a.den b.num b.den) (h' : Ivl w v' c.num c.den d.num d.den) (ht : (decide (a = c) && decide (b = d)) = t) : Calls Tryz.prog 33 #[v, v'] w fun e w' => ∃ v', e = .returned v' ∧ Below w.heap.size w w' ∧ v' = .bool t := by
  have := exSSameI h h'
  rw [ht] at this
  exact this

set_option maxRecDepth 100000 in
set_option maxHeartbeats 4000000 in
theorem exInner {w : World} {v : Value} {a b : Rat} {t : Int} (h : Ivl w v a.num a.den b.num b.den) (ha : Rb a 100) (hb : Rb b 100) (ht : 0 ≤ t ∧ t ≤ 255) :
    Calls Tryz.prog 28 #[v, .int .u8 t] w fun e w' => ∃ v', e = .returned v' ∧ Below w.heap.size w w' ∧ Pair w' v' (a + Rat.divInt (t % 9) (8) * (b - a)).num ((a + Rat.divInt (t % 9) (8) * (b - a)).den : Int) := by
  replace ha := hidd ha
  replace hb := hidd hb
  have hT := hidd ht
  clear ht
  obtain ⟨n0_0, ao0_0, k0_0, c0_0, n0_1, ao0_1, k0_1, c0_1, n0_2, ao0_2, k0_2, c0_2, n0_3, ao0_3, k0_3, c0_3, rfl, _⟩ := h.parts
  obtain ⟨w1, b1, hw1, hb1, hs1, E⟩ := fr_start w (F := Fq.ivl a.num (a.den : Int) b.num (b.den : Int)) (us := [.bool n0_0, .slice ao0_0 k0_0 c0_0, .bool n0_1, .slice ao0_1 k0_1 c0_1, .bool n0_2, .slice ao0_2 k0_2 c0_2, .bool n0_3, .slice ao0_3 k0_3 c0_3]) 47 rfl (by simp) (tame_ivl _ _ _ _ _ _ _ _ _ _ _ _ _ _ _ _) h
  obtain ⟨w2, b2, hw2, hb2, hs2, E⟩ := fr_more E hs1 (F := Fq.pair 0 0) (us := [.bool false, .slice none 0 0, .bool false, .slice none 0 0]) 31 rfl (by simp) (tame_rat _ _ _ _ _ _ _ _) (Pair.zero _)
  go_enter Tryz.func28, Tryz.ntmps28
  go_upto_region 1 with (fail)
  rw [← hw1]
  rw [← hw2]
  rw [← hb2]
  rw [← hb1]
  clear hw1 hw2 hb1 hb2 hs2 hs1
  have T1 : Hid (Int.tmod t 9 = t % 9) := by have := hT.out; exact Int.tmod_eq_emod_of_nonneg this.1
  have T2 : Hid (IntKind.i64.wrap (t % 9) = t % 9) := IntWalk.i64_in _ (by omega)
  have B3 : Hid (Rb (Rat.divInt (t % 9) (8)) 3) := rb_divInt (by decide) (ab_lit (by unfold ab; have := hT.out; omega)) (ab_lit (by decide))
  have B4 : Hid (Rb (b - a) 201) := rb_le (rb_sub hb.out ha.out) (by omega)
  have B5 : Hid (Rb ((Rat.divInt (t % 9) (8)) * (b - a)) 204) := rb_le (rb_mul B3.out B4.out) (by omega)
  have B6 : Hid (Rb (a + ((Rat.divInt (t % 9) (8)) * (b - a))) 305) := rb_le (rb_add ha.out B5.out) (by omega)
  refine region_fr (C := [Fq.is (.pointer (some ⟨b1, 0, none⟩)), Fq.pair a.num (a.den : Int), Fq.is (.int .u8 t), Fq.is (.int .u8 (t % 9)), Fq.is (.int .i64 (t % 9)), Fq.pair (Rat.divInt (t % 9) (8)).num ((Rat.divInt (t % 9) (8)).den : Int), Fq.is (.pointer (some ⟨b1, 4, none⟩)), Fq.pair b.num (b.den : Int), Fq.is (.pointer (some ⟨b1, 0, none⟩)), Fq.pair a.num (a.den : Int), Fq.pair (b - a).num ((b - a).den : Int), Fq.pair ((Rat.divInt (t % 9) (8)) * (b - a)).num (((Rat.divInt (t % 9) (8)) * (b - a)).den : Int), Fq.pair (a + ((Rat.divInt (t % 9) (8)) * (b - a))).num ((a + ((Rat.divInt (t % 9) (8)) * (b - a))).den : Int), Fq.any]) (ks := [some (13, Fq.pair (a + ((Rat.divInt (t % 9) (8)) * (b - a))).num ((a + ((Rat.divInt (t % 9) (8)) * (b - a))).den : Int)), none]) (new := []) E rfl (by kernel_rfl) rfl rfl (fun hp => ⟨?_, ?_, ?_, ?_, ?_, ?_, ?_, ?_, ?_, ?_, ?_, ?_, ?_, ?_, trivial⟩) ?_
  · exact q_addr (b := b1) (off := 0) (off' := 0) hp (free_of rfl) trivial (sq_out rfl rfl (fun _ _ => rfl)) (fun ρ w h => by simp [execOp, go_sem, h]) (fun _ => rfl)
  · exact q_loadRatAt (off := 0) hp (free_of rfl) trivial (List.mem_iff_getElem?.2 ⟨1, rfl⟩) (.inl rfl) (Nat.le_of_ble_eq_true rfl) (sq_in 0 rfl rfl (by simp) rfl (fun v w h => h)) (fun us w hl h => ld_ivl0 hl h)
  · exact q_move hp (free_of rfl) trivial (sq_out rfl rfl (fun _ _ => rfl))
  · exact q_one (F := fun v _ => v = .int .u8 t) hp (free_of rfl) trivial (sq_in 2 rfl rfl (by simp) rfl (fun v w h => h)) (fun ρ w hc h => ⟨.int .u8 (t % 9), by simp [execOp, go_sem, h, hc, T1.out], rfl⟩)
  · exact q_one (F := fun v _ => v = .int .u8 (t % 9)) hp (free_of rfl) trivial (sq_in 3 rfl rfl (by simp) rfl (fun v w h => h)) (fun ρ w hc h => ⟨.int .i64 (t % 9), by simp [execOp, go_sem, h, T2.out], rfl⟩)
  · exact q_call2 (F := (Fq.is (.int .i64 (t % 9))).P) (G := (Fq.is (.int .i64 8)).P) hp (free_of rfl) trivial (enq_S_Of) (sq_in 4 rfl rfl (by simp) rfl (fun v w h => h)) (sq_const (fun _ => rfl)) (fun v v' w h h' => (by subst h; subst h'; exact exSOf (n := t % 9) (d := 8) (by decide) ⟨ab_lit (by unfold ab; have := hT.out; omega), by have := hT.out; omega, by have := hT.out; omega⟩ (of_lit (by decide))))
  · exact q_addr (b := b1) (off := 0) (off' := 4) hp (free_of rfl) trivial (sq_out rfl rfl (fun _ _ => rfl)) (fun ρ w h => by simp [execOp, go_sem, h]) (fun _ => rfl)
  · exact q_loadRatAt (off := 4) hp (free_of rfl) trivial (List.mem_iff_getElem?.2 ⟨1, rfl⟩) (.inl rfl) (Nat.le_of_ble_eq_true rfl) (sq_in 6 rfl rfl (by simp) rfl (fun v w h => h)) (fun us w hl h => ld_ivl1 hl h)
  · exact q_addr (b := b1) (off := 0) (off' := 0) hp (free_of rfl) trivial (sq_out rfl rfl (fun _ _ => rfl)) (fun ρ w h => by simp [execOp, go_sem, h]) (fun _ => rfl)
  · exact q_loadRatAt (off := 0) hp (free_of rfl) trivial (List.mem_iff_getElem?.2 ⟨1, rfl⟩) (.inl rfl) (Nat.le_of_ble_eq_true rfl) (sq_in 8 rfl rfl (by simp) rfl (fun v w h => h)) (fun us w hl h => ld_ivl0 hl h)
  · exact q_call2 (F := (Fq.pair b.num (b.den : Int)).P) (G := (Fq.pair a.num (a.den : Int)).P) hp (free_of rfl) trivial (enq_S_Sub) (sq_in 7 rfl rfl (by simp) rfl (fun v w h => h)) (sq_in 9 rfl rfl (by simp) rfl (fun v w h => h)) (fun v v' w h h' => exSSubQ h h' (rb_le hb.out (by omega)) (rb_le ha.out (by omega)))
  · exact q_call2 (F := (Fq.pair (Rat.divInt (t % 9) (8)).num ((Rat.divInt (t % 9) (8)).den : Int)).P) (G := (Fq.pair (b - a).num ((b - a).den : Int)).P) hp (free_of rfl) trivial (enq_S_Mul) (sq_in 5 rfl rfl (by simp) rfl (fun v w h => h)) (sq_in 10 rfl rfl (by simp) rfl (fun v w h => h)) (fun v v' w h h' => exSMulQ h h' (rb_le B3.out (by omega)) (rb_le B4.out (by omega)))
  · exact q_call2 (F := (Fq.pair a.num (a.den : Int)).P) (G := (Fq.pair ((Rat.divInt (t % 9) (8)) * (b - a)).num (((Rat.divInt (t % 9) (8)) * (b - a)).den : Int)).P) hp (free_of rfl) trivial (enq_S_Add) (sq_in 1 rfl rfl (by simp) rfl (fun v w h => h)) (sq_in 11 rfl rfl (by simp) rfl (fun v w h => h)) (fun v v' w h h' => exSAddQ h h' (rb_le ha.out (by omega)) (rb_le B5.out (by omega)))
  · exact q_storeOldRat hp (List.mem_iff_getElem?.2 ⟨0, rfl⟩) rfl rfl (sq_out rfl rfl (fun _ _ => rfl)) (sq_in 12 rfl rfl (by simp) rfl (fun v w h => ratV_pair h)) (fun _ _ => trivial) (newik_ne rfl)
  intro L vs w7 nb hL hC hn E7
  have e0 : vs 0 = .pointer (some ⟨b1, 0, none⟩) := hC 0 (by simp)
  have e2 : vs 2 = .int .u8 t := hC 2 (by simp)
  have e3 : vs 3 = .int .u8 (t % 9) := hC 3 (by simp)
  have e4 : vs 4 = .int .i64 (t % 9) := hC 4 (by simp)
  have e6 : vs 6 = .pointer (some ⟨b1, 4, none⟩) := hC 6 (by simp)
  have e8 : vs 8 = .pointer (some ⟨b1, 0, none⟩) := hC 8 (by simp)
  have E : Fr w [(b2, 4, Fq.pair (a + ((Rat.divInt (t % 9) (8)) * (b - a))).num ((a + ((Rat.divInt (t % 9) (8)) * (b - a))).den : Int)), (b1, 8, Fq.ivl a.num (a.den : Int) b.num (b.den : Int))] w7 := E7
  rw [lay_all hL]
  simp only [putAll, dstOf, List.length_cons, List.length_nil, Nat.zero_add, Nat.reduceAdd, List.getElem?_toArray, List.getElem?_cons_zero, List.getElem?_cons_succ, Option.bind_some, Act.put, List.setIfInBounds_toArray, List.set_cons_succ, List.set_cons_zero]
  rw [e0, e2, e3, e4, e6, e8]
  generalize vs 1 = u7_1
  generalize vs 5 = u7_5
  generalize vs 7 = u7_7
  generalize vs 9 = u7_9
  generalize vs 10 = u7_10
  generalize vs 11 = u7_11
  generalize vs 12 = u7_12
  clear e0 e2 e3 e4 e6 e8 hC hn E7 hL vs L nb
  clear T1 T2 hT
  obtain ⟨p0, p1, p2, p3, c0, c1, c2, c3, hP⟩ := box_pair (E.box 0 rfl)
  clear B3 B4 B5 B6 ha hb
  go_wp2
  refine bodyPost_ret (v := .agg #[p0, p1, p2, p3]) ?_ rfl ⟨_, rfl, E.below, hP⟩
  simp [results, Tryz.results28, go_sem, c0, c1, c2, c3]

end Go.Proofs.YtoimphnhmpmipaaGreat
