/- Yk, Yr, Yp, Tl, Yt, Yu. -/
import Derived.Test.YtlehjhlihahjhaaBt4
/- Walk of the law on the field of fractions. -/
namespace Go.Proofs.Ytlehjhlihahjhaa
open Go Go.RowKit

theorem enq_K_examples (args : Array Value) (w : World) : (callFunc 8 args).run Try.prog w = .ok (.enter 8 args) w := enter_of Try.func8 (by kernel_rfl) rfl args w

section
variable {os : List Oper} {Q : Exit → Act → World → Prop} {a : Act} {p : Pq} {B B0 : Nat} {w0 : World}
variable {i s : Nat} {d : Option Tmp} {ty : TypeId} {ps : String} {af : Array Edge} {gd : Option (Nat × Bool)}
/-- Two signs and words, loaded out of their box. -/
theorem q_loadRaw2 {o : Ob} {x : Operand} (hp : p.Ok B B0) (hF : p.Free i) (hg : GdQ os a p B B0 w0 af gd) (ho : o ∈ p.old) (hk : o.F1 = o.F0 ∨ leadsB os 9 o.k i = true) (hm : o.m = 4)
    (hx : SrcQ os a p B B0 w0 af x fun u _ => u = .pointer (some ⟨o.b, 0, none⟩)) (hC : ∀ (us : List Value) (w : World), us.length = o.m → o.F0.P (.agg us.toArray) w → (p.c i).P (.agg us.toArray) w) :
    StepQ os Q a p B B0 w0 i { dst := d, op := .load 26 x, type := ty, pos := ps, after := af, guard := gd } := by
  refine stq_val hp hF hg fun L vs w hG hL hc hd => ?_
  obtain ⟨us, hl, h0, hat, ht, hP⟩ := box_now ho hk hG hL hc
  have e := hx L vs w hG hd
  refine ⟨_, ?_, hC us w hl hP⟩
  rw [hm] at hl
  match us, hl, hat with
  | [p, q, r, s], _, hat =>
    have c0 := (hat 0 (by simp)).1
    have c1 := (hat 1 (by simp)).1
    have c2 := (hat 2 (by simp)).1
    have c3 := (hat 3 (by simp)).1
    simp at c0 c1 c2 c3
    generalize (lay os.toArray L vs os.toArray.size a).eval = ρ at e
    simp [execOp, go_sem, e, c0, c1, c2, c3]
end

end Go.Proofs.Ytlehjhlihahjhaa

/- Steps of a region over slices of fractions. -/
namespace Go.Proofs.Ytlehjhlihahjhaa
open Go Go.RowKit

section
variable {os : List Oper} {Q : Exit → Act → World → Prop} {a : Act} {p : Pq} {B B0 : Nat} {w0 : World}
variable {i s : Nat} {d : Option Tmp} {ty : TypeId} {ps : String} {af : Array Edge} {gd : Option (Nat × Bool)}

end

end Go.Proofs.Ytlehjhlihahjhaa

/- Walks: Valid of fractions of any shape. -/
namespace Go.Proofs.Ytlehjhlihahjhaa
open Go Go.RowKit

set_option maxRecDepth 100000 in
set_option maxHeartbeats 4000000 in
theorem exValidT {w : World} {v : Value} {n d : Int} (h : Pair w v n d) (hn : ab n < pw 200) (hd : ab d < pw 200) (hd0 : 0 < d) (hg : Int.gcd n d = 1) :
    Calls Try.prog 21 #[v] w fun e w' => ∃ v', e = .returned v' ∧ Below w.heap.size w w' ∧ v' = .bool true := by
  replace hn := hidd hn
  replace hd := hidd hd
  obtain ⟨n0, ao0, k0, c0, n0', ao0', k0', c0', rfl, _⟩ := ratV_pair h
  obtain ⟨w1, b1, hw1, hb1, hs1, E⟩ := fr_start w (F := Fq.pair n d) (us := [.bool n0, .slice ao0 k0 c0, .bool n0', .slice ao0' k0' c0']) 31 rfl (by simp) (tame_rat _ _ _ _ _ _ _ _) h
  go_enter Try.func21, Try.ntmps21
  go_upto_region 1 with (fail)
  rw [← hw1]
  rw [← hb1]
  clear hw1 hb1 hs1
  have T : Hid (0 < cmpI d 0) := cmpIqgt.2 hd0
  have B2 : Hid (ab ((Int.gcd n d : Int)) < pw 200) := ab_gcdB hn.out hd.out (by omega) (by omega)
  refine region_fr (C := [Fq.is (.pointer (some ⟨b1, 0, none⟩)), Fq.num n, Fq.is (.bool true), Fq.is (.bool true), Fq.is (.pointer (some ⟨b1, 2, none⟩)), Fq.num d, Fq.is (.bool true), Fq.is (.bool true), Fq.is (.bool true), Fq.is (.pointer (some ⟨b1, 2, none⟩)), Fq.num d, Fq.is (.int .i64 (cmpI d 0)), Fq.is (.bool true), Fq.is (.bool true), Fq.is (.bool true), Fq.is (.pointer (some ⟨b1, 0, none⟩)), Fq.num n, Fq.is (.pointer (some ⟨b1, 2, none⟩)), Fq.num d, Fq.num (Int.gcd n d : Int), Fq.is (.bool true), Fq.is (.bool true), Fq.is (.bool true)]) (ks := [none]) (new := []) E rfl (by kernel_rfl) rfl rfl (fun hp => ⟨?_, ?_, ?_, ?_, ?_, ?_, ?_, ?_, ?_, ?_, ?_, ?_, ?_, ?_, ?_, ?_, ?_, ?_, ?_, ?_, ?_, ?_, ?_, trivial⟩) ?_
  · exact q_addr (b := b1) (off := 0) (off' := 0) hp (free_of rfl) trivial (sq_out rfl rfl (fun _ _ => rfl)) (fun ρ w h => by simp [execOp, go_sem, h]) (fun _ => rfl)
  · exact q_loadInt (off := 0) hp (free_of rfl) trivial (List.mem_iff_getElem?.2 ⟨0, rfl⟩) (.inl rfl) (Nat.le_of_ble_eq_true rfl) (sq_in 0 rfl rfl (by simp) rfl (fun v w h => h)) (fun us w hl h => ld_pn hl h)
  · exact q_call1 (F := (Fq.num n).P) hp (free_of rfl) trivial (enq_Valid) (sq_in 1 rfl rfl (by simp) rfl (fun v w h => h)) (fun v w h => exIsValid h)
  · exact q_move hp (free_of rfl) trivial (sq_in 2 rfl rfl (by simp) rfl (fun v w h => h))
  · exact q_addr (b := b1) (off := 0) (off' := 2) hp (free_of rfl) (gq_some rfl rfl (by simp) rfl (fun v w h => h)) (sq_out rfl rfl (fun _ _ => rfl)) (fun ρ w h => by simp [execOp, go_sem, h]) (fun _ => rfl)
  · exact q_loadInt (off := 2) hp (free_of rfl) (gq_some rfl rfl (by simp) rfl (fun v w h => h)) (List.mem_iff_getElem?.2 ⟨0, rfl⟩) (.inl rfl) (Nat.le_of_ble_eq_true rfl) (sq_in 4 rfl rfl (by simp) rfl (fun v w h => h)) (fun us w hl h => ld_pd hl h)
  · exact q_call1 (F := (Fq.num d).P) hp (free_of rfl) (gq_some rfl rfl (by simp) rfl (fun v w h => h)) (enq_Valid) (sq_in 5 rfl rfl (by simp) rfl (fun v w h => h)) (fun v w h => exIsValid h)
  · exact q_two (F := fun v _ => v = .bool true) (G := fun v _ => v = .bool true) hp (free_of rfl) trivial (sq_in 3 rfl rfl (by simp) rfl (fun v w h => h)) (sq_in 6 rfl rfl (by simp) rfl (fun v w h => h)) (fun ρ w hc h h' => ⟨_, by simp [execOp, go_sem, h, h'], rfl⟩)
  · exact q_move hp (free_of rfl) trivial (sq_in 7 rfl rfl (by simp) rfl (fun v w h => h))
  · exact q_addr (b := b1) (off := 0) (off' := 2) hp (free_of rfl) (gq_some rfl rfl (by simp) rfl (fun v w h => h)) (sq_out rfl rfl (fun _ _ => rfl)) (fun ρ w h => by simp [execOp, go_sem, h]) (fun _ => rfl)
  · exact q_loadInt (off := 2) hp (free_of rfl) (gq_some rfl rfl (by simp) rfl (fun v w h => h)) (List.mem_iff_getElem?.2 ⟨0, rfl⟩) (.inl rfl) (Nat.le_of_ble_eq_true rfl) (sq_in 9 rfl rfl (by simp) rfl (fun v w h => h)) (fun us w hl h => ld_pd hl h)
  · exact q_call1 (F := (Fq.num d).P) hp (free_of rfl) (gq_some rfl rfl (by simp) rfl (fun v w h => h)) (enq_Sign) (sq_in 10 rfl rfl (by simp) rfl (fun v w h => h)) (fun v w h => exSign h)
  · exact q_one (F := fun v _ => v = .int .i64 (cmpI d 0)) hp (free_of rfl) (gq_some rfl rfl (by simp) rfl (fun v w h => h)) (sq_in 11 rfl rfl (by simp) rfl (fun v w h => h)) (fun ρ w hc h => ⟨.bool true, by simp [execOp, go_sem, h, hc, T.out], rfl⟩)
  · exact q_two (F := fun v _ => v = .bool true) (G := fun v _ => v = .bool true) hp (free_of rfl) trivial (sq_in 8 rfl rfl (by simp) rfl (fun v w h => h)) (sq_in 12 rfl rfl (by simp) rfl (fun v w h => h)) (fun ρ w hc h h' => ⟨_, by simp [execOp, go_sem, h, h'], rfl⟩)
  · exact q_move hp (free_of rfl) trivial (sq_in 13 rfl rfl (by simp) rfl (fun v w h => h))
  · exact q_addr (b := b1) (off := 0) (off' := 0) hp (free_of rfl) (gq_some rfl rfl (by simp) rfl (fun v w h => h)) (sq_out rfl rfl (fun _ _ => rfl)) (fun ρ w h => by simp [execOp, go_sem, h]) (fun _ => rfl)
  · exact q_loadInt (off := 0) hp (free_of rfl) (gq_some rfl rfl (by simp) rfl (fun v w h => h)) (List.mem_iff_getElem?.2 ⟨0, rfl⟩) (.inl rfl) (Nat.le_of_ble_eq_true rfl) (sq_in 15 rfl rfl (by simp) rfl (fun v w h => h)) (fun us w hl h => ld_pn hl h)
  · exact q_addr (b := b1) (off := 0) (off' := 2) hp (free_of rfl) (gq_some rfl rfl (by simp) rfl (fun v w h => h)) (sq_out rfl rfl (fun _ _ => rfl)) (fun ρ w h => by simp [execOp, go_sem, h]) (fun _ => rfl)
  · exact q_loadInt (off := 2) hp (free_of rfl) (gq_some rfl rfl (by simp) rfl (fun v w h => h)) (List.mem_iff_getElem?.2 ⟨0, rfl⟩) (.inl rfl) (Nat.le_of_ble_eq_true rfl) (sq_in 17 rfl rfl (by simp) rfl (fun v w h => h)) (fun us w hl h => ld_pd hl h)
  · exact q_call2 (F := (Fq.num n).P) (G := (Fq.num d).P) hp (free_of rfl) (gq_some rfl rfl (by simp) rfl (fun v w h => h)) (enq_Gcd) (sq_in 16 rfl rfl (by simp) rfl (fun v w h => h)) (sq_in 18 rfl rfl (by simp) rfl (fun v w h => h)) (fun v v' w h h' => exK (GcdV h h') B2.out (by omega))
  · exact q_call1 (F := (Fq.num (Int.gcd n d : Int)).P) hp (free_of rfl) (gq_some rfl rfl (by simp) rfl (fun v w h => h)) (enq_Q_isOne) (sq_in 19 rfl rfl (by simp) rfl (fun v w h => h)) (fun v w h => exIsOneB h (decide_eq_true (by omega)))
  · exact q_two (F := fun v _ => v = .bool true) (G := fun v _ => v = .bool true) hp (free_of rfl) trivial (sq_in 14 rfl rfl (by simp) rfl (fun v w h => h)) (sq_in 20 rfl rfl (by simp) rfl (fun v w h => h)) (fun ρ w hc h h' => ⟨_, by simp [execOp, go_sem, h, h'], rfl⟩)
  · exact q_assign hp (free_of rfl) trivial (sq_in 21 rfl rfl (by simp) rfl (fun v w h => h))
  intro L vs w3 nb hL hC hn E3
  have e0 : vs 0 = .pointer (some ⟨b1, 0, none⟩) := hC 0 (by simp)
  have e2 : vs 2 = .bool true := hC 2 (by simp)
  have e3 : vs 3 = .bool true := hC 3 (by simp)
  have e4 : vs 4 = .pointer (some ⟨b1, 2, none⟩) := hC 4 (by simp)
  have e6 : vs 6 = .bool true := hC 6 (by simp)
  have e7 : vs 7 = .bool true := hC 7 (by simp)
  have e8 : vs 8 = .bool true := hC 8 (by simp)
  have e9 : vs 9 = .pointer (some ⟨b1, 2, none⟩) := hC 9 (by simp)
  have e11 : vs 11 = .int .i64 (cmpI d 0) := hC 11 (by simp)
  have e12 : vs 12 = .bool true := hC 12 (by simp)
  have e13 : vs 13 = .bool true := hC 13 (by simp)
  have e14 : vs 14 = .bool true := hC 14 (by simp)
  have e15 : vs 15 = .pointer (some ⟨b1, 0, none⟩) := hC 15 (by simp)
  have e17 : vs 17 = .pointer (some ⟨b1, 2, none⟩) := hC 17 (by simp)
  have e20 : vs 20 = .bool true := hC 20 (by simp)
  have e21 : vs 21 = .bool true := hC 21 (by simp)
  have e22 : vs 22 = .bool true := hC 22 (by simp)
  have E : Fr w [(b1, 4, Fq.pair n d)] w3 := E3
  rw [lay_all hL]
  simp only [putAll, dstOf, List.length_cons, List.length_nil, Nat.zero_add, Nat.reduceAdd, List.getElem?_toArray, List.getElem?_cons_zero, List.getElem?_cons_succ, Option.bind_some, Act.put, List.setIfInBounds_toArray, List.set_cons_succ, List.set_cons_zero]
  rw [e0, e2, e3, e4, e6, e7, e8, e9, e11, e12, e13, e14, e15, e17, e20, e21, e22]
  generalize vs 1 = u3_1
  generalize vs 5 = u3_5
  generalize vs 10 = u3_10
  generalize vs 16 = u3_16
  generalize vs 18 = u3_18
  generalize vs 19 = u3_19
  clear e0 e2 e3 e4 e6 e7 e8 e9 e11 e12 e13 e14 e15 e17 e20 e21 e22 hC hn E3 hL vs L nb
  clear B2 hn hd
  go_wp2
  refine bodyPost_ret (v := .bool true) ?_ rfl (by first | exact ⟨_, rfl, E.below, rfl⟩ | exact ⟨_, rfl, E.below⟩ | exact ⟨rfl, E.below⟩)
  simp [results, Try.results21, go_sem]

set_option maxRecDepth 100000 in
set_option maxHeartbeats 4000000 in
theorem exSValidT {w : World} {v : Value} {n d : Int} (h : Pair w v n d) (hn : ab n < pw 200) (hd : ab d < pw 200) (hd0 : 0 < d) (hg : Int.gcd n d = 1) :
    Calls Try.prog 20 #[v] w fun e w' => ∃ v', e = .returned v' ∧ Below w.heap.size w w' ∧ v' = .bool true := by
  replace hn := hidd hn
  replace hd := hidd hd
  obtain ⟨n0, ao0, k0, c0, n0', ao0', k0', c0', rfl, _⟩ := ratV_pair h
  obtain ⟨w1, b1, hw1, hb1, hs1, E⟩ := fr_start w (F := Fq.pair n d) (us := [.bool n0, .slice ao0 k0 c0, .bool n0', .slice ao0' k0' c0']) 31 rfl (by simp) (tame_rat _ _ _ _ _ _ _ _) h
  go_enter Try.func20, Try.ntmps20
  go_upto_region 1 with (fail)
  rw [← hw1]
  rw [← hb1]
  clear hw1 hb1 hs1
  have T : Hid (0 < cmpI d 0) := cmpIqgt.2 hd0
  have B2 : Hid (ab ((Int.gcd n d : Int)) < pw 200) := ab_gcdB hn.out hd.out (by omega) (by omega)
  have B3 : Hid (ab ((1)) < pw 3) := ab_lit (by decide)
  refine region_fr (C := [Fq.is (.pointer (some ⟨b1, 0, none⟩)), Fq.num n, Fq.is (.bool true), Fq.is (.bool true), Fq.is (.pointer (some ⟨b1, 2, none⟩)), Fq.num d, Fq.is (.bool true), Fq.is (.bool true), Fq.is (.bool true), Fq.is (.pointer (some ⟨b1, 2, none⟩)), Fq.num d, Fq.is (.int .i64 (cmpI d 0)), Fq.is (.bool true), Fq.is (.bool true), Fq.is (.bool true), Fq.is (.pointer (some ⟨b1, 0, none⟩)), Fq.num n, Fq.is (.pointer (some ⟨b1, 2, none⟩)), Fq.num d, Fq.num (Int.gcd n d : Int), Fq.num (1), Fq.is (.bool true), Fq.is (.bool true), Fq.is (.bool true)]) (ks := [none]) (new := []) E rfl (by kernel_rfl) rfl rfl (fun hp => ⟨?_, ?_, ?_, ?_, ?_, ?_, ?_, ?_, ?_, ?_, ?_, ?_, ?_, ?_, ?_, ?_, ?_, ?_, ?_, ?_, ?_, ?_, ?_, ?_, trivial⟩) ?_
  · exact q_addr (b := b1) (off := 0) (off' := 0) hp (free_of rfl) trivial (sq_out rfl rfl (fun _ _ => rfl)) (fun ρ w h => by simp [execOp, go_sem, h]) (fun _ => rfl)
  · exact q_loadInt (off := 0) hp (free_of rfl) trivial (List.mem_iff_getElem?.2 ⟨0, rfl⟩) (.inl rfl) (Nat.le_of_ble_eq_true rfl) (sq_in 0 rfl rfl (by simp) rfl (fun v w h => h)) (fun us w hl h => ld_pn hl h)
  · exact q_call1 (F := (Fq.num n).P) hp (free_of rfl) trivial (enq_R_Valid) (sq_in 1 rfl rfl (by simp) rfl (fun v w h => h)) (fun v w h => exRIsValid h)
  · exact q_move hp (free_of rfl) trivial (sq_in 2 rfl rfl (by simp) rfl (fun v w h => h))
  · exact q_addr (b := b1) (off := 0) (off' := 2) hp (free_of rfl) (gq_some rfl rfl (by simp) rfl (fun v w h => h)) (sq_out rfl rfl (fun _ _ => rfl)) (fun ρ w h => by simp [execOp, go_sem, h]) (fun _ => rfl)
  · exact q_loadInt (off := 2) hp (free_of rfl) (gq_some rfl rfl (by simp) rfl (fun v w h => h)) (List.mem_iff_getElem?.2 ⟨0, rfl⟩) (.inl rfl) (Nat.le_of_ble_eq_true rfl) (sq_in 4 rfl rfl (by simp) rfl (fun v w h => h)) (fun us w hl h => ld_pd hl h)
  · exact q_call1 (F := (Fq.num d).P) hp (free_of rfl) (gq_some rfl rfl (by simp) rfl (fun v w h => h)) (enq_R_Valid) (sq_in 5 rfl rfl (by simp) rfl (fun v w h => h)) (fun v w h => exRIsValid h)
  · exact q_two (F := fun v _ => v = .bool true) (G := fun v _ => v = .bool true) hp (free_of rfl) trivial (sq_in 3 rfl rfl (by simp) rfl (fun v w h => h)) (sq_in 6 rfl rfl (by simp) rfl (fun v w h => h)) (fun ρ w hc h h' => ⟨_, by simp [execOp, go_sem, h, h'], rfl⟩)
  · exact q_move hp (free_of rfl) trivial (sq_in 7 rfl rfl (by simp) rfl (fun v w h => h))
  · exact q_addr (b := b1) (off := 0) (off' := 2) hp (free_of rfl) (gq_some rfl rfl (by simp) rfl (fun v w h => h)) (sq_out rfl rfl (fun _ _ => rfl)) (fun ρ w h => by simp [execOp, go_sem, h]) (fun _ => rfl)
  · exact q_loadInt (off := 2) hp (free_of rfl) (gq_some rfl rfl (by simp) rfl (fun v w h => h)) (List.mem_iff_getElem?.2 ⟨0, rfl⟩) (.inl rfl) (Nat.le_of_ble_eq_true rfl) (sq_in 9 rfl rfl (by simp) rfl (fun v w h => h)) (fun us w hl h => ld_pd hl h)
  · exact q_call1 (F := (Fq.num d).P) hp (free_of rfl) (gq_some rfl rfl (by simp) rfl (fun v w h => h)) (enq_R_Sign) (sq_in 10 rfl rfl (by simp) rfl (fun v w h => h)) (fun v w h => exRSign h)
  · exact q_one (F := fun v _ => v = .int .i64 (cmpI d 0)) hp (free_of rfl) (gq_some rfl rfl (by simp) rfl (fun v w h => h)) (sq_in 11 rfl rfl (by simp) rfl (fun v w h => h)) (fun ρ w hc h => ⟨.bool true, by simp [execOp, go_sem, h, hc, T.out], rfl⟩)
  · exact q_two (F := fun v _ => v = .bool true) (G := fun v _ => v = .bool true) hp (free_of rfl) trivial (sq_in 8 rfl rfl (by simp) rfl (fun v w h => h)) (sq_in 12 rfl rfl (by simp) rfl (fun v w h => h)) (fun ρ w hc h h' => ⟨_, by simp [execOp, go_sem, h, h'], rfl⟩)
  · exact q_move hp (free_of rfl) trivial (sq_in 13 rfl rfl (by simp) rfl (fun v w h => h))
  · exact q_addr (b := b1) (off := 0) (off' := 0) hp (free_of rfl) (gq_some rfl rfl (by simp) rfl (fun v w h => h)) (sq_out rfl rfl (fun _ _ => rfl)) (fun ρ w h => by simp [execOp, go_sem, h]) (fun _ => rfl)
  · exact q_loadInt (off := 0) hp (free_of rfl) (gq_some rfl rfl (by simp) rfl (fun v w h => h)) (List.mem_iff_getElem?.2 ⟨0, rfl⟩) (.inl rfl) (Nat.le_of_ble_eq_true rfl) (sq_in 15 rfl rfl (by simp) rfl (fun v w h => h)) (fun us w hl h => ld_pn hl h)
  · exact q_addr (b := b1) (off := 0) (off' := 2) hp (free_of rfl) (gq_some rfl rfl (by simp) rfl (fun v w h => h)) (sq_out rfl rfl (fun _ _ => rfl)) (fun ρ w h => by simp [execOp, go_sem, h]) (fun _ => rfl)
  · exact q_loadInt (off := 2) hp (free_of rfl) (gq_some rfl rfl (by simp) rfl (fun v w h => h)) (List.mem_iff_getElem?.2 ⟨0, rfl⟩) (.inl rfl) (Nat.le_of_ble_eq_true rfl) (sq_in 17 rfl rfl (by simp) rfl (fun v w h => h)) (fun us w hl h => ld_pd hl h)
  · exact q_call2 (F := (Fq.num n).P) (G := (Fq.num d).P) hp (free_of rfl) (gq_some rfl rfl (by simp) rfl (fun v w h => h)) (enq_R_Gcd) (sq_in 16 rfl rfl (by simp) rfl (fun v w h => h)) (sq_in 18 rfl rfl (by simp) rfl (fun v w h => h)) (fun v v' w h h' => exRGcd h h' (Int.lt_of_lt_of_le hn.out (pw_le (by omega))) (Int.lt_of_lt_of_le hd.out (pw_le (by omega))))
  · exact q_call1 (F := (Fq.is (.int .i64 1)).P) hp (free_of rfl) (gq_some rfl rfl (by simp) rfl (fun v w h => h)) (enq_R_Of) (sq_const (fun _ => rfl)) (fun v w h => (by subst h; exact rOfK w (1) (by omega) (by omega)))
  · exact q_call2 (F := (Fq.num (Int.gcd n d : Int)).P) (G := (Fq.num (1)).P) hp (free_of rfl) (gq_some rfl rfl (by simp) rfl (fun v w h => h)) (enq_R_Same) (sq_in 19 rfl rfl (by simp) rfl (fun v w h => h)) (sq_in 20 rfl rfl (by simp) rfl (fun v w h => h)) (fun v v' w h h' => exRSameB h h' (decide_eq_true (by omega)))
  · exact q_two (F := fun v _ => v = .bool true) (G := fun v _ => v = .bool true) hp (free_of rfl) trivial (sq_in 14 rfl rfl (by simp) rfl (fun v w h => h)) (sq_in 21 rfl rfl (by simp) rfl (fun v w h => h)) (fun ρ w hc h h' => ⟨_, by simp [execOp, go_sem, h, h'], rfl⟩)
  · exact q_assign hp (free_of rfl) trivial (sq_in 22 rfl rfl (by simp) rfl (fun v w h => h))
  intro L vs w4 nb hL hC hn E4
  have e0 : vs 0 = .pointer (some ⟨b1, 0, none⟩) := hC 0 (by simp)
  have e2 : vs 2 = .bool true := hC 2 (by simp)
  have e3 : vs 3 = .bool true := hC 3 (by simp)
  have e4 : vs 4 = .pointer (some ⟨b1, 2, none⟩) := hC 4 (by simp)
  have e6 : vs 6 = .bool true := hC 6 (by simp)
  have e7 : vs 7 = .bool true := hC 7 (by simp)
  have e8 : vs 8 = .bool true := hC 8 (by simp)
  have e9 : vs 9 = .pointer (some ⟨b1, 2, none⟩) := hC 9 (by simp)
  have e11 : vs 11 = .int .i64 (cmpI d 0) := hC 11 (by simp)
  have e12 : vs 12 = .bool true := hC 12 (by simp)
  have e13 : vs 13 = .bool true := hC 13 (by simp)
  have e14 : vs 14 = .bool true := hC 14 (by simp)
  have e15 : vs 15 = .pointer (some ⟨b1, 0, none⟩) := hC 15 (by simp)
  have e17 : vs 17 = .pointer (some ⟨b1, 2, none⟩) := hC 17 (by simp)
  have e21 : vs 21 = .bool true := hC 21 (by simp)
  have e22 : vs 22 = .bool true := hC 22 (by simp)
  have e23 : vs 23 = .bool true := hC 23 (by simp)
  have E : Fr w [(b1, 4, Fq.pair n d)] w4 := E4
  rw [lay_all hL]
  simp only [putAll, dstOf, List.length_cons, List.length_nil, Nat.zero_add, Nat.reduceAdd, List.getElem?_toArray, List.getElem?_cons_zero, List.getElem?_cons_succ, Option.bind_some, Act.put, List.setIfInBounds_toArray, List.set_cons_succ, List.set_cons_zero]
  rw [e0, e2, e3, e4, e6, e7, e8, e9, e11, e12, e13, e14, e15, e17, e21, e22, e23]
  generalize vs 1 = u4_1
  generalize vs 5 = u4_5
  generalize vs 10 = u4_10
  generalize vs 16 = u4_16
  generalize vs 18 = u4_18
  generalize vs 19 = u4_19
  generalize vs 20 = u4_20
  clear e0 e2 e3 e4 e6 e7 e8 e9 e11 e12 e13 e14 e15 e17 e21 e22 e23 hC hn E4 hL vs L nb
  clear B2 B3 hn hd
  go_wp2
  refine bodyPost_ret (v := .bool true) ?_ rfl (by first | exact ⟨_, rfl, E.below, rfl⟩ | exact ⟨_, rfl, E.below⟩ | exact ⟨rfl, E.below⟩)
  simp [results, Try.results20, go_sem]

set_option maxRecDepth 100000 in
set_option maxHeartbeats 4000000 in
theorem exSValidG {w : World} {v : Value} {n d : Int} (h : Pair w v n d) (hn : ab n < pw 200) (hd : ab d < pw 200) (hd0 : 0 < d) (hg : Int.gcd n d ≠ 1) :
    Calls Try.prog 20 #[v] w fun e w' => ∃ v', e = .returned v' ∧ Below w.heap.size w w' ∧ v' = .bool false := by
  replace hn := hidd hn
  replace hd := hidd hd
  obtain ⟨n0, ao0, k0, c0, n0', ao0', k0', c0', rfl, _⟩ := ratV_pair h
  obtain ⟨w1, b1, hw1, hb1, hs1, E⟩ := fr_start w (F := Fq.pair n d) (us := [.bool n0, .slice ao0 k0 c0, .bool n0', .slice ao0' k0' c0']) 31 rfl (by simp) (tame_rat _ _ _ _ _ _ _ _) h
  go_enter Try.func20, Try.ntmps20
  go_upto_region 1 with (fail)
  rw [← hw1]
  rw [← hb1]
  clear hw1 hb1 hs1
  have T : Hid (0 < cmpI d 0) := cmpIqgt.2 hd0
  have B2 : Hid (ab ((Int.gcd n d : Int)) < pw 200) := ab_gcdB hn.out hd.out (by omega) (by omega)
  have B3 : Hid (ab ((1)) < pw 3) := ab_lit (by decide)
  refine region_fr (C := [Fq.is (.pointer (some ⟨b1, 0, none⟩)), Fq.num n, Fq.is (.bool true), Fq.is (.bool true), Fq.is (.pointer (some ⟨b1, 2, none⟩)), Fq.num d, Fq.is (.bool true), Fq.is (.bool true), Fq.is (.bool true), Fq.is (.pointer (some ⟨b1, 2, none⟩)), Fq.num d, Fq.is (.int .i64 (cmpI d 0)), Fq.is (.bool true), Fq.is (.bool true), Fq.is (.bool true), Fq.is (.pointer (some ⟨b1, 0, none⟩)), Fq.num n, Fq.is (.pointer (some ⟨b1, 2, none⟩)), Fq.num d, Fq.num (Int.gcd n d : Int), Fq.num (1), Fq.is (.bool false), Fq.is (.bool false), Fq.is (.bool false)]) (ks := [none]) (new := []) E rfl (by kernel_rfl) rfl rfl (fun hp => ⟨?_, ?_, ?_, ?_, ?_, ?_, ?_, ?_, ?_, ?_, ?_, ?_, ?_, ?_, ?_, ?_, ?_, ?_, ?_, ?_, ?_, ?_, ?_, ?_, trivial⟩) ?_
  · exact q_addr (b := b1) (off := 0) (off' := 0) hp (free_of rfl) trivial (sq_out rfl rfl (fun _ _ => rfl)) (fun ρ w h => by simp [execOp, go_sem, h]) (fun _ => rfl)
  · exact q_loadInt (off := 0) hp (free_of rfl) trivial (List.mem_iff_getElem?.2 ⟨0, rfl⟩) (.inl rfl) (Nat.le_of_ble_eq_true rfl) (sq_in 0 rfl rfl (by simp) rfl (fun v w h => h)) (fun us w hl h => ld_pn hl h)
  · exact q_call1 (F := (Fq.num n).P) hp (free_of rfl) trivial (enq_R_Valid) (sq_in 1 rfl rfl (by simp) rfl (fun v w h => h)) (fun v w h => exRIsValid h)
  · exact q_move hp (free_of rfl) trivial (sq_in 2 rfl rfl (by simp) rfl (fun v w h => h))
  · exact q_addr (b := b1) (off := 0) (off' := 2) hp (free_of rfl) (gq_some rfl rfl (by simp) rfl (fun v w h => h)) (sq_out rfl rfl (fun _ _ => rfl)) (fun ρ w h => by simp [execOp, go_sem, h]) (fun _ => rfl)
  · exact q_loadInt (off := 2) hp (free_of rfl) (gq_some rfl rfl (by simp) rfl (fun v w h => h)) (List.mem_iff_getElem?.2 ⟨0, rfl⟩) (.inl rfl) (Nat.le_of_ble_eq_true rfl) (sq_in 4 rfl rfl (by simp) rfl (fun v w h => h)) (fun us w hl h => ld_pd hl h)
  · exact q_call1 (F := (Fq.num d).P) hp (free_of rfl) (gq_some rfl rfl (by simp) rfl (fun v w h => h)) (enq_R_Valid) (sq_in 5 rfl rfl (by simp) rfl (fun v w h => h)) (fun v w h => exRIsValid h)
  · exact q_two (F := fun v _ => v = .bool true) (G := fun v _ => v = .bool true) hp (free_of rfl) trivial (sq_in 3 rfl rfl (by simp) rfl (fun v w h => h)) (sq_in 6 rfl rfl (by simp) rfl (fun v w h => h)) (fun ρ w hc h h' => ⟨_, by simp [execOp, go_sem, h, h'], rfl⟩)
  · exact q_move hp (free_of rfl) trivial (sq_in 7 rfl rfl (by simp) rfl (fun v w h => h))
  · exact q_addr (b := b1) (off := 0) (off' := 2) hp (free_of rfl) (gq_some rfl rfl (by simp) rfl (fun v w h => h)) (sq_out rfl rfl (fun _ _ => rfl)) (fun ρ w h => by simp [execOp, go_sem, h]) (fun _ => rfl)
  · exact q_loadInt (off := 2) hp (free_of rfl) (gq_some rfl rfl (by simp) rfl (fun v w h => h)) (List.mem_iff_getElem?.2 ⟨0, rfl⟩) (.inl rfl) (Nat.le_of_ble_eq_true rfl) (sq_in 9 rfl rfl (by simp) rfl (fun v w h => h)) (fun us w hl h => ld_pd hl h)
  · exact q_call1 (F := (Fq.num d).P) hp (free_of rfl) (gq_some rfl rfl (by simp) rfl (fun v w h => h)) (enq_R_Sign) (sq_in 10 rfl rfl (by simp) rfl (fun v w h => h)) (fun v w h => exRSign h)
  · exact q_one (F := fun v _ => v = .int .i64 (cmpI d 0)) hp (free_of rfl) (gq_some rfl rfl (by simp) rfl (fun v w h => h)) (sq_in 11 rfl rfl (by simp) rfl (fun v w h => h)) (fun ρ w hc h => ⟨.bool true, by simp [execOp, go_sem, h, hc, T.out], rfl⟩)
  · exact q_two (F := fun v _ => v = .bool true) (G := fun v _ => v = .bool true) hp (free_of rfl) trivial (sq_in 8 rfl rfl (by simp) rfl (fun v w h => h)) (sq_in 12 rfl rfl (by simp) rfl (fun v w h => h)) (fun ρ w hc h h' => ⟨_, by simp [execOp, go_sem, h, h'], rfl⟩)
  · exact q_move hp (free_of rfl) trivial (sq_in 13 rfl rfl (by simp) rfl (fun v w h => h))
  · exact q_addr (b := b1) (off := 0) (off' := 0) hp (free_of rfl) (gq_some rfl rfl (by simp) rfl (fun v w h => h)) (sq_out rfl rfl (fun _ _ => rfl)) (fun ρ w h => by simp [execOp, go_sem, h]) (fun _ => rfl)
  · exact q_loadInt (off := 0) hp (free_of rfl) (gq_some rfl rfl (by simp) rfl (fun v w h => h)) (List.mem_iff_getElem?.2 ⟨0, rfl⟩) (.inl rfl) (Nat.le_of_ble_eq_true rfl) (sq_in 15 rfl rfl (by simp) rfl (fun v w h => h)) (fun us w hl h => ld_pn hl h)
  · exact q_addr (b := b1) (off := 0) (off' := 2) hp (free_of rfl) (gq_some rfl rfl (by simp) rfl (fun v w h => h)) (sq_out rfl rfl (fun _ _ => rfl)) (fun ρ w h => by simp [execOp, go_sem, h]) (fun _ => rfl)
  · exact q_loadInt (off := 2) hp (free_of rfl) (gq_some rfl rfl (by simp) rfl (fun v w h => h)) (List.mem_iff_getElem?.2 ⟨0, rfl⟩) (.inl rfl) (Nat.le_of_ble_eq_true rfl) (sq_in 17 rfl rfl (by simp) rfl (fun v w h => h)) (fun us w hl h => ld_pd hl h)
  · exact q_call2 (F := (Fq.num n).P) (G := (Fq.num d).P) hp (free_of rfl) (gq_some rfl rfl (by simp) rfl (fun v w h => h)) (enq_R_Gcd) (sq_in 16 rfl rfl (by simp) rfl (fun v w h => h)) (sq_in 18 rfl rfl (by simp) rfl (fun v w h => h)) (fun v v' w h h' => exRGcd h h' (Int.lt_of_lt_of_le hn.out (pw_le (by omega))) (Int.lt_of_lt_of_le hd.out (pw_le (by omega))))
  · exact q_call1 (F := (Fq.is (.int .i64 1)).P) hp (free_of rfl) (gq_some rfl rfl (by simp) rfl (fun v w h => h)) (enq_R_Of) (sq_const (fun _ => rfl)) (fun v w h => (by subst h; exact rOfK w (1) (by omega) (by omega)))
  · exact q_call2 (F := (Fq.num (Int.gcd n d : Int)).P) (G := (Fq.num (1)).P) hp (free_of rfl) (gq_some rfl rfl (by simp) rfl (fun v w h => h)) (enq_R_Same) (sq_in 19 rfl rfl (by simp) rfl (fun v w h => h)) (sq_in 20 rfl rfl (by simp) rfl (fun v w h => h)) (fun v v' w h h' => exRSameB h h' (decide_eq_false (by omega)))
  · exact q_two (F := fun v _ => v = .bool true) (G := fun v _ => v = .bool false) hp (free_of rfl) trivial (sq_in 14 rfl rfl (by simp) rfl (fun v w h => h)) (sq_in 21 rfl rfl (by simp) rfl (fun v w h => h)) (fun ρ w hc h h' => ⟨_, by simp [execOp, go_sem, h, h'], rfl⟩)
  · exact q_assign hp (free_of rfl) trivial (sq_in 22 rfl rfl (by simp) rfl (fun v w h => h))
  intro L vs w4 nb hL hC hn E4
  have e0 : vs 0 = .pointer (some ⟨b1, 0, none⟩) := hC 0 (by simp)
  have e2 : vs 2 = .bool true := hC 2 (by simp)
  have e3 : vs 3 = .bool true := hC 3 (by simp)
  have e4 : vs 4 = .pointer (some ⟨b1, 2, none⟩) := hC 4 (by simp)
  have e6 : vs 6 = .bool true := hC 6 (by simp)
  have e7 : vs 7 = .bool true := hC 7 (by simp)
  have e8 : vs 8 = .bool true := hC 8 (by simp)
  have e9 : vs 9 = .pointer (some ⟨b1, 2, none⟩) := hC 9 (by simp)
  have e11 : vs 11 = .int .i64 (cmpI d 0) := hC 11 (by simp)
  have e12 : vs 12 = .bool true := hC 12 (by simp)
  have e13 : vs 13 = .bool true := hC 13 (by simp)
  have e14 : vs 14 = .bool true := hC 14 (by simp)
  have e15 : vs 15 = .pointer (some ⟨b1, 0, none⟩) := hC 15 (by simp)
  have e17 : vs 17 = .pointer (some ⟨b1, 2, none⟩) := hC 17 (by simp)
  have e21 : vs 21 = .bool false := hC 21 (by simp)
  have e22 : vs 22 = .bool false := hC 22 (by simp)
  have e23 : vs 23 = .bool false := hC 23 (by simp)
  have E : Fr w [(b1, 4, Fq.pair n d)] w4 := E4
  rw [lay_all hL]
  simp only [putAll, dstOf, List.length_cons, List.length_nil, Nat.zero_add, Nat.reduceAdd, List.getElem?_toArray, List.getElem?_cons_zero, List.getElem?_cons_succ, Option.bind_some, Act.put, List.setIfInBounds_toArray, List.set_cons_succ, List.set_cons_zero]
  rw [e0, e2, e3, e4, e6, e7, e8, e9, e11, e12, e13, e14, e15, e17, e21, e22, e23]
  generalize vs 1 = u4_1
  generalize vs 5 = u4_5
  generalize vs 10 = u4_10
  generalize vs 16 = u4_16
  generalize vs 18 = u4_18
  generalize vs 19 = u4_19
  generalize vs 20 = u4_20
  clear e0 e2 e3 e4 e6 e7 e8 e9 e11 e12 e13 e14 e15 e17 e21 e22 e23 hC hn E4 hL vs L nb
  clear B2 B3 hn hd
  go_wp2
  refine bodyPost_ret (v := .bool false) ?_ rfl (by first | exact ⟨_, rfl, E.below, rfl⟩ | exact ⟨_, rfl, E.below⟩ | exact ⟨rfl, E.below⟩)
  simp [results, Try.results20, go_sem]

set_option maxRecDepth 100000 in
set_option maxHeartbeats 4000000 in
theorem exSValidN {w : World} {v : Value} {n d : Int} (h : Pair w v n d) (hd0 : ¬ 0 < d) :
    Calls Try.prog 20 #[v] w fun e w' => ∃ v', e = .returned v' ∧ Below w.heap.size w w' ∧ v' = .bool false := by
  obtain ⟨n0, ao0, k0, c0, n0', ao0', k0', c0', rfl, _⟩ := ratV_pair h
  obtain ⟨w1, b1, hw1, hb1, hs1, E⟩ := fr_start w (F := Fq.pair n d) (us := [.bool n0, .slice ao0 k0 c0, .bool n0', .slice ao0' k0' c0']) 31 rfl (by simp) (tame_rat _ _ _ _ _ _ _ _) h
  go_enter Try.func20, Try.ntmps20
  go_upto_region 1 with (fail)
  rw [← hw1]
  rw [← hb1]
  clear hw1 hb1 hs1
  have T : Hid (¬ 0 < cmpI d 0) := fun e => hd0 (cmpIqgt.1 e)
  refine region_fr (C := [Fq.is (.pointer (some ⟨b1, 0, none⟩)), Fq.num n, Fq.is (.bool true), Fq.is (.bool true), Fq.is (.pointer (some ⟨b1, 2, none⟩)), Fq.num d, Fq.is (.bool true), Fq.is (.bool true), Fq.is (.bool true), Fq.is (.pointer (some ⟨b1, 2, none⟩)), Fq.num d, Fq.is (.int .i64 (cmpI d 0)), Fq.is (.bool false), Fq.is (.bool false), Fq.is (.bool false), Fq.is (undef), Fq.is (undef), Fq.is (undef), Fq.is (undef), Fq.is (undef), Fq.is (undef), Fq.is (undef), Fq.is (.bool false), Fq.is (.bool false)]) (ks := [none]) (new := []) E rfl (by kernel_rfl) rfl rfl (fun hp => ⟨?_, ?_, ?_, ?_, ?_, ?_, ?_, ?_, ?_, ?_, ?_, ?_, ?_, ?_, ?_, ?_, ?_, ?_, ?_, ?_, ?_, ?_, ?_, ?_, trivial⟩) ?_
  · exact q_addr (b := b1) (off := 0) (off' := 0) hp (free_of rfl) trivial (sq_out rfl rfl (fun _ _ => rfl)) (fun ρ w h => by simp [execOp, go_sem, h]) (fun _ => rfl)
  · exact q_loadInt (off := 0) hp (free_of rfl) trivial (List.mem_iff_getElem?.2 ⟨0, rfl⟩) (.inl rfl) (Nat.le_of_ble_eq_true rfl) (sq_in 0 rfl rfl (by simp) rfl (fun v w h => h)) (fun us w hl h => ld_pn hl h)
  · exact q_call1 (F := (Fq.num n).P) hp (free_of rfl) trivial (enq_R_Valid) (sq_in 1 rfl rfl (by simp) rfl (fun v w h => h)) (fun v w h => exRIsValid h)
  · exact q_move hp (free_of rfl) trivial (sq_in 2 rfl rfl (by simp) rfl (fun v w h => h))
  · exact q_addr (b := b1) (off := 0) (off' := 2) hp (free_of rfl) (gq_some rfl rfl (by simp) rfl (fun v w h => h)) (sq_out rfl rfl (fun _ _ => rfl)) (fun ρ w h => by simp [execOp, go_sem, h]) (fun _ => rfl)
  · exact q_loadInt (off := 2) hp (free_of rfl) (gq_some rfl rfl (by simp) rfl (fun v w h => h)) (List.mem_iff_getElem?.2 ⟨0, rfl⟩) (.inl rfl) (Nat.le_of_ble_eq_true rfl) (sq_in 4 rfl rfl (by simp) rfl (fun v w h => h)) (fun us w hl h => ld_pd hl h)
  · exact q_call1 (F := (Fq.num d).P) hp (free_of rfl) (gq_some rfl rfl (by simp) rfl (fun v w h => h)) (enq_R_Valid) (sq_in 5 rfl rfl (by simp) rfl (fun v w h => h)) (fun v w h => exRIsValid h)
  · exact q_two (F := fun v _ => v = .bool true) (G := fun v _ => v = .bool true) hp (free_of rfl) trivial (sq_in 3 rfl rfl (by simp) rfl (fun v w h => h)) (sq_in 6 rfl rfl (by simp) rfl (fun v w h => h)) (fun ρ w hc h h' => ⟨_, by simp [execOp, go_sem, h, h'], rfl⟩)
  · exact q_move hp (free_of rfl) trivial (sq_in 7 rfl rfl (by simp) rfl (fun v w h => h))
  · exact q_addr (b := b1) (off := 0) (off' := 2) hp (free_of rfl) (gq_some rfl rfl (by simp) rfl (fun v w h => h)) (sq_out rfl rfl (fun _ _ => rfl)) (fun ρ w h => by simp [execOp, go_sem, h]) (fun _ => rfl)
  · exact q_loadInt (off := 2) hp (free_of rfl) (gq_some rfl rfl (by simp) rfl (fun v w h => h)) (List.mem_iff_getElem?.2 ⟨0, rfl⟩) (.inl rfl) (Nat.le_of_ble_eq_true rfl) (sq_in 9 rfl rfl (by simp) rfl (fun v w h => h)) (fun us w hl h => ld_pd hl h)
  · exact q_call1 (F := (Fq.num d).P) hp (free_of rfl) (gq_some rfl rfl (by simp) rfl (fun v w h => h)) (enq_R_Sign) (sq_in 10 rfl rfl (by simp) rfl (fun v w h => h)) (fun v w h => exRSign h)
  · exact q_one (F := fun v _ => v = .int .i64 (cmpI d 0)) hp (free_of rfl) (gq_some rfl rfl (by simp) rfl (fun v w h => h)) (sq_in 11 rfl rfl (by simp) rfl (fun v w h => h)) (fun ρ w hc h => ⟨.bool false, by simp [execOp, go_sem, h, hc, T.out], rfl⟩)
  · exact q_two (F := fun v _ => v = .bool true) (G := fun v _ => v = .bool false) hp (free_of rfl) trivial (sq_in 8 rfl rfl (by simp) rfl (fun v w h => h)) (sq_in 12 rfl rfl (by simp) rfl (fun v w h => h)) (fun ρ w hc h h' => ⟨_, by simp [execOp, go_sem, h, h'], rfl⟩)
  · exact q_move hp (free_of rfl) trivial (sq_in 13 rfl rfl (by simp) rfl (fun v w h => h))
  · exact q_skip hp (free_of rfl) rfl (gq_some rfl rfl (by simp) rfl (fun v w h => h)) (fun _ => rfl)
  · exact q_skip hp (free_of rfl) rfl (gq_some rfl rfl (by simp) rfl (fun v w h => h)) (fun _ => rfl)
  · exact q_skip hp (free_of rfl) rfl (gq_some rfl rfl (by simp) rfl (fun v w h => h)) (fun _ => rfl)
  · exact q_skip hp (free_of rfl) rfl (gq_some rfl rfl (by simp) rfl (fun v w h => h)) (fun _ => rfl)
  · exact q_skip hp (free_of rfl) rfl (gq_some rfl rfl (by simp) rfl (fun v w h => h)) (fun _ => rfl)
  · exact q_skip hp (free_of rfl) rfl (gq_some rfl rfl (by simp) rfl (fun v w h => h)) (fun _ => rfl)
  · exact q_skip hp (free_of rfl) rfl (gq_some rfl rfl (by simp) rfl (fun v w h => h)) (fun _ => rfl)
  · exact q_two (F := fun v _ => v = .bool false) (G := fun v _ => v = .bool false) hp (free_of rfl) trivial (sq_in 14 rfl rfl (by simp) rfl (fun v w h => h)) (sq_const (fun _ => rfl)) (fun ρ w hc h h' => ⟨_, by simp [execOp, go_sem, h, h'], rfl⟩)
  · exact q_assign hp (free_of rfl) trivial (sq_in 22 rfl rfl (by simp) rfl (fun v w h => h))
  intro L vs w2 nb hL hC hn E2
  have e0 : vs 0 = .pointer (some ⟨b1, 0, none⟩) := hC 0 (by simp)
  have e2 : vs 2 = .bool true := hC 2 (by simp)
  have e3 : vs 3 = .bool true := hC 3 (by simp)
  have e4 : vs 4 = .pointer (some ⟨b1, 2, none⟩) := hC 4 (by simp)
  have e6 : vs 6 = .bool true := hC 6 (by simp)
  have e7 : vs 7 = .bool true := hC 7 (by simp)
  have e8 : vs 8 = .bool true := hC 8 (by simp)
  have e9 : vs 9 = .pointer (some ⟨b1, 2, none⟩) := hC 9 (by simp)
  have e11 : vs 11 = .int .i64 (cmpI d 0) := hC 11 (by simp)
  have e12 : vs 12 = .bool false := hC 12 (by simp)
  have e13 : vs 13 = .bool false := hC 13 (by simp)
  have e14 : vs 14 = .bool false := hC 14 (by simp)
  have e15 : vs 15 = undef := hC 15 (by simp)
  have e16 : vs 16 = undef := hC 16 (by simp)
  have e17 : vs 17 = undef := hC 17 (by simp)
  have e18 : vs 18 = undef := hC 18 (by simp)
  have e19 : vs 19 = undef := hC 19 (by simp)
  have e20 : vs 20 = undef := hC 20 (by simp)
  have e21 : vs 21 = undef := hC 21 (by simp)
  have e22 : vs 22 = .bool false := hC 22 (by simp)
  have e23 : vs 23 = .bool false := hC 23 (by simp)
  have E : Fr w [(b1, 4, Fq.pair n d)] w2 := E2
  rw [lay_all hL]
  simp only [putAll, dstOf, List.length_cons, List.length_nil, Nat.zero_add, Nat.reduceAdd, List.getElem?_toArray, List.getElem?_cons_zero, List.getElem?_cons_succ, Option.bind_some, Act.put, List.setIfInBounds_toArray, List.set_cons_succ, List.set_cons_zero]
  rw [e0, e2, e3, e4, e6, e7, e8, e9, e11, e12, e13, e14, e15, e16, e17, e18, e19, e20, e21, e22, e23]
  generalize vs 1 = u2_1
  generalize vs 5 = u2_5
  generalize vs 10 = u2_10
  clear e0 e2 e3 e4 e6 e7 e8 e9 e11 e12 e13 e14 e15 e16 e17 e18 e19 e20 e21 e22 e23 hC hn E2 hL vs L nb
  go_wp2
  refine bodyPost_ret (v := .bool false) ?_ rfl (by first | exact ⟨_, rfl, E.below, rfl⟩ | exact ⟨_, rfl, E.below⟩ | exact ⟨rfl, E.below⟩)
  simp [results, Try.results20, go_sem]


section
variable {w : World} {v : Value} {n : Bool} {a : Option Addr} {k c : Nat} {xs : List Int} {m : Bool} {r : Option Addr} {l q : Nat} {ys : List Int}

end

end Go.Proofs.Ytlehjhlihahjhaa

/- Walk of the reference: the text of an integer. Walk of the reference: Parse. Walk of the law on texts. -/
namespace Go.Proofs.Ytlehjhlihahjhaa
open Go Go.RowKit

theorem back_ne {w : World} {B : Nat} {v : Value} {ds : List Int} {g m : Nat} {zs : List Int} (hb : Back w B v ds) (hm : Mine w g m zs) : some g ≠ v.ownBlock := by
  rcases hb.2 with ⟨rfl, _⟩ | ⟨g', cap, cur, rfl, _, hg, _⟩
  · simp [Value.ownBlock]
  · intro h
    have h2 : g = g' := by simpa [Value.ownBlock] using h
    subst h2
    obtain ⟨cur', h1, _⟩ := hm
    rw [hg] at h1
    injection h1 with h3
    injection h3 with _ h4 _
    exact absurd h4 (by decide)

theorem Back.start (w : World) : Back (w.alloc (.cells #[] 5)) w.heap.size (.slice (some ⟨w.heap.size, 0, none⟩) 0 0) [] :=
  ⟨rfl, .inr ⟨w.heap.size, 0, #[], rfl, Nat.le_refl _, heap_alloc_new _ _, Nat.le_refl _, Nat.zero_le _, rfl, rfl⟩⟩

theorem back_one (w : World) (x : Int) : w.heap.size < (w.alloc (.cells #[.int .u8 x] 5)).heap.size ∧ ∀ j, j < [x].length → (w.alloc (.cells #[.int .u8 x] 5)).cell? ⟨w.heap.size, j, none⟩ = some (.int .u8 ([x].getD j 0)) := by
  refine ⟨by simp, fun j hj => ?_⟩
  have : j = 0 := by simp at hj; omega
  subst this
  rw [cell_of_row _ _ _ _ _ (0, 0) (heap_alloc_new _ _)]
  rfl

theorem back_more {w wr w1 : World} {B : Nat} {v v' : Value} {ds : List Int} {d : Int} {o : Obj} (hown : Back wr B v ds) (hnx : Below B w wr) (hs : B ≤ wr.heap.size)
    (hown' : w1.ownsRow B 5 1 v' (ds.length + 1) (ds.map (Value.int .u8) ++ [.int .u8 d])) (hgrow : (wr.alloc o).grownBy w1 v.ownBlock) :
    Back w1 B v' (ds ++ [d]) ∧ Below B w w1 := by
  refine ⟨?_, (hnx.alloc hs o).grown hgrow (by simp; omega) (fun j hj => (World.ownsRow.lt hown j hj).1)⟩
  unfold Back
  simpa using hown'

theorem back_mine {w wr w1 : World} {B : Nat} {v v' : Value} {ds : List Int} {d : Int} {o : Obj} {g m : Nat} {zs : List Int} (hown : Back wr B v ds) (hm : Mine wr g m zs) (hnx : Below B w wr) (hs : B ≤ wr.heap.size)
    (hown' : w1.ownsRow B 5 1 v' (ds.length + 1) (ds.map (Value.int .u8) ++ [.int .u8 d])) (hgrow : (wr.alloc o).grownBy w1 v.ownBlock) :
    Back w1 B v' (ds ++ [d]) ∧ Mine w1 g m zs ∧ Below B w w1 := by
  obtain ⟨h1, h2⟩ := back_more hown hnx hs hown' hgrow
  refine ⟨h1, ?_, h2⟩
  have hl := hm.lt
  have hne := back_ne hown hm
  obtain ⟨cur, h3, h4⟩ := hm
  exact ⟨cur, by rw [hgrow.block g (by simp; omega) hne, heap_alloc_old _ _ hl]; exact h3, h4⟩

/-- 'string(s)' of bytes in a row of the call's own. -/
theorem run_text_of_cells {P : Program} {w : World} {g : Nat} {zs : List Int} (h : ∀ j, j < zs.length → w.cell? ⟨g, j, none⟩ = some (.int .u8 (zs.getD j 0))) (hd : ∀ d ∈ zs, 0 ≤ d ∧ d < 256) (src dst el : TypeId) (n cap : Nat) (hn : zs.length = n)
    (hs : P.underlying src = some (.slice el)) (he : P.underlying el = some (.int .u8)) (hdst : P.underlying dst = some .string) :
    (convert src dst (.slice (some ⟨g, 0, none⟩) n cap)).run P w = .ok (.string (bytesOf zs)) w := by
  subst hn
  have := run_convert_bytes_back (P := P) w src dst el ⟨g, 0, none⟩ cap (zs.map (fun d => UInt8.ofNat d.toNat)) hs he hdst (fun j hj => by
    have hj' : j < zs.length := by simpa using hj
    have hadd : (⟨g, 0, none⟩ : Addr).add j = ⟨g, j, none⟩ := by unfold Addr.add; split <;> simp_all
    rw [hadd, h j hj']
    have h0 := hd (zs[j]) (List.getElem_mem hj')
    simp [List.getD, hj']
    omega)
  simpa [bytesOf] using this

theorem drop_rev (os ds : List Int) {j : Nat} (h : j < ds.length) : os ++ (ds.drop (j + 1)).reverse ++ [ds.getD j 0] = os ++ (ds.drop j).reverse := by
  rw [List.drop_eq_getElem_cons h, List.reverse_cons, List.append_assoc]
  simp [List.getD, h]

theorem decs_tens {N : Nat} {ds : List Int} {X Q r : Int} (h : decs N = ds ++ decs X.toNat) (hX : 0 < X) (hr0 : 0 ≤ r) (hr : r < 10) (he : X = Q * 10 + r) (hQ : 0 ≤ Q) : decs N = (ds ++ [48 + r]) ++ decs Q.toNat := by
  rw [h, decs_pos (by omega), show X.toNat / 10 = Q.toNat by omega, show ((X.toNat % 10 : Nat) : Int) = r by omega]
  simp

theorem Back.mono {w w' : World} {B C : Nat} {v : Value} {ds : List Int} (h : Back w B v ds) (hb : Below C w w') (hC : w.heap.size ≤ C) : Back w' B v ds := by
  rcases h.2 with ⟨h1, h0⟩ | ⟨g, cap, cur, h1, h2, hg, rest⟩
  · exact ⟨h.1, .inl ⟨h1, h0⟩⟩
  · have hl := (Array.getElem?_eq_some_iff.1 hg).1
    exact ⟨h.1, .inr ⟨g, cap, cur, h1, h2, by rw [hb.block g (by omega)]; exact hg, rest⟩⟩

theorem Mine.take {w : World} {g m : Nat} {zs : List Int} (h : Mine w g m zs) {k : Nat} (hk : k ≤ m) : Mine w g k (zs.take k) := by
  obtain ⟨cur, h1, h2, h3, h4, h5⟩ := h
  refine ⟨cur, h1, by rw [List.length_take]; omega, h3.take k, by omega, fun j hj => ?_⟩
  rw [getD_take, if_pos hj]
  exact h5 j (by omega)

set_option maxRecDepth 20000 in
set_option maxHeartbeats 4000000 in
theorem RTextV (w : World) {v : Value} {z : Int} (h : Num w v z) (hz200 : ab z < pw 200) : Calls Try.prog 52 #[v] w fun e w' => e = .returned (textOf z) ∧ Below w.heap.size w w' := by
  obtain ⟨neg, ao, n, c, xs, rfl, hs, hn, hz, hc, hnn⟩ := h
  have hn200 : n ≤ 200 := by
    have h1 := hc.length_le (k := 200) (by unfold ab at hz200; have := val_nonneg hs.digs; subst hz; cases neg <;> simp [sgn] at hz200 <;> omega)
    rw [hs.len] at h1; exact h1
  have hv0 := val_nonneg hs.digs
  have hneg : neg = true ↔ z < 0 := by
    constructor
    · intro h1
      have h2 := hnn h1
      have h3 : val xs ≠ 0 := fun h => h2 (by rw [← hs.len]; exact hc.zero.2 h)
      subst h1
      rw [hz]; simp [sgn]; omega
    · intro h1
      cases neg
      · simp [sgn] at hz; omega
      · rfl
  have HZ := hidd (show z.natAbs = (val xs).toNat by rw [hz]; exact abs_sgn hv0)
  have HNEG := hidd hneg
  have HC := hidd hc
  have hdl := decs_val_len hs.digs
  rw [hs.len] at hdl
  have HDL := hidd hdl
  have HXL := hidd hs.len
  have hgt : ((200 : Int) < (n : Int)) = False := by simp; omega
  have HN2 := hidd hn200
  have hn6 : n ≤ 1000000 := by omega
  clear hz hc hdl hneg hz200 hv0 hnn hn hn200
  obtain ⟨i0, hi, hz0, hz1, hz2⟩ := info_parts info_byte
  go_enter Try.func52, Try.ntmps52
  go_upto_region 1 with (fail)
  obtain ⟨w0, hw0, hC, hCb⟩ : ∃ w0, w0 = w.alloc (.cells #[.bool neg, .slice ao n c] 29) ∧ IntBox w0 w.heap.size (.bool neg) (.slice ao n c) ∧ Below w.heap.size w w0 := ⟨_, rfl, IntBox.new _ _ _ _, alloc_below _ _⟩
  rw [← hw0]
  clear hw0
  have hX0 := hs.mono hCb
  have hBox := hC
  obtain ⟨c0, c1, c2, c3⟩ := hC
  go_upto_region 4 with (fail)
  obtain ⟨w1, hw1, hbk1, hnx1⟩ : ∃ w1, w1 = w0.alloc (.cells #[] 5) ∧ Back w1 w0.heap.size (.slice (some ⟨w0.heap.size, 0, none⟩) 0 0) [] ∧ Below w0.heap.size w0 w1 := ⟨_, rfl, Back.start w0, alloc_below _ _⟩
  rw [← hw1]
  clear hw1
  have hX1 := hX0.mono hnx1
  have hC1 := hBox.mono hnx1 hBox.lt
  clear c0 c1 c2 c3
  have hC1a := hC1.mono (alloc_below w1 (.cells #[] 78)) hC1.lt
  obtain ⟨c0, c1, c2, c3⟩ := hC1
  obtain ⟨d0, d1, d2, d3⟩ := hC1a
  go_wp2_with (at_builtin; refine wpList_copy_arg _ rfl _ _ rfl _ ao n c xs rfl rfl (hX1.mono (alloc_below _ _)) hn6 ?_; intro ar cr w2 hb2 hS2 hM2)
  have hcr := hS2.cap
  have hb2' := (alloc_below w1 (.cells #[] 78)).trans (hb2.mono (by simp))
  have hbk2 := hbk1.mono hb2' (Nat.le_refl _)
  have hnx2 := hnx1.trans (hb2'.mono hnx1.size)
  have hM2' : 0 < n → ∃ g, ar = some ⟨g, 0, none⟩ ∧ w0.heap.size ≤ g ∧ Mine w2 g n xs := fun h => by
    obtain ⟨g, h1, h2, h3⟩ := hM2 h
    refine ⟨g, h1, ?_, h3⟩
    have := hnx1.size
    simp at h2
    omega
  clear hM2 hS2 hb2 hb2' hbk1 hnx1 hX1 c0 c1 c2 c3 d0 d1 d2 d3
  go_loopw [4, 5] (fun vd vl wr => ∃ (m : Nat) (zs ds : List Int), vl = .slice ar m cr ∧ m ≤ n ∧ zs.length = m ∧ Canon zs ∧ (0 < m → ∃ g, ar = some ⟨g, 0, none⟩ ∧ w0.heap.size ≤ g ∧ Mine wr g m zs) ∧ Back wr w0.heap.size vd ds ∧ decs (val xs).toNat = ds ++ decs (val zs).toNat ∧ Below w0.heap.size w0 wr) (fun _ vl wr => slVal wr vl)
  case atStart => exact ⟨n, xs, [], rfl, Nat.le_refl _, HXL.out, HC.out, hM2', hbk2, by simp, hnx2⟩
  case round =>
    obtain ⟨m, zs, ds, rfl, hmn, hzl, hcz, hMi, hbk, hdec, hnx⟩ := hrel
    have HZL := hidd hzl
    have HDEC := hidd hdec
    have HCZ := hidd hcz
    have HDSL := hidd (dig_len hdec HDL.out)
    have hHS := hnx.size
    clear hzl hdec hcz hM2' hbk2 hnx2
    obtain ⟨ab, cb, rfl⟩ := hbk.shape
    by_cases hm : 0 < m
    · obtain ⟨g, rfl, hgB, hM⟩ := hMi hm
      clear hMi
      have hSz := hM.sl (show m ≤ cr by omega)
      have hvz : 0 < val zs := by
        have h1 := val_nonneg HCZ.out.1
        rcases Int.lt_or_le 0 (val zs) with h | h
        · exact h
        · have := HCZ.out.zero.2 (by omega)
          rw [HZL.out] at this; omega
      have HVZ := hidd hvz
      clear hvz
      go_wp2
      go_loopw [6, 7] (fun vr vi wr' => ∃ (k : Nat) (r : Int) (us : List Int), k ≤ m ∧ vi = .int .i64 ((k : Int) - 1) ∧ vr = .int .u64 r ∧ 0 ≤ r ∧ r < 10 ∧ Mine wr' g m us ∧ us.take k = zs.take k ∧ val (zs.drop k) = val (us.drop k) * 10 + r ∧ wr.grownBy wr' (some g)) (fun _ vi _ => (intOf vi + 1).toNat)
      case atStart => exact ⟨m, 0, zs, Nat.le_refl _, rfl, rfl, by omega, by omega, hM, rfl, by rw [List.drop_of_length_le (by rw [HZL.out]; exact Nat.le_refl _)]; simp [val], World.grownBy.refl _ _⟩
      case round =>
        obtain ⟨k, r, us, hk, rfl, rfl, hr0, hr1, hU, htk, hv, hg⟩ := hrel
        have HTK := hidd htk
        have HV := hidd hv
        have hul := hidd hU.len
        clear htk hv
        by_cases h0 : 0 < k
        · obtain ⟨j, rfl⟩ : ∃ j, k = j + 1 := ⟨k - 1, by omega⟩
          have hj1 : ((j + 1 : Nat) : Int) - 1 = (j : Int) := by omega
          have hjm : j < m := by omega
          obtain ⟨x, hx⟩ : ∃ x, us.getD j 0 = x := ⟨_, rfl⟩
          have hxd := hU.digs.getD j
          have hcell := hU.cell hjm
          rw [hx] at hxd hcell
          obtain ⟨hx0, hx1⟩ := hxd
          have HX := hidd hx
          have hfr := hU.frozen j
          clear hx
          obtain ⟨t, hor⟩ : ∃ t, bits .or .u64 (r * 4294967296) x = t := ⟨_, rfl⟩
          have HT : Hid (t = x + r * 4294967296) := hor.symm.trans (or_halves x r hx0 hx1 hr0 (by omega)).2
          have ht0 : 0 ≤ t := by have := HT.out; omega
          have ht1 : t < 42949672960 := by have := HT.out; omega
          go_wp2
          go_roundw
          case rel =>
            refine ⟨j, t % 10, us.set j (t / 10), by omega, by go_num, rfl, by omega, by omega, ?_, ?_, ?_, ?_⟩
            · have h1 := hU.set hjm (show 0 ≤ t / 10 by omega) (show t / 10 < 4294967296 by omega)
              first | exact h1 | (rw [show t / 10 % 4294967296 = t / 10 by omega]; exact h1)
            · rw [List.take_set_of_le (Nat.le_refl _)]
              have := congrArg (List.take j) HTK.out
              simpa [List.take_take, Nat.min_eq_left (show j ≤ j + 1 by omega)] using this
            · have hx : zs.getD j 0 = x := by
                have := congrArg (fun l : List Int => l.getD j 0) HTK.out
                simp only [getD_take, if_pos (show j < j + 1 by omega)] at this
                rw [← this]; exact HX.out
              rw [val_drop_any zs j, val_drop_any (us.set j (t / 10)) j, getD_set _ _ _ (by rw [hul.out]; exact hjm), hx, HV.out, List.drop_set_of_lt (by omega)]
              have h4 := HT.out
              omega
            · exact grown_set hg _ _
          case measure => simp [intOf]
        · obtain rfl : k = 0 := by omega
          have HVV : Hid (val zs = val us * 10 + r) := by have := HV.out; simp only [List.drop_zero] at this; exact this
          have hbk4 : Back _ w0.heap.size (.slice ab ds.length cb) ds := World.ownsRow.kept hbk hg (.inr (Ne.symm (back_ne hbk hM)))
          have hnx4 := hnx.grown hg hHS (fun k hk => by cases hk; exact hgB)
          have hHS4 := hnx4.size
          have hdl : ds.length ≤ 2000 := by have := HDSL.out; have := HN2.out; omega
          have hmod : (48 + r) % 256 = 48 + r := by omega
          clear hbk hnx hg HV HTK hM
          go_wp2_with (first | (at_builtin; refine wpList_append_own _ rfl _ _ 87 rfl w0.heap.size 5 i0 (.int .u8 0) 1 1 Try.underlying87 hi hz0 hz1 hz2 rfl (by decide) _ _ _ rfl (World.ownsRow.alloc hbk4 _) ⟨_, 0, none⟩ 1 1 [.int .u8 (48 + r)] rfl rfl (one_at _ _ _) (by intro u hu; simp at hu; subst hu; rfl) (by unfold maxLen; omega) (by omega) (by simp; omega) ?_; intro v' w5 hown' hgrow _) | fail)
          obtain ⟨hbk5, hM5, hnx5⟩ := back_mine hbk4 hU hnx4 hHS4 hown' hgrow
          clear hown' hgrow hbk4 hnx4 hHS4
          go_wp2_with fail
          refine (rtrim_any _ _ m cr us (hM5.sl (by omega)) (by omega)).mono ?_
          rintro e w6 ⟨m2, rfl, hm2, hs3, hv3, hc3, rfl⟩
          have HV3 := hidd hv3
          have HC3 := hidd hc3
          clear hv3 hc3
          go_wp2
          go_roundw
          case rel =>
            have h0 := val_nonneg hU.digs
            refine ⟨m2, us.take m2, ds ++ [48 + r], rfl, by omega, by rw [List.length_take, hul.out]; omega, HC3.out, fun _ => ⟨g, rfl, hgB, hM5.take hm2⟩, hbk5, ?_, hnx5⟩
            rw [HV3.out]
            exact decs_tens HDEC.out HVZ.out hr0 hr1 HVV.out h0
          case measure =>
            have h0 := val_nonneg hU.digs
            rw [slVal_eq hs3, slVal_eq hSz]
            have := HVZ.out
            have := HVV.out
            have := HV3.out
            omega
    · obtain rfl : m = 0 := by omega
      have h1 : zs = [] := List.eq_nil_of_length_eq_zero HZL.out
      subst h1
      have hdec : decs (val xs).toNat = ds := by rw [HDEC.out]; simp [val, decs_zero]
      have HDS := hidd hdec
      clear hdec hMi HDEC HCZ HZL
      obtain ⟨N, hN⟩ : ∃ N, N = (val xs).toNat := ⟨_, rfl⟩
      rw [← hN] at HZ HDL HDS
      clear hN
      by_cases h0 : N = 0
      case' pos =>
        have hds : ds = [] := by rw [← HDS.out, h0, decs_zero]
        subst hds
        go_upto_region 17 with (fail)
        simp only [List.length_nil]
        obtain ⟨wd, hwd, hcells, hbd⟩ : ∃ wd, wd = (wr.alloc (.cells #[.int .u8 48] 5)) ∧ (wr.heap.size < wd.heap.size ∧ ∀ j, j < 1 → wd.cell? ⟨wr.heap.size, j, none⟩ = some (.int .u8 ([48].getD j 0))) ∧ Below w0.heap.size w0 wd := ⟨_, rfl, back_one wr 48, hnx.alloc hHS _⟩
        rw [← hwd]
        clear hwd
        obtain ⟨gd, hgd⟩ : ∃ gd, gd = wr.heap.size := ⟨_, rfl⟩
        rw [← hgd] at hcells ⊢
        clear hgd
        obtain ⟨L, hL⟩ : ∃ L, L = 1 := ⟨_, rfl⟩
        obtain ⟨dl, hdl⟩ : ∃ dl, dl = [(48 : Int)] := ⟨_, rfl⟩
        have HD : Hid (dl.reverse = sizeText N) := by
          show _ = _
          rw [hdl, h0]; rfl
        have HL : Hid (dl.length = L) := by show _ = _; rw [hdl, hL]; rfl
        rw [← hL, ← hdl] at hcells
        have hL0 : 0 < L := by omega
        have hLb : L ≤ 2000 := by omega
        obtain ⟨cd, hcd⟩ : ∃ cd, cd = 1 := ⟨_, rfl⟩
        obtain ⟨vd, hvd⟩ : ∃ vd, vd = Value.slice (some ⟨gd, 0, none⟩) 1 1 := ⟨_, rfl⟩
        rw [← hvd]
        have hvd2 : vd = .slice (some ⟨gd, 0, none⟩) L cd := by rw [hvd, hL, hcd]
        subst hvd2
        clear hvd hL hdl hcd
      case' neg =>
        have hds0 : 0 < ds.length := by
          have h1 := mt decs_ne.1 h0
          rw [HDS.out] at h1
          exact List.length_pos_iff.2 h1
        obtain ⟨gd, cd, he, hgd, hcell⟩ := hbk.cells hds0
        cases he
        have hdz : ((ds.length : Int) == 0) = false := beq_eq_false_iff_ne.2 (by omega)
        go_upto_region 17 with (fail)
        obtain ⟨wd, hcells, hbd, hwd⟩ : ∃ wd, (gd < wd.heap.size ∧ ∀ j, j < ds.length → wd.cell? ⟨gd, j, none⟩ = some (.int .u8 (ds.getD j 0))) ∧ Below w0.heap.size w0 wd ∧ wr = wd := ⟨wr, ⟨hgd, hcell⟩, hnx, rfl⟩
        rw [hwd]
        clear hwd
        have HD : Hid (ds.reverse = sizeText N) := by
          show _ = _
          unfold sizeText
          rw [if_neg h0, HDS.out]
        obtain ⟨L, hL⟩ : ∃ L, L = ds.length := ⟨_, rfl⟩
        have HL := hidd hL.symm
        have hL0 : 0 < L := by omega
        have hLb : L ≤ 2000 := by have := HDSL.out; have := HN2.out; omega
        rw [← hL] at hcells ⊢
        obtain ⟨dl, hdl⟩ : ∃ dl, dl = ds := ⟨_, rfl⟩
        rw [← hdl] at hcells HL HD
        clear hL hdl hdz hgd hcell hds0
      all_goals
        obtain ⟨hgd, hcell⟩ := hcells
        clear hbk hnx hHS h0 HDS HDSL
        go_upto_region 18 with (fail)
        obtain ⟨w6, hw6, hbo, hb6⟩ : ∃ w6, w6 = wd.alloc (.cells #[] 5) ∧ Back w6 wd.heap.size (.slice (some ⟨wd.heap.size, 0, none⟩) 0 0) [] ∧ Below wd.heap.size wd w6 := ⟨_, rfl, Back.start wd, alloc_below _ _⟩
        rw [← hw6]
        clear hw6
        have hbx1 := hBox.mono hbd hBox.lt
        have hbx := hbx1.mono hb6 hbx1.lt
        clear hbx1
        obtain ⟨c0, c1, c2, c3⟩ := hbx
        have hs6 := hb6.size
        obtain ⟨BB, hBB⟩ : ∃ BB, BB = wd.heap.size := ⟨_, rfl⟩
        rw [← hBB] at hbo hb6 hs6 hgd ⊢
        have HBB := hidd hBB
        clear hBB
        obtain ⟨os1, ao6, c6, hos1, hbo1, hv6⟩ : ∃ os1 ao6 c6, os1 = [] ∧ Back w6 BB (.slice ao6 os1.length c6) os1 ∧ Value.slice (some ⟨BB, 0, none⟩) 0 0 = Value.slice ao6 os1.length c6 := ⟨[], _, _, rfl, hbo, rfl⟩
        rw [hv6]
        have hol1 : os1.length ≤ 0 := by rw [hos1]; simp
        have HOS := hidd hos1
        clear hv6 hbo hos1
        cases neg
        case' false =>
          go_upto_region 20 with (fail)
          obtain ⟨w7, hbo7, hb7, hw7⟩ : ∃ w7, Back w7 BB (.slice ao6 os1.length c6) os1 ∧ Below BB wd w7 ∧ w6 = w7 := ⟨w6, hbo1, hb6, rfl⟩
          obtain ⟨os0, ao7, c7, hos⟩ : ∃ os0 ao7 c7, Hid (os0 = os1 ∧ ao7 = ao6 ∧ c7 = c6) := ⟨_, _, _, rfl, rfl, rfl⟩
          rw [← hos.1, ← hos.2.1, ← hos.2.2] at hbo7 ⊢
          have HT : Hid (intText z = os0 ++ dl.reverse) := by
            show _ = _
            have h1 : ¬ z < 0 := fun h => by have := HNEG.out.2 h; cases this
            unfold intText
            rw [if_neg h1, HZ.out, HD.out, hos.1, HOS.out]; rfl
          have hol : os0.length ≤ 1 := by rw [hos.1]; omega
          rw [hw7]
          clear hw7 hos
          go_wp2
        case' true =>
          go_wp2_with (first | (at_builtin; refine wpList_append_own _ rfl _ _ 87 rfl BB 5 i0 (.int .u8 0) 1 1 Try.underlying87 hi hz0 hz1 hz2 rfl (by decide) _ _ _ rfl (World.ownsRow.alloc hbo1 _) ⟨_, 0, none⟩ 1 1 [.int .u8 45] rfl rfl (one_at _ _ _) (by intro u hu; simp at hu; subst hu; rfl) (by unfold maxLen; omega) (by omega) (by simp; omega) ?_; intro v' w7 hown' hgrow _) | fail)
          obtain ⟨hbo7, hb7⟩ := back_more hbo1 hb6 hs6 hown' hgrow
          clear hown' hgrow
          obtain ⟨ao7, c7, rfl⟩ := hbo7.shape
          obtain ⟨os0, hos⟩ : ∃ os0, os0 = os1 ++ [(45 : Int)] := ⟨_, rfl⟩
          have HT : Hid (intText z = os0 ++ dl.reverse) := by
            show _ = _
            have h1 : z < 0 := by simpa using HNEG.out
            unfold intText
            rw [if_pos h1, HZ.out, HD.out, hos, HOS.out]; rfl
          have hol : os0.length ≤ 1 := by rw [hos, List.length_append]; show os1.length + 1 ≤ 1; omega
          rw [← hos] at hbo7 ⊢
          clear hos
        all_goals
          clear c0 c1 c2 c3 hb6 hs6 hbo1 HOS
          go_loopw [8, 9] (fun vo vi wr' => ∃ k : Nat, k ≤ L ∧ vi = .int .i64 ((k : Int) - 1) ∧ Back wr' BB vo (os0 ++ (dl.drop k).reverse) ∧ Below BB wd wr') (fun _ vi _ => (intOf vi + 1).toNat)
          case atStart => exact ⟨L, Nat.le_refl _, rfl, by rw [List.drop_of_length_le (by rw [HL.out]; exact Nat.le_refl _)]; simpa using hbo7, hb7⟩
          case round =>
            obtain ⟨k, hk, rfl, hbk, hbb⟩ := hrel
            have hsb := hbb.size
            rw [← HBB.out] at hsb
            clear hbo7 hb7
            by_cases h0 : 0 < k
            · obtain ⟨j, rfl⟩ : ∃ j, k = j + 1 := ⟨k - 1, by omega⟩
              have hj1 : ((j + 1 : Nat) : Int) - 1 = (j : Int) := by omega
              obtain ⟨x, hx⟩ : ∃ x, dl.getD j 0 = x := ⟨_, rfl⟩
              have hjl : j < L := by omega
              have hcx := (hbb.cell (p := ⟨gd, j, none⟩) hgd).trans (hcell j hjl)
              rw [hx] at hcx
              have HX := hidd hx
              clear hx
              obtain ⟨ts, hts⟩ : ∃ ts, ts = os0 ++ (dl.drop (j + 1)).reverse := ⟨_, rfl⟩
              rw [← hts] at hbk
              have htl : ts.length ≤ 3000 := by
                rw [hts, List.length_append, List.length_reverse, List.length_drop, HL.out]
                omega
              have HTS := hidd hts
              clear hts
              obtain ⟨a8, c8, rfl⟩ := hbk.shape
              go_wp2_with (first | (at_builtin; refine wpList_append_own _ rfl _ _ 87 rfl BB 5 i0 (.int .u8 0) 1 1 Try.underlying87 hi hz0 hz1 hz2 rfl (by decide) _ _ _ rfl (World.ownsRow.alloc hbk _) ⟨_, 0, none⟩ 1 1 [.int .u8 x] rfl rfl (one_at _ _ _) (by intro u hu; simp at hu; subst hu; rfl) (by unfold maxLen; omega) (by omega) (by simp; omega) ?_; intro v' w8 hown' hgrow _) | fail)
              obtain ⟨hbk8, hbb8⟩ := back_more hbk hbb hsb hown' hgrow
              clear hown' hgrow hbk
              go_wp2
              go_roundw
              case rel =>
                refine ⟨j, by omega, by go_num, ?_, hbb8⟩
                rw [HTS.out, ← HX.out, drop_rev _ _ (by rw [HL.out]; exact hjl)] at hbk8
                exact hbk8
              case measure => simp [intOf]
            · obtain rfl : k = 0 := by omega
              rw [List.drop_zero] at hbk
              obtain ⟨T, hT⟩ : ∃ T, T = os0 ++ dl.reverse := ⟨_, rfl⟩
              have HTT : Hid (intText z = T) := by show _ = _; rw [HT.out, hT]
              have hTl : T.length ≤ 3000 := by
                rw [hT, List.length_append, List.length_reverse, HL.out]
                omega
              have hT0 : 0 < T.length := by
                rw [hT, List.length_append, List.length_reverse, HL.out]
                omega
              rw [← hT] at hbk
              clear hT
              obtain ⟨a8, c8, he, hg8, hc8⟩ := hbk.cells hT0
              subst he
              have hfin := hCb.trans ((hbd.trans (hbb.mono (by have := hbd.size; rw [HBB.out]; omega))).mono hCb.size)
              by_cases hbig : 1300 < T.length
              · go_wp2
                refine bodyPost_ret (v := textOf z) ?_ rfl ⟨rfl, hfin⟩
                rw [textOf_big (by rw [HTT.out]; exact hbig)]
                simp [results, Try.results52, go_sem]
              · have hrange : ∀ d ∈ T, 0 ≤ d ∧ d < 256 := fun d hd => by
                  rw [← HTT.out] at hd
                  unfold intText at hd
                  split at hd
                  · rcases List.mem_cons.1 hd with h | h
                    · omega
                    · have := sizeText_dig _ d h; omega
                  · have := sizeText_dig _ d hd; omega
                have hconv := run_text_of_cells (P := Try.prog) hc8 hrange 87 9 5 T.length c8 rfl Try.underlying87 Try.underlying5 Try.underlying9
                go_wp2
                refine bodyPost_ret (v := textOf z) ?_ rfl ⟨rfl, hfin⟩
                rw [textOf_ok (by rw [HTT.out]; omega), HTT.out]
                simp [results, Try.results52, go_sem]

end Go.Proofs.Ytlehjhlihahjhaa

namespace Go.Proofs.Ytlehjhlihahjhaa
open Go Go.RowKit

set_option maxRecDepth 20000 in
set_option maxHeartbeats 4000000 in
theorem RParse_any (w : World) (s : ByteArray) : Calls Try.prog 55 #[.string s] w (ParseGives w (bys s)) := by
  have hll := bys_len s
  obtain ⟨i0, hi, hz0, hz1, hz2⟩ := info_parts info_word
  obtain ⟨w0, hw0, hC, hCb⟩ : ∃ w0, w0 = w.alloc (.cells #[.bool false, .slice none 0 0] 29) ∧ IntBox w0 w.heap.size (.bool false) (.slice none 0 0) ∧ Below w.heap.size w w0 := ⟨_, rfl, box1 _ _, alloc_below _ _⟩
  have HI := hidd hC
  by_cases hbig : 1300 < s.size
  · have hbi : ((1300 : Int) < (s.size : Int)) = True := by simp; omega
    have HBIG := hidd hbig
    clear hbig
    obtain ⟨c0, c1, c2, c3⟩ := hC
    go_enter Try.func55, Try.ntmps55
    go_upto_region 1 with (fail)
    rw [← hw0]
    clear hw0
    go_wp2
    refine bodyPost_ret (v := .tuple #[zeroV, .int .i64 2]) ?_ rfl ⟨(hCb.setCell (Nat.le_refl _) _).setCell (Nat.le_refl _) _, .inl ⟨by rw [hll]; exact HBIG.out, rfl⟩⟩
    simp [results, Try.results55, go_sem, c0, c1, zeroV]
  · have hbi : ((1300 : Int) < (s.size : Int)) = False := by simp; omega
    have HS := hidd (show s.size ≤ 1300 by omega)
    clear hbig
    by_cases h0 : s.size = 0
    · have he : s = { data := #[] } := by
        apply ByteArray.ext
        exact Array.eq_empty_of_size_eq_zero h0
      subst he
      obtain ⟨c0, c1, c2, c3⟩ := hC
      go_enter Try.func55, Try.ntmps55
      go_upto_region 1 with (fail)
      rw [← hw0]
      clear hw0
      go_wp2
      refine bodyPost_ret (v := .tuple #[zeroV, .int .i64 3]) ?_ rfl ⟨(hCb.setCell (Nat.le_refl _) _).setCell (Nat.le_refl _) _, .inr (.inl ⟨by rw [hll]; exact HS.out, not_text_nil, rfl⟩)⟩
      simp [results, Try.results55, go_sem, c0, c1, zeroV]
    · have hsz : 0 < s.size := by omega
      have hszi : ((0 : Int) < (s.size : Int)) = True := by simp; omega
      have hszb : ((s.size : Int) == 0) = false := beq_eq_false_iff_ne.2 (by omega)
      have hat := bys_at s hsz
      obtain ⟨x0, hx0⟩ : ∃ x0 : Int, ((s[0]'hsz).toNat : Int) = x0 := ⟨_, rfl⟩
      rw [hx0] at hat
      have HAT := hidd hat
      clear hat
      by_cases h45 : x0 = 45
      · subst h45
        have HT0 := hidd (isText_minus HAT.out)
        have HV0 := hidd (tval_minus HAT.out)
        have htl := bys_tail s
        obtain ⟨t, ht⟩ : ∃ t, t = s.extract 1 s.size := ⟨_, rfl⟩
        rw [← ht] at htl
        have hts : t.size ≤ 1300 := by
          have h1 := bys_len t
          rw [htl, List.length_drop, hll] at h1
          have := HS.out
          omega
        rw [← htl] at HT0 HV0
        have HV : Hid (tval (bys s) = sgn true (dval (bys t))) := by show _ = _; rw [HV0.out]; rfl
        obtain ⟨c0, c1, c2, c3⟩ := hC
        go_enter Try.func55, Try.ntmps55
        go_upto_region 1 with (fail)
        rw [← hw0]
        clear hw0

        go_upto_region 7 with (fail)
        rw [← ht]
        clear ht htl
        by_cases ht0 : t.size = 0
        · have he : t = { data := #[] } := by
            apply ByteArray.ext
            exact Array.eq_empty_of_size_eq_zero ht0
          subst he
          go_wp2
          refine bodyPost_ret (v := .tuple #[zeroV, .int .i64 3]) ?_ rfl ⟨(hCb.setCell (Nat.le_refl _) _).setCell (Nat.le_refl _) _, .inr (.inl ⟨by rw [hll]; exact HS.out, fun h => (HT0.out.1 h).1.1 rfl, rfl⟩)⟩
          simp [results, Try.results55, go_sem, c0, c1, zeroV]
        · have htsz : 0 < t.size := by omega
          have htb : ((t.size : Int) == 0) = false := beq_eq_false_iff_ne.2 (by omega)
          have hat2 := bys_at t htsz
          obtain ⟨y0, hy0⟩ : ∃ y0 : Int, ((t[0]'htsz).toNat : Int) = y0 := ⟨_, rfl⟩
          rw [hy0] at hat2
          have HAT2 := hidd hat2
          clear hat2
          by_cases h48 : y0 = 48
          · subst h48
            rcases (by omega : 1 < t.size ∨ ¬ 1 < t.size) with ht1 | ht1
            case' inl => have ht1i : ((1 : Int) < (t.size : Int)) = True := by simp; omega
            case' inr => have ht1i : ((1 : Int) < (t.size : Int)) = False := by simp; omega
            all_goals
              go_wp2
              refine bodyPost_ret (v := .tuple #[zeroV, .int .i64 3]) ?_ rfl ⟨(hCb.setCell (Nat.le_refl _) _).setCell (Nat.le_refl _) _, .inr (.inl ⟨by rw [hll]; exact HS.out, fun h => (HT0.out.1 h).2 HAT2.out, rfl⟩)⟩
              simp [results, Try.results55, go_sem, c0, c1, zeroV]
          · have h48f : (y0 = 48) = False := eq_false h48
            have h48b : (y0 == 48) = false := beq_eq_false_iff_ne.2 h48
            have HT : Hid (IsText (bys s) ↔ Dec (bys t)) := ⟨fun h => (HT0.out.1 h).1, fun h => HT0.out.2 ⟨h, by rw [HAT2.out]; exact h48⟩⟩
            have H48 : Hid ((bys t).getD 0 0 = 48 → (bys t).length = 1) := fun h => absurd (by rw [HAT2.out] at h; exact h) h48
            clear h48
            go_upto_region 10 with (fail)
            (try clear h1i)
            (try clear h1)
            (try clear hx0)
            (try clear hy0)
            obtain ⟨wl, hwl, hOl, hBl⟩ : ∃ wl, wl = w0.alloc (.cells #[] 78) ∧ Ow wl w0.heap.size (.slice (some ⟨w0.heap.size, 0, none⟩) 0 0) [] ∧ Below w0.heap.size w0 wl := ⟨_, rfl, Ow.start w0, alloc_below _ _⟩
            rw [← hwl]
            clear hwl c0 c1 c2 c3
            go_wp2
            go_loopw [6, 7] (fun vl vi wr => ∃ (k : Nat) (zs : List Int), k ≤ t.size ∧ vi = .int .i64 k ∧ Ow wr w0.heap.size vl zs ∧ zs.length ≤ k ∧ val zs = dval ((bys t).take k) ∧ Dgs ((bys t).take k) ∧ Below w0.heap.size w0 wr) (fun _ vi _ => t.size - (intOf vi).toNat)
            case atStart => exact ⟨0, [], Nat.zero_le _, rfl, hOl, Nat.le_refl _, rfl, fun _ h => by simp at h, hBl⟩
            case round =>
              obtain ⟨k, zs, hk, rfl, hO, hzk, hv, hD, hB⟩ := hrel
              have HV2 := hidd hv
              have HD := hidd hD
              have hsz := hB.size
              have HC2 := hidd (HI.out.mono hB HI.out.lt)
              have hfin := hCb.trans (hB.mono hCb.size)
              clear hv hD hOl hBl
              obtain ⟨al, cl, rfl⟩ := hO.shape
              by_cases hkt : k < t.size
              · have hat := bys_at t hkt
                obtain ⟨x, hx⟩ : ∃ x : Int, ((t[k]'hkt).toNat : Int) = x := ⟨_, rfl⟩
                rw [hx] at hat
                have HXB := hidd hat
                clear hat
                by_cases hdig : 48 ≤ x ∧ x ≤ 57
                · obtain ⟨hx0, hx1⟩ := hdig
                  have hxm : (x - 48) % 256 = x - 48 := by omega
                  have hn : zs.length ≤ 4000000 := by omega
                  have hf1 : ¬ x < 48 := by omega
                  have hf2 : ¬ 57 < x := by omega
                  go_wp2
                  go_loopw [8, 9] (fun vc vi wr' => ∃ (j : Nat) (q : Int) (us : List Int), j ≤ zs.length ∧ vi = .int .i64 j ∧ vc = .int .u64 q ∧ 0 ≤ q ∧ q ≤ 9 ∧ Ow wr' w0.heap.size (.slice al zs.length cl) us ∧ us.length = zs.length ∧ us.drop j = zs.drop j ∧ val (us.take j) + pw j * q = 10 * val (zs.take j) + (x - 48) ∧ Below w0.heap.size w0 wr') (fun _ vi _ => zs.length - (intOf vi).toNat)
                  case atStart => exact ⟨0, x - 48, zs, Nat.zero_le _, rfl, rfl, by omega, by omega, hO, rfl, rfl, by simp [val, pw_zero], hB⟩
                  case round =>
                    obtain ⟨j, q, us, hj, rfl, rfl, hq0, hq1, hU, hul, hdr, hv, hB3⟩ := hrel
                    have HUL := hidd hul
                    have HDR := hidd hdr
                    have HV := hidd hv
                    clear hul hdr hv
                    by_cases hkn : j < zs.length
                    · obtain ⟨g, rfl⟩ : ∃ g, al = some ⟨g, 0, none⟩ := by
                        rcases hU.1.2 with ⟨h1, h2⟩ | ⟨g, cap', cur, h1, _⟩
                        · have := HUL.out; omega
                        · injection h1 with h2 h3 h4; exact ⟨g, h2⟩
                      obtain ⟨hM, hg, _⟩ := hU.mine
                      obtain ⟨y, hy⟩ : ∃ y, us.getD j 0 = y := ⟨_, rfl⟩
                      have hcell := hM.cell hkn
                      have hyd := hM.digs.getD j
                      rw [hy] at hcell hyd
                      have hfr := hM.frozen j
                      have Hy := hidd hy
                      clear hy
                      go_wp2
                      go_roundw
                      case rel =>
                        have e1 : zs.getD j 0 = y := by
                          have := congrArg (fun l => l.getD 0 0) HDR.out
                          simp only [getD_drop, Nat.add_zero] at this
                          rw [← this]; exact Hy.out
                        have e2 : q + y * 10 = 10 * y + q := by omega
                        rw [e2]
                        refine ⟨j + 1, (10 * y + q) / 4294967296, us.set j ((10 * y + q) % 4294967296), by omega, by go_num, by go_num, by omega, by omega, hU.set hkn (by omega) (by omega), by rw [List.length_set]; exact HUL.out, ?_, ten_step (by rw [HUL.out]; exact hkn) HV.out e1, hB3.setCell hg _⟩
                        rw [List.drop_set_of_lt (by omega), ← List.drop_drop, HDR.out, List.drop_drop]
                      case measure => simp [intOf]; omega
                    · have hkl : j = zs.length := by omega
                      have HE : Hid (val us + pw zs.length * q = 10 * val zs + (x - 48)) := by
                        have h1 := HV.out
                        rw [hkl, val_take_all us (by rw [HUL.out]; omega), List.take_length] at h1
                        exact h1
                      have HO := hU.1
                      have hsz3 := hB3.size
                      have hulb : us.length ≤ 4000000 := by have := HUL.out; omega
                      rcases (by omega : q = 0 ∨ 0 < q) with hq | hq
                      · have HQ := hidd hq
                        have hq2 : ¬ (0 < q) := by omega
                        clear hq hkl
                        go_wp2
                        go_roundw
                        case rel =>
                          refine ⟨k + 1, us, by omega, by go_num, hU, by rw [HUL.out]; omega, ?_, dgs_step HD.out (by rw [bys_len]; exact hkt) (by rw [HXB.out]; exact hx0) (by rw [HXB.out]; exact hx1), hB3⟩
                          have h1 := HE.out
                          rw [HQ.out, Int.mul_zero, Int.add_zero] at h1
                          rw [h1, HV2.out, dval_take (by rw [bys_len]; exact hkt), HXB.out]
                        case measure => simp [intOf]; omega
                      · have hqm : q % 4294967296 = q := by omega
                        clear hkl
                        go_wp2_with (first | (at_builtin; refine wpList_append_own _ rfl _ _ 22 rfl w0.heap.size 78 i0 (.int .u32 0) 1 4 Try.underlying22 hi hz0 hz1 hz2 rfl (by decide) _ _ _ rfl (World.ownsRow.alloc HO _) ⟨_, 0, none⟩ 1 1 [.int .u32 q] rfl rfl (one_at _ _ _) (by intro u hu; simp at hu; subst hu; rfl) (by unfold maxLen; omega) (by omega) (by simp; omega) ?_; intro v' w5 hown' hgrow _) | fail)
                        obtain ⟨hO2, hB2⟩ := hU.stepB hB3 hsz3 hq0 (by omega) hown' hgrow
                        clear hown' hgrow hU hB3 HO
                        go_wp2
                        go_roundw
                        case rel =>
                          refine ⟨k + 1, us ++ [q], by omega, by go_num, hO2, by rw [List.length_append, HUL.out]; show zs.length + 1 ≤ k + 1; omega, ?_, dgs_step HD.out (by rw [bys_len]; exact hkt) (by rw [HXB.out]; exact hx0) (by rw [HXB.out]; exact hx1), hB2⟩
                          rw [val_snoc, HUL.out, HE.out, HV2.out, dval_take (by rw [bys_len]; exact hkt), HXB.out]
                        case measure => simp [intOf]; omega
                · have hN := not_dec hkt (by rw [HXB.out]; exact hdig)
                  have HN := hidd (fun h => hN (HT.out.1 h))
                  clear hN
                  obtain ⟨c0, c1, c2, c3⟩ := HC2.out
                  rcases (by omega : x < 48 ∨ (¬ x < 48 ∧ 57 < x)) with hlt | ⟨hlt, hgt⟩
                  all_goals
                    go_wp2
                    refine bodyPost_ret (v := .tuple #[zeroV, .int .i64 3]) ?_ rfl ⟨(hfin.setCell (Nat.le_refl _) _).setCell (Nat.le_refl _) _, .inr (.inl ⟨by rw [hll]; exact HS.out, HN.out, rfl⟩)⟩
                    simp [results, Try.results55, go_sem, c0, c1, zeroV]
              · obtain rfl : k = t.size := by omega
                have HZV : Hid (val zs = dval (bys t)) := by
                  have := HV2.out
                  rw [← bys_len t, List.take_length] at this
                  exact this
                have HDEC : Hid (Dec (bys t)) := by
                  refine ⟨fun h => ?_, ?_, H48.out⟩
                  · have h2 := bys_len t
                    rw [h] at h2
                    simp at h2
                    omega
                  · have := HD.out
                    rw [← bys_len t, List.take_length] at this
                    exact this
                obtain ⟨ao1, cc1, he, hsl⟩ := hO.sl
                cases he
                obtain ⟨c0, c1, c2, c3⟩ := HC2.out
                go_wp2_with fail
                refine (made_any _ _ _ _ _ _ hsl (by omega)).mono ?_
                rintro e w3 ⟨v, rfl, ⟨ng, ao, nn, cc, rs, rfl, hrs, hrc, hrn, hrz⟩, hb3⟩
                have hbl3 := hfin.trans (hb3.mono hfin.size)
                have hC3 := HC2.out.mono hb3 HC2.out.lt
                have HC3 := hidd hC3
                have HRZ := hidd hrz
                clear hrz c0 c1 c2 c3
                obtain ⟨c0, c1, c2, c3⟩ := hC3
                go_wp2
                obtain ⟨v', hv', hi', hb⟩ := gives_store HC3.out hrs hrc hrn HRZ.out hbl3 (Nat.le_refl _)
                cases hv'
                refine bodyPost_ret (v := .tuple #[.agg #[.bool ng, .slice ao nn cc], .int .i64 0]) ?_ rfl ⟨hb, .inr (.inr ⟨by rw [hll]; exact HS.out, HT.out.2 HDEC.out, _, rfl, by rw [HV.out, ← HZV.out]; exact hi'⟩)⟩
                simp [results, Try.results55, go_sem, c0, c1]

      · have HT := hidd (isText_plain (s := bys s) (by rw [HAT.out]; exact h45))
        have HV0 := hidd (tval_plain (s := bys s) (by rw [HAT.out]; exact h45))
        have HV : Hid (tval (bys s) = sgn false (dval (bys s))) := by show _ = _; rw [HV0.out]; rfl
        have h45f : (x0 = 45) = False := eq_false h45
        have h45b : (x0 == 45) = false := beq_eq_false_iff_ne.2 h45
        have hts := HS.out
        rcases (by omega : (x0 = 48 ∧ 1 < s.size) ∨ (x0 = 48 ∧ ¬ 1 < s.size) ∨ x0 ≠ 48) with ⟨h48, h1⟩ | hcase
        · subst h48
          have h1i : ((1 : Int) < (s.size : Int)) = True := by simp; omega
          obtain ⟨c0, c1, c2, c3⟩ := hC
          go_enter Try.func55, Try.ntmps55
          go_upto_region 1 with (fail)
          rw [← hw0]
          clear hw0
          go_wp2
          refine bodyPost_ret (v := .tuple #[zeroV, .int .i64 3]) ?_ rfl ⟨(hCb.setCell (Nat.le_refl _) _).setCell (Nat.le_refl _) _, .inr (.inl ⟨by rw [hll]; exact HS.out, fun h => by have h2 := (HT.out.1 h).2.2 HAT.out; rw [hll] at h2; omega, rfl⟩)⟩
          simp [results, Try.results55, go_sem, c0, c1, zeroV]
        · have H48 : Hid ((bys s).getD 0 0 = 48 → (bys s).length = 1) := by
            intro h
            rw [HAT.out] at h
            rw [hll]; omega
          obtain ⟨t, ht⟩ : ∃ t, s = t := ⟨_, rfl⟩
          subst ht
          rcases hcase with ⟨h48, h1⟩ | h48
          case' inl =>
            subst h48
            have h1i : ((1 : Int) < (s.size : Int)) = False := by simp; omega
          case' inr =>
            have h48f : (x0 = 48) = False := eq_false h48
            have h48b : (x0 == 48) = false := beq_eq_false_iff_ne.2 h48
          all_goals
            obtain ⟨c0, c1, c2, c3⟩ := hC
            go_enter Try.func55, Try.ntmps55
            go_upto_region 1 with (fail)
            rw [← hw0]
            clear hw0
            go_upto_region 10 with (fail)
            (try clear h1i)
            (try clear h1)
            (try clear hx0)
            (try clear hy0)
            obtain ⟨wl, hwl, hOl, hBl⟩ : ∃ wl, wl = w0.alloc (.cells #[] 78) ∧ Ow wl w0.heap.size (.slice (some ⟨w0.heap.size, 0, none⟩) 0 0) [] ∧ Below w0.heap.size w0 wl := ⟨_, rfl, Ow.start w0, alloc_below _ _⟩
            rw [← hwl]
            clear hwl c0 c1 c2 c3
            go_wp2
            go_loopw [6, 7] (fun vl vi wr => ∃ (k : Nat) (zs : List Int), k ≤ s.size ∧ vi = .int .i64 k ∧ Ow wr w0.heap.size vl zs ∧ zs.length ≤ k ∧ val zs = dval ((bys s).take k) ∧ Dgs ((bys s).take k) ∧ Below w0.heap.size w0 wr) (fun _ vi _ => s.size - (intOf vi).toNat)
            case atStart => exact ⟨0, [], Nat.zero_le _, rfl, hOl, Nat.le_refl _, rfl, fun _ h => by simp at h, hBl⟩
            case round =>
              obtain ⟨k, zs, hk, rfl, hO, hzk, hv, hD, hB⟩ := hrel
              have HV2 := hidd hv
              have HD := hidd hD
              have hsz := hB.size
              have HC2 := hidd (HI.out.mono hB HI.out.lt)
              have hfin := hCb.trans (hB.mono hCb.size)
              clear hv hD hOl hBl
              obtain ⟨al, cl, rfl⟩ := hO.shape
              by_cases hkt : k < s.size
              · have hat := bys_at s hkt
                obtain ⟨x, hx⟩ : ∃ x : Int, ((s[k]'hkt).toNat : Int) = x := ⟨_, rfl⟩
                rw [hx] at hat
                have HXB := hidd hat
                clear hat
                by_cases hdig : 48 ≤ x ∧ x ≤ 57
                · obtain ⟨hx0, hx1⟩ := hdig
                  have hxm : (x - 48) % 256 = x - 48 := by omega
                  have hn : zs.length ≤ 4000000 := by omega
                  have hf1 : ¬ x < 48 := by omega
                  have hf2 : ¬ 57 < x := by omega
                  go_wp2
                  go_loopw [8, 9] (fun vc vi wr' => ∃ (j : Nat) (q : Int) (us : List Int), j ≤ zs.length ∧ vi = .int .i64 j ∧ vc = .int .u64 q ∧ 0 ≤ q ∧ q ≤ 9 ∧ Ow wr' w0.heap.size (.slice al zs.length cl) us ∧ us.length = zs.length ∧ us.drop j = zs.drop j ∧ val (us.take j) + pw j * q = 10 * val (zs.take j) + (x - 48) ∧ Below w0.heap.size w0 wr') (fun _ vi _ => zs.length - (intOf vi).toNat)
                  case atStart => exact ⟨0, x - 48, zs, Nat.zero_le _, rfl, rfl, by omega, by omega, hO, rfl, rfl, by simp [val, pw_zero], hB⟩
                  case round =>
                    obtain ⟨j, q, us, hj, rfl, rfl, hq0, hq1, hU, hul, hdr, hv, hB3⟩ := hrel
                    have HUL := hidd hul
                    have HDR := hidd hdr
                    have HV := hidd hv
                    clear hul hdr hv
                    by_cases hkn : j < zs.length
                    · obtain ⟨g, rfl⟩ : ∃ g, al = some ⟨g, 0, none⟩ := by
                        rcases hU.1.2 with ⟨h1, h2⟩ | ⟨g, cap', cur, h1, _⟩
                        · have := HUL.out; omega
                        · injection h1 with h2 h3 h4; exact ⟨g, h2⟩
                      obtain ⟨hM, hg, _⟩ := hU.mine
                      obtain ⟨y, hy⟩ : ∃ y, us.getD j 0 = y := ⟨_, rfl⟩
                      have hcell := hM.cell hkn
                      have hyd := hM.digs.getD j
                      rw [hy] at hcell hyd
                      have hfr := hM.frozen j
                      have Hy := hidd hy
                      clear hy
                      go_wp2
                      go_roundw
                      case rel =>
                        have e1 : zs.getD j 0 = y := by
                          have := congrArg (fun l => l.getD 0 0) HDR.out
                          simp only [getD_drop, Nat.add_zero] at this
                          rw [← this]; exact Hy.out
                        have e2 : q + y * 10 = 10 * y + q := by omega
                        rw [e2]
                        refine ⟨j + 1, (10 * y + q) / 4294967296, us.set j ((10 * y + q) % 4294967296), by omega, by go_num, by go_num, by omega, by omega, hU.set hkn (by omega) (by omega), by rw [List.length_set]; exact HUL.out, ?_, ten_step (by rw [HUL.out]; exact hkn) HV.out e1, hB3.setCell hg _⟩
                        rw [List.drop_set_of_lt (by omega), ← List.drop_drop, HDR.out, List.drop_drop]
                      case measure => simp [intOf]; omega
                    · have hkl : j = zs.length := by omega
                      have HE : Hid (val us + pw zs.length * q = 10 * val zs + (x - 48)) := by
                        have h1 := HV.out
                        rw [hkl, val_take_all us (by rw [HUL.out]; omega), List.take_length] at h1
                        exact h1
                      have HO := hU.1
                      have hsz3 := hB3.size
                      have hulb : us.length ≤ 4000000 := by have := HUL.out; omega
                      rcases (by omega : q = 0 ∨ 0 < q) with hq | hq
                      · have HQ := hidd hq
                        have hq2 : ¬ (0 < q) := by omega
                        clear hq hkl
                        go_wp2
                        go_roundw
                        case rel =>
                          refine ⟨k + 1, us, by omega, by go_num, hU, by rw [HUL.out]; omega, ?_, dgs_step HD.out (by rw [bys_len]; exact hkt) (by rw [HXB.out]; exact hx0) (by rw [HXB.out]; exact hx1), hB3⟩
                          have h1 := HE.out
                          rw [HQ.out, Int.mul_zero, Int.add_zero] at h1
                          rw [h1, HV2.out, dval_take (by rw [bys_len]; exact hkt), HXB.out]
                        case measure => simp [intOf]; omega
                      · have hqm : q % 4294967296 = q := by omega
                        clear hkl
                        go_wp2_with (first | (at_builtin; refine wpList_append_own _ rfl _ _ 22 rfl w0.heap.size 78 i0 (.int .u32 0) 1 4 Try.underlying22 hi hz0 hz1 hz2 rfl (by decide) _ _ _ rfl (World.ownsRow.alloc HO _) ⟨_, 0, none⟩ 1 1 [.int .u32 q] rfl rfl (one_at _ _ _) (by intro u hu; simp at hu; subst hu; rfl) (by unfold maxLen; omega) (by omega) (by simp; omega) ?_; intro v' w5 hown' hgrow _) | fail)
                        obtain ⟨hO2, hB2⟩ := hU.stepB hB3 hsz3 hq0 (by omega) hown' hgrow
                        clear hown' hgrow hU hB3 HO
                        go_wp2
                        go_roundw
                        case rel =>
                          refine ⟨k + 1, us ++ [q], by omega, by go_num, hO2, by rw [List.length_append, HUL.out]; show zs.length + 1 ≤ k + 1; omega, ?_, dgs_step HD.out (by rw [bys_len]; exact hkt) (by rw [HXB.out]; exact hx0) (by rw [HXB.out]; exact hx1), hB2⟩
                          rw [val_snoc, HUL.out, HE.out, HV2.out, dval_take (by rw [bys_len]; exact hkt), HXB.out]
                        case measure => simp [intOf]; omega
                · have hN := not_dec hkt (by rw [HXB.out]; exact hdig)
                  have HN := hidd (fun h => hN (HT.out.1 h))
                  clear hN
                  obtain ⟨c0, c1, c2, c3⟩ := HC2.out
                  rcases (by omega : x < 48 ∨ (¬ x < 48 ∧ 57 < x)) with hlt | ⟨hlt, hgt⟩
                  all_goals
                    go_wp2
                    refine bodyPost_ret (v := .tuple #[zeroV, .int .i64 3]) ?_ rfl ⟨(hfin.setCell (Nat.le_refl _) _).setCell (Nat.le_refl _) _, .inr (.inl ⟨by rw [hll]; exact HS.out, HN.out, rfl⟩)⟩
                    simp [results, Try.results55, go_sem, c0, c1, zeroV]
              · obtain rfl : k = s.size := by omega
                have HZV : Hid (val zs = dval (bys s)) := by
                  have := HV2.out
                  rw [← bys_len s, List.take_length] at this
                  exact this
                have HDEC : Hid (Dec (bys s)) := by
                  refine ⟨fun h => ?_, ?_, H48.out⟩
                  · have h2 := bys_len s
                    rw [h] at h2
                    simp at h2
                    omega
                  · have := HD.out
                    rw [← bys_len s, List.take_length] at this
                    exact this
                obtain ⟨ao1, cc1, he, hsl⟩ := hO.sl
                cases he
                obtain ⟨c0, c1, c2, c3⟩ := HC2.out
                go_wp2_with fail
                refine (made_any _ _ _ _ _ _ hsl (by omega)).mono ?_
                rintro e w3 ⟨v, rfl, ⟨ng, ao, nn, cc, rs, rfl, hrs, hrc, hrn, hrz⟩, hb3⟩
                have hbl3 := hfin.trans (hb3.mono hfin.size)
                have hC3 := HC2.out.mono hb3 HC2.out.lt
                have HC3 := hidd hC3
                have HRZ := hidd hrz
                clear hrz c0 c1 c2 c3
                obtain ⟨c0, c1, c2, c3⟩ := hC3
                go_wp2
                obtain ⟨v', hv', hi', hb⟩ := gives_store HC3.out hrs hrc hrn HRZ.out hbl3 (Nat.le_refl _)
                cases hv'
                refine bodyPost_ret (v := .tuple #[.agg #[.bool ng, .slice ao nn cc], .int .i64 0]) ?_ rfl ⟨hb, .inr (.inr ⟨by rw [hll]; exact HS.out, HT.out.2 HDEC.out, _, rfl, by rw [HV.out, ← HZV.out]; exact hi'⟩)⟩
                simp [results, Try.results55, go_sem, c0, c1]

end Go.Proofs.Ytlehjhlihahjhaa

namespace Go.Proofs.Ytlehjhlihahjhaa
open Go Go.RowKit

/-- A number and an error. -/
def NumE (w : World) (z er : Int) (e : Ending) (w' : World) : Prop :=
  ∃ (n : Bool) (ao : Option Addr) (k c : Nat), e = .returned (.tuple #[.agg #[.bool n, .slice ao k c], .int .i64 er]) ∧ Below w.heap.size w w' ∧ Num w' (.agg #[.bool n, .slice ao k c]) z

open Classical in
noncomputable def paE (t : List Int) : Int := if 1300 < t.length then 2 else if IsText t then 0 else 3
open Classical in
noncomputable def paV (t : List Int) : Int := if 1300 < t.length then 0 else if IsText t then tval t else 0

theorem ten_pw : ∀ k : Nat, (10 : Int) ^ k ≤ pw k
  | 0 => by simp [pw]
  | k + 1 => by
    have h := ten_pw k
    have := pw_pos k
    rw [Int.pow_succ, pw_succ]
    omega

theorem dval_lt {l : List Int} (h : Dgs l) : ∀ k, k ≤ l.length → dval (l.take k) < 10 ^ k
  | 0, _ => by simp [dval]
  | k + 1, hk => by
    rw [dval_take (by omega), Int.pow_succ]
    have h1 := dval_lt h k (by omega)
    have h2 := h (l[k]'(by omega)) (List.getElem_mem _)
    have h3 : l.getD k 0 = l[k]'(by omega) := by simp [List.getD, show k < l.length by omega]
    omega

theorem dval_pw {l : List Int} (h : Dgs l) {K : Nat} (hK : l.length ≤ K) : 0 ≤ dval l ∧ dval l < pw K := by
  have h1 := dval_lt h l.length (Nat.le_refl _)
  have h0 := dval_nonneg h l.length (Nat.le_refl _)
  rw [List.take_length] at h0 h1
  have h2 := ten_pw l.length
  have h3 := pw_le hK
  omega

theorem tval_pw {t : List Int} (h : IsText t) {K : Nat} (hK : t.length ≤ K) : ab (tval t) < pw K := by
  by_cases h45 : t.getD 0 0 = 45
  · rw [tval_minus h45]
    have hd := ((isText_minus h45).1 h).1
    obtain ⟨h1, h2⟩ := dval_pw hd.2.1 (K := K) (by rw [List.length_drop]; omega)
    unfold ab
    omega
  · rw [tval_plain h45]
    have hd := (isText_plain h45).1 h
    obtain ⟨h1, h2⟩ := dval_pw hd.2.1 hK
    unfold ab
    omega

theorem parseU {w : World} {t : List Int} {e : Ending} {w' : World} (h : ParseGives w t e w') : NumE w (paV t) (paE t) e w' := by
  obtain ⟨hb, ⟨h1, rfl⟩ | ⟨h1, h2, rfl⟩ | ⟨h1, h2, v, rfl, hi⟩⟩ := h
  · have e1 : paE t = 2 := if_pos h1
    have e2 : paV t = 0 := if_pos h1
    rw [e1, e2]
    exact ⟨_, _, _, _, rfl, hb, Num.zero _⟩
  · have e1 : paE t = 3 := (if_neg (by omega)).trans (if_neg h2)
    have e2 : paV t = 0 := (if_neg (by omega)).trans (if_neg h2)
    rw [e1, e2]
    exact ⟨_, _, _, _, rfl, hb, Num.zero _⟩
  · have e1 : paE t = 0 := (if_neg (by omega)).trans (if_pos h2)
    have e2 : paV t = tval t := (if_neg (by omega)).trans (if_pos h2)
    have n1 := num_of hi (k := 1300) (tval_pw h2 h1) (by omega)
    obtain ⟨n, ao, kk, c, rfl⟩ := n1.parts
    rw [e1, e2]
    exact ⟨_, _, _, _, rfl, hb, n1⟩

theorem text_range (z : Int) : ∀ d ∈ intText z, 0 ≤ d ∧ d < 256 := by
  intro d hd
  unfold intText at hd
  split at hd
  · rcases List.mem_cons.1 hd with h | h
    · omega
    · have := sizeText_dig _ d h; omega
  · have := sizeText_dig _ d hd; omega

end Go.Proofs.Ytlehjhlihahjhaa

/- Walks: strings.Cut at a slash. -/
namespace Go.Proofs.Ytlehjhlihahjhaa
open Go Go.RowKit

/-- The first slash stands at K, or K is the length. -/
def Slash (T : List Int) (K : Nat) : Prop := K ≤ T.length ∧ (∀ j, j < K → T.getD j 0 ≠ 47) ∧ (K < T.length → T.getD K 0 = 47)

theorem slash_ex : ∀ T : List Int, ∃ K, Slash T K
  | [] => ⟨0, Nat.le_refl _, fun _ h => absurd h (by omega), fun h => absurd h (by simp)⟩
  | x :: r => by
    by_cases hx : x = 47
    · exact ⟨0, Nat.zero_le _, fun _ h => absurd h (by omega), fun _ => by simpa using hx⟩
    · obtain ⟨K, h1, h2, h3⟩ := slash_ex r
      refine ⟨K + 1, by simpa using h1, fun j hj => ?_, fun hj => by simpa using h3 (by simpa using hj)⟩
      match j, hj with
      | 0, _ => simpa using hx
      | j + 1, hj => simpa using h2 j (by omega)

theorem slash_uniq {T : List Int} {K L : Nat} (h : Slash T K) (h' : Slash T L) : K = L := by
  obtain ⟨a1, a2, a3⟩ := h
  obtain ⟨b1, b2, b3⟩ := h'
  rcases Nat.lt_trichotomy K L with h | h | h
  · exact absurd (a3 (by omega)) (b2 K h)
  · exact h
  · exact absurd (b3 (by omega)) (a2 L h)

theorem byte_at (s : ByteArray) {j : Nat} (h : j < s.size) : (s[j]! == (47 : UInt8)) = decide ((bys s).getD j 0 = 47) := by
  rw [bys_at s h, getElem!_pos s j h]
  by_cases hb : s[j] = 47
  · rw [hb]; decide
  · have : ¬ ((s[j].toNat : Nat) : Int) = 47 := fun e => hb (UInt8.toNat_inj.1 (by simpa using (by omega : s[j].toNat = 47)))
    rw [decide_eq_false this]
    simpa using hb

theorem first_of {s : ByteArray} {K : Nat} (h : Slash (bys s) K) : firstIdx s (47 : UInt8) = if K < s.size then (K : Int) else -1 := by
  have hl := bys_len s
  obtain ⟨h1, h2, h3⟩ := h
  unfold firstIdx
  by_cases hK : K < s.size
  · have hf : (List.range s.size).find? (fun i => s[i]! == (47 : UInt8)) = some K := by
      rw [List.find?_range_eq_some]
      refine ⟨?_, List.mem_range.2 hK, fun j hj => ?_⟩
      · rw [byte_at s hK]; exact decide_eq_true (h3 (by omega))
      · rw [byte_at s (by omega), decide_eq_false (h2 j hj)]; rfl
    rw [hf, if_pos hK]
  · have hf : (List.range s.size).find? (fun i => s[i]! == (47 : UInt8)) = none := by
      rw [List.find?_eq_none]
      intro j hj
      have := List.mem_range.1 hj
      rw [byte_at s this, decide_eq_false (h2 j (by omega))]
      decide
    rw [hf, if_neg hK]

theorem idx_runG (w : World) (s : ByteArray) : (callFunc 105 #[.string s, .int .u8 47]).run Try.prog w = .ok (.value (.int .i64 (firstIdx s (47 : UInt8)))) w := by
  rw [run_callFunc_indexByte Try.func105 (by kernel_rfl) (by kernel_rfl) (by kernel_rfl) (by kernel_rfl), run_indexByte_string]
  rfl

set_option maxRecDepth 100000 in
set_option maxHeartbeats 1000000 in
theorem exIndexByteG (w : World) (s : ByteArray) {r : Int} (hr : Hid (firstIdx s (47 : UInt8) = r)) : Calls Try.prog 95 #[.string s, .int .u8 47] w fun e w' => e = .returned (.int .i64 r) ∧ w = w' := by
  have hx := idx_runG w s
  rw [hr.out] at hx
  go_enter Try.func95, Try.ntmps95
  go_wp2
  go_ret
  exact ⟨rfl, rfl⟩

set_option maxRecDepth 100000 in
set_option maxHeartbeats 1000000 in
theorem exIndexG (w : World) (s : ByteArray) {r : Int} (hr : Hid (firstIdx s (47 : UInt8) = r)) : Calls Try.prog 86 #[.string s, .string { data := #[47] }] w fun e w' => e = .returned (.int .i64 r) ∧ w = w' := by
  by_cases hs : ({ data := #[47] } : ByteArray) = s
  · subst hs
    obtain rfl : r = 0 := by rw [← hr.out]; rfl
    go_enter Try.func86, Try.ntmps86
    go_wp2
    go_ret
    exact ⟨rfl, rfl⟩
  · have hx : ([47] == s.toList) = false := by
      rw [beq_eq_false_iff_ne]
      intro e
      refine hs (WideShapes.bytes_inj ?_)
      rw [ByteArray.toList_eq] at e
      exact e
    clear hs
    go_enter Try.func86, Try.ntmps86
    go_wp2_with fail
    refine (exIndexByteG w s hr).mono ?_
    rintro e w1 ⟨rfl, rfl⟩
    go_wp2
    go_ret
    exact ⟨rfl, rfl⟩

set_option maxRecDepth 100000 in
set_option maxHeartbeats 1000000 in
theorem exCutS (w : World) {s : ByteArray} {K : Nat} (h : Slash (bys s) K) (hs : s.size ≤ 3000) (hK : K < s.size) : Calls Try.prog 77 #[.string s, .string { data := #[47] }] w fun e w' => e = .returned (.tuple #[.string (s.extract 0 K), .string (s.extract (K + 1) s.size), .bool true]) ∧ Below w.heap.size w w' := by
  have hr : Hid (firstIdx s (47 : UInt8) = (K : Int)) := (first_of h).trans (if_pos hK)
  clear h
  have h0 : (0 : Int) ≤ (K : Int) := by omega
  have h1 : (K : Int) ≤ (s.size : Int) := by omega
  have h2 : wrap64 ((K : Int) + 1) = (K : Int) + 1 := by simp only [wrap64]; omega
  have h2' : IntKind.i64.wrap ((K : Int) + 1) = (K : Int) + 1 := IntWalk.i64_in _ (by omega)
  have h3 : (0 : Int) ≤ (K : Int) + 1 := by omega
  have h4 : (K : Int) + 1 ≤ (s.size : Int) := by omega
  have hs' := hidd hs
  have hK' := hidd hK
  clear hs hK
  go_enter Try.func77, Try.ntmps77
  go_wp2_with fail
  refine (exIndexG w s hr).mono ?_
  rintro e w1 ⟨rfl, rfl⟩
  go_wp2
  go_quiet (fail)
  go_wp2
  refine bodyPost_ret (v := .tuple #[.string (s.extract 0 K), .string (s.extract (K + 1) s.size), .bool true]) ?_ rfl ⟨rfl, ⟨rfl, rfl, rfl, Nat.le_refl _, fun _ _ => rfl⟩⟩
  simp [results, Try.results77, go_sem]

set_option maxRecDepth 100000 in
set_option maxHeartbeats 1000000 in
theorem exCutN (w : World) {s : ByteArray} {K : Nat} (h : Slash (bys s) K) (hK : ¬ K < s.size) : Calls Try.prog 77 #[.string s, .string { data := #[47] }] w fun e w' => e = .returned (.tuple #[.string s, .string { data := #[] }, .bool false]) ∧ Below w.heap.size w w' := by
  have hr : Hid (firstIdx s (47 : UInt8) = -1) := (first_of h).trans (if_neg hK)
  clear h hK
  go_enter Try.func77, Try.ntmps77
  go_wp2_with fail
  refine (exIndexG w s hr).mono ?_
  rintro e w1 ⟨rfl, rfl⟩
  go_wp2
  refine bodyPost_ret (v := .tuple #[.string s, .string { data := #[] }, .bool false]) ?_ rfl ⟨rfl, ⟨rfl, rfl, rfl, Nat.le_refl _, fun _ _ => rfl⟩⟩
  simp [results, Try.results77, go_sem]

set_option maxRecDepth 100000 in
set_option maxHeartbeats 1000000 in
theorem exCutSlash (w : World) {s : ByteArray} {K : Nat} (h : Slash (bys s) K) (hs : s.size ≤ 3000) (hK : K < s.size) : Calls Try.prog 53 #[.string s, .string { data := #[47] }] w fun e w' => e = .returned (.tuple #[.string (s.extract 0 K), .string (s.extract (K + 1) s.size), .bool true]) ∧ Below w.heap.size w w' := by
  have H := exCutS w h hs hK
  clear h hs hK
  go_enter Try.func53, Try.ntmps53
  go_wp2_with fail
  refine H.mono ?_
  rintro e w1 ⟨rfl, hb⟩
  go_wp2
  refine bodyPost_ret (v := .tuple #[.string (s.extract 0 K), .string (s.extract (K + 1) s.size), .bool true]) ?_ rfl ⟨rfl, hb⟩
  simp [results, Try.results53, go_sem]

set_option maxRecDepth 100000 in
set_option maxHeartbeats 1000000 in
theorem exCutNone (w : World) {s : ByteArray} {K : Nat} (h : Slash (bys s) K) (hK : ¬ K < s.size) : Calls Try.prog 53 #[.string s, .string { data := #[47] }] w fun e w' => e = .returned (.tuple #[.string s, .string { data := #[] }, .bool false]) ∧ Below w.heap.size w w' := by
  have H := exCutN w h hK
  clear h hK
  go_enter Try.func53, Try.ntmps53
  go_wp2_with fail
  refine H.mono ?_
  rintro e w1 ⟨rfl, hb⟩
  go_wp2
  refine bodyPost_ret (v := .tuple #[.string s, .string { data := #[] }, .bool false]) ?_ rfl ⟨rfl, hb⟩
  simp [results, Try.results53, go_sem]

end Go.Proofs.Ytlehjhlihahjhaa

/- Walks: texts of fractions, and what is read from strings. -/
namespace Go.Proofs.Ytlehjhlihahjhaa
open Go Go.RowKit

section
variable {os : List Oper} {Q : Exit → Act → World → Prop} {a : Act} {p : Pq} {B B0 : Nat} {w0 : World}
variable {i : Nat} {d : Option Tmp} {ty : TypeId} {ps : String} {af : Array Edge} {gd : Option (Nat × Bool)}
theorem q_lenS {x : Operand} {s : ByteArray} (hp : p.Ok B B0) (hF : p.Free i) (hg : GdQ os a p B B0 w0 af gd) (hx : SrcQ os a p B B0 w0 af x fun v _ => v = .string s) (hC : ∀ w, (p.c i).P (.int .i64 (s.size : Int)) w) :
    StepQ os Q a p B B0 w0 i { dst := d, op := .call { callee := .builtin .len, args := #[x], argTypes := #[9] }, type := ty, pos := ps, after := af, guard := gd } :=
  q_one hp hF hg hx fun ρ w _ h => ⟨.int .i64 (s.size : Int), by simp [go_sem, h], hC w⟩
theorem q_sliceTo {x y : Operand} {s : ByteArray} {k : Nat} (hp : p.Ok B B0) (hF : p.Free i) (hg : GdQ os a p B B0 w0 af gd) (hx : SrcQ os a p B B0 w0 af x fun v _ => v = .string s) (hy : SrcQ os a p B B0 w0 af y fun v _ => v = .int .i64 (k : Int)) (hk : k ≤ s.size) (hC : ∀ w, (p.c i).P (.string (s.extract 0 k)) w) :
    StepQ os Q a p B B0 w0 i { dst := d, op := .slice 9 x none (some y) none, type := ty, pos := ps, after := af, guard := gd } :=
  q_two hp hF hg hx hy fun ρ w _ h h' => ⟨.string (s.extract 0 k), by
    have h0 : (0 : Int) ≤ (k : Int) := by omega
    have h1 : (k : Int) ≤ (s.size : Int) := by omega
    simp [execOp, go_sem, h, h', h0, h1], hC w⟩
theorem q_sliceFrom {x y : Operand} {s : ByteArray} {k : Nat} (hp : p.Ok B B0) (hF : p.Free i) (hg : GdQ os a p B B0 w0 af gd) (hx : SrcQ os a p B B0 w0 af x fun v _ => v = .string s) (hy : SrcQ os a p B B0 w0 af y fun v _ => v = .int .i64 (k : Int)) (hk : k ≤ s.size) (hC : ∀ w, (p.c i).P (.string (s.extract k s.size)) w) :
    StepQ os Q a p B B0 w0 i { dst := d, op := .slice 9 x (some y) none none, type := ty, pos := ps, after := af, guard := gd } :=
  q_two hp hF hg hx hy fun ρ w _ h h' => ⟨.string (s.extract k s.size), by
    have h0 : (0 : Int) ≤ (k : Int) := by omega
    have h1 : (k : Int) ≤ (s.size : Int) := by omega
    simp [execOp, go_sem, h, h', h0, h1], hC w⟩
end

theorem nine_pw : ∀ m : Nat, (10 : Int) ^ (9 * m) ≤ pw m
  | 0 => by simp [pw]
  | m + 1 => by
    have h := nine_pw m
    have := pw_pos m
    have e : (10 : Int) ^ (9 * (m + 1)) = 10 ^ (9 * m) * 1000000000 := by rw [Nat.mul_add, Int.pow_add]; rfl
    rw [e, pw_succ]
    omega
theorem ten_mono {j k : Nat} (h : j ≤ k) : (10 : Int) ^ j ≤ 10 ^ k := by
  obtain ⟨d, rfl⟩ := Nat.exists_eq_add_of_le h
  rw [Int.pow_add]
  have h1 : (0 : Int) < 10 ^ j := Int.pow_pos (by decide)
  have h2 : (0 : Int) < 10 ^ d := Int.pow_pos (by decide)
  have := Int.mul_le_mul_of_nonneg_left (show (1 : Int) ≤ 10 ^ d by omega) (show (0 : Int) ≤ 10 ^ j by omega)
  omega
theorem dval_pw9 {l : List Int} (h : Dgs l) {M : Nat} (hM : l.length ≤ 9 * M) : 0 ≤ dval l ∧ dval l < pw M := by
  have h1 := dval_lt h l.length (Nat.le_refl _)
  have h0 := dval_nonneg h l.length (Nat.le_refl _)
  rw [List.take_length] at h0 h1
  have h2 := nine_pw M
  have h3 := ten_mono hM
  omega
theorem tval_pw9 {t : List Int} (h : IsText t) {M : Nat} (hM : t.length ≤ 9 * M) : ab (tval t) < pw M := by
  by_cases h45 : t.getD 0 0 = 45
  · rw [tval_minus h45]
    have hd := ((isText_minus h45).1 h).1
    obtain ⟨h1, h2⟩ := dval_pw9 hd.2.1 (M := M) (by rw [List.length_drop]; omega)
    unfold ab
    omega
  · rw [tval_plain h45]
    have hd := (isText_plain h45).1 h
    obtain ⟨h1, h2⟩ := dval_pw9 hd.2.1 hM
    unfold ab
    omega
theorem paV_ab (t : List Int) : ab (paV t) < pw 150 := by
  have h0 : ab (0 : Int) < pw 150 := by
    have := pw_pos 150
    unfold ab
    omega
  unfold paV
  split
  · exact h0
  · split
    · rename_i h1 h2; exact tval_pw9 h2 (by omega)
    · exact h0
theorem paE_0 {t : List Int} (h : paE t = 0) : t.length ≤ 1300 ∧ IsText t ∧ intText (paV t) = t := by
  unfold paE at h
  split at h
  · cases h
  · rename_i h1
    split at h
    · rename_i h2
      refine ⟨by omega, h2, ?_⟩
      have e2 : paV t = tval t := (if_neg (by omega)).trans (if_pos h2)
      rw [e2]
      exact isText_val h2
    · cases h
theorem pa_text {z : Int} (hl : (intText z).length ≤ 1300) : paE (intText z) = 0 ∧ paV (intText z) = z :=
  have ht : IsText (intText z) := ⟨z, rfl⟩
  ⟨(if_neg (by omega)).trans (if_pos ht), (if_neg (by omega)).trans ((if_pos ht).trans (tval_text z))⟩
theorem text_inj {x y : Int} (h : intText x = intText y) : x = y := by rw [← tval_text x, h, tval_text]
theorem text_1 : intText 1 = [49] := by
  unfold intText
  rw [if_neg (by decide), show (1 : Int).natAbs = 1 from rfl, size_one (by decide) (by decide)]
  rfl
theorem bys_1 : bys { data := #[49] } = intText 1 := text_1.symm
theorem pa_1 : paE (bys { data := #[49] }) = 0 ∧ paV (bys { data := #[49] }) = 1 := by
  rw [bys_1]
  exact pa_text (by rw [text_1]; decide)
theorem bys_cut (s : ByteArray) (j k : Nat) : bys (s.extract j k) = ((bys s).take k).drop j := by
  unfold bys
  rw [ByteArray.data_extract, Array.toList_extract, List.extract_eq_take_drop, ← List.map_take, ← List.map_drop, List.drop_take]

theorem exParseU {w : World} {s : ByteArray} : Calls Try.prog 78 #[.string s] w fun e w' => ∃ v', e = .returned v' ∧ Below w.heap.size w w' ∧ (Fq.tup2 (Fq.num (paV (bys s))) (Fq.is (.int .i64 (paE (bys s))))).P v' w' := by
  refine (Parse_any w s).mono fun e w' hh => ?_
  obtain ⟨n, ao, k, c, rfl, hb, hN⟩ := parseU hh
  exact ⟨_, rfl, hb, _, _, rfl, hN, rfl⟩
theorem exRParseU {w : World} {s : ByteArray} : Calls Try.prog 55 #[.string s] w fun e w' => ∃ v', e = .returned v' ∧ Below w.heap.size w w' ∧ (Fq.tup2 (Fq.num (paV (bys s))) (Fq.is (.int .i64 (paE (bys s))))).P v' w' := by
  refine (RParse_any w s).mono fun e w' hh => ?_
  obtain ⟨n, ao, k, c, rfl, hb, hN⟩ := parseU hh
  exact ⟨_, rfl, hb, _, _, rfl, hN, rfl⟩
theorem exTextL {w : World} {v : Value} {z : Int} (h : Num w v z) (hl : (intText z).length ≤ 1300) : Calls Try.prog 29 #[v] w fun e w' => ∃ v', e = .returned v' ∧ Below w.heap.size w w' ∧ (Fq.tup2 (Fq.is (.string (bytesOf (intText z)))) (Fq.is (.int .i64 0))).P v' w' := by
  refine (TextV w h).mono fun e w' hh => ?_
  rw [textOf_ok hl] at hh
  exact ⟨_, hh.1, hh.2, _, _, rfl, rfl, rfl⟩
theorem text_ab {z : Int} (hl : (intText z).length ≤ 1300) : ab z < pw 150 := by
  have h := pa_text hl
  rw [← h.2]
  exact paV_ab _
theorem exRTextL {w : World} {v : Value} {z : Int} (h : Num w v z) (hl : (intText z).length ≤ 1300) : Calls Try.prog 52 #[v] w fun e w' => ∃ v', e = .returned v' ∧ Below w.heap.size w w' ∧ (Fq.tup2 (Fq.is (.string (bytesOf (intText z)))) (Fq.is (.int .i64 0))).P v' w' := by
  refine (RTextV w h (Int.lt_of_lt_of_le (text_ab hl) (pw_le (by omega)))).mono fun e w' hh => ?_
  rw [textOf_ok hl] at hh
  exact ⟨_, hh.1, hh.2, _, _, rfl, rfl, rfl⟩

/-- The text of a fraction. -/
def pairText (n d : Int) : List Int := if d = 1 then intText n else intText n ++ 47 :: intText d
theorem pair_bytes (n d : Int) : bytesOf (intText n) ++ (⟨#[47]⟩ : ByteArray) ++ bytesOf (intText d) = bytesOf (intText n ++ 47 :: intText d) := by
  rw [show (⟨#[47]⟩ : ByteArray) = bytesOf [47] from rfl, bytesOf_append, bytesOf_append, List.append_assoc]
  rfl
theorem one_text (d : Int) : ((bytesOf (intText d)).toList == [49]) = decide (d = 1) := by
  by_cases h : d = 1
  · subst h
    rw [decide_eq_true rfl, text_1, ByteArray.toList_eq]
    rfl
  · rw [decide_eq_false h, beq_eq_false_iff_ne]
    intro e
    apply h
    apply text_inj
    rw [text_1, ← bys_bytesOf (text_range d)]
    rw [ByteArray.toList_eq] at e
    unfold bys
    rw [e]
    rfl

set_option maxRecDepth 100000 in
set_option maxHeartbeats 4000000 in
theorem exTextP {w : World} {v : Value} {n d : Int} (h : Pair w v n d) (ln : (intText n).length ≤ 1300) (ld : (intText d).length ≤ 1300) :
    Calls Try.prog 24 #[v] w fun e w' => ∃ v', e = .returned v' ∧ Below w.heap.size w w' ∧ (Fq.tup2 (Fq.is (.string (bytesOf (pairText n d)))) (Fq.is (.int .i64 0))).P v' w' := by
  obtain ⟨n0, ao0, k0, c0, n0', ao0', k0', c0', rfl, _⟩ := ratV_pair h
  obtain ⟨w1, b1, hw1, hb1, hs1, E⟩ := fr_start w (F := Fq.pair n d) (us := [.bool n0, .slice ao0 k0 c0, .bool n0', .slice ao0' k0' c0']) 31 rfl (by simp) (tame_rat _ _ _ _ _ _ _ _) h
  go_enter Try.func24, Try.ntmps24
  go_upto_region 1 with (fail)
  rw [← hw1]
  rw [← hb1]
  clear hw1 hb1 hs1
  refine region_fr (C := [Fq.is (.pointer (some ⟨b1, 0, none⟩)), Fq.num n, Fq.tup2 (Fq.is (.string (bytesOf (intText n)))) (Fq.is (.int .i64 0)), Fq.tup2 (Fq.is (.string (bytesOf (intText n)))) (Fq.is (.int .i64 0)), Fq.is (.string (bytesOf (intText n))), Fq.is (.int .i64 0), Fq.is (.string (bytesOf (intText n))), Fq.is (.int .i64 0)]) (ks := [none]) (new := []) E rfl (by kernel_rfl) rfl rfl (fun hp => ⟨?_, ?_, ?_, ?_, ?_, ?_, ?_, ?_, trivial⟩) ?_
  · exact q_addr (b := b1) (off := 0) (off' := 0) hp (free_of rfl) trivial (sq_out rfl rfl (fun _ _ => rfl)) (fun ρ w h => by simp [execOp, go_sem, h]) (fun _ => rfl)
  · exact q_loadInt (off := 0) hp (free_of rfl) trivial (List.mem_iff_getElem?.2 ⟨0, rfl⟩) (.inl rfl) (Nat.le_of_ble_eq_true rfl) (sq_in 0 rfl rfl (by simp) rfl (fun v w h => h)) (fun us w hl h => ld_pn hl h)
  · exact q_call1 (F := (Fq.num n).P) hp (free_of rfl) trivial (enq_Text) (sq_in 1 rfl rfl (by simp) rfl (fun v w h => h)) (fun v w h => exTextL h ln)
  · exact q_move hp (free_of rfl) trivial (sq_in 2 rfl rfl (by simp) rfl (fun v w h => h))
  · exact q_extract2 hp (free_of rfl) trivial (sq_in 3 rfl rfl (by simp) rfl (fun v w h => h)) (fun v1 v2 w h1 h2 => ⟨_, rfl, h1⟩)
  · exact q_extract2 hp (free_of rfl) trivial (sq_in 3 rfl rfl (by simp) rfl (fun v w h => h)) (fun v1 v2 w h1 h2 => ⟨_, rfl, h2⟩)
  · exact q_assign hp (free_of rfl) trivial (sq_in 4 rfl rfl (by simp) rfl (fun v w h => h))
  · exact q_assign hp (free_of rfl) trivial (sq_in 5 rfl rfl (by simp) rfl (fun v w h => h))
  intro L vs w2 nb hL hC hn E2
  have e0 : vs 0 = .pointer (some ⟨b1, 0, none⟩) := hC 0 (by simp)
  have e4 : vs 4 = .string (bytesOf (intText n)) := hC 4 (by simp)
  have e5 : vs 5 = .int .i64 0 := hC 5 (by simp)
  have e6 : vs 6 = .string (bytesOf (intText n)) := hC 6 (by simp)
  have e7 : vs 7 = .int .i64 0 := hC 7 (by simp)
  have E : Fr w [(b1, 4, Fq.pair n d)] w2 := E2
  rw [lay_all hL]
  simp only [putAll, dstOf, List.length_cons, List.length_nil, Nat.zero_add, Nat.reduceAdd, List.getElem?_toArray, List.getElem?_cons_zero, List.getElem?_cons_succ, Option.bind_some, Act.put, List.setIfInBounds_toArray, List.set_cons_succ, List.set_cons_zero]
  rw [e0, e4, e5, e6, e7]
  generalize vs 1 = u2_1
  generalize vs 2 = u2_2
  generalize vs 3 = u2_3
  clear e0 e4 e5 e6 e7 hC hn E2 hL vs L nb
  go_upto_region 2 with (fail)
  refine region_fr (C := [Fq.is (.int .i64 0), Fq.is (.bool false)]) (ks := [none]) (new := []) E rfl (by kernel_rfl) rfl rfl (fun hp => ⟨?_, ?_, trivial⟩) ?_
  · exact q_move hp (free_of rfl) trivial (sq_out rfl rfl (fun _ _ => rfl))
  · exact q_one (F := fun v _ => v = .int .i64 0) hp (free_of rfl) trivial (sq_in 0 rfl rfl (by simp) rfl (fun v w h => h)) (fun ρ w hc h => ⟨.bool false, by simp [execOp, go_sem, h, hc], rfl⟩)
  intro L vs w3 nb hL hC hn E3
  have e0 : vs 0 = .int .i64 0 := hC 0 (by simp)
  have e1 : vs 1 = .bool false := hC 1 (by simp)
  have E : Fr w [(b1, 4, Fq.pair n d)] w3 := E3
  rw [lay_all hL]
  simp only [putAll, dstOf, List.length_cons, List.length_nil, Nat.zero_add, Nat.reduceAdd, List.getElem?_toArray, List.getElem?_cons_zero, List.getElem?_cons_succ, Option.bind_some, Act.put, List.setIfInBounds_toArray, List.set_cons_succ, List.set_cons_zero]
  rw [e0, e1]
  clear e0 e1 hC hn E3 hL vs L nb
  by_cases hc : d = 1
  · go_upto_region 4 with (fail)
    refine region_fr (C := [Fq.is (.pointer (some ⟨b1, 2, none⟩)), Fq.num d, Fq.is (.bool true)]) (ks := [none]) (new := []) E rfl (by kernel_rfl) rfl rfl (fun hp => ⟨?_, ?_, ?_, trivial⟩) ?_
    · exact q_addr (b := b1) (off := 0) (off' := 2) hp (free_of rfl) trivial (sq_out rfl rfl (fun _ _ => rfl)) (fun ρ w h => by simp [execOp, go_sem, h]) (fun _ => rfl)
    · exact q_loadInt (off := 2) hp (free_of rfl) trivial (List.mem_iff_getElem?.2 ⟨0, rfl⟩) (.inl rfl) (Nat.le_of_ble_eq_true rfl) (sq_in 0 rfl rfl (by simp) rfl (fun v w h => h)) (fun us w hl h => ld_pd hl h)
    · exact q_call1 (F := (Fq.num d).P) hp (free_of rfl) trivial (enq_Q_isOne) (sq_in 1 rfl rfl (by simp) rfl (fun v w h => h)) (fun v w h => exIsOneB h (decide_eq_true hc))
    intro L vs w4 nb hL hC hn E4
    have e0 : vs 0 = .pointer (some ⟨b1, 2, none⟩) := hC 0 (by simp)
    have e2 : vs 2 = .bool true := hC 2 (by simp)
    have E : Fr w [(b1, 4, Fq.pair n d)] w4 := E4
    rw [lay_all hL]
    simp only [putAll, dstOf, List.length_cons, List.length_nil, Nat.zero_add, Nat.reduceAdd, List.getElem?_toArray, List.getElem?_cons_zero, List.getElem?_cons_succ, Option.bind_some, Act.put, List.setIfInBounds_toArray, List.set_cons_succ, List.set_cons_zero]
    rw [e0, e2]
    generalize vs 1 = u4_1
    clear e0 e2 hC hn E4 hL vs L nb
    go_upto_region 5 with (fail)
    refine region_fr (C := [Fq.is (.string (bytesOf (intText n))), Fq.is (.string (bytesOf (intText n))), Fq.is (.int .i64 0)]) (ks := [none]) (new := []) E rfl (by kernel_rfl) rfl rfl (fun hp => ⟨?_, ?_, ?_, trivial⟩) ?_
    · exact q_move hp (free_of rfl) trivial (sq_out rfl rfl (fun _ _ => rfl))
    · exact q_assign hp (free_of rfl) trivial (sq_in 0 rfl rfl (by simp) rfl (fun v w h => h))
    · exact q_assign hp (free_of rfl) trivial (sq_const (fun _ => rfl))
    intro L vs w5 nb hL hC hn E5
    have e0 : vs 0 = .string (bytesOf (intText n)) := hC 0 (by simp)
    have e1 : vs 1 = .string (bytesOf (intText n)) := hC 1 (by simp)
    have e2 : vs 2 = .int .i64 0 := hC 2 (by simp)
    have E : Fr w [(b1, 4, Fq.pair n d)] w5 := E5
    rw [lay_all hL]
    simp only [putAll, dstOf, List.length_cons, List.length_nil, Nat.zero_add, Nat.reduceAdd, List.getElem?_toArray, List.getElem?_cons_zero, List.getElem?_cons_succ, Option.bind_some, Act.put, List.setIfInBounds_toArray, List.set_cons_succ, List.set_cons_zero]
    rw [e0, e1, e2]
    clear e0 e1 e2 hC hn E5 hL vs L nb
    clear ln ld
    go_wp2
    refine bodyPost_ret (v := .tuple #[.string (bytesOf (intText n)), .int .i64 0]) ?_ rfl ⟨_, rfl, E.below, _, _, rfl, by show _ = _; unfold pairText; rw [if_pos hc], rfl⟩
    simp [results, Try.results24, go_sem]
  · go_upto_region 4 with (fail)
    refine region_fr (C := [Fq.is (.pointer (some ⟨b1, 2, none⟩)), Fq.num d, Fq.is (.bool false)]) (ks := [none]) (new := []) E rfl (by kernel_rfl) rfl rfl (fun hp => ⟨?_, ?_, ?_, trivial⟩) ?_
    · exact q_addr (b := b1) (off := 0) (off' := 2) hp (free_of rfl) trivial (sq_out rfl rfl (fun _ _ => rfl)) (fun ρ w h => by simp [execOp, go_sem, h]) (fun _ => rfl)
    · exact q_loadInt (off := 2) hp (free_of rfl) trivial (List.mem_iff_getElem?.2 ⟨0, rfl⟩) (.inl rfl) (Nat.le_of_ble_eq_true rfl) (sq_in 0 rfl rfl (by simp) rfl (fun v w h => h)) (fun us w hl h => ld_pd hl h)
    · exact q_call1 (F := (Fq.num d).P) hp (free_of rfl) trivial (enq_Q_isOne) (sq_in 1 rfl rfl (by simp) rfl (fun v w h => h)) (fun v w h => exIsOneB h (decide_eq_false hc))
    intro L vs w6 nb hL hC hn E6
    have e0 : vs 0 = .pointer (some ⟨b1, 2, none⟩) := hC 0 (by simp)
    have e2 : vs 2 = .bool false := hC 2 (by simp)
    have E : Fr w [(b1, 4, Fq.pair n d)] w6 := E6
    rw [lay_all hL]
    simp only [putAll, dstOf, List.length_cons, List.length_nil, Nat.zero_add, Nat.reduceAdd, List.getElem?_toArray, List.getElem?_cons_zero, List.getElem?_cons_succ, Option.bind_some, Act.put, List.setIfInBounds_toArray, List.set_cons_succ, List.set_cons_zero]
    rw [e0, e2]
    generalize vs 1 = u6_1
    clear e0 e2 hC hn E6 hL vs L nb
    go_upto_region 6 with (fail)
    refine region_fr (C := [Fq.is (.pointer (some ⟨b1, 2, none⟩)), Fq.num d, Fq.tup2 (Fq.is (.string (bytesOf (intText d)))) (Fq.is (.int .i64 0)), Fq.tup2 (Fq.is (.string (bytesOf (intText d)))) (Fq.is (.int .i64 0)), Fq.is (.string (bytesOf (intText d))), Fq.is (.int .i64 0), Fq.is (.string (bytesOf (intText d))), Fq.is (.int .i64 0)]) (ks := [none]) (new := []) E rfl (by kernel_rfl) rfl rfl (fun hp => ⟨?_, ?_, ?_, ?_, ?_, ?_, ?_, ?_, trivial⟩) ?_
    · exact q_addr (b := b1) (off := 0) (off' := 2) hp (free_of rfl) trivial (sq_out rfl rfl (fun _ _ => rfl)) (fun ρ w h => by simp [execOp, go_sem, h]) (fun _ => rfl)
    · exact q_loadInt (off := 2) hp (free_of rfl) trivial (List.mem_iff_getElem?.2 ⟨0, rfl⟩) (.inl rfl) (Nat.le_of_ble_eq_true rfl) (sq_in 0 rfl rfl (by simp) rfl (fun v w h => h)) (fun us w hl h => ld_pd hl h)
    · exact q_call1 (F := (Fq.num d).P) hp (free_of rfl) trivial (enq_Text) (sq_in 1 rfl rfl (by simp) rfl (fun v w h => h)) (fun v w h => exTextL h ld)
    · exact q_move hp (free_of rfl) trivial (sq_in 2 rfl rfl (by simp) rfl (fun v w h => h))
    · exact q_extract2 hp (free_of rfl) trivial (sq_in 3 rfl rfl (by simp) rfl (fun v w h => h)) (fun v1 v2 w h1 h2 => ⟨_, rfl, h1⟩)
    · exact q_extract2 hp (free_of rfl) trivial (sq_in 3 rfl rfl (by simp) rfl (fun v w h => h)) (fun v1 v2 w h1 h2 => ⟨_, rfl, h2⟩)
    · exact q_assign hp (free_of rfl) trivial (sq_in 4 rfl rfl (by simp) rfl (fun v w h => h))
    · exact q_assign hp (free_of rfl) trivial (sq_in 5 rfl rfl (by simp) rfl (fun v w h => h))
    intro L vs w7 nb hL hC hn E7
    have e0 : vs 0 = .pointer (some ⟨b1, 2, none⟩) := hC 0 (by simp)
    have e4 : vs 4 = .string (bytesOf (intText d)) := hC 4 (by simp)
    have e5 : vs 5 = .int .i64 0 := hC 5 (by simp)
    have e6 : vs 6 = .string (bytesOf (intText d)) := hC 6 (by simp)
    have e7 : vs 7 = .int .i64 0 := hC 7 (by simp)
    have E : Fr w [(b1, 4, Fq.pair n d)] w7 := E7
    rw [lay_all hL]
    simp only [putAll, dstOf, List.length_cons, List.length_nil, Nat.zero_add, Nat.reduceAdd, List.getElem?_toArray, List.getElem?_cons_zero, List.getElem?_cons_succ, Option.bind_some, Act.put, List.setIfInBounds_toArray, List.set_cons_succ, List.set_cons_zero]
    rw [e0, e4, e5, e6, e7]
    generalize vs 1 = u7_1
    generalize vs 2 = u7_2
    generalize vs 3 = u7_3
    clear e0 e4 e5 e6 e7 hC hn E7 hL vs L nb
    go_upto_region 7 with (fail)
    refine region_fr (C := [Fq.is (.int .i64 0), Fq.is (.bool false)]) (ks := [none]) (new := []) E rfl (by kernel_rfl) rfl rfl (fun hp => ⟨?_, ?_, trivial⟩) ?_
    · exact q_move hp (free_of rfl) trivial (sq_out rfl rfl (fun _ _ => rfl))
    · exact q_one (F := fun v _ => v = .int .i64 0) hp (free_of rfl) trivial (sq_in 0 rfl rfl (by simp) rfl (fun v w h => h)) (fun ρ w hc h => ⟨.bool false, by simp [execOp, go_sem, h, hc], rfl⟩)
    intro L vs w8 nb hL hC hn E8
    have e0 : vs 0 = .int .i64 0 := hC 0 (by simp)
    have e1 : vs 1 = .bool false := hC 1 (by simp)
    have E : Fr w [(b1, 4, Fq.pair n d)] w8 := E8
    rw [lay_all hL]
    simp only [putAll, dstOf, List.length_cons, List.length_nil, Nat.zero_add, Nat.reduceAdd, List.getElem?_toArray, List.getElem?_cons_zero, List.getElem?_cons_succ, Option.bind_some, Act.put, List.setIfInBounds_toArray, List.set_cons_succ, List.set_cons_zero]
    rw [e0, e1]
    clear e0 e1 hC hn E8 hL vs L nb
    have s1 : Hid ((bytesOf (intText n)).size ≤ 1300) := by show _ ≤ _; rw [bytesOf_size]; exact ln
    have s2 : Hid ((bytesOf (intText d)).size ≤ 1300) := by show _ ≤ _; rw [bytesOf_size]; exact ld
    have s3 : (bytesOf (intText n)).size + 1 ≤ 9223372036854775807 := by have := s1.out; omega
    have s4 : (bytesOf (intText n)).size + 1 + (bytesOf (intText d)).size ≤ 9223372036854775807 := by have := s1.out; have := s2.out; omega
    have hcc := hidd hc
    clear hc ln ld
    go_wp2
    refine bodyPost_ret (v := .tuple #[.string (bytesOf (intText n) ++ (⟨#[47]⟩ : ByteArray) ++ bytesOf (intText d)), .int .i64 0]) ?_ rfl ⟨_, rfl, E.below, _, _, rfl, by show _ = _; unfold pairText; rw [if_neg hcc.out, pair_bytes], rfl⟩
    simp [results, Try.results24, go_sem]

set_option maxRecDepth 100000 in
set_option maxHeartbeats 4000000 in
theorem exSTextP {w : World} {v : Value} {n d : Int} (h : Pair w v n d) (ln : (intText n).length ≤ 1300) (ld : (intText d).length ≤ 1300) :
    Calls Try.prog 25 #[v] w fun e w' => ∃ v', e = .returned v' ∧ Below w.heap.size w w' ∧ (Fq.tup2 (Fq.is (.string (bytesOf (pairText n d)))) (Fq.is (.int .i64 0))).P v' w' := by
  obtain ⟨n0, ao0, k0, c0, n0', ao0', k0', c0', rfl, _⟩ := ratV_pair h
  obtain ⟨w1, b1, hw1, hb1, hs1, E⟩ := fr_start w (F := Fq.pair n d) (us := [.bool n0, .slice ao0 k0 c0, .bool n0', .slice ao0' k0' c0']) 31 rfl (by simp) (tame_rat _ _ _ _ _ _ _ _) h
  go_enter Try.func25, Try.ntmps25
  go_upto_region 1 with (fail)
  rw [← hw1]
  rw [← hb1]
  clear hw1 hb1 hs1
  refine region_fr (C := [Fq.is (.pointer (some ⟨b1, 0, none⟩)), Fq.num n, Fq.tup2 (Fq.is (.string (bytesOf (intText n)))) (Fq.is (.int .i64 0)), Fq.tup2 (Fq.is (.string (bytesOf (intText n)))) (Fq.is (.int .i64 0)), Fq.is (.string (bytesOf (intText n))), Fq.is (.int .i64 0), Fq.is (.string (bytesOf (intText n))), Fq.is (.int .i64 0)]) (ks := [none]) (new := []) E rfl (by kernel_rfl) rfl rfl (fun hp => ⟨?_, ?_, ?_, ?_, ?_, ?_, ?_, ?_, trivial⟩) ?_
  · exact q_addr (b := b1) (off := 0) (off' := 0) hp (free_of rfl) trivial (sq_out rfl rfl (fun _ _ => rfl)) (fun ρ w h => by simp [execOp, go_sem, h]) (fun _ => rfl)
  · exact q_loadInt (off := 0) hp (free_of rfl) trivial (List.mem_iff_getElem?.2 ⟨0, rfl⟩) (.inl rfl) (Nat.le_of_ble_eq_true rfl) (sq_in 0 rfl rfl (by simp) rfl (fun v w h => h)) (fun us w hl h => ld_pn hl h)
  · exact q_call1 (F := (Fq.num n).P) hp (free_of rfl) trivial (enq_R_Text) (sq_in 1 rfl rfl (by simp) rfl (fun v w h => h)) (fun v w h => exRTextL h ln)
  · exact q_move hp (free_of rfl) trivial (sq_in 2 rfl rfl (by simp) rfl (fun v w h => h))
  · exact q_extract2 hp (free_of rfl) trivial (sq_in 3 rfl rfl (by simp) rfl (fun v w h => h)) (fun v1 v2 w h1 h2 => ⟨_, rfl, h1⟩)
  · exact q_extract2 hp (free_of rfl) trivial (sq_in 3 rfl rfl (by simp) rfl (fun v w h => h)) (fun v1 v2 w h1 h2 => ⟨_, rfl, h2⟩)
  · exact q_assign hp (free_of rfl) trivial (sq_in 4 rfl rfl (by simp) rfl (fun v w h => h))
  · exact q_assign hp (free_of rfl) trivial (sq_in 5 rfl rfl (by simp) rfl (fun v w h => h))
  intro L vs w2 nb hL hC hn E2
  have e0 : vs 0 = .pointer (some ⟨b1, 0, none⟩) := hC 0 (by simp)
  have e4 : vs 4 = .string (bytesOf (intText n)) := hC 4 (by simp)
  have e5 : vs 5 = .int .i64 0 := hC 5 (by simp)
  have e6 : vs 6 = .string (bytesOf (intText n)) := hC 6 (by simp)
  have e7 : vs 7 = .int .i64 0 := hC 7 (by simp)
  have E : Fr w [(b1, 4, Fq.pair n d)] w2 := E2
  rw [lay_all hL]
  simp only [putAll, dstOf, List.length_cons, List.length_nil, Nat.zero_add, Nat.reduceAdd, List.getElem?_toArray, List.getElem?_cons_zero, List.getElem?_cons_succ, Option.bind_some, Act.put, List.setIfInBounds_toArray, List.set_cons_succ, List.set_cons_zero]
  rw [e0, e4, e5, e6, e7]
  generalize vs 1 = u2_1
  generalize vs 2 = u2_2
  generalize vs 3 = u2_3
  clear e0 e4 e5 e6 e7 hC hn E2 hL vs L nb
  go_upto_region 2 with (fail)
  refine region_fr (C := [Fq.is (.pointer (some ⟨b1, 2, none⟩)), Fq.num d, Fq.tup2 (Fq.is (.string (bytesOf (intText d)))) (Fq.is (.int .i64 0)), Fq.tup2 (Fq.is (.string (bytesOf (intText d)))) (Fq.is (.int .i64 0)), Fq.is (.string (bytesOf (intText d))), Fq.is (.int .i64 0), Fq.is (.string (bytesOf (intText d))), Fq.is (.int .i64 0)]) (ks := [none]) (new := []) E rfl (by kernel_rfl) rfl rfl (fun hp => ⟨?_, ?_, ?_, ?_, ?_, ?_, ?_, ?_, trivial⟩) ?_
  · exact q_addr (b := b1) (off := 0) (off' := 2) hp (free_of rfl) trivial (sq_out rfl rfl (fun _ _ => rfl)) (fun ρ w h => by simp [execOp, go_sem, h]) (fun _ => rfl)
  · exact q_loadInt (off := 2) hp (free_of rfl) trivial (List.mem_iff_getElem?.2 ⟨0, rfl⟩) (.inl rfl) (Nat.le_of_ble_eq_true rfl) (sq_in 0 rfl rfl (by simp) rfl (fun v w h => h)) (fun us w hl h => ld_pd hl h)
  · exact q_call1 (F := (Fq.num d).P) hp (free_of rfl) trivial (enq_R_Text) (sq_in 1 rfl rfl (by simp) rfl (fun v w h => h)) (fun v w h => exRTextL h ld)
  · exact q_move hp (free_of rfl) trivial (sq_in 2 rfl rfl (by simp) rfl (fun v w h => h))
  · exact q_extract2 hp (free_of rfl) trivial (sq_in 3 rfl rfl (by simp) rfl (fun v w h => h)) (fun v1 v2 w h1 h2 => ⟨_, rfl, h1⟩)
  · exact q_extract2 hp (free_of rfl) trivial (sq_in 3 rfl rfl (by simp) rfl (fun v w h => h)) (fun v1 v2 w h1 h2 => ⟨_, rfl, h2⟩)
  · exact q_assign hp (free_of rfl) trivial (sq_in 4 rfl rfl (by simp) rfl (fun v w h => h))
  · exact q_assign hp (free_of rfl) trivial (sq_in 5 rfl rfl (by simp) rfl (fun v w h => h))
  intro L vs w3 nb hL hC hn E3
  have e0 : vs 0 = .pointer (some ⟨b1, 2, none⟩) := hC 0 (by simp)
  have e4 : vs 4 = .string (bytesOf (intText d)) := hC 4 (by simp)
  have e5 : vs 5 = .int .i64 0 := hC 5 (by simp)
  have e6 : vs 6 = .string (bytesOf (intText d)) := hC 6 (by simp)
  have e7 : vs 7 = .int .i64 0 := hC 7 (by simp)
  have E : Fr w [(b1, 4, Fq.pair n d)] w3 := E3
  rw [lay_all hL]
  simp only [putAll, dstOf, List.length_cons, List.length_nil, Nat.zero_add, Nat.reduceAdd, List.getElem?_toArray, List.getElem?_cons_zero, List.getElem?_cons_succ, Option.bind_some, Act.put, List.setIfInBounds_toArray, List.set_cons_succ, List.set_cons_zero]
  rw [e0, e4, e5, e6, e7]
  generalize vs 1 = u3_1
  generalize vs 2 = u3_2
  generalize vs 3 = u3_3
  clear e0 e4 e5 e6 e7 hC hn E3 hL vs L nb
  go_upto_region 3 with (fail)
  refine region_fr (C := [Fq.is (.int .i64 0), Fq.is (.bool false), Fq.is (.bool false), Fq.is (.int .i64 0), Fq.is (.bool false), Fq.is (.bool false)]) (ks := [none]) (new := []) E rfl (by kernel_rfl) rfl rfl (fun hp => ⟨?_, ?_, ?_, ?_, ?_, ?_, trivial⟩) ?_
  · exact q_move hp (free_of rfl) trivial (sq_out rfl rfl (fun _ _ => rfl))
  · exact q_one (F := fun v _ => v = .int .i64 0) hp (free_of rfl) trivial (sq_in 0 rfl rfl (by simp) rfl (fun v w h => h)) (fun ρ w hc h => ⟨.bool false, by simp [execOp, go_sem, h, hc], rfl⟩)
  · exact q_move hp (free_of rfl) trivial (sq_in 1 rfl rfl (by simp) rfl (fun v w h => h))
  · exact q_move hp (free_of rfl) (gq_some rfl rfl (by simp) rfl (fun v w h => h)) (sq_out rfl rfl (fun _ _ => rfl))
  · exact q_one (F := fun v _ => v = .int .i64 0) hp (free_of rfl) (gq_some rfl rfl (by simp) rfl (fun v w h => h)) (sq_in 3 rfl rfl (by simp) rfl (fun v w h => h)) (fun ρ w hc h => ⟨.bool false, by simp [execOp, go_sem, h, hc], rfl⟩)
  · exact q_two (F := fun v _ => v = .bool false) (G := fun v _ => v = .bool false) hp (free_of rfl) trivial (sq_in 2 rfl rfl (by simp) rfl (fun v w h => h)) (sq_in 4 rfl rfl (by simp) rfl (fun v w h => h)) (fun ρ w hc h h' => ⟨_, by simp [execOp, go_sem, h, h'], rfl⟩)
  intro L vs w4 nb hL hC hn E4
  have e0 : vs 0 = .int .i64 0 := hC 0 (by simp)
  have e1 : vs 1 = .bool false := hC 1 (by simp)
  have e2 : vs 2 = .bool false := hC 2 (by simp)
  have e3 : vs 3 = .int .i64 0 := hC 3 (by simp)
  have e4 : vs 4 = .bool false := hC 4 (by simp)
  have e5 : vs 5 = .bool false := hC 5 (by simp)
  have E : Fr w [(b1, 4, Fq.pair n d)] w4 := E4
  rw [lay_all hL]
  simp only [putAll, dstOf, List.length_cons, List.length_nil, Nat.zero_add, Nat.reduceAdd, List.getElem?_toArray, List.getElem?_cons_zero, List.getElem?_cons_succ, Option.bind_some, Act.put, List.setIfInBounds_toArray, List.set_cons_succ, List.set_cons_zero]
  rw [e0, e1, e2, e3, e4, e5]
  clear e0 e1 e2 e3 e4 e5 hC hn E4 hL vs L nb
  by_cases hc : d = 1
  · have T1 : Hid (((bytesOf (intText d)).toList == [49]) = true) := (one_text d).trans (decide_eq_true hc)
    go_upto_region 5 with (fail)
    refine region_fr (C := [Fq.is (.string (bytesOf (intText d))), Fq.is (.bool true)]) (ks := [none]) (new := []) E rfl (by kernel_rfl) rfl rfl (fun hp => ⟨?_, ?_, trivial⟩) ?_
    · exact q_move hp (free_of rfl) trivial (sq_out rfl rfl (fun _ _ => rfl))
    · exact q_one (F := fun v _ => v = .string (bytesOf (intText d))) hp (free_of rfl) trivial (sq_in 0 rfl rfl (by simp) rfl (fun v w h => h)) (fun ρ w hc h => ⟨.bool true, by simp [execOp, go_sem, h, hc, T1.out], rfl⟩)
    intro L vs w5 nb hL hC hn E5
    have e0 : vs 0 = .string (bytesOf (intText d)) := hC 0 (by simp)
    have e1 : vs 1 = .bool true := hC 1 (by simp)
    have E : Fr w [(b1, 4, Fq.pair n d)] w5 := E5
    rw [lay_all hL]
    simp only [putAll, dstOf, List.length_cons, List.length_nil, Nat.zero_add, Nat.reduceAdd, List.getElem?_toArray, List.getElem?_cons_zero, List.getElem?_cons_succ, Option.bind_some, Act.put, List.setIfInBounds_toArray, List.set_cons_succ, List.set_cons_zero]
    rw [e0, e1]
    clear e0 e1 hC hn E5 hL vs L nb
    clear T1
    clear ln ld
    go_wp2
    refine bodyPost_ret (v := .tuple #[.string (bytesOf (intText n)), .int .i64 0]) ?_ rfl ⟨_, rfl, E.below, _, _, rfl, by show _ = _; unfold pairText; rw [if_pos hc], rfl⟩
    simp [results, Try.results25, go_sem]
  · have T1 : Hid (((bytesOf (intText d)).toList == [49]) = false) := (one_text d).trans (decide_eq_false hc)
    go_upto_region 5 with (fail)
    refine region_fr (C := [Fq.is (.string (bytesOf (intText d))), Fq.is (.bool false)]) (ks := [none]) (new := []) E rfl (by kernel_rfl) rfl rfl (fun hp => ⟨?_, ?_, trivial⟩) ?_
    · exact q_move hp (free_of rfl) trivial (sq_out rfl rfl (fun _ _ => rfl))
    · exact q_one (F := fun v _ => v = .string (bytesOf (intText d))) hp (free_of rfl) trivial (sq_in 0 rfl rfl (by simp) rfl (fun v w h => h)) (fun ρ w hc h => ⟨.bool false, by simp [execOp, go_sem, h, hc, T1.out], rfl⟩)
    intro L vs w6 nb hL hC hn E6
    have e0 : vs 0 = .string (bytesOf (intText d)) := hC 0 (by simp)
    have e1 : vs 1 = .bool false := hC 1 (by simp)
    have E : Fr w [(b1, 4, Fq.pair n d)] w6 := E6
    rw [lay_all hL]
    simp only [putAll, dstOf, List.length_cons, List.length_nil, Nat.zero_add, Nat.reduceAdd, List.getElem?_toArray, List.getElem?_cons_zero, List.getElem?_cons_succ, Option.bind_some, Act.put, List.setIfInBounds_toArray, List.set_cons_succ, List.set_cons_zero]
    rw [e0, e1]
    clear e0 e1 hC hn E6 hL vs L nb
    clear T1
    have s1 : Hid ((bytesOf (intText n)).size ≤ 1300) := by show _ ≤ _; rw [bytesOf_size]; exact ln
    have s2 : Hid ((bytesOf (intText d)).size ≤ 1300) := by show _ ≤ _; rw [bytesOf_size]; exact ld
    have s3 : (bytesOf (intText n)).size + 1 ≤ 9223372036854775807 := by have := s1.out; omega
    have s4 : (bytesOf (intText n)).size + 1 + (bytesOf (intText d)).size ≤ 9223372036854775807 := by have := s1.out; have := s2.out; omega
    have hcc := hidd hc
    clear hc ln ld
    go_wp2
    refine bodyPost_ret (v := .tuple #[.string (bytesOf (intText n) ++ (⟨#[47]⟩ : ByteArray) ++ bytesOf (intText d)), .int .i64 0]) ?_ rfl ⟨_, rfl, E.below, _, _, rfl, by show _ = _; unfold pairText; rw [if_neg hcc.out, pair_bytes], rfl⟩
    simp [results, Try.results25, go_sem]

end Go.Proofs.Ytlehjhlihahjhaa
