/- Oy, Oz, Ol, Sc, Sg. -/
import Derived.Test.YtihhlaagndingaaGreatBz5
namespace Go.Proofs.YtihhlaagndingaaGreat
open Go Go.RowKit

def invC (D M : Int) : Option Nat := (List.range M.toNat).find? fun u => decide ((D * (u : Int)) % M = 1 % M)
def finC (M x1 y1 x2 N D : Int) : Pt × Int := if D = 0 then (⟨0, 0, true⟩, 0) else match invC D M with
 | some u => (⟨((N * u) % M * ((N * u) % M) - (x1 + x2)) % M, ((N * u) % M * (x1 - ((N * u) % M * ((N * u) % M) - (x1 + x2)) % M) - y1) % M, false⟩, 0)
 | none => (⟨0, 0, false⟩, (Int.gcd D M : Int))
theorem finC_eq {M x1 y1 x2 N D : Int} (hM : 0 < M) : finP M x1 y1 x2 N D = finC M x1 y1 x2 N D := by
 unfold finP finC
 by_cases h0 : D = 0
 ·rw [if_pos h0, if_pos h0]
 ·rw [if_neg h0, if_neg h0]
  cases hi : invC D M with
  | some u =>
   have h1 := List.find?_some hi
   have h2 := List.mem_of_find?_eq_some hi
   simp only [decide_eq_true_eq] at h1
   simp only [List.mem_range] at h2
   obtain ⟨h3, h4⟩ := zLb hM (show (0 : Int) ≤ (u : Int) by omega) (show (u : Int) < M by omega) h1
   rw [if_pos h3]
   simp only [finX, finY, ← h4]
  | none =>
   have h1 := List.find?_eq_none.1 hi
   have h3 : ¬ Int.gcd D M = 1 := by
    intro h
    have h4 := zIn hM h
    have h5 := zD6 (a := D) hM
    have h6 := zGd (a := D) hM
    refine h1 (bezU D M).toNat (by simp only [List.mem_range]; omega) ?_
    rw [show ((bezU D M).toNat : Int) = bezU D M by omega]
    exact decide_eq_true h4
   rw [if_neg h3]
def sumC (A M : Int) (P Q : Pt) : Pt × Int := if P.i then (Q, 0) else if Q.i then (P, 0) else finC M P.x P.y Q.x (slN A P.x P.y Q.x Q.y) (slD M P.x P.y Q.x Q.y)
theorem sumC_eq {A M : Int} {P Q : Pt} (hM : 0 < M) : sumP A M P Q = sumC A M P Q := by
 unfold sumP sumC
 rw [finC_eq hM]
def stepC (A M : Int) (P : Pt) (R : Pt × Int) (b : Bool) : Pt × Int := if R.2 = 0 then (if (sumC A M R.1 R.1).2 = 0 then (if b then sumC A M (sumC A M R.1 R.1).1 P else sumC A M R.1 R.1) else sumC A M R.1 R.1) else R
def mulC (A M : Int) (P : Pt) : Nat → Nat → Pt × Int
 | 0, _ => (⟨0, 0, true⟩, 0)
 | k + 1, m => stepC A M P (mulC A M P k (m / 2)) (decide (m % 2 = 1))
theorem mulC_eq {A M : Int} {P : Pt} (hM : 0 < M) : ∀ k m, mulP A M P k m = mulC A M P k m
 | 0, _ => rfl
 | k + 1, m => by
  rw [mulP, mulC, mulC_eq hM k, zCn, stepC]
  simp only [sumC_eq hM]
def addC (A B M : Int) (P Q : Pt) : Pt × Int × Int := if onB A B M P.x P.y P.i = true then (if onB A B M Q.x Q.y Q.i = true then (if (sumC A M P Q).2 = 0 then ((sumC A M P Q).1, 0, 0) else (⟨0, 0, false⟩, (sumC A M P Q).2, 6)) else (⟨0, 0, false⟩, 0, 1)) else (⟨0, 0, false⟩, 0, 1)
theorem zIh {A B M : Int} {P Q : Pt} (hM : 0 < M) : addS A B M P Q = addC A B M P Q := by
 unfold addS addC
 simp only [sumC_eq hM]
theorem zMk {A B M : Int} {P : Pt} {k m : Nat} {n : Int} (hM : 0 < M) (hn : ¬ n < 0) (hk : zAp n = k) (hm : n.natAbs = m) (h : onB A B M P.x P.y P.i = true) {R : Pt × Int} (hR : mulC A M P k m = R) (h0 : R.2 = 0) : zDb A B M n P = (R.1, 0, 0) := by
 have e : zCj A M P n = R := by
  unfold zCj xjP
  rw [if_neg hn, hk, hm, Nat.sub_zero, Nat.pow_zero, Nat.div_one, mulC_eq hM, hR]
 unfold zDb
 rw [if_pos h, e, if_pos h0]
theorem ex6_two : addS 1 1 5 ⟨0, 1, false⟩ ⟨0, 1, false⟩ = (⟨4, 2, false⟩, 0, 0) := by rw [zIh (by decide)]; kernel_rfl
theorem ex6_none : addS 1 1 35 ⟨0, 1, false⟩ ⟨7, 6, false⟩ = (⟨0, 0, false⟩, 7, 6) := by rw [zIh (by decide)]; kernel_rfl
theorem ex6_bad : addS 1 1 5 ⟨1, 1, false⟩ ⟨0, 1, false⟩ = (⟨0, 0, false⟩, 0, 1) := by rw [zIh (by decide)]; kernel_rfl
theorem zOe : zAp 3 = 2 := by kernel_rfl
theorem zOd : zAp 9 = 4 := by kernel_rfl
theorem ex6_three : zDb 1 1 5 3 ⟨0, 1, false⟩ = (⟨2, 1, false⟩, 0, 0) := zMk (R := (⟨2, 1, false⟩, 0)) (by decide) (by decide) zOe rfl (by decide) (by kernel_rfl) rfl
theorem ex6_nine : zDb 1 1 5 9 ⟨0, 1, false⟩ = (⟨0, 0, true⟩, 0, 0) := zMk (R := (⟨0, 0, true⟩, 0)) (by decide) (by decide) zOd rfl (by decide) (by kernel_rfl) rfl
theorem lit5 {z : Int} (h : ab z < 4294967296 * 4294967296 * 4294967296) : ab z < pw 5 := Int.lt_of_lt_of_le (zBq h) (zAg (by omega))
set_option maxRecDepth 100000 in
set_option maxHeartbeats 4000000 in
theorem zN1 (w : World) :
  Calls Tryz.prog 4 #[] w fun e w' => ∃ v', e = .returned v' ∧ Below w.heap.size w w' ∧ v' = .bool true := by
 have E := Fr.start w
 go_enter Tryz.func4, Tryz.ntmps4
 go_upto_region 1 with (fail)
 have B1 : Hid (ab ((1)) < pw 3) := zBq (by decide)
 have B2 : Hid (ab ((5)) < pw 3) := zBq (by decide)
 refine rg [Fq.num (1), Fq.num (1), Fq.num (5), Fq.st [.n (1), .n (1), .n (5)], Fq.any, Fq.any] [] [⟨4, 5, 6, Fq.st [.n 0, .n 0, .n 0], Fq.st [.n (1), .n (1), .n (5)], none⟩] E (fun hp => ⟨?_, ?_, ?_, ?_, ?_, ?_, tv⟩) ?_
 ·exact zA7 (F := (Fq.is (.int .i64 1)).P) hp fo tv (zBg) (zAl (fun _ => rfl)) (fun v w h => (by subst h; exact rOfK w (1) (by omega) (by omega)))
 ·exact zA7 (F := (Fq.is (.int .i64 1)).P) hp fo tv (zBg) (zAl (fun _ => rfl)) (fun v w h => (by subst h; exact rOfK w (1) (by omega) (by omega)))
 ·exact zA7 (F := (Fq.is (.int .i64 5)).P) hp fo tv (zBg) (zAl (fun _ => rfl)) (fun v w h => (by subst h; exact rOfK w (5) (by omega) (by omega)))
 ·exact zH4 (z0 := (1)) (z1 := (1)) (z2 := (5)) hp fo tv (sqi 0) (sqi 1) (sqi 2) (fun v w h => h)
 ·exact aS hp (mq 0 rfl) zEg zG0
 ·exact sS 3 hp (mq 0 rfl) zE1
 intro L vs w3 nb hL hC hn E3
 have e4 : vs 4 = .pointer (some ⟨nb 4, 0, none⟩) := hn _ (mq 0 rfl)
 have E := E3; simp only [LM, zAb] at E
 rw [zAa hL]
 simp only [SP, Nat.zero_add, Nat.reduceAdd]
 rw [e4]
 generalize nb 4 = b3_4 at E ⊢
 generalize vs 0 = u3_0
 generalize vs 1 = u3_1
 generalize vs 2 = u3_2
 generalize vs 3 = u3_3
 clear e4 hC hn E3 hL vs L nb
 go_upto_region 2 with (fail)
 have B4 : Hid (ab ((35)) < pw 3) := zBq (by decide)
 refine rg [Fq.num (1), Fq.num (1), Fq.num (35), Fq.st [.n (1), .n (1), .n (35)], Fq.any, Fq.any] [none] [⟨4, 5, 6, Fq.st [.n 0, .n 0, .n 0], Fq.st [.n (1), .n (1), .n (35)], none⟩] E (fun hp => ⟨?_, ?_, ?_, ?_, ?_, ?_, tv⟩) ?_
 ·exact zA7 (F := (Fq.is (.int .i64 1)).P) hp fo tv (zBg) (zAl (fun _ => rfl)) (fun v w h => (by subst h; exact rOfK w (1) (by omega) (by omega)))
 ·exact zA7 (F := (Fq.is (.int .i64 1)).P) hp fo tv (zBg) (zAl (fun _ => rfl)) (fun v w h => (by subst h; exact rOfK w (1) (by omega) (by omega)))
 ·exact zA7 (F := (Fq.is (.int .i64 35)).P) hp fo tv (zBg) (zAl (fun _ => rfl)) (fun v w h => (by subst h; exact rOfK w (35) (by omega) (by omega)))
 ·exact zH4 (z0 := (1)) (z1 := (1)) (z2 := (35)) hp fo tv (sqi 0) (sqi 1) (sqi 2) (fun v w h => h)
 ·exact aS hp (mq 0 rfl) zEg zG0
 ·exact sS 3 hp (mq 0 rfl) zE1
 intro L vs w5 nb hL hC hn E5
 have e4 : vs 4 = .pointer (some ⟨nb 4, 0, none⟩) := hn _ (mq 0 rfl)
 have E := E5; simp only [LM, zAb] at E
 rw [zAa hL]
 simp only [SP, Nat.zero_add, Nat.reduceAdd]
 rw [e4]
 generalize nb 4 = b5_4 at E ⊢
 generalize vs 0 = u5_0
 generalize vs 1 = u5_1
 generalize vs 2 = u5_2
 generalize vs 3 = u5_3
 clear e4 hC hn E5 hL vs L nb
 go_upto_region 3 with (fail)
 refine rg [Fq.st [.n (0), .n (1), .v (.bool false)], Fq.any, Fq.any] N2 [⟨1, 2, 5, Fq.st [.n 0, .n 0, .v (.bool false)], Fq.st [.n (0), .n (1), .v (.bool false)], none⟩] E (fun hp => ⟨?_, ?_, ?_, tv⟩) ?_
 ·exact zAt (F := (Fq.is (.int .i64 0)).P) (G := (Fq.is (.int .i64 1)).P) hp fo tv (zEa) (zAl (fun _ => rfl)) (zAl (fun _ => rfl)) (fun v v' w h h' => (by subst h h'; exact exAt (x := 0) (y := 1) (by omega) (by omega)))
 ·exact aS hp (mq 0 rfl) zA1 zC9
 ·exact sS 0 hp (mq 0 rfl) zAy
 intro L vs w6 nb hL hC hn E6
 have e1 : vs 1 = .pointer (some ⟨nb 1, 0, none⟩) := hn _ (mq 0 rfl)
 have E := E6; simp only [LM, zAb] at E
 rw [zAa hL]
 simp only [SP, Nat.zero_add, Nat.reduceAdd]
 rw [e1]
 generalize nb 1 = b6_1 at E ⊢
 generalize vs 0 = u6_0
 clear e1 hC hn E6 hL vs L nb
 go_upto_region 4 with (fail)
 have B7 : Hid (ab ((3)) < pw 3) := zBq (by decide)
 have B8 : Hid (ab ((9)) < pw 3) := zBq (by decide)
 refine rg [Fq.st [.n (1), .n (1), .n (5)], Fq.st [.n (0), .n (1), .v (.bool false)], Fq.st [.n (0), .n (1), .v (.bool false)], Fq.st [.n (4), .n (2), .v (.bool false), .n (0), .v (.int .i64 0)], Fq.st [.n (1), .n (1), .n (5)], Fq.num (3), Fq.st [.n (0), .n (1), .v (.bool false)], Fq.st [.n (2), .n (1), .v (.bool false), .n (0), .v (.int .i64 0)], Fq.st [.n (1), .n (1), .n (5)], Fq.num (9), Fq.st [.n (0), .n (1), .v (.bool false)], Fq.st [.n (0), .n (0), .v (.bool true), .n (0), .v (.int .i64 0)], Fq.any, Fq.any, Fq.any, Fq.any, Fq.any, Fq.any] N3 [⟨12, 15, 8, Fq.st [.n 0, .n 0, .v (.bool false), .n 0, .v (.int .i64 0)], Fq.st [.n (4), .n (2), .v (.bool false), .n (0), .v (.int .i64 0)], none⟩, ⟨13, 16, 8, Fq.st [.n 0, .n 0, .v (.bool false), .n 0, .v (.int .i64 0)], Fq.st [.n (2), .n (1), .v (.bool false), .n (0), .v (.int .i64 0)], none⟩, ⟨14, 17, 8, Fq.st [.n 0, .n 0, .v (.bool false), .n 0, .v (.int .i64 0)], Fq.st [.n (0), .n (0), .v (.bool true), .n (0), .v (.int .i64 0)], none⟩] E (fun hp => ⟨?_, ?_, ?_, ?_, ?_, ?_, ?_, ?_, ?_, ?_, ?_, ?_, ?_, ?_, ?_, ?_, ?_, ?_, tv⟩) ?_
 ·exact lS 0 6 hp (mq 2 rfl) zAm (sqo 1)
 ·exact lS 0 5 hp (mq 0 rfl) zAk (sqo 3)
 ·exact lS 0 5 hp (mq 0 rfl) zAk (sqo 3)
 ·exact zBa (F := (Fq.st [.n (1), .n (1), .n (5)]).P) (G := (Fq.st [.n (0), .n (1), .v (.bool false)]).P) (F3 := (Fq.st [.n (0), .n (1), .v (.bool false)]).P) hp fo tv (zGh) (sqi 0) (sqi 1) (sqi 2) (fun v v' u w h h' g => zGk (P := ⟨(0), (1), false⟩) (Q := ⟨(0), (1), false⟩) (R := (⟨4, 2, false⟩, 0, 0)) h h' g (lit5 (by decide)) (lit5 (by decide)) (lit5 (by decide)) ⟨(lit5 (by decide)), (lit5 (by decide))⟩ ⟨(lit5 (by decide)), (lit5 (by decide))⟩ ex6_two)
 ·exact lS 0 6 hp (mq 2 rfl) zAm (sqo 1)
 ·exact zA7 (F := (Fq.is (.int .i64 3)).P) hp fo tv (zBg) (zAl (fun _ => rfl)) (fun v w h => (by subst h; exact rOfK w (3) (by omega) (by omega)))
 ·exact lS 0 5 hp (mq 0 rfl) zAk (sqo 3)
 ·exact zBa (F := (Fq.st [.n (1), .n (1), .n (5)]).P) (G := (Fq.num (3)).P) (F3 := (Fq.st [.n (0), .n (1), .v (.bool false)]).P) hp fo tv (zHl) (sqi 4) (sqi 5) (sqi 6) (fun v v' u w h h' g => zHp (P := ⟨(0), (1), false⟩) (R := (⟨2, 1, false⟩, 0, 0)) h h' g (lit5 (by decide)) (lit5 (by decide)) (lit5 (by decide)) (Int.lt_of_lt_of_le (lit5 (by decide)) (zAg (by omega))) ⟨(lit5 (by decide)), (lit5 (by decide))⟩ ex6_three)
 ·exact lS 0 6 hp (mq 2 rfl) zAm (sqo 1)
 ·exact zA7 (F := (Fq.is (.int .i64 9)).P) hp fo tv (zBg) (zAl (fun _ => rfl)) (fun v w h => (by subst h; exact rOfK w (9) (by omega) (by omega)))
 ·exact lS 0 5 hp (mq 0 rfl) zAk (sqo 3)
 ·exact zBa (F := (Fq.st [.n (1), .n (1), .n (5)]).P) (G := (Fq.num (9)).P) (F3 := (Fq.st [.n (0), .n (1), .v (.bool false)]).P) hp fo tv (zHl) (sqi 8) (sqi 9) (sqi 10) (fun v v' u w h h' g => zHp (P := ⟨(0), (1), false⟩) (R := (⟨0, 0, true⟩, 0, 0)) h h' g (lit5 (by decide)) (lit5 (by decide)) (lit5 (by decide)) (Int.lt_of_lt_of_le (lit5 (by decide)) (zAg (by omega))) ⟨(lit5 (by decide)), (lit5 (by decide))⟩ ex6_nine)
 ·exact aS hp (mq 0 rfl) zBt zEz
 ·exact aS hp (mq 1 rfl) zBt zEz
 ·exact aS hp (mq 2 rfl) zBt zEz
 ·exact sS 3 hp (mq 0 rfl) zA9
 ·exact sS 7 hp (mq 1 rfl) zA9
 ·exact sS 11 hp (mq 2 rfl) zA9
 intro L vs w9 nb hL hC hn E9
 have e12 : vs 12 = .pointer (some ⟨nb 12, 0, none⟩) := hn _ (mq 0 rfl)
 have e13 : vs 13 = .pointer (some ⟨nb 13, 0, none⟩) := hn _ (mq 1 rfl)
 have e14 : vs 14 = .pointer (some ⟨nb 14, 0, none⟩) := hn _ (mq 2 rfl)
 have E := E9; simp only [LM, zAb] at E
 rw [zAa hL]
 simp only [SP, Nat.zero_add, Nat.reduceAdd]
 rw [e12, e13, e14]
 generalize nb 12 = b9_12 at E ⊢
 generalize nb 13 = b9_13 at E ⊢
 generalize nb 14 = b9_14 at E ⊢
 generalize vs 0 = u9_0
 generalize vs 1 = u9_1
 generalize vs 2 = u9_2
 generalize vs 3 = u9_3
 generalize vs 4 = u9_4
 generalize vs 5 = u9_5
 generalize vs 6 = u9_6
 generalize vs 7 = u9_7
 generalize vs 8 = u9_8
 generalize vs 9 = u9_9
 generalize vs 10 = u9_10
 generalize vs 11 = u9_11
 clear e12 e13 e14 hC hn E9 hL vs L nb
 go_upto_region 5 with (fail)
 refine rg [Fq.st [.n (1), .n (1), .n (35)], Fq.st [.n (0), .n (1), .v (.bool false)], Fq.st [.n (7), .n (6), .v (.bool false)], Fq.st [.n (0), .n (0), .v (.bool false), .n (7), .v (.int .i64 6)], Fq.any, Fq.any] N6 [⟨4, 5, 8, Fq.st [.n 0, .n 0, .v (.bool false), .n 0, .v (.int .i64 0)], Fq.st [.n (0), .n (0), .v (.bool false), .n (7), .v (.int .i64 6)], none⟩] E (fun hp => ⟨?_, ?_, ?_, ?_, ?_, ?_, tv⟩) ?_
 ·exact lS 0 6 hp (mq 4 rfl) zAm (sqo 2)
 ·exact lS 0 5 hp (mq 3 rfl) zAk (sqo 3)
 ·exact zAt (F := (Fq.is (.int .i64 7)).P) (G := (Fq.is (.int .i64 6)).P) hp fo tv (zEa) (zAl (fun _ => rfl)) (zAl (fun _ => rfl)) (fun v v' w h h' => (by subst h h'; exact exAt (x := 7) (y := 6) (by omega) (by omega)))
 ·exact zBa (F := (Fq.st [.n (1), .n (1), .n (35)]).P) (G := (Fq.st [.n (0), .n (1), .v (.bool false)]).P) (F3 := (Fq.st [.n (7), .n (6), .v (.bool false)]).P) hp fo tv (zGh) (sqi 0) (sqi 1) (sqi 2) (fun v v' u w h h' g => zGk (P := ⟨(0), (1), false⟩) (Q := ⟨(7), (6), false⟩) (R := (⟨0, 0, false⟩, 7, 6)) h h' g (lit5 (by decide)) (lit5 (by decide)) (lit5 (by decide)) ⟨(lit5 (by decide)), (lit5 (by decide))⟩ ⟨(lit5 (by decide)), (lit5 (by decide))⟩ ex6_none)
 ·exact aS hp (mq 0 rfl) zBt zEz
 ·exact sS 3 hp (mq 0 rfl) zA9
 intro L vs w10 nb hL hC hn E10
 have e4 : vs 4 = .pointer (some ⟨nb 4, 0, none⟩) := hn _ (mq 0 rfl)
 have E := E10; simp only [LM, zAb] at E
 rw [zAa hL]
 simp only [SP, Nat.zero_add, Nat.reduceAdd]
 rw [e4]
 generalize nb 4 = b10_4 at E ⊢
 generalize vs 0 = u10_0
 generalize vs 1 = u10_1
 generalize vs 2 = u10_2
 generalize vs 3 = u10_3
 clear e4 hC hn E10 hL vs L nb
 go_upto_region 6 with (fail)
 refine rg [Fq.st [.n (1), .n (1), .n (5)], Fq.st [.n (1), .n (1), .v (.bool false)], Fq.st [.n (0), .n (1), .v (.bool false)], Fq.st [.n (0), .n (0), .v (.bool false), .n (0), .v (.int .i64 1)], Fq.any, Fq.any] N7 [⟨4, 5, 8, Fq.st [.n 0, .n 0, .v (.bool false), .n 0, .v (.int .i64 0)], Fq.st [.n (0), .n (0), .v (.bool false), .n (0), .v (.int .i64 1)], none⟩] E (fun hp => ⟨?_, ?_, ?_, ?_, ?_, ?_, tv⟩) ?_
 ·exact lS 0 6 hp (mq 6 rfl) zAm (sqo 1)
 ·exact zAt (F := (Fq.is (.int .i64 1)).P) (G := (Fq.is (.int .i64 1)).P) hp fo tv (zEa) (zAl (fun _ => rfl)) (zAl (fun _ => rfl)) (fun v v' w h h' => (by subst h h'; exact exAt (x := 1) (y := 1) (by omega) (by omega)))
 ·exact lS 0 5 hp (mq 4 rfl) zAk (sqo 3)
 ·exact zBa (F := (Fq.st [.n (1), .n (1), .n (5)]).P) (G := (Fq.st [.n (1), .n (1), .v (.bool false)]).P) (F3 := (Fq.st [.n (0), .n (1), .v (.bool false)]).P) hp fo tv (zGh) (sqi 0) (sqi 1) (sqi 2) (fun v v' u w h h' g => zGk (P := ⟨(1), (1), false⟩) (Q := ⟨(0), (1), false⟩) (R := (⟨0, 0, false⟩, 0, 1)) h h' g (lit5 (by decide)) (lit5 (by decide)) (lit5 (by decide)) ⟨(lit5 (by decide)), (lit5 (by decide))⟩ ⟨(lit5 (by decide)), (lit5 (by decide))⟩ ex6_bad)
 ·exact aS hp (mq 0 rfl) zBt zEz
 ·exact sS 3 hp (mq 0 rfl) zA9
 intro L vs w11 nb hL hC hn E11
 have e4 : vs 4 = .pointer (some ⟨nb 4, 0, none⟩) := hn _ (mq 0 rfl)
 have E := E11; simp only [LM, zAb] at E
 rw [zAa hL]
 simp only [SP, Nat.zero_add, Nat.reduceAdd]
 rw [e4]
 generalize nb 4 = b11_4 at E ⊢
 generalize vs 0 = u11_0
 generalize vs 1 = u11_1
 generalize vs 2 = u11_2
 generalize vs 3 = u11_3
 clear e4 hC hn E11 hL vs L nb
 go_upto_region 7 with (fail)
 refine rg [Fq.st [.n (1), .n (1), .n (5)], Fq.st [.n (0), .n (1), .v (.bool false)], Fq.tup2 (Fq.st [.n (0), .n (4), .v (.bool false)]) (Fq.is (.int .i64 0)), Fq.tup2 (Fq.st [.n (0), .n (4), .v (.bool false)]) (Fq.is (.int .i64 0)), Fq.st [.n (0), .n (4), .v (.bool false)], Fq.is (.int .i64 0), Fq.any, Fq.any, Fq.is (.int .i64 0)] N8 [⟨6, 7, 5, Fq.st [.n 0, .n 0, .v (.bool false)], Fq.st [.n (0), .n (4), .v (.bool false)], none⟩] E (fun hp => ⟨?_, ?_, ?_, ?_, ?_, ?_, ?_, ?_, ?_, tv⟩) ?_
 ·exact lS 0 6 hp (mq 7 rfl) zAm (sqo 1)
 ·exact lS 0 5 hp (mq 5 rfl) zAk (sqo 3)
 ·exact wXb (Fq.st [.n (1), .n (1), .n (5)]) (Fq.st [.n (0), .n (1), .v (.bool false)]) hp zKm (sqi 0) (sqi 1) fun v v' w h h' => exNegN (P := ⟨0, 1, false⟩) h h' (lit5 (by decide)) (lit5 (by decide)) (lit5 (by decide)) ⟨(lit5 (by decide)), (lit5 (by decide))⟩ (by decide)
 ·exact zAe hp fo tv (sqi 2)
 ·exact zA5 hp fo tv (sqi 3) (fun v1 v2 w h1 h2 => ⟨_, rfl, h1⟩)
 ·exact zA5 hp fo tv (sqi 3) (fun v1 v2 w h1 h2 => ⟨_, rfl, h2⟩)
 ·exact aS hp (mq 0 rfl) zA1 zC9
 ·exact sS 4 hp (mq 0 rfl) zAy
 ·exact zAo hp fo tv (sqi 5)
 intro L vs w12 nb hL hC hn E12
 have e5 := wXi hC 5
 have e8 := wXi hC 8
 have e6 : vs 6 = .pointer (some ⟨nb 6, 0, none⟩) := hn _ (mq 0 rfl)
 have E := E12; simp only [LM, zAb] at E
 rw [zAa hL]
 simp only [SP, Nat.zero_add, Nat.reduceAdd]
 rw [e5, e8, e6]
 generalize nb 6 = b12_6 at E ⊢
 generalize vs 0 = u12_0
 generalize vs 1 = u12_1
 generalize vs 2 = u12_2
 generalize vs 3 = u12_3
 generalize vs 4 = u12_4
 clear e5 e8 e6 hC hn E12 hL vs L nb
 go_upto_region 8 with (fail)
 refine rg [ip b9_12 7, Fq.is (.int .i64 0), yF, yF, ip b9_13 7, Fq.is (.int .i64 0), yF, yF, yF, ip b9_14 7, Fq.is (.int .i64 0), yF, yF, yF, ip b10_4 7, Fq.is (.int .i64 6), yF, yF, yF, ip b11_4 7, Fq.is (.int .i64 1), yF, yF, yF, Fq.is (.int .i64 0), yF, yF] N9 [] E (fun hp => ⟨?_, ?_, ?_, ?_, ?_, ?_, ?_, ?_, ?_, ?_, ?_, ?_, ?_, ?_, ?_, ?_, ?_, ?_, ?_, ?_, ?_, ?_, ?_, ?_, ?_, ?_, ?_, tv⟩) ?_
 ·exact qa b9_12 0 7 hp (sqo 4)
 ·exact wXc 7 hp (mq 3 rfl) (sqi 0)
 ·exact zAf (F := fun v _ => v = .int .i64 0) hp fo tv (sqi 1) (fun ρ w hc h => ⟨.bool false, by simp [execOp, go_sem, h, hc], rfl⟩)
 ·exact zAe hp fo tv (sqi 2)
 ·exact zAv (b := b9_13) (off := 0) (off' := 7) hp fo gqi (sqo 5) (fun ρ w h => by simp [execOp, go_sem, h]) (fun _ => rfl)
 ·exact zEh (off := 7) (fs := [.n (2), .n (1), .v (.bool false), .n (0), .v (.int .i64 0)]) (u := .int .i64 0) hp fo gqi (mq 4 rfl) (.inl rfl) rfl rfl (fun ρ w b h1 h2 => by simp [execOp, go_sem, h1, h2]) (sqi 4) (fun _ => rfl)
 ·exact zAf (F := fun v _ => v = .int .i64 0) hp fo gqi (sqi 5) (fun ρ w hc h => ⟨.bool false, by simp [execOp, go_sem, h, hc], rfl⟩)
 ·exact zAi (F := fun v _ => v = .bool false) (G := fun v _ => v = .bool false) hp fo tv (sqi 3) (sqi 6) (fun ρ w hc h h' => ⟨_, by simp [execOp, go_sem, h, h'], rfl⟩)
 ·exact zAe hp fo tv (sqi 7)
 ·exact zAv (b := b9_14) (off := 0) (off' := 7) hp fo gqi (sqo 6) (fun ρ w h => by simp [execOp, go_sem, h]) (fun _ => rfl)
 ·exact zEh (off := 7) (fs := [.n (0), .n (0), .v (.bool true), .n (0), .v (.int .i64 0)]) (u := .int .i64 0) hp fo gqi (mq 5 rfl) (.inl rfl) rfl rfl (fun ρ w b h1 h2 => by simp [execOp, go_sem, h1, h2]) (sqi 9) (fun _ => rfl)
 ·exact zAf (F := fun v _ => v = .int .i64 0) hp fo gqi (sqi 10) (fun ρ w hc h => ⟨.bool false, by simp [execOp, go_sem, h, hc], rfl⟩)
 ·exact zAi (F := fun v _ => v = .bool false) (G := fun v _ => v = .bool false) hp fo tv (sqi 8) (sqi 11) (fun ρ w hc h h' => ⟨_, by simp [execOp, go_sem, h, h'], rfl⟩)
 ·exact zAe hp fo tv (sqi 12)
 ·exact zAv (b := b10_4) (off := 0) (off' := 7) hp fo gqi (sqo 7) (fun ρ w h => by simp [execOp, go_sem, h]) (fun _ => rfl)
 ·exact zEh (off := 7) (fs := [.n (0), .n (0), .v (.bool false), .n (7), .v (.int .i64 6)]) (u := .int .i64 6) hp fo gqi (mq 2 rfl) (.inl rfl) rfl rfl (fun ρ w b h1 h2 => by simp [execOp, go_sem, h1, h2]) (sqi 14) (fun _ => rfl)
 ·exact zAf (F := fun v _ => v = .int .i64 6) hp fo gqi (sqi 15) (fun ρ w hc h => ⟨.bool false, by simp [execOp, go_sem, h, hc], rfl⟩)
 ·exact zAi (F := fun v _ => v = .bool false) (G := fun v _ => v = .bool false) hp fo tv (sqi 13) (sqi 16) (fun ρ w hc h h' => ⟨_, by simp [execOp, go_sem, h, h'], rfl⟩)
 ·exact zAe hp fo tv (sqi 17)
 ·exact zAv (b := b11_4) (off := 0) (off' := 7) hp fo gqi (sqo 8) (fun ρ w h => by simp [execOp, go_sem, h]) (fun _ => rfl)
 ·exact zEh (off := 7) (fs := [.n (0), .n (0), .v (.bool false), .n (0), .v (.int .i64 1)]) (u := .int .i64 1) hp fo gqi (mq 1 rfl) (.inl rfl) rfl rfl (fun ρ w b h1 h2 => by simp [execOp, go_sem, h1, h2]) (sqi 19) (fun _ => rfl)
 ·exact zAf (F := fun v _ => v = .int .i64 1) hp fo gqi (sqi 20) (fun ρ w hc h => ⟨.bool false, by simp [execOp, go_sem, h, hc], rfl⟩)
 ·exact zAi (F := fun v _ => v = .bool false) (G := fun v _ => v = .bool false) hp fo tv (sqi 18) (sqi 21) (fun ρ w hc h h' => ⟨_, by simp [execOp, go_sem, h, h'], rfl⟩)
 ·exact zAe hp fo tv (sqi 22)
 ·exact zAe hp fo gqi (sqo 10)
 ·exact zAf (F := fun v _ => v = .int .i64 0) hp fo gqi (sqi 24) (fun ρ w hc h => ⟨.bool false, by simp [execOp, go_sem, h, hc], rfl⟩)
 ·exact zAi (F := fun v _ => v = .bool false) (G := fun v _ => v = .bool false) hp fo tv (sqi 23) (sqi 25) (fun ρ w hc h h' => ⟨_, by simp [execOp, go_sem, h, h'], rfl⟩)
 intro L vs w13 nb hL hC hn E13
 have e0 := wXi hC 0
 have e1 := wXi hC 1
 have e2 := wXi hC 2
 have e3 := wXi hC 3
 have e4 := wXi hC 4
 have e5 := wXi hC 5
 have e6 := wXi hC 6
 have e7 := wXi hC 7
 have e8 := wXi hC 8
 have e9 := wXi hC 9
 have e10 := wXi hC 10
 have e11 := wXi hC 11
 have e12 := wXi hC 12
 have e13 := wXi hC 13
 have e14 := wXi hC 14
 have e15 := wXi hC 15
 have e16 := wXi hC 16
 have e17 := wXi hC 17
 have e18 := wXi hC 18
 have e19 := wXi hC 19
 have e20 := wXi hC 20
 have e21 := wXi hC 21
 have e22 := wXi hC 22
 have e23 := wXi hC 23
 have e24 := wXi hC 24
 have e25 := wXi hC 25
 have e26 := wXi hC 26
 have E := E13; simp only [LM, zAb] at E
 rw [zAa hL]
 simp only [SP, Nat.zero_add, Nat.reduceAdd]
 rw [e0, e1, e2, e3, e4, e5, e6, e7, e8, e9, e10, e11, e12, e13, e14, e15, e16, e17, e18, e19, e20, e21, e22, e23, e24, e25, e26]
 clear e0 e1 e2 e3 e4 e5 e6 e7 e8 e9 e10 e11 e12 e13 e14 e15 e16 e17 e18 e19 e20 e21 e22 e23 e24 e25 e26 hC hn E13 hL vs L nb
 go_upto_region 10 with (fail)
 have B14 : Hid (ab ((7)) < pw 3) := zBq (by decide)
 refine rg [ip b9_12 0, Fq.st [.n (4), .n (2), .v (.bool false)], Fq.st [.n (4), .n (2), .v (.bool false)], yT, yT, ip b9_13 0, Fq.st [.n (2), .n (1), .v (.bool false)], Fq.st [.n (2), .n (1), .v (.bool false)], yT, yT, yT, ip b9_14 0, ip b9_14 4, yT, yT, yT, ip b10_4 5, Fq.num (7), Fq.num (7), yT, yT, yT, Fq.st [.n (0), .n (4), .v (.bool false)], Fq.st [.n (0), .n (4), .v (.bool false)], yT, yT, yT, Fq.st [.n (1), .n (1), .n (5)], Fq.st [.n (0), .n (1), .v (.bool false)], yT, yT, yT, Fq.st [.n (1), .n (1), .n (5)], Fq.st [.n (1), .n (1), .v (.bool false)], yF, yT, yT, yT] N9 [] E (fun hp => ⟨?_, ?_, ?_, ?_, ?_, ?_, ?_, ?_, ?_, ?_, ?_, ?_, ?_, ?_, ?_, ?_, ?_, ?_, ?_, ?_, ?_, ?_, ?_, ?_, ?_, ?_, ?_, ?_, ?_, ?_, ?_, ?_, ?_, ?_, ?_, ?_, ?_, ?_, tv⟩) ?_
 ·exact qa b9_12 0 0 hp (sqo 4)
 ·exact lS 0 5 hp (mq 3 rfl) zAk (sqi 0)
 ·exact zAt (F := (Fq.is (.int .i64 4)).P) (G := (Fq.is (.int .i64 2)).P) hp fo tv (zEa) (zAl (fun _ => rfl)) (zAl (fun _ => rfl)) (fun v v' w h h' => (by subst h h'; exact exAt (x := 4) (y := 2) (by omega) (by omega)))
 ·exact wXb (Fq.st [.n (4), .n (2), .v (.bool false)]) (Fq.st [.n (4), .n (2), .v (.bool false)]) hp zGi (sqi 1) (sqi 2) fun v v' w h h' => zGl (P := ⟨(4), (2), false⟩) (Q := ⟨(4), (2), false⟩) h h' rfl
 ·exact zAe hp fo tv (sqi 3)
 ·exact zAv (b := b9_13) (off := 0) (off' := 0) hp fo gqi (sqo 5) (fun ρ w h => by simp [execOp, go_sem, h]) (fun _ => rfl)
 ·exact lG 0 5 hp gqi (mq 4 rfl) zAk (sqi 5) fun v w h => h
 ·exact zAt (F := (Fq.is (.int .i64 2)).P) (G := (Fq.is (.int .i64 1)).P) hp fo gqi (zEa) (zAl (fun _ => rfl)) (zAl (fun _ => rfl)) (fun v v' w h h' => (by subst h h'; exact exAt (x := 2) (y := 1) (by omega) (by omega)))
 ·exact zAt (F := (Fq.st [.n (2), .n (1), .v (.bool false)]).P) (G := (Fq.st [.n (2), .n (1), .v (.bool false)]).P) hp fo gqi (zGi) (sqi 6) (sqi 7) (fun v v' w h h' => zGl (P := ⟨(2), (1), false⟩) (Q := ⟨(2), (1), false⟩) h h' rfl)
 ·exact zAi (F := fun v _ => v = .bool true) (G := fun v _ => v = .bool true) hp fo tv (sqi 4) (sqi 8) (fun ρ w hc h h' => ⟨_, by simp [execOp, go_sem, h, h'], rfl⟩)
 ·exact zAe hp fo tv (sqi 9)
 ·exact zAv (b := b9_14) (off := 0) (off' := 0) hp fo gqi (sqo 6) (fun ρ w h => by simp [execOp, go_sem, h]) (fun _ => rfl)
 ·exact zAv (b := b9_14) (off := 0) (off' := 4) hp fo gqi (sqi 11) (fun ρ w h => by simp [execOp, go_sem, h]) (fun _ => rfl)
 ·exact zEh (off := 4) (fs := [.n (0), .n (0), .v (.bool true), .n (0), .v (.int .i64 0)]) (u := .bool true) hp fo gqi (mq 5 rfl) (.inl rfl) rfl rfl (fun ρ w b h1 h2 => by simp [execOp, go_sem, h1, h2]) (sqi 12) (fun _ => rfl)
 ·exact zAi (F := fun v _ => v = .bool true) (G := fun v _ => v = .bool true) hp fo tv (sqi 10) (sqi 13) (fun ρ w hc h h' => ⟨_, by simp [execOp, go_sem, h, h'], rfl⟩)
 ·exact zAe hp fo tv (sqi 14)
 ·exact zAv (b := b10_4) (off := 0) (off' := 5) hp fo gqi (sqo 7) (fun ρ w h => by simp [execOp, go_sem, h]) (fun _ => rfl)
 ·exact lG 5 2 hp gqi (mq 2 rfl) zAd (sqi 16) fun v w h => zA8 h
 ·exact zA7 (F := (Fq.is (.int .i64 7)).P) hp fo gqi (zBg) (zAl (fun _ => rfl)) (fun v w h => (by subst h; exact rOfK w (7) (by omega) (by omega)))
 ·exact zAt (F := (Fq.num (7)).P) (G := (Fq.num (7)).P) hp fo gqi (zBy) (sqi 17) (sqi 18) (fun v v' w h h' => zBz h h' rfl)
 ·exact zAi (F := fun v _ => v = .bool true) (G := fun v _ => v = .bool true) hp fo tv (sqi 15) (sqi 19) (fun ρ w hc h h' => ⟨_, by simp [execOp, go_sem, h, h'], rfl⟩)
 ·exact zAe hp fo tv (sqi 20)
 ·exact lG 0 5 hp gqi (mq 0 rfl) zAk (sqo 9) fun v w h => h
 ·exact zAt (F := (Fq.is (.int .i64 0)).P) (G := (Fq.is (.int .i64 4)).P) hp fo gqi (zEa) (zAl (fun _ => rfl)) (zAl (fun _ => rfl)) (fun v v' w h h' => (by subst h h'; exact exAt (x := 0) (y := 4) (by omega) (by omega)))
 ·exact zAt (F := (Fq.st [.n (0), .n (4), .v (.bool false)]).P) (G := (Fq.st [.n (0), .n (4), .v (.bool false)]).P) hp fo gqi (zGi) (sqi 22) (sqi 23) (fun v v' w h h' => zGl (P := ⟨(0), (4), false⟩) (Q := ⟨(0), (4), false⟩) h h' rfl)
 ·exact zAi (F := fun v _ => v = .bool true) (G := fun v _ => v = .bool true) hp fo tv (sqi 21) (sqi 24) (fun ρ w hc h h' => ⟨_, by simp [execOp, go_sem, h, h'], rfl⟩)
 ·exact zAe hp fo tv (sqi 25)
 ·exact lG 0 6 hp gqi (mq 8 rfl) zAm (sqo 1) fun v w h => h
 ·exact lG 0 5 hp gqi (mq 6 rfl) zAk (sqo 3) fun v w h => h
 ·exact zAt (F := (Fq.st [.n (1), .n (1), .n (5)]).P) (G := (Fq.st [.n (0), .n (1), .v (.bool false)]).P) hp fo gqi (zB3) (sqi 27) (sqi 28) (fun v v' w h h' => exOn (x := 0) (y := 1) (i := false) h h' (lit5 (by decide)) (lit5 (by decide)) (lit5 (by decide)) (lit5 (by decide)) (lit5 (by decide)) (by decide))
 ·exact zAi (F := fun v _ => v = .bool true) (G := fun v _ => v = .bool true) hp fo tv (sqi 26) (sqi 29) (fun ρ w hc h h' => ⟨_, by simp [execOp, go_sem, h, h'], rfl⟩)
 ·exact zAe hp fo tv (sqi 30)
 ·exact lG 0 6 hp gqi (mq 8 rfl) zAm (sqo 1) fun v w h => h
 ·exact zAt (F := (Fq.is (.int .i64 1)).P) (G := (Fq.is (.int .i64 1)).P) hp fo gqi (zEa) (zAl (fun _ => rfl)) (zAl (fun _ => rfl)) (fun v v' w h h' => (by subst h h'; exact exAt (x := 1) (y := 1) (by omega) (by omega)))
 ·exact zAt (F := (Fq.st [.n (1), .n (1), .n (5)]).P) (G := (Fq.st [.n (1), .n (1), .v (.bool false)]).P) hp fo gqi (zB3) (sqi 32) (sqi 33) (fun v v' w h h' => exOn (x := 1) (y := 1) (i := false) h h' (lit5 (by decide)) (lit5 (by decide)) (lit5 (by decide)) (lit5 (by decide)) (lit5 (by decide)) (by decide))
 ·exact zAf (F := fun v _ => v = .bool false) hp fo gqi (sqi 34) (fun ρ w _ h => ⟨.bool true, by simp [execOp, go_sem, h], rfl⟩)
 ·exact zAi (F := fun v _ => v = .bool true) (G := fun v _ => v = .bool true) hp fo tv (sqi 31) (sqi 35) (fun ρ w hc h h' => ⟨_, by simp [execOp, go_sem, h, h'], rfl⟩)
 ·exact zAo hp fo tv (sqi 36)
 intro L vs w15 nb hL hC hn E15
 have e0 := wXi hC 0
 have e3 := wXi hC 3
 have e4 := wXi hC 4
 have e5 := wXi hC 5
 have e8 := wXi hC 8
 have e9 := wXi hC 9
 have e10 := wXi hC 10
 have e11 := wXi hC 11
 have e12 := wXi hC 12
 have e13 := wXi hC 13
 have e14 := wXi hC 14
 have e15 := wXi hC 15
 have e16 := wXi hC 16
 have e19 := wXi hC 19
 have e20 := wXi hC 20
 have e21 := wXi hC 21
 have e24 := wXi hC 24
 have e25 := wXi hC 25
 have e26 := wXi hC 26
 have e29 := wXi hC 29
 have e30 := wXi hC 30
 have e31 := wXi hC 31
 have e34 := wXi hC 34
 have e35 := wXi hC 35
 have e36 := wXi hC 36
 have e37 := wXi hC 37
 have E := E15; simp only [LM, zAb] at E
 rw [zAa hL]
 simp only [SP, Nat.zero_add, Nat.reduceAdd]
 rw [e0, e3, e4, e5, e8, e9, e10, e11, e12, e13, e14, e15, e16, e19, e20, e21, e24, e25, e26, e29, e30, e31, e34, e35, e36, e37]
 generalize vs 1 = u15_1
 generalize vs 2 = u15_2
 generalize vs 6 = u15_6
 generalize vs 7 = u15_7
 generalize vs 17 = u15_17
 generalize vs 18 = u15_18
 generalize vs 22 = u15_22
 generalize vs 23 = u15_23
 generalize vs 27 = u15_27
 generalize vs 28 = u15_28
 generalize vs 32 = u15_32
 generalize vs 33 = u15_33
 clear e0 e3 e4 e5 e8 e9 e10 e11 e12 e13 e14 e15 e16 e19 e20 e21 e24 e25 e26 e29 e30 e31 e34 e35 e36 e37 hC hn E15 hL vs L nb
 clear B1 B2 B4 B7 B8 B14
 go_wp2
 refine bodyPost_ret (v := .bool true) ?_ rfl ⟨_, rfl, E.below, rfl⟩
 simp [results, Tryz.results4, go_sem]

theorem curve_on {m A X Y : Int} (h3 : 3 < m) (ho : m % 2 = 1) (hA : 0 ≤ A ∧ A < m) (hX : 0 ≤ X ∧ X < m) (hY : 0 ≤ Y ∧ Y < m) : onB A ((Y * Y - ((X * X) + A) * X) % m) m X Y false = true := by
 have h1 := Int.emod_nonneg (Y * Y - ((X * X) + A) * X) (show m ≠ 0 by omega)
 have h2 := Int.emod_lt_of_pos (Y * Y - ((X * X) + A) * X) (show 0 < m by omega)
 refine on_of ?_ (fun e => by cases e) fun _ => ⟨⟨hX.1, hX.2, hY.1, hY.2⟩, ?_⟩
 ·simp only [zBs, resB, Bool.and_eq_true, decide_eq_true_eq]; omega
 ·have h4 := cg_mod m (Y * Y - ((X * X) + A) * X)
  obtain ⟨k, hk⟩ := h4
  exact ⟨-k, by rw [Int.mul_neg]; omega⟩
theorem zMa (P : Pt) : zE0 P P = true := by simp [zE0]
theorem ab5 {z : Int} (h : -4294967296 ≤ z ∧ z ≤ 4294967296) : ab z < pw 5 := Int.lt_of_lt_of_le (zD4 (by omega) (by omega)) (zAg (by omega))
theorem zOa : (Tryz.prog.info? 36).map (fun i => (i.zero, i.size, i.bytes)) = some (some (.agg #[.bool false, .slice none 0 0, .bool false, .slice none 0 0, .bool false]), 5, 72) := by kernel_rfl
def ptF (P : Pt) : List Fd := [.n P.x, .n P.y, .v (.bool P.i)]
def ptsY (A B M : Int) (x : Nat) : Nat → List Pt
 | 0 => []
 | y + 1 => ptsY A B M x y ++ if (y : Int) * y % M = (((x : Int) * (x * x)) + (A * x) + B) % M then [⟨x, y, false⟩] else []
def ptsX (A B M : Int) : Nat → List Pt
 | 0 => [⟨0, 0, true⟩]
 | x + 1 => ptsX A B M x ++ ptsY A B M x M.toNat
def AllOn (A B M : Int) (Ps : List Pt) : Prop := ∀ P ∈ Ps, onB A B M P.x P.y P.i = true
theorem StAt.of_box {w : World} {b m : Nat} {fs : List Fd} (h : Bq w b m (Fq.st fs)) : StAt w b 0 fs := by
 obtain ⟨us, _, h2, h3⟩ := zAu h
 exact ⟨us, h3, fun j hj => by rw [Nat.zero_add]; exact h2 j hj⟩
def RowC (B : Nat) (w : World) (v : Value) (fss : List (List Fd)) : Prop := ∃ g cap, v = .slice (some ⟨g, 0, none⟩) fss.length cap ∧ B ≤ g ∧ ∀ i fs, fss[i]? = some fs → ∃ pre es, pre.length = i * 5 ∧ es.length = 5 ∧ Fits w fs es ∧ At w g (pre ++ es) ∧ ∀ u ∈ pre, zB1 u = true
theorem Ls.rowC {T : Nat} {w : World} {B B' : Nat} {v : Value} {fss : List (List Fd)} (h : Ls T 5 w B v fss) (ht : TameRow w v) (h0 : 0 < fss.length) (hB : B' ≤ B) : RowC B' w v fss := by
 obtain ⟨us, h, hE⟩ := h
 have h5 := h
 rcases h.2 with ⟨rfl, h1⟩ | ⟨g, cap, cur, rfl, h1, h2, h3, h4, h6, h7⟩
 ·omega
 ·obtain ⟨g', n', cap', cur', e', hv, h8, h9⟩ := ht
  simp only [Value.slice.injEq, Option.some.injEq, Addr.mk.injEq, and_true] at hv
  obtain ⟨rfl, rfl, rfl⟩ := hv
  rw [h2] at h8
  simp only [Option.some.injEq, Obj.cells.injEq, and_true] at h8
  obtain ⟨rfl, rfl⟩ := h8
  refine ⟨g, cap, rfl, Nat.le_trans hB h1, fun i fs hi => ?_⟩
  obtain ⟨es, g1, g2, g3, g4, g5⟩ := hE i fs hi
  have hl : i < fss.length := (List.getElem?_eq_some_iff.1 hi).1
  have hul := h5.1
  have hm1 : (i + 1) * 5 ≤ fss.length * 5 := Nat.mul_le_mul_right 5 (by omega)
  rw [Nat.add_mul, Nat.one_mul] at hm1
  have hpl : (us.take (i * 5)).length = i * 5 := by rw [List.length_take]; omega
  refine ⟨us.take (i * 5), es, hpl, g1, g4, fun j hj => ?_, fun u hu => h9 u ?_⟩
  ·rw [List.length_append, hpl, g1] at hj
   refine ⟨?_, by simp [World.frozen?, h2]⟩
   rw [World.ownsRow.cellAt h5 j (by omega)]
   by_cases hji : j < i * 5
   ·rw [List.getD, List.getElem?_append_left (by omega), List.getElem?_take_of_lt hji, List.getElem?_eq_getElem (by omega)]
    rfl
   ·obtain ⟨k, rfl⟩ : ∃ k, j = i * 5 + k := ⟨j - i * 5, by omega⟩
    rw [g2 k (by omega), List.getD, List.getElem?_append_right (by omega), hpl, Nat.add_sub_cancel_left, List.getElem?_eq_getElem (show k < es.length by omega)]
    rfl
  ·have := List.mem_of_mem_take hu
   rw [← h7] at this
   exact List.mem_of_mem_take this
theorem RBox.of {w V W : World} {v : Value} {br : Nat} {z : Int} (h : Bq W br 2 (Fq.num z)) (hb : V.heap.size ≤ br) (ht : TameRow V v) : RBox W v.ownBlock br z := by
 obtain ⟨p, q, h1, h2, h3⟩ := zBd h
 have hl := h.lt
 obtain ⟨n, ao, k, c, e⟩ := h3.parts
 have h4 := h3
 rw [e] at h4
 injection e with e
 have e2 := congrArg Array.toList e
 simp at e2
 obtain ⟨rfl, rfl⟩ := e2
 refine ⟨hl, ?_, n, ao, k, c, h1, h2, h4⟩
 obtain ⟨g, n', cap, cur, et, rfl, h5, _⟩ := ht
 intro e
 simp [Value.ownBlock] at e
 have := (Array.getElem?_eq_some_iff.1 h5).1
 omega
theorem on_pt {A B M x y : Int} (hc : zBs A B M = true) (hx : 0 ≤ x ∧ x < M) (hy : 0 ≤ y ∧ y < M) (h : y * y % M = (((x * (x * x)) + (A * x) + B) % M)) : onB A B M x y false = true := by
 refine on_of hc (fun e => by cases e) fun _ => ⟨⟨hx.1, hx.2, hy.1, hy.2⟩, ?_⟩
 have h1 := cg_iff.2 h
 have e : y * y - ((x * x + A) * x + B) = y * y - ((x * (x * x)) + (A * x) + B) := by rw [Int.add_mul, Int.mul_assoc]
 rw [e]
 exact h1
theorem AllOn.snoc {A B M : Int} {Ps : List Pt} {P : Pt} (h : AllOn A B M Ps) (h' : onB A B M P.x P.y P.i = true) : AllOn A B M (Ps ++ [P]) := by
 intro Q hQ
 rcases List.mem_append.1 hQ with hQ | hQ
 ·exact h Q hQ
 ·simp at hQ; subst hQ; exact h'
theorem ptF_snoc (Ps : List Pt) (P : Pt) : (Ps ++ [P]).map ptF = Ps.map ptF ++ [ptF P] := by simp
set_option maxRecDepth 100000 in
set_option maxHeartbeats 4000000 in
theorem exPoints {w : World} {v : Value} {A B M : Int} (h : (Fq.st [.n A, .n B, .n M]).P v w) (hm : 3 < M ∧ M ≤ 5000 ∧ M % 2 = 1) (hA : 0 ≤ A ∧ A < M) (hB : 0 ≤ B ∧ B < M) :
  Calls Tryz.prog 21 #[v] w fun e w' => ∃ v', e = .returned v' ∧ Below w.heap.size w w' ∧ 0 < (ptsX A B M M.toNat).length ∧ (ptsX A B M M.toNat).length ≤ 30000000 ∧ AllOn A B M (ptsX A B M M.toNat) ∧ RowC w.heap.size w' v' ((ptsX A B M M.toNat).map ptF) := by
 have HM := hidd hm
 have HA := hidd hA
 have HB := hidd hB
 have HCV : Hid (zBs A B M = true) := by show _ = _; simp only [zBs, resB, Bool.and_eq_true, decide_eq_true_eq]; omega
 have BM : Hid (ab M < pw 5) := ab5 (by omega)
 have BA : Hid (ab A < pw 5) := ab5 (by omega)
 have BB : Hid (ab B < pw 5) := ab5 (by omega)
 clear hm hA hB
 obtain ⟨_, rfl, hf0⟩ := h
 have hF0 := hf0
 obtain ⟨y0_p0, y0_q0, _, rfl, _y0_n0, y0_p1, y0_q1, _, rfl, _y0_n1, y0_p2, y0_q2, _, rfl, _y0_n2, rfl⟩ := hf0
 obtain ⟨w1, b1, hw1, hb1, hs1, E⟩ := gS w 34 hF0
 go_enter Tryz.func21, Tryz.ntmps21
 go_upto_region 1 with (fail)
 rw [← hw1]
 rw [← hb1]
 clear hw1 hb1 hs1
 refine rg [ip b1 4, Fq.num M, Fq.tup2 (Fq.is (.int .i64 M)) (yT), Fq.tup2 (Fq.is (.int .i64 M)) (yT), Fq.is (.int .i64 M), yT, Fq.is (.int .i64 M), yT] [none] [] E (fun hp => ⟨?_, ?_, ?_, ?_, ?_, ?_, ?_, ?_, tv⟩) ?_
 ·exact qa b1 0 4 hp (sqo 1)
 ·exact lN 4 2 hp (mq 0 rfl) zAd (sqi 0)
 ·exact wXa (Fq.num M) hp enq_R_Low (sqi 1) fun v w h => exRLow h (by have := HM.out; omega) (by have := HM.out; omega)
 ·exact zAe hp fo tv (sqi 2)
 ·exact zA5 hp fo tv (sqi 3) (fun v1 v2 w h1 h2 => ⟨_, rfl, h1⟩)
 ·exact zA5 hp fo tv (sqi 3) (fun v1 v2 w h1 h2 => ⟨_, rfl, h2⟩)
 ·exact zAo hp fo tv (sqi 4)
 ·exact zAo hp fo tv (sqi 5)
 intro L vs w2 nb hL hC hn E2
 have e0 := wXi hC 0
 have e4 := wXi hC 4
 have e5 := wXi hC 5
 have e6 := wXi hC 6
 have e7 := wXi hC 7
 have E := E2; simp only [LM, zAb] at E
 rw [zAa hL]
 simp only [SP, Nat.zero_add, Nat.reduceAdd]
 rw [e0, e4, e5, e6, e7]
 generalize vs 1 = u2_1
 generalize vs 2 = u2_2
 generalize vs 3 = u2_3
 clear e0 e4 e5 e6 e7 hC hn E2 hL vs L nb
 have HC0 := hidd (StAt.of_box (E.box 0 rfl))
 have HCL := hidd (E.box 0 rfl).lt
 have HE0 := hidd E.below
 clear E
 obtain ⟨i0, hi, hz0, hz1, hz2⟩ := info_parts zOa
 obtain ⟨W0, rfl⟩ : ∃ W0, W0 = w2 := ⟨_, rfl⟩
 go_wp2
 go_loopw [5, 6] (fun vl vx W => ∃ (x : Nat) (Ps : List Pt), vx = .int .i64 (x : Int) ∧ (x : Int) ≤ M ∧ 0 < Ps.length ∧ Ps.length ≤ x * 5000 + 1 ∧ AllOn A B M Ps ∧ Ls 36 5 W W0.heap.size vl (Ps.map ptF) ∧ TameRow W vl ∧ Below W0.heap.size W0 W ∧ Ps = ptsX A B M x) (fun _ vx _ => (M - intOf vx).toNat)
 case atStart => exact ⟨0, [⟨0, 0, true⟩], rfl, by have := HM.out; omega, by simp, by simp, fun P hP => by simp at hP; subst hP; exact on_of HCV.out (fun _ => ⟨rfl, rfl⟩) (fun e => by cases e), Ls.one W0 (es := [.bool false, .slice none 0 0, .bool false, .slice none 0 0, .bool true]) (Nat.le_refl _) rfl ⟨_, _, _, rfl, Num.zero _, _, _, _, rfl, Num.zero _, _, rfl, rfl, rfl⟩ rfl, TameRow.made (es := [.bool false, .slice none 0 0, .bool false, .slice none 0 0, .bool true]) (by intro u hu; simp at hu; rcases hu with rfl | rfl | rfl | rfl | rfl <;> rfl), zAq _ _, rfl⟩
 case round =>
  obtain ⟨V2, rfl⟩ : ∃ V2, V2 = wr := ⟨_, rfl⟩
  obtain ⟨x, Ps, rfl, hxM, hP0, hPl, hon, HL, HT, HBW, hPE⟩ := hrel
  have HPE := hidd hPE
  clear hPE
  have hml : (Ps.map ptF).length = Ps.length := List.length_map ..
  obtain ⟨ao2, cap2, rfl⟩ := id HL.shape
  rw [hml] at HL HT ⊢
  by_cases hx : (x : Int) < M
  ·have HXI := hidd hx
   have HP := hidd (And.intro hP0 hPl)
   have HON := hidd hon
   have HLH := hidd HL
   have HTH := hidd HT
   have HBH := hidd HBW
   have BX : Hid (ab (x : Int) < pw 3) := zD4 (by omega) (by have := HM.out; omega)
   have HXR : Hid (-9223372036854775808 ≤ (x : Int) ∧ (x : Int) ≤ 9223372036854775807) := by have := HM.out; show _ ∧ _; omega
   obtain ⟨R, hR⟩ : ∃ R, R = ((((x : Int) * (x * x)) + (A * x) + B) % M) := ⟨_, rfl⟩
   have HR := hidd hR
   have BR : Hid (ab R < pw 5) := by show _ < _; rw [hR]; exact zCq (by have := HM.out; omega) BM.out
   have hV := HBW.size
   have HCC : ∀ w, Below V2.heap.size V2 w → StAt w b1 0 [.n A, .n B, .n M] := fun w hb => (HC0.out.mono HCL.out HBW).mono (Nat.lt_of_lt_of_le HCL.out hV) hb
   clear hxM hP0 hPl hon HL HT HBW hR hx hV hml
   have E := Fr.start V2
   go_upto_region 4 with (fail)
   refine rg [Fq.is (.int .i64 (x : Int)), Fq.is (.int .i64 M), yT] [] [] E (fun hp => ⟨?_, ?_, ?_, tv⟩) ?_
   ·exact zAe hp fo tv (sqo 6)
   ·exact zAe hp fo tv (sqo 3)
   ·exact zAi (F := fun v _ => v = .int .i64 (x : Int)) (G := fun v _ => v = .int .i64 M) hp fo tv (sqi 0) (sqi 1) (fun ρ w hc h h' => ⟨.bool true, by simp [execOp, go_sem, h, h', HXI.out], rfl⟩)
   intro L vs w3 nb hL hC hn E3
   have e0 := wXi hC 0
   have e1 := wXi hC 1
   have e2 := wXi hC 2
   have E := E3; simp only [LM, zAb] at E
   rw [zAa hL]
   simp only [SP, Nat.zero_add, Nat.reduceAdd]
   rw [e0, e1, e2]
   clear e0 e1 e2 hC hn E3 hL vs L nb
   go_upto_region 6 with (fail)
   refine rg [Fq.st [.n A, .n B, .n M], Fq.is (.int .i64 (x : Int)), Fq.num (x : Int), Fq.num R, Fq.any, Fq.any] [] [⟨4, 5, 2, Fq.num 0, Fq.num R, none⟩] E (fun hp => ⟨?_, ?_, ?_, ?_, ?_, ?_, tv⟩) ?_
   ·exact zJk (off := 0) (l := 6) (fs := [.n A, .n B, .n M]) hp fo tv HCC zAm rfl (sqo 1) (fun v w h => h)
   ·exact zAe hp fo tv (sqo 6)
   ·exact wXa (Fq.is (.int .i64 (x : Int))) hp zBg (sqi 1) fun v w h => (by subst h; exact rOfK w (x : Int) HXR.out.1 HXR.out.2)
   ·exact wXb (Fq.st [.n A, .n B, .n M]) (Fq.num (x : Int)) hp zKk (sqi 0) (sqi 2) fun v v' w h h' => (by rw [HR.out]; exact exRight h h' BM.out BA.out BB.out (Int.lt_of_lt_of_le BX.out (zAg (by omega))) (by have := HM.out; omega))
   ·exact aN hp (mq 0 rfl)
   ·exact sN 3 hp (mq 0 rfl)
   intro L vs w4 nb hL hC hn E4
   have e1 := wXi hC 1
   have e4 : vs 4 = .pointer (some ⟨nb 4, 0, none⟩) := hn _ (mq 0 rfl)
   have E := E4; simp only [LM, zAb] at E
   rw [zAa hL]
   simp only [SP, Nat.zero_add, Nat.reduceAdd]
   rw [e1, e4]
   generalize nb 4 = b4_4 at E ⊢
   generalize vs 0 = u4_0
   generalize vs 2 = u4_2
   generalize vs 3 = u4_3
   clear e1 e4 hC hn E4 hL vs L nb
   have HRB := hidd (RBox.of (w := V2) (E.box 0 rfl) (E.boxes _ (List.mem_cons_self ..)).1 HTH.out)
   have HL3 := hidd (HLH.out.mono E.below)
   have HT3 := hidd (HTH.out.mono E.below)
   have HB3 := hidd (HBH.out.trans (E.below.mono HBH.out.size))
   clear E HCC HLH HTH HBH
   obtain ⟨V3, rfl⟩ : ∃ V3, V3 = w4 := ⟨_, rfl⟩
   go_wp2
   go_loopw [5, 8] (fun vl vy W => ∃ (y : Nat) (Qs : List Pt), vy = .int .i64 (y : Int) ∧ (y : Int) ≤ M ∧ 0 < Qs.length ∧ Qs.length ≤ x * 5000 + y + 1 ∧ AllOn A B M Qs ∧ Ls 36 5 W W0.heap.size vl (Qs.map ptF) ∧ TameRow W vl ∧ RBox W vl.ownBlock b4_4 R ∧ Below W0.heap.size W0 W ∧ Qs = ptsX A B M x ++ ptsY A B M x y) (fun _ vy _ => (M - intOf vy).toNat)
   case atStart => exact ⟨0, Ps, rfl, by have := HM.out; omega, HP.out.1, by have := HP.out.2; omega, HON.out, HL3.out, HT3.out, HRB.out, HB3.out, by rw [HPE.out]; exact (List.append_nil _).symm⟩
   case round =>
    clear HRB HL3 HT3 HB3 HP HON
    obtain ⟨V4, rfl⟩ : ∃ V4, V4 = wr := ⟨_, rfl⟩
    obtain ⟨y, Qs, rfl, hyM, hQ0, hQl, hon, HL, HT, HRB, HBW, hQE⟩ := hrel
    have HQE2 := hidd hQE
    clear hQE
    have hml : (Qs.map ptF).length = Qs.length := List.length_map ..
    obtain ⟨ao4, cap4, rfl⟩ := id HL.shape
    rw [hml] at HL HT HRB ⊢
    by_cases hy : (y : Int) < M
    ·have HYI := hidd hy
     have HQ := hidd (And.intro hQ0 hQl)
     have HON := hidd hon
     have HLH := hidd HL
     have HTH := hidd HT
     have HBH := hidd HBW
     have HRH := hidd HRB
     have HYR : Hid (-9223372036854775808 ≤ (y : Int) ∧ (y : Int) ≤ 9223372036854775807) := by have := HM.out; show _ ∧ _; omega
     obtain ⟨q, hq⟩ : ∃ q, q = (y : Int) * y % M := ⟨_, rfl⟩
     have hq0 : 0 ≤ q ∧ q < M := by rw [hq]; exact ⟨Int.emod_nonneg _ (by have := HM.out; omega), Int.emod_lt_of_pos _ (by have := HM.out; omega)⟩
     have hyy := zGy (K := 5000) (a := (y : Int)) (b := (y : Int)) (by have := HM.out; omega) (by have := HM.out; omega) (by omega)
     have HMUL : Hid (IntKind.i64.wrap ((y : Int) * y) = (y : Int) * y) := IntWalk.i64_in _ (by omega)
     have HTM : Hid (Int.tmod ((y : Int) * y) M = q) := by show _ = _; rw [Int.tmod_eq_emod_of_nonneg hyy.1, hq]
     have HQW : Hid (IntKind.i64.wrap q = q) := IntWalk.i64_in _ (by have := HM.out; omega)
     have HM0 : Hid (¬ M = 0) := by have := HM.out; show ¬ _; omega
     have HQR : Hid (-9223372036854775808 ≤ q ∧ q ≤ 9223372036854775807) := by have := HM.out; show _ ∧ _; omega
     have BQ : Hid (ab q < pw 3) := zD4 HQR.out.1 HQR.out.2
     have HQE := hidd hq
     have HRO : ∀ w, Below V4.heap.size V4 w → StAt w b4_4 0 [.n R] := fun w hb => (HRB.mono hb).st
     clear hyM hQ0 hQl hon HL HT HRB HBW hq hq0 hyy hy hml
     have E := Fr.start V4
     by_cases hqr : q = R
     ·have TK := hidd (decide_eq_true hqr)
      have HCD : Hid ((y : Int) * y % M = (((x : Int) * (x * x)) + (A * x) + B) % M) := by show _ = _; rw [← HQE.out, ← HR.out]; exact hqr
      go_upto_region 8 with (fail)
      refine rg [Fq.is (.int .i64 (y : Int)), Fq.is (.int .i64 M), yT] [] [] E (fun hp => ⟨?_, ?_, ?_, tv⟩) ?_
      ·exact zAe hp fo tv (sqo 8)
      ·exact zAe hp fo tv (sqo 3)
      ·exact zAi (F := fun v _ => v = .int .i64 (y : Int)) (G := fun v _ => v = .int .i64 M) hp fo tv (sqi 0) (sqi 1) (fun ρ w hc h h' => ⟨.bool true, by simp [execOp, go_sem, h, h', HYI.out], rfl⟩)
      intro L vs w5 nb hL hC hn E5
      have e0 := wXi hC 0
      have e1 := wXi hC 1
      have e2 := wXi hC 2
      have E := E5; simp only [LM, zAb] at E
      rw [zAa hL]
      simp only [SP, Nat.zero_add, Nat.reduceAdd]
      rw [e0, e1, e2]
      clear e0 e1 e2 hC hn E5 hL vs L nb
      go_upto_region 10 with (fail)
      refine rg [Fq.is (.int .i64 (y : Int)), Fq.is (.int .i64 (y : Int)), Fq.is (.int .i64 ((y : Int) * y)), Fq.is (.int .i64 M), Fq.is (.int .i64 q), Fq.num q, Fq.num R, yT] [] [] E (fun hp => ⟨?_, ?_, ?_, ?_, ?_, ?_, ?_, ?_, tv⟩) ?_
      ·exact zAe hp fo tv (sqo 8)
      ·exact zAe hp fo tv (sqo 8)
      ·exact zAi (F := fun v _ => v = .int .i64 (y : Int)) (G := fun v _ => v = .int .i64 (y : Int)) hp fo tv (sqi 0) (sqi 1) (fun ρ w hc h h' => ⟨.int .i64 ((y : Int) * y), by simp [execOp, go_sem, h, h', HMUL.out], rfl⟩)
      ·exact zAe hp fo tv (sqo 3)
      ·exact zAi (F := fun v _ => v = .int .i64 ((y : Int) * y)) (G := fun v _ => v = .int .i64 M) hp fo tv (sqi 2) (sqi 3) (fun ρ w hc h h' => ⟨.int .i64 q, by simp [execOp, go_sem, h, h', HM0.out, HTM.out], rfl⟩)
      ·exact wXa (Fq.is (.int .i64 q)) hp zBg (sqi 4) fun v w h => (by subst h; exact rOfK w q HQR.out.1 HQR.out.2)
      ·exact zJk (off := 0) (l := 2) (fs := [.n R]) hp fo tv HRO zAd rfl (sqo 7) (fun v w h => zA8 h)
      ·exact wXb (Fq.num q) (Fq.num R) hp zBy (sqi 5) (sqi 6) fun v v' w h h' => zBz h h' TK.out
      intro L vs w6 nb hL hC hn E6
      have e0 := wXi hC 0
      have e1 := wXi hC 1
      have e2 := wXi hC 2
      have e3 := wXi hC 3
      have e4 := wXi hC 4
      have e7 := wXi hC 7
      have E := E6; simp only [LM, zAb] at E
      rw [zAa hL]
      simp only [SP, Nat.zero_add, Nat.reduceAdd]
      rw [e0, e1, e2, e3, e4, e7]
      generalize vs 5 = u6_5
      generalize vs 6 = u6_6
      clear e0 e1 e2 e3 e4 e7 hC hn E6 hL vs L nb
      clear HMUL HTM HQW HM0 TK HRO
      have HL5 := HLH.out.mono E.below
      have HT5 := HTH.out.mono E.below
      have HR5 := HRH.out.mono E.below
      have HB5 := hidd (HBH.out.trans (E.below.mono HBH.out.size))
      clear HLH HTH HRH HBH
      have HPT : Hid (onB A B M (x : Int) (y : Int) false = true) := on_pt HCV.out ⟨by omega, HXI.out⟩ ⟨by omega, HYI.out⟩ (by rw [← HQE.out, ← HR.out]; exact hqr)
      obtain ⟨us, hO, hE⟩ := HL5
      have HO := hidd hO
      have HE2 := hidd hE
      have HT6 := hidd HT5
      have HR6 := hidd HR5
      obtain ⟨V5, rfl⟩ : ∃ V5, V5 = w6 := ⟨_, rfl⟩
      have hsz3 := HB5.out.size
      have hlen : Qs.length ≤ 30000000 := by have := HQ.out.2; have := HM.out; have := HXI.out; have := HYI.out; omega
      have HX2 : Hid (0 ≤ (x : Int) ∧ (x : Int) ≤ 9223372036854775807) := by have := HXR.out; show _ ∧ _; omega
      have HY2 : Hid (0 ≤ (y : Int) ∧ (y : Int) ≤ 9223372036854775807) := by have := HYR.out; show _ ∧ _; omega
      clear hO hE HT5 HR5 E hqr
      clear BX BR BQ BM BA BB
      go_wp2_with (first | (go_at_call 17; (with_reducible refine (rOfNew _ (x : Int) HX2.out.1 HX2.out.2).mono ?_); rintro e w5 ⟨ng, ao5, n5, c5, rfl, hnew, hN, hB5⟩) | (go_at_call 17; (with_reducible refine (rOfNew _ (y : Int) HY2.out.1 HY2.out.2).mono ?_); rintro e w6 ⟨ng6, ao6, n6, c6, rfl, hnew6, hN6, hB6⟩) | (at_builtin; (refine zO5 (n := Qs.length) (xs := us) rfl _ _ 55 rfl W0.heap.size 36 i0 (.agg #[.bool false, .slice none 0 0, .bool false, .slice none 0 0, .bool false]) 5 72 Tryz.underlying55 hi hz0 hz1 hz2 rfl (by decide) _ rfl (World.ownsRow.alloc (zLq (zLq (by have h9 := HO.out; rwa [List.length_map] at h9) hB5) hB6) _) ((HT6.out.mono (hB5.trans (hB6.mono hB5.size))).mono (zAq _ _)) (List.all_eq_true.1 rfl) ⟨_, 0, none⟩ 1 1 [.bool ng, .slice ao5 n5 c5, .bool ng6, .slice ao6 n6 c6, .bool false] rfl rfl (World.news_of_block (heap_alloc_new _ _)) (List.all_eq_true.1 rfl) (by decide) (by unfold maxLen; omega) (by omega) (Nat.le_trans hsz3 (Nat.le_trans hB5.size (Nat.le_trans hB6.size (by simp)))) _ rfl ?_; intro g cap w8 hown' hgrow hat hlt htm)) | fail)
      have hB56 := hB5.trans (hB6.mono hB5.size)
      have hN5 := hN.mono hB6
      have hS := Ls.step (fs := ptF ⟨x, y, false⟩) (es := [.bool ng, .slice ao5 n5 c5, .bool ng6, .slice ao6 n6 c6, .bool false]) HO.out HE2.out hsz3 HB5.out hB56 (by
       intro a k c hm hk
       simp at hm
       rcases hm with ⟨rfl, _, _⟩ | ⟨rfl, _, _⟩
       ·exact hnew _ rfl
       ·exact Nat.le_trans hB5.size (hnew6 _ rfl)) ⟨_, _, _, rfl, hN5, _, _, _, rfl, hN6, _, rfl, rfl, rfl⟩ rfl rfl (by simpa using hown') hgrow hat rfl
      have hS4 := hidd hS.1
      have hS5 := hidd hS.2
      have hS6 := hidd htm
      have hS7 := hidd (HR6.out.step (n := Qs.length + 1) (cap := cap) hB56 ((HT6.out.mono hB56).mono (zAq _ _)) hgrow hat rfl)
      clear hown' hgrow hat hlt htm hS hnew hnew6 hN hN5 hN6 hB5 hB6 hB56 HO HE2 HT6 HR6
      have g9 : IntKind.i64.wrap ((y : Int) + 1) = (y : Int) + 1 := IntWalk.i64_in _ (by have := HYI.out; have := HM.out; omega)
      have hw : wrap64 ((y : Int) + 1) = (y : Int) + 1 := by have := HYI.out; have := HM.out; simp only [wrap64]; omega
      go_wp2
      go_roundw
      case rel => exact ⟨y + 1, Qs ++ [⟨x, y, false⟩], by first | go_num | (rw [hw]; go_num), by have := HYI.out; omega, by simp, by have := HQ.out.2; simp; omega, HON.out.snoc HPT.out, by rw [ptF_snoc]; simpa using hS4.out, hS6.out, hS7.out, hS5.out, by rw [HQE2.out, ptsY, if_pos HCD.out, List.append_assoc]⟩
      case measure => have := HYI.out; first | (rw [hw]; simp [intOf]; omega) | (simp [intOf]; omega)
     ·have TK := hidd (decide_eq_false hqr)
      have HCD : Hid (¬ (y : Int) * y % M = (((x : Int) * (x * x)) + (A * x) + B) % M) := by show ¬ _ = _; rw [← HQE.out, ← HR.out]; exact hqr
      go_upto_region 8 with (fail)
      refine rg [Fq.is (.int .i64 (y : Int)), Fq.is (.int .i64 M), yT] [] [] E (fun hp => ⟨?_, ?_, ?_, tv⟩) ?_
      ·exact zAe hp fo tv (sqo 8)
      ·exact zAe hp fo tv (sqo 3)
      ·exact zAi (F := fun v _ => v = .int .i64 (y : Int)) (G := fun v _ => v = .int .i64 M) hp fo tv (sqi 0) (sqi 1) (fun ρ w hc h h' => ⟨.bool true, by simp [execOp, go_sem, h, h', HYI.out], rfl⟩)
      intro L vs w7 nb hL hC hn E7
      have e0 := wXi hC 0
      have e1 := wXi hC 1
      have e2 := wXi hC 2
      have E := E7; simp only [LM, zAb] at E
      rw [zAa hL]
      simp only [SP, Nat.zero_add, Nat.reduceAdd]
      rw [e0, e1, e2]
      clear e0 e1 e2 hC hn E7 hL vs L nb
      go_upto_region 10 with (fail)
      refine rg [Fq.is (.int .i64 (y : Int)), Fq.is (.int .i64 (y : Int)), Fq.is (.int .i64 ((y : Int) * y)), Fq.is (.int .i64 M), Fq.is (.int .i64 q), Fq.num q, Fq.num R, yF] [] [] E (fun hp => ⟨?_, ?_, ?_, ?_, ?_, ?_, ?_, ?_, tv⟩) ?_
      ·exact zAe hp fo tv (sqo 8)
      ·exact zAe hp fo tv (sqo 8)
      ·exact zAi (F := fun v _ => v = .int .i64 (y : Int)) (G := fun v _ => v = .int .i64 (y : Int)) hp fo tv (sqi 0) (sqi 1) (fun ρ w hc h h' => ⟨.int .i64 ((y : Int) * y), by simp [execOp, go_sem, h, h', HMUL.out], rfl⟩)
      ·exact zAe hp fo tv (sqo 3)
      ·exact zAi (F := fun v _ => v = .int .i64 ((y : Int) * y)) (G := fun v _ => v = .int .i64 M) hp fo tv (sqi 2) (sqi 3) (fun ρ w hc h h' => ⟨.int .i64 q, by simp [execOp, go_sem, h, h', HM0.out, HTM.out], rfl⟩)
      ·exact wXa (Fq.is (.int .i64 q)) hp zBg (sqi 4) fun v w h => (by subst h; exact rOfK w q HQR.out.1 HQR.out.2)
      ·exact zJk (off := 0) (l := 2) (fs := [.n R]) hp fo tv HRO zAd rfl (sqo 7) (fun v w h => zA8 h)
      ·exact wXb (Fq.num q) (Fq.num R) hp zBy (sqi 5) (sqi 6) fun v v' w h h' => zBz h h' TK.out
      intro L vs w8 nb hL hC hn E8
      have e0 := wXi hC 0
      have e1 := wXi hC 1
      have e2 := wXi hC 2
      have e3 := wXi hC 3
      have e4 := wXi hC 4
      have e7 := wXi hC 7
      have E := E8; simp only [LM, zAb] at E
      rw [zAa hL]
      simp only [SP, Nat.zero_add, Nat.reduceAdd]
      rw [e0, e1, e2, e3, e4, e7]
      generalize vs 5 = u8_5
      generalize vs 6 = u8_6
      clear e0 e1 e2 e3 e4 e7 hC hn E8 hL vs L nb
      clear HMUL HTM HQW HM0 TK HRO
      have HL5 := HLH.out.mono E.below
      have HT5 := HTH.out.mono E.below
      have HR5 := HRH.out.mono E.below
      have HB5 := hidd (HBH.out.trans (E.below.mono HBH.out.size))
      clear HLH HTH HRH HBH
      have HL6 := hidd HL5
      have HT6 := hidd HT5
      have HR6 := hidd HR5
      clear HL5 HT5 HR5 E hqr
      have g9 : IntKind.i64.wrap ((y : Int) + 1) = (y : Int) + 1 := IntWalk.i64_in _ (by have := HYI.out; have := HM.out; omega)
      have hw : wrap64 ((y : Int) + 1) = (y : Int) + 1 := by have := HYI.out; have := HM.out; simp only [wrap64]; omega
      go_wp2
      go_roundw
      case rel => exact ⟨y + 1, Qs, by first | go_num | (rw [hw]; go_num), by have := HYI.out; omega, HQ.out.1, by have := HQ.out.2; omega, HON.out, HL6.out, HT6.out, HR6.out, HB5.out, by rw [HQE2.out, ptsY, if_neg HCD.out, List.append_nil]⟩
      case measure => have := HYI.out; first | (rw [hw]; simp [intOf]; omega) | (simp [intOf]; omega)
    ·have t0 : decide ((y : Int) < M) = false := by simp; omega
     have hli : ¬ (y : Int) < M := hy
     have HQ := hidd (And.intro hQ0 hQl)
     have HON := hidd hon
     have HLH := hidd HL
     have HTH := hidd HT
     have HBH := hidd HBW
     have HYM := hidd (show (y : Int) ≤ 5000 by have := HM.out; omega)
     have HYE := hidd (show y = M.toNat by omega)
     have hw : wrap64 ((x : Int) + 1) = (x : Int) + 1 := by have := HXI.out; have := HM.out; simp only [wrap64]; omega
     clear HRB HL HT HBW hon hQ0 hQl hyM hy
     go_wp2
     go_roundw
     case rel => exact ⟨x + 1, Qs, by first | go_num | (rw [hw]; go_num), by have := HXI.out; omega, HQ.out.1, by have := HQ.out.2; have := HYM.out; omega, HON.out, HLH.out, HTH.out, HBH.out, by rw [HQE2.out, ptsX, ← HYE.out]⟩
     case measure => have := HXI.out; first | (rw [hw]; simp [intOf]; omega) | (simp [intOf]; omega)
  ·have t0 : decide ((x : Int) < M) = false := by simp; omega
   have hli : ¬ (x : Int) < M := hx
   have HXE := hidd (show x = M.toNat by omega)
   have HST := hidd (HL.rowC HT (by rw [hml]; exact hP0) HE0.out.size)
   have HBT := hidd (HE0.out.trans (HBW.mono HE0.out.size))
   have HP := hidd (And.intro hP0 (show Ps.length ≤ 30000000 by have := HM.out; omega))
   have HON := hidd hon
   clear HL HT HBW hon hP0 hPl hxM hx
   go_wp2
   refine bodyPost_ret (v := .slice ao2 Ps.length cap2) ?_ rfl ⟨_, rfl, HBT.out, by rw [← HXE.out, ← HPE.out]; exact ⟨HP.out.1, HP.out.2, HON.out, HST.out⟩⟩
   simp [results, Tryz.results21, go_sem]

theorem zO8 {w : World} {ops : Array Oper} {rest : List Oper} {o : Oper} {a : Act} {Q : Exit → Act → World → Prop} (hgd : o.guard = none) (T : TypeId) (x : Operand) (ho : o.op = .load T x) {b off l : Nat} {fs : List Fd} (hT : rowB T l = true) (hl : sz fs = l)
  (hx : a.eval x = .pointer (some ⟨b, off, none⟩)) (hS : StAt w b off fs) (h : ∀ v, (Fq.st fs).P v w → wpList Tryz.prog ops Q rest (a.put o.dst v) w) : wpList Tryz.prog ops Q (o :: rest) a w := by
 refine wpList_plain hgd fun K hK => ?_
 obtain ⟨es, hfit, hat⟩ := hS
 obtain ⟨⟨dd, hu, hd'⟩, hi⟩ := zJm hT
 have hr : w.rangeAt b off es := by
  intro j v hv
  have hj := (List.getElem?_eq_some_iff.1 hv).1
  rw [hat j hj, List.getD, hv]
  rfl
 have := run_loadVar_mid (P := Tryz.prog) w b off T _ dd hr hu hd' (by rw [hfit.length, hl]; exact hi)
 unfold Oper.wp
 have e : (execOp a.eval o).run Tryz.prog w = .ok (.value (.agg es.toArray)) w := by
  unfold execOp
  simp only [ho, hx, Instr.loadAt, Instr.sureAddr, Sem.run_bind, Sem.run_pure, Result.andThen_ok, this]
 rw [e]
 exact hK _ _ (h _ ⟨_, rfl, hfit⟩)
theorem Fr.add {w0 W0 W : World} {bs : List (Nat × Nat × Fq)} (E : Fr w0 bs W0) (hb : Below W0.heap.size W0 W) {g m : Nat} {F : Fq} (hg : W0.heap.size ≤ g) (hB : Bq W g m F) : Fr w0 ((g, m, F) :: bs) W := by
 have h2 := E.later hb
 refine ⟨h2.below, fun x hx => ?_, ?_⟩
 ·rcases List.mem_cons.1 hx with rfl | hx
  ·exact ⟨Nat.le_trans E.below.size hg, hB⟩
  ·exact h2.boxes x hx
 ·rw [List.map_cons, List.nodup_cons]
  refine ⟨fun hm => ?_, E.apart⟩
  obtain ⟨x, hx, e⟩ := List.mem_map.1 hm
  have := (E.boxes x hx).2.lt
  omega
def rowF (pre : List Value) (fs : List Fd) : List Fd := pre.map .v ++ fs
theorem row_cut : ∀ (pre : List Value) (fs : List Fd), cutF pre.length (rowF pre fs) = some fs
 | [], _ => by unfold rowF; cases ‹List Fd› <;> rfl
 | _ :: pre, fs => row_cut pre fs
theorem row_sub {pre : List Value} {i : Nat} (h : pre.length = i * 5) (P : Pt) : subF (i * 5) 5 (rowF pre (ptF P)) = some (ptF P) := by
 unfold subF
 rw [← h, row_cut]
 rfl
theorem fits_v {w : World} : ∀ {pre : List Value}, (∀ u ∈ pre, zB1 u = true) → Fits w (pre.map .v) pre
 | [], _ => rfl
 | u :: pre, h => ⟨pre, rfl, h u (List.mem_cons_self ..), fits_v fun x hx => h x (List.mem_cons_of_mem _ hx)⟩
theorem RowC.box {B : Nat} {w : World} {fss : List (List Fd)} {g n cap i : Nat} {fs : List Fd} (h : ∀ i fs, fss[i]? = some fs → ∃ pre es, pre.length = i * 5 ∧ es.length = 5 ∧ Fits w fs es ∧ At w g (pre ++ es) ∧ ∀ u ∈ pre, zB1 u = true) (hi : fss[i]? = some fs) : ∃ pre, pre.length = i * 5 ∧ Bq w g (i * 5 + 5) (Fq.st (rowF pre fs)) := by
 obtain ⟨pre, es, h1, h2, h3, h4, h5⟩ := h i fs hi
 have h6 : Fits w (rowF pre fs) (pre ++ es) := (fits_v h5).append h3
 exact ⟨pre, h1, pre ++ es, by simp [h1, h2], by omega, h4, h6.tame, _, rfl, h6⟩
theorem ptsY_on {A B M : Int} (hc : zBs A B M = true) {x : Nat} (hx : (x : Int) < M) : ∀ {y : Nat}, (y : Int) ≤ M → AllOn A B M (ptsY A B M x y)
 | 0, _ => fun P hP => by simp [ptsY] at hP
 | y + 1, hy => by
  intro P hP
  rw [ptsY] at hP
  rcases List.mem_append.1 hP with hP | hP
  ·exact ptsY_on hc hx (by omega) P hP
  ·by_cases h : (y : Int) * y % M = (((x : Int) * (x * x)) + (A * x) + B) % M
   ·rw [if_pos h] at hP
    simp at hP
    subst hP
    exact on_pt (x := (x : Int)) (y := (y : Int)) hc ⟨by omega, hx⟩ ⟨by omega, by omega⟩ h
   ·rw [if_neg h] at hP
    simp at hP
theorem ptsX_on {A B M : Int} (hc : zBs A B M = true) : ∀ {x : Nat}, (x : Int) ≤ M → AllOn A B M (ptsX A B M x)
 | 0, _ => fun P hP => by simp [ptsX] at hP; subst hP; exact on_of hc (fun _ => ⟨rfl, rfl⟩) (fun e => by cases e)
 | x + 1, hx => by
  intro P hP
  rw [ptsX] at hP
  rcases List.mem_append.1 hP with hP | hP
  ·exact ptsX_on hc (by omega) P hP
  ·exact ptsY_on hc (by omega) (by omega) P hP
theorem zLv (A B M : Int) : ∀ x, 0 < (ptsX A B M x).length
 | 0 => by simp [ptsX]
 | x + 1 => by rw [ptsX, List.length_append]; have := zLv A B M x; omega
def zEu (A B M Q : Int) : Pt := (ptsX A B M M.toNat).getD (Q % ((ptsX A B M M.toNat).length : Int)).toNat ⟨0, 0, true⟩
theorem zLe (A B M Q : Int) : ∃ i : Nat, i < (ptsX A B M M.toNat).length ∧ Q % ((ptsX A B M M.toNat).length : Int) = i ∧ (ptsX A B M M.toNat)[i]? = some (zEu A B M Q) := by
 have h0 := zLv A B M M.toNat
 have h1 := Int.emod_nonneg Q (show ((ptsX A B M M.toNat).length : Int) ≠ 0 by omega)
 have h2 := Int.emod_lt_of_pos Q (show (0 : Int) < ((ptsX A B M M.toNat).length : Int) by omega)
 refine ⟨(Q % ((ptsX A B M M.toNat).length : Int)).toNat, by omega, by omega, ?_⟩
 unfold zEu
 rw [List.getD, List.getElem?_eq_getElem (by omega)]
 rfl
theorem madeP_on {A B M Q : Int} (hc : zBs A B M = true) (hM : 0 ≤ M) : onB A B M (zEu A B M Q).x (zEu A B M Q).y (zEu A B M Q).i = true := by
 obtain ⟨i, _, _, h⟩ := zLe A B M Q
 exact ptsX_on hc (by omega) _ (List.mem_of_getElem? h)
section
variable {os : List Oper} {Q : Exit → Act → World → Prop} {a : Act} {p : Pq} {B B0 : Nat} {w0 : World}
variable {i s : Nat} {d : Option Tmp} {ty : TypeId} {ps : String} {af : Array Edge} {gd : Option (Nat × Bool)}
theorem zOo {x : Operand} {ad : Option Addr} {k c : Nat} (hp : p.Ok B B0) (hF : p.Free i) (hg : GdQ os a p B B0 w0 af gd) (hx : SrcQ os a p B B0 w0 af x fun v _ => v = .slice ad k c) (hC : ∀ w, (p.c i).P (.int .i64 k) w) :
  zAr os Q a p B B0 w0 i { dst := d, op := .call { callee := .builtin .len, args := #[x], argTypes := #[55] }, type := ty, pos := ps, after := af, guard := gd } :=
 zAf hp hF hg hx fun ρ w _ h => ⟨.int .i64 k, by simp [go_sem, h], hC w⟩
theorem zOn {b l c k : Nat} {x y : Operand} (hp : p.Ok B B0) (hF : p.Free i) (hg : GdQ os a p B B0 w0 af gd) (hx : SrcQ os a p B B0 w0 af x fun v _ => v = .slice (some ⟨b, 0, none⟩) l c) (hy : SrcQ os a p B B0 w0 af y fun v _ => v = .int .i64 k) (hk : k < l)
  (hC : ∀ w, (p.c i).P (.pointer (some ⟨b, k * 5, none⟩)) w) :
  zAr os Q a p B B0 w0 i { dst := d, op := .indexAddr 55 x y, type := ty, pos := ps, after := af, guard := gd } :=
 zAi hp hF hg hx hy fun ρ w _ h h' => ⟨_, by
  have h0 : (k : Int) < (l : Int) := by omega
  have h1 : (0 : Int) ≤ (k : Int) := by omega
  simp [execOp, go_sem, h, h', h0, h1], hC w⟩
end
set_option maxRecDepth 100000 in
set_option maxHeartbeats 4000000 in
theorem exMade {w : World} {v : Value} {M9 A X Y Q m a x y b : Int} {P : Pt} (h : (Fq.st [.v (.int .u8 M9), .v (.int .u8 A), .v (.int .u8 X), .v (.int .u8 Y), .v (.int .u16 Q)]).P v w) (hM : 0 ≤ M9 ∧ M9 ≤ 255) (hA : 0 ≤ A ∧ A ≤ 255) (hX : 0 ≤ X ∧ X ≤ 255) (hY : 0 ≤ Y ∧ Y ≤ 255) (hQ : 0 ≤ Q ∧ Q ≤ 65535) (em : m = 5 + 2 * (M9 % 128)) (ea : a = A % m) (ex : x = X % m) (ey : y = Y % m) (eb : b = (y * y - ((x * x) + a) * x) % m) (eP : P = zEu a b m Q) :
  Calls Tryz.prog 5 #[v] w fun e w' => ∃ v', e = .returned v' ∧ Below w.heap.size w w' ∧ (Fq.tup3 (Fq.st [.n a, .n b, .n m]) (Fq.st [.n x, .n y, .v (.bool false)]) (Fq.st (ptF P))).P v' w' := by
 obtain ⟨r, hr⟩ : ∃ r, r = M9 % 128 := ⟨_, rfl⟩
 rw [← hr] at em
 have hr0 : 0 ≤ r ∧ r ≤ 127 := by omega
 have hm : 5 ≤ m ∧ m ≤ 259 ∧ m % 2 = 1 := by omega
 have ha0 : 0 ≤ a ∧ a < m := by rw [ea]; exact ⟨Int.emod_nonneg _ (by omega), Int.emod_lt_of_pos _ (by omega)⟩
 have hx0 : 0 ≤ x ∧ x < m := by rw [ex]; exact ⟨Int.emod_nonneg _ (by omega), Int.emod_lt_of_pos _ (by omega)⟩
 have hy0 : 0 ≤ y ∧ y < m := by rw [ey]; exact ⟨Int.emod_nonneg _ (by omega), Int.emod_lt_of_pos _ (by omega)⟩
 have hb0 : 0 ≤ b ∧ b < m := by rw [eb]; exact ⟨Int.emod_nonneg _ (by omega), Int.emod_lt_of_pos _ (by omega)⟩
 have C0 : Hid (Int.tmod M9 128 = r) := by show _ = _; rw [Int.tmod_eq_emod_of_nonneg (by omega), hr]
 have C1 : Hid (IntKind.i64.wrap (2 * r) = 2 * r) := IntWalk.i64_in _ (by omega)
 have C2 : Hid (IntKind.i64.wrap (5 + 2 * r) = m) := by show _ = _; rw [em]; exact IntWalk.i64_in _ (by omega)
 have IM : Hid (IntKind.i64.wrap M9 = M9) := IntWalk.i64_in _ (by omega)
 have IA : Hid (IntKind.i64.wrap A = A) := IntWalk.i64_in _ (by omega)
 have IX : Hid (IntKind.i64.wrap X = X) := IntWalk.i64_in _ (by omega)
 have IY : Hid (IntKind.i64.wrap Y = Y) := IntWalk.i64_in _ (by omega)
 have IQ : Hid (IntKind.i64.wrap Q = Q) := IntWalk.i64_in _ (by omega)
 have TA : Hid (Int.tmod A m = a) := by show _ = _; rw [Int.tmod_eq_emod_of_nonneg (by omega), ea]
 have TX : Hid (Int.tmod X m = x) := by show _ = _; rw [Int.tmod_eq_emod_of_nonneg (by omega), ex]
 have TY : Hid (Int.tmod Y m = y) := by show _ = _; rw [Int.tmod_eq_emod_of_nonneg (by omega), ey]
 have HM0 : Hid (¬ m = 0) := by show ¬ _; omega
 have HMM := hidd hm
 have HA0 := hidd ha0
 have HX0 := hidd hx0
 have HY0 := hidd hy0
 have HB0 := hidd hb0
 have HEB := hidd eb.symm
 obtain ⟨i, hi, hQi, hPi⟩ := zLe a b m Q
 rw [← eP] at hPi
 obtain ⟨nl, hnl⟩ : ∃ nl, nl = (ptsX a b m m.toNat).length := ⟨_, rfl⟩
 rw [← hnl] at hi hQi
 have HI := hidd hi
 have HNL := hidd hnl
 have HPI := hidd hPi
 have HTQ : Hid (Int.tmod Q (nl : Int) = (i : Int)) := by show _ = _; rw [Int.tmod_eq_emod_of_nonneg (by omega), hQi]
 have HLN : Hid (¬ nl = 0) := by show ¬ _; omega
 clear hr hr0 hm ha0 hx0 hy0 hb0 em ea ex ey eb eP hi hQi hPi hnl hM hA hX hY hQ
 obtain ⟨_, rfl, hf0⟩ := h
 have hF0 := hf0
 obtain ⟨_, rfl, _, _, rfl, _, _, rfl, _, _, rfl, _, _, rfl, _, rfl⟩ := hf0
 obtain ⟨w1, b1, hw1, hb1, hs1, E⟩ := gS w 24 hF0
 obtain ⟨w2, b2, hw2, hb2, hs2, E⟩ := fO E hs1 34 zEg
 obtain ⟨w3, b3, hw3, hb3, hs3, E⟩ := fO E hs2 36 zA1
 obtain ⟨w4, b4, hw4, hb4, hs4, E⟩ := fO E hs3 36 zA1
 go_enter Tryz.func5, Tryz.ntmps5
 go_upto_region 1 with (fail)
 rw [← hw1]
 rw [← hw2]
 rw [← hw3]
 rw [← hw4]
 rw [← hb4]
 rw [← hb3]
 rw [← hb2]
 rw [← hb1]
 clear hw1 hw2 hw3 hw4 hb1 hb2 hb3 hb4 hs4 hs1 hs2 hs3
 refine rg [ip b1 0, Fq.is (.int .u8 M9), Fq.is (.int .i64 M9), Fq.is (.int .i64 r), Fq.is (.int .i64 (2 * r)), Fq.is (.int .i64 m), Fq.is (.int .i64 m)] N4 [] E (fun hp => ⟨?_, ?_, ?_, ?_, ?_, ?_, ?_, tv⟩) ?_
 ·exact qa b1 0 0 hp (sqo 1)
 ·exact wXc 0 hp (mq 3 rfl) (sqi 0)
 ·exact zAf (F := fun v _ => v = .int .u8 M9) hp fo tv (sqi 1) (fun ρ w hc h => ⟨.int .i64 M9, by simp [execOp, go_sem, h, IM.out], rfl⟩)
 ·exact zAf (F := fun v _ => v = .int .i64 M9) hp fo tv (sqi 2) (fun ρ w hc h => ⟨.int .i64 r, by simp [execOp, go_sem, h, hc, C0.out], rfl⟩)
 ·exact zAf (F := fun v _ => v = .int .i64 r) hp fo tv (sqi 3) (fun ρ w hc h => ⟨.int .i64 (2 * r), by simp [execOp, go_sem, h, hc, C1.out], rfl⟩)
 ·exact zAf (F := fun v _ => v = .int .i64 (2 * r)) hp fo tv (sqi 4) (fun ρ w hc h => ⟨.int .i64 m, by simp [execOp, go_sem, h, hc, C2.out], rfl⟩)
 ·exact zAo hp fo tv (sqi 5)
 intro L vs w5 nb hL hC hn E5
 have e0 := wXi hC 0
 have e1 := wXi hC 1
 have e2 := wXi hC 2
 have e3 := wXi hC 3
 have e4 := wXi hC 4
 have e5 := wXi hC 5
 have e6 := wXi hC 6
 have E := E5; simp only [LM, zAb] at E
 rw [zAa hL]
 simp only [SP, Nat.zero_add, Nat.reduceAdd]
 rw [e0, e1, e2, e3, e4, e5, e6]
 clear e0 e1 e2 e3 e4 e5 e6 hC hn E5 hL vs L nb
 clear C0 C1 C2 IM
 go_upto_region 2 with (fail)
 refine rg [Fq.is (.int .i64 m), ip b1 1, Fq.is (.int .u8 A), Fq.is (.int .i64 A), Fq.is (.int .i64 m), Fq.is (.int .i64 a), ip b1 2, Fq.is (.int .u8 X), Fq.is (.int .i64 X), Fq.is (.int .i64 m), Fq.is (.int .i64 x), ip b1 3, Fq.is (.int .u8 Y), Fq.is (.int .i64 Y), Fq.is (.int .i64 m), Fq.is (.int .i64 y), Fq.st [.n a, .n b, .n m], Fq.any, Fq.any] N4 [⟨17, 18, 6, Fq.st [.n 0, .n 0, .n 0], Fq.st [.n a, .n b, .n m], none⟩] E (fun hp => ⟨?_, ?_, ?_, ?_, ?_, ?_, ?_, ?_, ?_, ?_, ?_, ?_, ?_, ?_, ?_, ?_, ?_, ?_, ?_, tv⟩) ?_
 ·exact zAe hp fo tv (sqo 5)
 ·exact qa b1 0 1 hp (sqo 1)
 ·exact wXc 1 hp (mq 3 rfl) (sqi 1)
 ·exact zAf (F := fun v _ => v = .int .u8 A) hp fo tv (sqi 2) (fun ρ w hc h => ⟨.int .i64 A, by simp [execOp, go_sem, h, IA.out], rfl⟩)
 ·exact zAe hp fo tv (sqo 5)
 ·exact zAi (F := fun v _ => v = .int .i64 A) (G := fun v _ => v = .int .i64 m) hp fo tv (sqi 3) (sqi 4) (fun ρ w hc h h' => ⟨.int .i64 a, by simp [execOp, go_sem, h, h', HM0.out, TA.out], rfl⟩)
 ·exact qa b1 0 2 hp (sqo 1)
 ·exact wXc 2 hp (mq 3 rfl) (sqi 6)
 ·exact zAf (F := fun v _ => v = .int .u8 X) hp fo tv (sqi 7) (fun ρ w hc h => ⟨.int .i64 X, by simp [execOp, go_sem, h, IX.out], rfl⟩)
 ·exact zAe hp fo tv (sqo 5)
 ·exact zAi (F := fun v _ => v = .int .i64 X) (G := fun v _ => v = .int .i64 m) hp fo tv (sqi 8) (sqi 9) (fun ρ w hc h h' => ⟨.int .i64 x, by simp [execOp, go_sem, h, h', HM0.out, TX.out], rfl⟩)
 ·exact qa b1 0 3 hp (sqo 1)
 ·exact wXc 3 hp (mq 3 rfl) (sqi 11)
 ·exact zAf (F := fun v _ => v = .int .u8 Y) hp fo tv (sqi 12) (fun ρ w hc h => ⟨.int .i64 Y, by simp [execOp, go_sem, h, IY.out], rfl⟩)
 ·exact zAe hp fo tv (sqo 5)
 ·exact zAi (F := fun v _ => v = .int .i64 Y) (G := fun v _ => v = .int .i64 m) hp fo tv (sqi 13) (sqi 14) (fun ρ w hc h h' => ⟨.int .i64 y, by simp [execOp, go_sem, h, h', HM0.out, TY.out], rfl⟩)
 ·exact q_call4 (F := (Fq.is (.int .i64 m)).P) (G := (Fq.is (.int .i64 a)).P) (F3 := (Fq.is (.int .i64 x)).P) (F4 := (Fq.is (.int .i64 y)).P) hp fo tv (zNe) (sqi 0) (sqi 5) (sqi 10) (sqi 15) (fun v v' u u' w h h' g g' => (by subst h h' g g'; exact exCurve (by have := HMM.out; omega) (by have := HA0.out; have := HMM.out; omega) (by have := HX0.out; have := HMM.out; omega) (by have := HY0.out; have := HMM.out; omega) HEB.out))
 ·exact aS hp (mq 0 rfl) zEg zG0
 ·exact sS 16 hp (mq 0 rfl) zE1
 intro L vs w6 nb hL hC hn E6
 have e0 := wXi hC 0
 have e1 := wXi hC 1
 have e2 := wXi hC 2
 have e3 := wXi hC 3
 have e4 := wXi hC 4
 have e5 := wXi hC 5
 have e6 := wXi hC 6
 have e7 := wXi hC 7
 have e8 := wXi hC 8
 have e9 := wXi hC 9
 have e10 := wXi hC 10
 have e11 := wXi hC 11
 have e12 := wXi hC 12
 have e13 := wXi hC 13
 have e14 := wXi hC 14
 have e15 := wXi hC 15
 have e17 : vs 17 = .pointer (some ⟨nb 17, 0, none⟩) := hn _ (mq 0 rfl)
 have E := E6; simp only [LM, zAb] at E
 rw [zAa hL]
 simp only [SP, Nat.zero_add, Nat.reduceAdd]
 rw [e0, e1, e2, e3, e4, e5, e6, e7, e8, e9, e10, e11, e12, e13, e14, e15, e17]
 generalize nb 17 = b6_17 at E ⊢
 generalize vs 16 = u6_16
 clear e0 e1 e2 e3 e4 e5 e6 e7 e8 e9 e10 e11 e12 e13 e14 e15 e17 hC hn E6 hL vs L nb
 clear IA TA
 go_upto_region 3 with (fail)
 refine wp_region_list ?_
 refine zO8 rfl 34 (.tmp 6) rfl zAm rfl rfl (StAt.of_box (E.box 0 rfl)) fun vc hvc => ?_
 go_upto_region 4 with (first | (go_at_call 21; (with_reducible refine (exPoints hvc (by have := HMM.out; omega) HA0.out HB0.out).mono ?_); rintro e w9 ⟨vL, rfl, hBL, hL0, hL1, _, gg, cp, rfl, hgg, hrow⟩) | fail)
 first | rw [← HNL.out] | rw [List.length_map, ← HNL.out]
 obtain ⟨pre, hpre, hbox⟩ := RowC.box (B := 0) (n := 0) (cap := 0) hrow (i := i) (fs := ptF P) (by rw [List.getElem?_map, HPI.out]; rfl)
 have HPRE := hidd hpre
 replace E := Fr.add E hBL hgg hbox
 clear hvc hBL hL0 hL1 hgg hrow hbox hpre
 refine rg [Fq.st [.n a, .n b, .n m], ip b1 2, Fq.is (.int .u8 X), Fq.is (.int .i64 X), Fq.is (.int .i64 m), Fq.is (.int .i64 x), ip b1 3, Fq.is (.int .u8 Y), Fq.is (.int .i64 Y), Fq.is (.int .i64 m), Fq.is (.int .i64 y), Fq.st [.n x, .n y, .v (.bool false)], Fq.is (.slice (some ⟨gg, 0, none⟩) nl cp), ip b1 4, Fq.is (.int .u16 Q), Fq.is (.int .i64 Q), Fq.is (.slice (some ⟨gg, 0, none⟩) nl cp), Fq.is (.int .i64 ((nl : Nat) : Int)), Fq.is (.int .i64 (i : Int)), Fq.is (.pointer (some ⟨gg, i * 5, none⟩)), Fq.st [.n P.x, .n P.y, .v (.bool P.i)], Fq.any, Fq.any, Fq.any] [none, none, some (23, Fq.st [.n P.x, .n P.y, .v (.bool P.i)]), some (22, Fq.st [.n x, .n y, .v (.bool false)]), some (21, Fq.st [.n a, .n b, .n m]), none] [] E (fun hp => ⟨?_, ?_, ?_, ?_, ?_, ?_, ?_, ?_, ?_, ?_, ?_, ?_, ?_, ?_, ?_, ?_, ?_, ?_, ?_, ?_, ?_, ?_, ?_, ?_, tv⟩) ?_
 ·exact lS 0 6 hp (mq 1 rfl) zAm (sqo 6)
 ·exact qa b1 0 2 hp (sqo 1)
 ·exact wXc 2 hp (mq 5 rfl) (sqi 1)
 ·exact zAf (F := fun v _ => v = .int .u8 X) hp fo tv (sqi 2) (fun ρ w hc h => ⟨.int .i64 X, by simp [execOp, go_sem, h, IX.out], rfl⟩)
 ·exact zAe hp fo tv (sqo 5)
 ·exact zAi (F := fun v _ => v = .int .i64 X) (G := fun v _ => v = .int .i64 m) hp fo tv (sqi 3) (sqi 4) (fun ρ w hc h h' => ⟨.int .i64 x, by simp [execOp, go_sem, h, h', HM0.out, TX.out], rfl⟩)
 ·exact qa b1 0 3 hp (sqo 1)
 ·exact wXc 3 hp (mq 5 rfl) (sqi 6)
 ·exact zAf (F := fun v _ => v = .int .u8 Y) hp fo tv (sqi 7) (fun ρ w hc h => ⟨.int .i64 Y, by simp [execOp, go_sem, h, IY.out], rfl⟩)
 ·exact zAe hp fo tv (sqo 5)
 ·exact zAi (F := fun v _ => v = .int .i64 Y) (G := fun v _ => v = .int .i64 m) hp fo tv (sqi 8) (sqi 9) (fun ρ w hc h h' => ⟨.int .i64 y, by simp [execOp, go_sem, h, h', HM0.out, TY.out], rfl⟩)
 ·exact wXb (Fq.is (.int .i64 x)) (Fq.is (.int .i64 y)) hp zEa (sqi 5) (sqi 10) fun v v' w h h' => (by subst h h'; exact exAt (by have := HX0.out; have := HMM.out; omega) (by have := HY0.out; have := HMM.out; omega))
 ·exact zAe hp fo tv (sqo 7)
 ·exact qa b1 0 4 hp (sqo 1)
 ·exact wXc 4 hp (mq 5 rfl) (sqi 13)
 ·exact zAf (F := fun v _ => v = .int .u16 Q) hp fo tv (sqi 14) (fun ρ w hc h => ⟨.int .i64 Q, by simp [execOp, go_sem, h, IQ.out], rfl⟩)
 ·exact zAe hp fo tv (sqo 7)
 ·exact zOo hp fo tv (sqi 16) (fun _ => rfl)
 ·exact zAi (F := fun v _ => v = .int .i64 Q) (G := fun v _ => v = .int .i64 ((nl : Nat) : Int)) hp fo tv (sqi 15) (sqi 17) (fun ρ w hc h h' => ⟨.int .i64 (i : Int), by simp [execOp, go_sem, h, h', HLN.out, HTQ.out], rfl⟩)
 ·exact zOn (b := gg) (l := nl) (c := cp) (k := i) hp fo tv (sqi 12) (sqi 18) HI.out (fun _ => rfl)
 ·exact zBe (off := i * 5) (l := 5) (fs := rowF pre (ptF P)) (gs := [.n P.x, .n P.y, .v (.bool P.i)]) hp fo tv (mq 0 rfl) (.inl rfl) rfl zAk (row_sub HPRE.out P) (sqi 19) (fun v w h => h)
 ·exact sO 0 0 hp (mq 4 rfl) zE1 (sqo 2)
 ·exact sO 0 11 hp (mq 3 rfl) zAy (sqo 3)
 ·exact sO 0 20 hp (mq 2 rfl) zAy (sqo 4)
 intro L vs w7 nb hL hC hn E7
 have e1 := wXi hC 1
 have e2 := wXi hC 2
 have e3 := wXi hC 3
 have e4 := wXi hC 4
 have e5 := wXi hC 5
 have e6 := wXi hC 6
 have e7 := wXi hC 7
 have e8 := wXi hC 8
 have e9 := wXi hC 9
 have e10 := wXi hC 10
 have e12 := wXi hC 12
 have e13 := wXi hC 13
 have e14 := wXi hC 14
 have e15 := wXi hC 15
 have e16 := wXi hC 16
 have e17 := wXi hC 17
 have e18 := wXi hC 18
 have e19 := wXi hC 19
 have E := E7; simp only [LM, zAb] at E
 rw [zAa hL]
 simp only [SP, Nat.zero_add, Nat.reduceAdd]
 rw [e1, e2, e3, e4, e5, e6, e7, e8, e9, e10, e12, e13, e14, e15, e16, e17, e18, e19]
 generalize vs 0 = u7_0
 generalize vs 11 = u7_11
 generalize vs 20 = u7_20
 clear e1 e2 e3 e4 e5 e6 e7 e8 e9 e10 e12 e13 e14 e15 e16 e17 e18 e19 hC hn E7 hL vs L nb
 clear IX IY IQ TX TY HM0 HMM HA0 HX0 HY0 HB0 HEB HI HNL HPI HTQ HLN HPRE
 obtain ⟨_, _, hcr, hfr⟩ := zAu (E.box 4 rfl)
 have hRr := hfr
 obtain ⟨r_p0, r_q0, _, rfl, _r_n0, r_p1, r_q1, _, rfl, _r_n1, r_p2, r_q2, _, rfl, _r_n2, rfl⟩ := hfr
 have cr0 := hcr 0 (by simp)
 have cr1 := hcr 1 (by simp)
 have cr2 := hcr 2 (by simp)
 have cr3 := hcr 3 (by simp)
 have cr4 := hcr 4 (by simp)
 have cr5 := hcr 5 (by simp)
 simp only [List.getD_cons_zero, List.getD_cons_succ] at cr0 cr1 cr2 cr3 cr4 cr5
 clear hcr
 obtain ⟨_, _, hcq, hfq⟩ := zAu (E.box 3 rfl)
 have hRq := hfq
 obtain ⟨q_p0, q_q0, _, rfl, _q_n0, q_p1, q_q1, _, rfl, _q_n1, _, rfl, _, rfl⟩ := hfq
 have cq0 := hcq 0 (by simp)
 have cq1 := hcq 1 (by simp)
 have cq2 := hcq 2 (by simp)
 have cq3 := hcq 3 (by simp)
 have cq4 := hcq 4 (by simp)
 simp only [List.getD_cons_zero, List.getD_cons_succ] at cq0 cq1 cq2 cq3 cq4
 clear hcq
 obtain ⟨_, _, hct, hft⟩ := zAu (E.box 2 rfl)
 have hRt := hft
 obtain ⟨t_p0, t_q0, _, rfl, _t_n0, t_p1, t_q1, _, rfl, _t_n1, _, rfl, _, rfl⟩ := hft
 have ct0 := hct 0 (by simp)
 have ct1 := hct 1 (by simp)
 have ct2 := hct 2 (by simp)
 have ct3 := hct 3 (by simp)
 have ct4 := hct 4 (by simp)
 simp only [List.getD_cons_zero, List.getD_cons_succ] at ct0 ct1 ct2 ct3 ct4
 clear hct
 go_wp2
 refine bodyPost_ret (v := .tuple #[.agg #[r_p0, r_q0, r_p1, r_q1, r_p2, r_q2], .agg #[q_p0, q_q0, q_p1, q_q1, .bool false], .agg #[t_p0, t_q0, t_p1, t_q1, .bool P.i]]) ?_ rfl ⟨_, rfl, E.below, _, _, _, rfl, ⟨_, rfl, hRr⟩, ⟨_, rfl, hRq⟩, ⟨_, rfl, hRt⟩⟩
 simp [results, Tryz.results5, go_sem, cr0, cr1, cr2, cr3, cr4, cr5, cq0, cq1, cq2, cq3, cq4, ct0, ct1, ct2, ct3, ct4]

theorem zGq (d M : Int) : Int.gcd (d % M) M = Int.gcd d M := by
 rw [Int.emod_def]
 exact Int.gcd_sub_mul_left_left M d (d / M)
theorem zJ1 {d M : Int} (hM : 0 < M) (h : Int.gcd d M = 1) : bezU (d % M) M = bezU d M := by
 have h1 : Int.gcd (d % M) M = 1 := by rw [zGq]; exact h
 have h2 := zIn hM h1
 refine (zLb hM (zD6 hM).1 (zGd hM) ?_).2
 rw [← h2, Int.mul_emod (d % M) (bezU (d % M) M), Int.emod_emod, ← Int.mul_emod]
noncomputable def refX (M x1 x2 N D : Int) : Int := (((N * bezU (D % M) M) * (N * bezU (D % M) M)) - (x1 + x2)) % M
noncomputable def refY (M x1 y1 x2 N D : Int) : Int := (((N * bezU (D % M) M) * (x1 - refX M x1 x2 N D)) - y1) % M
theorem ref_x {M x1 x2 N D : Int} (hM : 0 < M) (h : Int.gcd D M = 1) : refX M x1 x2 N D = finX M x1 x2 N D := by
 unfold refX finX
 rw [zJ1 hM h, Int.sub_emod, Int.mul_emod, ← Int.sub_emod]
theorem mod_yy (s t y M : Int) : (s * t - y) % M = ((s % M) * t - y) % M := by
 rw [Int.sub_emod, Int.mul_emod, Int.sub_emod (s % M * t), Int.mul_emod (s % M) t, Int.emod_emod]
theorem ref_y {M x1 y1 x2 N D : Int} (hM : 0 < M) (h : Int.gcd D M = 1) : refY M x1 y1 x2 N D = finY M x1 y1 x2 N D := by
 unfold refY finY
 rw [ref_x hM h, zJ1 hM h]
 exact mod_yy _ _ _ _
noncomputable def sumS (A M : Int) (P Q : Pt) : Pt × Int × Int := if (sumP A M P Q).2 = 0 then ((sumP A M P Q).1, 0, 0) else (⟨0, 0, false⟩, (sumP A M P Q).2, 6)
theorem gcd_pos' {D M : Int} (hM : 0 < M) : ¬ (Int.gcd D M : Int) = 0 := by
 have := Int.gcd_pos_of_ne_zero_right D (show M ≠ 0 by omega)
 omega
theorem sumS_inf {A M x1 y1 x2 y2 : Int} (h : x1 = x2) (hd : (y1 + y2) % M = 0) : sumS A M ⟨x1, y1, false⟩ ⟨x2, y2, false⟩ = (⟨0, 0, true⟩, 0, 0) := by
 have e : sumP A M ⟨x1, y1, false⟩ ⟨x2, y2, false⟩ = (⟨0, 0, true⟩, 0) := by
  show finP M x1 y1 x2 (slN A x1 y1 x2 y2) (slD M x1 y1 x2 y2) = _
  unfold finP slD
  rw [if_pos h, if_pos hd]
 unfold sumS
 rw [e]
 rfl
theorem zMi {A M x1 y1 x2 y2 D : Int} (hM : 0 < M) (hD : ¬ slD M x1 y1 x2 y2 = 0) (hg : Int.gcd (slD M x1 y1 x2 y2) M = Int.gcd D M) (h : ¬ Int.gcd D M = 1) : sumS A M ⟨x1, y1, false⟩ ⟨x2, y2, false⟩ = (⟨0, 0, false⟩, (Int.gcd D M : Int), 6) := by
 have e : sumP A M ⟨x1, y1, false⟩ ⟨x2, y2, false⟩ = (⟨0, 0, false⟩, (Int.gcd D M : Int)) := by
  show finP M x1 y1 x2 (slN A x1 y1 x2 y2) (slD M x1 y1 x2 y2) = _
  unfold finP
  rw [if_neg hD, if_neg (by rw [hg]; exact h), hg]
 unfold sumS
 rw [e]
 exact if_neg (gcd_pos' hM)
theorem zMj {A M x1 y1 x2 y2 N D : Int} (hM : 0 < M) (hD : ¬ slD M x1 y1 x2 y2 = 0) (hN : slN A x1 y1 x2 y2 = N) (hDD : slD M x1 y1 x2 y2 = D ∨ slD M x1 y1 x2 y2 = D % M) (h : Int.gcd D M = 1) : sumS A M ⟨x1, y1, false⟩ ⟨x2, y2, false⟩ = (⟨refX M x1 x2 N D, refY M x1 y1 x2 N D, false⟩, 0, 0) := by
 have hg : Int.gcd (slD M x1 y1 x2 y2) M = 1 := by
  rcases hDD with e | e
  ·rw [e]; exact h
  ·rw [e, zGq]; exact h
 have hm : slD M x1 y1 x2 y2 % M = D % M := by
  rcases hDD with e | e
  ·rw [e]
  ·rw [e, Int.emod_emod]
 have hx : refX M x1 x2 N D = finX M x1 x2 N (slD M x1 y1 x2 y2) := by rw [← ref_x hM hg]; unfold refX; rw [hm]
 have hy : refY M x1 y1 x2 N D = finY M x1 y1 x2 N (slD M x1 y1 x2 y2) := by rw [← ref_y hM hg]; unfold refY refX; rw [hm]
 have e : sumP A M ⟨x1, y1, false⟩ ⟨x2, y2, false⟩ = (⟨refX M x1 x2 N D, refY M x1 y1 x2 N D, false⟩, 0) := by
  show finP M x1 y1 x2 (slN A x1 y1 x2 y2) (slD M x1 y1 x2 y2) = _
  unfold finP
  rw [if_neg hD, if_pos hg, hN, hx, hy]
 unfold sumS
 rw [e]
 rfl
section
variable {os : List Oper} {Q : Exit → Act → World → Prop} {a : Act} {p : Pq} {B B0 : Nat} {w0 : World}
variable {i s : Nat} {d : Option Tmp} {ty : TypeId} {ps : String} {af : Array Edge} {gd : Option (Nat × Bool)}
theorem zEx {x0 : Operand} {z0_0 : Int} {z0_1 : Int} {u0_2 : Bool} (hp : p.Ok B B0) (hF : p.Free i) (hg : GdQ os a p B B0 w0 af gd) (h0 : SrcQ os a p B B0 w0 af x0 (Fq.st [.n z0_0, .n z0_1, .v (.bool u0_2)]).P) (hC : ∀ v w, (Fq.st [.n z0_0, .n z0_1, .v (.bool u0_2), .n 0, .v (.int .i64 0)]).P v w → (p.c i).P v w) :
  zAr os Q a p B B0 w0 i { dst := d, op := .build 44 #[(0, x0)], type := ty, pos := ps, after := af, guard := gd } := by
 refine zBk hp hF hg fun L vs w hG hL hc hd => ?_
 have g0 := h0 L vs w hG hd
 obtain ⟨_, e0, _, _, _, rfl, a0_n0, _, _, _, rfl, a0_n1, _, rfl, _, rfl⟩ := g0
 obtain ⟨n0_0, ao0_0, k0_0, c0_0, e0_0⟩ := a0_n0.parts
 have m0_0 := a0_n0
 rw [e0_0] at m0_0
 obtain ⟨n0_1, ao0_1, k0_1, c0_1, e0_1⟩ := a0_n1.parts
 have m0_1 := a0_n1
 rw [e0_1] at m0_1
 injection e0_0 with f0_0
 have f0_0 := congrArg Array.toList f0_0
 simp at f0_0
 obtain ⟨rfl, rfl⟩ := f0_0
 injection e0_1 with f0_1
 have f0_1 := congrArg Array.toList f0_1
 simp at f0_1
 obtain ⟨rfl, rfl⟩ := f0_1
 refine ⟨.agg #[.bool n0_0, .slice ao0_0 k0_0 c0_0, .bool n0_1, .slice ao0_1 k0_1 c0_1, .bool u0_2, .bool false, .slice none 0 0, .int .i64 0], ?_, hC _ _ ⟨_, rfl, _, _, _, rfl, m0_0, _, _, _, rfl, m0_1, _, rfl, rfl, _, _, _, rfl, Num.zero w, _, rfl, rfl, rfl⟩⟩
 generalize (lay os.toArray L vs os.toArray.size a).eval = ρ at e0
 simp [execOp, go_sem, e0]
theorem zL1 {x1 : Operand} {z1 : Int} {x2 : Operand} {u2 : Int} (hp : p.Ok B B0) (hF : p.Free i) (hg : GdQ os a p B B0 w0 af gd) (h1 : SrcQ os a p B B0 w0 af x1 fun v w => Num w v z1) (h2 : SrcQ os a p B B0 w0 af x2 fun v _ => v = .int .i64 u2) (hC : ∀ v w, (Fq.st [.n 0, .n 0, .v (.bool false), .n z1, .v (.int .i64 u2)]).P v w → (p.c i).P v w) :
  zAr os Q a p B B0 w0 i { dst := d, op := .build 44 #[(1, x1), (2, x2)], type := ty, pos := ps, after := af, guard := gd } := by
 refine zBk hp hF hg fun L vs w hG hL hc hd => ?_
 have g1 := h1 L vs w hG hd
 obtain ⟨n1, ao1, k1, c1, e1⟩ := g1.parts
 have m1 : Num w (.agg #[.bool n1, .slice ao1 k1 c1]) z1 := by rw [← e1]; exact g1
 have g2 := h2 L vs w hG hd
 refine ⟨.agg #[.bool false, .slice none 0 0, .bool false, .slice none 0 0, .bool false, .bool n1, .slice ao1 k1 c1, .int .i64 u2], ?_, hC _ _ ⟨_, rfl, _, _, _, rfl, Num.zero w, _, _, _, rfl, Num.zero w, _, rfl, rfl, _, _, _, rfl, m1, _, rfl, rfl, rfl⟩⟩
 generalize (lay os.toArray L vs os.toArray.size a).eval = ρ at e1 g2
 simp [execOp, go_sem, e1, g2]
theorem zJj {x2 : Operand} {u2 : Int} (hp : p.Ok B B0) (hF : p.Free i) (hg : GdQ os a p B B0 w0 af gd) (h2 : SrcQ os a p B B0 w0 af x2 fun v _ => v = .int .i64 u2) (hC : ∀ v w, (Fq.st [.n 0, .n 0, .v (.bool false), .n 0, .v (.int .i64 u2)]).P v w → (p.c i).P v w) :
  zAr os Q a p B B0 w0 i { dst := d, op := .build 44 #[(2, x2)], type := ty, pos := ps, after := af, guard := gd } := by
 refine zBk hp hF hg fun L vs w hG hL hc hd => ?_
 have g2 := h2 L vs w hG hd
 refine ⟨.agg #[.bool false, .slice none 0 0, .bool false, .slice none 0 0, .bool false, .bool false, .slice none 0 0, .int .i64 u2], ?_, hC _ _ ⟨_, rfl, _, _, _, rfl, Num.zero w, _, _, _, rfl, Num.zero w, _, rfl, rfl, _, _, _, rfl, Num.zero w, _, rfl, rfl, rfl⟩⟩
 generalize (lay os.toArray L vs os.toArray.size a).eval = ρ at g2
 simp [execOp, go_sem, g2]
end
set_option maxRecDepth 100000 in
set_option maxHeartbeats 4000000 in
theorem exAddedI {w : World} {v v' u : Value} {A B M x1 y1 x2 y2 : Int} {i2 : Bool} (h : (Fq.st [.n A, .n B, .n M]).P v w) (h' : (Fq.st [.n x1, .n y1, .v (.bool true)]).P v' w) (h2 : (Fq.st [.n x2, .n y2, .v (.bool i2)]).P u w) (hx2 : ab x2 < pw 5) (hy2 : ab y2 < pw 5) :
  Calls Tryz.prog 32 #[v, v', u] w fun e w' => ∃ v', e = .returned v' ∧ Below w.heap.size w w' ∧ (Fq.st [.n x2, .n y2, .v (.bool i2), .n 0, .v (.int .i64 0)]).P v' w' := by
 replace hx2 := hidd hx2
 replace hy2 := hidd hy2
 obtain ⟨_, rfl, hf0⟩ := h
 have hF0 := hf0
 obtain ⟨y0_p0, y0_q0, _, rfl, _y0_n0, y0_p1, y0_q1, _, rfl, _y0_n1, y0_p2, y0_q2, _, rfl, _y0_n2, rfl⟩ := hf0
 obtain ⟨_, rfl, hf1⟩ := h'
 have hF1 := hf1
 obtain ⟨y1_p0, y1_q0, _, rfl, _y1_n0, y1_p1, y1_q1, _, rfl, _y1_n1, _, rfl, _, rfl⟩ := hf1
 obtain ⟨_, rfl, hf2⟩ := h2
 have hF2 := hf2
 obtain ⟨y2_p0, y2_q0, _, rfl, _y2_n0, y2_p1, y2_q1, _, rfl, _y2_n1, _, rfl, _, rfl⟩ := hf2
 obtain ⟨w1, b1, hw1, hb1, hs1, E⟩ := gS w 34 hF0
 obtain ⟨w2, b2, hw2, hb2, hs2, E⟩ := fS E hs1 36 hF1
 obtain ⟨w3, b3, hw3, hb3, hs3, E⟩ := fS E hs2 36 hF2
 obtain ⟨w4, b4, hw4, hb4, hs4, E⟩ := fO E hs3 44 zBt
 go_enter Tryz.func32, Tryz.ntmps32
 go_upto_region 1 with (fail)
 rw [← hw1]
 rw [← hw2]
 rw [← hw3]
 rw [← hw4]
 rw [← hb4]
 rw [← hb3]
 rw [← hb2]
 rw [← hb1]
 clear hw1 hw2 hw3 hw4 hb1 hb2 hb3 hb4 hs4 hs1 hs2 hs3
 refine rg [ip b2 4, yT] N4 [] E (fun hp => ⟨?_, ?_, tv⟩) ?_
 ·exact qa b2 0 4 hp (sqo 4)
 ·exact wXc 4 hp (mq 2 rfl) (sqi 0)
 intro L vs w5 nb hL hC hn E5
 have e0 := wXi hC 0
 have e1 := wXi hC 1
 have E := E5; simp only [LM, zAb] at E
 rw [zAa hL]
 simp only [SP, Nat.zero_add, Nat.reduceAdd]
 rw [e0, e1]
 clear e0 e1 hC hn E5 hL vs L nb
 go_upto_region 2 with (fail)
 refine rg [Fq.st [.n x2, .n y2, .v (.bool i2)], Fq.st [.n x2, .n y2, .v (.bool i2), .n 0, .v (.int .i64 0)], Fq.any] [some (2, Fq.st [.n x2, .n y2, .v (.bool i2), .n 0, .v (.int .i64 0)]), none, none, none] [] E (fun hp => ⟨?_, ?_, ?_, tv⟩) ?_
 ·exact lS 0 5 hp (mq 1 rfl) zAk (sqo 5)
 ·exact zEx (z0_0 := x2) (z0_1 := y2) (u0_2 := i2) hp fo tv (sqi 0) (fun v w h => h)
 ·exact sO 0 1 hp (mq 0 rfl) zA9 (sqo 6)
 intro L vs w6 nb hL hC hn E6
 have E := E6; simp only [LM, zAb] at E
 rw [zAa hL]
 simp only [SP, Nat.zero_add, Nat.reduceAdd]
 generalize vs 0 = u6_0
 generalize vs 1 = u6_1
 clear  hC hn E6 hL vs L nb
 obtain ⟨_, _, hc0, hf0⟩ := zAu (E.box 0 rfl)
 have hP0 := hf0
 obtain ⟨r0_p0, r0_q0, _, rfl, _r0_n0, r0_p1, r0_q1, _, rfl, _r0_n1, _, rfl, _, r0_p3, r0_q3, _, rfl, _r0_n3, _, rfl, _, rfl⟩ := hf0
 have c0_0 := hc0 0 (by simp)
 have c0_1 := hc0 1 (by simp)
 have c0_2 := hc0 2 (by simp)
 have c0_3 := hc0 3 (by simp)
 have c0_4 := hc0 4 (by simp)
 have c0_5 := hc0 5 (by simp)
 have c0_6 := hc0 6 (by simp)
 have c0_7 := hc0 7 (by simp)
 simp only [List.getD_cons_zero, List.getD_cons_succ] at c0_0 c0_1 c0_2 c0_3 c0_4 c0_5 c0_6 c0_7
 clear hc0
 clear hx2 hy2
 go_wp2
 refine bodyPost_ret (v := .agg #[r0_p0, r0_q0, r0_p1, r0_q1, .bool i2, r0_p3, r0_q3, .int .i64 0]) ?_ rfl ⟨_, rfl, E.below, ⟨_, rfl, hP0⟩⟩
 simp [results, Tryz.results32, go_sem, c0_0, c0_1, c0_2, c0_3, c0_4, c0_5, c0_6, c0_7]

set_option maxRecDepth 100000 in
set_option maxHeartbeats 4000000 in
theorem exAddedJ {w : World} {v v' u : Value} {A B M x1 y1 x2 y2 : Int} (h : (Fq.st [.n A, .n B, .n M]).P v w) (h' : (Fq.st [.n x1, .n y1, .v (.bool false)]).P v' w) (h2 : (Fq.st [.n x2, .n y2, .v (.bool true)]).P u w) (hx1 : ab x1 < pw 5) (hy1 : ab y1 < pw 5) :
  Calls Tryz.prog 32 #[v, v', u] w fun e w' => ∃ v', e = .returned v' ∧ Below w.heap.size w w' ∧ (Fq.st [.n x1, .n y1, .v (.bool false), .n 0, .v (.int .i64 0)]).P v' w' := by
 replace hx1 := hidd hx1
 replace hy1 := hidd hy1
 obtain ⟨_, rfl, hf0⟩ := h
 have hF0 := hf0
 obtain ⟨y0_p0, y0_q0, _, rfl, _y0_n0, y0_p1, y0_q1, _, rfl, _y0_n1, y0_p2, y0_q2, _, rfl, _y0_n2, rfl⟩ := hf0
 obtain ⟨_, rfl, hf1⟩ := h'
 have hF1 := hf1
 obtain ⟨y1_p0, y1_q0, _, rfl, _y1_n0, y1_p1, y1_q1, _, rfl, _y1_n1, _, rfl, _, rfl⟩ := hf1
 obtain ⟨_, rfl, hf2⟩ := h2
 have hF2 := hf2
 obtain ⟨y2_p0, y2_q0, _, rfl, _y2_n0, y2_p1, y2_q1, _, rfl, _y2_n1, _, rfl, _, rfl⟩ := hf2
 obtain ⟨w1, b1, hw1, hb1, hs1, E⟩ := gS w 34 hF0
 obtain ⟨w2, b2, hw2, hb2, hs2, E⟩ := fS E hs1 36 hF1
 obtain ⟨w3, b3, hw3, hb3, hs3, E⟩ := fS E hs2 36 hF2
 obtain ⟨w4, b4, hw4, hb4, hs4, E⟩ := fO E hs3 44 zBt
 go_enter Tryz.func32, Tryz.ntmps32
 go_upto_region 1 with (fail)
 rw [← hw1]
 rw [← hw2]
 rw [← hw3]
 rw [← hw4]
 rw [← hb4]
 rw [← hb3]
 rw [← hb2]
 rw [← hb1]
 clear hw1 hw2 hw3 hw4 hb1 hb2 hb3 hb4 hs4 hs1 hs2 hs3
 refine rg [ip b2 4, yF] N4 [] E (fun hp => ⟨?_, ?_, tv⟩) ?_
 ·exact qa b2 0 4 hp (sqo 4)
 ·exact wXc 4 hp (mq 2 rfl) (sqi 0)
 intro L vs w5 nb hL hC hn E5
 have e0 := wXi hC 0
 have e1 := wXi hC 1
 have E := E5; simp only [LM, zAb] at E
 rw [zAa hL]
 simp only [SP, Nat.zero_add, Nat.reduceAdd]
 rw [e0, e1]
 clear e0 e1 hC hn E5 hL vs L nb
 go_upto_region 3 with (fail)
 refine rg [ip b3 4, yT] N4 [] E (fun hp => ⟨?_, ?_, tv⟩) ?_
 ·exact qa b3 0 4 hp (sqo 5)
 ·exact wXc 4 hp (mq 1 rfl) (sqi 0)
 intro L vs w6 nb hL hC hn E6
 have e0 := wXi hC 0
 have e1 := wXi hC 1
 have E := E6; simp only [LM, zAb] at E
 rw [zAa hL]
 simp only [SP, Nat.zero_add, Nat.reduceAdd]
 rw [e0, e1]
 clear e0 e1 hC hn E6 hL vs L nb
 go_upto_region 4 with (fail)
 refine rg [Fq.st [.n x1, .n y1, .v (.bool false)], Fq.st [.n x1, .n y1, .v (.bool false), .n 0, .v (.int .i64 0)], Fq.any] [some (2, Fq.st [.n x1, .n y1, .v (.bool false), .n 0, .v (.int .i64 0)]), none, none, none] [] E (fun hp => ⟨?_, ?_, ?_, tv⟩) ?_
 ·exact lS 0 5 hp (mq 2 rfl) zAk (sqo 4)
 ·exact zEx (z0_0 := x1) (z0_1 := y1) (u0_2 := false) hp fo tv (sqi 0) (fun v w h => h)
 ·exact sO 0 1 hp (mq 0 rfl) zA9 (sqo 6)
 intro L vs w7 nb hL hC hn E7
 have E := E7; simp only [LM, zAb] at E
 rw [zAa hL]
 simp only [SP, Nat.zero_add, Nat.reduceAdd]
 generalize vs 0 = u7_0
 generalize vs 1 = u7_1
 clear  hC hn E7 hL vs L nb
 obtain ⟨_, _, hc0, hf0⟩ := zAu (E.box 0 rfl)
 have hP0 := hf0
 obtain ⟨r0_p0, r0_q0, _, rfl, _r0_n0, r0_p1, r0_q1, _, rfl, _r0_n1, _, rfl, _, r0_p3, r0_q3, _, rfl, _r0_n3, _, rfl, _, rfl⟩ := hf0
 have c0_0 := hc0 0 (by simp)
 have c0_1 := hc0 1 (by simp)
 have c0_2 := hc0 2 (by simp)
 have c0_3 := hc0 3 (by simp)
 have c0_4 := hc0 4 (by simp)
 have c0_5 := hc0 5 (by simp)
 have c0_6 := hc0 6 (by simp)
 have c0_7 := hc0 7 (by simp)
 simp only [List.getD_cons_zero, List.getD_cons_succ] at c0_0 c0_1 c0_2 c0_3 c0_4 c0_5 c0_6 c0_7
 clear hc0
 clear hx1 hy1
 go_wp2
 refine bodyPost_ret (v := .agg #[r0_p0, r0_q0, r0_p1, r0_q1, .bool false, r0_p3, r0_q3, .int .i64 0]) ?_ rfl ⟨_, rfl, E.below, ⟨_, rfl, hP0⟩⟩
 simp [results, Tryz.results32, go_sem, c0_0, c0_1, c0_2, c0_3, c0_4, c0_5, c0_6, c0_7]

set_option maxRecDepth 100000 in
set_option maxHeartbeats 4000000 in
theorem zNu {w : World} {v v' u : Value} {A B M x1 y1 x2 y2 : Int} (h : (Fq.st [.n A, .n B, .n M]).P v w) (h' : (Fq.st [.n x1, .n y1, .v (.bool false)]).P v' w) (h2 : (Fq.st [.n x2, .n y2, .v (.bool false)]).P u w) (hM : ab M < pw 5) (hA : ab A < pw 5) (hx1 : ab x1 < pw 5) (hy1 : ab y1 < pw 5) (hx2 : ab x2 < pw 5) (hy2 : ab y2 < pw 5) (hM0 : 0 < M) (hs : x1 = x2) (hd : (y1 + y2) % M = 0) :
  Calls Tryz.prog 32 #[v, v', u] w fun e w' => ∃ v', e = .returned v' ∧ Below w.heap.size w w' ∧ (Fq.st [.n 0, .n 0, .v (.bool true), .n 0, .v (.int .i64 0)]).P v' w' := by
 replace hM := hidd hM
 replace hA := hidd hA
 replace hx1 := hidd hx1
 replace hy1 := hidd hy1
 replace hx2 := hidd hx2
 replace hy2 := hidd hy2
 have HM0 := hidd hM0
 clear hM0
 have TS := hidd (decide_eq_true hs)
 clear hs
 have TD : Hid (cmpI ((y1 + y2) % M) 0 = 0) := cmpIq0.2 hd
 clear hd
 obtain ⟨_, rfl, hf0⟩ := h
 have hF0 := hf0
 obtain ⟨y0_p0, y0_q0, _, rfl, _y0_n0, y0_p1, y0_q1, _, rfl, _y0_n1, y0_p2, y0_q2, _, rfl, _y0_n2, rfl⟩ := hf0
 obtain ⟨_, rfl, hf1⟩ := h'
 have hF1 := hf1
 obtain ⟨y1_p0, y1_q0, _, rfl, _y1_n0, y1_p1, y1_q1, _, rfl, _y1_n1, _, rfl, _, rfl⟩ := hf1
 obtain ⟨_, rfl, hf2⟩ := h2
 have hF2 := hf2
 obtain ⟨y2_p0, y2_q0, _, rfl, _y2_n0, y2_p1, y2_q1, _, rfl, _y2_n1, _, rfl, _, rfl⟩ := hf2
 obtain ⟨w1, b1, hw1, hb1, hs1, E⟩ := gS w 34 hF0
 obtain ⟨w2, b2, hw2, hb2, hs2, E⟩ := fS E hs1 36 hF1
 obtain ⟨w3, b3, hw3, hb3, hs3, E⟩ := fS E hs2 36 hF2
 obtain ⟨w4, b4, hw4, hb4, hs4, E⟩ := fO E hs3 44 zBt
 go_enter Tryz.func32, Tryz.ntmps32
 go_upto_region 1 with (fail)
 rw [← hw1]
 rw [← hw2]
 rw [← hw3]
 rw [← hw4]
 rw [← hb4]
 rw [← hb3]
 rw [← hb2]
 rw [← hb1]
 clear hw1 hw2 hw3 hw4 hb1 hb2 hb3 hb4 hs4 hs1 hs2 hs3
 refine rg [ip b2 4, yF] N4 [] E (fun hp => ⟨?_, ?_, tv⟩) ?_
 ·exact qa b2 0 4 hp (sqo 4)
 ·exact wXc 4 hp (mq 2 rfl) (sqi 0)
 intro L vs w5 nb hL hC hn E5
 have e0 := wXi hC 0
 have e1 := wXi hC 1
 have E := E5; simp only [LM, zAb] at E
 rw [zAa hL]
 simp only [SP, Nat.zero_add, Nat.reduceAdd]
 rw [e0, e1]
 clear e0 e1 hC hn E5 hL vs L nb
 go_upto_region 3 with (fail)
 refine rg [ip b3 4, yF] N4 [] E (fun hp => ⟨?_, ?_, tv⟩) ?_
 ·exact qa b3 0 4 hp (sqo 5)
 ·exact wXc 4 hp (mq 1 rfl) (sqi 0)
 intro L vs w6 nb hL hC hn E6
 have e0 := wXi hC 0
 have e1 := wXi hC 1
 have E := E6; simp only [LM, zAb] at E
 rw [zAa hL]
 simp only [SP, Nat.zero_add, Nat.reduceAdd]
 rw [e0, e1]
 clear e0 e1 hC hn E6 hL vs L nb
 go_upto_region 5 with (fail)
 have B7 : Hid (ab ((x2 - x1)) < pw 6) := zBi hx2.out hx1.out (by omega) (by omega)
 have B8 : Hid (ab ((y2 - y1)) < pw 6) := zBi hy2.out hy1.out (by omega) (by omega)
 refine rg [ip b3 0, Fq.num x2, ip b2 0, Fq.num x1, Fq.num (x2 - x1), ip b3 2, Fq.num y2, ip b2 2, Fq.num y1, Fq.num (y2 - y1), Fq.any, Fq.any, Fq.any, Fq.any] N4 [⟨10, 12, 2, Fq.num 0, Fq.num (x2 - x1), none⟩, ⟨11, 13, 2, Fq.num 0, Fq.num (y2 - y1), none⟩] E (fun hp => ⟨?_, ?_, ?_, ?_, ?_, ?_, ?_, ?_, ?_, ?_, ?_, ?_, ?_, ?_, tv⟩) ?_
 ·exact qa b3 0 0 hp (sqo 5)
 ·exact lN 0 2 hp (mq 1 rfl) zAd (sqi 0)
 ·exact qa b2 0 0 hp (sqo 4)
 ·exact lN 0 2 hp (mq 2 rfl) zAd (sqi 2)
 ·exact wXb (Fq.num x2) (Fq.num x1) hp zCe (sqi 1) (sqi 3) fun v v' w h h' => exK (zB2 (K := 900) h h' (Int.lt_of_lt_of_le hx2.out (zAg (by omega))) (Int.lt_of_lt_of_le hx1.out (zAg (by omega))) (by omega)) B7.out (by omega)
 ·exact qa b3 0 2 hp (sqo 5)
 ·exact lN 2 2 hp (mq 1 rfl) zAd (sqi 5)
 ·exact qa b2 0 2 hp (sqo 4)
 ·exact lN 2 2 hp (mq 2 rfl) zAd (sqi 7)
 ·exact wXb (Fq.num y2) (Fq.num y1) hp zCe (sqi 6) (sqi 8) fun v v' w h h' => exK (zB2 (K := 900) h h' (Int.lt_of_lt_of_le hy2.out (zAg (by omega))) (Int.lt_of_lt_of_le hy1.out (zAg (by omega))) (by omega)) B8.out (by omega)
 ·exact aN hp (mq 0 rfl)
 ·exact aN hp (mq 1 rfl)
 ·exact sN 4 hp (mq 0 rfl)
 ·exact sN 9 hp (mq 1 rfl)
 intro L vs w9 nb hL hC hn E9
 have e0 := wXi hC 0
 have e2 := wXi hC 2
 have e5 := wXi hC 5
 have e7 := wXi hC 7
 have e10 : vs 10 = .pointer (some ⟨nb 10, 0, none⟩) := hn _ (mq 0 rfl)
 have e11 : vs 11 = .pointer (some ⟨nb 11, 0, none⟩) := hn _ (mq 1 rfl)
 have E := E9; simp only [LM, zAb] at E
 rw [zAa hL]
 simp only [SP, Nat.zero_add, Nat.reduceAdd]
 rw [e0, e2, e5, e7, e10, e11]
 generalize nb 10 = b9_10 at E ⊢
 generalize nb 11 = b9_11 at E ⊢
 generalize vs 1 = u9_1
 generalize vs 3 = u9_3
 generalize vs 4 = u9_4
 generalize vs 6 = u9_6
 generalize vs 8 = u9_8
 generalize vs 9 = u9_9
 clear e0 e2 e5 e7 e10 e11 hC hn E9 hL vs L nb
 go_upto_region 6 with (fail)
 refine rg [ip b2 0, Fq.num x1, ip b3 0, Fq.num x2, yT] N6 [] E (fun hp => ⟨?_, ?_, ?_, ?_, ?_, tv⟩) ?_
 ·exact qa b2 0 0 hp (sqo 4)
 ·exact lN 0 2 hp (mq 4 rfl) zAd (sqi 0)
 ·exact qa b3 0 0 hp (sqo 5)
 ·exact lN 0 2 hp (mq 3 rfl) zAd (sqi 2)
 ·exact wXb (Fq.num x1) (Fq.num x2) hp zBy (sqi 1) (sqi 3) fun v v' w h h' => zBz h h' TS.out
 intro L vs w10 nb hL hC hn E10
 have e0 := wXi hC 0
 have e2 := wXi hC 2
 have e4 := wXi hC 4
 have E := E10; simp only [LM, zAb] at E
 rw [zAa hL]
 simp only [SP, Nat.zero_add, Nat.reduceAdd]
 rw [e0, e2, e4]
 generalize vs 1 = u10_1
 generalize vs 3 = u10_3
 clear e0 e2 e4 hC hn E10 hL vs L nb
 go_upto_region 7 with (fail)
 have B11 : Hid (ab ((y1 + y2)) < pw 6) := zB7 hy1.out hy2.out (by omega) (by omega)
 refine rg [ip b2 2, Fq.num y1, ip b3 2, Fq.num y2, Fq.num (y1 + y2), Fq.any] [some (5, Fq.num (y1 + y2)), none, none, none, none, none] [] E (fun hp => ⟨?_, ?_, ?_, ?_, ?_, ?_, tv⟩) ?_
 ·exact qa b2 0 2 hp (sqo 4)
 ·exact lN 2 2 hp (mq 4 rfl) zAd (sqi 0)
 ·exact qa b3 0 2 hp (sqo 5)
 ·exact lN 2 2 hp (mq 3 rfl) zAd (sqi 2)
 ·exact wXb (Fq.num y1) (Fq.num y2) hp zDx (sqi 1) (sqi 3) fun v v' w h h' => exK (zCy h h') B11.out (by omega)
 ·exact sP 4 hp (mq 0 rfl) (sqo 7)
 intro L vs w12 nb hL hC hn E12
 have e0 := wXi hC 0
 have e2 := wXi hC 2
 have E := E12; simp only [LM, zAb] at E
 rw [zAa hL]
 simp only [SP, Nat.zero_add, Nat.reduceAdd]
 rw [e0, e2]
 generalize vs 1 = u12_1
 generalize vs 3 = u12_3
 generalize vs 4 = u12_4
 clear e0 e2 hC hn E12 hL vs L nb
 go_upto_region 8 with (fail)
 have B13 : Hid (ab (((y1 + y2) % M)) < pw 5) := zCq HM0.out hM.out
 refine rg [Fq.num (y1 + y2), ip b1 4, Fq.num M, Fq.num ((y1 + y2) % M), Fq.is (.int .i64 (cmpI ((y1 + y2) % M) 0)), yT] N6 [] E (fun hp => ⟨?_, ?_, ?_, ?_, ?_, ?_, tv⟩) ?_
 ·exact lI 0 hp (mq 0 rfl) (sqo 7) fun us w hl h => zAh hl h
 ·exact qa b1 0 4 hp (sqo 3)
 ·exact lN 4 2 hp (mq 5 rfl) zAd (sqi 1)
 ·exact wXb (Fq.num (y1 + y2)) (Fq.num M) hp zCl (sqi 0) (sqi 2) fun v v' w h h' => zC1 h h' (by have := HM0.out; omega) (Int.lt_of_lt_of_le B11.out (zAg (by omega))) (Int.lt_of_lt_of_le hM.out (zAg (by omega)))
 ·exact wXa (Fq.num ((y1 + y2) % M)) hp zCd (sqi 3) fun v w h => zCa h
 ·exact zAf (F := fun v _ => v = .int .i64 (cmpI ((y1 + y2) % M) 0)) hp fo tv (sqi 4) (fun ρ w hc h => ⟨.bool true, by simp [execOp, go_sem, h, hc, TD.out], rfl⟩)
 intro L vs w14 nb hL hC hn E14
 have e1 := wXi hC 1
 have e4 := wXi hC 4
 have e5 := wXi hC 5
 have E := E14; simp only [LM, zAb] at E
 rw [zAa hL]
 simp only [SP, Nat.zero_add, Nat.reduceAdd]
 rw [e1, e4, e5]
 generalize vs 0 = u14_0
 generalize vs 2 = u14_2
 generalize vs 3 = u14_3
 clear e1 e4 e5 hC hn E14 hL vs L nb
 go_upto_region 9 with (fail)
 refine rg [Fq.st [.n 0, .n 0, .v (.bool true)], Fq.st [.n 0, .n 0, .v (.bool true), .n 0, .v (.int .i64 0)], Fq.any] [none, none, some (2, Fq.st [.n 0, .n 0, .v (.bool true), .n 0, .v (.int .i64 0)]), none, none, none] [] E (fun hp => ⟨?_, ?_, ?_, tv⟩) ?_
 ·exact zFy (u2 := true) hp fo tv (zAl (fun _ => rfl)) (fun v w h => h)
 ·exact zEx (z0_0 := 0) (z0_1 := 0) (u0_2 := true) hp fo tv (sqi 0) (fun v w h => h)
 ·exact sO 0 1 hp (mq 2 rfl) zA9 (sqo 6)
 intro L vs w15 nb hL hC hn E15
 have E := E15; simp only [LM, zAb] at E
 rw [zAa hL]
 simp only [SP, Nat.zero_add, Nat.reduceAdd]
 generalize vs 0 = u15_0
 generalize vs 1 = u15_1
 clear  hC hn E15 hL vs L nb
 clear TS HM0 TD
 obtain ⟨_, _, hc0, hf0⟩ := zAu (E.box 2 rfl)
 have hP0 := hf0
 obtain ⟨r0_p0, r0_q0, _, rfl, _r0_n0, r0_p1, r0_q1, _, rfl, _r0_n1, _, rfl, _, r0_p3, r0_q3, _, rfl, _r0_n3, _, rfl, _, rfl⟩ := hf0
 have c0_0 := hc0 0 (by simp)
 have c0_1 := hc0 1 (by simp)
 have c0_2 := hc0 2 (by simp)
 have c0_3 := hc0 3 (by simp)
 have c0_4 := hc0 4 (by simp)
 have c0_5 := hc0 5 (by simp)
 have c0_6 := hc0 6 (by simp)
 have c0_7 := hc0 7 (by simp)
 simp only [List.getD_cons_zero, List.getD_cons_succ] at c0_0 c0_1 c0_2 c0_3 c0_4 c0_5 c0_6 c0_7
 clear hc0
 clear B7 B8 B11 B13 hM hA hx1 hy1 hx2 hy2
 go_wp2
 refine bodyPost_ret (v := .agg #[r0_p0, r0_q0, r0_p1, r0_q1, .bool true, r0_p3, r0_q3, .int .i64 0]) ?_ rfl ⟨_, rfl, E.below, ⟨_, rfl, hP0⟩⟩
 simp [results, Tryz.results32, go_sem, c0_0, c0_1, c0_2, c0_3, c0_4, c0_5, c0_6, c0_7]

set_option maxRecDepth 100000 in
set_option maxHeartbeats 4000000 in
theorem zNv {w : World} {v v' u : Value} {A B M x1 y1 x2 y2 : Int} (h : (Fq.st [.n A, .n B, .n M]).P v w) (h' : (Fq.st [.n x1, .n y1, .v (.bool false)]).P v' w) (h2 : (Fq.st [.n x2, .n y2, .v (.bool false)]).P u w) (hM : ab M < pw 5) (hA : ab A < pw 5) (hx1 : ab x1 < pw 5) (hy1 : ab y1 < pw 5) (hx2 : ab x2 < pw 5) (hy2 : ab y2 < pw 5) (hM0 : 0 < M) (hs : x1 = x2) (hd : ¬ (y1 + y2) % M = 0) (hg : Int.gcd (y1 + y2) M = 1) :
  Calls Tryz.prog 32 #[v, v', u] w fun e w' => ∃ v', e = .returned v' ∧ Below w.heap.size w w' ∧ (Fq.st [.n ((((((3 * (x1 * x1)) + A) * (bezU ((y1 + y2) % M) M)) * (((3 * (x1 * x1)) + A) * (bezU ((y1 + y2) % M) M))) - (x1 + x2)) % M), .n ((((((3 * (x1 * x1)) + A) * (bezU ((y1 + y2) % M) M)) * (x1 - ((((((3 * (x1 * x1)) + A) * (bezU ((y1 + y2) % M) M)) * (((3 * (x1 * x1)) + A) * (bezU ((y1 + y2) % M) M))) - (x1 + x2)) % M))) - y1) % M), .v (.bool false), .n 0, .v (.int .i64 0)]).P v' w' := by
 replace hM := hidd hM
 replace hA := hidd hA
 replace hx1 := hidd hx1
 replace hy1 := hidd hy1
 replace hx2 := hidd hx2
 replace hy2 := hidd hy2
 have HM0 := hidd hM0
 clear hM0
 have TS := hidd (decide_eq_true hs)
 clear hs
 have TD : Hid (¬ cmpI ((y1 + y2) % M) 0 = 0) := fun e => hd (cmpIq0.1 e)
 clear hd
 have HG := hidd hg
 have TG : Hid (decide ((Int.gcd (y1 + y2) M : Int) = 1) = true) := decide_eq_true (by rw [hg]; rfl)
 have HU : Hid (ab (bezU ((y1 + y2) % M) M) < pw 5) := zFa HM0.out hM.out
 clear hg
 obtain ⟨_, rfl, hf0⟩ := h
 have hF0 := hf0
 obtain ⟨y0_p0, y0_q0, _, rfl, _y0_n0, y0_p1, y0_q1, _, rfl, _y0_n1, y0_p2, y0_q2, _, rfl, _y0_n2, rfl⟩ := hf0
 obtain ⟨_, rfl, hf1⟩ := h'
 have hF1 := hf1
 obtain ⟨y1_p0, y1_q0, _, rfl, _y1_n0, y1_p1, y1_q1, _, rfl, _y1_n1, _, rfl, _, rfl⟩ := hf1
 obtain ⟨_, rfl, hf2⟩ := h2
 have hF2 := hf2
 obtain ⟨y2_p0, y2_q0, _, rfl, _y2_n0, y2_p1, y2_q1, _, rfl, _y2_n1, _, rfl, _, rfl⟩ := hf2
 obtain ⟨w1, b1, hw1, hb1, hs1, E⟩ := gS w 34 hF0
 obtain ⟨w2, b2, hw2, hb2, hs2, E⟩ := fS E hs1 36 hF1
 obtain ⟨w3, b3, hw3, hb3, hs3, E⟩ := fS E hs2 36 hF2
 obtain ⟨w4, b4, hw4, hb4, hs4, E⟩ := fO E hs3 44 zBt
 go_enter Tryz.func32, Tryz.ntmps32
 go_upto_region 1 with (fail)
 rw [← hw1]
 rw [← hw2]
 rw [← hw3]
 rw [← hw4]
 rw [← hb4]
 rw [← hb3]
 rw [← hb2]
 rw [← hb1]
 clear hw1 hw2 hw3 hw4 hb1 hb2 hb3 hb4 hs4 hs1 hs2 hs3
 refine rg [ip b2 4, yF] N4 [] E (fun hp => ⟨?_, ?_, tv⟩) ?_
 ·exact qa b2 0 4 hp (sqo 4)
 ·exact wXc 4 hp (mq 2 rfl) (sqi 0)
 intro L vs w5 nb hL hC hn E5
 have e0 := wXi hC 0
 have e1 := wXi hC 1
 have E := E5; simp only [LM, zAb] at E
 rw [zAa hL]
 simp only [SP, Nat.zero_add, Nat.reduceAdd]
 rw [e0, e1]
 clear e0 e1 hC hn E5 hL vs L nb
 go_upto_region 3 with (fail)
 refine rg [ip b3 4, yF] N4 [] E (fun hp => ⟨?_, ?_, tv⟩) ?_
 ·exact qa b3 0 4 hp (sqo 5)
 ·exact wXc 4 hp (mq 1 rfl) (sqi 0)
 intro L vs w6 nb hL hC hn E6
 have e0 := wXi hC 0
 have e1 := wXi hC 1
 have E := E6; simp only [LM, zAb] at E
 rw [zAa hL]
 simp only [SP, Nat.zero_add, Nat.reduceAdd]
 rw [e0, e1]
 clear e0 e1 hC hn E6 hL vs L nb
 go_upto_region 5 with (fail)
 have B7 : Hid (ab ((x2 - x1)) < pw 6) := zBi hx2.out hx1.out (by omega) (by omega)
 have B8 : Hid (ab ((y2 - y1)) < pw 6) := zBi hy2.out hy1.out (by omega) (by omega)
 refine rg [ip b3 0, Fq.num x2, ip b2 0, Fq.num x1, Fq.num (x2 - x1), ip b3 2, Fq.num y2, ip b2 2, Fq.num y1, Fq.num (y2 - y1), Fq.any, Fq.any, Fq.any, Fq.any] N4 [⟨10, 12, 2, Fq.num 0, Fq.num (x2 - x1), none⟩, ⟨11, 13, 2, Fq.num 0, Fq.num (y2 - y1), none⟩] E (fun hp => ⟨?_, ?_, ?_, ?_, ?_, ?_, ?_, ?_, ?_, ?_, ?_, ?_, ?_, ?_, tv⟩) ?_
 ·exact qa b3 0 0 hp (sqo 5)
 ·exact lN 0 2 hp (mq 1 rfl) zAd (sqi 0)
 ·exact qa b2 0 0 hp (sqo 4)
 ·exact lN 0 2 hp (mq 2 rfl) zAd (sqi 2)
 ·exact wXb (Fq.num x2) (Fq.num x1) hp zCe (sqi 1) (sqi 3) fun v v' w h h' => exK (zB2 (K := 900) h h' (Int.lt_of_lt_of_le hx2.out (zAg (by omega))) (Int.lt_of_lt_of_le hx1.out (zAg (by omega))) (by omega)) B7.out (by omega)
 ·exact qa b3 0 2 hp (sqo 5)
 ·exact lN 2 2 hp (mq 1 rfl) zAd (sqi 5)
 ·exact qa b2 0 2 hp (sqo 4)
 ·exact lN 2 2 hp (mq 2 rfl) zAd (sqi 7)
 ·exact wXb (Fq.num y2) (Fq.num y1) hp zCe (sqi 6) (sqi 8) fun v v' w h h' => exK (zB2 (K := 900) h h' (Int.lt_of_lt_of_le hy2.out (zAg (by omega))) (Int.lt_of_lt_of_le hy1.out (zAg (by omega))) (by omega)) B8.out (by omega)
 ·exact aN hp (mq 0 rfl)
 ·exact aN hp (mq 1 rfl)
 ·exact sN 4 hp (mq 0 rfl)
 ·exact sN 9 hp (mq 1 rfl)
 intro L vs w9 nb hL hC hn E9
 have e0 := wXi hC 0
 have e2 := wXi hC 2
 have e5 := wXi hC 5
 have e7 := wXi hC 7
 have e10 : vs 10 = .pointer (some ⟨nb 10, 0, none⟩) := hn _ (mq 0 rfl)
 have e11 : vs 11 = .pointer (some ⟨nb 11, 0, none⟩) := hn _ (mq 1 rfl)
 have E := E9; simp only [LM, zAb] at E
 rw [zAa hL]
 simp only [SP, Nat.zero_add, Nat.reduceAdd]
 rw [e0, e2, e5, e7, e10, e11]
 generalize nb 10 = b9_10 at E ⊢
 generalize nb 11 = b9_11 at E ⊢
 generalize vs 1 = u9_1
 generalize vs 3 = u9_3
 generalize vs 4 = u9_4
 generalize vs 6 = u9_6
 generalize vs 8 = u9_8
 generalize vs 9 = u9_9
 clear e0 e2 e5 e7 e10 e11 hC hn E9 hL vs L nb
 go_upto_region 6 with (fail)
 refine rg [ip b2 0, Fq.num x1, ip b3 0, Fq.num x2, yT] N6 [] E (fun hp => ⟨?_, ?_, ?_, ?_, ?_, tv⟩) ?_
 ·exact qa b2 0 0 hp (sqo 4)
 ·exact lN 0 2 hp (mq 4 rfl) zAd (sqi 0)
 ·exact qa b3 0 0 hp (sqo 5)
 ·exact lN 0 2 hp (mq 3 rfl) zAd (sqi 2)
 ·exact wXb (Fq.num x1) (Fq.num x2) hp zBy (sqi 1) (sqi 3) fun v v' w h h' => zBz h h' TS.out
 intro L vs w10 nb hL hC hn E10
 have e0 := wXi hC 0
 have e2 := wXi hC 2
 have e4 := wXi hC 4
 have E := E10; simp only [LM, zAb] at E
 rw [zAa hL]
 simp only [SP, Nat.zero_add, Nat.reduceAdd]
 rw [e0, e2, e4]
 generalize vs 1 = u10_1
 generalize vs 3 = u10_3
 clear e0 e2 e4 hC hn E10 hL vs L nb
 go_upto_region 7 with (fail)
 have B11 : Hid (ab ((y1 + y2)) < pw 6) := zB7 hy1.out hy2.out (by omega) (by omega)
 refine rg [ip b2 2, Fq.num y1, ip b3 2, Fq.num y2, Fq.num (y1 + y2), Fq.any] [some (5, Fq.num (y1 + y2)), none, none, none, none, none] [] E (fun hp => ⟨?_, ?_, ?_, ?_, ?_, ?_, tv⟩) ?_
 ·exact qa b2 0 2 hp (sqo 4)
 ·exact lN 2 2 hp (mq 4 rfl) zAd (sqi 0)
 ·exact qa b3 0 2 hp (sqo 5)
 ·exact lN 2 2 hp (mq 3 rfl) zAd (sqi 2)
 ·exact wXb (Fq.num y1) (Fq.num y2) hp zDx (sqi 1) (sqi 3) fun v v' w h h' => exK (zCy h h') B11.out (by omega)
 ·exact sP 4 hp (mq 0 rfl) (sqo 7)
 intro L vs w12 nb hL hC hn E12
 have e0 := wXi hC 0
 have e2 := wXi hC 2
 have E := E12; simp only [LM, zAb] at E
 rw [zAa hL]
 simp only [SP, Nat.zero_add, Nat.reduceAdd]
 rw [e0, e2]
 generalize vs 1 = u12_1
 generalize vs 3 = u12_3
 generalize vs 4 = u12_4
 clear e0 e2 hC hn E12 hL vs L nb
 go_upto_region 8 with (fail)
 have B13 : Hid (ab (((y1 + y2) % M)) < pw 5) := zCq HM0.out hM.out
 refine rg [Fq.num (y1 + y2), ip b1 4, Fq.num M, Fq.num ((y1 + y2) % M), Fq.is (.int .i64 (cmpI ((y1 + y2) % M) 0)), yF] N6 [] E (fun hp => ⟨?_, ?_, ?_, ?_, ?_, ?_, tv⟩) ?_
 ·exact lI 0 hp (mq 0 rfl) (sqo 7) fun us w hl h => zAh hl h
 ·exact qa b1 0 4 hp (sqo 3)
 ·exact lN 4 2 hp (mq 5 rfl) zAd (sqi 1)
 ·exact wXb (Fq.num (y1 + y2)) (Fq.num M) hp zCl (sqi 0) (sqi 2) fun v v' w h h' => zC1 h h' (by have := HM0.out; omega) (Int.lt_of_lt_of_le B11.out (zAg (by omega))) (Int.lt_of_lt_of_le hM.out (zAg (by omega)))
 ·exact wXa (Fq.num ((y1 + y2) % M)) hp zCd (sqi 3) fun v w h => zCa h
 ·exact zAf (F := fun v _ => v = .int .i64 (cmpI ((y1 + y2) % M) 0)) hp fo tv (sqi 4) (fun ρ w hc h => ⟨.bool false, by simp [execOp, go_sem, h, hc, TD.out], rfl⟩)
 intro L vs w14 nb hL hC hn E14
 have e1 := wXi hC 1
 have e4 := wXi hC 4
 have e5 := wXi hC 5
 have E := E14; simp only [LM, zAb] at E
 rw [zAa hL]
 simp only [SP, Nat.zero_add, Nat.reduceAdd]
 rw [e1, e4, e5]
 generalize vs 0 = u14_0
 generalize vs 2 = u14_2
 generalize vs 3 = u14_3
 clear e1 e4 e5 hC hn E14 hL vs L nb
 go_upto_region 10 with (fail)
 have B15 : Hid (ab ((3)) < pw 3) := zBq (by decide)
 have B16 : Hid (ab ((x1 * x1)) < pw 10) := zBp hx1.out hx1.out (by omega)
 have B17 : Hid (ab (((3) * (x1 * x1))) < pw 13) := zBp B15.out B16.out (by omega)
 have B18 : Hid (ab ((((3) * (x1 * x1)) + A)) < pw 14) := zB7 B17.out hA.out (by omega) (by omega)
 refine rg [Fq.num (3), ip b2 0, Fq.num x1, ip b2 0, Fq.num x1, Fq.num (x1 * x1), Fq.num ((3) * (x1 * x1)), ip b1 0, Fq.num A, Fq.num (((3) * (x1 * x1)) + A), Fq.any] [none, some (10, Fq.num (((3) * (x1 * x1)) + A)), none, none, none, none] [] E (fun hp => ⟨?_, ?_, ?_, ?_, ?_, ?_, ?_, ?_, ?_, ?_, ?_, tv⟩) ?_
 ·exact zA7 (F := (Fq.is (.int .i64 3)).P) hp fo tv (zBg) (zAl (fun _ => rfl)) (fun v w h => (by subst h; exact rOfK w (3) (by omega) (by omega)))
 ·exact qa b2 0 0 hp (sqo 4)
 ·exact lN 0 2 hp (mq 4 rfl) zAd (sqi 1)
 ·exact qa b2 0 0 hp (sqo 4)
 ·exact lN 0 2 hp (mq 4 rfl) zAd (sqi 3)
 ·exact wXb (Fq.num x1) (Fq.num x1) hp zCs (sqi 2) (sqi 4) fun v v' w h h' => exK (zCc h h') B16.out (by omega)
 ·exact wXb (Fq.num (3)) (Fq.num (x1 * x1)) hp zCs (sqi 0) (sqi 5) fun v v' w h h' => exK (zCc h h') B17.out (by omega)
 ·exact qa b1 0 0 hp (sqo 3)
 ·exact lN 0 2 hp (mq 5 rfl) zAd (sqi 7)
 ·exact wXb (Fq.num ((3) * (x1 * x1))) (Fq.num A) hp zDx (sqi 6) (sqi 8) fun v v' w h h' => exK (zCy h h') B18.out (by omega)
 ·exact sP 9 hp (mq 1 rfl) (sqo 8)
 intro L vs w19 nb hL hC hn E19
 have e1 := wXi hC 1
 have e3 := wXi hC 3
 have e7 := wXi hC 7
 have E := E19; simp only [LM, zAb] at E
 rw [zAa hL]
 simp only [SP, Nat.zero_add, Nat.reduceAdd]
 rw [e1, e3, e7]
 generalize vs 0 = u19_0
 generalize vs 2 = u19_2
 generalize vs 4 = u19_4
 generalize vs 5 = u19_5
 generalize vs 6 = u19_6
 generalize vs 8 = u19_8
 generalize vs 9 = u19_9
 clear e1 e3 e7 hC hn E19 hL vs L nb
 go_upto_region 11 with (fail)
 refine rg [Fq.num (y1 + y2), ip b1 4, Fq.num M, Fq.num (Int.gcd (y1 + y2) M : Int), Fq.any, Fq.any] N6 [⟨4, 5, 2, Fq.num 0, Fq.num (Int.gcd (y1 + y2) M : Int), none⟩] E (fun hp => ⟨?_, ?_, ?_, ?_, ?_, ?_, tv⟩) ?_
 ·exact lI 0 hp (mq 0 rfl) (sqo 7) fun us w hl h => zAh hl h
 ·exact qa b1 0 4 hp (sqo 3)
 ·exact lN 4 2 hp (mq 5 rfl) zAd (sqi 1)
 ·exact wXb (Fq.num (y1 + y2)) (Fq.num M) hp zHk (sqi 0) (sqi 2) fun v v' w h h' => zHr h h' (Int.lt_of_lt_of_le B11.out (zAg (by omega))) (Int.lt_of_lt_of_le hM.out (zAg (by omega)))
 ·exact aN hp (mq 0 rfl)
 ·exact sN 3 hp (mq 0 rfl)
 intro L vs w20 nb hL hC hn E20
 have e1 := wXi hC 1
 have e4 : vs 4 = .pointer (some ⟨nb 4, 0, none⟩) := hn _ (mq 0 rfl)
 have E := E20; simp only [LM, zAb] at E
 rw [zAa hL]
 simp only [SP, Nat.zero_add, Nat.reduceAdd]
 rw [e1, e4]
 generalize nb 4 = b20_4 at E ⊢
 generalize vs 0 = u20_0
 generalize vs 2 = u20_2
 generalize vs 3 = u20_3
 clear e1 e4 hC hn E20 hL vs L nb
 go_upto_region 12 with (fail)
 have B21 : Hid (ab ((1)) < pw 3) := zBq (by decide)
 refine rg [Fq.num (Int.gcd (y1 + y2) M : Int), Fq.num (1), yT, yF] N7 [] E (fun hp => ⟨?_, ?_, ?_, ?_, tv⟩) ?_
 ·exact lI 0 hp (mq 0 rfl) (sqo 9) fun us w hl h => zAh hl h
 ·exact zA7 (F := (Fq.is (.int .i64 1)).P) hp fo tv (zBg) (zAl (fun _ => rfl)) (fun v w h => (by subst h; exact rOfK w (1) (by omega) (by omega)))
 ·exact wXb (Fq.num (Int.gcd (y1 + y2) M : Int)) (Fq.num (1)) hp zBy (sqi 0) (sqi 1) fun v v' w h h' => zBz h h' TG.out
 ·exact zAf (F := fun v _ => v = .bool true) hp fo tv (sqi 2) (fun ρ w _ h => ⟨.bool false, by simp [execOp, go_sem, h], rfl⟩)
 intro L vs w22 nb hL hC hn E22
 have e2 := wXi hC 2
 have e3 := wXi hC 3
 have E := E22; simp only [LM, zAb] at E
 rw [zAa hL]
 simp only [SP, Nat.zero_add, Nat.reduceAdd]
 rw [e2, e3]
 generalize vs 0 = u22_0
 generalize vs 1 = u22_1
 clear e2 e3 hC hn E22 hL vs L nb
 go_upto_region 14 with (fail)
 refine rg [Fq.num (y1 + y2), ip b1 4, Fq.num M, Fq.tup2 (Fq.num (bezU ((y1 + y2) % M) M)) (Fq.is (.int .i64 0)), Fq.tup2 (Fq.num (bezU ((y1 + y2) % M) M)) (Fq.is (.int .i64 0)), Fq.num (bezU ((y1 + y2) % M) M), Fq.is (.int .i64 0), Fq.any, Fq.any, Fq.is (.int .i64 0)] N7 [⟨7, 8, 2, Fq.num 0, Fq.num (bezU ((y1 + y2) % M) M), none⟩] E (fun hp => ⟨?_, ?_, ?_, ?_, ?_, ?_, ?_, ?_, ?_, ?_, tv⟩) ?_
 ·exact lI 0 hp (mq 1 rfl) (sqo 7) fun us w hl h => zAh hl h
 ·exact qa b1 0 4 hp (sqo 3)
 ·exact lN 4 2 hp (mq 6 rfl) zAd (sqi 1)
 ·exact wXb (Fq.num (y1 + y2)) (Fq.num M) hp zKh (sqi 0) (sqi 2) fun v v' w h h' => exUInvP h h' (Int.lt_of_lt_of_le B11.out (zAg (by omega))) (Int.lt_of_lt_of_le hM.out (zAg (by omega))) HM0.out (by rw [zGq]; exact HG.out)
 ·exact zAe hp fo tv (sqi 3)
 ·exact zA5 hp fo tv (sqi 4) (fun v1 v2 w h1 h2 => ⟨_, rfl, h1⟩)
 ·exact zA5 hp fo tv (sqi 4) (fun v1 v2 w h1 h2 => ⟨_, rfl, h2⟩)
 ·exact aN hp (mq 0 rfl)
 ·exact sN 5 hp (mq 0 rfl)
 ·exact zAo hp fo tv (sqi 6)
 intro L vs w23 nb hL hC hn E23
 have e1 := wXi hC 1
 have e6 := wXi hC 6
 have e9 := wXi hC 9
 have e7 : vs 7 = .pointer (some ⟨nb 7, 0, none⟩) := hn _ (mq 0 rfl)
 have E := E23; simp only [LM, zAb] at E
 rw [zAa hL]
 simp only [SP, Nat.zero_add, Nat.reduceAdd]
 rw [e1, e6, e9, e7]
 generalize nb 7 = b23_7 at E ⊢
 generalize vs 0 = u23_0
 generalize vs 2 = u23_2
 generalize vs 3 = u23_3
 generalize vs 4 = u23_4
 generalize vs 5 = u23_5
 clear e1 e6 e9 e7 hC hn E23 hL vs L nb
 go_upto_region 15 with (fail)
 have B24 : Hid (ab (((((3) * (x1 * x1)) + A) * (bezU ((y1 + y2) % M) M))) < pw 19) := zBp B18.out HU.out (by omega)
 refine rg [Fq.num (((3) * (x1 * x1)) + A), Fq.num (bezU ((y1 + y2) % M) M), Fq.num ((((3) * (x1 * x1)) + A) * (bezU ((y1 + y2) % M) M)), Fq.any, Fq.any] N8 [⟨3, 4, 2, Fq.num 0, Fq.num ((((3) * (x1 * x1)) + A) * (bezU ((y1 + y2) % M) M)), none⟩] E (fun hp => ⟨?_, ?_, ?_, ?_, ?_, tv⟩) ?_
 ·exact lI 0 hp (mq 3 rfl) (sqo 8) fun us w hl h => zAh hl h
 ·exact lI 0 hp (mq 0 rfl) (sqo 10) fun us w hl h => zAh hl h
 ·exact wXb (Fq.num (((3) * (x1 * x1)) + A)) (Fq.num (bezU ((y1 + y2) % M) M)) hp zCs (sqi 0) (sqi 1) fun v v' w h h' => exK (zCc h h') B24.out (by omega)
 ·exact aN hp (mq 0 rfl)
 ·exact sN 2 hp (mq 0 rfl)
 intro L vs w25 nb hL hC hn E25
 have e3 : vs 3 = .pointer (some ⟨nb 3, 0, none⟩) := hn _ (mq 0 rfl)
 have E := E25; simp only [LM, zAb] at E
 rw [zAa hL]
 simp only [SP, Nat.zero_add, Nat.reduceAdd]
 rw [e3]
 generalize nb 3 = b25_3 at E ⊢
 generalize vs 0 = u25_0
 generalize vs 1 = u25_1
 generalize vs 2 = u25_2
 clear e3 hC hn E25 hL vs L nb
 go_upto_region 16 with (fail)
 have B26 : Hid (ab ((((((3) * (x1 * x1)) + A) * (bezU ((y1 + y2) % M) M)) * ((((3) * (x1 * x1)) + A) * (bezU ((y1 + y2) % M) M)))) < pw 38) := zBp B24.out B24.out (by omega)
 have B27 : Hid (ab ((x1 + x2)) < pw 6) := zB7 hx1.out hx2.out (by omega) (by omega)
 have B28 : Hid (ab (((((((3) * (x1 * x1)) + A) * (bezU ((y1 + y2) % M) M)) * ((((3) * (x1 * x1)) + A) * (bezU ((y1 + y2) % M) M))) - (x1 + x2))) < pw 39) := zBi B26.out B27.out (by omega) (by omega)
 have B29 : Hid (ab ((((((((3) * (x1 * x1)) + A) * (bezU ((y1 + y2) % M) M)) * ((((3) * (x1 * x1)) + A) * (bezU ((y1 + y2) % M) M))) - (x1 + x2)) % M)) < pw 5) := zCq HM0.out hM.out
 refine rg [Fq.num ((((3) * (x1 * x1)) + A) * (bezU ((y1 + y2) % M) M)), Fq.num ((((3) * (x1 * x1)) + A) * (bezU ((y1 + y2) % M) M)), Fq.num (((((3) * (x1 * x1)) + A) * (bezU ((y1 + y2) % M) M)) * ((((3) * (x1 * x1)) + A) * (bezU ((y1 + y2) % M) M))), ip b2 0, Fq.num x1, ip b3 0, Fq.num x2, Fq.num (x1 + x2), Fq.num ((((((3) * (x1 * x1)) + A) * (bezU ((y1 + y2) % M) M)) * ((((3) * (x1 * x1)) + A) * (bezU ((y1 + y2) % M) M))) - (x1 + x2)), ip b1 4, Fq.num M, Fq.num (((((((3) * (x1 * x1)) + A) * (bezU ((y1 + y2) % M) M)) * ((((3) * (x1 * x1)) + A) * (bezU ((y1 + y2) % M) M))) - (x1 + x2)) % M), Fq.any, Fq.any] N9 [⟨12, 13, 2, Fq.num 0, Fq.num (((((((3) * (x1 * x1)) + A) * (bezU ((y1 + y2) % M) M)) * ((((3) * (x1 * x1)) + A) * (bezU ((y1 + y2) % M) M))) - (x1 + x2)) % M), none⟩] E (fun hp => ⟨?_, ?_, ?_, ?_, ?_, ?_, ?_, ?_, ?_, ?_, ?_, ?_, ?_, ?_, tv⟩) ?_
 ·exact lI 0 hp (mq 0 rfl) (sqo 12) fun us w hl h => zAh hl h
 ·exact lI 0 hp (mq 0 rfl) (sqo 12) fun us w hl h => zAh hl h
 ·exact wXb (Fq.num ((((3) * (x1 * x1)) + A) * (bezU ((y1 + y2) % M) M))) (Fq.num ((((3) * (x1 * x1)) + A) * (bezU ((y1 + y2) % M) M))) hp zCs (sqi 0) (sqi 1) fun v v' w h h' => exK (zCc h h') B26.out (by omega)
 ·exact qa b2 0 0 hp (sqo 4)
 ·exact lN 0 2 hp (mq 7 rfl) zAd (sqi 3)
 ·exact qa b3 0 0 hp (sqo 5)
 ·exact lN 0 2 hp (mq 6 rfl) zAd (sqi 5)
 ·exact wXb (Fq.num x1) (Fq.num x2) hp zDx (sqi 4) (sqi 6) fun v v' w h h' => exK (zCy h h') B27.out (by omega)
 ·exact wXb (Fq.num (((((3) * (x1 * x1)) + A) * (bezU ((y1 + y2) % M) M)) * ((((3) * (x1 * x1)) + A) * (bezU ((y1 + y2) % M) M)))) (Fq.num (x1 + x2)) hp zCe (sqi 2) (sqi 7) fun v v' w h h' => exK (zB2 (K := 900) h h' (Int.lt_of_lt_of_le B26.out (zAg (by omega))) (Int.lt_of_lt_of_le B27.out (zAg (by omega))) (by omega)) B28.out (by omega)
 ·exact qa b1 0 4 hp (sqo 3)
 ·exact lN 4 2 hp (mq 8 rfl) zAd (sqi 9)
 ·exact wXb (Fq.num ((((((3) * (x1 * x1)) + A) * (bezU ((y1 + y2) % M) M)) * ((((3) * (x1 * x1)) + A) * (bezU ((y1 + y2) % M) M))) - (x1 + x2))) (Fq.num M) hp zCl (sqi 8) (sqi 10) fun v v' w h h' => zC1 h h' (by have := HM0.out; omega) (Int.lt_of_lt_of_le B28.out (zAg (by omega))) (Int.lt_of_lt_of_le hM.out (zAg (by omega)))
 ·exact aN hp (mq 0 rfl)
 ·exact sN 11 hp (mq 0 rfl)
 intro L vs w30 nb hL hC hn E30
 have e3 := wXi hC 3
 have e5 := wXi hC 5
 have e9 := wXi hC 9
 have e12 : vs 12 = .pointer (some ⟨nb 12, 0, none⟩) := hn _ (mq 0 rfl)
 have E := E30; simp only [LM, zAb] at E
 rw [zAa hL]
 simp only [SP, Nat.zero_add, Nat.reduceAdd]
 rw [e3, e5, e9, e12]
 generalize nb 12 = b30_12 at E ⊢
 generalize vs 0 = u30_0
 generalize vs 1 = u30_1
 generalize vs 2 = u30_2
 generalize vs 4 = u30_4
 generalize vs 6 = u30_6
 generalize vs 7 = u30_7
 generalize vs 8 = u30_8
 generalize vs 10 = u30_10
 generalize vs 11 = u30_11
 clear e3 e5 e9 e12 hC hn E30 hL vs L nb
 go_upto_region 17 with (fail)
 have B31 : Hid (ab ((x1 - (((((((3) * (x1 * x1)) + A) * (bezU ((y1 + y2) % M) M)) * ((((3) * (x1 * x1)) + A) * (bezU ((y1 + y2) % M) M))) - (x1 + x2)) % M))) < pw 6) := zBi hx1.out B29.out (by omega) (by omega)
 have B32 : Hid (ab ((((((3) * (x1 * x1)) + A) * (bezU ((y1 + y2) % M) M)) * (x1 - (((((((3) * (x1 * x1)) + A) * (bezU ((y1 + y2) % M) M)) * ((((3) * (x1 * x1)) + A) * (bezU ((y1 + y2) % M) M))) - (x1 + x2)) % M)))) < pw 25) := zBp B24.out B31.out (by omega)
 have B33 : Hid (ab (((((((3) * (x1 * x1)) + A) * (bezU ((y1 + y2) % M) M)) * (x1 - (((((((3) * (x1 * x1)) + A) * (bezU ((y1 + y2) % M) M)) * ((((3) * (x1 * x1)) + A) * (bezU ((y1 + y2) % M) M))) - (x1 + x2)) % M))) - y1)) < pw 26) := zBi B32.out hy1.out (by omega) (by omega)
 have B34 : Hid (ab ((((((((3) * (x1 * x1)) + A) * (bezU ((y1 + y2) % M) M)) * (x1 - (((((((3) * (x1 * x1)) + A) * (bezU ((y1 + y2) % M) M)) * ((((3) * (x1 * x1)) + A) * (bezU ((y1 + y2) % M) M))) - (x1 + x2)) % M))) - y1) % M)) < pw 5) := zCq HM0.out hM.out
 refine rg [Fq.num ((((3) * (x1 * x1)) + A) * (bezU ((y1 + y2) % M) M)), ip b2 0, Fq.num x1, Fq.num (((((((3) * (x1 * x1)) + A) * (bezU ((y1 + y2) % M) M)) * ((((3) * (x1 * x1)) + A) * (bezU ((y1 + y2) % M) M))) - (x1 + x2)) % M), Fq.num (x1 - (((((((3) * (x1 * x1)) + A) * (bezU ((y1 + y2) % M) M)) * ((((3) * (x1 * x1)) + A) * (bezU ((y1 + y2) % M) M))) - (x1 + x2)) % M)), Fq.num (((((3) * (x1 * x1)) + A) * (bezU ((y1 + y2) % M) M)) * (x1 - (((((((3) * (x1 * x1)) + A) * (bezU ((y1 + y2) % M) M)) * ((((3) * (x1 * x1)) + A) * (bezU ((y1 + y2) % M) M))) - (x1 + x2)) % M))), ip b2 2, Fq.num y1, Fq.num ((((((3) * (x1 * x1)) + A) * (bezU ((y1 + y2) % M) M)) * (x1 - (((((((3) * (x1 * x1)) + A) * (bezU ((y1 + y2) % M) M)) * ((((3) * (x1 * x1)) + A) * (bezU ((y1 + y2) % M) M))) - (x1 + x2)) % M))) - y1), ip b1 4, Fq.num M, Fq.num (((((((3) * (x1 * x1)) + A) * (bezU ((y1 + y2) % M) M)) * (x1 - (((((((3) * (x1 * x1)) + A) * (bezU ((y1 + y2) % M) M)) * ((((3) * (x1 * x1)) + A) * (bezU ((y1 + y2) % M) M))) - (x1 + x2)) % M))) - y1) % M), Fq.any, Fq.any] N10 [⟨12, 13, 2, Fq.num 0, Fq.num (((((((3) * (x1 * x1)) + A) * (bezU ((y1 + y2) % M) M)) * (x1 - (((((((3) * (x1 * x1)) + A) * (bezU ((y1 + y2) % M) M)) * ((((3) * (x1 * x1)) + A) * (bezU ((y1 + y2) % M) M))) - (x1 + x2)) % M))) - y1) % M), none⟩] E (fun hp => ⟨?_, ?_, ?_, ?_, ?_, ?_, ?_, ?_, ?_, ?_, ?_, ?_, ?_, ?_, tv⟩) ?_
 ·exact lI 0 hp (mq 1 rfl) (sqo 12) fun us w hl h => zAh hl h
 ·exact qa b2 0 0 hp (sqo 4)
 ·exact lN 0 2 hp (mq 8 rfl) zAd (sqi 1)
 ·exact lI 0 hp (mq 0 rfl) (sqo 13) fun us w hl h => zAh hl h
 ·exact wXb (Fq.num x1) (Fq.num (((((((3) * (x1 * x1)) + A) * (bezU ((y1 + y2) % M) M)) * ((((3) * (x1 * x1)) + A) * (bezU ((y1 + y2) % M) M))) - (x1 + x2)) % M)) hp zCe (sqi 2) (sqi 3) fun v v' w h h' => exK (zB2 (K := 900) h h' (Int.lt_of_lt_of_le hx1.out (zAg (by omega))) (Int.lt_of_lt_of_le B29.out (zAg (by omega))) (by omega)) B31.out (by omega)
 ·exact wXb (Fq.num ((((3) * (x1 * x1)) + A) * (bezU ((y1 + y2) % M) M))) (Fq.num (x1 - (((((((3) * (x1 * x1)) + A) * (bezU ((y1 + y2) % M) M)) * ((((3) * (x1 * x1)) + A) * (bezU ((y1 + y2) % M) M))) - (x1 + x2)) % M))) hp zCs (sqi 0) (sqi 4) fun v v' w h h' => exK (zCc h h') B32.out (by omega)
 ·exact qa b2 0 2 hp (sqo 4)
 ·exact lN 2 2 hp (mq 8 rfl) zAd (sqi 6)
 ·exact wXb (Fq.num (((((3) * (x1 * x1)) + A) * (bezU ((y1 + y2) % M) M)) * (x1 - (((((((3) * (x1 * x1)) + A) * (bezU ((y1 + y2) % M) M)) * ((((3) * (x1 * x1)) + A) * (bezU ((y1 + y2) % M) M))) - (x1 + x2)) % M)))) (Fq.num y1) hp zCe (sqi 5) (sqi 7) fun v v' w h h' => exK (zB2 (K := 900) h h' (Int.lt_of_lt_of_le B32.out (zAg (by omega))) (Int.lt_of_lt_of_le hy1.out (zAg (by omega))) (by omega)) B33.out (by omega)
 ·exact qa b1 0 4 hp (sqo 3)
 ·exact lN 4 2 hp (mq 9 rfl) zAd (sqi 9)
 ·exact wXb (Fq.num ((((((3) * (x1 * x1)) + A) * (bezU ((y1 + y2) % M) M)) * (x1 - (((((((3) * (x1 * x1)) + A) * (bezU ((y1 + y2) % M) M)) * ((((3) * (x1 * x1)) + A) * (bezU ((y1 + y2) % M) M))) - (x1 + x2)) % M))) - y1)) (Fq.num M) hp zCl (sqi 8) (sqi 10) fun v v' w h h' => zC1 h h' (by have := HM0.out; omega) (Int.lt_of_lt_of_le B33.out (zAg (by omega))) (Int.lt_of_lt_of_le hM.out (zAg (by omega)))
 ·exact aN hp (mq 0 rfl)
 ·exact sN 11 hp (mq 0 rfl)
 intro L vs w35 nb hL hC hn E35
 have e1 := wXi hC 1
 have e6 := wXi hC 6
 have e9 := wXi hC 9
 have e12 : vs 12 = .pointer (some ⟨nb 12, 0, none⟩) := hn _ (mq 0 rfl)
 have E := E35; simp only [LM, zAb] at E
 rw [zAa hL]
 simp only [SP, Nat.zero_add, Nat.reduceAdd]
 rw [e1, e6, e9, e12]
 generalize nb 12 = b35_12 at E ⊢
 generalize vs 0 = u35_0
 generalize vs 2 = u35_2
 generalize vs 3 = u35_3
 generalize vs 4 = u35_4
 generalize vs 5 = u35_5
 generalize vs 7 = u35_7
 generalize vs 8 = u35_8
 generalize vs 10 = u35_10
 generalize vs 11 = u35_11
 clear e1 e6 e9 e12 hC hn E35 hL vs L nb
 go_upto_region 18 with (fail)
 refine rg [Fq.num (((((((3) * (x1 * x1)) + A) * (bezU ((y1 + y2) % M) M)) * ((((3) * (x1 * x1)) + A) * (bezU ((y1 + y2) % M) M))) - (x1 + x2)) % M), Fq.num (((((((3) * (x1 * x1)) + A) * (bezU ((y1 + y2) % M) M)) * (x1 - (((((((3) * (x1 * x1)) + A) * (bezU ((y1 + y2) % M) M)) * ((((3) * (x1 * x1)) + A) * (bezU ((y1 + y2) % M) M))) - (x1 + x2)) % M))) - y1) % M), Fq.st [.n (((((((3) * (x1 * x1)) + A) * (bezU ((y1 + y2) % M) M)) * ((((3) * (x1 * x1)) + A) * (bezU ((y1 + y2) % M) M))) - (x1 + x2)) % M), .n (((((((3) * (x1 * x1)) + A) * (bezU ((y1 + y2) % M) M)) * (x1 - (((((((3) * (x1 * x1)) + A) * (bezU ((y1 + y2) % M) M)) * ((((3) * (x1 * x1)) + A) * (bezU ((y1 + y2) % M) M))) - (x1 + x2)) % M))) - y1) % M), .v (.bool false)], Fq.st [.n (((((((3) * (x1 * x1)) + A) * (bezU ((y1 + y2) % M) M)) * ((((3) * (x1 * x1)) + A) * (bezU ((y1 + y2) % M) M))) - (x1 + x2)) % M), .n (((((((3) * (x1 * x1)) + A) * (bezU ((y1 + y2) % M) M)) * (x1 - (((((((3) * (x1 * x1)) + A) * (bezU ((y1 + y2) % M) M)) * ((((3) * (x1 * x1)) + A) * (bezU ((y1 + y2) % M) M))) - (x1 + x2)) % M))) - y1) % M), .v (.bool false), .n 0, .v (.int .i64 0)], Fq.any] [none, none, none, none, none, none, none, some (4, Fq.st [.n (((((((3) * (x1 * x1)) + A) * (bezU ((y1 + y2) % M) M)) * ((((3) * (x1 * x1)) + A) * (bezU ((y1 + y2) % M) M))) - (x1 + x2)) % M), .n (((((((3) * (x1 * x1)) + A) * (bezU ((y1 + y2) % M) M)) * (x1 - (((((((3) * (x1 * x1)) + A) * (bezU ((y1 + y2) % M) M)) * ((((3) * (x1 * x1)) + A) * (bezU ((y1 + y2) % M) M))) - (x1 + x2)) % M))) - y1) % M), .v (.bool false), .n 0, .v (.int .i64 0)]), none, none, none] [] E (fun hp => ⟨?_, ?_, ?_, ?_, ?_, tv⟩) ?_
 ·exact lI 0 hp (mq 1 rfl) (sqo 13) fun us w hl h => zAh hl h
 ·exact lI 0 hp (mq 0 rfl) (sqo 14) fun us w hl h => zAh hl h
 ·exact zFx (z0 := (((((((3) * (x1 * x1)) + A) * (bezU ((y1 + y2) % M) M)) * ((((3) * (x1 * x1)) + A) * (bezU ((y1 + y2) % M) M))) - (x1 + x2)) % M)) (z1 := (((((((3) * (x1 * x1)) + A) * (bezU ((y1 + y2) % M) M)) * (x1 - (((((((3) * (x1 * x1)) + A) * (bezU ((y1 + y2) % M) M)) * ((((3) * (x1 * x1)) + A) * (bezU ((y1 + y2) % M) M))) - (x1 + x2)) % M))) - y1) % M)) hp fo tv (sqi 0) (sqi 1) (fun v w h => h)
 ·exact zEx (z0_0 := (((((((3) * (x1 * x1)) + A) * (bezU ((y1 + y2) % M) M)) * ((((3) * (x1 * x1)) + A) * (bezU ((y1 + y2) % M) M))) - (x1 + x2)) % M)) (z0_1 := (((((((3) * (x1 * x1)) + A) * (bezU ((y1 + y2) % M) M)) * (x1 - (((((((3) * (x1 * x1)) + A) * (bezU ((y1 + y2) % M) M)) * ((((3) * (x1 * x1)) + A) * (bezU ((y1 + y2) % M) M))) - (x1 + x2)) % M))) - y1) % M)) (u0_2 := false) hp fo tv (sqi 2) (fun v w h => h)
 ·exact sO 0 3 hp (mq 7 rfl) zA9 (sqo 6)
 intro L vs w36 nb hL hC hn E36
 have E := E36; simp only [LM, zAb] at E
 rw [zAa hL]
 simp only [SP, Nat.zero_add, Nat.reduceAdd]
 generalize vs 0 = u36_0
 generalize vs 1 = u36_1
 generalize vs 2 = u36_2
 generalize vs 3 = u36_3
 clear  hC hn E36 hL vs L nb
 clear TS HM0 TD HG TG
 obtain ⟨_, _, hc0, hf0⟩ := zAu (E.box 7 rfl)
 have hP0 := hf0
 obtain ⟨r0_p0, r0_q0, _, rfl, _r0_n0, r0_p1, r0_q1, _, rfl, _r0_n1, _, rfl, _, r0_p3, r0_q3, _, rfl, _r0_n3, _, rfl, _, rfl⟩ := hf0
 have c0_0 := hc0 0 (by simp)
 have c0_1 := hc0 1 (by simp)
 have c0_2 := hc0 2 (by simp)
 have c0_3 := hc0 3 (by simp)
 have c0_4 := hc0 4 (by simp)
 have c0_5 := hc0 5 (by simp)
 have c0_6 := hc0 6 (by simp)
 have c0_7 := hc0 7 (by simp)
 simp only [List.getD_cons_zero, List.getD_cons_succ] at c0_0 c0_1 c0_2 c0_3 c0_4 c0_5 c0_6 c0_7
 clear hc0
 clear B7 B8 B11 B13 B15 B16 B17 B18 B21 B24 B26 B27 B28 B29 B31 B32 B33 B34 hM hA hx1 hy1 hx2 hy2 HU
 go_wp2
 refine bodyPost_ret (v := .agg #[r0_p0, r0_q0, r0_p1, r0_q1, .bool false, r0_p3, r0_q3, .int .i64 0]) ?_ rfl ⟨_, rfl, E.below, ⟨_, rfl, hP0⟩⟩
 simp [results, Tryz.results32, go_sem, c0_0, c0_1, c0_2, c0_3, c0_4, c0_5, c0_6, c0_7]

set_option maxRecDepth 100000 in
set_option maxHeartbeats 4000000 in
theorem zNw {w : World} {v v' u : Value} {A B M x1 y1 x2 y2 : Int} (h : (Fq.st [.n A, .n B, .n M]).P v w) (h' : (Fq.st [.n x1, .n y1, .v (.bool false)]).P v' w) (h2 : (Fq.st [.n x2, .n y2, .v (.bool false)]).P u w) (hM : ab M < pw 5) (hA : ab A < pw 5) (hx1 : ab x1 < pw 5) (hy1 : ab y1 < pw 5) (hx2 : ab x2 < pw 5) (hy2 : ab y2 < pw 5) (hM0 : 0 < M) (hs : x1 = x2) (hd : ¬ (y1 + y2) % M = 0) (hg : ¬ Int.gcd (y1 + y2) M = 1) :
  Calls Tryz.prog 32 #[v, v', u] w fun e w' => ∃ v', e = .returned v' ∧ Below w.heap.size w w' ∧ (Fq.st [.n 0, .n 0, .v (.bool false), .n (Int.gcd (y1 + y2) M : Int), .v (.int .i64 6)]).P v' w' := by
 replace hM := hidd hM
 replace hA := hidd hA
 replace hx1 := hidd hx1
 replace hy1 := hidd hy1
 replace hx2 := hidd hx2
 replace hy2 := hidd hy2
 have HM0 := hidd hM0
 clear hM0
 have TS := hidd (decide_eq_true hs)
 clear hs
 have TD : Hid (¬ cmpI ((y1 + y2) % M) 0 = 0) := fun e => hd (cmpIq0.1 e)
 clear hd
 have TG : Hid (decide ((Int.gcd (y1 + y2) M : Int) = 1) = false) := decide_eq_false (by omega)
 clear hg
 obtain ⟨_, rfl, hf0⟩ := h
 have hF0 := hf0
 obtain ⟨y0_p0, y0_q0, _, rfl, _y0_n0, y0_p1, y0_q1, _, rfl, _y0_n1, y0_p2, y0_q2, _, rfl, _y0_n2, rfl⟩ := hf0
 obtain ⟨_, rfl, hf1⟩ := h'
 have hF1 := hf1
 obtain ⟨y1_p0, y1_q0, _, rfl, _y1_n0, y1_p1, y1_q1, _, rfl, _y1_n1, _, rfl, _, rfl⟩ := hf1
 obtain ⟨_, rfl, hf2⟩ := h2
 have hF2 := hf2
 obtain ⟨y2_p0, y2_q0, _, rfl, _y2_n0, y2_p1, y2_q1, _, rfl, _y2_n1, _, rfl, _, rfl⟩ := hf2
 obtain ⟨w1, b1, hw1, hb1, hs1, E⟩ := gS w 34 hF0
 obtain ⟨w2, b2, hw2, hb2, hs2, E⟩ := fS E hs1 36 hF1
 obtain ⟨w3, b3, hw3, hb3, hs3, E⟩ := fS E hs2 36 hF2
 obtain ⟨w4, b4, hw4, hb4, hs4, E⟩ := fO E hs3 44 zBt
 go_enter Tryz.func32, Tryz.ntmps32
 go_upto_region 1 with (fail)
 rw [← hw1]
 rw [← hw2]
 rw [← hw3]
 rw [← hw4]
 rw [← hb4]
 rw [← hb3]
 rw [← hb2]
 rw [← hb1]
 clear hw1 hw2 hw3 hw4 hb1 hb2 hb3 hb4 hs4 hs1 hs2 hs3
 refine rg [ip b2 4, yF] N4 [] E (fun hp => ⟨?_, ?_, tv⟩) ?_
 ·exact qa b2 0 4 hp (sqo 4)
 ·exact wXc 4 hp (mq 2 rfl) (sqi 0)
 intro L vs w5 nb hL hC hn E5
 have e0 := wXi hC 0
 have e1 := wXi hC 1
 have E := E5; simp only [LM, zAb] at E
 rw [zAa hL]
 simp only [SP, Nat.zero_add, Nat.reduceAdd]
 rw [e0, e1]
 clear e0 e1 hC hn E5 hL vs L nb
 go_upto_region 3 with (fail)
 refine rg [ip b3 4, yF] N4 [] E (fun hp => ⟨?_, ?_, tv⟩) ?_
 ·exact qa b3 0 4 hp (sqo 5)
 ·exact wXc 4 hp (mq 1 rfl) (sqi 0)
 intro L vs w6 nb hL hC hn E6
 have e0 := wXi hC 0
 have e1 := wXi hC 1
 have E := E6; simp only [LM, zAb] at E
 rw [zAa hL]
 simp only [SP, Nat.zero_add, Nat.reduceAdd]
 rw [e0, e1]
 clear e0 e1 hC hn E6 hL vs L nb
 go_upto_region 5 with (fail)
 have B7 : Hid (ab ((x2 - x1)) < pw 6) := zBi hx2.out hx1.out (by omega) (by omega)
 have B8 : Hid (ab ((y2 - y1)) < pw 6) := zBi hy2.out hy1.out (by omega) (by omega)
 refine rg [ip b3 0, Fq.num x2, ip b2 0, Fq.num x1, Fq.num (x2 - x1), ip b3 2, Fq.num y2, ip b2 2, Fq.num y1, Fq.num (y2 - y1), Fq.any, Fq.any, Fq.any, Fq.any] N4 [⟨10, 12, 2, Fq.num 0, Fq.num (x2 - x1), none⟩, ⟨11, 13, 2, Fq.num 0, Fq.num (y2 - y1), none⟩] E (fun hp => ⟨?_, ?_, ?_, ?_, ?_, ?_, ?_, ?_, ?_, ?_, ?_, ?_, ?_, ?_, tv⟩) ?_
 ·exact qa b3 0 0 hp (sqo 5)
 ·exact lN 0 2 hp (mq 1 rfl) zAd (sqi 0)
 ·exact qa b2 0 0 hp (sqo 4)
 ·exact lN 0 2 hp (mq 2 rfl) zAd (sqi 2)
 ·exact wXb (Fq.num x2) (Fq.num x1) hp zCe (sqi 1) (sqi 3) fun v v' w h h' => exK (zB2 (K := 900) h h' (Int.lt_of_lt_of_le hx2.out (zAg (by omega))) (Int.lt_of_lt_of_le hx1.out (zAg (by omega))) (by omega)) B7.out (by omega)
 ·exact qa b3 0 2 hp (sqo 5)
 ·exact lN 2 2 hp (mq 1 rfl) zAd (sqi 5)
 ·exact qa b2 0 2 hp (sqo 4)
 ·exact lN 2 2 hp (mq 2 rfl) zAd (sqi 7)
 ·exact wXb (Fq.num y2) (Fq.num y1) hp zCe (sqi 6) (sqi 8) fun v v' w h h' => exK (zB2 (K := 900) h h' (Int.lt_of_lt_of_le hy2.out (zAg (by omega))) (Int.lt_of_lt_of_le hy1.out (zAg (by omega))) (by omega)) B8.out (by omega)
 ·exact aN hp (mq 0 rfl)
 ·exact aN hp (mq 1 rfl)
 ·exact sN 4 hp (mq 0 rfl)
 ·exact sN 9 hp (mq 1 rfl)
 intro L vs w9 nb hL hC hn E9
 have e0 := wXi hC 0
 have e2 := wXi hC 2
 have e5 := wXi hC 5
 have e7 := wXi hC 7
 have e10 : vs 10 = .pointer (some ⟨nb 10, 0, none⟩) := hn _ (mq 0 rfl)
 have e11 : vs 11 = .pointer (some ⟨nb 11, 0, none⟩) := hn _ (mq 1 rfl)
 have E := E9; simp only [LM, zAb] at E
 rw [zAa hL]
 simp only [SP, Nat.zero_add, Nat.reduceAdd]
 rw [e0, e2, e5, e7, e10, e11]
 generalize nb 10 = b9_10 at E ⊢
 generalize nb 11 = b9_11 at E ⊢
 generalize vs 1 = u9_1
 generalize vs 3 = u9_3
 generalize vs 4 = u9_4
 generalize vs 6 = u9_6
 generalize vs 8 = u9_8
 generalize vs 9 = u9_9
 clear e0 e2 e5 e7 e10 e11 hC hn E9 hL vs L nb
 go_upto_region 6 with (fail)
 refine rg [ip b2 0, Fq.num x1, ip b3 0, Fq.num x2, yT] N6 [] E (fun hp => ⟨?_, ?_, ?_, ?_, ?_, tv⟩) ?_
 ·exact qa b2 0 0 hp (sqo 4)
 ·exact lN 0 2 hp (mq 4 rfl) zAd (sqi 0)
 ·exact qa b3 0 0 hp (sqo 5)
 ·exact lN 0 2 hp (mq 3 rfl) zAd (sqi 2)
 ·exact wXb (Fq.num x1) (Fq.num x2) hp zBy (sqi 1) (sqi 3) fun v v' w h h' => zBz h h' TS.out
 intro L vs w10 nb hL hC hn E10
 have e0 := wXi hC 0
 have e2 := wXi hC 2
 have e4 := wXi hC 4
 have E := E10; simp only [LM, zAb] at E
 rw [zAa hL]
 simp only [SP, Nat.zero_add, Nat.reduceAdd]
 rw [e0, e2, e4]
 generalize vs 1 = u10_1
 generalize vs 3 = u10_3
 clear e0 e2 e4 hC hn E10 hL vs L nb
 go_upto_region 7 with (fail)
 have B11 : Hid (ab ((y1 + y2)) < pw 6) := zB7 hy1.out hy2.out (by omega) (by omega)
 refine rg [ip b2 2, Fq.num y1, ip b3 2, Fq.num y2, Fq.num (y1 + y2), Fq.any] [some (5, Fq.num (y1 + y2)), none, none, none, none, none] [] E (fun hp => ⟨?_, ?_, ?_, ?_, ?_, ?_, tv⟩) ?_
 ·exact qa b2 0 2 hp (sqo 4)
 ·exact lN 2 2 hp (mq 4 rfl) zAd (sqi 0)
 ·exact qa b3 0 2 hp (sqo 5)
 ·exact lN 2 2 hp (mq 3 rfl) zAd (sqi 2)
 ·exact wXb (Fq.num y1) (Fq.num y2) hp zDx (sqi 1) (sqi 3) fun v v' w h h' => exK (zCy h h') B11.out (by omega)
 ·exact sP 4 hp (mq 0 rfl) (sqo 7)
 intro L vs w12 nb hL hC hn E12
 have e0 := wXi hC 0
 have e2 := wXi hC 2
 have E := E12; simp only [LM, zAb] at E
 rw [zAa hL]
 simp only [SP, Nat.zero_add, Nat.reduceAdd]
 rw [e0, e2]
 generalize vs 1 = u12_1
 generalize vs 3 = u12_3
 generalize vs 4 = u12_4
 clear e0 e2 hC hn E12 hL vs L nb
 go_upto_region 8 with (fail)
 have B13 : Hid (ab (((y1 + y2) % M)) < pw 5) := zCq HM0.out hM.out
 refine rg [Fq.num (y1 + y2), ip b1 4, Fq.num M, Fq.num ((y1 + y2) % M), Fq.is (.int .i64 (cmpI ((y1 + y2) % M) 0)), yF] N6 [] E (fun hp => ⟨?_, ?_, ?_, ?_, ?_, ?_, tv⟩) ?_
 ·exact lI 0 hp (mq 0 rfl) (sqo 7) fun us w hl h => zAh hl h
 ·exact qa b1 0 4 hp (sqo 3)
 ·exact lN 4 2 hp (mq 5 rfl) zAd (sqi 1)
 ·exact wXb (Fq.num (y1 + y2)) (Fq.num M) hp zCl (sqi 0) (sqi 2) fun v v' w h h' => zC1 h h' (by have := HM0.out; omega) (Int.lt_of_lt_of_le B11.out (zAg (by omega))) (Int.lt_of_lt_of_le hM.out (zAg (by omega)))
 ·exact wXa (Fq.num ((y1 + y2) % M)) hp zCd (sqi 3) fun v w h => zCa h
 ·exact zAf (F := fun v _ => v = .int .i64 (cmpI ((y1 + y2) % M) 0)) hp fo tv (sqi 4) (fun ρ w hc h => ⟨.bool false, by simp [execOp, go_sem, h, hc, TD.out], rfl⟩)
 intro L vs w14 nb hL hC hn E14
 have e1 := wXi hC 1
 have e4 := wXi hC 4
 have e5 := wXi hC 5
 have E := E14; simp only [LM, zAb] at E
 rw [zAa hL]
 simp only [SP, Nat.zero_add, Nat.reduceAdd]
 rw [e1, e4, e5]
 generalize vs 0 = u14_0
 generalize vs 2 = u14_2
 generalize vs 3 = u14_3
 clear e1 e4 e5 hC hn E14 hL vs L nb
 go_upto_region 10 with (fail)
 have B15 : Hid (ab ((3)) < pw 3) := zBq (by decide)
 have B16 : Hid (ab ((x1 * x1)) < pw 10) := zBp hx1.out hx1.out (by omega)
 have B17 : Hid (ab (((3) * (x1 * x1))) < pw 13) := zBp B15.out B16.out (by omega)
 have B18 : Hid (ab ((((3) * (x1 * x1)) + A)) < pw 14) := zB7 B17.out hA.out (by omega) (by omega)
 refine rg [Fq.num (3), ip b2 0, Fq.num x1, ip b2 0, Fq.num x1, Fq.num (x1 * x1), Fq.num ((3) * (x1 * x1)), ip b1 0, Fq.num A, Fq.num (((3) * (x1 * x1)) + A), Fq.any] [none, some (10, Fq.num (((3) * (x1 * x1)) + A)), none, none, none, none] [] E (fun hp => ⟨?_, ?_, ?_, ?_, ?_, ?_, ?_, ?_, ?_, ?_, ?_, tv⟩) ?_
 ·exact zA7 (F := (Fq.is (.int .i64 3)).P) hp fo tv (zBg) (zAl (fun _ => rfl)) (fun v w h => (by subst h; exact rOfK w (3) (by omega) (by omega)))
 ·exact qa b2 0 0 hp (sqo 4)
 ·exact lN 0 2 hp (mq 4 rfl) zAd (sqi 1)
 ·exact qa b2 0 0 hp (sqo 4)
 ·exact lN 0 2 hp (mq 4 rfl) zAd (sqi 3)
 ·exact wXb (Fq.num x1) (Fq.num x1) hp zCs (sqi 2) (sqi 4) fun v v' w h h' => exK (zCc h h') B16.out (by omega)
 ·exact wXb (Fq.num (3)) (Fq.num (x1 * x1)) hp zCs (sqi 0) (sqi 5) fun v v' w h h' => exK (zCc h h') B17.out (by omega)
 ·exact qa b1 0 0 hp (sqo 3)
 ·exact lN 0 2 hp (mq 5 rfl) zAd (sqi 7)
 ·exact wXb (Fq.num ((3) * (x1 * x1))) (Fq.num A) hp zDx (sqi 6) (sqi 8) fun v v' w h h' => exK (zCy h h') B18.out (by omega)
 ·exact sP 9 hp (mq 1 rfl) (sqo 8)
 intro L vs w19 nb hL hC hn E19
 have e1 := wXi hC 1
 have e3 := wXi hC 3
 have e7 := wXi hC 7
 have E := E19; simp only [LM, zAb] at E
 rw [zAa hL]
 simp only [SP, Nat.zero_add, Nat.reduceAdd]
 rw [e1, e3, e7]
 generalize vs 0 = u19_0
 generalize vs 2 = u19_2
 generalize vs 4 = u19_4
 generalize vs 5 = u19_5
 generalize vs 6 = u19_6
 generalize vs 8 = u19_8
 generalize vs 9 = u19_9
 clear e1 e3 e7 hC hn E19 hL vs L nb
 go_upto_region 11 with (fail)
 refine rg [Fq.num (y1 + y2), ip b1 4, Fq.num M, Fq.num (Int.gcd (y1 + y2) M : Int), Fq.any, Fq.any] N6 [⟨4, 5, 2, Fq.num 0, Fq.num (Int.gcd (y1 + y2) M : Int), none⟩] E (fun hp => ⟨?_, ?_, ?_, ?_, ?_, ?_, tv⟩) ?_
 ·exact lI 0 hp (mq 0 rfl) (sqo 7) fun us w hl h => zAh hl h
 ·exact qa b1 0 4 hp (sqo 3)
 ·exact lN 4 2 hp (mq 5 rfl) zAd (sqi 1)
 ·exact wXb (Fq.num (y1 + y2)) (Fq.num M) hp zHk (sqi 0) (sqi 2) fun v v' w h h' => zHr h h' (Int.lt_of_lt_of_le B11.out (zAg (by omega))) (Int.lt_of_lt_of_le hM.out (zAg (by omega)))
 ·exact aN hp (mq 0 rfl)
 ·exact sN 3 hp (mq 0 rfl)
 intro L vs w20 nb hL hC hn E20
 have e1 := wXi hC 1
 have e4 : vs 4 = .pointer (some ⟨nb 4, 0, none⟩) := hn _ (mq 0 rfl)
 have E := E20; simp only [LM, zAb] at E
 rw [zAa hL]
 simp only [SP, Nat.zero_add, Nat.reduceAdd]
 rw [e1, e4]
 generalize nb 4 = b20_4 at E ⊢
 generalize vs 0 = u20_0
 generalize vs 2 = u20_2
 generalize vs 3 = u20_3
 clear e1 e4 hC hn E20 hL vs L nb
 go_upto_region 12 with (fail)
 have B21 : Hid (ab ((1)) < pw 3) := zBq (by decide)
 refine rg [Fq.num (Int.gcd (y1 + y2) M : Int), Fq.num (1), yF, yT] N7 [] E (fun hp => ⟨?_, ?_, ?_, ?_, tv⟩) ?_
 ·exact lI 0 hp (mq 0 rfl) (sqo 9) fun us w hl h => zAh hl h
 ·exact zA7 (F := (Fq.is (.int .i64 1)).P) hp fo tv (zBg) (zAl (fun _ => rfl)) (fun v w h => (by subst h; exact rOfK w (1) (by omega) (by omega)))
 ·exact wXb (Fq.num (Int.gcd (y1 + y2) M : Int)) (Fq.num (1)) hp zBy (sqi 0) (sqi 1) fun v v' w h h' => zBz h h' TG.out
 ·exact zAf (F := fun v _ => v = .bool false) hp fo tv (sqi 2) (fun ρ w _ h => ⟨.bool true, by simp [execOp, go_sem, h], rfl⟩)
 intro L vs w22 nb hL hC hn E22
 have e2 := wXi hC 2
 have e3 := wXi hC 3
 have E := E22; simp only [LM, zAb] at E
 rw [zAa hL]
 simp only [SP, Nat.zero_add, Nat.reduceAdd]
 rw [e2, e3]
 generalize vs 0 = u22_0
 generalize vs 1 = u22_1
 clear e2 e3 hC hn E22 hL vs L nb
 go_upto_region 13 with (fail)
 refine rg [Fq.num (Int.gcd (y1 + y2) M : Int), Fq.st [.n 0, .n 0, .v (.bool false), .n (Int.gcd (y1 + y2) M : Int), .v (.int .i64 6)], Fq.any] [none, none, none, some (2, Fq.st [.n 0, .n 0, .v (.bool false), .n (Int.gcd (y1 + y2) M : Int), .v (.int .i64 6)]), none, none, none] [] E (fun hp => ⟨?_, ?_, ?_, tv⟩) ?_
 ·exact lI 0 hp (mq 0 rfl) (sqo 9) fun us w hl h => zAh hl h
 ·exact zL1 (z1 := (Int.gcd (y1 + y2) M : Int)) (u2 := 6) hp fo tv (sqi 0) (zAl (fun _ => rfl)) (fun v w h => h)
 ·exact sO 0 1 hp (mq 3 rfl) zA9 (sqo 6)
 intro L vs w23 nb hL hC hn E23
 have E := E23; simp only [LM, zAb] at E
 rw [zAa hL]
 simp only [SP, Nat.zero_add, Nat.reduceAdd]
 generalize vs 0 = u23_0
 generalize vs 1 = u23_1
 clear  hC hn E23 hL vs L nb
 clear TS HM0 TD TG
 obtain ⟨_, _, hc0, hf0⟩ := zAu (E.box 3 rfl)
 have hP0 := hf0
 obtain ⟨r0_p0, r0_q0, _, rfl, _r0_n0, r0_p1, r0_q1, _, rfl, _r0_n1, _, rfl, _, r0_p3, r0_q3, _, rfl, _r0_n3, _, rfl, _, rfl⟩ := hf0
 have c0_0 := hc0 0 (by simp)
 have c0_1 := hc0 1 (by simp)
 have c0_2 := hc0 2 (by simp)
 have c0_3 := hc0 3 (by simp)
 have c0_4 := hc0 4 (by simp)
 have c0_5 := hc0 5 (by simp)
 have c0_6 := hc0 6 (by simp)
 have c0_7 := hc0 7 (by simp)
 simp only [List.getD_cons_zero, List.getD_cons_succ] at c0_0 c0_1 c0_2 c0_3 c0_4 c0_5 c0_6 c0_7
 clear hc0
 clear B7 B8 B11 B13 B15 B16 B17 B18 B21 hM hA hx1 hy1 hx2 hy2
 go_wp2
 refine bodyPost_ret (v := .agg #[r0_p0, r0_q0, r0_p1, r0_q1, .bool false, r0_p3, r0_q3, .int .i64 6]) ?_ rfl ⟨_, rfl, E.below, ⟨_, rfl, hP0⟩⟩
 simp [results, Tryz.results32, go_sem, c0_0, c0_1, c0_2, c0_3, c0_4, c0_5, c0_6, c0_7]

set_option maxRecDepth 100000 in
set_option maxHeartbeats 4000000 in
theorem zNs {w : World} {v v' u : Value} {A B M x1 y1 x2 y2 : Int} (h : (Fq.st [.n A, .n B, .n M]).P v w) (h' : (Fq.st [.n x1, .n y1, .v (.bool false)]).P v' w) (h2 : (Fq.st [.n x2, .n y2, .v (.bool false)]).P u w) (hM : ab M < pw 5) (hA : ab A < pw 5) (hx1 : ab x1 < pw 5) (hy1 : ab y1 < pw 5) (hx2 : ab x2 < pw 5) (hy2 : ab y2 < pw 5) (hM0 : 0 < M) (hs : ¬ x1 = x2) (hg : Int.gcd (x2 - x1) M = 1) :
  Calls Tryz.prog 32 #[v, v', u] w fun e w' => ∃ v', e = .returned v' ∧ Below w.heap.size w w' ∧ (Fq.st [.n (((((y2 - y1) * (bezU ((x2 - x1) % M) M)) * ((y2 - y1) * (bezU ((x2 - x1) % M) M))) - (x1 + x2)) % M), .n (((((y2 - y1) * (bezU ((x2 - x1) % M) M)) * (x1 - (((((y2 - y1) * (bezU ((x2 - x1) % M) M)) * ((y2 - y1) * (bezU ((x2 - x1) % M) M))) - (x1 + x2)) % M))) - y1) % M), .v (.bool false), .n 0, .v (.int .i64 0)]).P v' w' := by
 replace hM := hidd hM
 replace hA := hidd hA
 replace hx1 := hidd hx1
 replace hy1 := hidd hy1
 replace hx2 := hidd hx2
 replace hy2 := hidd hy2
 have HM0 := hidd hM0
 clear hM0
 have TS := hidd (decide_eq_false hs)
 clear hs
 have HG := hidd hg
 have TG : Hid (decide ((Int.gcd (x2 - x1) M : Int) = 1) = true) := decide_eq_true (by rw [hg]; rfl)
 have HU : Hid (ab (bezU ((x2 - x1) % M) M) < pw 5) := zFa HM0.out hM.out
 clear hg
 obtain ⟨_, rfl, hf0⟩ := h
 have hF0 := hf0
 obtain ⟨y0_p0, y0_q0, _, rfl, _y0_n0, y0_p1, y0_q1, _, rfl, _y0_n1, y0_p2, y0_q2, _, rfl, _y0_n2, rfl⟩ := hf0
 obtain ⟨_, rfl, hf1⟩ := h'
 have hF1 := hf1
 obtain ⟨y1_p0, y1_q0, _, rfl, _y1_n0, y1_p1, y1_q1, _, rfl, _y1_n1, _, rfl, _, rfl⟩ := hf1
 obtain ⟨_, rfl, hf2⟩ := h2
 have hF2 := hf2
 obtain ⟨y2_p0, y2_q0, _, rfl, _y2_n0, y2_p1, y2_q1, _, rfl, _y2_n1, _, rfl, _, rfl⟩ := hf2
 obtain ⟨w1, b1, hw1, hb1, hs1, E⟩ := gS w 34 hF0
 obtain ⟨w2, b2, hw2, hb2, hs2, E⟩ := fS E hs1 36 hF1
 obtain ⟨w3, b3, hw3, hb3, hs3, E⟩ := fS E hs2 36 hF2
 obtain ⟨w4, b4, hw4, hb4, hs4, E⟩ := fO E hs3 44 zBt
 go_enter Tryz.func32, Tryz.ntmps32
 go_upto_region 1 with (fail)
 rw [← hw1]
 rw [← hw2]
 rw [← hw3]
 rw [← hw4]
 rw [← hb4]
 rw [← hb3]
 rw [← hb2]
 rw [← hb1]
 clear hw1 hw2 hw3 hw4 hb1 hb2 hb3 hb4 hs4 hs1 hs2 hs3
 refine rg [ip b2 4, yF] N4 [] E (fun hp => ⟨?_, ?_, tv⟩) ?_
 ·exact qa b2 0 4 hp (sqo 4)
 ·exact wXc 4 hp (mq 2 rfl) (sqi 0)
 intro L vs w5 nb hL hC hn E5
 have e0 := wXi hC 0
 have e1 := wXi hC 1
 have E := E5; simp only [LM, zAb] at E
 rw [zAa hL]
 simp only [SP, Nat.zero_add, Nat.reduceAdd]
 rw [e0, e1]
 clear e0 e1 hC hn E5 hL vs L nb
 go_upto_region 3 with (fail)
 refine rg [ip b3 4, yF] N4 [] E (fun hp => ⟨?_, ?_, tv⟩) ?_
 ·exact qa b3 0 4 hp (sqo 5)
 ·exact wXc 4 hp (mq 1 rfl) (sqi 0)
 intro L vs w6 nb hL hC hn E6
 have e0 := wXi hC 0
 have e1 := wXi hC 1
 have E := E6; simp only [LM, zAb] at E
 rw [zAa hL]
 simp only [SP, Nat.zero_add, Nat.reduceAdd]
 rw [e0, e1]
 clear e0 e1 hC hn E6 hL vs L nb
 go_upto_region 5 with (fail)
 have B7 : Hid (ab ((x2 - x1)) < pw 6) := zBi hx2.out hx1.out (by omega) (by omega)
 have B8 : Hid (ab ((y2 - y1)) < pw 6) := zBi hy2.out hy1.out (by omega) (by omega)
 refine rg [ip b3 0, Fq.num x2, ip b2 0, Fq.num x1, Fq.num (x2 - x1), ip b3 2, Fq.num y2, ip b2 2, Fq.num y1, Fq.num (y2 - y1), Fq.any, Fq.any, Fq.any, Fq.any] N4 [⟨10, 12, 2, Fq.num 0, Fq.num (x2 - x1), none⟩, ⟨11, 13, 2, Fq.num 0, Fq.num (y2 - y1), none⟩] E (fun hp => ⟨?_, ?_, ?_, ?_, ?_, ?_, ?_, ?_, ?_, ?_, ?_, ?_, ?_, ?_, tv⟩) ?_
 ·exact qa b3 0 0 hp (sqo 5)
 ·exact lN 0 2 hp (mq 1 rfl) zAd (sqi 0)
 ·exact qa b2 0 0 hp (sqo 4)
 ·exact lN 0 2 hp (mq 2 rfl) zAd (sqi 2)
 ·exact wXb (Fq.num x2) (Fq.num x1) hp zCe (sqi 1) (sqi 3) fun v v' w h h' => exK (zB2 (K := 900) h h' (Int.lt_of_lt_of_le hx2.out (zAg (by omega))) (Int.lt_of_lt_of_le hx1.out (zAg (by omega))) (by omega)) B7.out (by omega)
 ·exact qa b3 0 2 hp (sqo 5)
 ·exact lN 2 2 hp (mq 1 rfl) zAd (sqi 5)
 ·exact qa b2 0 2 hp (sqo 4)
 ·exact lN 2 2 hp (mq 2 rfl) zAd (sqi 7)
 ·exact wXb (Fq.num y2) (Fq.num y1) hp zCe (sqi 6) (sqi 8) fun v v' w h h' => exK (zB2 (K := 900) h h' (Int.lt_of_lt_of_le hy2.out (zAg (by omega))) (Int.lt_of_lt_of_le hy1.out (zAg (by omega))) (by omega)) B8.out (by omega)
 ·exact aN hp (mq 0 rfl)
 ·exact aN hp (mq 1 rfl)
 ·exact sN 4 hp (mq 0 rfl)
 ·exact sN 9 hp (mq 1 rfl)
 intro L vs w9 nb hL hC hn E9
 have e0 := wXi hC 0
 have e2 := wXi hC 2
 have e5 := wXi hC 5
 have e7 := wXi hC 7
 have e10 : vs 10 = .pointer (some ⟨nb 10, 0, none⟩) := hn _ (mq 0 rfl)
 have e11 : vs 11 = .pointer (some ⟨nb 11, 0, none⟩) := hn _ (mq 1 rfl)
 have E := E9; simp only [LM, zAb] at E
 rw [zAa hL]
 simp only [SP, Nat.zero_add, Nat.reduceAdd]
 rw [e0, e2, e5, e7, e10, e11]
 generalize nb 10 = b9_10 at E ⊢
 generalize nb 11 = b9_11 at E ⊢
 generalize vs 1 = u9_1
 generalize vs 3 = u9_3
 generalize vs 4 = u9_4
 generalize vs 6 = u9_6
 generalize vs 8 = u9_8
 generalize vs 9 = u9_9
 clear e0 e2 e5 e7 e10 e11 hC hn E9 hL vs L nb
 go_upto_region 6 with (fail)
 refine rg [ip b2 0, Fq.num x1, ip b3 0, Fq.num x2, yF] N6 [] E (fun hp => ⟨?_, ?_, ?_, ?_, ?_, tv⟩) ?_
 ·exact qa b2 0 0 hp (sqo 4)
 ·exact lN 0 2 hp (mq 4 rfl) zAd (sqi 0)
 ·exact qa b3 0 0 hp (sqo 5)
 ·exact lN 0 2 hp (mq 3 rfl) zAd (sqi 2)
 ·exact wXb (Fq.num x1) (Fq.num x2) hp zBy (sqi 1) (sqi 3) fun v v' w h h' => zBz h h' TS.out
 intro L vs w10 nb hL hC hn E10
 have e0 := wXi hC 0
 have e2 := wXi hC 2
 have e4 := wXi hC 4
 have E := E10; simp only [LM, zAb] at E
 rw [zAa hL]
 simp only [SP, Nat.zero_add, Nat.reduceAdd]
 rw [e0, e2, e4]
 generalize vs 1 = u10_1
 generalize vs 3 = u10_3
 clear e0 e2 e4 hC hn E10 hL vs L nb
 go_upto_region 11 with (fail)
 refine rg [Fq.num (x2 - x1), ip b1 4, Fq.num M, Fq.num (Int.gcd (x2 - x1) M : Int), Fq.any, Fq.any] N6 [⟨4, 5, 2, Fq.num 0, Fq.num (Int.gcd (x2 - x1) M : Int), none⟩] E (fun hp => ⟨?_, ?_, ?_, ?_, ?_, ?_, tv⟩) ?_
 ·exact lI 0 hp (mq 0 rfl) (sqo 7) fun us w hl h => zAh hl h
 ·exact qa b1 0 4 hp (sqo 3)
 ·exact lN 4 2 hp (mq 5 rfl) zAd (sqi 1)
 ·exact wXb (Fq.num (x2 - x1)) (Fq.num M) hp zHk (sqi 0) (sqi 2) fun v v' w h h' => zHr h h' (Int.lt_of_lt_of_le B7.out (zAg (by omega))) (Int.lt_of_lt_of_le hM.out (zAg (by omega)))
 ·exact aN hp (mq 0 rfl)
 ·exact sN 3 hp (mq 0 rfl)
 intro L vs w11 nb hL hC hn E11
 have e1 := wXi hC 1
 have e4 : vs 4 = .pointer (some ⟨nb 4, 0, none⟩) := hn _ (mq 0 rfl)
 have E := E11; simp only [LM, zAb] at E
 rw [zAa hL]
 simp only [SP, Nat.zero_add, Nat.reduceAdd]
 rw [e1, e4]
 generalize nb 4 = b11_4 at E ⊢
 generalize vs 0 = u11_0
 generalize vs 2 = u11_2
 generalize vs 3 = u11_3
 clear e1 e4 hC hn E11 hL vs L nb
 go_upto_region 12 with (fail)
 have B12 : Hid (ab ((1)) < pw 3) := zBq (by decide)
 refine rg [Fq.num (Int.gcd (x2 - x1) M : Int), Fq.num (1), yT, yF] N7 [] E (fun hp => ⟨?_, ?_, ?_, ?_, tv⟩) ?_
 ·exact lI 0 hp (mq 0 rfl) (sqo 9) fun us w hl h => zAh hl h
 ·exact zA7 (F := (Fq.is (.int .i64 1)).P) hp fo tv (zBg) (zAl (fun _ => rfl)) (fun v w h => (by subst h; exact rOfK w (1) (by omega) (by omega)))
 ·exact wXb (Fq.num (Int.gcd (x2 - x1) M : Int)) (Fq.num (1)) hp zBy (sqi 0) (sqi 1) fun v v' w h h' => zBz h h' TG.out
 ·exact zAf (F := fun v _ => v = .bool true) hp fo tv (sqi 2) (fun ρ w _ h => ⟨.bool false, by simp [execOp, go_sem, h], rfl⟩)
 intro L vs w13 nb hL hC hn E13
 have e2 := wXi hC 2
 have e3 := wXi hC 3
 have E := E13; simp only [LM, zAb] at E
 rw [zAa hL]
 simp only [SP, Nat.zero_add, Nat.reduceAdd]
 rw [e2, e3]
 generalize vs 0 = u13_0
 generalize vs 1 = u13_1
 clear e2 e3 hC hn E13 hL vs L nb
 go_upto_region 14 with (fail)
 refine rg [Fq.num (x2 - x1), ip b1 4, Fq.num M, Fq.tup2 (Fq.num (bezU ((x2 - x1) % M) M)) (Fq.is (.int .i64 0)), Fq.tup2 (Fq.num (bezU ((x2 - x1) % M) M)) (Fq.is (.int .i64 0)), Fq.num (bezU ((x2 - x1) % M) M), Fq.is (.int .i64 0), Fq.any, Fq.any, Fq.is (.int .i64 0)] N7 [⟨7, 8, 2, Fq.num 0, Fq.num (bezU ((x2 - x1) % M) M), none⟩] E (fun hp => ⟨?_, ?_, ?_, ?_, ?_, ?_, ?_, ?_, ?_, ?_, tv⟩) ?_
 ·exact lI 0 hp (mq 1 rfl) (sqo 7) fun us w hl h => zAh hl h
 ·exact qa b1 0 4 hp (sqo 3)
 ·exact lN 4 2 hp (mq 6 rfl) zAd (sqi 1)
 ·exact wXb (Fq.num (x2 - x1)) (Fq.num M) hp zKh (sqi 0) (sqi 2) fun v v' w h h' => exUInvP h h' (Int.lt_of_lt_of_le B7.out (zAg (by omega))) (Int.lt_of_lt_of_le hM.out (zAg (by omega))) HM0.out (by rw [zGq]; exact HG.out)
 ·exact zAe hp fo tv (sqi 3)
 ·exact zA5 hp fo tv (sqi 4) (fun v1 v2 w h1 h2 => ⟨_, rfl, h1⟩)
 ·exact zA5 hp fo tv (sqi 4) (fun v1 v2 w h1 h2 => ⟨_, rfl, h2⟩)
 ·exact aN hp (mq 0 rfl)
 ·exact sN 5 hp (mq 0 rfl)
 ·exact zAo hp fo tv (sqi 6)
 intro L vs w14 nb hL hC hn E14
 have e1 := wXi hC 1
 have e6 := wXi hC 6
 have e9 := wXi hC 9
 have e7 : vs 7 = .pointer (some ⟨nb 7, 0, none⟩) := hn _ (mq 0 rfl)
 have E := E14; simp only [LM, zAb] at E
 rw [zAa hL]
 simp only [SP, Nat.zero_add, Nat.reduceAdd]
 rw [e1, e6, e9, e7]
 generalize nb 7 = b14_7 at E ⊢
 generalize vs 0 = u14_0
 generalize vs 2 = u14_2
 generalize vs 3 = u14_3
 generalize vs 4 = u14_4
 generalize vs 5 = u14_5
 clear e1 e6 e9 e7 hC hn E14 hL vs L nb
 go_upto_region 15 with (fail)
 have B15 : Hid (ab (((y2 - y1) * (bezU ((x2 - x1) % M) M))) < pw 11) := zBp B8.out HU.out (by omega)
 refine rg [Fq.num (y2 - y1), Fq.num (bezU ((x2 - x1) % M) M), Fq.num ((y2 - y1) * (bezU ((x2 - x1) % M) M)), Fq.any, Fq.any] N8 [⟨3, 4, 2, Fq.num 0, Fq.num ((y2 - y1) * (bezU ((x2 - x1) % M) M)), none⟩] E (fun hp => ⟨?_, ?_, ?_, ?_, ?_, tv⟩) ?_
 ·exact lI 0 hp (mq 3 rfl) (sqo 8) fun us w hl h => zAh hl h
 ·exact lI 0 hp (mq 0 rfl) (sqo 10) fun us w hl h => zAh hl h
 ·exact wXb (Fq.num (y2 - y1)) (Fq.num (bezU ((x2 - x1) % M) M)) hp zCs (sqi 0) (sqi 1) fun v v' w h h' => exK (zCc h h') B15.out (by omega)
 ·exact aN hp (mq 0 rfl)
 ·exact sN 2 hp (mq 0 rfl)
 intro L vs w16 nb hL hC hn E16
 have e3 : vs 3 = .pointer (some ⟨nb 3, 0, none⟩) := hn _ (mq 0 rfl)
 have E := E16; simp only [LM, zAb] at E
 rw [zAa hL]
 simp only [SP, Nat.zero_add, Nat.reduceAdd]
 rw [e3]
 generalize nb 3 = b16_3 at E ⊢
 generalize vs 0 = u16_0
 generalize vs 1 = u16_1
 generalize vs 2 = u16_2
 clear e3 hC hn E16 hL vs L nb
 go_upto_region 16 with (fail)
 have B17 : Hid (ab ((((y2 - y1) * (bezU ((x2 - x1) % M) M)) * ((y2 - y1) * (bezU ((x2 - x1) % M) M)))) < pw 22) := zBp B15.out B15.out (by omega)
 have B18 : Hid (ab ((x1 + x2)) < pw 6) := zB7 hx1.out hx2.out (by omega) (by omega)
 have B19 : Hid (ab (((((y2 - y1) * (bezU ((x2 - x1) % M) M)) * ((y2 - y1) * (bezU ((x2 - x1) % M) M))) - (x1 + x2))) < pw 23) := zBi B17.out B18.out (by omega) (by omega)
 have B20 : Hid (ab ((((((y2 - y1) * (bezU ((x2 - x1) % M) M)) * ((y2 - y1) * (bezU ((x2 - x1) % M) M))) - (x1 + x2)) % M)) < pw 5) := zCq HM0.out hM.out
 refine rg [Fq.num ((y2 - y1) * (bezU ((x2 - x1) % M) M)), Fq.num ((y2 - y1) * (bezU ((x2 - x1) % M) M)), Fq.num (((y2 - y1) * (bezU ((x2 - x1) % M) M)) * ((y2 - y1) * (bezU ((x2 - x1) % M) M))), ip b2 0, Fq.num x1, ip b3 0, Fq.num x2, Fq.num (x1 + x2), Fq.num ((((y2 - y1) * (bezU ((x2 - x1) % M) M)) * ((y2 - y1) * (bezU ((x2 - x1) % M) M))) - (x1 + x2)), ip b1 4, Fq.num M, Fq.num (((((y2 - y1) * (bezU ((x2 - x1) % M) M)) * ((y2 - y1) * (bezU ((x2 - x1) % M) M))) - (x1 + x2)) % M), Fq.any, Fq.any] N9 [⟨12, 13, 2, Fq.num 0, Fq.num (((((y2 - y1) * (bezU ((x2 - x1) % M) M)) * ((y2 - y1) * (bezU ((x2 - x1) % M) M))) - (x1 + x2)) % M), none⟩] E (fun hp => ⟨?_, ?_, ?_, ?_, ?_, ?_, ?_, ?_, ?_, ?_, ?_, ?_, ?_, ?_, tv⟩) ?_
 ·exact lI 0 hp (mq 0 rfl) (sqo 12) fun us w hl h => zAh hl h
 ·exact lI 0 hp (mq 0 rfl) (sqo 12) fun us w hl h => zAh hl h
 ·exact wXb (Fq.num ((y2 - y1) * (bezU ((x2 - x1) % M) M))) (Fq.num ((y2 - y1) * (bezU ((x2 - x1) % M) M))) hp zCs (sqi 0) (sqi 1) fun v v' w h h' => exK (zCc h h') B17.out (by omega)
 ·exact qa b2 0 0 hp (sqo 4)
 ·exact lN 0 2 hp (mq 7 rfl) zAd (sqi 3)
 ·exact qa b3 0 0 hp (sqo 5)
 ·exact lN 0 2 hp (mq 6 rfl) zAd (sqi 5)
 ·exact wXb (Fq.num x1) (Fq.num x2) hp zDx (sqi 4) (sqi 6) fun v v' w h h' => exK (zCy h h') B18.out (by omega)
 ·exact wXb (Fq.num (((y2 - y1) * (bezU ((x2 - x1) % M) M)) * ((y2 - y1) * (bezU ((x2 - x1) % M) M)))) (Fq.num (x1 + x2)) hp zCe (sqi 2) (sqi 7) fun v v' w h h' => exK (zB2 (K := 900) h h' (Int.lt_of_lt_of_le B17.out (zAg (by omega))) (Int.lt_of_lt_of_le B18.out (zAg (by omega))) (by omega)) B19.out (by omega)
 ·exact qa b1 0 4 hp (sqo 3)
 ·exact lN 4 2 hp (mq 8 rfl) zAd (sqi 9)
 ·exact wXb (Fq.num ((((y2 - y1) * (bezU ((x2 - x1) % M) M)) * ((y2 - y1) * (bezU ((x2 - x1) % M) M))) - (x1 + x2))) (Fq.num M) hp zCl (sqi 8) (sqi 10) fun v v' w h h' => zC1 h h' (by have := HM0.out; omega) (Int.lt_of_lt_of_le B19.out (zAg (by omega))) (Int.lt_of_lt_of_le hM.out (zAg (by omega)))
 ·exact aN hp (mq 0 rfl)
 ·exact sN 11 hp (mq 0 rfl)
 intro L vs w21 nb hL hC hn E21
 have e3 := wXi hC 3
 have e5 := wXi hC 5
 have e9 := wXi hC 9
 have e12 : vs 12 = .pointer (some ⟨nb 12, 0, none⟩) := hn _ (mq 0 rfl)
 have E := E21; simp only [LM, zAb] at E
 rw [zAa hL]
 simp only [SP, Nat.zero_add, Nat.reduceAdd]
 rw [e3, e5, e9, e12]
 generalize nb 12 = b21_12 at E ⊢
 generalize vs 0 = u21_0
 generalize vs 1 = u21_1
 generalize vs 2 = u21_2
 generalize vs 4 = u21_4
 generalize vs 6 = u21_6
 generalize vs 7 = u21_7
 generalize vs 8 = u21_8
 generalize vs 10 = u21_10
 generalize vs 11 = u21_11
 clear e3 e5 e9 e12 hC hn E21 hL vs L nb
 go_upto_region 17 with (fail)
 have B22 : Hid (ab ((x1 - (((((y2 - y1) * (bezU ((x2 - x1) % M) M)) * ((y2 - y1) * (bezU ((x2 - x1) % M) M))) - (x1 + x2)) % M))) < pw 6) := zBi hx1.out B20.out (by omega) (by omega)
 have B23 : Hid (ab ((((y2 - y1) * (bezU ((x2 - x1) % M) M)) * (x1 - (((((y2 - y1) * (bezU ((x2 - x1) % M) M)) * ((y2 - y1) * (bezU ((x2 - x1) % M) M))) - (x1 + x2)) % M)))) < pw 17) := zBp B15.out B22.out (by omega)
 have B24 : Hid (ab (((((y2 - y1) * (bezU ((x2 - x1) % M) M)) * (x1 - (((((y2 - y1) * (bezU ((x2 - x1) % M) M)) * ((y2 - y1) * (bezU ((x2 - x1) % M) M))) - (x1 + x2)) % M))) - y1)) < pw 18) := zBi B23.out hy1.out (by omega) (by omega)
 have B25 : Hid (ab ((((((y2 - y1) * (bezU ((x2 - x1) % M) M)) * (x1 - (((((y2 - y1) * (bezU ((x2 - x1) % M) M)) * ((y2 - y1) * (bezU ((x2 - x1) % M) M))) - (x1 + x2)) % M))) - y1) % M)) < pw 5) := zCq HM0.out hM.out
 refine rg [Fq.num ((y2 - y1) * (bezU ((x2 - x1) % M) M)), ip b2 0, Fq.num x1, Fq.num (((((y2 - y1) * (bezU ((x2 - x1) % M) M)) * ((y2 - y1) * (bezU ((x2 - x1) % M) M))) - (x1 + x2)) % M), Fq.num (x1 - (((((y2 - y1) * (bezU ((x2 - x1) % M) M)) * ((y2 - y1) * (bezU ((x2 - x1) % M) M))) - (x1 + x2)) % M)), Fq.num (((y2 - y1) * (bezU ((x2 - x1) % M) M)) * (x1 - (((((y2 - y1) * (bezU ((x2 - x1) % M) M)) * ((y2 - y1) * (bezU ((x2 - x1) % M) M))) - (x1 + x2)) % M))), ip b2 2, Fq.num y1, Fq.num ((((y2 - y1) * (bezU ((x2 - x1) % M) M)) * (x1 - (((((y2 - y1) * (bezU ((x2 - x1) % M) M)) * ((y2 - y1) * (bezU ((x2 - x1) % M) M))) - (x1 + x2)) % M))) - y1), ip b1 4, Fq.num M, Fq.num (((((y2 - y1) * (bezU ((x2 - x1) % M) M)) * (x1 - (((((y2 - y1) * (bezU ((x2 - x1) % M) M)) * ((y2 - y1) * (bezU ((x2 - x1) % M) M))) - (x1 + x2)) % M))) - y1) % M), Fq.any, Fq.any] N10 [⟨12, 13, 2, Fq.num 0, Fq.num (((((y2 - y1) * (bezU ((x2 - x1) % M) M)) * (x1 - (((((y2 - y1) * (bezU ((x2 - x1) % M) M)) * ((y2 - y1) * (bezU ((x2 - x1) % M) M))) - (x1 + x2)) % M))) - y1) % M), none⟩] E (fun hp => ⟨?_, ?_, ?_, ?_, ?_, ?_, ?_, ?_, ?_, ?_, ?_, ?_, ?_, ?_, tv⟩) ?_
 ·exact lI 0 hp (mq 1 rfl) (sqo 12) fun us w hl h => zAh hl h
 ·exact qa b2 0 0 hp (sqo 4)
 ·exact lN 0 2 hp (mq 8 rfl) zAd (sqi 1)
 ·exact lI 0 hp (mq 0 rfl) (sqo 13) fun us w hl h => zAh hl h
 ·exact wXb (Fq.num x1) (Fq.num (((((y2 - y1) * (bezU ((x2 - x1) % M) M)) * ((y2 - y1) * (bezU ((x2 - x1) % M) M))) - (x1 + x2)) % M)) hp zCe (sqi 2) (sqi 3) fun v v' w h h' => exK (zB2 (K := 900) h h' (Int.lt_of_lt_of_le hx1.out (zAg (by omega))) (Int.lt_of_lt_of_le B20.out (zAg (by omega))) (by omega)) B22.out (by omega)
 ·exact wXb (Fq.num ((y2 - y1) * (bezU ((x2 - x1) % M) M))) (Fq.num (x1 - (((((y2 - y1) * (bezU ((x2 - x1) % M) M)) * ((y2 - y1) * (bezU ((x2 - x1) % M) M))) - (x1 + x2)) % M))) hp zCs (sqi 0) (sqi 4) fun v v' w h h' => exK (zCc h h') B23.out (by omega)
 ·exact qa b2 0 2 hp (sqo 4)
 ·exact lN 2 2 hp (mq 8 rfl) zAd (sqi 6)
 ·exact wXb (Fq.num (((y2 - y1) * (bezU ((x2 - x1) % M) M)) * (x1 - (((((y2 - y1) * (bezU ((x2 - x1) % M) M)) * ((y2 - y1) * (bezU ((x2 - x1) % M) M))) - (x1 + x2)) % M)))) (Fq.num y1) hp zCe (sqi 5) (sqi 7) fun v v' w h h' => exK (zB2 (K := 900) h h' (Int.lt_of_lt_of_le B23.out (zAg (by omega))) (Int.lt_of_lt_of_le hy1.out (zAg (by omega))) (by omega)) B24.out (by omega)
 ·exact qa b1 0 4 hp (sqo 3)
 ·exact lN 4 2 hp (mq 9 rfl) zAd (sqi 9)
 ·exact wXb (Fq.num ((((y2 - y1) * (bezU ((x2 - x1) % M) M)) * (x1 - (((((y2 - y1) * (bezU ((x2 - x1) % M) M)) * ((y2 - y1) * (bezU ((x2 - x1) % M) M))) - (x1 + x2)) % M))) - y1)) (Fq.num M) hp zCl (sqi 8) (sqi 10) fun v v' w h h' => zC1 h h' (by have := HM0.out; omega) (Int.lt_of_lt_of_le B24.out (zAg (by omega))) (Int.lt_of_lt_of_le hM.out (zAg (by omega)))
 ·exact aN hp (mq 0 rfl)
 ·exact sN 11 hp (mq 0 rfl)
 intro L vs w26 nb hL hC hn E26
 have e1 := wXi hC 1
 have e6 := wXi hC 6
 have e9 := wXi hC 9
 have e12 : vs 12 = .pointer (some ⟨nb 12, 0, none⟩) := hn _ (mq 0 rfl)
 have E := E26; simp only [LM, zAb] at E
 rw [zAa hL]
 simp only [SP, Nat.zero_add, Nat.reduceAdd]
 rw [e1, e6, e9, e12]
 generalize nb 12 = b26_12 at E ⊢
 generalize vs 0 = u26_0
 generalize vs 2 = u26_2
 generalize vs 3 = u26_3
 generalize vs 4 = u26_4
 generalize vs 5 = u26_5
 generalize vs 7 = u26_7
 generalize vs 8 = u26_8
 generalize vs 10 = u26_10
 generalize vs 11 = u26_11
 clear e1 e6 e9 e12 hC hn E26 hL vs L nb
 go_upto_region 18 with (fail)
 refine rg [Fq.num (((((y2 - y1) * (bezU ((x2 - x1) % M) M)) * ((y2 - y1) * (bezU ((x2 - x1) % M) M))) - (x1 + x2)) % M), Fq.num (((((y2 - y1) * (bezU ((x2 - x1) % M) M)) * (x1 - (((((y2 - y1) * (bezU ((x2 - x1) % M) M)) * ((y2 - y1) * (bezU ((x2 - x1) % M) M))) - (x1 + x2)) % M))) - y1) % M), Fq.st [.n (((((y2 - y1) * (bezU ((x2 - x1) % M) M)) * ((y2 - y1) * (bezU ((x2 - x1) % M) M))) - (x1 + x2)) % M), .n (((((y2 - y1) * (bezU ((x2 - x1) % M) M)) * (x1 - (((((y2 - y1) * (bezU ((x2 - x1) % M) M)) * ((y2 - y1) * (bezU ((x2 - x1) % M) M))) - (x1 + x2)) % M))) - y1) % M), .v (.bool false)], Fq.st [.n (((((y2 - y1) * (bezU ((x2 - x1) % M) M)) * ((y2 - y1) * (bezU ((x2 - x1) % M) M))) - (x1 + x2)) % M), .n (((((y2 - y1) * (bezU ((x2 - x1) % M) M)) * (x1 - (((((y2 - y1) * (bezU ((x2 - x1) % M) M)) * ((y2 - y1) * (bezU ((x2 - x1) % M) M))) - (x1 + x2)) % M))) - y1) % M), .v (.bool false), .n 0, .v (.int .i64 0)], Fq.any] [none, none, none, none, none, none, none, some (4, Fq.st [.n (((((y2 - y1) * (bezU ((x2 - x1) % M) M)) * ((y2 - y1) * (bezU ((x2 - x1) % M) M))) - (x1 + x2)) % M), .n (((((y2 - y1) * (bezU ((x2 - x1) % M) M)) * (x1 - (((((y2 - y1) * (bezU ((x2 - x1) % M) M)) * ((y2 - y1) * (bezU ((x2 - x1) % M) M))) - (x1 + x2)) % M))) - y1) % M), .v (.bool false), .n 0, .v (.int .i64 0)]), none, none, none] [] E (fun hp => ⟨?_, ?_, ?_, ?_, ?_, tv⟩) ?_
 ·exact lI 0 hp (mq 1 rfl) (sqo 13) fun us w hl h => zAh hl h
 ·exact lI 0 hp (mq 0 rfl) (sqo 14) fun us w hl h => zAh hl h
 ·exact zFx (z0 := (((((y2 - y1) * (bezU ((x2 - x1) % M) M)) * ((y2 - y1) * (bezU ((x2 - x1) % M) M))) - (x1 + x2)) % M)) (z1 := (((((y2 - y1) * (bezU ((x2 - x1) % M) M)) * (x1 - (((((y2 - y1) * (bezU ((x2 - x1) % M) M)) * ((y2 - y1) * (bezU ((x2 - x1) % M) M))) - (x1 + x2)) % M))) - y1) % M)) hp fo tv (sqi 0) (sqi 1) (fun v w h => h)
 ·exact zEx (z0_0 := (((((y2 - y1) * (bezU ((x2 - x1) % M) M)) * ((y2 - y1) * (bezU ((x2 - x1) % M) M))) - (x1 + x2)) % M)) (z0_1 := (((((y2 - y1) * (bezU ((x2 - x1) % M) M)) * (x1 - (((((y2 - y1) * (bezU ((x2 - x1) % M) M)) * ((y2 - y1) * (bezU ((x2 - x1) % M) M))) - (x1 + x2)) % M))) - y1) % M)) (u0_2 := false) hp fo tv (sqi 2) (fun v w h => h)
 ·exact sO 0 3 hp (mq 7 rfl) zA9 (sqo 6)
 intro L vs w27 nb hL hC hn E27
 have E := E27; simp only [LM, zAb] at E
 rw [zAa hL]
 simp only [SP, Nat.zero_add, Nat.reduceAdd]
 generalize vs 0 = u27_0
 generalize vs 1 = u27_1
 generalize vs 2 = u27_2
 generalize vs 3 = u27_3
 clear  hC hn E27 hL vs L nb
 clear TS HM0 HG TG
 obtain ⟨_, _, hc0, hf0⟩ := zAu (E.box 7 rfl)
 have hP0 := hf0
 obtain ⟨r0_p0, r0_q0, _, rfl, _r0_n0, r0_p1, r0_q1, _, rfl, _r0_n1, _, rfl, _, r0_p3, r0_q3, _, rfl, _r0_n3, _, rfl, _, rfl⟩ := hf0
 have c0_0 := hc0 0 (by simp)
 have c0_1 := hc0 1 (by simp)
 have c0_2 := hc0 2 (by simp)
 have c0_3 := hc0 3 (by simp)
 have c0_4 := hc0 4 (by simp)
 have c0_5 := hc0 5 (by simp)
 have c0_6 := hc0 6 (by simp)
 have c0_7 := hc0 7 (by simp)
 simp only [List.getD_cons_zero, List.getD_cons_succ] at c0_0 c0_1 c0_2 c0_3 c0_4 c0_5 c0_6 c0_7
 clear hc0
 clear B7 B8 B12 B15 B17 B18 B19 B20 B22 B23 B24 B25 hM hA hx1 hy1 hx2 hy2 HU
 go_wp2
 refine bodyPost_ret (v := .agg #[r0_p0, r0_q0, r0_p1, r0_q1, .bool false, r0_p3, r0_q3, .int .i64 0]) ?_ rfl ⟨_, rfl, E.below, ⟨_, rfl, hP0⟩⟩
 simp [results, Tryz.results32, go_sem, c0_0, c0_1, c0_2, c0_3, c0_4, c0_5, c0_6, c0_7]

set_option maxRecDepth 100000 in
set_option maxHeartbeats 4000000 in
theorem zNt {w : World} {v v' u : Value} {A B M x1 y1 x2 y2 : Int} (h : (Fq.st [.n A, .n B, .n M]).P v w) (h' : (Fq.st [.n x1, .n y1, .v (.bool false)]).P v' w) (h2 : (Fq.st [.n x2, .n y2, .v (.bool false)]).P u w) (hM : ab M < pw 5) (hA : ab A < pw 5) (hx1 : ab x1 < pw 5) (hy1 : ab y1 < pw 5) (hx2 : ab x2 < pw 5) (hy2 : ab y2 < pw 5) (hM0 : 0 < M) (hs : ¬ x1 = x2) (hg : ¬ Int.gcd (x2 - x1) M = 1) :
  Calls Tryz.prog 32 #[v, v', u] w fun e w' => ∃ v', e = .returned v' ∧ Below w.heap.size w w' ∧ (Fq.st [.n 0, .n 0, .v (.bool false), .n (Int.gcd (x2 - x1) M : Int), .v (.int .i64 6)]).P v' w' := by
 replace hM := hidd hM
 replace hA := hidd hA
 replace hx1 := hidd hx1
 replace hy1 := hidd hy1
 replace hx2 := hidd hx2
 replace hy2 := hidd hy2
 have HM0 := hidd hM0
 clear hM0
 have TS := hidd (decide_eq_false hs)
 clear hs
 have TG : Hid (decide ((Int.gcd (x2 - x1) M : Int) = 1) = false) := decide_eq_false (by omega)
 clear hg
 obtain ⟨_, rfl, hf0⟩ := h
 have hF0 := hf0
 obtain ⟨y0_p0, y0_q0, _, rfl, _y0_n0, y0_p1, y0_q1, _, rfl, _y0_n1, y0_p2, y0_q2, _, rfl, _y0_n2, rfl⟩ := hf0
 obtain ⟨_, rfl, hf1⟩ := h'
 have hF1 := hf1
 obtain ⟨y1_p0, y1_q0, _, rfl, _y1_n0, y1_p1, y1_q1, _, rfl, _y1_n1, _, rfl, _, rfl⟩ := hf1
 obtain ⟨_, rfl, hf2⟩ := h2
 have hF2 := hf2
 obtain ⟨y2_p0, y2_q0, _, rfl, _y2_n0, y2_p1, y2_q1, _, rfl, _y2_n1, _, rfl, _, rfl⟩ := hf2
 obtain ⟨w1, b1, hw1, hb1, hs1, E⟩ := gS w 34 hF0
 obtain ⟨w2, b2, hw2, hb2, hs2, E⟩ := fS E hs1 36 hF1
 obtain ⟨w3, b3, hw3, hb3, hs3, E⟩ := fS E hs2 36 hF2
 obtain ⟨w4, b4, hw4, hb4, hs4, E⟩ := fO E hs3 44 zBt
 go_enter Tryz.func32, Tryz.ntmps32
 go_upto_region 1 with (fail)
 rw [← hw1]
 rw [← hw2]
 rw [← hw3]
 rw [← hw4]
 rw [← hb4]
 rw [← hb3]
 rw [← hb2]
 rw [← hb1]
 clear hw1 hw2 hw3 hw4 hb1 hb2 hb3 hb4 hs4 hs1 hs2 hs3
 refine rg [ip b2 4, yF] N4 [] E (fun hp => ⟨?_, ?_, tv⟩) ?_
 ·exact qa b2 0 4 hp (sqo 4)
 ·exact wXc 4 hp (mq 2 rfl) (sqi 0)
 intro L vs w5 nb hL hC hn E5
 have e0 := wXi hC 0
 have e1 := wXi hC 1
 have E := E5; simp only [LM, zAb] at E
 rw [zAa hL]
 simp only [SP, Nat.zero_add, Nat.reduceAdd]
 rw [e0, e1]
 clear e0 e1 hC hn E5 hL vs L nb
 go_upto_region 3 with (fail)
 refine rg [ip b3 4, yF] N4 [] E (fun hp => ⟨?_, ?_, tv⟩) ?_
 ·exact qa b3 0 4 hp (sqo 5)
 ·exact wXc 4 hp (mq 1 rfl) (sqi 0)
 intro L vs w6 nb hL hC hn E6
 have e0 := wXi hC 0
 have e1 := wXi hC 1
 have E := E6; simp only [LM, zAb] at E
 rw [zAa hL]
 simp only [SP, Nat.zero_add, Nat.reduceAdd]
 rw [e0, e1]
 clear e0 e1 hC hn E6 hL vs L nb
 go_upto_region 5 with (fail)
 have B7 : Hid (ab ((x2 - x1)) < pw 6) := zBi hx2.out hx1.out (by omega) (by omega)
 have B8 : Hid (ab ((y2 - y1)) < pw 6) := zBi hy2.out hy1.out (by omega) (by omega)
 refine rg [ip b3 0, Fq.num x2, ip b2 0, Fq.num x1, Fq.num (x2 - x1), ip b3 2, Fq.num y2, ip b2 2, Fq.num y1, Fq.num (y2 - y1), Fq.any, Fq.any, Fq.any, Fq.any] N4 [⟨10, 12, 2, Fq.num 0, Fq.num (x2 - x1), none⟩, ⟨11, 13, 2, Fq.num 0, Fq.num (y2 - y1), none⟩] E (fun hp => ⟨?_, ?_, ?_, ?_, ?_, ?_, ?_, ?_, ?_, ?_, ?_, ?_, ?_, ?_, tv⟩) ?_
 ·exact qa b3 0 0 hp (sqo 5)
 ·exact lN 0 2 hp (mq 1 rfl) zAd (sqi 0)
 ·exact qa b2 0 0 hp (sqo 4)
 ·exact lN 0 2 hp (mq 2 rfl) zAd (sqi 2)
 ·exact wXb (Fq.num x2) (Fq.num x1) hp zCe (sqi 1) (sqi 3) fun v v' w h h' => exK (zB2 (K := 900) h h' (Int.lt_of_lt_of_le hx2.out (zAg (by omega))) (Int.lt_of_lt_of_le hx1.out (zAg (by omega))) (by omega)) B7.out (by omega)
 ·exact qa b3 0 2 hp (sqo 5)
 ·exact lN 2 2 hp (mq 1 rfl) zAd (sqi 5)
 ·exact qa b2 0 2 hp (sqo 4)
 ·exact lN 2 2 hp (mq 2 rfl) zAd (sqi 7)
 ·exact wXb (Fq.num y2) (Fq.num y1) hp zCe (sqi 6) (sqi 8) fun v v' w h h' => exK (zB2 (K := 900) h h' (Int.lt_of_lt_of_le hy2.out (zAg (by omega))) (Int.lt_of_lt_of_le hy1.out (zAg (by omega))) (by omega)) B8.out (by omega)
 ·exact aN hp (mq 0 rfl)
 ·exact aN hp (mq 1 rfl)
 ·exact sN 4 hp (mq 0 rfl)
 ·exact sN 9 hp (mq 1 rfl)
 intro L vs w9 nb hL hC hn E9
 have e0 := wXi hC 0
 have e2 := wXi hC 2
 have e5 := wXi hC 5
 have e7 := wXi hC 7
 have e10 : vs 10 = .pointer (some ⟨nb 10, 0, none⟩) := hn _ (mq 0 rfl)
 have e11 : vs 11 = .pointer (some ⟨nb 11, 0, none⟩) := hn _ (mq 1 rfl)
 have E := E9; simp only [LM, zAb] at E
 rw [zAa hL]
 simp only [SP, Nat.zero_add, Nat.reduceAdd]
 rw [e0, e2, e5, e7, e10, e11]
 generalize nb 10 = b9_10 at E ⊢
 generalize nb 11 = b9_11 at E ⊢
 generalize vs 1 = u9_1
 generalize vs 3 = u9_3
 generalize vs 4 = u9_4
 generalize vs 6 = u9_6
 generalize vs 8 = u9_8
 generalize vs 9 = u9_9
 clear e0 e2 e5 e7 e10 e11 hC hn E9 hL vs L nb
 go_upto_region 6 with (fail)
 refine rg [ip b2 0, Fq.num x1, ip b3 0, Fq.num x2, yF] N6 [] E (fun hp => ⟨?_, ?_, ?_, ?_, ?_, tv⟩) ?_
 ·exact qa b2 0 0 hp (sqo 4)
 ·exact lN 0 2 hp (mq 4 rfl) zAd (sqi 0)
 ·exact qa b3 0 0 hp (sqo 5)
 ·exact lN 0 2 hp (mq 3 rfl) zAd (sqi 2)
 ·exact wXb (Fq.num x1) (Fq.num x2) hp zBy (sqi 1) (sqi 3) fun v v' w h h' => zBz h h' TS.out
 intro L vs w10 nb hL hC hn E10
 have e0 := wXi hC 0
 have e2 := wXi hC 2
 have e4 := wXi hC 4
 have E := E10; simp only [LM, zAb] at E
 rw [zAa hL]
 simp only [SP, Nat.zero_add, Nat.reduceAdd]
 rw [e0, e2, e4]
 generalize vs 1 = u10_1
 generalize vs 3 = u10_3
 clear e0 e2 e4 hC hn E10 hL vs L nb
 go_upto_region 11 with (fail)
 refine rg [Fq.num (x2 - x1), ip b1 4, Fq.num M, Fq.num (Int.gcd (x2 - x1) M : Int), Fq.any, Fq.any] N6 [⟨4, 5, 2, Fq.num 0, Fq.num (Int.gcd (x2 - x1) M : Int), none⟩] E (fun hp => ⟨?_, ?_, ?_, ?_, ?_, ?_, tv⟩) ?_
 ·exact lI 0 hp (mq 0 rfl) (sqo 7) fun us w hl h => zAh hl h
 ·exact qa b1 0 4 hp (sqo 3)
 ·exact lN 4 2 hp (mq 5 rfl) zAd (sqi 1)
 ·exact wXb (Fq.num (x2 - x1)) (Fq.num M) hp zHk (sqi 0) (sqi 2) fun v v' w h h' => zHr h h' (Int.lt_of_lt_of_le B7.out (zAg (by omega))) (Int.lt_of_lt_of_le hM.out (zAg (by omega)))
 ·exact aN hp (mq 0 rfl)
 ·exact sN 3 hp (mq 0 rfl)
 intro L vs w11 nb hL hC hn E11
 have e1 := wXi hC 1
 have e4 : vs 4 = .pointer (some ⟨nb 4, 0, none⟩) := hn _ (mq 0 rfl)
 have E := E11; simp only [LM, zAb] at E
 rw [zAa hL]
 simp only [SP, Nat.zero_add, Nat.reduceAdd]
 rw [e1, e4]
 generalize nb 4 = b11_4 at E ⊢
 generalize vs 0 = u11_0
 generalize vs 2 = u11_2
 generalize vs 3 = u11_3
 clear e1 e4 hC hn E11 hL vs L nb
 go_upto_region 12 with (fail)
 have B12 : Hid (ab ((1)) < pw 3) := zBq (by decide)
 refine rg [Fq.num (Int.gcd (x2 - x1) M : Int), Fq.num (1), yF, yT] N7 [] E (fun hp => ⟨?_, ?_, ?_, ?_, tv⟩) ?_
 ·exact lI 0 hp (mq 0 rfl) (sqo 9) fun us w hl h => zAh hl h
 ·exact zA7 (F := (Fq.is (.int .i64 1)).P) hp fo tv (zBg) (zAl (fun _ => rfl)) (fun v w h => (by subst h; exact rOfK w (1) (by omega) (by omega)))
 ·exact wXb (Fq.num (Int.gcd (x2 - x1) M : Int)) (Fq.num (1)) hp zBy (sqi 0) (sqi 1) fun v v' w h h' => zBz h h' TG.out
 ·exact zAf (F := fun v _ => v = .bool false) hp fo tv (sqi 2) (fun ρ w _ h => ⟨.bool true, by simp [execOp, go_sem, h], rfl⟩)
 intro L vs w13 nb hL hC hn E13
 have e2 := wXi hC 2
 have e3 := wXi hC 3
 have E := E13; simp only [LM, zAb] at E
 rw [zAa hL]
 simp only [SP, Nat.zero_add, Nat.reduceAdd]
 rw [e2, e3]
 generalize vs 0 = u13_0
 generalize vs 1 = u13_1
 clear e2 e3 hC hn E13 hL vs L nb
 go_upto_region 13 with (fail)
 refine rg [Fq.num (Int.gcd (x2 - x1) M : Int), Fq.st [.n 0, .n 0, .v (.bool false), .n (Int.gcd (x2 - x1) M : Int), .v (.int .i64 6)], Fq.any] [none, none, none, some (2, Fq.st [.n 0, .n 0, .v (.bool false), .n (Int.gcd (x2 - x1) M : Int), .v (.int .i64 6)]), none, none, none] [] E (fun hp => ⟨?_, ?_, ?_, tv⟩) ?_
 ·exact lI 0 hp (mq 0 rfl) (sqo 9) fun us w hl h => zAh hl h
 ·exact zL1 (z1 := (Int.gcd (x2 - x1) M : Int)) (u2 := 6) hp fo tv (sqi 0) (zAl (fun _ => rfl)) (fun v w h => h)
 ·exact sO 0 1 hp (mq 3 rfl) zA9 (sqo 6)
 intro L vs w14 nb hL hC hn E14
 have E := E14; simp only [LM, zAb] at E
 rw [zAa hL]
 simp only [SP, Nat.zero_add, Nat.reduceAdd]
 generalize vs 0 = u14_0
 generalize vs 1 = u14_1
 clear  hC hn E14 hL vs L nb
 clear TS HM0 TG
 obtain ⟨_, _, hc0, hf0⟩ := zAu (E.box 3 rfl)
 have hP0 := hf0
 obtain ⟨r0_p0, r0_q0, _, rfl, _r0_n0, r0_p1, r0_q1, _, rfl, _r0_n1, _, rfl, _, r0_p3, r0_q3, _, rfl, _r0_n3, _, rfl, _, rfl⟩ := hf0
 have c0_0 := hc0 0 (by simp)
 have c0_1 := hc0 1 (by simp)
 have c0_2 := hc0 2 (by simp)
 have c0_3 := hc0 3 (by simp)
 have c0_4 := hc0 4 (by simp)
 have c0_5 := hc0 5 (by simp)
 have c0_6 := hc0 6 (by simp)
 have c0_7 := hc0 7 (by simp)
 simp only [List.getD_cons_zero, List.getD_cons_succ] at c0_0 c0_1 c0_2 c0_3 c0_4 c0_5 c0_6 c0_7
 clear hc0
 clear B7 B8 B12 hM hA hx1 hy1 hx2 hy2
 go_wp2
 refine bodyPost_ret (v := .agg #[r0_p0, r0_q0, r0_p1, r0_q1, .bool false, r0_p3, r0_q3, .int .i64 6]) ?_ rfl ⟨_, rfl, E.below, ⟨_, rfl, hP0⟩⟩
 simp [results, Tryz.results32, go_sem, c0_0, c0_1, c0_2, c0_3, c0_4, c0_5, c0_6, c0_7]

theorem zDz {w : World} {v v' u : Value} {A B M : Int} {P Q : Pt} (h : (Fq.st [.n A, .n B, .n M]).P v w) (h' : (Fq.pt P).P v' w) (h2 : (Fq.pt Q).P u w) (hM : ab M < pw 5) (hA : ab A < pw 5) (hP : ab P.x < pw 5 ∧ ab P.y < pw 5) (hQ : ab Q.x < pw 5 ∧ ab Q.y < pw 5) (hM0 : 0 < M) {R : Pt × Int × Int} (ht : sumS A M P Q = R) :
  Calls Tryz.prog 32 #[v, v', u] w fun e w' => ∃ v', e = .returned v' ∧ Below w.heap.size w w' ∧ (Fq.sm R).P v' w' := by
 subst ht
 obtain ⟨x1, y1, i1⟩ := P
 obtain ⟨x2, y2, i2⟩ := Q
 cases i1 with
 | true =>
  rw [show sumS A M ⟨x1, y1, true⟩ ⟨x2, y2, i2⟩ = (⟨x2, y2, i2⟩, 0, 0) from rfl]
  exact exAddedI h h' h2 hQ.1 hQ.2
 | false =>
  cases i2 with
  | true =>
   rw [show sumS A M ⟨x1, y1, false⟩ ⟨x2, y2, true⟩ = (⟨x1, y1, false⟩, 0, 0) from rfl]
   exact exAddedJ h h' h2 hP.1 hP.2
  | false =>
   by_cases hs : x1 = x2
   ·by_cases hd : (y1 + y2) % M = 0
    ·rw [sumS_inf hs hd]
     exact zNu h h' h2 hM hA hP.1 hP.2 hQ.1 hQ.2 hM0 hs hd
    ·have hD : slD M x1 y1 x2 y2 = (y1 + y2) % M := if_pos hs
     by_cases hg : Int.gcd (y1 + y2) M = 1
     ·rw [zMj (N := 3 * (x1 * x1) + A) (D := y1 + y2) hM0 (by rw [hD]; exact hd) (if_pos hs) (.inr hD) hg]
      exact zNv h h' h2 hM hA hP.1 hP.2 hQ.1 hQ.2 hM0 hs hd hg
     ·rw [zMi (D := y1 + y2) hM0 (by rw [hD]; exact hd) (by rw [hD, zGq]) hg]
      exact zNw h h' h2 hM hA hP.1 hP.2 hQ.1 hQ.2 hM0 hs hd hg
   ·have hD : slD M x1 y1 x2 y2 = x2 - x1 := if_neg hs
    by_cases hg : Int.gcd (x2 - x1) M = 1
    ·rw [zMj (N := y2 - y1) (D := x2 - x1) hM0 (by rw [hD]; omega) (if_neg hs) (.inl hD) hg]
     exact zNs h h' h2 hM hA hP.1 hP.2 hQ.1 hQ.2 hM0 hs hg
    ·rw [zMi (D := x2 - x1) hM0 (by rw [hD]; omega) (by rw [hD]) hg]
     exact zNt h h' h2 hM hA hP.1 hP.2 hQ.1 hQ.2 hM0 hs hg

set_option maxRecDepth 100000 in
set_option maxHeartbeats 4000000 in
theorem zNr {w : World} {v v' u : Value} {A B M x1 y1 x2 y2 : Int} {i1 i2 : Bool} (h : (Fq.st [.n A, .n B, .n M]).P v w) (h' : (Fq.st [.n x1, .n y1, .v (.bool i1)]).P v' w) (h2 : (Fq.st [.n x2, .n y2, .v (.bool i2)]).P u w) (hM : ab M < pw 5) (hA : ab A < pw 5) (hB : ab B < pw 5) (hx1 : ab x1 < pw 5) (hy1 : ab y1 < pw 5) (hx2 : ab x2 < pw 5) (hy2 : ab y2 < pw 5) (h1 : onB A B M x1 y1 i1 = true) (h3 : onB A B M x2 y2 i2 = true) (hM0 : 0 < M) :
  Calls Tryz.prog 11 #[v, v', u] w fun e w' => ∃ v', e = .returned v' ∧ Below w.heap.size w w' ∧ (Fq.sm (sumS A M ⟨x1, y1, i1⟩ ⟨x2, y2, i2⟩)).P v' w' := by
 replace hM := hidd hM
 replace hA := hidd hA
 replace hB := hidd hB
 replace hx1 := hidd hx1
 replace hy1 := hidd hy1
 replace hx2 := hidd hx2
 replace hy2 := hidd hy2
 have H1 := hidd h1
 clear h1
 have H3 := hidd h3
 clear h3
 have HM0 := hidd hM0
 clear hM0
 obtain ⟨R, hR⟩ : ∃ R, R = sumS A M ⟨x1, y1, i1⟩ ⟨x2, y2, i2⟩ := ⟨_, rfl⟩
 rw [← hR]
 have HR := hidd hR.symm
 clear hR
 obtain ⟨_, rfl, hf0⟩ := h
 have hF0 := hf0
 obtain ⟨y0_p0, y0_q0, _, rfl, _y0_n0, y0_p1, y0_q1, _, rfl, _y0_n1, y0_p2, y0_q2, _, rfl, _y0_n2, rfl⟩ := hf0
 obtain ⟨_, rfl, hf1⟩ := h'
 have hF1 := hf1
 obtain ⟨y1_p0, y1_q0, _, rfl, _y1_n0, y1_p1, y1_q1, _, rfl, _y1_n1, _, rfl, _, rfl⟩ := hf1
 obtain ⟨_, rfl, hf2⟩ := h2
 have hF2 := hf2
 obtain ⟨y2_p0, y2_q0, _, rfl, _y2_n0, y2_p1, y2_q1, _, rfl, _y2_n1, _, rfl, _, rfl⟩ := hf2
 obtain ⟨w1, b1, hw1, hb1, hs1, E⟩ := gS w 34 hF0
 obtain ⟨w2, b2, hw2, hb2, hs2, E⟩ := fS E hs1 36 hF1
 obtain ⟨w3, b3, hw3, hb3, hs3, E⟩ := fS E hs2 36 hF2
 obtain ⟨w4, b4, hw4, hb4, hs4, E⟩ := fO E hs3 44 zBt
 go_enter Tryz.func11, Tryz.ntmps11
 go_upto_region 1 with (fail)
 rw [← hw1]
 rw [← hw2]
 rw [← hw3]
 rw [← hw4]
 rw [← hb4]
 rw [← hb3]
 rw [← hb2]
 rw [← hb1]
 clear hw1 hw2 hw3 hw4 hb1 hb2 hb3 hb4 hs4 hs1 hs2 hs3
 refine rg [Fq.st [.n A, .n B, .n M], Fq.st [.n x1, .n y1, .v (.bool i1)], yT, yF, yF, Fq.st [.n A, .n B, .n M], Fq.st [.n x2, .n y2, .v (.bool i2)], yT, yF, yF] N4 [] E (fun hp => ⟨?_, ?_, ?_, ?_, ?_, ?_, ?_, ?_, ?_, ?_, tv⟩) ?_
 ·exact lS 0 6 hp (mq 3 rfl) zAm (sqo 3)
 ·exact lS 0 5 hp (mq 2 rfl) zAk (sqo 4)
 ·exact wXb (Fq.st [.n A, .n B, .n M]) (Fq.st [.n x1, .n y1, .v (.bool i1)]) hp zC0 (sqi 0) (sqi 1) fun v v' w h h' => zC2 h h' hM.out hA.out hB.out hx1.out hy1.out H1.out
 ·exact zAf (F := fun v _ => v = .bool true) hp fo tv (sqi 2) (fun ρ w _ h => ⟨.bool false, by simp [execOp, go_sem, h], rfl⟩)
 ·exact zAe hp fo tv (sqi 3)
 ·exact lG 0 6 hp gqi (mq 3 rfl) zAm (sqo 3) fun v w h => h
 ·exact lG 0 5 hp gqi (mq 1 rfl) zAk (sqo 5) fun v w h => h
 ·exact zAt (F := (Fq.st [.n A, .n B, .n M]).P) (G := (Fq.st [.n x2, .n y2, .v (.bool i2)]).P) hp fo gqi (zC0) (sqi 5) (sqi 6) (fun v v' w h h' => zC2 h h' hM.out hA.out hB.out hx2.out hy2.out H3.out)
 ·exact zAf (F := fun v _ => v = .bool true) hp fo gqi (sqi 7) (fun ρ w _ h => ⟨.bool false, by simp [execOp, go_sem, h], rfl⟩)
 ·exact zAi (F := fun v _ => v = .bool false) (G := fun v _ => v = .bool false) hp fo tv (sqi 4) (sqi 8) (fun ρ w hc h h' => ⟨_, by simp [execOp, go_sem, h, h'], rfl⟩)
 intro L vs w5 nb hL hC hn E5
 have e2 := wXi hC 2
 have e3 := wXi hC 3
 have e4 := wXi hC 4
 have e7 := wXi hC 7
 have e8 := wXi hC 8
 have e9 := wXi hC 9
 have E := E5; simp only [LM, zAb] at E
 rw [zAa hL]
 simp only [SP, Nat.zero_add, Nat.reduceAdd]
 rw [e2, e3, e4, e7, e8, e9]
 generalize vs 0 = u5_0
 generalize vs 1 = u5_1
 generalize vs 5 = u5_5
 generalize vs 6 = u5_6
 clear e2 e3 e4 e7 e8 e9 hC hn E5 hL vs L nb
 go_upto_region 3 with (fail)
 refine rg [Fq.st [.n A, .n B, .n M], Fq.st [.n x1, .n y1, .v (.bool i1)], Fq.st [.n x2, .n y2, .v (.bool i2)], Fq.st [.n R.1.x, .n R.1.y, .v (.bool R.1.i), .n R.2.1, .v (.int .i64 R.2.2)], Fq.any] [some (4, Fq.st [.n R.1.x, .n R.1.y, .v (.bool R.1.i), .n R.2.1, .v (.int .i64 R.2.2)]), none, none, none] [] E (fun hp => ⟨?_, ?_, ?_, ?_, ?_, tv⟩) ?_
 ·exact lS 0 6 hp (mq 3 rfl) zAm (sqo 3)
 ·exact lS 0 5 hp (mq 2 rfl) zAk (sqo 4)
 ·exact lS 0 5 hp (mq 1 rfl) zAk (sqo 5)
 ·exact zBa (F := (Fq.st [.n A, .n B, .n M]).P) (G := (Fq.st [.n x1, .n y1, .v (.bool i1)]).P) (F3 := (Fq.st [.n x2, .n y2, .v (.bool i2)]).P) hp fo tv (zDy) (sqi 0) (sqi 1) (sqi 2) (fun v v' u w h h' g => zDz (P := ⟨x1, y1, i1⟩) (Q := ⟨x2, y2, i2⟩) h h' g hM.out hA.out ⟨hx1.out, hy1.out⟩ ⟨hx2.out, hy2.out⟩ HM0.out HR.out)
 ·exact sO 0 3 hp (mq 0 rfl) zA9 (sqo 6)
 intro L vs w6 nb hL hC hn E6
 have E := E6; simp only [LM, zAb] at E
 rw [zAa hL]
 simp only [SP, Nat.zero_add, Nat.reduceAdd]
 generalize vs 0 = u6_0
 generalize vs 1 = u6_1
 generalize vs 2 = u6_2
 generalize vs 3 = u6_3
 clear  hC hn E6 hL vs L nb
 clear H1 H3 HM0 HR
 obtain ⟨_, _, hc0, hf0⟩ := zAu (E.box 0 rfl)
 have hP0 := hf0
 obtain ⟨r0_p0, r0_q0, _, rfl, _r0_n0, r0_p1, r0_q1, _, rfl, _r0_n1, _, rfl, _, r0_p3, r0_q3, _, rfl, _r0_n3, _, rfl, _, rfl⟩ := hf0
 have c0_0 := hc0 0 (by simp)
 have c0_1 := hc0 1 (by simp)
 have c0_2 := hc0 2 (by simp)
 have c0_3 := hc0 3 (by simp)
 have c0_4 := hc0 4 (by simp)
 have c0_5 := hc0 5 (by simp)
 have c0_6 := hc0 6 (by simp)
 have c0_7 := hc0 7 (by simp)
 simp only [List.getD_cons_zero, List.getD_cons_succ] at c0_0 c0_1 c0_2 c0_3 c0_4 c0_5 c0_6 c0_7
 clear hc0
 clear hM hA hB hx1 hy1 hx2 hy2
 go_wp2
 refine bodyPost_ret (v := .agg #[r0_p0, r0_q0, r0_p1, r0_q1, .bool R.1.i, r0_p3, r0_q3, .int .i64 R.2.2]) ?_ rfl ⟨_, rfl, E.below, ⟨_, rfl, hP0⟩⟩
 simp [results, Tryz.results11, go_sem, c0_0, c0_1, c0_2, c0_3, c0_4, c0_5, c0_6, c0_7]

set_option maxRecDepth 100000 in
set_option maxHeartbeats 4000000 in
theorem zNp {w : World} {v v' u : Value} {A B M x1 y1 x2 y2 : Int} {i1 i2 : Bool} (h : (Fq.st [.n A, .n B, .n M]).P v w) (h' : (Fq.st [.n x1, .n y1, .v (.bool i1)]).P v' w) (h2 : (Fq.st [.n x2, .n y2, .v (.bool i2)]).P u w) (hM : ab M < pw 5) (hA : ab A < pw 5) (hB : ab B < pw 5) (hx1 : ab x1 < pw 5) (hy1 : ab y1 < pw 5) (hx2 : ab x2 < pw 5) (hy2 : ab y2 < pw 5) (h1 : onB A B M x1 y1 i1 = false) :
  Calls Tryz.prog 11 #[v, v', u] w fun e w' => ∃ v', e = .returned v' ∧ Below w.heap.size w w' ∧ (Fq.st [.n 0, .n 0, .v (.bool false), .n 0, .v (.int .i64 1)]).P v' w' := by
 replace hM := hidd hM
 replace hA := hidd hA
 replace hB := hidd hB
 replace hx1 := hidd hx1
 replace hy1 := hidd hy1
 replace hx2 := hidd hx2
 replace hy2 := hidd hy2
 have H1 := hidd h1
 clear h1
 obtain ⟨_, rfl, hf0⟩ := h
 have hF0 := hf0
 obtain ⟨y0_p0, y0_q0, _, rfl, _y0_n0, y0_p1, y0_q1, _, rfl, _y0_n1, y0_p2, y0_q2, _, rfl, _y0_n2, rfl⟩ := hf0
 obtain ⟨_, rfl, hf1⟩ := h'
 have hF1 := hf1
 obtain ⟨y1_p0, y1_q0, _, rfl, _y1_n0, y1_p1, y1_q1, _, rfl, _y1_n1, _, rfl, _, rfl⟩ := hf1
 obtain ⟨_, rfl, hf2⟩ := h2
 have hF2 := hf2
 obtain ⟨y2_p0, y2_q0, _, rfl, _y2_n0, y2_p1, y2_q1, _, rfl, _y2_n1, _, rfl, _, rfl⟩ := hf2
 obtain ⟨w1, b1, hw1, hb1, hs1, E⟩ := gS w 34 hF0
 obtain ⟨w2, b2, hw2, hb2, hs2, E⟩ := fS E hs1 36 hF1
 obtain ⟨w3, b3, hw3, hb3, hs3, E⟩ := fS E hs2 36 hF2
 obtain ⟨w4, b4, hw4, hb4, hs4, E⟩ := fO E hs3 44 zBt
 go_enter Tryz.func11, Tryz.ntmps11
 go_upto_region 1 with (fail)
 rw [← hw1]
 rw [← hw2]
 rw [← hw3]
 rw [← hw4]
 rw [← hb4]
 rw [← hb3]
 rw [← hb2]
 rw [← hb1]
 clear hw1 hw2 hw3 hw4 hb1 hb2 hb3 hb4 hs4 hs1 hs2 hs3
 refine rg [Fq.st [.n A, .n B, .n M], Fq.st [.n x1, .n y1, .v (.bool i1)], yF, yT, yT, Fq.is (undef), Fq.is (undef), Fq.is (undef), Fq.is (undef), yT] N4 [] E (fun hp => ⟨?_, ?_, ?_, ?_, ?_, ?_, ?_, ?_, ?_, ?_, tv⟩) ?_
 ·exact lS 0 6 hp (mq 3 rfl) zAm (sqo 3)
 ·exact lS 0 5 hp (mq 2 rfl) zAk (sqo 4)
 ·exact wXb (Fq.st [.n A, .n B, .n M]) (Fq.st [.n x1, .n y1, .v (.bool i1)]) hp zC0 (sqi 0) (sqi 1) fun v v' w h h' => zC2 h h' hM.out hA.out hB.out hx1.out hy1.out H1.out
 ·exact zAf (F := fun v _ => v = .bool false) hp fo tv (sqi 2) (fun ρ w _ h => ⟨.bool true, by simp [execOp, go_sem, h], rfl⟩)
 ·exact zAe hp fo tv (sqi 3)
 ·exact zAj hp fo rfl gqi (fun _ => rfl)
 ·exact zAj hp fo rfl gqi (fun _ => rfl)
 ·exact zAj hp fo rfl gqi (fun _ => rfl)
 ·exact zAj hp fo rfl gqi (fun _ => rfl)
 ·exact zAi (F := fun v _ => v = .bool true) (G := fun v _ => v = .bool true) hp fo tv (sqi 4) (zAl (fun _ => rfl)) (fun ρ w hc h h' => ⟨_, by simp [execOp, go_sem, h, h'], rfl⟩)
 intro L vs w5 nb hL hC hn E5
 have e2 := wXi hC 2
 have e3 := wXi hC 3
 have e4 := wXi hC 4
 have e5 := wXi hC 5
 have e6 := wXi hC 6
 have e7 := wXi hC 7
 have e8 := wXi hC 8
 have e9 := wXi hC 9
 have E := E5; simp only [LM, zAb] at E
 rw [zAa hL]
 simp only [SP, Nat.zero_add, Nat.reduceAdd]
 rw [e2, e3, e4, e5, e6, e7, e8, e9]
 generalize vs 0 = u5_0
 generalize vs 1 = u5_1
 clear e2 e3 e4 e5 e6 e7 e8 e9 hC hn E5 hL vs L nb
 go_upto_region 2 with (fail)
 refine rg [Fq.st [.n 0, .n 0, .v (.bool false), .n 0, .v (.int .i64 1)], Fq.any] [some (1, Fq.st [.n 0, .n 0, .v (.bool false), .n 0, .v (.int .i64 1)]), none, none, none] [] E (fun hp => ⟨?_, ?_, tv⟩) ?_
 ·exact zJj (u2 := 1) hp fo tv (zAl (fun _ => rfl)) (fun v w h => h)
 ·exact sO 0 0 hp (mq 0 rfl) zA9 (sqo 6)
 intro L vs w6 nb hL hC hn E6
 have E := E6; simp only [LM, zAb] at E
 rw [zAa hL]
 simp only [SP, Nat.zero_add, Nat.reduceAdd]
 generalize vs 0 = u6_0
 clear  hC hn E6 hL vs L nb
 clear H1
 obtain ⟨_, _, hc0, hf0⟩ := zAu (E.box 0 rfl)
 have hP0 := hf0
 obtain ⟨r0_p0, r0_q0, _, rfl, _r0_n0, r0_p1, r0_q1, _, rfl, _r0_n1, _, rfl, _, r0_p3, r0_q3, _, rfl, _r0_n3, _, rfl, _, rfl⟩ := hf0
 have c0_0 := hc0 0 (by simp)
 have c0_1 := hc0 1 (by simp)
 have c0_2 := hc0 2 (by simp)
 have c0_3 := hc0 3 (by simp)
 have c0_4 := hc0 4 (by simp)
 have c0_5 := hc0 5 (by simp)
 have c0_6 := hc0 6 (by simp)
 have c0_7 := hc0 7 (by simp)
 simp only [List.getD_cons_zero, List.getD_cons_succ] at c0_0 c0_1 c0_2 c0_3 c0_4 c0_5 c0_6 c0_7
 clear hc0
 clear hM hA hB hx1 hy1 hx2 hy2
 go_wp2
 refine bodyPost_ret (v := .agg #[r0_p0, r0_q0, r0_p1, r0_q1, .bool false, r0_p3, r0_q3, .int .i64 1]) ?_ rfl ⟨_, rfl, E.below, ⟨_, rfl, hP0⟩⟩
 simp [results, Tryz.results11, go_sem, c0_0, c0_1, c0_2, c0_3, c0_4, c0_5, c0_6, c0_7]

set_option maxRecDepth 100000 in
set_option maxHeartbeats 4000000 in
theorem zNq {w : World} {v v' u : Value} {A B M x1 y1 x2 y2 : Int} {i1 i2 : Bool} (h : (Fq.st [.n A, .n B, .n M]).P v w) (h' : (Fq.st [.n x1, .n y1, .v (.bool i1)]).P v' w) (h2 : (Fq.st [.n x2, .n y2, .v (.bool i2)]).P u w) (hM : ab M < pw 5) (hA : ab A < pw 5) (hB : ab B < pw 5) (hx1 : ab x1 < pw 5) (hy1 : ab y1 < pw 5) (hx2 : ab x2 < pw 5) (hy2 : ab y2 < pw 5) (h1 : onB A B M x1 y1 i1 = true) (h3 : onB A B M x2 y2 i2 = false) :
  Calls Tryz.prog 11 #[v, v', u] w fun e w' => ∃ v', e = .returned v' ∧ Below w.heap.size w w' ∧ (Fq.st [.n 0, .n 0, .v (.bool false), .n 0, .v (.int .i64 1)]).P v' w' := by
 replace hM := hidd hM
 replace hA := hidd hA
 replace hB := hidd hB
 replace hx1 := hidd hx1
 replace hy1 := hidd hy1
 replace hx2 := hidd hx2
 replace hy2 := hidd hy2
 have H1 := hidd h1
 clear h1
 have H3 := hidd h3
 clear h3
 obtain ⟨_, rfl, hf0⟩ := h
 have hF0 := hf0
 obtain ⟨y0_p0, y0_q0, _, rfl, _y0_n0, y0_p1, y0_q1, _, rfl, _y0_n1, y0_p2, y0_q2, _, rfl, _y0_n2, rfl⟩ := hf0
 obtain ⟨_, rfl, hf1⟩ := h'
 have hF1 := hf1
 obtain ⟨y1_p0, y1_q0, _, rfl, _y1_n0, y1_p1, y1_q1, _, rfl, _y1_n1, _, rfl, _, rfl⟩ := hf1
 obtain ⟨_, rfl, hf2⟩ := h2
 have hF2 := hf2
 obtain ⟨y2_p0, y2_q0, _, rfl, _y2_n0, y2_p1, y2_q1, _, rfl, _y2_n1, _, rfl, _, rfl⟩ := hf2
 obtain ⟨w1, b1, hw1, hb1, hs1, E⟩ := gS w 34 hF0
 obtain ⟨w2, b2, hw2, hb2, hs2, E⟩ := fS E hs1 36 hF1
 obtain ⟨w3, b3, hw3, hb3, hs3, E⟩ := fS E hs2 36 hF2
 obtain ⟨w4, b4, hw4, hb4, hs4, E⟩ := fO E hs3 44 zBt
 go_enter Tryz.func11, Tryz.ntmps11
 go_upto_region 1 with (fail)
 rw [← hw1]
 rw [← hw2]
 rw [← hw3]
 rw [← hw4]
 rw [← hb4]
 rw [← hb3]
 rw [← hb2]
 rw [← hb1]
 clear hw1 hw2 hw3 hw4 hb1 hb2 hb3 hb4 hs4 hs1 hs2 hs3
 refine rg [Fq.st [.n A, .n B, .n M], Fq.st [.n x1, .n y1, .v (.bool i1)], yT, yF, yF, Fq.st [.n A, .n B, .n M], Fq.st [.n x2, .n y2, .v (.bool i2)], yF, yT, yT] N4 [] E (fun hp => ⟨?_, ?_, ?_, ?_, ?_, ?_, ?_, ?_, ?_, ?_, tv⟩) ?_
 ·exact lS 0 6 hp (mq 3 rfl) zAm (sqo 3)
 ·exact lS 0 5 hp (mq 2 rfl) zAk (sqo 4)
 ·exact wXb (Fq.st [.n A, .n B, .n M]) (Fq.st [.n x1, .n y1, .v (.bool i1)]) hp zC0 (sqi 0) (sqi 1) fun v v' w h h' => zC2 h h' hM.out hA.out hB.out hx1.out hy1.out H1.out
 ·exact zAf (F := fun v _ => v = .bool true) hp fo tv (sqi 2) (fun ρ w _ h => ⟨.bool false, by simp [execOp, go_sem, h], rfl⟩)
 ·exact zAe hp fo tv (sqi 3)
 ·exact lG 0 6 hp gqi (mq 3 rfl) zAm (sqo 3) fun v w h => h
 ·exact lG 0 5 hp gqi (mq 1 rfl) zAk (sqo 5) fun v w h => h
 ·exact zAt (F := (Fq.st [.n A, .n B, .n M]).P) (G := (Fq.st [.n x2, .n y2, .v (.bool i2)]).P) hp fo gqi (zC0) (sqi 5) (sqi 6) (fun v v' w h h' => zC2 h h' hM.out hA.out hB.out hx2.out hy2.out H3.out)
 ·exact zAf (F := fun v _ => v = .bool false) hp fo gqi (sqi 7) (fun ρ w _ h => ⟨.bool true, by simp [execOp, go_sem, h], rfl⟩)
 ·exact zAi (F := fun v _ => v = .bool false) (G := fun v _ => v = .bool true) hp fo tv (sqi 4) (sqi 8) (fun ρ w hc h h' => ⟨_, by simp [execOp, go_sem, h, h'], rfl⟩)
 intro L vs w5 nb hL hC hn E5
 have e2 := wXi hC 2
 have e3 := wXi hC 3
 have e4 := wXi hC 4
 have e7 := wXi hC 7
 have e8 := wXi hC 8
 have e9 := wXi hC 9
 have E := E5; simp only [LM, zAb] at E
 rw [zAa hL]
 simp only [SP, Nat.zero_add, Nat.reduceAdd]
 rw [e2, e3, e4, e7, e8, e9]
 generalize vs 0 = u5_0
 generalize vs 1 = u5_1
 generalize vs 5 = u5_5
 generalize vs 6 = u5_6
 clear e2 e3 e4 e7 e8 e9 hC hn E5 hL vs L nb
 go_upto_region 2 with (fail)
 refine rg [Fq.st [.n 0, .n 0, .v (.bool false), .n 0, .v (.int .i64 1)], Fq.any] [some (1, Fq.st [.n 0, .n 0, .v (.bool false), .n 0, .v (.int .i64 1)]), none, none, none] [] E (fun hp => ⟨?_, ?_, tv⟩) ?_
 ·exact zJj (u2 := 1) hp fo tv (zAl (fun _ => rfl)) (fun v w h => h)
 ·exact sO 0 0 hp (mq 0 rfl) zA9 (sqo 6)
 intro L vs w6 nb hL hC hn E6
 have E := E6; simp only [LM, zAb] at E
 rw [zAa hL]
 simp only [SP, Nat.zero_add, Nat.reduceAdd]
 generalize vs 0 = u6_0
 clear  hC hn E6 hL vs L nb
 clear H1 H3
 obtain ⟨_, _, hc0, hf0⟩ := zAu (E.box 0 rfl)
 have hP0 := hf0
 obtain ⟨r0_p0, r0_q0, _, rfl, _r0_n0, r0_p1, r0_q1, _, rfl, _r0_n1, _, rfl, _, r0_p3, r0_q3, _, rfl, _r0_n3, _, rfl, _, rfl⟩ := hf0
 have c0_0 := hc0 0 (by simp)
 have c0_1 := hc0 1 (by simp)
 have c0_2 := hc0 2 (by simp)
 have c0_3 := hc0 3 (by simp)
 have c0_4 := hc0 4 (by simp)
 have c0_5 := hc0 5 (by simp)
 have c0_6 := hc0 6 (by simp)
 have c0_7 := hc0 7 (by simp)
 simp only [List.getD_cons_zero, List.getD_cons_succ] at c0_0 c0_1 c0_2 c0_3 c0_4 c0_5 c0_6 c0_7
 clear hc0
 clear hM hA hB hx1 hy1 hx2 hy2
 go_wp2
 refine bodyPost_ret (v := .agg #[r0_p0, r0_q0, r0_p1, r0_q1, .bool false, r0_p3, r0_q3, .int .i64 1]) ?_ rfl ⟨_, rfl, E.below, ⟨_, rfl, hP0⟩⟩
 simp [results, Tryz.results11, go_sem, c0_0, c0_1, c0_2, c0_3, c0_4, c0_5, c0_6, c0_7]

theorem exAddIn {w : World} {v v' u : Value} {A B M : Int} {P Q : Pt} (h : (Fq.st [.n A, .n B, .n M]).P v w) (h' : (Fq.pt P).P v' w) (h2 : (Fq.pt Q).P u w) (hM : ab M < pw 5) (hA : ab A < pw 5) (hB : ab B < pw 5) (hP : ab P.x < pw 5 ∧ ab P.y < pw 5) (hQ : ab Q.x < pw 5 ∧ ab Q.y < pw 5) {R : Pt × Int × Int} (ht : addS A B M P Q = R) :
  Calls Tryz.prog 11 #[v, v', u] w fun e w' => ∃ v', e = .returned v' ∧ Below w.heap.size w w' ∧ (Fq.sm R).P v' w' := by
 subst ht
 unfold addS
 by_cases h3 : onB A B M P.x P.y P.i = true
 ·rw [if_pos h3]
  by_cases h4 : onB A B M Q.x Q.y Q.i = true
  ·rw [if_pos h4]
   exact zNr h h' h2 hM hA hB hP.1 hP.2 hQ.1 hQ.2 h3 h4 (by have := (zCt h3).2; omega)
  ·rw [if_neg h4]
   exact zNq h h' h2 hM hA hB hP.1 hP.2 hQ.1 hQ.2 h3 (zCr h4)
 ·rw [if_neg h3]
  exact zNp h h' h2 hM hA hB hP.1 hP.2 hQ.1 hQ.2 (zCr h3)

set_option maxRecDepth 100000 in
set_option maxHeartbeats 4000000 in
theorem zN0 {w : World} {v v' : Value} {x y d r : Int} {i : Bool} (h : (Fq.st [.n x, .n y, .v (.bool i), .n d, .v (.int .i64 r)]).P v w) (h' : (Fq.st [.n x, .n y, .v (.bool i), .n d, .v (.int .i64 r)]).P v' w) :
  Calls Tryz.prog 9 #[v, v'] w fun e w' => ∃ v', e = .returned v' ∧ Below w.heap.size w w' ∧ v' = .bool true := by
 obtain ⟨_, rfl, hf0⟩ := h
 have hF0 := hf0
 obtain ⟨y0_p0, y0_q0, _, rfl, _y0_n0, y0_p1, y0_q1, _, rfl, _y0_n1, _, rfl, _, y0_p3, y0_q3, _, rfl, _y0_n3, _, rfl, _, rfl⟩ := hf0
 obtain ⟨_, rfl, hf1⟩ := h'
 have hF1 := hf1
 obtain ⟨y1_p0, y1_q0, _, rfl, _y1_n0, y1_p1, y1_q1, _, rfl, _y1_n1, _, rfl, _, y1_p3, y1_q3, _, rfl, _y1_n3, _, rfl, _, rfl⟩ := hf1
 obtain ⟨w1, b1, hw1, hb1, hs1, E⟩ := gS w 44 hF0
 obtain ⟨w2, b2, hw2, hb2, hs2, E⟩ := fS E hs1 44 hF1
 go_enter Tryz.func9, Tryz.ntmps9
 go_upto_region 1 with (fail)
 rw [← hw1]
 rw [← hw2]
 rw [← hb2]
 rw [← hb1]
 clear hw1 hw2 hb1 hb2 hs2 hs1
 refine rg [ip b1 0, Fq.st [.n x, .n y, .v (.bool i)], ip b2 0, Fq.st [.n x, .n y, .v (.bool i)], yT, yT, ip b1 5, Fq.num d, ip b2 5, Fq.num d, yT, yT, yT, ip b1 7, Fq.is (.int .i64 r), ip b2 7, Fq.is (.int .i64 r), yT, yT, yT] N2 [] E (fun hp => ⟨?_, ?_, ?_, ?_, ?_, ?_, ?_, ?_, ?_, ?_, ?_, ?_, ?_, ?_, ?_, ?_, ?_, ?_, ?_, ?_, tv⟩) ?_
 ·exact qa b1 0 0 hp (sqo 2)
 ·exact lS 0 5 hp (mq 1 rfl) zAk (sqi 0)
 ·exact qa b2 0 0 hp (sqo 3)
 ·exact lS 0 5 hp (mq 0 rfl) zAk (sqi 2)
 ·exact wXb (Fq.st [.n x, .n y, .v (.bool i)]) (Fq.st [.n x, .n y, .v (.bool i)]) hp zGi (sqi 1) (sqi 3) fun v v' w h h' => zGl (P := ⟨x, y, i⟩) (Q := ⟨x, y, i⟩) h h' (zMa _)
 ·exact zAe hp fo tv (sqi 4)
 ·exact zAv (b := b1) (off := 0) (off' := 5) hp fo gqi (sqo 2) (fun ρ w h => by simp [execOp, go_sem, h]) (fun _ => rfl)
 ·exact lG 5 2 hp gqi (mq 1 rfl) zAd (sqi 6) fun v w h => zA8 h
 ·exact zAv (b := b2) (off := 0) (off' := 5) hp fo gqi (sqo 3) (fun ρ w h => by simp [execOp, go_sem, h]) (fun _ => rfl)
 ·exact lG 5 2 hp gqi (mq 0 rfl) zAd (sqi 8) fun v w h => zA8 h
 ·exact zAt (F := (Fq.num d).P) (G := (Fq.num d).P) hp fo gqi (zBy) (sqi 7) (sqi 9) (fun v v' w h h' => zBz h h' (decide_eq_true rfl))
 ·exact zAi (F := fun v _ => v = .bool true) (G := fun v _ => v = .bool true) hp fo tv (sqi 5) (sqi 10) (fun ρ w hc h h' => ⟨_, by simp [execOp, go_sem, h, h'], rfl⟩)
 ·exact zAe hp fo tv (sqi 11)
 ·exact zAv (b := b1) (off := 0) (off' := 7) hp fo gqi (sqo 2) (fun ρ w h => by simp [execOp, go_sem, h]) (fun _ => rfl)
 ·exact zEh (off := 7) (fs := [.n x, .n y, .v (.bool i), .n d, .v (.int .i64 r)]) (u := .int .i64 r) hp fo gqi (mq 1 rfl) (.inl rfl) rfl rfl (fun ρ w b h1 h2 => by simp [execOp, go_sem, h1, h2]) (sqi 13) (fun _ => rfl)
 ·exact zAv (b := b2) (off := 0) (off' := 7) hp fo gqi (sqo 3) (fun ρ w h => by simp [execOp, go_sem, h]) (fun _ => rfl)
 ·exact zEh (off := 7) (fs := [.n x, .n y, .v (.bool i), .n d, .v (.int .i64 r)]) (u := .int .i64 r) hp fo gqi (mq 0 rfl) (.inl rfl) rfl rfl (fun ρ w b h1 h2 => by simp [execOp, go_sem, h1, h2]) (sqi 15) (fun _ => rfl)
 ·exact zAi (F := fun v _ => v = .int .i64 r) (G := fun v _ => v = .int .i64 r) hp fo gqi (sqi 14) (sqi 16) (fun ρ w hc h h' => ⟨.bool true, by simp [execOp, go_sem, h, h'], rfl⟩)
 ·exact zAi (F := fun v _ => v = .bool true) (G := fun v _ => v = .bool true) hp fo tv (sqi 12) (sqi 17) (fun ρ w hc h h' => ⟨_, by simp [execOp, go_sem, h, h'], rfl⟩)
 ·exact zAo hp fo tv (sqi 18)
 intro L vs w3 nb hL hC hn E3
 have e0 := wXi hC 0
 have e2 := wXi hC 2
 have e4 := wXi hC 4
 have e5 := wXi hC 5
 have e6 := wXi hC 6
 have e8 := wXi hC 8
 have e10 := wXi hC 10
 have e11 := wXi hC 11
 have e12 := wXi hC 12
 have e13 := wXi hC 13
 have e14 := wXi hC 14
 have e15 := wXi hC 15
 have e16 := wXi hC 16
 have e17 := wXi hC 17
 have e18 := wXi hC 18
 have e19 := wXi hC 19
 have E := E3; simp only [LM, zAb] at E
 rw [zAa hL]
 simp only [SP, Nat.zero_add, Nat.reduceAdd]
 rw [e0, e2, e4, e5, e6, e8, e10, e11, e12, e13, e14, e15, e16, e17, e18, e19]
 generalize vs 1 = u3_1
 generalize vs 3 = u3_3
 generalize vs 7 = u3_7
 generalize vs 9 = u3_9
 clear e0 e2 e4 e5 e6 e8 e10 e11 e12 e13 e14 e15 e16 e17 e18 e19 hC hn E3 hL vs L nb
 go_wp2
 refine bodyPost_ret (v := .bool true) ?_ rfl ⟨_, rfl, E.below, rfl⟩
 simp [results, Tryz.results9, go_sem]

theorem zHs {w : World} {v v' : Value} {R : Pt × Int × Int} (h : (Fq.sm R).P v w) (h' : (Fq.sm R).P v' w) : Calls Tryz.prog 9 #[v, v'] w fun e w' => ∃ v', e = .returned v' ∧ Below w.heap.size w w' ∧ v' = .bool true := zN0 h h'

end Go.Proofs.YtihhlaagndingaaGreat
