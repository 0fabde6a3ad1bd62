/- Pg, Pf, Pk, Ps, Ph. -/
import Derived.Test.YtnhapjifddhdiaaDoorBm3
namespace Go.Proofs.YtnhapjifddhdiaaDoor
open Go Go.RowKit

theorem fr_nil {w W : World} (h : Below w.heap.size w W) : Fr w [] W := ⟨h, fun _ h => by simp at h, by simp⟩
theorem dv_words {X U V u1 u0 : Nat} (h : X = U * 18446744073709551616 + V) (h2 : u1 = V / 4294967296) (h3 : u0 = V % 4294967296) : X = (U * 4294967296 + u1) * 4294967296 + u0 := by
  have e : V = u1 * 4294967296 + u0 := by omega
  rw [Nat.add_mul, Nat.mul_assoc, show 4294967296 * 4294967296 = 18446744073709551616 from rfl, h, e, Nat.add_assoc]
theorem u64N {n : Nat} (h : n < 18446744073709551616) : IntKind.u64.wrap (n : Int) = (n : Int) := by rw [u64_wrap]; omega
theorem u64M (n : Nat) : IntKind.u64.wrap (n : Int) = ((n % 18446744073709551616 : Nat) : Int) := by rw [u64_wrap]; omega
theorem shlN (y t : Nat) : (y : Int) * 2 ^ t = ((y * 2 ^ t : Nat) : Int) := by rw [Int.natCast_mul, Int.natCast_pow]; rfl
theorem shrN (y t : Nat) : (y : Int) / 2 ^ t = ((y / 2 ^ t : Nat) : Int) := by rw [Int.natCast_ediv, Int.natCast_pow]; rfl
theorem orN {x y t : Nat} (hx : x * 2 ^ t + y < 18446744073709551616) (hy : y < 2 ^ t) : bits .or .u64 ((x * 2 ^ t : Nat) : Int) (y : Int) = ((x * 2 ^ t + y : Nat) : Int) := by
  have h := (or_u64 t ((x * 2 ^ t : Nat) : Int) (y : Int) (by omega) (by omega) (by omega) (by omega) (by exact_mod_cast hy) (by rw [Int.natCast_mul, Int.natCast_pow]; exact Int.mul_emod_left _ _)).1
  rw [h, Int.natCast_add]
set_option maxRecDepth 100000 in
set_option maxHeartbeats 4000000 in
theorem div64_core (a b y A QA RA : Nat) (hA : A = a * 18446744073709551616 + b) (hQA : A / y = QA) (hRA : A % y = RA) (w : World) (h0 : 0 < a) (h1 : a < y) (h2 : y < 18446744073709551616) (h4 : b < 18446744073709551616) :
    Calls Tryd.prog 77 #[.int .u64 a, .int .u64 b, .int .u64 y] w fun e w' => e = .returned (.tuple #[.int .u64 (QA : Int), .int .u64 (RA : Int)]) ∧ Below w.heap.size w w' := by
  obtain ⟨t, ht⟩ : ∃ t, t = 64 - Lib.bitLen y := ⟨_, rfl⟩
  obtain ⟨n1, n2, n3⟩ := dv_norm (y := y) (by omega) h2
  have n4 := (bitLen_top (y := y) (by omega) h2).2.2.2
  rw [← ht] at n1 n2 n3
  have l1 := dv_lt (s := t) h1 h4 n3
  have l2 := dv_split (a := a) (b := b) n3
  rw [← hA] at l2
  have l3 := kd_shift (a := A) (y := y) (s := t) (by omega)
  obtain ⟨s, hs⟩ : ∃ s : Int, s = (t : Int) := ⟨_, rfl⟩
  have HL := lead64_any (y : Int) w (by omega) (by omega)
  rw [Int.toNat_natCast, show (64 : Int) - (Lib.bitLen y : Int) = s by omega] at HL
  have e1 : s.toNat = t := by omega
  have e2 : (64 - s).toNat = 64 - t := by omega
  obtain ⟨Y, hY⟩ : ∃ Y, Y = y * 2 ^ t := ⟨_, rfl⟩
  obtain ⟨U, hU⟩ : ∃ U, U = a * 2 ^ t + b / 2 ^ (64 - t) := ⟨_, rfl⟩
  obtain ⟨V, hV⟩ : ∃ V, V = b * 2 ^ t % 18446744073709551616 := ⟨_, rfl⟩
  rw [← hY] at n1 n2 l1 l3
  rw [← hU] at l1 l2
  rw [← hV] at l2
  have k1 : IntKind.u64.wrap ((y : Int) * 2 ^ s.toNat) = (Y : Int) := by rw [e1, shlN, u64N (by omega), hY]
  have k4 : bits .or .u64 (IntKind.u64.wrap ((a : Int) * 2 ^ s.toNat)) ((b : Int) / 2 ^ (64 - s).toNat) = (U : Int) := by
    have hle : a * 2 ^ t ≤ U := by rw [hU]; exact Nat.le_add_right _ _
    have hlt : a * 2 ^ t < 18446744073709551616 := by omega
    rw [e1, e2, shlN, shrN, u64N hlt, orN (by rw [← hU]; omega) l1.2, hU]
  have k5 : IntKind.u64.wrap ((b : Int) * 2 ^ s.toNat) = (V : Int) := by rw [e1, shlN, u64M, hV]
  have hVb : V < 18446744073709551616 := by rw [hV]; exact Nat.mod_lt _ (by decide)
  obtain ⟨y1, hy1⟩ : ∃ y1, y1 = Y / 4294967296 := ⟨_, rfl⟩
  obtain ⟨y0, hy0⟩ : ∃ y0, y0 = Y % 4294967296 := ⟨_, rfl⟩
  obtain ⟨u1, hu1⟩ : ∃ u1, u1 = V / 4294967296 := ⟨_, rfl⟩
  obtain ⟨u0, hu0⟩ : ∃ u0, u0 = V % 4294967296 := ⟨_, rfl⟩
  have k2 : (Y : Int) / 4294967296 = (y1 : Int) := by omega
  have k3 : bits .and .u64 (Y : Int) 4294967295 = (y0 : Int) := by rw [Mul64.maskN Y n2, hy0]
  have k6 : (V : Int) / 4294967296 = (u1 : Int) := by omega
  have k7 : bits .and .u64 (V : Int) 4294967295 = (u0 : Int) := by rw [Mul64.maskN V hVb, hu0]
  have k8 : ¬ (y1 : Int) = 0 := by omega
  have t1 : ((y : Int) == 0) = false := by simp; omega
  have t2 : decide (y ≤ a) = false := by simp; omega
  have t3 : ((a : Int) == 0) = false := by simp; omega
  have hsb : 0 ≤ s ∧ s < 64 := by omega
  have HT := hidd (show t < 64 ∧ s.toNat = t ∧ s = (t : Int) from ⟨n3, e1, hs⟩)
  have l4 : A * 2 ^ t = (U * 4294967296 + u1) * 4294967296 + u0 := dv_words l2 hu1 hu0
  rw [l4] at l3
  have HL3 : Hid (((U * 4294967296 + u1) * 4294967296 + u0) / Y = QA ∧ ((U * 4294967296 + u1) * 4294967296 + u0) % Y / 2 ^ t = RA) := ⟨l3.1.trans hQA, l3.2.trans hRA⟩
  have HU1 : Hid (U < Y) := l1.1
  have HYY := hidd (show Y = y1 * 4294967296 + y0 by omega)
  have HB := hidd (show y0 < 4294967296 ∧ 2147483648 ≤ y1 ∧ y1 < 4294967296 ∧ u1 < 4294967296 ∧ u0 < 4294967296 ∧ U < Y ∧ Y < 18446744073709551616 ∧ V = u1 * 4294967296 + u0 by omega)
  have HPOS := hidd (show 0 < y1 ∧ 0 < Y by omega)
  clear n1 n2 n3 n4 l1 l2 l3 l4 hA hQA hRA e1 e2 hs ht hU hV hVb hY hy1 hy0 hu1 hu0 h0 h1 h2 h4
  go_enter Tryd.func77, Tryd.ntmps77
  go_wp2_with (go_at_call 85; refine HL.mono ?_; rintro e w' ⟨rfl, hw⟩; rw [hw]; clear hw w')
  obtain ⟨Q1, hQ1⟩ : ∃ qa, qa = U / y1 := ⟨_, rfl⟩
  obtain ⟨R1, hR1⟩ : ∃ ra, ra = U % y1 := ⟨_, rfl⟩
  have HQ1 : Hid (Q1 * y1 + R1 = U) := by show _ = _; rw [hQ1, hR1, Nat.mul_comm]; exact Nat.div_add_mod _ _
  have HR1 : Hid (R1 < y1) := by show _ < _; rw [hR1]; exact Nat.mod_lt _ HPOS.out.1
  have GQ1 : Hid ((U * 4294967296 + u1) / Y ≤ Q1) := by show _ ≤ _; rw [hQ1]; exact kd_start HYY.out HPOS.out.1 (by have := HB.out; omega)
  have TQ1 : Hid (Q1 ≤ 4294967297) := by show _ ≤ _; rw [hQ1]; exact kd_top HYY.out HB.out.1 (by have := HB.out; omega) HU1.out
  have DQ1 : Hid ((U : Int) / y1 = (Q1 : Int)) := by show _ = _; rw [hQ1]; exact (Int.natCast_ediv _ _).symm
  clear hQ1 hR1
  go_loopw [15, 16] (fun vq vr W => ∃ qa ra : Nat, vq = .int .u64 qa ∧ vr = .int .u64 ra ∧ qa * y1 + ra = U ∧ (U * 4294967296 + u1) / Y ≤ qa ∧ qa ≤ 4294967297 ∧ ra < 4294967296 ∧ Below w.heap.size w W) (fun vq _ _ => (intOf vq).toNat)
  case atStart =>
    have x1 := HQ1.out
    have x2 := HR1.out
    have x3 := HB.out
    have x4 := TQ1.out
    have x6 := HU1.out
    obtain ⟨P, hP⟩ : ∃ P, P = Q1 * y1 := ⟨_, rfl⟩
    have hP2 : (Q1 : Int) * y1 = (P : Int) := by rw [hP]; exact (Int.natCast_mul _ _).symm
    rw [← hP] at x1
    have e1 : IntKind.u64.wrap (Q1 : Int) = Q1 := u64N (by omega)
    have e2 : IntKind.u64.wrap (P : Int) = P := u64N (by omega)
    have e3 : IntKind.u64.wrap ((U : Int) - P) = (R1 : Int) := by rw [show (U : Int) - P = (R1 : Int) by omega]; exact u64N (by omega)
    rw [DQ1.out, e1, hP2, e2, e3]
    exact ⟨Q1, R1, rfl, rfl, HQ1.out, GQ1.out, TQ1.out, by omega, Below.refl _ _⟩
  case round =>
    obtain ⟨qa, ra, rfl, rfl, hq, hl, hq2, hr, hbw⟩ := hrel
    have E := fr_nil hbw
    have X := hidd (And.intro hq (And.intro hl (And.intro hq2 hr)))
    clear hq hl hq2 hr hbw HQ1 HR1 GQ1 TQ1 DQ1
    by_cases hb : 4294967296 ≤ qa
    · have TT : Hid (4294967296 ≤ qa ∨ 4294967296 * ra + u1 < qa * y0) := .inl hb
      have b1 := hidd (show (4294967296 : Int) ≤ (qa : Int) by omega)
      clear hb
      go_upto_region 17 with (fail)
      refine region_fr (C := [Fq.is (.int .u64 (qa : Int)), Fq.is (.bool true), Fq.is (.bool true), Fq.is (undef), Fq.is (undef), Fq.is (undef), Fq.is (undef), Fq.is (undef), Fq.is (undef), Fq.is (undef), Fq.is (undef), Fq.is (.bool true)]) (ks := []) (new := []) E rfl (by kernel_rfl) rfl rfl (fun hp => ⟨?_, ?_, ?_, ?_, ?_, ?_, ?_, ?_, ?_, ?_, ?_, ?_, trivial⟩) ?_
      · exact q_move hp (free_of rfl) trivial (sq_out (s := 15) rfl rfl (fun _ _ => rfl))
      · exact q_one (F := fun v _ => v = .int .u64 (qa : Int)) hp (free_of rfl) trivial (sqi 0) (fun ρ w hc h => ⟨.bool true, by simp [execOp, go_sem, h, hc, b1.out], rfl⟩)
      · exact q_move hp (free_of rfl) trivial (sqi 1)
      · exact q_skip hp (free_of rfl) rfl (gq_some rfl rfl (by simp) rfl (fun v w h => h)) (fun _ => rfl)
      · exact q_skip hp (free_of rfl) rfl (gq_some rfl rfl (by simp) rfl (fun v w h => h)) (fun _ => rfl)
      · exact q_skip hp (free_of rfl) rfl (gq_some rfl rfl (by simp) rfl (fun v w h => h)) (fun _ => rfl)
      · exact q_skip hp (free_of rfl) rfl (gq_some rfl rfl (by simp) rfl (fun v w h => h)) (fun _ => rfl)
      · exact q_skip hp (free_of rfl) rfl (gq_some rfl rfl (by simp) rfl (fun v w h => h)) (fun _ => rfl)
      · exact q_skip hp (free_of rfl) rfl (gq_some rfl rfl (by simp) rfl (fun v w h => h)) (fun _ => rfl)
      · exact q_skip hp (free_of rfl) rfl (gq_some rfl rfl (by simp) rfl (fun v w h => h)) (fun _ => rfl)
      · exact q_skip hp (free_of rfl) rfl (gq_some rfl rfl (by simp) rfl (fun v w h => h)) (fun _ => rfl)
      · exact q_two (F := fun v _ => v = .bool true) (G := fun v _ => v = .bool true) hp (free_of rfl) trivial (sqi 2) (sq_const (fun _ => rfl)) (fun ρ w hc h h' => ⟨_, by simp [execOp, go_sem, h, h'], rfl⟩)
      intro L vs w1 nb hL hC hn E1
      have e0 : vs 0 = .int .u64 (qa : Int) := hC 0 (by simp)
      have e1 : vs 1 = .bool true := hC 1 (by simp)
      have e2 : vs 2 = .bool true := hC 2 (by simp)
      have e3 : vs 3 = undef := hC 3 (by simp)
      have e4 : vs 4 = undef := hC 4 (by simp)
      have e5 : vs 5 = undef := hC 5 (by simp)
      have e6 : vs 6 = undef := hC 6 (by simp)
      have e7 : vs 7 = undef := hC 7 (by simp)
      have e8 : vs 8 = undef := hC 8 (by simp)
      have e9 : vs 9 = undef := hC 9 (by simp)
      have e10 : vs 10 = undef := hC 10 (by simp)
      have e11 : vs 11 = .bool true := hC 11 (by simp)
      have E : Fr w [] w1 := E1
      rw [lay_all hL]
      simp only [putAll, dstOf, List.length_cons, List.length_nil, Nat.zero_add, Nat.reduceAdd, List.getElem?_toArray, List.getElem?_cons_zero, List.getElem?_cons_succ, Option.bind_some, Act.put, List.setIfInBounds_toArray, List.set_cons_succ, List.set_cons_zero]
      rw [e0, e1, e2, e3, e4, e5, e6, e7, e8, e9, e10, e11]
      clear e0 e1 e2 e3 e4 e5 e6 e7 e8 e9 e10 e11 hC hn E1 hL vs L nb
      clear b1
      have KT := kd_true HYY.out X.out.1 HU1.out (by have := HB.out; omega) TT.out
      obtain ⟨za, hz⟩ : ∃ za, za = qa - 1 := ⟨_, rfl⟩
      obtain ⟨v9a, hv⟩ : ∃ v9a, v9a = ra + y1 := ⟨_, rfl⟩
      have c1 := hidd (show IntKind.u64.wrap ((qa : Int) - 1) = (za : Int) by rw [show (qa : Int) - 1 = (za : Int) by omega]; exact u64N (by have := X.out; omega))
      have c2 := hidd (show IntKind.u64.wrap ((ra : Int) + y1) = (v9a : Int) by rw [show (ra : Int) + y1 = (v9a : Int) by omega]; exact u64N (by have := X.out; have := HB.out; omega))
      have ZE : Hid (za * y1 + v9a = U ∧ (U * 4294967296 + u1) / Y ≤ za ∧ za ≤ 4294967296 ∧ za < qa) := by
        have x1 := X.out
        have e : qa * y1 = za * y1 + y1 := by rw [show qa = za + 1 by omega, Nat.add_mul, Nat.one_mul]
        refine ⟨by omega, by rw [hz]; exact KT.1, by omega, by omega⟩
      clear hz hv KT TT X
      go_upto_region 18 with (fail)
      refine region_fr (C := [Fq.is (.int .u64 (qa : Int)), Fq.is (.int .u64 (za : Int)), Fq.is (.int .u64 (za : Int))]) (ks := []) (new := []) E rfl (by kernel_rfl) rfl rfl (fun hp => ⟨?_, ?_, ?_, trivial⟩) ?_
      · exact q_moveB 2 3 hp (free_of rfl) trivial rfl rfl rfl rfl (fun _ => rfl)
      · exact q_one (F := fun v _ => v = .int .u64 (qa : Int)) hp (free_of rfl) trivial (sqi 0) (fun ρ w hc h => ⟨.int .u64 (za : Int), by simp [execOp, go_sem, h, hc, c1.out], rfl⟩)
      · exact q_assign hp (free_of rfl) trivial (sqi 1)
      intro L vs w2 nb hL hC hn E2
      have e0 : vs 0 = .int .u64 (qa : Int) := hC 0 (by simp)
      have e1 : vs 1 = .int .u64 (za : Int) := hC 1 (by simp)
      have e2 : vs 2 = .int .u64 (za : Int) := hC 2 (by simp)
      have E : Fr w [] w2 := E2
      rw [lay_all hL]
      simp only [putAll, dstOf, List.length_cons, List.length_nil, Nat.zero_add, Nat.reduceAdd, List.getElem?_toArray, List.getElem?_cons_zero, List.getElem?_cons_succ, Option.bind_some, Act.put, List.setIfInBounds_toArray, List.set_cons_succ, List.set_cons_zero]
      rw [e0, e1, e2]
      clear e0 e1 e2 hC hn E2 hL vs L nb
      go_upto_region 19 with (fail)
      refine region_fr (C := [Fq.is (.int .u64 (ra : Int)), Fq.is (.int .u64 (y1 : Int)), Fq.is (.int .u64 (v9a : Int)), Fq.is (.int .u64 (v9a : Int))]) (ks := []) (new := []) E rfl (by kernel_rfl) rfl rfl (fun hp => ⟨?_, ?_, ?_, ?_, trivial⟩) ?_
      · exact q_moveB 3 3 hp (free_of rfl) trivial rfl rfl rfl rfl (fun _ => rfl)
      · exact q_move hp (free_of rfl) trivial (sq_out (s := 9) rfl rfl (fun _ _ => rfl))
      · exact q_two (F := fun v _ => v = .int .u64 (ra : Int)) (G := fun v _ => v = .int .u64 (y1 : Int)) hp (free_of rfl) trivial (sqi 0) (sqi 1) (fun ρ w hc h h' => ⟨.int .u64 (v9a : Int), by simp [execOp, go_sem, h, h', c2.out], rfl⟩)
      · exact q_assign hp (free_of rfl) trivial (sqi 2)
      intro L vs w3 nb hL hC hn E3
      have e0 : vs 0 = .int .u64 (ra : Int) := hC 0 (by simp)
      have e1 : vs 1 = .int .u64 (y1 : Int) := hC 1 (by simp)
      have e2 : vs 2 = .int .u64 (v9a : Int) := hC 2 (by simp)
      have e3 : vs 3 = .int .u64 (v9a : Int) := hC 3 (by simp)
      have E : Fr w [] w3 := E3
      rw [lay_all hL]
      simp only [putAll, dstOf, List.length_cons, List.length_nil, Nat.zero_add, Nat.reduceAdd, List.getElem?_toArray, List.getElem?_cons_zero, List.getElem?_cons_succ, Option.bind_some, Act.put, List.setIfInBounds_toArray, List.set_cons_succ, List.set_cons_zero]
      rw [e0, e1, e2, e3]
      clear e0 e1 e2 e3 hC hn E3 hL vs L nb
      clear c1 c2
      by_cases hv : 4294967296 ≤ v9a
      · have b1 := hidd (show (4294967296 : Int) ≤ (v9a : Int) by omega)
        have DONE : Hid (za = (U * 4294967296 + u1) / Y) := kd_big HYY.out ZE.out.1 HU1.out HB.out.1 ZE.out.2.1 hv ZE.out.2.2.1
        clear ZE hv
        go_upto_region 20 with (fail)
        refine region_fr (C := [Fq.is (.int .u64 (v9a : Int)), Fq.is (.bool true)]) (ks := []) (new := []) E rfl (by kernel_rfl) rfl rfl (fun hp => ⟨?_, ?_, trivial⟩) ?_
        · exact q_move hp (free_of rfl) trivial (sq_out (s := 16) rfl rfl (fun _ _ => rfl))
        · exact q_one (F := fun v _ => v = .int .u64 (v9a : Int)) hp (free_of rfl) trivial (sqi 0) (fun ρ w hc h => ⟨.bool true, by simp [execOp, go_sem, h, hc, b1.out], rfl⟩)
        intro L vs w4 nb hL hC hn E4
        have e0 : vs 0 = .int .u64 (v9a : Int) := hC 0 (by simp)
        have e1 : vs 1 = .bool true := hC 1 (by simp)
        have E : Fr w [] w4 := E4
        rw [lay_all hL]
        simp only [putAll, dstOf, List.length_cons, List.length_nil, Nat.zero_add, Nat.reduceAdd, List.getElem?_toArray, List.getElem?_cons_zero, List.getElem?_cons_succ, Option.bind_some, Act.put, List.setIfInBounds_toArray, List.set_cons_succ, List.set_cons_zero]
        rw [e0, e1]
        clear e0 e1 hC hn E4 hL vs L nb
        clear b1
        have DONE1 := DONE
        clear DONE
        obtain ⟨F, hF⟩ : ∃ F, F = (U * 4294967296 + u1) % Y := ⟨_, rfl⟩
        have HF := hidd hF
        have HU2 : Hid (F < Y) := by show _ < _; rw [hF]; exact Nat.mod_lt _ HPOS.out.2
        obtain ⟨X1, hX1⟩ : ∃ X1 : Int, IntKind.u64.wrap ((U : Int) * 4294967296) = X1 := ⟨_, rfl⟩
        obtain ⟨X2, hX2⟩ : ∃ X2 : Int, IntKind.u64.wrap (X1 + u1) = X2 := ⟨_, rfl⟩
        obtain ⟨X3, hX3⟩ : ∃ X3 : Int, IntKind.u64.wrap ((za : Int) * Y) = X3 := ⟨_, rfl⟩
        obtain ⟨G, hG⟩ : ∃ G, G = za * Y := ⟨_, rfl⟩
        have g1 : (za : Int) * Y = (G : Int) := by rw [hG]; exact (Int.natCast_mul _ _).symm
        have g2 : IntKind.u64.wrap (X2 - X3) = (F : Int) := by
          have x1 := Nat.div_add_mod (U * 4294967296 + u1) Y
          rw [← DONE1.out, ← hF, Nat.mul_comm, ← hG] at x1
          have x2 := HU2.out
          have x3 := HB.out
          rw [g1] at hX3
          rw [← hX2, ← hX1, ← hX3]
          simp only [u64_wrap]
          omega
        have W1 := hidd hX1
        have W2 := hidd hX2
        have W3 := hidd hX3
        have W4 := hidd g2
        clear hF hG g1 hX1 hX2 hX3 g2
        go_upto_region 21 with (fail)
        refine region_fr (C := [Fq.is (.int .u64 (U : Int)), Fq.is (.int .u64 X1), Fq.is (.int .u64 (u1 : Int)), Fq.is (.int .u64 X2), Fq.is (.int .u64 (za : Int)), Fq.is (.int .u64 (Y : Int)), Fq.is (.int .u64 X3), Fq.is (.int .u64 (F : Int)), Fq.is (.int .u64 (F : Int))]) (ks := []) (new := []) E rfl (by kernel_rfl) rfl rfl (fun hp => ⟨?_, ?_, ?_, ?_, ?_, ?_, ?_, ?_, ?_, trivial⟩) ?_
        · exact q_move hp (free_of rfl) trivial (sq_out (s := 11) rfl rfl (fun _ _ => rfl))
        · exact q_one (F := fun v _ => v = .int .u64 (U : Int)) hp (free_of rfl) trivial (sqi 0) (fun ρ w hc h => ⟨.int .u64 X1, by simp [execOp, go_sem, h, hc, W1.out], rfl⟩)
        · exact q_move hp (free_of rfl) trivial (sq_out (s := 13) rfl rfl (fun _ _ => rfl))
        · exact q_two (F := fun v _ => v = .int .u64 X1) (G := fun v _ => v = .int .u64 (u1 : Int)) hp (free_of rfl) trivial (sqi 1) (sqi 2) (fun ρ w hc h h' => ⟨.int .u64 X2, by simp [execOp, go_sem, h, h', W2.out], rfl⟩)
        · exact q_move hp (free_of rfl) trivial (sq_out (s := 15) rfl rfl (fun _ _ => rfl))
        · exact q_move hp (free_of rfl) trivial (sq_out (s := 2) rfl rfl (fun _ _ => rfl))
        · exact q_two (F := fun v _ => v = .int .u64 (za : Int)) (G := fun v _ => v = .int .u64 (Y : Int)) hp (free_of rfl) trivial (sqi 4) (sqi 5) (fun ρ w hc h h' => ⟨.int .u64 X3, by simp [execOp, go_sem, h, h', W3.out], rfl⟩)
        · exact q_two (F := fun v _ => v = .int .u64 X2) (G := fun v _ => v = .int .u64 X3) hp (free_of rfl) trivial (sqi 3) (sqi 6) (fun ρ w hc h h' => ⟨.int .u64 (F : Int), by simp [execOp, go_sem, h, h', W4.out], rfl⟩)
        · exact q_assign hp (free_of rfl) trivial (sqi 7)
        intro L vs w5 nb hL hC hn E5
        have e0 : vs 0 = .int .u64 (U : Int) := hC 0 (by simp)
        have e1 : vs 1 = .int .u64 X1 := hC 1 (by simp)
        have e2 : vs 2 = .int .u64 (u1 : Int) := hC 2 (by simp)
        have e3 : vs 3 = .int .u64 X2 := hC 3 (by simp)
        have e4 : vs 4 = .int .u64 (za : Int) := hC 4 (by simp)
        have e5 : vs 5 = .int .u64 (Y : Int) := hC 5 (by simp)
        have e6 : vs 6 = .int .u64 X3 := hC 6 (by simp)
        have e7 : vs 7 = .int .u64 (F : Int) := hC 7 (by simp)
        have e8 : vs 8 = .int .u64 (F : Int) := hC 8 (by simp)
        have E : Fr w [] w5 := E5
        rw [lay_all hL]
        simp only [putAll, dstOf, List.length_cons, List.length_nil, Nat.zero_add, Nat.reduceAdd, List.getElem?_toArray, List.getElem?_cons_zero, List.getElem?_cons_succ, Option.bind_some, Act.put, List.setIfInBounds_toArray, List.set_cons_succ, List.set_cons_zero]
        rw [e0, e1, e2, e3, e4, e5, e6, e7, e8]
        clear e0 e1 e2 e3 e4 e5 e6 e7 e8 hC hn E5 hL vs L nb
        clear W1 W2 W3 W4
        obtain ⟨Q2, hQ2⟩ : ∃ qa, qa = F / y1 := ⟨_, rfl⟩
        obtain ⟨R2, hR2⟩ : ∃ ra, ra = F % y1 := ⟨_, rfl⟩
        have HQ2 : Hid (Q2 * y1 + R2 = F) := by show _ = _; rw [hQ2, hR2, Nat.mul_comm]; exact Nat.div_add_mod _ _
        have HR2 : Hid (R2 < y1) := by show _ < _; rw [hR2]; exact Nat.mod_lt _ HPOS.out.1
        have GQ2 : Hid ((F * 4294967296 + u0) / Y ≤ Q2) := by show _ ≤ _; rw [hQ2]; exact kd_start HYY.out HPOS.out.1 (by have := HB.out; omega)
        have TQ2 : Hid (Q2 ≤ 4294967297) := by show _ ≤ _; rw [hQ2]; exact kd_top HYY.out HB.out.1 (by have := HB.out; omega) HU2.out
        have DQ2 : Hid ((F : Int) / y1 = (Q2 : Int)) := by show _ = _; rw [hQ2]; exact (Int.natCast_ediv _ _).symm
        clear hQ2 hR2
        have HZ := hidd (show ¬ (y1 : Int) = 0 by have := HPOS.out; omega)
        have HZN := hidd (show ¬ y1 = 0 by have := HPOS.out; omega)
        have HQW := hidd (show IntKind.u64.wrap (Q2 : Int) = (Q2 : Int) from u64N (by have := TQ2.out; omega))
        go_upto_region 22 with (fail)
        refine region_fr (C := [Fq.is (.int .u64 (F : Int)), Fq.is (.int .u64 (y1 : Int)), Fq.is (.int .u64 (Q2 : Int)), Fq.is (.int .u64 (Q2 : Int))]) (ks := []) (new := []) E rfl (by kernel_rfl) rfl rfl (fun hp => ⟨?_, ?_, ?_, ?_, trivial⟩) ?_
        · exact q_move hp (free_of rfl) trivial (sq_out (s := 17) rfl rfl (fun _ _ => rfl))
        · exact q_move hp (free_of rfl) trivial (sq_out (s := 9) rfl rfl (fun _ _ => rfl))
        · exact q_two (F := fun v _ => v = .int .u64 (F : Int)) (G := fun v _ => v = .int .u64 (y1 : Int)) hp (free_of rfl) trivial (sqi 0) (sqi 1) (fun ρ w hc h h' => ⟨.int .u64 (Q2 : Int), by simp [execOp, go_sem, h, h', HZN.out, DQ2.out, HQW.out], rfl⟩)
        · exact q_assign hp (free_of rfl) trivial (sqi 2)
        intro L vs w6 nb hL hC hn E6
        have e0 : vs 0 = .int .u64 (F : Int) := hC 0 (by simp)
        have e1 : vs 1 = .int .u64 (y1 : Int) := hC 1 (by simp)
        have e2 : vs 2 = .int .u64 (Q2 : Int) := hC 2 (by simp)
        have e3 : vs 3 = .int .u64 (Q2 : Int) := hC 3 (by simp)
        have E : Fr w [] w6 := E6
        rw [lay_all hL]
        simp only [putAll, dstOf, List.length_cons, List.length_nil, Nat.zero_add, Nat.reduceAdd, List.getElem?_toArray, List.getElem?_cons_zero, List.getElem?_cons_succ, Option.bind_some, Act.put, List.setIfInBounds_toArray, List.set_cons_succ, List.set_cons_zero]
        rw [e0, e1, e2, e3]
        clear e0 e1 e2 e3 hC hn E6 hL vs L nb
        clear HZ HZN HQW DQ2
        obtain ⟨P2, hP2⟩ : ∃ P, P = Q2 * y1 := ⟨_, rfl⟩
        have W1 := hidd (show IntKind.u64.wrap ((Q2 : Int) * y1) = (P2 : Int) by rw [show (Q2 : Int) * y1 = (P2 : Int) by rw [hP2]; exact (Int.natCast_mul _ _).symm]; exact u64N (by have := HQ2.out; have := HU2.out; have := HB.out; omega))
        have W2 := hidd (show IntKind.u64.wrap ((F : Int) - P2) = (R2 : Int) by rw [show (F : Int) - P2 = (R2 : Int) by have := HQ2.out; omega]; exact u64N (by have := HR2.out; have := HB.out; omega))
        clear hP2
        go_upto_region 23 with (fail)
        refine region_fr (C := [Fq.is (.int .u64 (F : Int)), Fq.is (.int .u64 (Q2 : Int)), Fq.is (.int .u64 (y1 : Int)), Fq.is (.int .u64 (P2 : Int)), Fq.is (.int .u64 (R2 : Int)), Fq.is (.int .u64 (R2 : Int))]) (ks := []) (new := []) E rfl (by kernel_rfl) rfl rfl (fun hp => ⟨?_, ?_, ?_, ?_, ?_, ?_, trivial⟩) ?_
        · exact q_move hp (free_of rfl) trivial (sq_out (s := 17) rfl rfl (fun _ _ => rfl))
        · exact q_move hp (free_of rfl) trivial (sq_out (s := 18) rfl rfl (fun _ _ => rfl))
        · exact q_move hp (free_of rfl) trivial (sq_out (s := 9) rfl rfl (fun _ _ => rfl))
        · exact q_two (F := fun v _ => v = .int .u64 (Q2 : Int)) (G := fun v _ => v = .int .u64 (y1 : Int)) hp (free_of rfl) trivial (sqi 1) (sqi 2) (fun ρ w hc h h' => ⟨.int .u64 (P2 : Int), by simp [execOp, go_sem, h, h', W1.out], rfl⟩)
        · exact q_two (F := fun v _ => v = .int .u64 (F : Int)) (G := fun v _ => v = .int .u64 (P2 : Int)) hp (free_of rfl) trivial (sqi 0) (sqi 3) (fun ρ w hc h h' => ⟨.int .u64 (R2 : Int), by simp [execOp, go_sem, h, h', W2.out], rfl⟩)
        · exact q_assign hp (free_of rfl) trivial (sqi 4)
        intro L vs w7 nb hL hC hn E7
        have e0 : vs 0 = .int .u64 (F : Int) := hC 0 (by simp)
        have e1 : vs 1 = .int .u64 (Q2 : Int) := hC 1 (by simp)
        have e2 : vs 2 = .int .u64 (y1 : Int) := hC 2 (by simp)
        have e3 : vs 3 = .int .u64 (P2 : Int) := hC 3 (by simp)
        have e4 : vs 4 = .int .u64 (R2 : Int) := hC 4 (by simp)
        have e5 : vs 5 = .int .u64 (R2 : Int) := hC 5 (by simp)
        have E : Fr w [] w7 := E7
        rw [lay_all hL]
        simp only [putAll, dstOf, List.length_cons, List.length_nil, Nat.zero_add, Nat.reduceAdd, List.getElem?_toArray, List.getElem?_cons_zero, List.getElem?_cons_succ, Option.bind_some, Act.put, List.setIfInBounds_toArray, List.set_cons_succ, List.set_cons_zero]
        rw [e0, e1, e2, e3, e4, e5]
        clear e0 e1 e2 e3 e4 e5 hC hn E7 hL vs L nb
        clear W1 W2
        go_wp2
        go_loopw [18, 16] (fun vq vr W => ∃ qb rb : Nat, vq = .int .u64 qb ∧ vr = .int .u64 rb ∧ qb * y1 + rb = F ∧ (F * 4294967296 + u0) / Y ≤ qb ∧ qb ≤ 4294967297 ∧ rb < 4294967296 ∧ Below w.heap.size w W) (fun vq _ _ => (intOf vq).toNat)
        case atStart =>
          exact ⟨Q2, R2, rfl, rfl, HQ2.out, GQ2.out, TQ2.out, by have := HR2.out; have := HB.out; omega, E.below⟩
        case round =>
          obtain ⟨qb, rb, rfl, rfl, hq, hl, hq2, hr, hbw⟩ := hrel
          have E := fr_nil hbw
          have X := hidd (And.intro hq (And.intro hl (And.intro hq2 hr)))
          clear hq hl hq2 hr hbw HQ2 HR2 GQ2 TQ2
          by_cases hb : 4294967296 ≤ qb
          · have TT : Hid (4294967296 ≤ qb ∨ 4294967296 * rb + u0 < qb * y0) := .inl hb
            have b1 := hidd (show (4294967296 : Int) ≤ (qb : Int) by omega)
            clear hb
            go_upto_region 24 with (fail)
            refine region_fr (C := [Fq.is (.int .u64 (qb : Int)), Fq.is (.bool true), Fq.is (.bool true), Fq.is (undef), Fq.is (undef), Fq.is (undef), Fq.is (undef), Fq.is (undef), Fq.is (undef), Fq.is (undef), Fq.is (undef), Fq.is (.bool true)]) (ks := []) (new := []) E rfl (by kernel_rfl) rfl rfl (fun hp => ⟨?_, ?_, ?_, ?_, ?_, ?_, ?_, ?_, ?_, ?_, ?_, ?_, trivial⟩) ?_
            · exact q_move hp (free_of rfl) trivial (sq_out (s := 18) rfl rfl (fun _ _ => rfl))
            · exact q_one (F := fun v _ => v = .int .u64 (qb : Int)) hp (free_of rfl) trivial (sqi 0) (fun ρ w hc h => ⟨.bool true, by simp [execOp, go_sem, h, hc, b1.out], rfl⟩)
            · exact q_move hp (free_of rfl) trivial (sqi 1)
            · exact q_skip hp (free_of rfl) rfl (gq_some rfl rfl (by simp) rfl (fun v w h => h)) (fun _ => rfl)
            · exact q_skip hp (free_of rfl) rfl (gq_some rfl rfl (by simp) rfl (fun v w h => h)) (fun _ => rfl)
            · exact q_skip hp (free_of rfl) rfl (gq_some rfl rfl (by simp) rfl (fun v w h => h)) (fun _ => rfl)
            · exact q_skip hp (free_of rfl) rfl (gq_some rfl rfl (by simp) rfl (fun v w h => h)) (fun _ => rfl)
            · exact q_skip hp (free_of rfl) rfl (gq_some rfl rfl (by simp) rfl (fun v w h => h)) (fun _ => rfl)
            · exact q_skip hp (free_of rfl) rfl (gq_some rfl rfl (by simp) rfl (fun v w h => h)) (fun _ => rfl)
            · exact q_skip hp (free_of rfl) rfl (gq_some rfl rfl (by simp) rfl (fun v w h => h)) (fun _ => rfl)
            · exact q_skip hp (free_of rfl) rfl (gq_some rfl rfl (by simp) rfl (fun v w h => h)) (fun _ => rfl)
            · exact q_two (F := fun v _ => v = .bool true) (G := fun v _ => v = .bool true) hp (free_of rfl) trivial (sqi 2) (sq_const (fun _ => rfl)) (fun ρ w hc h h' => ⟨_, by simp [execOp, go_sem, h, h'], rfl⟩)
            intro L vs w8 nb hL hC hn E8
            have e0 : vs 0 = .int .u64 (qb : Int) := hC 0 (by simp)
            have e1 : vs 1 = .bool true := hC 1 (by simp)
            have e2 : vs 2 = .bool true := hC 2 (by simp)
            have e3 : vs 3 = undef := hC 3 (by simp)
            have e4 : vs 4 = undef := hC 4 (by simp)
            have e5 : vs 5 = undef := hC 5 (by simp)
            have e6 : vs 6 = undef := hC 6 (by simp)
            have e7 : vs 7 = undef := hC 7 (by simp)
            have e8 : vs 8 = undef := hC 8 (by simp)
            have e9 : vs 9 = undef := hC 9 (by simp)
            have e10 : vs 10 = undef := hC 10 (by simp)
            have e11 : vs 11 = .bool true := hC 11 (by simp)
            have E : Fr w [] w8 := E8
            rw [lay_all hL]
            simp only [putAll, dstOf, List.length_cons, List.length_nil, Nat.zero_add, Nat.reduceAdd, List.getElem?_toArray, List.getElem?_cons_zero, List.getElem?_cons_succ, Option.bind_some, Act.put, List.setIfInBounds_toArray, List.set_cons_succ, List.set_cons_zero]
            rw [e0, e1, e2, e3, e4, e5, e6, e7, e8, e9, e10, e11]
            clear e0 e1 e2 e3 e4 e5 e6 e7 e8 e9 e10 e11 hC hn E8 hL vs L nb
            clear b1
            have KT := kd_true HYY.out X.out.1 HU2.out (by have := HB.out; omega) TT.out
            obtain ⟨zb, hz⟩ : ∃ zb, zb = qb - 1 := ⟨_, rfl⟩
            obtain ⟨v9b, hv⟩ : ∃ v9b, v9b = rb + y1 := ⟨_, rfl⟩
            have c1 := hidd (show IntKind.u64.wrap ((qb : Int) - 1) = (zb : Int) by rw [show (qb : Int) - 1 = (zb : Int) by omega]; exact u64N (by have := X.out; omega))
            have c2 := hidd (show IntKind.u64.wrap ((rb : Int) + y1) = (v9b : Int) by rw [show (rb : Int) + y1 = (v9b : Int) by omega]; exact u64N (by have := X.out; have := HB.out; omega))
            have ZE : Hid (zb * y1 + v9b = F ∧ (F * 4294967296 + u0) / Y ≤ zb ∧ zb ≤ 4294967296 ∧ zb < qb) := by
              have x1 := X.out
              have e : qb * y1 = zb * y1 + y1 := by rw [show qb = zb + 1 by omega, Nat.add_mul, Nat.one_mul]
              refine ⟨by omega, by rw [hz]; exact KT.1, by omega, by omega⟩
            clear hz hv KT TT X
            go_upto_region 25 with (fail)
            refine region_fr (C := [Fq.is (.int .u64 (qb : Int)), Fq.is (.int .u64 (zb : Int)), Fq.is (.int .u64 (zb : Int))]) (ks := []) (new := []) E rfl (by kernel_rfl) rfl rfl (fun hp => ⟨?_, ?_, ?_, trivial⟩) ?_
            · exact q_moveB 2 3 hp (free_of rfl) trivial rfl rfl rfl rfl (fun _ => rfl)
            · exact q_one (F := fun v _ => v = .int .u64 (qb : Int)) hp (free_of rfl) trivial (sqi 0) (fun ρ w hc h => ⟨.int .u64 (zb : Int), by simp [execOp, go_sem, h, hc, c1.out], rfl⟩)
            · exact q_assign hp (free_of rfl) trivial (sqi 1)
            intro L vs w9 nb hL hC hn E9
            have e0 : vs 0 = .int .u64 (qb : Int) := hC 0 (by simp)
            have e1 : vs 1 = .int .u64 (zb : Int) := hC 1 (by simp)
            have e2 : vs 2 = .int .u64 (zb : Int) := hC 2 (by simp)
            have E : Fr w [] w9 := E9
            rw [lay_all hL]
            simp only [putAll, dstOf, List.length_cons, List.length_nil, Nat.zero_add, Nat.reduceAdd, List.getElem?_toArray, List.getElem?_cons_zero, List.getElem?_cons_succ, Option.bind_some, Act.put, List.setIfInBounds_toArray, List.set_cons_succ, List.set_cons_zero]
            rw [e0, e1, e2]
            clear e0 e1 e2 hC hn E9 hL vs L nb
            go_upto_region 26 with (fail)
            refine region_fr (C := [Fq.is (.int .u64 (rb : Int)), Fq.is (.int .u64 (y1 : Int)), Fq.is (.int .u64 (v9b : Int)), Fq.is (.int .u64 (v9b : Int))]) (ks := []) (new := []) E rfl (by kernel_rfl) rfl rfl (fun hp => ⟨?_, ?_, ?_, ?_, trivial⟩) ?_
            · exact q_moveB 3 3 hp (free_of rfl) trivial rfl rfl rfl rfl (fun _ => rfl)
            · exact q_move hp (free_of rfl) trivial (sq_out (s := 9) rfl rfl (fun _ _ => rfl))
            · exact q_two (F := fun v _ => v = .int .u64 (rb : Int)) (G := fun v _ => v = .int .u64 (y1 : Int)) hp (free_of rfl) trivial (sqi 0) (sqi 1) (fun ρ w hc h h' => ⟨.int .u64 (v9b : Int), by simp [execOp, go_sem, h, h', c2.out], rfl⟩)
            · exact q_assign hp (free_of rfl) trivial (sqi 2)
            intro L vs w10 nb hL hC hn E10
            have e0 : vs 0 = .int .u64 (rb : Int) := hC 0 (by simp)
            have e1 : vs 1 = .int .u64 (y1 : Int) := hC 1 (by simp)
            have e2 : vs 2 = .int .u64 (v9b : Int) := hC 2 (by simp)
            have e3 : vs 3 = .int .u64 (v9b : Int) := hC 3 (by simp)
            have E : Fr w [] w10 := E10
            rw [lay_all hL]
            simp only [putAll, dstOf, List.length_cons, List.length_nil, Nat.zero_add, Nat.reduceAdd, List.getElem?_toArray, List.getElem?_cons_zero, List.getElem?_cons_succ, Option.bind_some, Act.put, List.setIfInBounds_toArray, List.set_cons_succ, List.set_cons_zero]
            rw [e0, e1, e2, e3]
            clear e0 e1 e2 e3 hC hn E10 hL vs L nb
            clear c1 c2
            by_cases hv : 4294967296 ≤ v9b
            · have b1 := hidd (show (4294967296 : Int) ≤ (v9b : Int) by omega)
              have DONE : Hid (zb = (F * 4294967296 + u0) / Y) := kd_big HYY.out ZE.out.1 HU2.out HB.out.1 ZE.out.2.1 hv ZE.out.2.2.1
              clear ZE hv
              go_upto_region 27 with (fail)
              refine region_fr (C := [Fq.is (.int .u64 (v9b : Int)), Fq.is (.bool true)]) (ks := []) (new := []) E rfl (by kernel_rfl) rfl rfl (fun hp => ⟨?_, ?_, trivial⟩) ?_
              · exact q_move hp (free_of rfl) trivial (sq_out (s := 16) rfl rfl (fun _ _ => rfl))
              · exact q_one (F := fun v _ => v = .int .u64 (v9b : Int)) hp (free_of rfl) trivial (sqi 0) (fun ρ w hc h => ⟨.bool true, by simp [execOp, go_sem, h, hc, b1.out], rfl⟩)
              intro L vs w11 nb hL hC hn E11
              have e0 : vs 0 = .int .u64 (v9b : Int) := hC 0 (by simp)
              have e1 : vs 1 = .bool true := hC 1 (by simp)
              have E : Fr w [] w11 := E11
              rw [lay_all hL]
              simp only [putAll, dstOf, List.length_cons, List.length_nil, Nat.zero_add, Nat.reduceAdd, List.getElem?_toArray, List.getElem?_cons_zero, List.getElem?_cons_succ, Option.bind_some, Act.put, List.setIfInBounds_toArray, List.set_cons_succ, List.set_cons_zero]
              rw [e0, e1]
              clear e0 e1 hC hn E11 hL vs L nb
              clear b1
              obtain ⟨R9, hR9⟩ : ∃ rb, rb = (F * 4294967296 + u0) % Y := ⟨_, rfl⟩
              have K2 := kd_two (U := U) (B := 4294967296) (u := u1) (v := u0) HPOS.out.2
              rw [← HF.out, ← DONE1.out, ← DONE.out, ← hR9] at K2
              have HA : Hid (za * 4294967296 + zb = QA ∧ R9 / 2 ^ t = RA) := ⟨K2.1.trans HL3.out.1, by rw [K2.2]; exact HL3.out.2⟩
              have hz1 : za < 4294967296 := by rw [DONE1.out]; exact kd_lt HU1.out (by have := HB.out; omega)
              have hz2 : zb < 4294967296 := by rw [DONE.out]; exact kd_lt HU2.out (by have := HB.out; omega)
              obtain ⟨G, hG⟩ : ∃ G, G = zb * Y := ⟨_, rfl⟩
              have hdm := Nat.div_add_mod (F * 4294967296 + u0) Y
              rw [← DONE.out, ← hR9, Nat.mul_comm, ← hG] at hdm
              have hRY : R9 < Y := by rw [hR9]; exact Nat.mod_lt _ HPOS.out.2
              obtain ⟨A1, hA1⟩ : ∃ A1 : Int, IntKind.u64.wrap ((za : Int) * 4294967296) = A1 := ⟨_, rfl⟩
              obtain ⟨B1, hB1⟩ : ∃ B1 : Int, IntKind.u64.wrap ((F : Int) * 4294967296) = B1 := ⟨_, rfl⟩
              obtain ⟨B2, hB2⟩ : ∃ B2 : Int, IntKind.u64.wrap (B1 + u0) = B2 := ⟨_, rfl⟩
              obtain ⟨C1, hC1⟩ : ∃ C1 : Int, IntKind.u64.wrap ((zb : Int) * Y) = C1 := ⟨_, rfl⟩
              have f1 : IntKind.u64.wrap (A1 + zb) = ((za * 4294967296 + zb : Nat) : Int) := by rw [← hA1]; simp only [u64_wrap]; omega
              have hg2 : (zb : Int) * Y = (G : Int) := by rw [hG]; exact (Int.natCast_mul _ _).symm
              have f2 : IntKind.u64.wrap (B2 - C1) = (R9 : Int) := by
                rw [hg2] at hC1
                have x3 := HB.out
                rw [← hB2, ← hB1, ← hC1]
                simp only [u64_wrap]
                omega
              have f3 : (R9 : Int) / 2 ^ s.toNat = ((R9 / 2 ^ t : Nat) : Int) := by rw [HT.out.2.1, shrN]
              rw [HA.out.1] at f1
              rw [HA.out.2] at f3
              obtain ⟨RR, hRR⟩ : ∃ RR : Int, RR = (R9 : Int) := ⟨_, rfl⟩
              rw [← hRR] at f2 f3
              have HS0 := hidd (show 0 ≤ s ∧ s < 64 by have := HT.out; omega)
              have W1 := hidd hA1
              have W2 := hidd f1
              have W3 := hidd hB1
              have W4 := hidd hB2
              have W5 := hidd hC1
              have W6 := hidd f2
              have W7 := hidd f3
              have W8 := hidd (show ¬ s < 0 by have := HS0.out; omega)
              clear hA1 f1 hB1 hB2 hC1 f2 f3 hg2 hdm hRY hG hz1 hz2 hR9 K2 HA hRR DONE DONE1 HL3 HYY HB HU1 HU2 HF HPOS HT
              go_upto_region 28 with (fail)
              refine region_fr (C := [Fq.is (.int .u64 (za : Int)), Fq.is (.int .u64 A1), Fq.is (.int .u64 (zb : Int)), Fq.is (.int .u64 (QA : Int)), Fq.is (.int .u64 (F : Int)), Fq.is (.int .u64 B1), Fq.is (.int .u64 (u0 : Int)), Fq.is (.int .u64 B2), Fq.is (.int .u64 (zb : Int)), Fq.is (.int .u64 (Y : Int)), Fq.is (.int .u64 C1), Fq.is (.int .u64 RR), Fq.is (.int .u64 s), Fq.is (.int .u64 (RA : Int)), Fq.is (.int .u64 (QA : Int)), Fq.is (.int .u64 (RA : Int))]) (ks := []) (new := []) E rfl (by kernel_rfl) rfl rfl (fun hp => ⟨?_, ?_, ?_, ?_, ?_, ?_, ?_, ?_, ?_, ?_, ?_, ?_, ?_, ?_, ?_, ?_, trivial⟩) ?_
              · exact q_move hp (free_of rfl) trivial (sq_out (s := 15) rfl rfl (fun _ _ => rfl))
              · exact q_one (F := fun v _ => v = .int .u64 (za : Int)) hp (free_of rfl) trivial (sqi 0) (fun ρ w hc h => ⟨.int .u64 A1, by simp [execOp, go_sem, h, hc, W1.out], rfl⟩)
              · exact q_move hp (free_of rfl) trivial (sq_out (s := 18) rfl rfl (fun _ _ => rfl))
              · exact q_two (F := fun v _ => v = .int .u64 A1) (G := fun v _ => v = .int .u64 (zb : Int)) hp (free_of rfl) trivial (sqi 1) (sqi 2) (fun ρ w hc h h' => ⟨.int .u64 (QA : Int), by simp [execOp, go_sem, h, h', W2.out], rfl⟩)
              · exact q_move hp (free_of rfl) trivial (sq_out (s := 17) rfl rfl (fun _ _ => rfl))
              · exact q_one (F := fun v _ => v = .int .u64 (F : Int)) hp (free_of rfl) trivial (sqi 4) (fun ρ w hc h => ⟨.int .u64 B1, by simp [execOp, go_sem, h, hc, W3.out], rfl⟩)
              · exact q_move hp (free_of rfl) trivial (sq_out (s := 14) rfl rfl (fun _ _ => rfl))
              · exact q_two (F := fun v _ => v = .int .u64 B1) (G := fun v _ => v = .int .u64 (u0 : Int)) hp (free_of rfl) trivial (sqi 5) (sqi 6) (fun ρ w hc h h' => ⟨.int .u64 B2, by simp [execOp, go_sem, h, h', W4.out], rfl⟩)
              · exact q_move hp (free_of rfl) trivial (sq_out (s := 18) rfl rfl (fun _ _ => rfl))
              · exact q_move hp (free_of rfl) trivial (sq_out (s := 2) rfl rfl (fun _ _ => rfl))
              · exact q_two (F := fun v _ => v = .int .u64 (zb : Int)) (G := fun v _ => v = .int .u64 (Y : Int)) hp (free_of rfl) trivial (sqi 8) (sqi 9) (fun ρ w hc h h' => ⟨.int .u64 C1, by simp [execOp, go_sem, h, h', W5.out], rfl⟩)
              · exact q_two (F := fun v _ => v = .int .u64 B2) (G := fun v _ => v = .int .u64 C1) hp (free_of rfl) trivial (sqi 7) (sqi 10) (fun ρ w hc h h' => ⟨.int .u64 RR, by simp [execOp, go_sem, h, h', W6.out], rfl⟩)
              · exact q_move hp (free_of rfl) trivial (sq_out (s := 8) rfl rfl (fun _ _ => rfl))
              · exact q_two (F := fun v _ => v = .int .u64 RR) (G := fun v _ => v = .int .u64 s) hp (free_of rfl) trivial (sqi 11) (sqi 12) (fun ρ w hc h h' => ⟨.int .u64 (RA : Int), by simp [execOp, go_sem, h, h', W7.out], rfl⟩)
              · exact q_assign hp (free_of rfl) trivial (sqi 3)
              · exact q_assign hp (free_of rfl) trivial (sqi 13)
              intro L vs w12 nb hL hC hn E12
              have e0 : vs 0 = .int .u64 (za : Int) := hC 0 (by simp)
              have e1 : vs 1 = .int .u64 A1 := hC 1 (by simp)
              have e2 : vs 2 = .int .u64 (zb : Int) := hC 2 (by simp)
              have e3 : vs 3 = .int .u64 (QA : Int) := hC 3 (by simp)
              have e4 : vs 4 = .int .u64 (F : Int) := hC 4 (by simp)
              have e5 : vs 5 = .int .u64 B1 := hC 5 (by simp)
              have e6 : vs 6 = .int .u64 (u0 : Int) := hC 6 (by simp)
              have e7 : vs 7 = .int .u64 B2 := hC 7 (by simp)
              have e8 : vs 8 = .int .u64 (zb : Int) := hC 8 (by simp)
              have e9 : vs 9 = .int .u64 (Y : Int) := hC 9 (by simp)
              have e10 : vs 10 = .int .u64 C1 := hC 10 (by simp)
              have e11 : vs 11 = .int .u64 RR := hC 11 (by simp)
              have e12 : vs 12 = .int .u64 s := hC 12 (by simp)
              have e13 : vs 13 = .int .u64 (RA : Int) := hC 13 (by simp)
              have e14 : vs 14 = .int .u64 (QA : Int) := hC 14 (by simp)
              have e15 : vs 15 = .int .u64 (RA : Int) := hC 15 (by simp)
              have E : Fr w [] w12 := E12
              rw [lay_all hL]
              simp only [putAll, dstOf, List.length_cons, List.length_nil, Nat.zero_add, Nat.reduceAdd, List.getElem?_toArray, List.getElem?_cons_zero, List.getElem?_cons_succ, Option.bind_some, Act.put, List.setIfInBounds_toArray, List.set_cons_succ, List.set_cons_zero]
              rw [e0, e1, e2, e3, e4, e5, e6, e7, e8, e9, e10, e11, e12, e13, e14, e15]
              clear e0 e1 e2 e3 e4 e5 e6 e7 e8 e9 e10 e11 e12 e13 e14 e15 hC hn E12 hL vs L nb
              clear W1 W2 W3 W4 W5 W6 W7 W8 HS0
              go_wp2
              exact bodyPost_ret (v := .tuple #[.int .u64 (QA : Int), .int .u64 (RA : Int)]) (by simp [results, Tryd.results77, go_sem]) rfl ⟨rfl, E.below⟩
            · have b1 := hidd (show ¬ (4294967296 : Int) ≤ (v9b : Int) by omega)
              have HV : Hid (v9b < 4294967296) := by show _ < _; omega
              clear hv
              go_upto_region 27 with (fail)
              refine region_fr (C := [Fq.is (.int .u64 (v9b : Int)), Fq.is (.bool false)]) (ks := []) (new := []) E rfl (by kernel_rfl) rfl rfl (fun hp => ⟨?_, ?_, trivial⟩) ?_
              · exact q_move hp (free_of rfl) trivial (sq_out (s := 16) rfl rfl (fun _ _ => rfl))
              · exact q_one (F := fun v _ => v = .int .u64 (v9b : Int)) hp (free_of rfl) trivial (sqi 0) (fun ρ w hc h => ⟨.bool false, by simp [execOp, go_sem, h, hc, b1.out], rfl⟩)
              intro L vs w13 nb hL hC hn E13
              have e0 : vs 0 = .int .u64 (v9b : Int) := hC 0 (by simp)
              have e1 : vs 1 = .bool false := hC 1 (by simp)
              have E : Fr w [] w13 := E13
              rw [lay_all hL]
              simp only [putAll, dstOf, List.length_cons, List.length_nil, Nat.zero_add, Nat.reduceAdd, List.getElem?_toArray, List.getElem?_cons_zero, List.getElem?_cons_succ, Option.bind_some, Act.put, List.setIfInBounds_toArray, List.set_cons_succ, List.set_cons_zero]
              rw [e0, e1]
              clear e0 e1 hC hn E13 hL vs L nb
              clear b1
              go_wp2
              go_roundw
              case rel => exact ⟨zb, v9b, rfl, rfl, ZE.out.1, ZE.out.2.1, by have := ZE.out.2.2.1; omega, HV.out, E.below⟩
              case measure => have := ZE.out.2.2.2; simp [intOf]; omega
          · have b1 := hidd (show ¬ (4294967296 : Int) ≤ (qb : Int) by omega)
            obtain ⟨P, hP⟩ : ∃ P, P = qb * y0 := ⟨_, rfl⟩
            obtain ⟨S, hS⟩ : ∃ S, S = 4294967296 * rb + u0 := ⟨_, rfl⟩
            obtain ⟨N, hN⟩ : ∃ N, N = 4294967296 * rb := ⟨_, rfl⟩
            have hPb : P < 18446744073709551616 := by
              rw [hP]
              have h1 := Nat.mul_le_mul (show qb ≤ 4294967295 by omega) (show y0 ≤ 4294967295 by have := HB.out; omega)
              omega
            have d1 := hidd (show IntKind.u64.wrap ((qb : Int) * y0) = (P : Int) by rw [show (qb : Int) * y0 = (P : Int) by rw [hP]; exact (Int.natCast_mul _ _).symm]; exact u64N hPb)
            have d2 := hidd (show IntKind.u64.wrap (4294967296 * (rb : Int)) = (N : Int) by rw [show 4294967296 * (rb : Int) = (N : Int) by omega]; exact u64N (by have := X.out; omega))
            have d3 := hidd (show IntKind.u64.wrap ((N : Int) + u0) = (S : Int) by rw [show (N : Int) + u0 = (S : Int) by omega]; exact u64N (by have := X.out; have := HB.out; omega))
            have HPS := hidd (And.intro hP hS)
            clear hP hS hN hPb hb
            by_cases ht : S < P
            · have b2 := hidd (show (S : Int) < P by omega)
              have TT : Hid (4294967296 ≤ qb ∨ 4294967296 * rb + u0 < qb * y0) := .inr (by rw [← HPS.out.1, ← HPS.out.2]; exact ht)
              clear ht HPS
              go_upto_region 24 with (fail)
              refine region_fr (C := [Fq.is (.int .u64 (qb : Int)), Fq.is (.bool false), Fq.is (.bool false), Fq.is (.int .u64 (qb : Int)), Fq.is (.int .u64 (y0 : Int)), Fq.is (.int .u64 (P : Int)), Fq.is (.int .u64 (rb : Int)), Fq.is (.int .u64 (N : Int)), Fq.is (.int .u64 (u0 : Int)), Fq.is (.int .u64 (S : Int)), Fq.is (.bool true), Fq.is (.bool true)]) (ks := []) (new := []) E rfl (by kernel_rfl) rfl rfl (fun hp => ⟨?_, ?_, ?_, ?_, ?_, ?_, ?_, ?_, ?_, ?_, ?_, ?_, trivial⟩) ?_
              · exact q_move hp (free_of rfl) trivial (sq_out (s := 18) rfl rfl (fun _ _ => rfl))
              · exact q_one (F := fun v _ => v = .int .u64 (qb : Int)) hp (free_of rfl) trivial (sqi 0) (fun ρ w hc h => ⟨.bool false, by simp [execOp, go_sem, h, hc, b1.out], rfl⟩)
              · exact q_move hp (free_of rfl) trivial (sqi 1)
              · exact q_move hp (free_of rfl) (gq_some rfl rfl (by simp) rfl (fun v w h => h)) (sq_out (s := 18) rfl rfl (fun _ _ => rfl))
              · exact q_move hp (free_of rfl) (gq_some rfl rfl (by simp) rfl (fun v w h => h)) (sq_out (s := 10) rfl rfl (fun _ _ => rfl))
              · exact q_two (F := fun v _ => v = .int .u64 (qb : Int)) (G := fun v _ => v = .int .u64 (y0 : Int)) hp (free_of rfl) (gq_some rfl rfl (by simp) rfl (fun v w h => h)) (sqi 3) (sqi 4) (fun ρ w hc h h' => ⟨.int .u64 (P : Int), by simp [execOp, go_sem, h, h', d1.out], rfl⟩)
              · exact q_move hp (free_of rfl) (gq_some rfl rfl (by simp) rfl (fun v w h => h)) (sq_out (s := 16) rfl rfl (fun _ _ => rfl))
              · exact q_one (F := fun v _ => v = .int .u64 (rb : Int)) hp (free_of rfl) (gq_some rfl rfl (by simp) rfl (fun v w h => h)) (sqi 6) (fun ρ w hc h => ⟨.int .u64 (N : Int), by simp [execOp, go_sem, h, hc, d2.out], rfl⟩)
              · exact q_move hp (free_of rfl) (gq_some rfl rfl (by simp) rfl (fun v w h => h)) (sq_out (s := 14) rfl rfl (fun _ _ => rfl))
              · exact q_two (F := fun v _ => v = .int .u64 (N : Int)) (G := fun v _ => v = .int .u64 (u0 : Int)) hp (free_of rfl) (gq_some rfl rfl (by simp) rfl (fun v w h => h)) (sqi 7) (sqi 8) (fun ρ w hc h h' => ⟨.int .u64 (S : Int), by simp [execOp, go_sem, h, h', d3.out], rfl⟩)
              · exact q_two (F := fun v _ => v = .int .u64 (P : Int)) (G := fun v _ => v = .int .u64 (S : Int)) hp (free_of rfl) (gq_some rfl rfl (by simp) rfl (fun v w h => h)) (sqi 5) (sqi 9) (fun ρ w hc h h' => ⟨.bool true, by simp [execOp, go_sem, h, h', b2.out], rfl⟩)
              · exact q_two (F := fun v _ => v = .bool false) (G := fun v _ => v = .bool true) hp (free_of rfl) trivial (sqi 2) (sqi 10) (fun ρ w hc h h' => ⟨_, by simp [execOp, go_sem, h, h'], rfl⟩)
              intro L vs w14 nb hL hC hn E14
              have e0 : vs 0 = .int .u64 (qb : Int) := hC 0 (by simp)
              have e1 : vs 1 = .bool false := hC 1 (by simp)
              have e2 : vs 2 = .bool false := hC 2 (by simp)
              have e3 : vs 3 = .int .u64 (qb : Int) := hC 3 (by simp)
              have e4 : vs 4 = .int .u64 (y0 : Int) := hC 4 (by simp)
              have e5 : vs 5 = .int .u64 (P : Int) := hC 5 (by simp)
              have e6 : vs 6 = .int .u64 (rb : Int) := hC 6 (by simp)
              have e7 : vs 7 = .int .u64 (N : Int) := hC 7 (by simp)
              have e8 : vs 8 = .int .u64 (u0 : Int) := hC 8 (by simp)
              have e9 : vs 9 = .int .u64 (S : Int) := hC 9 (by simp)
              have e10 : vs 10 = .bool true := hC 10 (by simp)
              have e11 : vs 11 = .bool true := hC 11 (by simp)
              have E : Fr w [] w14 := E14
              rw [lay_all hL]
              simp only [putAll, dstOf, List.length_cons, List.length_nil, Nat.zero_add, Nat.reduceAdd, List.getElem?_toArray, List.getElem?_cons_zero, List.getElem?_cons_succ, Option.bind_some, Act.put, List.setIfInBounds_toArray, List.set_cons_succ, List.set_cons_zero]
              rw [e0, e1, e2, e3, e4, e5, e6, e7, e8, e9, e10, e11]
              clear e0 e1 e2 e3 e4 e5 e6 e7 e8 e9 e10 e11 hC hn E14 hL vs L nb
              clear b1 b2 d1 d2 d3
              have KT := kd_true HYY.out X.out.1 HU2.out (by have := HB.out; omega) TT.out
              obtain ⟨zb, hz⟩ : ∃ zb, zb = qb - 1 := ⟨_, rfl⟩
              obtain ⟨v9b, hv⟩ : ∃ v9b, v9b = rb + y1 := ⟨_, rfl⟩
              have c1 := hidd (show IntKind.u64.wrap ((qb : Int) - 1) = (zb : Int) by rw [show (qb : Int) - 1 = (zb : Int) by omega]; exact u64N (by have := X.out; omega))
              have c2 := hidd (show IntKind.u64.wrap ((rb : Int) + y1) = (v9b : Int) by rw [show (rb : Int) + y1 = (v9b : Int) by omega]; exact u64N (by have := X.out; have := HB.out; omega))
              have ZE : Hid (zb * y1 + v9b = F ∧ (F * 4294967296 + u0) / Y ≤ zb ∧ zb ≤ 4294967296 ∧ zb < qb) := by
                have x1 := X.out
                have e : qb * y1 = zb * y1 + y1 := by rw [show qb = zb + 1 by omega, Nat.add_mul, Nat.one_mul]
                refine ⟨by omega, by rw [hz]; exact KT.1, by omega, by omega⟩
              clear hz hv KT TT X
              go_upto_region 25 with (fail)
              refine region_fr (C := [Fq.is (.int .u64 (qb : Int)), Fq.is (.int .u64 (zb : Int)), Fq.is (.int .u64 (zb : Int))]) (ks := []) (new := []) E rfl (by kernel_rfl) rfl rfl (fun hp => ⟨?_, ?_, ?_, trivial⟩) ?_
              · exact q_moveB 2 3 hp (free_of rfl) trivial rfl rfl rfl rfl (fun _ => rfl)
              · exact q_one (F := fun v _ => v = .int .u64 (qb : Int)) hp (free_of rfl) trivial (sqi 0) (fun ρ w hc h => ⟨.int .u64 (zb : Int), by simp [execOp, go_sem, h, hc, c1.out], rfl⟩)
              · exact q_assign hp (free_of rfl) trivial (sqi 1)
              intro L vs w15 nb hL hC hn E15
              have e0 : vs 0 = .int .u64 (qb : Int) := hC 0 (by simp)
              have e1 : vs 1 = .int .u64 (zb : Int) := hC 1 (by simp)
              have e2 : vs 2 = .int .u64 (zb : Int) := hC 2 (by simp)
              have E : Fr w [] w15 := E15
              rw [lay_all hL]
              simp only [putAll, dstOf, List.length_cons, List.length_nil, Nat.zero_add, Nat.reduceAdd, List.getElem?_toArray, List.getElem?_cons_zero, List.getElem?_cons_succ, Option.bind_some, Act.put, List.setIfInBounds_toArray, List.set_cons_succ, List.set_cons_zero]
              rw [e0, e1, e2]
              clear e0 e1 e2 hC hn E15 hL vs L nb
              go_upto_region 26 with (fail)
              refine region_fr (C := [Fq.is (.int .u64 (rb : Int)), Fq.is (.int .u64 (y1 : Int)), Fq.is (.int .u64 (v9b : Int)), Fq.is (.int .u64 (v9b : Int))]) (ks := []) (new := []) E rfl (by kernel_rfl) rfl rfl (fun hp => ⟨?_, ?_, ?_, ?_, trivial⟩) ?_
              · exact q_moveB 3 3 hp (free_of rfl) trivial rfl rfl rfl rfl (fun _ => rfl)
              · exact q_move hp (free_of rfl) trivial (sq_out (s := 9) rfl rfl (fun _ _ => rfl))
              · exact q_two (F := fun v _ => v = .int .u64 (rb : Int)) (G := fun v _ => v = .int .u64 (y1 : Int)) hp (free_of rfl) trivial (sqi 0) (sqi 1) (fun ρ w hc h h' => ⟨.int .u64 (v9b : Int), by simp [execOp, go_sem, h, h', c2.out], rfl⟩)
              · exact q_assign hp (free_of rfl) trivial (sqi 2)
              intro L vs w16 nb hL hC hn E16
              have e0 : vs 0 = .int .u64 (rb : Int) := hC 0 (by simp)
              have e1 : vs 1 = .int .u64 (y1 : Int) := hC 1 (by simp)
              have e2 : vs 2 = .int .u64 (v9b : Int) := hC 2 (by simp)
              have e3 : vs 3 = .int .u64 (v9b : Int) := hC 3 (by simp)
              have E : Fr w [] w16 := E16
              rw [lay_all hL]
              simp only [putAll, dstOf, List.length_cons, List.length_nil, Nat.zero_add, Nat.reduceAdd, List.getElem?_toArray, List.getElem?_cons_zero, List.getElem?_cons_succ, Option.bind_some, Act.put, List.setIfInBounds_toArray, List.set_cons_succ, List.set_cons_zero]
              rw [e0, e1, e2, e3]
              clear e0 e1 e2 e3 hC hn E16 hL vs L nb
              clear c1 c2
              by_cases hv : 4294967296 ≤ v9b
              · have b1 := hidd (show (4294967296 : Int) ≤ (v9b : Int) by omega)
                have DONE : Hid (zb = (F * 4294967296 + u0) / Y) := kd_big HYY.out ZE.out.1 HU2.out HB.out.1 ZE.out.2.1 hv ZE.out.2.2.1
                clear ZE hv
                go_upto_region 27 with (fail)
                refine region_fr (C := [Fq.is (.int .u64 (v9b : Int)), Fq.is (.bool true)]) (ks := []) (new := []) E rfl (by kernel_rfl) rfl rfl (fun hp => ⟨?_, ?_, trivial⟩) ?_
                · exact q_move hp (free_of rfl) trivial (sq_out (s := 16) rfl rfl (fun _ _ => rfl))
                · exact q_one (F := fun v _ => v = .int .u64 (v9b : Int)) hp (free_of rfl) trivial (sqi 0) (fun ρ w hc h => ⟨.bool true, by simp [execOp, go_sem, h, hc, b1.out], rfl⟩)
                intro L vs w17 nb hL hC hn E17
                have e0 : vs 0 = .int .u64 (v9b : Int) := hC 0 (by simp)
                have e1 : vs 1 = .bool true := hC 1 (by simp)
                have E : Fr w [] w17 := E17
                rw [lay_all hL]
                simp only [putAll, dstOf, List.length_cons, List.length_nil, Nat.zero_add, Nat.reduceAdd, List.getElem?_toArray, List.getElem?_cons_zero, List.getElem?_cons_succ, Option.bind_some, Act.put, List.setIfInBounds_toArray, List.set_cons_succ, List.set_cons_zero]
                rw [e0, e1]
                clear e0 e1 hC hn E17 hL vs L nb
                clear b1
                obtain ⟨R9, hR9⟩ : ∃ rb, rb = (F * 4294967296 + u0) % Y := ⟨_, rfl⟩
                have K2 := kd_two (U := U) (B := 4294967296) (u := u1) (v := u0) HPOS.out.2
                rw [← HF.out, ← DONE1.out, ← DONE.out, ← hR9] at K2
                have HA : Hid (za * 4294967296 + zb = QA ∧ R9 / 2 ^ t = RA) := ⟨K2.1.trans HL3.out.1, by rw [K2.2]; exact HL3.out.2⟩
                have hz1 : za < 4294967296 := by rw [DONE1.out]; exact kd_lt HU1.out (by have := HB.out; omega)
                have hz2 : zb < 4294967296 := by rw [DONE.out]; exact kd_lt HU2.out (by have := HB.out; omega)
                obtain ⟨G, hG⟩ : ∃ G, G = zb * Y := ⟨_, rfl⟩
                have hdm := Nat.div_add_mod (F * 4294967296 + u0) Y
                rw [← DONE.out, ← hR9, Nat.mul_comm, ← hG] at hdm
                have hRY : R9 < Y := by rw [hR9]; exact Nat.mod_lt _ HPOS.out.2
                obtain ⟨A1, hA1⟩ : ∃ A1 : Int, IntKind.u64.wrap ((za : Int) * 4294967296) = A1 := ⟨_, rfl⟩
                obtain ⟨B1, hB1⟩ : ∃ B1 : Int, IntKind.u64.wrap ((F : Int) * 4294967296) = B1 := ⟨_, rfl⟩
                obtain ⟨B2, hB2⟩ : ∃ B2 : Int, IntKind.u64.wrap (B1 + u0) = B2 := ⟨_, rfl⟩
                obtain ⟨C1, hC1⟩ : ∃ C1 : Int, IntKind.u64.wrap ((zb : Int) * Y) = C1 := ⟨_, rfl⟩
                have f1 : IntKind.u64.wrap (A1 + zb) = ((za * 4294967296 + zb : Nat) : Int) := by rw [← hA1]; simp only [u64_wrap]; omega
                have hg2 : (zb : Int) * Y = (G : Int) := by rw [hG]; exact (Int.natCast_mul _ _).symm
                have f2 : IntKind.u64.wrap (B2 - C1) = (R9 : Int) := by
                  rw [hg2] at hC1
                  have x3 := HB.out
                  rw [← hB2, ← hB1, ← hC1]
                  simp only [u64_wrap]
                  omega
                have f3 : (R9 : Int) / 2 ^ s.toNat = ((R9 / 2 ^ t : Nat) : Int) := by rw [HT.out.2.1, shrN]
                rw [HA.out.1] at f1
                rw [HA.out.2] at f3
                obtain ⟨RR, hRR⟩ : ∃ RR : Int, RR = (R9 : Int) := ⟨_, rfl⟩
                rw [← hRR] at f2 f3
                have HS0 := hidd (show 0 ≤ s ∧ s < 64 by have := HT.out; omega)
                have W1 := hidd hA1
                have W2 := hidd f1
                have W3 := hidd hB1
                have W4 := hidd hB2
                have W5 := hidd hC1
                have W6 := hidd f2
                have W7 := hidd f3
                have W8 := hidd (show ¬ s < 0 by have := HS0.out; omega)
                clear hA1 f1 hB1 hB2 hC1 f2 f3 hg2 hdm hRY hG hz1 hz2 hR9 K2 HA hRR DONE DONE1 HL3 HYY HB HU1 HU2 HF HPOS HT
                go_upto_region 28 with (fail)
                refine region_fr (C := [Fq.is (.int .u64 (za : Int)), Fq.is (.int .u64 A1), Fq.is (.int .u64 (zb : Int)), Fq.is (.int .u64 (QA : Int)), Fq.is (.int .u64 (F : Int)), Fq.is (.int .u64 B1), Fq.is (.int .u64 (u0 : Int)), Fq.is (.int .u64 B2), Fq.is (.int .u64 (zb : Int)), Fq.is (.int .u64 (Y : Int)), Fq.is (.int .u64 C1), Fq.is (.int .u64 RR), Fq.is (.int .u64 s), Fq.is (.int .u64 (RA : Int)), Fq.is (.int .u64 (QA : Int)), Fq.is (.int .u64 (RA : Int))]) (ks := []) (new := []) E rfl (by kernel_rfl) rfl rfl (fun hp => ⟨?_, ?_, ?_, ?_, ?_, ?_, ?_, ?_, ?_, ?_, ?_, ?_, ?_, ?_, ?_, ?_, trivial⟩) ?_
                · exact q_move hp (free_of rfl) trivial (sq_out (s := 15) rfl rfl (fun _ _ => rfl))
                · exact q_one (F := fun v _ => v = .int .u64 (za : Int)) hp (free_of rfl) trivial (sqi 0) (fun ρ w hc h => ⟨.int .u64 A1, by simp [execOp, go_sem, h, hc, W1.out], rfl⟩)
                · exact q_move hp (free_of rfl) trivial (sq_out (s := 18) rfl rfl (fun _ _ => rfl))
                · exact q_two (F := fun v _ => v = .int .u64 A1) (G := fun v _ => v = .int .u64 (zb : Int)) hp (free_of rfl) trivial (sqi 1) (sqi 2) (fun ρ w hc h h' => ⟨.int .u64 (QA : Int), by simp [execOp, go_sem, h, h', W2.out], rfl⟩)
                · exact q_move hp (free_of rfl) trivial (sq_out (s := 17) rfl rfl (fun _ _ => rfl))
                · exact q_one (F := fun v _ => v = .int .u64 (F : Int)) hp (free_of rfl) trivial (sqi 4) (fun ρ w hc h => ⟨.int .u64 B1, by simp [execOp, go_sem, h, hc, W3.out], rfl⟩)
                · exact q_move hp (free_of rfl) trivial (sq_out (s := 14) rfl rfl (fun _ _ => rfl))
                · exact q_two (F := fun v _ => v = .int .u64 B1) (G := fun v _ => v = .int .u64 (u0 : Int)) hp (free_of rfl) trivial (sqi 5) (sqi 6) (fun ρ w hc h h' => ⟨.int .u64 B2, by simp [execOp, go_sem, h, h', W4.out], rfl⟩)
                · exact q_move hp (free_of rfl) trivial (sq_out (s := 18) rfl rfl (fun _ _ => rfl))
                · exact q_move hp (free_of rfl) trivial (sq_out (s := 2) rfl rfl (fun _ _ => rfl))
                · exact q_two (F := fun v _ => v = .int .u64 (zb : Int)) (G := fun v _ => v = .int .u64 (Y : Int)) hp (free_of rfl) trivial (sqi 8) (sqi 9) (fun ρ w hc h h' => ⟨.int .u64 C1, by simp [execOp, go_sem, h, h', W5.out], rfl⟩)
                · exact q_two (F := fun v _ => v = .int .u64 B2) (G := fun v _ => v = .int .u64 C1) hp (free_of rfl) trivial (sqi 7) (sqi 10) (fun ρ w hc h h' => ⟨.int .u64 RR, by simp [execOp, go_sem, h, h', W6.out], rfl⟩)
                · exact q_move hp (free_of rfl) trivial (sq_out (s := 8) rfl rfl (fun _ _ => rfl))
                · exact q_two (F := fun v _ => v = .int .u64 RR) (G := fun v _ => v = .int .u64 s) hp (free_of rfl) trivial (sqi 11) (sqi 12) (fun ρ w hc h h' => ⟨.int .u64 (RA : Int), by simp [execOp, go_sem, h, h', W7.out], rfl⟩)
                · exact q_assign hp (free_of rfl) trivial (sqi 3)
                · exact q_assign hp (free_of rfl) trivial (sqi 13)
                intro L vs w18 nb hL hC hn E18
                have e0 : vs 0 = .int .u64 (za : Int) := hC 0 (by simp)
                have e1 : vs 1 = .int .u64 A1 := hC 1 (by simp)
                have e2 : vs 2 = .int .u64 (zb : Int) := hC 2 (by simp)
                have e3 : vs 3 = .int .u64 (QA : Int) := hC 3 (by simp)
                have e4 : vs 4 = .int .u64 (F : Int) := hC 4 (by simp)
                have e5 : vs 5 = .int .u64 B1 := hC 5 (by simp)
                have e6 : vs 6 = .int .u64 (u0 : Int) := hC 6 (by simp)
                have e7 : vs 7 = .int .u64 B2 := hC 7 (by simp)
                have e8 : vs 8 = .int .u64 (zb : Int) := hC 8 (by simp)
                have e9 : vs 9 = .int .u64 (Y : Int) := hC 9 (by simp)
                have e10 : vs 10 = .int .u64 C1 := hC 10 (by simp)
                have e11 : vs 11 = .int .u64 RR := hC 11 (by simp)
                have e12 : vs 12 = .int .u64 s := hC 12 (by simp)
                have e13 : vs 13 = .int .u64 (RA : Int) := hC 13 (by simp)
                have e14 : vs 14 = .int .u64 (QA : Int) := hC 14 (by simp)
                have e15 : vs 15 = .int .u64 (RA : Int) := hC 15 (by simp)
                have E : Fr w [] w18 := E18
                rw [lay_all hL]
                simp only [putAll, dstOf, List.length_cons, List.length_nil, Nat.zero_add, Nat.reduceAdd, List.getElem?_toArray, List.getElem?_cons_zero, List.getElem?_cons_succ, Option.bind_some, Act.put, List.setIfInBounds_toArray, List.set_cons_succ, List.set_cons_zero]
                rw [e0, e1, e2, e3, e4, e5, e6, e7, e8, e9, e10, e11, e12, e13, e14, e15]
                clear e0 e1 e2 e3 e4 e5 e6 e7 e8 e9 e10 e11 e12 e13 e14 e15 hC hn E18 hL vs L nb
                clear W1 W2 W3 W4 W5 W6 W7 W8 HS0
                go_wp2
                exact bodyPost_ret (v := .tuple #[.int .u64 (QA : Int), .int .u64 (RA : Int)]) (by simp [results, Tryd.results77, go_sem]) rfl ⟨rfl, E.below⟩
              · have b1 := hidd (show ¬ (4294967296 : Int) ≤ (v9b : Int) by omega)
                have HV : Hid (v9b < 4294967296) := by show _ < _; omega
                clear hv
                go_upto_region 27 with (fail)
                refine region_fr (C := [Fq.is (.int .u64 (v9b : Int)), Fq.is (.bool false)]) (ks := []) (new := []) E rfl (by kernel_rfl) rfl rfl (fun hp => ⟨?_, ?_, trivial⟩) ?_
                · exact q_move hp (free_of rfl) trivial (sq_out (s := 16) rfl rfl (fun _ _ => rfl))
                · exact q_one (F := fun v _ => v = .int .u64 (v9b : Int)) hp (free_of rfl) trivial (sqi 0) (fun ρ w hc h => ⟨.bool false, by simp [execOp, go_sem, h, hc, b1.out], rfl⟩)
                intro L vs w19 nb hL hC hn E19
                have e0 : vs 0 = .int .u64 (v9b : Int) := hC 0 (by simp)
                have e1 : vs 1 = .bool false := hC 1 (by simp)
                have E : Fr w [] w19 := E19
                rw [lay_all hL]
                simp only [putAll, dstOf, List.length_cons, List.length_nil, Nat.zero_add, Nat.reduceAdd, List.getElem?_toArray, List.getElem?_cons_zero, List.getElem?_cons_succ, Option.bind_some, Act.put, List.setIfInBounds_toArray, List.set_cons_succ, List.set_cons_zero]
                rw [e0, e1]
                clear e0 e1 hC hn E19 hL vs L nb
                clear b1
                go_wp2
                go_roundw
                case rel => exact ⟨zb, v9b, rfl, rfl, ZE.out.1, ZE.out.2.1, by have := ZE.out.2.2.1; omega, HV.out, E.below⟩
                case measure => have := ZE.out.2.2.2; simp [intOf]; omega
            · have b2 := hidd (show ¬ (S : Int) < P by omega)
              have DONE : Hid (qb = (F * 4294967296 + u0) / Y) := kd_false HYY.out X.out.1 HU2.out X.out.2.1 (by rw [← HPS.out.1, ← HPS.out.2]; omega)
              clear ht HPS X
              go_upto_region 24 with (fail)
              refine region_fr (C := [Fq.is (.int .u64 (qb : Int)), Fq.is (.bool false), Fq.is (.bool false), Fq.is (.int .u64 (qb : Int)), Fq.is (.int .u64 (y0 : Int)), Fq.is (.int .u64 (P : Int)), Fq.is (.int .u64 (rb : Int)), Fq.is (.int .u64 (N : Int)), Fq.is (.int .u64 (u0 : Int)), Fq.is (.int .u64 (S : Int)), Fq.is (.bool false), Fq.is (.bool false)]) (ks := []) (new := []) E rfl (by kernel_rfl) rfl rfl (fun hp => ⟨?_, ?_, ?_, ?_, ?_, ?_, ?_, ?_, ?_, ?_, ?_, ?_, trivial⟩) ?_
              · exact q_move hp (free_of rfl) trivial (sq_out (s := 18) rfl rfl (fun _ _ => rfl))
              · exact q_one (F := fun v _ => v = .int .u64 (qb : Int)) hp (free_of rfl) trivial (sqi 0) (fun ρ w hc h => ⟨.bool false, by simp [execOp, go_sem, h, hc, b1.out], rfl⟩)
              · exact q_move hp (free_of rfl) trivial (sqi 1)
              · exact q_move hp (free_of rfl) (gq_some rfl rfl (by simp) rfl (fun v w h => h)) (sq_out (s := 18) rfl rfl (fun _ _ => rfl))
              · exact q_move hp (free_of rfl) (gq_some rfl rfl (by simp) rfl (fun v w h => h)) (sq_out (s := 10) rfl rfl (fun _ _ => rfl))
              · exact q_two (F := fun v _ => v = .int .u64 (qb : Int)) (G := fun v _ => v = .int .u64 (y0 : Int)) hp (free_of rfl) (gq_some rfl rfl (by simp) rfl (fun v w h => h)) (sqi 3) (sqi 4) (fun ρ w hc h h' => ⟨.int .u64 (P : Int), by simp [execOp, go_sem, h, h', d1.out], rfl⟩)
              · exact q_move hp (free_of rfl) (gq_some rfl rfl (by simp) rfl (fun v w h => h)) (sq_out (s := 16) rfl rfl (fun _ _ => rfl))
              · exact q_one (F := fun v _ => v = .int .u64 (rb : Int)) hp (free_of rfl) (gq_some rfl rfl (by simp) rfl (fun v w h => h)) (sqi 6) (fun ρ w hc h => ⟨.int .u64 (N : Int), by simp [execOp, go_sem, h, hc, d2.out], rfl⟩)
              · exact q_move hp (free_of rfl) (gq_some rfl rfl (by simp) rfl (fun v w h => h)) (sq_out (s := 14) rfl rfl (fun _ _ => rfl))
              · exact q_two (F := fun v _ => v = .int .u64 (N : Int)) (G := fun v _ => v = .int .u64 (u0 : Int)) hp (free_of rfl) (gq_some rfl rfl (by simp) rfl (fun v w h => h)) (sqi 7) (sqi 8) (fun ρ w hc h h' => ⟨.int .u64 (S : Int), by simp [execOp, go_sem, h, h', d3.out], rfl⟩)
              · exact q_two (F := fun v _ => v = .int .u64 (P : Int)) (G := fun v _ => v = .int .u64 (S : Int)) hp (free_of rfl) (gq_some rfl rfl (by simp) rfl (fun v w h => h)) (sqi 5) (sqi 9) (fun ρ w hc h h' => ⟨.bool false, by simp [execOp, go_sem, h, h', b2.out], rfl⟩)
              · exact q_two (F := fun v _ => v = .bool false) (G := fun v _ => v = .bool false) hp (free_of rfl) trivial (sqi 2) (sqi 10) (fun ρ w hc h h' => ⟨_, by simp [execOp, go_sem, h, h'], rfl⟩)
              intro L vs w20 nb hL hC hn E20
              have e0 : vs 0 = .int .u64 (qb : Int) := hC 0 (by simp)
              have e1 : vs 1 = .bool false := hC 1 (by simp)
              have e2 : vs 2 = .bool false := hC 2 (by simp)
              have e3 : vs 3 = .int .u64 (qb : Int) := hC 3 (by simp)
              have e4 : vs 4 = .int .u64 (y0 : Int) := hC 4 (by simp)
              have e5 : vs 5 = .int .u64 (P : Int) := hC 5 (by simp)
              have e6 : vs 6 = .int .u64 (rb : Int) := hC 6 (by simp)
              have e7 : vs 7 = .int .u64 (N : Int) := hC 7 (by simp)
              have e8 : vs 8 = .int .u64 (u0 : Int) := hC 8 (by simp)
              have e9 : vs 9 = .int .u64 (S : Int) := hC 9 (by simp)
              have e10 : vs 10 = .bool false := hC 10 (by simp)
              have e11 : vs 11 = .bool false := hC 11 (by simp)
              have E : Fr w [] w20 := E20
              rw [lay_all hL]
              simp only [putAll, dstOf, List.length_cons, List.length_nil, Nat.zero_add, Nat.reduceAdd, List.getElem?_toArray, List.getElem?_cons_zero, List.getElem?_cons_succ, Option.bind_some, Act.put, List.setIfInBounds_toArray, List.set_cons_succ, List.set_cons_zero]
              rw [e0, e1, e2, e3, e4, e5, e6, e7, e8, e9, e10, e11]
              clear e0 e1 e2 e3 e4 e5 e6 e7 e8 e9 e10 e11 hC hn E20 hL vs L nb
              clear b1 b2 d1 d2 d3
              obtain ⟨R9, hR9⟩ : ∃ rb, rb = (F * 4294967296 + u0) % Y := ⟨_, rfl⟩
              have K2 := kd_two (U := U) (B := 4294967296) (u := u1) (v := u0) HPOS.out.2
              rw [← HF.out, ← DONE1.out, ← DONE.out, ← hR9] at K2
              have HA : Hid (za * 4294967296 + qb = QA ∧ R9 / 2 ^ t = RA) := ⟨K2.1.trans HL3.out.1, by rw [K2.2]; exact HL3.out.2⟩
              have hz1 : za < 4294967296 := by rw [DONE1.out]; exact kd_lt HU1.out (by have := HB.out; omega)
              have hz2 : qb < 4294967296 := by rw [DONE.out]; exact kd_lt HU2.out (by have := HB.out; omega)
              obtain ⟨G, hG⟩ : ∃ G, G = qb * Y := ⟨_, rfl⟩
              have hdm := Nat.div_add_mod (F * 4294967296 + u0) Y
              rw [← DONE.out, ← hR9, Nat.mul_comm, ← hG] at hdm
              have hRY : R9 < Y := by rw [hR9]; exact Nat.mod_lt _ HPOS.out.2
              obtain ⟨A1, hA1⟩ : ∃ A1 : Int, IntKind.u64.wrap ((za : Int) * 4294967296) = A1 := ⟨_, rfl⟩
              obtain ⟨B1, hB1⟩ : ∃ B1 : Int, IntKind.u64.wrap ((F : Int) * 4294967296) = B1 := ⟨_, rfl⟩
              obtain ⟨B2, hB2⟩ : ∃ B2 : Int, IntKind.u64.wrap (B1 + u0) = B2 := ⟨_, rfl⟩
              obtain ⟨C1, hC1⟩ : ∃ C1 : Int, IntKind.u64.wrap ((qb : Int) * Y) = C1 := ⟨_, rfl⟩
              have f1 : IntKind.u64.wrap (A1 + qb) = ((za * 4294967296 + qb : Nat) : Int) := by rw [← hA1]; simp only [u64_wrap]; omega
              have hg2 : (qb : Int) * Y = (G : Int) := by rw [hG]; exact (Int.natCast_mul _ _).symm
              have f2 : IntKind.u64.wrap (B2 - C1) = (R9 : Int) := by
                rw [hg2] at hC1
                have x3 := HB.out
                rw [← hB2, ← hB1, ← hC1]
                simp only [u64_wrap]
                omega
              have f3 : (R9 : Int) / 2 ^ s.toNat = ((R9 / 2 ^ t : Nat) : Int) := by rw [HT.out.2.1, shrN]
              rw [HA.out.1] at f1
              rw [HA.out.2] at f3
              obtain ⟨RR, hRR⟩ : ∃ RR : Int, RR = (R9 : Int) := ⟨_, rfl⟩
              rw [← hRR] at f2 f3
              have HS0 := hidd (show 0 ≤ s ∧ s < 64 by have := HT.out; omega)
              have W1 := hidd hA1
              have W2 := hidd f1
              have W3 := hidd hB1
              have W4 := hidd hB2
              have W5 := hidd hC1
              have W6 := hidd f2
              have W7 := hidd f3
              have W8 := hidd (show ¬ s < 0 by have := HS0.out; omega)
              clear hA1 f1 hB1 hB2 hC1 f2 f3 hg2 hdm hRY hG hz1 hz2 hR9 K2 HA hRR DONE DONE1 HL3 HYY HB HU1 HU2 HF HPOS HT
              go_upto_region 28 with (fail)
              refine region_fr (C := [Fq.is (.int .u64 (za : Int)), Fq.is (.int .u64 A1), Fq.is (.int .u64 (qb : Int)), Fq.is (.int .u64 (QA : Int)), Fq.is (.int .u64 (F : Int)), Fq.is (.int .u64 B1), Fq.is (.int .u64 (u0 : Int)), Fq.is (.int .u64 B2), Fq.is (.int .u64 (qb : Int)), Fq.is (.int .u64 (Y : Int)), Fq.is (.int .u64 C1), Fq.is (.int .u64 RR), Fq.is (.int .u64 s), Fq.is (.int .u64 (RA : Int)), Fq.is (.int .u64 (QA : Int)), Fq.is (.int .u64 (RA : Int))]) (ks := []) (new := []) E rfl (by kernel_rfl) rfl rfl (fun hp => ⟨?_, ?_, ?_, ?_, ?_, ?_, ?_, ?_, ?_, ?_, ?_, ?_, ?_, ?_, ?_, ?_, trivial⟩) ?_
              · exact q_move hp (free_of rfl) trivial (sq_out (s := 15) rfl rfl (fun _ _ => rfl))
              · exact q_one (F := fun v _ => v = .int .u64 (za : Int)) hp (free_of rfl) trivial (sqi 0) (fun ρ w hc h => ⟨.int .u64 A1, by simp [execOp, go_sem, h, hc, W1.out], rfl⟩)
              · exact q_move hp (free_of rfl) trivial (sq_out (s := 18) rfl rfl (fun _ _ => rfl))
              · exact q_two (F := fun v _ => v = .int .u64 A1) (G := fun v _ => v = .int .u64 (qb : Int)) hp (free_of rfl) trivial (sqi 1) (sqi 2) (fun ρ w hc h h' => ⟨.int .u64 (QA : Int), by simp [execOp, go_sem, h, h', W2.out], rfl⟩)
              · exact q_move hp (free_of rfl) trivial (sq_out (s := 17) rfl rfl (fun _ _ => rfl))
              · exact q_one (F := fun v _ => v = .int .u64 (F : Int)) hp (free_of rfl) trivial (sqi 4) (fun ρ w hc h => ⟨.int .u64 B1, by simp [execOp, go_sem, h, hc, W3.out], rfl⟩)
              · exact q_move hp (free_of rfl) trivial (sq_out (s := 14) rfl rfl (fun _ _ => rfl))
              · exact q_two (F := fun v _ => v = .int .u64 B1) (G := fun v _ => v = .int .u64 (u0 : Int)) hp (free_of rfl) trivial (sqi 5) (sqi 6) (fun ρ w hc h h' => ⟨.int .u64 B2, by simp [execOp, go_sem, h, h', W4.out], rfl⟩)
              · exact q_move hp (free_of rfl) trivial (sq_out (s := 18) rfl rfl (fun _ _ => rfl))
              · exact q_move hp (free_of rfl) trivial (sq_out (s := 2) rfl rfl (fun _ _ => rfl))
              · exact q_two (F := fun v _ => v = .int .u64 (qb : Int)) (G := fun v _ => v = .int .u64 (Y : Int)) hp (free_of rfl) trivial (sqi 8) (sqi 9) (fun ρ w hc h h' => ⟨.int .u64 C1, by simp [execOp, go_sem, h, h', W5.out], rfl⟩)
              · exact q_two (F := fun v _ => v = .int .u64 B2) (G := fun v _ => v = .int .u64 C1) hp (free_of rfl) trivial (sqi 7) (sqi 10) (fun ρ w hc h h' => ⟨.int .u64 RR, by simp [execOp, go_sem, h, h', W6.out], rfl⟩)
              · exact q_move hp (free_of rfl) trivial (sq_out (s := 8) rfl rfl (fun _ _ => rfl))
              · exact q_two (F := fun v _ => v = .int .u64 RR) (G := fun v _ => v = .int .u64 s) hp (free_of rfl) trivial (sqi 11) (sqi 12) (fun ρ w hc h h' => ⟨.int .u64 (RA : Int), by simp [execOp, go_sem, h, h', W7.out], rfl⟩)
              · exact q_assign hp (free_of rfl) trivial (sqi 3)
              · exact q_assign hp (free_of rfl) trivial (sqi 13)
              intro L vs w21 nb hL hC hn E21
              have e0 : vs 0 = .int .u64 (za : Int) := hC 0 (by simp)
              have e1 : vs 1 = .int .u64 A1 := hC 1 (by simp)
              have e2 : vs 2 = .int .u64 (qb : Int) := hC 2 (by simp)
              have e3 : vs 3 = .int .u64 (QA : Int) := hC 3 (by simp)
              have e4 : vs 4 = .int .u64 (F : Int) := hC 4 (by simp)
              have e5 : vs 5 = .int .u64 B1 := hC 5 (by simp)
              have e6 : vs 6 = .int .u64 (u0 : Int) := hC 6 (by simp)
              have e7 : vs 7 = .int .u64 B2 := hC 7 (by simp)
              have e8 : vs 8 = .int .u64 (qb : Int) := hC 8 (by simp)
              have e9 : vs 9 = .int .u64 (Y : Int) := hC 9 (by simp)
              have e10 : vs 10 = .int .u64 C1 := hC 10 (by simp)
              have e11 : vs 11 = .int .u64 RR := hC 11 (by simp)
              have e12 : vs 12 = .int .u64 s := hC 12 (by simp)
              have e13 : vs 13 = .int .u64 (RA : Int) := hC 13 (by simp)
              have e14 : vs 14 = .int .u64 (QA : Int) := hC 14 (by simp)
              have e15 : vs 15 = .int .u64 (RA : Int) := hC 15 (by simp)
              have E : Fr w [] w21 := E21
              rw [lay_all hL]
              simp only [putAll, dstOf, List.length_cons, List.length_nil, Nat.zero_add, Nat.reduceAdd, List.getElem?_toArray, List.getElem?_cons_zero, List.getElem?_cons_succ, Option.bind_some, Act.put, List.setIfInBounds_toArray, List.set_cons_succ, List.set_cons_zero]
              rw [e0, e1, e2, e3, e4, e5, e6, e7, e8, e9, e10, e11, e12, e13, e14, e15]
              clear e0 e1 e2 e3 e4 e5 e6 e7 e8 e9 e10 e11 e12 e13 e14 e15 hC hn E21 hL vs L nb
              clear W1 W2 W3 W4 W5 W6 W7 W8 HS0
              go_wp2
              exact bodyPost_ret (v := .tuple #[.int .u64 (QA : Int), .int .u64 (RA : Int)]) (by simp [results, Tryd.results77, go_sem]) rfl ⟨rfl, E.below⟩
      · have b1 := hidd (show ¬ (4294967296 : Int) ≤ (v9a : Int) by omega)
        have HV : Hid (v9a < 4294967296) := by show _ < _; omega
        clear hv
        go_upto_region 20 with (fail)
        refine region_fr (C := [Fq.is (.int .u64 (v9a : Int)), Fq.is (.bool false)]) (ks := []) (new := []) E rfl (by kernel_rfl) rfl rfl (fun hp => ⟨?_, ?_, trivial⟩) ?_
        · exact q_move hp (free_of rfl) trivial (sq_out (s := 16) rfl rfl (fun _ _ => rfl))
        · exact q_one (F := fun v _ => v = .int .u64 (v9a : Int)) hp (free_of rfl) trivial (sqi 0) (fun ρ w hc h => ⟨.bool false, by simp [execOp, go_sem, h, hc, b1.out], rfl⟩)
        intro L vs w22 nb hL hC hn E22
        have e0 : vs 0 = .int .u64 (v9a : Int) := hC 0 (by simp)
        have e1 : vs 1 = .bool false := hC 1 (by simp)
        have E : Fr w [] w22 := E22
        rw [lay_all hL]
        simp only [putAll, dstOf, List.length_cons, List.length_nil, Nat.zero_add, Nat.reduceAdd, List.getElem?_toArray, List.getElem?_cons_zero, List.getElem?_cons_succ, Option.bind_some, Act.put, List.setIfInBounds_toArray, List.set_cons_succ, List.set_cons_zero]
        rw [e0, e1]
        clear e0 e1 hC hn E22 hL vs L nb
        clear b1
        go_wp2
        go_roundw
        case rel => exact ⟨za, v9a, rfl, rfl, ZE.out.1, ZE.out.2.1, by have := ZE.out.2.2.1; omega, HV.out, E.below⟩
        case measure => have := ZE.out.2.2.2; simp [intOf]; omega
    · have b1 := hidd (show ¬ (4294967296 : Int) ≤ (qa : Int) by omega)
      obtain ⟨P, hP⟩ : ∃ P, P = qa * y0 := ⟨_, rfl⟩
      obtain ⟨S, hS⟩ : ∃ S, S = 4294967296 * ra + u1 := ⟨_, rfl⟩
      obtain ⟨N, hN⟩ : ∃ N, N = 4294967296 * ra := ⟨_, rfl⟩
      have hPb : P < 18446744073709551616 := by
        rw [hP]
        have h1 := Nat.mul_le_mul (show qa ≤ 4294967295 by omega) (show y0 ≤ 4294967295 by have := HB.out; omega)
        omega
      have d1 := hidd (show IntKind.u64.wrap ((qa : Int) * y0) = (P : Int) by rw [show (qa : Int) * y0 = (P : Int) by rw [hP]; exact (Int.natCast_mul _ _).symm]; exact u64N hPb)
      have d2 := hidd (show IntKind.u64.wrap (4294967296 * (ra : Int)) = (N : Int) by rw [show 4294967296 * (ra : Int) = (N : Int) by omega]; exact u64N (by have := X.out; omega))
      have d3 := hidd (show IntKind.u64.wrap ((N : Int) + u1) = (S : Int) by rw [show (N : Int) + u1 = (S : Int) by omega]; exact u64N (by have := X.out; have := HB.out; omega))
      have HPS := hidd (And.intro hP hS)
      clear hP hS hN hPb hb
      by_cases ht : S < P
      · have b2 := hidd (show (S : Int) < P by omega)
        have TT : Hid (4294967296 ≤ qa ∨ 4294967296 * ra + u1 < qa * y0) := .inr (by rw [← HPS.out.1, ← HPS.out.2]; exact ht)
        clear ht HPS
        go_upto_region 17 with (fail)
        refine region_fr (C := [Fq.is (.int .u64 (qa : Int)), Fq.is (.bool false), Fq.is (.bool false), Fq.is (.int .u64 (qa : Int)), Fq.is (.int .u64 (y0 : Int)), Fq.is (.int .u64 (P : Int)), Fq.is (.int .u64 (ra : Int)), Fq.is (.int .u64 (N : Int)), Fq.is (.int .u64 (u1 : Int)), Fq.is (.int .u64 (S : Int)), Fq.is (.bool true), Fq.is (.bool true)]) (ks := []) (new := []) E rfl (by kernel_rfl) rfl rfl (fun hp => ⟨?_, ?_, ?_, ?_, ?_, ?_, ?_, ?_, ?_, ?_, ?_, ?_, trivial⟩) ?_
        · exact q_move hp (free_of rfl) trivial (sq_out (s := 15) rfl rfl (fun _ _ => rfl))
        · exact q_one (F := fun v _ => v = .int .u64 (qa : Int)) hp (free_of rfl) trivial (sqi 0) (fun ρ w hc h => ⟨.bool false, by simp [execOp, go_sem, h, hc, b1.out], rfl⟩)
        · exact q_move hp (free_of rfl) trivial (sqi 1)
        · exact q_move hp (free_of rfl) (gq_some rfl rfl (by simp) rfl (fun v w h => h)) (sq_out (s := 15) rfl rfl (fun _ _ => rfl))
        · exact q_move hp (free_of rfl) (gq_some rfl rfl (by simp) rfl (fun v w h => h)) (sq_out (s := 10) rfl rfl (fun _ _ => rfl))
        · exact q_two (F := fun v _ => v = .int .u64 (qa : Int)) (G := fun v _ => v = .int .u64 (y0 : Int)) hp (free_of rfl) (gq_some rfl rfl (by simp) rfl (fun v w h => h)) (sqi 3) (sqi 4) (fun ρ w hc h h' => ⟨.int .u64 (P : Int), by simp [execOp, go_sem, h, h', d1.out], rfl⟩)
        · exact q_move hp (free_of rfl) (gq_some rfl rfl (by simp) rfl (fun v w h => h)) (sq_out (s := 16) rfl rfl (fun _ _ => rfl))
        · exact q_one (F := fun v _ => v = .int .u64 (ra : Int)) hp (free_of rfl) (gq_some rfl rfl (by simp) rfl (fun v w h => h)) (sqi 6) (fun ρ w hc h => ⟨.int .u64 (N : Int), by simp [execOp, go_sem, h, hc, d2.out], rfl⟩)
        · exact q_move hp (free_of rfl) (gq_some rfl rfl (by simp) rfl (fun v w h => h)) (sq_out (s := 13) rfl rfl (fun _ _ => rfl))
        · exact q_two (F := fun v _ => v = .int .u64 (N : Int)) (G := fun v _ => v = .int .u64 (u1 : Int)) hp (free_of rfl) (gq_some rfl rfl (by simp) rfl (fun v w h => h)) (sqi 7) (sqi 8) (fun ρ w hc h h' => ⟨.int .u64 (S : Int), by simp [execOp, go_sem, h, h', d3.out], rfl⟩)
        · exact q_two (F := fun v _ => v = .int .u64 (P : Int)) (G := fun v _ => v = .int .u64 (S : Int)) hp (free_of rfl) (gq_some rfl rfl (by simp) rfl (fun v w h => h)) (sqi 5) (sqi 9) (fun ρ w hc h h' => ⟨.bool true, by simp [execOp, go_sem, h, h', b2.out], rfl⟩)
        · exact q_two (F := fun v _ => v = .bool false) (G := fun v _ => v = .bool true) hp (free_of rfl) trivial (sqi 2) (sqi 10) (fun ρ w hc h h' => ⟨_, by simp [execOp, go_sem, h, h'], rfl⟩)
        intro L vs w23 nb hL hC hn E23
        have e0 : vs 0 = .int .u64 (qa : Int) := hC 0 (by simp)
        have e1 : vs 1 = .bool false := hC 1 (by simp)
        have e2 : vs 2 = .bool false := hC 2 (by simp)
        have e3 : vs 3 = .int .u64 (qa : Int) := hC 3 (by simp)
        have e4 : vs 4 = .int .u64 (y0 : Int) := hC 4 (by simp)
        have e5 : vs 5 = .int .u64 (P : Int) := hC 5 (by simp)
        have e6 : vs 6 = .int .u64 (ra : Int) := hC 6 (by simp)
        have e7 : vs 7 = .int .u64 (N : Int) := hC 7 (by simp)
        have e8 : vs 8 = .int .u64 (u1 : Int) := hC 8 (by simp)
        have e9 : vs 9 = .int .u64 (S : Int) := hC 9 (by simp)
        have e10 : vs 10 = .bool true := hC 10 (by simp)
        have e11 : vs 11 = .bool true := hC 11 (by simp)
        have E : Fr w [] w23 := E23
        rw [lay_all hL]
        simp only [putAll, dstOf, List.length_cons, List.length_nil, Nat.zero_add, Nat.reduceAdd, List.getElem?_toArray, List.getElem?_cons_zero, List.getElem?_cons_succ, Option.bind_some, Act.put, List.setIfInBounds_toArray, List.set_cons_succ, List.set_cons_zero]
        rw [e0, e1, e2, e3, e4, e5, e6, e7, e8, e9, e10, e11]
        clear e0 e1 e2 e3 e4 e5 e6 e7 e8 e9 e10 e11 hC hn E23 hL vs L nb
        clear b1 b2 d1 d2 d3
        have KT := kd_true HYY.out X.out.1 HU1.out (by have := HB.out; omega) TT.out
        obtain ⟨za, hz⟩ : ∃ za, za = qa - 1 := ⟨_, rfl⟩
        obtain ⟨v9a, hv⟩ : ∃ v9a, v9a = ra + y1 := ⟨_, rfl⟩
        have c1 := hidd (show IntKind.u64.wrap ((qa : Int) - 1) = (za : Int) by rw [show (qa : Int) - 1 = (za : Int) by omega]; exact u64N (by have := X.out; omega))
        have c2 := hidd (show IntKind.u64.wrap ((ra : Int) + y1) = (v9a : Int) by rw [show (ra : Int) + y1 = (v9a : Int) by omega]; exact u64N (by have := X.out; have := HB.out; omega))
        have ZE : Hid (za * y1 + v9a = U ∧ (U * 4294967296 + u1) / Y ≤ za ∧ za ≤ 4294967296 ∧ za < qa) := by
          have x1 := X.out
          have e : qa * y1 = za * y1 + y1 := by rw [show qa = za + 1 by omega, Nat.add_mul, Nat.one_mul]
          refine ⟨by omega, by rw [hz]; exact KT.1, by omega, by omega⟩
        clear hz hv KT TT X
        go_upto_region 18 with (fail)
        refine region_fr (C := [Fq.is (.int .u64 (qa : Int)), Fq.is (.int .u64 (za : Int)), Fq.is (.int .u64 (za : Int))]) (ks := []) (new := []) E rfl (by kernel_rfl) rfl rfl (fun hp => ⟨?_, ?_, ?_, trivial⟩) ?_
        · exact q_moveB 2 3 hp (free_of rfl) trivial rfl rfl rfl rfl (fun _ => rfl)
        · exact q_one (F := fun v _ => v = .int .u64 (qa : Int)) hp (free_of rfl) trivial (sqi 0) (fun ρ w hc h => ⟨.int .u64 (za : Int), by simp [execOp, go_sem, h, hc, c1.out], rfl⟩)
        · exact q_assign hp (free_of rfl) trivial (sqi 1)
        intro L vs w24 nb hL hC hn E24
        have e0 : vs 0 = .int .u64 (qa : Int) := hC 0 (by simp)
        have e1 : vs 1 = .int .u64 (za : Int) := hC 1 (by simp)
        have e2 : vs 2 = .int .u64 (za : Int) := hC 2 (by simp)
        have E : Fr w [] w24 := E24
        rw [lay_all hL]
        simp only [putAll, dstOf, List.length_cons, List.length_nil, Nat.zero_add, Nat.reduceAdd, List.getElem?_toArray, List.getElem?_cons_zero, List.getElem?_cons_succ, Option.bind_some, Act.put, List.setIfInBounds_toArray, List.set_cons_succ, List.set_cons_zero]
        rw [e0, e1, e2]
        clear e0 e1 e2 hC hn E24 hL vs L nb
        go_upto_region 19 with (fail)
        refine region_fr (C := [Fq.is (.int .u64 (ra : Int)), Fq.is (.int .u64 (y1 : Int)), Fq.is (.int .u64 (v9a : Int)), Fq.is (.int .u64 (v9a : Int))]) (ks := []) (new := []) E rfl (by kernel_rfl) rfl rfl (fun hp => ⟨?_, ?_, ?_, ?_, trivial⟩) ?_
        · exact q_moveB 3 3 hp (free_of rfl) trivial rfl rfl rfl rfl (fun _ => rfl)
        · exact q_move hp (free_of rfl) trivial (sq_out (s := 9) rfl rfl (fun _ _ => rfl))
        · exact q_two (F := fun v _ => v = .int .u64 (ra : Int)) (G := fun v _ => v = .int .u64 (y1 : Int)) hp (free_of rfl) trivial (sqi 0) (sqi 1) (fun ρ w hc h h' => ⟨.int .u64 (v9a : Int), by simp [execOp, go_sem, h, h', c2.out], rfl⟩)
        · exact q_assign hp (free_of rfl) trivial (sqi 2)
        intro L vs w25 nb hL hC hn E25
        have e0 : vs 0 = .int .u64 (ra : Int) := hC 0 (by simp)
        have e1 : vs 1 = .int .u64 (y1 : Int) := hC 1 (by simp)
        have e2 : vs 2 = .int .u64 (v9a : Int) := hC 2 (by simp)
        have e3 : vs 3 = .int .u64 (v9a : Int) := hC 3 (by simp)
        have E : Fr w [] w25 := E25
        rw [lay_all hL]
        simp only [putAll, dstOf, List.length_cons, List.length_nil, Nat.zero_add, Nat.reduceAdd, List.getElem?_toArray, List.getElem?_cons_zero, List.getElem?_cons_succ, Option.bind_some, Act.put, List.setIfInBounds_toArray, List.set_cons_succ, List.set_cons_zero]
        rw [e0, e1, e2, e3]
        clear e0 e1 e2 e3 hC hn E25 hL vs L nb
        clear c1 c2
        by_cases hv : 4294967296 ≤ v9a
        · have b1 := hidd (show (4294967296 : Int) ≤ (v9a : Int) by omega)
          have DONE : Hid (za = (U * 4294967296 + u1) / Y) := kd_big HYY.out ZE.out.1 HU1.out HB.out.1 ZE.out.2.1 hv ZE.out.2.2.1
          clear ZE hv
          go_upto_region 20 with (fail)
          refine region_fr (C := [Fq.is (.int .u64 (v9a : Int)), Fq.is (.bool true)]) (ks := []) (new := []) E rfl (by kernel_rfl) rfl rfl (fun hp => ⟨?_, ?_, trivial⟩) ?_
          · exact q_move hp (free_of rfl) trivial (sq_out (s := 16) rfl rfl (fun _ _ => rfl))
          · exact q_one (F := fun v _ => v = .int .u64 (v9a : Int)) hp (free_of rfl) trivial (sqi 0) (fun ρ w hc h => ⟨.bool true, by simp [execOp, go_sem, h, hc, b1.out], rfl⟩)
          intro L vs w26 nb hL hC hn E26
          have e0 : vs 0 = .int .u64 (v9a : Int) := hC 0 (by simp)
          have e1 : vs 1 = .bool true := hC 1 (by simp)
          have E : Fr w [] w26 := E26
          rw [lay_all hL]
          simp only [putAll, dstOf, List.length_cons, List.length_nil, Nat.zero_add, Nat.reduceAdd, List.getElem?_toArray, List.getElem?_cons_zero, List.getElem?_cons_succ, Option.bind_some, Act.put, List.setIfInBounds_toArray, List.set_cons_succ, List.set_cons_zero]
          rw [e0, e1]
          clear e0 e1 hC hn E26 hL vs L nb
          clear b1
          have DONE1 := DONE
          clear DONE
          obtain ⟨F, hF⟩ : ∃ F, F = (U * 4294967296 + u1) % Y := ⟨_, rfl⟩
          have HF := hidd hF
          have HU2 : Hid (F < Y) := by show _ < _; rw [hF]; exact Nat.mod_lt _ HPOS.out.2
          obtain ⟨X1, hX1⟩ : ∃ X1 : Int, IntKind.u64.wrap ((U : Int) * 4294967296) = X1 := ⟨_, rfl⟩
          obtain ⟨X2, hX2⟩ : ∃ X2 : Int, IntKind.u64.wrap (X1 + u1) = X2 := ⟨_, rfl⟩
          obtain ⟨X3, hX3⟩ : ∃ X3 : Int, IntKind.u64.wrap ((za : Int) * Y) = X3 := ⟨_, rfl⟩
          obtain ⟨G, hG⟩ : ∃ G, G = za * Y := ⟨_, rfl⟩
          have g1 : (za : Int) * Y = (G : Int) := by rw [hG]; exact (Int.natCast_mul _ _).symm
          have g2 : IntKind.u64.wrap (X2 - X3) = (F : Int) := by
            have x1 := Nat.div_add_mod (U * 4294967296 + u1) Y
            rw [← DONE1.out, ← hF, Nat.mul_comm, ← hG] at x1
            have x2 := HU2.out
            have x3 := HB.out
            rw [g1] at hX3
            rw [← hX2, ← hX1, ← hX3]
            simp only [u64_wrap]
            omega
          have W1 := hidd hX1
          have W2 := hidd hX2
          have W3 := hidd hX3
          have W4 := hidd g2
          clear hF hG g1 hX1 hX2 hX3 g2
          go_upto_region 21 with (fail)
          refine region_fr (C := [Fq.is (.int .u64 (U : Int)), Fq.is (.int .u64 X1), Fq.is (.int .u64 (u1 : Int)), Fq.is (.int .u64 X2), Fq.is (.int .u64 (za : Int)), Fq.is (.int .u64 (Y : Int)), Fq.is (.int .u64 X3), Fq.is (.int .u64 (F : Int)), Fq.is (.int .u64 (F : Int))]) (ks := []) (new := []) E rfl (by kernel_rfl) rfl rfl (fun hp => ⟨?_, ?_, ?_, ?_, ?_, ?_, ?_, ?_, ?_, trivial⟩) ?_
          · exact q_move hp (free_of rfl) trivial (sq_out (s := 11) rfl rfl (fun _ _ => rfl))
          · exact q_one (F := fun v _ => v = .int .u64 (U : Int)) hp (free_of rfl) trivial (sqi 0) (fun ρ w hc h => ⟨.int .u64 X1, by simp [execOp, go_sem, h, hc, W1.out], rfl⟩)
          · exact q_move hp (free_of rfl) trivial (sq_out (s := 13) rfl rfl (fun _ _ => rfl))
          · exact q_two (F := fun v _ => v = .int .u64 X1) (G := fun v _ => v = .int .u64 (u1 : Int)) hp (free_of rfl) trivial (sqi 1) (sqi 2) (fun ρ w hc h h' => ⟨.int .u64 X2, by simp [execOp, go_sem, h, h', W2.out], rfl⟩)
          · exact q_move hp (free_of rfl) trivial (sq_out (s := 15) rfl rfl (fun _ _ => rfl))
          · exact q_move hp (free_of rfl) trivial (sq_out (s := 2) rfl rfl (fun _ _ => rfl))
          · exact q_two (F := fun v _ => v = .int .u64 (za : Int)) (G := fun v _ => v = .int .u64 (Y : Int)) hp (free_of rfl) trivial (sqi 4) (sqi 5) (fun ρ w hc h h' => ⟨.int .u64 X3, by simp [execOp, go_sem, h, h', W3.out], rfl⟩)
          · exact q_two (F := fun v _ => v = .int .u64 X2) (G := fun v _ => v = .int .u64 X3) hp (free_of rfl) trivial (sqi 3) (sqi 6) (fun ρ w hc h h' => ⟨.int .u64 (F : Int), by simp [execOp, go_sem, h, h', W4.out], rfl⟩)
          · exact q_assign hp (free_of rfl) trivial (sqi 7)
          intro L vs w27 nb hL hC hn E27
          have e0 : vs 0 = .int .u64 (U : Int) := hC 0 (by simp)
          have e1 : vs 1 = .int .u64 X1 := hC 1 (by simp)
          have e2 : vs 2 = .int .u64 (u1 : Int) := hC 2 (by simp)
          have e3 : vs 3 = .int .u64 X2 := hC 3 (by simp)
          have e4 : vs 4 = .int .u64 (za : Int) := hC 4 (by simp)
          have e5 : vs 5 = .int .u64 (Y : Int) := hC 5 (by simp)
          have e6 : vs 6 = .int .u64 X3 := hC 6 (by simp)
          have e7 : vs 7 = .int .u64 (F : Int) := hC 7 (by simp)
          have e8 : vs 8 = .int .u64 (F : Int) := hC 8 (by simp)
          have E : Fr w [] w27 := E27
          rw [lay_all hL]
          simp only [putAll, dstOf, List.length_cons, List.length_nil, Nat.zero_add, Nat.reduceAdd, List.getElem?_toArray, List.getElem?_cons_zero, List.getElem?_cons_succ, Option.bind_some, Act.put, List.setIfInBounds_toArray, List.set_cons_succ, List.set_cons_zero]
          rw [e0, e1, e2, e3, e4, e5, e6, e7, e8]
          clear e0 e1 e2 e3 e4 e5 e6 e7 e8 hC hn E27 hL vs L nb
          clear W1 W2 W3 W4
          obtain ⟨Q2, hQ2⟩ : ∃ qa, qa = F / y1 := ⟨_, rfl⟩
          obtain ⟨R2, hR2⟩ : ∃ ra, ra = F % y1 := ⟨_, rfl⟩
          have HQ2 : Hid (Q2 * y1 + R2 = F) := by show _ = _; rw [hQ2, hR2, Nat.mul_comm]; exact Nat.div_add_mod _ _
          have HR2 : Hid (R2 < y1) := by show _ < _; rw [hR2]; exact Nat.mod_lt _ HPOS.out.1
          have GQ2 : Hid ((F * 4294967296 + u0) / Y ≤ Q2) := by show _ ≤ _; rw [hQ2]; exact kd_start HYY.out HPOS.out.1 (by have := HB.out; omega)
          have TQ2 : Hid (Q2 ≤ 4294967297) := by show _ ≤ _; rw [hQ2]; exact kd_top HYY.out HB.out.1 (by have := HB.out; omega) HU2.out
          have DQ2 : Hid ((F : Int) / y1 = (Q2 : Int)) := by show _ = _; rw [hQ2]; exact (Int.natCast_ediv _ _).symm
          clear hQ2 hR2
          have HZ := hidd (show ¬ (y1 : Int) = 0 by have := HPOS.out; omega)
          have HZN := hidd (show ¬ y1 = 0 by have := HPOS.out; omega)
          have HQW := hidd (show IntKind.u64.wrap (Q2 : Int) = (Q2 : Int) from u64N (by have := TQ2.out; omega))
          go_upto_region 22 with (fail)
          refine region_fr (C := [Fq.is (.int .u64 (F : Int)), Fq.is (.int .u64 (y1 : Int)), Fq.is (.int .u64 (Q2 : Int)), Fq.is (.int .u64 (Q2 : Int))]) (ks := []) (new := []) E rfl (by kernel_rfl) rfl rfl (fun hp => ⟨?_, ?_, ?_, ?_, trivial⟩) ?_
          · exact q_move hp (free_of rfl) trivial (sq_out (s := 17) rfl rfl (fun _ _ => rfl))
          · exact q_move hp (free_of rfl) trivial (sq_out (s := 9) rfl rfl (fun _ _ => rfl))
          · exact q_two (F := fun v _ => v = .int .u64 (F : Int)) (G := fun v _ => v = .int .u64 (y1 : Int)) hp (free_of rfl) trivial (sqi 0) (sqi 1) (fun ρ w hc h h' => ⟨.int .u64 (Q2 : Int), by simp [execOp, go_sem, h, h', HZN.out, DQ2.out, HQW.out], rfl⟩)
          · exact q_assign hp (free_of rfl) trivial (sqi 2)
          intro L vs w28 nb hL hC hn E28
          have e0 : vs 0 = .int .u64 (F : Int) := hC 0 (by simp)
          have e1 : vs 1 = .int .u64 (y1 : Int) := hC 1 (by simp)
          have e2 : vs 2 = .int .u64 (Q2 : Int) := hC 2 (by simp)
          have e3 : vs 3 = .int .u64 (Q2 : Int) := hC 3 (by simp)
          have E : Fr w [] w28 := E28
          rw [lay_all hL]
          simp only [putAll, dstOf, List.length_cons, List.length_nil, Nat.zero_add, Nat.reduceAdd, List.getElem?_toArray, List.getElem?_cons_zero, List.getElem?_cons_succ, Option.bind_some, Act.put, List.setIfInBounds_toArray, List.set_cons_succ, List.set_cons_zero]
          rw [e0, e1, e2, e3]
          clear e0 e1 e2 e3 hC hn E28 hL vs L nb
          clear HZ HZN HQW DQ2
          obtain ⟨P2, hP2⟩ : ∃ P, P = Q2 * y1 := ⟨_, rfl⟩
          have W1 := hidd (show IntKind.u64.wrap ((Q2 : Int) * y1) = (P2 : Int) by rw [show (Q2 : Int) * y1 = (P2 : Int) by rw [hP2]; exact (Int.natCast_mul _ _).symm]; exact u64N (by have := HQ2.out; have := HU2.out; have := HB.out; omega))
          have W2 := hidd (show IntKind.u64.wrap ((F : Int) - P2) = (R2 : Int) by rw [show (F : Int) - P2 = (R2 : Int) by have := HQ2.out; omega]; exact u64N (by have := HR2.out; have := HB.out; omega))
          clear hP2
          go_upto_region 23 with (fail)
          refine region_fr (C := [Fq.is (.int .u64 (F : Int)), Fq.is (.int .u64 (Q2 : Int)), Fq.is (.int .u64 (y1 : Int)), Fq.is (.int .u64 (P2 : Int)), Fq.is (.int .u64 (R2 : Int)), Fq.is (.int .u64 (R2 : Int))]) (ks := []) (new := []) E rfl (by kernel_rfl) rfl rfl (fun hp => ⟨?_, ?_, ?_, ?_, ?_, ?_, trivial⟩) ?_
          · exact q_move hp (free_of rfl) trivial (sq_out (s := 17) rfl rfl (fun _ _ => rfl))
          · exact q_move hp (free_of rfl) trivial (sq_out (s := 18) rfl rfl (fun _ _ => rfl))
          · exact q_move hp (free_of rfl) trivial (sq_out (s := 9) rfl rfl (fun _ _ => rfl))
          · exact q_two (F := fun v _ => v = .int .u64 (Q2 : Int)) (G := fun v _ => v = .int .u64 (y1 : Int)) hp (free_of rfl) trivial (sqi 1) (sqi 2) (fun ρ w hc h h' => ⟨.int .u64 (P2 : Int), by simp [execOp, go_sem, h, h', W1.out], rfl⟩)
          · exact q_two (F := fun v _ => v = .int .u64 (F : Int)) (G := fun v _ => v = .int .u64 (P2 : Int)) hp (free_of rfl) trivial (sqi 0) (sqi 3) (fun ρ w hc h h' => ⟨.int .u64 (R2 : Int), by simp [execOp, go_sem, h, h', W2.out], rfl⟩)
          · exact q_assign hp (free_of rfl) trivial (sqi 4)
          intro L vs w29 nb hL hC hn E29
          have e0 : vs 0 = .int .u64 (F : Int) := hC 0 (by simp)
          have e1 : vs 1 = .int .u64 (Q2 : Int) := hC 1 (by simp)
          have e2 : vs 2 = .int .u64 (y1 : Int) := hC 2 (by simp)
          have e3 : vs 3 = .int .u64 (P2 : Int) := hC 3 (by simp)
          have e4 : vs 4 = .int .u64 (R2 : Int) := hC 4 (by simp)
          have e5 : vs 5 = .int .u64 (R2 : Int) := hC 5 (by simp)
          have E : Fr w [] w29 := E29
          rw [lay_all hL]
          simp only [putAll, dstOf, List.length_cons, List.length_nil, Nat.zero_add, Nat.reduceAdd, List.getElem?_toArray, List.getElem?_cons_zero, List.getElem?_cons_succ, Option.bind_some, Act.put, List.setIfInBounds_toArray, List.set_cons_succ, List.set_cons_zero]
          rw [e0, e1, e2, e3, e4, e5]
          clear e0 e1 e2 e3 e4 e5 hC hn E29 hL vs L nb
          clear W1 W2
          go_wp2
          go_loopw [18, 16] (fun vq vr W => ∃ qb rb : Nat, vq = .int .u64 qb ∧ vr = .int .u64 rb ∧ qb * y1 + rb = F ∧ (F * 4294967296 + u0) / Y ≤ qb ∧ qb ≤ 4294967297 ∧ rb < 4294967296 ∧ Below w.heap.size w W) (fun vq _ _ => (intOf vq).toNat)
          case atStart =>
            exact ⟨Q2, R2, rfl, rfl, HQ2.out, GQ2.out, TQ2.out, by have := HR2.out; have := HB.out; omega, E.below⟩
          case round =>
            obtain ⟨qb, rb, rfl, rfl, hq, hl, hq2, hr, hbw⟩ := hrel
            have E := fr_nil hbw
            have X := hidd (And.intro hq (And.intro hl (And.intro hq2 hr)))
            clear hq hl hq2 hr hbw HQ2 HR2 GQ2 TQ2
            by_cases hb : 4294967296 ≤ qb
            · have TT : Hid (4294967296 ≤ qb ∨ 4294967296 * rb + u0 < qb * y0) := .inl hb
              have b1 := hidd (show (4294967296 : Int) ≤ (qb : Int) by omega)
              clear hb
              go_upto_region 24 with (fail)
              refine region_fr (C := [Fq.is (.int .u64 (qb : Int)), Fq.is (.bool true), Fq.is (.bool true), Fq.is (undef), Fq.is (undef), Fq.is (undef), Fq.is (undef), Fq.is (undef), Fq.is (undef), Fq.is (undef), Fq.is (undef), Fq.is (.bool true)]) (ks := []) (new := []) E rfl (by kernel_rfl) rfl rfl (fun hp => ⟨?_, ?_, ?_, ?_, ?_, ?_, ?_, ?_, ?_, ?_, ?_, ?_, trivial⟩) ?_
              · exact q_move hp (free_of rfl) trivial (sq_out (s := 18) rfl rfl (fun _ _ => rfl))
              · exact q_one (F := fun v _ => v = .int .u64 (qb : Int)) hp (free_of rfl) trivial (sqi 0) (fun ρ w hc h => ⟨.bool true, by simp [execOp, go_sem, h, hc, b1.out], rfl⟩)
              · exact q_move hp (free_of rfl) trivial (sqi 1)
              · exact q_skip hp (free_of rfl) rfl (gq_some rfl rfl (by simp) rfl (fun v w h => h)) (fun _ => rfl)
              · exact q_skip hp (free_of rfl) rfl (gq_some rfl rfl (by simp) rfl (fun v w h => h)) (fun _ => rfl)
              · exact q_skip hp (free_of rfl) rfl (gq_some rfl rfl (by simp) rfl (fun v w h => h)) (fun _ => rfl)
              · exact q_skip hp (free_of rfl) rfl (gq_some rfl rfl (by simp) rfl (fun v w h => h)) (fun _ => rfl)
              · exact q_skip hp (free_of rfl) rfl (gq_some rfl rfl (by simp) rfl (fun v w h => h)) (fun _ => rfl)
              · exact q_skip hp (free_of rfl) rfl (gq_some rfl rfl (by simp) rfl (fun v w h => h)) (fun _ => rfl)
              · exact q_skip hp (free_of rfl) rfl (gq_some rfl rfl (by simp) rfl (fun v w h => h)) (fun _ => rfl)
              · exact q_skip hp (free_of rfl) rfl (gq_some rfl rfl (by simp) rfl (fun v w h => h)) (fun _ => rfl)
              · exact q_two (F := fun v _ => v = .bool true) (G := fun v _ => v = .bool true) hp (free_of rfl) trivial (sqi 2) (sq_const (fun _ => rfl)) (fun ρ w hc h h' => ⟨_, by simp [execOp, go_sem, h, h'], rfl⟩)
              intro L vs w30 nb hL hC hn E30
              have e0 : vs 0 = .int .u64 (qb : Int) := hC 0 (by simp)
              have e1 : vs 1 = .bool true := hC 1 (by simp)
              have e2 : vs 2 = .bool true := hC 2 (by simp)
              have e3 : vs 3 = undef := hC 3 (by simp)
              have e4 : vs 4 = undef := hC 4 (by simp)
              have e5 : vs 5 = undef := hC 5 (by simp)
              have e6 : vs 6 = undef := hC 6 (by simp)
              have e7 : vs 7 = undef := hC 7 (by simp)
              have e8 : vs 8 = undef := hC 8 (by simp)
              have e9 : vs 9 = undef := hC 9 (by simp)
              have e10 : vs 10 = undef := hC 10 (by simp)
              have e11 : vs 11 = .bool true := hC 11 (by simp)
              have E : Fr w [] w30 := E30
              rw [lay_all hL]
              simp only [putAll, dstOf, List.length_cons, List.length_nil, Nat.zero_add, Nat.reduceAdd, List.getElem?_toArray, List.getElem?_cons_zero, List.getElem?_cons_succ, Option.bind_some, Act.put, List.setIfInBounds_toArray, List.set_cons_succ, List.set_cons_zero]
              rw [e0, e1, e2, e3, e4, e5, e6, e7, e8, e9, e10, e11]
              clear e0 e1 e2 e3 e4 e5 e6 e7 e8 e9 e10 e11 hC hn E30 hL vs L nb
              clear b1
              have KT := kd_true HYY.out X.out.1 HU2.out (by have := HB.out; omega) TT.out
              obtain ⟨zb, hz⟩ : ∃ zb, zb = qb - 1 := ⟨_, rfl⟩
              obtain ⟨v9b, hv⟩ : ∃ v9b, v9b = rb + y1 := ⟨_, rfl⟩
              have c1 := hidd (show IntKind.u64.wrap ((qb : Int) - 1) = (zb : Int) by rw [show (qb : Int) - 1 = (zb : Int) by omega]; exact u64N (by have := X.out; omega))
              have c2 := hidd (show IntKind.u64.wrap ((rb : Int) + y1) = (v9b : Int) by rw [show (rb : Int) + y1 = (v9b : Int) by omega]; exact u64N (by have := X.out; have := HB.out; omega))
              have ZE : Hid (zb * y1 + v9b = F ∧ (F * 4294967296 + u0) / Y ≤ zb ∧ zb ≤ 4294967296 ∧ zb < qb) := by
                have x1 := X.out
                have e : qb * y1 = zb * y1 + y1 := by rw [show qb = zb + 1 by omega, Nat.add_mul, Nat.one_mul]
                refine ⟨by omega, by rw [hz]; exact KT.1, by omega, by omega⟩
              clear hz hv KT TT X
              go_upto_region 25 with (fail)
              refine region_fr (C := [Fq.is (.int .u64 (qb : Int)), Fq.is (.int .u64 (zb : Int)), Fq.is (.int .u64 (zb : Int))]) (ks := []) (new := []) E rfl (by kernel_rfl) rfl rfl (fun hp => ⟨?_, ?_, ?_, trivial⟩) ?_
              · exact q_moveB 2 3 hp (free_of rfl) trivial rfl rfl rfl rfl (fun _ => rfl)
              · exact q_one (F := fun v _ => v = .int .u64 (qb : Int)) hp (free_of rfl) trivial (sqi 0) (fun ρ w hc h => ⟨.int .u64 (zb : Int), by simp [execOp, go_sem, h, hc, c1.out], rfl⟩)
              · exact q_assign hp (free_of rfl) trivial (sqi 1)
              intro L vs w31 nb hL hC hn E31
              have e0 : vs 0 = .int .u64 (qb : Int) := hC 0 (by simp)
              have e1 : vs 1 = .int .u64 (zb : Int) := hC 1 (by simp)
              have e2 : vs 2 = .int .u64 (zb : Int) := hC 2 (by simp)
              have E : Fr w [] w31 := E31
              rw [lay_all hL]
              simp only [putAll, dstOf, List.length_cons, List.length_nil, Nat.zero_add, Nat.reduceAdd, List.getElem?_toArray, List.getElem?_cons_zero, List.getElem?_cons_succ, Option.bind_some, Act.put, List.setIfInBounds_toArray, List.set_cons_succ, List.set_cons_zero]
              rw [e0, e1, e2]
              clear e0 e1 e2 hC hn E31 hL vs L nb
              go_upto_region 26 with (fail)
              refine region_fr (C := [Fq.is (.int .u64 (rb : Int)), Fq.is (.int .u64 (y1 : Int)), Fq.is (.int .u64 (v9b : Int)), Fq.is (.int .u64 (v9b : Int))]) (ks := []) (new := []) E rfl (by kernel_rfl) rfl rfl (fun hp => ⟨?_, ?_, ?_, ?_, trivial⟩) ?_
              · exact q_moveB 3 3 hp (free_of rfl) trivial rfl rfl rfl rfl (fun _ => rfl)
              · exact q_move hp (free_of rfl) trivial (sq_out (s := 9) rfl rfl (fun _ _ => rfl))
              · exact q_two (F := fun v _ => v = .int .u64 (rb : Int)) (G := fun v _ => v = .int .u64 (y1 : Int)) hp (free_of rfl) trivial (sqi 0) (sqi 1) (fun ρ w hc h h' => ⟨.int .u64 (v9b : Int), by simp [execOp, go_sem, h, h', c2.out], rfl⟩)
              · exact q_assign hp (free_of rfl) trivial (sqi 2)
              intro L vs w32 nb hL hC hn E32
              have e0 : vs 0 = .int .u64 (rb : Int) := hC 0 (by simp)
              have e1 : vs 1 = .int .u64 (y1 : Int) := hC 1 (by simp)
              have e2 : vs 2 = .int .u64 (v9b : Int) := hC 2 (by simp)
              have e3 : vs 3 = .int .u64 (v9b : Int) := hC 3 (by simp)
              have E : Fr w [] w32 := E32
              rw [lay_all hL]
              simp only [putAll, dstOf, List.length_cons, List.length_nil, Nat.zero_add, Nat.reduceAdd, List.getElem?_toArray, List.getElem?_cons_zero, List.getElem?_cons_succ, Option.bind_some, Act.put, List.setIfInBounds_toArray, List.set_cons_succ, List.set_cons_zero]
              rw [e0, e1, e2, e3]
              clear e0 e1 e2 e3 hC hn E32 hL vs L nb
              clear c1 c2
              by_cases hv : 4294967296 ≤ v9b
              · have b1 := hidd (show (4294967296 : Int) ≤ (v9b : Int) by omega)
                have DONE : Hid (zb = (F * 4294967296 + u0) / Y) := kd_big HYY.out ZE.out.1 HU2.out HB.out.1 ZE.out.2.1 hv ZE.out.2.2.1
                clear ZE hv
                go_upto_region 27 with (fail)
                refine region_fr (C := [Fq.is (.int .u64 (v9b : Int)), Fq.is (.bool true)]) (ks := []) (new := []) E rfl (by kernel_rfl) rfl rfl (fun hp => ⟨?_, ?_, trivial⟩) ?_
                · exact q_move hp (free_of rfl) trivial (sq_out (s := 16) rfl rfl (fun _ _ => rfl))
                · exact q_one (F := fun v _ => v = .int .u64 (v9b : Int)) hp (free_of rfl) trivial (sqi 0) (fun ρ w hc h => ⟨.bool true, by simp [execOp, go_sem, h, hc, b1.out], rfl⟩)
                intro L vs w33 nb hL hC hn E33
                have e0 : vs 0 = .int .u64 (v9b : Int) := hC 0 (by simp)
                have e1 : vs 1 = .bool true := hC 1 (by simp)
                have E : Fr w [] w33 := E33
                rw [lay_all hL]
                simp only [putAll, dstOf, List.length_cons, List.length_nil, Nat.zero_add, Nat.reduceAdd, List.getElem?_toArray, List.getElem?_cons_zero, List.getElem?_cons_succ, Option.bind_some, Act.put, List.setIfInBounds_toArray, List.set_cons_succ, List.set_cons_zero]
                rw [e0, e1]
                clear e0 e1 hC hn E33 hL vs L nb
                clear b1
                obtain ⟨R9, hR9⟩ : ∃ rb, rb = (F * 4294967296 + u0) % Y := ⟨_, rfl⟩
                have K2 := kd_two (U := U) (B := 4294967296) (u := u1) (v := u0) HPOS.out.2
                rw [← HF.out, ← DONE1.out, ← DONE.out, ← hR9] at K2
                have HA : Hid (za * 4294967296 + zb = QA ∧ R9 / 2 ^ t = RA) := ⟨K2.1.trans HL3.out.1, by rw [K2.2]; exact HL3.out.2⟩
                have hz1 : za < 4294967296 := by rw [DONE1.out]; exact kd_lt HU1.out (by have := HB.out; omega)
                have hz2 : zb < 4294967296 := by rw [DONE.out]; exact kd_lt HU2.out (by have := HB.out; omega)
                obtain ⟨G, hG⟩ : ∃ G, G = zb * Y := ⟨_, rfl⟩
                have hdm := Nat.div_add_mod (F * 4294967296 + u0) Y
                rw [← DONE.out, ← hR9, Nat.mul_comm, ← hG] at hdm
                have hRY : R9 < Y := by rw [hR9]; exact Nat.mod_lt _ HPOS.out.2
                obtain ⟨A1, hA1⟩ : ∃ A1 : Int, IntKind.u64.wrap ((za : Int) * 4294967296) = A1 := ⟨_, rfl⟩
                obtain ⟨B1, hB1⟩ : ∃ B1 : Int, IntKind.u64.wrap ((F : Int) * 4294967296) = B1 := ⟨_, rfl⟩
                obtain ⟨B2, hB2⟩ : ∃ B2 : Int, IntKind.u64.wrap (B1 + u0) = B2 := ⟨_, rfl⟩
                obtain ⟨C1, hC1⟩ : ∃ C1 : Int, IntKind.u64.wrap ((zb : Int) * Y) = C1 := ⟨_, rfl⟩
                have f1 : IntKind.u64.wrap (A1 + zb) = ((za * 4294967296 + zb : Nat) : Int) := by rw [← hA1]; simp only [u64_wrap]; omega
                have hg2 : (zb : Int) * Y = (G : Int) := by rw [hG]; exact (Int.natCast_mul _ _).symm
                have f2 : IntKind.u64.wrap (B2 - C1) = (R9 : Int) := by
                  rw [hg2] at hC1
                  have x3 := HB.out
                  rw [← hB2, ← hB1, ← hC1]
                  simp only [u64_wrap]
                  omega
                have f3 : (R9 : Int) / 2 ^ s.toNat = ((R9 / 2 ^ t : Nat) : Int) := by rw [HT.out.2.1, shrN]
                rw [HA.out.1] at f1
                rw [HA.out.2] at f3
                obtain ⟨RR, hRR⟩ : ∃ RR : Int, RR = (R9 : Int) := ⟨_, rfl⟩
                rw [← hRR] at f2 f3
                have HS0 := hidd (show 0 ≤ s ∧ s < 64 by have := HT.out; omega)
                have W1 := hidd hA1
                have W2 := hidd f1
                have W3 := hidd hB1
                have W4 := hidd hB2
                have W5 := hidd hC1
                have W6 := hidd f2
                have W7 := hidd f3
                have W8 := hidd (show ¬ s < 0 by have := HS0.out; omega)
                clear hA1 f1 hB1 hB2 hC1 f2 f3 hg2 hdm hRY hG hz1 hz2 hR9 K2 HA hRR DONE DONE1 HL3 HYY HB HU1 HU2 HF HPOS HT
                go_upto_region 28 with (fail)
                refine region_fr (C := [Fq.is (.int .u64 (za : Int)), Fq.is (.int .u64 A1), Fq.is (.int .u64 (zb : Int)), Fq.is (.int .u64 (QA : Int)), Fq.is (.int .u64 (F : Int)), Fq.is (.int .u64 B1), Fq.is (.int .u64 (u0 : Int)), Fq.is (.int .u64 B2), Fq.is (.int .u64 (zb : Int)), Fq.is (.int .u64 (Y : Int)), Fq.is (.int .u64 C1), Fq.is (.int .u64 RR), Fq.is (.int .u64 s), Fq.is (.int .u64 (RA : Int)), Fq.is (.int .u64 (QA : Int)), Fq.is (.int .u64 (RA : Int))]) (ks := []) (new := []) E rfl (by kernel_rfl) rfl rfl (fun hp => ⟨?_, ?_, ?_, ?_, ?_, ?_, ?_, ?_, ?_, ?_, ?_, ?_, ?_, ?_, ?_, ?_, trivial⟩) ?_
                · exact q_move hp (free_of rfl) trivial (sq_out (s := 15) rfl rfl (fun _ _ => rfl))
                · exact q_one (F := fun v _ => v = .int .u64 (za : Int)) hp (free_of rfl) trivial (sqi 0) (fun ρ w hc h => ⟨.int .u64 A1, by simp [execOp, go_sem, h, hc, W1.out], rfl⟩)
                · exact q_move hp (free_of rfl) trivial (sq_out (s := 18) rfl rfl (fun _ _ => rfl))
                · exact q_two (F := fun v _ => v = .int .u64 A1) (G := fun v _ => v = .int .u64 (zb : Int)) hp (free_of rfl) trivial (sqi 1) (sqi 2) (fun ρ w hc h h' => ⟨.int .u64 (QA : Int), by simp [execOp, go_sem, h, h', W2.out], rfl⟩)
                · exact q_move hp (free_of rfl) trivial (sq_out (s := 17) rfl rfl (fun _ _ => rfl))
                · exact q_one (F := fun v _ => v = .int .u64 (F : Int)) hp (free_of rfl) trivial (sqi 4) (fun ρ w hc h => ⟨.int .u64 B1, by simp [execOp, go_sem, h, hc, W3.out], rfl⟩)
                · exact q_move hp (free_of rfl) trivial (sq_out (s := 14) rfl rfl (fun _ _ => rfl))
                · exact q_two (F := fun v _ => v = .int .u64 B1) (G := fun v _ => v = .int .u64 (u0 : Int)) hp (free_of rfl) trivial (sqi 5) (sqi 6) (fun ρ w hc h h' => ⟨.int .u64 B2, by simp [execOp, go_sem, h, h', W4.out], rfl⟩)
                · exact q_move hp (free_of rfl) trivial (sq_out (s := 18) rfl rfl (fun _ _ => rfl))
                · exact q_move hp (free_of rfl) trivial (sq_out (s := 2) rfl rfl (fun _ _ => rfl))
                · exact q_two (F := fun v _ => v = .int .u64 (zb : Int)) (G := fun v _ => v = .int .u64 (Y : Int)) hp (free_of rfl) trivial (sqi 8) (sqi 9) (fun ρ w hc h h' => ⟨.int .u64 C1, by simp [execOp, go_sem, h, h', W5.out], rfl⟩)
                · exact q_two (F := fun v _ => v = .int .u64 B2) (G := fun v _ => v = .int .u64 C1) hp (free_of rfl) trivial (sqi 7) (sqi 10) (fun ρ w hc h h' => ⟨.int .u64 RR, by simp [execOp, go_sem, h, h', W6.out], rfl⟩)
                · exact q_move hp (free_of rfl) trivial (sq_out (s := 8) rfl rfl (fun _ _ => rfl))
                · exact q_two (F := fun v _ => v = .int .u64 RR) (G := fun v _ => v = .int .u64 s) hp (free_of rfl) trivial (sqi 11) (sqi 12) (fun ρ w hc h h' => ⟨.int .u64 (RA : Int), by simp [execOp, go_sem, h, h', W7.out], rfl⟩)
                · exact q_assign hp (free_of rfl) trivial (sqi 3)
                · exact q_assign hp (free_of rfl) trivial (sqi 13)
                intro L vs w34 nb hL hC hn E34
                have e0 : vs 0 = .int .u64 (za : Int) := hC 0 (by simp)
                have e1 : vs 1 = .int .u64 A1 := hC 1 (by simp)
                have e2 : vs 2 = .int .u64 (zb : Int) := hC 2 (by simp)
                have e3 : vs 3 = .int .u64 (QA : Int) := hC 3 (by simp)
                have e4 : vs 4 = .int .u64 (F : Int) := hC 4 (by simp)
                have e5 : vs 5 = .int .u64 B1 := hC 5 (by simp)
                have e6 : vs 6 = .int .u64 (u0 : Int) := hC 6 (by simp)
                have e7 : vs 7 = .int .u64 B2 := hC 7 (by simp)
                have e8 : vs 8 = .int .u64 (zb : Int) := hC 8 (by simp)
                have e9 : vs 9 = .int .u64 (Y : Int) := hC 9 (by simp)
                have e10 : vs 10 = .int .u64 C1 := hC 10 (by simp)
                have e11 : vs 11 = .int .u64 RR := hC 11 (by simp)
                have e12 : vs 12 = .int .u64 s := hC 12 (by simp)
                have e13 : vs 13 = .int .u64 (RA : Int) := hC 13 (by simp)
                have e14 : vs 14 = .int .u64 (QA : Int) := hC 14 (by simp)
                have e15 : vs 15 = .int .u64 (RA : Int) := hC 15 (by simp)
                have E : Fr w [] w34 := E34
                rw [lay_all hL]
                simp only [putAll, dstOf, List.length_cons, List.length_nil, Nat.zero_add, Nat.reduceAdd, List.getElem?_toArray, List.getElem?_cons_zero, List.getElem?_cons_succ, Option.bind_some, Act.put, List.setIfInBounds_toArray, List.set_cons_succ, List.set_cons_zero]
                rw [e0, e1, e2, e3, e4, e5, e6, e7, e8, e9, e10, e11, e12, e13, e14, e15]
                clear e0 e1 e2 e3 e4 e5 e6 e7 e8 e9 e10 e11 e12 e13 e14 e15 hC hn E34 hL vs L nb
                clear W1 W2 W3 W4 W5 W6 W7 W8 HS0
                go_wp2
                exact bodyPost_ret (v := .tuple #[.int .u64 (QA : Int), .int .u64 (RA : Int)]) (by simp [results, Tryd.results77, go_sem]) rfl ⟨rfl, E.below⟩
              · have b1 := hidd (show ¬ (4294967296 : Int) ≤ (v9b : Int) by omega)
                have HV : Hid (v9b < 4294967296) := by show _ < _; omega
                clear hv
                go_upto_region 27 with (fail)
                refine region_fr (C := [Fq.is (.int .u64 (v9b : Int)), Fq.is (.bool false)]) (ks := []) (new := []) E rfl (by kernel_rfl) rfl rfl (fun hp => ⟨?_, ?_, trivial⟩) ?_
                · exact q_move hp (free_of rfl) trivial (sq_out (s := 16) rfl rfl (fun _ _ => rfl))
                · exact q_one (F := fun v _ => v = .int .u64 (v9b : Int)) hp (free_of rfl) trivial (sqi 0) (fun ρ w hc h => ⟨.bool false, by simp [execOp, go_sem, h, hc, b1.out], rfl⟩)
                intro L vs w35 nb hL hC hn E35
                have e0 : vs 0 = .int .u64 (v9b : Int) := hC 0 (by simp)
                have e1 : vs 1 = .bool false := hC 1 (by simp)
                have E : Fr w [] w35 := E35
                rw [lay_all hL]
                simp only [putAll, dstOf, List.length_cons, List.length_nil, Nat.zero_add, Nat.reduceAdd, List.getElem?_toArray, List.getElem?_cons_zero, List.getElem?_cons_succ, Option.bind_some, Act.put, List.setIfInBounds_toArray, List.set_cons_succ, List.set_cons_zero]
                rw [e0, e1]
                clear e0 e1 hC hn E35 hL vs L nb
                clear b1
                go_wp2
                go_roundw
                case rel => exact ⟨zb, v9b, rfl, rfl, ZE.out.1, ZE.out.2.1, by have := ZE.out.2.2.1; omega, HV.out, E.below⟩
                case measure => have := ZE.out.2.2.2; simp [intOf]; omega
            · have b1 := hidd (show ¬ (4294967296 : Int) ≤ (qb : Int) by omega)
              obtain ⟨P, hP⟩ : ∃ P, P = qb * y0 := ⟨_, rfl⟩
              obtain ⟨S, hS⟩ : ∃ S, S = 4294967296 * rb + u0 := ⟨_, rfl⟩
              obtain ⟨N, hN⟩ : ∃ N, N = 4294967296 * rb := ⟨_, rfl⟩
              have hPb : P < 18446744073709551616 := by
                rw [hP]
                have h1 := Nat.mul_le_mul (show qb ≤ 4294967295 by omega) (show y0 ≤ 4294967295 by have := HB.out; omega)
                omega
              have d1 := hidd (show IntKind.u64.wrap ((qb : Int) * y0) = (P : Int) by rw [show (qb : Int) * y0 = (P : Int) by rw [hP]; exact (Int.natCast_mul _ _).symm]; exact u64N hPb)
              have d2 := hidd (show IntKind.u64.wrap (4294967296 * (rb : Int)) = (N : Int) by rw [show 4294967296 * (rb : Int) = (N : Int) by omega]; exact u64N (by have := X.out; omega))
              have d3 := hidd (show IntKind.u64.wrap ((N : Int) + u0) = (S : Int) by rw [show (N : Int) + u0 = (S : Int) by omega]; exact u64N (by have := X.out; have := HB.out; omega))
              have HPS := hidd (And.intro hP hS)
              clear hP hS hN hPb hb
              by_cases ht : S < P
              · have b2 := hidd (show (S : Int) < P by omega)
                have TT : Hid (4294967296 ≤ qb ∨ 4294967296 * rb + u0 < qb * y0) := .inr (by rw [← HPS.out.1, ← HPS.out.2]; exact ht)
                clear ht HPS
                go_upto_region 24 with (fail)
                refine region_fr (C := [Fq.is (.int .u64 (qb : Int)), Fq.is (.bool false), Fq.is (.bool false), Fq.is (.int .u64 (qb : Int)), Fq.is (.int .u64 (y0 : Int)), Fq.is (.int .u64 (P : Int)), Fq.is (.int .u64 (rb : Int)), Fq.is (.int .u64 (N : Int)), Fq.is (.int .u64 (u0 : Int)), Fq.is (.int .u64 (S : Int)), Fq.is (.bool true), Fq.is (.bool true)]) (ks := []) (new := []) E rfl (by kernel_rfl) rfl rfl (fun hp => ⟨?_, ?_, ?_, ?_, ?_, ?_, ?_, ?_, ?_, ?_, ?_, ?_, trivial⟩) ?_
                · exact q_move hp (free_of rfl) trivial (sq_out (s := 18) rfl rfl (fun _ _ => rfl))
                · exact q_one (F := fun v _ => v = .int .u64 (qb : Int)) hp (free_of rfl) trivial (sqi 0) (fun ρ w hc h => ⟨.bool false, by simp [execOp, go_sem, h, hc, b1.out], rfl⟩)
                · exact q_move hp (free_of rfl) trivial (sqi 1)
                · exact q_move hp (free_of rfl) (gq_some rfl rfl (by simp) rfl (fun v w h => h)) (sq_out (s := 18) rfl rfl (fun _ _ => rfl))
                · exact q_move hp (free_of rfl) (gq_some rfl rfl (by simp) rfl (fun v w h => h)) (sq_out (s := 10) rfl rfl (fun _ _ => rfl))
                · exact q_two (F := fun v _ => v = .int .u64 (qb : Int)) (G := fun v _ => v = .int .u64 (y0 : Int)) hp (free_of rfl) (gq_some rfl rfl (by simp) rfl (fun v w h => h)) (sqi 3) (sqi 4) (fun ρ w hc h h' => ⟨.int .u64 (P : Int), by simp [execOp, go_sem, h, h', d1.out], rfl⟩)
                · exact q_move hp (free_of rfl) (gq_some rfl rfl (by simp) rfl (fun v w h => h)) (sq_out (s := 16) rfl rfl (fun _ _ => rfl))
                · exact q_one (F := fun v _ => v = .int .u64 (rb : Int)) hp (free_of rfl) (gq_some rfl rfl (by simp) rfl (fun v w h => h)) (sqi 6) (fun ρ w hc h => ⟨.int .u64 (N : Int), by simp [execOp, go_sem, h, hc, d2.out], rfl⟩)
                · exact q_move hp (free_of rfl) (gq_some rfl rfl (by simp) rfl (fun v w h => h)) (sq_out (s := 14) rfl rfl (fun _ _ => rfl))
                · exact q_two (F := fun v _ => v = .int .u64 (N : Int)) (G := fun v _ => v = .int .u64 (u0 : Int)) hp (free_of rfl) (gq_some rfl rfl (by simp) rfl (fun v w h => h)) (sqi 7) (sqi 8) (fun ρ w hc h h' => ⟨.int .u64 (S : Int), by simp [execOp, go_sem, h, h', d3.out], rfl⟩)
                · exact q_two (F := fun v _ => v = .int .u64 (P : Int)) (G := fun v _ => v = .int .u64 (S : Int)) hp (free_of rfl) (gq_some rfl rfl (by simp) rfl (fun v w h => h)) (sqi 5) (sqi 9) (fun ρ w hc h h' => ⟨.bool true, by simp [execOp, go_sem, h, h', b2.out], rfl⟩)
                · exact q_two (F := fun v _ => v = .bool false) (G := fun v _ => v = .bool true) hp (free_of rfl) trivial (sqi 2) (sqi 10) (fun ρ w hc h h' => ⟨_, by simp [execOp, go_sem, h, h'], rfl⟩)
                intro L vs w36 nb hL hC hn E36
                have e0 : vs 0 = .int .u64 (qb : Int) := hC 0 (by simp)
                have e1 : vs 1 = .bool false := hC 1 (by simp)
                have e2 : vs 2 = .bool false := hC 2 (by simp)
                have e3 : vs 3 = .int .u64 (qb : Int) := hC 3 (by simp)
                have e4 : vs 4 = .int .u64 (y0 : Int) := hC 4 (by simp)
                have e5 : vs 5 = .int .u64 (P : Int) := hC 5 (by simp)
                have e6 : vs 6 = .int .u64 (rb : Int) := hC 6 (by simp)
                have e7 : vs 7 = .int .u64 (N : Int) := hC 7 (by simp)
                have e8 : vs 8 = .int .u64 (u0 : Int) := hC 8 (by simp)
                have e9 : vs 9 = .int .u64 (S : Int) := hC 9 (by simp)
                have e10 : vs 10 = .bool true := hC 10 (by simp)
                have e11 : vs 11 = .bool true := hC 11 (by simp)
                have E : Fr w [] w36 := E36
                rw [lay_all hL]
                simp only [putAll, dstOf, List.length_cons, List.length_nil, Nat.zero_add, Nat.reduceAdd, List.getElem?_toArray, List.getElem?_cons_zero, List.getElem?_cons_succ, Option.bind_some, Act.put, List.setIfInBounds_toArray, List.set_cons_succ, List.set_cons_zero]
                rw [e0, e1, e2, e3, e4, e5, e6, e7, e8, e9, e10, e11]
                clear e0 e1 e2 e3 e4 e5 e6 e7 e8 e9 e10 e11 hC hn E36 hL vs L nb
                clear b1 b2 d1 d2 d3
                have KT := kd_true HYY.out X.out.1 HU2.out (by have := HB.out; omega) TT.out
                obtain ⟨zb, hz⟩ : ∃ zb, zb = qb - 1 := ⟨_, rfl⟩
                obtain ⟨v9b, hv⟩ : ∃ v9b, v9b = rb + y1 := ⟨_, rfl⟩
                have c1 := hidd (show IntKind.u64.wrap ((qb : Int) - 1) = (zb : Int) by rw [show (qb : Int) - 1 = (zb : Int) by omega]; exact u64N (by have := X.out; omega))
                have c2 := hidd (show IntKind.u64.wrap ((rb : Int) + y1) = (v9b : Int) by rw [show (rb : Int) + y1 = (v9b : Int) by omega]; exact u64N (by have := X.out; have := HB.out; omega))
                have ZE : Hid (zb * y1 + v9b = F ∧ (F * 4294967296 + u0) / Y ≤ zb ∧ zb ≤ 4294967296 ∧ zb < qb) := by
                  have x1 := X.out
                  have e : qb * y1 = zb * y1 + y1 := by rw [show qb = zb + 1 by omega, Nat.add_mul, Nat.one_mul]
                  refine ⟨by omega, by rw [hz]; exact KT.1, by omega, by omega⟩
                clear hz hv KT TT X
                go_upto_region 25 with (fail)
                refine region_fr (C := [Fq.is (.int .u64 (qb : Int)), Fq.is (.int .u64 (zb : Int)), Fq.is (.int .u64 (zb : Int))]) (ks := []) (new := []) E rfl (by kernel_rfl) rfl rfl (fun hp => ⟨?_, ?_, ?_, trivial⟩) ?_
                · exact q_moveB 2 3 hp (free_of rfl) trivial rfl rfl rfl rfl (fun _ => rfl)
                · exact q_one (F := fun v _ => v = .int .u64 (qb : Int)) hp (free_of rfl) trivial (sqi 0) (fun ρ w hc h => ⟨.int .u64 (zb : Int), by simp [execOp, go_sem, h, hc, c1.out], rfl⟩)
                · exact q_assign hp (free_of rfl) trivial (sqi 1)
                intro L vs w37 nb hL hC hn E37
                have e0 : vs 0 = .int .u64 (qb : Int) := hC 0 (by simp)
                have e1 : vs 1 = .int .u64 (zb : Int) := hC 1 (by simp)
                have e2 : vs 2 = .int .u64 (zb : Int) := hC 2 (by simp)
                have E : Fr w [] w37 := E37
                rw [lay_all hL]
                simp only [putAll, dstOf, List.length_cons, List.length_nil, Nat.zero_add, Nat.reduceAdd, List.getElem?_toArray, List.getElem?_cons_zero, List.getElem?_cons_succ, Option.bind_some, Act.put, List.setIfInBounds_toArray, List.set_cons_succ, List.set_cons_zero]
                rw [e0, e1, e2]
                clear e0 e1 e2 hC hn E37 hL vs L nb
                go_upto_region 26 with (fail)
                refine region_fr (C := [Fq.is (.int .u64 (rb : Int)), Fq.is (.int .u64 (y1 : Int)), Fq.is (.int .u64 (v9b : Int)), Fq.is (.int .u64 (v9b : Int))]) (ks := []) (new := []) E rfl (by kernel_rfl) rfl rfl (fun hp => ⟨?_, ?_, ?_, ?_, trivial⟩) ?_
                · exact q_moveB 3 3 hp (free_of rfl) trivial rfl rfl rfl rfl (fun _ => rfl)
                · exact q_move hp (free_of rfl) trivial (sq_out (s := 9) rfl rfl (fun _ _ => rfl))
                · exact q_two (F := fun v _ => v = .int .u64 (rb : Int)) (G := fun v _ => v = .int .u64 (y1 : Int)) hp (free_of rfl) trivial (sqi 0) (sqi 1) (fun ρ w hc h h' => ⟨.int .u64 (v9b : Int), by simp [execOp, go_sem, h, h', c2.out], rfl⟩)
                · exact q_assign hp (free_of rfl) trivial (sqi 2)
                intro L vs w38 nb hL hC hn E38
                have e0 : vs 0 = .int .u64 (rb : Int) := hC 0 (by simp)
                have e1 : vs 1 = .int .u64 (y1 : Int) := hC 1 (by simp)
                have e2 : vs 2 = .int .u64 (v9b : Int) := hC 2 (by simp)
                have e3 : vs 3 = .int .u64 (v9b : Int) := hC 3 (by simp)
                have E : Fr w [] w38 := E38
                rw [lay_all hL]
                simp only [putAll, dstOf, List.length_cons, List.length_nil, Nat.zero_add, Nat.reduceAdd, List.getElem?_toArray, List.getElem?_cons_zero, List.getElem?_cons_succ, Option.bind_some, Act.put, List.setIfInBounds_toArray, List.set_cons_succ, List.set_cons_zero]
                rw [e0, e1, e2, e3]
                clear e0 e1 e2 e3 hC hn E38 hL vs L nb
                clear c1 c2
                by_cases hv : 4294967296 ≤ v9b
                · have b1 := hidd (show (4294967296 : Int) ≤ (v9b : Int) by omega)
                  have DONE : Hid (zb = (F * 4294967296 + u0) / Y) := kd_big HYY.out ZE.out.1 HU2.out HB.out.1 ZE.out.2.1 hv ZE.out.2.2.1
                  clear ZE hv
                  go_upto_region 27 with (fail)
                  refine region_fr (C := [Fq.is (.int .u64 (v9b : Int)), Fq.is (.bool true)]) (ks := []) (new := []) E rfl (by kernel_rfl) rfl rfl (fun hp => ⟨?_, ?_, trivial⟩) ?_
                  · exact q_move hp (free_of rfl) trivial (sq_out (s := 16) rfl rfl (fun _ _ => rfl))
                  · exact q_one (F := fun v _ => v = .int .u64 (v9b : Int)) hp (free_of rfl) trivial (sqi 0) (fun ρ w hc h => ⟨.bool true, by simp [execOp, go_sem, h, hc, b1.out], rfl⟩)
                  intro L vs w39 nb hL hC hn E39
                  have e0 : vs 0 = .int .u64 (v9b : Int) := hC 0 (by simp)
                  have e1 : vs 1 = .bool true := hC 1 (by simp)
                  have E : Fr w [] w39 := E39
                  rw [lay_all hL]
                  simp only [putAll, dstOf, List.length_cons, List.length_nil, Nat.zero_add, Nat.reduceAdd, List.getElem?_toArray, List.getElem?_cons_zero, List.getElem?_cons_succ, Option.bind_some, Act.put, List.setIfInBounds_toArray, List.set_cons_succ, List.set_cons_zero]
                  rw [e0, e1]
                  clear e0 e1 hC hn E39 hL vs L nb
                  clear b1
                  obtain ⟨R9, hR9⟩ : ∃ rb, rb = (F * 4294967296 + u0) % Y := ⟨_, rfl⟩
                  have K2 := kd_two (U := U) (B := 4294967296) (u := u1) (v := u0) HPOS.out.2
                  rw [← HF.out, ← DONE1.out, ← DONE.out, ← hR9] at K2
                  have HA : Hid (za * 4294967296 + zb = QA ∧ R9 / 2 ^ t = RA) := ⟨K2.1.trans HL3.out.1, by rw [K2.2]; exact HL3.out.2⟩
                  have hz1 : za < 4294967296 := by rw [DONE1.out]; exact kd_lt HU1.out (by have := HB.out; omega)
                  have hz2 : zb < 4294967296 := by rw [DONE.out]; exact kd_lt HU2.out (by have := HB.out; omega)
                  obtain ⟨G, hG⟩ : ∃ G, G = zb * Y := ⟨_, rfl⟩
                  have hdm := Nat.div_add_mod (F * 4294967296 + u0) Y
                  rw [← DONE.out, ← hR9, Nat.mul_comm, ← hG] at hdm
                  have hRY : R9 < Y := by rw [hR9]; exact Nat.mod_lt _ HPOS.out.2
                  obtain ⟨A1, hA1⟩ : ∃ A1 : Int, IntKind.u64.wrap ((za : Int) * 4294967296) = A1 := ⟨_, rfl⟩
                  obtain ⟨B1, hB1⟩ : ∃ B1 : Int, IntKind.u64.wrap ((F : Int) * 4294967296) = B1 := ⟨_, rfl⟩
                  obtain ⟨B2, hB2⟩ : ∃ B2 : Int, IntKind.u64.wrap (B1 + u0) = B2 := ⟨_, rfl⟩
                  obtain ⟨C1, hC1⟩ : ∃ C1 : Int, IntKind.u64.wrap ((zb : Int) * Y) = C1 := ⟨_, rfl⟩
                  have f1 : IntKind.u64.wrap (A1 + zb) = ((za * 4294967296 + zb : Nat) : Int) := by rw [← hA1]; simp only [u64_wrap]; omega
                  have hg2 : (zb : Int) * Y = (G : Int) := by rw [hG]; exact (Int.natCast_mul _ _).symm
                  have f2 : IntKind.u64.wrap (B2 - C1) = (R9 : Int) := by
                    rw [hg2] at hC1
                    have x3 := HB.out
                    rw [← hB2, ← hB1, ← hC1]
                    simp only [u64_wrap]
                    omega
                  have f3 : (R9 : Int) / 2 ^ s.toNat = ((R9 / 2 ^ t : Nat) : Int) := by rw [HT.out.2.1, shrN]
                  rw [HA.out.1] at f1
                  rw [HA.out.2] at f3
                  obtain ⟨RR, hRR⟩ : ∃ RR : Int, RR = (R9 : Int) := ⟨_, rfl⟩
                  rw [← hRR] at f2 f3
                  have HS0 := hidd (show 0 ≤ s ∧ s < 64 by have := HT.out; omega)
                  have W1 := hidd hA1
                  have W2 := hidd f1
                  have W3 := hidd hB1
                  have W4 := hidd hB2
                  have W5 := hidd hC1
                  have W6 := hidd f2
                  have W7 := hidd f3
                  have W8 := hidd (show ¬ s < 0 by have := HS0.out; omega)
                  clear hA1 f1 hB1 hB2 hC1 f2 f3 hg2 hdm hRY hG hz1 hz2 hR9 K2 HA hRR DONE DONE1 HL3 HYY HB HU1 HU2 HF HPOS HT
                  go_upto_region 28 with (fail)
                  refine region_fr (C := [Fq.is (.int .u64 (za : Int)), Fq.is (.int .u64 A1), Fq.is (.int .u64 (zb : Int)), Fq.is (.int .u64 (QA : Int)), Fq.is (.int .u64 (F : Int)), Fq.is (.int .u64 B1), Fq.is (.int .u64 (u0 : Int)), Fq.is (.int .u64 B2), Fq.is (.int .u64 (zb : Int)), Fq.is (.int .u64 (Y : Int)), Fq.is (.int .u64 C1), Fq.is (.int .u64 RR), Fq.is (.int .u64 s), Fq.is (.int .u64 (RA : Int)), Fq.is (.int .u64 (QA : Int)), Fq.is (.int .u64 (RA : Int))]) (ks := []) (new := []) E rfl (by kernel_rfl) rfl rfl (fun hp => ⟨?_, ?_, ?_, ?_, ?_, ?_, ?_, ?_, ?_, ?_, ?_, ?_, ?_, ?_, ?_, ?_, trivial⟩) ?_
                  · exact q_move hp (free_of rfl) trivial (sq_out (s := 15) rfl rfl (fun _ _ => rfl))
                  · exact q_one (F := fun v _ => v = .int .u64 (za : Int)) hp (free_of rfl) trivial (sqi 0) (fun ρ w hc h => ⟨.int .u64 A1, by simp [execOp, go_sem, h, hc, W1.out], rfl⟩)
                  · exact q_move hp (free_of rfl) trivial (sq_out (s := 18) rfl rfl (fun _ _ => rfl))
                  · exact q_two (F := fun v _ => v = .int .u64 A1) (G := fun v _ => v = .int .u64 (zb : Int)) hp (free_of rfl) trivial (sqi 1) (sqi 2) (fun ρ w hc h h' => ⟨.int .u64 (QA : Int), by simp [execOp, go_sem, h, h', W2.out], rfl⟩)
                  · exact q_move hp (free_of rfl) trivial (sq_out (s := 17) rfl rfl (fun _ _ => rfl))
                  · exact q_one (F := fun v _ => v = .int .u64 (F : Int)) hp (free_of rfl) trivial (sqi 4) (fun ρ w hc h => ⟨.int .u64 B1, by simp [execOp, go_sem, h, hc, W3.out], rfl⟩)
                  · exact q_move hp (free_of rfl) trivial (sq_out (s := 14) rfl rfl (fun _ _ => rfl))
                  · exact q_two (F := fun v _ => v = .int .u64 B1) (G := fun v _ => v = .int .u64 (u0 : Int)) hp (free_of rfl) trivial (sqi 5) (sqi 6) (fun ρ w hc h h' => ⟨.int .u64 B2, by simp [execOp, go_sem, h, h', W4.out], rfl⟩)
                  · exact q_move hp (free_of rfl) trivial (sq_out (s := 18) rfl rfl (fun _ _ => rfl))
                  · exact q_move hp (free_of rfl) trivial (sq_out (s := 2) rfl rfl (fun _ _ => rfl))
                  · exact q_two (F := fun v _ => v = .int .u64 (zb : Int)) (G := fun v _ => v = .int .u64 (Y : Int)) hp (free_of rfl) trivial (sqi 8) (sqi 9) (fun ρ w hc h h' => ⟨.int .u64 C1, by simp [execOp, go_sem, h, h', W5.out], rfl⟩)
                  · exact q_two (F := fun v _ => v = .int .u64 B2) (G := fun v _ => v = .int .u64 C1) hp (free_of rfl) trivial (sqi 7) (sqi 10) (fun ρ w hc h h' => ⟨.int .u64 RR, by simp [execOp, go_sem, h, h', W6.out], rfl⟩)
                  · exact q_move hp (free_of rfl) trivial (sq_out (s := 8) rfl rfl (fun _ _ => rfl))
                  · exact q_two (F := fun v _ => v = .int .u64 RR) (G := fun v _ => v = .int .u64 s) hp (free_of rfl) trivial (sqi 11) (sqi 12) (fun ρ w hc h h' => ⟨.int .u64 (RA : Int), by simp [execOp, go_sem, h, h', W7.out], rfl⟩)
                  · exact q_assign hp (free_of rfl) trivial (sqi 3)
                  · exact q_assign hp (free_of rfl) trivial (sqi 13)
                  intro L vs w40 nb hL hC hn E40
                  have e0 : vs 0 = .int .u64 (za : Int) := hC 0 (by simp)
                  have e1 : vs 1 = .int .u64 A1 := hC 1 (by simp)
                  have e2 : vs 2 = .int .u64 (zb : Int) := hC 2 (by simp)
                  have e3 : vs 3 = .int .u64 (QA : Int) := hC 3 (by simp)
                  have e4 : vs 4 = .int .u64 (F : Int) := hC 4 (by simp)
                  have e5 : vs 5 = .int .u64 B1 := hC 5 (by simp)
                  have e6 : vs 6 = .int .u64 (u0 : Int) := hC 6 (by simp)
                  have e7 : vs 7 = .int .u64 B2 := hC 7 (by simp)
                  have e8 : vs 8 = .int .u64 (zb : Int) := hC 8 (by simp)
                  have e9 : vs 9 = .int .u64 (Y : Int) := hC 9 (by simp)
                  have e10 : vs 10 = .int .u64 C1 := hC 10 (by simp)
                  have e11 : vs 11 = .int .u64 RR := hC 11 (by simp)
                  have e12 : vs 12 = .int .u64 s := hC 12 (by simp)
                  have e13 : vs 13 = .int .u64 (RA : Int) := hC 13 (by simp)
                  have e14 : vs 14 = .int .u64 (QA : Int) := hC 14 (by simp)
                  have e15 : vs 15 = .int .u64 (RA : Int) := hC 15 (by simp)
                  have E : Fr w [] w40 := E40
                  rw [lay_all hL]
                  simp only [putAll, dstOf, List.length_cons, List.length_nil, Nat.zero_add, Nat.reduceAdd, List.getElem?_toArray, List.getElem?_cons_zero, List.getElem?_cons_succ, Option.bind_some, Act.put, List.setIfInBounds_toArray, List.set_cons_succ, List.set_cons_zero]
                  rw [e0, e1, e2, e3, e4, e5, e6, e7, e8, e9, e10, e11, e12, e13, e14, e15]
                  clear e0 e1 e2 e3 e4 e5 e6 e7 e8 e9 e10 e11 e12 e13 e14 e15 hC hn E40 hL vs L nb
                  clear W1 W2 W3 W4 W5 W6 W7 W8 HS0
                  go_wp2
                  exact bodyPost_ret (v := .tuple #[.int .u64 (QA : Int), .int .u64 (RA : Int)]) (by simp [results, Tryd.results77, go_sem]) rfl ⟨rfl, E.below⟩
                · have b1 := hidd (show ¬ (4294967296 : Int) ≤ (v9b : Int) by omega)
                  have HV : Hid (v9b < 4294967296) := by show _ < _; omega
                  clear hv
                  go_upto_region 27 with (fail)
                  refine region_fr (C := [Fq.is (.int .u64 (v9b : Int)), Fq.is (.bool false)]) (ks := []) (new := []) E rfl (by kernel_rfl) rfl rfl (fun hp => ⟨?_, ?_, trivial⟩) ?_
                  · exact q_move hp (free_of rfl) trivial (sq_out (s := 16) rfl rfl (fun _ _ => rfl))
                  · exact q_one (F := fun v _ => v = .int .u64 (v9b : Int)) hp (free_of rfl) trivial (sqi 0) (fun ρ w hc h => ⟨.bool false, by simp [execOp, go_sem, h, hc, b1.out], rfl⟩)
                  intro L vs w41 nb hL hC hn E41
                  have e0 : vs 0 = .int .u64 (v9b : Int) := hC 0 (by simp)
                  have e1 : vs 1 = .bool false := hC 1 (by simp)
                  have E : Fr w [] w41 := E41
                  rw [lay_all hL]
                  simp only [putAll, dstOf, List.length_cons, List.length_nil, Nat.zero_add, Nat.reduceAdd, List.getElem?_toArray, List.getElem?_cons_zero, List.getElem?_cons_succ, Option.bind_some, Act.put, List.setIfInBounds_toArray, List.set_cons_succ, List.set_cons_zero]
                  rw [e0, e1]
                  clear e0 e1 hC hn E41 hL vs L nb
                  clear b1
                  go_wp2
                  go_roundw
                  case rel => exact ⟨zb, v9b, rfl, rfl, ZE.out.1, ZE.out.2.1, by have := ZE.out.2.2.1; omega, HV.out, E.below⟩
                  case measure => have := ZE.out.2.2.2; simp [intOf]; omega
              · have b2 := hidd (show ¬ (S : Int) < P by omega)
                have DONE : Hid (qb = (F * 4294967296 + u0) / Y) := kd_false HYY.out X.out.1 HU2.out X.out.2.1 (by rw [← HPS.out.1, ← HPS.out.2]; omega)
                clear ht HPS X
                go_upto_region 24 with (fail)
                refine region_fr (C := [Fq.is (.int .u64 (qb : Int)), Fq.is (.bool false), Fq.is (.bool false), Fq.is (.int .u64 (qb : Int)), Fq.is (.int .u64 (y0 : Int)), Fq.is (.int .u64 (P : Int)), Fq.is (.int .u64 (rb : Int)), Fq.is (.int .u64 (N : Int)), Fq.is (.int .u64 (u0 : Int)), Fq.is (.int .u64 (S : Int)), Fq.is (.bool false), Fq.is (.bool false)]) (ks := []) (new := []) E rfl (by kernel_rfl) rfl rfl (fun hp => ⟨?_, ?_, ?_, ?_, ?_, ?_, ?_, ?_, ?_, ?_, ?_, ?_, trivial⟩) ?_
                · exact q_move hp (free_of rfl) trivial (sq_out (s := 18) rfl rfl (fun _ _ => rfl))
                · exact q_one (F := fun v _ => v = .int .u64 (qb : Int)) hp (free_of rfl) trivial (sqi 0) (fun ρ w hc h => ⟨.bool false, by simp [execOp, go_sem, h, hc, b1.out], rfl⟩)
                · exact q_move hp (free_of rfl) trivial (sqi 1)
                · exact q_move hp (free_of rfl) (gq_some rfl rfl (by simp) rfl (fun v w h => h)) (sq_out (s := 18) rfl rfl (fun _ _ => rfl))
                · exact q_move hp (free_of rfl) (gq_some rfl rfl (by simp) rfl (fun v w h => h)) (sq_out (s := 10) rfl rfl (fun _ _ => rfl))
                · exact q_two (F := fun v _ => v = .int .u64 (qb : Int)) (G := fun v _ => v = .int .u64 (y0 : Int)) hp (free_of rfl) (gq_some rfl rfl (by simp) rfl (fun v w h => h)) (sqi 3) (sqi 4) (fun ρ w hc h h' => ⟨.int .u64 (P : Int), by simp [execOp, go_sem, h, h', d1.out], rfl⟩)
                · exact q_move hp (free_of rfl) (gq_some rfl rfl (by simp) rfl (fun v w h => h)) (sq_out (s := 16) rfl rfl (fun _ _ => rfl))
                · exact q_one (F := fun v _ => v = .int .u64 (rb : Int)) hp (free_of rfl) (gq_some rfl rfl (by simp) rfl (fun v w h => h)) (sqi 6) (fun ρ w hc h => ⟨.int .u64 (N : Int), by simp [execOp, go_sem, h, hc, d2.out], rfl⟩)
                · exact q_move hp (free_of rfl) (gq_some rfl rfl (by simp) rfl (fun v w h => h)) (sq_out (s := 14) rfl rfl (fun _ _ => rfl))
                · exact q_two (F := fun v _ => v = .int .u64 (N : Int)) (G := fun v _ => v = .int .u64 (u0 : Int)) hp (free_of rfl) (gq_some rfl rfl (by simp) rfl (fun v w h => h)) (sqi 7) (sqi 8) (fun ρ w hc h h' => ⟨.int .u64 (S : Int), by simp [execOp, go_sem, h, h', d3.out], rfl⟩)
                · exact q_two (F := fun v _ => v = .int .u64 (P : Int)) (G := fun v _ => v = .int .u64 (S : Int)) hp (free_of rfl) (gq_some rfl rfl (by simp) rfl (fun v w h => h)) (sqi 5) (sqi 9) (fun ρ w hc h h' => ⟨.bool false, by simp [execOp, go_sem, h, h', b2.out], rfl⟩)
                · exact q_two (F := fun v _ => v = .bool false) (G := fun v _ => v = .bool false) hp (free_of rfl) trivial (sqi 2) (sqi 10) (fun ρ w hc h h' => ⟨_, by simp [execOp, go_sem, h, h'], rfl⟩)
                intro L vs w42 nb hL hC hn E42
                have e0 : vs 0 = .int .u64 (qb : Int) := hC 0 (by simp)
                have e1 : vs 1 = .bool false := hC 1 (by simp)
                have e2 : vs 2 = .bool false := hC 2 (by simp)
                have e3 : vs 3 = .int .u64 (qb : Int) := hC 3 (by simp)
                have e4 : vs 4 = .int .u64 (y0 : Int) := hC 4 (by simp)
                have e5 : vs 5 = .int .u64 (P : Int) := hC 5 (by simp)
                have e6 : vs 6 = .int .u64 (rb : Int) := hC 6 (by simp)
                have e7 : vs 7 = .int .u64 (N : Int) := hC 7 (by simp)
                have e8 : vs 8 = .int .u64 (u0 : Int) := hC 8 (by simp)
                have e9 : vs 9 = .int .u64 (S : Int) := hC 9 (by simp)
                have e10 : vs 10 = .bool false := hC 10 (by simp)
                have e11 : vs 11 = .bool false := hC 11 (by simp)
                have E : Fr w [] w42 := E42
                rw [lay_all hL]
                simp only [putAll, dstOf, List.length_cons, List.length_nil, Nat.zero_add, Nat.reduceAdd, List.getElem?_toArray, List.getElem?_cons_zero, List.getElem?_cons_succ, Option.bind_some, Act.put, List.setIfInBounds_toArray, List.set_cons_succ, List.set_cons_zero]
                rw [e0, e1, e2, e3, e4, e5, e6, e7, e8, e9, e10, e11]
                clear e0 e1 e2 e3 e4 e5 e6 e7 e8 e9 e10 e11 hC hn E42 hL vs L nb
                clear b1 b2 d1 d2 d3
                obtain ⟨R9, hR9⟩ : ∃ rb, rb = (F * 4294967296 + u0) % Y := ⟨_, rfl⟩
                have K2 := kd_two (U := U) (B := 4294967296) (u := u1) (v := u0) HPOS.out.2
                rw [← HF.out, ← DONE1.out, ← DONE.out, ← hR9] at K2
                have HA : Hid (za * 4294967296 + qb = QA ∧ R9 / 2 ^ t = RA) := ⟨K2.1.trans HL3.out.1, by rw [K2.2]; exact HL3.out.2⟩
                have hz1 : za < 4294967296 := by rw [DONE1.out]; exact kd_lt HU1.out (by have := HB.out; omega)
                have hz2 : qb < 4294967296 := by rw [DONE.out]; exact kd_lt HU2.out (by have := HB.out; omega)
                obtain ⟨G, hG⟩ : ∃ G, G = qb * Y := ⟨_, rfl⟩
                have hdm := Nat.div_add_mod (F * 4294967296 + u0) Y
                rw [← DONE.out, ← hR9, Nat.mul_comm, ← hG] at hdm
                have hRY : R9 < Y := by rw [hR9]; exact Nat.mod_lt _ HPOS.out.2
                obtain ⟨A1, hA1⟩ : ∃ A1 : Int, IntKind.u64.wrap ((za : Int) * 4294967296) = A1 := ⟨_, rfl⟩
                obtain ⟨B1, hB1⟩ : ∃ B1 : Int, IntKind.u64.wrap ((F : Int) * 4294967296) = B1 := ⟨_, rfl⟩
                obtain ⟨B2, hB2⟩ : ∃ B2 : Int, IntKind.u64.wrap (B1 + u0) = B2 := ⟨_, rfl⟩
                obtain ⟨C1, hC1⟩ : ∃ C1 : Int, IntKind.u64.wrap ((qb : Int) * Y) = C1 := ⟨_, rfl⟩
                have f1 : IntKind.u64.wrap (A1 + qb) = ((za * 4294967296 + qb : Nat) : Int) := by rw [← hA1]; simp only [u64_wrap]; omega
                have hg2 : (qb : Int) * Y = (G : Int) := by rw [hG]; exact (Int.natCast_mul _ _).symm
                have f2 : IntKind.u64.wrap (B2 - C1) = (R9 : Int) := by
                  rw [hg2] at hC1
                  have x3 := HB.out
                  rw [← hB2, ← hB1, ← hC1]
                  simp only [u64_wrap]
                  omega
                have f3 : (R9 : Int) / 2 ^ s.toNat = ((R9 / 2 ^ t : Nat) : Int) := by rw [HT.out.2.1, shrN]
                rw [HA.out.1] at f1
                rw [HA.out.2] at f3
                obtain ⟨RR, hRR⟩ : ∃ RR : Int, RR = (R9 : Int) := ⟨_, rfl⟩
                rw [← hRR] at f2 f3
                have HS0 := hidd (show 0 ≤ s ∧ s < 64 by have := HT.out; omega)
                have W1 := hidd hA1
                have W2 := hidd f1
                have W3 := hidd hB1
                have W4 := hidd hB2
                have W5 := hidd hC1
                have W6 := hidd f2
                have W7 := hidd f3
                have W8 := hidd (show ¬ s < 0 by have := HS0.out; omega)
                clear hA1 f1 hB1 hB2 hC1 f2 f3 hg2 hdm hRY hG hz1 hz2 hR9 K2 HA hRR DONE DONE1 HL3 HYY HB HU1 HU2 HF HPOS HT
                go_upto_region 28 with (fail)
                refine region_fr (C := [Fq.is (.int .u64 (za : Int)), Fq.is (.int .u64 A1), Fq.is (.int .u64 (qb : Int)), Fq.is (.int .u64 (QA : Int)), Fq.is (.int .u64 (F : Int)), Fq.is (.int .u64 B1), Fq.is (.int .u64 (u0 : Int)), Fq.is (.int .u64 B2), Fq.is (.int .u64 (qb : Int)), Fq.is (.int .u64 (Y : Int)), Fq.is (.int .u64 C1), Fq.is (.int .u64 RR), Fq.is (.int .u64 s), Fq.is (.int .u64 (RA : Int)), Fq.is (.int .u64 (QA : Int)), Fq.is (.int .u64 (RA : Int))]) (ks := []) (new := []) E rfl (by kernel_rfl) rfl rfl (fun hp => ⟨?_, ?_, ?_, ?_, ?_, ?_, ?_, ?_, ?_, ?_, ?_, ?_, ?_, ?_, ?_, ?_, trivial⟩) ?_
                · exact q_move hp (free_of rfl) trivial (sq_out (s := 15) rfl rfl (fun _ _ => rfl))
                · exact q_one (F := fun v _ => v = .int .u64 (za : Int)) hp (free_of rfl) trivial (sqi 0) (fun ρ w hc h => ⟨.int .u64 A1, by simp [execOp, go_sem, h, hc, W1.out], rfl⟩)
                · exact q_move hp (free_of rfl) trivial (sq_out (s := 18) rfl rfl (fun _ _ => rfl))
                · exact q_two (F := fun v _ => v = .int .u64 A1) (G := fun v _ => v = .int .u64 (qb : Int)) hp (free_of rfl) trivial (sqi 1) (sqi 2) (fun ρ w hc h h' => ⟨.int .u64 (QA : Int), by simp [execOp, go_sem, h, h', W2.out], rfl⟩)
                · exact q_move hp (free_of rfl) trivial (sq_out (s := 17) rfl rfl (fun _ _ => rfl))
                · exact q_one (F := fun v _ => v = .int .u64 (F : Int)) hp (free_of rfl) trivial (sqi 4) (fun ρ w hc h => ⟨.int .u64 B1, by simp [execOp, go_sem, h, hc, W3.out], rfl⟩)
                · exact q_move hp (free_of rfl) trivial (sq_out (s := 14) rfl rfl (fun _ _ => rfl))
                · exact q_two (F := fun v _ => v = .int .u64 B1) (G := fun v _ => v = .int .u64 (u0 : Int)) hp (free_of rfl) trivial (sqi 5) (sqi 6) (fun ρ w hc h h' => ⟨.int .u64 B2, by simp [execOp, go_sem, h, h', W4.out], rfl⟩)
                · exact q_move hp (free_of rfl) trivial (sq_out (s := 18) rfl rfl (fun _ _ => rfl))
                · exact q_move hp (free_of rfl) trivial (sq_out (s := 2) rfl rfl (fun _ _ => rfl))
                · exact q_two (F := fun v _ => v = .int .u64 (qb : Int)) (G := fun v _ => v = .int .u64 (Y : Int)) hp (free_of rfl) trivial (sqi 8) (sqi 9) (fun ρ w hc h h' => ⟨.int .u64 C1, by simp [execOp, go_sem, h, h', W5.out], rfl⟩)
                · exact q_two (F := fun v _ => v = .int .u64 B2) (G := fun v _ => v = .int .u64 C1) hp (free_of rfl) trivial (sqi 7) (sqi 10) (fun ρ w hc h h' => ⟨.int .u64 RR, by simp [execOp, go_sem, h, h', W6.out], rfl⟩)
                · exact q_move hp (free_of rfl) trivial (sq_out (s := 8) rfl rfl (fun _ _ => rfl))
                · exact q_two (F := fun v _ => v = .int .u64 RR) (G := fun v _ => v = .int .u64 s) hp (free_of rfl) trivial (sqi 11) (sqi 12) (fun ρ w hc h h' => ⟨.int .u64 (RA : Int), by simp [execOp, go_sem, h, h', W7.out], rfl⟩)
                · exact q_assign hp (free_of rfl) trivial (sqi 3)
                · exact q_assign hp (free_of rfl) trivial (sqi 13)
                intro L vs w43 nb hL hC hn E43
                have e0 : vs 0 = .int .u64 (za : Int) := hC 0 (by simp)
                have e1 : vs 1 = .int .u64 A1 := hC 1 (by simp)
                have e2 : vs 2 = .int .u64 (qb : Int) := hC 2 (by simp)
                have e3 : vs 3 = .int .u64 (QA : Int) := hC 3 (by simp)
                have e4 : vs 4 = .int .u64 (F : Int) := hC 4 (by simp)
                have e5 : vs 5 = .int .u64 B1 := hC 5 (by simp)
                have e6 : vs 6 = .int .u64 (u0 : Int) := hC 6 (by simp)
                have e7 : vs 7 = .int .u64 B2 := hC 7 (by simp)
                have e8 : vs 8 = .int .u64 (qb : Int) := hC 8 (by simp)
                have e9 : vs 9 = .int .u64 (Y : Int) := hC 9 (by simp)
                have e10 : vs 10 = .int .u64 C1 := hC 10 (by simp)
                have e11 : vs 11 = .int .u64 RR := hC 11 (by simp)
                have e12 : vs 12 = .int .u64 s := hC 12 (by simp)
                have e13 : vs 13 = .int .u64 (RA : Int) := hC 13 (by simp)
                have e14 : vs 14 = .int .u64 (QA : Int) := hC 14 (by simp)
                have e15 : vs 15 = .int .u64 (RA : Int) := hC 15 (by simp)
                have E : Fr w [] w43 := E43
                rw [lay_all hL]
                simp only [putAll, dstOf, List.length_cons, List.length_nil, Nat.zero_add, Nat.reduceAdd, List.getElem?_toArray, List.getElem?_cons_zero, List.getElem?_cons_succ, Option.bind_some, Act.put, List.setIfInBounds_toArray, List.set_cons_succ, List.set_cons_zero]
                rw [e0, e1, e2, e3, e4, e5, e6, e7, e8, e9, e10, e11, e12, e13, e14, e15]
                clear e0 e1 e2 e3 e4 e5 e6 e7 e8 e9 e10 e11 e12 e13 e14 e15 hC hn E43 hL vs L nb
                clear W1 W2 W3 W4 W5 W6 W7 W8 HS0
                go_wp2
                exact bodyPost_ret (v := .tuple #[.int .u64 (QA : Int), .int .u64 (RA : Int)]) (by simp [results, Tryd.results77, go_sem]) rfl ⟨rfl, E.below⟩
        · have b1 := hidd (show ¬ (4294967296 : Int) ≤ (v9a : Int) by omega)
          have HV : Hid (v9a < 4294967296) := by show _ < _; omega
          clear hv
          go_upto_region 20 with (fail)
          refine region_fr (C := [Fq.is (.int .u64 (v9a : Int)), Fq.is (.bool false)]) (ks := []) (new := []) E rfl (by kernel_rfl) rfl rfl (fun hp => ⟨?_, ?_, trivial⟩) ?_
          · exact q_move hp (free_of rfl) trivial (sq_out (s := 16) rfl rfl (fun _ _ => rfl))
          · exact q_one (F := fun v _ => v = .int .u64 (v9a : Int)) hp (free_of rfl) trivial (sqi 0) (fun ρ w hc h => ⟨.bool false, by simp [execOp, go_sem, h, hc, b1.out], rfl⟩)
          intro L vs w44 nb hL hC hn E44
          have e0 : vs 0 = .int .u64 (v9a : Int) := hC 0 (by simp)
          have e1 : vs 1 = .bool false := hC 1 (by simp)
          have E : Fr w [] w44 := E44
          rw [lay_all hL]
          simp only [putAll, dstOf, List.length_cons, List.length_nil, Nat.zero_add, Nat.reduceAdd, List.getElem?_toArray, List.getElem?_cons_zero, List.getElem?_cons_succ, Option.bind_some, Act.put, List.setIfInBounds_toArray, List.set_cons_succ, List.set_cons_zero]
          rw [e0, e1]
          clear e0 e1 hC hn E44 hL vs L nb
          clear b1
          go_wp2
          go_roundw
          case rel => exact ⟨za, v9a, rfl, rfl, ZE.out.1, ZE.out.2.1, by have := ZE.out.2.2.1; omega, HV.out, E.below⟩
          case measure => have := ZE.out.2.2.2; simp [intOf]; omega
      · have b2 := hidd (show ¬ (S : Int) < P by omega)
        have DONE : Hid (qa = (U * 4294967296 + u1) / Y) := kd_false HYY.out X.out.1 HU1.out X.out.2.1 (by rw [← HPS.out.1, ← HPS.out.2]; omega)
        clear ht HPS X
        go_upto_region 17 with (fail)
        refine region_fr (C := [Fq.is (.int .u64 (qa : Int)), Fq.is (.bool false), Fq.is (.bool false), Fq.is (.int .u64 (qa : Int)), Fq.is (.int .u64 (y0 : Int)), Fq.is (.int .u64 (P : Int)), Fq.is (.int .u64 (ra : Int)), Fq.is (.int .u64 (N : Int)), Fq.is (.int .u64 (u1 : Int)), Fq.is (.int .u64 (S : Int)), Fq.is (.bool false), Fq.is (.bool false)]) (ks := []) (new := []) E rfl (by kernel_rfl) rfl rfl (fun hp => ⟨?_, ?_, ?_, ?_, ?_, ?_, ?_, ?_, ?_, ?_, ?_, ?_, trivial⟩) ?_
        · exact q_move hp (free_of rfl) trivial (sq_out (s := 15) rfl rfl (fun _ _ => rfl))
        · exact q_one (F := fun v _ => v = .int .u64 (qa : Int)) hp (free_of rfl) trivial (sqi 0) (fun ρ w hc h => ⟨.bool false, by simp [execOp, go_sem, h, hc, b1.out], rfl⟩)
        · exact q_move hp (free_of rfl) trivial (sqi 1)
        · exact q_move hp (free_of rfl) (gq_some rfl rfl (by simp) rfl (fun v w h => h)) (sq_out (s := 15) rfl rfl (fun _ _ => rfl))
        · exact q_move hp (free_of rfl) (gq_some rfl rfl (by simp) rfl (fun v w h => h)) (sq_out (s := 10) rfl rfl (fun _ _ => rfl))
        · exact q_two (F := fun v _ => v = .int .u64 (qa : Int)) (G := fun v _ => v = .int .u64 (y0 : Int)) hp (free_of rfl) (gq_some rfl rfl (by simp) rfl (fun v w h => h)) (sqi 3) (sqi 4) (fun ρ w hc h h' => ⟨.int .u64 (P : Int), by simp [execOp, go_sem, h, h', d1.out], rfl⟩)
        · exact q_move hp (free_of rfl) (gq_some rfl rfl (by simp) rfl (fun v w h => h)) (sq_out (s := 16) rfl rfl (fun _ _ => rfl))
        · exact q_one (F := fun v _ => v = .int .u64 (ra : Int)) hp (free_of rfl) (gq_some rfl rfl (by simp) rfl (fun v w h => h)) (sqi 6) (fun ρ w hc h => ⟨.int .u64 (N : Int), by simp [execOp, go_sem, h, hc, d2.out], rfl⟩)
        · exact q_move hp (free_of rfl) (gq_some rfl rfl (by simp) rfl (fun v w h => h)) (sq_out (s := 13) rfl rfl (fun _ _ => rfl))
        · exact q_two (F := fun v _ => v = .int .u64 (N : Int)) (G := fun v _ => v = .int .u64 (u1 : Int)) hp (free_of rfl) (gq_some rfl rfl (by simp) rfl (fun v w h => h)) (sqi 7) (sqi 8) (fun ρ w hc h h' => ⟨.int .u64 (S : Int), by simp [execOp, go_sem, h, h', d3.out], rfl⟩)
        · exact q_two (F := fun v _ => v = .int .u64 (P : Int)) (G := fun v _ => v = .int .u64 (S : Int)) hp (free_of rfl) (gq_some rfl rfl (by simp) rfl (fun v w h => h)) (sqi 5) (sqi 9) (fun ρ w hc h h' => ⟨.bool false, by simp [execOp, go_sem, h, h', b2.out], rfl⟩)
        · exact q_two (F := fun v _ => v = .bool false) (G := fun v _ => v = .bool false) hp (free_of rfl) trivial (sqi 2) (sqi 10) (fun ρ w hc h h' => ⟨_, by simp [execOp, go_sem, h, h'], rfl⟩)
        intro L vs w45 nb hL hC hn E45
        have e0 : vs 0 = .int .u64 (qa : Int) := hC 0 (by simp)
        have e1 : vs 1 = .bool false := hC 1 (by simp)
        have e2 : vs 2 = .bool false := hC 2 (by simp)
        have e3 : vs 3 = .int .u64 (qa : Int) := hC 3 (by simp)
        have e4 : vs 4 = .int .u64 (y0 : Int) := hC 4 (by simp)
        have e5 : vs 5 = .int .u64 (P : Int) := hC 5 (by simp)
        have e6 : vs 6 = .int .u64 (ra : Int) := hC 6 (by simp)
        have e7 : vs 7 = .int .u64 (N : Int) := hC 7 (by simp)
        have e8 : vs 8 = .int .u64 (u1 : Int) := hC 8 (by simp)
        have e9 : vs 9 = .int .u64 (S : Int) := hC 9 (by simp)
        have e10 : vs 10 = .bool false := hC 10 (by simp)
        have e11 : vs 11 = .bool false := hC 11 (by simp)
        have E : Fr w [] w45 := E45
        rw [lay_all hL]
        simp only [putAll, dstOf, List.length_cons, List.length_nil, Nat.zero_add, Nat.reduceAdd, List.getElem?_toArray, List.getElem?_cons_zero, List.getElem?_cons_succ, Option.bind_some, Act.put, List.setIfInBounds_toArray, List.set_cons_succ, List.set_cons_zero]
        rw [e0, e1, e2, e3, e4, e5, e6, e7, e8, e9, e10, e11]
        clear e0 e1 e2 e3 e4 e5 e6 e7 e8 e9 e10 e11 hC hn E45 hL vs L nb
        clear b1 b2 d1 d2 d3
        have DONE1 := DONE
        clear DONE
        obtain ⟨F, hF⟩ : ∃ F, F = (U * 4294967296 + u1) % Y := ⟨_, rfl⟩
        have HF := hidd hF
        have HU2 : Hid (F < Y) := by show _ < _; rw [hF]; exact Nat.mod_lt _ HPOS.out.2
        obtain ⟨X1, hX1⟩ : ∃ X1 : Int, IntKind.u64.wrap ((U : Int) * 4294967296) = X1 := ⟨_, rfl⟩
        obtain ⟨X2, hX2⟩ : ∃ X2 : Int, IntKind.u64.wrap (X1 + u1) = X2 := ⟨_, rfl⟩
        obtain ⟨X3, hX3⟩ : ∃ X3 : Int, IntKind.u64.wrap ((qa : Int) * Y) = X3 := ⟨_, rfl⟩
        obtain ⟨G, hG⟩ : ∃ G, G = qa * Y := ⟨_, rfl⟩
        have g1 : (qa : Int) * Y = (G : Int) := by rw [hG]; exact (Int.natCast_mul _ _).symm
        have g2 : IntKind.u64.wrap (X2 - X3) = (F : Int) := by
          have x1 := Nat.div_add_mod (U * 4294967296 + u1) Y
          rw [← DONE1.out, ← hF, Nat.mul_comm, ← hG] at x1
          have x2 := HU2.out
          have x3 := HB.out
          rw [g1] at hX3
          rw [← hX2, ← hX1, ← hX3]
          simp only [u64_wrap]
          omega
        have W1 := hidd hX1
        have W2 := hidd hX2
        have W3 := hidd hX3
        have W4 := hidd g2
        clear hF hG g1 hX1 hX2 hX3 g2
        go_upto_region 21 with (fail)
        refine region_fr (C := [Fq.is (.int .u64 (U : Int)), Fq.is (.int .u64 X1), Fq.is (.int .u64 (u1 : Int)), Fq.is (.int .u64 X2), Fq.is (.int .u64 (qa : Int)), Fq.is (.int .u64 (Y : Int)), Fq.is (.int .u64 X3), Fq.is (.int .u64 (F : Int)), Fq.is (.int .u64 (F : Int))]) (ks := []) (new := []) E rfl (by kernel_rfl) rfl rfl (fun hp => ⟨?_, ?_, ?_, ?_, ?_, ?_, ?_, ?_, ?_, trivial⟩) ?_
        · exact q_move hp (free_of rfl) trivial (sq_out (s := 11) rfl rfl (fun _ _ => rfl))
        · exact q_one (F := fun v _ => v = .int .u64 (U : Int)) hp (free_of rfl) trivial (sqi 0) (fun ρ w hc h => ⟨.int .u64 X1, by simp [execOp, go_sem, h, hc, W1.out], rfl⟩)
        · exact q_move hp (free_of rfl) trivial (sq_out (s := 13) rfl rfl (fun _ _ => rfl))
        · exact q_two (F := fun v _ => v = .int .u64 X1) (G := fun v _ => v = .int .u64 (u1 : Int)) hp (free_of rfl) trivial (sqi 1) (sqi 2) (fun ρ w hc h h' => ⟨.int .u64 X2, by simp [execOp, go_sem, h, h', W2.out], rfl⟩)
        · exact q_move hp (free_of rfl) trivial (sq_out (s := 15) rfl rfl (fun _ _ => rfl))
        · exact q_move hp (free_of rfl) trivial (sq_out (s := 2) rfl rfl (fun _ _ => rfl))
        · exact q_two (F := fun v _ => v = .int .u64 (qa : Int)) (G := fun v _ => v = .int .u64 (Y : Int)) hp (free_of rfl) trivial (sqi 4) (sqi 5) (fun ρ w hc h h' => ⟨.int .u64 X3, by simp [execOp, go_sem, h, h', W3.out], rfl⟩)
        · exact q_two (F := fun v _ => v = .int .u64 X2) (G := fun v _ => v = .int .u64 X3) hp (free_of rfl) trivial (sqi 3) (sqi 6) (fun ρ w hc h h' => ⟨.int .u64 (F : Int), by simp [execOp, go_sem, h, h', W4.out], rfl⟩)
        · exact q_assign hp (free_of rfl) trivial (sqi 7)
        intro L vs w46 nb hL hC hn E46
        have e0 : vs 0 = .int .u64 (U : Int) := hC 0 (by simp)
        have e1 : vs 1 = .int .u64 X1 := hC 1 (by simp)
        have e2 : vs 2 = .int .u64 (u1 : Int) := hC 2 (by simp)
        have e3 : vs 3 = .int .u64 X2 := hC 3 (by simp)
        have e4 : vs 4 = .int .u64 (qa : Int) := hC 4 (by simp)
        have e5 : vs 5 = .int .u64 (Y : Int) := hC 5 (by simp)
        have e6 : vs 6 = .int .u64 X3 := hC 6 (by simp)
        have e7 : vs 7 = .int .u64 (F : Int) := hC 7 (by simp)
        have e8 : vs 8 = .int .u64 (F : Int) := hC 8 (by simp)
        have E : Fr w [] w46 := E46
        rw [lay_all hL]
        simp only [putAll, dstOf, List.length_cons, List.length_nil, Nat.zero_add, Nat.reduceAdd, List.getElem?_toArray, List.getElem?_cons_zero, List.getElem?_cons_succ, Option.bind_some, Act.put, List.setIfInBounds_toArray, List.set_cons_succ, List.set_cons_zero]
        rw [e0, e1, e2, e3, e4, e5, e6, e7, e8]
        clear e0 e1 e2 e3 e4 e5 e6 e7 e8 hC hn E46 hL vs L nb
        clear W1 W2 W3 W4
        obtain ⟨Q2, hQ2⟩ : ∃ qa, qa = F / y1 := ⟨_, rfl⟩
        obtain ⟨R2, hR2⟩ : ∃ ra, ra = F % y1 := ⟨_, rfl⟩
        have HQ2 : Hid (Q2 * y1 + R2 = F) := by show _ = _; rw [hQ2, hR2, Nat.mul_comm]; exact Nat.div_add_mod _ _
        have HR2 : Hid (R2 < y1) := by show _ < _; rw [hR2]; exact Nat.mod_lt _ HPOS.out.1
        have GQ2 : Hid ((F * 4294967296 + u0) / Y ≤ Q2) := by show _ ≤ _; rw [hQ2]; exact kd_start HYY.out HPOS.out.1 (by have := HB.out; omega)
        have TQ2 : Hid (Q2 ≤ 4294967297) := by show _ ≤ _; rw [hQ2]; exact kd_top HYY.out HB.out.1 (by have := HB.out; omega) HU2.out
        have DQ2 : Hid ((F : Int) / y1 = (Q2 : Int)) := by show _ = _; rw [hQ2]; exact (Int.natCast_ediv _ _).symm
        clear hQ2 hR2
        have HZ := hidd (show ¬ (y1 : Int) = 0 by have := HPOS.out; omega)
        have HZN := hidd (show ¬ y1 = 0 by have := HPOS.out; omega)
        have HQW := hidd (show IntKind.u64.wrap (Q2 : Int) = (Q2 : Int) from u64N (by have := TQ2.out; omega))
        go_upto_region 22 with (fail)
        refine region_fr (C := [Fq.is (.int .u64 (F : Int)), Fq.is (.int .u64 (y1 : Int)), Fq.is (.int .u64 (Q2 : Int)), Fq.is (.int .u64 (Q2 : Int))]) (ks := []) (new := []) E rfl (by kernel_rfl) rfl rfl (fun hp => ⟨?_, ?_, ?_, ?_, trivial⟩) ?_
        · exact q_move hp (free_of rfl) trivial (sq_out (s := 17) rfl rfl (fun _ _ => rfl))
        · exact q_move hp (free_of rfl) trivial (sq_out (s := 9) rfl rfl (fun _ _ => rfl))
        · exact q_two (F := fun v _ => v = .int .u64 (F : Int)) (G := fun v _ => v = .int .u64 (y1 : Int)) hp (free_of rfl) trivial (sqi 0) (sqi 1) (fun ρ w hc h h' => ⟨.int .u64 (Q2 : Int), by simp [execOp, go_sem, h, h', HZN.out, DQ2.out, HQW.out], rfl⟩)
        · exact q_assign hp (free_of rfl) trivial (sqi 2)
        intro L vs w47 nb hL hC hn E47
        have e0 : vs 0 = .int .u64 (F : Int) := hC 0 (by simp)
        have e1 : vs 1 = .int .u64 (y1 : Int) := hC 1 (by simp)
        have e2 : vs 2 = .int .u64 (Q2 : Int) := hC 2 (by simp)
        have e3 : vs 3 = .int .u64 (Q2 : Int) := hC 3 (by simp)
        have E : Fr w [] w47 := E47
        rw [lay_all hL]
        simp only [putAll, dstOf, List.length_cons, List.length_nil, Nat.zero_add, Nat.reduceAdd, List.getElem?_toArray, List.getElem?_cons_zero, List.getElem?_cons_succ, Option.bind_some, Act.put, List.setIfInBounds_toArray, List.set_cons_succ, List.set_cons_zero]
        rw [e0, e1, e2, e3]
        clear e0 e1 e2 e3 hC hn E47 hL vs L nb
        clear HZ HZN HQW DQ2
        obtain ⟨P2, hP2⟩ : ∃ P, P = Q2 * y1 := ⟨_, rfl⟩
        have W1 := hidd (show IntKind.u64.wrap ((Q2 : Int) * y1) = (P2 : Int) by rw [show (Q2 : Int) * y1 = (P2 : Int) by rw [hP2]; exact (Int.natCast_mul _ _).symm]; exact u64N (by have := HQ2.out; have := HU2.out; have := HB.out; omega))
        have W2 := hidd (show IntKind.u64.wrap ((F : Int) - P2) = (R2 : Int) by rw [show (F : Int) - P2 = (R2 : Int) by have := HQ2.out; omega]; exact u64N (by have := HR2.out; have := HB.out; omega))
        clear hP2
        go_upto_region 23 with (fail)
        refine region_fr (C := [Fq.is (.int .u64 (F : Int)), Fq.is (.int .u64 (Q2 : Int)), Fq.is (.int .u64 (y1 : Int)), Fq.is (.int .u64 (P2 : Int)), Fq.is (.int .u64 (R2 : Int)), Fq.is (.int .u64 (R2 : Int))]) (ks := []) (new := []) E rfl (by kernel_rfl) rfl rfl (fun hp => ⟨?_, ?_, ?_, ?_, ?_, ?_, trivial⟩) ?_
        · exact q_move hp (free_of rfl) trivial (sq_out (s := 17) rfl rfl (fun _ _ => rfl))
        · exact q_move hp (free_of rfl) trivial (sq_out (s := 18) rfl rfl (fun _ _ => rfl))
        · exact q_move hp (free_of rfl) trivial (sq_out (s := 9) rfl rfl (fun _ _ => rfl))
        · exact q_two (F := fun v _ => v = .int .u64 (Q2 : Int)) (G := fun v _ => v = .int .u64 (y1 : Int)) hp (free_of rfl) trivial (sqi 1) (sqi 2) (fun ρ w hc h h' => ⟨.int .u64 (P2 : Int), by simp [execOp, go_sem, h, h', W1.out], rfl⟩)
        · exact q_two (F := fun v _ => v = .int .u64 (F : Int)) (G := fun v _ => v = .int .u64 (P2 : Int)) hp (free_of rfl) trivial (sqi 0) (sqi 3) (fun ρ w hc h h' => ⟨.int .u64 (R2 : Int), by simp [execOp, go_sem, h, h', W2.out], rfl⟩)
        · exact q_assign hp (free_of rfl) trivial (sqi 4)
        intro L vs w48 nb hL hC hn E48
        have e0 : vs 0 = .int .u64 (F : Int) := hC 0 (by simp)
        have e1 : vs 1 = .int .u64 (Q2 : Int) := hC 1 (by simp)
        have e2 : vs 2 = .int .u64 (y1 : Int) := hC 2 (by simp)
        have e3 : vs 3 = .int .u64 (P2 : Int) := hC 3 (by simp)
        have e4 : vs 4 = .int .u64 (R2 : Int) := hC 4 (by simp)
        have e5 : vs 5 = .int .u64 (R2 : Int) := hC 5 (by simp)
        have E : Fr w [] w48 := E48
        rw [lay_all hL]
        simp only [putAll, dstOf, List.length_cons, List.length_nil, Nat.zero_add, Nat.reduceAdd, List.getElem?_toArray, List.getElem?_cons_zero, List.getElem?_cons_succ, Option.bind_some, Act.put, List.setIfInBounds_toArray, List.set_cons_succ, List.set_cons_zero]
        rw [e0, e1, e2, e3, e4, e5]
        clear e0 e1 e2 e3 e4 e5 hC hn E48 hL vs L nb
        clear W1 W2
        go_wp2
        go_loopw [18, 16] (fun vq vr W => ∃ qb rb : Nat, vq = .int .u64 qb ∧ vr = .int .u64 rb ∧ qb * y1 + rb = F ∧ (F * 4294967296 + u0) / Y ≤ qb ∧ qb ≤ 4294967297 ∧ rb < 4294967296 ∧ Below w.heap.size w W) (fun vq _ _ => (intOf vq).toNat)
        case atStart =>
          exact ⟨Q2, R2, rfl, rfl, HQ2.out, GQ2.out, TQ2.out, by have := HR2.out; have := HB.out; omega, E.below⟩
        case round =>
          obtain ⟨qb, rb, rfl, rfl, hq, hl, hq2, hr, hbw⟩ := hrel
          have E := fr_nil hbw
          have X := hidd (And.intro hq (And.intro hl (And.intro hq2 hr)))
          clear hq hl hq2 hr hbw HQ2 HR2 GQ2 TQ2
          by_cases hb : 4294967296 ≤ qb
          · have TT : Hid (4294967296 ≤ qb ∨ 4294967296 * rb + u0 < qb * y0) := .inl hb
            have b1 := hidd (show (4294967296 : Int) ≤ (qb : Int) by omega)
            clear hb
            go_upto_region 24 with (fail)
            refine region_fr (C := [Fq.is (.int .u64 (qb : Int)), Fq.is (.bool true), Fq.is (.bool true), Fq.is (undef), Fq.is (undef), Fq.is (undef), Fq.is (undef), Fq.is (undef), Fq.is (undef), Fq.is (undef), Fq.is (undef), Fq.is (.bool true)]) (ks := []) (new := []) E rfl (by kernel_rfl) rfl rfl (fun hp => ⟨?_, ?_, ?_, ?_, ?_, ?_, ?_, ?_, ?_, ?_, ?_, ?_, trivial⟩) ?_
            · exact q_move hp (free_of rfl) trivial (sq_out (s := 18) rfl rfl (fun _ _ => rfl))
            · exact q_one (F := fun v _ => v = .int .u64 (qb : Int)) hp (free_of rfl) trivial (sqi 0) (fun ρ w hc h => ⟨.bool true, by simp [execOp, go_sem, h, hc, b1.out], rfl⟩)
            · exact q_move hp (free_of rfl) trivial (sqi 1)
            · exact q_skip hp (free_of rfl) rfl (gq_some rfl rfl (by simp) rfl (fun v w h => h)) (fun _ => rfl)
            · exact q_skip hp (free_of rfl) rfl (gq_some rfl rfl (by simp) rfl (fun v w h => h)) (fun _ => rfl)
            · exact q_skip hp (free_of rfl) rfl (gq_some rfl rfl (by simp) rfl (fun v w h => h)) (fun _ => rfl)
            · exact q_skip hp (free_of rfl) rfl (gq_some rfl rfl (by simp) rfl (fun v w h => h)) (fun _ => rfl)
            · exact q_skip hp (free_of rfl) rfl (gq_some rfl rfl (by simp) rfl (fun v w h => h)) (fun _ => rfl)
            · exact q_skip hp (free_of rfl) rfl (gq_some rfl rfl (by simp) rfl (fun v w h => h)) (fun _ => rfl)
            · exact q_skip hp (free_of rfl) rfl (gq_some rfl rfl (by simp) rfl (fun v w h => h)) (fun _ => rfl)
            · exact q_skip hp (free_of rfl) rfl (gq_some rfl rfl (by simp) rfl (fun v w h => h)) (fun _ => rfl)
            · exact q_two (F := fun v _ => v = .bool true) (G := fun v _ => v = .bool true) hp (free_of rfl) trivial (sqi 2) (sq_const (fun _ => rfl)) (fun ρ w hc h h' => ⟨_, by simp [execOp, go_sem, h, h'], rfl⟩)
            intro L vs w49 nb hL hC hn E49
            have e0 : vs 0 = .int .u64 (qb : Int) := hC 0 (by simp)
            have e1 : vs 1 = .bool true := hC 1 (by simp)
            have e2 : vs 2 = .bool true := hC 2 (by simp)
            have e3 : vs 3 = undef := hC 3 (by simp)
            have e4 : vs 4 = undef := hC 4 (by simp)
            have e5 : vs 5 = undef := hC 5 (by simp)
            have e6 : vs 6 = undef := hC 6 (by simp)
            have e7 : vs 7 = undef := hC 7 (by simp)
            have e8 : vs 8 = undef := hC 8 (by simp)
            have e9 : vs 9 = undef := hC 9 (by simp)
            have e10 : vs 10 = undef := hC 10 (by simp)
            have e11 : vs 11 = .bool true := hC 11 (by simp)
            have E : Fr w [] w49 := E49
            rw [lay_all hL]
            simp only [putAll, dstOf, List.length_cons, List.length_nil, Nat.zero_add, Nat.reduceAdd, List.getElem?_toArray, List.getElem?_cons_zero, List.getElem?_cons_succ, Option.bind_some, Act.put, List.setIfInBounds_toArray, List.set_cons_succ, List.set_cons_zero]
            rw [e0, e1, e2, e3, e4, e5, e6, e7, e8, e9, e10, e11]
            clear e0 e1 e2 e3 e4 e5 e6 e7 e8 e9 e10 e11 hC hn E49 hL vs L nb
            clear b1
            have KT := kd_true HYY.out X.out.1 HU2.out (by have := HB.out; omega) TT.out
            obtain ⟨zb, hz⟩ : ∃ zb, zb = qb - 1 := ⟨_, rfl⟩
            obtain ⟨v9b, hv⟩ : ∃ v9b, v9b = rb + y1 := ⟨_, rfl⟩
            have c1 := hidd (show IntKind.u64.wrap ((qb : Int) - 1) = (zb : Int) by rw [show (qb : Int) - 1 = (zb : Int) by omega]; exact u64N (by have := X.out; omega))
            have c2 := hidd (show IntKind.u64.wrap ((rb : Int) + y1) = (v9b : Int) by rw [show (rb : Int) + y1 = (v9b : Int) by omega]; exact u64N (by have := X.out; have := HB.out; omega))
            have ZE : Hid (zb * y1 + v9b = F ∧ (F * 4294967296 + u0) / Y ≤ zb ∧ zb ≤ 4294967296 ∧ zb < qb) := by
              have x1 := X.out
              have e : qb * y1 = zb * y1 + y1 := by rw [show qb = zb + 1 by omega, Nat.add_mul, Nat.one_mul]
              refine ⟨by omega, by rw [hz]; exact KT.1, by omega, by omega⟩
            clear hz hv KT TT X
            go_upto_region 25 with (fail)
            refine region_fr (C := [Fq.is (.int .u64 (qb : Int)), Fq.is (.int .u64 (zb : Int)), Fq.is (.int .u64 (zb : Int))]) (ks := []) (new := []) E rfl (by kernel_rfl) rfl rfl (fun hp => ⟨?_, ?_, ?_, trivial⟩) ?_
            · exact q_moveB 2 3 hp (free_of rfl) trivial rfl rfl rfl rfl (fun _ => rfl)
            · exact q_one (F := fun v _ => v = .int .u64 (qb : Int)) hp (free_of rfl) trivial (sqi 0) (fun ρ w hc h => ⟨.int .u64 (zb : Int), by simp [execOp, go_sem, h, hc, c1.out], rfl⟩)
            · exact q_assign hp (free_of rfl) trivial (sqi 1)
            intro L vs w50 nb hL hC hn E50
            have e0 : vs 0 = .int .u64 (qb : Int) := hC 0 (by simp)
            have e1 : vs 1 = .int .u64 (zb : Int) := hC 1 (by simp)
            have e2 : vs 2 = .int .u64 (zb : Int) := hC 2 (by simp)
            have E : Fr w [] w50 := E50
            rw [lay_all hL]
            simp only [putAll, dstOf, List.length_cons, List.length_nil, Nat.zero_add, Nat.reduceAdd, List.getElem?_toArray, List.getElem?_cons_zero, List.getElem?_cons_succ, Option.bind_some, Act.put, List.setIfInBounds_toArray, List.set_cons_succ, List.set_cons_zero]
            rw [e0, e1, e2]
            clear e0 e1 e2 hC hn E50 hL vs L nb
            go_upto_region 26 with (fail)
            refine region_fr (C := [Fq.is (.int .u64 (rb : Int)), Fq.is (.int .u64 (y1 : Int)), Fq.is (.int .u64 (v9b : Int)), Fq.is (.int .u64 (v9b : Int))]) (ks := []) (new := []) E rfl (by kernel_rfl) rfl rfl (fun hp => ⟨?_, ?_, ?_, ?_, trivial⟩) ?_
            · exact q_moveB 3 3 hp (free_of rfl) trivial rfl rfl rfl rfl (fun _ => rfl)
            · exact q_move hp (free_of rfl) trivial (sq_out (s := 9) rfl rfl (fun _ _ => rfl))
            · exact q_two (F := fun v _ => v = .int .u64 (rb : Int)) (G := fun v _ => v = .int .u64 (y1 : Int)) hp (free_of rfl) trivial (sqi 0) (sqi 1) (fun ρ w hc h h' => ⟨.int .u64 (v9b : Int), by simp [execOp, go_sem, h, h', c2.out], rfl⟩)
            · exact q_assign hp (free_of rfl) trivial (sqi 2)
            intro L vs w51 nb hL hC hn E51
            have e0 : vs 0 = .int .u64 (rb : Int) := hC 0 (by simp)
            have e1 : vs 1 = .int .u64 (y1 : Int) := hC 1 (by simp)
            have e2 : vs 2 = .int .u64 (v9b : Int) := hC 2 (by simp)
            have e3 : vs 3 = .int .u64 (v9b : Int) := hC 3 (by simp)
            have E : Fr w [] w51 := E51
            rw [lay_all hL]
            simp only [putAll, dstOf, List.length_cons, List.length_nil, Nat.zero_add, Nat.reduceAdd, List.getElem?_toArray, List.getElem?_cons_zero, List.getElem?_cons_succ, Option.bind_some, Act.put, List.setIfInBounds_toArray, List.set_cons_succ, List.set_cons_zero]
            rw [e0, e1, e2, e3]
            clear e0 e1 e2 e3 hC hn E51 hL vs L nb
            clear c1 c2
            by_cases hv : 4294967296 ≤ v9b
            · have b1 := hidd (show (4294967296 : Int) ≤ (v9b : Int) by omega)
              have DONE : Hid (zb = (F * 4294967296 + u0) / Y) := kd_big HYY.out ZE.out.1 HU2.out HB.out.1 ZE.out.2.1 hv ZE.out.2.2.1
              clear ZE hv
              go_upto_region 27 with (fail)
              refine region_fr (C := [Fq.is (.int .u64 (v9b : Int)), Fq.is (.bool true)]) (ks := []) (new := []) E rfl (by kernel_rfl) rfl rfl (fun hp => ⟨?_, ?_, trivial⟩) ?_
              · exact q_move hp (free_of rfl) trivial (sq_out (s := 16) rfl rfl (fun _ _ => rfl))
              · exact q_one (F := fun v _ => v = .int .u64 (v9b : Int)) hp (free_of rfl) trivial (sqi 0) (fun ρ w hc h => ⟨.bool true, by simp [execOp, go_sem, h, hc, b1.out], rfl⟩)
              intro L vs w52 nb hL hC hn E52
              have e0 : vs 0 = .int .u64 (v9b : Int) := hC 0 (by simp)
              have e1 : vs 1 = .bool true := hC 1 (by simp)
              have E : Fr w [] w52 := E52
              rw [lay_all hL]
              simp only [putAll, dstOf, List.length_cons, List.length_nil, Nat.zero_add, Nat.reduceAdd, List.getElem?_toArray, List.getElem?_cons_zero, List.getElem?_cons_succ, Option.bind_some, Act.put, List.setIfInBounds_toArray, List.set_cons_succ, List.set_cons_zero]
              rw [e0, e1]
              clear e0 e1 hC hn E52 hL vs L nb
              clear b1
              obtain ⟨R9, hR9⟩ : ∃ rb, rb = (F * 4294967296 + u0) % Y := ⟨_, rfl⟩
              have K2 := kd_two (U := U) (B := 4294967296) (u := u1) (v := u0) HPOS.out.2
              rw [← HF.out, ← DONE1.out, ← DONE.out, ← hR9] at K2
              have HA : Hid (qa * 4294967296 + zb = QA ∧ R9 / 2 ^ t = RA) := ⟨K2.1.trans HL3.out.1, by rw [K2.2]; exact HL3.out.2⟩
              have hz1 : qa < 4294967296 := by rw [DONE1.out]; exact kd_lt HU1.out (by have := HB.out; omega)
              have hz2 : zb < 4294967296 := by rw [DONE.out]; exact kd_lt HU2.out (by have := HB.out; omega)
              obtain ⟨G, hG⟩ : ∃ G, G = zb * Y := ⟨_, rfl⟩
              have hdm := Nat.div_add_mod (F * 4294967296 + u0) Y
              rw [← DONE.out, ← hR9, Nat.mul_comm, ← hG] at hdm
              have hRY : R9 < Y := by rw [hR9]; exact Nat.mod_lt _ HPOS.out.2
              obtain ⟨A1, hA1⟩ : ∃ A1 : Int, IntKind.u64.wrap ((qa : Int) * 4294967296) = A1 := ⟨_, rfl⟩
              obtain ⟨B1, hB1⟩ : ∃ B1 : Int, IntKind.u64.wrap ((F : Int) * 4294967296) = B1 := ⟨_, rfl⟩
              obtain ⟨B2, hB2⟩ : ∃ B2 : Int, IntKind.u64.wrap (B1 + u0) = B2 := ⟨_, rfl⟩
              obtain ⟨C1, hC1⟩ : ∃ C1 : Int, IntKind.u64.wrap ((zb : Int) * Y) = C1 := ⟨_, rfl⟩
              have f1 : IntKind.u64.wrap (A1 + zb) = ((qa * 4294967296 + zb : Nat) : Int) := by rw [← hA1]; simp only [u64_wrap]; omega
              have hg2 : (zb : Int) * Y = (G : Int) := by rw [hG]; exact (Int.natCast_mul _ _).symm
              have f2 : IntKind.u64.wrap (B2 - C1) = (R9 : Int) := by
                rw [hg2] at hC1
                have x3 := HB.out
                rw [← hB2, ← hB1, ← hC1]
                simp only [u64_wrap]
                omega
              have f3 : (R9 : Int) / 2 ^ s.toNat = ((R9 / 2 ^ t : Nat) : Int) := by rw [HT.out.2.1, shrN]
              rw [HA.out.1] at f1
              rw [HA.out.2] at f3
              obtain ⟨RR, hRR⟩ : ∃ RR : Int, RR = (R9 : Int) := ⟨_, rfl⟩
              rw [← hRR] at f2 f3
              have HS0 := hidd (show 0 ≤ s ∧ s < 64 by have := HT.out; omega)
              have W1 := hidd hA1
              have W2 := hidd f1
              have W3 := hidd hB1
              have W4 := hidd hB2
              have W5 := hidd hC1
              have W6 := hidd f2
              have W7 := hidd f3
              have W8 := hidd (show ¬ s < 0 by have := HS0.out; omega)
              clear hA1 f1 hB1 hB2 hC1 f2 f3 hg2 hdm hRY hG hz1 hz2 hR9 K2 HA hRR DONE DONE1 HL3 HYY HB HU1 HU2 HF HPOS HT
              go_upto_region 28 with (fail)
              refine region_fr (C := [Fq.is (.int .u64 (qa : Int)), Fq.is (.int .u64 A1), Fq.is (.int .u64 (zb : Int)), Fq.is (.int .u64 (QA : Int)), Fq.is (.int .u64 (F : Int)), Fq.is (.int .u64 B1), Fq.is (.int .u64 (u0 : Int)), Fq.is (.int .u64 B2), Fq.is (.int .u64 (zb : Int)), Fq.is (.int .u64 (Y : Int)), Fq.is (.int .u64 C1), Fq.is (.int .u64 RR), Fq.is (.int .u64 s), Fq.is (.int .u64 (RA : Int)), Fq.is (.int .u64 (QA : Int)), Fq.is (.int .u64 (RA : Int))]) (ks := []) (new := []) E rfl (by kernel_rfl) rfl rfl (fun hp => ⟨?_, ?_, ?_, ?_, ?_, ?_, ?_, ?_, ?_, ?_, ?_, ?_, ?_, ?_, ?_, ?_, trivial⟩) ?_
              · exact q_move hp (free_of rfl) trivial (sq_out (s := 15) rfl rfl (fun _ _ => rfl))
              · exact q_one (F := fun v _ => v = .int .u64 (qa : Int)) hp (free_of rfl) trivial (sqi 0) (fun ρ w hc h => ⟨.int .u64 A1, by simp [execOp, go_sem, h, hc, W1.out], rfl⟩)
              · exact q_move hp (free_of rfl) trivial (sq_out (s := 18) rfl rfl (fun _ _ => rfl))
              · exact q_two (F := fun v _ => v = .int .u64 A1) (G := fun v _ => v = .int .u64 (zb : Int)) hp (free_of rfl) trivial (sqi 1) (sqi 2) (fun ρ w hc h h' => ⟨.int .u64 (QA : Int), by simp [execOp, go_sem, h, h', W2.out], rfl⟩)
              · exact q_move hp (free_of rfl) trivial (sq_out (s := 17) rfl rfl (fun _ _ => rfl))
              · exact q_one (F := fun v _ => v = .int .u64 (F : Int)) hp (free_of rfl) trivial (sqi 4) (fun ρ w hc h => ⟨.int .u64 B1, by simp [execOp, go_sem, h, hc, W3.out], rfl⟩)
              · exact q_move hp (free_of rfl) trivial (sq_out (s := 14) rfl rfl (fun _ _ => rfl))
              · exact q_two (F := fun v _ => v = .int .u64 B1) (G := fun v _ => v = .int .u64 (u0 : Int)) hp (free_of rfl) trivial (sqi 5) (sqi 6) (fun ρ w hc h h' => ⟨.int .u64 B2, by simp [execOp, go_sem, h, h', W4.out], rfl⟩)
              · exact q_move hp (free_of rfl) trivial (sq_out (s := 18) rfl rfl (fun _ _ => rfl))
              · exact q_move hp (free_of rfl) trivial (sq_out (s := 2) rfl rfl (fun _ _ => rfl))
              · exact q_two (F := fun v _ => v = .int .u64 (zb : Int)) (G := fun v _ => v = .int .u64 (Y : Int)) hp (free_of rfl) trivial (sqi 8) (sqi 9) (fun ρ w hc h h' => ⟨.int .u64 C1, by simp [execOp, go_sem, h, h', W5.out], rfl⟩)
              · exact q_two (F := fun v _ => v = .int .u64 B2) (G := fun v _ => v = .int .u64 C1) hp (free_of rfl) trivial (sqi 7) (sqi 10) (fun ρ w hc h h' => ⟨.int .u64 RR, by simp [execOp, go_sem, h, h', W6.out], rfl⟩)
              · exact q_move hp (free_of rfl) trivial (sq_out (s := 8) rfl rfl (fun _ _ => rfl))
              · exact q_two (F := fun v _ => v = .int .u64 RR) (G := fun v _ => v = .int .u64 s) hp (free_of rfl) trivial (sqi 11) (sqi 12) (fun ρ w hc h h' => ⟨.int .u64 (RA : Int), by simp [execOp, go_sem, h, h', W7.out], rfl⟩)
              · exact q_assign hp (free_of rfl) trivial (sqi 3)
              · exact q_assign hp (free_of rfl) trivial (sqi 13)
              intro L vs w53 nb hL hC hn E53
              have e0 : vs 0 = .int .u64 (qa : Int) := hC 0 (by simp)
              have e1 : vs 1 = .int .u64 A1 := hC 1 (by simp)
              have e2 : vs 2 = .int .u64 (zb : Int) := hC 2 (by simp)
              have e3 : vs 3 = .int .u64 (QA : Int) := hC 3 (by simp)
              have e4 : vs 4 = .int .u64 (F : Int) := hC 4 (by simp)
              have e5 : vs 5 = .int .u64 B1 := hC 5 (by simp)
              have e6 : vs 6 = .int .u64 (u0 : Int) := hC 6 (by simp)
              have e7 : vs 7 = .int .u64 B2 := hC 7 (by simp)
              have e8 : vs 8 = .int .u64 (zb : Int) := hC 8 (by simp)
              have e9 : vs 9 = .int .u64 (Y : Int) := hC 9 (by simp)
              have e10 : vs 10 = .int .u64 C1 := hC 10 (by simp)
              have e11 : vs 11 = .int .u64 RR := hC 11 (by simp)
              have e12 : vs 12 = .int .u64 s := hC 12 (by simp)
              have e13 : vs 13 = .int .u64 (RA : Int) := hC 13 (by simp)
              have e14 : vs 14 = .int .u64 (QA : Int) := hC 14 (by simp)
              have e15 : vs 15 = .int .u64 (RA : Int) := hC 15 (by simp)
              have E : Fr w [] w53 := E53
              rw [lay_all hL]
              simp only [putAll, dstOf, List.length_cons, List.length_nil, Nat.zero_add, Nat.reduceAdd, List.getElem?_toArray, List.getElem?_cons_zero, List.getElem?_cons_succ, Option.bind_some, Act.put, List.setIfInBounds_toArray, List.set_cons_succ, List.set_cons_zero]
              rw [e0, e1, e2, e3, e4, e5, e6, e7, e8, e9, e10, e11, e12, e13, e14, e15]
              clear e0 e1 e2 e3 e4 e5 e6 e7 e8 e9 e10 e11 e12 e13 e14 e15 hC hn E53 hL vs L nb
              clear W1 W2 W3 W4 W5 W6 W7 W8 HS0
              go_wp2
              exact bodyPost_ret (v := .tuple #[.int .u64 (QA : Int), .int .u64 (RA : Int)]) (by simp [results, Tryd.results77, go_sem]) rfl ⟨rfl, E.below⟩
            · have b1 := hidd (show ¬ (4294967296 : Int) ≤ (v9b : Int) by omega)
              have HV : Hid (v9b < 4294967296) := by show _ < _; omega
              clear hv
              go_upto_region 27 with (fail)
              refine region_fr (C := [Fq.is (.int .u64 (v9b : Int)), Fq.is (.bool false)]) (ks := []) (new := []) E rfl (by kernel_rfl) rfl rfl (fun hp => ⟨?_, ?_, trivial⟩) ?_
              · exact q_move hp (free_of rfl) trivial (sq_out (s := 16) rfl rfl (fun _ _ => rfl))
              · exact q_one (F := fun v _ => v = .int .u64 (v9b : Int)) hp (free_of rfl) trivial (sqi 0) (fun ρ w hc h => ⟨.bool false, by simp [execOp, go_sem, h, hc, b1.out], rfl⟩)
              intro L vs w54 nb hL hC hn E54
              have e0 : vs 0 = .int .u64 (v9b : Int) := hC 0 (by simp)
              have e1 : vs 1 = .bool false := hC 1 (by simp)
              have E : Fr w [] w54 := E54
              rw [lay_all hL]
              simp only [putAll, dstOf, List.length_cons, List.length_nil, Nat.zero_add, Nat.reduceAdd, List.getElem?_toArray, List.getElem?_cons_zero, List.getElem?_cons_succ, Option.bind_some, Act.put, List.setIfInBounds_toArray, List.set_cons_succ, List.set_cons_zero]
              rw [e0, e1]
              clear e0 e1 hC hn E54 hL vs L nb
              clear b1
              go_wp2
              go_roundw
              case rel => exact ⟨zb, v9b, rfl, rfl, ZE.out.1, ZE.out.2.1, by have := ZE.out.2.2.1; omega, HV.out, E.below⟩
              case measure => have := ZE.out.2.2.2; simp [intOf]; omega
          · have b1 := hidd (show ¬ (4294967296 : Int) ≤ (qb : Int) by omega)
            obtain ⟨P, hP⟩ : ∃ P, P = qb * y0 := ⟨_, rfl⟩
            obtain ⟨S, hS⟩ : ∃ S, S = 4294967296 * rb + u0 := ⟨_, rfl⟩
            obtain ⟨N, hN⟩ : ∃ N, N = 4294967296 * rb := ⟨_, rfl⟩
            have hPb : P < 18446744073709551616 := by
              rw [hP]
              have h1 := Nat.mul_le_mul (show qb ≤ 4294967295 by omega) (show y0 ≤ 4294967295 by have := HB.out; omega)
              omega
            have d1 := hidd (show IntKind.u64.wrap ((qb : Int) * y0) = (P : Int) by rw [show (qb : Int) * y0 = (P : Int) by rw [hP]; exact (Int.natCast_mul _ _).symm]; exact u64N hPb)
            have d2 := hidd (show IntKind.u64.wrap (4294967296 * (rb : Int)) = (N : Int) by rw [show 4294967296 * (rb : Int) = (N : Int) by omega]; exact u64N (by have := X.out; omega))
            have d3 := hidd (show IntKind.u64.wrap ((N : Int) + u0) = (S : Int) by rw [show (N : Int) + u0 = (S : Int) by omega]; exact u64N (by have := X.out; have := HB.out; omega))
            have HPS := hidd (And.intro hP hS)
            clear hP hS hN hPb hb
            by_cases ht : S < P
            · have b2 := hidd (show (S : Int) < P by omega)
              have TT : Hid (4294967296 ≤ qb ∨ 4294967296 * rb + u0 < qb * y0) := .inr (by rw [← HPS.out.1, ← HPS.out.2]; exact ht)
              clear ht HPS
              go_upto_region 24 with (fail)
              refine region_fr (C := [Fq.is (.int .u64 (qb : Int)), Fq.is (.bool false), Fq.is (.bool false), Fq.is (.int .u64 (qb : Int)), Fq.is (.int .u64 (y0 : Int)), Fq.is (.int .u64 (P : Int)), Fq.is (.int .u64 (rb : Int)), Fq.is (.int .u64 (N : Int)), Fq.is (.int .u64 (u0 : Int)), Fq.is (.int .u64 (S : Int)), Fq.is (.bool true), Fq.is (.bool true)]) (ks := []) (new := []) E rfl (by kernel_rfl) rfl rfl (fun hp => ⟨?_, ?_, ?_, ?_, ?_, ?_, ?_, ?_, ?_, ?_, ?_, ?_, trivial⟩) ?_
              · exact q_move hp (free_of rfl) trivial (sq_out (s := 18) rfl rfl (fun _ _ => rfl))
              · exact q_one (F := fun v _ => v = .int .u64 (qb : Int)) hp (free_of rfl) trivial (sqi 0) (fun ρ w hc h => ⟨.bool false, by simp [execOp, go_sem, h, hc, b1.out], rfl⟩)
              · exact q_move hp (free_of rfl) trivial (sqi 1)
              · exact q_move hp (free_of rfl) (gq_some rfl rfl (by simp) rfl (fun v w h => h)) (sq_out (s := 18) rfl rfl (fun _ _ => rfl))
              · exact q_move hp (free_of rfl) (gq_some rfl rfl (by simp) rfl (fun v w h => h)) (sq_out (s := 10) rfl rfl (fun _ _ => rfl))
              · exact q_two (F := fun v _ => v = .int .u64 (qb : Int)) (G := fun v _ => v = .int .u64 (y0 : Int)) hp (free_of rfl) (gq_some rfl rfl (by simp) rfl (fun v w h => h)) (sqi 3) (sqi 4) (fun ρ w hc h h' => ⟨.int .u64 (P : Int), by simp [execOp, go_sem, h, h', d1.out], rfl⟩)
              · exact q_move hp (free_of rfl) (gq_some rfl rfl (by simp) rfl (fun v w h => h)) (sq_out (s := 16) rfl rfl (fun _ _ => rfl))
              · exact q_one (F := fun v _ => v = .int .u64 (rb : Int)) hp (free_of rfl) (gq_some rfl rfl (by simp) rfl (fun v w h => h)) (sqi 6) (fun ρ w hc h => ⟨.int .u64 (N : Int), by simp [execOp, go_sem, h, hc, d2.out], rfl⟩)
              · exact q_move hp (free_of rfl) (gq_some rfl rfl (by simp) rfl (fun v w h => h)) (sq_out (s := 14) rfl rfl (fun _ _ => rfl))
              · exact q_two (F := fun v _ => v = .int .u64 (N : Int)) (G := fun v _ => v = .int .u64 (u0 : Int)) hp (free_of rfl) (gq_some rfl rfl (by simp) rfl (fun v w h => h)) (sqi 7) (sqi 8) (fun ρ w hc h h' => ⟨.int .u64 (S : Int), by simp [execOp, go_sem, h, h', d3.out], rfl⟩)
              · exact q_two (F := fun v _ => v = .int .u64 (P : Int)) (G := fun v _ => v = .int .u64 (S : Int)) hp (free_of rfl) (gq_some rfl rfl (by simp) rfl (fun v w h => h)) (sqi 5) (sqi 9) (fun ρ w hc h h' => ⟨.bool true, by simp [execOp, go_sem, h, h', b2.out], rfl⟩)
              · exact q_two (F := fun v _ => v = .bool false) (G := fun v _ => v = .bool true) hp (free_of rfl) trivial (sqi 2) (sqi 10) (fun ρ w hc h h' => ⟨_, by simp [execOp, go_sem, h, h'], rfl⟩)
              intro L vs w55 nb hL hC hn E55
              have e0 : vs 0 = .int .u64 (qb : Int) := hC 0 (by simp)
              have e1 : vs 1 = .bool false := hC 1 (by simp)
              have e2 : vs 2 = .bool false := hC 2 (by simp)
              have e3 : vs 3 = .int .u64 (qb : Int) := hC 3 (by simp)
              have e4 : vs 4 = .int .u64 (y0 : Int) := hC 4 (by simp)
              have e5 : vs 5 = .int .u64 (P : Int) := hC 5 (by simp)
              have e6 : vs 6 = .int .u64 (rb : Int) := hC 6 (by simp)
              have e7 : vs 7 = .int .u64 (N : Int) := hC 7 (by simp)
              have e8 : vs 8 = .int .u64 (u0 : Int) := hC 8 (by simp)
              have e9 : vs 9 = .int .u64 (S : Int) := hC 9 (by simp)
              have e10 : vs 10 = .bool true := hC 10 (by simp)
              have e11 : vs 11 = .bool true := hC 11 (by simp)
              have E : Fr w [] w55 := E55
              rw [lay_all hL]
              simp only [putAll, dstOf, List.length_cons, List.length_nil, Nat.zero_add, Nat.reduceAdd, List.getElem?_toArray, List.getElem?_cons_zero, List.getElem?_cons_succ, Option.bind_some, Act.put, List.setIfInBounds_toArray, List.set_cons_succ, List.set_cons_zero]
              rw [e0, e1, e2, e3, e4, e5, e6, e7, e8, e9, e10, e11]
              clear e0 e1 e2 e3 e4 e5 e6 e7 e8 e9 e10 e11 hC hn E55 hL vs L nb
              clear b1 b2 d1 d2 d3
              have KT := kd_true HYY.out X.out.1 HU2.out (by have := HB.out; omega) TT.out
              obtain ⟨zb, hz⟩ : ∃ zb, zb = qb - 1 := ⟨_, rfl⟩
              obtain ⟨v9b, hv⟩ : ∃ v9b, v9b = rb + y1 := ⟨_, rfl⟩
              have c1 := hidd (show IntKind.u64.wrap ((qb : Int) - 1) = (zb : Int) by rw [show (qb : Int) - 1 = (zb : Int) by omega]; exact u64N (by have := X.out; omega))
              have c2 := hidd (show IntKind.u64.wrap ((rb : Int) + y1) = (v9b : Int) by rw [show (rb : Int) + y1 = (v9b : Int) by omega]; exact u64N (by have := X.out; have := HB.out; omega))
              have ZE : Hid (zb * y1 + v9b = F ∧ (F * 4294967296 + u0) / Y ≤ zb ∧ zb ≤ 4294967296 ∧ zb < qb) := by
                have x1 := X.out
                have e : qb * y1 = zb * y1 + y1 := by rw [show qb = zb + 1 by omega, Nat.add_mul, Nat.one_mul]
                refine ⟨by omega, by rw [hz]; exact KT.1, by omega, by omega⟩
              clear hz hv KT TT X
              go_upto_region 25 with (fail)
              refine region_fr (C := [Fq.is (.int .u64 (qb : Int)), Fq.is (.int .u64 (zb : Int)), Fq.is (.int .u64 (zb : Int))]) (ks := []) (new := []) E rfl (by kernel_rfl) rfl rfl (fun hp => ⟨?_, ?_, ?_, trivial⟩) ?_
              · exact q_moveB 2 3 hp (free_of rfl) trivial rfl rfl rfl rfl (fun _ => rfl)
              · exact q_one (F := fun v _ => v = .int .u64 (qb : Int)) hp (free_of rfl) trivial (sqi 0) (fun ρ w hc h => ⟨.int .u64 (zb : Int), by simp [execOp, go_sem, h, hc, c1.out], rfl⟩)
              · exact q_assign hp (free_of rfl) trivial (sqi 1)
              intro L vs w56 nb hL hC hn E56
              have e0 : vs 0 = .int .u64 (qb : Int) := hC 0 (by simp)
              have e1 : vs 1 = .int .u64 (zb : Int) := hC 1 (by simp)
              have e2 : vs 2 = .int .u64 (zb : Int) := hC 2 (by simp)
              have E : Fr w [] w56 := E56
              rw [lay_all hL]
              simp only [putAll, dstOf, List.length_cons, List.length_nil, Nat.zero_add, Nat.reduceAdd, List.getElem?_toArray, List.getElem?_cons_zero, List.getElem?_cons_succ, Option.bind_some, Act.put, List.setIfInBounds_toArray, List.set_cons_succ, List.set_cons_zero]
              rw [e0, e1, e2]
              clear e0 e1 e2 hC hn E56 hL vs L nb
              go_upto_region 26 with (fail)
              refine region_fr (C := [Fq.is (.int .u64 (rb : Int)), Fq.is (.int .u64 (y1 : Int)), Fq.is (.int .u64 (v9b : Int)), Fq.is (.int .u64 (v9b : Int))]) (ks := []) (new := []) E rfl (by kernel_rfl) rfl rfl (fun hp => ⟨?_, ?_, ?_, ?_, trivial⟩) ?_
              · exact q_moveB 3 3 hp (free_of rfl) trivial rfl rfl rfl rfl (fun _ => rfl)
              · exact q_move hp (free_of rfl) trivial (sq_out (s := 9) rfl rfl (fun _ _ => rfl))
              · exact q_two (F := fun v _ => v = .int .u64 (rb : Int)) (G := fun v _ => v = .int .u64 (y1 : Int)) hp (free_of rfl) trivial (sqi 0) (sqi 1) (fun ρ w hc h h' => ⟨.int .u64 (v9b : Int), by simp [execOp, go_sem, h, h', c2.out], rfl⟩)
              · exact q_assign hp (free_of rfl) trivial (sqi 2)
              intro L vs w57 nb hL hC hn E57
              have e0 : vs 0 = .int .u64 (rb : Int) := hC 0 (by simp)
              have e1 : vs 1 = .int .u64 (y1 : Int) := hC 1 (by simp)
              have e2 : vs 2 = .int .u64 (v9b : Int) := hC 2 (by simp)
              have e3 : vs 3 = .int .u64 (v9b : Int) := hC 3 (by simp)
              have E : Fr w [] w57 := E57
              rw [lay_all hL]
              simp only [putAll, dstOf, List.length_cons, List.length_nil, Nat.zero_add, Nat.reduceAdd, List.getElem?_toArray, List.getElem?_cons_zero, List.getElem?_cons_succ, Option.bind_some, Act.put, List.setIfInBounds_toArray, List.set_cons_succ, List.set_cons_zero]
              rw [e0, e1, e2, e3]
              clear e0 e1 e2 e3 hC hn E57 hL vs L nb
              clear c1 c2
              by_cases hv : 4294967296 ≤ v9b
              · have b1 := hidd (show (4294967296 : Int) ≤ (v9b : Int) by omega)
                have DONE : Hid (zb = (F * 4294967296 + u0) / Y) := kd_big HYY.out ZE.out.1 HU2.out HB.out.1 ZE.out.2.1 hv ZE.out.2.2.1
                clear ZE hv
                go_upto_region 27 with (fail)
                refine region_fr (C := [Fq.is (.int .u64 (v9b : Int)), Fq.is (.bool true)]) (ks := []) (new := []) E rfl (by kernel_rfl) rfl rfl (fun hp => ⟨?_, ?_, trivial⟩) ?_
                · exact q_move hp (free_of rfl) trivial (sq_out (s := 16) rfl rfl (fun _ _ => rfl))
                · exact q_one (F := fun v _ => v = .int .u64 (v9b : Int)) hp (free_of rfl) trivial (sqi 0) (fun ρ w hc h => ⟨.bool true, by simp [execOp, go_sem, h, hc, b1.out], rfl⟩)
                intro L vs w58 nb hL hC hn E58
                have e0 : vs 0 = .int .u64 (v9b : Int) := hC 0 (by simp)
                have e1 : vs 1 = .bool true := hC 1 (by simp)
                have E : Fr w [] w58 := E58
                rw [lay_all hL]
                simp only [putAll, dstOf, List.length_cons, List.length_nil, Nat.zero_add, Nat.reduceAdd, List.getElem?_toArray, List.getElem?_cons_zero, List.getElem?_cons_succ, Option.bind_some, Act.put, List.setIfInBounds_toArray, List.set_cons_succ, List.set_cons_zero]
                rw [e0, e1]
                clear e0 e1 hC hn E58 hL vs L nb
                clear b1
                obtain ⟨R9, hR9⟩ : ∃ rb, rb = (F * 4294967296 + u0) % Y := ⟨_, rfl⟩
                have K2 := kd_two (U := U) (B := 4294967296) (u := u1) (v := u0) HPOS.out.2
                rw [← HF.out, ← DONE1.out, ← DONE.out, ← hR9] at K2
                have HA : Hid (qa * 4294967296 + zb = QA ∧ R9 / 2 ^ t = RA) := ⟨K2.1.trans HL3.out.1, by rw [K2.2]; exact HL3.out.2⟩
                have hz1 : qa < 4294967296 := by rw [DONE1.out]; exact kd_lt HU1.out (by have := HB.out; omega)
                have hz2 : zb < 4294967296 := by rw [DONE.out]; exact kd_lt HU2.out (by have := HB.out; omega)
                obtain ⟨G, hG⟩ : ∃ G, G = zb * Y := ⟨_, rfl⟩
                have hdm := Nat.div_add_mod (F * 4294967296 + u0) Y
                rw [← DONE.out, ← hR9, Nat.mul_comm, ← hG] at hdm
                have hRY : R9 < Y := by rw [hR9]; exact Nat.mod_lt _ HPOS.out.2
                obtain ⟨A1, hA1⟩ : ∃ A1 : Int, IntKind.u64.wrap ((qa : Int) * 4294967296) = A1 := ⟨_, rfl⟩
                obtain ⟨B1, hB1⟩ : ∃ B1 : Int, IntKind.u64.wrap ((F : Int) * 4294967296) = B1 := ⟨_, rfl⟩
                obtain ⟨B2, hB2⟩ : ∃ B2 : Int, IntKind.u64.wrap (B1 + u0) = B2 := ⟨_, rfl⟩
                obtain ⟨C1, hC1⟩ : ∃ C1 : Int, IntKind.u64.wrap ((zb : Int) * Y) = C1 := ⟨_, rfl⟩
                have f1 : IntKind.u64.wrap (A1 + zb) = ((qa * 4294967296 + zb : Nat) : Int) := by rw [← hA1]; simp only [u64_wrap]; omega
                have hg2 : (zb : Int) * Y = (G : Int) := by rw [hG]; exact (Int.natCast_mul _ _).symm
                have f2 : IntKind.u64.wrap (B2 - C1) = (R9 : Int) := by
                  rw [hg2] at hC1
                  have x3 := HB.out
                  rw [← hB2, ← hB1, ← hC1]
                  simp only [u64_wrap]
                  omega
                have f3 : (R9 : Int) / 2 ^ s.toNat = ((R9 / 2 ^ t : Nat) : Int) := by rw [HT.out.2.1, shrN]
                rw [HA.out.1] at f1
                rw [HA.out.2] at f3
                obtain ⟨RR, hRR⟩ : ∃ RR : Int, RR = (R9 : Int) := ⟨_, rfl⟩
                rw [← hRR] at f2 f3
                have HS0 := hidd (show 0 ≤ s ∧ s < 64 by have := HT.out; omega)
                have W1 := hidd hA1
                have W2 := hidd f1
                have W3 := hidd hB1
                have W4 := hidd hB2
                have W5 := hidd hC1
                have W6 := hidd f2
                have W7 := hidd f3
                have W8 := hidd (show ¬ s < 0 by have := HS0.out; omega)
                clear hA1 f1 hB1 hB2 hC1 f2 f3 hg2 hdm hRY hG hz1 hz2 hR9 K2 HA hRR DONE DONE1 HL3 HYY HB HU1 HU2 HF HPOS HT
                go_upto_region 28 with (fail)
                refine region_fr (C := [Fq.is (.int .u64 (qa : Int)), Fq.is (.int .u64 A1), Fq.is (.int .u64 (zb : Int)), Fq.is (.int .u64 (QA : Int)), Fq.is (.int .u64 (F : Int)), Fq.is (.int .u64 B1), Fq.is (.int .u64 (u0 : Int)), Fq.is (.int .u64 B2), Fq.is (.int .u64 (zb : Int)), Fq.is (.int .u64 (Y : Int)), Fq.is (.int .u64 C1), Fq.is (.int .u64 RR), Fq.is (.int .u64 s), Fq.is (.int .u64 (RA : Int)), Fq.is (.int .u64 (QA : Int)), Fq.is (.int .u64 (RA : Int))]) (ks := []) (new := []) E rfl (by kernel_rfl) rfl rfl (fun hp => ⟨?_, ?_, ?_, ?_, ?_, ?_, ?_, ?_, ?_, ?_, ?_, ?_, ?_, ?_, ?_, ?_, trivial⟩) ?_
                · exact q_move hp (free_of rfl) trivial (sq_out (s := 15) rfl rfl (fun _ _ => rfl))
                · exact q_one (F := fun v _ => v = .int .u64 (qa : Int)) hp (free_of rfl) trivial (sqi 0) (fun ρ w hc h => ⟨.int .u64 A1, by simp [execOp, go_sem, h, hc, W1.out], rfl⟩)
                · exact q_move hp (free_of rfl) trivial (sq_out (s := 18) rfl rfl (fun _ _ => rfl))
                · exact q_two (F := fun v _ => v = .int .u64 A1) (G := fun v _ => v = .int .u64 (zb : Int)) hp (free_of rfl) trivial (sqi 1) (sqi 2) (fun ρ w hc h h' => ⟨.int .u64 (QA : Int), by simp [execOp, go_sem, h, h', W2.out], rfl⟩)
                · exact q_move hp (free_of rfl) trivial (sq_out (s := 17) rfl rfl (fun _ _ => rfl))
                · exact q_one (F := fun v _ => v = .int .u64 (F : Int)) hp (free_of rfl) trivial (sqi 4) (fun ρ w hc h => ⟨.int .u64 B1, by simp [execOp, go_sem, h, hc, W3.out], rfl⟩)
                · exact q_move hp (free_of rfl) trivial (sq_out (s := 14) rfl rfl (fun _ _ => rfl))
                · exact q_two (F := fun v _ => v = .int .u64 B1) (G := fun v _ => v = .int .u64 (u0 : Int)) hp (free_of rfl) trivial (sqi 5) (sqi 6) (fun ρ w hc h h' => ⟨.int .u64 B2, by simp [execOp, go_sem, h, h', W4.out], rfl⟩)
                · exact q_move hp (free_of rfl) trivial (sq_out (s := 18) rfl rfl (fun _ _ => rfl))
                · exact q_move hp (free_of rfl) trivial (sq_out (s := 2) rfl rfl (fun _ _ => rfl))
                · exact q_two (F := fun v _ => v = .int .u64 (zb : Int)) (G := fun v _ => v = .int .u64 (Y : Int)) hp (free_of rfl) trivial (sqi 8) (sqi 9) (fun ρ w hc h h' => ⟨.int .u64 C1, by simp [execOp, go_sem, h, h', W5.out], rfl⟩)
                · exact q_two (F := fun v _ => v = .int .u64 B2) (G := fun v _ => v = .int .u64 C1) hp (free_of rfl) trivial (sqi 7) (sqi 10) (fun ρ w hc h h' => ⟨.int .u64 RR, by simp [execOp, go_sem, h, h', W6.out], rfl⟩)
                · exact q_move hp (free_of rfl) trivial (sq_out (s := 8) rfl rfl (fun _ _ => rfl))
                · exact q_two (F := fun v _ => v = .int .u64 RR) (G := fun v _ => v = .int .u64 s) hp (free_of rfl) trivial (sqi 11) (sqi 12) (fun ρ w hc h h' => ⟨.int .u64 (RA : Int), by simp [execOp, go_sem, h, h', W7.out], rfl⟩)
                · exact q_assign hp (free_of rfl) trivial (sqi 3)
                · exact q_assign hp (free_of rfl) trivial (sqi 13)
                intro L vs w59 nb hL hC hn E59
                have e0 : vs 0 = .int .u64 (qa : Int) := hC 0 (by simp)
                have e1 : vs 1 = .int .u64 A1 := hC 1 (by simp)
                have e2 : vs 2 = .int .u64 (zb : Int) := hC 2 (by simp)
                have e3 : vs 3 = .int .u64 (QA : Int) := hC 3 (by simp)
                have e4 : vs 4 = .int .u64 (F : Int) := hC 4 (by simp)
                have e5 : vs 5 = .int .u64 B1 := hC 5 (by simp)
                have e6 : vs 6 = .int .u64 (u0 : Int) := hC 6 (by simp)
                have e7 : vs 7 = .int .u64 B2 := hC 7 (by simp)
                have e8 : vs 8 = .int .u64 (zb : Int) := hC 8 (by simp)
                have e9 : vs 9 = .int .u64 (Y : Int) := hC 9 (by simp)
                have e10 : vs 10 = .int .u64 C1 := hC 10 (by simp)
                have e11 : vs 11 = .int .u64 RR := hC 11 (by simp)
                have e12 : vs 12 = .int .u64 s := hC 12 (by simp)
                have e13 : vs 13 = .int .u64 (RA : Int) := hC 13 (by simp)
                have e14 : vs 14 = .int .u64 (QA : Int) := hC 14 (by simp)
                have e15 : vs 15 = .int .u64 (RA : Int) := hC 15 (by simp)
                have E : Fr w [] w59 := E59
                rw [lay_all hL]
                simp only [putAll, dstOf, List.length_cons, List.length_nil, Nat.zero_add, Nat.reduceAdd, List.getElem?_toArray, List.getElem?_cons_zero, List.getElem?_cons_succ, Option.bind_some, Act.put, List.setIfInBounds_toArray, List.set_cons_succ, List.set_cons_zero]
                rw [e0, e1, e2, e3, e4, e5, e6, e7, e8, e9, e10, e11, e12, e13, e14, e15]
                clear e0 e1 e2 e3 e4 e5 e6 e7 e8 e9 e10 e11 e12 e13 e14 e15 hC hn E59 hL vs L nb
                clear W1 W2 W3 W4 W5 W6 W7 W8 HS0
                go_wp2
                exact bodyPost_ret (v := .tuple #[.int .u64 (QA : Int), .int .u64 (RA : Int)]) (by simp [results, Tryd.results77, go_sem]) rfl ⟨rfl, E.below⟩
              · have b1 := hidd (show ¬ (4294967296 : Int) ≤ (v9b : Int) by omega)
                have HV : Hid (v9b < 4294967296) := by show _ < _; omega
                clear hv
                go_upto_region 27 with (fail)
                refine region_fr (C := [Fq.is (.int .u64 (v9b : Int)), Fq.is (.bool false)]) (ks := []) (new := []) E rfl (by kernel_rfl) rfl rfl (fun hp => ⟨?_, ?_, trivial⟩) ?_
                · exact q_move hp (free_of rfl) trivial (sq_out (s := 16) rfl rfl (fun _ _ => rfl))
                · exact q_one (F := fun v _ => v = .int .u64 (v9b : Int)) hp (free_of rfl) trivial (sqi 0) (fun ρ w hc h => ⟨.bool false, by simp [execOp, go_sem, h, hc, b1.out], rfl⟩)
                intro L vs w60 nb hL hC hn E60
                have e0 : vs 0 = .int .u64 (v9b : Int) := hC 0 (by simp)
                have e1 : vs 1 = .bool false := hC 1 (by simp)
                have E : Fr w [] w60 := E60
                rw [lay_all hL]
                simp only [putAll, dstOf, List.length_cons, List.length_nil, Nat.zero_add, Nat.reduceAdd, List.getElem?_toArray, List.getElem?_cons_zero, List.getElem?_cons_succ, Option.bind_some, Act.put, List.setIfInBounds_toArray, List.set_cons_succ, List.set_cons_zero]
                rw [e0, e1]
                clear e0 e1 hC hn E60 hL vs L nb
                clear b1
                go_wp2
                go_roundw
                case rel => exact ⟨zb, v9b, rfl, rfl, ZE.out.1, ZE.out.2.1, by have := ZE.out.2.2.1; omega, HV.out, E.below⟩
                case measure => have := ZE.out.2.2.2; simp [intOf]; omega
            · have b2 := hidd (show ¬ (S : Int) < P by omega)
              have DONE : Hid (qb = (F * 4294967296 + u0) / Y) := kd_false HYY.out X.out.1 HU2.out X.out.2.1 (by rw [← HPS.out.1, ← HPS.out.2]; omega)
              clear ht HPS X
              go_upto_region 24 with (fail)
              refine region_fr (C := [Fq.is (.int .u64 (qb : Int)), Fq.is (.bool false), Fq.is (.bool false), Fq.is (.int .u64 (qb : Int)), Fq.is (.int .u64 (y0 : Int)), Fq.is (.int .u64 (P : Int)), Fq.is (.int .u64 (rb : Int)), Fq.is (.int .u64 (N : Int)), Fq.is (.int .u64 (u0 : Int)), Fq.is (.int .u64 (S : Int)), Fq.is (.bool false), Fq.is (.bool false)]) (ks := []) (new := []) E rfl (by kernel_rfl) rfl rfl (fun hp => ⟨?_, ?_, ?_, ?_, ?_, ?_, ?_, ?_, ?_, ?_, ?_, ?_, trivial⟩) ?_
              · exact q_move hp (free_of rfl) trivial (sq_out (s := 18) rfl rfl (fun _ _ => rfl))
              · exact q_one (F := fun v _ => v = .int .u64 (qb : Int)) hp (free_of rfl) trivial (sqi 0) (fun ρ w hc h => ⟨.bool false, by simp [execOp, go_sem, h, hc, b1.out], rfl⟩)
              · exact q_move hp (free_of rfl) trivial (sqi 1)
              · exact q_move hp (free_of rfl) (gq_some rfl rfl (by simp) rfl (fun v w h => h)) (sq_out (s := 18) rfl rfl (fun _ _ => rfl))
              · exact q_move hp (free_of rfl) (gq_some rfl rfl (by simp) rfl (fun v w h => h)) (sq_out (s := 10) rfl rfl (fun _ _ => rfl))
              · exact q_two (F := fun v _ => v = .int .u64 (qb : Int)) (G := fun v _ => v = .int .u64 (y0 : Int)) hp (free_of rfl) (gq_some rfl rfl (by simp) rfl (fun v w h => h)) (sqi 3) (sqi 4) (fun ρ w hc h h' => ⟨.int .u64 (P : Int), by simp [execOp, go_sem, h, h', d1.out], rfl⟩)
              · exact q_move hp (free_of rfl) (gq_some rfl rfl (by simp) rfl (fun v w h => h)) (sq_out (s := 16) rfl rfl (fun _ _ => rfl))
              · exact q_one (F := fun v _ => v = .int .u64 (rb : Int)) hp (free_of rfl) (gq_some rfl rfl (by simp) rfl (fun v w h => h)) (sqi 6) (fun ρ w hc h => ⟨.int .u64 (N : Int), by simp [execOp, go_sem, h, hc, d2.out], rfl⟩)
              · exact q_move hp (free_of rfl) (gq_some rfl rfl (by simp) rfl (fun v w h => h)) (sq_out (s := 14) rfl rfl (fun _ _ => rfl))
              · exact q_two (F := fun v _ => v = .int .u64 (N : Int)) (G := fun v _ => v = .int .u64 (u0 : Int)) hp (free_of rfl) (gq_some rfl rfl (by simp) rfl (fun v w h => h)) (sqi 7) (sqi 8) (fun ρ w hc h h' => ⟨.int .u64 (S : Int), by simp [execOp, go_sem, h, h', d3.out], rfl⟩)
              · exact q_two (F := fun v _ => v = .int .u64 (P : Int)) (G := fun v _ => v = .int .u64 (S : Int)) hp (free_of rfl) (gq_some rfl rfl (by simp) rfl (fun v w h => h)) (sqi 5) (sqi 9) (fun ρ w hc h h' => ⟨.bool false, by simp [execOp, go_sem, h, h', b2.out], rfl⟩)
              · exact q_two (F := fun v _ => v = .bool false) (G := fun v _ => v = .bool false) hp (free_of rfl) trivial (sqi 2) (sqi 10) (fun ρ w hc h h' => ⟨_, by simp [execOp, go_sem, h, h'], rfl⟩)
              intro L vs w61 nb hL hC hn E61
              have e0 : vs 0 = .int .u64 (qb : Int) := hC 0 (by simp)
              have e1 : vs 1 = .bool false := hC 1 (by simp)
              have e2 : vs 2 = .bool false := hC 2 (by simp)
              have e3 : vs 3 = .int .u64 (qb : Int) := hC 3 (by simp)
              have e4 : vs 4 = .int .u64 (y0 : Int) := hC 4 (by simp)
              have e5 : vs 5 = .int .u64 (P : Int) := hC 5 (by simp)
              have e6 : vs 6 = .int .u64 (rb : Int) := hC 6 (by simp)
              have e7 : vs 7 = .int .u64 (N : Int) := hC 7 (by simp)
              have e8 : vs 8 = .int .u64 (u0 : Int) := hC 8 (by simp)
              have e9 : vs 9 = .int .u64 (S : Int) := hC 9 (by simp)
              have e10 : vs 10 = .bool false := hC 10 (by simp)
              have e11 : vs 11 = .bool false := hC 11 (by simp)
              have E : Fr w [] w61 := E61
              rw [lay_all hL]
              simp only [putAll, dstOf, List.length_cons, List.length_nil, Nat.zero_add, Nat.reduceAdd, List.getElem?_toArray, List.getElem?_cons_zero, List.getElem?_cons_succ, Option.bind_some, Act.put, List.setIfInBounds_toArray, List.set_cons_succ, List.set_cons_zero]
              rw [e0, e1, e2, e3, e4, e5, e6, e7, e8, e9, e10, e11]
              clear e0 e1 e2 e3 e4 e5 e6 e7 e8 e9 e10 e11 hC hn E61 hL vs L nb
              clear b1 b2 d1 d2 d3
              obtain ⟨R9, hR9⟩ : ∃ rb, rb = (F * 4294967296 + u0) % Y := ⟨_, rfl⟩
              have K2 := kd_two (U := U) (B := 4294967296) (u := u1) (v := u0) HPOS.out.2
              rw [← HF.out, ← DONE1.out, ← DONE.out, ← hR9] at K2
              have HA : Hid (qa * 4294967296 + qb = QA ∧ R9 / 2 ^ t = RA) := ⟨K2.1.trans HL3.out.1, by rw [K2.2]; exact HL3.out.2⟩
              have hz1 : qa < 4294967296 := by rw [DONE1.out]; exact kd_lt HU1.out (by have := HB.out; omega)
              have hz2 : qb < 4294967296 := by rw [DONE.out]; exact kd_lt HU2.out (by have := HB.out; omega)
              obtain ⟨G, hG⟩ : ∃ G, G = qb * Y := ⟨_, rfl⟩
              have hdm := Nat.div_add_mod (F * 4294967296 + u0) Y
              rw [← DONE.out, ← hR9, Nat.mul_comm, ← hG] at hdm
              have hRY : R9 < Y := by rw [hR9]; exact Nat.mod_lt _ HPOS.out.2
              obtain ⟨A1, hA1⟩ : ∃ A1 : Int, IntKind.u64.wrap ((qa : Int) * 4294967296) = A1 := ⟨_, rfl⟩
              obtain ⟨B1, hB1⟩ : ∃ B1 : Int, IntKind.u64.wrap ((F : Int) * 4294967296) = B1 := ⟨_, rfl⟩
              obtain ⟨B2, hB2⟩ : ∃ B2 : Int, IntKind.u64.wrap (B1 + u0) = B2 := ⟨_, rfl⟩
              obtain ⟨C1, hC1⟩ : ∃ C1 : Int, IntKind.u64.wrap ((qb : Int) * Y) = C1 := ⟨_, rfl⟩
              have f1 : IntKind.u64.wrap (A1 + qb) = ((qa * 4294967296 + qb : Nat) : Int) := by rw [← hA1]; simp only [u64_wrap]; omega
              have hg2 : (qb : Int) * Y = (G : Int) := by rw [hG]; exact (Int.natCast_mul _ _).symm
              have f2 : IntKind.u64.wrap (B2 - C1) = (R9 : Int) := by
                rw [hg2] at hC1
                have x3 := HB.out
                rw [← hB2, ← hB1, ← hC1]
                simp only [u64_wrap]
                omega
              have f3 : (R9 : Int) / 2 ^ s.toNat = ((R9 / 2 ^ t : Nat) : Int) := by rw [HT.out.2.1, shrN]
              rw [HA.out.1] at f1
              rw [HA.out.2] at f3
              obtain ⟨RR, hRR⟩ : ∃ RR : Int, RR = (R9 : Int) := ⟨_, rfl⟩
              rw [← hRR] at f2 f3
              have HS0 := hidd (show 0 ≤ s ∧ s < 64 by have := HT.out; omega)
              have W1 := hidd hA1
              have W2 := hidd f1
              have W3 := hidd hB1
              have W4 := hidd hB2
              have W5 := hidd hC1
              have W6 := hidd f2
              have W7 := hidd f3
              have W8 := hidd (show ¬ s < 0 by have := HS0.out; omega)
              clear hA1 f1 hB1 hB2 hC1 f2 f3 hg2 hdm hRY hG hz1 hz2 hR9 K2 HA hRR DONE DONE1 HL3 HYY HB HU1 HU2 HF HPOS HT
              go_upto_region 28 with (fail)
              refine region_fr (C := [Fq.is (.int .u64 (qa : Int)), Fq.is (.int .u64 A1), Fq.is (.int .u64 (qb : Int)), Fq.is (.int .u64 (QA : Int)), Fq.is (.int .u64 (F : Int)), Fq.is (.int .u64 B1), Fq.is (.int .u64 (u0 : Int)), Fq.is (.int .u64 B2), Fq.is (.int .u64 (qb : Int)), Fq.is (.int .u64 (Y : Int)), Fq.is (.int .u64 C1), Fq.is (.int .u64 RR), Fq.is (.int .u64 s), Fq.is (.int .u64 (RA : Int)), Fq.is (.int .u64 (QA : Int)), Fq.is (.int .u64 (RA : Int))]) (ks := []) (new := []) E rfl (by kernel_rfl) rfl rfl (fun hp => ⟨?_, ?_, ?_, ?_, ?_, ?_, ?_, ?_, ?_, ?_, ?_, ?_, ?_, ?_, ?_, ?_, trivial⟩) ?_
              · exact q_move hp (free_of rfl) trivial (sq_out (s := 15) rfl rfl (fun _ _ => rfl))
              · exact q_one (F := fun v _ => v = .int .u64 (qa : Int)) hp (free_of rfl) trivial (sqi 0) (fun ρ w hc h => ⟨.int .u64 A1, by simp [execOp, go_sem, h, hc, W1.out], rfl⟩)
              · exact q_move hp (free_of rfl) trivial (sq_out (s := 18) rfl rfl (fun _ _ => rfl))
              · exact q_two (F := fun v _ => v = .int .u64 A1) (G := fun v _ => v = .int .u64 (qb : Int)) hp (free_of rfl) trivial (sqi 1) (sqi 2) (fun ρ w hc h h' => ⟨.int .u64 (QA : Int), by simp [execOp, go_sem, h, h', W2.out], rfl⟩)
              · exact q_move hp (free_of rfl) trivial (sq_out (s := 17) rfl rfl (fun _ _ => rfl))
              · exact q_one (F := fun v _ => v = .int .u64 (F : Int)) hp (free_of rfl) trivial (sqi 4) (fun ρ w hc h => ⟨.int .u64 B1, by simp [execOp, go_sem, h, hc, W3.out], rfl⟩)
              · exact q_move hp (free_of rfl) trivial (sq_out (s := 14) rfl rfl (fun _ _ => rfl))
              · exact q_two (F := fun v _ => v = .int .u64 B1) (G := fun v _ => v = .int .u64 (u0 : Int)) hp (free_of rfl) trivial (sqi 5) (sqi 6) (fun ρ w hc h h' => ⟨.int .u64 B2, by simp [execOp, go_sem, h, h', W4.out], rfl⟩)
              · exact q_move hp (free_of rfl) trivial (sq_out (s := 18) rfl rfl (fun _ _ => rfl))
              · exact q_move hp (free_of rfl) trivial (sq_out (s := 2) rfl rfl (fun _ _ => rfl))
              · exact q_two (F := fun v _ => v = .int .u64 (qb : Int)) (G := fun v _ => v = .int .u64 (Y : Int)) hp (free_of rfl) trivial (sqi 8) (sqi 9) (fun ρ w hc h h' => ⟨.int .u64 C1, by simp [execOp, go_sem, h, h', W5.out], rfl⟩)
              · exact q_two (F := fun v _ => v = .int .u64 B2) (G := fun v _ => v = .int .u64 C1) hp (free_of rfl) trivial (sqi 7) (sqi 10) (fun ρ w hc h h' => ⟨.int .u64 RR, by simp [execOp, go_sem, h, h', W6.out], rfl⟩)
              · exact q_move hp (free_of rfl) trivial (sq_out (s := 8) rfl rfl (fun _ _ => rfl))
              · exact q_two (F := fun v _ => v = .int .u64 RR) (G := fun v _ => v = .int .u64 s) hp (free_of rfl) trivial (sqi 11) (sqi 12) (fun ρ w hc h h' => ⟨.int .u64 (RA : Int), by simp [execOp, go_sem, h, h', W7.out], rfl⟩)
              · exact q_assign hp (free_of rfl) trivial (sqi 3)
              · exact q_assign hp (free_of rfl) trivial (sqi 13)
              intro L vs w62 nb hL hC hn E62
              have e0 : vs 0 = .int .u64 (qa : Int) := hC 0 (by simp)
              have e1 : vs 1 = .int .u64 A1 := hC 1 (by simp)
              have e2 : vs 2 = .int .u64 (qb : Int) := hC 2 (by simp)
              have e3 : vs 3 = .int .u64 (QA : Int) := hC 3 (by simp)
              have e4 : vs 4 = .int .u64 (F : Int) := hC 4 (by simp)
              have e5 : vs 5 = .int .u64 B1 := hC 5 (by simp)
              have e6 : vs 6 = .int .u64 (u0 : Int) := hC 6 (by simp)
              have e7 : vs 7 = .int .u64 B2 := hC 7 (by simp)
              have e8 : vs 8 = .int .u64 (qb : Int) := hC 8 (by simp)
              have e9 : vs 9 = .int .u64 (Y : Int) := hC 9 (by simp)
              have e10 : vs 10 = .int .u64 C1 := hC 10 (by simp)
              have e11 : vs 11 = .int .u64 RR := hC 11 (by simp)
              have e12 : vs 12 = .int .u64 s := hC 12 (by simp)
              have e13 : vs 13 = .int .u64 (RA : Int) := hC 13 (by simp)
              have e14 : vs 14 = .int .u64 (QA : Int) := hC 14 (by simp)
              have e15 : vs 15 = .int .u64 (RA : Int) := hC 15 (by simp)
              have E : Fr w [] w62 := E62
              rw [lay_all hL]
              simp only [putAll, dstOf, List.length_cons, List.length_nil, Nat.zero_add, Nat.reduceAdd, List.getElem?_toArray, List.getElem?_cons_zero, List.getElem?_cons_succ, Option.bind_some, Act.put, List.setIfInBounds_toArray, List.set_cons_succ, List.set_cons_zero]
              rw [e0, e1, e2, e3, e4, e5, e6, e7, e8, e9, e10, e11, e12, e13, e14, e15]
              clear e0 e1 e2 e3 e4 e5 e6 e7 e8 e9 e10 e11 e12 e13 e14 e15 hC hn E62 hL vs L nb
              clear W1 W2 W3 W4 W5 W6 W7 W8 HS0
              go_wp2
              exact bodyPost_ret (v := .tuple #[.int .u64 (QA : Int), .int .u64 (RA : Int)]) (by simp [results, Tryd.results77, go_sem]) rfl ⟨rfl, E.below⟩
theorem div64_any (a b y : Nat) (w : World) (h0 : 0 < a) (h1 : a < y) (h2 : y < 18446744073709551616) (h4 : b < 18446744073709551616) :
    Calls Tryd.prog 77 #[.int .u64 a, .int .u64 b, .int .u64 y] w fun e w' => e = .returned (.tuple #[.int .u64 (((a * 18446744073709551616 + b) / y : Nat) : Int), .int .u64 (((a * 18446744073709551616 + b) % y : Nat) : Int)]) ∧ Below w.heap.size w w' := div64_core a b y _ _ _ rfl rfl rfl w h0 h1 h2 h4
end Go.Proofs.YtnhapjifddhdiaaDoor

namespace Go.Proofs.YtnhapjifddhdiaaDoor
open Go Go.RowKit

def Least (b p : Nat) : Prop := 2 ≤ p ∧ b % p = 0 ∧ ∀ q, 2 ≤ q → q < p → b % q ≠ 0
set_option maxHeartbeats 400000 in
theorem leastDivisor_any (w : World) (b : Nat) (h0 : 2 ≤ b) (h1 : b < 1000) :
    Calls Tryd.prog 63 #[.int .i64 b] w fun e w' => (∃ p : Nat, e = .returned (.int .i64 p) ∧ Least b p ∧ p ≤ b) ∧ w' = w := by
  have HB := hidd (show 2 ≤ b ∧ b < 1000 from ⟨h0, h1⟩)
  clear h0 h1
  go_enter Tryd.func63, Tryd.ntmps63
  go_wp2
  go_loop [3] (fun v => ∃ p : Nat, v = .int .i64 p ∧ 2 ≤ p ∧ p ≤ b ∧ ∀ q, 2 ≤ q → q < p → b % q ≠ 0) (fun v => b - (intOf v).toNat)
  case atStart => exact ⟨2, rfl, by omega, by have := HB.out; omega, fun q h2 h3 => by omega⟩
  case round =>
    obtain ⟨p, rfl, hp, hpb, hq⟩ := hrel
    have ht : Int.tmod (b : Int) p = ((b % p : Nat) : Int) := by rw [Int.tmod_eq_emod_of_nonneg (by omega)]; exact (Int.natCast_emod b p).symm
    have hp0 : ((p : Int) == 0) = false := by simp; omega
    have hpz : ¬ (p : Int) = 0 := by omega
    have HP := hidd hp
    have HQ := hidd hq
    have HPB := hidd hpb
    clear hq hp hpb
    obtain ⟨m, hm⟩ : ∃ m, m = b % p := ⟨_, rfl⟩
    rw [← hm] at ht
    have HM := hidd hm
    clear hm
    by_cases hd : m = 0
    · subst hd
      go_wp2
      go_ret
      exact ⟨⟨p, rfl, ⟨HP.out, HM.out.symm, HQ.out⟩, HPB.out⟩, rfl⟩
    · have hdz : ¬ (m : Int) = 0 := by omega
      have hmb : ((m : Int) == 0) = false := by simp; omega
      have hmw : wrap64 (m : Int) = m := by
        have h1 := HB.out
        have h2 := Nat.mod_le b p
        have h3 := HM.out
        simp only [wrap64]
        omega
      have hw : wrap64 ((p : Int) + 1) = (p : Int) + 1 := by have := HB.out; have := HPB.out; simp only [wrap64]; omega
      have HD := hidd hd
      clear hd
      have hlt : Hid (p < b) := by
        rcases Nat.lt_or_ge p b with h | h
        · exact h
        · have e : p = b := by have := HPB.out; omega
          exact absurd (by rw [HM.out, e, Nat.mod_self]) HD.out
      go_wp2
      go_round
      case rel =>
        refine ⟨p + 1, by first | go_num | (rw [hw]; go_num), by have := HP.out; omega, hlt.out, fun q h2 h3 => ?_⟩
        rcases Nat.lt_or_ge q p with h | h
        · exact HQ.out q h2 h
        · rw [show q = p by omega, ← HM.out]; exact HD.out
      case measure => have := hlt.out; first | (rw [hw]; simp [intOf]; omega) | (simp [intOf]; omega)
end Go.Proofs.YtnhapjifddhdiaaDoor

namespace Go.Proofs.YtnhapjifddhdiaaDoor
open Go Go.RowKit

def ad (x y : Int × Int) : Int × Int := (x.1 + y.1, x.2 + y.2)
def Eqp (p : Int) (x y : Int × Int) : Prop := x.1 % p = y.1 % p ∧ x.2 % p = y.2 % p
theorem Eqp.refl (p : Int) (x : Int × Int) : Eqp p x x := ⟨rfl, rfl⟩
theorem Eqp.symm {p : Int} {x y : Int × Int} (h : Eqp p x y) : Eqp p y x := ⟨h.1.symm, h.2.symm⟩
theorem Eqp.trans {p : Int} {x y z : Int × Int} (h : Eqp p x y) (h' : Eqp p y z) : Eqp p x z := ⟨h.1.trans h'.1, h.2.trans h'.2⟩
theorem add_modm {p a b c d : Int} (h : a % p = c % p) (h' : b % p = d % p) : (a + b) % p = (c + d) % p := by rw [Int.add_emod, h, h', ← Int.add_emod]
theorem Eqp.ad {p : Int} {x y x' y' : Int × Int} (h : Eqp p x x') (h' : Eqp p y y') : Eqp p (ad x y) (ad x' y') := ⟨add_modm h.1 h'.1, add_modm h.2 h'.2⟩
theorem pr_of {p : Nat} (h2 : 2 ≤ p) (h : ∀ d, 2 ≤ d → d * d ≤ p → p % d ≠ 0) : Pr p := by
  refine ⟨h2, fun d hd => ?_⟩
  obtain ⟨c, hc⟩ := hd
  refine Classical.byContradiction fun hne => ?_
  have d0 : d ≠ 0 := fun e => by rw [e, Nat.zero_mul] at hc; omega
  have c0 : c ≠ 0 := fun e => by rw [e, Nat.mul_zero] at hc; omega
  have c1 : c ≠ 1 := fun e => by rw [e, Nat.mul_one] at hc; omega
  rcases Nat.le_total d c with hl | hl
  · refine h d (by omega) ?_ (by rw [hc]; exact Nat.mul_mod_right _ _)
    rw [hc]; exact Nat.mul_le_mul_left _ hl
  · refine h c (by omega) ?_ (by rw [hc]; exact Nat.mul_mod_left _ _)
    rw [hc]; exact Nat.mul_le_mul_right _ hl
theorem small_prime : ∀ (n : Nat), 2 ≤ n → ∃ d, Pr d ∧ d ∣ n := by
  intro n
  induction n using Nat.strongRecOn with
  | _ n ih =>
    intro h
    by_cases hp : Pr n
    · exact ⟨n, hp, Nat.dvd_refl _⟩
    · have : ∃ d, d ∣ n ∧ d ≠ 1 ∧ d ≠ n := Classical.byContradiction fun hne => hp ⟨h, fun d hd => Classical.byContradiction fun h2 => hne ⟨d, hd, fun e => h2 (.inl e), fun e => h2 (.inr e)⟩⟩
      obtain ⟨d, h1, h2, h3⟩ := this
      have h4 := Nat.le_of_dvd (by omega) h1
      have h5 : d ≠ 0 := fun e => by rw [e, Nat.zero_dvd] at h1; omega
      obtain ⟨c, hc, hd⟩ := ih d (by omega) (by omega)
      exact ⟨c, hc, Nat.dvd_trans hd h1⟩
theorem least_prime {n : Nat} (h : 2 ≤ n) (hp : ¬ Pr n) : ∃ d, Pr d ∧ d ∣ n ∧ d * d ≤ n := by
  have : ∃ d, 2 ≤ d ∧ d * d ≤ n ∧ n % d = 0 := Classical.byContradiction fun hne => hp (pr_of h fun d h1 h2 h3 => hne ⟨d, h1, h2, h3⟩)
  obtain ⟨d, h1, h2, h3⟩ := this
  obtain ⟨c, hc, hd⟩ := small_prime d h1
  have h4 := Nat.le_of_dvd (by omega) hd
  exact ⟨c, hc, Nat.dvd_trans hd (Nat.dvd_of_mod_eq_zero h3), Nat.le_trans (Nat.mul_le_mul h4 h4) h2⟩
def pm (m : Nat) : Nat → Nat → Nat → Nat
  | 0, _, _ => 1 % m
  | f + 1, b, e => if e = 0 then 1 % m else if e % 2 = 1 then (b * pm m f (b * b % m) (e / 2)) % m else pm m f (b * b % m) (e / 2)
theorem pm_spec (m : Nat) : ∀ f b e, e < 2 ^ f → pm m f b e = b ^ e % m
  | 0, b, e, h => by
    have : e = 0 := by simp at h; omega
    subst this; rfl
  | f + 1, b, e, h => by
    unfold pm
    by_cases h0 : e = 0
    · rw [if_pos h0, h0]; rfl
    · rw [if_neg h0, pm_spec m f _ _ (by rw [Nat.pow_succ] at h; omega)]
      have e1 : b ^ e = b ^ (e % 2) * (b * b) ^ (e / 2) := by
        have : b * b = b ^ 2 := by rw [Nat.pow_two]
        rw [this, ← Nat.pow_mul, ← Nat.pow_add]; congr 1; omega
      have e2 : (b * b % m) ^ (e / 2) % m = (b * b) ^ (e / 2) % m := (Nat.pow_mod (b * b) (e / 2) m).symm
      by_cases h1 : e % 2 = 1
      · rw [if_pos h1, e2, e1, h1, Nat.pow_one, Nat.mul_mod, Nat.mod_mod, ← Nat.mul_mod]
      · rw [if_neg h1, e2, e1, show e % 2 = 0 by omega, Nat.pow_zero, Nat.one_mul]
end Go.Proofs.YtnhapjifddhdiaaDoor

namespace Go.Proofs.YtnhapjifddhdiaaDoor
open Go Go.RowKit

def StrongP (n b : Nat) : Prop := ∃ s d, n - 1 = 2 ^ s * d ∧ d % 2 = 1 ∧ (b % n = 0 ∨ b ^ d % n = 1 ∨ ∃ i, i < s ∧ b ^ (2 ^ i * d) % n = n - 1)
theorem twos_uniq : ∀ {s t d e : Nat}, d % 2 = 1 → e % 2 = 1 → 2 ^ s * d = 2 ^ t * e → s = t ∧ d = e
  | 0, 0, d, e, _, _, h => ⟨rfl, by simpa using h⟩
  | 0, t + 1, d, e, hd, _, h => by
    have : 2 ^ (t + 1) * e = 2 * (2 ^ t * e) := by rw [Nat.pow_succ]; ac_rfl
    rw [Nat.pow_zero, Nat.one_mul] at h
    omega
  | s + 1, 0, d, e, _, he, h => by
    have : 2 ^ (s + 1) * d = 2 * (2 ^ s * d) := by rw [Nat.pow_succ]; ac_rfl
    rw [Nat.pow_zero, Nat.one_mul] at h
    omega
  | s + 1, t + 1, d, e, hd, he, h => by
    have h1 : 2 ^ (s + 1) * d = 2 * (2 ^ s * d) := by rw [Nat.pow_succ]; ac_rfl
    have h2 : 2 ^ (t + 1) * e = 2 * (2 ^ t * e) := by rw [Nat.pow_succ]; ac_rfl
    obtain ⟨h3, h4⟩ := twos_uniq hd he (show 2 ^ s * d = 2 ^ t * e by omega)
    exact ⟨by omega, h4⟩
theorem strong_iff {n b s d : Nat} (h : n - 1 = 2 ^ s * d) (hd : d % 2 = 1) : StrongP n b ↔ (b % n = 0 ∨ b ^ d % n = 1 ∨ ∃ i, i < s ∧ b ^ (2 ^ i * d) % n = n - 1) := by
  constructor
  · rintro ⟨t, e, h1, h2, h3⟩
    obtain ⟨rfl, rfl⟩ := twos_uniq hd h2 (h.symm.trans h1)
    exact h3
  · exact fun h3 => ⟨s, d, h, hd, h3⟩
theorem strong_next {n b d i : Nat} {z : Nat} (hz : z = b ^ (2 ^ i * d) % n) : z * z % n = b ^ (2 ^ (i + 1) * d) % n := by
  rw [hz, ← Nat.mul_mod, ← Nat.pow_add, show 2 ^ (i + 1) * d = 2 ^ i * d + 2 ^ i * d by rw [Nat.pow_succ, Nat.mul_two, Nat.add_mul]]
theorem pow_wordN {n z b e : Nat} : (e % 2 = 1 → (z * b % n) * (b * b % n) ^ (e / 2) % n = z * b ^ e % n) ∧ (e % 2 = 0 → z * (b * b % n) ^ (e / 2) % n = z * b ^ e % n) := by
  have hp : (b * b % n) ^ (e / 2) % n = b ^ (2 * (e / 2)) % n := by rw [← Nat.pow_mod, ← Nat.pow_two, ← Nat.pow_mul]
  constructor
  · intro he
    rw [Nat.mul_mod, hp, Nat.mod_mod, ← Nat.mul_mod]
    conv => rhs; rw [show e = 2 * (e / 2) + 1 by omega, Nat.pow_succ]
    congr 1
    ac_rfl
  · intro he
    rw [Nat.mul_mod, hp, ← Nat.mul_mod]
    conv => rhs; rw [show e = 2 * (e / 2) by omega]

def halve : Nat → Nat → Nat × Nat
  | 0, m => (0, m)
  | f + 1, m => if m % 2 = 1 then (0, m) else ((halve f (m / 2)).1 + 1, (halve f (m / 2)).2)
theorem halve_spec : ∀ (f m : Nat), 0 < m → m < 2 ^ f → m = 2 ^ (halve f m).1 * (halve f m).2 ∧ (halve f m).2 % 2 = 1
  | 0, m, h0, h1 => by simp at h1; omega
  | f + 1, m, h0, h1 => by
    unfold halve
    by_cases hm : m % 2 = 1
    · rw [if_pos hm]; exact ⟨by simp, hm⟩
    · rw [if_neg hm]
      obtain ⟨h2, h3⟩ := halve_spec f (m / 2) (by omega) (by rw [Nat.pow_succ] at h1; omega)
      refine ⟨?_, h3⟩
      show m = 2 ^ ((halve f (m / 2)).1 + 1) * (halve f (m / 2)).2
      rw [Nat.pow_succ, show 2 ^ (halve f (m / 2)).1 * 2 * (halve f (m / 2)).2 = 2 * (2 ^ (halve f (m / 2)).1 * (halve f (m / 2)).2) by ac_rfl, ← h2]
      omega
def anySq (n : Nat) : Nat → Nat → Bool
  | 0, _ => false
  | s + 1, z => z == n - 1 || anySq n s (z * z % n)
theorem anySq_spec {n b d : Nat} : ∀ (s j : Nat), anySq n s (b ^ (2 ^ j * d) % n) = true ↔ ∃ i, i < s ∧ b ^ (2 ^ (j + i) * d) % n = n - 1
  | 0, j => by simp [anySq]
  | s + 1, j => by
    unfold anySq
    rw [Bool.or_eq_true, beq_iff_eq, strong_next rfl, anySq_spec s (j + 1)]
    constructor
    · rintro (h | ⟨i, hi, h⟩)
      · exact ⟨0, by omega, h⟩
      · exact ⟨i + 1, by omega, by rw [show j + (i + 1) = j + 1 + i by omega]; exact h⟩
    · rintro ⟨i, hi, h⟩
      rcases Nat.eq_zero_or_pos i with h0 | h0
      · left; subst h0; exact h
      · right; exact ⟨i - 1, by omega, by rw [show j + 1 + (i - 1) = j + i by omega]; exact h⟩
def strongB (n b : Nat) : Bool := b % n == 0 || pm n 64 b (halve 64 (n - 1)).2 == 1 || anySq n (halve 64 (n - 1)).1 (pm n 64 b (halve 64 (n - 1)).2)
theorem strongB_iff {n : Nat} (b : Nat) (h2 : 2 ≤ n) (h : n ≤ 2 ^ 64) : strongB n b = true ↔ StrongP n b := by
  obtain ⟨h3, h4⟩ := halve_spec 64 (n - 1) (by omega) (by omega)
  rw [strong_iff h3 h4]
  unfold strongB
  have hd : (halve 64 (n - 1)).2 < 2 ^ 64 := by
    have h5 := Nat.mul_le_mul_right (halve 64 (n - 1)).2 (Nat.one_le_two_pow (n := (halve 64 (n - 1)).1))
    rw [← h3] at h5
    omega
  rw [pm_spec n 64 b _ hd, Bool.or_eq_true, Bool.or_eq_true, beq_iff_eq, beq_iff_eq]
  have h6 := anySq_spec (n := n) (b := b) (d := (halve 64 (n - 1)).2) (halve 64 (n - 1)).1 0
  rw [Nat.pow_zero, Nat.one_mul] at h6
  rw [h6]
  simp only [Nat.zero_add]
  exact or_assoc
def bases : List Nat := [2, 3, 5, 7, 11, 13, 17, 19, 23, 29, 31, 37, 41]
def primeB (n : Nat) : Bool := decide (2 ≤ n) && (if bases.any (fun p => n % p == 0) then bases.contains n else bases.all (strongB n))
theorem small_strong : ∀ n, n < 1849 → 2 ≤ n → bases.any (fun p => n % p == 0) = false → bases.all (strongB n) = true := by decide +kernel
theorem ex_2047 : strongB 2047 2 = true ∧ strongB 2047 3 = false := by decide +kernel
theorem ex_61 : primeB (2 ^ 61 - 1) = true ∧ primeB (2 ^ 61 + 1) = false := by decide +kernel
end Go.Proofs.YtnhapjifddhdiaaDoor

namespace Go.Proofs.YtnhapjifddhdiaaDoor
open Go Go.RowKit

def TabB (w : World) : Prop := ∀ j, j < 13 → w.cell? ⟨0, j, none⟩ = some (.int .u64 ((bases.getD j 0 : Nat) : Int))
theorem tabAt_mono2 {g : Nat} {tab : List Nat} {w w' : World} (h : TabAt g tab w) (hb : Below w.heap.size w w') : TabAt g tab w' := fun j hj => by
  have h1 := h j hj
  have h2 := World.block_lt_of_cell? w ⟨g, j, none⟩ h1
  exact (hb.cell (p := ⟨g, j, none⟩) h2).trans h1
theorem TabB.mono {w w' : World} (h : TabB w) (hb : Below w.heap.size w w') : TabB w' := fun j hj => by
  have h1 := h j hj
  have h2 := World.block_lt_of_cell? w ⟨0, j, none⟩ h1
  exact (hb.cell (p := ⟨0, j, none⟩) h2).trans h1
def TabsP (w : World) : Prop := TabAt 1 Lib.deBruijn64tab w ∧ TabB w
theorem TabsP.mono {w w' : World} (h : TabsP w) (hb : Below w.heap.size w w') : TabsP w' := ⟨tabAt_mono2 h.1 hb, TabB.mono h.2 hb⟩
theorem tz64P (x : Nat) (hx : x < 18446744073709551616) (hx0 : x ≠ 0) (w : World) (hT : TabsP w) :
    Calls Tryd.prog 50 #[.int .u64 x] w fun e w' => e = .returned (.int .i64 (Lib.ctz 64 x)) ∧ w' = w := by
  obtain ⟨hlow, hk⟩ := Lib.lowest_bit 64 x hx0 hx
  obtain ⟨hi, htab⟩ := Lib.deBruijn64_at _ hk
  have hcell := hT.1 _ hi
  rw [htab] at hcell
  exact tz64_core x _ _ w (by simp; omega) (tz64_key x _ hx hx0 hlow) hi hk hcell
theorem and_u64_one (k : Nat) (h : k < 18446744073709551616) : bits .and .u64 (k : Int) 1 = ((k % 2 : Nat) : Int) := by
  have h2 : (BitVec.ofInt 64 ((k : Nat) : Int)).toNat = k := by rw [BitVec.ofInt_natCast, BitVec.toNat_ofNat]; exact Nat.mod_eq_of_lt (by omega)
  show IntKind.u64.wrap (((BitVec.ofInt 64 (k : Int)) &&& (BitVec.ofInt 64 1)).toNat : Int) = _
  rw [BitVec.toNat_and, h2]
  have h3 : (BitVec.ofInt 64 1).toNat = 1 := rfl
  rw [h3, Nat.and_one_is_mod]
  exact u64N (by omega)
theorem two_mod {a b y : Nat} : (a % y * 18446744073709551616 + b) % y = (a * 18446744073709551616 + b) % y := by rw [Nat.add_mod, Nat.mul_mod, Nat.mod_mod, ← Nat.mul_mod, ← Nat.add_mod]
theorem two_join (x : Nat) : x / 18446744073709551616 * 18446744073709551616 + x % 18446744073709551616 = x := by omega
set_option maxRecDepth 100000 in
set_option maxHeartbeats 2000000 in
theorem div64_zero (b y : Nat) (w : World) (h0 : 0 < y) (h2 : y < 18446744073709551616) (h4 : b < 18446744073709551616) :
    Calls Tryd.prog 77 #[.int .u64 0, .int .u64 b, .int .u64 y] w fun e w' => e = .returned (.tuple #[.int .u64 ((b / y : Nat) : Int), .int .u64 ((b % y : Nat) : Int)]) ∧ Below w.heap.size w w' := by
  have HB := hidd (show 0 < y ∧ y < 18446744073709551616 ∧ b < 18446744073709551616 from ⟨h0, h2, h4⟩)
  have t1 : ((y : Int) == 0) = false := by simp; omega
  have t2 : decide (y ≤ 0) = false := by simp; omega
  have t3 : ¬ y ≤ 0 := by omega
  have t4 : ¬ y = 0 := by omega
  have t5 : ¬ (y : Int) ≤ 0 := by omega
  have H0 := hidd t4
  have H1 := hidd (show ¬ (y : Int) = 0 by omega)
  obtain ⟨q, hq⟩ : ∃ q, q = b / y := ⟨_, rfl⟩
  obtain ⟨r, hr⟩ : ∃ r, r = b % y := ⟨_, rfl⟩
  rw [← hq, ← hr]
  have hqb : q ≤ b := by rw [hq]; exact Nat.div_le_self _ _
  have hrb : r ≤ b := by rw [hr]; exact Nat.mod_le _ _
  have H2 := hidd (show (b : Int) / y = (q : Int) by rw [hq]; exact (Int.natCast_ediv _ _).symm)
  have H3 := hidd (show (b : Int) % y = (r : Int) by rw [hr]; exact (Int.natCast_emod _ _).symm)
  have H4 := hidd (show IntKind.u64.wrap (q : Int) = q from u64N (by omega))
  have H5 := hidd (show IntKind.u64.wrap (r : Int) = r from u64N (by omega))
  have H6 := hidd (show Int.tmod (b : Int) y = (r : Int) by rw [Int.tmod_eq_emod_of_nonneg (by omega)]; exact H3.out)
  have H7 := hidd (show Int.tdiv (b : Int) y = (q : Int) by rw [Int.tdiv_eq_ediv_of_nonneg (by omega)]; exact H2.out)
  clear hq hr hqb hrb h0 h2 h4
  go_enter Tryd.func77, Tryd.ntmps77
  go_upto_region 6 with (fail)
  have E := Fr.start w
  refine region_fr (C := [Fq.is (.int .u64 (b : Int)), Fq.is (.int .u64 (y : Int)), Fq.is (.int .u64 (q : Int)), Fq.is (.int .u64 (b : Int)), Fq.is (.int .u64 (y : Int)), Fq.is (.int .u64 (r : Int)), Fq.is (.int .u64 (q : Int)), Fq.is (.int .u64 (r : Int))]) (ks := []) (new := []) E rfl (by kernel_rfl) rfl rfl (fun hp => ⟨?_, ?_, ?_, ?_, ?_, ?_, ?_, ?_, trivial⟩) ?_
  · exact q_move hp (free_of rfl) trivial (sq_out (s := 1) rfl rfl (fun _ _ => rfl))
  · exact q_move hp (free_of rfl) trivial (sq_out (s := 2) rfl rfl (fun _ _ => rfl))
  · exact q_two (F := fun v _ => v = .int .u64 (b : Int)) (G := fun v _ => v = .int .u64 (y : Int)) hp (free_of rfl) trivial (sqi 0) (sqi 1) (fun ρ w hc h h' => ⟨.int .u64 (q : Int), by simp [execOp, go_sem, h, h', H0.out, H7.out, H4.out], rfl⟩)
  · exact q_move hp (free_of rfl) trivial (sq_out (s := 1) rfl rfl (fun _ _ => rfl))
  · exact q_move hp (free_of rfl) trivial (sq_out (s := 2) rfl rfl (fun _ _ => rfl))
  · exact q_two (F := fun v _ => v = .int .u64 (b : Int)) (G := fun v _ => v = .int .u64 (y : Int)) hp (free_of rfl) trivial (sqi 3) (sqi 4) (fun ρ w hc h h' => ⟨.int .u64 (r : Int), by simp [execOp, go_sem, h, h', H0.out, H6.out], rfl⟩)
  · exact q_assign hp (free_of rfl) trivial (sqi 2)
  · exact q_assign hp (free_of rfl) trivial (sqi 5)
  intro L vs w1 nb hL hC hn E1
  have e0 : vs 0 = .int .u64 (b : Int) := hC 0 (by simp)
  have e1 : vs 1 = .int .u64 (y : Int) := hC 1 (by simp)
  have e2 : vs 2 = .int .u64 (q : Int) := hC 2 (by simp)
  have e3 : vs 3 = .int .u64 (b : Int) := hC 3 (by simp)
  have e4 : vs 4 = .int .u64 (y : Int) := hC 4 (by simp)
  have e5 : vs 5 = .int .u64 (r : Int) := hC 5 (by simp)
  have e6 : vs 6 = .int .u64 (q : Int) := hC 6 (by simp)
  have e7 : vs 7 = .int .u64 (r : Int) := hC 7 (by simp)
  have E : Fr w [] w1 := E1
  rw [lay_all hL]
  simp only [putAll, dstOf, List.length_cons, List.length_nil, Nat.zero_add, Nat.reduceAdd, List.getElem?_toArray, List.getElem?_cons_zero, List.getElem?_cons_succ, Option.bind_some, Act.put, List.setIfInBounds_toArray, List.set_cons_succ, List.set_cons_zero]
  rw [e0, e1, e2, e3, e4, e5, e6, e7]
  clear e0 e1 e2 e3 e4 e5 e6 e7 hC hn E1 hL vs L nb
  go_wp2
  exact bodyPost_ret (v := .tuple #[.int .u64 q, .int .u64 r]) (by simp [results, Tryd.results77, go_sem]) rfl ⟨rfl, E.below⟩
theorem div64_all (a b y : Nat) (w : World) (h1 : a < y) (h2 : y < 18446744073709551616) (h4 : b < 18446744073709551616) :
    Calls Tryd.prog 77 #[.int .u64 a, .int .u64 b, .int .u64 y] w fun e w' => e = .returned (.tuple #[.int .u64 (((a * 18446744073709551616 + b) / y : Nat) : Int), .int .u64 (((a * 18446744073709551616 + b) % y : Nat) : Int)]) ∧ Below w.heap.size w w' := by
  rcases Nat.eq_zero_or_pos a with h | h
  · subst h
    rw [Nat.zero_mul, Nat.zero_add]
    exact div64_zero b y w (by omega) h2 h4
  · exact div64_any a b y w h h1 h2 h4
set_option maxHeartbeats 1000000 in
theorem rem64_any (a b y : Nat) (w : World) (h0 : 0 < y) (h2 : y < 18446744073709551616) (h3 : a < 18446744073709551616) (h4 : b < 18446744073709551616) :
    Calls Tryd.prog 69 #[.int .u64 a, .int .u64 b, .int .u64 y] w fun e w' => e = .returned (.int .u64 (((a * 18446744073709551616 + b) % y : Nat) : Int)) ∧ Below w.heap.size w w' := by
  rw [← two_mod]
  obtain ⟨m, hm⟩ : ∃ m, m = a % y := ⟨_, rfl⟩
  have hm1 : m < y := by rw [hm]; exact Nat.mod_lt _ h0
  rw [← hm]
  have HD := div64_all m b y w hm1 h2 h4
  obtain ⟨q9, hq9⟩ : ∃ q9 : Int, q9 = (((m * 18446744073709551616 + b) / y : Nat) : Int) := ⟨_, rfl⟩
  obtain ⟨r9, hr9⟩ : ∃ r9 : Int, r9 = (((m * 18446744073709551616 + b) % y : Nat) : Int) := ⟨_, rfl⟩
  rw [← hq9, ← hr9] at HD
  rw [← hr9]
  have e1 : (a : Int) % y = (m : Int) := by rw [hm]; exact (Int.natCast_emod _ _).symm
  have e2 : Int.tmod (a : Int) y = (m : Int) := by rw [Int.tmod_eq_emod_of_nonneg (by omega)]; exact e1
  have e3 : IntKind.u64.wrap (m : Int) = (m : Int) := u64N (by omega)
  have e4 : ¬ (y : Int) = 0 := by omega
  have e5 : ((y : Int) == 0) = false := by simp; omega
  clear hm hm1 hq9 hr9 h0 h2 h3 h4
  go_enter Tryd.func69, Tryd.ntmps69
  go_wp2_with (first | (go_at_call 77; refine HD.mono ?_; rintro e w' ⟨rfl, hb⟩) | fail)
  go_ret
  exact ⟨rfl, hb⟩
set_option maxHeartbeats 1000000 in
theorem mulWord_any (a b n : Nat) (w : World) (h0 : 0 < n) (h2 : n < 18446744073709551616) (ha : a < 18446744073709551616) (hb : b < 18446744073709551616) :
    Calls Tryd.prog 52 #[.int .u64 a, .int .u64 b, .int .u64 n] w fun e w' => e = .returned (.int .u64 ((a * b % n : Nat) : Int)) ∧ Below w.heap.size w w' := by
  have hlt : a * b / 18446744073709551616 < 18446744073709551616 := by
    have := Nat.mul_le_mul (show a ≤ 18446744073709551615 by omega) (show b ≤ 18446744073709551615 by omega)
    omega
  have HR := rem64_any (a * b / 18446744073709551616) (a * b % 18446744073709551616) n w h0 h2 hlt (by omega)
  rw [two_join] at HR
  have HM := mul64_any a b ha hb w
  obtain ⟨x, hx⟩ : ∃ x : Int, x = ((a * b / 18446744073709551616 : Nat) : Int) := ⟨_, rfl⟩
  obtain ⟨y, hy⟩ : ∃ y : Int, y = ((a * b % 18446744073709551616 : Nat) : Int) := ⟨_, rfl⟩
  obtain ⟨z, hz⟩ : ∃ z : Int, z = ((a * b % n : Nat) : Int) := ⟨_, rfl⟩
  rw [← hx, ← hy] at HM
  rw [← hx, ← hy, ← hz] at HR
  rw [← hz]
  clear hx hy hz hlt
  go_enter Tryd.func52, Tryd.ntmps52
  go_wp2_with (first | (go_at_call 68; refine HM.mono ?_; rintro e w' ⟨rfl, hw⟩; rw [hw]; clear hw w') | (go_at_call 69; refine HR.mono ?_; rintro e w' ⟨rfl, hb⟩))
  go_ret
  exact ⟨rfl, hb⟩
theorem pow_step_true {z b d n P : Nat} (h : z * b ^ d % n = P) (hd : d % 2 = 1) : (z * b % n) * (b * b % n) ^ (d / 2) % n = P := by rw [pow_wordN.1 hd, h]
theorem pow_step_false {z b d n P : Nat} (h : z * b ^ d % n = P) (hd : ¬ d % 2 = 1) : z * (b * b % n) ^ (d / 2) % n = P := by rw [pow_wordN.2 (by omega), h]
set_option maxHeartbeats 2000000 in
theorem powWord_any (b d n : Nat) (w : World) (h0 : 1 < n) (h2 : n < 18446744073709551616) (hb : b < n) (hd : d < 18446744073709551616) :
    Calls Tryd.prog 51 #[.int .u64 b, .int .u64 d, .int .u64 n] w fun e w' => e = .returned (.int .u64 ((b ^ d % n : Nat) : Int)) ∧ Below w.heap.size w w' := by
  obtain ⟨P, hP⟩ : ∃ P, P = b ^ d % n := ⟨_, rfl⟩
  rw [← hP]
  have HN := hidd (And.intro h0 h2)
  have H0 : Hid (1 < n ∧ b < n ∧ 1 * b ^ d % n = P ∧ d < 18446744073709551616) := ⟨h0, hb, by rw [Nat.one_mul, hP], hd⟩
  clear hP h0 h2 hb hd
  go_enter Tryd.func51, Tryd.ntmps51
  go_wp2
  go_loopw [0, 1, 7] (fun vb vd vz W => ∃ b d z : Nat, vb = .int .u64 b ∧ vd = .int .u64 d ∧ vz = .int .u64 z ∧ z < n ∧ b < n ∧ z * b ^ d % n = P ∧ d < 18446744073709551616 ∧ Below w.heap.size w W) (fun _ vd _ _ => (intOf vd).toNat)
  case atStart => exact ⟨b, d, 1, rfl, rfl, rfl, H0.out.1, H0.out.2.1, H0.out.2.2.1, H0.out.2.2.2, Below.refl _ _⟩
  case round =>
    obtain ⟨V, rfl⟩ : ∃ V, V = wr := ⟨_, rfl⟩
    clear H0
    obtain ⟨b, d, z, rfl, rfl, rfl, hz, hb, hp, hd, hbw⟩ := hrel
    have HBW := hidd hbw
    by_cases h0 : d = 0
    · subst h0
      have e : z = P := by rw [← hp, Nat.pow_zero, Nat.mul_one, Nat.mod_eq_of_lt hz]
      subst e
      clear hp hbw hz hb hd
      go_wp2
      go_ret
      exact ⟨rfl, HBW.out⟩
    · have hd0 : (0 : Int) < d := by omega
      have hd1 : 0 < d := by omega
      have ea := and_u64_one d hd
      have es : (d : Int) / 2 = ((d / 2 : Nat) : Int) := (Int.natCast_ediv d 2).symm
      have HD := hidd hd
      have HZ := hidd hz
      have HB := hidd hb
      have HP := hidd hp
      have H0 := hidd hd1
      have hn0 : 0 < n := by omega
      have HM1 := fun W => mulWord_any b b n W hn0 HN.out.2 (by have := HB.out; have := HN.out; omega) (by have := HB.out; have := HN.out; omega)
      have HM2 := mulWord_any z b n V hn0 HN.out.2 (by have := HZ.out; have := HN.out; omega) (by have := HB.out; have := HN.out; omega)
      obtain ⟨y, hy⟩ : ∃ y, y = z * b % n := ⟨_, rfl⟩
      obtain ⟨c, hc⟩ : ∃ c, c = b * b % n := ⟨_, rfl⟩
      obtain ⟨f, hf⟩ : ∃ f, f = d / 2 := ⟨_, rfl⟩
      rw [← hy] at HM2
      simp only [← hc] at HM1
      rw [← hf] at es
      have HY : Hid (y < n ∧ c < n) := ⟨by rw [hy]; exact Nat.mod_lt _ hn0, by rw [hc]; exact Nat.mod_lt _ hn0⟩
      have HF : Hid (f < d) := by show _ < _; omega
      have hpt := fun h => pow_step_true HP.out h
      have hpf := fun h => pow_step_false HP.out h
      rw [← hy, ← hc, ← hf] at hpt
      rw [← hc, ← hf] at hpf
      have HPT := hidd hpt
      have HPF := hidd hpf
      obtain ⟨m, hm⟩ : ∃ m, m = d % 2 := ⟨_, rfl⟩
      rw [← hm] at ea HPT HPF
      clear hy hc hf hp hz hb hd hbw hn0 hd1 h0 hm HP hpt hpf
      by_cases h1 : m = 1
      · subst h1
        have HX : Hid (y * c ^ f % n = P) := HPT.out rfl
        clear HPT HPF
        go_wp2_with (first | (go_at_call 52; refine HM2.mono ?_; clear HM2; rintro e w1 ⟨rfl, hb1⟩) | (go_at_call 52; refine (HM1 _).mono ?_; clear HM1; rintro e w2 ⟨rfl, hb2⟩))
        go_roundw
        case rel => exact ⟨c, f, y, rfl, by first | rfl | (rw [es]), rfl, HY.out.1, HY.out.2, HX.out, by have := HF.out; have := HD.out; omega, HBW.out.trans ((hb1.mono HBW.out.size).trans (hb2.mono (Nat.le_trans HBW.out.size hb1.size)))⟩
        case measure => have := HF.out; first | (simp [intOf]; omega) | (rw [es]; simp [intOf]; omega)
      · have hmi : ¬ (m : Int) = 1 := by omega
        have hmb : ((m : Int) == 1) = false := by simp; omega
        have HX : Hid (z * c ^ f % n = P) := HPF.out h1
        clear HPT HPF h1
        go_wp2_with (go_at_call 52; refine (HM1 _).mono ?_; clear HM1; rintro e w2 ⟨rfl, hb2⟩)
        go_roundw
        case rel => exact ⟨c, f, z, rfl, by first | rfl | (rw [es]), rfl, HZ.out, HY.out.2, HX.out, by have := HF.out; have := HD.out; omega, HBW.out.trans (hb2.mono HBW.out.size)⟩
        case measure => have := HF.out; first | (simp [intOf]; omega) | (rw [es]; simp [intOf]; omega)
end Go.Proofs.YtnhapjifddhdiaaDoor
