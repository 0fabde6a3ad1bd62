/- Mu, Mw, Mx, Na, Nb, Nc, Od, Nd, Pk, Ng, Nf, Ni, Nj, Oe, Og. -/
import Derived.Test.YtieobgadihcgeaaGreatDoorCw5
import Derived.Laws.OwnMore
import Derived.Deep.AppendLies
namespace Go.Proofs.YtieobgadihcgeaaGreatDoor
open Go Go.RowKit

theorem lift_bound {r M m B p : Int} {xs : List Int} {t i : Nat} (hl : (xs.length : Int) ≤ m) (hM : M = m * p) (h : M ≤ 1048576) (ht : t < p.toNat) : (lift r M m xs t ++ sweep r M B (xs.take i)).length ≤ 1048576 := by
  have h1 := lift_len r M m xs t
  have h2 := sweep_len r M B (xs.take i)
  have h3 : (xs.take i).length ≤ xs.length := by simp; omega
  have h4 : (t + 1) * xs.length ≤ p.toNat * xs.length := Nat.mul_le_mul_right _ (by omega)
  rw [Nat.succ_mul] at h4
  have h5 := Int.mul_le_mul_of_nonneg_left hl (show 0 ≤ p by omega)
  have h6 : ((p.toNat * xs.length : Nat) : Int) = p * (xs.length : Int) := by rw [Int.natCast_mul]; congr 1; omega
  rw [Int.mul_comm] at hM
  rw [List.length_append]
  omega
structure Bd90 (z : Int) : Prop where
  out : ab z < pw 90
structure Bd3 (z : Int) : Prop where
  out : ab z < pw 3
theorem tmod_pos {x M : Int} (hx : 0 ≤ x) : x.tmod M = x % M := Int.tmod_eq_emod_of_nonneg hx
theorem sq_small {x : Int} (h0 : 0 ≤ x) (h1 : x < 1048576) : 0 ≤ x * x ∧ x * x < 1099511627776 := by
  have h2 := Int.mul_le_mul (show x ≤ 1048575 by omega) (show x ≤ 1048575 by omega) h0 (by omega)
  exact ⟨Int.mul_nonneg h0 h0, by omega⟩
theorem wrapI {x : Int} (h0 : 0 ≤ x) (h1 : x < 1099511627776) : IntKind.i64.wrap x = x := IntWalk.i64_in _ (by omega)
theorem small_ab {m M : Int} (h0 : 0 < m) (h1 : m < M) (h2 : M ≤ 1048576) : ab M < pw 3 := by
  have h3 : pw 1 ≤ pw 3 := pw_le (by omega)
  have h4 : pw 1 = 4294967296 := by decide
  unfold ab
  omega
theorem getD_mem {xs : List Int} {i : Nat} (h : i < xs.length) : xs.getD i 0 ∈ xs := by
  rw [List.getD_eq_getElem?_getD, List.getElem?_eq_getElem h]
  exact List.getElem_mem h
structure LiftRound (a p m M : Int) (j : Nat) : Prop where
  hm : m = p ^ j
  hM : M = m * p
  m0 : 0 < m
  mM : m < M
  M1 : M ≤ 1048576
theorem liftRound {a p k : Int} (hp : 2 ≤ p) (hpk : p ^ k.toNat ≤ 1048576) {j : Nat} (hj : j < k.toNat) : LiftRound a p (p ^ j) (p ^ j * p) j := by
  have h0 := pow_pos_two hp j
  have h1 : p ^ (j + 1) = p ^ j * p := Int.pow_succ _ _
  have h2 := pow_mono_two hp (show j + 1 ≤ k.toNat by omega)
  have h3 := Int.mul_le_mul_of_nonneg_left hp (show 0 ≤ p ^ j by omega)
  exact ⟨rfl, rfl, h0, by omega, by omega⟩
theorem LiftRound.tm {a p m M : Int} {j : Nat} (h : LiftRound a p m M j) (hp : 2 ≤ p) {t : Nat} : (t : Int) * m < M ↔ t < p.toNat := by
  rw [h.hM, Int.mul_comm]
  constructor
  · intro h1
    have := Int.lt_of_mul_lt_mul_left h1 (Int.le_of_lt h.m0)
    omega
  · intro h1
    exact Int.mul_lt_mul_of_pos_left (show (t : Int) < p by omega) h.m0
theorem LiftRound.tm2 {a p m M : Int} {j : Nat} (h : LiftRound a p m M j) (hp : 2 ≤ p) {t : Nat} (ht : t < p.toNat) : 0 ≤ (t : Int) * m ∧ (t : Int) * m + m ≤ M ∧ (((t + 1 : Nat) : Int) * m = t * m + m) := by
  have e : ((t + 1 : Nat) : Int) * m = t * m + m := by rw [show ((t + 1 : Nat) : Int) = (t : Int) + 1 by omega, Int.add_mul, Int.one_mul]
  refine ⟨Int.mul_nonneg (by omega) (Int.le_of_lt h.m0), ?_, e⟩
  rw [← e, h.hM, Int.mul_comm]
  exact Int.mul_le_mul_of_nonneg_left (show ((t + 1 : Nat) : Int) ≤ p by omega) (Int.le_of_lt h.m0)
set_option maxRecDepth 100000 in
set_option maxHeartbeats 4000000 in
theorem liftedRoots_any {w : World} {v : Value} {a p k : Int} (h : Num w v a) (ha : ab a < pw 90) (hp : 2 ≤ p) (hk : 1 ≤ k ∧ k < 9223372036854775808) (hpk : p ^ k.toNat ≤ 1048576) :
    Calls Tryz.prog 48 #[v, .int .i64 p, .int .i64 k] w fun e w' => ∃ v', e = .returned v' ∧ Below w.heap.size w w' ∧ Li w' w.heap.size v' (lifts a p k.toNat) := by
  replace ha := Bd90.mk ha
  have HP := hidd (show 2 ≤ p ∧ p < 1048577 from ⟨hp, by have := pow_mono_two hp (show 1 ≤ k.toNat by omega); rw [Int.pow_succ, Int.pow_zero, Int.one_mul] at this; omega⟩)
  have HK := hidd hk
  have HPK := hidd hpk
  have HLR := hidd (fun j (hj : j < k.toNat) => liftRound (a := a) hp hpk hj)
  have HLL := hidd (fun j => lifts_len (a := a) hp j)
  have HLG := hidd (fun j => lifts_range (a := a) hp j)
  clear hp hk hpk
  obtain ⟨i0, hi, hz0, hz1, hz2⟩ := info_parts info_i64
  obtain ⟨n0, ao0, k0, c0, rfl⟩ := h.parts
  obtain ⟨w1, b1, hw1, hb1, hs1, E⟩ := fr_start w (F := Fq.num a) (us := [.bool n0, .slice ao0 k0 c0]) 29 rfl (by simp) (tame_int _ _ _ _) h
  go_enter Tryz.func48, Tryz.ntmps48
  go_upto_region 1 with (fail)
  rw [← hw1]
  rw [← hb1]
  clear hw1 hb1 hs1
  have HB1 : Hid (Bq w1 b1 2 (Fq.num a)) := E.box 0 rfl
  have HEB := hidd E.below
  have hs1 := E.below.size
  obtain ⟨W2, hW2⟩ : ∃ W2, W2 = w1.alloc (.cells #[.int .i64 0] 2) := ⟨_, rfl⟩
  have HB2 : Hid (Bq W2 b1 2 (Fq.num a)) := by show Bq _ _ _ _; rw [hW2]; exact HB1.out.mono (alloc_below _ _)
  have HE2 : Hid (Below w.heap.size w W2) := by show Below _ _ _; rw [hW2]; exact HEB.out.alloc hs1 _
  have HL2 : Hid (Li W2 w.heap.size (.slice (some ⟨w1.heap.size, 0, none⟩) 1 1) [0]) := by show Li _ _ _ _; rw [hW2]; exact Li.one _ hs1 0
  clear E HB1 HEB
  go_wp2
  rw [← hW2]
  generalize w1.heap.size = g2 at HL2 ⊢
  clear hW2 hs1
  go_loopw [2, 7, 8] (fun vk vr vm W => ∃ j : Nat, vk = .int .i64 (k - j) ∧ vm = .int .i64 (p ^ j) ∧ j ≤ k.toNat ∧ Li W w.heap.size vr (lifts a p j) ∧ Below w.heap.size w W ∧ Bq W b1 2 (Fq.num a)) (fun vk _ _ _ => (intOf vk).toNat)
  case atStart => exact ⟨0, by simp, by simp, Nat.zero_le _, HL2.out, HE2.out, HB2.out⟩
  case round =>
    obtain ⟨V0, rfl⟩ : ∃ V0, V0 = wr := ⟨_, rfl⟩
    obtain ⟨j, rfl, rfl, hj, HR, HB, HO⟩ := hrel
    clear HB2 HE2 HL2
    have hk := HK.out
    by_cases hjk : j < k.toNat
    · have f1 : ((j : Int) < k) = True := eq_true (by omega)
      obtain ⟨ao, cap, rfl⟩ := HR.shape
      have HLL2 := hidd (HLL.out j)
      have HLG2 := hidd (HLG.out j)
      have LR := hidd (HLR.out j hjk)
      have hlf : Hid (lift (a % (p ^ j * p)) (p ^ j * p) (p ^ j) (lifts a p j) p.toNat = lifts a p (j + 1)) := rfl
      have hpj : p ^ (j + 1) = p ^ j * p := Int.pow_succ _ _
      have HPJ := hidd hpj
      clear hpj
      obtain ⟨m, hm⟩ : ∃ m, m = p ^ j := ⟨_, rfl⟩
      rw [← hm] at HLL2 HLG2 LR hlf HPJ ⊢
      obtain ⟨M, hM⟩ : ∃ M, M = m * p := ⟨_, rfl⟩
      rw [← hM] at LR hlf HPJ
      obtain ⟨xs, hxs⟩ : ∃ xs, xs = lifts a p j := ⟨_, rfl⟩
      rw [← hxs] at HR HLL2 HLG2 hlf ⊢
      have HMS := hidd (show 0 < m ∧ m < M ∧ M ≤ 1048576 from ⟨LR.out.m0, LR.out.mM, LR.out.M1⟩)
      have HMM : Hid (IntKind.i64.wrap (m * p) = M) := by show _ = _; rw [← hM]; have := HMS.out; exact wrapI (by omega) (by omega)
      have HM0 : Hid (M ≠ 0) := by have := HMS.out; show _ ≠ _; omega
      have BM := Bd3.mk (small_ab HMS.out.1 HMS.out.2.1 HMS.out.2.2)
      have HR0 : Hid (0 ≤ a % M ∧ a % M < M) := by have := HMS.out; exact ⟨Int.emod_nonneg _ (by omega), Int.emod_lt_of_pos _ (by omega)⟩
      have HLW : Hid (lowV (a % M) = .tuple #[.int .i64 (a % M), .bool true]) := by have := HMS.out; have h2 := HR0.out; exact lowV_in (by omega) (by omega)
      have HMR : Hid (0 < M ∧ M ≤ 1048576) := by have := HMS.out; show _ ∧ _; omega
      have HJ := hidd hjk
      have Hm := hidd hm
      have HM := hidd hM
      have HXS := hidd hxs
      have HROOT := hidd HR
      have HBB := hidd HB
      have HOO := hidd HO
      clear hm hM hxs hjk hk HB HR
      have ho := HO
      clear HO
      have E := Fr.start V0
      go_upto_region 4 with (fail)
      have B2 : Hid (ab ((a % M)) < pw 3) := ab_modB HM0.out BM.out
      refine region_fr (C := [Fq.is (.int .i64 m), Fq.is (.int .i64 p), Fq.is (.int .i64 M), Fq.num M, Fq.any, Fq.num a, Fq.num (a % M), Fq.tup2 (Fq.is (.int .i64 (a % M))) (Fq.is (.bool true)), Fq.tup2 (Fq.is (.int .i64 (a % M))) (Fq.is (.bool true)), Fq.is (.int .i64 (a % M)), Fq.is (.bool true), Fq.is (.int .i64 (a % M)), Fq.is (.bool true)]) (ks := []) (new := [⟨4, 4, 2, Fq.num M, Fq.num M, (some (.clo 57))⟩]) E rfl (by kernel_rfl) rfl rfl (fun hp => ⟨?_, ?_, ?_, ?_, ?_, ?_, ?_, ?_, ?_, ?_, ?_, ?_, ?_, trivial⟩) ?_
      · exact q_move hp (free_of rfl) trivial (sq_out rfl rfl (fun _ _ => rfl))
      · exact q_move hp (free_of rfl) trivial (sq_out rfl rfl (fun _ _ => rfl))
      · exact q_two (F := fun v _ => v = .int .i64 m) (G := fun v _ => v = .int .i64 p) hp (free_of rfl) trivial (sqi 0) (sqi 1) (fun ρ w hc h h' => ⟨.int .i64 M, by simp [execOp, go_sem, h, h', HMM.out], rfl⟩)
      · exact q_call1 (F := (Fq.is (.int .i64 M)).P) hp (free_of rfl) trivial (enq_Of) (sqi 2) (fun v w h => by subst h; exact OfK w M (by have := HMR.out; omega) (by have := HMR.out; omega))
      · exact q_callMake (F := (Fq.num M).P) hp enq_M_within (List.mem_iff_getElem?.2 ⟨0, rfl⟩) rfl rfl rfl (sqi 3) (fun v w h => exWithin h) (fun _ _ => trivial) (old_ne rfl) (newks_ne rfl)
      · exact q_loadIntOut hp (free_of rfl) trivial ho rfl (sq_out rfl rfl (fun _ _ => rfl)) (fun v w h => h)
      · exact q_callCloIn (F := (Fq.num a).P) hp (free_of rfl) trivial enq_M_within1 (List.mem_iff_getElem?.2 ⟨0, rfl⟩) rfl (own_ptr rfl rfl (by simp) rfl) (sqi 5) (fun v b w h hb => exResidue h hb HM0.out (Int.lt_of_lt_of_le ha.out (pw_le (by omega))) (Int.lt_of_lt_of_le BM.out (pw_le (by omega))))
      · exact q_call1 (F := (Fq.num (a % M)).P) hp (free_of rfl) trivial (enq_Low) (sqi 6) (fun v w h => exLowQ h HLW.out)
      · exact q_move hp (free_of rfl) trivial (sqi 7)
      · exact q_extract2 hp (free_of rfl) trivial (sqi 8) (fun v1 v2 w h1 h2 => ⟨_, rfl, h1⟩)
      · exact q_extract2 hp (free_of rfl) trivial (sqi 8) (fun v1 v2 w h1 h2 => ⟨_, rfl, h2⟩)
      · exact q_assign hp (free_of rfl) trivial (sqi 9)
      · exact q_assign hp (free_of rfl) trivial (sqi 10)
      intro L vs w3 nb hL hC hn E3
      have e0 : vs 0 = .int .i64 m := hC 0 (by simp)
      have e1 : vs 1 = .int .i64 p := hC 1 (by simp)
      have e2 : vs 2 = .int .i64 M := hC 2 (by simp)
      have e9 : vs 9 = .int .i64 (a % M) := hC 9 (by simp)
      have e10 : vs 10 = .bool true := hC 10 (by simp)
      have e11 : vs 11 = .int .i64 (a % M) := hC 11 (by simp)
      have e12 : vs 12 = .bool true := hC 12 (by simp)
      have e4 : vs 4 = cloV 57 (nb 4) := hn _ (List.mem_iff_getElem?.2 ⟨0, rfl⟩)
      have E : Fr V0 [(nb 4, 2, Fq.num M)] w3 := E3
      rw [lay_all hL]
      simp only [putAll, dstOf, List.length_cons, List.length_nil, Nat.zero_add, Nat.reduceAdd, List.getElem?_toArray, List.getElem?_cons_zero, List.getElem?_cons_succ, Option.bind_some, Act.put, List.setIfInBounds_toArray, List.set_cons_succ, List.set_cons_zero]
      rw [e0, e1, e2, e9, e10, e11, e12, e4]
      generalize nb 4 = b3_4 at E ⊢
      generalize vs 3 = u3_3
      generalize vs 5 = u3_5
      generalize vs 6 = u3_6
      generalize vs 7 = u3_7
      generalize vs 8 = u3_8
      clear e0 e1 e2 e9 e10 e11 e12 e4 hC hn E3 hL vs L nb
      have HE4 := hidd E.below
      clear E ho
      have hp0 := HP.out
      go_wp2
      go_loopw [11, 12] (fun vl vb W => ∃ t : Nat, vb = .int .i64 (t * m) ∧ t ≤ p.toNat ∧ Li W V0.heap.size vl (lift (a % M) M m xs t) ∧ Below V0.heap.size V0 W) (fun _ vb _ => (M - intOf vb).toNat)
      case atStart => exact ⟨0, by simp, Nat.zero_le _, Li.nil _ _, HE4.out⟩
      case round =>
        obtain ⟨V1, rfl⟩ : ∃ V1, V1 = wr := ⟨_, rfl⟩
        obtain ⟨t, rfl, ht, HL, HB⟩ := hrel
        have HTM := hidd (LR.out.tm HP.out.1 (t := t))
        have g0 := HMM.out
        by_cases hlt : t < p.toNat
        · have hq := LR.out.tm2 HP.out.1 hlt
          have f2 : ((t : Int) * m < M) = True := eq_true (HTM.out.2 hlt)
          obtain ⟨B, hB⟩ : ∃ B, B = (t : Int) * m := ⟨_, rfl⟩
          rw [← hB] at hq f2 ⊢
          have HQ := hidd hq
          have HBE := hidd hB
          have HLEN := hidd (fun i => lift_bound (r := a % M) (B := B) (i := i) HLL2.out HM.out HMS.out.2.2 hlt)
          have hHL := hidd HL
          have hHB := hidd HB
          have HLT := hidd hlt
          clear hq hB HL HB HTM hlt ht hp0
          go_wp2
          go_loopw [11, 42] (fun vl vi W => ∃ i : Nat, vi = .int .i64 i ∧ i ≤ xs.length ∧ Li W V0.heap.size vl (lift (a % M) M m xs t ++ sweep (a % M) M B (xs.take i)) ∧ Below V0.heap.size V0 W) (fun _ vi _ => xs.length - (intOf vi).toNat)
          case atStart => exact ⟨0, rfl, Nat.zero_le _, by simpa [sweep] using hHL.out, hHB.out⟩
          case round =>
            obtain ⟨V2, rfl⟩ : ∃ V2, V2 = wr := ⟨_, rfl⟩
            obtain ⟨i, rfl, hix, HL2, HB2⟩ := hrel
            by_cases hil : i < xs.length
            · obtain ⟨ad, hao, hc⟩ := (HROOT.out.mono HB2).cell hil
              subst hao
              have hxr := HLG2.out _ (getD_mem hil)
              have HSW := hidd (sweep_succ (r := a % M) (M := M) (base := B) hil)
              obtain ⟨x, hx⟩ : ∃ x, x = xs.getD i 0 := ⟨_, rfl⟩
              rw [← hx] at hc hxr HSW
              obtain ⟨y, hy⟩ : ∃ y, y = B + x := ⟨_, rfl⟩
              rw [← hy] at HSW
              have hy1 : 0 ≤ y ∧ y < 1048576 := by have h1 := HQ.out; have h2 := HMS.out; omega
              have hsq := sq_small hy1.1 hy1.2
              have g1 : IntKind.i64.wrap (B + x) = y := by rw [← hy]; exact wrapI hy1.1 (by omega)
              obtain ⟨q, hq⟩ : ∃ q, q = y * y := ⟨_, rfl⟩
              have g2' : IntKind.i64.wrap (y * y) = q := by rw [hq]; exact wrapI hsq.1 hsq.2
              rw [← hq] at hsq
              obtain ⟨z, hz⟩ : ∃ z, z = q % M := ⟨_, rfl⟩
              have g3 : q.tmod M = z := by rw [hz]; exact tmod_pos hsq.1
              have g4 : IntKind.i64.wrap z = z := by
                have h1 := HMS.out
                have h2 := Int.emod_nonneg q (show M ≠ 0 by omega)
                have h3 := Int.emod_lt_of_pos q (show 0 < M by omega)
                rw [hz]; exact wrapI h2 (by omega)
              have g5 : ¬ M = 0 := HM0.out
              have g6 : (M == 0) = false := by simpa using g5
              have g9 : IntKind.i64.wrap ((i : Int) + 1) = (i : Int) + 1 := by have h1 := HLL2.out; have h2 := HMS.out; exact wrapI (by omega) (by omega)
              have hsz := HB2.size
              have hly := HLEN.out i
              have HKP : Hid (keepR (a % M) M y = decide (z = a % M)) := by show _ = _; unfold keepR; rw [← hq, ← hz]
              obtain ⟨ys, hys⟩ : ∃ ys, ys = lift (a % M) M m xs t ++ sweep (a % M) M B (xs.take i) := ⟨_, rfl⟩
              rw [← hys] at HL2 hly
              obtain ⟨ao2, cap2, rfl⟩ := HL2.shape
              have HYS := hidd hys
              have HY := hidd hy
              have HL2H := hidd HL2
              have HB2H := hidd HB2
              have HO : V2.ownsRow V0.heap.size 2 1 (.slice ao2 ys.length cap2) ys.length (ys.map (Value.int .i64)) := HL2
              clear hx hq hz hy hxr hy1 hsq hys HL2 HB2
              by_cases hkeep : z = a % M
              · have g7 : (z = a % M) = True := eq_true hkeep
                have HSW2 : Hid (ys ++ [y] = lift (a % M) M m xs t ++ sweep (a % M) M B (xs.take (i + 1))) := by
                  show _ = _
                  rw [HSW.out, if_pos (by rw [HKP.out]; exact decide_eq_true hkeep), HYS.out, List.append_assoc]
                clear hkeep HKP HSW HO
                have E := Fr.start V2
                go_upto_region 13 with (fail)
                refine region_fr (C := [Fq.is (.int .i64 y), Fq.is (.int .i64 y), Fq.is (.int .i64 q), Fq.is (.int .i64 m), Fq.is (.int .i64 p), Fq.is (.int .i64 M), Fq.is (.int .i64 z), Fq.is (.int .i64 (a % M)), Fq.is (.bool true)]) (ks := []) (new := []) E rfl (by kernel_rfl) rfl rfl (fun hp => ⟨?_, ?_, ?_, ?_, ?_, ?_, ?_, ?_, ?_, trivial⟩) ?_
                · exact q_move hp (free_of rfl) trivial (sq_out rfl rfl (fun _ _ => rfl))
                · exact q_move hp (free_of rfl) trivial (sq_out rfl rfl (fun _ _ => rfl))
                · exact q_two (F := fun v _ => v = .int .i64 y) (G := fun v _ => v = .int .i64 y) hp (free_of rfl) trivial (sqi 0) (sqi 1) (fun ρ w hc h h' => ⟨.int .i64 q, by simp [execOp, go_sem, h, h', g2'], rfl⟩)
                · exact q_move hp (free_of rfl) trivial (sq_out rfl rfl (fun _ _ => rfl))
                · exact q_move hp (free_of rfl) trivial (sq_out rfl rfl (fun _ _ => rfl))
                · exact q_two (F := fun v _ => v = .int .i64 m) (G := fun v _ => v = .int .i64 p) hp (free_of rfl) trivial (sqi 3) (sqi 4) (fun ρ w hc h h' => ⟨.int .i64 M, by simp [execOp, go_sem, h, h', g0], rfl⟩)
                · exact q_two (F := fun v _ => v = .int .i64 q) (G := fun v _ => v = .int .i64 M) hp (free_of rfl) trivial (sqi 2) (sqi 5) (fun ρ w hc h h' => ⟨.int .i64 z, by simp [execOp, go_sem, h, h', g3, g5], rfl⟩)
                · exact q_move hp (free_of rfl) trivial (sq_out rfl rfl (fun _ _ => rfl))
                · exact q_two (F := fun v _ => v = .int .i64 z) (G := fun v _ => v = .int .i64 (a % M)) hp (free_of rfl) trivial (sqi 6) (sqi 7) (fun ρ w hc h h' => ⟨.bool true, by simp [execOp, go_sem, h, h', g7], rfl⟩)
                intro L vs w4 nb hL hC hn E4
                have e0 : vs 0 = .int .i64 y := hC 0 (by simp)
                have e1 : vs 1 = .int .i64 y := hC 1 (by simp)
                have e2 : vs 2 = .int .i64 q := hC 2 (by simp)
                have e3 : vs 3 = .int .i64 m := hC 3 (by simp)
                have e4 : vs 4 = .int .i64 p := hC 4 (by simp)
                have e5 : vs 5 = .int .i64 M := hC 5 (by simp)
                have e6 : vs 6 = .int .i64 z := hC 6 (by simp)
                have e7 : vs 7 = .int .i64 (a % M) := hC 7 (by simp)
                have e8 : vs 8 = .bool true := hC 8 (by simp)
                have E : Fr V2 [] w4 := E4
                rw [lay_all hL]
                simp only [putAll, dstOf, List.length_cons, List.length_nil, Nat.zero_add, Nat.reduceAdd, List.getElem?_toArray, List.getElem?_cons_zero, List.getElem?_cons_succ, Option.bind_some, Act.put, List.setIfInBounds_toArray, List.set_cons_succ, List.set_cons_zero]
                rw [e0, e1, e2, e3, e4, e5, e6, e7, e8]
                clear e0 e1 e2 e3 e4 e5 e6 e7 e8 hC hn E4 hL vs L nb
                have HL3 := HL2H.out.mono E.below
                have HB3 := HB2H.out.trans (E.below.mono hsz)
                have hsz3 := HB3.size
                have HO : w4.ownsRow V0.heap.size 2 1 (.slice ao2 ys.length cap2) ys.length (ys.map (Value.int .i64)) := HL3
                clear E hsz HB2H HL2H
                go_wp2_with (first | (at_builtin; refine wpList_append_own _ rfl _ _ 70 rfl V0.heap.size 2 i0 (.int .i64 0) 1 8 Tryz.underlying70 hi hz0 hz1 hz2 rfl (by decide) _ _ _ rfl (World.ownsRow.alloc HO _) ⟨_, 0, none⟩ 1 1 [.int .i64 y] rfl rfl (one_at _ _ _) (by intro u hu; simp at hu; subst hu; rfl) (by unfold maxLen; omega) (by omega) (by simp; omega) ?_; intro v' w5 hown' hgrow _) | go_in)
                obtain ⟨hO2, hB2⟩ := Li.step HL3 hsz3 HB3 hown' hgrow
                clear hown' hgrow HO
                go_wp2
                go_roundw
                case rel => exact ⟨i + 1, by go_num, by omega, by rw [← HSW2.out]; exact hO2, hB2⟩
                case measure => simp [intOf]; omega
              · have g7 : (z = a % M) = False := eq_false hkeep
                have HSW2 : Hid (ys = lift (a % M) M m xs t ++ sweep (a % M) M B (xs.take (i + 1))) := by
                  show _ = _
                  rw [HSW.out, if_neg (by rw [HKP.out]; simpa using hkeep), List.append_nil, HYS.out]
                clear hkeep HKP HSW HO
                have E := Fr.start V2
                go_upto_region 13 with (fail)
                refine region_fr (C := [Fq.is (.int .i64 y), Fq.is (.int .i64 y), Fq.is (.int .i64 q), Fq.is (.int .i64 m), Fq.is (.int .i64 p), Fq.is (.int .i64 M), Fq.is (.int .i64 z), Fq.is (.int .i64 (a % M)), Fq.is (.bool false)]) (ks := []) (new := []) E rfl (by kernel_rfl) rfl rfl (fun hp => ⟨?_, ?_, ?_, ?_, ?_, ?_, ?_, ?_, ?_, trivial⟩) ?_
                · exact q_move hp (free_of rfl) trivial (sq_out rfl rfl (fun _ _ => rfl))
                · exact q_move hp (free_of rfl) trivial (sq_out rfl rfl (fun _ _ => rfl))
                · exact q_two (F := fun v _ => v = .int .i64 y) (G := fun v _ => v = .int .i64 y) hp (free_of rfl) trivial (sqi 0) (sqi 1) (fun ρ w hc h h' => ⟨.int .i64 q, by simp [execOp, go_sem, h, h', g2'], rfl⟩)
                · exact q_move hp (free_of rfl) trivial (sq_out rfl rfl (fun _ _ => rfl))
                · exact q_move hp (free_of rfl) trivial (sq_out rfl rfl (fun _ _ => rfl))
                · exact q_two (F := fun v _ => v = .int .i64 m) (G := fun v _ => v = .int .i64 p) hp (free_of rfl) trivial (sqi 3) (sqi 4) (fun ρ w hc h h' => ⟨.int .i64 M, by simp [execOp, go_sem, h, h', g0], rfl⟩)
                · exact q_two (F := fun v _ => v = .int .i64 q) (G := fun v _ => v = .int .i64 M) hp (free_of rfl) trivial (sqi 2) (sqi 5) (fun ρ w hc h h' => ⟨.int .i64 z, by simp [execOp, go_sem, h, h', g3, g5], rfl⟩)
                · exact q_move hp (free_of rfl) trivial (sq_out rfl rfl (fun _ _ => rfl))
                · exact q_two (F := fun v _ => v = .int .i64 z) (G := fun v _ => v = .int .i64 (a % M)) hp (free_of rfl) trivial (sqi 6) (sqi 7) (fun ρ w hc h h' => ⟨.bool false, by simp [execOp, go_sem, h, h', g7], rfl⟩)
                intro L vs w5 nb hL hC hn E5
                have e0 : vs 0 = .int .i64 y := hC 0 (by simp)
                have e1 : vs 1 = .int .i64 y := hC 1 (by simp)
                have e2 : vs 2 = .int .i64 q := hC 2 (by simp)
                have e3 : vs 3 = .int .i64 m := hC 3 (by simp)
                have e4 : vs 4 = .int .i64 p := hC 4 (by simp)
                have e5 : vs 5 = .int .i64 M := hC 5 (by simp)
                have e6 : vs 6 = .int .i64 z := hC 6 (by simp)
                have e7 : vs 7 = .int .i64 (a % M) := hC 7 (by simp)
                have e8 : vs 8 = .bool false := hC 8 (by simp)
                have E : Fr V2 [] w5 := E5
                rw [lay_all hL]
                simp only [putAll, dstOf, List.length_cons, List.length_nil, Nat.zero_add, Nat.reduceAdd, List.getElem?_toArray, List.getElem?_cons_zero, List.getElem?_cons_succ, Option.bind_some, Act.put, List.setIfInBounds_toArray, List.set_cons_succ, List.set_cons_zero]
                rw [e0, e1, e2, e3, e4, e5, e6, e7, e8]
                clear e0 e1 e2 e3 e4 e5 e6 e7 e8 hC hn E5 hL vs L nb
                have HL3 := hidd (HL2H.out.mono E.below)
                have HB3 := hidd (HB2H.out.trans (E.below.mono hsz))
                clear E hsz HB2H HL2H
                go_wp2
                go_roundw
                case rel => exact ⟨i + 1, by go_num, by omega, by rw [← HSW2.out]; exact HL3.out, HB3.out⟩
                case measure => simp [intOf]; omega
            · have he : i = xs.length := by omega
              have g8 : IntKind.i64.wrap (B + m) = B + m := by have h1 := HQ.out; have h2 := HMS.out; exact wrapI (by omega) (by omega)
              have HF : Hid (Li V2 V0.heap.size u11 (lift (a % M) M m xs (t + 1))) := by
                show Li _ _ _ _
                rw [he, List.take_length, HBE.out] at HL2
                exact HL2
              have HM2 : Hid ((M - (B + m)).toNat < (M - B).toNat) := by have h1 := HQ.out; have h2 := HMS.out; show _ < _; omega
              have HB2H := hidd HB2
              clear HL2 HB2 he
              go_wp2
              go_roundw
              case rel => exact ⟨t + 1, by rw [HQ.out.2.2], HLT.out, HF.out, HB2H.out⟩
              case measure => simp only [intOf]; exact HM2.out
        · have he : t = p.toNat := by omega
          have f2 : ((t : Int) * m < M) = False := eq_false (fun h => hlt (HTM.out.1 h))
          have f3 : IntKind.i64.wrap (k - (j : Int) - 1) = k - (j : Int) - 1 := IntWalk.i64_in _ (by have := HK.out; omega)
          have HF : Hid (Li V1 w.heap.size u11 (lifts a p (j + 1))) := by
            show Li _ _ _ _
            rw [← hlf.out, ← he]
            exact HL.low HBB.out.size
          have HB3 := hidd (HBB.out.trans (HB.mono HBB.out.size))
          have HO3 := hidd (HOO.out.mono HB)
          have HM2 : Hid ((k - (j : Int) - 1).toNat < (k - (j : Int)).toNat) := by have := HJ.out; have := HK.out; show _ < _; omega
          clear HL HB he hlt ht hp0
          go_wp2
          go_roundw
          case rel => exact ⟨j + 1, by congr 1; omega, by rw [HPJ.out], HJ.out, HF.out, HB3.out, HO3.out⟩
          case measure => simp only [intOf]; exact HM2.out
    · have f1 : ((j : Int) < k) = False := eq_false (by omega)
      have he : j = k.toNat := by omega
      have HR2 : Hid (Li V0 w.heap.size u7 (lifts a p k.toNat)) := by show Li _ _ _ _; rw [← he]; exact HR
      go_wp2
      go_ret
      exact ⟨_, rfl, HB, HR2.out⟩

end Go.Proofs.YtieobgadihcgeaaGreatDoor

namespace Go.Proofs.YtieobgadihcgeaaGreatDoor
open Go Go.RowKit

theorem kron_2_7 : kron 2 7 = 1 := by
  unfold kron
  rw [if_neg (by decide), if_neg (by decide)]
  show 1 * kro 2 7 = 1
  rw [kro_odd (by decide), J_two (by decide)]
  decide
theorem kron_2_3 : kron 2 3 = -1 := by
  unfold kron
  rw [if_neg (by decide), if_neg (by decide)]
  show 1 * kro 2 3 = -1
  rw [kro_odd (by decide), J_two (by decide)]
  decide
theorem kron_m1_m1 : kron (-1) (-1) = -1 := by
  unfold kron
  rw [if_neg (by decide), if_pos (by decide)]
  show -1 * kro (-1) 1 = -1
  rw [kro_odd (by decide)]
  decide
theorem kron_5_0 : kron 5 0 = 0 := by
  unfold kron
  rw [if_pos rfl, if_neg (by decide)]
theorem nbits_2 : nbits (2 % 7) = 2 := by
  show nbits 2 = 2
  unfold nbits
  rw [if_neg (by decide)]
  decide
theorem powM_ex : powM (2 % 7) ((7 / (4)) + (1)) 7 = 4 := by
  unfold powM
  rw [if_pos (by decide)]
  decide
theorem bezU_3_7 : bezU 3 7 = 5 := (inv_uniq (a := 3) (m := 7) (x := 5) (by decide) (by decide) (by decide) (by decide)).2.symm
theorem bezU_2_9 : bezU (2 % 9) 9 = 5 := (inv_uniq (a := 2 % 9) (m := 9) (x := 5) (by decide) (by decide) (by decide) (by decide)).2.symm
theorem bezU_3_4 : bezU 3 4 = 3 := (inv_uniq (a := 3) (m := 4) (x := 3) (by decide) (by decide) (by decide) (by decide)).2.symm
theorem powM_2_m1_9 : powM 2 (-1) 9 = 5 := by
  unfold powM
  rw [if_neg (by decide), bezU_2_9]
  decide
theorem crtR_ex : crtR 2 3 3 4 = 11 := by
  unfold crtR
  rw [bezU_3_4]
  decide
theorem lit90 {z : Int} (h : ab z < pw 3) : ab z < pw 90 := Int.lt_of_lt_of_le h (pw_le (by omega))
theorem lit100 {z : Int} (h : ab z < pw 3) : ab z < pw 100 := Int.lt_of_lt_of_le h (pw_le (by omega))
theorem exRoot27 {w : World} {v v' : Value} (h : Num w v 2) (h' : Num w v' 7) (hT : Tabs w) :
    Calls Tryz.prog 20 #[v, v'] w fun e w' => ∃ v', e = .returned v' ∧ Below w.heap.size w w' ∧ Got w' v' 3 0 :=
  exVRoot h h' fun x x' w1 hb hx hx' => by
    have := exMSqrtXL (x := 4) hx hx' (lit90 (ab_lit (by decide))) (lit90 (ab_lit (by decide))) (hT.mono hb) (by decide) (by rw [nbits_2]; decide) (by show kron 2 7 = 1; exact kron_2_7) (lit90 (ab_lit (by decide)))
      (fun y y' w2 hb2 hy hy' => by
        have h2 := exSomeRoot3 hy hy' (lit90 (ab_lit (by decide))) (lit90 (ab_lit (by decide))) (by decide) (by decide)
        rw [powM_ex] at h2
        exact h2) (by decide) (by decide)
    exact this
theorem exInv37 {w : World} {v v' : Value} (h : Num w v 3) (h' : Num w v' 7) :
    Calls Tryz.prog 12 #[v, v'] w fun e w' => ∃ v', e = .returned v' ∧ Below w.heap.size w w' ∧ Got w' v' 5 0 :=
  exVInv h h' fun x x' w1 hb hx hx' => by
    have := exInvP hx hx' (Int.lt_of_lt_of_le (ab_lit (by decide)) (pw_le (by omega))) (Int.lt_of_lt_of_le (ab_lit (by decide)) (pw_le (by omega))) (by decide) (by decide)
    rw [bezU_3_7] at this
    exact this
theorem exInv24 {w : World} {v v' : Value} (h : Num w v 2) (h' : Num w v' 4) :
    Calls Tryz.prog 12 #[v, v'] w fun e w' => ∃ v', e = .returned v' ∧ Below w.heap.size w w' ∧ Got w' v' 0 4 :=
  exVInv h h' fun x x' w1 hb hx hx' => exInvN hx hx' (Int.lt_of_lt_of_le (ab_lit (by decide)) (pw_le (by omega))) (Int.lt_of_lt_of_le (ab_lit (by decide)) (pw_le (by omega))) (by decide) (by decide)
theorem exPow219 {w : World} {v v' u : Value} (h : Num w v 2) (h' : Num w v' (-1)) (g : Num w u 9) :
    Calls Tryz.prog 13 #[v, v', u] w fun e w' => ∃ v', e = .returned v' ∧ Below w.heap.size w w' ∧ Got w' v' 5 0 :=
  exVPow h h' g fun x x' y w1 hx hx' hy => by
    have := exPowN hx hx' hy (lit100 (ab_lit (by decide))) (lit100 (ab_lit (by decide))) (lit100 (ab_lit (by decide))) (by decide) (by decide) (by decide)
    rw [powM_2_m1_9] at this
    exact this
end Go.Proofs.YtieobgadihcgeaaGreatDoor

namespace Go.Proofs.YtieobgadihcgeaaGreatDoor
open Go Go.RowKit

theorem lifts_ex : lifts 1 2 3 = [1, 3, 5, 7] := by decide
set_option maxHeartbeats 400000 in
theorem fromWord_new (w : World) (q : Int) (hq0 : 0 ≤ q) (hq1 : q < 18446744073709551616) :
    Calls Tryz.prog 73 #[.int .u64 q] w fun e w' => ∃ b m c zs, w.heap.size ≤ b ∧ e = .returned (.slice (some ⟨b, 0, none⟩) m c) ∧ m ≤ 2 ∧ Sl w' (some ⟨b, 0, none⟩) m c zs ∧ Canon zs ∧ val zs = q ∧ Below w.heap.size w w' := by
  have hr : Row (w.alloc (.cells #[.int .u32 (q % 4294967296), .int .u32 (q / 4294967296)] 61)) 61 w.heap.size [q % 4294967296, q / 4294967296] := by
    refine ⟨fun x hx => ?_, ?_⟩
    · simp at hx
      unfold Dig
      rcases hx with rfl | rfl <;> omega
    · rw [heap_alloc_new]; rfl
  have hs := hr.sl (n := 2) rfl
  have hbl : Below w.heap.size w (w.alloc (.cells #[.int .u32 (q % 4294967296), .int .u32 (q / 4294967296)] 61)) := (Below.refl _ _).alloc (Nat.le_refl _) _
  have hv : val [q % 4294967296, q / 4294967296] = q := by simp only [val]; omega
  have HV := hidd hv
  clear hv hr
  go_enter Tryz.func73, Tryz.ntmps73
  go_wp2_with (go_at_call 56; refine (trim_any _ _ _ _ _ hs (by omega)).mono ?_; rintro e w' ⟨m, rfl, hm, hsm, hvm, hcm, rfl⟩)
  go_ret
  exact ⟨_, m, 2, _, Nat.le_refl _, rfl, hm, hsm, hcm, hvm.trans HV.out, hbl⟩

def GivesAt (w : World) (ax : Option Addr) (z : Int) (e : Ending) (w' : World) : Prop :=
  ∃ (neg : Bool) (ao : Option Addr) (n c : Nat) (xs : List Int), e = .returned (.agg #[.bool neg, .slice ao n c]) ∧ (ao = none ∨ ao = ax) ∧ Sl w' ao n c xs ∧ Canon xs ∧ (neg = true → n ≠ 0) ∧ z = sgn neg (val xs) ∧ Below w.heap.size w w'

set_option maxRecDepth 100000 in
set_option maxHeartbeats 1000000 in
theorem signed_new (w : World) (neg : Bool) (ax : Option Addr) (n c : Nat) (xs : List Int) (hX : Sl w ax n c xs) (hb : n ≤ 4000000) :
    Calls Tryz.prog 65 #[.bool neg, .slice ax n c] w (GivesAt w ax (sgn neg (val xs))) := by
  have hbl : ∀ o, Below w.heap.size w (w.alloc o) := fun o => (Below.refl _ _).alloc (Nat.le_refl _) o
  go_enter Tryz.func65, Tryz.ntmps65
  go_wp2_with (go_at_call 56; refine (trim_any _ _ _ _ _ (hX.mono (hbl _)) (by omega)).mono ?_; rintro e w' ⟨m, rfl, hm, hsm, hvm, hcm, rfl⟩)
  · rename_i h0
    refine bodyPost_ret (v := .agg #[.bool false, .slice none 0 0]) (by simp [results, Tryz.results65, go_sem]) rfl ⟨false, none, 0, 0, [], rfl, .inl rfl, Sl.nil _, ⟨fun _ hx => by simp at hx, .inl rfl⟩, by simp, ?_, hbl _⟩
    have h1 : m = 0 := by simpa using h0
    subst h1
    simp only [List.take_zero, val] at hvm
    cases neg <;> simp [sgn, val, ← hvm]
  · rename_i h0
    have h1 : m ≠ 0 := by simpa using h0
    have hs2 : Sl (w.alloc (.cells #[.bool neg, .slice ax m c] 29)) ax m c (xs.take m) := (hX.take hm).mono (hbl _)
    exact bodyPost_ret (v := .agg #[.bool neg, .slice ax m c]) (by simp [results, Tryz.results65, go_sem]) rfl ⟨neg, ax, m, c, _, rfl, .inr rfl, hs2, hcm, fun _ => h1, by rw [hvm], hbl _⟩

set_option maxRecDepth 100000 in
set_option maxHeartbeats 1000000 in
theorem OfNew (w : World) (z : Int) (h0 : 0 ≤ z) (h1 : z ≤ 9223372036854775807) :
    Calls Tryz.prog 45 #[.int .i64 z] w fun e w' => ∃ ng ao n c, e = .returned (.agg #[.bool ng, .slice ao n c]) ∧ (∀ a, ao = some a → w.heap.size ≤ a.block) ∧ Num w' (.agg #[.bool ng, .slice ao n c]) z ∧ Below w.heap.size w w' := by
  have hC := box1 w 29
  have hCb := alloc_below w (.cells #[.bool false, .slice none 0 0] 29)
  have hz : ¬ z < 0 := by omega
  have hq : IntKind.u64.wrap z = z := by rw [u64_wrap]; omega
  go_enter Tryz.func45, Tryz.ntmps45
  go_wp2_with fail
  refine (fromWord_new _ z (by omega) (by omega)).mono ?_
  rintro e w2 ⟨b2, n2, c2, zs2, hbb, rfl, hn2, hs2, hc2, hv2, hB2⟩
  go_wp2_with fail
  refine (signed_new _ _ _ _ _ _ hs2 (by omega)).mono ?_
  rintro e w3 ⟨ng, ao, nn, cc, rs, rfl, hao, hrs, hrc, hrn, hrz, hb3⟩
  obtain ⟨e0, e1, e2, e3⟩ := (hC.mono hB2 hC.lt).mono hb3 (Nat.lt_of_lt_of_le hC.lt hB2.size)
  have HZ : Hid (z = sgn ng (val rs)) := by
    show _ = _
    rw [← hrz, hv2]; simp [sgn]
  have hb4 : Below w.heap.size w w3 := (hCb.trans (hB2.mono hCb.size)).trans (hb3.mono (Nat.le_trans hCb.size hB2.size))
  have HA : Hid (∀ a, ao = some a → w.heap.size ≤ a.block) := by
    show ∀ a, _
    rintro a rfl
    rcases hao with h | h
    · cases h
    · injection h with h
      rw [h]
      exact Nat.le_trans hCb.size hbb
  clear hrz hv2 hC hq hao
  go_wp2
  refine bodyPost_ret (v := .agg #[.bool ng, .slice ao nn cc]) ?_ rfl ?_
  · simp [results, Tryz.results45, go_sem, e0, e1]
  · obtain ⟨v, he, hI, hB⟩ := gives_store ⟨e0, e1, e2, e3⟩ hrs hrc hrn HZ.out hb4 (Nat.le_refl _)
    injection he with he
    subst he
    exact ⟨ng, ao, nn, cc, rfl, HA.out, num_of hI (k := 2) (by have e : pw 2 = 18446744073709551616 := rfl; rw [e]; unfold ab; omega) (by omega), hB⟩
end Go.Proofs.YtieobgadihcgeaaGreatDoor

namespace Go.Proofs.YtieobgadihcgeaaGreatDoor
open Go Go.RowKit

theorem info_int : (Tryz.prog.info? 29).map (fun i => (i.zero, i.size, i.bytes)) = some (some (.agg #[.bool false, .slice none 0 0]), 2, 32) := by kernel_rfl
def NumAt (w : World) (g i : Nat) (z : Int) : Prop := ∃ n ao k c, w.cell? ⟨g, i * 2, none⟩ = some (.bool n) ∧ w.cell? ⟨g, i * 2 + 1, none⟩ = some (.slice ao k c) ∧ Num w (.agg #[.bool n, .slice ao k c]) z
def Nums (w : World) (v : Value) (zs : List Int) : Prop := ∃ ao cap, v = .slice ao zs.length cap ∧ (zs = [] ∨ ∃ g, ao = some ⟨g, 0, none⟩ ∧ g < w.heap.size ∧ ∀ i z, zs[i]? = some z → NumAt w g i z)
theorem NumAt.mono {w w' : World} {g i : Nat} {z : Int} (h : NumAt w g i z) (hb : Below w.heap.size w w') : NumAt w' g i z := by
  obtain ⟨n, ao, k, c, h1, h2, h3⟩ := h
  have hl := World.block_lt_of_cell? w _ h1
  exact ⟨n, ao, k, c, (hb.cell (p := ⟨g, i * 2, none⟩) hl).trans h1, (hb.cell (p := ⟨g, i * 2 + 1, none⟩) hl).trans h2, h3.mono hb⟩
theorem Nums.mono {w w' : World} {v : Value} {zs : List Int} (h : Nums w v zs) (hb : Below w.heap.size w w') : Nums w' v zs := by
  obtain ⟨ao, cap, e, h⟩ := h
  refine ⟨ao, cap, e, ?_⟩
  rcases h with h | ⟨g, h1, h2, h3⟩
  · exact .inl h
  · exact .inr ⟨g, h1, Nat.lt_of_lt_of_le h2 hb.size, fun i z hi => (h3 i z hi).mono hb⟩
theorem Nums.at {w : World} {ao : Option Addr} {n c : Nat} {zs : List Int} (h : Nums w (.slice ao n c) zs) {i : Nat} (hi : i < zs.length) :
    ∃ g p r k d, ao = some ⟨g, 0, none⟩ ∧ w.cell? ⟨g, i * 2, none⟩ = some (.bool p) ∧ w.cell? ⟨g, i * 2 + 1, none⟩ = some (.slice r k d) ∧ Num w (.agg #[.bool p, .slice r k d]) (zs.getD i 0) := by
  obtain ⟨ao', cap, e, h⟩ := h
  injection e with e1 e2 e3
  subst e1
  rcases h with h | ⟨g, h1, h2, h3⟩
  · subst h; simp at hi
  · obtain ⟨p, r, k, d, g1, g2, g3⟩ := h3 i (zs.getD i 0) (by simp [hi])
    exact ⟨g, p, r, k, d, h1, g1, g2, g3⟩

def NumCell (us : List Value) (w : World) (own : Option Nat) (i : Nat) (z : Int) : Prop :=
  ∃ n ao k c, us[i * 2]? = some (.bool n) ∧ us[i * 2 + 1]? = some (.slice ao k c) ∧ (∀ a, ao = some a → k ≠ 0 → some a.block ≠ own) ∧ Num w (.agg #[.bool n, .slice ao k c]) z
def Ln (W : World) (B : Nat) (v : Value) (zs : List Int) : Prop := ∃ us, W.ownsRow B 29 2 v zs.length us ∧ ∀ i z, zs[i]? = some z → NumCell us W v.ownBlock i z
theorem Ln.shape {W : World} {B : Nat} {v : Value} {zs : List Int} (h : Ln W B v zs) : ∃ ao cap, v = .slice ao zs.length cap := by
  obtain ⟨us, h, _⟩ := h
  rcases h.2 with ⟨rfl, h0⟩ | ⟨g, cap, cur, rfl, _⟩
  · exact ⟨none, 0, by rw [h0]⟩
  · exact ⟨_, _, rfl⟩
theorem Ln.nil (w : World) (B : Nat) : Ln w B (.slice none 0 0) [] := ⟨[], World.ownsRow_nil w B _ _, fun i z h => by simp at h⟩
theorem Ln.made (w : World) {B cap : Nat} (cur : Array Value) (hb : B ≤ w.heap.size) (hm : cap ≤ maxLen) (hs : cur.size = cap * 2) : Ln (w.alloc (.cells cur 29)) B (.slice (some ⟨w.heap.size, 0, none⟩) 0 cap) [] :=
  ⟨[], World.ownsRow_made w cur cap hb hm hs, fun i z h => by simp at h⟩
theorem Ln.mono {w w' : World} {B : Nat} {v : Value} {zs : List Int} (h : Ln w B v zs) (hb : Below w.heap.size w w') : Ln w' B v zs := by
  obtain ⟨us, h, hE⟩ := h
  refine ⟨us, ⟨h.1, ?_⟩, fun i z hi => ?_⟩
  · rcases h.2 with h2 | ⟨g, cap, cur, h1, h2, h3, h4⟩
    · exact .inl h2
    · exact .inr ⟨g, cap, cur, h1, h2, by rw [hb.block g (Array.getElem?_eq_some_iff.1 h3).1]; exact h3, h4⟩
  · obtain ⟨n, ao, k, c, g1, g2, g3, g4⟩ := hE i z hi
    exact ⟨n, ao, k, c, g1, g2, g3, g4.mono hb⟩
theorem Ln.low {W : World} {B B' : Nat} {v : Value} {zs : List Int} (h : Ln W B v zs) (hb : B' ≤ B) : Ln W B' v zs := by
  obtain ⟨us, h, hE⟩ := h
  refine ⟨us, ⟨h.1, ?_⟩, hE⟩
  rcases h.2 with h2 | ⟨g, cap, cur, h1, h2, h3⟩
  · exact .inl h2
  · exact .inr ⟨g, cap, cur, h1, by omega, h3⟩
theorem Ln.nums {w : World} {B : Nat} {v : Value} {zs : List Int} (h : Ln w B v zs) : Nums w v zs := by
  obtain ⟨us, h, hE⟩ := h
  have h0 := h
  rcases h.2 with ⟨rfl, h1⟩ | ⟨g, cap, cur, rfl, h1, h2, h3⟩
  · refine ⟨none, 0, by rw [h1], .inl ?_⟩
    exact List.eq_nil_of_length_eq_zero h1
  · refine ⟨_, cap, rfl, .inr ⟨g, rfl, (Array.getElem?_eq_some_iff.1 h2).1, fun i z hi => ?_⟩⟩
    obtain ⟨n, ao, k, c, g1, g2, g3, g4⟩ := hE i z hi
    have hl : i < zs.length := by
      rcases Nat.lt_or_ge i zs.length with h | h
      · exact h
      · rw [List.getElem?_eq_none h] at hi; cases hi
    refine ⟨n, ao, k, c, ?_, ?_, g4⟩
    · rw [World.ownsRow.cellAt h0 (i * 2) (by omega)]; exact g1
    · rw [World.ownsRow.cellAt h0 (i * 2 + 1) (by omega)]; exact g2
theorem Num.grown {w w' : World} {n : Bool} {ao : Option Addr} {k c : Nat} {z : Int} {row : Option Nat} (h : Num w (.agg #[.bool n, .slice ao k c]) z) (hg : w.grownBy w' row) (hne : ∀ a, ao = some a → k ≠ 0 → some a.block ≠ row) : Num w' (.agg #[.bool n, .slice ao k c]) z := by
  obtain ⟨neg, ao', k', c', xs, hv, hs, hn, hz⟩ := h
  injection hv with hv
  have hv2 := congrArg Array.toList hv
  simp at hv2
  obtain ⟨rfl, rfl, rfl, rfl⟩ := hv2
  refine ⟨n, ao, k, c, xs, rfl, ⟨hs.len, hs.cap, hs.cells.1, ?_⟩, hn, hz⟩
  rcases hs.cells.2 with h0 | ⟨b, off, rfl, hlt, hc⟩
  · exact .inl h0
  · rcases Nat.eq_zero_or_pos k with h0 | h0
    · exact .inl (List.eq_nil_of_length_eq_zero (hs.len.trans h0))
    · refine .inr ⟨b, off, rfl, Nat.lt_of_lt_of_le hlt hg.size, fun j hj => hg.cell (hc j hj) (show some b ≠ row from hne ⟨b, off, none⟩ rfl (by omega))⟩
theorem Num.blk {w : World} {n : Bool} {a : Addr} {k c : Nat} {z : Int} (h : Num w (.agg #[.bool n, .slice (some a) k c]) z) (hk : k ≠ 0) : a.block < w.heap.size := by
  obtain ⟨neg, ao', k', c', xs, hv, hs, hn, hz⟩ := h
  injection hv with hv
  have hv2 := congrArg Array.toList hv
  simp at hv2
  obtain ⟨rfl, rfl, rfl, rfl⟩ := hv2
  rcases hs.cells.2 with h0 | ⟨b, off, e, hlt, hc⟩
  · have := hs.len; rw [h0] at this; simp at this; omega
  · injection e with e; rw [e]; exact hlt
theorem Ln.step {B : Nat} {w wr w1 w2 : World} {v : Value} {zs : List Int} {us : List Value} {z : Int} {o : Obj} {g cap H : Nat} {ng : Bool} {ao : Option Addr} {n c : Nat}
    (hO : wr.ownsRow B 29 2 v zs.length us) (hE : ∀ i z, zs[i]? = some z → NumCell us wr v.ownBlock i z) (hB : B ≤ wr.heap.size) (hnx : Below B w wr) (hb : Below wr.heap.size wr w1)
    (hnew : ∀ a, ao = some a → wr.heap.size ≤ a.block) (hN : Num w1 (.agg #[.bool ng, .slice ao n c]) z)
    (hown' : w2.ownsRow B 29 2 (.slice (some ⟨g, 0, none⟩) (zs.length + 1) cap) (zs.length + 1) (us ++ [.bool ng, .slice ao n c])) (hgrow : (w1.alloc o).grownBy w2 v.ownBlock) (hat : v.ownBlock = some g ∨ g = H) (hH : (w1.alloc o).heap.size = H) :
    Ln w2 B (.slice (some ⟨g, 0, none⟩) (zs.length + 1) cap) (zs ++ [z]) ∧ Below B w w2 := by
  have hsz := hb.size
  have hH2 : w1.heap.size + 1 = H := by rw [← hH]; simp
  have hlt := hO.lt
  have hul := hO.1
  refine ⟨⟨us ++ [.bool ng, .slice ao n c], by simpa using hown', fun i y hi => ?_⟩, ?_⟩
  · have hne : ∀ {a : Addr} {k : Nat} {m : Bool} {d : Nat} {x : Int}, Num w1 (.agg #[.bool m, .slice (some a) k d]) x → k ≠ 0 → some a.block ≠ v.ownBlock → a.block ≠ g := by
      intro a k m d x hx hk hr e
      have h1 := hx.blk hk
      rcases hat with h | h
      · rw [h, e] at hr; exact hr rfl
      · omega
    by_cases hil : i < zs.length
    · rw [List.getElem?_append_left hil] at hi
      obtain ⟨p, r, k, d, g1, g2, g3, g4⟩ := hE i y hi
      refine ⟨p, r, k, d, ?_, ?_, fun a ha hk => ?_, ?_⟩
      · rw [List.getElem?_append_left (by omega)]; exact g1
      · rw [List.getElem?_append_left (by omega)]; exact g2
      · subst ha
        intro e
        exact hne (g4.mono hb) hk (g3 _ rfl hk) (by simpa [Value.ownBlock] using e)
      · exact ((g4.mono hb).mono (alloc_below w1 o)).grown hgrow g3
    · have hi2 : i = zs.length := by
        rcases Nat.lt_or_ge i (zs ++ [z]).length with h | h
        · simp at h; omega
        · rw [List.getElem?_eq_none h] at hi; cases hi
      subst hi2
      rw [List.getElem?_append_right (Nat.le_refl _), Nat.sub_self] at hi
      simp only [List.getElem?_cons_zero, Option.some.injEq] at hi
      subst hi
      have hfar : ∀ a, ao = some a → some a.block ≠ v.ownBlock := fun a ha e => by
        have h1 := hnew a ha
        have h2 := (hlt a.block e.symm).2
        omega
      refine ⟨ng, ao, n, c, ?_, ?_, fun a ha hk => ?_, ?_⟩
      · rw [List.getElem?_append_right (by omega), show zs.length * 2 - us.length = 0 by omega]; rfl
      · rw [List.getElem?_append_right (by omega), show zs.length * 2 + 1 - us.length = 1 by omega]; rfl
      · subst ha
        intro e
        exact hne hN hk (hfar _ rfl) (by simpa [Value.ownBlock] using e)
      · exact (hN.mono (alloc_below w1 o)).grown hgrow fun a ha _ => hfar a ha
  · exact ((hnx.trans (hb.mono hB)).alloc (by omega) o).grown hgrow (by simp; omega) (fun j hj => (hO.lt j hj).1)
end Go.Proofs.YtieobgadihcgeaaGreatDoor

namespace Go.Proofs.YtieobgadihcgeaaGreatDoor
open Go Go.RowKit

theorem exSmallPower {w : World} {p k : Int} {t : Bool} (hp : 2 ≤ p ∧ p < 9223372036854775808) (hk : 1 ≤ k ∧ k < 9223372036854775808) (ht : decide (p ^ k.toNat ≤ 1048576) = t) :
    Calls Tryz.prog 47 #[.int .i64 p, .int .i64 k] w fun e w' => ∃ v', e = .returned v' ∧ Below w.heap.size w w' ∧ v' = .bool t :=
  (smallPower_any w hp.1 hp.2 hk.1 hk.2).mono fun e w' ⟨h1, h2⟩ => ⟨_, h1, by rw [h2]; exact Below.refl _ _, by rw [ht]⟩
section
variable {os : List Oper} {Q : Exit → Act → World → Prop} {a : Act} {p : Pq} {B B0 : Nat} {w0 : World}
variable {i s : Nat} {d : Option Tmp} {ty : TypeId} {ps : String} {af : Array Edge} {gd : Option (Nat × Bool)}
theorem q_indexN {b l c k : Nat} {x y : Operand} (hp : p.Ok B B0) (hF : p.Free i) (hg : GdQ os a p B B0 w0 af gd) (hx : SrcQ os a p B B0 w0 af x fun v _ => v = .slice (some ⟨b, 0, none⟩) l c) (hy : SrcQ os a p B B0 w0 af y fun v _ => v = .int .i64 k) (hk : k < l)
    (hC : ∀ w, (p.c i).P (.pointer (some ⟨b, k * 2, none⟩)) w) :
    StepQ os Q a p B B0 w0 i { dst := d, op := .indexAddr 43 x y, type := ty, pos := ps, after := af, guard := gd } :=
  q_two hp hF hg hx hy fun ρ w _ h h' => ⟨_, by
    have h0 : (k : Int) < (l : Int) := by omega
    have h1 : (0 : Int) ≤ (k : Int) := by omega
    simp [execOp, go_sem, h, h', h0, h1], hC w⟩
theorem q_loadNumAt {b i0 : Nat} {z : Int} {x : Operand} (hp : p.Ok B B0) (hF : p.Free i) (hg : GdQ os a p B B0 w0 af gd) (hN : NumAt w0 b i0 z) (hB : B = w0.heap.size)
    (hx : SrcQ os a p B B0 w0 af x fun u _ => u = .pointer (some ⟨b, i0 * 2, none⟩)) (hC : ∀ v w, Num w v z → (p.c i).P v w) :
    StepQ os Q a p B B0 w0 i { dst := d, op := .load 29 x, type := ty, pos := ps, after := af, guard := gd } := by
  subst hB
  refine stq_val hp hF hg fun L vs w hG hL hc hd => ?_
  obtain ⟨n, ao, k, c, c0, c1, hz⟩ := hN.mono hG.below
  have e := hx L vs w hG hd
  refine ⟨_, ?_, hC _ _ hz⟩
  generalize (lay os.toArray L vs os.toArray.size a).eval = ρ at e
  simp [execOp, go_sem, e, c0, c1]
end
theorem owns_below {w w' : World} {base : Nat} {e : TypeId} {size : Nat} {v : Value} {n : Nat} {xs : List Value} (h : w.ownsRow base e size v n xs) (hb : Below w.heap.size w w') : w'.ownsRow base e size v n xs := by
  refine ⟨h.1, ?_⟩
  rcases h.2 with h2 | ⟨g, cap, cur, h1, h2, h3, h4⟩
  · exact .inl h2
  · exact .inr ⟨g, cap, cur, h1, h2, by rw [hb.block g (Array.getElem?_eq_some_iff.1 h3).1]; exact h3, h4⟩
theorem list_eq_of {xs ys : List Int} (hl : xs.length = ys.length) (h : ∀ i, i < xs.length → xs.getD i 0 = ys.getD i 0) : xs = ys := by
  refine List.ext_getElem hl fun i h1 h2 => ?_
  have := h i h1
  simpa [h1, h2] using this

set_option maxRecDepth 20000 in
set_option maxHeartbeats 1000000 in
theorem exSameList {w : World} {v v' : Value} {xs ys : List Int} (h : Nums w v xs) (h' : Nums w v' ys) (hx : xs.length < 9223372036854775807) (_hy : ys.length < 9223372036854775807) :
    Calls Tryz.prog 21 #[v, v'] w fun e w' => ∃ v', e = .returned v' ∧ Below w.heap.size w w' ∧ v' = .bool (decide (xs = ys)) := by
  obtain ⟨ao, cap, rfl, _⟩ := id h
  obtain ⟨ao', capb, rfl, _⟩ := id h'
  have HX := hidd h
  have HY := hidd h'
  have HL := hidd hx
  clear h h' hx
  by_cases hl : xs.length = ys.length
  · rw [← hl] at HY ⊢
    have HLL := hidd hl
    clear hl
    obtain ⟨n, hn⟩ : ∃ n, n = xs.length := ⟨_, rfl⟩
    have HN := hidd hn
    rw [← hn] at HX HY HL ⊢
    clear hn
    go_enter Tryz.func21, Tryz.ntmps21
    go_wp2
    go_loopw [5] (fun vi W => ∃ i : Nat, vi = .int .i64 i ∧ i ≤ n ∧ Below w.heap.size w W ∧ ∀ j, j < i → xs.getD j 0 = ys.getD j 0) (fun vi _ => n - (intOf vi).toNat)
    case atStart => exact ⟨0, rfl, Nat.zero_le _, Below.refl _ _, fun j hj => by omega⟩
    case round =>
      obtain ⟨V0, rfl⟩ : ∃ V0, V0 = wr := ⟨_, rfl⟩
      obtain ⟨i, rfl, hi, hB, hE⟩ := hrel
      have hll := HL.out
      by_cases hlt : i < n
      · obtain ⟨g, p, r, k, d, rfl, c0, c1, hA⟩ := (HX.out.mono hB).at (i := i) (by rw [← HN.out]; exact hlt)
        obtain ⟨gb, p', r', k', d', rfl, c0', c1', hA'⟩ := (HY.out.mono hB).at (i := i) (by rw [← HLL.out, ← HN.out]; exact hlt)
        obtain ⟨x, hx⟩ : ∃ x, x = xs.getD i 0 := ⟨_, rfl⟩
        obtain ⟨y, hy⟩ : ∃ y, y = ys.getD i 0 := ⟨_, rfl⟩
        rw [← hx] at hA
        rw [← hy] at hA'
        have NA : NumAt V0 g i x := ⟨_, _, _, _, c0, c1, hA⟩
        have NB : NumAt V0 gb i y := ⟨_, _, _, _, c0', c1', hA'⟩
        have g9 : IntKind.i64.wrap ((i : Int) + 1) = (i : Int) + 1 := IntWalk.i64_in _ (by omega)
        have hlt2 : ((i : Int) < n) = True := eq_true (by omega)
        have hsz := hB.size
        have hBH := hidd hB
        have hEH := hidd hE
        have HXX := hidd hx
        have HYY := hidd hy
        have HLT := hidd hlt
        clear hB hE c0 c1 hA c0' c1' hA' hx hy hlt
        have E := Fr.start V0
        by_cases he : x = y
        · have het : Hid (decide (x = y) = true) := decide_eq_true he
          have HEQ := hidd he
          clear he
          go_upto_region 6 with (fail)
          refine region_fr (C := [Fq.is (.slice (some ⟨g, 0, none⟩) n cap), Fq.is (.int .i64 i), Fq.is (.pointer (some ⟨g, i * 2, none⟩)), Fq.num x, Fq.is (.slice (some ⟨gb, 0, none⟩) n capb), Fq.is (.int .i64 i), Fq.is (.pointer (some ⟨gb, i * 2, none⟩)), Fq.num y, Fq.is (.bool true), Fq.is (.bool false)]) (ks := []) (new := []) E rfl (by kernel_rfl) rfl rfl (fun hp => ⟨?_, ?_, ?_, ?_, ?_, ?_, ?_, ?_, ?_, ?_, trivial⟩) ?_
          · exact q_move hp (free_of rfl) trivial (sq_out rfl rfl (fun _ _ => rfl))
          · exact q_move hp (free_of rfl) trivial (sq_out rfl rfl (fun _ _ => rfl))
          · exact q_indexN (b := g) (l := n) (c := cap) (k := i) hp (free_of rfl) trivial (sqi 0) (sqi 1) HLT.out (fun _ => rfl)
          · exact q_loadNumAt (i0 := i) hp (free_of rfl) trivial NA rfl (sqi 2) (fun v w h => h)
          · exact q_move hp (free_of rfl) trivial (sq_out rfl rfl (fun _ _ => rfl))
          · exact q_move hp (free_of rfl) trivial (sq_out rfl rfl (fun _ _ => rfl))
          · exact q_indexN (b := gb) (l := n) (c := capb) (k := i) hp (free_of rfl) trivial (sqi 4) (sqi 5) HLT.out (fun _ => rfl)
          · exact q_loadNumAt (i0 := i) hp (free_of rfl) trivial NB rfl (sqi 6) (fun v w h => h)
          · exact q_call2 (F := (Fq.num x).P) (G := (Fq.num y).P) hp (free_of rfl) trivial (enq_R_Same) (sqi 3) (sqi 7) (fun v v' w h h' => exRSameB h h' het.out)
          · exact q_one (F := fun v _ => v = .bool true) hp (free_of rfl) trivial (sqi 8) (fun ρ w _ h => ⟨.bool false, by simp [execOp, go_sem, h], rfl⟩)
          intro L vs w1 nb hL hC hn E1
          have e0 : vs 0 = .slice (some ⟨g, 0, none⟩) n cap := hC 0 (by simp)
          have e1 : vs 1 = .int .i64 i := hC 1 (by simp)
          have e2 : vs 2 = .pointer (some ⟨g, i * 2, none⟩) := hC 2 (by simp)
          have e4 : vs 4 = .slice (some ⟨gb, 0, none⟩) n capb := hC 4 (by simp)
          have e5 : vs 5 = .int .i64 i := hC 5 (by simp)
          have e6 : vs 6 = .pointer (some ⟨gb, i * 2, none⟩) := hC 6 (by simp)
          have e8 : vs 8 = .bool true := hC 8 (by simp)
          have e9 : vs 9 = .bool false := hC 9 (by simp)
          have E : Fr V0 [] w1 := E1
          rw [lay_all hL]
          simp only [putAll, dstOf, List.length_cons, List.length_nil, Nat.zero_add, Nat.reduceAdd, List.getElem?_toArray, List.getElem?_cons_zero, List.getElem?_cons_succ, Option.bind_some, Act.put, List.setIfInBounds_toArray, List.set_cons_succ, List.set_cons_zero]
          rw [e0, e1, e2, e4, e5, e6, e8, e9]
          generalize vs 3 = u1_3
          generalize vs 7 = u1_7
          clear e0 e1 e2 e4 e5 e6 e8 e9 hC hn E1 hL vs L nb
          have hB2 := hidd (hBH.out.trans (E.below.mono hsz))
          clear E hsz
          go_wp2
          go_roundw
          case rel => exact ⟨i + 1, by go_num, by have := HLT.out; omega, hB2.out, fun j hj => by
            rcases Nat.lt_or_ge j i with h | h
            · exact hEH.out j h
            · rw [show j = i by omega, ← HXX.out, ← HYY.out]; exact HEQ.out⟩
          case measure => have := HLT.out; simp [intOf]; omega
        · have het : Hid (decide (x = y) = false) := decide_eq_false he
          have HEQ := hidd he
          clear he
          go_upto_region 6 with (fail)
          refine region_fr (C := [Fq.is (.slice (some ⟨g, 0, none⟩) n cap), Fq.is (.int .i64 i), Fq.is (.pointer (some ⟨g, i * 2, none⟩)), Fq.num x, Fq.is (.slice (some ⟨gb, 0, none⟩) n capb), Fq.is (.int .i64 i), Fq.is (.pointer (some ⟨gb, i * 2, none⟩)), Fq.num y, Fq.is (.bool false), Fq.is (.bool true)]) (ks := []) (new := []) E rfl (by kernel_rfl) rfl rfl (fun hp => ⟨?_, ?_, ?_, ?_, ?_, ?_, ?_, ?_, ?_, ?_, trivial⟩) ?_
          · exact q_move hp (free_of rfl) trivial (sq_out rfl rfl (fun _ _ => rfl))
          · exact q_move hp (free_of rfl) trivial (sq_out rfl rfl (fun _ _ => rfl))
          · exact q_indexN (b := g) (l := n) (c := cap) (k := i) hp (free_of rfl) trivial (sqi 0) (sqi 1) HLT.out (fun _ => rfl)
          · exact q_loadNumAt (i0 := i) hp (free_of rfl) trivial NA rfl (sqi 2) (fun v w h => h)
          · exact q_move hp (free_of rfl) trivial (sq_out rfl rfl (fun _ _ => rfl))
          · exact q_move hp (free_of rfl) trivial (sq_out rfl rfl (fun _ _ => rfl))
          · exact q_indexN (b := gb) (l := n) (c := capb) (k := i) hp (free_of rfl) trivial (sqi 4) (sqi 5) HLT.out (fun _ => rfl)
          · exact q_loadNumAt (i0 := i) hp (free_of rfl) trivial NB rfl (sqi 6) (fun v w h => h)
          · exact q_call2 (F := (Fq.num x).P) (G := (Fq.num y).P) hp (free_of rfl) trivial (enq_R_Same) (sqi 3) (sqi 7) (fun v v' w h h' => exRSameB h h' het.out)
          · exact q_one (F := fun v _ => v = .bool false) hp (free_of rfl) trivial (sqi 8) (fun ρ w _ h => ⟨.bool true, by simp [execOp, go_sem, h], rfl⟩)
          intro L vs w1 nb hL hC hn E1
          have e0 : vs 0 = .slice (some ⟨g, 0, none⟩) n cap := hC 0 (by simp)
          have e1 : vs 1 = .int .i64 i := hC 1 (by simp)
          have e2 : vs 2 = .pointer (some ⟨g, i * 2, none⟩) := hC 2 (by simp)
          have e4 : vs 4 = .slice (some ⟨gb, 0, none⟩) n capb := hC 4 (by simp)
          have e5 : vs 5 = .int .i64 i := hC 5 (by simp)
          have e6 : vs 6 = .pointer (some ⟨gb, i * 2, none⟩) := hC 6 (by simp)
          have e8 : vs 8 = .bool false := hC 8 (by simp)
          have e9 : vs 9 = .bool true := hC 9 (by simp)
          have E : Fr V0 [] w1 := E1
          rw [lay_all hL]
          simp only [putAll, dstOf, List.length_cons, List.length_nil, Nat.zero_add, Nat.reduceAdd, List.getElem?_toArray, List.getElem?_cons_zero, List.getElem?_cons_succ, Option.bind_some, Act.put, List.setIfInBounds_toArray, List.set_cons_succ, List.set_cons_zero]
          rw [e0, e1, e2, e4, e5, e6, e8, e9]
          generalize vs 3 = u1_3
          generalize vs 7 = u1_7
          clear e0 e1 e2 e4 e5 e6 e8 e9 hC hn E1 hL vs L nb
          have hB2 := hidd (hBH.out.trans (E.below.mono hsz))
          clear E hsz
          go_wp2
          refine bodyPost_ret (v := .bool false) (by simp [results, Tryz.results21, go_sem]) rfl ⟨_, rfl, hB2.out, ?_⟩
          rw [decide_eq_false]
          intro e
          exact HEQ.out (by rw [HXX.out, HYY.out, e])
      · have hin : i = n := by omega
        have hF : Hid (xs = ys) := list_eq_of HLL.out fun j hj => hE j (by rw [hin, HN.out]; exact hj)
        have hBH := hidd hB
        clear hB hE
        go_wp2
        refine bodyPost_ret (v := .bool true) (by simp [results, Tryz.results21, go_sem]) rfl ⟨_, rfl, hBH.out, ?_⟩
        rw [decide_eq_true hF.out]
  · have hne : Hid (decide (xs = ys) = false) := decide_eq_false fun e => hl (by rw [e])
    have hl1 : ((xs.length : Int) = (ys.length : Int)) = False := eq_false (by omega)
    have hl2 : (((xs.length : Int)) == (ys.length : Int)) = false := by simp; omega
    clear hl
    go_enter Tryz.func21, Tryz.ntmps21
    go_wp2
    refine bodyPost_ret (v := .bool false) (by simp [results, Tryz.results21, go_sem]) rfl ⟨_, rfl, Below.refl _ _, ?_⟩
    rw [hne.out]

set_option maxRecDepth 100000 in
set_option maxHeartbeats 4000000 in
theorem exMRootsP {w : World} {v v' : Value} {a p k : Int} (h : Num w v a) (h' : Num w v' p) (ha : ab a < pw 90) (hm : ab p < pw 90) (hk : -9223372036854775808 ≤ k ∧ k ≤ 9223372036854775807) (h0 : 2 ≤ p) (h1 : 1 ≤ k) (hb : p ^ k.toNat ≤ 1048576) :
    Calls Tryz.prog 16 #[v, v', .int .i64 k] w fun e w' => ∃ v', e = .returned v' ∧ Below w.heap.size w w' ∧ ∃ l, v' = .tuple #[l, .int .i64 0] ∧ Nums w' l (lifts a p k.toNat) := by
  replace ha := hidd ha
  replace hm := hidd hm
  replace hk := hidd hk
  obtain ⟨n0, ao0, k0, c0, rfl⟩ := h.parts
  obtain ⟨n1, ao1, k1, c1, rfl⟩ := h'.parts
  obtain ⟨w1, b1, hw1, hb1, hs1, E⟩ := fr_start w (F := Fq.num a) (us := [.bool n0, .slice ao0 k0 c0]) 29 rfl (by simp) (tame_int _ _ _ _) h
  obtain ⟨w2, b2, hw2, hb2, hs2, E⟩ := fr_more E hs1 (F := Fq.num p) (us := [.bool n1, .slice ao1 k1 c1]) 29 rfl (by simp) (tame_int _ _ _ _) (h'.mono E.below)
  go_enter Tryz.func16, Tryz.ntmps16
  go_upto_region 1 with (fail)
  rw [← hw1]
  rw [← hw2]
  rw [← hb2]
  rw [← hb1]
  clear hw1 hw2 hb1 hb2 hs2 hs1
  have hpp : p ≤ 1048576 := by have := pow_mono_two h0 (show 1 ≤ k.toNat by omega); rw [Int.pow_succ, Int.pow_zero, Int.one_mul] at this; omega
  have HL := hidd (lowV_in (z := p) (by omega) (by omega))
  have HPR : Hid (2 ≤ p ∧ p < 9223372036854775808) := ⟨h0, by omega⟩
  have HKR : Hid (1 ≤ k ∧ k < 9223372036854775808) := ⟨h1, by have := hk.out; omega⟩
  have HD : Hid (decide (p ^ k.toNat ≤ 1048576) = true) := decide_eq_true hb
  have HB := hidd hb
  clear hpp hb hk
  have T1 : Hid (¬ cmpI p (2) < 0) := fun e => by have := cmpIqlt.1 e; omega
  have T2 : Hid (¬ k < 1) := by show ¬ _; omega
  have HP := hidd h0
  have HK := hidd h1
  clear h0 h1
  have B3 : Hid (ab ((2)) < pw 3) := ab_lit (by decide)
  refine region_fr (C := [Fq.num p, Fq.num (2), Fq.is (.int .i64 (cmpI p (2))), Fq.is (.bool false), Fq.is (.bool false), Fq.is (.int .i64 k), Fq.is (.bool false), Fq.is (.bool false)]) (ks := [none, none]) (new := []) E rfl (by kernel_rfl) rfl rfl (fun hp => ⟨?_, ?_, ?_, ?_, ?_, ?_, ?_, ?_, trivial⟩) ?_
  · exact q_loadInt (off := 0) hp (free_of rfl) trivial (List.mem_iff_getElem?.2 ⟨0, rfl⟩) (.inl rfl) (Nat.le_of_ble_eq_true rfl) (sq_out rfl rfl (fun _ _ => rfl)) (fun us w hl h => ld_num hl h)
  · exact q_call1 (F := (Fq.is (.int .i64 2)).P) hp (free_of rfl) trivial (enq_Of) (sq_const (fun _ => rfl)) (fun v w h => (by subst h; exact OfK w (2) (by omega) (by omega)))
  · exact q_call2 (F := (Fq.num p).P) (G := (Fq.num (2)).P) hp (free_of rfl) trivial (enq_Cmp) (sqi 0) (sqi 1) (fun v v' w h h' => exCmp h h')
  · exact q_one (F := fun v _ => v = .int .i64 (cmpI p (2))) hp (free_of rfl) trivial (sqi 2) (fun ρ w hc h => ⟨.bool false, by simp [execOp, go_sem, h, hc, T1.out], rfl⟩)
  · exact q_move hp (free_of rfl) trivial (sqi 3)
  · exact q_move hp (free_of rfl) (gq_some rfl rfl (by simp) rfl (fun v w h => h)) (sq_out rfl rfl (fun _ _ => rfl))
  · exact q_one (F := fun v _ => v = .int .i64 k) hp (free_of rfl) (gq_some rfl rfl (by simp) rfl (fun v w h => h)) (sqi 5) (fun ρ w hc h => ⟨.bool false, by simp [execOp, go_sem, h, hc, T2.out], rfl⟩)
  · exact q_two (F := fun v _ => v = .bool false) (G := fun v _ => v = .bool false) hp (free_of rfl) trivial (sqi 4) (sqi 6) (fun ρ w hc h h' => ⟨_, by simp [execOp, go_sem, h, h'], rfl⟩)
  intro L vs w4 nb hL hC hn E4
  have e2 : vs 2 = .int .i64 (cmpI p (2)) := hC 2 (by simp)
  have e3 : vs 3 = .bool false := hC 3 (by simp)
  have e4 : vs 4 = .bool false := hC 4 (by simp)
  have e5 : vs 5 = .int .i64 k := hC 5 (by simp)
  have e6 : vs 6 = .bool false := hC 6 (by simp)
  have e7 : vs 7 = .bool false := hC 7 (by simp)
  have E : Fr w [(b2, 2, Fq.num p), (b1, 2, Fq.num a)] w4 := E4
  rw [lay_all hL]
  simp only [putAll, dstOf, List.length_cons, List.length_nil, Nat.zero_add, Nat.reduceAdd, List.getElem?_toArray, List.getElem?_cons_zero, List.getElem?_cons_succ, Option.bind_some, Act.put, List.setIfInBounds_toArray, List.set_cons_succ, List.set_cons_zero]
  rw [e2, e3, e4, e5, e6, e7]
  generalize vs 0 = u4_0
  generalize vs 1 = u4_1
  clear e2 e3 e4 e5 e6 e7 hC hn E4 hL vs L nb
  clear T1 T2
  go_upto_region 3 with (fail)
  refine region_fr (C := [Fq.num p, Fq.tup2 (Fq.is (.int .i64 p)) (Fq.is (.bool true)), Fq.tup2 (Fq.is (.int .i64 p)) (Fq.is (.bool true)), Fq.is (.int .i64 p), Fq.is (.bool true), Fq.is (.int .i64 p), Fq.is (.bool true)]) (ks := [none, none]) (new := []) E rfl (by kernel_rfl) rfl rfl (fun hp => ⟨?_, ?_, ?_, ?_, ?_, ?_, ?_, trivial⟩) ?_
  · exact q_loadInt (off := 0) hp (free_of rfl) trivial (List.mem_iff_getElem?.2 ⟨0, rfl⟩) (.inl rfl) (Nat.le_of_ble_eq_true rfl) (sq_out rfl rfl (fun _ _ => rfl)) (fun us w hl h => ld_num hl h)
  · exact q_call1 (F := (Fq.num p).P) hp (free_of rfl) trivial (enq_Low) (sqi 0) (fun v w h => exLowQ h HL.out)
  · exact q_move hp (free_of rfl) trivial (sqi 1)
  · exact q_extract2 hp (free_of rfl) trivial (sqi 2) (fun v1 v2 w h1 h2 => ⟨_, rfl, h1⟩)
  · exact q_extract2 hp (free_of rfl) trivial (sqi 2) (fun v1 v2 w h1 h2 => ⟨_, rfl, h2⟩)
  · exact q_assign hp (free_of rfl) trivial (sqi 3)
  · exact q_assign hp (free_of rfl) trivial (sqi 4)
  intro L vs w5 nb hL hC hn E5
  have e3 : vs 3 = .int .i64 p := hC 3 (by simp)
  have e4 : vs 4 = .bool true := hC 4 (by simp)
  have e5 : vs 5 = .int .i64 p := hC 5 (by simp)
  have e6 : vs 6 = .bool true := hC 6 (by simp)
  have E : Fr w [(b2, 2, Fq.num p), (b1, 2, Fq.num a)] w5 := E5
  rw [lay_all hL]
  simp only [putAll, dstOf, List.length_cons, List.length_nil, Nat.zero_add, Nat.reduceAdd, List.getElem?_toArray, List.getElem?_cons_zero, List.getElem?_cons_succ, Option.bind_some, Act.put, List.setIfInBounds_toArray, List.set_cons_succ, List.set_cons_zero]
  rw [e3, e4, e5, e6]
  generalize vs 0 = u5_0
  generalize vs 1 = u5_1
  generalize vs 2 = u5_2
  clear e3 e4 e5 e6 hC hn E5 hL vs L nb
  go_upto_region 4 with (fail)
  refine region_fr (C := [Fq.is (.bool true), Fq.is (.bool false), Fq.is (.bool false), Fq.is (.int .i64 p), Fq.is (.int .i64 k), Fq.is (.bool true), Fq.is (.bool false), Fq.is (.bool false)]) (ks := [none, none]) (new := []) E rfl (by kernel_rfl) rfl rfl (fun hp => ⟨?_, ?_, ?_, ?_, ?_, ?_, ?_, ?_, trivial⟩) ?_
  · exact q_move hp (free_of rfl) trivial (sq_out rfl rfl (fun _ _ => rfl))
  · exact q_one (F := fun v _ => v = .bool true) hp (free_of rfl) trivial (sqi 0) (fun ρ w _ h => ⟨.bool false, by simp [execOp, go_sem, h], rfl⟩)
  · exact q_move hp (free_of rfl) trivial (sqi 1)
  · exact q_move hp (free_of rfl) (gq_some rfl rfl (by simp) rfl (fun v w h => h)) (sq_out rfl rfl (fun _ _ => rfl))
  · exact q_move hp (free_of rfl) (gq_some rfl rfl (by simp) rfl (fun v w h => h)) (sq_out rfl rfl (fun _ _ => rfl))
  · exact q_call2 (F := (Fq.is (.int .i64 p)).P) (G := (Fq.is (.int .i64 k)).P) hp (free_of rfl) (gq_some rfl rfl (by simp) rfl (fun v w h => h)) (enq_M_smallPower) (sqi 3) (sqi 4) (fun v v' w h h' => (by subst h; subst h'; exact exSmallPower HPR.out HKR.out HD.out))
  · exact q_one (F := fun v _ => v = .bool true) hp (free_of rfl) (gq_some rfl rfl (by simp) rfl (fun v w h => h)) (sqi 5) (fun ρ w _ h => ⟨.bool false, by simp [execOp, go_sem, h], rfl⟩)
  · exact q_two (F := fun v _ => v = .bool false) (G := fun v _ => v = .bool false) hp (free_of rfl) trivial (sqi 2) (sqi 6) (fun ρ w hc h h' => ⟨_, by simp [execOp, go_sem, h, h'], rfl⟩)
  intro L vs w6 nb hL hC hn E6
  have e0 : vs 0 = .bool true := hC 0 (by simp)
  have e1 : vs 1 = .bool false := hC 1 (by simp)
  have e2 : vs 2 = .bool false := hC 2 (by simp)
  have e3 : vs 3 = .int .i64 p := hC 3 (by simp)
  have e4 : vs 4 = .int .i64 k := hC 4 (by simp)
  have e5 : vs 5 = .bool true := hC 5 (by simp)
  have e6 : vs 6 = .bool false := hC 6 (by simp)
  have e7 : vs 7 = .bool false := hC 7 (by simp)
  have E : Fr w [(b2, 2, Fq.num p), (b1, 2, Fq.num a)] w6 := E6
  rw [lay_all hL]
  simp only [putAll, dstOf, List.length_cons, List.length_nil, Nat.zero_add, Nat.reduceAdd, List.getElem?_toArray, List.getElem?_cons_zero, List.getElem?_cons_succ, Option.bind_some, Act.put, List.setIfInBounds_toArray, List.set_cons_succ, List.set_cons_zero]
  rw [e0, e1, e2, e3, e4, e5, e6, e7]
  clear e0 e1 e2 e3 e4 e5 e6 e7 hC hn E6 hL vs L nb
  clear HL HD
  obtain ⟨p0, p1, c0, c1, hP⟩ := box_num (E.box 1 rfl)
  have HE := hidd E.below
  have HPN := hidd hP
  clear E hP
  have HA90 := Bd90.mk ha.out
  have HM90 := Bd90.mk hm.out
  clear ha hm
  clear B3 HP HK
  obtain ⟨xs, hxs⟩ : ∃ xs, xs = lifts a p k.toNat := ⟨_, rfl⟩
  have HC := liftedRoots_any HPN.out HA90.out HPR.out.1 HKR.out HB.out
  rw [← hxs] at HC
  have HXE := hidd hxs
  clear hxs
  go_wp2_with (first | (go_at_call 48; refine HC.mono ?_; rintro e V ⟨lv, rfl, hbV, hLV⟩; obtain ⟨ao, cap, rfl⟩ := hLV.shape) | fail)
  have HBV := hidd (HE.out.trans (hbV.mono HE.out.size))
  have HLI := hidd hLV
  clear hbV hLV c0 c1
  have hlen := lifts_len (a := a) HPR.out.1 k.toNat
  have HRG := hidd (lifts_range (a := a) HPR.out.1 k.toNat)
  have HB2 := HB.out
  rw [← HXE.out] at hlen HRG
  have HXS : Hid (∀ i, i < xs.length → 0 ≤ xs.getD i 0 ∧ xs.getD i 0 < 1048576) := fun i hi => by
    have := HRG.out _ (getD_mem hi)
    omega
  have hlen2 : Hid (xs.length ≤ 1048576) := by show _ ≤ _; omega
  clear hlen HRG HB HB2 HPN HC
  obtain ⟨i0, hi, hz0, hz1, hz2⟩ := info_parts info_int
  have HSZ := hidd HBV.out.size
  go_wp2
  go_loopw [10, 39] (fun vl vi W => ∃ i : Nat, vi = .int .i64 i ∧ i ≤ xs.length ∧ Ln W V.heap.size vl (xs.take i) ∧ Below V.heap.size V W) (fun _ vi _ => xs.length - (intOf vi).toNat)
  case atStart => exact ⟨0, rfl, Nat.zero_le _, Ln.nil _ _, Below.refl _ _⟩
  case round =>
    obtain ⟨V2, rfl⟩ : ∃ V2, V2 = wr := ⟨_, rfl⟩
    obtain ⟨i, rfl, hix, HL2, HB2⟩ := hrel
    have hl0 := hlen2.out
    by_cases hil : i < xs.length
    · obtain ⟨ad, hao, hc⟩ := (HLI.out.mono HB2).cell hil
      subst hao
      obtain ⟨x, hx⟩ : ∃ x, x = xs.getD i 0 := ⟨_, rfl⟩
      have hxr := HXS.out i hil
      rw [← hx] at hc hxr
      have HXR : Hid (0 ≤ x ∧ x ≤ 9223372036854775807) := ⟨hxr.1, by omega⟩
      have HT : Hid (xs.take (i + 1) = xs.take i ++ [x]) := by
        show _ = _
        rw [List.take_succ_eq_append_getElem hil, hx]
        simp [hil]
      have htl : (xs.take i).length = i := by rw [List.length_take]; omega
      obtain ⟨ao2, cap2, rfl⟩ := HL2.shape
      obtain ⟨us, hO, hE⟩ := HL2
      have hsz3 := HB2.size
      have g9 : IntKind.i64.wrap ((i : Int) + 1) = (i : Int) + 1 := IntWalk.i64_in _ (by omega)
      have HLT := hidd hil
      obtain ⟨ys, hys⟩ : ∃ ys, ys = xs.take i := ⟨_, rfl⟩
      rw [← hys] at hO hE htl HT ⊢
      have hyl : ys.length ≤ 1048576 := by omega
      have HTL := hidd htl
      have HO := hidd hO
      have HE2 := hidd hE
      have HB2H := hidd HB2
      clear hx hxr hO hE hys HB2 htl
      go_wp2_with (first | (go_at_call 45; refine (OfNew _ x HXR.out.1 HXR.out.2).mono ?_; rintro e w5 ⟨ng, ao5, n5, c5, rfl, hnew, hN, hB5⟩) | (at_builtin; (refine wpList_append_lies (n := ys.length) (xs := us) _ rfl _ _ 43 rfl V.heap.size 29 i0 (.agg #[.bool false, .slice none 0 0]) 2 32 Tryz.underlying43 hi hz0 hz1 hz2 rfl (by decide) _ rfl (World.ownsRow.alloc (owns_below HO.out hB5) _) ⟨_, 0, none⟩ 1 1 [.bool ng, .slice ao5 n5 c5] rfl rfl (World.news_of_block (heap_alloc_new _ _)) (by intro u hu; simp at hu; rcases hu with rfl | rfl <;> rfl) (by decide) (by unfold maxLen; omega) (by omega) (Nat.le_trans hsz3 (Nat.le_trans hB5.size (by simp))) _ rfl ?_; intro g cap w6 hown' hgrow hat hlt)) | fail)
      obtain ⟨hS, hS2⟩ := Ln.step HO.out HE2.out hsz3 HB2H.out hB5 hnew hN hown' hgrow hat rfl
      have hS4 := hidd hS
      have hS5 := hidd hS2
      clear hown' hgrow hat hlt hS hS2 hnew hN hB5 HO HE2
      go_wp2
      go_roundw
      case rel => exact ⟨i + 1, by go_num, by omega, by rw [HT.out]; exact hS4.out, hS5.out⟩
      case measure => simp [intOf]; omega
    · have he : i = xs.length := by omega
      have HF : Hid (Ln V2 V.heap.size u10 xs) := by
        show Ln _ _ _ _
        rw [he, List.take_length] at HL2
        exact HL2
      have HBF := hidd (HBV.out.trans (HB2.mono HBV.out.size))
      clear HL2 HB2 he
      go_wp2
      refine bodyPost_ret (v := .tuple #[u10, .int .i64 0]) (by simp [results, Tryz.results16, go_sem]) rfl ⟨_, rfl, HBF.out, _, rfl, by rw [← HXE.out]; exact HF.out.nums⟩

end Go.Proofs.YtieobgadihcgeaaGreatDoor

namespace Go.Proofs.YtieobgadihcgeaaGreatDoor
open Go Go.RowKit

def IntsV (w : World) (us : List Value) (zs : List Int) : Prop := us.length = zs.length * 2 ∧ ∀ i z, zs[i]? = some z → ∃ n ao k c, us.getD (i * 2) undef = .bool n ∧ us.getD (i * 2 + 1) undef = .slice ao k c ∧ Num w (.agg #[.bool n, .slice ao k c]) z
def Fq.ints (zs : List Int) : Fq := ⟨fun v w => ∃ us : List Value, v = .agg us.toArray ∧ IntsV w us zs,
  fun ⟨us, e, hl, h⟩ hb => ⟨us, e, hl, fun i z hi => by obtain ⟨n, ao, k, c, g1, g2, g3⟩ := h i z hi; exact ⟨n, ao, k, c, g1, g2, g3.mono hb⟩⟩,
  fun ⟨us, e, hl, h⟩ ha ht hl2 => ⟨us, e, hl, fun i z hi => by obtain ⟨n, ao, k, c, g1, g2, g3⟩ := h i z hi; exact ⟨n, ao, k, c, g1, g2, g3.putAt ha ht hl2⟩⟩⟩
theorem Bq.nums {w : World} {b m l : Nat} {zs : List Int} (h : Bq w b m (Fq.ints zs)) (hm : m = zs.length * 2) (hl : l = zs.length) : Nums w (.slice (some ⟨b, 0, none⟩) l l) zs := by
  have hlt := h.lt
  obtain ⟨us, h1, h2, h3, h4, us2, e, h5, h6⟩ := h
  injection e with e
  have e2 := congrArg Array.toList e
  simp at e2
  subst e2
  subst hl
  refine ⟨_, _, rfl, .inr ⟨b, rfl, hlt, fun i z hi => ?_⟩⟩
  have hil : i < zs.length := by
    rcases Nat.lt_or_ge i zs.length with h | h
    · exact h
    · rw [List.getElem?_eq_none h] at hi; cases hi
  obtain ⟨n, ao, k, c, g1, g2, g3⟩ := h6 i z hi
  exact ⟨n, ao, k, c, (h3 (i * 2) (by omega)).1.trans (by rw [g1]), (h3 (i * 2 + 1) (by omega)).1.trans (by rw [g2]), g3⟩
def Fq.three (n1 : Bool) (a1 : Option Addr) (k1 c1 : Nat) (xs1 : List Int) (n2 : Bool) (a2 : Option Addr) (k2 c2 : Nat) (xs2 : List Int) (n3 : Bool) (a3 : Option Addr) (k3 c3 : Nat) (xs3 : List Int) : Fq :=
  ⟨fun v w => v = .agg #[.bool n1, .slice a1 k1 c1, .bool n2, .slice a2 k2 c2, .bool n3, .slice a3 k3 c3] ∧ Sl w a1 k1 c1 xs1 ∧ Sl w a2 k2 c2 xs2 ∧ Sl w a3 k3 c3 xs3,
    fun h hb => ⟨h.1, h.2.1.mono hb, h.2.2.1.mono hb, h.2.2.2.mono hb⟩, fun h ha ht hl => ⟨h.1, h.2.1.putAt ha ht hl, h.2.2.1.putAt ha ht hl, h.2.2.2.putAt ha ht hl⟩⟩
theorem tame_three (n1 : Bool) (a1 : Option Addr) (k1 c1 : Nat) (n2 : Bool) (a2 : Option Addr) (k2 c2 : Nat) (n3 : Bool) (a3 : Option Addr) (k3 c3 : Nat) : Tame [.bool n1, .slice a1 k1 c1, .bool n2, .slice a2 k2 c2, .bool n3, .slice a3 k3 c3] := by
  intro u hu q e
  simp at hu
  rcases hu with rfl | rfl | rfl | rfl | rfl | rfl <;> cases e
section
variable {n1 n2 n3 : Bool} {a1 a2 a3 : Option Addr} {k1 c1 k2 c2 k3 c3 : Nat} {xs1 xs2 xs3 : List Int}
theorem three_parts {us : List Value} {w : World} (_hl : us.length = 6) (h : (Fq.three n1 a1 k1 c1 xs1 n2 a2 k2 c2 xs2 n3 a3 k3 c3 xs3).P (.agg us.toArray) w) : us = [.bool n1, .slice a1 k1 c1, .bool n2, .slice a2 k2 c2, .bool n3, .slice a3 k3 c3] ∧ Sl w a1 k1 c1 xs1 ∧ Sl w a2 k2 c2 xs2 ∧ Sl w a3 k3 c3 xs3 := by
  obtain ⟨e, h⟩ := h
  injection e with e
  exact ⟨by simpa using congrArg Array.toList e, h⟩
theorem ld_three0 {us : List Value} {w : World} (hl : us.length = 6) (h : (Fq.three n1 a1 k1 c1 xs1 n2 a2 k2 c2 xs2 n3 a3 k3 c3 xs3).P (.agg us.toArray) w) : (Fq.raw n1 a1 k1 c1 xs1).P (.agg #[us.getD 0 undef, us.getD (0 + 1) undef]) w := by
  obtain ⟨rfl, h1, h2, h3⟩ := three_parts hl h
  exact ⟨rfl, h1⟩
theorem ld_three1 {us : List Value} {w : World} (hl : us.length = 6) (h : (Fq.three n1 a1 k1 c1 xs1 n2 a2 k2 c2 xs2 n3 a3 k3 c3 xs3).P (.agg us.toArray) w) : (Fq.raw n2 a2 k2 c2 xs2).P (.agg #[us.getD 2 undef, us.getD (2 + 1) undef]) w := by
  obtain ⟨rfl, h1, h2, h3⟩ := three_parts hl h
  exact ⟨rfl, h2⟩
theorem ld_three2 {us : List Value} {w : World} (hl : us.length = 6) (h : (Fq.three n1 a1 k1 c1 xs1 n2 a2 k2 c2 xs2 n3 a3 k3 c3 xs3).P (.agg us.toArray) w) : (Fq.raw n3 a3 k3 c3 xs3).P (.agg #[us.getD 4 undef, us.getD (4 + 1) undef]) w := by
  obtain ⟨rfl, h1, h2, h3⟩ := three_parts hl h
  exact ⟨rfl, h3⟩
end

section
variable {os : List Oper} {Q : Exit → Act → World → Prop} {a : Act} {p : Pq} {B B0 : Nat} {w0 : World}
variable {i s : Nat} {d : Option Tmp} {ty : TypeId} {ps : String} {af : Array Edge} {gd : Option (Nat × Bool)}
theorem q_buildInts4 {n0 : Nb} {x y z t : Operand} {z1 z2 z3 z4 : Int} (hp : p.Ok B B0) (hg : GdQ os a p B B0 w0 af gd) (hi : n0 ∈ p.new) (hii : n0.i = i) (hki : n0.k = i) (hsl : n0.s = some 4) (hm : n0.m = 8) (hF1 : n0.F1 = Fq.ints [z1, z2, z3, z4])
    (hx : SrcQ os a p B B0 w0 af x fun v w => Num w v z1) (hy : SrcQ os a p B B0 w0 af y fun v w => Num w v z2) (hz : SrcQ os a p B B0 w0 af z fun v w => Num w v z3) (ht : SrcQ os a p B B0 w0 af t fun v w => Num w v z4)
    (hC : ∀ v w', (p.c i).P v w') (h1 : ∀ o ∈ p.old, o.k ≠ i) (h2 : ∀ n ∈ p.new, n.i ≠ i → n.k ≠ i) :
    StepQ os Q a p B B0 w0 i { dst := d, op := .buildSlice 43 4 #[(0, x), (1, y), (2, z), (3, t)], type := ty, pos := ps, after := af, guard := gd } := by
  intro hio L vs w hG hL hd hc
  have p1 := hx L vs w hG hd
  have p2 := hy L vs w hG hd
  have p3 := hz L vs w hG hd
  have p4 := ht L vs w hG hd
  obtain ⟨m1, a1, k1, c1, e1⟩ := p1.parts
  obtain ⟨m2, a2, k2, c2, e2⟩ := p2.parts
  obtain ⟨m3, a3, k3, c3, e3⟩ := p3.parts
  obtain ⟨m4, a4, k4, c4, e4⟩ := p4.parts
  rw [e1] at p1
  rw [e2] at p2
  rw [e3] at p3
  rw [e4] at p4
  obtain ⟨us, hus⟩ : ∃ us : List Value, us = [.bool m1, .slice a1 k1 c1, .bool m2, .slice a2 k2 c2, .bool m3, .slice a3 k3 c3, .bool m4, .slice a4 k4 c4] := ⟨_, rfl⟩
  refine wpOp_step hio fun K' hK => ?_
  rw [if_pos (wanted_of (o := { dst := d, op := .buildSlice 43 4 #[(0, x), (1, y), (2, z), (3, t)], type := ty, pos := ps, after := af, guard := gd }) hg hG hd)]
  have e : (execOp (lay os.toArray L vs os.toArray.size a).eval ({ dst := d, op := .buildSlice 43 4 #[(0, x), (1, y), (2, z), (3, t)], type := ty, pos := ps, after := af, guard := gd } : Oper)).run Tryz.prog w = .ok (.value (.slice (some ⟨w.heap.size, 0, none⟩) 4 4)) (w.alloc (.cells us.toArray 29)) := by
    generalize (lay os.toArray L vs os.toArray.size a).eval = ρ at e1 e2 e3 e4
    simp [execOp, go_sem, e1, e2, e3, e4, hus]
  unfold Oper.wp
  rw [e]
  have hb := alloc_below w (.cells us.toArray 29)
  subst hii
  have hnow : n0.now (up L n0.i true) = n0.F1 := by
    unfold Nb.now
    rw [hsl]
    rfl
  have hlay := hG.lay hp hi (F := n0.F1) hnow hC h1 h2 29 (us := us) (by rw [hus, hm]; rfl) (by omega) (by
      rw [hus]
      intro u hu q e
      simp at hu
      rcases hu with rfl | rfl | rfl | rfl | rfl | rfl | rfl | rfl <;> cases e) (by
      rw [hF1]
      refine ⟨us, rfl, by rw [hus]; rfl, fun k n hk => ?_⟩
      rw [hus]
      rw [hus] at hb
      match k, hk with
      | 0, hk => injection hk with q1; subst q1; exact ⟨_, _, _, _, rfl, rfl, p1.mono hb⟩
      | 1, hk => injection hk with q1; subst q1; exact ⟨_, _, _, _, rfl, rfl, p2.mono hb⟩
      | 2, hk => injection hk with q1; subst q1; exact ⟨_, _, _, _, rfl, rfl, p3.mono hb⟩
      | 3, hk => injection hk with q1; subst q1; exact ⟨_, _, _, _, rfl, rfl, p4.mono hb⟩
      | k + 4, hk => simp at hk)
  have hptr : n0.ptr w.heap.size = .slice (some ⟨w.heap.size, 0, none⟩) 4 4 := by unfold Nb.ptr; rw [hsl]
  rw [hptr] at hlay
  exact hK _ _ ⟨_, rfl, hlay⟩
theorem q_call0W {f : FuncId} {ts : Array TypeId} (hp : p.Ok B B0) (hF : p.Free i) (hg : GdQ os a p B B0 w0 af gd) (hen : ∀ args w, (callFunc f args).run Tryz.prog w = .ok (.enter f args) w) (hB : B = w0.heap.size)
    (hC : ∀ w, Below w0.heap.size w0 w → Calls Tryz.prog f #[] w fun e w' => ∃ v', e = .returned v' ∧ Below w.heap.size w w' ∧ (p.c i).P v' w') :
    StepQ os Q a p B B0 w0 i { dst := d, op := .call { callee := .value (.func f), args := #[], argTypes := ts }, type := ty, pos := ps, after := af, guard := gd } := by
  subst hB
  exact stq_call hp hF hg hen fun L vs w hG _ => ⟨#[], by simp, hC w hG.below⟩
theorem q_callWSl {n0 : Nb} {x y : Operand} {l : Nat} {F : Value → World → Prop} {f : FuncId} {ts : Array TypeId} (hp : p.Ok B B0) (hF : p.Free i) (hg : GdQ os a p B B0 w0 af gd) (hen : ∀ args w, (callFunc f args).run Tryz.prog w = .ok (.enter f args) w) (hB : B = w0.heap.size) (hi : n0 ∈ p.new) (hsl : n0.s = some (.sl l))
    (hx : SrcQ os a p B B0 w0 af x F) (hy : ∀ L vs w, p.G B B0 w0 L vs w → (∀ e ∈ af, Region.binds .any e = true → L e.on = true) → L n0.i = true ∧ (lay os.toArray L vs os.toArray.size a).eval y = vs n0.i)
    (hC : ∀ v b w, Below w0.heap.size w0 w → F v w → Bq w b n0.m n0.F1 → Calls Tryz.prog f #[v, .slice (some ⟨b, 0, none⟩) l l] w fun e w' => ∃ v', e = .returned v' ∧ Below w.heap.size w w' ∧ (p.c i).P v' w') :
    StepQ os Q a p B B0 w0 i { dst := d, op := .call { callee := .value (.func f), args := #[x, y], argTypes := ts }, type := ty, pos := ps, after := af, guard := gd } :=
  stq_call hp hF hg hen fun L vs w hG hd => by
    subst hB
    obtain ⟨hLi, hye⟩ := hy L vs w hG hd
    obtain ⟨b, e1, _, hb⟩ := hG.new _ hi hLi
    have hptr : n0.ptr b = .slice (some ⟨b, 0, none⟩) l l := by unfold Nb.ptr; rw [hsl]
    have hnow : n0.now L = n0.F1 := by
      unfold Nb.now
      rw [hsl]
      rfl
    rw [hnow] at hb
    refine ⟨#[(lay os.toArray L vs os.toArray.size a).eval x, .slice (some ⟨b, 0, none⟩) l l], ?_, hC _ b w hG.below (hx L vs w hG hd) hb⟩
    have hm : #[x, y].map (lay os.toArray L vs os.toArray.size a).eval = #[(lay os.toArray L vs os.toArray.size a).eval x, (lay os.toArray L vs os.toArray.size a).eval y] := by
      generalize (lay os.toArray L vs os.toArray.size a).eval = ρ
      simp
    rw [hm, hye, e1, hptr]
theorem op_allocGot {ops : Array Oper} {K : Act → World → Prop} {w : World} (ho : ops[i]? = some { dst := d, op := .alloc 38, type := ty, pos := ps, after := af, guard := none })
    (h : K (a.put d (.pointer (some ⟨w.heap.size, 0, none⟩))) (w.alloc (.cells zeroGot.toArray 38))) : wpOp Tryz.prog ops Q i K a w := by
  refine wpOp_step ho fun K' hK => ?_
  have e : (execOp a.eval ({ dst := d, op := .alloc 38, type := ty, pos := ps, after := af, guard := none } : Oper)).run Tryz.prog w = (.ok (.value (.pointer (some ⟨w.heap.size, 0, none⟩))) (w.alloc (.cells zeroGot.toArray 38))) := by
    generalize a.eval = ρ
    simp [execOp, go_sem, zeroGot]
  have hwn : Region.wanted ({ dst := d, op := .alloc 38, type := ty, pos := ps, after := af, guard := none } : Oper) (yielded ops a.tmps) = true := rfl
  rw [if_pos hwn]
  unfold Oper.wp
  rw [e]
  exact hK _ _ h
theorem q_allocGot {n0 : Nb} (hp : p.Ok B B0) (hi : n0 ∈ p.new) (hii : n0.i = i) (hsl : n0.s = none) (hm : n0.m = 3) (hk : leadsB os 9 n0.k i = true) (hki : n0.k ≠ i) (hC : ∀ v w', (p.c i).P v w') (h1 : ∀ o ∈ p.old, o.k ≠ i) (h2 : ∀ n ∈ p.new, n.k ≠ i) (hF : ∀ w', n0.F0.P (.agg zeroGot.toArray) w') :
    StepQ os Q a p B B0 w0 i { dst := d, op := .alloc 38, type := ty, pos := ps, after := af, guard := none } := by
  subst hii
  intro hio L vs w hG hL hd hc
  exact op_allocGot hio ⟨_, rfl, hG.alloc hp hi hsl (not_yet hc hk hL) hki hC h1 h2 _ (us := zeroGot) hm.symm (by omega) (tame_got _ _ _ _ _) hF⟩
theorem q_storeNewGot {n0 : Nb} {x y : Operand} (hp : p.Ok B B0) (hi : n0 ∈ p.new) (hki : n0.k = i) (hsl : n0.s = none) (hm : n0.m = 3) (hx : ∀ L vs w, p.G B B0 w0 L vs w → (∀ e ∈ af, Region.binds .any e = true → L e.on = true) → L n0.i = true ∧ (lay os.toArray L vs os.toArray.size a).eval x = vs n0.i) (hy : SrcQ os a p B B0 w0 af y (GotV n0.F1))
    (hC : ∀ v w', (p.c i).P v w') (h1 : ∀ o ∈ p.old, o.k ≠ i) (h2 : ∀ n ∈ p.new, n.i ≠ i) : StepQ os Q a p B B0 w0 i { dst := none, op := .store 38 x y, type := ty, pos := ps, after := af, guard := none } := by
  subst hki
  intro hio L vs w hG hL hd hc
  obtain ⟨hLi, hxe⟩ := hx L vs w hG hd
  obtain ⟨n, ao, k, c, r, e, hP⟩ := hy L vs w hG hd
  obtain ⟨b, e1', e2, us, g1, g2, g3, g4, g5⟩ := hG.new _ hi hLi
  have e1 : vs n0.i = .pointer (some ⟨b, 0, none⟩) := by rw [e1']; unfold Nb.ptr; rw [hsl]
  rw [e] at hP
  exact op_storeGot hio (hxe.trans e1) e g3 (by omega) ⟨undef, rfl, hG.storeNew hp hi hLi (us := [.bool n, .slice ao k c, .int .i64 r]) hm.symm (tame_got _ _ _ _ _) hP hC h1 h2 e1' _⟩
end
end Go.Proofs.YtieobgadihcgeaaGreatDoor

namespace Go.Proofs.YtieobgadihcgeaaGreatDoor
open Go Go.RowKit

def Fm.lst (zs : List Int) (e : Int) : Fm := ⟨fun v w => ∃ l, v = .tuple #[l, .int .i64 e] ∧ Nums w l zs, fun ⟨l, h1, h2⟩ hb => ⟨l, h1, h2.mono hb⟩⟩
def Fm.nums (zs : List Int) : Fm := ⟨fun v w => Nums w v zs, fun h hb => h.mono hb⟩
def Fm.agg (zs : List Int) (e : Int) : Fm := ⟨fun v w => ∃ l, v = .agg #[l, .int .i64 e] ∧ Nums w l zs, fun ⟨l, h1, h2⟩ hb => ⟨l, h1, h2.mono hb⟩⟩
section
variable {os : List Oper} {Q : Exit → Act → World → Prop} {a : Act} {p : Plan} {B B0 : Nat} {w0 : World}
end

section
variable {os : List Oper} {Q : Exit → Act → World → Prop} {a : Act} {p : Plan} {B B0 : Nat} {w0 : World}
variable {i s : Nat} {d : Option Tmp} {ty : TypeId} {ps : String} {af : Array Edge} {gd : Option (Nat × Bool)}
end

end Go.Proofs.YtieobgadihcgeaaGreatDoor

namespace Go.Proofs.YtieobgadihcgeaaGreatDoor
open Go Go.RowKit

theorem exCrtEx1 {w : World} {v v' u u' : Value} (h : Num w v 2) (h' : Num w v' 3) (g : Num w u 3) (g' : Num w u' 4) :
    Calls Tryz.prog 18 #[v, v', u, u'] w fun e w' => ∃ v', e = .returned v' ∧ Below w.heap.size w w' ∧ (Fq.tup3 (Fq.num 11) (Fq.num 12) (Fq.is (.int .i64 0))).P v' w' := by
  have := exCrtP h h' g g' (lit100 (ab_lit (by decide))) (lit100 (ab_lit (by decide))) (lit100 (ab_lit (by decide))) (lit100 (ab_lit (by decide))) (by decide) (by decide) (by decide)
  rw [crtR_ex] at this
  exact this
theorem exCrtEx2 {w : World} {v v' u u' : Value} (h : Num w v 0) (h' : Num w v' 4) (g : Num w u 1) (g' : Num w u' 6) :
    Calls Tryz.prog 18 #[v, v', u, u'] w fun e w' => ∃ v', e = .returned v' ∧ Below w.heap.size w w' ∧ (Fq.tup3 (Fq.num 0) (Fq.num 0) (Fq.is (.int .i64 6))).P v' w' :=
  exCrtN h h' g g' (lit100 (ab_lit (by decide))) (lit100 (ab_lit (by decide))) (lit100 (ab_lit (by decide))) (lit100 (ab_lit (by decide))) (by decide) (by decide) (by decide)
theorem exKronL {w : World} {v v' : Value} {a n r : Int} (h : Num w v a) (h' : Num w v' n) (hT : Tabs w) (ha : ab a < pw 3) (hn : ab n < pw 3) (hr : kron a n = r) :
    Calls Tryz.prog 14 #[v, v'] w fun e w' => ∃ v', e = .returned v' ∧ Below w.heap.size w w' ∧ v' = .int .i64 r := by
  subst hr
  exact exKronecker h h' hT (lit100 ha) (lit100 hn)
theorem exRoots123 {w : World} {v v' : Value} (h : Num w v 1) (h' : Num w v' 2) : Calls Tryz.prog 16 #[v, v', .int .i64 3] w fun e w' => ∃ v', e = .returned v' ∧ Below w.heap.size w w' ∧ ∃ l, v' = .tuple #[l, .int .i64 0] ∧ Nums w' l [1, 3, 5, 7] := by
  have := exMRootsP (k := 3) h h' (lit90 (ab_lit (by decide))) (lit90 (ab_lit (by decide))) (by decide) (by decide) (by decide) (by decide)
  rw [show lifts 1 2 (3 : Int).toNat = [1, 3, 5, 7] from lifts_ex] at this
  exact this
theorem exSameListB {w : World} {v v' : Value} {xs ys : List Int} {t : Bool} (h : Nums w v xs) (h' : Nums w v' ys) (hx : xs.length < 9223372036854775807) (hy : ys.length < 9223372036854775807) (ht : decide (xs = ys) = t) :
    Calls Tryz.prog 21 #[v, v'] w fun e w' => ∃ v', e = .returned v' ∧ Below w.heap.size w w' ∧ v' = .bool t := by
  subst ht
  exact exSameList h h' hx hy
set_option maxRecDepth 100000 in
set_option maxHeartbeats 4000000 in
theorem exVExamples {w : World} (hT : Tabs w) :
    Calls Tryz.prog 4 #[] w fun e w' => ∃ v', e = .returned v' ∧ Below w.heap.size w w' ∧ v' = .bool true := by
  replace hT := hidd hT
  go_enter Tryz.func4, Tryz.ntmps4
  go_upto_region 1 with (fail)
  go_wp2_with fail
  refine (exVOf (z := 1) (by omega)).mono ?_
  rintro e w1 ⟨v1, rfl, hb1, hv1⟩
  go_wp2_with fail
  refine (exVOf (z := 2) (by omega)).mono ?_
  rintro e w2 ⟨v2, rfl, hb2, hv2⟩
  go_wp2_with fail
  refine (exRoots123 (hv1.mono hb2) hv2).mono ?_
  rintro e w3 ⟨v3, rfl, hb3, l, rfl, hl⟩
  have HB : Hid (Below w.heap.size w w3) := (hb1.trans (hb2.mono hb1.size)).trans (hb3.mono (Nat.le_trans hb1.size hb2.size))
  have HT : Hid (Tabs w3) := hT.out.mono HB.out
  have HL := hidd hl
  clear hb1 hb2 hb3 hv1 hv2 hl hT
  have E := Fr.start w3
  go_upto_region 2 with (fail)
  have B1 : Hid (ab ((2)) < pw 3) := ab_lit (by decide)
  have B2 : Hid (ab ((3)) < pw 3) := ab_lit (by decide)
  have B3 : Hid (ab ((4)) < pw 3) := ab_lit (by decide)
  refine region_fr (C := [Fq.num (2), Fq.num (3), Fq.num (3), Fq.num (4), Fq.tup3 (Fq.num 11) (Fq.num 12) (Fq.is (.int .i64 0)), Fq.tup3 (Fq.num 11) (Fq.num 12) (Fq.is (.int .i64 0)), Fq.num 11, Fq.num 12, Fq.is (.int .i64 0), Fq.any, Fq.any, Fq.any, Fq.any, Fq.is (.int .i64 0)]) (ks := []) (new := [⟨9, 11, 2, Fq.num 0, Fq.num 11, none⟩, ⟨10, 12, 2, Fq.num 0, Fq.num 12, none⟩]) E rfl (by kernel_rfl) rfl rfl (fun hp => ⟨?_, ?_, ?_, ?_, ?_, ?_, ?_, ?_, ?_, ?_, ?_, ?_, ?_, ?_, trivial⟩) ?_
  · exact q_call1 (F := (Fq.is (.int .i64 2)).P) hp (free_of rfl) trivial (enq_V_of) (sq_const (fun _ => rfl)) (fun v w h => (by subst h; exact exVOf (by omega)))
  · exact q_call1 (F := (Fq.is (.int .i64 3)).P) hp (free_of rfl) trivial (enq_V_of) (sq_const (fun _ => rfl)) (fun v w h => (by subst h; exact exVOf (by omega)))
  · exact q_call1 (F := (Fq.is (.int .i64 3)).P) hp (free_of rfl) trivial (enq_V_of) (sq_const (fun _ => rfl)) (fun v w h => (by subst h; exact exVOf (by omega)))
  · exact q_call1 (F := (Fq.is (.int .i64 4)).P) hp (free_of rfl) trivial (enq_V_of) (sq_const (fun _ => rfl)) (fun v w h => (by subst h; exact exVOf (by omega)))
  · exact q_call4 (F := (Fq.num (2)).P) (G := (Fq.num (3)).P) (F3 := (Fq.num (3)).P) (F4 := (Fq.num (4)).P) hp (free_of rfl) trivial (enq_M_Crt) (sqi 0) (sqi 1) (sqi 2) (sqi 3) (fun v v' u u' w h h' g g' => exCrtEx1 h h' g g')
  · exact q_move hp (free_of rfl) trivial (sqi 4)
  · exact q_extract3 hp (free_of rfl) trivial (sqi 5) (fun v1 v2 v3 w h1 h2 h3 => ⟨_, rfl, h1⟩)
  · exact q_extract3 hp (free_of rfl) trivial (sqi 5) (fun v1 v2 v3 w h1 h2 h3 => ⟨_, rfl, h2⟩)
  · exact q_extract3 hp (free_of rfl) trivial (sqi 5) (fun v1 v2 v3 w h1 h2 h3 => ⟨_, rfl, h3⟩)
  · exact q_allocInt hp (List.mem_iff_getElem?.2 ⟨0, rfl⟩) rfl rfl rfl rfl (Nat.ne_of_beq_eq_false rfl) (fun _ _ => trivial) (old_ne rfl) (newk_ne rfl) (fun w => Num.zero w)
  · exact q_allocInt hp (List.mem_iff_getElem?.2 ⟨1, rfl⟩) rfl rfl rfl rfl (Nat.ne_of_beq_eq_false rfl) (fun _ _ => trivial) (old_ne rfl) (newk_ne rfl) (fun w => Num.zero w)
  · exact q_storeNewInt hp (List.mem_iff_getElem?.2 ⟨0, rfl⟩) rfl rfl rfl (own_ptr rfl rfl (by simp) rfl) (sq_in 6 rfl rfl (by simp) rfl (fun v w h => intV_num h)) (fun _ _ => trivial) (old_ne rfl) (newi_ne rfl)
  · exact q_storeNewInt hp (List.mem_iff_getElem?.2 ⟨1, rfl⟩) rfl rfl rfl (own_ptr rfl rfl (by simp) rfl) (sq_in 7 rfl rfl (by simp) rfl (fun v w h => intV_num h)) (fun _ _ => trivial) (old_ne rfl) (newi_ne rfl)
  · exact q_assign hp (free_of rfl) trivial (sqi 8)
  intro L vs w4 nb hL hC hn E4
  have e8 : vs 8 = .int .i64 0 := hC 8 (by simp)
  have e13 : vs 13 = .int .i64 0 := hC 13 (by simp)
  have e9 : vs 9 = .pointer (some ⟨nb 9, 0, none⟩) := hn _ (List.mem_iff_getElem?.2 ⟨0, rfl⟩)
  have e10 : vs 10 = .pointer (some ⟨nb 10, 0, none⟩) := hn _ (List.mem_iff_getElem?.2 ⟨1, rfl⟩)
  have E : Fr w3 [(nb 9, 2, Fq.num 11), (nb 10, 2, Fq.num 12)] w4 := E4
  rw [lay_all hL]
  simp only [putAll, dstOf, List.length_cons, List.length_nil, Nat.zero_add, Nat.reduceAdd, List.getElem?_toArray, List.getElem?_cons_zero, List.getElem?_cons_succ, Option.bind_some, Act.put, List.setIfInBounds_toArray, List.set_cons_succ, List.set_cons_zero]
  rw [e8, e13, e9, e10]
  generalize nb 9 = b4_9 at E ⊢
  generalize nb 10 = b4_10 at E ⊢
  generalize vs 0 = u4_0
  generalize vs 1 = u4_1
  generalize vs 2 = u4_2
  generalize vs 3 = u4_3
  generalize vs 4 = u4_4
  generalize vs 5 = u4_5
  generalize vs 6 = u4_6
  generalize vs 7 = u4_7
  clear e8 e13 e9 e10 hC hn E4 hL vs L nb
  go_upto_region 3 with (fail)
  have B5 : Hid (ab ((0)) < pw 3) := ab_lit (by decide)
  have B6 : Hid (ab ((1)) < pw 3) := ab_lit (by decide)
  have B7 : Hid (ab ((6)) < pw 3) := ab_lit (by decide)
  refine region_fr (C := [Fq.num (0), Fq.num (4), Fq.num (1), Fq.num (6), Fq.tup3 (Fq.num 0) (Fq.num 0) (Fq.is (.int .i64 6)), Fq.tup3 (Fq.num 0) (Fq.num 0) (Fq.is (.int .i64 6)), Fq.num 0, Fq.num 0, Fq.is (.int .i64 6), Fq.any, Fq.any, Fq.any, Fq.any, Fq.is (.int .i64 6)]) (ks := [none, none]) (new := [⟨9, 11, 2, Fq.num 0, Fq.num 0, none⟩, ⟨10, 12, 2, Fq.num 0, Fq.num 0, none⟩]) E rfl (by kernel_rfl) rfl rfl (fun hp => ⟨?_, ?_, ?_, ?_, ?_, ?_, ?_, ?_, ?_, ?_, ?_, ?_, ?_, ?_, trivial⟩) ?_
  · exact q_call1 (F := (Fq.is (.int .i64 0)).P) hp (free_of rfl) trivial (enq_V_of) (sq_const (fun _ => rfl)) (fun v w h => (by subst h; exact exVOf (by omega)))
  · exact q_call1 (F := (Fq.is (.int .i64 4)).P) hp (free_of rfl) trivial (enq_V_of) (sq_const (fun _ => rfl)) (fun v w h => (by subst h; exact exVOf (by omega)))
  · exact q_call1 (F := (Fq.is (.int .i64 1)).P) hp (free_of rfl) trivial (enq_V_of) (sq_const (fun _ => rfl)) (fun v w h => (by subst h; exact exVOf (by omega)))
  · exact q_call1 (F := (Fq.is (.int .i64 6)).P) hp (free_of rfl) trivial (enq_V_of) (sq_const (fun _ => rfl)) (fun v w h => (by subst h; exact exVOf (by omega)))
  · exact q_call4 (F := (Fq.num (0)).P) (G := (Fq.num (4)).P) (F3 := (Fq.num (1)).P) (F4 := (Fq.num (6)).P) hp (free_of rfl) trivial (enq_M_Crt) (sqi 0) (sqi 1) (sqi 2) (sqi 3) (fun v v' u u' w h h' g g' => exCrtEx2 h h' g g')
  · exact q_move hp (free_of rfl) trivial (sqi 4)
  · exact q_extract3 hp (free_of rfl) trivial (sqi 5) (fun v1 v2 v3 w h1 h2 h3 => ⟨_, rfl, h1⟩)
  · exact q_extract3 hp (free_of rfl) trivial (sqi 5) (fun v1 v2 v3 w h1 h2 h3 => ⟨_, rfl, h2⟩)
  · exact q_extract3 hp (free_of rfl) trivial (sqi 5) (fun v1 v2 v3 w h1 h2 h3 => ⟨_, rfl, h3⟩)
  · exact q_allocInt hp (List.mem_iff_getElem?.2 ⟨0, rfl⟩) rfl rfl rfl rfl (Nat.ne_of_beq_eq_false rfl) (fun _ _ => trivial) (old_ne rfl) (newk_ne rfl) (fun w => Num.zero w)
  · exact q_allocInt hp (List.mem_iff_getElem?.2 ⟨1, rfl⟩) rfl rfl rfl rfl (Nat.ne_of_beq_eq_false rfl) (fun _ _ => trivial) (old_ne rfl) (newk_ne rfl) (fun w => Num.zero w)
  · exact q_storeNewInt hp (List.mem_iff_getElem?.2 ⟨0, rfl⟩) rfl rfl rfl (own_ptr rfl rfl (by simp) rfl) (sq_in 6 rfl rfl (by simp) rfl (fun v w h => intV_num h)) (fun _ _ => trivial) (old_ne rfl) (newi_ne rfl)
  · exact q_storeNewInt hp (List.mem_iff_getElem?.2 ⟨1, rfl⟩) rfl rfl rfl (own_ptr rfl rfl (by simp) rfl) (sq_in 7 rfl rfl (by simp) rfl (fun v w h => intV_num h)) (fun _ _ => trivial) (old_ne rfl) (newi_ne rfl)
  · exact q_assign hp (free_of rfl) trivial (sqi 8)
  intro L vs w8 nb hL hC hn E8
  have e8 : vs 8 = .int .i64 6 := hC 8 (by simp)
  have e13 : vs 13 = .int .i64 6 := hC 13 (by simp)
  have e9 : vs 9 = .pointer (some ⟨nb 9, 0, none⟩) := hn _ (List.mem_iff_getElem?.2 ⟨0, rfl⟩)
  have e10 : vs 10 = .pointer (some ⟨nb 10, 0, none⟩) := hn _ (List.mem_iff_getElem?.2 ⟨1, rfl⟩)
  have E : Fr w3 [(nb 9, 2, Fq.num 0), (nb 10, 2, Fq.num 0), (b4_9, 2, Fq.num 11), (b4_10, 2, Fq.num 12)] w8 := E8
  rw [lay_all hL]
  simp only [putAll, dstOf, List.length_cons, List.length_nil, Nat.zero_add, Nat.reduceAdd, List.getElem?_toArray, List.getElem?_cons_zero, List.getElem?_cons_succ, Option.bind_some, Act.put, List.setIfInBounds_toArray, List.set_cons_succ, List.set_cons_zero]
  rw [e8, e13, e9, e10]
  generalize nb 9 = b8_9 at E ⊢
  generalize nb 10 = b8_10 at E ⊢
  generalize vs 0 = u8_0
  generalize vs 1 = u8_1
  generalize vs 2 = u8_2
  generalize vs 3 = u8_3
  generalize vs 4 = u8_4
  generalize vs 5 = u8_5
  generalize vs 6 = u8_6
  generalize vs 7 = u8_7
  clear e8 e13 e9 e10 hC hn E8 hL vs L nb
  go_upto_region 4 with (fail)
  refine region_fr (C := [Fq.num (2), Fq.num (4), Fq.got 0 4, Fq.any, Fq.any]) (ks := [none, none, none, none]) (new := [⟨3, 4, 3, Fq.got 0 0, Fq.got 0 4, none⟩]) E rfl (by kernel_rfl) rfl rfl (fun hp => ⟨?_, ?_, ?_, ?_, ?_, trivial⟩) ?_
  · exact q_call1 (F := (Fq.is (.int .i64 2)).P) hp (free_of rfl) trivial (enq_V_of) (sq_const (fun _ => rfl)) (fun v w h => (by subst h; exact exVOf (by omega)))
  · exact q_call1 (F := (Fq.is (.int .i64 4)).P) hp (free_of rfl) trivial (enq_V_of) (sq_const (fun _ => rfl)) (fun v w h => (by subst h; exact exVOf (by omega)))
  · exact q_call2 (F := (Fq.num (2)).P) (G := (Fq.num (4)).P) hp (free_of rfl) trivial (enq_V_inv) (sqi 0) (sqi 1) (fun v v' w h h' => exInv24 h h')
  · exact q_allocGot hp (List.mem_iff_getElem?.2 ⟨0, rfl⟩) rfl rfl rfl rfl (Nat.ne_of_beq_eq_false rfl) (fun _ _ => trivial) (old_ne rfl) (newk_ne rfl) (fun w => Got.zero w)
  · exact q_storeNewGot hp (List.mem_iff_getElem?.2 ⟨0, rfl⟩) rfl rfl rfl (own_ptr rfl rfl (by simp) rfl) (sq_in 2 rfl rfl (by simp) rfl (fun v w h => h.partsV)) (fun _ _ => trivial) (old_ne rfl) (newi_ne rfl)
  intro L vs w9 nb hL hC hn E9
  have e3 : vs 3 = .pointer (some ⟨nb 3, 0, none⟩) := hn _ (List.mem_iff_getElem?.2 ⟨0, rfl⟩)
  have E : Fr w3 [(nb 3, 3, Fq.got 0 4), (b8_9, 2, Fq.num 0), (b8_10, 2, Fq.num 0), (b4_9, 2, Fq.num 11), (b4_10, 2, Fq.num 12)] w9 := E9
  rw [lay_all hL]
  simp only [putAll, dstOf, List.length_cons, List.length_nil, Nat.zero_add, Nat.reduceAdd, List.getElem?_toArray, List.getElem?_cons_zero, List.getElem?_cons_succ, Option.bind_some, Act.put, List.setIfInBounds_toArray, List.set_cons_succ, List.set_cons_zero]
  rw [e3]
  generalize nb 3 = b9_3 at E ⊢
  generalize vs 0 = u9_0
  generalize vs 1 = u9_1
  generalize vs 2 = u9_2
  clear e3 hC hn E9 hL vs L nb
  go_upto_region 5 with (fail)
  have B10 : Hid (ab ((11)) < pw 3) := ab_lit (by decide)
  have B11 : Hid (ab ((12)) < pw 3) := ab_lit (by decide)
  refine region_fr (C := [Fq.is (.int .i64 0), Fq.is (.bool false), Fq.is (.bool false), Fq.is (.int .i64 0), Fq.is (.bool false), Fq.is (.bool false), Fq.is (.bool false), Fq.is (.int .i64 6), Fq.is (.bool false), Fq.is (.bool false), Fq.is (.bool false), Fq.is (.pointer (some ⟨b9_3, 2, none⟩)), Fq.is (.int .i64 4), Fq.is (.bool false), Fq.is (.bool false), Fq.is (.bool false), Fq.num 11, Fq.num (11), Fq.is (.bool true), Fq.is (.bool false), Fq.is (.bool false), Fq.is (.bool false), Fq.num 12, Fq.num (12), Fq.is (.bool true), Fq.is (.bool false), Fq.is (.bool false)]) (ks := [none, none, none, none, none]) (new := []) E rfl (by kernel_rfl) rfl rfl (fun hp => ⟨?_, ?_, ?_, ?_, ?_, ?_, ?_, ?_, ?_, ?_, ?_, ?_, ?_, ?_, ?_, ?_, ?_, ?_, ?_, ?_, ?_, ?_, ?_, ?_, ?_, ?_, ?_, trivial⟩) ?_
  · exact q_move hp (free_of rfl) trivial (sq_out rfl rfl (fun _ _ => rfl))
  · exact q_one (F := fun v _ => v = .int .i64 0) hp (free_of rfl) trivial (sqi 0) (fun ρ w hc h => ⟨.bool false, by simp [execOp, go_sem, h, hc], rfl⟩)
  · exact q_move hp (free_of rfl) trivial (sqi 1)
  · exact q_move hp (free_of rfl) (gq_some rfl rfl (by simp) rfl (fun v w h => h)) (sq_out rfl rfl (fun _ _ => rfl))
  · exact q_one (F := fun v _ => v = .int .i64 0) hp (free_of rfl) (gq_some rfl rfl (by simp) rfl (fun v w h => h)) (sqi 3) (fun ρ w hc h => ⟨.bool false, by simp [execOp, go_sem, h, hc], rfl⟩)
  · exact q_two (F := fun v _ => v = .bool false) (G := fun v _ => v = .bool false) hp (free_of rfl) trivial (sqi 2) (sqi 4) (fun ρ w hc h h' => ⟨_, by simp [execOp, go_sem, h, h'], rfl⟩)
  · exact q_move hp (free_of rfl) trivial (sqi 5)
  · exact q_move hp (free_of rfl) (gq_some rfl rfl (by simp) rfl (fun v w h => h)) (sq_out rfl rfl (fun _ _ => rfl))
  · exact q_one (F := fun v _ => v = .int .i64 6) hp (free_of rfl) (gq_some rfl rfl (by simp) rfl (fun v w h => h)) (sqi 7) (fun ρ w hc h => ⟨.bool false, by simp [execOp, go_sem, h, hc], rfl⟩)
  · exact q_two (F := fun v _ => v = .bool false) (G := fun v _ => v = .bool false) hp (free_of rfl) trivial (sqi 6) (sqi 8) (fun ρ w hc h h' => ⟨_, by simp [execOp, go_sem, h, h'], rfl⟩)
  · exact q_move hp (free_of rfl) trivial (sqi 9)
  · exact q_addr (b := b9_3) (off := 0) (off' := 2) hp (free_of rfl) (gq_some rfl rfl (by simp) rfl (fun v w h => h)) (sq_out rfl rfl (fun _ _ => rfl)) (fun ρ w h => by simp [execOp, go_sem, h]) (fun _ => rfl)
  · exact q_loadErr (r := 4) hp (free_of rfl) (gq_some rfl rfl (by simp) rfl (fun v w h => h)) (List.mem_iff_getElem?.2 ⟨0, rfl⟩) (.inl rfl) rfl (sqi 11) (fun us w hl h => ld_got2 hl h) (fun _ => rfl)
  · exact q_one (F := fun v _ => v = .int .i64 4) hp (free_of rfl) (gq_some rfl rfl (by simp) rfl (fun v w h => h)) (sqi 12) (fun ρ w hc h => ⟨.bool false, by simp [execOp, go_sem, h, hc], rfl⟩)
  · exact q_two (F := fun v _ => v = .bool false) (G := fun v _ => v = .bool false) hp (free_of rfl) trivial (sqi 10) (sqi 13) (fun ρ w hc h h' => ⟨_, by simp [execOp, go_sem, h, h'], rfl⟩)
  · exact q_move hp (free_of rfl) trivial (sqi 14)
  · exact q_loadInt (off := 0) hp (free_of rfl) (gq_some rfl rfl (by simp) rfl (fun v w h => h)) (List.mem_iff_getElem?.2 ⟨3, rfl⟩) (.inl rfl) (Nat.le_of_ble_eq_true rfl) (sq_out rfl rfl (fun _ _ => rfl)) (fun us w hl h => ld_num hl h)
  · exact q_call1 (F := (Fq.is (.int .i64 11)).P) hp (free_of rfl) (gq_some rfl rfl (by simp) rfl (fun v w h => h)) (enq_V_of) (sq_const (fun _ => rfl)) (fun v w h => (by subst h; exact exVOf (by omega)))
  · exact q_call2 (F := (Fq.num 11).P) (G := (Fq.num (11)).P) hp (free_of rfl) (gq_some rfl rfl (by simp) rfl (fun v w h => h)) (enq_R_Same) (sqi 16) (sqi 17) (fun v v' w h h' => exRSameB h h' (by decide))
  · exact q_one (F := fun v _ => v = .bool true) hp (free_of rfl) (gq_some rfl rfl (by simp) rfl (fun v w h => h)) (sqi 18) (fun ρ w _ h => ⟨.bool false, by simp [execOp, go_sem, h], rfl⟩)
  · exact q_two (F := fun v _ => v = .bool false) (G := fun v _ => v = .bool false) hp (free_of rfl) trivial (sqi 15) (sqi 19) (fun ρ w hc h h' => ⟨_, by simp [execOp, go_sem, h, h'], rfl⟩)
  · exact q_move hp (free_of rfl) trivial (sqi 20)
  · exact q_loadInt (off := 0) hp (free_of rfl) (gq_some rfl rfl (by simp) rfl (fun v w h => h)) (List.mem_iff_getElem?.2 ⟨4, rfl⟩) (.inl rfl) (Nat.le_of_ble_eq_true rfl) (sq_out rfl rfl (fun _ _ => rfl)) (fun us w hl h => ld_num hl h)
  · exact q_call1 (F := (Fq.is (.int .i64 12)).P) hp (free_of rfl) (gq_some rfl rfl (by simp) rfl (fun v w h => h)) (enq_V_of) (sq_const (fun _ => rfl)) (fun v w h => (by subst h; exact exVOf (by omega)))
  · exact q_call2 (F := (Fq.num 12).P) (G := (Fq.num (12)).P) hp (free_of rfl) (gq_some rfl rfl (by simp) rfl (fun v w h => h)) (enq_R_Same) (sqi 22) (sqi 23) (fun v v' w h h' => exRSameB h h' (by decide))
  · exact q_one (F := fun v _ => v = .bool true) hp (free_of rfl) (gq_some rfl rfl (by simp) rfl (fun v w h => h)) (sqi 24) (fun ρ w _ h => ⟨.bool false, by simp [execOp, go_sem, h], rfl⟩)
  · exact q_two (F := fun v _ => v = .bool false) (G := fun v _ => v = .bool false) hp (free_of rfl) trivial (sqi 21) (sqi 25) (fun ρ w hc h h' => ⟨_, by simp [execOp, go_sem, h, h'], rfl⟩)
  intro L vs w12 nb hL hC hn E12
  have e0 : vs 0 = .int .i64 0 := hC 0 (by simp)
  have e1 : vs 1 = .bool false := hC 1 (by simp)
  have e2 : vs 2 = .bool false := hC 2 (by simp)
  have e3 : vs 3 = .int .i64 0 := hC 3 (by simp)
  have e4 : vs 4 = .bool false := hC 4 (by simp)
  have e5 : vs 5 = .bool false := hC 5 (by simp)
  have e6 : vs 6 = .bool false := hC 6 (by simp)
  have e7 : vs 7 = .int .i64 6 := hC 7 (by simp)
  have e8 : vs 8 = .bool false := hC 8 (by simp)
  have e9 : vs 9 = .bool false := hC 9 (by simp)
  have e10 : vs 10 = .bool false := hC 10 (by simp)
  have e11 : vs 11 = .pointer (some ⟨b9_3, 2, none⟩) := hC 11 (by simp)
  have e12 : vs 12 = .int .i64 4 := hC 12 (by simp)
  have e13 : vs 13 = .bool false := hC 13 (by simp)
  have e14 : vs 14 = .bool false := hC 14 (by simp)
  have e15 : vs 15 = .bool false := hC 15 (by simp)
  have e18 : vs 18 = .bool true := hC 18 (by simp)
  have e19 : vs 19 = .bool false := hC 19 (by simp)
  have e20 : vs 20 = .bool false := hC 20 (by simp)
  have e21 : vs 21 = .bool false := hC 21 (by simp)
  have e24 : vs 24 = .bool true := hC 24 (by simp)
  have e25 : vs 25 = .bool false := hC 25 (by simp)
  have e26 : vs 26 = .bool false := hC 26 (by simp)
  have E : Fr w3 [(b9_3, 3, Fq.got 0 4), (b8_9, 2, Fq.num 0), (b8_10, 2, Fq.num 0), (b4_9, 2, Fq.num 11), (b4_10, 2, Fq.num 12)] w12 := E12
  rw [lay_all hL]
  simp only [putAll, dstOf, List.length_cons, List.length_nil, Nat.zero_add, Nat.reduceAdd, List.getElem?_toArray, List.getElem?_cons_zero, List.getElem?_cons_succ, Option.bind_some, Act.put, List.setIfInBounds_toArray, List.set_cons_succ, List.set_cons_zero]
  rw [e0, e1, e2, e3, e4, e5, e6, e7, e8, e9, e10, e11, e12, e13, e14, e15, e18, e19, e20, e21, e24, e25, e26]
  generalize vs 16 = u12_16
  generalize vs 17 = u12_17
  generalize vs 22 = u12_22
  generalize vs 23 = u12_23
  clear e0 e1 e2 e3 e4 e5 e6 e7 e8 e9 e10 e11 e12 e13 e14 e15 e18 e19 e20 e21 e24 e25 e26 hC hn E12 hL vs L nb
  go_upto_region 7 with (fail)
  have B13 : Hid (ab ((7)) < pw 3) := ab_lit (by decide)
  have B14 : Hid (ab ((-1)) < pw 3) := ab_lit (by decide)
  have B15 : Hid (ab ((5)) < pw 3) := ab_lit (by decide)
  refine region_fr (C := [Fq.num (2), Fq.num (7), Fq.is (.int .i64 1), Fq.is (.bool true), Fq.is (.bool true), Fq.num (2), Fq.num (3), Fq.is (.int .i64 (-1)), Fq.is (.bool true), Fq.is (.bool true), Fq.is (.bool true), Fq.num (-1), Fq.num (-1), Fq.is (.int .i64 (-1)), Fq.is (.bool true), Fq.is (.bool true), Fq.is (.bool true), Fq.num (5), Fq.num (0), Fq.is (.int .i64 0), Fq.is (.bool true), Fq.is (.bool true), Fq.is (.bool true)]) (ks := [none, none, none, none, none]) (new := []) E rfl (by kernel_rfl) rfl rfl (fun hp => ⟨?_, ?_, ?_, ?_, ?_, ?_, ?_, ?_, ?_, ?_, ?_, ?_, ?_, ?_, ?_, ?_, ?_, ?_, ?_, ?_, ?_, ?_, ?_, trivial⟩) ?_
  · exact q_call1 (F := (Fq.is (.int .i64 2)).P) hp (free_of rfl) trivial (enq_V_of) (sq_const (fun _ => rfl)) (fun v w h => (by subst h; exact exVOf (by omega)))
  · exact q_call1 (F := (Fq.is (.int .i64 7)).P) hp (free_of rfl) trivial (enq_V_of) (sq_const (fun _ => rfl)) (fun v w h => (by subst h; exact exVOf (by omega)))
  · exact q_call2W (F := (Fq.num (2)).P) (G := (Fq.num (7)).P) hp (free_of rfl) trivial (enq_M_Kronecker) rfl (sqi 0) (sqi 1) (fun v v' w hbw h h' => exKronL h h' (HT.out.mono hbw) B1.out B13.out kron_2_7)
  · exact q_one (F := fun v _ => v = .int .i64 1) hp (free_of rfl) trivial (sqi 2) (fun ρ w hc h => ⟨.bool true, by simp [execOp, go_sem, h, hc], rfl⟩)
  · exact q_move hp (free_of rfl) trivial (sqi 3)
  · exact q_call1 (F := (Fq.is (.int .i64 2)).P) hp (free_of rfl) (gq_some rfl rfl (by simp) rfl (fun v w h => h)) (enq_V_of) (sq_const (fun _ => rfl)) (fun v w h => (by subst h; exact exVOf (by omega)))
  · exact q_call1 (F := (Fq.is (.int .i64 3)).P) hp (free_of rfl) (gq_some rfl rfl (by simp) rfl (fun v w h => h)) (enq_V_of) (sq_const (fun _ => rfl)) (fun v w h => (by subst h; exact exVOf (by omega)))
  · exact q_call2W (F := (Fq.num (2)).P) (G := (Fq.num (3)).P) hp (free_of rfl) (gq_some rfl rfl (by simp) rfl (fun v w h => h)) (enq_M_Kronecker) rfl (sqi 5) (sqi 6) (fun v v' w hbw h h' => exKronL h h' (HT.out.mono hbw) B1.out B2.out kron_2_3)
  · exact q_one (F := fun v _ => v = .int .i64 (-1)) hp (free_of rfl) (gq_some rfl rfl (by simp) rfl (fun v w h => h)) (sqi 7) (fun ρ w hc h => ⟨.bool true, by simp [execOp, go_sem, h, hc], rfl⟩)
  · exact q_two (F := fun v _ => v = .bool true) (G := fun v _ => v = .bool true) hp (free_of rfl) trivial (sqi 4) (sqi 8) (fun ρ w hc h h' => ⟨_, by simp [execOp, go_sem, h, h'], rfl⟩)
  · exact q_move hp (free_of rfl) trivial (sqi 9)
  · exact q_call1 (F := (Fq.is (.int .i64 (-1))).P) hp (free_of rfl) (gq_some rfl rfl (by simp) rfl (fun v w h => h)) (enq_V_of) (sq_const (fun _ => rfl)) (fun v w h => (by subst h; exact exVOf (by omega)))
  · exact q_call1 (F := (Fq.is (.int .i64 (-1))).P) hp (free_of rfl) (gq_some rfl rfl (by simp) rfl (fun v w h => h)) (enq_V_of) (sq_const (fun _ => rfl)) (fun v w h => (by subst h; exact exVOf (by omega)))
  · exact q_call2W (F := (Fq.num (-1)).P) (G := (Fq.num (-1)).P) hp (free_of rfl) (gq_some rfl rfl (by simp) rfl (fun v w h => h)) (enq_M_Kronecker) rfl (sqi 11) (sqi 12) (fun v v' w hbw h h' => exKronL h h' (HT.out.mono hbw) B14.out B14.out kron_m1_m1)
  · exact q_one (F := fun v _ => v = .int .i64 (-1)) hp (free_of rfl) (gq_some rfl rfl (by simp) rfl (fun v w h => h)) (sqi 13) (fun ρ w hc h => ⟨.bool true, by simp [execOp, go_sem, h, hc], rfl⟩)
  · exact q_two (F := fun v _ => v = .bool true) (G := fun v _ => v = .bool true) hp (free_of rfl) trivial (sqi 10) (sqi 14) (fun ρ w hc h h' => ⟨_, by simp [execOp, go_sem, h, h'], rfl⟩)
  · exact q_move hp (free_of rfl) trivial (sqi 15)
  · exact q_call1 (F := (Fq.is (.int .i64 5)).P) hp (free_of rfl) (gq_some rfl rfl (by simp) rfl (fun v w h => h)) (enq_V_of) (sq_const (fun _ => rfl)) (fun v w h => (by subst h; exact exVOf (by omega)))
  · exact q_call1 (F := (Fq.is (.int .i64 0)).P) hp (free_of rfl) (gq_some rfl rfl (by simp) rfl (fun v w h => h)) (enq_V_of) (sq_const (fun _ => rfl)) (fun v w h => (by subst h; exact exVOf (by omega)))
  · exact q_call2W (F := (Fq.num (5)).P) (G := (Fq.num (0)).P) hp (free_of rfl) (gq_some rfl rfl (by simp) rfl (fun v w h => h)) (enq_M_Kronecker) rfl (sqi 17) (sqi 18) (fun v v' w hbw h h' => exKronL h h' (HT.out.mono hbw) B15.out B5.out kron_5_0)
  · exact q_one (F := fun v _ => v = .int .i64 0) hp (free_of rfl) (gq_some rfl rfl (by simp) rfl (fun v w h => h)) (sqi 19) (fun ρ w hc h => ⟨.bool true, by simp [execOp, go_sem, h, hc], rfl⟩)
  · exact q_two (F := fun v _ => v = .bool true) (G := fun v _ => v = .bool true) hp (free_of rfl) trivial (sqi 16) (sqi 20) (fun ρ w hc h h' => ⟨_, by simp [execOp, go_sem, h, h'], rfl⟩)
  · exact q_assign hp (free_of rfl) trivial (sqi 21)
  intro L vs w16 nb hL hC hn E16
  have e2 : vs 2 = .int .i64 1 := hC 2 (by simp)
  have e3 : vs 3 = .bool true := hC 3 (by simp)
  have e4 : vs 4 = .bool true := hC 4 (by simp)
  have e7 : vs 7 = .int .i64 (-1) := hC 7 (by simp)
  have e8 : vs 8 = .bool true := hC 8 (by simp)
  have e9 : vs 9 = .bool true := hC 9 (by simp)
  have e10 : vs 10 = .bool true := hC 10 (by simp)
  have e13 : vs 13 = .int .i64 (-1) := hC 13 (by simp)
  have e14 : vs 14 = .bool true := hC 14 (by simp)
  have e15 : vs 15 = .bool true := hC 15 (by simp)
  have e16 : vs 16 = .bool true := hC 16 (by simp)
  have e19 : vs 19 = .int .i64 0 := hC 19 (by simp)
  have e20 : vs 20 = .bool true := hC 20 (by simp)
  have e21 : vs 21 = .bool true := hC 21 (by simp)
  have e22 : vs 22 = .bool true := hC 22 (by simp)
  have E : Fr w3 [(b9_3, 3, Fq.got 0 4), (b8_9, 2, Fq.num 0), (b8_10, 2, Fq.num 0), (b4_9, 2, Fq.num 11), (b4_10, 2, Fq.num 12)] w16 := E16
  rw [lay_all hL]
  simp only [putAll, dstOf, List.length_cons, List.length_nil, Nat.zero_add, Nat.reduceAdd, List.getElem?_toArray, List.getElem?_cons_zero, List.getElem?_cons_succ, Option.bind_some, Act.put, List.setIfInBounds_toArray, List.set_cons_succ, List.set_cons_zero]
  rw [e2, e3, e4, e7, e8, e9, e10, e13, e14, e15, e16, e19, e20, e21, e22]
  generalize vs 0 = u16_0
  generalize vs 1 = u16_1
  generalize vs 5 = u16_5
  generalize vs 6 = u16_6
  generalize vs 11 = u16_11
  generalize vs 12 = u16_12
  generalize vs 17 = u16_17
  generalize vs 18 = u16_18
  clear e2 e3 e4 e7 e8 e9 e10 e13 e14 e15 e16 e19 e20 e21 e22 hC hn E16 hL vs L nb
  go_upto_region 8 with (fail)
  have B17 : Hid (ab ((9)) < pw 3) := ab_lit (by decide)
  refine region_fr (C := [Fq.is (.bool true), Fq.is (.bool true), Fq.num (3), Fq.num (7), Fq.got 5 0, Fq.is (.bool true), Fq.is (.bool true), Fq.is (.bool true), Fq.num (2), Fq.num (-1), Fq.num (9), Fq.got 5 0, Fq.is (.bool true), Fq.is (.bool true), Fq.is (.bool true), Fq.num (2), Fq.num (7), Fq.got 3 0, Fq.is (.bool true), Fq.is (.bool true), Fq.is (.bool true), Fq.is (l), Fq.num (1), Fq.num (3), Fq.num (5), Fq.num (7), Fq.any, Fq.is (.bool true), Fq.is (.bool true), Fq.is (.bool true)]) (ks := [none, none, none, none, none]) (new := [⟨26, 26, 8, Fq.ints [(1), (3), (5), (7)], Fq.ints [(1), (3), (5), (7)], (some 4)⟩]) E rfl (by kernel_rfl) rfl rfl (fun hp => ⟨?_, ?_, ?_, ?_, ?_, ?_, ?_, ?_, ?_, ?_, ?_, ?_, ?_, ?_, ?_, ?_, ?_, ?_, ?_, ?_, ?_, ?_, ?_, ?_, ?_, ?_, ?_, ?_, ?_, ?_, trivial⟩) ?_
  · exact q_move hp (free_of rfl) trivial (sq_out rfl rfl (fun _ _ => rfl))
  · exact q_move hp (free_of rfl) trivial (sqi 0)
  · exact q_call1 (F := (Fq.is (.int .i64 3)).P) hp (free_of rfl) (gq_some rfl rfl (by simp) rfl (fun v w h => h)) (enq_V_of) (sq_const (fun _ => rfl)) (fun v w h => (by subst h; exact exVOf (by omega)))
  · exact q_call1 (F := (Fq.is (.int .i64 7)).P) hp (free_of rfl) (gq_some rfl rfl (by simp) rfl (fun v w h => h)) (enq_V_of) (sq_const (fun _ => rfl)) (fun v w h => (by subst h; exact exVOf (by omega)))
  · exact q_call2 (F := (Fq.num (3)).P) (G := (Fq.num (7)).P) hp (free_of rfl) (gq_some rfl rfl (by simp) rfl (fun v w h => h)) (enq_V_inv) (sqi 2) (sqi 3) (fun v v' w h h' => exInv37 h h')
  · exact q_call2 (F := (Fq.got 5 0).P) (G := (Fq.is (.int .i64 5)).P) hp (free_of rfl) (gq_some rfl rfl (by simp) rfl (fun v w h => h)) (enq_V_is) (sqi 4) (sq_const (fun _ => rfl)) (fun v v' w h h' => (by subst h'; exact exVIs h (by omega) rfl (by decide)))
  · exact q_two (F := fun v _ => v = .bool true) (G := fun v _ => v = .bool true) hp (free_of rfl) trivial (sqi 1) (sqi 5) (fun ρ w hc h h' => ⟨_, by simp [execOp, go_sem, h, h'], rfl⟩)
  · exact q_move hp (free_of rfl) trivial (sqi 6)
  · exact q_call1 (F := (Fq.is (.int .i64 2)).P) hp (free_of rfl) (gq_some rfl rfl (by simp) rfl (fun v w h => h)) (enq_V_of) (sq_const (fun _ => rfl)) (fun v w h => (by subst h; exact exVOf (by omega)))
  · exact q_call1 (F := (Fq.is (.int .i64 (-1))).P) hp (free_of rfl) (gq_some rfl rfl (by simp) rfl (fun v w h => h)) (enq_V_of) (sq_const (fun _ => rfl)) (fun v w h => (by subst h; exact exVOf (by omega)))
  · exact q_call1 (F := (Fq.is (.int .i64 9)).P) hp (free_of rfl) (gq_some rfl rfl (by simp) rfl (fun v w h => h)) (enq_V_of) (sq_const (fun _ => rfl)) (fun v w h => (by subst h; exact exVOf (by omega)))
  · exact q_call3 (F := (Fq.num (2)).P) (G := (Fq.num (-1)).P) (F3 := (Fq.num (9)).P) hp (free_of rfl) (gq_some rfl rfl (by simp) rfl (fun v w h => h)) (enq_V_pow) (sqi 8) (sqi 9) (sqi 10) (fun v v' u w h h' g => exPow219 h h' g)
  · exact q_call2 (F := (Fq.got 5 0).P) (G := (Fq.is (.int .i64 5)).P) hp (free_of rfl) (gq_some rfl rfl (by simp) rfl (fun v w h => h)) (enq_V_is) (sqi 11) (sq_const (fun _ => rfl)) (fun v v' w h h' => (by subst h'; exact exVIs h (by omega) rfl (by decide)))
  · exact q_two (F := fun v _ => v = .bool true) (G := fun v _ => v = .bool true) hp (free_of rfl) trivial (sqi 7) (sqi 12) (fun ρ w hc h h' => ⟨_, by simp [execOp, go_sem, h, h'], rfl⟩)
  · exact q_move hp (free_of rfl) trivial (sqi 13)
  · exact q_call1 (F := (Fq.is (.int .i64 2)).P) hp (free_of rfl) (gq_some rfl rfl (by simp) rfl (fun v w h => h)) (enq_V_of) (sq_const (fun _ => rfl)) (fun v w h => (by subst h; exact exVOf (by omega)))
  · exact q_call1 (F := (Fq.is (.int .i64 7)).P) hp (free_of rfl) (gq_some rfl rfl (by simp) rfl (fun v w h => h)) (enq_V_of) (sq_const (fun _ => rfl)) (fun v w h => (by subst h; exact exVOf (by omega)))
  · exact q_call2W (F := (Fq.num (2)).P) (G := (Fq.num (7)).P) hp (free_of rfl) (gq_some rfl rfl (by simp) rfl (fun v w h => h)) (enq_V_root) rfl (sqi 15) (sqi 16) (fun v v' w hbw h h' => exRoot27 h h' (HT.out.mono hbw))
  · exact q_call2 (F := (Fq.got 3 0).P) (G := (Fq.is (.int .i64 3)).P) hp (free_of rfl) (gq_some rfl rfl (by simp) rfl (fun v w h => h)) (enq_V_is) (sqi 17) (sq_const (fun _ => rfl)) (fun v v' w h h' => (by subst h'; exact exVIs h (by omega) rfl (by decide)))
  · exact q_two (F := fun v _ => v = .bool true) (G := fun v _ => v = .bool true) hp (free_of rfl) trivial (sqi 14) (sqi 18) (fun ρ w hc h h' => ⟨_, by simp [execOp, go_sem, h, h'], rfl⟩)
  · exact q_move hp (free_of rfl) trivial (sqi 19)
  · exact q_move hp (free_of rfl) (gq_some rfl rfl (by simp) rfl (fun v w h => h)) (sq_out rfl rfl (fun _ _ => rfl))
  · exact q_call1 (F := (Fq.is (.int .i64 1)).P) hp (free_of rfl) (gq_some rfl rfl (by simp) rfl (fun v w h => h)) (enq_V_of) (sq_const (fun _ => rfl)) (fun v w h => (by subst h; exact exVOf (by omega)))
  · exact q_call1 (F := (Fq.is (.int .i64 3)).P) hp (free_of rfl) (gq_some rfl rfl (by simp) rfl (fun v w h => h)) (enq_V_of) (sq_const (fun _ => rfl)) (fun v w h => (by subst h; exact exVOf (by omega)))
  · exact q_call1 (F := (Fq.is (.int .i64 5)).P) hp (free_of rfl) (gq_some rfl rfl (by simp) rfl (fun v w h => h)) (enq_V_of) (sq_const (fun _ => rfl)) (fun v w h => (by subst h; exact exVOf (by omega)))
  · exact q_call1 (F := (Fq.is (.int .i64 7)).P) hp (free_of rfl) (gq_some rfl rfl (by simp) rfl (fun v w h => h)) (enq_V_of) (sq_const (fun _ => rfl)) (fun v w h => (by subst h; exact exVOf (by omega)))
  · exact q_buildInts4 hp (gq_some rfl rfl (by simp) rfl (fun v w h => h)) (List.mem_iff_getElem?.2 ⟨0, rfl⟩) rfl rfl rfl rfl rfl (sqi 22) (sqi 23) (sqi 24) (sqi 25) (fun _ _ => trivial) (old_ne rfl) (newks_ne rfl)
  · exact q_callWSl (F := (Fq.is (l)).P) hp (free_of rfl) (gq_some rfl rfl (by simp) rfl (fun v w h => h)) enq_U_SameList rfl (List.mem_iff_getElem?.2 ⟨0, rfl⟩) rfl (sqi 21) (own_ptr rfl rfl (by simp) rfl) (fun v bx w hbw h hbx => (by subst h; exact exSameListB (HL.out.mono hbw) (hbx.nums rfl rfl) (by decide) (by decide) (by decide)))
  · exact q_two (F := fun v _ => v = .bool true) (G := fun v _ => v = .bool true) hp (free_of rfl) trivial (sqi 20) (sqi 27) (fun ρ w hc h h' => ⟨_, by simp [execOp, go_sem, h, h'], rfl⟩)
  · exact q_assign hp (free_of rfl) trivial (sqi 28)
  intro L vs w18 nb hL hC hn E18
  have e0 : vs 0 = .bool true := hC 0 (by simp)
  have e1 : vs 1 = .bool true := hC 1 (by simp)
  have e5 : vs 5 = .bool true := hC 5 (by simp)
  have e6 : vs 6 = .bool true := hC 6 (by simp)
  have e7 : vs 7 = .bool true := hC 7 (by simp)
  have e12 : vs 12 = .bool true := hC 12 (by simp)
  have e13 : vs 13 = .bool true := hC 13 (by simp)
  have e14 : vs 14 = .bool true := hC 14 (by simp)
  have e18 : vs 18 = .bool true := hC 18 (by simp)
  have e19 : vs 19 = .bool true := hC 19 (by simp)
  have e20 : vs 20 = .bool true := hC 20 (by simp)
  have e21 : vs 21 = l := hC 21 (by simp)
  have e27 : vs 27 = .bool true := hC 27 (by simp)
  have e28 : vs 28 = .bool true := hC 28 (by simp)
  have e29 : vs 29 = .bool true := hC 29 (by simp)
  have e26 : vs 26 = .slice (some ⟨nb 26, 0, none⟩) 4 4 := hn _ (List.mem_iff_getElem?.2 ⟨0, rfl⟩)
  have E : Fr w3 [(nb 26, 8, Fq.ints [(1), (3), (5), (7)]), (b9_3, 3, Fq.got 0 4), (b8_9, 2, Fq.num 0), (b8_10, 2, Fq.num 0), (b4_9, 2, Fq.num 11), (b4_10, 2, Fq.num 12)] w18 := E18
  rw [lay_all hL]
  simp only [putAll, dstOf, List.length_cons, List.length_nil, Nat.zero_add, Nat.reduceAdd, List.getElem?_toArray, List.getElem?_cons_zero, List.getElem?_cons_succ, Option.bind_some, Act.put, List.setIfInBounds_toArray, List.set_cons_succ, List.set_cons_zero]
  rw [e0, e1, e5, e6, e7, e12, e13, e14, e18, e19, e20, e21, e27, e28, e29, e26]
  generalize nb 26 = b18_26 at E ⊢
  generalize vs 2 = u18_2
  generalize vs 3 = u18_3
  generalize vs 4 = u18_4
  generalize vs 8 = u18_8
  generalize vs 9 = u18_9
  generalize vs 10 = u18_10
  generalize vs 11 = u18_11
  generalize vs 15 = u18_15
  generalize vs 16 = u18_16
  generalize vs 17 = u18_17
  generalize vs 22 = u18_22
  generalize vs 23 = u18_23
  generalize vs 24 = u18_24
  generalize vs 25 = u18_25
  clear e0 e1 e5 e6 e7 e12 e13 e14 e18 e19 e20 e21 e27 e28 e29 e26 hC hn E18 hL vs L nb
  clear B1 B2 B3 B5 B6 B7 B10 B11 B13 B14 B15 B17 HT HL
  go_wp2
  refine bodyPost_ret (v := .bool true) ?_ rfl ⟨_, rfl, HB.out.trans (E.below.mono HB.out.size), rfl⟩
  simp [results, Tryz.results4, go_sem]

end Go.Proofs.YtieobgadihcgeaaGreatDoor

namespace Go.Proofs.YtieobgadihcgeaaGreatDoor
open Go Go.RowKit

def ad (x y : Int × Int) : Int × Int := (x.1 + y.1, x.2 + y.2)
def Eqp (p : Int) (x y : Int × Int) : Prop := x.1 % p = y.1 % p ∧ x.2 % p = y.2 % p
theorem Eqp.refl (p : Int) (x : Int × Int) : Eqp p x x := ⟨rfl, rfl⟩
theorem Eqp.symm {p : Int} {x y : Int × Int} (h : Eqp p x y) : Eqp p y x := ⟨h.1.symm, h.2.symm⟩
theorem Eqp.trans {p : Int} {x y z : Int × Int} (h : Eqp p x y) (h' : Eqp p y z) : Eqp p x z := ⟨h.1.trans h'.1, h.2.trans h'.2⟩
theorem add_modm {p a b c d : Int} (h : a % p = c % p) (h' : b % p = d % p) : (a + b) % p = (c + d) % p := by rw [Int.add_emod, h, h', ← Int.add_emod]
theorem Eqp.ad {p : Int} {x y x' y' : Int × Int} (h : Eqp p x x') (h' : Eqp p y y') : Eqp p (ad x y) (ad x' y') := ⟨add_modm h.1 h'.1, add_modm h.2 h'.2⟩
end Go.Proofs.YtieobgadihcgeaaGreatDoor

namespace Go.Proofs.YtieobgadihcgeaaGreatDoor
open Go Go.RowKit

section
variable {os : List Oper} {Q : Exit → Act → World → Prop} {a : Act} {p : Pq} {B B0 : Nat} {w0 : World}
variable {i s : Nat} {d : Option Tmp} {ty : TypeId} {ps : String} {af : Array Edge} {gd : Option (Nat × Bool)}
end
theorem gcd_modI {a m : Int} (hm : 0 < m) : Int.gcd (a % m) m = Int.gcd a m := by
  obtain ⟨n, rfl⟩ := Int.eq_ofNat_of_zero_le (Int.le_of_lt hm)
  exact gcd_emod
theorem exVPowOk {w : World} {v v' u : Value} {a n m : Int} (h : Num w v a) (h' : Num w v' n) (g : Num w u m) (ha : ab a < pw 100) (hn : ab n < pw 100) (hm : ab m < pw 100) (h0 : 0 < m) (h1 : Int.gcd a m = 1 ∨ 0 ≤ n) :
    Calls Tryz.prog 13 #[v, v', u] w fun e w' => ∃ v', e = .returned v' ∧ Below w.heap.size w w' ∧ Got w' v' (powM a n m) 0 :=
  exVPow h h' g fun _ _ _ _ hx hx' hy => by
    rcases Int.lt_or_le n 0 with hn0 | hn0
    · exact exPowN hx hx' hy ha hn hm h0 hn0 (by rw [gcd_modI h0]; rcases h1 with h | h; exact h; omega)
    · exact exPowP hx hx' hy ha hn hm h0 hn0
theorem exVPowNo {w : World} {v v' u : Value} {a n m : Int} (h : Num w v a) (h' : Num w v' n) (g : Num w u m) (ha : ab a < pw 100) (hn : ab n < pw 100) (hm : ab m < pw 100) (h0 : 0 < m) (h1 : Int.gcd a m ≠ 1) (h2 : n < 0) :
    Calls Tryz.prog 13 #[v, v', u] w fun e w' => ∃ v', e = .returned v' ∧ Below w.heap.size w w' ∧ Got w' v' 0 4 :=
  exVPow h h' g fun _ _ _ _ hx hx' hy => exPowE hx hx' hy ha hn hm h0 h2 (by rw [gcd_modI h0]; exact h1)
theorem exVInvP {w : World} {v v' : Value} {a m : Int} (h : Num w v a) (h' : Num w v' m) (ha : ab a < pw 300) (hm : ab m < pw 300) (h0 : 0 < m) (hg : Int.gcd a m = 1) :
    Calls Tryz.prog 12 #[v, v'] w fun e w' => ∃ v', e = .returned v' ∧ Below w.heap.size w w' ∧ Got w' v' (bezU a m) 0 := exVInv h h' fun _ _ _ _ hx hx' => exInvP hx hx' ha hm h0 hg
theorem exVInvN {w : World} {v v' : Value} {a m : Int} (h : Num w v a) (h' : Num w v' m) (ha : ab a < pw 300) (hm : ab m < pw 300) (h0 : 0 < m) (hg : Int.gcd a m ≠ 1) :
    Calls Tryz.prog 12 #[v, v'] w fun e w' => ∃ v', e = .returned v' ∧ Below w.heap.size w w' ∧ Got w' v' 0 4 := exVInv h h' fun _ _ _ _ hx hx' => exInvN hx hx' ha hm h0 hg
end Go.Proofs.YtieobgadihcgeaaGreatDoor

namespace Go.Proofs.YtieobgadihcgeaaGreatDoor
open Go Go.RowKit

end Go.Proofs.YtieobgadihcgeaaGreatDoor

namespace Go.Proofs.YtieobgadihcgeaaGreatDoor
open Go Go.RowKit

def Tri (x : Int) : Prop := x = -1 ∨ x = 0 ∨ x = 1
theorem two_tri (a : Int) : Tri (two a) := by unfold two Tri; split; exact .inr (.inl rfl); split; exact .inl rfl; exact .inr (.inr rfl)
theorem exKronR {w : World} {v v' : Value} {a n r : Int} (h : Num w v a) (h' : Num w v' n) (hT : Tabs w) (ha : ab a < pw 100) (hn : ab n < pw 100) (hr : kron a n = r) :
    Calls Tryz.prog 14 #[v, v'] w fun e w' => ∃ v', e = .returned v' ∧ Below w.heap.size w w' ∧ v' = .int .i64 r := by
  subst hr
  exact exKronecker h h' hT ha hn
end Go.Proofs.YtieobgadihcgeaaGreatDoor

namespace Go.Proofs.YtieobgadihcgeaaGreatDoor
open Go Go.RowKit

section
variable {os : List Oper} {Q : Exit → Act → World → Prop} {a : Act} {p : Pq} {B B0 : Nat} {w0 : World}
variable {i s : Nat} {d : Option Tmp} {ty : TypeId} {ps : String} {af : Array Edge} {gd : Option (Nat × Bool)}
end
theorem small3 {x : Int} (h : -18446744073709551616 < x ∧ x < 18446744073709551616) : ab x < pw 3 := by
  have h3 : pw 2 ≤ pw 3 := pw_le (by omega)
  have h4 : pw 2 = 18446744073709551616 := by decide
  unfold ab
  omega
end Go.Proofs.YtieobgadihcgeaaGreatDoor

namespace Go.Proofs.YtieobgadihcgeaaGreatDoor
open Go Go.RowKit

theorem enq_R_word (args : Array Value) (w : World) : (callFunc 84 args).run Tryz.prog w = .ok (.enter 84 args) w := enter_of Tryz.func84 (by kernel_rfl) rfl args w
theorem enq_R_Low (args : Array Value) (w : World) : (callFunc 70 args).run Tryz.prog w = .ok (.enter 70 args) w := enter_of Tryz.func70 (by kernel_rfl) rfl args w
theorem ld_rawS {n : Bool} {a : Option Addr} {k c : Nat} {xs : List Int} {us : List Value} {w : World} (hl : us.length = 2) (h : (Fq.raw n a k c xs).P (.agg us.toArray) w) : us.getD 1 undef = .slice a k c := by
  match us, hl with
  | [p, q], _ =>
    obtain ⟨e, h1⟩ := h
    injection e with e
    have e2 := congrArg Array.toList e
    simp at e2
    simp [e2]
theorem box_raw1 {w : World} {b : Nat} {n : Bool} {a : Option Addr} {k c : Nat} {xs : List Int} (h : Bq w b 2 (Fq.raw n a k c xs)) : w.cell? ⟨b, 0, none⟩ = some (.bool n) ∧ w.cell? ⟨b, 1, none⟩ = some (.slice a k c) := by
  obtain ⟨us, hl, _, hat, _, hP⟩ := h
  obtain ⟨e, _⟩ := hP
  injection e with e
  have e2 := congrArg Array.toList e
  simp at e2
  subst e2
  exact ⟨(hat 0 (by simp)).1, (hat 1 (by simp)).1⟩
theorem exRWord0 {w : World} {ax : Option Addr} {n c : Nat} {xs : List Int} (hX : Sl w ax n c xs) (hb : n ≤ 2) : Calls Tryz.prog 84 #[.slice ax n c, .int .i64 0] w fun e w' => ∃ v', e = .returned v' ∧ Below w.heap.size w w' ∧ v' = .int .u64 (xs.getD 0 0) :=
  (word_any w ax n c xs hX (by omega) 0 (by omega) _ rfl).mono fun e w' ⟨h1, h2⟩ => ⟨_, h1, by rw [← h2]; exact Below.refl _ _, rfl⟩
theorem exRWord1 {w : World} {ax : Option Addr} {n c : Nat} {xs : List Int} (hX : Sl w ax n c xs) (hb : n ≤ 2) : Calls Tryz.prog 84 #[.slice ax n c, .int .i64 1] w fun e w' => ∃ v', e = .returned v' ∧ Below w.heap.size w w' ∧ v' = .int .u64 (xs.getD 1 0) :=
  (word_any w ax n c xs hX (by omega) 1 (by omega) _ rfl).mono fun e w' ⟨h1, h2⟩ => ⟨_, h1, by rw [← h2]; exact Below.refl _ _, rfl⟩
theorem val_xy {xs : List Int} (h : xs.length ≤ 2) : val xs = xs.getD 0 0 + xs.getD 1 0 * 4294967296 := by
  match xs, h with
  | [], _ => rfl
  | [x], _ => simp [val]
  | [x, y], _ => simp [val]; omega
theorem low_parts {w : World} {v : Value} {z : Int} (h : Num w v z) (h0 : 0 ≤ z) (h1 : z ≤ 9223372036854775807) : ∃ ao n c xs, v = .agg #[.bool false, .slice ao n c] ∧ Sl w ao n c xs ∧ n ≤ 2 ∧ z = xs.getD 0 0 + xs.getD 1 0 * 4294967296 ∧ 0 ≤ xs.getD 0 0 ∧ xs.getD 0 0 < 4294967296 ∧ 0 ≤ xs.getD 1 0 ∧ xs.getD 1 0 < 4294967296 := by
  have hp : pw 2 = 18446744073709551616 := by decide
  obtain ⟨neg, ao, n, c, xs, hv, hs, hn, hz, hc, hnn⟩ := h
  have hz0 := val_nonneg hs.digs
  have hv2 : val xs < pw 2 := by
    rw [hp]
    cases neg <;> simp [sgn] at hz <;> omega
  have hl := hc.length_le hv2
  rw [hs.len] at hl
  have hneg : neg = false := by
    cases neg with
    | false => rfl
    | true =>
      have e0 : val xs = 0 := by simp [sgn] at hz; omega
      have e1 := hc.zero
      rw [hs.len] at e1
      exact absurd (e1.2 e0) (hnn rfl)
  subst hneg
  have g0 := hs.digs.getD 0
  have g1 := hs.digs.getD 1
  refine ⟨ao, n, c, xs, hv, hs, hl, ?_, g0.1, g0.2, g1.1, g1.2⟩
  rw [← val_xy (by rw [hs.len]; exact hl)]
  simpa [sgn] using hz

set_option maxRecDepth 100000 in
set_option maxHeartbeats 4000000 in
theorem exRLow {w : World} {v : Value} {z : Int} (h : Num w v z) (h0 : 0 ≤ z) (h1 : z ≤ 9223372036854775807) :
    Calls Tryz.prog 70 #[v] w fun e w' => ∃ v', e = .returned v' ∧ Below w.heap.size w w' ∧ (Fq.tup2 (Fq.is (.int .i64 z)) (Fq.is (.bool true))).P v' w' := by
  obtain ⟨ao, n, c, xs, rfl, hs, hn, hz, hx0, hx1, hy0, hy1⟩ := low_parts h h0 h1
  obtain ⟨x, hx⟩ : ∃ x, x = xs.getD 0 0 := ⟨_, rfl⟩
  obtain ⟨y, hy⟩ : ∃ y, y = xs.getD 1 0 := ⟨_, rfl⟩
  rw [← hx, ← hy] at hz
  rw [← hx] at hx0 hx1
  rw [← hy] at hy0 hy1
  have HX := hidd hx
  have HY := hidd hy
  have HS := hidd hs
  have HN := hidd hn
  have HZ := hidd hz
  have SH : Hid (IntKind.u64.wrap (y * 4294967296) = y * 4294967296) := by show _ = _; rw [u64_wrap]; omega
  have OR : Hid (bits .or .u64 x (y * 4294967296) = z) := by show _ = _; rw [(or_halves x y hx0 hx1 hy0 hy1).1]; exact hz.symm
  have H0 := hidd h0
  have H1 := hidd h1
  clear hx hy hn hz hx0 hx1 hy0 hy1 h0 h1 h
  obtain ⟨w1, b1, hw1, hb1, hs1, E⟩ := fr_start w (F := Fq.raw false ao n c xs) (us := [.bool false, .slice ao n c]) 29 rfl (by simp) (tame_int _ _ _ _) (show (Fq.raw false ao n c xs).P _ w from ⟨rfl, hs⟩)
  go_enter Tryz.func70, Tryz.ntmps70
  go_upto_region 1 with (fail)
  rw [← hw1]
  rw [← hb1]
  clear hw1 hb1 hs1
  clear hs
  refine region_fr (C := [Fq.is (.pointer (some ⟨b1, 1, none⟩)), Fq.is (.slice ao n c), Fq.is (.int .u64 x), Fq.is (.pointer (some ⟨b1, 1, none⟩)), Fq.is (.slice ao n c), Fq.is (.int .u64 y), Fq.is (.int .u64 (y * 4294967296)), Fq.is (.int .u64 z), Fq.is (.int .u64 z)]) (ks := [none]) (new := []) E rfl (by kernel_rfl) rfl rfl (fun hp => ⟨?_, ?_, ?_, ?_, ?_, ?_, ?_, ?_, ?_, trivial⟩) ?_
  · exact q_addr (b := b1) (off := 0) (off' := 1) hp (free_of rfl) trivial (sq_out (s := 1) rfl rfl (fun _ _ => rfl)) (fun ρ w h => by simp [execOp, go_sem, h]) (fun _ => rfl)
  · exact q_loadSl (off := 1) (v := .slice ao n c) hp (free_of rfl) trivial (List.mem_iff_getElem?.2 ⟨0, rfl⟩) (.inl rfl) (Nat.le_of_ble_eq_true rfl) (sqi 0) (fun us w hl h => ⟨ld_rawS hl h, rfl⟩)
  · exact q_call2W (F := (Fq.is (.slice ao n c)).P) (G := (Fq.is (.int .i64 0)).P) hp (free_of rfl) trivial (enq_R_word) rfl (sqi 1) (sq_const (fun _ => rfl)) (fun v v' w hbw h h' => (by subst h; subst h'; rw [HX.out]; exact exRWord0 (HS.out.mono hbw) HN.out))
  · exact q_addr (b := b1) (off := 0) (off' := 1) hp (free_of rfl) trivial (sq_out (s := 1) rfl rfl (fun _ _ => rfl)) (fun ρ w h => by simp [execOp, go_sem, h]) (fun _ => rfl)
  · exact q_loadSl (off := 1) (v := .slice ao n c) hp (free_of rfl) trivial (List.mem_iff_getElem?.2 ⟨0, rfl⟩) (.inl rfl) (Nat.le_of_ble_eq_true rfl) (sqi 3) (fun us w hl h => ⟨ld_rawS hl h, rfl⟩)
  · exact q_call2W (F := (Fq.is (.slice ao n c)).P) (G := (Fq.is (.int .i64 1)).P) hp (free_of rfl) trivial (enq_R_word) rfl (sqi 4) (sq_const (fun _ => rfl)) (fun v v' w hbw h h' => (by subst h; subst h'; rw [HY.out]; exact exRWord1 (HS.out.mono hbw) HN.out))
  · exact q_one (F := fun v _ => v = .int .u64 y) hp (free_of rfl) trivial (sqi 5) (fun ρ w hc h => ⟨.int .u64 (y * 4294967296), by simp [execOp, go_sem, h, hc, SH.out], rfl⟩)
  · exact q_two (F := fun v _ => v = .int .u64 x) (G := fun v _ => v = .int .u64 (y * 4294967296)) hp (free_of rfl) trivial (sqi 2) (sqi 6) (fun ρ w hc h h' => ⟨.int .u64 z, by simp [execOp, go_sem, h, h', OR.out], rfl⟩)
  · exact q_assign hp (free_of rfl) trivial (sqi 7)
  intro L vs w2 nb hL hC hn E2
  have e0 : vs 0 = .pointer (some ⟨b1, 1, none⟩) := hC 0 (by simp)
  have e1 : vs 1 = .slice ao n c := hC 1 (by simp)
  have e2 : vs 2 = .int .u64 x := hC 2 (by simp)
  have e3 : vs 3 = .pointer (some ⟨b1, 1, none⟩) := hC 3 (by simp)
  have e4 : vs 4 = .slice ao n c := hC 4 (by simp)
  have e5 : vs 5 = .int .u64 y := hC 5 (by simp)
  have e6 : vs 6 = .int .u64 (y * 4294967296) := hC 6 (by simp)
  have e7 : vs 7 = .int .u64 z := hC 7 (by simp)
  have e8 : vs 8 = .int .u64 z := hC 8 (by simp)
  have E : Fr w [(b1, 2, Fq.raw false ao n c xs)] w2 := E2
  rw [lay_all hL]
  simp only [putAll, dstOf, List.length_cons, List.length_nil, Nat.zero_add, Nat.reduceAdd, List.getElem?_toArray, List.getElem?_cons_zero, List.getElem?_cons_succ, Option.bind_some, Act.put, List.setIfInBounds_toArray, List.set_cons_succ, List.set_cons_zero]
  rw [e0, e1, e2, e3, e4, e5, e6, e7, e8]
  clear e0 e1 e2 e3 e4 e5 e6 e7 e8 hC hn E2 hL vs L nb
  obtain ⟨c0, c1⟩ := box_raw1 (E.box 0 rfl)
  have t1 : decide ((n : Int) > 2) = false := by have := HN.out; simp; omega
  have t2 : decide (z > 9223372036854775808) = false := by have := H1.out; simp; omega
  have t3 : (z == 9223372036854775808) = false := by have := H1.out; simp; omega
  have t4 : IntKind.i64.wrap z = z := IntWalk.i64_in _ (by have := H1.out; have := H0.out; omega)
  clear HX HY HS HN HZ SH OR H0 H1
  go_wp2
  refine bodyPost_ret (v := .tuple #[.int .i64 z, .bool true]) ?_ rfl ⟨_, rfl, E.below, _, _, rfl, rfl, rfl⟩
  simp [results, Tryz.results70, go_sem]

set_option maxRecDepth 100000 in
set_option maxHeartbeats 4000000 in
theorem exUSmall {w : World} {v : Value} {a m : Int} (h : Num w v a) (ha : ab a < pw 300) (hm : 0 < m ∧ m ≤ 9223372036854775807) :
    Calls Tryz.prog 41 #[v, .int .i64 m] w fun e w' => ∃ v', e = .returned v' ∧ Below w.heap.size w w' ∧ v' = .int .i64 (a % m) := by
  replace ha := hidd ha
  have RM := hidd hm
  have NM : Hid (m ≠ 0) := by show _ ≠ _; omega
  have BM : Hid (ab m < pw 3) := small3 (by omega)
  clear hm
  obtain ⟨n0, ao0, k0, c0, rfl⟩ := h.parts
  obtain ⟨w1, b1, hw1, hb1, hs1, E⟩ := fr_start w (F := Fq.num a) (us := [.bool n0, .slice ao0 k0 c0]) 29 rfl (by simp) (tame_int _ _ _ _) h
  go_enter Tryz.func41, Tryz.ntmps41
  go_upto_region 1 with (fail)
  rw [← hw1]
  rw [← hb1]
  clear hw1 hb1 hs1
  have LO : Hid (0 ≤ a % m) := Int.emod_nonneg _ NM.out
  have HI : Hid (a % m ≤ 9223372036854775807) := by have := Int.emod_lt_of_pos a (show 0 < m from RM.out.1); have := RM.out; show _ ≤ _; omega
  have B2 : Hid (ab ((a % m)) < pw 3) := ab_modB NM.out BM.out
  refine region_fr (C := [Fq.num a, Fq.is (.int .i64 m), Fq.num m, Fq.num (a % m), Fq.tup2 (Fq.is (.int .i64 (a % m))) (Fq.is (.bool true)), Fq.tup2 (Fq.is (.int .i64 (a % m))) (Fq.is (.bool true)), Fq.is (.int .i64 (a % m)), Fq.is (.bool true), Fq.is (.int .i64 (a % m)), Fq.is (.bool true)]) (ks := [none]) (new := []) E rfl (by kernel_rfl) rfl rfl (fun hp => ⟨?_, ?_, ?_, ?_, ?_, ?_, ?_, ?_, ?_, ?_, trivial⟩) ?_
  · exact q_loadInt (off := 0) hp (free_of rfl) trivial (List.mem_iff_getElem?.2 ⟨0, rfl⟩) (.inl rfl) (Nat.le_of_ble_eq_true rfl) (sq_out (s := 2) rfl rfl (fun _ _ => rfl)) (fun us w hl h => ld_num hl h)
  · exact q_move hp (free_of rfl) trivial (sq_out (s := 1) rfl rfl (fun _ _ => rfl))
  · exact q_call1 (F := (Fq.is (.int .i64 m)).P) hp (free_of rfl) trivial (enq_R_Of) (sqi 1) (fun v w h => (by subst h; exact rOfK w m (by have := RM.out; omega) (by have := RM.out; omega)))
  · exact q_call2 (F := (Fq.num a).P) (G := (Fq.num m).P) hp (free_of rfl) trivial (enq_R_Mod) (sqi 0) (sqi 2) (fun v v' w h h' => exK (RModV h h' (Int.lt_of_lt_of_le ha.out (pw_le (by omega))) (Int.lt_of_lt_of_le BM.out (pw_le (by omega))) NM.out) B2.out (by omega))
  · exact q_call1 (F := (Fq.num (a % m)).P) hp (free_of rfl) trivial (enq_R_Low) (sqi 3) (fun v w h => exRLow h LO.out HI.out)
  · exact q_move hp (free_of rfl) trivial (sqi 4)
  · exact q_extract2 hp (free_of rfl) trivial (sqi 5) (fun v1 v2 w h1 h2 => ⟨_, rfl, h1⟩)
  · exact q_extract2 hp (free_of rfl) trivial (sqi 5) (fun v1 v2 w h1 h2 => ⟨_, rfl, h2⟩)
  · exact q_assign hp (free_of rfl) trivial (sqi 6)
  · exact q_assign hp (free_of rfl) trivial (sqi 7)
  intro L vs w3 nb hL hC hn E3
  have e1 : vs 1 = .int .i64 m := hC 1 (by simp)
  have e6 : vs 6 = .int .i64 (a % m) := hC 6 (by simp)
  have e7 : vs 7 = .bool true := hC 7 (by simp)
  have e8 : vs 8 = .int .i64 (a % m) := hC 8 (by simp)
  have e9 : vs 9 = .bool true := hC 9 (by simp)
  have E : Fr w [(b1, 2, Fq.num a)] w3 := E3
  rw [lay_all hL]
  simp only [putAll, dstOf, List.length_cons, List.length_nil, Nat.zero_add, Nat.reduceAdd, List.getElem?_toArray, List.getElem?_cons_zero, List.getElem?_cons_succ, Option.bind_some, Act.put, List.setIfInBounds_toArray, List.set_cons_succ, List.set_cons_zero]
  rw [e1, e6, e7, e8, e9]
  generalize vs 0 = u3_0
  generalize vs 2 = u3_2
  generalize vs 3 = u3_3
  generalize vs 4 = u3_4
  generalize vs 5 = u3_5
  clear e1 e6 e7 e8 e9 hC hn E3 hL vs L nb
  go_upto_region 2 with (fail)
  refine region_fr (C := [Fq.is (.int .i64 (a % m)), Fq.is (.int .i64 (a % m))]) (ks := [none]) (new := []) E rfl (by kernel_rfl) rfl rfl (fun hp => ⟨?_, ?_, trivial⟩) ?_
  · exact q_move hp (free_of rfl) trivial (sq_out (s := 5) rfl rfl (fun _ _ => rfl))
  · exact q_assign hp (free_of rfl) trivial (sqi 0)
  intro L vs w4 nb hL hC hn E4
  have e0 : vs 0 = .int .i64 (a % m) := hC 0 (by simp)
  have e1 : vs 1 = .int .i64 (a % m) := hC 1 (by simp)
  have E : Fr w [(b1, 2, Fq.num a)] w4 := E4
  rw [lay_all hL]
  simp only [putAll, dstOf, List.length_cons, List.length_nil, Nat.zero_add, Nat.reduceAdd, List.getElem?_toArray, List.getElem?_cons_zero, List.getElem?_cons_succ, Option.bind_some, Act.put, List.setIfInBounds_toArray, List.set_cons_succ, List.set_cons_zero]
  rw [e0, e1]
  clear e0 e1 hC hn E4 hL vs L nb
  clear RM NM LO HI
  clear B2 ha BM
  go_wp2
  refine bodyPost_ret (v := .int .i64 (a % m)) ?_ rfl (by first | exact ⟨_, rfl, E.below, rfl⟩ | exact ⟨_, rfl, E.below⟩ | exact ⟨rfl, E.below⟩)
  simp [results, Tryz.results41, go_sem]

end Go.Proofs.YtieobgadihcgeaaGreatDoor

namespace Go.Proofs.YtieobgadihcgeaaGreatDoor
open Go Go.RowKit

theorem enq_U_Mod (args : Array Value) (w : World) : (callFunc 7 args).run Tryz.prog w = .ok (.enter 7 args) w := enter_of Tryz.func7 (by kernel_rfl) rfl args w
theorem enq_U_Inv (args : Array Value) (w : World) : (callFunc 9 args).run Tryz.prog w = .ok (.enter 9 args) w := enter_of Tryz.func9 (by kernel_rfl) rfl args w
theorem enq_U_Pow (args : Array Value) (w : World) : (callFunc 10 args).run Tryz.prog w = .ok (.enter 10 args) w := enter_of Tryz.func10 (by kernel_rfl) rfl args w
theorem enq_U_Power (args : Array Value) (w : World) : (callFunc 30 args).run Tryz.prog w = .ok (.enter 30 args) w := enter_of Tryz.func30 (by kernel_rfl) rfl args w
theorem enq_U_two (args : Array Value) (w : World) : (callFunc 42 args).run Tryz.prog w = .ok (.enter 42 args) w := enter_of Tryz.func42 (by kernel_rfl) rfl args w
theorem enq_U_Kronecker (args : Array Value) (w : World) : (callFunc 15 args).run Tryz.prog w = .ok (.enter 15 args) w := enter_of Tryz.func15 (by kernel_rfl) rfl args w
theorem enq_U_bit (args : Array Value) (w : World) : (callFunc 62 args).run Tryz.prog w = .ok (.enter 62 args) w := enter_of Tryz.func62 (by kernel_rfl) rfl args w
theorem enq_R_Bezout (args : Array Value) (w : World) : (callFunc 28 args).run Tryz.prog w = .ok (.enter 28 args) w := enter_of Tryz.func28 (by kernel_rfl) rfl args w
theorem enq_R_Bits (args : Array Value) (w : World) : (callFunc 61 args).run Tryz.prog w = .ok (.enter 61 args) w := enter_of Tryz.func61 (by kernel_rfl) rfl args w
theorem enq_V_sameGot (args : Array Value) (w : World) : (callFunc 11 args).run Tryz.prog w = .ok (.enter 11 args) w := enter_of Tryz.func11 (by kernel_rfl) rfl args w

theorem exRBezout {w : World} {v v' : Value} {a m : Int} (h : Num w v a) (h' : Num w v' m) (ha : ab a < pw 40) (hn : ab m < pw 40) (hm : 0 < m) :
    Calls Tryz.prog 28 #[v, v'] w fun e w' => ∃ v', e = .returned v' ∧ Below w.heap.size w w' ∧ (Fq.tup3 (Fq.num (Int.gcd a m : Int)) (Fq.num (bezU a m)) (Fq.num (bezV a m))).P v' w' := by
  refine (RBezoutV h h' ha hn).mono fun e w' hh => ?_
  obtain ⟨hb, v1, v2, v3, g, u, x, rfl, h1, h2, h3, rfl, ⟨h4, _⟩ | ⟨_, h5, h6, h7⟩⟩ := hh
  · omega
  · rw [ab_of (by omega)] at h6
    obtain ⟨rfl, rfl⟩ := bez_uniq hm h5 h6 h7
    exact ⟨_, rfl, hb, _, _, _, rfl, h1, h2, h3⟩
theorem exRBitsN {w : World} {v : Value} {z : Int} (h : Num w v z) : Calls Tryz.prog 61 #[v] w fun e w' => ∃ v', e = .returned v' ∧ Below w.heap.size w w' ∧ v' = .int .i64 ((nbits z : Nat) : Int) := by
  refine (RBitsV h).mono fun e w' hh => ?_
  obtain ⟨m, rfl, hm, _, hb⟩ := hh
  exact ⟨_, rfl, hb, by rw [bits_uniq hm (nbits_isBits z)]⟩
set_option maxRecDepth 20000 in
set_option maxHeartbeats 1000000 in
theorem ubit_any (w : World) (na : Bool) (ax : Option Addr) (n cx : Nat) (xs : List Int) (hX : Sl w ax n cx xs) (hb1 : n ≤ 1000000) (i : Nat) (hi : i < 32 * n) :
    Calls Tryz.prog 62 #[.agg #[.bool na, .slice ax n cx], .int .i64 (i : Int)] w fun e w' => e = .returned (.bool (decide ((val xs / 2 ^ i) % 2 = 1))) ∧ Below w.heap.size w w' := by
  have hX0 := hX.mono (alloc_below w (.cells #[.bool na, .slice ax n cx] 29))
  have hk : i / 32 < n := by omega
  obtain ⟨b, off, rfl, hbl, x, hxc, hx0, hx1, HX⟩ := hX0.cells.at (k := i / 32) (by rw [hX.len]; exact hk)
  have hB := bit_of_val hX.digs (k := i / 32) (r := i % 32) (by rw [hX.len]; exact hk) (by omega)
  rw [HX.out, show 32 * (i / 32) + i % 32 = i by omega] at hB
  rw [hB]
  have e3 : 0 ≤ x / 2 ^ (i % 32) ∧ x / 2 ^ (i % 32) < 4294967296 := by
    have h := Int.ediv_nonneg hx0 (show (0 : Int) ≤ 2 ^ (i % 32) by have := pow_two_pos (i % 32); omega)
    have h2 := Int.ediv_le_self (a := x) (2 ^ (i % 32)) hx0
    omega
  have e4 := and_one _ e3.1 e3.2
  have g1 : (0 : Int) ≤ (i : Int) / 32 ∧ (i : Int) / 32 < n := by omega
  have g2 : (0 : Int) ≤ (i : Int) % 32 := by omega
  have g3 : IntKind.u64.wrap ((i : Int) % 32) = (i : Int) % 32 := by rw [u64_wrap]; omega
  have HB := hidd hB
  clear hB
  go_enter Tryz.func62, Tryz.ntmps62
  go_wp2
  go_ret
  refine ⟨?_, alloc_below _ _⟩
  by_cases h : x / 2 ^ (i % 32) % 2 = 1 <;> simp [h]
theorem exUBit {w : World} {v : Value} {z : Int} {i : Nat} {t : Bool} (h : Num w v z) (hi : i < nbits z) (ht : decide (z.natAbs / 2 ^ i % 2 = 1) = t) : Calls Tryz.prog 62 #[v, .int .i64 (i : Int)] w fun e w' => ∃ v', e = .returned v' ∧ Below w.heap.size w w' ∧ v' = .bool t := by
  obtain ⟨neg, ao, n, c, xs, rfl, hs, hn, hz, hc, _⟩ := h
  have h1 : ab z = val xs := by rw [hz, ab_sgn, ab_of (val_nonneg hs.digs)]
  have h2 : ab z < pw n := by rw [h1]; have := val_lt hs.digs; rwa [hs.len] at this
  refine (ubit_any _ _ _ _ _ _ hs (by omega) i (by have := nbits_le h2; omega)).mono fun e w' hh => ?_
  refine ⟨_, hh.1, hh.2, ?_⟩
  rw [← ht, ← h1]
  congr 2
  unfold ab
  refine propext ⟨fun h => ?_, fun h => ?_⟩
  · have : (((z.natAbs / 2 ^ i % 2 : Nat)) : Int) = 1 := by simpa using h
    exact_mod_cast this
  · have : (((z.natAbs / 2 ^ i % 2 : Nat)) : Int) = 1 := by exact_mod_cast h
    simpa using this
theorem bez_res {a m : Int} (hm : 0 < m) : bezU (a % m) m % m = bezU (a % m) m := by
  have h1 := (bez_spec (a := a % m) hm).1
  have h2 := bez_lt (a := a % m) hm
  exact Int.emod_eq_of_lt h1 (by omega)
set_option maxRecDepth 100000 in
set_option maxHeartbeats 4000000 in
theorem exUModZ {w : World} {v v' : Value} {a m : Int} (h : Num w v a) (h' : Num w v' m) (ha : ab a < pw 20) (hm : ab m < pw 20) (h0 : m ≤ 0) :
    Calls Tryz.prog 7 #[v, v'] w fun e w' => ∃ v', e = .returned v' ∧ Below w.heap.size w w' ∧ (Fq.tup2 (Fq.num 0) (Fq.is (.int .i64 1))).P v' w' := by
  replace ha := hidd ha
  replace hm := hidd hm
  obtain ⟨n0, ao0, k0, c0, rfl⟩ := h.parts
  obtain ⟨n1, ao1, k1, c1, rfl⟩ := h'.parts
  obtain ⟨w1, b1, hw1, hb1, hs1, E⟩ := fr_start w (F := Fq.num a) (us := [.bool n0, .slice ao0 k0 c0]) 29 rfl (by simp) (tame_int _ _ _ _) h
  obtain ⟨w2, b2, hw2, hb2, hs2, E⟩ := fr_more E hs1 (F := Fq.num m) (us := [.bool n1, .slice ao1 k1 c1]) 29 rfl (by simp) (tame_int _ _ _ _) (h'.mono E.below)
  obtain ⟨w3, b3, hw3, hb3, hs3, E⟩ := fr_more E hs2 (F := Fq.num 0) (us := [.bool false, .slice none 0 0]) 29 rfl (by simp) (tame_int _ _ _ _) (Num.zero _)
  go_enter Tryz.func7, Tryz.ntmps7
  go_upto_region 1 with (fail)
  rw [← hw1]
  rw [← hw2]
  rw [← hw3]
  rw [← hb3]
  rw [← hb2]
  rw [← hb1]
  clear hw1 hw2 hw3 hb1 hb2 hb3 hs3 hs1 hs2
  have T1 : Hid (cmpI m 0 ≤ 0) := cmpI_le0.2 h0
  clear h0
  refine region_fr (C := [Fq.num m, Fq.is (.int .i64 (cmpI m 0)), Fq.is (.bool true)]) (ks := [none, none, none]) (new := []) E rfl (by kernel_rfl) rfl rfl (fun hp => ⟨?_, ?_, ?_, trivial⟩) ?_
  · exact q_loadInt (off := 0) hp (free_of rfl) trivial (List.mem_iff_getElem?.2 ⟨1, rfl⟩) (.inl rfl) (Nat.le_of_ble_eq_true rfl) (sq_out (s := 3) rfl rfl (fun _ _ => rfl)) (fun us w hl h => ld_num hl h)
  · exact q_call1 (F := (Fq.num m).P) hp (free_of rfl) trivial (enq_R_Sign) (sqi 0) (fun v w h => exRSign h)
  · exact q_one (F := fun v _ => v = .int .i64 (cmpI m 0)) hp (free_of rfl) trivial (sqi 1) (fun ρ w hc h => ⟨.bool true, by simp [execOp, go_sem, h, hc, T1.out], rfl⟩)
  intro L vs w4 nb hL hC hn E4
  have e1 : vs 1 = .int .i64 (cmpI m 0) := hC 1 (by simp)
  have e2 : vs 2 = .bool true := hC 2 (by simp)
  have E : Fr w [(b3, 2, Fq.num 0), (b2, 2, Fq.num m), (b1, 2, Fq.num a)] w4 := E4
  rw [lay_all hL]
  simp only [putAll, dstOf, List.length_cons, List.length_nil, Nat.zero_add, Nat.reduceAdd, List.getElem?_toArray, List.getElem?_cons_zero, List.getElem?_cons_succ, Option.bind_some, Act.put, List.setIfInBounds_toArray, List.set_cons_succ, List.set_cons_zero]
  rw [e1, e2]
  generalize vs 0 = u4_0
  clear e1 e2 hC hn E4 hL vs L nb
  clear T1
  go_upto_region 2 with (fail)
  refine region_fr (C := [Fq.num 0, Fq.any, Fq.is (.int .i64 1)]) (ks := [some (1, Fq.num 0), none, none]) (new := []) E rfl (by kernel_rfl) rfl rfl (fun hp => ⟨?_, ?_, ?_, trivial⟩) ?_
  · exact q_zeroInt hp (free_of rfl) trivial (fun w => Num.zero w)
  · exact q_storeOldInt hp (List.mem_iff_getElem?.2 ⟨0, rfl⟩) rfl rfl (sq_out (s := 4) rfl rfl (fun _ _ => rfl)) (sq_in 0 rfl rfl (by simp) rfl (fun v w h => intV_num h)) (fun _ _ => trivial) (newik_ne rfl)
  · exact q_assign hp (free_of rfl) trivial (sq_const (fun _ => rfl))
  intro L vs w5 nb hL hC hn E5
  have e2 : vs 2 = .int .i64 1 := hC 2 (by simp)
  have E : Fr w [(b3, 2, Fq.num 0), (b2, 2, Fq.num m), (b1, 2, Fq.num a)] w5 := E5
  rw [lay_all hL]
  simp only [putAll, dstOf, List.length_cons, List.length_nil, Nat.zero_add, Nat.reduceAdd, List.getElem?_toArray, List.getElem?_cons_zero, List.getElem?_cons_succ, Option.bind_some, Act.put, List.setIfInBounds_toArray, List.set_cons_succ, List.set_cons_zero]
  rw [e2]
  generalize vs 0 = u5_0
  clear e2 hC hn E5 hL vs L nb
  obtain ⟨p0, p1, c0, c1, hP⟩ := box_num (E.box 0 rfl)
  clear ha hm
  go_wp2
  refine bodyPost_ret (v := .tuple #[.agg #[p0, p1], .int .i64 1]) ?_ rfl ⟨_, rfl, E.below, ⟨_, _, rfl, hP, rfl⟩⟩
  simp [results, Tryz.results7, go_sem, c0, c1]

set_option maxRecDepth 100000 in
set_option maxHeartbeats 4000000 in
theorem exUModP {w : World} {v v' : Value} {a m : Int} (h : Num w v a) (h' : Num w v' m) (ha : ab a < pw 20) (hm : ab m < pw 20) (h0 : 0 < m) :
    Calls Tryz.prog 7 #[v, v'] w fun e w' => ∃ v', e = .returned v' ∧ Below w.heap.size w w' ∧ (Fq.tup2 (Fq.num (a % m)) (Fq.is (.int .i64 0))).P v' w' := by
  replace ha := hidd ha
  replace hm := hidd hm
  obtain ⟨n0, ao0, k0, c0, rfl⟩ := h.parts
  obtain ⟨n1, ao1, k1, c1, rfl⟩ := h'.parts
  obtain ⟨w1, b1, hw1, hb1, hs1, E⟩ := fr_start w (F := Fq.num a) (us := [.bool n0, .slice ao0 k0 c0]) 29 rfl (by simp) (tame_int _ _ _ _) h
  obtain ⟨w2, b2, hw2, hb2, hs2, E⟩ := fr_more E hs1 (F := Fq.num m) (us := [.bool n1, .slice ao1 k1 c1]) 29 rfl (by simp) (tame_int _ _ _ _) (h'.mono E.below)
  obtain ⟨w3, b3, hw3, hb3, hs3, E⟩ := fr_more E hs2 (F := Fq.num 0) (us := [.bool false, .slice none 0 0]) 29 rfl (by simp) (tame_int _ _ _ _) (Num.zero _)
  go_enter Tryz.func7, Tryz.ntmps7
  go_upto_region 1 with (fail)
  rw [← hw1]
  rw [← hw2]
  rw [← hw3]
  rw [← hb3]
  rw [← hb2]
  rw [← hb1]
  clear hw1 hw2 hw3 hb1 hb2 hb3 hs3 hs1 hs2
  have T1 : Hid (¬ cmpI m 0 ≤ 0) := fun e => by have := cmpI_le0.1 e; omega
  have HM : Hid (m ≠ 0) := by show _ ≠ _; omega
  clear h0
  refine region_fr (C := [Fq.num m, Fq.is (.int .i64 (cmpI m 0)), Fq.is (.bool false)]) (ks := [none, none, none]) (new := []) E rfl (by kernel_rfl) rfl rfl (fun hp => ⟨?_, ?_, ?_, trivial⟩) ?_
  · exact q_loadInt (off := 0) hp (free_of rfl) trivial (List.mem_iff_getElem?.2 ⟨1, rfl⟩) (.inl rfl) (Nat.le_of_ble_eq_true rfl) (sq_out (s := 3) rfl rfl (fun _ _ => rfl)) (fun us w hl h => ld_num hl h)
  · exact q_call1 (F := (Fq.num m).P) hp (free_of rfl) trivial (enq_R_Sign) (sqi 0) (fun v w h => exRSign h)
  · exact q_one (F := fun v _ => v = .int .i64 (cmpI m 0)) hp (free_of rfl) trivial (sqi 1) (fun ρ w hc h => ⟨.bool false, by simp [execOp, go_sem, h, hc, T1.out], rfl⟩)
  intro L vs w4 nb hL hC hn E4
  have e1 : vs 1 = .int .i64 (cmpI m 0) := hC 1 (by simp)
  have e2 : vs 2 = .bool false := hC 2 (by simp)
  have E : Fr w [(b3, 2, Fq.num 0), (b2, 2, Fq.num m), (b1, 2, Fq.num a)] w4 := E4
  rw [lay_all hL]
  simp only [putAll, dstOf, List.length_cons, List.length_nil, Nat.zero_add, Nat.reduceAdd, List.getElem?_toArray, List.getElem?_cons_zero, List.getElem?_cons_succ, Option.bind_some, Act.put, List.setIfInBounds_toArray, List.set_cons_succ, List.set_cons_zero]
  rw [e1, e2]
  generalize vs 0 = u4_0
  clear e1 e2 hC hn E4 hL vs L nb
  clear T1
  go_upto_region 3 with (fail)
  have B5 : Hid (ab ((a % m)) < pw 20) := ab_modB HM.out hm.out
  refine region_fr (C := [Fq.num a, Fq.num m, Fq.num (a % m), Fq.any, Fq.is (.int .i64 0)]) (ks := [some (3, Fq.num (a % m)), none, none]) (new := []) E rfl (by kernel_rfl) rfl rfl (fun hp => ⟨?_, ?_, ?_, ?_, ?_, trivial⟩) ?_
  · exact q_loadInt (off := 0) hp (free_of rfl) trivial (List.mem_iff_getElem?.2 ⟨2, rfl⟩) (.inl rfl) (Nat.le_of_ble_eq_true rfl) (sq_out (s := 2) rfl rfl (fun _ _ => rfl)) (fun us w hl h => ld_num hl h)
  · exact q_loadInt (off := 0) hp (free_of rfl) trivial (List.mem_iff_getElem?.2 ⟨1, rfl⟩) (.inl rfl) (Nat.le_of_ble_eq_true rfl) (sq_out (s := 3) rfl rfl (fun _ _ => rfl)) (fun us w hl h => ld_num hl h)
  · exact q_call2 (F := (Fq.num a).P) (G := (Fq.num m).P) hp (free_of rfl) trivial (enq_R_Mod) (sqi 0) (sqi 1) (fun v v' w h h' => exK (RModV h h' (Int.lt_of_lt_of_le ha.out (pw_le (by omega))) (Int.lt_of_lt_of_le hm.out (pw_le (by omega))) HM.out) B5.out (by omega))
  · exact q_storeOldInt hp (List.mem_iff_getElem?.2 ⟨0, rfl⟩) rfl rfl (sq_out (s := 4) rfl rfl (fun _ _ => rfl)) (sq_in 2 rfl rfl (by simp) rfl (fun v w h => intV_num h)) (fun _ _ => trivial) (newik_ne rfl)
  · exact q_assign hp (free_of rfl) trivial (sq_const (fun _ => rfl))
  intro L vs w6 nb hL hC hn E6
  have e4 : vs 4 = .int .i64 0 := hC 4 (by simp)
  have E : Fr w [(b3, 2, Fq.num (a % m)), (b2, 2, Fq.num m), (b1, 2, Fq.num a)] w6 := E6
  rw [lay_all hL]
  simp only [putAll, dstOf, List.length_cons, List.length_nil, Nat.zero_add, Nat.reduceAdd, List.getElem?_toArray, List.getElem?_cons_zero, List.getElem?_cons_succ, Option.bind_some, Act.put, List.setIfInBounds_toArray, List.set_cons_succ, List.set_cons_zero]
  rw [e4]
  generalize vs 0 = u6_0
  generalize vs 1 = u6_1
  generalize vs 2 = u6_2
  clear e4 hC hn E6 hL vs L nb
  clear HM
  obtain ⟨p0, p1, c0, c1, hP⟩ := box_num (E.box 0 rfl)
  clear B5 ha hm
  go_wp2
  refine bodyPost_ret (v := .tuple #[.agg #[p0, p1], .int .i64 0]) ?_ rfl ⟨_, rfl, E.below, ⟨_, _, rfl, hP, rfl⟩⟩
  simp [results, Tryz.results7, go_sem, c0, c1]

set_option maxRecDepth 100000 in
set_option maxHeartbeats 4000000 in
theorem exUInvZ {w : World} {v v' : Value} {a m : Int} (h : Num w v a) (h' : Num w v' m) (ha : ab a < pw 20) (hm : ab m < pw 20) (h0 : m ≤ 0) :
    Calls Tryz.prog 9 #[v, v'] w fun e w' => ∃ v', e = .returned v' ∧ Below w.heap.size w w' ∧ (Fq.tup2 (Fq.num 0) (Fq.is (.int .i64 1))).P v' w' := by
  replace ha := hidd ha
  replace hm := hidd hm
  obtain ⟨n0, ao0, k0, c0, rfl⟩ := h.parts
  obtain ⟨n1, ao1, k1, c1, rfl⟩ := h'.parts
  obtain ⟨w1, b1, hw1, hb1, hs1, E⟩ := fr_start w (F := Fq.num a) (us := [.bool n0, .slice ao0 k0 c0]) 29 rfl (by simp) (tame_int _ _ _ _) h
  obtain ⟨w2, b2, hw2, hb2, hs2, E⟩ := fr_more E hs1 (F := Fq.num m) (us := [.bool n1, .slice ao1 k1 c1]) 29 rfl (by simp) (tame_int _ _ _ _) (h'.mono E.below)
  obtain ⟨w3, b3, hw3, hb3, hs3, E⟩ := fr_more E hs2 (F := Fq.num 0) (us := [.bool false, .slice none 0 0]) 29 rfl (by simp) (tame_int _ _ _ _) (Num.zero _)
  go_enter Tryz.func9, Tryz.ntmps9
  go_upto_region 1 with (fail)
  rw [← hw1]
  rw [← hw2]
  rw [← hw3]
  rw [← hb3]
  rw [← hb2]
  rw [← hb1]
  clear hw1 hw2 hw3 hb1 hb2 hb3 hs3 hs1 hs2
  have T1 : Hid (cmpI m 0 ≤ 0) := cmpI_le0.2 h0
  clear h0
  refine region_fr (C := [Fq.num m, Fq.is (.int .i64 (cmpI m 0)), Fq.is (.bool true)]) (ks := [none, none, none]) (new := []) E rfl (by kernel_rfl) rfl rfl (fun hp => ⟨?_, ?_, ?_, trivial⟩) ?_
  · exact q_loadInt (off := 0) hp (free_of rfl) trivial (List.mem_iff_getElem?.2 ⟨1, rfl⟩) (.inl rfl) (Nat.le_of_ble_eq_true rfl) (sq_out (s := 3) rfl rfl (fun _ _ => rfl)) (fun us w hl h => ld_num hl h)
  · exact q_call1 (F := (Fq.num m).P) hp (free_of rfl) trivial (enq_R_Sign) (sqi 0) (fun v w h => exRSign h)
  · exact q_one (F := fun v _ => v = .int .i64 (cmpI m 0)) hp (free_of rfl) trivial (sqi 1) (fun ρ w hc h => ⟨.bool true, by simp [execOp, go_sem, h, hc, T1.out], rfl⟩)
  intro L vs w4 nb hL hC hn E4
  have e1 : vs 1 = .int .i64 (cmpI m 0) := hC 1 (by simp)
  have e2 : vs 2 = .bool true := hC 2 (by simp)
  have E : Fr w [(b3, 2, Fq.num 0), (b2, 2, Fq.num m), (b1, 2, Fq.num a)] w4 := E4
  rw [lay_all hL]
  simp only [putAll, dstOf, List.length_cons, List.length_nil, Nat.zero_add, Nat.reduceAdd, List.getElem?_toArray, List.getElem?_cons_zero, List.getElem?_cons_succ, Option.bind_some, Act.put, List.setIfInBounds_toArray, List.set_cons_succ, List.set_cons_zero]
  rw [e1, e2]
  generalize vs 0 = u4_0
  clear e1 e2 hC hn E4 hL vs L nb
  clear T1
  go_upto_region 2 with (fail)
  refine region_fr (C := [Fq.num 0, Fq.any, Fq.is (.int .i64 1)]) (ks := [some (1, Fq.num 0), none, none]) (new := []) E rfl (by kernel_rfl) rfl rfl (fun hp => ⟨?_, ?_, ?_, trivial⟩) ?_
  · exact q_zeroInt hp (free_of rfl) trivial (fun w => Num.zero w)
  · exact q_storeOldInt hp (List.mem_iff_getElem?.2 ⟨0, rfl⟩) rfl rfl (sq_out (s := 4) rfl rfl (fun _ _ => rfl)) (sq_in 0 rfl rfl (by simp) rfl (fun v w h => intV_num h)) (fun _ _ => trivial) (newik_ne rfl)
  · exact q_assign hp (free_of rfl) trivial (sq_const (fun _ => rfl))
  intro L vs w5 nb hL hC hn E5
  have e2 : vs 2 = .int .i64 1 := hC 2 (by simp)
  have E : Fr w [(b3, 2, Fq.num 0), (b2, 2, Fq.num m), (b1, 2, Fq.num a)] w5 := E5
  rw [lay_all hL]
  simp only [putAll, dstOf, List.length_cons, List.length_nil, Nat.zero_add, Nat.reduceAdd, List.getElem?_toArray, List.getElem?_cons_zero, List.getElem?_cons_succ, Option.bind_some, Act.put, List.setIfInBounds_toArray, List.set_cons_succ, List.set_cons_zero]
  rw [e2]
  generalize vs 0 = u5_0
  clear e2 hC hn E5 hL vs L nb
  obtain ⟨p0, p1, c0, c1, hP⟩ := box_num (E.box 0 rfl)
  clear ha hm
  go_wp2
  refine bodyPost_ret (v := .tuple #[.agg #[p0, p1], .int .i64 1]) ?_ rfl ⟨_, rfl, E.below, ⟨_, _, rfl, hP, rfl⟩⟩
  simp [results, Tryz.results9, go_sem, c0, c1]

set_option maxRecDepth 100000 in
set_option maxHeartbeats 4000000 in
theorem exUInvP {w : World} {v v' : Value} {a m : Int} (h : Num w v a) (h' : Num w v' m) (ha : ab a < pw 20) (hm : ab m < pw 20) (h0 : 0 < m) (hg : Int.gcd (a % m) m = 1) :
    Calls Tryz.prog 9 #[v, v'] w fun e w' => ∃ v', e = .returned v' ∧ Below w.heap.size w w' ∧ (Fq.tup2 (Fq.num (bezU (a % m) m)) (Fq.is (.int .i64 0))).P v' w' := by
  replace ha := hidd ha
  replace hm := hidd hm
  obtain ⟨n0, ao0, k0, c0, rfl⟩ := h.parts
  obtain ⟨n1, ao1, k1, c1, rfl⟩ := h'.parts
  obtain ⟨w1, b1, hw1, hb1, hs1, E⟩ := fr_start w (F := Fq.num a) (us := [.bool n0, .slice ao0 k0 c0]) 29 rfl (by simp) (tame_int _ _ _ _) h
  obtain ⟨w2, b2, hw2, hb2, hs2, E⟩ := fr_more E hs1 (F := Fq.num m) (us := [.bool n1, .slice ao1 k1 c1]) 29 rfl (by simp) (tame_int _ _ _ _) (h'.mono E.below)
  obtain ⟨w3, b3, hw3, hb3, hs3, E⟩ := fr_more E hs2 (F := Fq.num 0) (us := [.bool false, .slice none 0 0]) 29 rfl (by simp) (tame_int _ _ _ _) (Num.zero _)
  go_enter Tryz.func9, Tryz.ntmps9
  go_upto_region 1 with (fail)
  rw [← hw1]
  rw [← hw2]
  rw [← hw3]
  rw [← hb3]
  rw [← hb2]
  rw [← hb1]
  clear hw1 hw2 hw3 hb1 hb2 hb3 hs3 hs1 hs2
  have T1 : Hid (¬ cmpI m 0 ≤ 0) := fun e => by have := cmpI_le0.1 e; omega
  have HM : Hid (m ≠ 0) := by show _ ≠ _; omega
  have HP := hidd h0
  have T2 : Hid (decide ((Int.gcd (a % m) m : Int) = 1) = true) := decide_eq_true (by omega)
  have HB := hidd (bez_res (a := a) h0)
  clear h0 hg
  refine region_fr (C := [Fq.num m, Fq.is (.int .i64 (cmpI m 0)), Fq.is (.bool false)]) (ks := [none, none, none]) (new := []) E rfl (by kernel_rfl) rfl rfl (fun hp => ⟨?_, ?_, ?_, trivial⟩) ?_
  · exact q_loadInt (off := 0) hp (free_of rfl) trivial (List.mem_iff_getElem?.2 ⟨1, rfl⟩) (.inl rfl) (Nat.le_of_ble_eq_true rfl) (sq_out (s := 3) rfl rfl (fun _ _ => rfl)) (fun us w hl h => ld_num hl h)
  · exact q_call1 (F := (Fq.num m).P) hp (free_of rfl) trivial (enq_R_Sign) (sqi 0) (fun v w h => exRSign h)
  · exact q_one (F := fun v _ => v = .int .i64 (cmpI m 0)) hp (free_of rfl) trivial (sqi 1) (fun ρ w hc h => ⟨.bool false, by simp [execOp, go_sem, h, hc, T1.out], rfl⟩)
  intro L vs w4 nb hL hC hn E4
  have e1 : vs 1 = .int .i64 (cmpI m 0) := hC 1 (by simp)
  have e2 : vs 2 = .bool false := hC 2 (by simp)
  have E : Fr w [(b3, 2, Fq.num 0), (b2, 2, Fq.num m), (b1, 2, Fq.num a)] w4 := E4
  rw [lay_all hL]
  simp only [putAll, dstOf, List.length_cons, List.length_nil, Nat.zero_add, Nat.reduceAdd, List.getElem?_toArray, List.getElem?_cons_zero, List.getElem?_cons_succ, Option.bind_some, Act.put, List.setIfInBounds_toArray, List.set_cons_succ, List.set_cons_zero]
  rw [e1, e2]
  generalize vs 0 = u4_0
  clear e1 e2 hC hn E4 hL vs L nb
  clear T1
  go_upto_region 3 with (fail)
  have B5 : Hid (ab ((a % m)) < pw 20) := ab_modB HM.out hm.out
  have B6 : Hid (ab ((Int.gcd (a % m) m : Int)) < pw 20) := ab_gcdB B5.out hm.out (by omega) (by omega)
  have B7 : Hid (ab (bezU (a % m) m) < pw 20) := bezU_ab HP.out hm.out
  refine region_fr (C := [Fq.num a, Fq.num m, Fq.num (a % m), Fq.num m, Fq.tup3 (Fq.num (Int.gcd (a % m) m : Int)) (Fq.num (bezU (a % m) m)) (Fq.num (bezV (a % m) m)), Fq.tup3 (Fq.num (Int.gcd (a % m) m : Int)) (Fq.num (bezU (a % m) m)) (Fq.num (bezV (a % m) m)), Fq.num (Int.gcd (a % m) m : Int), Fq.num (bezU (a % m) m), Fq.num (bezV (a % m) m), Fq.any, Fq.any, Fq.any, Fq.any, Fq.any, Fq.any]) (ks := [none, none, none]) (new := [⟨9, 12, 2, Fq.num 0, Fq.num (Int.gcd (a % m) m : Int), none⟩, ⟨10, 13, 2, Fq.num 0, Fq.num (bezU (a % m) m), none⟩, ⟨11, 14, 2, Fq.num 0, Fq.num (bezV (a % m) m), none⟩]) E rfl (by kernel_rfl) rfl rfl (fun hp => ⟨?_, ?_, ?_, ?_, ?_, ?_, ?_, ?_, ?_, ?_, ?_, ?_, ?_, ?_, ?_, trivial⟩) ?_
  · exact q_loadInt (off := 0) hp (free_of rfl) trivial (List.mem_iff_getElem?.2 ⟨2, rfl⟩) (.inl rfl) (Nat.le_of_ble_eq_true rfl) (sq_out (s := 2) rfl rfl (fun _ _ => rfl)) (fun us w hl h => ld_num hl h)
  · exact q_loadInt (off := 0) hp (free_of rfl) trivial (List.mem_iff_getElem?.2 ⟨1, rfl⟩) (.inl rfl) (Nat.le_of_ble_eq_true rfl) (sq_out (s := 3) rfl rfl (fun _ _ => rfl)) (fun us w hl h => ld_num hl h)
  · exact q_call2 (F := (Fq.num a).P) (G := (Fq.num m).P) hp (free_of rfl) trivial (enq_R_Mod) (sqi 0) (sqi 1) (fun v v' w h h' => exK (RModV h h' (Int.lt_of_lt_of_le ha.out (pw_le (by omega))) (Int.lt_of_lt_of_le hm.out (pw_le (by omega))) HM.out) B5.out (by omega))
  · exact q_loadInt (off := 0) hp (free_of rfl) trivial (List.mem_iff_getElem?.2 ⟨1, rfl⟩) (.inl rfl) (Nat.le_of_ble_eq_true rfl) (sq_out (s := 3) rfl rfl (fun _ _ => rfl)) (fun us w hl h => ld_num hl h)
  · exact q_call2 (F := (Fq.num (a % m)).P) (G := (Fq.num m).P) hp (free_of rfl) trivial (enq_R_Bezout) (sqi 2) (sqi 3) (fun v v' w h h' => exRBezout h h' (Int.lt_of_lt_of_le B5.out (pw_le (by omega))) (Int.lt_of_lt_of_le hm.out (pw_le (by omega))) HP.out)
  · exact q_move hp (free_of rfl) trivial (sqi 4)
  · exact q_extract3 hp (free_of rfl) trivial (sqi 5) (fun v1 v2 v3 w h1 h2 h3 => ⟨_, rfl, h1⟩)
  · exact q_extract3 hp (free_of rfl) trivial (sqi 5) (fun v1 v2 v3 w h1 h2 h3 => ⟨_, rfl, h2⟩)
  · exact q_extract3 hp (free_of rfl) trivial (sqi 5) (fun v1 v2 v3 w h1 h2 h3 => ⟨_, rfl, h3⟩)
  · exact q_allocInt hp (List.mem_iff_getElem?.2 ⟨0, rfl⟩) rfl rfl rfl rfl (Nat.ne_of_beq_eq_false rfl) (fun _ _ => trivial) (old_ne rfl) (newk_ne rfl) (fun w => Num.zero w)
  · exact q_allocInt hp (List.mem_iff_getElem?.2 ⟨1, rfl⟩) rfl rfl rfl rfl (Nat.ne_of_beq_eq_false rfl) (fun _ _ => trivial) (old_ne rfl) (newk_ne rfl) (fun w => Num.zero w)
  · exact q_allocInt hp (List.mem_iff_getElem?.2 ⟨2, rfl⟩) rfl rfl rfl rfl (Nat.ne_of_beq_eq_false rfl) (fun _ _ => trivial) (old_ne rfl) (newk_ne rfl) (fun w => Num.zero w)
  · exact q_storeNewInt hp (List.mem_iff_getElem?.2 ⟨0, rfl⟩) rfl rfl rfl (own_ptr rfl rfl (by simp) rfl) (sq_in 6 rfl rfl (by simp) rfl (fun v w h => intV_num h)) (fun _ _ => trivial) (old_ne rfl) (newi_ne rfl)
  · exact q_storeNewInt hp (List.mem_iff_getElem?.2 ⟨1, rfl⟩) rfl rfl rfl (own_ptr rfl rfl (by simp) rfl) (sq_in 7 rfl rfl (by simp) rfl (fun v w h => intV_num h)) (fun _ _ => trivial) (old_ne rfl) (newi_ne rfl)
  · exact q_storeNewInt hp (List.mem_iff_getElem?.2 ⟨2, rfl⟩) rfl rfl rfl (own_ptr rfl rfl (by simp) rfl) (sq_in 8 rfl rfl (by simp) rfl (fun v w h => intV_num h)) (fun _ _ => trivial) (old_ne rfl) (newi_ne rfl)
  intro L vs w8 nb hL hC hn E8
  have e9 : vs 9 = .pointer (some ⟨nb 9, 0, none⟩) := hn _ (List.mem_iff_getElem?.2 ⟨0, rfl⟩)
  have e10 : vs 10 = .pointer (some ⟨nb 10, 0, none⟩) := hn _ (List.mem_iff_getElem?.2 ⟨1, rfl⟩)
  have e11 : vs 11 = .pointer (some ⟨nb 11, 0, none⟩) := hn _ (List.mem_iff_getElem?.2 ⟨2, rfl⟩)
  have E : Fr w [(nb 9, 2, Fq.num (Int.gcd (a % m) m : Int)), (nb 10, 2, Fq.num (bezU (a % m) m)), (nb 11, 2, Fq.num (bezV (a % m) m)), (b3, 2, Fq.num 0), (b2, 2, Fq.num m), (b1, 2, Fq.num a)] w8 := E8
  rw [lay_all hL]
  simp only [putAll, dstOf, List.length_cons, List.length_nil, Nat.zero_add, Nat.reduceAdd, List.getElem?_toArray, List.getElem?_cons_zero, List.getElem?_cons_succ, Option.bind_some, Act.put, List.setIfInBounds_toArray, List.set_cons_succ, List.set_cons_zero]
  rw [e9, e10, e11]
  generalize nb 9 = b8_9 at E ⊢
  generalize nb 10 = b8_10 at E ⊢
  generalize nb 11 = b8_11 at E ⊢
  generalize vs 0 = u8_0
  generalize vs 1 = u8_1
  generalize vs 2 = u8_2
  generalize vs 3 = u8_3
  generalize vs 4 = u8_4
  generalize vs 5 = u8_5
  generalize vs 6 = u8_6
  generalize vs 7 = u8_7
  generalize vs 8 = u8_8
  clear e9 e10 e11 hC hn E8 hL vs L nb
  go_upto_region 4 with (fail)
  have B9 : Hid (ab ((1)) < pw 3) := ab_lit (by decide)
  refine region_fr (C := [Fq.num (Int.gcd (a % m) m : Int), Fq.num (1), Fq.is (.bool true), Fq.is (.bool false)]) (ks := [none, none, none, none, none, none]) (new := []) E rfl (by kernel_rfl) rfl rfl (fun hp => ⟨?_, ?_, ?_, ?_, trivial⟩) ?_
  · exact q_loadInt (off := 0) hp (free_of rfl) trivial (List.mem_iff_getElem?.2 ⟨0, rfl⟩) (.inl rfl) (Nat.le_of_ble_eq_true rfl) (sq_out (s := 6) rfl rfl (fun _ _ => rfl)) (fun us w hl h => ld_num hl h)
  · exact q_call1 (F := (Fq.is (.int .i64 1)).P) hp (free_of rfl) trivial (enq_R_Of) (sq_const (fun _ => rfl)) (fun v w h => (by subst h; exact rOfK w (1) (by omega) (by omega)))
  · exact q_call2 (F := (Fq.num (Int.gcd (a % m) m : Int)).P) (G := (Fq.num (1)).P) hp (free_of rfl) trivial (enq_R_Same) (sqi 0) (sqi 1) (fun v v' w h h' => exRSameB h h' T2.out)
  · exact q_one (F := fun v _ => v = .bool true) hp (free_of rfl) trivial (sqi 2) (fun ρ w _ h => ⟨.bool false, by simp [execOp, go_sem, h], rfl⟩)
  intro L vs w10 nb hL hC hn E10
  have e2 : vs 2 = .bool true := hC 2 (by simp)
  have e3 : vs 3 = .bool false := hC 3 (by simp)
  have E : Fr w [(b8_9, 2, Fq.num (Int.gcd (a % m) m : Int)), (b8_10, 2, Fq.num (bezU (a % m) m)), (b8_11, 2, Fq.num (bezV (a % m) m)), (b3, 2, Fq.num 0), (b2, 2, Fq.num m), (b1, 2, Fq.num a)] w10 := E10
  rw [lay_all hL]
  simp only [putAll, dstOf, List.length_cons, List.length_nil, Nat.zero_add, Nat.reduceAdd, List.getElem?_toArray, List.getElem?_cons_zero, List.getElem?_cons_succ, Option.bind_some, Act.put, List.setIfInBounds_toArray, List.set_cons_succ, List.set_cons_zero]
  rw [e2, e3]
  generalize vs 0 = u10_0
  generalize vs 1 = u10_1
  clear e2 e3 hC hn E10 hL vs L nb
  clear T2
  go_upto_region 6 with (fail)
  have B11 : Hid (ab ((bezU (a % m) m % m)) < pw 20) := ab_modB HM.out hm.out
  refine region_fr (C := [Fq.num (bezU (a % m) m), Fq.num m, Fq.num (bezU (a % m) m % m), Fq.any, Fq.is (.int .i64 0)]) (ks := [none, none, none, some (3, Fq.num (bezU (a % m) m % m)), none, none]) (new := []) E rfl (by kernel_rfl) rfl rfl (fun hp => ⟨?_, ?_, ?_, ?_, ?_, trivial⟩) ?_
  · exact q_loadInt (off := 0) hp (free_of rfl) trivial (List.mem_iff_getElem?.2 ⟨1, rfl⟩) (.inl rfl) (Nat.le_of_ble_eq_true rfl) (sq_out (s := 7) rfl rfl (fun _ _ => rfl)) (fun us w hl h => ld_num hl h)
  · exact q_loadInt (off := 0) hp (free_of rfl) trivial (List.mem_iff_getElem?.2 ⟨4, rfl⟩) (.inl rfl) (Nat.le_of_ble_eq_true rfl) (sq_out (s := 3) rfl rfl (fun _ _ => rfl)) (fun us w hl h => ld_num hl h)
  · exact q_call2 (F := (Fq.num (bezU (a % m) m)).P) (G := (Fq.num m).P) hp (free_of rfl) trivial (enq_R_Mod) (sqi 0) (sqi 1) (fun v v' w h h' => exK (RModV h h' (Int.lt_of_lt_of_le B7.out (pw_le (by omega))) (Int.lt_of_lt_of_le hm.out (pw_le (by omega))) HM.out) B11.out (by omega))
  · exact q_storeOldInt hp (List.mem_iff_getElem?.2 ⟨3, rfl⟩) rfl rfl (sq_out (s := 4) rfl rfl (fun _ _ => rfl)) (sq_in 2 rfl rfl (by simp) rfl (fun v w h => intV_num h)) (fun _ _ => trivial) (newik_ne rfl)
  · exact q_assign hp (free_of rfl) trivial (sq_const (fun _ => rfl))
  intro L vs w12 nb hL hC hn E12
  have e4 : vs 4 = .int .i64 0 := hC 4 (by simp)
  have E : Fr w [(b8_9, 2, Fq.num (Int.gcd (a % m) m : Int)), (b8_10, 2, Fq.num (bezU (a % m) m)), (b8_11, 2, Fq.num (bezV (a % m) m)), (b3, 2, Fq.num (bezU (a % m) m % m)), (b2, 2, Fq.num m), (b1, 2, Fq.num a)] w12 := E12
  rw [lay_all hL]
  simp only [putAll, dstOf, List.length_cons, List.length_nil, Nat.zero_add, Nat.reduceAdd, List.getElem?_toArray, List.getElem?_cons_zero, List.getElem?_cons_succ, Option.bind_some, Act.put, List.setIfInBounds_toArray, List.set_cons_succ, List.set_cons_zero]
  rw [e4]
  generalize vs 0 = u12_0
  generalize vs 1 = u12_1
  generalize vs 2 = u12_2
  clear e4 hC hn E12 hL vs L nb
  clear HM HP
  rw [HB.out] at E
  clear HB
  obtain ⟨p0, p1, c0, c1, hP⟩ := box_num (E.box 3 rfl)
  clear B5 B6 B7 B9 B11 ha hm
  go_wp2
  refine bodyPost_ret (v := .tuple #[.agg #[p0, p1], .int .i64 0]) ?_ rfl ⟨_, rfl, E.below, ⟨_, _, rfl, hP, rfl⟩⟩
  simp [results, Tryz.results9, go_sem, c0, c1]

set_option maxRecDepth 100000 in
set_option maxHeartbeats 4000000 in
theorem exUInvN {w : World} {v v' : Value} {a m : Int} (h : Num w v a) (h' : Num w v' m) (ha : ab a < pw 20) (hm : ab m < pw 20) (h0 : 0 < m) (hg : Int.gcd (a % m) m ≠ 1) :
    Calls Tryz.prog 9 #[v, v'] w fun e w' => ∃ v', e = .returned v' ∧ Below w.heap.size w w' ∧ (Fq.tup2 (Fq.num 0) (Fq.is (.int .i64 4))).P v' w' := by
  replace ha := hidd ha
  replace hm := hidd hm
  obtain ⟨n0, ao0, k0, c0, rfl⟩ := h.parts
  obtain ⟨n1, ao1, k1, c1, rfl⟩ := h'.parts
  obtain ⟨w1, b1, hw1, hb1, hs1, E⟩ := fr_start w (F := Fq.num a) (us := [.bool n0, .slice ao0 k0 c0]) 29 rfl (by simp) (tame_int _ _ _ _) h
  obtain ⟨w2, b2, hw2, hb2, hs2, E⟩ := fr_more E hs1 (F := Fq.num m) (us := [.bool n1, .slice ao1 k1 c1]) 29 rfl (by simp) (tame_int _ _ _ _) (h'.mono E.below)
  obtain ⟨w3, b3, hw3, hb3, hs3, E⟩ := fr_more E hs2 (F := Fq.num 0) (us := [.bool false, .slice none 0 0]) 29 rfl (by simp) (tame_int _ _ _ _) (Num.zero _)
  go_enter Tryz.func9, Tryz.ntmps9
  go_upto_region 1 with (fail)
  rw [← hw1]
  rw [← hw2]
  rw [← hw3]
  rw [← hb3]
  rw [← hb2]
  rw [← hb1]
  clear hw1 hw2 hw3 hb1 hb2 hb3 hs3 hs1 hs2
  have T1 : Hid (¬ cmpI m 0 ≤ 0) := fun e => by have := cmpI_le0.1 e; omega
  have HM : Hid (m ≠ 0) := by show _ ≠ _; omega
  have HP := hidd h0
  have T2 : Hid (decide ((Int.gcd (a % m) m : Int) = 1) = false) := decide_eq_false (by omega)
  clear h0 hg
  refine region_fr (C := [Fq.num m, Fq.is (.int .i64 (cmpI m 0)), Fq.is (.bool false)]) (ks := [none, none, none]) (new := []) E rfl (by kernel_rfl) rfl rfl (fun hp => ⟨?_, ?_, ?_, trivial⟩) ?_
  · exact q_loadInt (off := 0) hp (free_of rfl) trivial (List.mem_iff_getElem?.2 ⟨1, rfl⟩) (.inl rfl) (Nat.le_of_ble_eq_true rfl) (sq_out (s := 3) rfl rfl (fun _ _ => rfl)) (fun us w hl h => ld_num hl h)
  · exact q_call1 (F := (Fq.num m).P) hp (free_of rfl) trivial (enq_R_Sign) (sqi 0) (fun v w h => exRSign h)
  · exact q_one (F := fun v _ => v = .int .i64 (cmpI m 0)) hp (free_of rfl) trivial (sqi 1) (fun ρ w hc h => ⟨.bool false, by simp [execOp, go_sem, h, hc, T1.out], rfl⟩)
  intro L vs w4 nb hL hC hn E4
  have e1 : vs 1 = .int .i64 (cmpI m 0) := hC 1 (by simp)
  have e2 : vs 2 = .bool false := hC 2 (by simp)
  have E : Fr w [(b3, 2, Fq.num 0), (b2, 2, Fq.num m), (b1, 2, Fq.num a)] w4 := E4
  rw [lay_all hL]
  simp only [putAll, dstOf, List.length_cons, List.length_nil, Nat.zero_add, Nat.reduceAdd, List.getElem?_toArray, List.getElem?_cons_zero, List.getElem?_cons_succ, Option.bind_some, Act.put, List.setIfInBounds_toArray, List.set_cons_succ, List.set_cons_zero]
  rw [e1, e2]
  generalize vs 0 = u4_0
  clear e1 e2 hC hn E4 hL vs L nb
  clear T1
  go_upto_region 3 with (fail)
  have B5 : Hid (ab ((a % m)) < pw 20) := ab_modB HM.out hm.out
  have B6 : Hid (ab ((Int.gcd (a % m) m : Int)) < pw 20) := ab_gcdB B5.out hm.out (by omega) (by omega)
  have B7 : Hid (ab (bezU (a % m) m) < pw 20) := bezU_ab HP.out hm.out
  refine region_fr (C := [Fq.num a, Fq.num m, Fq.num (a % m), Fq.num m, Fq.tup3 (Fq.num (Int.gcd (a % m) m : Int)) (Fq.num (bezU (a % m) m)) (Fq.num (bezV (a % m) m)), Fq.tup3 (Fq.num (Int.gcd (a % m) m : Int)) (Fq.num (bezU (a % m) m)) (Fq.num (bezV (a % m) m)), Fq.num (Int.gcd (a % m) m : Int), Fq.num (bezU (a % m) m), Fq.num (bezV (a % m) m), Fq.any, Fq.any, Fq.any, Fq.any, Fq.any, Fq.any]) (ks := [none, none, none]) (new := [⟨9, 12, 2, Fq.num 0, Fq.num (Int.gcd (a % m) m : Int), none⟩, ⟨10, 13, 2, Fq.num 0, Fq.num (bezU (a % m) m), none⟩, ⟨11, 14, 2, Fq.num 0, Fq.num (bezV (a % m) m), none⟩]) E rfl (by kernel_rfl) rfl rfl (fun hp => ⟨?_, ?_, ?_, ?_, ?_, ?_, ?_, ?_, ?_, ?_, ?_, ?_, ?_, ?_, ?_, trivial⟩) ?_
  · exact q_loadInt (off := 0) hp (free_of rfl) trivial (List.mem_iff_getElem?.2 ⟨2, rfl⟩) (.inl rfl) (Nat.le_of_ble_eq_true rfl) (sq_out (s := 2) rfl rfl (fun _ _ => rfl)) (fun us w hl h => ld_num hl h)
  · exact q_loadInt (off := 0) hp (free_of rfl) trivial (List.mem_iff_getElem?.2 ⟨1, rfl⟩) (.inl rfl) (Nat.le_of_ble_eq_true rfl) (sq_out (s := 3) rfl rfl (fun _ _ => rfl)) (fun us w hl h => ld_num hl h)
  · exact q_call2 (F := (Fq.num a).P) (G := (Fq.num m).P) hp (free_of rfl) trivial (enq_R_Mod) (sqi 0) (sqi 1) (fun v v' w h h' => exK (RModV h h' (Int.lt_of_lt_of_le ha.out (pw_le (by omega))) (Int.lt_of_lt_of_le hm.out (pw_le (by omega))) HM.out) B5.out (by omega))
  · exact q_loadInt (off := 0) hp (free_of rfl) trivial (List.mem_iff_getElem?.2 ⟨1, rfl⟩) (.inl rfl) (Nat.le_of_ble_eq_true rfl) (sq_out (s := 3) rfl rfl (fun _ _ => rfl)) (fun us w hl h => ld_num hl h)
  · exact q_call2 (F := (Fq.num (a % m)).P) (G := (Fq.num m).P) hp (free_of rfl) trivial (enq_R_Bezout) (sqi 2) (sqi 3) (fun v v' w h h' => exRBezout h h' (Int.lt_of_lt_of_le B5.out (pw_le (by omega))) (Int.lt_of_lt_of_le hm.out (pw_le (by omega))) HP.out)
  · exact q_move hp (free_of rfl) trivial (sqi 4)
  · exact q_extract3 hp (free_of rfl) trivial (sqi 5) (fun v1 v2 v3 w h1 h2 h3 => ⟨_, rfl, h1⟩)
  · exact q_extract3 hp (free_of rfl) trivial (sqi 5) (fun v1 v2 v3 w h1 h2 h3 => ⟨_, rfl, h2⟩)
  · exact q_extract3 hp (free_of rfl) trivial (sqi 5) (fun v1 v2 v3 w h1 h2 h3 => ⟨_, rfl, h3⟩)
  · exact q_allocInt hp (List.mem_iff_getElem?.2 ⟨0, rfl⟩) rfl rfl rfl rfl (Nat.ne_of_beq_eq_false rfl) (fun _ _ => trivial) (old_ne rfl) (newk_ne rfl) (fun w => Num.zero w)
  · exact q_allocInt hp (List.mem_iff_getElem?.2 ⟨1, rfl⟩) rfl rfl rfl rfl (Nat.ne_of_beq_eq_false rfl) (fun _ _ => trivial) (old_ne rfl) (newk_ne rfl) (fun w => Num.zero w)
  · exact q_allocInt hp (List.mem_iff_getElem?.2 ⟨2, rfl⟩) rfl rfl rfl rfl (Nat.ne_of_beq_eq_false rfl) (fun _ _ => trivial) (old_ne rfl) (newk_ne rfl) (fun w => Num.zero w)
  · exact q_storeNewInt hp (List.mem_iff_getElem?.2 ⟨0, rfl⟩) rfl rfl rfl (own_ptr rfl rfl (by simp) rfl) (sq_in 6 rfl rfl (by simp) rfl (fun v w h => intV_num h)) (fun _ _ => trivial) (old_ne rfl) (newi_ne rfl)
  · exact q_storeNewInt hp (List.mem_iff_getElem?.2 ⟨1, rfl⟩) rfl rfl rfl (own_ptr rfl rfl (by simp) rfl) (sq_in 7 rfl rfl (by simp) rfl (fun v w h => intV_num h)) (fun _ _ => trivial) (old_ne rfl) (newi_ne rfl)
  · exact q_storeNewInt hp (List.mem_iff_getElem?.2 ⟨2, rfl⟩) rfl rfl rfl (own_ptr rfl rfl (by simp) rfl) (sq_in 8 rfl rfl (by simp) rfl (fun v w h => intV_num h)) (fun _ _ => trivial) (old_ne rfl) (newi_ne rfl)
  intro L vs w8 nb hL hC hn E8
  have e9 : vs 9 = .pointer (some ⟨nb 9, 0, none⟩) := hn _ (List.mem_iff_getElem?.2 ⟨0, rfl⟩)
  have e10 : vs 10 = .pointer (some ⟨nb 10, 0, none⟩) := hn _ (List.mem_iff_getElem?.2 ⟨1, rfl⟩)
  have e11 : vs 11 = .pointer (some ⟨nb 11, 0, none⟩) := hn _ (List.mem_iff_getElem?.2 ⟨2, rfl⟩)
  have E : Fr w [(nb 9, 2, Fq.num (Int.gcd (a % m) m : Int)), (nb 10, 2, Fq.num (bezU (a % m) m)), (nb 11, 2, Fq.num (bezV (a % m) m)), (b3, 2, Fq.num 0), (b2, 2, Fq.num m), (b1, 2, Fq.num a)] w8 := E8
  rw [lay_all hL]
  simp only [putAll, dstOf, List.length_cons, List.length_nil, Nat.zero_add, Nat.reduceAdd, List.getElem?_toArray, List.getElem?_cons_zero, List.getElem?_cons_succ, Option.bind_some, Act.put, List.setIfInBounds_toArray, List.set_cons_succ, List.set_cons_zero]
  rw [e9, e10, e11]
  generalize nb 9 = b8_9 at E ⊢
  generalize nb 10 = b8_10 at E ⊢
  generalize nb 11 = b8_11 at E ⊢
  generalize vs 0 = u8_0
  generalize vs 1 = u8_1
  generalize vs 2 = u8_2
  generalize vs 3 = u8_3
  generalize vs 4 = u8_4
  generalize vs 5 = u8_5
  generalize vs 6 = u8_6
  generalize vs 7 = u8_7
  generalize vs 8 = u8_8
  clear e9 e10 e11 hC hn E8 hL vs L nb
  go_upto_region 4 with (fail)
  have B9 : Hid (ab ((1)) < pw 3) := ab_lit (by decide)
  refine region_fr (C := [Fq.num (Int.gcd (a % m) m : Int), Fq.num (1), Fq.is (.bool false), Fq.is (.bool true)]) (ks := [none, none, none, none, none, none]) (new := []) E rfl (by kernel_rfl) rfl rfl (fun hp => ⟨?_, ?_, ?_, ?_, trivial⟩) ?_
  · exact q_loadInt (off := 0) hp (free_of rfl) trivial (List.mem_iff_getElem?.2 ⟨0, rfl⟩) (.inl rfl) (Nat.le_of_ble_eq_true rfl) (sq_out (s := 6) rfl rfl (fun _ _ => rfl)) (fun us w hl h => ld_num hl h)
  · exact q_call1 (F := (Fq.is (.int .i64 1)).P) hp (free_of rfl) trivial (enq_R_Of) (sq_const (fun _ => rfl)) (fun v w h => (by subst h; exact rOfK w (1) (by omega) (by omega)))
  · exact q_call2 (F := (Fq.num (Int.gcd (a % m) m : Int)).P) (G := (Fq.num (1)).P) hp (free_of rfl) trivial (enq_R_Same) (sqi 0) (sqi 1) (fun v v' w h h' => exRSameB h h' T2.out)
  · exact q_one (F := fun v _ => v = .bool false) hp (free_of rfl) trivial (sqi 2) (fun ρ w _ h => ⟨.bool true, by simp [execOp, go_sem, h], rfl⟩)
  intro L vs w10 nb hL hC hn E10
  have e2 : vs 2 = .bool false := hC 2 (by simp)
  have e3 : vs 3 = .bool true := hC 3 (by simp)
  have E : Fr w [(b8_9, 2, Fq.num (Int.gcd (a % m) m : Int)), (b8_10, 2, Fq.num (bezU (a % m) m)), (b8_11, 2, Fq.num (bezV (a % m) m)), (b3, 2, Fq.num 0), (b2, 2, Fq.num m), (b1, 2, Fq.num a)] w10 := E10
  rw [lay_all hL]
  simp only [putAll, dstOf, List.length_cons, List.length_nil, Nat.zero_add, Nat.reduceAdd, List.getElem?_toArray, List.getElem?_cons_zero, List.getElem?_cons_succ, Option.bind_some, Act.put, List.setIfInBounds_toArray, List.set_cons_succ, List.set_cons_zero]
  rw [e2, e3]
  generalize vs 0 = u10_0
  generalize vs 1 = u10_1
  clear e2 e3 hC hn E10 hL vs L nb
  clear T2
  go_upto_region 5 with (fail)
  refine region_fr (C := [Fq.num 0, Fq.any, Fq.is (.int .i64 4)]) (ks := [none, none, none, some (1, Fq.num 0), none, none]) (new := []) E rfl (by kernel_rfl) rfl rfl (fun hp => ⟨?_, ?_, ?_, trivial⟩) ?_
  · exact q_zeroInt hp (free_of rfl) trivial (fun w => Num.zero w)
  · exact q_storeOldInt hp (List.mem_iff_getElem?.2 ⟨3, rfl⟩) rfl rfl (sq_out (s := 4) rfl rfl (fun _ _ => rfl)) (sq_in 0 rfl rfl (by simp) rfl (fun v w h => intV_num h)) (fun _ _ => trivial) (newik_ne rfl)
  · exact q_assign hp (free_of rfl) trivial (sq_const (fun _ => rfl))
  intro L vs w11 nb hL hC hn E11
  have e2 : vs 2 = .int .i64 4 := hC 2 (by simp)
  have E : Fr w [(b8_9, 2, Fq.num (Int.gcd (a % m) m : Int)), (b8_10, 2, Fq.num (bezU (a % m) m)), (b8_11, 2, Fq.num (bezV (a % m) m)), (b3, 2, Fq.num 0), (b2, 2, Fq.num m), (b1, 2, Fq.num a)] w11 := E11
  rw [lay_all hL]
  simp only [putAll, dstOf, List.length_cons, List.length_nil, Nat.zero_add, Nat.reduceAdd, List.getElem?_toArray, List.getElem?_cons_zero, List.getElem?_cons_succ, Option.bind_some, Act.put, List.setIfInBounds_toArray, List.set_cons_succ, List.set_cons_zero]
  rw [e2]
  generalize vs 0 = u11_0
  clear e2 hC hn E11 hL vs L nb
  clear HM HP
  obtain ⟨p0, p1, c0, c1, hP⟩ := box_num (E.box 3 rfl)
  clear B5 B6 B7 B9 ha hm
  go_wp2
  refine bodyPost_ret (v := .tuple #[.agg #[p0, p1], .int .i64 4]) ?_ rfl ⟨_, rfl, E.below, ⟨_, _, rfl, hP, rfl⟩⟩
  simp [results, Tryz.results9, go_sem, c0, c1]

set_option maxRecDepth 100000 in
set_option maxHeartbeats 4000000 in
theorem exUPower {w : World} {v v' u : Value} {a n m : Int} (h : Num w v a) (h' : Num w v' n) (g : Num w u m) (ha : ab a < pw 20) (hn : ab n < pw 20) (hm : ab m < pw 20) (h0 : 0 < m) :
    Calls Tryz.prog 30 #[v, v', u] w fun e w' => ∃ v', e = .returned v' ∧ Below w.heap.size w w' ∧ Num w' v' (a ^ n.natAbs % m) := by
  replace ha := hidd ha
  replace hn := hidd hn
  replace hm := hidd hm
  have HP := hidd h0
  have HM : Hid (m ≠ 0) := by show _ ≠ _; omega
  clear h0
  obtain ⟨n0, ao0, k0, c0, rfl⟩ := h.parts
  obtain ⟨n1, ao1, k1, c1, rfl⟩ := h'.parts
  obtain ⟨n2, ao2, k2, c2, rfl⟩ := g.parts
  obtain ⟨w1, b1, hw1, hb1, hs1, E⟩ := fr_start w (F := Fq.num a) (us := [.bool n0, .slice ao0 k0 c0]) 29 rfl (by simp) (tame_int _ _ _ _) h
  obtain ⟨w2, b2, hw2, hb2, hs2, E⟩ := fr_more E hs1 (F := Fq.num n) (us := [.bool n1, .slice ao1 k1 c1]) 29 rfl (by simp) (tame_int _ _ _ _) (h'.mono E.below)
  obtain ⟨w3, b3, hw3, hb3, hs3, E⟩ := fr_more E hs2 (F := Fq.num m) (us := [.bool n2, .slice ao2 k2 c2]) 29 rfl (by simp) (tame_int _ _ _ _) (g.mono E.below)
  obtain ⟨w4, b4, hw4, hb4, hs4, E⟩ := fr_more E hs3 (F := Fq.num 0) (us := [.bool false, .slice none 0 0]) 29 rfl (by simp) (tame_int _ _ _ _) (Num.zero _)
  go_enter Tryz.func30, Tryz.ntmps30
  go_upto_region 1 with (fail)
  rw [← hw1]
  rw [← hw2]
  rw [← hw3]
  rw [← hw4]
  rw [← hb4]
  rw [← hb3]
  rw [← hb2]
  rw [← hb1]
  clear hw1 hw2 hw3 hw4 hb1 hb2 hb3 hb4 hs4 hs1 hs2 hs3
  have B5 : Hid (ab ((1)) < pw 3) := ab_lit (by decide)
  have B6 : Hid (ab (((1) % m)) < pw 20) := ab_modB HM.out hm.out
  refine region_fr (C := [Fq.num (1), Fq.num m, Fq.num ((1) % m), Fq.any, Fq.any]) (ks := [none, none, none, none]) (new := [⟨3, 4, 2, Fq.num 0, Fq.num ((1) % m), none⟩]) E rfl (by kernel_rfl) rfl rfl (fun hp => ⟨?_, ?_, ?_, ?_, ?_, trivial⟩) ?_
  · exact q_call1 (F := (Fq.is (.int .i64 1)).P) hp (free_of rfl) trivial (enq_R_Of) (sq_const (fun _ => rfl)) (fun v w h => (by subst h; exact rOfK w (1) (by omega) (by omega)))
  · exact q_loadInt (off := 0) hp (free_of rfl) trivial (List.mem_iff_getElem?.2 ⟨1, rfl⟩) (.inl rfl) (Nat.le_of_ble_eq_true rfl) (sq_out (s := 5) rfl rfl (fun _ _ => rfl)) (fun us w hl h => ld_num hl h)
  · exact q_call2 (F := (Fq.num (1)).P) (G := (Fq.num m).P) hp (free_of rfl) trivial (enq_R_Mod) (sqi 0) (sqi 1) (fun v v' w h h' => exK (RModV h h' (Int.lt_of_lt_of_le B5.out (pw_le (by omega))) (Int.lt_of_lt_of_le hm.out (pw_le (by omega))) HM.out) B6.out (by omega))
  · exact q_allocInt hp (List.mem_iff_getElem?.2 ⟨0, rfl⟩) rfl rfl rfl rfl (Nat.ne_of_beq_eq_false rfl) (fun _ _ => trivial) (old_ne rfl) (newk_ne rfl) (fun w => Num.zero w)
  · exact q_storeNewInt hp (List.mem_iff_getElem?.2 ⟨0, rfl⟩) rfl rfl rfl (own_ptr rfl rfl (by simp) rfl) (sq_in 2 rfl rfl (by simp) rfl (fun v w h => intV_num h)) (fun _ _ => trivial) (old_ne rfl) (newi_ne rfl)
  intro L vs w7 nb hL hC hn E7
  have e3 : vs 3 = .pointer (some ⟨nb 3, 0, none⟩) := hn _ (List.mem_iff_getElem?.2 ⟨0, rfl⟩)
  have E : Fr w [(nb 3, 2, Fq.num ((1) % m)), (b4, 2, Fq.num 0), (b3, 2, Fq.num m), (b2, 2, Fq.num n), (b1, 2, Fq.num a)] w7 := E7
  rw [lay_all hL]
  simp only [putAll, dstOf, List.length_cons, List.length_nil, Nat.zero_add, Nat.reduceAdd, List.getElem?_toArray, List.getElem?_cons_zero, List.getElem?_cons_succ, Option.bind_some, Act.put, List.setIfInBounds_toArray, List.set_cons_succ, List.set_cons_zero]
  rw [e3]
  generalize nb 3 = b7_3 at E ⊢
  generalize vs 0 = u7_0
  generalize vs 1 = u7_1
  generalize vs 2 = u7_2
  clear e3 hC hn E7 hL vs L nb
  have HNB : Hid (nbits n ≤ 640) := nbits_le hn.out
  have TW : Hid (IntKind.i64.wrap (((nbits n : Nat) : Int) - 1) = ((nbits n : Nat) : Int) - 1) := IntWalk.i64_in _ (by have := HNB.out; omega)
  go_upto_region 2 with (fail)
  refine region_fr (C := [Fq.num n, Fq.is (.int .i64 ((nbits n : Nat) : Int)), Fq.is (.int .i64 (((nbits n : Nat) : Int) - 1)), Fq.is (.int .i64 (((nbits n : Nat) : Int) - 1))]) (ks := [none, none, none, none, none]) (new := []) E rfl (by kernel_rfl) rfl rfl (fun hp => ⟨?_, ?_, ?_, ?_, trivial⟩) ?_
  · exact q_loadInt (off := 0) hp (free_of rfl) trivial (List.mem_iff_getElem?.2 ⟨3, rfl⟩) (.inl rfl) (Nat.le_of_ble_eq_true rfl) (sq_out (s := 4) rfl rfl (fun _ _ => rfl)) (fun us w hl h => ld_num hl h)
  · exact q_call1 (F := (Fq.num n).P) hp (free_of rfl) trivial (enq_R_Bits) (sqi 0) (fun v w h => exRBitsN h)
  · exact q_one (F := fun v _ => v = .int .i64 ((nbits n : Nat) : Int)) hp (free_of rfl) trivial (sqi 1) (fun ρ w hc h => ⟨.int .i64 (((nbits n : Nat) : Int) - 1), by simp [execOp, go_sem, h, hc, TW.out], rfl⟩)
  · exact q_assign hp (free_of rfl) trivial (sqi 2)
  intro L vs w8 nb hL hC hn E8
  have e1 : vs 1 = .int .i64 ((nbits n : Nat) : Int) := hC 1 (by simp)
  have e2 : vs 2 = .int .i64 (((nbits n : Nat) : Int) - 1) := hC 2 (by simp)
  have e3 : vs 3 = .int .i64 (((nbits n : Nat) : Int) - 1) := hC 3 (by simp)
  have E : Fr w [(b7_3, 2, Fq.num ((1) % m)), (b4, 2, Fq.num 0), (b3, 2, Fq.num m), (b2, 2, Fq.num n), (b1, 2, Fq.num a)] w8 := E8
  rw [lay_all hL]
  simp only [putAll, dstOf, List.length_cons, List.length_nil, Nat.zero_add, Nat.reduceAdd, List.getElem?_toArray, List.getElem?_cons_zero, List.getElem?_cons_succ, Option.bind_some, Act.put, List.setIfInBounds_toArray, List.set_cons_succ, List.set_cons_zero]
  rw [e1, e2, e3]
  generalize vs 0 = u8_0
  clear e1 e2 e3 hC hn E8 hL vs L nb
  clear TW
  have HS := hidd E
  go_upto_region 3 with (fail)
  go_loopw [8] (fun vi W => ∃ j : Nat, j ≤ nbits n ∧ vi = .int .i64 ((j : Int) - 1) ∧ Fr w [(b7_3, 2, Fq.num (a ^ (n.natAbs / 2 ^ j) % m)), (b4, 2, Fq.num 0), (b3, 2, Fq.num m), (b2, 2, Fq.num n), (b1, 2, Fq.num a)] W) (fun vi _ => (intOf vi + 1).toNat)
  case atStart => exact ⟨nbits n, Nat.le_refl _, rfl, by rw [nbits_top, Int.pow_zero]; exact HS.out⟩
  case round =>
    obtain ⟨j, hj, rfl, E⟩ := hrel
    clear HS
    by_cases h0 : j = 0
    · subst h0
      have TL : Hid (¬ 0 ≤ ((0 : Nat) : Int) - 1) := by show ¬ _; omega
      rw [Nat.pow_zero, Nat.div_one] at E
      clear hj
      go_upto_region 3 with (fail)
      refine region_fr (C := [Fq.is (.int .i64 (((0 : Nat) : Int) - 1)), Fq.is (.bool false)]) (ks := [none, none, none, none, none]) (new := []) E rfl (by kernel_rfl) rfl rfl (fun hp => ⟨?_, ?_, trivial⟩) ?_
      · exact q_move hp (free_of rfl) trivial (sq_out (s := 8) rfl rfl (fun _ _ => rfl))
      · exact q_one (F := fun v _ => v = .int .i64 (((0 : Nat) : Int) - 1)) hp (free_of rfl) trivial (sqi 0) (fun ρ w hc h => ⟨.bool false, by simp [execOp, go_sem, h, hc], rfl⟩)
      intro L vs w9 nb hL hC hn E9
      have e0 : vs 0 = .int .i64 (((0 : Nat) : Int) - 1) := hC 0 (by simp)
      have e1 : vs 1 = .bool false := hC 1 (by simp)
      have E : Fr w [(b7_3, 2, Fq.num (a ^ n.natAbs % m)), (b4, 2, Fq.num 0), (b3, 2, Fq.num m), (b2, 2, Fq.num n), (b1, 2, Fq.num a)] w9 := E9
      rw [lay_all hL]
      simp only [putAll, dstOf, List.length_cons, List.length_nil, Nat.zero_add, Nat.reduceAdd, List.getElem?_toArray, List.getElem?_cons_zero, List.getElem?_cons_succ, Option.bind_some, Act.put, List.setIfInBounds_toArray, List.set_cons_succ, List.set_cons_zero]
      rw [e0, e1]
      clear e0 e1 hC hn E9 hL vs L nb
      clear TL
      go_upto_region 8 with (fail)
      refine region_fr (C := [Fq.num (a ^ n.natAbs % m), Fq.any]) (ks := [none, some (1, Fq.num (a ^ n.natAbs % m)), none, none, none]) (new := []) E rfl (by kernel_rfl) rfl rfl (fun hp => ⟨?_, ?_, trivial⟩) ?_
      · exact q_loadInt (off := 0) hp (free_of rfl) trivial (List.mem_iff_getElem?.2 ⟨0, rfl⟩) (.inl rfl) (Nat.le_of_ble_eq_true rfl) (sq_out (s := 7) rfl rfl (fun _ _ => rfl)) (fun us w hl h => ld_num hl h)
      · exact q_storeOldInt hp (List.mem_iff_getElem?.2 ⟨1, rfl⟩) rfl rfl (sq_out (s := 6) rfl rfl (fun _ _ => rfl)) (sq_in 0 rfl rfl (by simp) rfl (fun v w h => intV_num h)) (fun _ _ => trivial) (newik_ne rfl)
      intro L vs w10 nb hL hC hn E10
      have E : Fr w [(b7_3, 2, Fq.num (a ^ n.natAbs % m)), (b4, 2, Fq.num (a ^ n.natAbs % m)), (b3, 2, Fq.num m), (b2, 2, Fq.num n), (b1, 2, Fq.num a)] w10 := E10
      rw [lay_all hL]
      simp only [putAll, dstOf, List.length_cons, List.length_nil, Nat.zero_add, Nat.reduceAdd, List.getElem?_toArray, List.getElem?_cons_zero, List.getElem?_cons_succ, Option.bind_some, Act.put, List.setIfInBounds_toArray, List.set_cons_succ, List.set_cons_zero]
      generalize vs 0 = u10_0
      clear  hC hn E10 hL vs L nb
      clear HM HP HNB
      obtain ⟨p0, p1, c0, c1, hP⟩ := box_num (E.box 1 rfl)
      clear B5 B6 ha hn hm
      go_wp2
      refine bodyPost_ret (v := .agg #[p0, p1]) ?_ rfl ⟨_, rfl, E.below, hP⟩
      simp [results, Tryz.results30, go_sem, c0, c1]
    · obtain ⟨i, rfl⟩ : ∃ i, j = i + 1 := ⟨j - 1, by omega⟩
      have ei : (((i + 1 : Nat) : Int) - 1) = (i : Int) := by omega
      rw [ei]
      have HJ := hidd hj
      obtain ⟨z, hz⟩ : ∃ z, z = a ^ (n.natAbs / 2 ^ (i + 1)) % m := ⟨_, rfl⟩
      rw [← hz] at E
      have Bz : Hid (ab z < pw 20) := by show _ < _; rw [hz]; exact ab_modB HM.out hm.out
      have HZ := hidd (pow_step hz)
      have TL : Hid (0 ≤ (i : Int)) := by show 0 ≤ _; omega
      have hw : wrap64 ((i : Int) - 1) = (i : Int) - 1 := by have := HJ.out; have := HNB.out; simp only [wrap64]; omega
      clear ei hz h0 hj
      go_upto_region 3 with (fail)
      refine region_fr (C := [Fq.is (.int .i64 (i : Int)), Fq.is (.bool true)]) (ks := [none, none, none, none, none]) (new := []) E rfl (by kernel_rfl) rfl rfl (fun hp => ⟨?_, ?_, trivial⟩) ?_
      · exact q_move hp (free_of rfl) trivial (sq_out (s := 8) rfl rfl (fun _ _ => rfl))
      · exact q_one (F := fun v _ => v = .int .i64 (i : Int)) hp (free_of rfl) trivial (sqi 0) (fun ρ w hc h => ⟨.bool true, by simp [execOp, go_sem, h, hc, TL.out], rfl⟩)
      intro L vs w11 nb hL hC hn E11
      have e0 : vs 0 = .int .i64 (i : Int) := hC 0 (by simp)
      have e1 : vs 1 = .bool true := hC 1 (by simp)
      have E : Fr w [(b7_3, 2, Fq.num z), (b4, 2, Fq.num 0), (b3, 2, Fq.num m), (b2, 2, Fq.num n), (b1, 2, Fq.num a)] w11 := E11
      rw [lay_all hL]
      simp only [putAll, dstOf, List.length_cons, List.length_nil, Nat.zero_add, Nat.reduceAdd, List.getElem?_toArray, List.getElem?_cons_zero, List.getElem?_cons_succ, Option.bind_some, Act.put, List.setIfInBounds_toArray, List.set_cons_succ, List.set_cons_zero]
      rw [e0, e1]
      clear e0 e1 hC hn E11 hL vs L nb
      clear TL
      go_upto_region 5 with (fail)
      have B12 : Hid (ab ((z * z)) < pw 40) := ab_mulM Bz.out Bz.out (by omega)
      have B13 : Hid (ab (((z * z) % m)) < pw 20) := ab_modB HM.out hm.out
      refine region_fr (C := [Fq.num z, Fq.num z, Fq.num (z * z), Fq.num m, Fq.num ((z * z) % m), Fq.any]) (ks := [some (5, Fq.num ((z * z) % m)), none, none, none, none]) (new := []) E rfl (by kernel_rfl) rfl rfl (fun hp => ⟨?_, ?_, ?_, ?_, ?_, ?_, trivial⟩) ?_
      · exact q_loadInt (off := 0) hp (free_of rfl) trivial (List.mem_iff_getElem?.2 ⟨0, rfl⟩) (.inr rfl) (Nat.le_of_ble_eq_true rfl) (sq_out (s := 7) rfl rfl (fun _ _ => rfl)) (fun us w hl h => ld_num hl h)
      · exact q_loadInt (off := 0) hp (free_of rfl) trivial (List.mem_iff_getElem?.2 ⟨0, rfl⟩) (.inr rfl) (Nat.le_of_ble_eq_true rfl) (sq_out (s := 7) rfl rfl (fun _ _ => rfl)) (fun us w hl h => ld_num hl h)
      · exact q_call2 (F := (Fq.num z).P) (G := (Fq.num z).P) hp (free_of rfl) trivial (enq_R_Mul) (sqi 0) (sqi 1) (fun v v' w h h' => exK (RMulV h h') B12.out (by omega))
      · exact q_loadInt (off := 0) hp (free_of rfl) trivial (List.mem_iff_getElem?.2 ⟨2, rfl⟩) (.inl rfl) (Nat.le_of_ble_eq_true rfl) (sq_out (s := 5) rfl rfl (fun _ _ => rfl)) (fun us w hl h => ld_num hl h)
      · exact q_call2 (F := (Fq.num (z * z)).P) (G := (Fq.num m).P) hp (free_of rfl) trivial (enq_R_Mod) (sqi 2) (sqi 3) (fun v v' w h h' => exK (RModV h h' (Int.lt_of_lt_of_le B12.out (pw_le (by omega))) (Int.lt_of_lt_of_le hm.out (pw_le (by omega))) HM.out) B13.out (by omega))
      · exact q_storeOldInt hp (List.mem_iff_getElem?.2 ⟨0, rfl⟩) rfl rfl (sq_out (s := 7) rfl rfl (fun _ _ => rfl)) (sq_in 4 rfl rfl (by simp) rfl (fun v w h => intV_num h)) (fun _ _ => trivial) (newik_ne rfl)
      intro L vs w14 nb hL hC hn E14
      have E : Fr w [(b7_3, 2, Fq.num ((z * z) % m)), (b4, 2, Fq.num 0), (b3, 2, Fq.num m), (b2, 2, Fq.num n), (b1, 2, Fq.num a)] w14 := E14
      rw [lay_all hL]
      simp only [putAll, dstOf, List.length_cons, List.length_nil, Nat.zero_add, Nat.reduceAdd, List.getElem?_toArray, List.getElem?_cons_zero, List.getElem?_cons_succ, Option.bind_some, Act.put, List.setIfInBounds_toArray, List.set_cons_succ, List.set_cons_zero]
      generalize vs 0 = u14_0
      generalize vs 1 = u14_1
      generalize vs 2 = u14_2
      generalize vs 3 = u14_3
      generalize vs 4 = u14_4
      clear  hC hn E14 hL vs L nb
      by_cases hb : n.natAbs / 2 ^ i % 2 = 1
      · have TB : Hid (decide (n.natAbs / 2 ^ i % 2 = 1) = true) := decide_eq_true hb
        have EZ : Hid ((((z * z) % m) * a) % m = a ^ (n.natAbs / 2 ^ i) % m) := HZ.out.1 hb
        clear hb HZ
        go_upto_region 6 with (fail)
        refine region_fr (C := [Fq.num n, Fq.is (.int .i64 (i : Int)), Fq.is (.bool true)]) (ks := [none, none, none, none, none]) (new := []) E rfl (by kernel_rfl) rfl rfl (fun hp => ⟨?_, ?_, ?_, trivial⟩) ?_
        · exact q_loadInt (off := 0) hp (free_of rfl) trivial (List.mem_iff_getElem?.2 ⟨3, rfl⟩) (.inl rfl) (Nat.le_of_ble_eq_true rfl) (sq_out (s := 4) rfl rfl (fun _ _ => rfl)) (fun us w hl h => ld_num hl h)
        · exact q_move hp (free_of rfl) trivial (sq_out (s := 8) rfl rfl (fun _ _ => rfl))
        · exact q_call2 (F := (Fq.num n).P) (G := (Fq.is (.int .i64 (i : Int))).P) hp (free_of rfl) trivial (enq_U_bit) (sqi 0) (sqi 1) (fun v v' w h h' => (by subst h'; exact exUBit h (by have := HJ.out; omega) TB.out))
        intro L vs w15 nb hL hC hn E15
        have e1 : vs 1 = .int .i64 (i : Int) := hC 1 (by simp)
        have e2 : vs 2 = .bool true := hC 2 (by simp)
        have E : Fr w [(b7_3, 2, Fq.num ((z * z) % m)), (b4, 2, Fq.num 0), (b3, 2, Fq.num m), (b2, 2, Fq.num n), (b1, 2, Fq.num a)] w15 := E15
        rw [lay_all hL]
        simp only [putAll, dstOf, List.length_cons, List.length_nil, Nat.zero_add, Nat.reduceAdd, List.getElem?_toArray, List.getElem?_cons_zero, List.getElem?_cons_succ, Option.bind_some, Act.put, List.setIfInBounds_toArray, List.set_cons_succ, List.set_cons_zero]
        rw [e1, e2]
        generalize vs 0 = u15_0
        clear e1 e2 hC hn E15 hL vs L nb
        clear TB
        go_upto_region 7 with (fail)
        have B16 : Hid (ab ((((z * z) % m) * a)) < pw 40) := ab_mulM B13.out ha.out (by omega)
        have B17 : Hid (ab (((((z * z) % m) * a) % m)) < pw 20) := ab_modB HM.out hm.out
        refine region_fr (C := [Fq.num ((z * z) % m), Fq.num a, Fq.num (((z * z) % m) * a), Fq.num m, Fq.num ((((z * z) % m) * a) % m), Fq.any]) (ks := [some (5, Fq.num ((((z * z) % m) * a) % m)), none, none, none, none]) (new := []) E rfl (by kernel_rfl) rfl rfl (fun hp => ⟨?_, ?_, ?_, ?_, ?_, ?_, trivial⟩) ?_
        · exact q_loadInt (off := 0) hp (free_of rfl) trivial (List.mem_iff_getElem?.2 ⟨0, rfl⟩) (.inr rfl) (Nat.le_of_ble_eq_true rfl) (sq_out (s := 7) rfl rfl (fun _ _ => rfl)) (fun us w hl h => ld_num hl h)
        · exact q_loadInt (off := 0) hp (free_of rfl) trivial (List.mem_iff_getElem?.2 ⟨4, rfl⟩) (.inl rfl) (Nat.le_of_ble_eq_true rfl) (sq_out (s := 3) rfl rfl (fun _ _ => rfl)) (fun us w hl h => ld_num hl h)
        · exact q_call2 (F := (Fq.num ((z * z) % m)).P) (G := (Fq.num a).P) hp (free_of rfl) trivial (enq_R_Mul) (sqi 0) (sqi 1) (fun v v' w h h' => exK (RMulV h h') B16.out (by omega))
        · exact q_loadInt (off := 0) hp (free_of rfl) trivial (List.mem_iff_getElem?.2 ⟨2, rfl⟩) (.inl rfl) (Nat.le_of_ble_eq_true rfl) (sq_out (s := 5) rfl rfl (fun _ _ => rfl)) (fun us w hl h => ld_num hl h)
        · exact q_call2 (F := (Fq.num (((z * z) % m) * a)).P) (G := (Fq.num m).P) hp (free_of rfl) trivial (enq_R_Mod) (sqi 2) (sqi 3) (fun v v' w h h' => exK (RModV h h' (Int.lt_of_lt_of_le B16.out (pw_le (by omega))) (Int.lt_of_lt_of_le hm.out (pw_le (by omega))) HM.out) B17.out (by omega))
        · exact q_storeOldInt hp (List.mem_iff_getElem?.2 ⟨0, rfl⟩) rfl rfl (sq_out (s := 7) rfl rfl (fun _ _ => rfl)) (sq_in 4 rfl rfl (by simp) rfl (fun v w h => intV_num h)) (fun _ _ => trivial) (newik_ne rfl)
        intro L vs w18 nb hL hC hn E18
        have E : Fr w [(b7_3, 2, Fq.num ((((z * z) % m) * a) % m)), (b4, 2, Fq.num 0), (b3, 2, Fq.num m), (b2, 2, Fq.num n), (b1, 2, Fq.num a)] w18 := E18
        rw [lay_all hL]
        simp only [putAll, dstOf, List.length_cons, List.length_nil, Nat.zero_add, Nat.reduceAdd, List.getElem?_toArray, List.getElem?_cons_zero, List.getElem?_cons_succ, Option.bind_some, Act.put, List.setIfInBounds_toArray, List.set_cons_succ, List.set_cons_zero]
        generalize vs 0 = u18_0
        generalize vs 1 = u18_1
        generalize vs 2 = u18_2
        generalize vs 3 = u18_3
        generalize vs 4 = u18_4
        clear  hC hn E18 hL vs L nb
        go_wp2
        go_roundw
        case rel => exact ⟨i, by have := HJ.out; omega, by first | go_num | (rw [hw]; go_num), by rw [← EZ.out]; exact E⟩
        case measure => first | exact measP | (rw [hw]; exact measP)
      · have TB : Hid (decide (n.natAbs / 2 ^ i % 2 = 1) = false) := decide_eq_false hb
        have EZ : Hid ((z * z) % m = a ^ (n.natAbs / 2 ^ i) % m) := HZ.out.2 hb
        clear hb HZ
        go_upto_region 6 with (fail)
        refine region_fr (C := [Fq.num n, Fq.is (.int .i64 (i : Int)), Fq.is (.bool false)]) (ks := [none, none, none, none, none]) (new := []) E rfl (by kernel_rfl) rfl rfl (fun hp => ⟨?_, ?_, ?_, trivial⟩) ?_
        · exact q_loadInt (off := 0) hp (free_of rfl) trivial (List.mem_iff_getElem?.2 ⟨3, rfl⟩) (.inl rfl) (Nat.le_of_ble_eq_true rfl) (sq_out (s := 4) rfl rfl (fun _ _ => rfl)) (fun us w hl h => ld_num hl h)
        · exact q_move hp (free_of rfl) trivial (sq_out (s := 8) rfl rfl (fun _ _ => rfl))
        · exact q_call2 (F := (Fq.num n).P) (G := (Fq.is (.int .i64 (i : Int))).P) hp (free_of rfl) trivial (enq_U_bit) (sqi 0) (sqi 1) (fun v v' w h h' => (by subst h'; exact exUBit h (by have := HJ.out; omega) TB.out))
        intro L vs w19 nb hL hC hn E19
        have e1 : vs 1 = .int .i64 (i : Int) := hC 1 (by simp)
        have e2 : vs 2 = .bool false := hC 2 (by simp)
        have E : Fr w [(b7_3, 2, Fq.num ((z * z) % m)), (b4, 2, Fq.num 0), (b3, 2, Fq.num m), (b2, 2, Fq.num n), (b1, 2, Fq.num a)] w19 := E19
        rw [lay_all hL]
        simp only [putAll, dstOf, List.length_cons, List.length_nil, Nat.zero_add, Nat.reduceAdd, List.getElem?_toArray, List.getElem?_cons_zero, List.getElem?_cons_succ, Option.bind_some, Act.put, List.setIfInBounds_toArray, List.set_cons_succ, List.set_cons_zero]
        rw [e1, e2]
        generalize vs 0 = u19_0
        clear e1 e2 hC hn E19 hL vs L nb
        clear TB
        go_wp2
        go_roundw
        case rel => exact ⟨i, by have := HJ.out; omega, by first | go_num | (rw [hw]; go_num), by rw [← EZ.out]; exact E⟩
        case measure => first | exact measP | (rw [hw]; exact measP)

end Go.Proofs.YtieobgadihcgeaaGreatDoor
