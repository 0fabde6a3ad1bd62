/- Mc, Rm, Me, Mg, Mh, Nl, Lf, Lg, La, Lc, Lp, Sa, Op, Ea, Ua, Yp, Ub, Rg. -/
import Derived.Test.YtjadciofpgjofaaGreatDoorDc3
import Derived.Shelf.Spec.TrailingZeros
import Derived.Test.YtjadciofpgjofaaGreatDoorRows
import Derived.ProofKit
import Derived.LaidMore
import Derived.OpenShut
import Derived.Stop.Joined
import Derived.Test.YtjadciofpgjofaaGreatDoorChecked
import Derived.Lib.SmallJoins
import Derived.Deep.Strs
import Derived.Deep.MidRow
set_option linter.unusedSimpArgs false
set_option linter.unusedVariables false
set_option maxRecDepth 100000
set_option maxHeartbeats 8000000
namespace Go.Proofs.YtjadciofpgjofaaGreatDoor
open Go Go.RowKit

theorem enq_M_Mod:En 113:=zAe Tryz.func113 (by kernel_rfl) rfl
theorem zOh:En 162:=zAe Tryz.func162 (by kernel_rfl) rfl
theorem zD6:En 163:=zAe Tryz.func163 (by kernel_rfl) rfl
theorem zJf:En 164:=zAe Tryz.func164 (by kernel_rfl) rfl
theorem zLd:En 166:=zAe Tryz.func166 (by kernel_rfl) rfl
theorem zTb:En 172:=zAe Tryz.func172 (by kernel_rfl) rfl
theorem zJg:En 165:=zAe Tryz.func165 (by kernel_rfl) rfl
theorem zTc:En 171:=zAe Tryz.func171 (by kernel_rfl) rfl
theorem zTa:En 159:=zAe Tryz.func159 (by kernel_rfl) rfl
theorem zOg:En 150:=zAe Tryz.func150 (by kernel_rfl) rfl
theorem zOf:En 111:=zAe Tryz.func111 (by kernel_rfl) rfl
theorem zHq:En 169:=zAe Tryz.func169 (by kernel_rfl) rfl
theorem zDc:En 117:=zAe Tryz.func117 (by kernel_rfl) rfl
theorem zF1:En 137:=zAe Tryz.func137 (by kernel_rfl) rfl
theorem zOk:En 118:=zAe Tryz.func118 (by kernel_rfl) rfl

theorem zGa {w:World} {v:Value} {b:Nat} {a m:Int} (h:Num w v a) (hb:Bq w b 2 (Fq.num m)) (hm:m≠0) (ha:ab a<pw 300) (hn:ab m<pw 300) :
  Calls Tryz.prog 152 #[v,.pointer (some ⟨b,0,none⟩)] w fun e w'=>∃ v',e=.returned v'∧Below w.heap.size w w'∧Num w' v' (a % m):=by
 have ho:=hb
 have HM:=hidd hm
 clear hb hm
 replace ha:=hidd ha
 replace hn:=hidd hn
 obtain ⟨n0,ao0,k0,c0,rfl⟩:=h.parts
 obtain ⟨w1,b1,hw1,hb1,hs1,E⟩:=zEa w (F:=Fq.num a) (us:=[.bool n0,.slice ao0 k0 c0]) 36 rfl (by simp) (zB8 _ _ _ _) h
 obtain ⟨w2,b2,hw2,hb2,hs2,E⟩:=fZ E hs1 36
 go_enter Tryz.func152,Tryz.ntmps152
 go_upto_region 1 with (fail)
 rw [← hw1]
 rw [← hw2]
 rw [← hb2]
 rw [← hb1]
 clear hw1 hw2 hb1 hb2 hs2 hs1
 have B3:Hid (ab ((a/m))<pw 301):=zDp ha.out zm
 have B4:Hid (ab ((a % m))<pw 300):=zB4 HM.out hn.out
 refine rg [Fq.num a,Fq.num m,Fq.tup3 (Fq.num (a/m)) (Fq.num (a % m)) (Fq.is (.int .i64 0)),Fq.tup3 (Fq.num (a/m)) (Fq.num (a % m)) (Fq.is (.int .i64 0)),Fq.num (a/m),Fq.num (a % m),Fq.is (.int .i64 0),Fq.any,Fq.any,Fq.any,Fq.any,Fq.is (.int .i64 0)] N2 [⟨7,9,2,Fq.num 0,Fq.num (a/m),none⟩,⟨8,10,2,Fq.num 0,Fq.num (a % m),none⟩] E (fun hp=>⟨?_,?_,?_,?_,?_,?_,?_,?_,?_,?_,?_,?_,tv⟩) ?_
 ·exact zAx (off:=0) hp fo tv (mq 1 rfl) (.inl rfl) (Nat.le_of_ble_eq_true rfl) (zAq rfl rfl (fun _ _=>rfl)) (fun us w hl h=>zAw hl h)
 ·exact zW2 hp fo tv ho rfl (zAq rfl rfl (fun _ _=>rfl)) (fun v w h=>h)
 ·exact wXb (Fq.num a) (Fq.num m) hp zE7 (sqi 0) (sqi 1) fun v v' w h h'=>zE8 h h' HM.out B3.out B4.out zm zm
 ·exact zAj hp fo tv (sqi 2)
 ·exact zG9 hp fo tv (sqi 3) (fun v1 v2 v3 w h1 h2 h3=>⟨_,rfl,h1⟩)
 ·exact zG9 hp fo tv (sqi 3) (fun v1 v2 v3 w h1 h2 h3=>⟨_,rfl,h2⟩)
 ·exact zG9 hp fo tv (sqi 3) (fun v1 v2 v3 w h1 h2 h3=>⟨_,rfl,h3⟩)
 ·exact aN hp (mq 0 rfl)
 ·exact aN hp (mq 1 rfl)
 ·exact sN 4 hp (mq 0 rfl)
 ·exact sN 5 hp (mq 1 rfl)
 ·exact zCt hp fo tv (sqi 6)
 intro L vs w5 nb hL hC hn E5
 have e6:=wXi hC 6
 have e11:=wXi hC 11
 have e7:vs 7=.pointer (some ⟨nb 7,0,none⟩):=hn _ (mq 0 rfl)
 have e8:vs 8=.pointer (some ⟨nb 8,0,none⟩):=hn _ (mq 1 rfl)
 have E:=E5;try simp only [LM,zAn] at E
 rw [zAp hL]
 simp only [zP,Nat.zero_add,Nat.reduceAdd]
 rw [e6,e11,e7,e8]
 generalize nb 7=b5_7 at E ⊢
 generalize nb 8=b5_8 at E ⊢
 generalize vs 0=u5_0
 generalize vs 1=u5_1
 generalize vs 2=u5_2
 generalize vs 3=u5_3
 generalize vs 4=u5_4
 generalize vs 5=u5_5
 clear e6 e11 e7 e8 hC hn E5 hL vs L nb
 go_upto_region 2 with (fail)
 refine rg [Fq.num (a % m),Fq.any] [none,none,some (1,Fq.num (a % m)),none] [] E (fun hp=>⟨?_,?_,tv⟩) ?_
 ·exact zAx (off:=0) hp fo tv (mq 1 rfl) (.inl rfl) (Nat.le_of_ble_eq_true rfl) (zAq rfl rfl (fun _ _=>rfl)) (fun us w hl h=>zAw hl h)
 ·exact zCj hp (mq 2 rfl) rfl rfl (zAq rfl rfl (fun _ _=>rfl)) (zBf 0 rfl rfl (by simp) rfl (fun v w h=>zCc h)) (fun _ _=>trivial) (zBl rfl)
 intro L vs w6 nb hL hC hn E6
 have E:=E6;try simp only [LM,zAn] at E
 rw [zAp hL]
 simp only [zP,Nat.zero_add,Nat.reduceAdd]
 generalize vs 0=u6_0
 clear  hC hn E6 hL vs L nb
 clear HM ho
 obtain ⟨p0,p1,c0,c1,hP⟩:=zCg (E.box 2 rfl)
 clear B3 B4 ha hn
 go_wp2
 refine bodyPost_ret (v:=.agg #[p0,p1]) ?_ rfl ⟨_,rfl,E.below,hP⟩
 simp [results,Tryz.results152,go_sem,c0,c1]

theorem zHy {w:World} {v:Value} {z:Int} (h:Num w v z) {n:Int} {t:Bool} (e:lowV z=.tuple #[.int .i64 n,.bool t]):Calls Tryz.prog 169 #[v] w fun e w'=>∃ v',e=.returned v'∧Below w.heap.size w w'∧(Fq.tup2 (Fq.is (.int .i64 n)) (Fq.is (.bool t))).P v' w':=
 (LowV h).mono fun _ _ ⟨he,hb⟩=>⟨_,he,hb,_,_,e,rfl,rfl⟩
theorem zJ8 {z:Int} (h0:-9223372036854775808≤z) (h1:z≤9223372036854775807):lowV z=.tuple #[.int .i64 z,.bool true]:=by unfold lowV;rw [if_pos ⟨h0,h1⟩]
theorem lowV_out {z:Int} (h:¬ (-9223372036854775808≤z∧z≤9223372036854775807)):lowV z=.tuple #[.int .i64 0,.bool false]:=by unfold lowV;rw [if_neg h]

theorem exIsOneM {w:World} {v:Value} {z:Int} (h:Num w v z) :
  Calls Tryz.prog 162 #[v] w fun e w'=>∃ v',e=.returned v'∧Below w.heap.size w w'∧v'=.bool (decide (z=1)):=by
 obtain ⟨n0,ao0,k0,c0,rfl⟩:=h.parts
 obtain ⟨w1,b1,hw1,hb1,hs1,E⟩:=zEa w (F:=Fq.num z) (us:=[.bool n0,.slice ao0 k0 c0]) 36 rfl (by simp) (zB8 _ _ _ _) h
 go_enter Tryz.func162,Tryz.ntmps162
 go_upto_region 1 with (fail)
 rw [← hw1]
 rw [← hb1]
 clear hw1 hb1 hs1
 by_cases hl:-9223372036854775808≤z∧z≤9223372036854775807
 ·by_cases hc:z=1
  ·have HL:=hidd (zJ8 hl.1 hl.2)
   have T:Hid (z=1):=hc
   have T2:Hid (decide (z=1)=true):=decide_eq_true hc
   clear hl hc
   refine rg [Fq.num z,Fq.tup2 (Fq.is (.int .i64 z)) (yT),Fq.tup2 (Fq.is (.int .i64 z)) (yT),Fq.is (.int .i64 z),yT,Fq.is (.int .i64 z),yT] [none] [] E (fun hp=>⟨?_,?_,?_,?_,?_,?_,?_,tv⟩) ?_
   ·exact zAx (off:=0) hp fo tv (mq 0 rfl) (.inl rfl) (Nat.le_of_ble_eq_true rfl) (zAq rfl rfl (fun _ _=>rfl)) (fun us w hl h=>zAw hl h)
   ·exact wXa (Fq.num z) hp zHq (sqi 0) fun v w h=>zHy h HL.out
   ·exact zAj hp fo tv (sqi 1)
   ·exact zFp hp fo tv (sqi 2) (fun v1 v2 w h1 h2=>⟨_,rfl,h1⟩)
   ·exact zFp hp fo tv (sqi 2) (fun v1 v2 w h1 h2=>⟨_,rfl,h2⟩)
   ·exact zCt hp fo tv (sqi 3)
   ·exact zCt hp fo tv (sqi 4)
   intro L vs w2 nb hL hC hn E2
   have e3:=wXi hC 3
   have e4:=wXi hC 4
   have e5:=wXi hC 5
   have e6:=wXi hC 6
   have E:=E2;try simp only [LM,zAn] at E
   rw [zAp hL]
   simp only [zP,Nat.zero_add,Nat.reduceAdd]
   rw [e3,e4,e5,e6]
   generalize vs 0=u2_0
   generalize vs 1=u2_1
   generalize vs 2=u2_2
   clear e3 e4 e5 e6 hC hn E2 hL vs L nb
   go_upto_region 2 with (fail)
   refine rg [yT,yT,Fq.is (.int .i64 z),yT,yT,yT] [none] [] E (fun hp=>⟨?_,?_,?_,?_,?_,?_,tv⟩) ?_
   ·exact zAj hp fo tv (zAq rfl rfl (fun _ _=>rfl))
   ·exact zAj hp fo tv (sqi 0)
   ·exact zAj hp fo gqi (zAq rfl rfl (fun _ _=>rfl))
   ·exact zAv (F:=fun v _=>v=.int .i64 z) hp fo gqi (sqi 2) (fun ρ w hc h=>⟨.bool true,by simp [execOp,go_sem,h,hc,T.out],rfl⟩)
   ·exact zAt (F:=fun v _=>v=.bool true) (G:=fun v _=>v=.bool true) hp fo tv (sqi 1) (sqi 3) (fun ρ w hc h h'=>⟨_,by simp [execOp,go_sem,h,h'],rfl⟩)
   ·exact zCt hp fo tv (sqi 4)
   intro L vs w3 nb hL hC hn E3
   have e0:=wXi hC 0
   have e1:=wXi hC 1
   have e2:=wXi hC 2
   have e3:=wXi hC 3
   have e4:=wXi hC 4
   have e5:=wXi hC 5
   have E:=E3;try simp only [LM,zAn] at E
   rw [zAp hL]
   simp only [zP,Nat.zero_add,Nat.reduceAdd]
   rw [e0,e1,e2,e3,e4,e5]
   clear e0 e1 e2 e3 e4 e5 hC hn E3 hL vs L nb
   clear T HL
   go_wp2
   refine bodyPost_ret (v:=.bool true) ?_ rfl (by first | exact ⟨_,rfl,E.below,by rw [T2.out]⟩ | exact ⟨_,rfl,E.below⟩ | exact ⟨rfl,E.below⟩)
   simp [results,Tryz.results162,go_sem]
  ·have HL:=hidd (zJ8 hl.1 hl.2)
   have T:Hid (¬ z=1):=hc
   have T2:Hid (decide (z=1)=false):=decide_eq_false hc
   clear hl hc
   refine rg [Fq.num z,Fq.tup2 (Fq.is (.int .i64 z)) (yT),Fq.tup2 (Fq.is (.int .i64 z)) (yT),Fq.is (.int .i64 z),yT,Fq.is (.int .i64 z),yT] [none] [] E (fun hp=>⟨?_,?_,?_,?_,?_,?_,?_,tv⟩) ?_
   ·exact zAx (off:=0) hp fo tv (mq 0 rfl) (.inl rfl) (Nat.le_of_ble_eq_true rfl) (zAq rfl rfl (fun _ _=>rfl)) (fun us w hl h=>zAw hl h)
   ·exact wXa (Fq.num z) hp zHq (sqi 0) fun v w h=>zHy h HL.out
   ·exact zAj hp fo tv (sqi 1)
   ·exact zFp hp fo tv (sqi 2) (fun v1 v2 w h1 h2=>⟨_,rfl,h1⟩)
   ·exact zFp hp fo tv (sqi 2) (fun v1 v2 w h1 h2=>⟨_,rfl,h2⟩)
   ·exact zCt hp fo tv (sqi 3)
   ·exact zCt hp fo tv (sqi 4)
   intro L vs w4 nb hL hC hn E4
   have e3:=wXi hC 3
   have e4:=wXi hC 4
   have e5:=wXi hC 5
   have e6:=wXi hC 6
   have E:=E4;try simp only [LM,zAn] at E
   rw [zAp hL]
   simp only [zP,Nat.zero_add,Nat.reduceAdd]
   rw [e3,e4,e5,e6]
   generalize vs 0=u4_0
   generalize vs 1=u4_1
   generalize vs 2=u4_2
   clear e3 e4 e5 e6 hC hn E4 hL vs L nb
   go_upto_region 2 with (fail)
   refine rg [yT,yT,Fq.is (.int .i64 z),yF,yF,yF] [none] [] E (fun hp=>⟨?_,?_,?_,?_,?_,?_,tv⟩) ?_
   ·exact zAj hp fo tv (zAq rfl rfl (fun _ _=>rfl))
   ·exact zAj hp fo tv (sqi 0)
   ·exact zAj hp fo gqi (zAq rfl rfl (fun _ _=>rfl))
   ·exact zAv (F:=fun v _=>v=.int .i64 z) hp fo gqi (sqi 2) (fun ρ w hc h=>⟨.bool false,by simp [execOp,go_sem,h,hc,T.out],rfl⟩)
   ·exact zAt (F:=fun v _=>v=.bool true) (G:=fun v _=>v=.bool false) hp fo tv (sqi 1) (sqi 3) (fun ρ w hc h h'=>⟨_,by simp [execOp,go_sem,h,h'],rfl⟩)
   ·exact zCt hp fo tv (sqi 4)
   intro L vs w5 nb hL hC hn E5
   have e0:=wXi hC 0
   have e1:=wXi hC 1
   have e2:=wXi hC 2
   have e3:=wXi hC 3
   have e4:=wXi hC 4
   have e5:=wXi hC 5
   have E:=E5;try simp only [LM,zAn] at E
   rw [zAp hL]
   simp only [zP,Nat.zero_add,Nat.reduceAdd]
   rw [e0,e1,e2,e3,e4,e5]
   clear e0 e1 e2 e3 e4 e5 hC hn E5 hL vs L nb
   clear T HL
   go_wp2
   refine bodyPost_ret (v:=.bool false) ?_ rfl (by first | exact ⟨_,rfl,E.below,by rw [T2.out]⟩ | exact ⟨_,rfl,E.below⟩ | exact ⟨rfl,E.below⟩)
   simp [results,Tryz.results162,go_sem]
 ·have HL:=hidd (lowV_out hl)
  have T2:Hid (decide (z=1)=false):=decide_eq_false zm
  clear hl
  refine rg [Fq.num z,Fq.tup2 (Fq.is (.int .i64 0)) (yF),Fq.tup2 (Fq.is (.int .i64 0)) (yF),Fq.is (.int .i64 0),yF,Fq.is (.int .i64 0),yF] [none] [] E (fun hp=>⟨?_,?_,?_,?_,?_,?_,?_,tv⟩) ?_
  ·exact zAx (off:=0) hp fo tv (mq 0 rfl) (.inl rfl) (Nat.le_of_ble_eq_true rfl) (zAq rfl rfl (fun _ _=>rfl)) (fun us w hl h=>zAw hl h)
  ·exact wXa (Fq.num z) hp zHq (sqi 0) fun v w h=>zHy h HL.out
  ·exact zAj hp fo tv (sqi 1)
  ·exact zFp hp fo tv (sqi 2) (fun v1 v2 w h1 h2=>⟨_,rfl,h1⟩)
  ·exact zFp hp fo tv (sqi 2) (fun v1 v2 w h1 h2=>⟨_,rfl,h2⟩)
  ·exact zCt hp fo tv (sqi 3)
  ·exact zCt hp fo tv (sqi 4)
  intro L vs w6 nb hL hC hn E6
  have e3:=wXi hC 3
  have e4:=wXi hC 4
  have e5:=wXi hC 5
  have e6:=wXi hC 6
  have E:=E6;try simp only [LM,zAn] at E
  rw [zAp hL]
  simp only [zP,Nat.zero_add,Nat.reduceAdd]
  rw [e3,e4,e5,e6]
  generalize vs 0=u6_0
  generalize vs 1=u6_1
  generalize vs 2=u6_2
  clear e3 e4 e5 e6 hC hn E6 hL vs L nb
  go_upto_region 2 with (fail)
  refine rg [yF,yF,Fq.is (undef),Fq.is (undef),yF,yF] [none] [] E (fun hp=>⟨?_,?_,?_,?_,?_,?_,tv⟩) ?_
  ·exact zAj hp fo tv (zAq rfl rfl (fun _ _=>rfl))
  ·exact zAj hp fo tv (sqi 0)
  ·exact zFr hp fo rfl gqi (fun _=>rfl)
  ·exact zFr hp fo rfl gqi (fun _=>rfl)
  ·exact zAt (F:=fun v _=>v=.bool false) (G:=fun v _=>v=.bool false) hp fo tv (sqi 1) (zAk (fun _=>rfl)) (fun ρ w hc h h'=>⟨_,by simp [execOp,go_sem,h,h'],rfl⟩)
  ·exact zCt hp fo tv (sqi 4)
  intro L vs w7 nb hL hC hn E7
  have e0:=wXi hC 0
  have e1:=wXi hC 1
  have e2:=wXi hC 2
  have e3:=wXi hC 3
  have e4:=wXi hC 4
  have e5:=wXi hC 5
  have E:=E7;try simp only [LM,zAn] at E
  rw [zAp hL]
  simp only [zP,Nat.zero_add,Nat.reduceAdd]
  rw [e0,e1,e2,e3,e4,e5]
  clear e0 e1 e2 e3 e4 e5 hC hn E7 hL vs L nb
  clear HL
  go_wp2
  refine bodyPost_ret (v:=.bool false) ?_ rfl (by first | exact ⟨_,rfl,E.below,by rw [T2.out]⟩ | exact ⟨_,rfl,E.below⟩ | exact ⟨rfl,E.below⟩)
  simp [results,Tryz.results162,go_sem]

theorem zPd {w:World} {v:Value} {z:Int} {t:Bool} (h:Num w v z) (ht:decide (z=1)=t):Calls Tryz.prog 162 #[v] w fun e w'=>∃ v',e=.returned v'∧Below w.heap.size w w'∧v'=.bool t:=by
 have:=exIsOneM h
 rw [ht] at this
 exact this

theorem cmpI_le0 {x:Int}:cmpI x 0≤0 ↔ x≤0:=by
 constructor
 ·intro h
  rcases Int.lt_or_le 0 x with h2 | h2
  ·have:=cmpIqgt.2 h2;omega
  ·exact h2
 ·intro h
  rcases Int.lt_or_le 0 (cmpI x 0) with h2 | h2
  ·have:=cmpIqgt.1 h2;omega
  ·exact h2

theorem exModP {w:World} {v v':Value} {a m:Int} (h:Num w v a) (h':Num w v' m) (ha:ab a<pw 300) (hm:ab m<pw 300) (h0:0<m) :
  Calls Tryz.prog 113 #[v,v'] w fun e w'=>∃ v',e=.returned v'∧Below w.heap.size w w'∧(Fq.tup2 (Fq.num (a % m)) (Fq.is (.int .i64 0))).P v' w':=by
 replace ha:=hidd ha
 replace hm:=hidd hm
 obtain ⟨n0,ao0,k0,c0,rfl⟩:=h.parts
 obtain ⟨n1,ao1,k1,c1,rfl⟩:=h'.parts
 obtain ⟨w1,b1,hw1,hb1,hs1,E⟩:=zEa w (F:=Fq.num a) (us:=[.bool n0,.slice ao0 k0 c0]) 36 rfl (by simp) (zB8 _ _ _ _) h
 obtain ⟨w2,b2,hw2,hb2,hs2,E⟩:=fN E hs1 36 h'
 obtain ⟨w3,b3,hw3,hb3,hs3,E⟩:=fZ E hs2 36
 go_enter Tryz.func113,Tryz.ntmps113
 go_upto_region 1 with (fail)
 rw [← hw1]
 rw [← hw2]
 rw [← hw3]
 rw [← hb3]
 rw [← hb2]
 rw [← hb1]
 clear hw1 hw2 hw3 hb1 hb2 hb3 hs3 hs1 hs2
 have T1:Hid (¬ cmpI m 0≤0):=fun e=>by have:=cmpI_le0.1 e;omega
 have HM:Hid (m≠0):=by show _≠_;omega
 clear h0
 refine rg [Fq.num m,Fq.is (.int .i64 (cmpI m 0)),yF] N3 [] E (fun hp=>⟨?_,?_,?_,tv⟩) ?_
 ·exact zAx (off:=0) hp fo tv (mq 1 rfl) (.inl rfl) (Nat.le_of_ble_eq_true rfl) (zAq rfl rfl (fun _ _=>rfl)) (fun us w hl h=>zAw hl h)
 ·exact wXa (Fq.num m) hp zAz (sqi 0) fun v w h=>zA0 h
 ·exact zAv (F:=fun v _=>v=.int .i64 (cmpI m 0)) hp fo tv (sqi 1) (fun ρ w hc h=>⟨.bool false,by simp [execOp,go_sem,h,hc,T1.out],rfl⟩)
 intro L vs w4 nb hL hC hn E4
 have e1:=wXi hC 1
 have e2:=wXi hC 2
 have E:=E4;try simp only [LM,zAn] at E
 rw [zAp hL]
 simp only [zP,Nat.zero_add,Nat.reduceAdd]
 rw [e1,e2]
 generalize vs 0=u4_0
 clear e1 e2 hC hn E4 hL vs L nb
 clear T1
 go_upto_region 3 with (fail)
 have B5:Hid (ab ((a % m))<pw 300):=zB4 HM.out hm.out
 refine rg [Fq.num m,Fq.any,Fq.num a,Fq.num (a % m),Fq.any,Fq.is (.int .i64 0)] [some (4,Fq.num (a % m)),none,none] [⟨1,1,2,Fq.num m,Fq.num m,(some (.clo 152))⟩] E (fun hp=>⟨?_,?_,?_,?_,?_,?_,tv⟩) ?_
 ·exact zAx (off:=0) hp fo tv (mq 1 rfl) (.inl rfl) (Nat.le_of_ble_eq_true rfl) (zAq rfl rfl (fun _ _=>rfl)) (fun us w hl h=>zAw hl h)
 ·exact zEy (F:=(Fq.num m).P) hp zF2 (mq 0 rfl) rfl rfl rfl (sqi 0) (fun v w h=>zGb h) (fun _ _=>trivial) (zCr rfl) (zDx rfl)
 ·exact zAx (off:=0) hp fo tv (mq 2 rfl) (.inl rfl) (Nat.le_of_ble_eq_true rfl) (zAq rfl rfl (fun _ _=>rfl)) (fun us w hl h=>zAw hl h)
 ·exact zIi (F:=(Fq.num a).P) hp fo tv zF3 (mq 0 rfl) rfl (zEr rfl rfl (by simp) rfl) (sqi 2) (fun v b w h hb=>zGa h hb HM.out (Int.lt_of_lt_of_le ha.out (zAa zm)) (Int.lt_of_lt_of_le hm.out (zAa zm)))
 ·exact zCj hp (mq 0 rfl) rfl rfl (zAq rfl rfl (fun _ _=>rfl)) (zBf 3 rfl rfl (by simp) rfl (fun v w h=>zCc h)) (fun _ _=>trivial) (zBl rfl)
 ·exact zCt hp fo tv (zAk (fun _=>rfl))
 intro L vs w6 nb hL hC hn E6
 have e5:=wXi hC 5
 have e1:vs 1=cloV 152 (nb 1):=hn _ (mq 0 rfl)
 have E:=E6;try simp only [LM,zAn] at E
 rw [zAp hL]
 simp only [zP,Nat.zero_add,Nat.reduceAdd]
 rw [e5,e1]
 generalize nb 1=b6_1 at E ⊢
 generalize vs 0=u6_0
 generalize vs 2=u6_2
 generalize vs 3=u6_3
 clear e5 e1 hC hn E6 hL vs L nb
 clear HM
 obtain ⟨p0,p1,c0,c1,hP⟩:=zCg (E.box 1 rfl)
 clear B5 ha hm
 go_wp2
 refine bodyPost_ret (v:=.tuple #[.agg #[p0,p1],.int .i64 0]) ?_ rfl ⟨_,rfl,E.below,⟨_,_,rfl,hP,rfl⟩⟩
 simp [results,Tryz.results113,go_sem,c0,c1]

theorem bezU_ab {a m:Int} {k:Nat} (hm:0<m) (h:ab m<pw k):ab (bezU a m)<pw k:=by
 have h1:=(zHk (a:=a) hm).1
 have h2:=bez_lt (a:=a) hm
 unfold ab at *
 omega

end Go.Proofs.YtjadciofpgjofaaGreatDoor

namespace Go.Proofs.YtjadciofpgjofaaGreatDoor
open Go Go.RowKit

theorem bits_uniq {v:Int} {m m':Nat} (h:zCx v m) (h':zCx v m'):m=m':=by
 rcases h with ⟨h1,h2⟩ | ⟨h1,h2,h3⟩ <;> rcases h' with ⟨h4,h5⟩ | ⟨h4,h5,h6⟩
 ·omega
 ·have:=zA7 (m'-1);omega
 ·have:=zA7 (m-1);omega
 ·rcases Nat.lt_trichotomy m m' with h | h | h
  ·have:=zCl (show m≤m'-1 by omega);omega
  ·exact h
  ·have:=zCl (show m'≤m-1 by omega);omega

theorem RBitsV {w:World} {v:Value} {z:Int} (h:Num w v z):Calls Tryz.prog 104 #[v] w fun e w'=>∃ m:Nat,e=.returned (.int .i64 m)∧zCx (ab z) m∧m≤28800000∧Below w.heap.size w w':=by
 obtain ⟨neg,ao,n,c,xs,rfl,hs,hn,rfl,hc,_⟩:=h
 refine (zM6 _ _ _ _ _ _ hs hc zm).mono fun e w' hh=>?_
 obtain ⟨m,rfl,hm,hm2,hb⟩:=hh
 exact ⟨m,rfl,by rw [zD3,zBe (zAl hs.digs)];exact hm,by omega,hb⟩

end Go.Proofs.YtjadciofpgjofaaGreatDoor

namespace Go.Proofs.YtjadciofpgjofaaGreatDoor
open Go Go.RowKit

theorem one_sl (w:World) (t:TypeId) (ht:t=104):Sl (w.alloc (.cells #[.int .u32 1] t)) (some ⟨w.heap.size,0,none⟩) 1 1 [1]:=by
 subst ht
 have hr:Row (w.alloc (.cells #[.int .u32 1] 104)) 104 w.heap.size [1]:=by
  refine ⟨fun x hx=>?_,?_⟩
  ·simp at hx
   subst hx
   exact ⟨by decide,by decide⟩
  ·rw [heap_alloc_new];rfl
 exact hr.sl (n:=1) rfl

theorem boxes3z (w:World) {n:Bool} {ao:Option Addr} {k c:Nat} {z:Int} (h:Num w (.agg #[.bool n,.slice ao k c]) z) (t:TypeId) :
  ∃ w0,w0=((w.alloc (.cells #[.bool n,.slice ao k c] t)).alloc (.cells #[.bool false,.slice none 0 0] t)).alloc (.cells #[.bool false,.slice none 0 0] t)∧BoxNum w0 w.heap.size z∧BoxNum w0 (w.heap.size+1) 0∧BoxNum w0 (w.heap.size+1+1) 0∧Below w.heap.size w w0:=by
 obtain ⟨w0,hw0,hA,hB,hC,hbl,HS⟩:=zEh w (.bool n) (.slice ao k c) (.bool false) (.slice none 0 0) t
 exact ⟨w0,hw0,⟨_,_,_,_,hA,h.mono hbl⟩,⟨_,_,_,_,hB,Num.zero _⟩,⟨_,_,_,_,hC,Num.zero _⟩,hbl⟩

theorem newt_two (X S:Int):newt X S 2=(S+X/S)/2:=by
 unfold newt
 simp
 rw [Int.pow_one]

theorem zXl {X:Int} {b:Nat} (hb:zCx X b):X<(2^((b+1)/2)+1)^2:=by
 have hX:X<2^b:=by
  rcases hb with ⟨h1,h2⟩ | ⟨_,_,h1⟩
  ·subst h2;rw [h1];decide
  ·exact h1
 have h2:=zCl (show b≤(b+1)/2+(b+1)/2 by omega)
 rw [Int.pow_add] at h2
 have h3:=zA7 ((b+1)/2)
 rw [Int.pow_succ,Int.pow_succ,Int.pow_zero,Int.one_mul,Int.mul_add,Int.add_mul,Int.mul_one,Int.one_mul]
 omega

theorem zSz {X:Int} {m K:Nat} (hX:X<pw K) (hm:zCx X m):m≤32*K:=by
 rw [zCd] at hX
 rcases hm with ⟨_,h2⟩ | ⟨_,h2,_⟩
 ·omega
 ·rcases Nat.lt_or_ge (m-1) (32*K) with h | h
  ·omega
  ·have:=zCl h
   omega

theorem two_lt_pw {p K:Nat} (h:p<32*K):(2:Int)^p<pw K:=by
 rw [zCd]
 have h1:=zCl (show p+1≤32*K by omega)
 have h2:=zGh p
 have h3:=zA7 p
 omega

theorem RSqrtV {w:World} {v:Value} {a:Int} (h:Num w v a) (ha:ab a<pw 40):Calls Tryz.prog 147 #[v] w (zKz w a):=by
 obtain ⟨n1,ao,k1,c,rfl⟩:=h.parts
 have Ba:=hidd ha
 clear ha
 obtain ⟨w0,hw0,XA,X2,X3,HB⟩:=boxes3z w h 36
 go_enter Tryz.func147,Tryz.ntmps147
 go_upto_region 1 with (fail)
 rw [← hw0]
 clear hw0 h
 obtain ⟨na,aoa,kka,cca,⟨a0,a1,a2,a3⟩,hNa⟩:=id XA
 obtain ⟨_,_,_,_,_,_,hka,nega,posa⟩:=hNa.sign
 cases na
 rotate_left
 ·have Hn:=hidd (nega rfl)
  clear nega posa hka
  obtain ⟨nc,aoc,kkc,ccc,⟨c0,c1,c2,c3⟩,hNc⟩:=id X2
  obtain ⟨nd,aod,kkd,ccd,⟨d0,d1,d2,d3⟩,hNd⟩:=id X3
  have hbS:=(((HB.setCell (p:=⟨w.heap.size+1,0,none⟩) (by show w.heap.size≤w.heap.size+1;omega) (.bool false)).setCell (p:=⟨w.heap.size+1,1,none⟩) (by show w.heap.size≤w.heap.size+1;omega) (.slice none 0 0)).setCell (p:=⟨w.heap.size+1+1,0,none⟩) (by show w.heap.size≤w.heap.size+1+1;omega) (.bool false)).setCell (p:=⟨w.heap.size+1+1,1,none⟩) (by show w.heap.size≤w.heap.size+1+1;omega) (.slice none 0 0)
  go_wp2
  refine bodyPost_ret (v:=.tuple #[.agg #[.bool false,.slice none 0 0],.agg #[.bool false,.slice none 0 0],.int .i64 1]) ?_ rfl ⟨hbS,.inl ⟨Hn.out,rfl⟩⟩
  simp [results,Tryz.results147,go_sem,c0,c1,d0,d1]
 have Ha0:=hidd (posa rfl)
 clear nega posa
 by_cases hk0:kka=0
 ·have Hz:=hidd (hka.1 hk0)
  subst hk0
  clear hka
  obtain ⟨nc,aoc,kkc,ccc,⟨c0,c1,c2,c3⟩,hNc⟩:=id X2
  obtain ⟨nd,aod,kkd,ccd,⟨d0,d1,d2,d3⟩,hNd⟩:=id X3
  have hbS:=(((HB.setCell (p:=⟨w.heap.size+1,0,none⟩) (by show w.heap.size≤w.heap.size+1;omega) (.bool false)).setCell (p:=⟨w.heap.size+1,1,none⟩) (by show w.heap.size≤w.heap.size+1;omega) (.slice none 0 0)).setCell (p:=⟨w.heap.size+1+1,0,none⟩) (by show w.heap.size≤w.heap.size+1+1;omega) (.bool false)).setCell (p:=⟨w.heap.size+1+1,1,none⟩) (by show w.heap.size≤w.heap.size+1+1;omega) (.slice none 0 0)
  go_wp2
  refine bodyPost_ret (v:=.tuple #[.agg #[.bool false,.slice none 0 0],.agg #[.bool false,.slice none 0 0],.int .i64 0]) ?_ rfl ⟨hbS,.inr ⟨Ha0.out,_,_,0,rfl,(Num.zero _).isInt,by rw [Hz.out];exact (Num.zero _).isInt,by rw [Hz.out];exact ⟨Int.le_refl _,by decide,by decide⟩⟩⟩
  simp [results,Tryz.results147,go_sem,c0,c1,d0,d1]
 have hk1:((kka:Int) == 0)=false:=by simp;omega
 have Ha1:Hid (1≤a):=by have h1:a≠0:=fun h=>hk0 (hka.2 h);have:=Ha0.out;show 1≤a;omega
 clear hk0 hka
 go_upto_region 5 with (fail)
 clear hk1
 have hone:=one_sl w0 104 rfl
 have hbo:=zAh w0 (.cells #[.int .u32 1] 104)
 have hNa1:=hNa.mono hbo
 have q0:=(hbo.cell (p:=⟨w.heap.size,0,none⟩) (World.block_lt_of_cell? _ _ a0)).trans a0
 have q1:=(hbo.cell (p:=⟨w.heap.size,1,none⟩) (World.block_lt_of_cell? _ _ a1)).trans a1
 go_wp2_with fail
 refine (RBitsV hNa1).mono ?_
 rintro e wB ⟨m,rfl,hm,hmb,hb⟩
 have Hm:=hidd hm
 clear hm
 have hbB:=hbo.trans (hb.mono hbo.size)
 have hone2:=hone.mono hb
 obtain ⟨p,hp⟩:∃ p:Nat,p=(m+1)/2:=⟨_,rfl⟩
 have hpi:((m:Int)+1)/2=(p:Int):=by omega
 have hpb:p≤14400001:=by omega
 have Hp:=hidd hp
 clear hp hone q0 q1 hNa1 hb hbo
 go_wp2_with fail
 clear hpi
 refine (zP2 _ _ _ _ _ hone2 zm p zm).mono ?_
 rintro e wC ⟨gl,ll,cl,ls,rfl,_,hMl,hcl,hll,hvl,hb⟩
 have Hvl:=hidd hvl
 have Hll:=hidd hll
 clear hvl hll
 have hbC:=hbB.trans (hb.mono hbB.size)
 clear hb hbB hone2
 go_wp2_with fail
 have hpw:Hid (p≤640):=by show p≤640;have h1:=zSz Ba.out Hm.out;have:=Hp.out;omega
 obtain ⟨S0,hS0⟩:∃ S0:Int,S0=2^p:=⟨_,rfl⟩
 have HS0:=hidd hS0
 have BS0:Hid (ab S0<pw 21):=by show ab S0<pw 21;rw [hS0,zBe (Int.le_of_lt (zA7 p))];exact two_lt_pw (by have:=hpw.out;omega)
 clear hS0
 have hval:Hid (val ls=S0):=by show val ls=S0;rw [Hvl.out,HS0.out];show (1+4294967296*0)*_=_;rw [Int.mul_zero,Int.add_zero,Int.one_mul]
 have hmade:Calls Tryz.prog 47 #[.bool false,.slice (some ⟨gl,0,none⟩) ll cl] wC (zBc wC S0):=by
  have h:=zDw wC false _ ll cl ls (hMl.sl hcl) (by have:=Hll.out;have:=hpw.out;omega)
  have e:sgn false (val ls)=S0:=by rw [hval.out];rfl
  rw [e] at h
  exact h
 refine (exKP (z:=S0) hmade BS0.out zm).mono ?_
 clear hmade
 rintro e wD ⟨nD,aoD,kD,cD,rfl,hb2,hND⟩
 have hb:=hbC.trans (hb2.mono hbC.size)
 clear hb2 hbC hMl hcl
 clear a0 a1 a2 a3 hNa
 replace XA:=XA.mono hb
 replace X2:=X2.mono hb
 replace X3:=X3.mono hb
 replace HB:=HB.trans (hb.mono HB.size)
 clear hb
 go_upto_region 6 with (fail)
 obtain ⟨w1,hw1,hb,p1_0⟩:=zHm hND 36
 rw [← hw1]
 clear hw1
 have hlt1:(w.heap.size+1+1)<wD.heap.size:=X3.lt
 replace XA:=XA.mono hb
 replace X2:=X2.mono hb
 replace X3:=X3.mono hb
 replace HB:=HB.trans (hb.mono HB.size)
 clear hb
 obtain ⟨g5,hg5⟩:∃ g,g=wD.heap.size:=⟨_,rfl⟩
 rw [← hg5]
 rw [← hg5] at hlt1 p1_0
 clear hg5
 have X5:=p1_0
 clear p1_0
 clear hND
 have HI0:Hid (1≤S0∧a<(S0+1)^2):=by
  show _∧_
  rw [HS0.out,Hp.out]
  have h1:=zXl Hm.out
  rw [zBe Ha0.out] at h1
  exact ⟨zA7 _,h1⟩
 clear Hp Hm
 go_loopw [4] (fun _ W=>∃ s:Int,(1≤s∧s≤S0∧a<(s+1)^2)∧BoxNum W w.heap.size a∧BoxNum W (w.heap.size+1) 0∧BoxNum W (w.heap.size+1+1) 0∧BoxNum W g5 s∧Below w.heap.size w W) (fun _ W=>zFz W g5)
 case atStart=>exact ⟨S0,⟨HI0.out.1,Int.le_refl _,HI0.out.2⟩,XA,X2,X3,X5,HB⟩
 case round=>
  obtain ⟨s,hs,YA,Y2,Y3,Y5,HB⟩:=hrel
  clear XA X2 X3 X5 HI0
  have Hs:=hidd hs
  clear hs
  have XA:=YA
  have X2:=Y2
  have X3:=Y3
  have X5:=Y5
  clear YA Y2 Y3 Y5
  have HBV:=hidd (zFh X5)
  have Bs:Hid (ab s<pw 21):=by show ab s<pw 21;have h1:=Hs.out;have h2:=BS0.out;unfold ab at *;omega
  have B2:Hid (ab (2)<pw 2):=by show ab (2)<pw 2;decide
  go_wp2
  have B3:Hid (ab ((a/s))<pw 41):=zDp Ba.out zm
  have B4:Hid (ab ((s+(a/s)))<pw 42):=zBd Bs.out B3.out zm zm
  have B5:Hid (ab (((s+(a/s))/(2)))<pw 43):=zDp B4.out zm
  have hlast:=X5.lt
  have hp:(plan [Fc.num s,Fc.num a,Fc.num s,Fc.num (a/s),Fc.num (s+(a/s)),Fc.num (2),Fc.num ((s+(a/s))/(2)),Fc.any,Fc.any] [(w.heap.size,1000,a,a),((w.heap.size+1),1001,0,0),((w.heap.size+1+1),1002,0,0),(g5,1003,s,s)] [(7,8,((s+(a/s))/(2)))]).Ok w.heap.size wr.heap.size:=zEs (by simp;omega) (by simp;try omega) (by simp) zm
  have hm:=PMono.of hp
  refine zCv (p:=(plan [Fc.num s,Fc.num a,Fc.num s,Fc.num (a/s),Fc.num (s+(a/s)),Fc.num (2),Fc.num ((s+(a/s))/(2)),Fc.any,Fc.any] [(w.heap.size,1000,a,a),((w.heap.size+1),1001,0,0),((w.heap.size+1+1),1002,0,0),(g5,1003,s,s)] [(7,8,((s+(a/s))/(2)))])) (B:=w.heap.size) (B0:=wr.heap.size) (w0:=w) (by kernel_rfl) rfl rfl (zEt (by simp;exact ⟨XA,X2,X3,X5⟩) HB) ⟨?_,?_,?_,?_,?_,?_,?_,?_,?_,trivial⟩ ?_
  ·exact zA8 (b:=g5) (k:=1003) (z:=s) (z':=s) hp (by simp [plan]) (.inl rfl) rfl rfl (fun v w h=>h) ⟨by simp [plan],by simp [plan]⟩
  ·exact zA8 (b:=w.heap.size) (k:=1000) (z:=a) (z':=a) hp (by simp [plan]) (.inl rfl) rfl rfl (fun v w h=>h) ⟨by simp [plan],by simp [plan]⟩
  ·exact zA8 (b:=g5) (k:=1003) (z:=s) (z':=s) hp (by simp [plan]) (.inl rfl) rfl rfl (fun v w h=>h) ⟨by simp [plan],by simp [plan]⟩
  ·exact zEm (F:=(Fc.num a).P) (G:=(Fc.num s).P) hm ⟨by simp [plan],by simp [plan]⟩ trivial zO5 (zBi 1 rfl rfl (by simp) rfl (fun v w h=>h)) (zBi 2 rfl rfl (by simp) rfl (fun v w h=>h)) (fun v v' w h h'=>exK (RDivV h h' (Int.lt_of_lt_of_le Ba.out (zAa zm)) (Int.lt_of_lt_of_le Bs.out (zAa zm)) (show s≠0 by have:=Hs.out.1;omega)) B3.out zm)
  ·exact zEm (F:=(Fc.num s).P) (G:=(Fc.num (a/s)).P) hm ⟨by simp [plan],by simp [plan]⟩ trivial zJo (zBi 0 rfl rfl (by simp) rfl (fun v w h=>h)) (zBi 3 rfl rfl (by simp) rfl (fun v w h=>h)) (fun v v' w h h'=>exK (zFg h h') B4.out zm)
  ·exact zL0 hm ⟨by simp [plan],by simp [plan]⟩ trivial zLl (fun w=>rOfV w (2) zm zm)
  ·exact zEm (F:=(Fc.num (s+(a/s))).P) (G:=(Fc.num (2)).P) hm ⟨by simp [plan],by simp [plan]⟩ trivial zO5 (zBi 4 rfl rfl (by simp) rfl (fun v w h=>h)) (zBi 5 rfl rfl (by simp) rfl (fun v w h=>h)) (fun v v' w h h'=>exK (RDivV h h' (Int.lt_of_lt_of_le B4.out (zAa zm)) (Int.lt_of_lt_of_le B2.out (zAa zm)) zd) B5.out zm)
  ·exact zGk (k:=8) (z:=((s+(a/s))/(2))) hp (by simp [plan]) rfl (fun _ _=>trivial) (by simp [plan]) (by simp [plan])
  ·exact zGl (i0:=7) (j:=6) (z:=((s+(a/s))/(2))) hp rfl (by simp [plan]) rfl (by simp) rfl rfl (by simp) rfl (fun v w h=>h) (fun _ _=>trivial) (by simp [plan]) (by simp [plan])
  intro L vs w6 hL hG
  replace XA:BoxNum w6 w.heap.size a:=by have:=hG.old (w.heap.size,1000,a,a) (by simp [plan]);simpa using this
  replace X2:BoxNum w6 (w.heap.size+1) 0:=by have:=hG.old ((w.heap.size+1),1001,0,0) (by simp [plan]);simpa using this
  replace X3:BoxNum w6 (w.heap.size+1+1) 0:=by have:=hG.old ((w.heap.size+1+1),1002,0,0) (by simp [plan]);simpa using this
  replace X5:BoxNum w6 g5 s:=by have:=hG.old (g5,1003,s,s) (by simp [plan]);simpa using this
  obtain ⟨g6,e7,hgl6,x7⟩:=hG.new (7,8,((s+(a/s))/(2))) (by simp [plan]) (hL 7 (by simp))
  have hlt6:g5<g6:=Nat.lt_of_lt_of_le hlast hgl6
  have X6:BoxNum w6 g6 ((s+(a/s))/(2)):=by have h:=x7;simp only [hL 8 (by simp),if_true] at h;exact h
  replace HB:=hG.below
  rw [zAp hL]
  simp only [zP,Nat.zero_add,Nat.reduceAdd]
  rw [e7]
  generalize vs 0=u6_0
  generalize vs 1=u6_1
  generalize vs 2=u6_2
  generalize vs 3=u6_3
  generalize vs 4=u6_4
  generalize vs 5=u6_5
  generalize vs 6=u6_6
  clear hG hm hp hL hlast vs L e7 x7
  obtain ⟨na,aoa,kka,cca,⟨a0,a1,a2,a3⟩,hNa⟩:=id X6
  obtain ⟨nb,aob,kkb,ccb,⟨b0,b1,b2,b3⟩,hNb⟩:=id X5
  go_wp2_with fail
  refine (RCmpV hNa hNb).mono ?_
  rintro e wE ⟨rfl,hb⟩
  clear a0 a1 a2 a3 hNa b0 b1 b2 b3 hNb
  replace XA:=XA.mono hb
  replace X2:=X2.mono hb
  replace X3:=X3.mono hb
  replace X5:=X5.mono hb
  replace X6:=X6.mono hb
  replace HB:=HB.trans (hb.mono HB.size)
  clear hb
  have Ht:Hid (((s+(a/s))/(2))=newt a s 2):=(newt_two a s).symm
  by_cases hge:s≤((s+(a/s))/(2))
  ·have hc:decide (cmpI ((s+(a/s))/(2)) s ≥ 0)=true:=by simp;unfold cmpI;rw [if_neg zm];split <;> omega
   have HR:Hid (IsRoot a 2 s):=zMl zd Hs.out.1 Hs.out.2.2 (by rw [← Ht.out];exact hge)
   clear hge
   generalize cmpI ((s+(a/s))/(2)) s=cc at *
   go_upto_region 8 with (fail)
   clear hc
   have B7:Hid (ab ((s*s))<pw 42):=zAm Bs.out Bs.out zm
   have B8:Hid (ab ((a-(s*s)))<pw 43):=zCm Ba.out B7.out zm zm
   have hlast:=X6.lt
   have hp:(plan [Fc.num s,Fc.num a,Fc.num s,Fc.num s,Fc.num (s*s),Fc.num (a-(s*s)),Fc.any,Fc.any,Fc.is (.int .i64 (0))] [(w.heap.size,1000,a,a),((w.heap.size+1),6,0,s),((w.heap.size+1+1),7,0,(a-(s*s))),(g5,1003,s,s),(g6,1004,((s+(a/s))/(2)),((s+(a/s))/(2)))] []).Ok w.heap.size wE.heap.size:=zEs (by simp;omega) (by simp;try omega) (by simp) zm
   have hm:=PMono.of hp
   refine zCv (p:=(plan [Fc.num s,Fc.num a,Fc.num s,Fc.num s,Fc.num (s*s),Fc.num (a-(s*s)),Fc.any,Fc.any,Fc.is (.int .i64 (0))] [(w.heap.size,1000,a,a),((w.heap.size+1),6,0,s),((w.heap.size+1+1),7,0,(a-(s*s))),(g5,1003,s,s),(g6,1004,((s+(a/s))/(2)),((s+(a/s))/(2)))] [])) (B:=w.heap.size) (B0:=wE.heap.size) (w0:=w) (by kernel_rfl) rfl rfl (zEt (by simp;exact ⟨XA,X2,X3,X5,X6⟩) HB) ⟨?_,?_,?_,?_,?_,?_,?_,?_,?_,trivial⟩ ?_
   ·exact zA8 (b:=g5) (k:=1003) (z:=s) (z':=s) hp (by simp [plan]) (.inl rfl) rfl rfl (fun v w h=>h) ⟨by simp [plan],by simp [plan]⟩
   ·exact zA8 (b:=w.heap.size) (k:=1000) (z:=a) (z':=a) hp (by simp [plan]) (.inl rfl) rfl rfl (fun v w h=>h) ⟨by simp [plan],by simp [plan]⟩
   ·exact zA8 (b:=g5) (k:=1003) (z:=s) (z':=s) hp (by simp [plan]) (.inl rfl) rfl rfl (fun v w h=>h) ⟨by simp [plan],by simp [plan]⟩
   ·exact zA8 (b:=g5) (k:=1003) (z:=s) (z':=s) hp (by simp [plan]) (.inl rfl) rfl rfl (fun v w h=>h) ⟨by simp [plan],by simp [plan]⟩
   ·exact zEm (F:=(Fc.num s).P) (G:=(Fc.num s).P) hm ⟨by simp [plan],by simp [plan]⟩ trivial zTt (zBi 2 rfl rfl (by simp) rfl (fun v w h=>h)) (zBi 3 rfl rfl (by simp) rfl (fun v w h=>h)) (fun v v' w h h'=>exK (zDb h h') B7.out zm)
   ·exact zEm (F:=(Fc.num a).P) (G:=(Fc.num (s*s)).P) hm ⟨by simp [plan],by simp [plan]⟩ trivial zO6 (zBi 1 rfl rfl (by simp) rfl (fun v w h=>h)) (zBi 4 rfl rfl (by simp) rfl (fun v w h=>h)) (fun v v' w h h'=>exK (RSubV h h' (K:=42) (Int.lt_of_lt_of_le Ba.out (zAa zm)) (Int.lt_of_lt_of_le B7.out (zAa zm)) zm) B8.out zm)
   ·exact zBw (b:=(w.heap.size+1)) (j:=0) (z:=0) (z':=s) hp rfl (by simp [plan]) rfl rfl rfl (by simp) rfl (fun v w h=>h) (fun _ _=>trivial) (by simp [plan]) (by simp [plan])
   ·exact zBw (b:=(w.heap.size+1+1)) (j:=5) (z:=0) (z':=(a-(s*s))) hp rfl (by simp [plan]) rfl rfl rfl (by simp) rfl (fun v w h=>h) (fun _ _=>trivial) (by simp [plan]) (by simp [plan])
   ·exact zJx hm ⟨by simp [plan],by simp [plan]⟩ trivial (zKs (fun _=>rfl))
   intro L vs w9 hL hG
   replace XA:BoxNum w9 w.heap.size a:=by have:=hG.old (w.heap.size,1000,a,a) (by simp [plan]);simpa using this
   replace X2:BoxNum w9 (w.heap.size+1) s:=by have:=hG.old ((w.heap.size+1),6,0,s) (by simp [plan]);simpa [hL 6 (by simp)] using this
   replace X3:BoxNum w9 (w.heap.size+1+1) (a-(s*s)):=by have:=hG.old ((w.heap.size+1+1),7,0,(a-(s*s))) (by simp [plan]);simpa [hL 7 (by simp)] using this
   replace X5:BoxNum w9 g5 s:=by have:=hG.old (g5,1003,s,s) (by simp [plan]);simpa using this
   replace X6:BoxNum w9 g6 ((s+(a/s))/(2)):=by have:=hG.old (g6,1004,((s+(a/s))/(2)),((s+(a/s))/(2))) (by simp [plan]);simpa using this
   have e8:vs 8=.int .i64 (0):=hG.val 8 (hL 8 (by simp))
   replace HB:=hG.below
   rw [zAp hL]
   simp only [zP,Nat.zero_add,Nat.reduceAdd]
   rw [e8]
   generalize vs 0=u9_0
   generalize vs 1=u9_1
   generalize vs 2=u9_2
   generalize vs 3=u9_3
   generalize vs 4=u9_4
   generalize vs 5=u9_5
   clear hG hm hp hL hlast vs L e8
   obtain ⟨nc,aoc,kkc,ccc,⟨c0,c1,c2,c3⟩,hNc⟩:=id X2
   obtain ⟨nd,aod,kkd,ccd,⟨d0,d1,d2,d3⟩,hNd⟩:=id X3
   go_wp2
   refine bodyPost_ret (v:=.tuple #[.agg #[.bool nc,.slice aoc kkc ccc],.agg #[.bool nd,.slice aod kkd ccd],.int .i64 0]) ?_ rfl ⟨HB,.inr ⟨Ha0.out,_,_,s,rfl,hNc.isInt,hNd.isInt,HR.out⟩⟩
   simp [results,Tryz.results147,go_sem,c0,c1,d0,d1]
  ·have hc:decide (cmpI ((s+(a/s))/(2)) s ≥ 0)=false:=by simp;unfold cmpI;rw [if_pos zm];omega
   have HLT:=hidd (Int.not_le.1 hge)
   clear hge
   generalize cmpI ((s+(a/s))/(2)) s=cc at *
   obtain ⟨ne,aoe,kke,cce,⟨e0,e1,e2,e3⟩,hNe⟩:=id X6
   obtain ⟨nc,aoc,kkc,ccc,⟨c0,c1,c2,c3⟩,hNc⟩:=id X5
   go_wp2
   obtain ⟨w11,hw11⟩:∃ w1,w1=putBox wE g5 ne aoe kke cce:=⟨_,rfl⟩
   rw [show (wE.setCell ⟨g5,0,none⟩ (.bool ne)).setCell ⟨g5,1,none⟩ (.slice aoe kke cce)=w11 from hw11.symm]
   have YA:BoxNum w11 w.heap.size a:=by rw [hw11];exact XA.putOther X5 zm _ _ _ _
   have Y2:BoxNum w11 (w.heap.size+1) 0:=by rw [hw11];exact X2.putOther X5 zm _ _ _ _
   have Y3:BoxNum w11 (w.heap.size+1+1) 0:=by rw [hw11];exact X3.putOther X5 zm _ _ _ _
   have Y6:BoxNum w11 g6 ((s+(a/s))/(2)):=by rw [hw11];exact X6.putOther X5 zm _ _ _ _
   replace HB:Below w.heap.size w w11:=by rw [hw11];exact zI4 HB zm _ _ _ _
   have Y5:BoxNum w11 g5 ((s+(a/s))/(2)):=by rw [hw11];exact X5.putSame hNe
   replace XA:=YA
   replace X2:=Y2
   replace X3:=Y3
   replace X5:=Y5
   replace X6:=Y6
   clear YA Y2 Y3 Y5 Y6
   clear hw11
   clear e0 e1 e2 e3 hNe c0 c1 c2 c3 hNc
   have h1:1≤newt a s 2:=zJ9 zd Hs.out.1 zm (by rw [Int.one_pow];exact Ha1.out)
   have h2:a<(newt a s 2+1)^2:=by rcases zMm (X:=a) (S:=s) (K:=2) zd Hs.out.1 with h | h;exact h;omega
   rw [← Ht.out] at h1 h2
   go_roundw
   case rel=>exact ⟨_,⟨h1,by have:=HLT.out;have:=Hs.out.2.1;omega,h2⟩,XA,X2,X3,X5,HB⟩
   case measure=>rw [zFh X5,HBV.out];have:=HLT.out;have:=Hs.out.1;omega

end Go.Proofs.YtjadciofpgjofaaGreatDoor

namespace Go.Proofs.YtjadciofpgjofaaGreatDoor
open Go Go.RowKit

theorem zBk {w:World} {v v':Value} {z z':Int} (h:Num w v z) (h':Num w v' z'):Calls Tryz.prog 125 #[v,v'] w fun e w'=>∃ v',e=.returned v'∧Below w.heap.size w w'∧v'=.int .i64 (cmpI z z'):=
 (RCmpV h h').mono fun _ _ hh=>⟨_,hh.1,hh.2,rfl⟩

def Fc.sz (V:Int):Fc:=⟨fun v w=>∃ (ao:Option Addr) (l c:Nat) (zs:List Int),v=.slice ao l c∧Sl w ao l c zs∧l≤3000000∧val zs=V,
 fun ⟨ao,l,c,zs,e,h,h1,h2⟩ hb=>⟨ao,l,c,zs,e,h.mono hb,h1,h2⟩,fun ⟨ao,l,c,zs,e,h,h1,h2⟩ hb n' a' k' c'=>by
 obtain ⟨p,q,r,t,hI,_⟩:=hb
 exact ⟨ao,l,c,zs,e,h.putBox hI n' a' k' c',h1,h2⟩⟩

theorem zSy {xs:List Int} (hd:Digs xs) {k r:Nat} (hk:k<xs.length) (hr:r<32):(val xs/2^(32*k+r)) % 2=(xs.getD k 0/2^r) % 2:=by
 have h1:=zC3 xs (k:=k) zm
 have h2:=zDi xs hk
 have h3:=zA9 (hd.take k)
 have h4:=zAl (hd.take k)
 rw [List.length_take,Nat.min_eq_left zm] at h3
 rw [Int.pow_add,← zCd,← Int.ediv_ediv_of_nonneg (by have:=zA4 k;omega)]
 have e1:val xs/pw k=xs.getD k 0+4294967296*val (xs.drop (k+1)):=by
  rw [h1,Int.add_mul_ediv_left _ _ (by have:=zA4 k;omega),Int.ediv_eq_zero_of_lt h4 h3,Int.zero_add,h2]
 rw [e1]
 have e2:(4294967296:Int)=2^r*2^(32-r):=by rw [← Int.pow_add,show r+(32-r)=32 by omega];rfl
 obtain ⟨m,hm⟩:∃ m,32-r=m+1:=⟨31-r,by omega⟩
 rw [e2,hm,Int.mul_assoc,Int.add_mul_ediv_left _ _ (by have:=zA7 r;omega),zGh,Int.mul_assoc,Int.mul_left_comm,Int.add_mul_emod_self_left]

theorem and_one (x:Int) (h0:0≤x) (h1:x<4294967296):bits .and .u32 x 1=x % 2:=by
 obtain ⟨n,rfl⟩:=Int.eq_ofNat_of_zero_le h0
 have hn:n<4294967296:=by omega
 have h2:(BitVec.ofInt 32 ((n:Nat):Int)).toNat=n:=by rw [BitVec.ofInt_natCast,BitVec.toNat_ofNat];exact Nat.mod_eq_of_lt zm
 show IntKind.u32.wrap (((BitVec.ofInt 32 (n:Int)) &&& (BitVec.ofInt 32 1)).toNat:Int)=_
 rw [BitVec.toNat_and,h2]
 have h3:(BitVec.ofInt 32 1).toNat=1:=rfl
 rw [h3,Nat.and_one_is_mod]
 simp only [IntKind.wrap,IntKind.bits,IntKind.signed]
 simp
 omega

def zBb (z:Int):Nat:=if z=0 then 0 else z.natAbs.log2+1
theorem zH7 (z:Int):zCx (ab z) (zBb z):=by
 unfold zBb zCx ab
 by_cases h:z=0
 ·rw [if_pos h,h];exact .inl ⟨rfl,rfl⟩
 ·rw [if_neg h]
  right
  have h0:z.natAbs≠0:=by omega
  have h1:=Nat.log2_self_le h0
  have h2:=Nat.lt_log2_self (n:=z.natAbs)
  refine ⟨by omega,?_,?_⟩
  ·rw [show z.natAbs.log2+1-1=z.natAbs.log2 by omega]
   exact_mod_cast h1
  ·exact_mod_cast h2
theorem zMk {z:Int} {k:Nat} (h:ab z<pw k):zBb z≤32*k:=by
 rcases zH7 z with ⟨_,h2⟩ | ⟨h1,h2,_⟩
 ·omega
 ·rw [zCd] at h
  by_cases hc:zBb z≤32*k
  ·exact hc
  ·exfalso
   have h3:(2:Int)^(32*k)≤2^(zBb z-1):=zCl zm
   omega
theorem zF7 {w:World} {v:Value} {z:Int} (h:Num w v z):Calls Tryz.prog 137 #[v] w fun e w'=>∃ v',e=.returned v'∧Below w.heap.size w w'∧v'=.int .i64 ((zBb z:Nat):Int):=by
 obtain ⟨neg,ao,n,c,xs,rfl,hs,hn,rfl,hc,_⟩:=h
 refine (Bits_any _ _ _ _ _ _ hs zm).mono fun e w' hh=>?_
 obtain ⟨m,rfl,hm,_,hb⟩:=hh
 refine ⟨_,rfl,hb,?_⟩
 have h2:=zH7 (sgn neg (val xs))
 rw [zD3,zBe (zAl hs.digs)] at h2
 rw [bits_uniq hm h2]
theorem measP {i:Nat}:(intOf (.int .i64 ((i:Int)-1))+1).toNat<(intOf (.int .i64 (i:Int))+1).toNat:=by simp [intOf]
def Tabs (w:World):Prop:=TabAt 0 Lib.deBruijn32tab w∧TabAt 1 Lib.deBruijn64tab w
theorem zSe {g:Nat} {tab:List Nat} {w w':World} (h:TabAt g tab w) (hb:Below w.heap.size w w'):TabAt g tab w':=fun j hj=>by
 have h1:=h j hj
 have h2:=World.block_lt_of_cell? w ⟨g,j,none⟩ h1
 exact (hb.cell (p:=⟨g,j,none⟩) h2).trans h1
theorem Tabs.mono {w w':World} (h:Tabs w) (hb:Below w.heap.size w w'):Tabs w':=⟨zSe h.1 hb,zSe h.2 hb⟩

theorem tz64_core (x k idx:Nat) (w:World) (hx0:((x:Int) == 0)=false)
  (key:IntKind.u64.wrap (bits BinOp.and IntKind.u64 (x:Int) (IntKind.u64.wrap (-(x:Int)))*285870213051353865)/288230376151711744=(idx:Int))
  (hi:idx<64) (hk:k<64) (hcell:w.cell? ⟨1,idx,none⟩=some (.int .u8 k)) :
  Calls Tryz.prog 176 #[.int .u64 x] w fun e w'=>e=.returned (.int .i64 k)∧w'=w:=by
 go_enter Tryz.func176,Tryz.ntmps176
 go_wp2_with (simp only [key])
 go_ret
 exact ⟨rfl,rfl⟩
theorem tz64_any (x:Nat) (hx:x<18446744073709551616) (hx0:x≠0) (w:World) (hT:Tabs w) :
  Calls Tryz.prog 176 #[.int .u64 x] w fun e w'=>e=.returned (.int .i64 (Lib.ctz 64 x))∧w'=w:=by
 obtain ⟨hlow,hk⟩:=Lib.lowest_bit 64 x hx0 hx
 obtain ⟨hi,htab⟩:=Lib.deBruijn64_at _ hk
 have hcell:=hT.2 _ hi
 rw [htab] at hcell
 exact tz64_core x _ _ w (by simp;omega) (tz64_key x _ hx hx0 hlow) hi hk hcell
theorem tz32_core (x k idx:Nat) (w:World) (hx0:((x:Int) == 0)=false)
  (key:bits BinOp.and IntKind.u32 (x:Int) (-(x:Int) % 4294967296)*125613361 % 4294967296/134217728=(idx:Int))
  (hi:idx<32) (hk:k<32) (hcell:w.cell? ⟨0,idx,none⟩=some (.int .u8 k)) :
  Calls Tryz.prog 170 #[.int .u32 x] w fun e w'=>e=.returned (.int .i64 k)∧w'=w:=by
 go_enter Tryz.func170,Tryz.ntmps170
 go_wp2_with (simp only [key])
 go_ret
 exact ⟨rfl,rfl⟩
theorem tz32_any (x:Nat) (hx:x<4294967296) (hx0:x≠0) (w:World) (hT:Tabs w) :
  Calls Tryz.prog 170 #[.int .u32 x] w fun e w'=>e=.returned (.int .i64 (Lib.ctz 32 x))∧w'=w:=by
 obtain ⟨hlow,hk⟩:=Lib.lowest_bit 32 x hx0 hx
 obtain ⟨hi,htab⟩:=Lib.deBruijn32_at _ hk
 have hcell:=hT.1 _ hi
 rw [htab] at hcell
 exact tz32_core x _ _ w (by simp;omega) (tz32_key x _ hx hx0 hlow) hi hk hcell

theorem low_any (w:World) (na:Bool) (ax:Option Addr) (n cx:Nat) (xs:List Int) (hX:Sl w ax n cx xs) (hb1:n≤1000000) :
  Calls Tryz.prog 163 #[.agg #[.bool na,.slice ax n cx]] w fun e w'=>e=.returned (.int .u32 (val xs % 4294967296))∧Below w.heap.size w w':=by
 have hX0:=hX.mono (zAh w (.cells #[.bool na,.slice ax n cx] 36))
 by_cases h0:n=0
 ·subst h0
  have e:xs=[]:=List.eq_nil_of_length_eq_zero hX.len
  subst e
  go_enter Tryz.func163,Tryz.ntmps163
  go_wp2
  go_ret
  exact ⟨rfl,zAh _ _⟩
 ·have h1:((n:Int) == 0)=false:=by simp;omega
  obtain ⟨b,off,rfl,hbl,x,hxc,hx0,hx1,HX⟩:=hX0.cells.at (k:=0) (by rw [hX.len];omega)
  have hv:val xs % 4294967296=x:=by
   have h2:=zDi xs (k:=0) (by rw [hX.len];omega)
   rw [List.drop_zero,HX.out] at h2
   omega
  have HV:=hidd hv
  clear hv
  have g1:(0:Int)<n:=by omega
  rw [Nat.add_zero] at hxc
  go_enter Tryz.func163,Tryz.ntmps163
  go_wp2
  go_ret
  exact ⟨by rw [HV.out];rfl,zAh _ _⟩
theorem zD8 {w:World} {v:Value} {z:Int} (h:Num w v z):Calls Tryz.prog 163 #[v] w fun e w'=>∃ v',e=.returned v'∧Below w.heap.size w w'∧v'=.int .u32 (ab z % 4294967296):=by
 obtain ⟨neg,ao,n,c,xs,rfl,hs,hn,hz,hc,_⟩:=h
 have h1:ab z=val xs:=by rw [hz,zD3,zBe (zAl hs.digs)]
 rw [h1]
 exact (low_any _ _ _ _ _ _ hs zm).mono fun e w' hh=>⟨_,hh.1,hh.2,rfl⟩

theorem zI2 (a b:Nat) (ha:a<4294967296) (hb:b<4294967296):bits .and .u32 (a:Int) (b:Int)=((a &&& b:Nat):Int):=bits_and_u32_nat a b ha hb
theorem and_seven (n:Nat) (h:n<4294967296):bits .and .u32 (n:Int) 7=((n % 8:Nat):Int):=by
 have:=zI2 n 7 h zd
 have e:n &&& 7=n % 8:=Nat.and_two_pow_sub_one_eq_mod n 3
 rw [e] at this
 exact this
theorem and_two (a n:Nat) (ha:a<4294967296) (hn:n<4294967296):bits .and .u32 (bits .and .u32 (a:Int) (n:Int)) 3=(((a % 4) &&& (n % 4):Nat):Int):=by
 have h0:a &&& n<2^32:=Nat.and_lt_two_pow _ zm
 rw [zI2 a n ha hn]
 have:=zI2 (a &&& n) 3 zm zd
 have e:(a &&& n) &&& 3=(a &&& n) % 4:=Nat.and_two_pow_sub_one_eq_mod _ 2
 have e2:(a &&& n) % 2^2=(a % 2^2) &&& (n % 2^2):=Nat.and_mod_two_pow
 rw [e] at this
 rw [show ((3:Nat):Int)=3 from rfl] at this
 rw [this]
 exact congrArg _ e2
theorem zSw (k:Nat) (h:k<9223372036854775808):bits .and .i64 (k:Int) 1=((k % 2:Nat):Int):=by
 have h2:(BitVec.ofInt 64 ((k:Nat):Int)).toNat=k:=by rw [BitVec.ofInt_natCast,BitVec.toNat_ofNat];exact Nat.mod_eq_of_lt zm
 show IntKind.i64.wrap (((BitVec.ofInt 64 (k:Int)) &&& (BitVec.ofInt 64 1)).toNat:Int)=_
 rw [BitVec.toNat_and,h2]
 have h3:(BitVec.ofInt 64 1).toNat=1:=rfl
 rw [h3,Nat.and_one_is_mod]
 exact IntWalk.i64_in _ zm

def twosI (k n:Nat):Int:=if k % 2=1∧(n % 8=3∨n % 8=5) then -1 else 1
def turnI (a n:Nat):Int:=if a % 4=3∧n % 4=3 then -1 else 1
theorem zWe (w:World) (k n:Nat) (hk:k<9223372036854775808) (hn:n<4294967296) :
  Calls Tryz.prog 165 #[.int .i64 (k:Int),.int .u32 (n:Int)] w fun e w'=>e=.returned (.int .i64 (twosI k n))∧w'=w:=by
 have e1:bits .and .i64 (k:Int) 1=(k:Int) % 2:=by rw [zSw k hk];omega
 have e2:bits .and .u32 (n:Int) 7=(n:Int) % 8:=by rw [and_seven n hn];omega
 unfold twosI
 by_cases h1:k % 2=1
 ·have f1:((k:Int) % 2 == 1)=true:=by simp;omega
  by_cases h2:n % 8=3
  ·have f2:((n:Int) % 8 == 3)=true:=by simp;omega
   rw [if_pos ⟨h1,.inl h2⟩]
   clear h1 h2
   go_enter Tryz.func165,Tryz.ntmps165
   go_wp2_with (simp only [e1,e2,f1,f2])
   go_ret
   exact ⟨rfl,rfl⟩
  ·have f2:((n:Int) % 8 == 3)=false:=by simp;omega
   by_cases h3:n % 8=5
   ·have f3:((n:Int) % 8 == 5)=true:=by simp;omega
    rw [if_pos ⟨h1,.inr h3⟩]
    clear h1 h2 h3
    go_enter Tryz.func165,Tryz.ntmps165
    go_wp2_with (simp only [e1,e2,f1,f2,f3])
    go_ret
    exact ⟨rfl,rfl⟩
   ·have f3:((n:Int) % 8 == 5)=false:=by simp;omega
    rw [if_neg zm]
    clear h1 h2 h3
    go_enter Tryz.func165,Tryz.ntmps165
    go_wp2_with (simp only [e1,e2,f1,f2,f3])
    go_ret
    exact ⟨rfl,rfl⟩
 ·have f1:((k:Int) % 2 == 1)=false:=by simp;omega
  rw [if_neg zm]
  clear h1
  go_enter Tryz.func165,Tryz.ntmps165
  go_wp2_with (simp only [e1,f1])
  go_ret
  exact ⟨rfl,rfl⟩
theorem and_three {a n:Nat}:((a % 4) &&& (n % 4)=3) ↔ a % 4=3∧n % 4=3:=by
 have h1:a % 4=0∨a % 4=1∨a % 4=2∨a % 4=3:=by omega
 have h2:n % 4=0∨n % 4=1∨n % 4=2∨n % 4=3:=by omega
 rcases h1 with e | e | e | e <;> rcases h2 with f | f | f | f <;> rw [e,f] <;> decide
theorem zXo (w:World) (a n:Nat) (ha:a<4294967296) (hn:n<4294967296) :
  Calls Tryz.prog 171 #[.int .u32 (a:Int),.int .u32 (n:Int)] w fun e w'=>e=.returned (.int .i64 (turnI a n))∧w'=w:=by
 have e1:=and_two a n ha hn
 obtain ⟨X,hX⟩:∃ X:Int,X=(((a % 4) &&& (n % 4):Nat):Int):=⟨_,rfl⟩
 rw [← hX] at e1
 unfold turnI
 by_cases h:a % 4=3∧n % 4=3
 ·have f1:(X == 3)=true:=by rw [hX,and_three.2 h];rfl
  rw [if_pos h]
  clear h hX
  go_enter Tryz.func171,Tryz.ntmps171
  go_wp2_with (simp only [e1,f1])
  go_ret
  exact ⟨rfl,rfl⟩
 ·have f1:(X == 3)=false:=by
   have:=mt and_three.1 h
   rw [hX]
   simp
   omega
  rw [if_neg h]
  clear h hX
  go_enter Tryz.func171,Tryz.ntmps171
  go_wp2_with (simp only [e1,f1])
  go_ret
  exact ⟨rfl,rfl⟩

end Go.Proofs.YtjadciofpgjofaaGreatDoor
namespace Go.Proofs.YtjadciofpgjofaaGreatDoor
open Go Go.ChangeShapes Go.WideShapes Go.RowKit

def zG6 : List (String × DataW Unit) := [("math/bits.deBruijn32tab", Rows.laid_math_bits_deBruijn32tab), ("math/bits.deBruijn64tab", Rows.laid_math_bits_deBruijn64tab)]
theorem ownK:ownKnob Tryz.prog.godebug=none:=by kernel_rfl
theorem g32tab : Tryz.prog.globalNamed "math/bits.deBruijn32tab" = some 0 := by kernel_rfl
theorem g64tab : Tryz.prog.globalNamed "math/bits.deBruijn64tab" = some 1 := by kernel_rfl
theorem t32tab:(Tryz.prog.globals[0]?).map (·.type)=some 162:=by kernel_rfl
theorem t64tab:(Tryz.prog.globals[1]?).map (·.type)=some 164:=by kernel_rfl
theorem laid32:(Rows.laid_math_bits_deBruijn32tab:DataW Unit)=.agg (Lib.deBruijn32tab.map fun x:Nat=>DataW.lit (.int .u8 (x:Int))):=by kernel_rfl
theorem laid64:(Rows.laid_math_bits_deBruijn64tab:DataW Unit)=.agg (Lib.deBruijn64tab.map fun x:Nat=>DataW.lit (.int .u8 (x:Int))):=by kernel_rfl

theorem zSf {W:World} {nm:String} {g n:Nat} {t:TypeId} {fuel:Nat} {cs:Array Value} {q:List MemPlace} {tab:List Nat} (hg:Tryz.prog.globalNamed nm=some g) (hv:W.var? Tryz.prog nm=some cs) (ht:Tryz.prog.underlying t=some (.array n 5)) (hn:tab.length=n)
  (h:DataW.trod (fun _=>()) Tryz.prog W 0 (fun _=>true) false fuel t cs.toList=some (.agg (tab.map fun x:Nat=>DataW.lit (.int .u8 (x:Int))),q)):TabAt g tab W:=by
 intro j hj
 obtain ⟨xs,m,rfl,hx,hlen,hxn,hel⟩:=DataW.trod_array ht h
 have c1:Tryz.prog.cellsOf 5=1:=by kernel_rfl
 have h0:=hel j zm
 rw [c1,Nat.mul_one] at h0
 have hjx:j<xs.length:=by omega
 rw [List.getElem?_eq_getElem hjx] at h0
 obtain ⟨k,e1,e2,_⟩:=DataW.trod_int Tryz.underlying5 h0
 simp only [Prod.mk.injEq,DataW.agg.injEq] at hx
 have e3:=congrArg (fun l=>l[j]?) hx.1
 simp only [List.getElem?_map,List.getElem?_eq_getElem hj,List.getElem?_eq_getElem hjx,Option.map_some,e2,Option.some.injEq,DataW.lit.injEq,Lit.int.injEq,true_and] at e3
 rw [World.var?_cell hg hv j,show tab.getD j 0=tab[j] by simp [hj],e3]
 have hjl:j<cs.toList.length:=by
  rcases Nat.lt_or_ge j cs.toList.length with h | h
  ·exact h
  ·rw [List.drop_eq_nil_of_le h] at e1;cases e1
 rw [List.drop_eq_getElem_cons hjl] at e1
 simp only [List.take_succ_cons,List.take_zero,List.cons.injEq,and_true] at e1
 rw [← Array.getElem?_toList,List.getElem?_eq_getElem hjl,e1]

theorem zXn {W:World} (h:laidMetH Tryz.prog zG6 W):Tabs W:=by
 rw [MakeChecks.laidMetH_plain _ _ _ (by kernel_rfl)] at h
 obtain ⟨ps,⟨g0,t0,cs0,f0,p0,q0,hg0,ht0,hv0,hd0,⟨g1,t1,cs1,f1,p1,q1,hg1,ht1,hv1,hd1,_,_⟩,_⟩,_,_⟩:=h
 obtain rfl:=Option.some.inj (g32tab.symm.trans hg0)
 obtain rfl:=Option.some.inj (g64tab.symm.trans hg1)
 obtain rfl:=Option.some.inj (t32tab.symm.trans ht0)
 obtain rfl:=Option.some.inj (t64tab.symm.trans ht1)
 rw [laid32] at hd0
 rw [laid64] at hd1
 exact ⟨zSf hg0 hv0 Tryz.underlying162 rfl hd0,zSf hg1 hv1 Tryz.underlying164 rfl hd1⟩

theorem door_met (os:Os) (args:Array Value):laidMetH Tryz.prog zG6 ((World.doorLaid Tryz.prog 400 os).forCall (fun _ _=>0) ⟨#[],args,[]⟩).memory:=
 laidMetH_of_parts3 (fuel:=8) (laidMet_of_run' 8 (by kernel_rfl) (by kernel_rfl)) (by kernel_rfl) (by kernel_rfl)
end Go.Proofs.YtjadciofpgjofaaGreatDoor
namespace Go.Proofs.YtjadciofpgjofaaGreatDoor
open Go Go.ChangeShapes Go.WideShapes Go.ChangeAt Go.RowKit Go.Joins Go.Deep

theorem own:ownKnob Tryz.prog.godebug=none:=by kernel_rfl
theorem zL7:laidOutB Tryz.prog=true:=by kernel_rfl

theorem zQu {H:Type} {enc:TypeId × Value→H} {W:World} {r:Reach} {b0:Nat} {t:TypeId} {f0 f1:Field} (hs:Tryz.prog.underlying t=some (.struct #[f0,f1])) (h0:f0.type=4) (h1:f1.type=27) (hone:oneCellFields Tryz.prog #[f0,f1]=true)
  (hC:Tryz.prog.cellsOf t=2) {v:Value} {d:DataW H} {p:List MemPlace} (hv:Value.okWide Tryz.prog W r b0 t v) (h:DataW.Trod enc Tryz.prog W 0 (fun _=>true) true t v d p) (hlt:∀ x∈p,x.block<W.heap.size) :
  ∃ (neg:Bool) (ao:Option Addr) (n c:Nat) (xs:List Int),v=.agg #[.bool neg,.slice ao n c]∧Sl W ao n c xs∧n≤9223372036854775807:=by
 obtain ⟨v0,v1,y0,y1,k,rfl,_,hp,t0,t1⟩:=open_agg2 hs hone hC hv h
 rw [h0] at t0
 rw [h1] at t1
 obtain ⟨neg,hneg,_⟩:=DataW.trod_bool Tryz.underlying4 t0
 simp at hneg
 subst hneg
 rcases open_ints Tryz.underlying27 Tryz.underlying104 (by kernel_rfl) t1 with ⟨hcs,_⟩ | ⟨a,len,cap,zs,hcs,_,hl,hm,hz,hx,hcell,hw⟩
 ·simp at hcs
  subst hcs
  exact ⟨neg,none,0,0,[],rfl,Sl.nil W,by omega⟩
 ·simp at hcs
  subst hcs
  simp only [if_true] at hz
  have hd:Digs (zs.take len):=fun x hx=>by
   have:=hw x (List.mem_of_mem_take hx)
   simp only [Lit.wf,IntKind.min,IntKind.max,IntKind.signed,IntKind.bits,Bool.and_eq_true] at this
   unfold Dig
   simp at this
   omega
  refine ⟨neg,some a,len,cap,zs.take len,rfl,⟨by rw [List.length_take];omega,hl,hd,?_⟩,by unfold maxLen at hm;omega⟩
  by_cases hl0:len=0
  ·left;rw [hl0];simp
  ·right
   obtain ⟨b,off,spot⟩:=a
   have hspot:spot=none:=by simpa [Addr.add] using World.cell?_spot (hcell 0 zm)
   subst hspot
   refine ⟨b,off,rfl,hlt (.cell b off) ?_,fun j hj=>?_⟩
   ·rw [hp,hx]
    exact List.mem_append_right _ (MemPlace.mem_row.2 ⟨0,by omega,by simp⟩)
   ·have hj2:j<len:=by rw [List.length_take] at hj;omega
    rw [← add_plain,hcell j zm]
    simp [List.getD,hj2]

theorem zSg {H:Type} {enc:TypeId × Value→H} {P:Program} {w:World} {base:Nat} {spare:Nat→Bool} {held:Bool} {t e:TypeId} {fuel:Nat} {cs:List Value} {x:DataW H × List MemPlace} (ht:P.underlying t=some (.array 4 e))
  (h:DataW.trod enc P w base spare held fuel t cs=some x) :
  ∃ y0 y1 y2 y3 n,(∀ m,m∈y0.2∨m∈y1.2∨m∈y2.2∨m∈y3.2→m∈x.2)∧DataW.trod enc P w base spare held n e ((cs.drop (0*P.cellsOf e)).take (P.cellsOf e))=some y0∧DataW.trod enc P w base spare held n e ((cs.drop (1*P.cellsOf e)).take (P.cellsOf e))=some y1∧DataW.trod enc P w base spare held n e ((cs.drop (2*P.cellsOf e)).take (P.cellsOf e))=some y2∧DataW.trod enc P w base spare held n e ((cs.drop (3*P.cellsOf e)).take (P.cellsOf e))=some y3:=by
 cases fuel with
 | zero=>simp [DataW.trod] at h
 | succ n=>
  unfold DataW.trod at h
  rw [ht] at h
  have r:List.range 4=[0,1,2,3]:=rfl
  simp [r] at h
  obtain ⟨_,h⟩:=h
  cases h0:DataW.trod enc P w base spare held n e (cs.take (P.cellsOf e)) with
  | none=>simp [h0] at h
  | some y0=>
   cases h1:DataW.trod enc P w base spare held n e ((cs.drop (P.cellsOf e)).take (P.cellsOf e)) with
   | none=>simp [h0,h1] at h
   | some y1=>
    cases h2:DataW.trod enc P w base spare held n e ((cs.drop (2*P.cellsOf e)).take (P.cellsOf e)) with
    | none=>simp [h0,h1,h2] at h
    | some y2=>
     cases h3:DataW.trod enc P w base spare held n e ((cs.drop (3*P.cellsOf e)).take (P.cellsOf e)) with
     | none=>simp [h0,h1,h2,h3] at h
     | some y3=>
      simp [h0,h1,h2,h3] at h
      subst h
      exact ⟨y0,y1,y2,y3,n,fun m hm=>by simpa using hm,by simpa using h0,by simpa using h1,by simpa using h2,by simpa using h3⟩
theorem array9 {cs:Array Value} (h:cs.size=9):∃ e0 e1 e2 e3 e4 e5 e6 e7 e8,cs=#[e0,e1,e2,e3,e4,e5,e6,e7,e8]:=by
 obtain ⟨l⟩:=cs
 match l,h with
 | [e0,e1,e2,e3,e4,e5,e6,e7,e8],_=>exact ⟨e0,e1,e2,e3,e4,e5,e6,e7,e8,rfl⟩
theorem open_raw8 {H:Type} {enc:TypeId × Value→H} {W:World} {r:Reach} {b0:Nat} {t A I:TypeId} {F0 F1 F2:Field} (hs:Tryz.prog.underlying t=some (.struct #[F0,F1,F2])) (hF0:F0.type=22) (hF1:F1.type=A) (hF2:F2.type=I) (hO0:F0.offset=0) (hO1:F1.offset=1) (hO2:F2.offset=5) (hC:Tryz.prog.cellsOf t=9) (h3:Tryz.prog.underlying A=some (.array 4 22)) (h4:Tryz.prog.underlying I=some (.array 4 5)) (hc3:Tryz.prog.cellsOf A=4) (hc4:Tryz.prog.cellsOf I=4) (hcu:Tryz.prog.cellsOf 22=1) (hcv:Tryz.prog.cellsOf 5=1)
  {v:Value} {d:DataW H} {p:List MemPlace} (hv:Value.okWide Tryz.prog W r b0 t v) (h:DataW.Trod enc Tryz.prog W 0 (fun _=>true) true t v d p) :
  ∃ D i0 i1 i2 i3 m0 m1 m2 m3:Int,v=.agg #[.int .u16 D,.int .u16 i0,.int .u16 i1,.int .u16 i2,.int .u16 i3,.int .u8 m0,.int .u8 m1,.int .u8 m2,.int .u8 m3]∧(0≤D∧D≤65535)∧(0≤i0∧i0≤65535)∧(0≤i1∧i1≤65535)∧(0≤i2∧i2≤65535)∧(0≤i3∧i3≤65535)∧(0≤m0∧m0≤255)∧(0≤m1∧m1≤255)∧(0≤m2∧m2≤255)∧(0≤m3∧m3≤255):=by
 obtain ⟨cs,rfl,hsz⟩:=okWide_struct hs hv
 obtain ⟨e0,e1,e2,e3,e4,e5,e6,e7,e8,rfl⟩:=array9 (hsz.trans hC)
 obtain ⟨fuel,hf⟩:=h
 obtain ⟨xs,n,_,hx,hl,hlen,hf⟩:=DataW.trod_struct hs hf
 match xs,hlen with
 | [y0,y1,y2],_=>
  have t0:=hf 0 F0 rfl
  rw [hF0,hO0,hcu] at t0
  have t1:=hf 1 F1 rfl
  rw [hF1,hO1,hc3] at t1
  have t2:=hf 2 F2 rfl
  rw [hF2,hO2,hc4] at t2
  simp only [Value.cells] at t0 t1 t2
  obtain ⟨z1,z2,z3,z4,n3,_,s1,s2,s3,s4⟩:=zSg h3 t1
  obtain ⟨z5,z6,z7,z8,n4,_,s5,s6,s7,s8⟩:=zSg h4 t2
  rw [hcu] at s1 s2 s3 s4
  rw [hcv] at s5 s6 s7 s8
  have q0:DataW.trod enc Tryz.prog W 0 (fun _=>true) true n 22 [e0]=some y0:=by simpa using t0
  have q1:DataW.trod enc Tryz.prog W 0 (fun _=>true) true n3 22 [e1]=some z1:=by simpa using s1
  have q2:DataW.trod enc Tryz.prog W 0 (fun _=>true) true n3 22 [e2]=some z2:=by simpa using s2
  have q3:DataW.trod enc Tryz.prog W 0 (fun _=>true) true n3 22 [e3]=some z3:=by simpa using s3
  have q4:DataW.trod enc Tryz.prog W 0 (fun _=>true) true n3 22 [e4]=some z4:=by simpa using s4
  have q5:DataW.trod enc Tryz.prog W 0 (fun _=>true) true n4 5 [e5]=some z5:=by simpa using s5
  have q6:DataW.trod enc Tryz.prog W 0 (fun _=>true) true n4 5 [e6]=some z6:=by simpa using s6
  have q7:DataW.trod enc Tryz.prog W 0 (fun _=>true) true n4 5 [e7]=some z7:=by simpa using s7
  have q8:DataW.trod enc Tryz.prog W 0 (fun _=>true) true n4 5 [e8]=some z8:=by simpa using s8
  obtain ⟨b0,eb0,_,wb0⟩:=DataW.trod_int Tryz.underlying22 q0
  obtain ⟨b1,eb1,_,wb1⟩:=DataW.trod_int Tryz.underlying22 q1
  obtain ⟨b2,eb2,_,wb2⟩:=DataW.trod_int Tryz.underlying22 q2
  obtain ⟨b3,eb3,_,wb3⟩:=DataW.trod_int Tryz.underlying22 q3
  obtain ⟨b4,eb4,_,wb4⟩:=DataW.trod_int Tryz.underlying22 q4
  obtain ⟨b5,eb5,_,wb5⟩:=DataW.trod_int Tryz.underlying5 q5
  obtain ⟨b6,eb6,_,wb6⟩:=DataW.trod_int Tryz.underlying5 q6
  obtain ⟨b7,eb7,_,wb7⟩:=DataW.trod_int Tryz.underlying5 q7
  obtain ⟨b8,eb8,_,wb8⟩:=DataW.trod_int Tryz.underlying5 q8
  simp at eb0 eb1 eb2 eb3 eb4 eb5 eb6 eb7 eb8
  subst eb0 eb1 eb2 eb3 eb4 eb5 eb6 eb7 eb8
  have w0:0≤b0∧b0≤65535:=by simpa [Lit.wf,IntKind.min,IntKind.max,IntKind.signed,IntKind.bits] using wb0
  have w1:0≤b1∧b1≤65535:=by simpa [Lit.wf,IntKind.min,IntKind.max,IntKind.signed,IntKind.bits] using wb1
  have w2:0≤b2∧b2≤65535:=by simpa [Lit.wf,IntKind.min,IntKind.max,IntKind.signed,IntKind.bits] using wb2
  have w3:0≤b3∧b3≤65535:=by simpa [Lit.wf,IntKind.min,IntKind.max,IntKind.signed,IntKind.bits] using wb3
  have w4:0≤b4∧b4≤65535:=by simpa [Lit.wf,IntKind.min,IntKind.max,IntKind.signed,IntKind.bits] using wb4
  have w5:0≤b5∧b5≤255:=by simpa [Lit.wf,IntKind.min,IntKind.max,IntKind.signed,IntKind.bits] using wb5
  have w6:0≤b6∧b6≤255:=by simpa [Lit.wf,IntKind.min,IntKind.max,IntKind.signed,IntKind.bits] using wb6
  have w7:0≤b7∧b7≤255:=by simpa [Lit.wf,IntKind.min,IntKind.max,IntKind.signed,IntKind.bits] using wb7
  have w8:0≤b8∧b8≤255:=by simpa [Lit.wf,IntKind.min,IntKind.max,IntKind.signed,IntKind.bits] using wb8
  exact ⟨b0,b1,b2,b3,b4,b5,b6,b7,b8,rfl,w0,w1,w2,w3,w4,w5,w6,w7,w8⟩
end Go.Proofs.YtjadciofpgjofaaGreatDoor
namespace Go.Proofs.YtjadciofpgjofaaGreatDoor
open Go Go.RowKit

inductive Fd where
 | n (z:Int)
 | v (u:Value)
 | r (n:Bool) (a:Option Addr) (k c:Nat) (xs:List Int) (z:Int)
def Fd.len:Fd→Nat
 | .n _=>2
 | .v _=>1
 | .r ..=>2
def sz:List Fd→Nat
 | []=>0
 | f::fs=>f.len+sz fs
def zCf (u:Value):Bool:=u.oneCell' && (match u with | .int .u32 _=>false | _=>true)
def Fits (w:World):List Fd→List Value→Prop
 | [],us=>us=[]
 | .n z::fs,us=>∃ a b r,us=a::b::r∧Num w (.agg #[a,b]) z∧Fits w fs r
 | .v u::fs,us=>∃ r,us=u::r∧zCf u=true∧Fits w fs r
 | .r n ao k c xs z::fs,us=>∃ r,us=.bool n :: .slice ao k c::r∧(Sl w ao k c xs∧Num w (.agg #[.bool n,.slice ao k c]) z)∧Fits w fs r
theorem Fits.mono {w w':World} (hb:Below w.heap.size w w'):∀ {fs:List Fd} {us:List Value},Fits w fs us→Fits w' fs us
 | [],_,h=>h
 | .n _::_,_,⟨a,b,r,e,h1,h2⟩=>⟨a,b,r,e,h1.mono hb,Fits.mono hb h2⟩
 | .v _::_,_,⟨r,e,h1,h2⟩=>⟨r,e,h1,Fits.mono hb h2⟩
 | .r .. :: _,_,⟨r,e,h1,h2⟩=>⟨r,e,⟨h1.1.mono hb,h1.2.mono hb⟩,Fits.mono hb h2⟩
theorem Fits.putAt {w:World} {b:Nat} {vs vs':List Value} (ha:At w b vs) (ht:Tame vs) (hl:vs'.length=vs.length):∀ {fs:List Fd} {us:List Value},Fits w fs us→Fits (putFrom w b 0 vs') fs us
 | [],_,h=>h
 | .n _::_,_,⟨a,b,r,e,h1,h2⟩=>⟨a,b,r,e,h1.putAt ha ht hl,Fits.putAt ha ht hl h2⟩
 | .v _::_,_,⟨r,e,h1,h2⟩=>⟨r,e,h1,Fits.putAt ha ht hl h2⟩
 | .r .. :: _,_,⟨r,e,h1,h2⟩=>⟨r,e,⟨h1.1.putAt ha ht hl,h1.2.putAt ha ht hl⟩,Fits.putAt ha ht hl h2⟩
theorem Fits.length {w:World}:∀ {fs:List Fd} {us:List Value},Fits w fs us→us.length=sz fs
 | [],_,h=>by rw [show _=[] from h];rfl
 | .n _::_,_,⟨_,_,_,e,_,h2⟩=>by rw [e];simp [sz,Fd.len,Fits.length h2];omega
 | .v _::_,_,⟨_,e,_,h2⟩=>by rw [e];simp [sz,Fd.len,Fits.length h2];omega
 | .r .. :: _,_,⟨_,e,_,h2⟩=>by rw [e];simp [sz,Fd.len,Fits.length h2];omega
theorem tameB_ne {u:Value} (h:zCf u=true):∀ q,u≠.int .u32 q:=by
 rintro q rfl
 simp [zCf] at h
theorem zQo {w:World} {a b:Value} {z:Int} (h:Num w (.agg #[a,b]) z):zCf a=true∧zCf b=true:=by
 obtain ⟨n,ao,k,c,e⟩:=h.parts
 injection e with e
 have e2:=congrArg Array.toList e
 simp at e2
 obtain ⟨rfl,rfl⟩:=e2
 exact ⟨rfl,rfl⟩
theorem Fits.all {w:World}:∀ {fs:List Fd} {us:List Value},Fits w fs us→∀ u∈us,zCf u=true
 | [],_,h=>by rw [show _=[] from h];intro u hu;simp at hu
 | .n _::_,_,⟨_,_,_,e,h1,h2⟩=>by
  rw [e]
  intro u hu
  rcases List.mem_cons.1 hu with rfl | hu
  ·exact (zQo h1).1
  ·rcases List.mem_cons.1 hu with rfl | hu
   ·exact (zQo h1).2
   ·exact Fits.all h2 u hu
 | .v _::_,_,⟨_,e,h1,h2⟩=>by
  rw [e]
  intro u hu
  rcases List.mem_cons.1 hu with rfl | hu
  ·exact h1
  ·exact Fits.all h2 u hu
 | .r .. :: _,_,⟨_,e,_,h2⟩=>by
  rw [e]
  intro u hu
  rcases List.mem_cons.1 hu with rfl | hu
  ·rfl
  ·rcases List.mem_cons.1 hu with rfl | hu
   ·rfl
   ·exact Fits.all h2 u hu
theorem Fits.tame {w:World} {fs:List Fd} {us:List Value} (h:Fits w fs us):Tame us:=fun u hu=>tameB_ne (h.all u hu)
theorem Fits.one {w:World} {fs:List Fd} {us:List Value} (h:Fits w fs us):∀ u∈us,u.oneCell'=true:=fun u hu=>by
 have:=h.all u hu
 simp only [zCf,Bool.and_eq_true] at this
 exact this.1
theorem Fits.append {w:World}:∀ {fs:List Fd} {us:List Value} {gs:List Fd} {vs:List Value},Fits w fs us→Fits w gs vs→Fits w (fs++gs) (us++vs)
 | [],_,_,_,h,g=>by rw [show _=[] from h];exact g
 | .n _::_,_,_,_,⟨a,b,r,e,h1,h2⟩,g=>⟨a,b,r++_,by rw [e];rfl,h1,Fits.append h2 g⟩
 | .v _::_,_,_,_,⟨r,e,h1,h2⟩,g=>⟨r++_,by rw [e];rfl,h1,Fits.append h2 g⟩
 | .r .. :: _,_,_,_,⟨r,e,h1,h2⟩,g=>⟨r++_,by rw [e];rfl,h1,Fits.append h2 g⟩
def cutF:Nat→List Fd→Option (List Fd)
 | 0,fs=>some fs
 | _+1,[]=>none
 | k+1,.v _::fs=>cutF k fs
 | 1,.n _::_=>none
 | k+2,.n _::fs=>cutF k fs
 | 1,.r .. :: _=>none
 | k+2,.r .. :: fs=>cutF k fs
def zBr:Nat→List Fd→Option (List Fd)
 | 0,_=>some []
 | _+1,[]=>none
 | k+1,.v u::fs=>(zBr k fs).map (.v u :: ·)
 | 1,.n _::_=>none
 | k+2,.n z::fs=>(zBr k fs).map (.n z :: ·)
 | 1,.r .. :: _=>none
 | k+2,.r n a l c xs z::fs=>(zBr k fs).map (.r n a l c xs z :: ·)
theorem Fits.cut {w:World}:∀ {k:Nat} {fs gs:List Fd} {us:List Value},Fits w fs us→cutF k fs=some gs→Fits w gs (us.drop k)
 | 0,_,_,_,h,e=>by cases e;exact h
 | _+1,[],_,_,_,e=>by cases e
 | k+1,.v _::_,_,_,⟨_,e1,_,h2⟩,e=>by rw [e1];exact Fits.cut (k:=k) h2 e
 | 1,.n _::_,_,_,_,e=>by cases e
 | k+2,.n _::_,_,_,⟨_,_,_,e1,_,h2⟩,e=>by rw [e1];exact Fits.cut (k:=k) h2 e
 | 1,.r .. :: _,_,_,_,e=>by cases e
 | k+2,.r .. :: _,_,_,⟨_,e1,_,h2⟩,e=>by rw [e1];exact Fits.cut (k:=k) h2 e
theorem Fits.first {w:World}:∀ {k:Nat} {fs gs:List Fd} {us:List Value},Fits w fs us→zBr k fs=some gs→Fits w gs (us.take k)
 | 0,_,_,_,_,e=>by cases e;rfl
 | _+1,[],_,_,_,e=>by cases e
 | k+1,.v u::fs,_,_,⟨r,e1,h1,h2⟩,e=>by
  cases hq:zBr k fs with
  | none=>simp [zBr,hq] at e
  | some g=>
   simp [zBr,hq] at e
   subst e
   rw [e1]
   exact ⟨_,rfl,h1,Fits.first h2 hq⟩
 | 1,.n _::_,_,_,_,e=>by cases e
 | k+2,.n z::fs,_,_,⟨a,b,r,e1,h1,h2⟩,e=>by
  cases hq:zBr k fs with
  | none=>simp [zBr,hq] at e
  | some g=>
   simp [zBr,hq] at e
   subst e
   rw [e1]
   exact ⟨_,_,_,rfl,h1,Fits.first h2 hq⟩
 | 1,.r .. :: _,_,_,_,e=>by cases e
 | k+2,.r n a l c xs z::fs,_,_,⟨r,e1,h1,h2⟩,e=>by
  cases hq:zBr k fs with
  | none=>simp [zBr,hq] at e
  | some g=>
   simp [zBr,hq] at e
   subst e
   rw [e1]
   exact ⟨_,rfl,h1,Fits.first h2 hq⟩
def subF (off l:Nat) (fs:List Fd):Option (List Fd):=(cutF off fs).bind (zBr l)
def putF (off:Nat) (gs fs:List Fd):Option (List Fd):=(zBr off fs).bind fun a=>(cutF (off+sz gs) fs).map fun c=>a++(gs++c)
theorem Fits.sub {w:World} {off l:Nat} {fs gs:List Fd} {us:List Value} (h:Fits w fs us) (e:subF off l fs=some gs):Fits w gs ((us.drop off).take l):=by
 unfold subF at e
 cases hq:cutF off fs with
 | none=>simp [hq] at e
 | some a=>rw [hq] at e;exact (h.cut hq).first e
theorem Fits.put {w:World} {off:Nat} {fs gs fs':List Fd} {us vs:List Value} (h:Fits w fs us) (hv:Fits w gs vs) (e:putF off gs fs=some fs'):Fits w fs' (us.take off++(vs++us.drop (off+sz gs))):=by
 unfold putF at e
 cases hq:zBr off fs with
 | none=>simp [hq] at e
 | some a=>
  cases hc:cutF (off+sz gs) fs with
  | none=>simp [hq,hc] at e
  | some c=>
   simp [hq,hc] at e
   subst e
   exact (h.first hq).append (hv.append (h.cut hc))
theorem zJb:∀ {k:Nat} {fs gs:List Fd},cutF k fs=some gs→k+sz gs=sz fs
 | 0,_,_,e=>by cases e;simp
 | _+1,[],_,e=>by cases e
 | k+1,.v _::_,_,e=>by have:=zJb (k:=k) e;simp [sz,Fd.len];omega
 | 1,.n _::_,_,e=>by cases e
 | k+2,.n _::_,_,e=>by have:=zJb (k:=k) e;simp [sz,Fd.len];omega
 | 1,.r .. :: _,_,e=>by cases e
 | k+2,.r .. :: _,_,e=>by have:=zJb (k:=k) e;simp [sz,Fd.len];omega
theorem zJw:∀ {k:Nat} {fs gs:List Fd},zBr k fs=some gs→sz gs=k
 | 0,_,_,e=>by cases e;rfl
 | _+1,[],_,e=>by cases e
 | k+1,.v u::fs,_,e=>by
  cases hq:zBr k fs with
  | none=>simp [zBr,hq] at e
  | some g=>simp [zBr,hq] at e;subst e;have:=zJw hq;simp [sz,Fd.len];omega
 | 1,.n _::_,_,e=>by cases e
 | k+2,.n z::fs,_,e=>by
  cases hq:zBr k fs with
  | none=>simp [zBr,hq] at e
  | some g=>simp [zBr,hq] at e;subst e;have:=zJw hq;simp [sz,Fd.len];omega
 | 1,.r .. :: _,_,e=>by cases e
 | k+2,.r n a l c xs z::fs,_,e=>by
  cases hq:zBr k fs with
  | none=>simp [zBr,hq] at e
  | some g=>simp [zBr,hq] at e;subst e;have:=zJw hq;simp [sz,Fd.len];omega
theorem zGq {us vs:List Value} (e:Value.agg us.toArray=Value.agg vs.toArray):us=vs:=by
 injection e with e
 simpa using congrArg Array.toList e
def Fq.st (fs:List Fd):Fq:=⟨fun v w=>∃ us:List Value,v=.agg us.toArray∧Fits w fs us,fun ⟨us,e,h⟩ hb=>⟨us,e,h.mono hb⟩,fun ⟨us,e,h⟩ ha ht hl=>⟨us,e,h.putAt ha ht hl⟩⟩
def FitV (gs:List Fd) (v:Value) (w:World):Prop:=Fits w gs v.cells.toList
theorem zG3 {gs:List Fd} {v:Value} {w:World} (h:(Fq.st gs).P v w):FitV gs v w:=by
 obtain ⟨us,rfl,h⟩:=h
 simpa [FitV,Value.cells] using h
theorem zH1 {z:Int} {v:Value} {w:World} (h:Num w v z):FitV [.n z] v w:=by
 obtain ⟨n,ao,k,c,e⟩:=h.parts
 subst e
 exact ⟨_,_,[],rfl,h,rfl⟩
theorem zAf {z:Int} {v:Value} {w:World} (h:(Fq.st [.n z]).P v w):Num w v z:=by
 obtain ⟨us,rfl,a,b,r,rfl,h1,h2⟩:=h
 rw [show r=[] from h2]
 exact h1
theorem zMw (b:Nat):∀ (us:List Value) (j:Nat) (w:World),putFrom w b j us=w.setCells b j us
 | [],_,_=>rfl
 | u::us,j,w=>by
  show putFrom (w.setCell ⟨b,j,none⟩ u) b (j+1) us=_
  rw [zMw b us]
  rfl
theorem zMv (b:Nat):∀ (us vs:List Value) (j:Nat) (w:World),putFrom w b j (us++vs)=putFrom (putFrom w b j us) b (j+us.length) vs
 | [],_,_,_=>rfl
 | u::us,vs,j,w=>by
  show putFrom (w.setCell ⟨b,j,none⟩ u) b (j+1) (us++vs)=putFrom (putFrom (w.setCell ⟨b,j,none⟩ u) b (j+1) us) b _ vs
  rw [zMv b us vs]
  congr 1
  simp
  omega
theorem zXf {w:World} {a:Addr} {v:Value} (h:w.cell? a=some v):w.setCell a v=w:=by
 have e:(w.setCell a v).heap=w.heap:=by
  unfold World.cell? at h
  unfold World.setCell
  apply Array.ext
  ·simp
  ·intro j h1 h2
   simp only [Array.getElem_modify]
   split
   ·rename_i hj
    subst hj
    rw [Array.getElem?_eq_getElem h2] at h
    cases hc:w.heap[a.block] with
    | cells c el fr=>
     rw [hc] at h
     simp only at h
     split at h
     ·cases h
     ·rename_i hs
      simp only [hs,Bool.false_eq_true,if_false]
      congr 1
      apply Array.ext
      ·simp
      ·intro k g1 g2
       rw [Array.getElem_setIfInBounds]
       split
       ·rename_i hk
        subst hk
        rw [Array.getElem?_eq_getElem g2] at h
        exact (Option.some.inj h).symm
       ·rfl
    | _=>rfl
   ·rfl
 have e2:w.setCell a v={ w with heap:=(w.setCell a v).heap }:=rfl
 rw [e2,e]
theorem zMy (b:Nat):∀ (us:List Value) (j:Nat) (w:World),(∀ i,i<us.length→w.cell? ⟨b,j+i,none⟩=some (us.getD i undef))→putFrom w b j us=w
 | [],_,_,_=>rfl
 | u::us,j,w,h=>by
  show putFrom (w.setCell ⟨b,j,none⟩ u) b (j+1) us=w
  have h0:=h 0 (by simp)
  rw [zXf (by simpa using h0)]
  exact zMy b us (j+1) w fun i hi=>by
   have:=h (i+1) (by simp;omega)
   rw [show j+(i+1)=j+1+i by omega] at this
   simpa using this
theorem zWn {w:World} {b off:Nat} {us vs:List Value} (ha:At w b us) (hl:off+vs.length≤us.length):putFrom w b off vs=putFrom w b 0 (us.take off++(vs++us.drop (off+vs.length))):=by
 have hlt:(us.take off).length=off:=by simp;omega
 rw [zMv,zMy b (us.take off) 0 w fun i hi=>?_]
 ·rw [Nat.zero_add,hlt,zMv]
  refine (zMy b _ _ _ fun i hi=>?_).symm
  rw [zMw,World.cell?_setCells_out b vs off w _ (fun _ _=>.inr (by show off+vs.length≤off+vs.length+i;omega))]
  have hi':off+vs.length+i<us.length:=by simp at hi;omega
  rw [(ha _ hi').1]
  simp [List.getD]
 ·rw [Nat.zero_add,(ha i zm).1]
  rw [hlt] at hi
  simp [List.getD,hi]

noncomputable def rowB (T l:Nat):Bool:=(match Tryz.prog.underlying T with | some d=>d.isRow | none=>false) && (match Tryz.prog.info? T with | some i=>i.size == l | none=>false)
noncomputable def zDg (T l:Nat):Bool:=match Tryz.prog.info? T with | some i=>i.size == l | none=>false
theorem zNb {T l:Nat} (h:rowB T l=true):(∃ d,Tryz.prog.underlying T=some d∧d.isRow=true)∧(Tryz.prog.info? T).map (·.size)=some l:=by
 unfold rowB at h
 cases hu:Tryz.prog.underlying T with
 | none=>simp [hu] at h
 | some d=>
  cases hi:Tryz.prog.info? T with
  | none=>simp [hi] at h
  | some i=>simp [hu,hi] at h;exact ⟨⟨d,rfl,h.1⟩,by simp [h.2]⟩
theorem sizeB_of {T l:Nat} (h:zDg T l=true):∃ i,Tryz.prog.info? T=some i∧i.size=l:=by
 unfold zDg at h
 cases hi:Tryz.prog.info? T with
 | none=>simp [hi] at h
 | some i=>simp [hi] at h;exact ⟨i,rfl,h⟩
theorem zXe {w:World} {b o T:Nat} {v:Value} (ht:w.there b o v.cells.size) (hi:zDg T v.cells.size=true) (h1:∀ u∈v.cells.toList,u.oneCell'=true):(storeVar T ⟨b,o,none⟩ v).run Tryz.prog w=.ok () (w.setCells b o v.cells.toList):=by
 have:=run_storeCells_cells (P:=Tryz.prog) b o v.cells.toList 0 w (fun j hj=>by simpa using (ht j (by simpa using hj)).1) (fun j hj=>by simpa using (ht j (by simpa using hj)).2) h1
 obtain ⟨i,hq,hs⟩:=sizeB_of hi
 simp only [Nat.add_zero] at this
 simp [storeVar,sizeOf,typeInfo,hq,hs,this]

section
variable {os : List Oper} {Q : Exit → Act → World → Prop} {a : Act} {p : Pq} {B B0 : Nat} {w0 : World}
variable {i s : Nat} {d : Option Tmp} {ty : TypeId} {ps : String} {af : Array Edge} {gd : Option (Nat × Bool)}

theorem zCu {o:Ob} {off l T:Nat} {fs gs:List Fd} {x:Operand} (hp:p.Ok B B0) (hF:p.Free i) (hg:GdQ os a p B B0 w0 af gd) (ho:o∈p.old) (hk:o.F1=o.F0∨zBs os 9 o.k i=true) (hf:o.F0=Fq.st fs) (hT:rowB T l=true) (hs:subF off l fs=some gs)
  (hx:SrcQ os a p B B0 w0 af x fun u _=>u=.pointer (some ⟨o.b,off,none⟩)) (hC:∀ v w,(Fq.st gs).P v w→(p.c i).P v w) :
  zAg os Q a p B B0 w0 i { dst:=d,op:=.load T x,type:=ty,pos:=ps,after:=af,guard:=gd }:=by
 refine zBg hp hF hg fun L vs w hG hL hc hd=>?_
 obtain ⟨us,hl,h0,hat,ht,hP⟩:=zFi ho hk hG hL hc
 rw [hf] at hP
 obtain ⟨us',e',hfit⟩:=hP
 have e2:us=us':=zGq e'
 subst e2
 have e:=hx L vs w hG hd
 have hsub:=hfit.sub hs
 obtain ⟨⟨dd,hu,hd'⟩,hi⟩:=zNb hT
 have hlen:((us.drop off).take l).length=l:=by
  rw [hsub.length]
  unfold subF at hs
  cases hq:cutF off fs with
  | none=>simp [hq] at hs
  | some a=>rw [hq] at hs;exact zJw hs
 refine ⟨.agg ((us.drop off).take l).toArray,?_,hC _ _ ⟨_,rfl,hsub⟩⟩
 have hr:w.rangeAt o.b off ((us.drop off).take l):=by
  intro j v hv
  rw [List.getElem?_take] at hv
  split at hv
  ·rw [List.getElem?_drop] at hv
   have hj:=(List.getElem?_eq_some_iff.1 hv).1
   rw [(hat _ hj).1,List.getD,hv]
   rfl
  ·cases hv
 have:=run_loadVar_mid (P:=Tryz.prog) w o.b off T _ dd hr hu hd' (by rw [hlen];exact hi)
 generalize (lay os.toArray L vs os.toArray.size a).eval=ρ at e
 simp only [execOp,e,Instr.loadAt,Instr.sureAddr,Sem.run_bind,Sem.run_pure,Result.andThen_ok,this]

theorem zFq {o:Ob} {off T:Nat} {fs:List Fd} {u:Value} {x:Operand} (hp:p.Ok B B0) (hF:p.Free i) (hg:GdQ os a p B B0 w0 af gd) (ho:o∈p.old) (hk:o.F1=o.F0∨zBs os 9 o.k i=true) (hf:o.F0=Fq.st fs) (hs:subF off 1 fs=some [.v u])
  (hT:∀ (ρ:Operand→Value) (w:World) (b:Nat),ρ x=.pointer (some ⟨b,off,none⟩)→w.cell? ⟨b,off,none⟩=some u→(execOp ρ { dst:=d,op:=.load T x,type:=ty,pos:=ps,after:=af,guard:=gd }).run Tryz.prog w=.ok (.value u) w)
  (hx:SrcQ os a p B B0 w0 af x fun u _=>u=.pointer (some ⟨o.b,off,none⟩)) (hC:∀ w,(p.c i).P u w) :
  zAg os Q a p B B0 w0 i { dst:=d,op:=.load T x,type:=ty,pos:=ps,after:=af,guard:=gd }:=by
 refine zBg hp hF hg fun L vs w hG hL hc hd=>?_
 obtain ⟨us,hl,h0,hat,ht,hP⟩:=zFi ho hk hG hL hc
 rw [hf] at hP
 obtain ⟨us',e',hfit⟩:=hP
 have e2:us=us':=zGq e'
 subst e2
 have e:=hx L vs w hG hd
 obtain ⟨r,hsub,_,_⟩:=hfit.sub hs
 have hoff:off<us.length:=by
  rcases Nat.lt_or_ge off us.length with h | h
  ·exact h
  ·rw [List.drop_of_length_le h] at hsub;simp at hsub
 have hu:us.getD off undef=u:=by
  have h2:=congrArg (fun l=>l[0]?) hsub
  simp at h2
  simp [List.getD,h2]
 refine ⟨u,?_,hC w⟩
 have c0:=(hat off hoff).1
 rw [hu] at c0
 exact hT _ _ _ e c0

theorem st_run {T b off:Nat} {x y:Operand} {fs gs fs':List Fd} {us:List Value} {w:World} {ρ:Operand→Value} (hx:ρ x=.pointer (some ⟨b,off,none⟩)) (hv:FitV gs (ρ y) w) (ha:At w b us) (hf:Fits w fs us) (hT:zDg T (sz gs)=true) (hput:putF off gs fs=some fs') :
  ∃ us',us'.length=us.length∧Fits w fs' us'∧(execOp ρ { dst:=d,op:=.store T x y,type:=ty,pos:=ps,after:=af,guard:=none }).run Tryz.prog w=.ok .skip (putFrom w b 0 us'):=by
 have hlen:=hv.length
 have hsum:off+sz gs≤sz fs:=by
  unfold putF at hput
  cases hq:zBr off fs with
  | none=>simp [hq] at hput
  | some a=>
   cases hc:cutF (off+sz gs) fs with
   | none=>simp [hq,hc] at hput
   | some c=>have:=zJb hc;omega
 rw [← hf.length] at hsum
 have hcs:(ρ y).cells.size=sz gs:=by rw [← hlen];simp
 refine ⟨_,?_,hf.put hv hput,?_⟩
 ·simp only [List.length_append,List.length_take,List.length_drop,hlen];omega
 ·have hrun:=zXe (w:=w) (b:=b) (o:=off) (T:=T) (v:=ρ y) (fun j hj=>by
    have:=ha (off+j) zm
    exact ⟨by rw [this.1];rfl,this.2⟩) (by rw [hcs];exact hT) hv.one
  rw [← zMw,zWn ha (by rw [hlen];exact hsum),hlen] at hrun
  simp only [execOp,Instr.storeAt,Instr.sureAddr,hx,Sem.run_bind,Sem.run_pure,Result.andThen_ok,hrun]

theorem zEz {o0:Ob} {off T:Nat} {x y:Operand} {fs gs fs':List Fd} (hp:p.Ok B B0) (hi:o0∈p.old) (hki:o0.k=i) (hf0:o0.F0=Fq.st fs) (hf1:o0.F1=Fq.st fs') (hT:zDg T (sz gs)=true) (hput:putF off gs fs=some fs')
  (hx:SrcQ os a p B B0 w0 af x fun u _=>u=.pointer (some ⟨o0.b,off,none⟩)) (hy:SrcQ os a p B B0 w0 af y (FitV gs))
  (hC:∀ v w',(p.c i).P v w') (h2:∀ n∈p.new,n.i≠i∧n.k≠i):zAg os Q a p B B0 w0 i { dst:=none,op:=.store T x y,type:=ty,pos:=ps,after:=af,guard:=none }:=by
 subst hki
 intro hio L vs w hG hL hd hc
 have hv:=hy L vs w hG hd
 obtain ⟨us,g1,g2,g3,g4,g5⟩:=hG.old _ hi
 rw [hL] at g5
 simp only [Bool.false_eq_true,if_false] at g5
 rw [hf0] at g5
 obtain ⟨us2,e2,hfit⟩:=g5
 have e3:us=us2:=zGq e2
 subst e3
 obtain ⟨us',hl',hfit',hrun⟩:=st_run (d:=none) (ty:=ty) (ps:=ps) (af:=af) (hx L vs w hG hd) hv g3 hfit hT hput
 refine wpOp_step hio fun K' hK=>?_
 have hwn:Region.wanted ({ dst:=none,op:=.store T x y,type:=ty,pos:=ps,after:=af,guard:=none }:Oper) (yielded os.toArray (lay os.toArray L vs os.toArray.size a).tmps)=true:=rfl
 rw [if_pos hwn]
 unfold Oper.wp
 rw [hrun]
 exact hK _ _ ⟨undef,rfl,hG.storeOld hp hi (us:=us') zm hfit'.tame (by rw [hf1];exact ⟨_,rfl,hfit'⟩) hC h2 _⟩

theorem zW4 {n0:Nb} {T:Nat} {x y:Operand} {fs gs:List Fd} (hp:p.Ok B B0) (hi:n0∈p.new) (hki:n0.k=i) (hsl:n0.s=none) (hf0:n0.F0=Fq.st fs) (hf1:n0.F1=Fq.st gs) (hT:zDg T (sz gs)=true) (hput:putF 0 gs fs=some gs)
  (hx:∀ L vs w,p.G B B0 w0 L vs w→(∀ e∈af,Region.binds .any e=true→L e.on=true)→L n0.i=true∧(lay os.toArray L vs os.toArray.size a).eval x=vs n0.i) (hy:SrcQ os a p B B0 w0 af y (FitV gs))
  (hC:∀ v w',(p.c i).P v w') (h1:∀ o∈p.old,o.k≠i) (h2:∀ n∈p.new,n.i≠i):zAg os Q a p B B0 w0 i { dst:=none,op:=.store T x y,type:=ty,pos:=ps,after:=af,guard:=none }:=by
 subst hki
 intro hio L vs w hG hL hd hc
 obtain ⟨hLi,hxe⟩:=hx L vs w hG hd
 have hv:=hy L vs w hG hd
 obtain ⟨b,e1',e2,us,g1,g2,g3,g4,g5⟩:=hG.new _ hi hLi
 rw [Nb.now_off hsl hL,hf0] at g5
 obtain ⟨us2,e4,hfit⟩:=g5
 have e3:us=us2:=zGq e4
 subst e3
 have e1:vs n0.i=.pointer (some ⟨b,0,none⟩):=by rw [e1'];unfold Nb.ptr;rw [hsl]
 obtain ⟨us',hl',hfit',hrun⟩:=st_run (d:=none) (ty:=ty) (ps:=ps) (af:=af) (hxe.trans e1) hv g3 hfit hT hput
 refine wpOp_step hio fun K' hK=>?_
 have hwn:Region.wanted ({ dst:=none,op:=.store T x y,type:=ty,pos:=ps,after:=af,guard:=none }:Oper) (yielded os.toArray (lay os.toArray L vs os.toArray.size a).tmps)=true:=rfl
 rw [if_pos hwn]
 unfold Oper.wp
 rw [hrun]
 exact hK _ _ ⟨undef,rfl,hG.storeNew hp hi hLi (us:=us') zm hfit'.tame (by rw [hf1];exact ⟨_,rfl,hfit'⟩) hC h1 h2 e1' _⟩

theorem q_allocSt {n0:Nb} {T:Nat} {us:List Value} {fs:List Fd} (hp:p.Ok B B0) (hi:n0∈p.new) (hii:n0.i=i) (hsl:n0.s=none) (hm:n0.m=us.length) (h0:0<us.length) (hf0:n0.F0=Fq.st fs) (hz:∀ w,Fits w fs us)
  (hT:∀ (ρ:Operand→Value) (w:World),(execOp ρ { dst:=d,op:=.alloc T,type:=ty,pos:=ps,after:=af,guard:=none }).run Tryz.prog w=.ok (.value (.pointer (some ⟨w.heap.size,0,none⟩))) (w.alloc (.cells us.toArray T)))
  (hk:zBs os 9 n0.k i=true) (hki:n0.k≠i) (hC:∀ v w',(p.c i).P v w') (h1:∀ o∈p.old,o.k≠i) (h2:∀ n∈p.new,n.k≠i) :
  zAg os Q a p B B0 w0 i { dst:=d,op:=.alloc T,type:=ty,pos:=ps,after:=af,guard:=none }:=by
 subst hii
 intro hio L vs w hG hL hd hc
 refine wpOp_step hio fun K' hK=>?_
 have hwn:Region.wanted ({ dst:=d,op:=.alloc T,type:=ty,pos:=ps,after:=af,guard:=none }:Oper) (yielded os.toArray (lay os.toArray L vs os.toArray.size a).tmps)=true:=rfl
 rw [if_pos hwn]
 unfold Oper.wp
 rw [hT]
 exact hK _ _ ⟨_,rfl,hG.alloc hp hi hsl (zGf hc hk hL) hki hC h1 h2 _ (us:=us) hm.symm zm (hz w).tame (fun w'=>by rw [hf0];exact ⟨_,rfl,hz w'⟩)⟩
end
theorem zAy {w:World} {b m:Nat} {fs:List Fd} (h:Bq w b m (Fq.st fs)):∃ us,us.length=m∧(∀ j,j<us.length→w.cell? ⟨b,j,none⟩=some (us.getD j undef))∧Fits w fs us:=by
 obtain ⟨us,h1,_,h3,_,us',e,h5⟩:=h
 have e2:us=us':=zGq e
 subst e2
 exact ⟨us,h1,fun j hj=>(h3 j hj).1,h5⟩
section
variable {os : List Oper} {Q : Exit → Act → World → Prop} {a : Act} {p : Pq} {B B0 : Nat} {w0 : World}
variable {i s : Nat} {d : Option Tmp} {ty : TypeId} {ps : String} {af : Array Edge} {gd : Option (Nat × Bool)}
theorem wXc (off:Nat) {o:Ob} {T:Nat} {fs:List Fd} {u:Value} {x:Operand} (hp:p.Ok B B0) (ho:o∈p.old) (hx:SrcQ os a p B B0 w0 af x fun u _=>u=.pointer (some ⟨o.b,off,none⟩)) (hf:o.F0=Fq.st fs:=by exact rfl) (hs:subF off 1 fs=some [.v u]:=by exact rfl)
  (hT:∀ (ρ:Operand→Value) (w:World) (b:Nat),ρ x=.pointer (some ⟨b,off,none⟩)→w.cell? ⟨b,off,none⟩=some u→(execOp ρ { dst:=d,op:=.load T x,type:=ty,pos:=ps,after:=af,guard:=none }).run Tryz.prog w=.ok (.value u) w:=by intro ρ w b h1 h2;simp [execOp,go_sem,h1,h2])
  (hC:∀ w,(p.c i).P u w:=by exact fun _=>rfl) (hk:o.F1=o.F0∨zBs os 9 o.k i=true:=by exact .inl rfl) (hF:p.Free i:=by exact zBq rfl):zAg os Q a p B B0 w0 i { dst:=d,op:=.load T x,type:=ty,pos:=ps,after:=af,guard:=none }:=zFq hp hF trivial ho hk hf hs hT hx hC
theorem sO (off j:Nat) {o0:Ob} {T l:Nat} {x:Operand} {fs gs fs':List Fd} (hp:p.Ok B B0) (hi:o0∈p.old) (hT:zDg T l=true) (hx:SrcQ os a p B B0 w0 af x fun u _=>u=.pointer (some ⟨o0.b,off,none⟩)) (hc:p.c j=Fq.st gs:=by exact rfl) (hl:sz gs=l:=by exact rfl) (hki:o0.k=i:=by exact rfl) (hf0:o0.F0=Fq.st fs:=by exact rfl) (hput:putF off gs fs=some fs':=by exact rfl) (hf1:o0.F1=Fq.st fs':=by exact rfl) (ha:zBa (os.map (·.dst))=true:=by exact rfl) (hj:(os.map (·.dst))[j]?=some (some s):=by exact rfl) (hs:s<a.tmps.size:=by simp) (hdep:depA af j=true:=by exact rfl)
  (hC:∀ v w',(p.c i).P v w':=by exact fun _ _=>trivial) (h2:∀ n∈p.new,n.i≠i∧n.k≠i:=by exact zBl rfl):zAg os Q a p B B0 w0 i { dst:=none,op:=.store T x (.tmp s),type:=ty,pos:=ps,after:=af,guard:=none }:=zEz hp hi hki hf0 hf1 (by rw [hl];exact hT) hput hx (zBf j ha hj hs hdep fun v w h=>zG3 (by rw [← hc];exact h)) hC h2
theorem sS (j:Nat) {n0:Nb} {T l s':Nat} {fs gs:List Fd} (hp:p.Ok B B0) (hi:n0∈p.new) (hT:zDg T l=true) (hc:p.c j=Fq.st gs:=by exact rfl) (hl:sz gs=l:=by exact rfl) (hki:n0.k=i:=by exact rfl) (hsl:n0.s=none:=by exact rfl) (hf0:n0.F0=Fq.st fs:=by exact rfl) (hf1:n0.F1=Fq.st gs:=by exact rfl) (hput:putF 0 gs fs=some gs:=by exact rfl) (ha:zBa (os.map (·.dst))=true:=by exact rfl) (hj0:(os.map (·.dst))[n0.i]?=some (some s'):=by exact rfl) (hs0:s'<a.tmps.size:=by simp) (hd0:depA af n0.i=true:=by exact rfl) (hj:(os.map (·.dst))[j]?=some (some s):=by exact rfl) (hs:s<a.tmps.size:=by simp) (hdep:depA af j=true:=by exact rfl)
  (hC:∀ v w',(p.c i).P v w':=by exact fun _ _=>trivial) (h1:∀ o∈p.old,o.k≠i:=by exact zCr rfl) (h2:∀ n∈p.new,n.i≠i:=by exact newi_ne rfl):zAg os Q a p B B0 w0 i { dst:=none,op:=.store T (.tmp s') (.tmp s),type:=ty,pos:=ps,after:=af,guard:=none }:=zW4 hp hi hki hsl hf0 hf1 (by rw [hl];exact hT) hput (zEr ha hj0 hs0 hd0) (zBf j ha hj hs hdep fun v w h=>zG3 (by rw [← hc];exact h)) hC h1 h2
theorem aS {n0:Nb} {T:Nat} {us:List Value} {fs:List Fd} (hp:p.Ok B B0) (hi:n0∈p.new) (hz:∀ w,Fits w fs us) (hT:∀ (ρ:Operand→Value) (w:World),(execOp ρ { dst:=d,op:=.alloc T,type:=ty,pos:=ps,after:=af,guard:=none }).run Tryz.prog w=.ok (.value (.pointer (some ⟨w.heap.size,0,none⟩))) (w.alloc (.cells us.toArray T))) (hii:n0.i=i:=by exact rfl) (hsl:n0.s=none:=by exact rfl) (hm:n0.m=us.length:=by exact rfl) (h0:0<us.length:=by exact Nat.lt_of_sub_eq_succ rfl) (hf0:n0.F0=Fq.st fs:=by exact rfl)
  (hk:zBs os 9 n0.k i=true:=by exact rfl) (hki:n0.k≠i:=by exact Nat.ne_of_beq_eq_false rfl) (hC:∀ v w',(p.c i).P v w':=by exact fun _ _=>trivial) (h1:∀ o∈p.old,o.k≠i:=by exact zCr rfl) (h2:∀ n∈p.new,n.k≠i:=by exact newk_ne rfl):zAg os Q a p B B0 w0 i { dst:=d,op:=.alloc T,type:=ty,pos:=ps,after:=af,guard:=none }:=q_allocSt hp hi hii hsl hm h0 hf0 hz hT hk hki hC h1 h2
theorem lG (off l:Nat) {o:Ob} {T:Nat} {fs gs:List Fd} {x:Operand} (hp:p.Ok B B0) (hg:GdQ os a p B B0 w0 af gd) (ho:o∈p.old) (hT:rowB T l=true) (hx:SrcQ os a p B B0 w0 af x fun u _=>u=.pointer (some ⟨o.b,off,none⟩)) (hC:∀ v w,(Fq.st gs).P v w→(p.c i).P v w) (hf:o.F0=Fq.st fs:=by exact rfl) (hs:subF off l fs=some gs:=by exact rfl)
  (hk:o.F1=o.F0∨zBs os 9 o.k i=true:=by exact .inl rfl) (hF:p.Free i:=by exact zBq rfl):zAg os Q a p B B0 w0 i { dst:=d,op:=.load T x,type:=ty,pos:=ps,after:=af,guard:=gd }:=zCu hp hF hg ho hk hf hT hs hx hC
theorem lS (off l:Nat) {o:Ob} {T:Nat} {fs gs:List Fd} {x:Operand} (hp:p.Ok B B0) (ho:o∈p.old) (hT:rowB T l=true) (hx:SrcQ os a p B B0 w0 af x fun u _=>u=.pointer (some ⟨o.b,off,none⟩)) (hf:o.F0=Fq.st fs:=by exact rfl) (hs:subF off l fs=some gs:=by exact rfl) (hC:∀ v w,(Fq.st gs).P v w→(p.c i).P v w:=by exact fun v w h=>h)
  (hk:o.F1=o.F0∨zBs os 9 o.k i=true:=by exact .inl rfl) (hF:p.Free i:=by exact zBq rfl):zAg os Q a p B B0 w0 i { dst:=d,op:=.load T x,type:=ty,pos:=ps,after:=af,guard:=none }:=zCu hp hF trivial ho hk hf hT hs hx hC
theorem lN (off l:Nat) {o:Ob} {T:Nat} {fs:List Fd} {z:Int} {x:Operand} (hp:p.Ok B B0) (ho:o∈p.old) (hT:rowB T l=true) (hx:SrcQ os a p B B0 w0 af x fun u _=>u=.pointer (some ⟨o.b,off,none⟩)) (hf:o.F0=Fq.st fs:=by exact rfl) (hs:subF off l fs=some [.n z]:=by exact rfl) (hC:∀ v w,Num w v z→(p.c i).P v w:=by exact fun v w h=>h)
  (hk:o.F1=o.F0∨zBs os 9 o.k i=true:=by exact .inl rfl) (hF:p.Free i:=by exact zBq rfl):zAg os Q a p B B0 w0 i { dst:=d,op:=.load T x,type:=ty,pos:=ps,after:=af,guard:=none }:=zCu hp hF trivial ho hk hf hT hs hx fun v w h=>hC v w (zAf h)
end
theorem fS {w W:World} {bs:List (Nat × Nat × Fq)} (E:Fr w bs W) {k:Nat} (hk:W.heap.size=k) (t:TypeId) {fs:List Fd} {us:List Value} (h:Fits w fs us) (h0:0<us.length:=by simp):∃ w' b,w'=W.alloc (.cells us.toArray t)∧b=k∧w'.heap.size=k+1∧Fr w ((b,us.length,Fq.st fs)::bs) w':=zC8 E hk (F:=Fq.st fs) (us:=us) t rfl h0 h.tame ((Fq.st fs).mono (show (Fq.st fs).P _ w from ⟨_,rfl,h⟩) E.below)
theorem gS (w:World) (t:TypeId) {fs:List Fd} {us:List Value} (h:Fits w fs us) (h0:0<us.length:=by simp):∃ w' b,w'=w.alloc (.cells us.toArray t)∧b=w.heap.size∧w'.heap.size=w.heap.size+1∧Fr w [(b,us.length,Fq.st fs)] w':=zEa w (F:=Fq.st fs) (us:=us) t rfl h0 h.tame (show (Fq.st fs).P _ w from ⟨_,rfl,h⟩)
theorem fO {w W:World} {bs:List (Nat × Nat × Fq)} (E:Fr w bs W) {k:Nat} (hk:W.heap.size=k) (t:TypeId) {fs:List Fd} {us:List Value} (h:∀ w,Fits w fs us) (h0:0<us.length:=by simp):∃ w' b,w'=W.alloc (.cells us.toArray t)∧b=k∧w'.heap.size=k+1∧Fr w ((b,us.length,Fq.st fs)::bs) w':=zC8 E hk (F:=Fq.st fs) (us:=us) t rfl h0 (h w).tame ⟨_,rfl,h _⟩

inductive Cq where
 | a | k | t | o
 | i (z:Int)
 | p (b off:Nat)
 | u (v:Value)
 | n (z:Int)
 | w (F:Fq)
def Cq.q:Cq→Fq
 | .a=>Fq.any
 | .k=>Fq.any
 | .t=>Fq.is (.bool true)
 | .o=>Fq.is (.bool false)
 | .i z=>Fq.is (.int .i64 z)
 | .p b off=>Fq.is (.pointer (some ⟨b,off,none⟩))
 | .u v=>Fq.is v
 | .n z=>Fq.num z
 | .w F=>F
def Cq.v?:Cq→Option Value
 | .t=>some (.bool true)
 | .o=>some (.bool false)
 | .i z=>some (.int .i64 z)
 | .p b off=>some (.pointer (some ⟨b,off,none⟩))
 | .u v=>some v
 | _=>none
def Cq.k?:Cq→Bool
 | .k=>true
 | _=>false
theorem Cq.is {c:Cq} {v u:Value} {w:World} (h:c.v?=some v) (hP:c.q.P u w):u=v:=by
 cases c <;> simp only [Cq.v?,reduceCtorEq,Option.some.injEq] at h <;> subst h <;> exact hP

def HB:List Nb→(List Nat→Prop)→Prop
 | [],K=>K []
 | _::N,K=>∀ b,HB N fun bl=>K (b::bl)
def HV (f:Nat→Value):List Cq→List Nb→List Nat→Nat→(List Value→Prop)→Prop
 | [],_,_,_,K=>Unit→K []
 | c::C,N,bl,i,K=>match c.v? with
  | some v=>HV f C N bl (i+1) fun vl=>K (v::vl)
  | none=>match c.k?,N,bl with
   | true,n::N',b::bl'=>HV f C N' bl' (i+1) fun vl=>K (n.ptr b::vl)
   | _,_,_=>HV f C N bl (i+1) fun vl=>K (f i::vl)
def okK:List Cq→List Nb→Nat→Bool
 | [],_,_=>true
 | c::C,N,i=>match c.v? with
  | some _=>okK C N (i+1)
  | none=>match c.k?,N with
   | true,n::N'=>n.i == i && okK C N' (i+1)
   | _,_=>okK C N (i+1)
def nbs:List Nb→List Nat→List (Nat × Nat × Fq)
 | n::N,b::bl=>(b,n.m,n.F1)::nbs N bl
 | _,_=>[]
def pas:List Oper→List Value→Act→Act
 | x::os,v::vl,a=>pas os vl (a.put x.dst v)
 | _,_,a=>a

theorem HB.of {nb:Nat→Nat}:∀ {N:List Nb} {K:List Nat→Prop},HB N K→K (N.map fun n=>nb n.i)
 | [],_,h=>h
 | n::N,K,h=>HB.of (N:=N) (h (nb n.i))
theorem HV.of {vs:Nat→Value} {nb:Nat→Nat} {W:World}:∀ (C:List Cq) (N:List Nb) (i:Nat) (K:List Value→Prop),okK C N i=true→(∀ n∈N,vs n.i=n.ptr (nb n.i))→(∀ (j:Nat) (c:Cq),C[j]?=some c→c.q.P (vs (i+j)) W) →
  HV vs C N (N.map fun n=>nb n.i) i K→K ((List.range' i C.length).map vs)
 | [],_,_,_,_,_,_,h=>h ()
 | c::C,N,i,K,hk,hn,hC,h=>by
  have h0:=hC 0 c rfl
  have hC':∀ (j:Nat) (c:Cq),C[j]?=some c→c.q.P (vs (i+1+j)) W:=fun j c hj=>by have:=hC (j+1) c (by simpa using hj);rw [show i+(j+1)=i+1+j by omega] at this;exact this
  rw [List.length_cons,List.range'_succ,List.map_cons]
  unfold HV at h
  unfold okK at hk
  cases hv:c.v? with
  | some v=>
   simp only [hv] at h hk
   have e:vs i=v:=Cq.is hv h0
   rw [e]
   exact HV.of C N (i+1) (fun vl=>K (v::vl)) hk hn hC' h
  | none=>
   simp only [hv] at h hk
   cases hq:c.k? with
   | false=>
    simp only [hq] at h hk
    exact HV.of C N (i+1) (fun vl=>K (vs i::vl)) hk hn hC' h
   | true=>
    cases N with
    | nil=>
     simp only [hq,List.map_nil] at h hk
     exact HV.of C [] (i+1) (fun vl=>K (vs i::vl)) hk hn hC' h
    | cons n N=>
     simp only [hq,List.map_cons,Bool.and_eq_true,beq_iff_eq] at h hk
     have e:vs i=n.ptr (nb n.i):=by have:=hn n (List.mem_cons_self ..);rw [hk.1] at this ⊢;exact this
     rw [e]
     exact HV.of C N (i+1) (fun vl=>K (n.ptr (nb n.i)::vl)) hk.2 (fun m hm=>hn m (List.mem_cons_of_mem _ hm)) hC' h
theorem nbs_map {nb:Nat→Nat}:∀ N:List Nb,nbs N (N.map fun n=>nb n.i)=N.map fun n=>(nb n.i,n.m,n.F1)
 | []=>rfl
 | n::N=>by simp only [List.map_cons,nbs];rw [nbs_map N]
theorem zQy (x:Oper) (v:Value):∀ (os:List Oper) (vl:List Value) (a:Act),os.length=vl.length→pas (os ++ [x]) (vl ++ [v]) a=(pas os vl a).put x.dst v
 | [],[],_,_=>rfl
 | y::os,u::vl,a,h=>by simp only [List.cons_append,pas];exact zQy x v os vl _ (by simpa using h)
theorem zQz {os:List Oper} {vs:Nat→Value} {a:Act}:∀ k,k≤os.length→zCk os.toArray vs k a=pas (os.take k) ((List.range' 0 k).map vs) a
 | 0,_=>by simp [zCk,pas]
 | k+1,h=>by
  have hk:k<os.length:=by omega
  simp only [zCk]
  rw [zQz k zm,List.take_succ_eq_append_getElem hk,List.range'_concat,List.map_append,List.map_cons,List.map_nil,zQy _ _ _ _ _ (by simp;omega)]
  simp [zBp,hk]
theorem pas_all {os:List Oper} {vs:Nat→Value} {a:Act}:zCk os.toArray vs os.length a=pas os ((List.range' 0 os.length).map vs) a:=by
 have:=zQz (os:=os) (vs:=vs) (a:=a) os.length zm
 rwa [List.take_length] at this

section
variable {os : List Oper} {Q : Exit → Act → World → Prop} {a : Act} {w0 : World}
theorem rz {id:Nat} {dr:Bool} (C:List Cq) {bs:List (Nat × Nat × Fq)} (ks:List (Option (Nat × Fq))) (new:List Nb) {W:World} (E:Fr w0 bs W)
  (hs:(plq (C.map Cq.q) bs ks new os.length).Ok w0.heap.size W.heap.size→AllOps (zAg os Q a (plq (C.map Cq.q) bs ks new os.length) w0.heap.size W.heap.size w0) os 0)
  (hf:∀ W',HB new fun bl=>Fr w0 (nbs new bl++zAn bs ks) W'→∀ f,HV f C new bl 0 fun vl=>Q .normal (pas os vl a) W')
  (hok:okB os.length bs.length ks new=true:=by exact rfl) (hk:(C.length == os.length && okK C new 0)=true:=by exact rfl) (hm:Tryz.prog.follows .mixedOrders=true:=by kernel_rfl) (ha:zBa (os.map (·.dst))=true:=by exact rfl) (hb:zD4 os 0=true:=by exact rfl):(Code.region id os.toArray dr).wp Tryz.prog Q a W:=by
 simp only [Bool.and_eq_true,beq_iff_eq] at hk
 refine zRv E hok hm ha hb hs fun L vs W' nb hL hC hn E'=>?_
 rw [zAp hL,pas_all]
 have hh:=HB.of (nb:=nb) (hf W')
 rw [nbs_map] at hh
 have:=HV.of (vs:=vs) (W:=W') C new 0 _ hk.2 hn (fun j c hj=>by
  have hjl:j<C.length:=by rw [List.getElem?_eq_some_iff] at hj;exact hj.1
  have:=hC j zm
  rw [List.getElem?_map,hj] at this
  rw [Nat.zero_add];exact this) (hh E' vs)
 rw [hk.1] at this
 exact this
end
theorem Z1:(∀ (n:Nb) N b bl,nbs (n::N) (b::bl)=(b,n.m,n.F1)::nbs N bl)∧(nbs [] []=[])∧(∀ l:List (Nat × Nat × Fq),[] ++ l=l)∧(∀ (x:Nat × Nat × Fq) (l m:List (Nat × Nat × Fq)),x::l++m=x::(l++m)) ∧
  (∀ b m F r ks,zAn ((b,m,F)::r) (none::ks)=(b,m,F)::zAn r ks)∧(∀ b m F r k F1 ks,zAn ((b,m,F)::r) (some (k,F1)::ks)=(b,m,F1)::zAn r ks)∧(zAn [] []=[]) ∧
  (∀ d op ty ps af gd os v vl a,pas (⟨some d,op,ty,ps,af,gd⟩ :: os) (v::vl) a=pas os vl { a with tmps:=a.tmps.setIfInBounds d v })∧(∀ op ty ps af gd os v vl a,pas (⟨none,op,ty,ps,af,gd⟩ :: os) (v::vl) a=pas os vl a)∧(∀ a,pas [] [] a=a) ∧
  (∀ (l:List Value) (i:Nat) (v:Value),l.toArray.setIfInBounds i v=(l.set i v).toArray)∧(∀ (x v:Value) (l:List Value) (i:Nat),(x::l).set (i+1) v=x::l.set i v)∧(∀ (x v:Value) (l:List Value),(x::l).set 0 v=v::l) ∧
  (∀ i k m F0 F1 b,Nb.ptr ⟨i,k,m,F0,F1,none⟩ b=.pointer (some ⟨b,0,none⟩))∧(∀ i k m F0 F1 l b,Nb.ptr ⟨i,k,m,F0,F1,some (.sl l)⟩ b=.slice (some ⟨b,0,none⟩) l l)∧(∀ i k m F0 F1 f b,Nb.ptr ⟨i,k,m,F0,F1,some (.clo f)⟩ b=cloV f b):=
 ⟨fun _ _ _ _=>rfl,rfl,fun _=>rfl,fun _ _ _=>rfl,fun _ _ _ _ _=>rfl,fun _ _ _ _ _ _ _=>rfl,rfl,fun _ _ _ _ _ _ _ _ _ _=>rfl,fun _ _ _ _ _ _ _ _ _=>rfl,fun _=>rfl,fun _ _ _=>by simp,fun _ _ _ _=>rfl,fun _ _ _=>rfl,fun _ _ _ _ _ _=>rfl,fun _ _ _ _ _ _ _=>rfl,fun _ _ _ _ _ _ _=>rfl⟩
section
variable {os : List Oper} {Q : Exit → Act → World → Prop} {a : Act} {p : Pq} {B B0 : Nat} {w0 : World}
variable {i s : Nat} {d : Option Tmp} {ty : TypeId} {ps : String} {af : Array Edge} {gd : Option (Nat × Bool)}
def ix:List Oper→Nat→Nat
 | [],_=>0
 | x::os,s=>match x.dst with
  | some d=>bif d.beq s then 0 else ix os s+1
  | none=>ix os s+1
theorem zi {F:Value→World→Prop} (ha:zBa (os.map (·.dst))=true:=by exact rfl) (hj:(os.map (·.dst))[ix os s]?=some (some s):=by exact rfl) (hs:s<a.tmps.size:=by simp) (hdep:depA af (ix os s)=true:=by exact rfl) (hF:∀ v w,(p.c (ix os s)).P v w→F v w:=by exact fun v w h=>h):SrcQ os a p B B0 w0 af (.tmp s) F:=zBf _ ha hj hs hdep hF
theorem zw {u:Value} (ho:(os.map (·.dst)).contains (some s)=false:=by exact rfl) (hx:a.eval (.tmp s)=u:=by exact rfl):SrcQ os a p B B0 w0 af (.tmp s) fun v _=>v=u:=zAq ho hx fun _ _=>rfl
theorem zk (c:Value):SrcQ os a p B B0 w0 af (.const c) fun v _=>v=c:=zAk fun _=>rfl
theorem zt {o:Oper} {x y:Operand} {u v r:Value} (hp:p.Ok B B0) (hx:SrcQ os a p B B0 w0 o.after x fun t _=>t=u) (hy:SrcQ os a p B B0 w0 o.after y fun t _=>t=v) (hg:GdQ os a p B B0 w0 o.after o.guard:=by exact tv) (hC:∀ w,(p.c i).P r w:=by exact fun _=>rfl)
  (hr:∀ (ρ:Operand→Value) (w:World),(∀ c,ρ (.const c)=c)→ρ x=u→ρ y=v→(execOp ρ o).run Tryz.prog w=.ok (.value r) w:=by intro ρ w hc h h';simp [execOp,go_sem,h,h']) (hF:p.Free i:=by exact zBq rfl):zAg os Q a p B B0 w0 i o:=zAt hp hF hg hx hy fun ρ w hc h h'=>⟨r,hr ρ w hc h h',hC w⟩
theorem zT {o:Oper} {x y:Operand} {u v r:Value} {T:Prop} (hp:p.Ok B B0) (hx:SrcQ os a p B B0 w0 o.after x fun t _=>t=u) (hy:SrcQ os a p B B0 w0 o.after y fun t _=>t=v) (hT:T) (hg:GdQ os a p B B0 w0 o.after o.guard:=by exact tv) (hC:∀ w,(p.c i).P r w:=by exact fun _=>rfl)
  (hr:∀ (ρ:Operand→Value) (w:World),(∀ c,ρ (.const c)=c)→ρ x=u→ρ y=v→T→(execOp ρ o).run Tryz.prog w=.ok (.value r) w:=by intro ρ w hc h h' hT;simp [execOp,go_sem,h,h',hT]) (hF:p.Free i:=by exact zBq rfl):zAg os Q a p B B0 w0 i o:=zAt hp hF hg hx hy fun ρ w hc h h'=>⟨r,hr ρ w hc h h' hT,hC w⟩
theorem zo {o:Oper} {x:Operand} {u r:Value} (hp:p.Ok B B0) (hx:SrcQ os a p B B0 w0 o.after x fun t _=>t=u) (hg:GdQ os a p B B0 w0 o.after o.guard:=by first | exact tv | exact gqi) (hC:∀ w,(p.c i).P r w:=by exact fun _=>rfl)
  (hr:∀ (ρ:Operand→Value) (w:World),(∀ c,ρ (.const c)=c)→ρ x=u→(execOp ρ o).run Tryz.prog w=.ok (.value r) w:=by intro ρ w hc h;simp [execOp,go_sem,h,hc]) (hF:p.Free i:=by exact zBq rfl):zAg os Q a p B B0 w0 i o:=zAv hp hF hg hx fun ρ w hc h=>⟨r,hr ρ w hc h,hC w⟩
theorem zO {o:Oper} {x:Operand} {u r:Value} {T:Prop} (hp:p.Ok B B0) (hx:SrcQ os a p B B0 w0 o.after x fun t _=>t=u) (hT:T) (hg:GdQ os a p B B0 w0 o.after o.guard:=by first | exact tv | exact gqi) (hC:∀ w,(p.c i).P r w:=by exact fun _=>rfl)
  (hr:∀ (ρ:Operand→Value) (w:World),(∀ c,ρ (.const c)=c)→ρ x=u→T→(execOp ρ o).run Tryz.prog w=.ok (.value r) w:=by intro ρ w hc h hT;simp [execOp,go_sem,h,hc,hT]) (hF:p.Free i:=by exact zBq rfl):zAg os Q a p B B0 w0 i o:=zAv hp hF hg hx fun ρ w hc h=>⟨r,hr ρ w hc h hT,hC w⟩
theorem zg (b off off':Nat) {T k:Nat} {x:Operand} (hp:p.Ok B B0) (hx:SrcQ os a p B B0 w0 af x fun u _=>u=.pointer (some ⟨b,off,none⟩)) (hg:GdQ os a p B B0 w0 af gd:=by exact gqi) (hF:p.Free i:=by exact zBq rfl)
  (hr:∀ (ρ:Operand→Value) (w:World),ρ x=.pointer (some ⟨b,off,none⟩)→(execOp ρ { dst:=d,op:=.fieldAddr T x k,type:=ty,pos:=ps,after:=af,guard:=gd }).run Tryz.prog w=.ok (.value (.pointer (some ⟨b,off',none⟩))) w:=by intro ρ w h;simp [execOp,go_sem,h])
  (hC:∀ w,(p.c i).P (.pointer (some ⟨b,off',none⟩)) w:=by exact fun _=>rfl):zAg os Q a p B B0 w0 i { dst:=d,op:=.fieldAddr T x k,type:=ty,pos:=ps,after:=af,guard:=gd }:=q_addr hp hF hg hx hr hC
theorem zc {F:Fq} {x:Operand} {f:FuncId} {ts:Array TypeId} (hp:p.Ok B B0) (hen:∀ args w,(callFunc f args).run Tryz.prog w=.ok (.enter f args) w)
  (hx:SrcQ os a p B B0 w0 af x F.P) (hC:∀ v w,F.P v w→Calls Tryz.prog f #[v] w fun e w'=>∃ v',e=.returned v'∧Below w.heap.size w w'∧(p.c i).P v' w') (hg:GdQ os a p B B0 w0 af gd:=by first | exact tv | exact gqi) (hF:p.Free i:=by exact zBq rfl) :
  zAg os Q a p B B0 w0 i { dst:=d,op:=.call { callee:=.value (.func f),args:=#[x],argTypes:=ts },type:=ty,pos:=ps,after:=af,guard:=gd }:=zBn hp hF hg hen hx hC
theorem zC {F G:Fq} {x y:Operand} {f:FuncId} {ts:Array TypeId} (hp:p.Ok B B0) (hen:∀ args w,(callFunc f args).run Tryz.prog w=.ok (.enter f args) w)
  (hx:SrcQ os a p B B0 w0 af x F.P) (hy:SrcQ os a p B B0 w0 af y G.P) (hC:∀ v v' w,F.P v w→G.P v' w→Calls Tryz.prog f #[v,v'] w fun e w'=>∃ v',e=.returned v'∧Below w.heap.size w w'∧(p.c i).P v' w') (hg:GdQ os a p B B0 w0 af gd:=by first | exact tv | exact gqi) (hF:p.Free i:=by exact zBq rfl) :
  zAg os Q a p B B0 w0 i { dst:=d,op:=.call { callee:=.value (.func f),args:=#[x,y],argTypes:=ts },type:=ty,pos:=ps,after:=af,guard:=gd }:=zDl hp hF hg hen hx hy hC
theorem zS {P:Prop} (h:P:=by first
 | exact zAj (by assumption) (zBq rfl) tv zi
 | exact zFr (by assumption) (zBq rfl) rfl gqi (fun _=>rfl)
 | exact zCt (by assumption) (zBq rfl) tv zi
 | exact zG9 (by assumption) (zBq rfl) tv zi fun _ _ _ _ h1 _ _=>⟨_,rfl,h1⟩
 | exact zG9 (by assumption) (zBq rfl) tv zi fun _ _ _ _ _ h1 _=>⟨_,rfl,h1⟩
 | exact zG9 (by assumption) (zBq rfl) tv zi fun _ _ _ _ _ _ h1=>⟨_,rfl,h1⟩
 | exact zFp (by assumption) (zBq rfl) tv zi fun _ _ _ h1 _=>⟨_,rfl,h1⟩
 | exact zFp (by assumption) (zBq rfl) tv zi fun _ _ _ _ h1=>⟨_,rfl,h1⟩
 | exact zAj (by assumption) (zBq rfl) gqi zi
 | exact zCt (by assumption) (zBq rfl) gqi zi
 | exact zCt (by assumption) (zBq rfl) tv (zAk fun _=>rfl)
 | exact zAj (by assumption) (zBq rfl) tv (zAq rfl rfl fun _ _=>rfl)):P:=h
end
abbrev f3 (a b c:Int):Fq:=Fq.st [.n a,.n b,.n c]
abbrev Rt (f:FuncId) (args:Array Value) (w:World) (P:Value→World→Prop):Prop:=Calls Tryz.prog f args w fun e w'=>∃ v',e=.returned v'∧Below w.heap.size w w'∧P v' w'
theorem o3 {v:Value} {w:World} {a b c:Int} (h:(Fq.st [.n a,.n b,.n c]).P v w):∃ p0 q0 p1 q1 p2 q2,v=.agg #[p0,q0,p1,q1,p2,q2]∧Fits w [.n a,.n b,.n c] [p0,q0,p1,q1,p2,q2]:=by
 obtain ⟨_,rfl,hf⟩:=h
 have hF:=hf
 obtain ⟨p0,q0,_,rfl,_,p1,q1,_,rfl,_,p2,q2,_,rfl,_,rfl⟩:=hf
 exact ⟨_,_,_,_,_,_,rfl,hF⟩
theorem zR {P:Program} {fn:Func} {G:Value→World→Prop} {a:Act} {w w':World} {v:Value} (hr:(results fn a.tmps).run P w'=.ok v w') (hb:Below w.heap.size w w') (hG:G v w') (hd:a.defers=[]:=by exact rfl):bodyPost P fn (fun e w'=>∃ v',e=.returned v'∧Below w.heap.size w w'∧G v' w') .ret a w':=bodyPost_ret hr hd ⟨_,rfl,hb,hG⟩
theorem c6 {P:Nat→Prop} (h:∀ j,j<6→P j):P 0∧P 1∧P 2∧P 3∧P 4∧P 5:=⟨h 0 zd,h 1 zd,h 2 zd,h 3 zd,h 4 zd,h 5 zd⟩
theorem gN (w:World) (t:TypeId) {n:Bool} {ao:Option Addr} {l c:Nat} {z:Int} (h:Num w (.agg #[.bool n,.slice ao l c]) z):∃ w' b,w'=w.alloc (.cells ([.bool n,.slice ao l c]:List Value).toArray t)∧b=w.heap.size∧w'.heap.size=w.heap.size+1∧Fr w [(b,([.bool n,.slice ao l c]:List Value).length,Fq.num z)] w':=zEa w (F:=Fq.num z) (us:=[.bool n,.slice ao l c]) t rfl (by simp) (zB8 _ _ _ _) h

theorem zIn:zDg 36 2=true:=by kernel_rfl
theorem zAb:rowB 36 2=true:=by kernel_rfl
section
variable {os : List Oper} {Q : Exit → Act → World → Prop} {a : Act} {p : Pq} {B B0 : Nat} {w0 : World}
variable {i s : Nat} {d : Option Tmp} {ty : TypeId} {ps : String} {af : Array Edge} {gd : Option (Nat × Bool)}
end
inductive PE where
 | c (k:Int)
 | v (i:Nat)
 | a (x y:PE)
 | m (x y:PE)
 | n (x:PE)
def PE.den (ρ:List Int):PE→Int
 | .c k=>k
 | .v i=>ρ.getD i 0
 | .a x y=>x.den ρ+y.den ρ
 | .m x y=>x.den ρ*y.den ρ
 | .n x=>- x.den ρ
def insV (i:Nat):List Nat→List Nat
 | []=>[i]
 | j::r=>if i≤j then i::j::r else j::insV i r
def monD (ρ:List Int):List Nat→Int
 | []=>1
 | i::r=>ρ.getD i 0*monD ρ r
def polD (ρ:List Int):List (Int × List Nat)→Int
 | []=>0
 | t::r=>t.1*monD ρ t.2+polD ρ r
theorem zPx (ρ:List Int) (i:Nat):∀ l,monD ρ (insV i l)=ρ.getD i 0*monD ρ l
 | []=>rfl
 | j::r=>by
  unfold insV
  split
  ·rfl
  ·show _*monD ρ (insV i r)=_*(_*monD ρ r)
   rw [zPx ρ i r,Int.mul_left_comm]
def mulM:List Nat→List Nat→List Nat
 | [],l=>l
 | i::r,l=>insV i (mulM r l)
theorem zQg (ρ:List Int):∀ a b,monD ρ (mulM a b)=monD ρ a*monD ρ b
 | [],b=>by show monD ρ b=1*_;rw [Int.one_mul]
 | i::r,b=>by
  show monD ρ (insV i (mulM r b))=_*monD ρ r*_
  rw [zPx,zQg ρ r b,Int.mul_assoc]
def addT (k:Int) (mo:List Nat):List (Int × List Nat)→List (Int × List Nat)
 | []=>[(k,mo)]
 | t::p=>if t.2=mo then (k+t.1,mo)::p else t::addT k mo p
theorem zN0 (ρ:List Int) (k:Int) (mo:List Nat):∀ p,polD ρ (addT k mo p)=k*monD ρ mo+polD ρ p
 | []=>rfl
 | t::p=>by
  unfold addT
  split
  ·rename_i h
   show (k+t.1)*monD ρ mo+polD ρ p=_+(t.1*monD ρ t.2+polD ρ p)
   rw [Int.add_mul,h]
   omega
  ·show t.1*monD ρ t.2+polD ρ (addT k mo p)=_+(t.1*monD ρ t.2+polD ρ p)
   rw [zN0 ρ k mo p]
   omega
def addQ:List (Int × List Nat)→List (Int × List Nat)→List (Int × List Nat)
 | [],q=>q
 | t::p,q=>addT t.1 t.2 (addQ p q)
theorem zK1 (ρ:List Int):∀ p q,polD ρ (addQ p q)=polD ρ p+polD ρ q
 | [],q=>by show polD ρ q=0+_;omega
 | t::p,q=>by
  show polD ρ (addT t.1 t.2 (addQ p q))=t.1*monD ρ t.2+polD ρ p+polD ρ q
  rw [zN0,zK1 ρ p q]
  omega
def mulT (k:Int) (mo:List Nat):List (Int × List Nat)→List (Int × List Nat)
 | []=>[]
 | t::p=>(k*t.1,mulM mo t.2)::mulT k mo p
theorem zMi (ρ:List Int) (k:Int) (mo:List Nat):∀ p,polD ρ (mulT k mo p)=k*monD ρ mo*polD ρ p
 | []=>by show (0:Int)=_*0;omega
 | t::p=>by
  show k*t.1*monD ρ (mulM mo t.2)+polD ρ (mulT k mo p)=k*monD ρ mo*(t.1*monD ρ t.2+polD ρ p)
  rw [zQg,zMi ρ k mo p,Int.mul_add]
  congr 1
  simp only [Int.mul_assoc,Int.mul_left_comm]
def mulQ:List (Int × List Nat)→List (Int × List Nat)→List (Int × List Nat)
 | [],_=>[]
 | t::p,q=>addQ (mulT t.1 t.2 q) (mulQ p q)
theorem zQh (ρ:List Int):∀ p q,polD ρ (mulQ p q)=polD ρ p*polD ρ q
 | [],q=>by show (0:Int)=0*_;omega
 | t::p,q=>by
  show polD ρ (addQ (mulT t.1 t.2 q) (mulQ p q))=(t.1*monD ρ t.2+polD ρ p)*polD ρ q
  rw [zK1,zMi,zQh ρ p q,Int.add_mul]
def PE.norm:PE→List (Int × List Nat)
 | .c k=>[(k,[])]
 | .v i=>[(1,[i])]
 | .a x y=>addQ x.norm y.norm
 | .m x y=>mulQ x.norm y.norm
 | .n x=>mulT (-1) [] x.norm
theorem PE.norm_den (ρ:List Int):∀ e:PE,polD ρ e.norm=e.den ρ
 | .c k=>by show k*1+0=k;omega
 | .v i=>by show 1*(ρ.getD i 0*1)+0=ρ.getD i 0;omega
 | .a x y=>by show polD ρ (addQ _ _)=_+_;rw [zK1,PE.norm_den ρ x,PE.norm_den ρ y]
 | .m x y=>by show polD ρ (mulQ _ _)=_*_;rw [zQh,PE.norm_den ρ x,PE.norm_den ρ y]
 | .n x=>by show polD ρ (mulT _ _ _)=- _;rw [zMi,PE.norm_den ρ x];show -1*1*_=_;omega
theorem zQ1 (ρ:List Int):∀ p:List (Int × List Nat),p.all (fun t=>t.1 == 0)=true→polD ρ p=0
 | [],_=>rfl
 | t::p,h=>by
  simp only [List.all_cons,Bool.and_eq_true,beq_iff_eq] at h
  show t.1*_+polD ρ p=0
  rw [h.1,zQ1 ρ p h.2]
  omega
theorem PE.same (ρ:List Int) (x y:PE) (h:((PE.a x (.n y)).norm.all fun t=>t.1 == 0)=true):x.den ρ=y.den ρ:=by
 have h1:=zQ1 ρ _ h
 rw [PE.norm_den] at h1
 have h2:x.den ρ+- y.den ρ=0:=h1
 omega
theorem zAs {x:Int} (h0:-9223372036854775808≤x) (h1:x≤9223372036854775807):ab x<pw 3:=by
 have hp:pw 3=79228162514264337593543950336:=by decide
 rw [hp]
 unfold ab
 omega

theorem zM4 (a b c p q r s:Int):(2*(a*(p*q)+c*(r*s))+b*(p*s+q*r))*(2*(a*(p*q)+c*(r*s))+b*(p*s+q*r))-4*((a*(p*p)+b*(p*r)+c*(r*r))*(a*(q*q)+b*(q*s)+c*(s*s)))=(b*b-4*(a*c))*((p*s-q*r)*(p*s-q*r)):=by
 have h:=PE.same [a,b,c,p,q,r,s] (.a (.m (.a (.m (.c 2) (.a (.m (.v 0) (.m (.v 3) (.v 4))) (.m (.v 2) (.m (.v 5) (.v 6))))) (.m (.v 1) (.a (.m (.v 3) (.v 6)) (.m (.v 4) (.v 5))))) (.a (.m (.c 2) (.a (.m (.v 0) (.m (.v 3) (.v 4))) (.m (.v 2) (.m (.v 5) (.v 6))))) (.m (.v 1) (.a (.m (.v 3) (.v 6)) (.m (.v 4) (.v 5)))))) (.n (.m (.c 4) (.m (.a (.a (.m (.v 0) (.m (.v 3) (.v 3))) (.m (.v 1) (.m (.v 3) (.v 5)))) (.m (.v 2) (.m (.v 5) (.v 5)))) (.a (.a (.m (.v 0) (.m (.v 4) (.v 4))) (.m (.v 1) (.m (.v 4) (.v 6)))) (.m (.v 2) (.m (.v 6) (.v 6)))))))) (.m (.a (.m (.v 1) (.v 1)) (.n (.m (.c 4) (.m (.v 0) (.v 2))))) (.m (.a (.m (.v 3) (.v 6)) (.n (.m (.v 4) (.v 5)))) (.a (.m (.v 3) (.v 6)) (.n (.m (.v 4) (.v 5)))))) (by decide +kernel)
 simp only [PE.den,List.getD_cons_zero,List.getD_cons_succ] at h
 try simp only [Int.sub_eq_add_neg]
 exact h

theorem zRn (a b c p q r s:Int):(a*(p*p)+b*(p*r)+c*(r*r))*(s*s)+(2*(a*(p*q)+c*(r*s))+b*(p*s+q*r))*(s*(-r))+(a*(q*q)+b*(q*s)+c*(s*s))*((-r)*(-r))=a*((p*s-q*r)*(p*s-q*r)):=by
 have h:=PE.same [a,b,c,p,q,r,s] (.a (.a (.m (.a (.a (.m (.v 0) (.m (.v 3) (.v 3))) (.m (.v 1) (.m (.v 3) (.v 5)))) (.m (.v 2) (.m (.v 5) (.v 5)))) (.m (.v 6) (.v 6))) (.m (.a (.m (.c 2) (.a (.m (.v 0) (.m (.v 3) (.v 4))) (.m (.v 2) (.m (.v 5) (.v 6))))) (.m (.v 1) (.a (.m (.v 3) (.v 6)) (.m (.v 4) (.v 5))))) (.m (.v 6) (.n (.v 5))))) (.m (.a (.a (.m (.v 0) (.m (.v 4) (.v 4))) (.m (.v 1) (.m (.v 4) (.v 6)))) (.m (.v 2) (.m (.v 6) (.v 6)))) (.m (.n (.v 5)) (.n (.v 5))))) (.m (.v 0) (.m (.a (.m (.v 3) (.v 6)) (.n (.m (.v 4) (.v 5)))) (.a (.m (.v 3) (.v 6)) (.n (.m (.v 4) (.v 5)))))) (by decide +kernel)
 simp only [PE.den,List.getD_cons_zero,List.getD_cons_succ] at h
 try simp only [Int.sub_eq_add_neg]
 exact h

theorem qf_inv_b (a b c p q r s:Int):2*((a*(p*p)+b*(p*r)+c*(r*r))*(s*(-q))+(a*(q*q)+b*(q*s)+c*(s*s))*((-r)*p))+(2*(a*(p*q)+c*(r*s))+b*(p*s+q*r))*(s*p+(-q)*(-r))=b*((p*s-q*r)*(p*s-q*r)):=by
 have h:=PE.same [a,b,c,p,q,r,s] (.a (.m (.c 2) (.a (.m (.a (.a (.m (.v 0) (.m (.v 3) (.v 3))) (.m (.v 1) (.m (.v 3) (.v 5)))) (.m (.v 2) (.m (.v 5) (.v 5)))) (.m (.v 6) (.n (.v 4)))) (.m (.a (.a (.m (.v 0) (.m (.v 4) (.v 4))) (.m (.v 1) (.m (.v 4) (.v 6)))) (.m (.v 2) (.m (.v 6) (.v 6)))) (.m (.n (.v 5)) (.v 3))))) (.m (.a (.m (.c 2) (.a (.m (.v 0) (.m (.v 3) (.v 4))) (.m (.v 2) (.m (.v 5) (.v 6))))) (.m (.v 1) (.a (.m (.v 3) (.v 6)) (.m (.v 4) (.v 5))))) (.a (.m (.v 6) (.v 3)) (.m (.n (.v 4)) (.n (.v 5)))))) (.m (.v 1) (.m (.a (.m (.v 3) (.v 6)) (.n (.m (.v 4) (.v 5)))) (.a (.m (.v 3) (.v 6)) (.n (.m (.v 4) (.v 5)))))) (by decide +kernel)
 simp only [PE.den,List.getD_cons_zero,List.getD_cons_succ] at h
 try simp only [Int.sub_eq_add_neg]
 exact h

theorem qf_inv_c (a b c p q r s:Int):(a*(p*p)+b*(p*r)+c*(r*r))*((-q)*(-q))+(2*(a*(p*q)+c*(r*s))+b*(p*s+q*r))*((-q)*p)+(a*(q*q)+b*(q*s)+c*(s*s))*(p*p)=c*((p*s-q*r)*(p*s-q*r)):=by
 have h:=PE.same [a,b,c,p,q,r,s] (.a (.a (.m (.a (.a (.m (.v 0) (.m (.v 3) (.v 3))) (.m (.v 1) (.m (.v 3) (.v 5)))) (.m (.v 2) (.m (.v 5) (.v 5)))) (.m (.n (.v 4)) (.n (.v 4)))) (.m (.a (.m (.c 2) (.a (.m (.v 0) (.m (.v 3) (.v 4))) (.m (.v 2) (.m (.v 5) (.v 6))))) (.m (.v 1) (.a (.m (.v 3) (.v 6)) (.m (.v 4) (.v 5))))) (.m (.n (.v 4)) (.v 3)))) (.m (.a (.a (.m (.v 0) (.m (.v 4) (.v 4))) (.m (.v 1) (.m (.v 4) (.v 6)))) (.m (.v 2) (.m (.v 6) (.v 6)))) (.m (.v 3) (.v 3)))) (.m (.v 2) (.m (.a (.m (.v 3) (.v 6)) (.n (.m (.v 4) (.v 5)))) (.a (.m (.v 3) (.v 6)) (.n (.m (.v 4) (.v 5)))))) (by decide +kernel)
 simp only [PE.den,List.getD_cons_zero,List.getD_cons_succ] at h
 try simp only [Int.sub_eq_add_neg]
 exact h

theorem qf_mul_a (a b c p q r s t v:Int):(a*(p*p)+b*(p*r)+c*(r*r))*(t*t)+(2*(a*(p*q)+c*(r*s))+b*(p*s+q*r))*(t*v)+(a*(q*q)+b*(q*s)+c*(s*s))*(v*v)=a*((p*t+q*v)*(p*t+q*v))+b*((p*t+q*v)*(r*t+s*v))+c*((r*t+s*v)*(r*t+s*v)):=by
 have h:=PE.same [a,b,c,p,q,r,s,t,v] (.a (.a (.m (.a (.a (.m (.v 0) (.m (.v 3) (.v 3))) (.m (.v 1) (.m (.v 3) (.v 5)))) (.m (.v 2) (.m (.v 5) (.v 5)))) (.m (.v 7) (.v 7))) (.m (.a (.m (.c 2) (.a (.m (.v 0) (.m (.v 3) (.v 4))) (.m (.v 2) (.m (.v 5) (.v 6))))) (.m (.v 1) (.a (.m (.v 3) (.v 6)) (.m (.v 4) (.v 5))))) (.m (.v 7) (.v 8)))) (.m (.a (.a (.m (.v 0) (.m (.v 4) (.v 4))) (.m (.v 1) (.m (.v 4) (.v 6)))) (.m (.v 2) (.m (.v 6) (.v 6)))) (.m (.v 8) (.v 8)))) (.a (.a (.m (.v 0) (.m (.a (.m (.v 3) (.v 7)) (.m (.v 4) (.v 8))) (.a (.m (.v 3) (.v 7)) (.m (.v 4) (.v 8))))) (.m (.v 1) (.m (.a (.m (.v 3) (.v 7)) (.m (.v 4) (.v 8))) (.a (.m (.v 5) (.v 7)) (.m (.v 6) (.v 8)))))) (.m (.v 2) (.m (.a (.m (.v 5) (.v 7)) (.m (.v 6) (.v 8))) (.a (.m (.v 5) (.v 7)) (.m (.v 6) (.v 8)))))) (by decide +kernel)
 simp only [PE.den,List.getD_cons_zero,List.getD_cons_succ] at h
 try simp only [Int.sub_eq_add_neg]
 exact h

theorem qf_mul_b (a b c p q r s t u v w:Int):2*((a*(p*p)+b*(p*r)+c*(r*r))*(t*u)+(a*(q*q)+b*(q*s)+c*(s*s))*(v*w))+(2*(a*(p*q)+c*(r*s))+b*(p*s+q*r))*(t*w+u*v)=2*(a*((p*t+q*v)*(p*u+q*w))+c*((r*t+s*v)*(r*u+s*w)))+b*((p*t+q*v)*(r*u+s*w)+(p*u+q*w)*(r*t+s*v)):=by
 have h:=PE.same [a,b,c,p,q,r,s,t,u,v,w] (.a (.m (.c 2) (.a (.m (.a (.a (.m (.v 0) (.m (.v 3) (.v 3))) (.m (.v 1) (.m (.v 3) (.v 5)))) (.m (.v 2) (.m (.v 5) (.v 5)))) (.m (.v 7) (.v 8))) (.m (.a (.a (.m (.v 0) (.m (.v 4) (.v 4))) (.m (.v 1) (.m (.v 4) (.v 6)))) (.m (.v 2) (.m (.v 6) (.v 6)))) (.m (.v 9) (.v 10))))) (.m (.a (.m (.c 2) (.a (.m (.v 0) (.m (.v 3) (.v 4))) (.m (.v 2) (.m (.v 5) (.v 6))))) (.m (.v 1) (.a (.m (.v 3) (.v 6)) (.m (.v 4) (.v 5))))) (.a (.m (.v 7) (.v 10)) (.m (.v 8) (.v 9))))) (.a (.m (.c 2) (.a (.m (.v 0) (.m (.a (.m (.v 3) (.v 7)) (.m (.v 4) (.v 9))) (.a (.m (.v 3) (.v 8)) (.m (.v 4) (.v 10))))) (.m (.v 2) (.m (.a (.m (.v 5) (.v 7)) (.m (.v 6) (.v 9))) (.a (.m (.v 5) (.v 8)) (.m (.v 6) (.v 10))))))) (.m (.v 1) (.a (.m (.a (.m (.v 3) (.v 7)) (.m (.v 4) (.v 9))) (.a (.m (.v 5) (.v 8)) (.m (.v 6) (.v 10)))) (.m (.a (.m (.v 3) (.v 8)) (.m (.v 4) (.v 10))) (.a (.m (.v 5) (.v 7)) (.m (.v 6) (.v 9))))))) (by decide +kernel)
 simp only [PE.den,List.getD_cons_zero,List.getD_cons_succ] at h
 try simp only [Int.sub_eq_add_neg]
 exact h

theorem qf_mul_c (a b c p q r s u w:Int):(a*(p*p)+b*(p*r)+c*(r*r))*(u*u)+(2*(a*(p*q)+c*(r*s))+b*(p*s+q*r))*(u*w)+(a*(q*q)+b*(q*s)+c*(s*s))*(w*w)=a*((p*u+q*w)*(p*u+q*w))+b*((p*u+q*w)*(r*u+s*w))+c*((r*u+s*w)*(r*u+s*w)):=by
 have h:=PE.same [a,b,c,p,q,r,s,u,w] (.a (.a (.m (.a (.a (.m (.v 0) (.m (.v 3) (.v 3))) (.m (.v 1) (.m (.v 3) (.v 5)))) (.m (.v 2) (.m (.v 5) (.v 5)))) (.m (.v 7) (.v 7))) (.m (.a (.m (.c 2) (.a (.m (.v 0) (.m (.v 3) (.v 4))) (.m (.v 2) (.m (.v 5) (.v 6))))) (.m (.v 1) (.a (.m (.v 3) (.v 6)) (.m (.v 4) (.v 5))))) (.m (.v 7) (.v 8)))) (.m (.a (.a (.m (.v 0) (.m (.v 4) (.v 4))) (.m (.v 1) (.m (.v 4) (.v 6)))) (.m (.v 2) (.m (.v 6) (.v 6)))) (.m (.v 8) (.v 8)))) (.a (.a (.m (.v 0) (.m (.a (.m (.v 3) (.v 7)) (.m (.v 4) (.v 8))) (.a (.m (.v 3) (.v 7)) (.m (.v 4) (.v 8))))) (.m (.v 1) (.m (.a (.m (.v 3) (.v 7)) (.m (.v 4) (.v 8))) (.a (.m (.v 5) (.v 7)) (.m (.v 6) (.v 8)))))) (.m (.v 2) (.m (.a (.m (.v 5) (.v 7)) (.m (.v 6) (.v 8))) (.a (.m (.v 5) (.v 7)) (.m (.v 6) (.v 8)))))) (by decide +kernel)
 simp only [PE.den,List.getD_cons_zero,List.getD_cons_succ] at h
 try simp only [Int.sub_eq_add_neg]
 exact h

theorem qf_det (p q r s t u v w:Int):(p*t+q*v)*(r*u+s*w)-(p*u+q*w)*(r*t+s*v)=(p*s-q*r)*(t*w-u*v):=by
 have h:=PE.same [p,q,r,s,t,u,v,w] (.a (.m (.a (.m (.v 0) (.v 4)) (.m (.v 1) (.v 6))) (.a (.m (.v 2) (.v 5)) (.m (.v 3) (.v 7)))) (.n (.m (.a (.m (.v 0) (.v 5)) (.m (.v 1) (.v 7))) (.a (.m (.v 2) (.v 4)) (.m (.v 3) (.v 6)))))) (.m (.a (.m (.v 0) (.v 3)) (.n (.m (.v 1) (.v 2)))) (.a (.m (.v 4) (.v 7)) (.n (.m (.v 5) (.v 6))))) (by decide +kernel)
 simp only [PE.den,List.getD_cons_zero,List.getD_cons_succ] at h
 try simp only [Int.sub_eq_add_neg]
 exact h

theorem qf_four (a b c x y:Int):4*(a*(a*(x*x)+b*(x*y)+c*(y*y)))=(2*(a*x)+b*y)*(2*(a*x)+b*y)-(b*b-4*(a*c))*(y*y):=by
 have h:=PE.same [a,b,c,x,y] (.m (.c 4) (.m (.v 0) (.a (.a (.m (.v 0) (.m (.v 3) (.v 3))) (.m (.v 1) (.m (.v 3) (.v 4)))) (.m (.v 2) (.m (.v 4) (.v 4)))))) (.a (.m (.a (.m (.c 2) (.m (.v 0) (.v 3))) (.m (.v 1) (.v 4))) (.a (.m (.c 2) (.m (.v 0) (.v 3))) (.m (.v 1) (.v 4)))) (.n (.m (.a (.m (.v 1) (.v 1)) (.n (.m (.c 4) (.m (.v 0) (.v 2))))) (.m (.v 4) (.v 4))))) (by decide +kernel)
 simp only [PE.den,List.getD_cons_zero,List.getD_cons_succ] at h
 try simp only [Int.sub_eq_add_neg]
 exact h

theorem qf_four2 (a b c x y:Int):4*(c*(a*(x*x)+b*(x*y)+c*(y*y)))=(2*(c*y)+b*x)*(2*(c*y)+b*x)-(b*b-4*(a*c))*(x*x):=by
 have h:=PE.same [a,b,c,x,y] (.m (.c 4) (.m (.v 2) (.a (.a (.m (.v 0) (.m (.v 3) (.v 3))) (.m (.v 1) (.m (.v 3) (.v 4)))) (.m (.v 2) (.m (.v 4) (.v 4)))))) (.a (.m (.a (.m (.c 2) (.m (.v 2) (.v 4))) (.m (.v 1) (.v 3))) (.a (.m (.c 2) (.m (.v 2) (.v 4))) (.m (.v 1) (.v 3)))) (.n (.m (.a (.m (.v 1) (.v 1)) (.n (.m (.c 4) (.m (.v 0) (.v 2))))) (.m (.v 3) (.v 3))))) (by decide +kernel)
 simp only [PE.den,List.getD_cons_zero,List.getD_cons_succ] at h
 try simp only [Int.sub_eq_add_neg]
 exact h

def qv (a b c x y:Int):Int:=a*(x*x)+b*(x*y)+c*(y*y)
def qm (a b c p q r s:Int):Int:=2*(a*(p*q)+c*(r*s))+b*(p*s+q*r)
structure Rdf (a b c:Int):Prop where
 pos:0<a
 lo:-a<b
 hi:b≤a
 ac:a≤c
 eq:a=c→0≤b
theorem zV9 {a b z:Int} (h1:-a≤b) (h2:b≤a):-(a*(z.natAbs:Int))≤b*z:=by
 rcases Int.le_total 0 z with hz | hz
 ·have e:(z.natAbs:Int)=z:=by omega
  rw [e]
  have:=Int.mul_le_mul_of_nonneg_right h1 hz
  rw [Int.neg_mul] at this
  exact this
 ·have e:(z.natAbs:Int)=-z:=by omega
  rw [e,Int.mul_neg,Int.neg_neg]
  exact Int.mul_le_mul_of_nonpos_right h2 hz
theorem zD1 (x:Int):(x.natAbs:Int)*(x.natAbs:Int)=x*x:=by
 rcases Int.le_total 0 x with h | h
 ·have e:(x.natAbs:Int)=x:=by omega
  rw [e]
 ·have e:(x.natAbs:Int)=-x:=by omega
  rw [e,Int.neg_mul_neg]
theorem zM5 {a b c x y:Int} (h1:-a≤b) (h2:b≤a) (h3:a≤c) (h0:0<a) (hy:y≠0):c≤qv a b c x y:=by
 have k1:=zV9 (z:=x*y) h1 h2
 rw [Int.natAbs_mul,Int.natCast_mul] at k1
 have kx:=zD1 x
 have ky:=zD1 y
 unfold qv
 rw [← kx,← ky]
 obtain ⟨X,hX⟩:∃ X:Int,X=(x.natAbs:Int):=⟨_,rfl⟩
 obtain ⟨Y,hY⟩:∃ Y:Int,Y=(y.natAbs:Int):=⟨_,rfl⟩
 rw [← hX,← hY] at k1 ⊢
 have hX0:0≤X:=by omega
 have hY1:1≤Y:=by omega
 clear kx ky hX hY
 generalize b*(x*y)=t at k1 ⊢
 rcases Int.lt_or_le X Y with hl | hl
 ·-- X<Y
  have e1:a*(X*(Y-X))≤c*(X*(Y-X)):=Int.mul_le_mul_of_nonneg_right h3 (Int.mul_nonneg hX0 zm)
  have e2:c*1≤c*((Y-X)*Y+X*X):=by
   refine Int.mul_le_mul_of_nonneg_left ?_ zm
   have g1:1*1≤(Y-X)*Y:=Int.mul_le_mul zm hY1 zm zm
   have g2:0≤X*X:=Int.mul_nonneg hX0 hX0
   omega
  have e3:c*((Y-X)*Y+X*X)+c*(X*(Y-X))=c*(Y*Y):=by
   rw [← Int.mul_add]
   congr 1
   rw [Int.sub_mul,Int.mul_sub]
   omega
  have e4:a*(X*(Y-X))=a*(X*Y)-a*(X*X):=by rw [Int.mul_sub,Int.mul_sub]
  omega
 ·have e1:0≤a*(X*(X-Y)):=Int.mul_nonneg zm (Int.mul_nonneg hX0 zm)
  have e2:c*(1*1)≤c*(Y*Y):=Int.mul_le_mul_of_nonneg_left (Int.mul_le_mul hY1 hY1 zm zm) zm
  have e4:a*(X*(X-Y))=a*(X*X)-a*(X*Y):=by rw [Int.mul_sub,Int.mul_sub]
  omega
theorem zRo {a b c x y:Int} (h1:-a≤b) (h2:b≤a) (h3:a≤c) (h0:0<a) (hxy:¬ (x=0∧y=0)):a≤qv a b c x y:=by
 by_cases hy:y=0
 ·subst hy
  have hx:x≠0:=fun e=>hxy ⟨e,rfl⟩
  have k:=zD1 x
  unfold qv
  rw [Int.mul_zero,Int.mul_zero,Int.mul_zero,Int.mul_zero,← k]
  have e2:a*(1*1)≤a*((x.natAbs:Int)*(x.natAbs:Int)):=Int.mul_le_mul_of_nonneg_left (Int.mul_le_mul zm zm zm zm) zm
  omega
 ·exact Int.le_trans h3 (zM5 h1 h2 h3 h0 hy)
theorem zJc {p q r s:Int} (hd:p*s-q*r=1):¬ (p=0∧r=0):=by
 rintro ⟨rfl,rfl⟩
 rw [Int.zero_mul,Int.mul_zero] at hd
 omega
theorem zWa {p s:Int} (h:p*s=1):(p=1∧s=1)∨(p=-1∧s=-1):=by
 have h1:p.natAbs*s.natAbs=1:=by rw [← Int.natAbs_mul,h];rfl
 have h2:=Nat.eq_one_of_mul_eq_one_right h1
 have h3:=Nat.eq_one_of_mul_eq_one_left h1
 rcases Int.natAbs_eq_iff.1 h2 with e | e <;> rcases Int.natAbs_eq_iff.1 h3 with g | g <;> subst e g
 ·exact .inl ⟨rfl,rfl⟩
 ·exact absurd h zd
 ·exact absurd h zd
 ·exact .inr ⟨rfl,rfl⟩
theorem zW7 {a b c p q r s a' b' c':Int} (hf:Rdf a b c) (hg:Rdf a' b' c') (hd:p*s-q*r=1) (ea:a'=qv a b c p r) (eb:b'=qm a b c p q r s) (ec:c'=qv a b c q s):a'=a∧b'=b∧c'=c:=by
 have f1:-a≤b:=by have:=hf.lo;omega
 have g1:-a'≤b':=by have:=hg.lo;omega
 have ia:qv a' b' c' s (-r)=a:=by
  rw [ea,eb,ec]
  have:=zRn a b c p q r s
  rw [hd] at this
  simpa [qv,qm] using this
 have ha1:a≤a':=by rw [ea];exact zRo f1 hf.hi hf.ac hf.pos (zJc hd)
 have ha2:a'≤a:=by
  have hn:¬ (s=0∧-r=0):=by
   rintro ⟨rfl,h2⟩
   have:r=0:=by omega
   subst this
   rw [Int.mul_zero,Int.mul_zero] at hd
   omega
  have:=zRo g1 hg.hi hg.ac hg.pos hn
  omega
 have haa:a'=a:=by omega
 have dg:b'*b'-4*(a'*c')=b*b-4*(a*c):=by
  have:=zM4 a b c p q r s
  rw [hd,Int.one_mul,Int.mul_one] at this
  rw [ea,eb,ec]
  exact this
 by_cases hr:r=0
 ·subst hr
  rw [Int.mul_zero,Int.sub_zero] at hd
  have hb:b'=b+2*(a*(p*q)):=by
   rw [eb]
   unfold qm
   rw [Int.zero_mul,Int.mul_zero,Int.mul_zero,hd]
   omega
  have hq:q=0:=by
   have hlo:=hf.lo;have hhi:=hf.hi;have hlo':=hg.lo;have hhi':=hg.hi;have hp:=hf.pos
   rcases zWa hd with ⟨rfl,_⟩ | ⟨rfl,_⟩
   ·rw [Int.one_mul] at hb
    rcases Int.lt_trichotomy q 0 with h | h | h
    ·have:=Int.mul_le_mul_of_nonneg_left (show q≤-1 by omega) (show 0≤a by omega);omega
    ·exact h
    ·have:=Int.mul_le_mul_of_nonneg_left (show 1≤q by omega) (show 0≤a by omega);omega
   ·rw [Int.neg_mul,Int.one_mul,Int.mul_neg] at hb
    rcases Int.lt_trichotomy q 0 with h | h | h
    ·have:=Int.mul_le_mul_of_nonneg_left (show q≤-1 by omega) (show 0≤a by omega);omega
    ·exact h
    ·have:=Int.mul_le_mul_of_nonneg_left (show 1≤q by omega) (show 0≤a by omega);omega
  subst hq
  rw [Int.mul_zero,Int.mul_zero,Int.mul_zero,Int.add_zero] at hb
  refine ⟨haa,hb,?_⟩
  rw [haa,hb] at dg
  have h4:a*c'=a*c:=by omega
  exact Int.eq_of_mul_eq_mul_left (by have:=hf.pos;omega) h4
 ·have hc1:c≤a:=by
   have:=zM5 (x:=p) f1 hf.hi hf.ac hf.pos hr
   rw [← ea] at this
   omega
  have hc2:c'≤a:=by
   have:=zM5 (x:=s) (y:=-r) g1 hg.hi hg.ac hg.pos zm
   omega
  have h1:=hf.ac
  have h2:=hg.ac
  have hca:c=a:=by omega
  have hca':c'=a:=by omega
  have hb0:=hf.eq hca.symm
  have hb0':=hg.eq zm
  rw [haa,hca,hca'] at dg
  have hbb:b'*b'=b*b:=by omega
  have hb:b'=b:=by
   rcases Int.lt_trichotomy b' b with h | h | h
   ·have k1:=Int.mul_le_mul_of_nonneg_left (show b'≤b by omega) hb0';have k2:=Int.mul_lt_mul_of_pos_right h (show 0<b by omega);omega
   ·exact h
   ·have k1:=Int.mul_le_mul_of_nonneg_left (show b≤b' by omega) hb0;have k2:=Int.mul_lt_mul_of_pos_right h (show 0<b' by omega);omega
  exact ⟨haa,hb,by omega⟩
structure Und (a b c p q r s a' b' c':Int):Prop where
 d:p*s-q*r=1
 ea:a'=qv a b c p r
 eb:b'=qm a b c p q r s
 ec:c'=qv a b c q s
theorem Und.one (a b c:Int):Und a b c 1 0 0 1 a b c:=by
 refine ⟨by decide,?_,?_,?_⟩ <;> simp [qv,qm]
theorem Und.mul {a b c p q r s a' b' c' t u v w a'' b'' c'':Int} (h:Und a b c p q r s a' b' c') (g:Und a' b' c' t u v w a'' b'' c''):Und a b c (p*t+q*v) (p*u+q*w) (r*t+s*v) (r*u+s*w) a'' b'' c'':=by
 refine ⟨?_,?_,?_,?_⟩
 ·have:=qf_det p q r s t u v w
  rw [h.d,g.d] at this
  exact this
 ·rw [g.ea,h.ea,h.eb,h.ec];exact qf_mul_a a b c p q r s t v
 ·rw [g.eb,h.ea,h.eb,h.ec];exact qf_mul_b a b c p q r s t u v w
 ·rw [g.ec,h.ea,h.eb,h.ec];exact qf_mul_c a b c p q r s u w
theorem Und.disc {a b c p q r s a' b' c':Int} (h:Und a b c p q r s a' b' c'):b'*b'-4*(a'*c')=b*b-4*(a*c):=by
 have:=zM4 a b c p q r s
 rw [h.d,Int.one_mul,Int.mul_one] at this
 rw [h.ea,h.eb,h.ec]
 exact this
theorem Und.back {a b c p q r s a' b' c':Int} (h:Und a b c p q r s a' b' c'):Und a' b' c' s (-q) (-r) p a b c:=by
 have d2:=h.d
 refine ⟨?_,?_,?_,?_⟩
 ·rw [Int.neg_mul_neg,Int.mul_comm s p];exact d2
 ·have:=zRn a b c p q r s
  rw [d2] at this
  rw [h.ea,h.eb,h.ec]
  simpa [qv,qm] using this.symm
 ·have:=qf_inv_b a b c p q r s
  rw [d2] at this
  rw [h.ea,h.eb,h.ec]
  simpa [qv,qm] using this.symm
 ·have:=qf_inv_c a b c p q r s
  rw [d2] at this
  rw [h.ea,h.eb,h.ec]
  simpa [qv,qm] using this.symm
theorem Und.uniq {a b c p q r s a' b' c':Int} (h:Und a b c p q r s a' b' c') (hf:Rdf a b c) (hg:Rdf a' b' c'):a'=a∧b'=b∧c'=c:=zW7 hf hg h.d h.ea h.eb h.ec
theorem Und.same {a b c p q r s a1 b1 c1 t u v w a2 b2 c2:Int} (h:Und a b c p q r s a1 b1 c1) (g:Und a b c t u v w a2 b2 c2) (h1:Rdf a1 b1 c1) (h2:Rdf a2 b2 c2):a2=a1∧b2=b1∧c2=c1:=(h.back.mul g).uniq h1 h2
theorem Und.shift (a b c k:Int):Und a b c 1 k 0 1 a (b+2*(a*k)) (a*(k*k)+b*k+c):=by
 refine ⟨by simp,?_,?_,?_⟩ <;> simp [qv,qm]
 omega
theorem Und.swap (a b c:Int):Und a b c 0 (-1) 1 0 c (-b) a:=by
 refine ⟨by decide,?_,?_,?_⟩ <;> simp [qv,qm]
def redB (a b c:Int):Bool:=decide (((b.natAbs:Int)≤a∧a≤c)∧(((b.natAbs:Int)=a∨a=c)→0≤b))
theorem zE0 {a b c:Int} (h0:0<a):redB a b c=true ↔ Rdf a b c:=by
 simp only [redB,decide_eq_true_eq]
 constructor
 ·rintro ⟨⟨h1,h2⟩,h3⟩
  refine ⟨h0,?_,by omega,h2,fun e=>h3 (.inr e)⟩
  by_cases hb:0≤b
  ·omega
  ·have:¬ (b.natAbs:Int)=a:=fun e=>hb (h3 (.inl e))
   omega
 ·intro h
  have:=h.lo;have:=h.hi
  refine ⟨⟨by omega,h.ac⟩,?_⟩
  rintro (e | e)
  ·omega
  ·exact h.eq e
theorem zR6 {a b:Int} (h0:0<a):-a<b+2*(a*((a-b)/(2*a)))∧b+2*(a*((a-b)/(2*a)))≤a:=by
 have h1:=Int.mul_ediv_add_emod (a-b) (2*a)
 have h2:=Int.emod_nonneg (a-b) (show 2*a≠0 by omega)
 have h3:=Int.emod_lt_of_pos (a-b) (show 0<2*a by omega)
 rw [Int.mul_assoc] at h1
 omega
theorem zNp {a b c:Int} (h0:0<a) (h1:-a<b) (h2:b≤a) (hr:¬ Rdf a b c):c<a∨(c=a∧b<0∧Rdf c (-b) a):=by
 by_cases hc:c<a
 ·exact .inl hc
 ·right
  by_cases he:a=c
  ·by_cases hb:0≤b
   ·exact absurd ⟨h0,h1,h2,by omega,fun _=>hb⟩ hr
   ·exact ⟨he.symm,by omega,by omega,by omega,by omega,by omega,fun _=>by omega⟩
  ·exact absurd ⟨h0,h1,h2,by omega,fun e=>absurd e he⟩ hr
theorem zJ3 {a b c:Int} (h0:0<a) (hd:b*b-4*(a*c)<0):0<c:=by
 have hb:0≤b*b:=by rw [← zD1 b];exact Int.mul_nonneg zm zm
 rcases Int.lt_or_le 0 c with h | h
 ·exact h
 ·have:=Int.mul_nonneg_of_nonpos_of_nonpos (show -a≤0 by omega) h
  rw [Int.neg_mul] at this
  omega
theorem zE4 (x:Int):0≤x*x:=by rw [← zD1 x];exact Int.mul_nonneg zm zm
theorem four_y {a b c x y:Int} (hd:b*b-4*(a*c)<0):y*y≤4*(a*qv a b c x y):=by
 unfold qv
 rw [qf_four]
 have h1:=zE4 (2*(a*x)+b*y)
 have h2:=Int.mul_le_mul_of_nonneg_right (show 1≤-(b*b-4*(a*c)) by omega) (zE4 y)
 rw [Int.one_mul,Int.neg_mul] at h2
 omega
theorem four_x {a b c x y:Int} (hd:b*b-4*(a*c)<0):x*x≤4*(c*qv a b c x y):=by
 unfold qv
 rw [qf_four2]
 have h1:=zE4 (2*(c*y)+b*x)
 have h2:=Int.mul_le_mul_of_nonneg_right (show 1≤-(b*b-4*(a*c)) by omega) (zE4 x)
 rw [Int.one_mul,Int.neg_mul] at h2
 omega
theorem Und.bds {a b c p q r s a' b' c':Int} (h:Und a b c p q r s a' b' c') (hd:b*b-4*(a*c)<0):p*p≤4*(c*a')∧q*q≤4*(c*c')∧r*r≤4*(a*a')∧s*s≤4*(a*c'):=by
 rw [h.ea,h.ec]
 exact ⟨four_x hd,four_x hd,four_y hd,four_y hd⟩
theorem qv_pos {a b c x y:Int} (h0:0<a) (hd:b*b-4*(a*c)<0) (hn:¬ (x=0∧y=0)):0<qv a b c x y:=by
 have hy:=four_y (x:=x) (y:=y) hd
 have hx:=four_x (x:=x) (y:=y) hd
 have hc:=zJ3 h0 hd
 rcases Int.lt_or_le 0 (qv a b c x y) with h | h
 ·exact h
 ·exfalso
  have e1:=Int.mul_nonneg_of_nonpos_of_nonpos (show -a≤0 by omega) h
  have e2:=Int.mul_nonneg_of_nonpos_of_nonpos (show -c≤0 by omega) h
  rw [Int.neg_mul] at e1 e2
  have sx:=zE4 x
  have sy:=zE4 y
  refine hn ⟨?_,?_⟩
  ·exact (Int.mul_eq_zero.1 (show x*x=0 by omega)).elim id id
  ·exact (Int.mul_eq_zero.1 (show y*y=0 by omega)).elim id id
theorem Und.pos {a b c p q r s a' b' c':Int} (h:Und a b c p q r s a' b' c') (h0:0<a) (hd:b*b-4*(a*c)<0):0<a':=by
 rw [h.ea]
 exact qv_pos h0 hd (zJc h.d)
theorem last_le {a b c:Int} (h0:0<a) (h1:-a≤b) (h2:b≤a) (hd:b*b-4*(a*c)<0):c≤a*a-(b*b-4*(a*c)):=by
 have hb:b*b≤a*a:=by
  rw [← zD1 b]
  exact Int.mul_le_mul zm zm zm zm
 have hc:=zJ3 h0 hd
 have h3:=Int.mul_le_mul_of_nonneg_right (show 1≤a by omega) (show 0≤c by omega)
 omega

section
variable {w : World} {v : Value} {n : Bool} {a : Option Addr} {k c : Nat} {xs : List Int} {m : Bool} {r : Option Addr} {l q : Nat} {ys : List Int}

end

theorem zJi:En 100:=zAe Tryz.func100 (by kernel_rfl) rfl
theorem zFj:En 25:=zAe Tryz.func25 (by kernel_rfl) rfl
theorem zGu:En 50:=zAe Tryz.func50 (by kernel_rfl) rfl
theorem zOm:En 92:=zAe Tryz.func92 (by kernel_rfl) rfl
theorem zLf:En 94:=zAe Tryz.func94 (by kernel_rfl) rfl
theorem zOo:En 98:=zAe Tryz.func98 (by kernel_rfl) rfl
theorem zTf:En 46:=zAe Tryz.func46 (by kernel_rfl) rfl
theorem zOn:En 77:=zAe Tryz.func77 (by kernel_rfl) rfl
theorem zTh:En 10:=zAe Tryz.func10 (by kernel_rfl) rfl
theorem zTi:En 31:=zAe Tryz.func31 (by kernel_rfl) rfl
theorem zGv:En 45:=zAe Tryz.func45 (by kernel_rfl) rfl
theorem zLe:En 76:=zAe Tryz.func76 (by kernel_rfl) rfl
theorem zJj:En 126:=zAe Tryz.func126 (by kernel_rfl) rfl
theorem zF5:En 97:=zAe Tryz.func97 (by kernel_rfl) rfl
theorem zTg:En 128:=zAe Tryz.func128 (by kernel_rfl) rfl
theorem zD7:En 130:=zAe Tryz.func130 (by kernel_rfl) rfl
theorem zAd:rowB 38 6=true:=by kernel_rfl
theorem zAo:zDg 38 6=true:=by kernel_rfl
theorem zAu (w:World):Fits w [.n 0,.n 0,.n 0] [.bool false,.slice none 0 0,.bool false,.slice none 0 0,.bool false,.slice none 0 0]:=⟨_,_,_,rfl,Num.zero w,_,_,_,rfl,Num.zero w,_,_,_,rfl,Num.zero w,rfl⟩
theorem zVz (w:World):(f3 0 0 0).P (.agg ([.bool false,.slice none 0 0,.bool false,.slice none 0 0,.bool false,.slice none 0 0]:List Value).toArray) w:=⟨_,rfl,zAu w⟩
theorem zB0 {d:Option Tmp} {ty:TypeId} {ps:String} {af:Array Edge} (ρ:Operand→Value) (w:World):(execOp ρ { dst:=d,op:=.alloc 38,type:=ty,pos:=ps,after:=af,guard:=none }).run Tryz.prog w=.ok (.value (.pointer (some ⟨w.heap.size,0,none⟩))) (w.alloc (.cells [.bool false,.slice none 0 0,.bool false,.slice none 0 0,.bool false,.slice none 0 0].toArray 38)):=by
 simp [execOp,go_sem]
theorem zE1:rowB 67 8=true:=by kernel_rfl
theorem zEe:zDg 67 8=true:=by kernel_rfl
theorem zEl (w:World):Fits w [.n 0,.n 0,.n 0,.n 0] [.bool false,.slice none 0 0,.bool false,.slice none 0 0,.bool false,.slice none 0 0,.bool false,.slice none 0 0]:=⟨_,_,_,rfl,Num.zero w,_,_,_,rfl,Num.zero w,_,_,_,rfl,Num.zero w,_,_,_,rfl,Num.zero w,rfl⟩
theorem zPo (w:World):(Fq.st [.n 0,.n 0,.n 0,.n 0]).P (.agg ([.bool false,.slice none 0 0,.bool false,.slice none 0 0,.bool false,.slice none 0 0,.bool false,.slice none 0 0]:List Value).toArray) w:=⟨_,rfl,zEl w⟩
theorem zM7 {d:Option Tmp} {ty:TypeId} {ps:String} {af:Array Edge} (ρ:Operand→Value) (w:World):(execOp ρ { dst:=d,op:=.alloc 67,type:=ty,pos:=ps,after:=af,guard:=none }).run Tryz.prog w=.ok (.value (.pointer (some ⟨w.heap.size,0,none⟩))) (w.alloc (.cells [.bool false,.slice none 0 0,.bool false,.slice none 0 0,.bool false,.slice none 0 0,.bool false,.slice none 0 0].toArray 67)):=by
 simp [execOp,go_sem]
def eqF (a b c x y z:Int):Bool:=decide (a=x) && (decide (b=y) && decide (c=z))
def cont (a b c:Int):Int:=(Int.gcd (Int.gcd a b:Int) c:Int)
section
variable {os : List Oper} {Q : Exit → Act → World → Prop} {a : Act} {p : Pq} {B B0 : Nat} {w0 : World}
variable {i s : Nat} {d : Option Tmp} {ty : TypeId} {ps : String} {af : Array Edge} {gd : Option (Nat × Bool)}
theorem zFo {x0:Operand} {z0:Int} {x1:Operand} {z1:Int} {x2:Operand} {z2:Int} (hp:p.Ok B B0) (hF:p.Free i) (hg:GdQ os a p B B0 w0 af gd) (h0:SrcQ os a p B B0 w0 af x0 fun v w=>Num w v z0) (h1:SrcQ os a p B B0 w0 af x1 fun v w=>Num w v z1) (h2:SrcQ os a p B B0 w0 af x2 fun v w=>Num w v z2) (hC:∀ v w,(f3 z0 z1 z2).P v w→(p.c i).P v w) :
  zAg os Q a p B B0 w0 i { dst:=d,op:=.build 38 #[(0,x0),(1,x1),(2,x2)],type:=ty,pos:=ps,after:=af,guard:=gd }:=by
 refine zBg hp hF hg fun L vs w hG hL hc hd=>?_
 have g0:=h0 L vs w hG hd
 obtain ⟨n0,ao0,k0,c0,e0⟩:=g0.parts
 have m0:Num w (.agg #[.bool n0,.slice ao0 k0 c0]) z0:=by rw [← e0];exact g0
 have g1:=h1 L vs w hG hd
 obtain ⟨n1,ao1,k1,c1,e1⟩:=g1.parts
 have m1:Num w (.agg #[.bool n1,.slice ao1 k1 c1]) z1:=by rw [← e1];exact g1
 have g2:=h2 L vs w hG hd
 obtain ⟨n2,ao2,k2,c2,e2⟩:=g2.parts
 have m2:Num w (.agg #[.bool n2,.slice ao2 k2 c2]) z2:=by rw [← e2];exact g2
 refine ⟨.agg #[.bool n0,.slice ao0 k0 c0,.bool n1,.slice ao1 k1 c1,.bool n2,.slice ao2 k2 c2],?_,hC _ _ ⟨_,rfl,_,_,_,rfl,m0,_,_,_,rfl,m1,_,_,_,rfl,m2,rfl⟩⟩
 generalize (lay os.toArray L vs os.toArray.size a).eval=ρ at e0 e1 e2
 simp [execOp,go_sem,e0,e1,e2]
theorem zM1 {x0:Operand} {z0:Int} {x1:Operand} {z1:Int} {x2:Operand} {z2:Int} {x3:Operand} {z3:Int} (hp:p.Ok B B0) (hF:p.Free i) (hg:GdQ os a p B B0 w0 af gd) (h0:SrcQ os a p B B0 w0 af x0 fun v w=>Num w v z0) (h1:SrcQ os a p B B0 w0 af x1 fun v w=>Num w v z1) (h2:SrcQ os a p B B0 w0 af x2 fun v w=>Num w v z2) (h3:SrcQ os a p B B0 w0 af x3 fun v w=>Num w v z3) (hC:∀ v w,(Fq.st [.n z0,.n z1,.n z2,.n z3]).P v w→(p.c i).P v w) :
  zAg os Q a p B B0 w0 i { dst:=d,op:=.build 67 #[(0,x0),(1,x1),(2,x2),(3,x3)],type:=ty,pos:=ps,after:=af,guard:=gd }:=by
 refine zBg hp hF hg fun L vs w hG hL hc hd=>?_
 have g0:=h0 L vs w hG hd
 obtain ⟨n0,ao0,k0,c0,e0⟩:=g0.parts
 have m0:Num w (.agg #[.bool n0,.slice ao0 k0 c0]) z0:=by rw [← e0];exact g0
 have g1:=h1 L vs w hG hd
 obtain ⟨n1,ao1,k1,c1,e1⟩:=g1.parts
 have m1:Num w (.agg #[.bool n1,.slice ao1 k1 c1]) z1:=by rw [← e1];exact g1
 have g2:=h2 L vs w hG hd
 obtain ⟨n2,ao2,k2,c2,e2⟩:=g2.parts
 have m2:Num w (.agg #[.bool n2,.slice ao2 k2 c2]) z2:=by rw [← e2];exact g2
 have g3:=h3 L vs w hG hd
 obtain ⟨n3,ao3,k3,c3,e3⟩:=g3.parts
 have m3:Num w (.agg #[.bool n3,.slice ao3 k3 c3]) z3:=by rw [← e3];exact g3
 refine ⟨.agg #[.bool n0,.slice ao0 k0 c0,.bool n1,.slice ao1 k1 c1,.bool n2,.slice ao2 k2 c2,.bool n3,.slice ao3 k3 c3],?_,hC _ _ ⟨_,rfl,_,_,_,rfl,m0,_,_,_,rfl,m1,_,_,_,rfl,m2,_,_,_,rfl,m3,rfl⟩⟩
 generalize (lay os.toArray L vs os.toArray.size a).eval=ρ at e0 e1 e2 e3
 simp [execOp,go_sem,e0,e1,e2,e3]
end
theorem zF9 {w:World} {v v' u u':Value} {a b c d:Int} (h:Num w v a) (h':Num w v' b) (g:Num w u c) (g':Num w u' d) (ha:ab a<pw 200) (hb:ab b<pw 200) (hc:ab c<pw 200) (hd:ab d<pw 200) :
  Rt 97 #[v,v',u,u'] w fun v' w'=>Num w' v' ((a*b)+(c*d)):=by
 replace ha:=hidd ha
 replace hb:=hidd hb
 replace hc:=hidd hc
 replace hd:=hidd hd
 obtain ⟨n0,ao0,k0,c0,rfl⟩:=h.parts
 obtain ⟨n1,ao1,k1,c1,rfl⟩:=h'.parts
 obtain ⟨n2,ao2,k2,c2,rfl⟩:=g.parts
 obtain ⟨n3,ao3,k3,c3,rfl⟩:=g'.parts
 obtain ⟨w1,b1,hw1,hb1,hs1,E⟩:=gN w 36 h
 obtain ⟨w2,b2,hw2,hb2,hs2,E⟩:=fN E hs1 36 h'
 obtain ⟨w3,b3,hw3,hb3,hs3,E⟩:=zC8 E hs2 (F:=Fq.num c) (us:=[.bool n2,.slice ao2 k2 c2]) 36 rfl (by simp) (zB8 _ _ _ _) (g.mono E.below)
 obtain ⟨w4,b4,hw4,hb4,hs4,E⟩:=zC8 E hs3 (F:=Fq.num d) (us:=[.bool n3,.slice ao3 k3 c3]) 36 rfl (by simp) (zB8 _ _ _ _) (g'.mono E.below)
 obtain ⟨w5,b5,hw5,hb5,hs5,E⟩:=fZ E hs4 36
 go_enter Tryz.func97,Tryz.ntmps97
 go_upto_region 1 with (fail)
 rw [← hw1,← hw2]
 rw [← hw3,← hw4]
 rw [← hw5,← hb5]
 rw [← hb4,← hb3]
 rw [← hb2,← hb1]
 clear hw1 hw2 hw3 hw4 hw5 hb1 hb2 hb3 hb4 hb5 hs5 hs1 hs2 hs3 hs4
 have B6:Hid (ab ((a*b))<pw 400):=zAm ha.out hb.out zm
 have B7:Hid (ab ((c*d))<pw 400):=zAm hc.out hd.out zm
 have B8:Hid (ab (((a*b)+(c*d)))<pw 401):=zBd B6.out B7.out zm zm
 refine rz [.n a,.n b,.n (a*b),.n c,.n d,.n (c*d),.n ((a*b)+(c*d)),.a] [some (7,Fq.num ((a*b)+(c*d))),none,none,none,none] [] E (fun hp=>⟨lI 0 hp (mq 4 rfl) zw,lI 0 hp (mq 3 rfl) zw,zC hp zDj zi zi fun v v' w h h'=>exK (zDb h h') B6.out zm,lI 0 hp (mq 2 rfl) zw,lI 0 hp (mq 1 rfl) zw,zC hp zDj zi zi fun v v' w h h'=>exK (zDb h h') B7.out zm,zC hp zJh zi zi fun v v' w h h'=>exK (zFg h h') B8.out zm,sP 6 hp (mq 0 rfl) zw,tv⟩) ?_
 intro w9 E _ _
 simp only [Z1] at E ⊢
 obtain ⟨p0_0,p0_1,c0_0,c0_1,hP0⟩:=zCg (E.box 0 rfl)
 clear B6 B7 B8 ha hb hc hd
 go_wp2
 exact zR (v:=.agg #[p0_0,p0_1]) (by simp [results,Tryz.results97,go_sem,c0_0,c0_1]) E.below hP0

theorem exQDisc0 {w:World} {v:Value} {a b c:Int} (h:(f3 a b c).P v w) (ha:ab a<pw 60) (hb:ab b<pw 60) (hc:ab c<pw 60) :
  Rt 50 #[v] w fun v' w'=>Num w' v' (((b*b)+(((-4)*a)*c))):=by
 replace ha:=hidd ha
 replace hb:=hidd hb
 replace hc:=hidd hc
 obtain ⟨y0_p0,y0_q0,y0_p1,y0_q1,y0_p2,y0_q2,rfl,hF0⟩:=o3 h
 obtain ⟨w1,b1,hw1,hb1,hs1,E⟩:=gS w 38 hF0
 obtain ⟨w2,b2,hw2,hb2,hs2,E⟩:=fZ E hs1 36
 go_enter Tryz.func50,Tryz.ntmps50
 go_upto_region 1 with (fail)
 rw [← hw1,← hw2]
 rw [← hb2,← hb1]
 clear hw1 hw2 hb1 hb2 hs2 hs1
 have B3:Hid (ab ((-4))<pw 3):=zB3 zd
 have B4:Hid (ab (((-4)*a))<pw 63):=zAm B3.out ha.out zm
 have B5:Hid (ab ((b*b))<pw 120):=zAm hb.out hb.out zm
 have B6:Hid (ab ((((-4)*a)*c))<pw 123):=zAm B4.out hc.out zm
 have B7:Hid (ab (((b*b)+(((-4)*a)*c)))<pw 124):=zBd B5.out B6.out zm zm
 refine rz [.p b1 2,.n b,.p b1 2,.n b,.n (-4),.p b1 0,.n a,.n ((-4)*a),.p b1 4,.n c,.n ((b*b)+(((-4)*a)*c)),.a] [some (11,Fq.num ((b*b)+(((-4)*a)*c))),none] [] E (fun hp=>⟨qa b1 0 2 hp zw,lN 2 2 hp (mq 1 rfl) zAb zi,qa b1 0 2 hp zw,lN 2 2 hp (mq 1 rfl) zAb zi,zBn (F:=(Fq.is (.int .i64 (-4))).P) hp fo tv (zCy) (zAk (fun _=>rfl)) (fun v w h=>(by subst h;exact rOfK w (-4) zm zm)),qa b1 0 0 hp zw,lN 0 2 hp (mq 1 rfl) zAb zi,zC hp zDj zi zi fun v v' w h h'=>exK (zDb h h') B4.out zm,qa b1 0 4 hp zw,lN 4 2 hp (mq 1 rfl) zAb zi,zD0 (F:=(Fq.num b).P) (G:=(Fq.num b).P) (F3:=(Fq.num ((-4)*a)).P) (F4:=(Fq.num c).P) hp fo tv (zF5) (sqi 1) (sqi 3) (sqi 7) (sqi 9) (fun v v' u u' w h h' g g'=>zF9 h h' g g' (Int.lt_of_lt_of_le hb.out (zAa zm)) (Int.lt_of_lt_of_le hb.out (zAa zm)) (Int.lt_of_lt_of_le B4.out (zAa zm)) (Int.lt_of_lt_of_le hc.out (zAa zm))),sP 10 hp (mq 0 rfl) zw,tv⟩) ?_
 intro w8 E _ _
 simp only [Z1] at E ⊢
 obtain ⟨p0_0,p0_1,c0_0,c0_1,hP0⟩:=zCg (E.box 0 rfl)
 clear B3 B4 B5 B6 B7 ha hb hc
 go_wp2
 exact zR (v:=.agg #[p0_0,p0_1]) (by simp [results,Tryz.results50,go_sem,c0_0,c0_1]) E.below hP0

theorem zG1 {w:World} {v:Value} {a b c:Int} (h:(f3 a b c).P v w) (ha:ab a<pw 60) (hb:ab b<pw 60) (hc:ab c<pw 60) :
  Rt 50 #[v] w fun v' w'=>Num w' v' (b*b-4*(a*c)):=by
 have e:b*b-4*(a*c)=((b*b)+(((-4)*a)*c)):=by rw [Int.mul_assoc,Int.neg_mul];omega
 rw [e]
 exact exQDisc0 h ha hb hc

theorem exQValue0 {w:World} {v v' u:Value} {a b c x y:Int} (h:(f3 a b c).P v w) (h':Num w v' x) (g:Num w u y) (ha:ab a<pw 60) (hb:ab b<pw 60) (hc:ab c<pw 60) (hx:ab x<pw 60) (hy:ab y<pw 60) :
  Rt 98 #[v,v',u] w fun v' w'=>Num w' v' (((x*((a*x)+(b*y)))+(c*(y*y)))):=by
 replace ha:=hidd ha
 replace hb:=hidd hb
 replace hc:=hidd hc
 replace hx:=hidd hx
 replace hy:=hidd hy
 obtain ⟨y0_p0,y0_q0,y0_p1,y0_q1,y0_p2,y0_q2,rfl,hF0⟩:=o3 h
 obtain ⟨n1,ao1,k1,c1,rfl⟩:=h'.parts
 obtain ⟨n2,ao2,k2,c2,rfl⟩:=g.parts
 obtain ⟨w1,b1,hw1,hb1,hs1,E⟩:=gS w 38 hF0
 obtain ⟨w2,b2,hw2,hb2,hs2,E⟩:=fN E hs1 36 h'
 obtain ⟨w3,b3,hw3,hb3,hs3,E⟩:=zC8 E hs2 (F:=Fq.num y) (us:=[.bool n2,.slice ao2 k2 c2]) 36 rfl (by simp) (zB8 _ _ _ _) (g.mono E.below)
 obtain ⟨w4,b4,hw4,hb4,hs4,E⟩:=fZ E hs3 36
 go_enter Tryz.func98,Tryz.ntmps98
 go_upto_region 1 with (fail)
 rw [← hw1,← hw2]
 rw [← hw3,← hw4]
 rw [← hb4,← hb3]
 rw [← hb2,← hb1]
 clear hw1 hw2 hw3 hw4 hb1 hb2 hb3 hb4 hs4 hs1 hs2 hs3
 have B5:Hid (ab ((a*x))<pw 120):=zAm ha.out hx.out zm
 have B6:Hid (ab ((b*y))<pw 120):=zAm hb.out hy.out zm
 have B7:Hid (ab (((a*x)+(b*y)))<pw 121):=zBd B5.out B6.out zm zm
 have B8:Hid (ab ((x*((a*x)+(b*y))))<pw 181):=zAm hx.out B7.out zm
 have B9:Hid (ab ((y*y))<pw 120):=zAm hy.out hy.out zm
 have B10:Hid (ab ((c*(y*y)))<pw 180):=zAm hc.out B9.out zm
 have B11:Hid (ab (((x*((a*x)+(b*y)))+(c*(y*y))))<pw 182):=zBd B8.out B10.out zm zm
 refine rz [.n x,.p b1 0,.n a,.n x,.p b1 2,.n b,.n y,.n ((a*x)+(b*y)),.n (x*((a*x)+(b*y))),.p b1 4,.n c,.n y,.n y,.n (y*y),.n (c*(y*y)),.n ((x*((a*x)+(b*y)))+(c*(y*y))),.a] [some (16,Fq.num ((x*((a*x)+(b*y)))+(c*(y*y)))),none,none,none] [] E (fun hp=>⟨lI 0 hp (mq 2 rfl) zw,qa b1 0 0 hp zw,lN 0 2 hp (mq 3 rfl) zAb zi,lI 0 hp (mq 2 rfl) zw,qa b1 0 2 hp zw,lN 2 2 hp (mq 3 rfl) zAb zi,lI 0 hp (mq 1 rfl) zw,zD0 (F:=(Fq.num a).P) (G:=(Fq.num x).P) (F3:=(Fq.num b).P) (F4:=(Fq.num y).P) hp fo tv (zF5) (sqi 2) (sqi 3) (sqi 5) (sqi 6) (fun v v' u u' w h h' g g'=>zF9 h h' g g' (Int.lt_of_lt_of_le ha.out (zAa zm)) (Int.lt_of_lt_of_le hx.out (zAa zm)) (Int.lt_of_lt_of_le hb.out (zAa zm)) (Int.lt_of_lt_of_le hy.out (zAa zm))),zC hp zDj zi zi fun v v' w h h'=>exK (zDb h h') B8.out zm,qa b1 0 4 hp zw,lN 4 2 hp (mq 3 rfl) zAb zi,lI 0 hp (mq 1 rfl) zw,lI 0 hp (mq 1 rfl) zw,zC hp zDj zi zi fun v v' w h h'=>exK (zDb h h') B9.out zm,zC hp zDj zi zi fun v v' w h h'=>exK (zDb h h') B10.out zm,zC hp zJh zi zi fun v v' w h h'=>exK (zFg h h') B11.out zm,sP 15 hp (mq 0 rfl) zw,tv⟩) ?_
 intro w12 E _ _
 simp only [Z1] at E ⊢
 obtain ⟨p0_0,p0_1,c0_0,c0_1,hP0⟩:=zCg (E.box 0 rfl)
 clear B5 B6 B7 B8 B9 B10 B11 ha hb hc hx hy
 go_wp2
 exact zR (v:=.agg #[p0_0,p0_1]) (by simp [results,Tryz.results98,go_sem,c0_0,c0_1]) E.below hP0

theorem qv_eq (a b c x y:Int):qv a b c x y=((x*((a*x)+(b*y)))+(c*(y*y))):=by
 unfold qv
 have e1:x*((a*x)+(b*y))=a*(x*x)+b*(x*y):=by rw [Int.mul_add,Int.mul_left_comm,Int.mul_left_comm x b]
 rw [e1]
theorem zPn {w:World} {v v' u:Value} {a b c x y:Int} (h:(f3 a b c).P v w) (h':Num w v' x) (g:Num w u y) (ha:ab a<pw 60) (hb:ab b<pw 60) (hc:ab c<pw 60) (hx:ab x<pw 60) (hy:ab y<pw 60) :
  Rt 98 #[v,v',u] w fun v' w'=>Num w' v' (qv a b c x y):=by
 rw [qv_eq]
 exact exQValue0 h h' g ha hb hc hx hy

theorem exQApply0 {w:World} {v v':Value} {a b c x1 x2 x3 x4:Int} (h:(f3 a b c).P v w) (h':(Fq.st [.n x1,.n x2,.n x3,.n x4]).P v' w) (ha:ab a<pw 60) (hb:ab b<pw 60) (hc:ab c<pw 60) (hx1:ab x1<pw 60) (hx2:ab x2<pw 60) (hx3:ab x3<pw 60) (hx4:ab x4<pw 60) :
  Rt 46 #[v,v'] w fun v' w'=>(Fq.st [.n (qv a b c x1 x3),.n ((((2)*(a*(x1*x2)))+((b*((x1*x4)+(x2*x3)))+((2)*(c*(x3*x4)))))),.n (qv a b c x2 x4)]).P v' w':=by
 replace ha:=hidd ha
 replace hb:=hidd hb
 replace hc:=hidd hc
 replace hx1:=hidd hx1
 replace hx2:=hidd hx2
 replace hx3:=hidd hx3
 replace hx4:=hidd hx4
 obtain ⟨y0_p0,y0_q0,y0_p1,y0_q1,y0_p2,y0_q2,rfl,hF0⟩:=o3 h
 obtain ⟨_,rfl,hf1⟩:=h'
 have hF1:=hf1
 obtain ⟨y1_p0,y1_q0,_,rfl,_y1_n0,y1_p1,y1_q1,_,rfl,_y1_n1,y1_p2,y1_q2,_,rfl,_y1_n2,y1_p3,y1_q3,_,rfl,_y1_n3,rfl⟩:=hf1
 obtain ⟨w1,b1,hw1,hb1,hs1,E⟩:=gS w 38 hF0
 obtain ⟨w2,b2,hw2,hb2,hs2,E⟩:=fS E hs1 67 hF1
 obtain ⟨w3,b3,hw3,hb3,hs3,E⟩:=fO E hs2 38 zAu
 go_enter Tryz.func46,Tryz.ntmps46
 go_upto_region 1 with (fail)
 rw [← hw1,← hw2]
 rw [← hw3,← hb3]
 rw [← hb2,← hb1]
 clear hw1 hw2 hw3 hb1 hb2 hb3 hs3 hs1 hs2
 have B4:Hid (ab ((2))<pw 3):=zB3 zd
 refine rz [.n (2),.k,.a] N3 [⟨1,2,2,Fq.num 0,Fq.num (2),none⟩] E (fun hp=>⟨zBn (F:=(Fq.is (.int .i64 2)).P) hp fo tv (zCy) (zAk (fun _=>rfl)) (fun v w h=>(by subst h;exact rOfK w (2) zm zm)),aN hp (mq 0 rfl),sN 0 hp (mq 0 rfl),tv⟩) ?_
 intro w5 b5_1 E _ _
 simp only [Z1] at E ⊢
 go_upto_region 2 with (fail)
 have B6:Hid (ab ((x1*x2))<pw 120):=zAm hx1.out hx2.out zm
 have B7:Hid (ab ((a*(x1*x2)))<pw 180):=zAm ha.out B6.out zm
 have B8:Hid (ab (((2)*(a*(x1*x2))))<pw 183):=zAm B4.out B7.out zm
 have B9:Hid (ab ((x1*x4))<pw 120):=zAm hx1.out hx4.out zm
 have B10:Hid (ab ((x2*x3))<pw 120):=zAm hx2.out hx3.out zm
 have B11:Hid (ab (((x1*x4)+(x2*x3)))<pw 121):=zBd B9.out B10.out zm zm
 have B12:Hid (ab ((b*((x1*x4)+(x2*x3))))<pw 181):=zAm hb.out B11.out zm
 have B13:Hid (ab ((x3*x4))<pw 120):=zAm hx3.out hx4.out zm
 have B14:Hid (ab ((c*(x3*x4)))<pw 180):=zAm hc.out B13.out zm
 have B15:Hid (ab (((2)*(c*(x3*x4))))<pw 183):=zAm B4.out B14.out zm
 have B16:Hid (ab (((b*((x1*x4)+(x2*x3)))+((2)*(c*(x3*x4)))))<pw 184):=zBd B12.out B15.out zm zm
 have B17:Hid (ab ((((2)*(a*(x1*x2)))+((b*((x1*x4)+(x2*x3)))+((2)*(c*(x3*x4))))))<pw 185):=zBd B8.out B16.out zm zm
 refine rz [.n (2),.p b1 0,.n a,.p b2 0,.n x1,.p b2 2,.n x2,.n (x1*x2),.n (a*(x1*x2)),.n ((2)*(a*(x1*x2))),.p b1 2,.n b,.p b2 0,.n x1,.p b2 6,.n x4,.p b2 2,.n x2,.p b2 4,.n x3,.n ((x1*x4)+(x2*x3)),.n (b*((x1*x4)+(x2*x3))),.n (2),.p b1 4,.n c,.p b2 4,.n x3,.p b2 6,.n x4,.n (x3*x4),.n (c*(x3*x4)),.n ((2)*(c*(x3*x4))),.n ((b*((x1*x4)+(x2*x3)))+((2)*(c*(x3*x4)))),.n (((2)*(a*(x1*x2)))+((b*((x1*x4)+(x2*x3)))+((2)*(c*(x3*x4))))),.k,.a] N4 [⟨34,35,2,Fq.num 0,Fq.num (((2)*(a*(x1*x2)))+((b*((x1*x4)+(x2*x3)))+((2)*(c*(x3*x4))))),none⟩] E (fun hp=>⟨lI 0 hp (mq 0 rfl) zw,qa b1 0 0 hp zw,lN 0 2 hp (mq 3 rfl) zAb zi,qa b2 0 0 hp zw,lN 0 2 hp (mq 2 rfl) zAb zi,qa b2 0 2 hp zw,lN 2 2 hp (mq 2 rfl) zAb zi,zC hp zDj zi zi fun v v' w h h'=>exK (zDb h h') B6.out zm,zC hp zDj zi zi fun v v' w h h'=>exK (zDb h h') B7.out zm,zC hp zDj zi zi fun v v' w h h'=>exK (zDb h h') B8.out zm,qa b1 0 2 hp zw,lN 2 2 hp (mq 3 rfl) zAb zi,qa b2 0 0 hp zw,lN 0 2 hp (mq 2 rfl) zAb zi,qa b2 0 6 hp zw,lN 6 2 hp (mq 2 rfl) zAb zi,qa b2 0 2 hp zw,lN 2 2 hp (mq 2 rfl) zAb zi,qa b2 0 4 hp zw,lN 4 2 hp (mq 2 rfl) zAb zi,zD0 (F:=(Fq.num x1).P) (G:=(Fq.num x4).P) (F3:=(Fq.num x2).P) (F4:=(Fq.num x3).P) hp fo tv (zF5) (sqi 13) (sqi 15) (sqi 17) (sqi 19) (fun v v' u u' w h h' g g'=>zF9 h h' g g' (Int.lt_of_lt_of_le hx1.out (zAa zm)) (Int.lt_of_lt_of_le hx4.out (zAa zm)) (Int.lt_of_lt_of_le hx2.out (zAa zm)) (Int.lt_of_lt_of_le hx3.out (zAa zm))),zC hp zDj zi zi fun v v' w h h'=>exK (zDb h h') B12.out zm,lI 0 hp (mq 0 rfl) zw,qa b1 0 4 hp zw,lN 4 2 hp (mq 3 rfl) zAb zi,qa b2 0 4 hp zw,lN 4 2 hp (mq 2 rfl) zAb zi,qa b2 0 6 hp zw,lN 6 2 hp (mq 2 rfl) zAb zi,zC hp zDj zi zi fun v v' w h h'=>exK (zDb h h') B13.out zm,zC hp zDj zi zi fun v v' w h h'=>exK (zDb h h') B14.out zm,zC hp zDj zi zi fun v v' w h h'=>exK (zDb h h') B15.out zm,zC hp zJh zi zi fun v v' w h h'=>exK (zFg h h') B16.out zm,zC hp zJh zi zi fun v v' w h h'=>exK (zFg h h') B17.out zm,aN hp (mq 0 rfl),sN 33 hp (mq 0 rfl),tv⟩) ?_
 intro w18 b18_34 E _ _
 simp only [Z1] at E ⊢
 go_upto_region 3 with (fail)
 refine rz [.w (f3 a b c),.p b2 0,.n x1,.p b2 4,.n x3,.n (qv a b c x1 x3),.n (((2)*(a*(x1*x2)))+((b*((x1*x4)+(x2*x3)))+((2)*(c*(x3*x4))))),.w (f3 a b c),.p b2 2,.n x2,.p b2 6,.n x4,.n (qv a b c x2 x4),.w (Fq.st [.n (qv a b c x1 x3),.n (((2)*(a*(x1*x2)))+((b*((x1*x4)+(x2*x3)))+((2)*(c*(x3*x4))))),.n (qv a b c x2 x4)]),.a] [none,none,some (14,Fq.st [.n (qv a b c x1 x3),.n (((2)*(a*(x1*x2)))+((b*((x1*x4)+(x2*x3)))+((2)*(c*(x3*x4))))),.n (qv a b c x2 x4)]),none,none] [] E (fun hp=>⟨lS 0 6 hp (mq 4 rfl) zAd zw,qa b2 0 0 hp zw,lN 0 2 hp (mq 3 rfl) zAb zi,qa b2 0 4 hp zw,lN 4 2 hp (mq 3 rfl) zAb zi,zEx (F:=(f3 a b c).P) (G:=(Fq.num x1).P) (F3:=(Fq.num x3).P) hp fo tv (zOo) (sqi 0) (sqi 2) (sqi 4) (fun v v' u w h h' g=>zPn h h' g ha.out hb.out hc.out hx1.out hx3.out),lI 0 hp (mq 0 rfl) zw,lS 0 6 hp (mq 4 rfl) zAd zw,qa b2 0 2 hp zw,lN 2 2 hp (mq 3 rfl) zAb zi,qa b2 0 6 hp zw,lN 6 2 hp (mq 3 rfl) zAb zi,zEx (F:=(f3 a b c).P) (G:=(Fq.num x2).P) (F3:=(Fq.num x4).P) hp fo tv (zOo) (sqi 7) (sqi 9) (sqi 11) (fun v v' u w h h' g=>zPn h h' g ha.out hb.out hc.out hx2.out hx4.out),zFo (z0:=(qv a b c x1 x3)) (z1:=(((2)*(a*(x1*x2)))+((b*((x1*x4)+(x2*x3)))+((2)*(c*(x3*x4)))))) (z2:=(qv a b c x2 x4)) hp fo tv (sqi 5) (sqi 6) (sqi 12) (fun v w h=>h),sO 0 13 hp (mq 2 rfl) zAo zw,tv⟩) ?_
 intro w19 E _ _
 simp only [Z1] at E ⊢
 obtain ⟨_,_,hc0,hf0⟩:=zAy (E.box 2 rfl)
 have hP0:=hf0
 obtain ⟨r0_p0,r0_q0,_,rfl,_r0_n0,r0_p1,r0_q1,_,rfl,_r0_n1,r0_p2,r0_q2,_,rfl,_r0_n2,rfl⟩:=hf0
 have c0_z:=c6 hc0
 simp only [List.getD_cons_zero,List.getD_cons_succ] at c0_z
 clear hc0
 clear B4 B6 B7 B8 B9 B10 B11 B12 B13 B14 B15 B16 B17 ha hb hc hx1 hx2 hx3 hx4
 go_wp2
 exact zR (v:=.agg #[r0_p0,r0_q0,r0_p1,r0_q1,r0_p2,r0_q2]) (by simp [results,Tryz.results46,go_sem,c0_z]) E.below ⟨_,rfl,hP0⟩

theorem exQApply {w:World} {v v':Value} {a b c x1 x2 x3 x4:Int} (h:(f3 a b c).P v w) (h':(Fq.st [.n x1,.n x2,.n x3,.n x4]).P v' w) (ha:ab a<pw 60) (hb:ab b<pw 60) (hc:ab c<pw 60) (hx1:ab x1<pw 60) (hx2:ab x2<pw 60) (hx3:ab x3<pw 60) (hx4:ab x4<pw 60) :
  Rt 46 #[v,v'] w fun v' w'=>(f3 (qv a b c x1 x3) (qm a b c x1 x2 x3 x4) (qv a b c x2 x4)).P v' w':=by
 have e:qm a b c x1 x2 x3 x4=(((2)*(a*(x1*x2)))+((b*((x1*x4)+(x2*x3)))+((2)*(c*(x3*x4))))):=by
  unfold qm
  rw [Int.mul_add]
  omega
 rw [e]
 exact exQApply0 h h' ha hb hc hx1 hx2 hx3 hx4

theorem zPm {w:World} {v v':Value} {x1 x2 x3 x4 y1 y2 y3 y4:Int} (h:(Fq.st [.n x1,.n x2,.n x3,.n x4]).P v w) (h':(Fq.st [.n y1,.n y2,.n y3,.n y4]).P v' w) (hx1:ab x1<pw 60) (hx2:ab x2<pw 60) (hx3:ab x3<pw 60) (hx4:ab x4<pw 60) (hy1:ab y1<pw 60) (hy2:ab y2<pw 60) (hy3:ab y3<pw 60) (hy4:ab y4<pw 60) :
  Rt 77 #[v,v'] w fun v' w'=>(Fq.st [.n ((x1*y1)+(x2*y3)),.n ((x1*y2)+(x2*y4)),.n ((x3*y1)+(x4*y3)),.n ((x3*y2)+(x4*y4))]).P v' w':=by
 replace hx1:=hidd hx1
 replace hx2:=hidd hx2
 replace hx3:=hidd hx3
 replace hx4:=hidd hx4
 replace hy1:=hidd hy1
 replace hy2:=hidd hy2
 replace hy3:=hidd hy3
 replace hy4:=hidd hy4
 obtain ⟨_,rfl,hf0⟩:=h
 have hF0:=hf0
 obtain ⟨y0_p0,y0_q0,_,rfl,_y0_n0,y0_p1,y0_q1,_,rfl,_y0_n1,y0_p2,y0_q2,_,rfl,_y0_n2,y0_p3,y0_q3,_,rfl,_y0_n3,rfl⟩:=hf0
 obtain ⟨_,rfl,hf1⟩:=h'
 have hF1:=hf1
 obtain ⟨y1_p0,y1_q0,_,rfl,_y1_n0,y1_p1,y1_q1,_,rfl,_y1_n1,y1_p2,y1_q2,_,rfl,_y1_n2,y1_p3,y1_q3,_,rfl,_y1_n3,rfl⟩:=hf1
 obtain ⟨w1,b1,hw1,hb1,hs1,E⟩:=gS w 67 hF0
 obtain ⟨w2,b2,hw2,hb2,hs2,E⟩:=fS E hs1 67 hF1
 obtain ⟨w3,b3,hw3,hb3,hs3,E⟩:=fO E hs2 67 zEl
 go_enter Tryz.func77,Tryz.ntmps77
 go_upto_region 1 with (fail)
 rw [← hw1,← hw2]
 rw [← hw3,← hb3]
 rw [← hb2,← hb1]
 clear hw1 hw2 hw3 hb1 hb2 hb3 hs3 hs1 hs2
 have B4:Hid (ab ((x1*y1))<pw 120):=zAm hx1.out hy1.out zm
 have B5:Hid (ab ((x2*y3))<pw 120):=zAm hx2.out hy3.out zm
 have B6:Hid (ab (((x1*y1)+(x2*y3)))<pw 121):=zBd B4.out B5.out zm zm
 have B7:Hid (ab ((x1*y2))<pw 120):=zAm hx1.out hy2.out zm
 have B8:Hid (ab ((x2*y4))<pw 120):=zAm hx2.out hy4.out zm
 have B9:Hid (ab (((x1*y2)+(x2*y4)))<pw 121):=zBd B7.out B8.out zm zm
 have B10:Hid (ab ((x3*y1))<pw 120):=zAm hx3.out hy1.out zm
 have B11:Hid (ab ((x4*y3))<pw 120):=zAm hx4.out hy3.out zm
 have B12:Hid (ab (((x3*y1)+(x4*y3)))<pw 121):=zBd B10.out B11.out zm zm
 have B13:Hid (ab ((x3*y2))<pw 120):=zAm hx3.out hy2.out zm
 have B14:Hid (ab ((x4*y4))<pw 120):=zAm hx4.out hy4.out zm
 have B15:Hid (ab (((x3*y2)+(x4*y4)))<pw 121):=zBd B13.out B14.out zm zm
 refine rz [.p b1 0,.n x1,.p b2 0,.n y1,.p b1 2,.n x2,.p b2 4,.n y3,.n ((x1*y1)+(x2*y3)),.p b1 0,.n x1,.p b2 2,.n y2,.p b1 2,.n x2,.p b2 6,.n y4,.n ((x1*y2)+(x2*y4)),.p b1 4,.n x3,.p b2 0,.n y1,.p b1 6,.n x4,.p b2 4,.n y3,.n ((x3*y1)+(x4*y3)),.p b1 4,.n x3,.p b2 2,.n y2,.p b1 6,.n x4,.p b2 6,.n y4,.n ((x3*y2)+(x4*y4)),.w (Fq.st [.n ((x1*y1)+(x2*y3)),.n ((x1*y2)+(x2*y4)),.n ((x3*y1)+(x4*y3)),.n ((x3*y2)+(x4*y4))]),.a] [some (37,Fq.st [.n ((x1*y1)+(x2*y3)),.n ((x1*y2)+(x2*y4)),.n ((x3*y1)+(x4*y3)),.n ((x3*y2)+(x4*y4))]),none,none] [] E (fun hp=>⟨qa b1 0 0 hp zw,lN 0 2 hp (mq 2 rfl) zAb zi,qa b2 0 0 hp zw,lN 0 2 hp (mq 1 rfl) zAb zi,qa b1 0 2 hp zw,lN 2 2 hp (mq 2 rfl) zAb zi,qa b2 0 4 hp zw,lN 4 2 hp (mq 1 rfl) zAb zi,zD0 (F:=(Fq.num x1).P) (G:=(Fq.num y1).P) (F3:=(Fq.num x2).P) (F4:=(Fq.num y3).P) hp fo tv (zF5) (sqi 1) (sqi 3) (sqi 5) (sqi 7) (fun v v' u u' w h h' g g'=>zF9 h h' g g' (Int.lt_of_lt_of_le hx1.out (zAa zm)) (Int.lt_of_lt_of_le hy1.out (zAa zm)) (Int.lt_of_lt_of_le hx2.out (zAa zm)) (Int.lt_of_lt_of_le hy3.out (zAa zm))),qa b1 0 0 hp zw,lN 0 2 hp (mq 2 rfl) zAb zi,qa b2 0 2 hp zw,lN 2 2 hp (mq 1 rfl) zAb zi,qa b1 0 2 hp zw,lN 2 2 hp (mq 2 rfl) zAb zi,qa b2 0 6 hp zw,lN 6 2 hp (mq 1 rfl) zAb zi,zD0 (F:=(Fq.num x1).P) (G:=(Fq.num y2).P) (F3:=(Fq.num x2).P) (F4:=(Fq.num y4).P) hp fo tv (zF5) (sqi 10) (sqi 12) (sqi 14) (sqi 16) (fun v v' u u' w h h' g g'=>zF9 h h' g g' (Int.lt_of_lt_of_le hx1.out (zAa zm)) (Int.lt_of_lt_of_le hy2.out (zAa zm)) (Int.lt_of_lt_of_le hx2.out (zAa zm)) (Int.lt_of_lt_of_le hy4.out (zAa zm))),qa b1 0 4 hp zw,lN 4 2 hp (mq 2 rfl) zAb zi,qa b2 0 0 hp zw,lN 0 2 hp (mq 1 rfl) zAb zi,qa b1 0 6 hp zw,lN 6 2 hp (mq 2 rfl) zAb zi,qa b2 0 4 hp zw,lN 4 2 hp (mq 1 rfl) zAb zi,zD0 (F:=(Fq.num x3).P) (G:=(Fq.num y1).P) (F3:=(Fq.num x4).P) (F4:=(Fq.num y3).P) hp fo tv (zF5) (sqi 19) (sqi 21) (sqi 23) (sqi 25) (fun v v' u u' w h h' g g'=>zF9 h h' g g' (Int.lt_of_lt_of_le hx3.out (zAa zm)) (Int.lt_of_lt_of_le hy1.out (zAa zm)) (Int.lt_of_lt_of_le hx4.out (zAa zm)) (Int.lt_of_lt_of_le hy3.out (zAa zm))),qa b1 0 4 hp zw,lN 4 2 hp (mq 2 rfl) zAb zi,qa b2 0 2 hp zw,lN 2 2 hp (mq 1 rfl) zAb zi,qa b1 0 6 hp zw,lN 6 2 hp (mq 2 rfl) zAb zi,qa b2 0 6 hp zw,lN 6 2 hp (mq 1 rfl) zAb zi,zD0 (F:=(Fq.num x3).P) (G:=(Fq.num y2).P) (F3:=(Fq.num x4).P) (F4:=(Fq.num y4).P) hp fo tv (zF5) (sqi 28) (sqi 30) (sqi 32) (sqi 34) (fun v v' u u' w h h' g g'=>zF9 h h' g g' (Int.lt_of_lt_of_le hx3.out (zAa zm)) (Int.lt_of_lt_of_le hy2.out (zAa zm)) (Int.lt_of_lt_of_le hx4.out (zAa zm)) (Int.lt_of_lt_of_le hy4.out (zAa zm))),zM1 (z0:=((x1*y1)+(x2*y3))) (z1:=((x1*y2)+(x2*y4))) (z2:=((x3*y1)+(x4*y3))) (z3:=((x3*y2)+(x4*y4))) hp fo tv (sqi 8) (sqi 17) (sqi 26) (sqi 35) (fun v w h=>h),sO 0 36 hp (mq 0 rfl) zEe zw,tv⟩) ?_
 intro w16 E _ _
 simp only [Z1] at E ⊢
 obtain ⟨_,_,hc0,hf0⟩:=zAy (E.box 0 rfl)
 have hP0:=hf0
 obtain ⟨r0_p0,r0_q0,_,rfl,_r0_n0,r0_p1,r0_q1,_,rfl,_r0_n1,r0_p2,r0_q2,_,rfl,_r0_n2,r0_p3,r0_q3,_,rfl,_r0_n3,rfl⟩:=hf0
 have c0_0:=hc0 0 (by simp)
 have c0_1:=hc0 1 (by simp)
 have c0_2:=hc0 2 (by simp)
 have c0_3:=hc0 3 (by simp)
 have c0_4:=hc0 4 (by simp)
 have c0_5:=hc0 5 (by simp)
 have c0_6:=hc0 6 (by simp)
 have c0_7:=hc0 7 (by simp)
 simp only [List.getD_cons_zero,List.getD_cons_succ] at c0_0 c0_1 c0_2 c0_3 c0_4 c0_5 c0_6 c0_7
 clear hc0
 clear B4 B5 B6 B7 B8 B9 B10 B11 B12 B13 B14 B15 hx1 hx2 hx3 hx4 hy1 hy2 hy3 hy4
 go_wp2
 exact zR (v:=.agg #[r0_p0,r0_q0,r0_p1,r0_q1,r0_p2,r0_q2,r0_p3,r0_q3]) (by simp [results,Tryz.results77,go_sem,c0_0,c0_1,c0_2,c0_3,c0_4,c0_5,c0_6,c0_7]) E.below ⟨_,rfl,hP0⟩

theorem exQEqual0 {w:World} {v v':Value} {a b c x y z:Int} (h:(f3 a b c).P v w) (h':(f3 x y z).P v' w) (e0:¬ a=x) {t:Bool} (ht:eqF a b c x y z=t) :
  Rt 25 #[v,v'] w fun v' w'=>v'=.bool t:=by
 have ht2:t=false:=ht.symm.trans (by unfold eqF;simp [e0])
 subst ht2
 clear ht
 have T0:=hidd (decide_eq_false e0)
 clear e0
 obtain ⟨y0_p0,y0_q0,y0_p1,y0_q1,y0_p2,y0_q2,rfl,hF0⟩:=o3 h
 obtain ⟨y1_p0,y1_q0,y1_p1,y1_q1,y1_p2,y1_q2,rfl,hF1⟩:=o3 h'
 obtain ⟨w1,b1,hw1,hb1,hs1,E⟩:=gS w 38 hF0
 obtain ⟨w2,b2,hw2,hb2,hs2,E⟩:=fS E hs1 38 hF1
 go_enter Tryz.func25,Tryz.ntmps25
 go_upto_region 1 with (fail)
 rw [← hw1,← hw2]
 rw [← hb2,← hb1]
 clear hw1 hw2 hb1 hb2 hs2 hs1
 refine rz [.p b1 0,.n a,.p b2 0,.n x,.o,.o,.u (undef),.u (undef),.u (undef),.u (undef),.u (undef),.o,.o,.u (undef),.u (undef),.u (undef),.u (undef),.u (undef),.o,.o] N2 [] E (fun hp=>⟨qa b1 0 0 hp zw,lN 0 2 hp (mq 1 rfl) zAb zi,qa b2 0 0 hp zw,lN 0 2 hp (mq 0 rfl) zAb zi,zC hp zEi zi zi fun v v' w h h'=>zEj h h' T0.out,zS,zS,zS,zS,zS,zS,zt hp (sqi 5) (zk (.bool false)),zS,zS,zS,zS,zS,zS,zt hp (sqi 12) (zk (.bool false)),zS,tv⟩) ?_
 intro w3 E _ _
 simp only [Z1] at E ⊢
 clear T0
 go_wp2
 exact zR (v:=.bool false) (by simp [results,Tryz.results25,go_sem]) E.below rfl

theorem exQEqual1 {w:World} {v v':Value} {a b c x y z:Int} (h:(f3 a b c).P v w) (h':(f3 x y z).P v' w) (e0:a=x) (e1:¬ b=y) {t:Bool} (ht:eqF a b c x y z=t) :
  Rt 25 #[v,v'] w fun v' w'=>v'=.bool t:=by
 have ht2:t=false:=ht.symm.trans (by unfold eqF;simp [e0,e1])
 subst ht2
 clear ht
 have T0:=hidd (decide_eq_true e0)
 have T1:=hidd (decide_eq_false e1)
 clear e0 e1
 obtain ⟨y0_p0,y0_q0,y0_p1,y0_q1,y0_p2,y0_q2,rfl,hF0⟩:=o3 h
 obtain ⟨y1_p0,y1_q0,y1_p1,y1_q1,y1_p2,y1_q2,rfl,hF1⟩:=o3 h'
 obtain ⟨w1,b1,hw1,hb1,hs1,E⟩:=gS w 38 hF0
 obtain ⟨w2,b2,hw2,hb2,hs2,E⟩:=fS E hs1 38 hF1
 go_enter Tryz.func25,Tryz.ntmps25
 go_upto_region 1 with (fail)
 rw [← hw1,← hw2]
 rw [← hb2,← hb1]
 clear hw1 hw2 hb1 hb2 hs2 hs1
 refine rz [.p b1 0,.n a,.p b2 0,.n x,.t,.t,.p b1 2,.n b,.p b2 2,.n y,.o,.o,.o,.u (undef),.u (undef),.u (undef),.u (undef),.u (undef),.o,.o] N2 [] E (fun hp=>⟨qa b1 0 0 hp zw,lN 0 2 hp (mq 1 rfl) zAb zi,qa b2 0 0 hp zw,lN 0 2 hp (mq 0 rfl) zAb zi,zC hp zEi zi zi fun v v' w h h'=>zEj h h' T0.out,zS,zg b1 0 2 hp zw,lG 2 2 hp gqi (mq 1 rfl) zAb zi fun v w h=>zAf h,zg b2 0 2 hp zw,lG 2 2 hp gqi (mq 0 rfl) zAb zi fun v w h=>zAf h,zC hp zEi zi zi (fun v v' w h h'=>zEj h h' T1.out),zt hp (sqi 5) (sqi 10),zS,zS,zS,zS,zS,zS,zt hp (sqi 12) (zk (.bool false)),zS,tv⟩) ?_
 intro w3 E _ _
 simp only [Z1] at E ⊢
 clear T0 T1
 go_wp2
 exact zR (v:=.bool false) (by simp [results,Tryz.results25,go_sem]) E.below rfl

theorem exQEqual2 {w:World} {v v':Value} {a b c x y z:Int} (h:(f3 a b c).P v w) (h':(f3 x y z).P v' w) (e0:a=x) (e1:b=y) (e2:¬ c=z) {t:Bool} (ht:eqF a b c x y z=t) :
  Rt 25 #[v,v'] w fun v' w'=>v'=.bool t:=by
 have ht2:t=false:=ht.symm.trans (by unfold eqF;simp [e0,e1,e2])
 subst ht2
 clear ht
 have T0:=hidd (decide_eq_true e0)
 have T1:=hidd (decide_eq_true e1)
 have T2:=hidd (decide_eq_false e2)
 clear e0 e1 e2
 obtain ⟨y0_p0,y0_q0,y0_p1,y0_q1,y0_p2,y0_q2,rfl,hF0⟩:=o3 h
 obtain ⟨y1_p0,y1_q0,y1_p1,y1_q1,y1_p2,y1_q2,rfl,hF1⟩:=o3 h'
 obtain ⟨w1,b1,hw1,hb1,hs1,E⟩:=gS w 38 hF0
 obtain ⟨w2,b2,hw2,hb2,hs2,E⟩:=fS E hs1 38 hF1
 go_enter Tryz.func25,Tryz.ntmps25
 go_upto_region 1 with (fail)
 rw [← hw1,← hw2]
 rw [← hb2,← hb1]
 clear hw1 hw2 hb1 hb2 hs2 hs1
 refine rz [.p b1 0,.n a,.p b2 0,.n x,.t,.t,.p b1 2,.n b,.p b2 2,.n y,.t,.t,.t,.p b1 4,.n c,.p b2 4,.n z,.o,.o,.o] N2 [] E (fun hp=>⟨qa b1 0 0 hp zw,lN 0 2 hp (mq 1 rfl) zAb zi,qa b2 0 0 hp zw,lN 0 2 hp (mq 0 rfl) zAb zi,zC hp zEi zi zi fun v v' w h h'=>zEj h h' T0.out,zS,zg b1 0 2 hp zw,lG 2 2 hp gqi (mq 1 rfl) zAb zi fun v w h=>zAf h,zg b2 0 2 hp zw,lG 2 2 hp gqi (mq 0 rfl) zAb zi fun v w h=>zAf h,zC hp zEi zi zi (fun v v' w h h'=>zEj h h' T1.out),zt hp (sqi 5) (sqi 10),zS,zg b1 0 4 hp zw,lG 4 2 hp gqi (mq 1 rfl) zAb zi fun v w h=>zAf h,zg b2 0 4 hp zw,lG 4 2 hp gqi (mq 0 rfl) zAb zi fun v w h=>zAf h,zC hp zEi zi zi (fun v v' w h h'=>zEj h h' T2.out),zt hp (sqi 12) (sqi 17),zS,tv⟩) ?_
 intro w3 E _ _
 simp only [Z1] at E ⊢
 clear T0 T1 T2
 go_wp2
 exact zR (v:=.bool false) (by simp [results,Tryz.results25,go_sem]) E.below rfl

theorem exQEqual3 {w:World} {v v':Value} {a b c x y z:Int} (h:(f3 a b c).P v w) (h':(f3 x y z).P v' w) (e0:a=x) (e1:b=y) (e2:c=z) {t:Bool} (ht:eqF a b c x y z=t) :
  Rt 25 #[v,v'] w fun v' w'=>v'=.bool t:=by
 have ht2:t=true:=ht.symm.trans (by unfold eqF;simp [e0,e1,e2])
 subst ht2
 clear ht
 have T0:=hidd (decide_eq_true e0)
 have T1:=hidd (decide_eq_true e1)
 have T2:=hidd (decide_eq_true e2)
 clear e0 e1 e2
 obtain ⟨y0_p0,y0_q0,y0_p1,y0_q1,y0_p2,y0_q2,rfl,hF0⟩:=o3 h
 obtain ⟨y1_p0,y1_q0,y1_p1,y1_q1,y1_p2,y1_q2,rfl,hF1⟩:=o3 h'
 obtain ⟨w1,b1,hw1,hb1,hs1,E⟩:=gS w 38 hF0
 obtain ⟨w2,b2,hw2,hb2,hs2,E⟩:=fS E hs1 38 hF1
 go_enter Tryz.func25,Tryz.ntmps25
 go_upto_region 1 with (fail)
 rw [← hw1,← hw2]
 rw [← hb2,← hb1]
 clear hw1 hw2 hb1 hb2 hs2 hs1
 refine rz [.p b1 0,.n a,.p b2 0,.n x,.t,.t,.p b1 2,.n b,.p b2 2,.n y,.t,.t,.t,.p b1 4,.n c,.p b2 4,.n z,.t,.t,.t] N2 [] E (fun hp=>⟨qa b1 0 0 hp zw,lN 0 2 hp (mq 1 rfl) zAb zi,qa b2 0 0 hp zw,lN 0 2 hp (mq 0 rfl) zAb zi,zC hp zEi zi zi fun v v' w h h'=>zEj h h' T0.out,zS,zg b1 0 2 hp zw,lG 2 2 hp gqi (mq 1 rfl) zAb zi fun v w h=>zAf h,zg b2 0 2 hp zw,lG 2 2 hp gqi (mq 0 rfl) zAb zi fun v w h=>zAf h,zC hp zEi zi zi (fun v v' w h h'=>zEj h h' T1.out),zt hp (sqi 5) (sqi 10),zS,zg b1 0 4 hp zw,lG 4 2 hp gqi (mq 1 rfl) zAb zi fun v w h=>zAf h,zg b2 0 4 hp zw,lG 4 2 hp gqi (mq 0 rfl) zAb zi fun v w h=>zAf h,zC hp zEi zi zi (fun v v' w h h'=>zEj h h' T2.out),zt hp (sqi 12) (sqi 17),zS,tv⟩) ?_
 intro w3 E _ _
 simp only [Z1] at E ⊢
 clear T0 T1 T2
 go_wp2
 exact zR (v:=.bool true) (by simp [results,Tryz.results25,go_sem]) E.below rfl

theorem zFk {w:World} {v v':Value} {a b c x y z:Int} (h:(f3 a b c).P v w) (h':(f3 x y z).P v' w) {t:Bool} (ht:eqF a b c x y z=t) :
  Rt 25 #[v,v'] w fun v' w'=>v'=.bool t:=by
 by_cases e0:a=x
 ·by_cases e1:b=y
  ·by_cases e2:c=z
   ·exact exQEqual3 h h' e0 e1 e2 ht
   ·exact exQEqual2 h h' e0 e1 e2 ht
  ·exact exQEqual1 h h' e0 e1 ht
 ·exact exQEqual0 h h' e0 ht

theorem zVh {w:World} {v:Value} {a b c:Int} (h:(f3 a b c).P v w) (ha:ab a<pw 60) (hb:ab b<pw 60) (hc:ab c<pw 60) :
  Rt 128 #[v] w fun v' w'=>Num w' v' ((Int.gcd (Int.gcd a b:Int) c:Int)):=by
 replace ha:=hidd ha
 replace hb:=hidd hb
 replace hc:=hidd hc
 obtain ⟨y0_p0,y0_q0,y0_p1,y0_q1,y0_p2,y0_q2,rfl,hF0⟩:=o3 h
 obtain ⟨w1,b1,hw1,hb1,hs1,E⟩:=gS w 38 hF0
 obtain ⟨w2,b2,hw2,hb2,hs2,E⟩:=fZ E hs1 36
 go_enter Tryz.func128,Tryz.ntmps128
 go_upto_region 1 with (fail)
 rw [← hw1,← hw2]
 rw [← hb2,← hb1]
 clear hw1 hw2 hb1 hb2 hs2 hs1
 have B3:Hid (ab ((Int.gcd a b:Int))<pw 60):=zIw ha.out hb.out zm zm
 have B4:Hid (ab ((Int.gcd (Int.gcd a b:Int) c:Int))<pw 60):=zIw B3.out hc.out zm zm
 refine rz [.p b1 0,.n a,.p b1 2,.n b,.n (Int.gcd a b:Int),.p b1 4,.n c,.n (Int.gcd (Int.gcd a b:Int) c:Int),.a] [some (8,Fq.num (Int.gcd (Int.gcd a b:Int) c:Int)),none] [] E (fun hp=>⟨qa b1 0 0 hp zw,lN 0 2 hp (mq 1 rfl) zAb zi,qa b1 0 2 hp zw,lN 2 2 hp (mq 1 rfl) zAb zi,zC hp zOi zi zi fun v v' w h h'=>exRGcd h h' (Int.lt_of_lt_of_le ha.out (zAa zm)) (Int.lt_of_lt_of_le hb.out (zAa zm)),qa b1 0 4 hp zw,lN 4 2 hp (mq 1 rfl) zAb zi,zC hp zOi zi zi fun v v' w h h'=>exRGcd h h' (Int.lt_of_lt_of_le B3.out (zAa zm)) (Int.lt_of_lt_of_le hc.out (zAa zm)),sP 7 hp (mq 0 rfl) zw,tv⟩) ?_
 intro w5 E _ _
 simp only [Z1] at E ⊢
 obtain ⟨p0_0,p0_1,c0_0,c0_1,hP0⟩:=zCg (E.box 0 rfl)
 clear B3 B4 ha hb hc
 go_wp2
 exact zR (v:=.agg #[p0_0,p0_1]) (by simp [results,Tryz.results128,go_sem,c0_0,c0_1]) E.below hP0

theorem zPl {w:World} {v:Value} {a b c:Int} (h:(f3 a b c).P v w) (ha:ab a<pw 60) (hb:ab b<pw 60) (hc:ab c<pw 60) {t:Bool} (ht:decide (cont a b c=1)=t) :
  Rt 92 #[v] w fun v' w'=>v'=.bool t:=by
 replace ha:=hidd ha
 replace hb:=hidd hb
 replace hc:=hidd hc
 have HT:=hidd ht
 clear ht
 obtain ⟨y0_p0,y0_q0,y0_p1,y0_q1,y0_p2,y0_q2,rfl,hF0⟩:=o3 h
 obtain ⟨w1,b1,hw1,hb1,hs1,E⟩:=gS w 38 hF0
 go_enter Tryz.func92,Tryz.ntmps92
 go_upto_region 1 with (fail)
 rw [← hw1,← hb1]
 clear hw1 hb1 hs1
 have B2:Hid (ab ((1))<pw 3):=zB3 zd
 refine rz [.w (f3 a b c),.n (cont a b c),.n (1),.u (.bool t),.u (.bool t)] [none] [] E (fun hp=>⟨lS 0 6 hp (mq 0 rfl) zAd zw,zc hp zTg zi fun v w h=>zVh h ha.out hb.out hc.out,zBn (F:=(Fq.is (.int .i64 1)).P) hp fo tv (zCy) (zAk (fun _=>rfl)) (fun v w h=>(by subst h;exact rOfK w (1) zm zm)),zC hp zEi zi zi fun v v' w h h'=>zEj h h' HT.out,zS,tv⟩) ?_
 intro w3 E _ _
 simp only [Z1] at E ⊢
 clear HT
 clear B2 ha hb hc
 go_wp2
 exact zR (v:=.bool t) (by simp [results,Tryz.results92,go_sem]) E.below rfl

theorem zG2 {w:World} {a b c:Int} (ha:-9223372036854775808≤a∧a≤9223372036854775807) (hb:-9223372036854775808≤b∧b≤9223372036854775807) (hc:-9223372036854775808≤c∧c≤9223372036854775807) :
  Rt 45 #[.int .i64 a,.int .i64 b,.int .i64 c] w fun v' w'=>(f3 a b c).P v' w':=by
 have Ha:=hidd ha
 have Ba:Hid (ab a<pw 3):=zAs ha.1 ha.2
 have Hb:=hidd hb
 have Bb:Hid (ab b<pw 3):=zAs hb.1 hb.2
 have Hc:=hidd hc
 have Bc:Hid (ab c<pw 3):=zAs hc.1 hc.2
 clear ha hb hc
 obtain ⟨w1,b1,hw1,hb1,hs1,E⟩:=zEa w (F:=f3 0 0 0) (us:=[.bool false,.slice none 0 0,.bool false,.slice none 0 0,.bool false,.slice none 0 0]) 38 rfl (by simp) ((Fits.tame (zAu w))) (zVz _)
 go_enter Tryz.func45,Tryz.ntmps45
 go_upto_region 1 with (fail)
 rw [← hw1,← hb1]
 clear hw1 hb1 hs1
 refine rz [.i a,.n a,.i b,.n b,.i c,.n c,.w (f3 a b c),.a] [some (7,f3 a b c)] [] E (fun hp=>⟨zS,wXa (Fq.is (.int .i64 a)) hp zCy (sqi 0) fun v w h=>(by subst h;exact rOfK w a Ha.out.1 Ha.out.2),zS,wXa (Fq.is (.int .i64 b)) hp zCy (sqi 2) fun v w h=>(by subst h;exact rOfK w b Hb.out.1 Hb.out.2),zS,wXa (Fq.is (.int .i64 c)) hp zCy (sqi 4) fun v w h=>(by subst h;exact rOfK w c Hc.out.1 Hc.out.2),zFo (z0:=a) (z1:=b) (z2:=c) hp fo tv (sqi 1) (sqi 3) (sqi 5) (fun v w h=>h),sO 0 6 hp (mq 0 rfl) zAo zw,tv⟩) ?_
 intro w2 E _ _
 simp only [Z1] at E ⊢
 clear Ha Hb Hc
 obtain ⟨_,_,hc0,hf0⟩:=zAy (E.box 0 rfl)
 have hP0:=hf0
 obtain ⟨r0_p0,r0_q0,_,rfl,_r0_n0,r0_p1,r0_q1,_,rfl,_r0_n1,r0_p2,r0_q2,_,rfl,_r0_n2,rfl⟩:=hf0
 have c0_z:=c6 hc0
 simp only [List.getD_cons_zero,List.getD_cons_succ] at c0_z
 clear hc0
 clear Ba Bb Bc
 go_wp2
 exact zR (v:=.agg #[r0_p0,r0_q0,r0_p1,r0_q1,r0_p2,r0_q2]) (by simp [results,Tryz.results45,go_sem,c0_z]) E.below ⟨_,rfl,hP0⟩

theorem zLx {w:World} {x1 x2 x3 x4:Int} (hx1:-9223372036854775808≤x1∧x1≤9223372036854775807) (hx2:-9223372036854775808≤x2∧x2≤9223372036854775807) (hx3:-9223372036854775808≤x3∧x3≤9223372036854775807) (hx4:-9223372036854775808≤x4∧x4≤9223372036854775807) :
  Rt 76 #[.int .i64 x1,.int .i64 x2,.int .i64 x3,.int .i64 x4] w fun v' w'=>(Fq.st [.n x1,.n x2,.n x3,.n x4]).P v' w':=by
 have Hx1:=hidd hx1
 have Bx1:Hid (ab x1<pw 3):=zAs hx1.1 hx1.2
 have Hx2:=hidd hx2
 have Bx2:Hid (ab x2<pw 3):=zAs hx2.1 hx2.2
 have Hx3:=hidd hx3
 have Bx3:Hid (ab x3<pw 3):=zAs hx3.1 hx3.2
 have Hx4:=hidd hx4
 have Bx4:Hid (ab x4<pw 3):=zAs hx4.1 hx4.2
 clear hx1 hx2 hx3 hx4
 obtain ⟨w1,b1,hw1,hb1,hs1,E⟩:=zEa w (F:=Fq.st [.n 0,.n 0,.n 0,.n 0]) (us:=[.bool false,.slice none 0 0,.bool false,.slice none 0 0,.bool false,.slice none 0 0,.bool false,.slice none 0 0]) 67 rfl (by simp) ((Fits.tame (zEl w))) (zPo _)
 go_enter Tryz.func76,Tryz.ntmps76
 go_upto_region 1 with (fail)
 rw [← hw1,← hb1]
 clear hw1 hb1 hs1
 refine rz [.i x1,.n x1,.i x2,.n x2,.i x3,.n x3,.i x4,.n x4,.w (Fq.st [.n x1,.n x2,.n x3,.n x4]),.a] [some (9,Fq.st [.n x1,.n x2,.n x3,.n x4])] [] E (fun hp=>⟨zS,wXa (Fq.is (.int .i64 x1)) hp zCy (sqi 0) fun v w h=>(by subst h;exact rOfK w x1 Hx1.out.1 Hx1.out.2),zS,wXa (Fq.is (.int .i64 x2)) hp zCy (sqi 2) fun v w h=>(by subst h;exact rOfK w x2 Hx2.out.1 Hx2.out.2),zS,wXa (Fq.is (.int .i64 x3)) hp zCy (sqi 4) fun v w h=>(by subst h;exact rOfK w x3 Hx3.out.1 Hx3.out.2),zS,wXa (Fq.is (.int .i64 x4)) hp zCy (sqi 6) fun v w h=>(by subst h;exact rOfK w x4 Hx4.out.1 Hx4.out.2),zM1 (z0:=x1) (z1:=x2) (z2:=x3) (z3:=x4) hp fo tv (sqi 1) (sqi 3) (sqi 5) (sqi 7) (fun v w h=>h),sO 0 8 hp (mq 0 rfl) zEe zw,tv⟩) ?_
 intro w2 E _ _
 simp only [Z1] at E ⊢
 clear Hx1 Hx2 Hx3 Hx4
 obtain ⟨_,_,hc0,hf0⟩:=zAy (E.box 0 rfl)
 have hP0:=hf0
 obtain ⟨r0_p0,r0_q0,_,rfl,_r0_n0,r0_p1,r0_q1,_,rfl,_r0_n1,r0_p2,r0_q2,_,rfl,_r0_n2,r0_p3,r0_q3,_,rfl,_r0_n3,rfl⟩:=hf0
 have c0_0:=hc0 0 (by simp)
 have c0_1:=hc0 1 (by simp)
 have c0_2:=hc0 2 (by simp)
 have c0_3:=hc0 3 (by simp)
 have c0_4:=hc0 4 (by simp)
 have c0_5:=hc0 5 (by simp)
 have c0_6:=hc0 6 (by simp)
 have c0_7:=hc0 7 (by simp)
 simp only [List.getD_cons_zero,List.getD_cons_succ] at c0_0 c0_1 c0_2 c0_3 c0_4 c0_5 c0_6 c0_7
 clear hc0
 clear Bx1 Bx2 Bx3 Bx4
 go_wp2
 exact zR (v:=.agg #[r0_p0,r0_q0,r0_p1,r0_q1,r0_p2,r0_q2,r0_p3,r0_q3]) (by simp [results,Tryz.results76,go_sem,c0_0,c0_1,c0_2,c0_3,c0_4,c0_5,c0_6,c0_7]) E.below ⟨_,rfl,hP0⟩

def FiveAt (zs:List Int) (g:Nat) (w:World):Prop:=
 g<w.heap.size∧∀ j,j<5→∃ (n:Bool) (ao:Option Addr) (k c:Nat),w.cell? ⟨g,2*j,none⟩=some (.bool n)∧w.cell? ⟨g,2*j+1,none⟩=some (.slice ao k c)∧Num w (.agg #[.bool n,.slice ao k c]) (zs.getD j 0)

theorem FiveAt.mono {zs:List Int} {g:Nat} {w w':World} (h:FiveAt zs g w) (hb:Below w.heap.size w w'):FiveAt zs g w':=by
 refine ⟨Nat.lt_of_lt_of_le h.1 hb.size,fun j hj=>?_⟩
 obtain ⟨n,ao,k,c,h1,h2,h3⟩:=h.2 j hj
 exact ⟨n,ao,k,c,(hb.cell (p:=⟨g,2*j,none⟩) h.1).trans h1,(hb.cell (p:=⟨g,2*j+1,none⟩) h.1).trans h2,h3.mono hb⟩

section
variable {os : List Oper} {Q : Exit → Act → World → Prop} {a : Act} {p : Plan} {B B0 : Nat} {w0 : World}
variable {i s : Nat} {d : Option Tmp} {ty : TypeId} {ps : String} {af : Array Edge} {gd : Option (Nat × Bool)}

end

theorem cmp_lt {x y:Int} (h:x<y):cmpI x y=-1:=by unfold cmpI;rw [if_pos h]
theorem cmp_gt {x y:Int} (h:y<x):cmpI x y=1:=by unfold cmpI;rw [if_neg zm,if_neg zm]
theorem zSl {neg:Bool} {xs:List Int} (hc:Canon xs) (hn:neg=true→xs.length≠0):zFv neg xs=true:=by
 unfold zFv
 by_cases h:xs.length=0
 ·rw [if_pos h]
  cases neg with
  | false=>rfl
  | true=>exact absurd h (hn rfl)
 ·rw [if_neg h]
  have h1:pw (xs.length-1)≤val xs:=hc.2.resolve_left h
  have h2:=zAr xs (xs.length-1)
  rw [show xs.length-1+1=xs.length by omega,List.take_length] at h2
  have h3:=zA9 (hc.1.take (xs.length-1))
  rw [List.length_take,Nat.min_eq_left zm] at h3
  simp only [bne_iff_ne,ne_eq]
  intro h0
  rw [h0,Int.mul_zero] at h2
  omega

theorem exValid {w:World} {n:Bool} {ao:Option Addr} {k c:Nat} {z:Int} (h:Num w (.agg #[.bool n,.slice ao k c]) z):Calls Tryz.prog 135 #[.agg #[.bool n,.slice ao k c]] w fun e w'=>e=.returned (.bool true)∧Below w.heap.size w w':=by
 obtain ⟨neg,ao',k',c',xs,hv,hs,hn,hz,hc,hnn⟩:=h
 obtain ⟨rfl,rfl,rfl,rfl⟩:n=neg∧ao=ao'∧k=k'∧c=c':=by
  simp at hv;exact ⟨hv.1,hv.2.1,hv.2.2.1,hv.2.2.2⟩
 have:=Valid_any w n ao k c xs hs zm
 rw [zSl hc (by rw [hs.len];exact hnn)] at this
 exact this

theorem exRValid {w:World} {n:Bool} {ao:Option Addr} {k c:Nat} {z:Int} (h:Num w (.agg #[.bool n,.slice ao k c]) z):Calls Tryz.prog 134 #[.agg #[.bool n,.slice ao k c]] w fun e w'=>e=.returned (.bool true)∧Below w.heap.size w w':=by
 obtain ⟨neg,ao',k',c',xs,hv,hs,hn,hz,hc,hnn⟩:=h
 obtain ⟨rfl,rfl,rfl,rfl⟩:n=neg∧ao=ao'∧k=k'∧c=c':=by
  simp at hv;exact ⟨hv.1,hv.2.1,hv.2.2.1,hv.2.2.2⟩
 have:=zW5 w n ao k c xs hs zm
 rw [zSl hc (by rw [hs.len];exact hnn)] at this
 exact this

end Go.Proofs.YtjadciofpgjofaaGreatDoor
