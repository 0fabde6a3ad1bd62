/- Ug, Oq, Or, Os, Mi, Mj, Mk, Pn, Pd, Pe, Pg, Pf, Pk, Ps, Ph, Pi, Pj, Qf, Pq, Qg, Pr, Pt, Pu, Ml, Mm, Mo, Mq, Ms, Mu, Mw, Mx, Na, Nb, Nc, Pv, Px, Qh, Qi, Ot, Ou, Sb, Uh. -/
import Derived.Test.YtjadciofpgjofaaGreatDoorDf4
import Derived.WalkSmall
import Derived.Shelf.Bits.Mul64
import Derived.Lib.BitFns
import Derived.Lib.Walk
import Derived.Lib.Small
import Derived.RangeFuncNested
import Derived.RangeFuncBound
import Derived.RangeFuncCalls
import Derived.RangeFuncLeaves
import Derived.Shelf.Abstract
import Derived.Shelf.RegionOpen
import Derived.WalkKit
import Derived.OwnWalkIn
import Derived.TacticsInMore
import Derived.LoopNIn
import Derived.LoopIn
import Derived.Laws.OwnMore
import Derived.Deep.AppendLies
import Derived.Recover
import Derived.Laws.Pointers
set_option linter.unusedSimpArgs false
set_option linter.unusedVariables false
set_option maxRecDepth 100000
set_option maxHeartbeats 8000000
namespace Go.Proofs.YtjadciofpgjofaaGreatDoor
open Go Go.RowKit

theorem zOs:En 30:=zAd Tryz.func30 (by kernel_rfl) rfl
theorem zOu:En 140:=zAd Tryz.func140 (by kernel_rfl) rfl
theorem zOv:En 33:=zAd Tryz.func33 (by kernel_rfl) rfl
theorem zC5:En 27:=zAd Tryz.func27 (by kernel_rfl) rfl
theorem zOt:En 28:=zAd Tryz.func28 (by kernel_rfl) rfl
theorem zLi:En 106:=zAd Tryz.func106 (by kernel_rfl) rfl
theorem zF8:En 105:=zAd Tryz.func105 (by kernel_rfl) rfl
theorem zJj:En 26:=zAd Tryz.func26 (by kernel_rfl) rfl
theorem zTw:En 29:=zAd Tryz.func29 (by kernel_rfl) rfl
theorem zLj:En 75:=zAd Tryz.func75 (by kernel_rfl) rfl
theorem zOx:En 154:=zAd Tryz.func154 (by kernel_rfl) rfl
theorem zJk:En 68:=zAd Tryz.func68 (by kernel_rfl) rfl
theorem zOw:En 69:=zAd Tryz.func69 (by kernel_rfl) rfl
theorem zHu:En 70:=zAd Tryz.func70 (by kernel_rfl) rfl
theorem zDu {w:World} {v:Value} {z:Int} (h:Num w v z):Calls Tryz.prog 135 #[v] w fun e w'=>∃ v',e=.returned v'∧Below w.heap.size w w'∧v'=.bool true:=by
 obtain ⟨n,ao,k,c,rfl⟩:=h.parts
 refine (exValid h).mono ?_
 rintro e w' ⟨rfl,hb⟩
 exact ⟨_,rfl,hb,rfl⟩
theorem exPSqrt {n:Int} (h0:0≤n) (hn:ab n<pw 40):∃ s:Int,(∀ (w:World) (v:Value),Num w v n→Calls Tryz.prog 118 #[v] w fun e w'=>∃ v',e=.returned v'∧Below w.heap.size w w'∧(Fq.tup3 (Fq.num s) (Fq.num (n-s*s)) (Fq.is (.int .i64 0))).P v' w')∧sqB n=decide (n-s*s=0):=by
 obtain ⟨s,s0,s1,s2⟩:=isq_ex n.toNat
 have e:((n.toNat:Nat):Int)=n:=zm
 rw [e] at s1 s2
 refine ⟨s,fun w v hv=>(SqrtV hv (zu hn)).mono fun e w' hh=>?_,zSa s0 s1 s2⟩
 obtain ⟨hB,⟨h1,_⟩ | ⟨_,v1,v2,r,rfl,hr1,hr2,hr⟩⟩:=hh
 ·omega
 ·obtain ⟨q0,q1,q2⟩:=root_sq hr
  obtain rfl:r=s:=zL2 q0 q1 q2 s0 s1 s2
  have hbr:ab r<pw 40:=by
   have h4:=hn
   have h5:r≤r*r:=by
    rcases Int.lt_or_le 0 r with h | h
    ·have:=Int.mul_le_mul_of_nonneg_left (show 1≤r by omega) s0;omega
    ·have:=Int.mul_nonneg s0 s0;omega
   unfold ab at *
   generalize pw 40=k at *
   omega
  have hbr2:ab (n-r*r)<pw 40:=by
   have h4:=hn
   have:=Int.mul_nonneg s0 s0
   unfold ab at *
   generalize pw 40=k at *
   omega
  exact ⟨_,rfl,hB,v1,v2,_,rfl,zCq hr1 hbr zm,zCq hr2 hbr2 zm,rfl⟩
theorem exPSqrtN {w:World} {v:Value} {n:Int} (h:Num w v n) (hn:ab n<pw 40) (h0:n<0):Calls Tryz.prog 118 #[v] w fun e w'=>∃ v',e=.returned v'∧Below w.heap.size w w'∧(Fq.tup3 (Fq.num 0) (Fq.num 0) (Fq.is (.int .i64 1))).P v' w':=by
 refine (SqrtV h (zu hn)).mono fun e w' hh=>?_
 obtain ⟨hB,⟨_,rfl⟩ | ⟨h1,_⟩⟩:=hh
 ·exact ⟨_,rfl,hB,_,_,_,rfl,Num.zero w',Num.zero w',rfl⟩
 ·omega
theorem zLx {a b c:Int} (hd:b*b-4*(a*c)<0):a≠0:=by
 rintro rfl
 have:=zE1 b
 rw [Int.zero_mul] at hd
 omega
theorem cmpI_eq0 {x y:Int}:cmpI x y=0 ↔ x=y:=cmpIq0
theorem zRs (a b c:Int):dfB a b c=decide (redE a b c=0):=by
 unfold dfB redE
 by_cases hd:b*b-4*(a*c)<0
 ·rw [if_neg (fun x=>zm)]
  by_cases hz:a<0
  ·rw [zN9 hd hz,decide_eq_false zm];rfl
  ·rw [zK5 hd hz,decide_eq_true zm];rfl
 ·rw [zK6 hd,decide_eq_false zm]
  symm
  refine decide_eq_false ?_
  by_cases hq:sqB (b*b-4*(a*c))=true
  ·rw [if_pos hq,if_neg (fun x=>absurd x.1 zd)];decide
  ·rw [if_neg hq,if_pos ⟨rfl,by
    rcases Int.lt_or_le 0 (b*b-4*(a*c)) with h | h
    ·exact h
    ·exfalso
     have e:b*b-4*(a*c)=0:=zm
     rw [e] at hq
     exact hq (sqB_iff.2 ⟨0,rfl⟩)⟩]
   decide
theorem zVg {w:World} {v:Value} {n:Int} (h:Num w v n) (hn:ab n<pw 40) (hc:n<0) {t:Bool} (ht:sqB n=t) :
  Rt 70 #[v] w fun v' w'=>v'=.bool t:=by
 replace hn:=hidd hn
 have ht2:t=false:=ht.symm.trans (zIn hc)
 subst ht2
 clear ht
 have HC:=hidd hc
 clear hc
 obtain ⟨n0,ao0,k0,c0,rfl⟩:=h.parts
 obtain ⟨w1,b1,hw1,hb1,hs1,E⟩:=gN w 36 h
 go_enter Tryz.func70,Tryz.ntmps70
 go_upto_region 1 with (fail)
 rw [← hw1,← hb1]
 clear hw1 hb1 hs1
 refine rz [.n n,.w (Fq.tup3 (Fq.num 0) (Fq.num 0) (Fq.is (.int .i64 1))),.w (Fq.tup3 (Fq.num 0) (Fq.num 0) (Fq.is (.int .i64 1))),.n 0,.n 0,.i 1,.k,.k,.a,.a,.i 1] [none] [⟨6,8,2,Fq.num 0,Fq.num 0,none⟩,⟨7,9,2,Fq.num 0,Fq.num 0,none⟩] E (fun hp=>⟨lI 0 hp J0 zw,zc hp zOh zi fun v w h=>exPSqrtN h hn.out HC.out,zS,zS,zS,zS,aN hp J0,aN hp J1,sN 3 hp J0,sN 4 hp J1,zS,tv⟩) ?_
 intro w2 b2_6 b2_7 E _ _
 simp only [rzE] at E ⊢
 clear HC
 go_upto_region 2 with (fail)
 refine rz [.i 1,.o,.o,.u (undef),.u (undef),.u (undef),.o,.o] N3 [] E (fun hp=>⟨zS,zo hp (sqi 0),zS,zS,zS,zS,zt hp (sqi 2) (zk (.bool false)),zS,tv⟩) ?_
 intro w3 E _ _
 simp only [rzE] at E ⊢
 clear hn
 go_wp2
 exact zR (v:=.bool false) (by simp [results,Tryz.results70,go_sem]) E.below rfl

theorem zVh {w:World} {v:Value} {n:Int} (h:Num w v n) (hn:ab n<pw 40) (hc:¬ n<0) {t:Bool} (ht:sqB n=t) :
  Rt 70 #[v] w fun v' w'=>v'=.bool t:=by
 replace hn:=hidd hn
 obtain ⟨s,hS,hq⟩:=exPSqrt zm hn.out
 have HS:=hidd hS
 have ht3:t=decide (n-s*s=0):=ht.symm.trans hq
 clear hc hS hq ht
 have HT:Hid (t=decide (n-s*s=0)):=ht3
 clear ht3
 obtain ⟨n0,ao0,k0,c0,rfl⟩:=h.parts
 obtain ⟨w1,b1,hw1,hb1,hs1,E⟩:=gN w 36 h
 go_enter Tryz.func70,Tryz.ntmps70
 go_upto_region 1 with (fail)
 rw [← hw1,← hb1]
 clear hw1 hb1 hs1
 refine rz [.n n,.w (Fq.tup3 (Fq.num s) (Fq.num (n-s*s)) (Fq.is (.int .i64 0))),.w (Fq.tup3 (Fq.num s) (Fq.num (n-s*s)) (Fq.is (.int .i64 0))),.n s,.n (n-s*s),.i 0,.k,.k,.a,.a,.i 0] [none] [⟨6,8,2,Fq.num 0,Fq.num s,none⟩,⟨7,9,2,Fq.num 0,Fq.num (n-s*s),none⟩] E (fun hp=>⟨lI 0 hp J0 zw,zc hp zOh zi fun v w h=>HS.out _ _ h,zS,zS,zS,zS,aN hp J0,aN hp J1,sN 3 hp J0,sN 4 hp J1,zS,tv⟩) ?_
 intro w2 b2_6 b2_7 E _ _
 simp only [rzE] at E ⊢
 go_upto_region 2 with (fail)
 by_cases hz:n-s*s=0
 ·have T2:Hid (cmpI (n-s*s) 0=0):=cmpIq0.2 hz
  have ht2:t=true:=HT.out.trans (decide_eq_true hz)
  subst ht2
  clear hz HT
  refine rz [.i 0,.t,.t,.n (n-s*s),.i (cmpI (n-s*s) 0),.t,.t,.t] N3 [] E (fun hp=>⟨zS,zo hp (sqi 0),zS,zA1 (off:=0) hp fo gqi J1 (.inl rfl) (Nat.le_of_ble_eq_true rfl) (sqo 4) (fun us w hl h=>zAz hl h),zc hp zA3 zi (fun v w h=>zA5 h),zO hp (sqi 4) T2.out,zt hp (sqi 2) (sqi 5),zS,tv⟩) ?_
  intro w3 E _ _
  simp only [rzE] at E ⊢
  clear T2 HS
  clear hn
  go_wp2
  exact zR (v:=.bool true) (by simp [results,Tryz.results70,go_sem]) E.below rfl
 ·have T2:Hid (¬ cmpI (n-s*s) 0=0):=fun e=>hz (cmpIq0.1 e)
  have ht2:t=false:=HT.out.trans (decide_eq_false hz)
  subst ht2
  clear hz HT
  refine rz [.i 0,.t,.t,.n (n-s*s),.i (cmpI (n-s*s) 0),.o,.o,.o] N3 [] E (fun hp=>⟨zS,zo hp (sqi 0),zS,zA1 (off:=0) hp fo gqi J1 (.inl rfl) (Nat.le_of_ble_eq_true rfl) (sqo 4) (fun us w hl h=>zAz hl h),zc hp zA3 zi (fun v w h=>zA5 h),zO hp (sqi 4) T2.out,zt hp (sqi 2) (sqi 5),zS,tv⟩) ?_
  intro w4 E _ _
  simp only [rzE] at E ⊢
  clear T2 HS
  clear hn
  go_wp2
  exact zR (v:=.bool false) (by simp [results,Tryz.results70,go_sem]) E.below rfl

theorem zHx {w:World} {v:Value} {n:Int} (h:Num w v n) (hn:ab n<pw 40) {t:Bool} (ht:sqB n=t) :
  Rt 70 #[v] w fun v' w'=>v'=.bool t:=by
 by_cases hc:n<0
 ·exact zVg h hn hc ht
 ·exact zVh h hn hc ht

theorem exPDisc0 {w:World} {v:Value} {a b c:Int} (h:(f3 a b c).P v w) (ha:ab a<pw 60) (hb:ab b<pw 60) (hc:ab c<pw 60) :
  Rt 27 #[v] w fun v' w'=>Num w' v' (((b*b)-((4)*(a*c)))):=by
 replace ha:=hidd ha
 replace hb:=hidd hb
 replace hc:=hidd hc
 obtain ⟨y0_p0,y0_q0,y0_p1,y0_q1,y0_p2,y0_q2,rfl,hF0⟩:=o3 h
 obtain ⟨w1,b1,hw1,hb1,hs1,E⟩:=gS w 38 hF0
 obtain ⟨w2,b2,hw2,hb2,hs2,E⟩:=fZ E hs1 36
 go_enter Tryz.func27,Tryz.ntmps27
 go_upto_region 1 with (fail)
 rw [← hw1,← hw2]
 rw [← hb2,← hb1]
 clear hw1 hw2 hb1 hb2 hs2 hs1
 have B3:Hid (ab ((4))<pw 3):=zB5 zd
 refine rz [.n (4),.k,.a] N2 [⟨1,2,2,Fq.num 0,Fq.num (4),none⟩] E (fun hp=>⟨zBp (F:=(Fq.is (.int .i64 4)).P) hp fo tv (zBw) (zAk (fun _=>rfl)) (fun v w h=>(by subst h;exact OfK w (4) zm zm)),aN hp J0,sN 0 hp J0,tv⟩) ?_
 intro w4 b4_1 E _ _
 simp only [rzE] at E ⊢
 go_upto_region 2 with (fail)
 have B5:Hid (ab ((b*b))<pw 120):=zAl hb.out hb.out zm
 have B6:Hid (ab ((a*c))<pw 120):=zAl ha.out hc.out zm
 have B7:Hid (ab (((4)*(a*c)))<pw 123):=zAl B3.out B6.out zm
 have B8:Hid (ab (((b*b)-((4)*(a*c))))<pw 124):=zCm B5.out B7.out zm zm
 refine rz [.p b1 2,.n b,.p b1 2,.n b,.n (b*b),.n (4),.p b1 0,.n a,.p b1 4,.n c,.n (a*c),.n ((4)*(a*c)),.n ((b*b)-((4)*(a*c))),.a] [none,some (13,Fq.num ((b*b)-((4)*(a*c)))),none] [] E (fun hp=>⟨qa b1 0 2 hp zw,lN 2 2 hp J2 zAa zi,qa b1 0 2 hp zw,lN 2 2 hp J2 zAa zi,zC hp zBe zi zi fun v v' w h h'=>exK (MulV h h') B5.out zm,lI 0 hp J0 zw,qa b1 0 0 hp zw,lN 0 2 hp J2 zAa zi,qa b1 0 4 hp zw,lN 4 2 hp J2 zAa zi,zC hp zBe zi zi fun v v' w h h'=>exK (MulV h h') B6.out zm,zC hp zBe zi zi fun v v' w h h'=>exK (MulV h h') B7.out zm,zC hp zF6 zi zi fun v v' w h h'=>exK (SubV h h') B8.out zm,sP 12 hp J1 zw,tv⟩) ?_
 intro w9 E _ _
 simp only [rzE] at E ⊢
 obtain ⟨p0_0,p0_1,c0_0,c0_1,hP0⟩:=zCg (E.box 1 rfl)
 clear B3 B5 B6 B7 B8 ha hb hc
 go_wp2
 exact zR (v:=.agg #[p0_0,p0_1]) (by simp [results,Tryz.results27,go_sem,c0_0,c0_1]) E.below hP0

theorem zC6 {w:World} {v:Value} {a b c:Int} (h:(f3 a b c).P v w) (ha:ab a<pw 60) (hb:ab b<pw 60) (hc:ab c<pw 60) :
  Rt 27 #[v] w fun v' w'=>Num w' v' (b*b-4*(a*c)):=exPDisc0 h ha hb hc

theorem zU3 {w:World} {v:Value} {a b c:Int} (h:(f3 a b c).P v w) (ha:ab a<pw 40) (hb:ab b<pw 40) (hc:ab c<pw 40) (hD:ab (b*b-4*(a*c))<pw 40) (hq:sqB (b*b-4*(a*c))=true) :
  Rt 105 #[v] w fun v' w'=>v'=.int .i64 5:=by
 replace ha:=hidd ha
 replace hb:=hidd hb
 replace hc:=hidd hc
 have HQ:=hidd hq
 clear hq
 have HDB:=hidd hD
 clear hD
 obtain ⟨y0_p0,y0_q0,y0_p1,y0_q1,y0_p2,y0_q2,rfl,hF0⟩:=o3 h
 obtain ⟨w1,b1,hw1,hb1,hs1,E⟩:=gS w 38 hF0
 go_enter Tryz.func105,Tryz.ntmps105
 go_upto_region 1 with (fail)
 rw [← hw1,← hb1]
 clear hw1 hb1 hs1
 refine rz [.p b1 0,.n a,.t,.o,.o,.p b1 2,.n b,.t,.o,.o,.o,.p b1 4,.n c,.t,.o,.o] [none] [] E (fun hp=>⟨qa b1 0 0 hp zw,lN 0 2 hp J0 zAa zi,zc hp zDt zi fun v w h=>zDu h,zo hp (sqi 2),zS,zg b1 0 2 hp zw,lG 2 2 hp gqi J0 zAa zi fun v w h=>zAe h,zc hp zDt zi (fun v w h=>zDu h),zo hp (sqi 7),zt hp (sqi 4) (sqi 8),zS,zg b1 0 4 hp zw,lG 4 2 hp gqi J0 zAa zi fun v w h=>zAe h,zc hp zDt zi (fun v w h=>zDu h),zo hp (sqi 13),zt hp (sqi 10) (sqi 14),tv⟩) ?_
 intro w2 E _ _
 simp only [rzE] at E ⊢
 go_upto_region 3 with (fail)
 refine rz [.w (f3 a b c),.n (b*b-4*(a*c)),.k,.a] [none] [⟨2,3,2,Fq.num 0,Fq.num (b*b-4*(a*c)),none⟩] E (fun hp=>⟨lS 0 6 hp J0 zAc zw,zc hp zC5 zi fun v w h=>zC6 h (zu ha.out) (zu hb.out) (zu hc.out),aN hp J0,sN 1 hp J0,tv⟩) ?_
 intro w3 b3_2 E _ _
 simp only [rzE] at E ⊢
 go_upto_region 4 with (fail)
 refine rz [.n (b*b-4*(a*c)),.t,.t] N2 [] E (fun hp=>⟨lI 0 hp J0 zw,zc hp zHu zi fun v w h=>zHx h HDB.out HQ.out,zS,tv⟩) ?_
 intro w4 E _ _
 simp only [rzE] at E ⊢
 go_upto_region 5 with (fail)
 refine rz [.i 5] N2 [] E (fun hp=>⟨zS,tv⟩) ?_
 intro w5 E _ _
 simp only [rzE] at E ⊢
 clear HQ
 clear ha hb hc HDB
 go_wp2
 exact zR (v:=.int .i64 5) (by simp [results,Tryz.results105,go_sem]) E.below rfl

theorem zU2 {w:World} {v:Value} {a b c:Int} (h:(f3 a b c).P v w) (ha:ab a<pw 40) (hb:ab b<pw 40) (hc:ab c<pw 40) (hD:ab (b*b-4*(a*c))<pw 40) (hq:sqB (b*b-4*(a*c))=false) (hd:(b*b-4*(a*c))<0) (hz:a<0) :
  Rt 105 #[v] w fun v' w'=>v'=.int .i64 1:=by
 replace ha:=hidd ha
 replace hb:=hidd hb
 replace hc:=hidd hc
 have HQ:=hidd hq
 clear hq
 have HDB:=hidd hD
 clear hD
 have T1:Hid (cmpI (b*b-4*(a*c)) 0<0):=cmpIqlt.2 hd
 clear hd
 have T2:Hid (cmpI a 0≤0):=by have:=cmpIqlt.2 hz;show _≤_;omega
 clear hz
 obtain ⟨y0_p0,y0_q0,y0_p1,y0_q1,y0_p2,y0_q2,rfl,hF0⟩:=o3 h
 obtain ⟨w1,b1,hw1,hb1,hs1,E⟩:=gS w 38 hF0
 go_enter Tryz.func105,Tryz.ntmps105
 go_upto_region 1 with (fail)
 rw [← hw1,← hb1]
 clear hw1 hb1 hs1
 refine rz [.p b1 0,.n a,.t,.o,.o,.p b1 2,.n b,.t,.o,.o,.o,.p b1 4,.n c,.t,.o,.o] [none] [] E (fun hp=>⟨qa b1 0 0 hp zw,lN 0 2 hp J0 zAa zi,zc hp zDt zi fun v w h=>zDu h,zo hp (sqi 2),zS,zg b1 0 2 hp zw,lG 2 2 hp gqi J0 zAa zi fun v w h=>zAe h,zc hp zDt zi (fun v w h=>zDu h),zo hp (sqi 7),zt hp (sqi 4) (sqi 8),zS,zg b1 0 4 hp zw,lG 4 2 hp gqi J0 zAa zi fun v w h=>zAe h,zc hp zDt zi (fun v w h=>zDu h),zo hp (sqi 13),zt hp (sqi 10) (sqi 14),tv⟩) ?_
 intro w2 E _ _
 simp only [rzE] at E ⊢
 go_upto_region 3 with (fail)
 refine rz [.w (f3 a b c),.n (b*b-4*(a*c)),.k,.a] [none] [⟨2,3,2,Fq.num 0,Fq.num (b*b-4*(a*c)),none⟩] E (fun hp=>⟨lS 0 6 hp J0 zAc zw,zc hp zC5 zi fun v w h=>zC6 h (zu ha.out) (zu hb.out) (zu hc.out),aN hp J0,sN 1 hp J0,tv⟩) ?_
 intro w3 b3_2 E _ _
 simp only [rzE] at E ⊢
 go_upto_region 4 with (fail)
 refine rz [.n (b*b-4*(a*c)),.o,.o] N2 [] E (fun hp=>⟨lI 0 hp J0 zw,zc hp zHu zi fun v w h=>zHx h HDB.out HQ.out,zS,tv⟩) ?_
 intro w4 E _ _
 simp only [rzE] at E ⊢
 go_upto_region 6 with (fail)
 refine rz [.n (b*b-4*(a*c)),.i (cmpI (b*b-4*(a*c)) 0),.t,.t,.p b1 0,.n a,.i (cmpI a 0),.t,.t,.t] N2 [] E (fun hp=>⟨lI 0 hp J0 zw,zc hp zA3 zi fun v w h=>zA5 h,zO hp (sqi 1) T1.out,zS,zg b1 0 0 hp zw,lG 0 2 hp gqi J1 zAa zi fun v w h=>zAe h,zc hp zA3 zi (fun v w h=>zA5 h),zO hp (sqi 6) T2.out,zt hp (sqi 3) (sqi 7),zS,tv⟩) ?_
 intro w5 E _ _
 simp only [rzE] at E ⊢
 go_upto_region 7 with (fail)
 refine rz [.i 1] N2 [] E (fun hp=>⟨zS,tv⟩) ?_
 intro w6 E _ _
 simp only [rzE] at E ⊢
 clear HQ T1 T2
 clear ha hb hc HDB
 go_wp2
 exact zR (v:=.int .i64 1) (by simp [results,Tryz.results105,go_sem]) E.below rfl

theorem zU0 {w:World} {v:Value} {a b c:Int} (h:(f3 a b c).P v w) (ha:ab a<pw 40) (hb:ab b<pw 40) (hc:ab c<pw 40) (hD:ab (b*b-4*(a*c))<pw 40) (hq:sqB (b*b-4*(a*c))=false) (hd:(b*b-4*(a*c))<0) (hz:0<a) :
  Rt 105 #[v] w fun v' w'=>v'=.int .i64 0:=by
 replace ha:=hidd ha
 replace hb:=hidd hb
 replace hc:=hidd hc
 have HQ:=hidd hq
 clear hq
 have HDB:=hidd hD
 clear hD
 have T1:Hid (cmpI (b*b-4*(a*c)) 0<0):=cmpIqlt.2 hd
 clear hd
 have T2:Hid (¬ cmpI a 0≤0):=by have:=cmpIqgt.2 hz;show ¬ _≤_;omega
 clear hz
 obtain ⟨y0_p0,y0_q0,y0_p1,y0_q1,y0_p2,y0_q2,rfl,hF0⟩:=o3 h
 obtain ⟨w1,b1,hw1,hb1,hs1,E⟩:=gS w 38 hF0
 go_enter Tryz.func105,Tryz.ntmps105
 go_upto_region 1 with (fail)
 rw [← hw1,← hb1]
 clear hw1 hb1 hs1
 refine rz [.p b1 0,.n a,.t,.o,.o,.p b1 2,.n b,.t,.o,.o,.o,.p b1 4,.n c,.t,.o,.o] [none] [] E (fun hp=>⟨qa b1 0 0 hp zw,lN 0 2 hp J0 zAa zi,zc hp zDt zi fun v w h=>zDu h,zo hp (sqi 2),zS,zg b1 0 2 hp zw,lG 2 2 hp gqi J0 zAa zi fun v w h=>zAe h,zc hp zDt zi (fun v w h=>zDu h),zo hp (sqi 7),zt hp (sqi 4) (sqi 8),zS,zg b1 0 4 hp zw,lG 4 2 hp gqi J0 zAa zi fun v w h=>zAe h,zc hp zDt zi (fun v w h=>zDu h),zo hp (sqi 13),zt hp (sqi 10) (sqi 14),tv⟩) ?_
 intro w2 E _ _
 simp only [rzE] at E ⊢
 go_upto_region 3 with (fail)
 refine rz [.w (f3 a b c),.n (b*b-4*(a*c)),.k,.a] [none] [⟨2,3,2,Fq.num 0,Fq.num (b*b-4*(a*c)),none⟩] E (fun hp=>⟨lS 0 6 hp J0 zAc zw,zc hp zC5 zi fun v w h=>zC6 h (zu ha.out) (zu hb.out) (zu hc.out),aN hp J0,sN 1 hp J0,tv⟩) ?_
 intro w3 b3_2 E _ _
 simp only [rzE] at E ⊢
 go_upto_region 4 with (fail)
 refine rz [.n (b*b-4*(a*c)),.o,.o] N2 [] E (fun hp=>⟨lI 0 hp J0 zw,zc hp zHu zi fun v w h=>zHx h HDB.out HQ.out,zS,tv⟩) ?_
 intro w4 E _ _
 simp only [rzE] at E ⊢
 go_upto_region 6 with (fail)
 refine rz [.n (b*b-4*(a*c)),.i (cmpI (b*b-4*(a*c)) 0),.t,.t,.p b1 0,.n a,.i (cmpI a 0),.o,.o,.o] N2 [] E (fun hp=>⟨lI 0 hp J0 zw,zc hp zA3 zi fun v w h=>zA5 h,zO hp (sqi 1) T1.out,zS,zg b1 0 0 hp zw,lG 0 2 hp gqi J1 zAa zi fun v w h=>zAe h,zc hp zA3 zi (fun v w h=>zA5 h),zO hp (sqi 6) T2.out,zt hp (sqi 3) (sqi 7),zS,tv⟩) ?_
 intro w5 E _ _
 simp only [rzE] at E ⊢
 go_upto_region 8 with (fail)
 refine rz [.i 0] N2 [] E (fun hp=>⟨zS,tv⟩) ?_
 intro w6 E _ _
 simp only [rzE] at E ⊢
 clear HQ T1 T2
 clear ha hb hc HDB
 go_wp2
 exact zR (v:=.int .i64 0) (by simp [results,Tryz.results105,go_sem]) E.below rfl

theorem zU1 {w:World} {v:Value} {a b c:Int} (h:(f3 a b c).P v w) (ha:ab a<pw 40) (hb:ab b<pw 40) (hc:ab c<pw 40) (hD:ab (b*b-4*(a*c))<pw 40) (hq:sqB (b*b-4*(a*c))=false) (hd:¬ (b*b-4*(a*c))<0) :
  Rt 105 #[v] w fun v' w'=>v'=.int .i64 0:=by
 replace ha:=hidd ha
 replace hb:=hidd hb
 replace hc:=hidd hc
 have HQ:=hidd hq
 clear hq
 have HDB:=hidd hD
 clear hD
 have T1:Hid (¬ cmpI (b*b-4*(a*c)) 0<0):=fun e=>hd (cmpIqlt.1 e)
 clear hd
 obtain ⟨y0_p0,y0_q0,y0_p1,y0_q1,y0_p2,y0_q2,rfl,hF0⟩:=o3 h
 obtain ⟨w1,b1,hw1,hb1,hs1,E⟩:=gS w 38 hF0
 go_enter Tryz.func105,Tryz.ntmps105
 go_upto_region 1 with (fail)
 rw [← hw1,← hb1]
 clear hw1 hb1 hs1
 refine rz [.p b1 0,.n a,.t,.o,.o,.p b1 2,.n b,.t,.o,.o,.o,.p b1 4,.n c,.t,.o,.o] [none] [] E (fun hp=>⟨qa b1 0 0 hp zw,lN 0 2 hp J0 zAa zi,zc hp zDt zi fun v w h=>zDu h,zo hp (sqi 2),zS,zg b1 0 2 hp zw,lG 2 2 hp gqi J0 zAa zi fun v w h=>zAe h,zc hp zDt zi (fun v w h=>zDu h),zo hp (sqi 7),zt hp (sqi 4) (sqi 8),zS,zg b1 0 4 hp zw,lG 4 2 hp gqi J0 zAa zi fun v w h=>zAe h,zc hp zDt zi (fun v w h=>zDu h),zo hp (sqi 13),zt hp (sqi 10) (sqi 14),tv⟩) ?_
 intro w2 E _ _
 simp only [rzE] at E ⊢
 go_upto_region 3 with (fail)
 refine rz [.w (f3 a b c),.n (b*b-4*(a*c)),.k,.a] [none] [⟨2,3,2,Fq.num 0,Fq.num (b*b-4*(a*c)),none⟩] E (fun hp=>⟨lS 0 6 hp J0 zAc zw,zc hp zC5 zi fun v w h=>zC6 h (zu ha.out) (zu hb.out) (zu hc.out),aN hp J0,sN 1 hp J0,tv⟩) ?_
 intro w3 b3_2 E _ _
 simp only [rzE] at E ⊢
 go_upto_region 4 with (fail)
 refine rz [.n (b*b-4*(a*c)),.o,.o] N2 [] E (fun hp=>⟨lI 0 hp J0 zw,zc hp zHu zi fun v w h=>zHx h HDB.out HQ.out,zS,tv⟩) ?_
 intro w4 E _ _
 simp only [rzE] at E ⊢
 go_upto_region 6 with (fail)
 refine rz [.n (b*b-4*(a*c)),.i (cmpI (b*b-4*(a*c)) 0),.o,.o,.u (undef),.u (undef),.u (undef),.u (undef),.o,.o] N2 [] E (fun hp=>⟨lI 0 hp J0 zw,zc hp zA3 zi fun v w h=>zA5 h,zO hp (sqi 1) T1.out,zS,zS,zS,zS,zS,zt hp (sqi 3) (zk (.bool false)),zS,tv⟩) ?_
 intro w5 E _ _
 simp only [rzE] at E ⊢
 go_upto_region 8 with (fail)
 refine rz [.i 0] N2 [] E (fun hp=>⟨zS,tv⟩) ?_
 intro w6 E _ _
 simp only [rzE] at E ⊢
 clear HQ T1
 clear ha hb hc HDB
 go_wp2
 exact zR (v:=.int .i64 0) (by simp [results,Tryz.results105,go_sem]) E.below rfl

theorem zGb {w:World} {v:Value} {a b c:Int} (h:(f3 a b c).P v w) (ha:ab a<pw 40) (hb:ab b<pw 40) (hc:ab c<pw 40) (hD:ab (b*b-4*(a*c))<pw 40) {e0:Int} (he:chkF a b c=e0) :
  Rt 105 #[v] w fun v' w'=>v'=.int .i64 e0:=by
 subst he
 unfold chkF
 cases hq:sqB (b*b-4*(a*c)) with
 | true=>rw [if_pos rfl];exact zU3 h ha hb hc hD hq
 | false=>
  rw [if_neg zd]
  by_cases hd:(b*b-4*(a*c))<0
  ·have hne:=zLx hd
   by_cases hz:a<0
   ·rw [if_pos ⟨hd,hz⟩];exact zU2 h ha hb hc hD hq hd hz
   ·rw [if_neg fun x=>hz x.2];exact zU0 h ha hb hc hD hq hd zm
  ·rw [if_neg fun x=>hd x.1];exact zU1 h ha hb hc hD hq hd

theorem exPPrim0 {w:World} {v:Value} {a b c:Int} (h:(f3 a b c).P v w) (ha:ab a<pw 60) (hb:ab b<pw 60) (hc:ab c<pw 60) {t:Bool} (ht:decide ((Int.gcd (Int.gcd a b:Int) c:Int)=1)=t) :
  Rt 106 #[v] w fun v' w'=>v'=.bool t:=by
 replace ha:=hidd ha
 replace hb:=hidd hb
 replace hc:=hidd hc
 obtain ⟨y0_p0,y0_q0,y0_p1,y0_q1,y0_p2,y0_q2,rfl,hF0⟩:=o3 h
 obtain ⟨w1,b1,hw1,hb1,hs1,E⟩:=gS w 38 hF0
 go_enter Tryz.func106,Tryz.ntmps106
 go_upto_region 1 with (fail)
 rw [← hw1,← hb1]
 clear hw1 hb1 hs1
 have HT:=hidd ht
 clear ht
 have B2:Hid (ab ((Int.gcd a b:Int))<pw 60):=zIu ha.out hb.out zm zm
 have B3:Hid (ab ((Int.gcd (Int.gcd a b:Int) c:Int))<pw 60):=zIu B2.out hc.out zm zm
 refine rz [.p b1 0,.n a,.p b1 2,.n b,.n (Int.gcd a b:Int),.p b1 4,.n c,.n (Int.gcd (Int.gcd a b:Int) c:Int),.k,.a] [none] [⟨8,9,2,Fq.num 0,Fq.num (Int.gcd (Int.gcd a b:Int) c:Int),none⟩] E (fun hp=>⟨qa b1 0 0 hp zw,lN 0 2 hp J0 zAa zi,qa b1 0 2 hp zw,lN 2 2 hp J0 zAa zi,zC hp enq_Gcd zi zi fun v v' w h h'=>exK (GcdV h h') B2.out zm,qa b1 0 4 hp zw,lN 4 2 hp J0 zAa zi,zC hp enq_Gcd zi zi fun v v' w h h'=>exK (GcdV h h') B3.out zm,aN hp J0,sN 7 hp J0,tv⟩) ?_
 intro w4 b4_8 E _ _
 simp only [rzE] at E ⊢
 go_upto_region 2 with (fail)
 by_cases hz:(Int.gcd (Int.gcd a b:Int) c:Int)=1
 ·have T2:Hid (cmpI (Int.gcd (Int.gcd a b:Int) c:Int) 1=0):=cmpIq0.2 hz
  have ht2:t=true:=HT.out.symm.trans (decide_eq_true hz)
  subst ht2
  clear hz HT
  have B5:Hid (ab ((1))<pw 3):=zB5 zd
  refine rz [.n (Int.gcd (Int.gcd a b:Int) c:Int),.n (1),.i (cmpI (Int.gcd (Int.gcd a b:Int) c:Int) (1)),.t,.t] N2 [] E (fun hp=>⟨lI 0 hp J0 zw,zBp (F:=(Fq.is (.int .i64 1)).P) hp fo tv (zBw) (zAk (fun _=>rfl)) (fun v w h=>(by subst h;exact OfK w (1) zm zm)),zC hp zA2 zi zi fun v v' w h h'=>zA4 h h',zO hp (sqi 2) T2.out,zS,tv⟩) ?_
  intro w6 E _ _
  simp only [rzE] at E ⊢
  clear T2
  clear B2 B3 B5 ha hb hc
  go_wp2
  exact zR (v:=.bool true) (by simp [results,Tryz.results106,go_sem]) E.below rfl
 ·have T2:Hid (¬ cmpI (Int.gcd (Int.gcd a b:Int) c:Int) 1=0):=fun e=>hz (cmpIq0.1 e)
  have ht2:t=false:=HT.out.symm.trans (decide_eq_false hz)
  subst ht2
  clear hz HT
  have B7:Hid (ab ((1))<pw 3):=zB5 zd
  refine rz [.n (Int.gcd (Int.gcd a b:Int) c:Int),.n (1),.i (cmpI (Int.gcd (Int.gcd a b:Int) c:Int) (1)),.o,.o] N2 [] E (fun hp=>⟨lI 0 hp J0 zw,zBp (F:=(Fq.is (.int .i64 1)).P) hp fo tv (zBw) (zAk (fun _=>rfl)) (fun v w h=>(by subst h;exact OfK w (1) zm zm)),zC hp zA2 zi zi fun v v' w h h'=>zA4 h h',zO hp (sqi 2) T2.out,zS,tv⟩) ?_
  intro w8 E _ _
  simp only [rzE] at E ⊢
  clear T2
  clear B2 B3 B7 ha hb hc
  go_wp2
  exact zR (v:=.bool false) (by simp [results,Tryz.results106,go_sem]) E.below rfl

theorem zLs {w:World} {v:Value} {a b c:Int} (h:(f3 a b c).P v w) (ha:ab a<pw 60) (hb:ab b<pw 60) (hc:ab c<pw 60) {t:Bool} (ht:decide (cont a b c=1)=t) :
  Rt 106 #[v] w fun v' w'=>v'=.bool t:=exPPrim0 h ha hb hc ht

theorem exPValue0 {w:World} {v v' u:Value} {a b c x y:Int} (h:(f3 a b c).P v w) (h':Num w v' x) (g:Num w u y) (ha:ab a<pw 60) (hb:ab b<pw 60) (hc:ab c<pw 60) (hx:ab x<pw 60) (hy:ab y<pw 60) :
  Rt 33 #[v,v',u] w fun v' w'=>Num w' v' (((((a*x)+(b*y))*x)+((c*y)*y))):=by
 replace ha:=hidd ha
 replace hb:=hidd hb
 replace hc:=hidd hc
 replace hx:=hidd hx
 replace hy:=hidd hy
 obtain ⟨y0_p0,y0_q0,y0_p1,y0_q1,y0_p2,y0_q2,rfl,hF0⟩:=o3 h
 obtain ⟨n1,ao1,k1,c1,rfl⟩:=h'.parts
 obtain ⟨n2,ao2,k2,c2,rfl⟩:=g.parts
 obtain ⟨w1,b1,hw1,hb1,hs1,E⟩:=gS w 38 hF0
 obtain ⟨w2,b2,hw2,hb2,hs2,E⟩:=fN E hs1 36 h'
 obtain ⟨w3,b3,hw3,hb3,hs3,E⟩:=zDm E hs2 (F:=Fq.num y) (us:=[.bool n2,.slice ao2 k2 c2]) 36 rfl (by simp) (zCk _ _ _ _) (g.mono E.below)
 obtain ⟨w4,b4,hw4,hb4,hs4,E⟩:=fZ E hs3 36
 go_enter Tryz.func33,Tryz.ntmps33
 go_upto_region 1 with (fail)
 rw [← hw1,← hw2]
 rw [← hw3,← hw4]
 rw [← hb4,← hb3]
 rw [← hb2,← hb1]
 clear hw1 hw2 hw3 hw4 hb1 hb2 hb3 hb4 hs4 hs1 hs2 hs3
 have B5:Hid (ab ((a*x))<pw 120):=zAl ha.out hx.out zm
 have B6:Hid (ab ((b*y))<pw 120):=zAl hb.out hy.out zm
 have B7:Hid (ab (((a*x)+(b*y)))<pw 121):=zBd B5.out B6.out zm zm
 refine rz [.p b1 0,.n a,.n x,.n (a*x),.p b1 2,.n b,.n y,.n (b*y),.n ((a*x)+(b*y)),.k,.a] N4 [⟨9,10,2,Fq.num 0,Fq.num ((a*x)+(b*y)),none⟩] E (fun hp=>⟨qa b1 0 0 hp zw,lN 0 2 hp J3 zAa zi,lI 0 hp J2 zw,zC hp zBe zi zi fun v v' w h h'=>exK (MulV h h') B5.out zm,qa b1 0 2 hp zw,lN 2 2 hp J3 zAa zi,lI 0 hp J1 zw,zC hp zBe zi zi fun v v' w h h'=>exK (MulV h h') B6.out zm,zC hp zDe zi zi fun v v' w h h'=>exK (AddV h h') B7.out zm,aN hp J0,sN 8 hp J0,tv⟩) ?_
 intro w8 b8_9 E _ _
 simp only [rzE] at E ⊢
 go_upto_region 2 with (fail)
 have B9:Hid (ab ((((a*x)+(b*y))*x))<pw 181):=zAl B7.out hx.out zm
 have B10:Hid (ab ((c*y))<pw 120):=zAl hc.out hy.out zm
 have B11:Hid (ab (((c*y)*y))<pw 180):=zAl B10.out hy.out zm
 have B12:Hid (ab (((((a*x)+(b*y))*x)+((c*y)*y)))<pw 182):=zBd B9.out B11.out zm zm
 refine rz [.n ((a*x)+(b*y)),.n x,.n (((a*x)+(b*y))*x),.p b1 4,.n c,.n y,.n (c*y),.n y,.n ((c*y)*y),.n ((((a*x)+(b*y))*x)+((c*y)*y)),.a] [none,some (10,Fq.num ((((a*x)+(b*y))*x)+((c*y)*y))),none,none,none] [] E (fun hp=>⟨lI 0 hp J0 zw,lI 0 hp J3 zw,zC hp zBe zi zi fun v v' w h h'=>exK (MulV h h') B9.out zm,qa b1 0 4 hp zw,lN 4 2 hp J4 zAa zi,lI 0 hp J2 zw,zC hp zBe zi zi fun v v' w h h'=>exK (MulV h h') B10.out zm,lI 0 hp J2 zw,zC hp zBe zi zi fun v v' w h h'=>exK (MulV h h') B11.out zm,zC hp zDe zi zi fun v v' w h h'=>exK (AddV h h') B12.out zm,sP 9 hp J1 zw,tv⟩) ?_
 intro w13 E _ _
 simp only [rzE] at E ⊢
 obtain ⟨p0_0,p0_1,c0_0,c0_1,hP0⟩:=zCg (E.box 1 rfl)
 clear B5 B6 B7 B9 B10 B11 B12 ha hb hc hx hy
 go_wp2
 exact zR (v:=.agg #[p0_0,p0_1]) (by simp [results,Tryz.results33,go_sem,c0_0,c0_1]) E.below hP0

theorem qv_eqP (a b c x y:Int):qv a b c x y=((((a*x)+(b*y))*x)+((c*y)*y)):=by
 unfold qv
 rw [Int.add_mul,Int.mul_assoc,Int.mul_assoc,Int.mul_assoc,Int.mul_comm y x]
theorem zPj {w:World} {v v' u:Value} {a b c x y:Int} (h:(f3 a b c).P v w) (h':Num w v' x) (g:Num w u y) (ha:ab a<pw 60) (hb:ab b<pw 60) (hc:ab c<pw 60) (hx:ab x<pw 60) (hy:ab y<pw 60) :
  Rt 33 #[v,v',u] w fun v' w'=>Num w' v' (qv a b c x y):=by
 rw [qv_eqP]
 exact exPValue0 h h' g ha hb hc hx hy

theorem exPTwice0 {w:World} {v:Value} {z:Int} (h:Num w v z) (hz:ab z<pw 600) :
  Rt 75 #[v] w fun v' w'=>Num w' v' ((z+z)):=by
 replace hz:=hidd hz
 obtain ⟨n0,ao0,k0,c0,rfl⟩:=h.parts
 obtain ⟨w1,b1,hw1,hb1,hs1,E⟩:=gN w 36 h
 obtain ⟨w2,b2,hw2,hb2,hs2,E⟩:=fZ E hs1 36
 go_enter Tryz.func75,Tryz.ntmps75
 go_upto_region 1 with (fail)
 rw [← hw1,← hw2]
 rw [← hb2,← hb1]
 clear hw1 hw2 hb1 hb2 hs2 hs1
 have B3:Hid (ab ((z+z))<pw 601):=zBd hz.out hz.out zm zm
 refine rz [.n z,.n z,.n (z+z),.a] [some (3,Fq.num (z+z)),none] [] E (fun hp=>⟨lI 0 hp J1 zw,lI 0 hp J1 zw,zC hp zDe zi zi fun v v' w h h'=>exK (AddV h h') B3.out zm,sP 2 hp J0 zw,tv⟩) ?_
 intro w4 E _ _
 simp only [rzE] at E ⊢
 obtain ⟨p0_0,p0_1,c0_0,c0_1,hP0⟩:=zCg (E.box 0 rfl)
 clear B3 hz
 go_wp2
 exact zR (v:=.agg #[p0_0,p0_1]) (by simp [results,Tryz.results75,go_sem,c0_0,c0_1]) E.below hP0

theorem zLt {w:World} {v:Value} {z:Int} (h:Num w v z) (hz:ab z<pw 600):Calls Tryz.prog 75 #[v] w fun e w'=>∃ v',e=.returned v'∧Below w.heap.size w w'∧Num w' v' (2*z):=by
 have e:2*z=(z+z):=zm
 rw [e]
 exact exPTwice0 h hz

theorem exPApply0 {w:World} {v v':Value} {a b c x1 x2 x3 x4:Int} (h:(f3 a b c).P v w) (h':(Fq.st [.n x1,.n x2,.n x3,.n x4]).P v' w) (ha:ab a<pw 60) (hb:ab b<pw 60) (hc:ab c<pw 60) (hx1:ab x1<pw 60) (hx2:ab x2<pw 60) (hx3:ab x3<pw 60) (hx4:ab x4<pw 60) :
  Rt 30 #[v,v'] w fun v' w'=>(Fq.st [.n (qv a b c x1 x3),.n (((((2*(a*x1))+(b*x3))*x2)+(((b*x1)+(2*(c*x3)))*x4))),.n (qv a b c x2 x4)]).P v' w':=by
 replace ha:=hidd ha
 replace hb:=hidd hb
 replace hc:=hidd hc
 replace hx1:=hidd hx1
 replace hx2:=hidd hx2
 replace hx3:=hidd hx3
 replace hx4:=hidd hx4
 obtain ⟨y0_p0,y0_q0,y0_p1,y0_q1,y0_p2,y0_q2,rfl,hF0⟩:=o3 h
 obtain ⟨_,rfl,hf1⟩:=h'
 have hF1:=hf1
 obtain ⟨y1_p0,y1_q0,_,rfl,_y1_n0,y1_p1,y1_q1,_,rfl,_y1_n1,y1_p2,y1_q2,_,rfl,_y1_n2,y1_p3,y1_q3,_,rfl,_y1_n3,rfl⟩:=hf1
 obtain ⟨w1,b1,hw1,hb1,hs1,E⟩:=gS w 38 hF0
 obtain ⟨w2,b2,hw2,hb2,hs2,E⟩:=fS E hs1 67 hF1
 obtain ⟨w3,b3,hw3,hb3,hs3,E⟩:=fO E hs2 38 zAt
 go_enter Tryz.func30,Tryz.ntmps30
 go_upto_region 1 with (fail)
 rw [← hw1,← hw2]
 rw [← hw3,← hb3]
 rw [← hb2,← hb1]
 clear hw1 hw2 hw3 hb1 hb2 hb3 hs3 hs1 hs2
 have B4:Hid (ab ((a*x1))<pw 120):=zAl ha.out hx1.out zm
 have B5:Hid (ab ((2*(a*x1)))<pw 123):=zu (zBv (zAr (x:=2) zd zd) B4.out)
 have B6:Hid (ab ((b*x3))<pw 120):=zAl hb.out hx3.out zm
 have B7:Hid (ab (((2*(a*x1))+(b*x3)))<pw 124):=zBd B5.out B6.out zm zm
 refine rz [.p b1 0,.n a,.p b2 0,.n x1,.n (a*x1),.n (2*(a*x1)),.p b1 2,.n b,.p b2 4,.n x3,.n (b*x3),.n ((2*(a*x1))+(b*x3)),.k,.a] N3 [⟨12,13,2,Fq.num 0,Fq.num ((2*(a*x1))+(b*x3)),none⟩] E (fun hp=>⟨qa b1 0 0 hp zw,lN 0 2 hp J2 zAa zi,qa b2 0 0 hp zw,lN 0 2 hp J1 zAa zi,zC hp zBe zi zi fun v v' w h h'=>exK (MulV h h') B4.out zm,zc hp zLj zi fun v w h=>zLt h (zu B4.out),qa b1 0 2 hp zw,lN 2 2 hp J2 zAa zi,qa b2 0 4 hp zw,lN 4 2 hp J1 zAa zi,zC hp zBe zi zi fun v v' w h h'=>exK (MulV h h') B6.out zm,zC hp zDe zi zi fun v v' w h h'=>exK (AddV h h') B7.out zm,aN hp J0,sN 11 hp J0,tv⟩) ?_
 intro w8 b8_12 E _ _
 simp only [rzE] at E ⊢
 go_upto_region 2 with (fail)
 have B9:Hid (ab ((b*x1))<pw 120):=zAl hb.out hx1.out zm
 have B10:Hid (ab ((c*x3))<pw 120):=zAl hc.out hx3.out zm
 have B11:Hid (ab ((2*(c*x3)))<pw 123):=zu (zBv (zAr (x:=2) zd zd) B10.out)
 have B12:Hid (ab (((b*x1)+(2*(c*x3))))<pw 124):=zBd B9.out B11.out zm zm
 refine rz [.p b1 2,.n b,.p b2 0,.n x1,.n (b*x1),.p b1 4,.n c,.p b2 4,.n x3,.n (c*x3),.n (2*(c*x3)),.n ((b*x1)+(2*(c*x3))),.k,.a] N4 [⟨12,13,2,Fq.num 0,Fq.num ((b*x1)+(2*(c*x3))),none⟩] E (fun hp=>⟨qa b1 0 2 hp zw,lN 2 2 hp J3 zAa zi,qa b2 0 0 hp zw,lN 0 2 hp J2 zAa zi,zC hp zBe zi zi fun v v' w h h'=>exK (MulV h h') B9.out zm,qa b1 0 4 hp zw,lN 4 2 hp J3 zAa zi,qa b2 0 4 hp zw,lN 4 2 hp J2 zAa zi,zC hp zBe zi zi fun v v' w h h'=>exK (MulV h h') B10.out zm,zc hp zLj zi fun v w h=>zLt h (zu B10.out),zC hp zDe zi zi fun v v' w h h'=>exK (AddV h h') B12.out zm,aN hp J0,sN 11 hp J0,tv⟩) ?_
 intro w13 b13_12 E _ _
 simp only [rzE] at E ⊢
 go_upto_region 3 with (fail)
 have B14:Hid (ab ((((2*(a*x1))+(b*x3))*x2))<pw 184):=zAl B7.out hx2.out zm
 have B15:Hid (ab ((((b*x1)+(2*(c*x3)))*x4))<pw 184):=zAl B12.out hx4.out zm
 have B16:Hid (ab (((((2*(a*x1))+(b*x3))*x2)+(((b*x1)+(2*(c*x3)))*x4)))<pw 185):=zBd B14.out B15.out zm zm
 refine rz [.w (f3 a b c),.p b2 0,.n x1,.p b2 4,.n x3,.n (qv a b c x1 x3),.n ((2*(a*x1))+(b*x3)),.p b2 2,.n x2,.n (((2*(a*x1))+(b*x3))*x2),.n ((b*x1)+(2*(c*x3))),.p b2 6,.n x4,.n (((b*x1)+(2*(c*x3)))*x4),.n ((((2*(a*x1))+(b*x3))*x2)+(((b*x1)+(2*(c*x3)))*x4)),.w (f3 a b c),.p b2 2,.n x2,.p b2 6,.n x4,.n (qv a b c x2 x4),.w (Fq.st [.n (qv a b c x1 x3),.n ((((2*(a*x1))+(b*x3))*x2)+(((b*x1)+(2*(c*x3)))*x4)),.n (qv a b c x2 x4)]),.a] [none,none,some (22,Fq.st [.n (qv a b c x1 x3),.n ((((2*(a*x1))+(b*x3))*x2)+(((b*x1)+(2*(c*x3)))*x4)),.n (qv a b c x2 x4)]),none,none] [] E (fun hp=>⟨lS 0 6 hp J4 zAc zw,qa b2 0 0 hp zw,lN 0 2 hp J3 zAa zi,qa b2 0 4 hp zw,lN 4 2 hp J3 zAa zi,zEu (F:=(f3 a b c).P) (G:=(Fq.num x1).P) (F3:=(Fq.num x3).P) hp fo tv (zOv) (sqi 0) (sqi 2) (sqi 4) (fun v v' u w h h' g=>zPj h h' g ha.out hb.out hc.out hx1.out hx3.out),lI 0 hp J1 zw,qa b2 0 2 hp zw,lN 2 2 hp J3 zAa zi,zC hp zBe zi zi fun v v' w h h'=>exK (MulV h h') B14.out zm,lI 0 hp J0 zw,qa b2 0 6 hp zw,lN 6 2 hp J3 zAa zi,zC hp zBe zi zi fun v v' w h h'=>exK (MulV h h') B15.out zm,zC hp zDe zi zi fun v v' w h h'=>exK (AddV h h') B16.out zm,lS 0 6 hp J4 zAc zw,qa b2 0 2 hp zw,lN 2 2 hp J3 zAa zi,qa b2 0 6 hp zw,lN 6 2 hp J3 zAa zi,zEu (F:=(f3 a b c).P) (G:=(Fq.num x2).P) (F3:=(Fq.num x4).P) hp fo tv (zOv) (sqi 15) (sqi 17) (sqi 19) (fun v v' u w h h' g=>zPj h h' g ha.out hb.out hc.out hx2.out hx4.out),zFo (z0:=(qv a b c x1 x3)) (z1:=((((2*(a*x1))+(b*x3))*x2)+(((b*x1)+(2*(c*x3)))*x4))) (z2:=(qv a b c x2 x4)) hp fo tv (sqi 5) (sqi 14) (sqi 20) (fun v w h=>h),sO 0 21 hp J2 zAn zw,tv⟩) ?_
 intro w17 E _ _
 simp only [rzE] at E ⊢
 obtain ⟨_,_,hc0,hf0⟩:=zAv (E.box 2 rfl)
 have hP0:=hf0
 obtain ⟨r0_p0,r0_q0,_,rfl,_r0_n0,r0_p1,r0_q1,_,rfl,_r0_n1,r0_p2,r0_q2,_,rfl,_r0_n2,rfl⟩:=hf0
 have c0_z:=c6 hc0
 simp only [List.getD_cons_zero,List.getD_cons_succ] at c0_z
 clear hc0
 clear B4 B5 B6 B7 B9 B10 B11 B12 B14 B15 B16 ha hb hc hx1 hx2 hx3 hx4
 go_wp2
 exact zR (v:=.agg #[r0_p0,r0_q0,r0_p1,r0_q1,r0_p2,r0_q2]) (by simp [results,Tryz.results30,go_sem,c0_z]) E.below ⟨_,rfl,hP0⟩

theorem qm_eqP (a b c x1 x2 x3 x4:Int):qm a b c x1 x2 x3 x4=((((2*(a*x1))+(b*x3))*x2)+(((b*x1)+(2*(c*x3)))*x4)):=by
 have h:=PE.same [a,b,c,x1,x2,x3,x4] (.a (.m (.c 2) (.a (.m (.v 0) (.m (.v 3) (.v 4))) (.m (.v 2) (.m (.v 5) (.v 6))))) (.m (.v 1) (.a (.m (.v 3) (.v 6)) (.m (.v 4) (.v 5))))) (.a (.m (.a (.m (.c 2) (.m (.v 0) (.v 3))) (.m (.v 1) (.v 5))) (.v 4)) (.m (.a (.m (.v 1) (.v 3)) (.m (.c 2) (.m (.v 2) (.v 5)))) (.v 6))) (by decide +kernel)
 simp only [PE.den,List.getD_cons_zero,List.getD_cons_succ] at h
 exact h
theorem zPd {w:World} {v v':Value} {a b c x1 x2 x3 x4:Int} (h:(f3 a b c).P v w) (h':(Fq.st [.n x1,.n x2,.n x3,.n x4]).P v' w) (ha:ab a<pw 60) (hb:ab b<pw 60) (hc:ab c<pw 60) (hx1:ab x1<pw 60) (hx2:ab x2<pw 60) (hx3:ab x3<pw 60) (hx4:ab x4<pw 60) :
  Rt 30 #[v,v'] w fun v' w'=>(f3 (qv a b c x1 x3) (qm a b c x1 x2 x3 x4) (qv a b c x2 x4)).P v' w':=by
 rw [qm_eqP]
 exact exPApply0 h h' ha hb hc hx1 hx2 hx3 hx4

theorem zVi {w:World} {v:Value} {d:Int} (h:Num w v d) (hd:ab d<pw 40) (hr:¬ 1<d % 4) (hq:sqB d=false) :
  Rt 26 #[v] w fun v' w'=>(Fq.tup2 (f3 1 (d % 4) (-(d/4))) (Fq.is (.int .i64 0))).P v' w':=by
 replace hd:=hidd hd
 have HR4:Hid (0≤d % 4∧d % 4<4):=by show _∧_;omega
 have BR:Hid (ab (d % 4)<pw 3):=zAr zm zm
 have H4:Hid ((4:Int)≠0):=by show _≠_;decide
 have T1:Hid (¬ 0<cmpI (d % 4) 1):=fun e=>hr (cmpIqgt.1 e)
 clear hr
 have HQ:=hidd hq
 clear hq
 obtain ⟨n0,ao0,k0,c0,rfl⟩:=h.parts
 obtain ⟨w1,b1,hw1,hb1,hs1,E⟩:=gN w 36 h
 obtain ⟨w2,b2,hw2,hb2,hs2,E⟩:=fO E hs1 38 zAt
 go_enter Tryz.func26,Tryz.ntmps26
 go_upto_region 1 with (fail)
 rw [← hw1,← hw2]
 rw [← hb2,← hb1]
 clear hw1 hw2 hb1 hb2 hs2 hs1
 have B3:Hid (ab ((4))<pw 3):=zB5 zd
 have B4:Hid (ab ((d/4))<pw 41):=zEj hd.out zm
 refine rz [.n d,.n (4),.w (Fq.tup3 (Fq.num (d/4)) (Fq.num (d % 4)) (Fq.is (.int .i64 0))),.w (Fq.tup3 (Fq.num (d/4)) (Fq.num (d % 4)) (Fq.is (.int .i64 0))),.n (d/4),.n (d % 4),.i 0,.k,.k,.a,.a,.i 0] N2 [⟨7,9,2,Fq.num 0,Fq.num (d/4),none⟩,⟨8,10,2,Fq.num 0,Fq.num (d % 4),none⟩] E (fun hp=>⟨lI 0 hp J1 zw,zBp (F:=(Fq.is (.int .i64 4)).P) hp fo tv (zBw) (zAk (fun _=>rfl)) (fun v w h=>(by subst h;exact OfK w (4) zm zm)),zC hp zF3 zi zi fun v v' w h h'=>zGa h h' H4.out B4.out BR.out zm zm,zS,zS,zS,zS,aN hp J0,aN hp J1,sN 4 hp J0,sN 5 hp J1,zS,tv⟩) ?_
 intro w5 b5_7 b5_8 E _ _
 simp only [rzE] at E ⊢
 go_upto_region 2 with (fail)
 have B6:Hid (ab ((1))<pw 3):=zB5 zd
 refine rz [.n (d % 4),.n (1),.i (cmpI (d % 4) (1)),.o,.o,.n d,.o,.o] N4 [] E (fun hp=>⟨lI 0 hp J1 zw,zBp (F:=(Fq.is (.int .i64 1)).P) hp fo tv (zBw) (zAk (fun _=>rfl)) (fun v w h=>(by subst h;exact OfK w (1) zm zm)),zC hp zA2 zi zi fun v v' w h h'=>zA4 h h',zO hp (sqi 2) T1.out,zS,zA1 (off:=0) hp fo gqi J3 (.inl rfl) (Nat.le_of_ble_eq_true rfl) (sqo 1) (fun us w hl h=>zAz hl h),zc hp zHu zi (fun v w h=>zHx h hd.out HQ.out),zt hp (sqi 4) (sqi 6),tv⟩) ?_
 intro w7 E _ _
 simp only [rzE] at E ⊢
 go_upto_region 4 with (fail)
 have B8:Hid (ab ((-(d/4)))<pw 41):=zKz B4.out
 refine rz [.n (1),.n (d % 4),.n (d/4),.n (-(d/4)),.w (f3 (1) (d % 4) (-(d/4))),.a,.i 0] [none,none,some (5,f3 (1) (d % 4) (-(d/4))),none] [] E (fun hp=>⟨zBp (F:=(Fq.is (.int .i64 1)).P) hp fo tv (zBw) (zAk (fun _=>rfl)) (fun v w h=>(by subst h;exact OfK w (1) zm zm)),lI 0 hp J1 zw,lI 0 hp J0 zw,zc hp enq_Neg zi fun v w h=>exK (NegV h) B8.out zm,zFo (z0:=(1)) (z1:=(d % 4)) (z2:=(-(d/4))) hp fo tv (sqi 0) (sqi 1) (sqi 3) (fun v w h=>h),sO 0 4 hp J2 zAn zw,zS,tv⟩) ?_
 intro w9 E _ _
 simp only [rzE] at E ⊢
 clear HR4 H4 HQ T1
 obtain ⟨_,_,hcc,hff⟩:=zAv (E.box 2 rfl)
 have hR2:=hff
 obtain ⟨r_p0,r_q0,_,rfl,_r_n0,r_p1,r_q1,_,rfl,_r_n1,r_p2,r_q2,_,rfl,_r_n2,rfl⟩:=hff
 have cz:=c6 hcc
 simp only [List.getD_cons_zero,List.getD_cons_succ] at cz
 clear hcc
 clear B3 B4 B6 B8 hd BR
 go_wp2
 exact zR (v:=.tuple #[.agg #[r_p0,r_q0,r_p1,r_q1,r_p2,r_q2],.int .i64 0]) (by simp [results,Tryz.results26,go_sem,cz]) E.below ⟨_,_,rfl,⟨_,rfl,hR2⟩,rfl⟩

theorem zVe {w:World} {v:Value} {a b c:Int} (h:(f3 a b c).P v w) (ha:ab a<pw 60) (hb:ab b<pw 60) (hc:ab c<pw 60) (hx:a<(Int.natAbs b:Int)) {t:Bool} (ht:redB a b c=t) :
  Rt 69 #[v] w fun v' w'=>v'=.bool t:=by
 replace ha:=hidd ha
 replace hb:=hidd hb
 replace hc:=hidd hc
 have ht2:t=false:=ht.symm.trans (by unfold redB;exact decide_eq_false zm)
 subst ht2
 clear ht
 have T1:Hid (0<cmpI (Int.natAbs b:Int) a):=cmpIqgt.2 hx
 clear hx
 obtain ⟨y0_p0,y0_q0,y0_p1,y0_q1,y0_p2,y0_q2,rfl,hF0⟩:=o3 h
 obtain ⟨w1,b1,hw1,hb1,hs1,E⟩:=gS w 38 hF0
 go_enter Tryz.func69,Tryz.ntmps69
 go_upto_region 1 with (fail)
 rw [← hw1,← hb1]
 clear hw1 hb1 hs1
 have B2:Hid (ab ((Int.natAbs b:Int))<pw 60):=zBk hb.out
 refine rz [.p b1 2,.n b,.n (Int.natAbs b:Int),.p b1 0,.n a,.i (cmpI (Int.natAbs b:Int) a),.p b1 0,.n a,.p b1 4,.n c,.i (cmpI a c),.i (cmpI (Int.natAbs b:Int) a),.i (cmpI a c)] [none] [] E (fun hp=>⟨qa b1 0 2 hp zw,lN 2 2 hp J0 zAa zi,zc hp zDd zi fun v w h=>exK (AbsV h) B2.out zm,qa b1 0 0 hp zw,lN 0 2 hp J0 zAa zi,zC hp zA2 zi zi fun v v' w h h'=>zA4 h h',qa b1 0 0 hp zw,lN 0 2 hp J0 zAa zi,qa b1 0 4 hp zw,lN 4 2 hp J0 zAa zi,zC hp zA2 zi zi fun v v' w h h'=>zA4 h h',zS,zS,tv⟩) ?_
 intro w3 E _ _
 simp only [rzE] at E ⊢
 go_upto_region 2 with (fail)
 refine rz [.i (cmpI (Int.natAbs b:Int) a),.t,.t,.u (undef),.u (undef),.t] [none] [] E (fun hp=>⟨zS,zO hp (sqi 0) T1.out,zS,zS,zS,zt hp (sqi 2) (zk (.bool true)),tv⟩) ?_
 intro w4 E _ _
 simp only [rzE] at E ⊢
 go_upto_region 3 with (fail)
 refine rz [.o] [none] [] E (fun hp=>⟨zS,tv⟩) ?_
 intro w5 E _ _
 simp only [rzE] at E ⊢
 clear  T1
 clear B2 ha hb hc
 go_wp2
 exact zR (v:=.bool false) (by simp [results,Tryz.results69,go_sem]) E.below rfl

theorem zVf {w:World} {v:Value} {a b c:Int} (h:(f3 a b c).P v w) (ha:ab a<pw 60) (hb:ab b<pw 60) (hc:ab c<pw 60) (hx:¬ a<(Int.natAbs b:Int)) (hy:¬ a≤c) {t:Bool} (ht:redB a b c=t) :
  Rt 69 #[v] w fun v' w'=>v'=.bool t:=by
 replace ha:=hidd ha
 replace hb:=hidd hb
 replace hc:=hidd hc
 have ht2:t=false:=ht.symm.trans (by unfold redB;exact decide_eq_false zm)
 subst ht2
 clear ht
 have T1:Hid (¬ 0<cmpI (Int.natAbs b:Int) a):=fun e=>by have:=cmpIqgt.1 e;omega
 have T2:Hid (0<cmpI a c):=cmpIqgt.2 zm
 clear hx hy
 obtain ⟨y0_p0,y0_q0,y0_p1,y0_q1,y0_p2,y0_q2,rfl,hF0⟩:=o3 h
 obtain ⟨w1,b1,hw1,hb1,hs1,E⟩:=gS w 38 hF0
 go_enter Tryz.func69,Tryz.ntmps69
 go_upto_region 1 with (fail)
 rw [← hw1,← hb1]
 clear hw1 hb1 hs1
 have B2:Hid (ab ((Int.natAbs b:Int))<pw 60):=zBk hb.out
 refine rz [.p b1 2,.n b,.n (Int.natAbs b:Int),.p b1 0,.n a,.i (cmpI (Int.natAbs b:Int) a),.p b1 0,.n a,.p b1 4,.n c,.i (cmpI a c),.i (cmpI (Int.natAbs b:Int) a),.i (cmpI a c)] [none] [] E (fun hp=>⟨qa b1 0 2 hp zw,lN 2 2 hp J0 zAa zi,zc hp zDd zi fun v w h=>exK (AbsV h) B2.out zm,qa b1 0 0 hp zw,lN 0 2 hp J0 zAa zi,zC hp zA2 zi zi fun v v' w h h'=>zA4 h h',qa b1 0 0 hp zw,lN 0 2 hp J0 zAa zi,qa b1 0 4 hp zw,lN 4 2 hp J0 zAa zi,zC hp zA2 zi zi fun v v' w h h'=>zA4 h h',zS,zS,tv⟩) ?_
 intro w3 E _ _
 simp only [rzE] at E ⊢
 go_upto_region 2 with (fail)
 refine rz [.i (cmpI (Int.natAbs b:Int) a),.o,.o,.i (cmpI a c),.t,.t] [none] [] E (fun hp=>⟨zS,zO hp (sqi 0) T1.out,zS,zAi hp fo gqi (sqo 4),zO hp (sqi 3) T2.out,zt hp (sqi 2) (sqi 4),tv⟩) ?_
 intro w4 E _ _
 simp only [rzE] at E ⊢
 go_upto_region 3 with (fail)
 refine rz [.o] [none] [] E (fun hp=>⟨zS,tv⟩) ?_
 intro w5 E _ _
 simp only [rzE] at E ⊢
 clear  T1 T2
 clear B2 ha hb hc
 go_wp2
 exact zR (v:=.bool false) (by simp [results,Tryz.results69,go_sem]) E.below rfl

theorem zVd {w:World} {v:Value} {a b c:Int} (h:(f3 a b c).P v w) (ha:ab a<pw 60) (hb:ab b<pw 60) (hc:ab c<pw 60) (hx:¬ a<(Int.natAbs b:Int)) (hy:a≤c) (k0:(Int.natAbs b:Int)<a) (k1:a<c) {t:Bool} (ht:redB a b c=t) :
  Rt 69 #[v] w fun v' w'=>v'=.bool t:=by
 replace ha:=hidd ha
 replace hb:=hidd hb
 replace hc:=hidd hc
 have ht2:t=true:=ht.symm.trans (by unfold redB;exact decide_eq_true zm)
 subst ht2
 clear ht
 have T1:Hid (¬ 0<cmpI (Int.natAbs b:Int) a):=fun e=>by have:=cmpIqgt.1 e;omega
 have T2:Hid (¬ 0<cmpI a c):=fun e=>by have:=cmpIqgt.1 e;omega
 have T3:Hid (cmpI (Int.natAbs b:Int) a<0):=cmpIqlt.2 k0
 have T4:Hid (cmpI a c<0):=cmpIqlt.2 k1
 clear hx hy k0 k1
 obtain ⟨y0_p0,y0_q0,y0_p1,y0_q1,y0_p2,y0_q2,rfl,hF0⟩:=o3 h
 obtain ⟨w1,b1,hw1,hb1,hs1,E⟩:=gS w 38 hF0
 go_enter Tryz.func69,Tryz.ntmps69
 go_upto_region 1 with (fail)
 rw [← hw1,← hb1]
 clear hw1 hb1 hs1
 have B2:Hid (ab ((Int.natAbs b:Int))<pw 60):=zBk hb.out
 refine rz [.p b1 2,.n b,.n (Int.natAbs b:Int),.p b1 0,.n a,.i (cmpI (Int.natAbs b:Int) a),.p b1 0,.n a,.p b1 4,.n c,.i (cmpI a c),.i (cmpI (Int.natAbs b:Int) a),.i (cmpI a c)] [none] [] E (fun hp=>⟨qa b1 0 2 hp zw,lN 2 2 hp J0 zAa zi,zc hp zDd zi fun v w h=>exK (AbsV h) B2.out zm,qa b1 0 0 hp zw,lN 0 2 hp J0 zAa zi,zC hp zA2 zi zi fun v v' w h h'=>zA4 h h',qa b1 0 0 hp zw,lN 0 2 hp J0 zAa zi,qa b1 0 4 hp zw,lN 4 2 hp J0 zAa zi,zC hp zA2 zi zi fun v v' w h h'=>zA4 h h',zS,zS,tv⟩) ?_
 intro w3 E _ _
 simp only [rzE] at E ⊢
 go_upto_region 2 with (fail)
 refine rz [.i (cmpI (Int.natAbs b:Int) a),.o,.o,.i (cmpI a c),.o,.o] [none] [] E (fun hp=>⟨zS,zO hp (sqi 0) T1.out,zS,zAi hp fo gqi (sqo 4),zO hp (sqi 3) T2.out,zt hp (sqi 2) (sqi 4),tv⟩) ?_
 intro w4 E _ _
 simp only [rzE] at E ⊢
 go_upto_region 4 with (fail)
 refine rz [.i (cmpI (Int.natAbs b:Int) a),.t,.t,.i (cmpI a c),.t,.t,.t,.u (undef),.u (undef),.u (undef),.u (undef),.t,.t] [none] [] E (fun hp=>⟨zS,zO hp (sqi 0) T3.out,zS,zAi hp fo gqi (sqo 4),zO hp (sqi 3) T4.out,zt hp (sqi 2) (sqi 4),zS,zS,zS,zS,zS,zt hp (sqi 6) (zk (.bool true)),zS,tv⟩) ?_
 intro w5 E _ _
 simp only [rzE] at E ⊢
 clear  T1 T2 T3 T4
 clear B2 ha hb hc
 go_wp2
 exact zR (v:=.bool true) (by simp [results,Tryz.results69,go_sem]) E.below rfl

theorem zVb {w:World} {v:Value} {a b c:Int} (h:(f3 a b c).P v w) (ha:ab a<pw 60) (hb:ab b<pw 60) (hc:ab c<pw 60) (hx:¬ a<(Int.natAbs b:Int)) (hy:a≤c) (k0:(Int.natAbs b:Int)<a) (k1:¬ a<c) (k2:¬ 0≤b) {t:Bool} (ht:redB a b c=t) :
  Rt 69 #[v] w fun v' w'=>v'=.bool t:=by
 replace ha:=hidd ha
 replace hb:=hidd hb
 replace hc:=hidd hc
 have ht2:t=false:=ht.symm.trans (by unfold redB;exact decide_eq_false zm)
 subst ht2
 clear ht
 have T1:Hid (¬ 0<cmpI (Int.natAbs b:Int) a):=fun e=>by have:=cmpIqgt.1 e;omega
 have T2:Hid (¬ 0<cmpI a c):=fun e=>by have:=cmpIqgt.1 e;omega
 have T3:Hid (cmpI (Int.natAbs b:Int) a<0):=cmpIqlt.2 k0
 have T4:Hid (¬ cmpI a c<0):=fun e=>k1 (cmpIqlt.1 e)
 have T5:Hid (¬ 0≤cmpI b 0):=by have:=cmpIqlt.2 (show b<0 by omega);show ¬ _≤_;omega
 clear hx hy k0 k1 k2
 obtain ⟨y0_p0,y0_q0,y0_p1,y0_q1,y0_p2,y0_q2,rfl,hF0⟩:=o3 h
 obtain ⟨w1,b1,hw1,hb1,hs1,E⟩:=gS w 38 hF0
 go_enter Tryz.func69,Tryz.ntmps69
 go_upto_region 1 with (fail)
 rw [← hw1,← hb1]
 clear hw1 hb1 hs1
 have B2:Hid (ab ((Int.natAbs b:Int))<pw 60):=zBk hb.out
 refine rz [.p b1 2,.n b,.n (Int.natAbs b:Int),.p b1 0,.n a,.i (cmpI (Int.natAbs b:Int) a),.p b1 0,.n a,.p b1 4,.n c,.i (cmpI a c),.i (cmpI (Int.natAbs b:Int) a),.i (cmpI a c)] [none] [] E (fun hp=>⟨qa b1 0 2 hp zw,lN 2 2 hp J0 zAa zi,zc hp zDd zi fun v w h=>exK (AbsV h) B2.out zm,qa b1 0 0 hp zw,lN 0 2 hp J0 zAa zi,zC hp zA2 zi zi fun v v' w h h'=>zA4 h h',qa b1 0 0 hp zw,lN 0 2 hp J0 zAa zi,qa b1 0 4 hp zw,lN 4 2 hp J0 zAa zi,zC hp zA2 zi zi fun v v' w h h'=>zA4 h h',zS,zS,tv⟩) ?_
 intro w3 E _ _
 simp only [rzE] at E ⊢
 go_upto_region 2 with (fail)
 refine rz [.i (cmpI (Int.natAbs b:Int) a),.o,.o,.i (cmpI a c),.o,.o] [none] [] E (fun hp=>⟨zS,zO hp (sqi 0) T1.out,zS,zAi hp fo gqi (sqo 4),zO hp (sqi 3) T2.out,zt hp (sqi 2) (sqi 4),tv⟩) ?_
 intro w4 E _ _
 simp only [rzE] at E ⊢
 go_upto_region 4 with (fail)
 refine rz [.i (cmpI (Int.natAbs b:Int) a),.t,.t,.i (cmpI a c),.o,.o,.o,.p b1 2,.n b,.i (cmpI b 0),.o,.o,.o] [none] [] E (fun hp=>⟨zS,zO hp (sqi 0) T3.out,zS,zAi hp fo gqi (sqo 4),zO hp (sqi 3) T4.out,zt hp (sqi 2) (sqi 4),zS,zg b1 0 2 hp zw,lG 2 2 hp gqi J0 zAa zi fun v w h=>zAe h,zc hp zA3 zi (fun v w h=>zA5 h),zO hp (sqi 9) T5.out,zt hp (sqi 6) (sqi 10),zS,tv⟩) ?_
 intro w5 E _ _
 simp only [rzE] at E ⊢
 clear  T1 T2 T3 T4 T5
 clear B2 ha hb hc
 go_wp2
 exact zR (v:=.bool false) (by simp [results,Tryz.results69,go_sem]) E.below rfl

theorem zVc {w:World} {v:Value} {a b c:Int} (h:(f3 a b c).P v w) (ha:ab a<pw 60) (hb:ab b<pw 60) (hc:ab c<pw 60) (hx:¬ a<(Int.natAbs b:Int)) (hy:a≤c) (k0:(Int.natAbs b:Int)<a) (k1:¬ a<c) (k2:0≤b) {t:Bool} (ht:redB a b c=t) :
  Rt 69 #[v] w fun v' w'=>v'=.bool t:=by
 replace ha:=hidd ha
 replace hb:=hidd hb
 replace hc:=hidd hc
 have ht2:t=true:=ht.symm.trans (by unfold redB;exact decide_eq_true zm)
 subst ht2
 clear ht
 have T1:Hid (¬ 0<cmpI (Int.natAbs b:Int) a):=fun e=>by have:=cmpIqgt.1 e;omega
 have T2:Hid (¬ 0<cmpI a c):=fun e=>by have:=cmpIqgt.1 e;omega
 have T3:Hid (cmpI (Int.natAbs b:Int) a<0):=cmpIqlt.2 k0
 have T4:Hid (¬ cmpI a c<0):=fun e=>k1 (cmpIqlt.1 e)
 have T5:Hid (0≤cmpI b 0):=by have:=mt cmpIqlt.1 (show ¬ b<0 by omega);show _≤_;omega
 clear hx hy k0 k1 k2
 obtain ⟨y0_p0,y0_q0,y0_p1,y0_q1,y0_p2,y0_q2,rfl,hF0⟩:=o3 h
 obtain ⟨w1,b1,hw1,hb1,hs1,E⟩:=gS w 38 hF0
 go_enter Tryz.func69,Tryz.ntmps69
 go_upto_region 1 with (fail)
 rw [← hw1,← hb1]
 clear hw1 hb1 hs1
 have B2:Hid (ab ((Int.natAbs b:Int))<pw 60):=zBk hb.out
 refine rz [.p b1 2,.n b,.n (Int.natAbs b:Int),.p b1 0,.n a,.i (cmpI (Int.natAbs b:Int) a),.p b1 0,.n a,.p b1 4,.n c,.i (cmpI a c),.i (cmpI (Int.natAbs b:Int) a),.i (cmpI a c)] [none] [] E (fun hp=>⟨qa b1 0 2 hp zw,lN 2 2 hp J0 zAa zi,zc hp zDd zi fun v w h=>exK (AbsV h) B2.out zm,qa b1 0 0 hp zw,lN 0 2 hp J0 zAa zi,zC hp zA2 zi zi fun v v' w h h'=>zA4 h h',qa b1 0 0 hp zw,lN 0 2 hp J0 zAa zi,qa b1 0 4 hp zw,lN 4 2 hp J0 zAa zi,zC hp zA2 zi zi fun v v' w h h'=>zA4 h h',zS,zS,tv⟩) ?_
 intro w3 E _ _
 simp only [rzE] at E ⊢
 go_upto_region 2 with (fail)
 refine rz [.i (cmpI (Int.natAbs b:Int) a),.o,.o,.i (cmpI a c),.o,.o] [none] [] E (fun hp=>⟨zS,zO hp (sqi 0) T1.out,zS,zAi hp fo gqi (sqo 4),zO hp (sqi 3) T2.out,zt hp (sqi 2) (sqi 4),tv⟩) ?_
 intro w4 E _ _
 simp only [rzE] at E ⊢
 go_upto_region 4 with (fail)
 refine rz [.i (cmpI (Int.natAbs b:Int) a),.t,.t,.i (cmpI a c),.o,.o,.o,.p b1 2,.n b,.i (cmpI b 0),.t,.t,.t] [none] [] E (fun hp=>⟨zS,zO hp (sqi 0) T3.out,zS,zAi hp fo gqi (sqo 4),zO hp (sqi 3) T4.out,zt hp (sqi 2) (sqi 4),zS,zg b1 0 2 hp zw,lG 2 2 hp gqi J0 zAa zi fun v w h=>zAe h,zc hp zA3 zi (fun v w h=>zA5 h),zO hp (sqi 9) T5.out,zt hp (sqi 6) (sqi 10),zS,tv⟩) ?_
 intro w5 E _ _
 simp only [rzE] at E ⊢
 clear  T1 T2 T3 T4 T5
 clear B2 ha hb hc
 go_wp2
 exact zR (v:=.bool true) (by simp [results,Tryz.results69,go_sem]) E.below rfl

theorem zU9 {w:World} {v:Value} {a b c:Int} (h:(f3 a b c).P v w) (ha:ab a<pw 60) (hb:ab b<pw 60) (hc:ab c<pw 60) (hx:¬ a<(Int.natAbs b:Int)) (hy:a≤c) (k0:¬ (Int.natAbs b:Int)<a) (k1:a<c) (k2:¬ 0≤b) {t:Bool} (ht:redB a b c=t) :
  Rt 69 #[v] w fun v' w'=>v'=.bool t:=by
 replace ha:=hidd ha
 replace hb:=hidd hb
 replace hc:=hidd hc
 have ht2:t=false:=ht.symm.trans (by unfold redB;exact decide_eq_false zm)
 subst ht2
 clear ht
 have T1:Hid (¬ 0<cmpI (Int.natAbs b:Int) a):=fun e=>by have:=cmpIqgt.1 e;omega
 have T2:Hid (¬ 0<cmpI a c):=fun e=>by have:=cmpIqgt.1 e;omega
 have T3:Hid (¬ cmpI (Int.natAbs b:Int) a<0):=fun e=>k0 (cmpIqlt.1 e)
 have T5:Hid (¬ 0≤cmpI b 0):=by have:=cmpIqlt.2 (show b<0 by omega);show ¬ _≤_;omega
 clear hx hy k0 k1 k2
 obtain ⟨y0_p0,y0_q0,y0_p1,y0_q1,y0_p2,y0_q2,rfl,hF0⟩:=o3 h
 obtain ⟨w1,b1,hw1,hb1,hs1,E⟩:=gS w 38 hF0
 go_enter Tryz.func69,Tryz.ntmps69
 go_upto_region 1 with (fail)
 rw [← hw1,← hb1]
 clear hw1 hb1 hs1
 have B2:Hid (ab ((Int.natAbs b:Int))<pw 60):=zBk hb.out
 refine rz [.p b1 2,.n b,.n (Int.natAbs b:Int),.p b1 0,.n a,.i (cmpI (Int.natAbs b:Int) a),.p b1 0,.n a,.p b1 4,.n c,.i (cmpI a c),.i (cmpI (Int.natAbs b:Int) a),.i (cmpI a c)] [none] [] E (fun hp=>⟨qa b1 0 2 hp zw,lN 2 2 hp J0 zAa zi,zc hp zDd zi fun v w h=>exK (AbsV h) B2.out zm,qa b1 0 0 hp zw,lN 0 2 hp J0 zAa zi,zC hp zA2 zi zi fun v v' w h h'=>zA4 h h',qa b1 0 0 hp zw,lN 0 2 hp J0 zAa zi,qa b1 0 4 hp zw,lN 4 2 hp J0 zAa zi,zC hp zA2 zi zi fun v v' w h h'=>zA4 h h',zS,zS,tv⟩) ?_
 intro w3 E _ _
 simp only [rzE] at E ⊢
 go_upto_region 2 with (fail)
 refine rz [.i (cmpI (Int.natAbs b:Int) a),.o,.o,.i (cmpI a c),.o,.o] [none] [] E (fun hp=>⟨zS,zO hp (sqi 0) T1.out,zS,zAi hp fo gqi (sqo 4),zO hp (sqi 3) T2.out,zt hp (sqi 2) (sqi 4),tv⟩) ?_
 intro w4 E _ _
 simp only [rzE] at E ⊢
 go_upto_region 4 with (fail)
 refine rz [.i (cmpI (Int.natAbs b:Int) a),.o,.o,.u (undef),.u (undef),.o,.o,.p b1 2,.n b,.i (cmpI b 0),.o,.o,.o] [none] [] E (fun hp=>⟨zS,zO hp (sqi 0) T3.out,zS,zS,zS,zt hp (sqi 2) (zk (.bool false)),zS,zg b1 0 2 hp zw,lG 2 2 hp gqi J0 zAa zi fun v w h=>zAe h,zc hp zA3 zi (fun v w h=>zA5 h),zO hp (sqi 9) T5.out,zt hp (sqi 6) (sqi 10),zS,tv⟩) ?_
 intro w5 E _ _
 simp only [rzE] at E ⊢
 clear  T1 T2 T3 T5
 clear B2 ha hb hc
 go_wp2
 exact zR (v:=.bool false) (by simp [results,Tryz.results69,go_sem]) E.below rfl

theorem zVa {w:World} {v:Value} {a b c:Int} (h:(f3 a b c).P v w) (ha:ab a<pw 60) (hb:ab b<pw 60) (hc:ab c<pw 60) (hx:¬ a<(Int.natAbs b:Int)) (hy:a≤c) (k0:¬ (Int.natAbs b:Int)<a) (k1:a<c) (k2:0≤b) {t:Bool} (ht:redB a b c=t) :
  Rt 69 #[v] w fun v' w'=>v'=.bool t:=by
 replace ha:=hidd ha
 replace hb:=hidd hb
 replace hc:=hidd hc
 have ht2:t=true:=ht.symm.trans (by unfold redB;exact decide_eq_true zm)
 subst ht2
 clear ht
 have T1:Hid (¬ 0<cmpI (Int.natAbs b:Int) a):=fun e=>by have:=cmpIqgt.1 e;omega
 have T2:Hid (¬ 0<cmpI a c):=fun e=>by have:=cmpIqgt.1 e;omega
 have T3:Hid (¬ cmpI (Int.natAbs b:Int) a<0):=fun e=>k0 (cmpIqlt.1 e)
 have T5:Hid (0≤cmpI b 0):=by have:=mt cmpIqlt.1 (show ¬ b<0 by omega);show _≤_;omega
 clear hx hy k0 k1 k2
 obtain ⟨y0_p0,y0_q0,y0_p1,y0_q1,y0_p2,y0_q2,rfl,hF0⟩:=o3 h
 obtain ⟨w1,b1,hw1,hb1,hs1,E⟩:=gS w 38 hF0
 go_enter Tryz.func69,Tryz.ntmps69
 go_upto_region 1 with (fail)
 rw [← hw1,← hb1]
 clear hw1 hb1 hs1
 have B2:Hid (ab ((Int.natAbs b:Int))<pw 60):=zBk hb.out
 refine rz [.p b1 2,.n b,.n (Int.natAbs b:Int),.p b1 0,.n a,.i (cmpI (Int.natAbs b:Int) a),.p b1 0,.n a,.p b1 4,.n c,.i (cmpI a c),.i (cmpI (Int.natAbs b:Int) a),.i (cmpI a c)] [none] [] E (fun hp=>⟨qa b1 0 2 hp zw,lN 2 2 hp J0 zAa zi,zc hp zDd zi fun v w h=>exK (AbsV h) B2.out zm,qa b1 0 0 hp zw,lN 0 2 hp J0 zAa zi,zC hp zA2 zi zi fun v v' w h h'=>zA4 h h',qa b1 0 0 hp zw,lN 0 2 hp J0 zAa zi,qa b1 0 4 hp zw,lN 4 2 hp J0 zAa zi,zC hp zA2 zi zi fun v v' w h h'=>zA4 h h',zS,zS,tv⟩) ?_
 intro w3 E _ _
 simp only [rzE] at E ⊢
 go_upto_region 2 with (fail)
 refine rz [.i (cmpI (Int.natAbs b:Int) a),.o,.o,.i (cmpI a c),.o,.o] [none] [] E (fun hp=>⟨zS,zO hp (sqi 0) T1.out,zS,zAi hp fo gqi (sqo 4),zO hp (sqi 3) T2.out,zt hp (sqi 2) (sqi 4),tv⟩) ?_
 intro w4 E _ _
 simp only [rzE] at E ⊢
 go_upto_region 4 with (fail)
 refine rz [.i (cmpI (Int.natAbs b:Int) a),.o,.o,.u (undef),.u (undef),.o,.o,.p b1 2,.n b,.i (cmpI b 0),.t,.t,.t] [none] [] E (fun hp=>⟨zS,zO hp (sqi 0) T3.out,zS,zS,zS,zt hp (sqi 2) (zk (.bool false)),zS,zg b1 0 2 hp zw,lG 2 2 hp gqi J0 zAa zi fun v w h=>zAe h,zc hp zA3 zi (fun v w h=>zA5 h),zO hp (sqi 9) T5.out,zt hp (sqi 6) (sqi 10),zS,tv⟩) ?_
 intro w5 E _ _
 simp only [rzE] at E ⊢
 clear  T1 T2 T3 T5
 clear B2 ha hb hc
 go_wp2
 exact zR (v:=.bool true) (by simp [results,Tryz.results69,go_sem]) E.below rfl

theorem zU7 {w:World} {v:Value} {a b c:Int} (h:(f3 a b c).P v w) (ha:ab a<pw 60) (hb:ab b<pw 60) (hc:ab c<pw 60) (hx:¬ a<(Int.natAbs b:Int)) (hy:a≤c) (k0:¬ (Int.natAbs b:Int)<a) (k1:¬ a<c) (k2:¬ 0≤b) {t:Bool} (ht:redB a b c=t) :
  Rt 69 #[v] w fun v' w'=>v'=.bool t:=by
 replace ha:=hidd ha
 replace hb:=hidd hb
 replace hc:=hidd hc
 have ht2:t=false:=ht.symm.trans (by unfold redB;exact decide_eq_false zm)
 subst ht2
 clear ht
 have T1:Hid (¬ 0<cmpI (Int.natAbs b:Int) a):=fun e=>by have:=cmpIqgt.1 e;omega
 have T2:Hid (¬ 0<cmpI a c):=fun e=>by have:=cmpIqgt.1 e;omega
 have T3:Hid (¬ cmpI (Int.natAbs b:Int) a<0):=fun e=>k0 (cmpIqlt.1 e)
 have T5:Hid (¬ 0≤cmpI b 0):=by have:=cmpIqlt.2 (show b<0 by omega);show ¬ _≤_;omega
 clear hx hy k0 k1 k2
 obtain ⟨y0_p0,y0_q0,y0_p1,y0_q1,y0_p2,y0_q2,rfl,hF0⟩:=o3 h
 obtain ⟨w1,b1,hw1,hb1,hs1,E⟩:=gS w 38 hF0
 go_enter Tryz.func69,Tryz.ntmps69
 go_upto_region 1 with (fail)
 rw [← hw1,← hb1]
 clear hw1 hb1 hs1
 have B2:Hid (ab ((Int.natAbs b:Int))<pw 60):=zBk hb.out
 refine rz [.p b1 2,.n b,.n (Int.natAbs b:Int),.p b1 0,.n a,.i (cmpI (Int.natAbs b:Int) a),.p b1 0,.n a,.p b1 4,.n c,.i (cmpI a c),.i (cmpI (Int.natAbs b:Int) a),.i (cmpI a c)] [none] [] E (fun hp=>⟨qa b1 0 2 hp zw,lN 2 2 hp J0 zAa zi,zc hp zDd zi fun v w h=>exK (AbsV h) B2.out zm,qa b1 0 0 hp zw,lN 0 2 hp J0 zAa zi,zC hp zA2 zi zi fun v v' w h h'=>zA4 h h',qa b1 0 0 hp zw,lN 0 2 hp J0 zAa zi,qa b1 0 4 hp zw,lN 4 2 hp J0 zAa zi,zC hp zA2 zi zi fun v v' w h h'=>zA4 h h',zS,zS,tv⟩) ?_
 intro w3 E _ _
 simp only [rzE] at E ⊢
 go_upto_region 2 with (fail)
 refine rz [.i (cmpI (Int.natAbs b:Int) a),.o,.o,.i (cmpI a c),.o,.o] [none] [] E (fun hp=>⟨zS,zO hp (sqi 0) T1.out,zS,zAi hp fo gqi (sqo 4),zO hp (sqi 3) T2.out,zt hp (sqi 2) (sqi 4),tv⟩) ?_
 intro w4 E _ _
 simp only [rzE] at E ⊢
 go_upto_region 4 with (fail)
 refine rz [.i (cmpI (Int.natAbs b:Int) a),.o,.o,.u (undef),.u (undef),.o,.o,.p b1 2,.n b,.i (cmpI b 0),.o,.o,.o] [none] [] E (fun hp=>⟨zS,zO hp (sqi 0) T3.out,zS,zS,zS,zt hp (sqi 2) (zk (.bool false)),zS,zg b1 0 2 hp zw,lG 2 2 hp gqi J0 zAa zi fun v w h=>zAe h,zc hp zA3 zi (fun v w h=>zA5 h),zO hp (sqi 9) T5.out,zt hp (sqi 6) (sqi 10),zS,tv⟩) ?_
 intro w5 E _ _
 simp only [rzE] at E ⊢
 clear  T1 T2 T3 T5
 clear B2 ha hb hc
 go_wp2
 exact zR (v:=.bool false) (by simp [results,Tryz.results69,go_sem]) E.below rfl

theorem zU8 {w:World} {v:Value} {a b c:Int} (h:(f3 a b c).P v w) (ha:ab a<pw 60) (hb:ab b<pw 60) (hc:ab c<pw 60) (hx:¬ a<(Int.natAbs b:Int)) (hy:a≤c) (k0:¬ (Int.natAbs b:Int)<a) (k1:¬ a<c) (k2:0≤b) {t:Bool} (ht:redB a b c=t) :
  Rt 69 #[v] w fun v' w'=>v'=.bool t:=by
 replace ha:=hidd ha
 replace hb:=hidd hb
 replace hc:=hidd hc
 have ht2:t=true:=ht.symm.trans (by unfold redB;exact decide_eq_true zm)
 subst ht2
 clear ht
 have T1:Hid (¬ 0<cmpI (Int.natAbs b:Int) a):=fun e=>by have:=cmpIqgt.1 e;omega
 have T2:Hid (¬ 0<cmpI a c):=fun e=>by have:=cmpIqgt.1 e;omega
 have T3:Hid (¬ cmpI (Int.natAbs b:Int) a<0):=fun e=>k0 (cmpIqlt.1 e)
 have T5:Hid (0≤cmpI b 0):=by have:=mt cmpIqlt.1 (show ¬ b<0 by omega);show _≤_;omega
 clear hx hy k0 k1 k2
 obtain ⟨y0_p0,y0_q0,y0_p1,y0_q1,y0_p2,y0_q2,rfl,hF0⟩:=o3 h
 obtain ⟨w1,b1,hw1,hb1,hs1,E⟩:=gS w 38 hF0
 go_enter Tryz.func69,Tryz.ntmps69
 go_upto_region 1 with (fail)
 rw [← hw1,← hb1]
 clear hw1 hb1 hs1
 have B2:Hid (ab ((Int.natAbs b:Int))<pw 60):=zBk hb.out
 refine rz [.p b1 2,.n b,.n (Int.natAbs b:Int),.p b1 0,.n a,.i (cmpI (Int.natAbs b:Int) a),.p b1 0,.n a,.p b1 4,.n c,.i (cmpI a c),.i (cmpI (Int.natAbs b:Int) a),.i (cmpI a c)] [none] [] E (fun hp=>⟨qa b1 0 2 hp zw,lN 2 2 hp J0 zAa zi,zc hp zDd zi fun v w h=>exK (AbsV h) B2.out zm,qa b1 0 0 hp zw,lN 0 2 hp J0 zAa zi,zC hp zA2 zi zi fun v v' w h h'=>zA4 h h',qa b1 0 0 hp zw,lN 0 2 hp J0 zAa zi,qa b1 0 4 hp zw,lN 4 2 hp J0 zAa zi,zC hp zA2 zi zi fun v v' w h h'=>zA4 h h',zS,zS,tv⟩) ?_
 intro w3 E _ _
 simp only [rzE] at E ⊢
 go_upto_region 2 with (fail)
 refine rz [.i (cmpI (Int.natAbs b:Int) a),.o,.o,.i (cmpI a c),.o,.o] [none] [] E (fun hp=>⟨zS,zO hp (sqi 0) T1.out,zS,zAi hp fo gqi (sqo 4),zO hp (sqi 3) T2.out,zt hp (sqi 2) (sqi 4),tv⟩) ?_
 intro w4 E _ _
 simp only [rzE] at E ⊢
 go_upto_region 4 with (fail)
 refine rz [.i (cmpI (Int.natAbs b:Int) a),.o,.o,.u (undef),.u (undef),.o,.o,.p b1 2,.n b,.i (cmpI b 0),.t,.t,.t] [none] [] E (fun hp=>⟨zS,zO hp (sqi 0) T3.out,zS,zS,zS,zt hp (sqi 2) (zk (.bool false)),zS,zg b1 0 2 hp zw,lG 2 2 hp gqi J0 zAa zi fun v w h=>zAe h,zc hp zA3 zi (fun v w h=>zA5 h),zO hp (sqi 9) T5.out,zt hp (sqi 6) (sqi 10),zS,tv⟩) ?_
 intro w5 E _ _
 simp only [rzE] at E ⊢
 clear  T1 T2 T3 T5
 clear B2 ha hb hc
 go_wp2
 exact zR (v:=.bool true) (by simp [results,Tryz.results69,go_sem]) E.below rfl

theorem zPf {w:World} {v:Value} {a b c:Int} (h:(f3 a b c).P v w) (ha:ab a<pw 60) (hb:ab b<pw 60) (hc:ab c<pw 60) {t:Bool} (ht:redB a b c=t) :
  Rt 69 #[v] w fun v' w'=>v'=.bool t:=by
 by_cases hx:a<(Int.natAbs b:Int)
 ·exact zVe h ha hb hc hx ht
 by_cases hy:a≤c
 ·by_cases k0:(Int.natAbs b:Int)<a
  ·by_cases k1:a<c
   ·exact zVd h ha hb hc hx hy k0 k1 ht
   ·by_cases k2:0≤b
    ·exact zVc h ha hb hc hx hy k0 k1 k2 ht
    ·exact zVb h ha hb hc hx hy k0 k1 k2 ht
  ·by_cases k1:a<c
   ·by_cases k2:0≤b
    ·exact zVa h ha hb hc hx hy k0 k1 k2 ht
    ·exact zU9 h ha hb hc hx hy k0 k1 k2 ht
   ·by_cases k2:0≤b
    ·exact zU8 h ha hb hc hx hy k0 k1 k2 ht
    ·exact zU7 h ha hb hc hx hy k0 k1 k2 ht
 ·exact zVf h ha hb hc hx hy ht

theorem zUx {w:World} {v:Value} {a b c:Int} (h:(f3 a b c).P v w) (ha:ab a<pw 40) (hb:ab b<pw 40) (hc:ab c<pw 40) (hD:ab (b*b-4*(a*c))<pw 40) {er:Int} (he:chkF a b c=er) (hn:¬ er=0) :
  Rt 68 #[v] w fun v' w'=>v'=.int .i64 er:=by
 replace ha:=hidd ha
 replace hb:=hidd hb
 replace hc:=hidd hc
 have HC:=hidd he
 have HDB:=hidd hD
 clear hD
 clear he
 have HN:=hidd hn
 clear hn
 obtain ⟨y0_p0,y0_q0,y0_p1,y0_q1,y0_p2,y0_q2,rfl,hF0⟩:=o3 h
 obtain ⟨w1,b1,hw1,hb1,hs1,E⟩:=gS w 38 hF0
 go_enter Tryz.func68,Tryz.ntmps68
 go_upto_region 1 with (fail)
 rw [← hw1,← hb1]
 clear hw1 hb1 hs1
 refine rz [.w (f3 a b c),.i er,.i er] [none] [] E (fun hp=>⟨lS 0 6 hp J0 zAc zw,zc hp zF8 zi fun v w h=>zGb h ha.out hb.out hc.out HDB.out HC.out,zS,tv⟩) ?_
 intro w2 E _ _
 simp only [rzE] at E ⊢
 go_upto_region 2 with (fail)
 refine rz [.i er,.t] [none] [] E (fun hp=>⟨zS,zO hp (sqi 0) HN.out,tv⟩) ?_
 intro w3 E _ _
 simp only [rzE] at E ⊢
 go_upto_region 3 with (fail)
 refine rz [.i er,.i er] [none] [] E (fun hp=>⟨zS,zS,tv⟩) ?_
 intro w4 E _ _
 simp only [rzE] at E ⊢
 clear HC HN
 clear ha hb hc HDB
 go_wp2
 exact zR (v:=.int .i64 er) (by simp [results,Tryz.results68,go_sem]) E.below rfl

theorem zUz {w:World} {v:Value} {a b c:Int} (h:(f3 a b c).P v w) (ha:ab a<pw 40) (hb:ab b<pw 40) (hc:ab c<pw 40) (hD:ab (b*b-4*(a*c))<pw 40) (he:chkF a b c=0) (hd:0<(b*b-4*(a*c))) :
  Rt 68 #[v] w fun v' w'=>v'=.int .i64 5:=by
 replace ha:=hidd ha
 replace hb:=hidd hb
 replace hc:=hidd hc
 have HC:=hidd he
 have HDB:=hidd hD
 clear hD
 clear he
 have T1:Hid (0<cmpI (b*b-4*(a*c)) 0):=cmpIqgt.2 hd
 clear hd
 obtain ⟨y0_p0,y0_q0,y0_p1,y0_q1,y0_p2,y0_q2,rfl,hF0⟩:=o3 h
 obtain ⟨w1,b1,hw1,hb1,hs1,E⟩:=gS w 38 hF0
 go_enter Tryz.func68,Tryz.ntmps68
 go_upto_region 1 with (fail)
 rw [← hw1,← hb1]
 clear hw1 hb1 hs1
 refine rz [.w (f3 a b c),.i 0,.i 0] [none] [] E (fun hp=>⟨lS 0 6 hp J0 zAc zw,zc hp zF8 zi fun v w h=>zGb h ha.out hb.out hc.out HDB.out HC.out,zS,tv⟩) ?_
 intro w2 E _ _
 simp only [rzE] at E ⊢
 go_upto_region 2 with (fail)
 refine rz [.i 0,.o] [none] [] E (fun hp=>⟨zS,zo hp (sqi 0),tv⟩) ?_
 intro w3 E _ _
 simp only [rzE] at E ⊢
 go_upto_region 4 with (fail)
 refine rz [.w (f3 a b c),.n (b*b-4*(a*c)),.i (cmpI (b*b-4*(a*c)) 0),.t] [none] [] E (fun hp=>⟨lS 0 6 hp J0 zAc zw,zc hp zC5 zi fun v w h=>zC6 h (zu ha.out) (zu hb.out) (zu hc.out),zc hp zA3 zi fun v w h=>zA5 h,zO hp (sqi 2) T1.out,tv⟩) ?_
 intro w4 E _ _
 simp only [rzE] at E ⊢
 go_upto_region 5 with (fail)
 refine rz [.i 5] [none] [] E (fun hp=>⟨zS,tv⟩) ?_
 intro w5 E _ _
 simp only [rzE] at E ⊢
 clear HC T1
 clear ha hb hc HDB
 go_wp2
 exact zR (v:=.int .i64 5) (by simp [results,Tryz.results68,go_sem]) E.below rfl

theorem zUy {w:World} {v:Value} {a b c:Int} (h:(f3 a b c).P v w) (ha:ab a<pw 40) (hb:ab b<pw 40) (hc:ab c<pw 40) (hD:ab (b*b-4*(a*c))<pw 40) (he:chkF a b c=0) (hd:¬ 0<(b*b-4*(a*c))) :
  Rt 68 #[v] w fun v' w'=>v'=.int .i64 0:=by
 replace ha:=hidd ha
 replace hb:=hidd hb
 replace hc:=hidd hc
 have HC:=hidd he
 have HDB:=hidd hD
 clear hD
 clear he
 have T1:Hid (¬ 0<cmpI (b*b-4*(a*c)) 0):=fun e=>hd (cmpIqgt.1 e)
 clear hd
 obtain ⟨y0_p0,y0_q0,y0_p1,y0_q1,y0_p2,y0_q2,rfl,hF0⟩:=o3 h
 obtain ⟨w1,b1,hw1,hb1,hs1,E⟩:=gS w 38 hF0
 go_enter Tryz.func68,Tryz.ntmps68
 go_upto_region 1 with (fail)
 rw [← hw1,← hb1]
 clear hw1 hb1 hs1
 refine rz [.w (f3 a b c),.i 0,.i 0] [none] [] E (fun hp=>⟨lS 0 6 hp J0 zAc zw,zc hp zF8 zi fun v w h=>zGb h ha.out hb.out hc.out HDB.out HC.out,zS,tv⟩) ?_
 intro w2 E _ _
 simp only [rzE] at E ⊢
 go_upto_region 2 with (fail)
 refine rz [.i 0,.o] [none] [] E (fun hp=>⟨zS,zo hp (sqi 0),tv⟩) ?_
 intro w3 E _ _
 simp only [rzE] at E ⊢
 go_upto_region 4 with (fail)
 refine rz [.w (f3 a b c),.n (b*b-4*(a*c)),.i (cmpI (b*b-4*(a*c)) 0),.o] [none] [] E (fun hp=>⟨lS 0 6 hp J0 zAc zw,zc hp zC5 zi fun v w h=>zC6 h (zu ha.out) (zu hb.out) (zu hc.out),zc hp zA3 zi fun v w h=>zA5 h,zO hp (sqi 2) T1.out,tv⟩) ?_
 intro w4 E _ _
 simp only [rzE] at E ⊢
 go_upto_region 6 with (fail)
 refine rz [.i 0] [none] [] E (fun hp=>⟨zS,tv⟩) ?_
 intro w5 E _ _
 simp only [rzE] at E ⊢
 clear HC T1
 clear ha hb hc HDB
 go_wp2
 exact zR (v:=.int .i64 0) (by simp [results,Tryz.results68,go_sem]) E.below rfl

theorem zLr {w:World} {v:Value} {a b c:Int} (h:(f3 a b c).P v w) (ha:ab a<pw 40) (hb:ab b<pw 40) (hc:ab c<pw 40) (hD:ab (b*b-4*(a*c))<pw 40) {er:Int} (he:redE a b c=er) :
  Rt 68 #[v] w fun v' w'=>v'=.int .i64 er:=by
 subst he
 unfold redE
 by_cases h1:chkF a b c=0∧0<b*b-4*(a*c)
 ·rw [if_pos h1];exact zUz h ha hb hc hD h1.1 h1.2
 ·rw [if_neg h1]
  by_cases h2:chkF a b c=0
  ·have hh:=zUy h ha hb hc hD h2 (fun x=>h1 ⟨h2,x⟩)
   rw [← h2] at hh
   exact hh
  ·exact zUx h ha hb hc hD rfl h2

theorem zPe {w:World} {v:Value} {a b c:Int} (h:(f3 a b c).P v w) (ha:ab a<pw 15) (hb:ab b<pw 15) (hc:ab c<pw 15) {er:Int} (he:redE a b c=er) :
  Rt 68 #[v] w fun v' w'=>v'=.int .i64 er:=
 zLr h (zu ha) (zu hb) (zu hc) (disc_ab ha hb hc) he

structure Pt where
 x:Int
 y:Int
 i:Bool
def Pt.Ok (M:Int) (P:Pt):Prop:=0≤P.x∧P.x<M∧0≤P.y∧P.y<M
theorem Pt.Ok.ab {M:Int} {P:Pt} (h:P.Ok M) (hM:ab M<pw 5):Go.Proofs.YtjadciofpgjofaaGreatDoor.ab P.x<pw 5∧Go.Proofs.YtjadciofpgjofaaGreatDoor.ab P.y<pw 5:=by
 obtain ⟨h1,h2,h3,h4⟩:=h
 unfold Go.Proofs.YtjadciofpgjofaaGreatDoor.ab at hM ⊢
 generalize pw 5=k at hM
 constructor <;> omega
section
variable {os : List Oper} {Q : Exit → Act → World → Prop} {a : Act} {p : Pq} {B B0 : Nat} {w0 : World}
variable {i s : Nat} {d : Option Tmp} {ty : TypeId} {ps : String} {af : Array Edge} {gd : Option (Nat × Bool)}
end
def zBy (k n:Int):Int:=if k % 2=1∧(n % 8=3∨n % 8=5) then -1 else 1
def zC2 (a n:Int):Int:=if a % 4=3∧n % 4=3 then -1 else 1
theorem ofTwosZ (w:World) {k n:Int} (k0:0≤k) (k1:k<9223372036854775808) (n0:0≤n) (n1:n<4294967296) :
  Calls Tryz.prog 165 #[.int .i64 k,.int .u32 n] w fun e w'=>e=.returned (.int .i64 (zBy k n))∧w'=w:=by
 obtain ⟨k',rfl⟩:=Int.eq_ofNat_of_zero_le k0
 obtain ⟨n',rfl⟩:=Int.eq_ofNat_of_zero_le n0
 have e:zBy (k':Int) (n':Int)=twosI k' n':=by
  unfold zBy twosI
  by_cases h:k' % 2=1∧(n' % 8=3∨n' % 8=5)
  ·rw [if_pos h,if_pos zm]
  ·rw [if_neg h,if_neg zm]
 rw [e]
 exact zWn w k' n' zm zm
theorem turnedZ (w:World) {a n:Int} (k0:0≤a) (k1:a<4294967296) (n0:0≤n) (n1:n<4294967296) :
  Calls Tryz.prog 171 #[.int .u32 a,.int .u32 n] w fun e w'=>e=.returned (.int .i64 (zC2 a n))∧w'=w:=by
 obtain ⟨k',rfl⟩:=Int.eq_ofNat_of_zero_le k0
 obtain ⟨n',rfl⟩:=Int.eq_ofNat_of_zero_le n0
 have e:zC2 (k':Int) (n':Int)=turnI k' n':=by
  unfold zC2 turnI
  by_cases h:k' % 4=3∧n' % 4=3
  ·rw [if_pos h,if_pos zm]
  ·rw [if_neg h,if_neg zm]
 rw [e]
 exact zX1 w k' n' zm zm
theorem zNp (k n:Int):zBy k n=1∨zBy k n=-1:=by unfold zBy;split <;> simp
theorem zSn (a n:Int):zC2 a n=1∨zC2 a n=-1:=by unfold zC2;split <;> simp

theorem J_pow2 {n:Nat} (ho:n % 2=1) (a:Int):∀ t:Nat,J (2^t*a) n=zBy t n*J a n
 | 0=>by
  have:zBy ((0:Nat):Int) n=1:=by unfold zBy;rw [if_neg zm]
  rw [this,Int.pow_zero,Int.one_mul,Int.one_mul]
 | t+1=>by
  have ih:=J_pow2 ho a t
  have e:(2:Int)^(t+1)*a=2*(2^t*a):=by rw [Int.pow_succ];ac_rfl
  rw [e,J_mul ho,ih,J_two ho,← Int.mul_assoc]
  congr 1
  unfold zBy
  by_cases h:n % 8=3∨n % 8=5
  ·rw [if_pos h]
   by_cases ht:t % 2=1
   ·rw [if_pos zm,if_neg zm];rfl
   ·rw [if_neg zm,if_pos zm];rfl
  ·rw [if_neg h,if_neg zm,if_neg zm];rfl
theorem J_swap {a n:Nat} (ha:a % 2=1) (hn:n % 2=1):J a n=zC2 a n*J ((n:Int) % a) a:=by
 rw [J_rec ha hn,J_mod]
 congr 1
 unfold zC2
 by_cases h:a % 4=3∧n % 4=3
 ·rw [if_pos h,if_pos zm]
 ·rw [if_neg h,if_neg zm]
theorem J_step {t o n:Nat} (ho:o % 2=1) (hn:n % 2=1):J ((2^t*o:Nat):Int) n=zBy t n*zC2 o n*J ((n:Int) % o) o:=by
 have:((2^t*o:Nat):Int)=2^t*(o:Int):=by simp
 rw [this,J_pow2 hn,J_swap ho hn,Int.mul_assoc]
theorem zSo (k n:Int):zBy k (n % 4294967296)=zBy k n:=by
 unfold zBy
 have:(n % 4294967296) % 8=n % 8:=zm
 rw [this]
theorem zSm (a n:Int):zC2 (a % 4294967296) (n % 4294967296)=zC2 a n:=by
 unfold zC2
 have e1:(a % 4294967296) % 4=a % 4:=zm
 have e2:(n % 4294967296) % 4=n % 4:=zm
 rw [e1,e2]
theorem J_zero {n:Nat}:J 0 n=if n=1 then 1 else 0:=by
 by_cases h:n=1
 ·subst h
  rw [if_pos rfl]
  rfl
 ·rw [if_neg h,zFf]
  simpa using h

theorem measJ' {n o a:Nat} (h0:0<o) (h:o≤a):(intOf (.int .u64 ((n:Int) % (o:Int)))).toNat<(intOf (.int .u64 (a:Int))).toNat:=by
 have h1:=Int.emod_nonneg (n:Int) (show (o:Int)≠0 by omega)
 have h2:=Int.emod_lt_of_pos (n:Int) (show (0:Int)<o by omega)
 simp only [intOf]
 omega

theorem zWd (w:World) (hT:Tabs w) (a0 n0:Nat) (ha:a0<18446744073709551616) (hn:n0<18446744073709551616) (ho:n0 % 2=1) :
  Calls Tryz.prog 172 #[.int .u64 (a0:Int),.int .u64 (n0:Int)] w fun e w'=>e=.returned (.int .i64 (J a0 n0))∧w'=w:=by
 go_enter Tryz.func172,Tryz.ntmps172
 go_wp2
 go_loopw [0,1,5] (fun va vn vs W=>∃ (a n:Nat) (s:Int),va=.int .u64 (a:Int)∧vn=.int .u64 (n:Int)∧vs=.int .i64 s∧W=w∧a<18446744073709551616∧n<18446744073709551616∧n % 2=1∧(s=1∨s=-1)∧J a0 n0=s*J a n) (fun va _ _ _=>(intOf va).toNat)
 case atStart=>exact ⟨a0,n0,1,rfl,rfl,rfl,rfl,ha,hn,ho,.inl rfl,by rw [Int.one_mul]⟩
 case round=>
  obtain ⟨a,n,s,rfl,rfl,rfl,rfl,h1,h2,h3,hs,hJ⟩:=hrel
  have HT:=hidd hT
  clear hT
  by_cases h0:a=0
  ·subst h0
   rw [show ((0:Nat):Int)=0 from rfl,J_zero] at hJ
   by_cases hn1:n=1
   ·subst hn1
    rw [if_pos rfl,Int.mul_one] at hJ
    have HJ:=hidd hJ
    clear hJ
    go_wp2
    go_ret
    exact ⟨by rw [HJ.out];rfl,rfl⟩
   ·have f1:((n:Int) != 1)=true:=by simp;omega
    rw [if_neg hn1,Int.mul_zero] at hJ
    have HJ:=hidd hJ
    clear hJ hn1
    go_wp2
    go_ret
    exact ⟨by rw [HJ.out];rfl,rfl⟩
  ·have f0:((a:Int) != 0)=true:=by simp;omega
   obtain ⟨m,hm,hk⟩:=Lib.ctzFrom_spec 64 a zm zm
   have hc:=tz64_any a h1 h0 wr HT.out
   have ec:Lib.ctz 64 a=Lib.ctzFrom 64 a:=by unfold Lib.ctz;rw [if_neg h0]
   rw [ec] at hc
   obtain ⟨t,ht⟩:∃ t,t=Lib.ctzFrom 64 a:=⟨_,rfl⟩
   rw [← ht] at hm hk hc
   obtain ⟨o,ho2⟩:∃ o,o=2*m+1:=⟨_,rfl⟩
   rw [← ho2] at hm
   have hoo:o % 2=1:=zm
   have hp:0<2^t:=Nat.two_pow_pos t
   have hoa:o≤a:=by rw [hm];exact Nat.le_mul_of_pos_left o hp
   have hdiv:(a:Int)/2^min t 64=(o:Int):=by
    rw [Nat.min_eq_left zm]
    have:(a:Int)=2^t*(o:Int):=by rw [hm];simp
    rw [this]
    exact Int.mul_ediv_cancel_left _ (by have:=zA6 t;omega)
   have hstep:=J_step (t:=t) hoo h3
   rw [← hm] at hstep
   have cA:=ofTwosZ wr (k:=(t:Int)) (n:=(n:Int) % 4294967296) zm zm zm zm
   have cB:=turnedZ wr (a:=(o:Int) % 4294967296) (n:=(n:Int) % 4294967296) zm zm zm zm
   rw [zSo] at cA
   rw [zSm] at cB
   have hA:=zNp t n
   have hB:=zSn o n
   generalize zBy (t:Int) (n:Int)=A at *
   generalize zC2 (o:Int) (n:Int)=B at *
   have g1:IntKind.i64.wrap (A*B)=A*B:=IntWalk.i64_in _ (by rcases hA with rfl | rfl <;> rcases hB with rfl | rfl <;> decide)
   have g2:IntKind.i64.wrap (s*(A*B))=s*(A*B):=IntWalk.i64_in _ (by rcases hs with rfl | rfl <;> rcases hA with rfl | rfl <;> rcases hB with rfl | rfl <;> decide)
   have g3:((o:Int) == 0)=false:=by simp;omega
   have g4:¬ (o:Int)=0:=zm
   have g5:¬ o=0:=zm
   have HS:Hid ((s*(A*B)=1∨s*(A*B)=-1)∧J a0 n0=s*(A*B)*J ((n:Int) % o) o):=by
    refine ⟨by rcases hs with rfl | rfl <;> rcases hA with rfl | rfl <;> rcases hB with rfl | rfl <;> simp,?_⟩
    rw [hJ,hstep]
    ac_rfl
   have HC:=hidd hc
   have CA:=hidd cA
   have CB:=hidd cB
   have HO:=hidd (show 0<o∧o≤a∧o<18446744073709551616∧o % 2=1 by omega)
   clear hm hk ht hp hoo hoa ho2 hJ hstep hs hA hB hc cA cB ec h0
   go_wp2_with (first | (go_at_call 176;(with_reducible refine (Calls.mono HC.out ?_));rintro e w' ⟨rfl,rfl⟩) | (go_at_call 165;(with_reducible refine (Calls.mono CA.out ?_));rintro e w' ⟨rfl,rfl⟩) | (go_at_call 171;(with_reducible refine (Calls.mono CB.out ?_));rintro e w' ⟨rfl,rfl⟩))
   refine ⟨⟨n % o,o,_,rfl,rfl,rfl,trivial,?_,HO.out.2.2.1,HO.out.2.2.2,HS.out.1,by simpa using HS.out.2⟩,measJ' HO.out.1 HO.out.2.1⟩
   have:=Nat.mod_lt n HO.out.1
   have:=HO.out
   omega

theorem two_uniq {a b m n:Nat} (h:2^a*(2*m+1)=2^b*(2*n+1)):a=b:=by
 rcases Nat.lt_trichotomy a b with hl | hl | hl
 ·exfalso
  obtain ⟨d,rfl⟩:∃ d,b=a+(d+1):=⟨b-a-1,zm⟩
  rw [Nat.pow_add,Nat.mul_assoc,Nat.pow_succ] at h
  have:=Nat.eq_of_mul_eq_mul_left (Nat.two_pow_pos a) h
  rw [Nat.mul_comm (2^d) 2,Nat.mul_assoc] at this
  omega
 ·exact hl
 ·exfalso
  obtain ⟨d,rfl⟩:∃ d,a=b+(d+1):=⟨a-b-1,zm⟩
  rw [Nat.pow_add,Nat.mul_assoc,Nat.pow_succ] at h
  have:=Nat.eq_of_mul_eq_mul_left (Nat.two_pow_pos b) h
  rw [Nat.mul_comm (2^d) 2,Nat.mul_assoc] at this
  omega
def v2 (z:Int):Nat:=Lib.ctzFrom (zA8 z) z.natAbs
theorem zNr {z:Int} (h:z≠0):∃ m:Nat,z.natAbs=2^v2 z*(2*m+1)∧v2 z<zA8 z:=by
 refine Lib.ctzFrom_spec _ _ zm ?_
 rcases zH6 z with ⟨h1,_⟩ | ⟨_,_,h3⟩
 ·unfold ab at h1;omega
 ·unfold ab at h3;exact_mod_cast h3
theorem v2_eq {z:Int} (h:z≠0) {t m:Nat} (e:z.natAbs=2^t*(2*m+1)):v2 z=t:=by
 obtain ⟨n,h1,_⟩:=zNr h
 exact two_uniq (h1.symm.trans e)
theorem v2_div {z:Int} (h:z≠0):z=2^v2 z*(z/2^v2 z)∧(z/2^v2 z) % 2=1:=by
 obtain ⟨m,h1,_⟩:=zNr h
 generalize v2 z=t at *
 have hp:=zA6 t
 have e:z=2^t*(2*(m:Int)+1)∨z=2^t*(2*(-(m:Int)-1)+1):=by
  have h2:(z.natAbs:Int)=2^t*(2*(m:Int)+1):=by rw [h1];simp
  have h3:(2:Int)^t*(2*(-(m:Int)-1)+1)=-(2^t*(2*(m:Int)+1)):=by
   rw [← Int.mul_neg];congr 1;omega
  rw [h3]
  omega
 rcases e with e | e
 ·have:z/2^t=2*(m:Int)+1:=by rw [e];exact Int.mul_ediv_cancel_left _ zm
  rw [this];exact ⟨e,zm⟩
 ·have:z/2^t=2*(-(m:Int)-1)+1:=by rw [e];exact Int.mul_ediv_cancel_left _ zm
  rw [this];exact ⟨e,zm⟩
theorem zNt {xs:List Int}:∀ {j:Nat},j≤xs.length→(∀ i,i<j→xs.getD i 0=0)→val xs=pw j*val (xs.drop j)
 | 0,_,_=>by rw [zDo,List.drop_zero,Int.one_mul]
 | j+1,hj,h=>by
  rw [zNt (j:=j) zm (fun i hi=>h i zm),zDj xs zm,h j zm,Int.zero_add,zCy,Int.mul_assoc]
theorem val_twos {xs:List Int} {j:Nat} (hd:Digs xs) (hj:j<xs.length) (h:∀ i,i<j→xs.getD i 0=0) {x:Nat} (hx:xs.getD j 0=(x:Int)) (h0:x≠0) (h1:x<4294967296) :
  ∃ m:Nat,(val xs).natAbs=2^(32*j+Lib.ctz 32 x)*(2*m+1)∧Lib.ctz 32 x<32:=by
 obtain ⟨m,hm,hk⟩:=Lib.ctzFrom_spec 32 x zm h1
 have ec:Lib.ctz 32 x=Lib.ctzFrom 32 x:=by unfold Lib.ctz;rw [if_neg h0]
 rw [ec]
 generalize Lib.ctzFrom 32 x=c at *
 have hr:=zAm (hd.drop (j+1))
 obtain ⟨r,hr⟩:=Int.eq_ofNat_of_zero_le hr
 have e:=zNt (Nat.le_of_lt hj) h
 rw [zDj xs hj,hx,hr] at e
 refine ⟨m+2^(31-c)*r,?_,hk⟩
 have e2:val xs=((2^(32*j)*(x+4294967296*r):Nat):Int):=by rw [e,zCb];simp
 rw [e2,Int.natAbs_natCast,Nat.pow_add,Nat.mul_assoc]
 congr 1
 have e3:4294967296=2^c*(2*2^(31-c)):=by
  have:(4294967296:Nat)=2^(c+((31-c)+1)):=by rw [show c+((31-c)+1)=32 by omega]
  rw [this,Nat.pow_add,Nat.pow_succ,Nat.mul_comm (2^(31-c)) 2]
 rw [e3,hm,Nat.mul_assoc,← Nat.mul_add]
 congr 1
 rw [Nat.mul_add,Nat.mul_assoc]
 omega
theorem val_unit (j:Nat) (x:Int):val ((List.replicate (j+1) 0).set j x)=pw j*x:=by
 have h:=zAq ((List.replicate (j+1) (0:Int)).set j x) j
 rw [zAw _ (by simp),zC4 _ _ _ _ (Nat.le_refl _),List.take_replicate,zGq,zB6 _ _ _ (by simp),Int.zero_add] at h
 exact h

theorem exTz32 {w:World} {x:Int} (hT:Tabs w) (h0:0<x) (h1:x<4294967296):Calls Tryz.prog 170 #[.int .u32 x] w fun e w'=>e=.returned (.int .i64 (Lib.ctz 32 x.toNat))∧w'=w:=by
 obtain ⟨n,rfl⟩:=Int.eq_ofNat_of_zero_le (show 0≤x by omega)
 exact tz32_any n zm zm w hT

theorem wrd_aux {t n:Nat} (h:t<32*n) (hn:n≤300):wrap64 ((t:Int)/32)=(t:Int)/32∧wrap64 ((t:Int)/32+1)=(t:Int)/32+1∧t/32+1≤1000:=by
 simp only [wrap64]
 omega
theorem zN8 (t:Nat):(t:Int)/32+1=((t/32+1:Nat):Int):=zm
theorem idx_aux (t:Nat):(0:Int)≤(t:Int)/32∧(t:Int)/32<((t/32+1:Nat):Int)∧(0:Int)≤(t:Int) % 32:=zm
theorem zKf (t:Nat):Dig ((2:Int)^(t % 32) % 4294967296)∧(2:Int)^(t % 32) % 4294967296=2^(t % 32):=by
 have h:(2:Int)^(t % 32)≤2^31:=zCl zm
 have h0:=zA6 (t % 32)
 unfold Dig
 omega
theorem pow_num {w:World} {e:TypeId} {b t:Nat} (h:Row w e b ((List.replicate (t/32+1) 0).set (t/32) (2^(t % 32) % 4294967296))) (ht:t/32+1≤1000) :
  Num w (.agg #[.bool false,.slice (some ⟨b,0,none⟩) (t/32+1) (t/32+1)]) (2^t):=by
 have hl:((List.replicate (t/32+1) (0:Int)).set (t/32) (2^(t % 32) % 4294967296)).length=t/32+1:=by simp
 have hs:=h.sl hl
 have hv:=val_unit (t/32) ((2:Int)^(t % 32) % 4294967296)
 rw [(zKf t).2] at hv
 have e2:pw (t/32)*(2:Int)^(t % 32)=2^t:=by rw [zCb,← Int.pow_add];congr 1;omega
 rw [e2] at hv
 have hp:=zA6 (t % 32)
 refine ⟨false,_,_,_,_,rfl,hs,zm,?_,⟨hs.digs,.inr ?_⟩,fun h=>by cases h⟩
 ·rw [(zKf t).2,hv];rfl
 ·rw [hl,Nat.add_sub_cancel,(zKf t).2,hv,← e2]
  have:=Int.mul_le_mul_of_nonneg_left (show 1≤(2:Int)^(t % 32) by omega) (show 0≤pw (t/32) by have:=zA0 (t/32);omega)
  omega
theorem zWt {t m:Nat} (h:t≤32*m):ab ((2:Int)^t)<pw (m+1):=by
 have h0:=zA6 t
 rw [zBb zm]
 have h1:(2:Int)^t≤2^(32*m):=zCl h
 rw [← zCb] at h1
 rw [zCy]
 have:=zA0 m
 omega
theorem pow_bound {t n:Nat} (h:t<32*n) (hn:n≤300):ab ((2:Int)^t)<pw 301:=zWt (m:=300) zm
def Fq.numAnd (z:Int) (v0:Value) (e:Int):Fq:=⟨fun v w=>Num w v z∧Num w v0 e,fun h hb=>⟨h.1.mono hb,h.2.mono hb⟩,fun h ha ht hl=>⟨h.1.putAt ha ht hl,h.2.putAt ha ht hl⟩⟩
theorem Fr.numAnd {w0 W:World} {b b':Nat} {z z' e:Int} {v0:Value} (h:Fr w0 [(b',2,Fq.num z'),(b,2,Fq.num z)] W) (hv:Num W v0 e):Fr w0 [(b',2,Fq.num z'),(b,2,Fq.numAnd z v0 e)] W:=by
 refine ⟨h.below,fun x hx=>?_,h.apart⟩
 rcases List.mem_cons.1 hx with rfl | hx
 ·exact h.boxes _ (List.mem_cons_self ..)
 ·rw [List.mem_singleton] at hx
  subst hx
  obtain ⟨h1,us,a1,a2,a3,a4,a5⟩:=h.boxes (b,2,Fq.num z) (by simp)
  exact ⟨h1,us,a1,a2,a3,a4,a5,hv⟩
section
variable {os : List Oper} {Q : Exit → Act → World → Prop} {a : Act} {p : Pq} {B B0 : Nat} {w0 : World}
variable {i s : Nat} {d : Option Tmp} {ty : TypeId} {ps : String} {af : Array Edge} {gd : Option (Nat × Bool)}
theorem zW1 {o:Ob} {y:Operand} {ao:Option Addr} {k c:Nat} {z e:Int} (hp:p.Ok B B0) (hF:p.Free i) (hg:GdQ os a p B B0 w0 af gd) (ho:o∈p.old) (hk:o.F1=o.F0) (hf:o.F0=Fq.numAnd z (.agg #[.bool false,.slice ao k c]) e)
  (hy:SrcQ os a p B B0 w0 af y fun v _=>v=.slice ao k c) (hC:∀ v w,Num w v e→(p.c i).P v w) :
  zAf os Q a p B B0 w0 i { dst:=d,op:=.build 36 #[(1,y)],type:=ty,pos:=ps,after:=af,guard:=gd }:=by
 refine zBf hp hF hg fun L vs w hG hL hc hd=>?_
 have h2:=hy L vs w hG hd
 have hb:=hG.old o ho
 rw [hk,ite_self] at hb
 rw [hf] at hb
 obtain ⟨_,_,_,_,_,hv⟩:=hb
 refine ⟨.agg #[.bool false,.slice ao k c],?_,hC _ _ hv.2⟩
 generalize (lay os.toArray L vs os.toArray.size a).eval=ρ at h2
 simp [execOp,go_sem,h2]
end
theorem tlt_aux {k c n:Nat} (h:k % 32=0) (h1:k/32<n) (h2:c<32):k+c<32*n:=zm
theorem measO {n k:Nat} (h:k/32+1<n):32*n-(intOf (.int .i64 ((k:Int)+32))).toNat<32*n-(intOf (.int .i64 (k:Int))).toNat:=by simp [intOf];omega

theorem zUu {w:World} {v:Value} {z:Int} {K:Nat} (h:Num w v z) (hT:Tabs w) (hz:z≠0) (hb:ab z<pw K) (hK:K≤300) :
  Rt 164 #[v] w fun v' w'=>(Fq.tup2 (Fq.num (z/2^v2 z)) (Fq.is (.int .i64 (v2 z:Int)))).P v' w':=by
 obtain ⟨n0,ao0,k0,cc0,rfl⟩:=h.parts
 obtain ⟨w1,b1,hw1,hb1,hs1,E⟩:=gN w 36 h
 obtain ⟨w2,b2,hw2,hb2,hs2,E⟩:=fZ E hs1 36
 have HT:=hidd (hT.mono E.below)
 clear hT
 go_enter Tryz.func164,Tryz.ntmps164
 go_upto_region 1 with (fail)
 rw [← hw1,← hw2]
 rw [← hb2,← hb1]
 clear hw1 hw2 hb1 hb2 hs2 hs1
 obtain ⟨p0,p1,c0,c1,hP⟩:=zCg (E.box 1 rfl)
 obtain ⟨q0,q1,d0,d1,hQ⟩:=zCg (E.box 0 rfl)
 have hP0:=hidd hP
 obtain ⟨neg,ax,n,cx,xs,eP,hX,hn,hzz,hc,_⟩:=hP
 obtain ⟨rfl,rfl⟩:p0=.bool neg∧p1=.slice ax n cx:=by
  injection eP with eP
  have:=congrArg Array.toList eP
  simpa using this
 have hv0:ab z=val xs:=by rw [hzz,zD5,zBb (zAm hX.digs)]
 have hvn:(val xs).natAbs=z.natAbs:=by unfold ab at hv0;omega
 have hvz:val xs≠0:=by unfold ab at hv0;omega
 have hn3:n≤300:=by
  have:=hc.length_le (by rw [← hv0];exact hb)
  rw [hX.len] at this
  omega
 have hn0:0<n:=by
  rcases Nat.eq_zero_or_pos n with h0 | h0
  ·exfalso;apply hvz;have:=hX.len;rw [h0] at this;rw [List.eq_nil_of_length_eq_zero this];rfl
  ·exact h0
 have HVN:=hidd hvn
 have HVZ:=hidd hvz
 have HN:=hidd (show 0<n∧n≤300 from ⟨hn0,hn3⟩)
 have HB:=hidd hb
 have HZ:=hidd hz
 have HKK:=hidd hK
 clear hzz hv0 hvn hvz hb hn3 hn hn0 eP hQ hz hK
 go_wp2
 go_loopw [4] (fun vk W=>∃ k:Nat,k % 32=0∧k/32<n∧vk=.int .i64 (k:Int)∧W=w2∧∀ i,i<k/32→xs.getD i 0=0) (fun vk _=>32*n-(intOf vk).toNat)
 case atStart=>exact ⟨0,rfl,by have:=HN.out;omega,rfl,rfl,fun i hi=>zm⟩
 case round=>
  obtain ⟨k,hk32,hkn,rfl,rfl,hlow⟩:=hrel
  obtain ⟨b,off,rfl,hbl,x,hxc,hx0,hx1,HX⟩:=hX.cells.at (k:=k/32) (by rw [hX.len];exact hkn)
  have g1:(0:Int)≤(k:Int)/32∧(k:Int)/32<n:=zm
  have hq:wrap64 ((k:Int)/32)=(k:Int)/32:=by have:=HN.out;simp only [wrap64];omega
  by_cases hxz:x=0
  ·subst hxz
   have hk2:k/32+1<n:=by
    rcases Nat.lt_or_ge (k/32+1) n with h0 | h0
    ·exact h0
    ·exfalso
     apply HVZ.out
     rw [zNt (j:=n) (by rw [hX.len];exact Nat.le_refl _) (fun i hi=>by
      rcases Nat.lt_or_ge i (k/32) with h1 | h1
      ·exact hlow i h1
      ·rw [show i=k/32 by omega];exact HX.out),List.drop_of_length_le (by rw [hX.len];exact Nat.le_refl _)]
     show pw n*0=0
     rw [Int.mul_zero]
   have hw:IntKind.i64.wrap ((k:Int)+32)=(k:Int)+32:=IntWalk.i64_in _ (by have:=HN.out;omega)
   have hw2:wrap64 ((k:Int)+32)=(k:Int)+32:=by have:=HN.out;simp only [wrap64];omega
   have HL:=hidd hlow
   have HK:=hidd (show k % 32=0∧k/32+1<n from ⟨hk32,hk2⟩)
   clear hlow hk32 hk2
   go_wp2
   go_roundw
   case rel=>
    refine ⟨k+32,by have:=HK.out;omega,by have:=HK.out;omega,by first | rfl | (rw [hw2];rfl),by trivial,fun i hi=>?_⟩
    rcases Nat.lt_or_ge i (k/32) with h1 | h1
    ·exact HL.out i h1
    ·rw [show i=k/32 by omega];exact HX.out
   case measure=>first | exact measO HK.out.2 | (rw [hw2];exact measO HK.out.2)
  ·have fx:(x == 0)=false:=by simp;exact hxz
   obtain ⟨y,rfl⟩:=Int.eq_ofNat_of_zero_le hx0
   have hy0:y≠0:=zm
   have hy1:y<4294967296:=zm
   obtain ⟨m,hm,hc32⟩:=val_twos hX.digs (by rw [hX.len];exact hkn) hlow HX.out hy0 hy1
   rw [show 32*(k/32)=k by omega,HVN.out] at hm
   have hv2:=v2_eq HZ.out hm
   have hy2:(0:Int)<(y:Int):=zm
   have cT:=exTz32 (x:=(y:Int)) HT.out hy2 hx1
   rw [Int.toNat_natCast] at cT
   clear hy2
   obtain ⟨c,hcc⟩:∃ c,c=Lib.ctz 32 y:=⟨_,rfl⟩
   rw [← hcc] at hm hc32 hv2 cT
   replace cT:=hidd cT
   have hw:IntKind.i64.wrap ((k:Int)+(c:Int))=((k+c:Nat):Int):=by rw [IntWalk.i64_in _ (by have:=HN.out;omega)];rfl
   have hw2:wrap64 ((k:Int)+(c:Int))=((k+c:Nat):Int):=by have:=HN.out;simp only [wrap64];omega
   obtain ⟨t,ht⟩:∃ t,t=k+c:=⟨_,rfl⟩
   rw [← ht] at hw hw2 hm hv2
   have HT2:=hidd (show t=k+c∧t<32*n from ⟨ht,by rw [ht];exact tlt_aux hk32 hkn hc32⟩)
   have HV2:=hidd hv2
   clear hm hc32 hcc ht hlow hk32 hv2
   go_upto_region 5 with (first | (go_at_call 170;(with_reducible refine (Calls.mono cT.out ?_));rintro e w' ⟨rfl,rfl⟩))
   obtain ⟨us0,hl0,_,hat0,htm0,_⟩:=(E.boxes _ (List.mem_cons_self ..)).2
   have z0:=(hat0 0 (by rw [hl0];exact Nat.le_of_ble_eq_true rfl)).2
   have z1:=(hat0 1 (by rw [hl0];exact Nat.le_of_ble_eq_true rfl)).2
   by_cases ht0:t=0
   ·have f0:(((t:Nat):Int) == 0)=true:=by simp;exact ht0
    have HV3:Hid ((v2 z:Int)=0∧z/2^v2 z=z):=by
     rw [HV2.out,ht0]
     exact ⟨rfl,by rw [Int.pow_zero,Int.ediv_one]⟩
    clear hat0 htm0 hl0 ht0
    go_upto_region 6 with (fail)
    clear hw hw2 hX hxc cT fx g1 hq hy0 hy1 hx0 hx1 hxz hbl hkn f0
    have E2:=E.put (F':=Fq.num z) (us:=[.bool neg,.slice (some ⟨b,off,none⟩) n cx]) rfl (zCk _ _ _ _) hP0.out
    obtain ⟨wZ,hwZ⟩:∃ wZ,wZ=putFrom w' b2 0 [.bool neg,.slice (some ⟨b,off,none⟩) n cx]:=⟨_,rfl⟩
    rw [← hwZ] at E2
    have hwZ2:wZ=(w'.setCell ⟨b2,0,none⟩ (.bool neg)).setCell ⟨b2,1,none⟩ (.slice (some ⟨b,off,none⟩) n cx):=hwZ
    obtain ⟨r0,r1,e0,e1,hR⟩:=zCg (E2.box 0 rfl)
    go_wp2
    rw [← hwZ2]
    refine bodyPost_ret (v:=.tuple #[.agg #[r0,r1],.int .i64 0]) ?_ rfl ⟨_,rfl,E2.below,_,_,rfl,by rw [HV3.out.2];exact hR,by rw [HV3.out.1];rfl⟩
    simp [results,Tryz.results164,go_sem,e0,e1]
   ·have f0:(((t:Nat):Int) == 0)=false:=by simp;exact ht0
    obtain ⟨g2,g3,htn⟩:=wrd_aux HT2.out.2 HN.out.2
    replace htn:=hidd htn
    clear ht0
    go_upto_region 7 with (fail)
    clear hw hw2 hX hxc cT fx g1 hq hy0 hy1 hx0 hx1 hxz hbl hkn f0 hat0 htm0 hl0
    go_upto_region 8 with (at_make;refine zEi _ rfl _ _ 27 rfl 104 Tryz.underlying27 (by kernel_rfl) _ _ _ _ rfl rfl (t/32+1) (g3.trans (zN8 t)) (g3.trans (zN8 t)) (Nat.le_trans htn.out (Nat.le_of_ble_eq_true rfl)) ?_;intro w3 hrow hb3 hs3)
    have hfr:=hrow.frozen (t/32)
    obtain ⟨z9,hzc9,_,_,_⟩:=hrow.at (j:=t/32) (by simp)
    obtain ⟨g4,g5,g6⟩:=idx_aux t
    replace hs3:=hidd hs3
    have hrow2:=hidd hrow
    clear hrow
    go_upto_region 9 with (fail)
    clear g2 g3 g4 g5 g6 hfr hzc9 z0 z1
    have hx:=zKf t
    obtain ⟨w4,hw4⟩:∃ w4,w4=w3.setCell ⟨w'.heap.size,t/32,none⟩ (.int .u32 (2^(t % 32) % 4294967296)):=⟨_,rfl⟩
    have hrow4:Row w4 104 w'.heap.size ((List.replicate (t/32+1) 0).set (t/32) (2^(t % 32) % 4294967296)):=by rw [hw4];exact hrow2.out.set hx.1
    have hb4:Below w'.heap.size w' w4:=by rw [hw4];exact hb3.setCell (Nat.le_refl _) _
    rw [← hw4]
    obtain ⟨bR,hbR⟩:∃ x,x=w'.heap.size:=⟨_,rfl⟩
    rw [← hbR] at hrow4
    rw [← hbR]
    have hPW:Num w4 (.agg #[.bool false,.slice (some ⟨bR,0,none⟩) (t/32+1) (t/32+1)]) (2^t):=pow_num hrow4 htn.out
    replace E:=E.mono hb4
    replace E:Fr w [(b2,2,Fq.num 0),(b1,2,Fq.numAnd z (.agg #[.bool false,.slice (some ⟨bR,0,none⟩) (t/32+1) (t/32+1)]) (2^t))] w4:=E.numAnd hPW
    have HV3:Hid ((v2 z:Int)=t∧z/2^v2 z=z/2^t):=by rw [HV2.out];exact ⟨rfl,rfl⟩
    have BZ:Hid (ab z<pw K):=HB.out
    have BP:Hid (ab ((2:Int)^t)<pw 301):=pow_bound HT2.out.2 HN.out.2
    have NZ:Hid ((2:Int)^t≠0):=by have:=zA6 t;show _≠_;omega
    have BQ:Hid (ab (z/2^t)<pw (K+1)):=zEj BZ.out zm
    have BR:Hid (ab (z % 2^t)<pw 301):=zCf NZ.out BP.out
    clear hrow4 hb4 hb3 hw4 hx hPW hrow2 hs3 htn HV2 HB hP0 hbR d0 d1 c0 c1
    refine rz [.n z,.u (.slice (some ⟨bR,0,none⟩) (t/32+1) (t/32+1)),.n (2^t),.w (Fq.tup3 (Fq.num (z/2^t)) (Fq.num (z % 2^t)) (Fq.is (.int .i64 0))),.w (Fq.tup3 (Fq.num (z/2^t)) (Fq.num (z % 2^t)) (Fq.is (.int .i64 0))),.n (z/2^t),.n (z % 2^t),.i 0,.k,.k,.a,.a,.i 0] N2 [⟨8,10,2,Fq.num 0,Fq.num (z/2^t),none⟩,⟨9,11,2,Fq.num 0,Fq.num (z % 2^t),none⟩] E (fun hp=>⟨lI 0 hp J1 zw (fun us w hl h=>zAz hl h.1),zS,zW1 hp fo tv J1 rfl rfl (sqi 1) (fun v w h=>h),zC hp zF3 zi zi fun v v' w h h'=>zGa h h' NZ.out BQ.out BR.out (by have:=HKK.out;omega) zm,zS,zS,zS,zS,aN hp J0,aN hp J1,sN 5 hp J0,sN 6 hp J1,zS,tv⟩) ?_
    intro w1 b1_8 b1_9 E _ _
    simp only [rzE] at E ⊢
    go_upto_region 10 with (fail)
    refine rz [.n (z/2^t),.i (t:Int),.a,.i (t:Int)] [none,none,some (2,Fq.num (z/2^t)),none] [] E (fun hp=>⟨lI 0 hp J0 zw,zS,zCj hp J2 rfl rfl (zAp rfl rfl (fun _ _=>rfl)) (zA9 0 rfl rfl (by simp) rfl (fun v w h=>zCa h)) (fun _ _=>trivial) (zBj rfl),zS,tv⟩) ?_
    intro w2 E _ _
    simp only [rzE] at E ⊢
    obtain ⟨p0,p1,e0,e1,hP⟩:=zCg (E.box 2 rfl)
    clear BZ BP BQ BR NZ HN HT2 HVN HVZ HZ HKK HT
    go_wp2
    exact zR (v:=.tuple #[.agg #[p0,p1],.int .i64 (t:Int)]) (by simp [results,Tryz.results164,go_sem,e0,e1]) E.below ⟨_,_,rfl,by rw [HV3.out.2];exact hP,by rw [HV3.out.1];rfl⟩

section
variable {os : List Oper} {Q : Exit → Act → World → Prop} {a : Act} {p : Pq} {B B0 : Nat} {w0 : World}
variable {i s : Nat} {d : Option Tmp} {ty : TypeId} {ps : String} {af : Array Edge} {gd : Option (Nat × Bool)}
theorem zIf {x:Operand} {F:Value→World→Prop} {f:FuncId} {ts:Array TypeId} (hp:p.Ok B B0) (hF:p.Free i) (hg:GdQ os a p B B0 w0 af gd) (hen:∀ args w,(callFunc f args).run Tryz.prog w=.ok (.enter f args) w) (hB:B=w0.heap.size)
  (hx:SrcQ os a p B B0 w0 af x F) (hC:∀ v w,Below w0.heap.size w0 w→F v w→Calls Tryz.prog f #[v] w fun e w'=>∃ v',e=.returned v'∧Below w.heap.size w w'∧(p.c i).P v' w') :
  zAf os Q a p B B0 w0 i { dst:=d,op:=.call { callee:=.value (.func f),args:=#[x],argTypes:=ts },type:=ty,pos:=ps,after:=af,guard:=gd }:=by
 subst hB
 exact zFu hp hF hg hen fun L vs w hG hd=>⟨#[_],by simp,hC _ _ hG.below (hx L vs w hG hd)⟩
theorem zD0 {x y:Operand} {F G:Value→World→Prop} {f:FuncId} {ts:Array TypeId} (hp:p.Ok B B0) (hF:p.Free i) (hg:GdQ os a p B B0 w0 af gd) (hen:∀ args w,(callFunc f args).run Tryz.prog w=.ok (.enter f args) w) (hB:B=w0.heap.size)
  (hx:SrcQ os a p B B0 w0 af x F) (hy:SrcQ os a p B B0 w0 af y G) (hC:∀ v v' w,Below w0.heap.size w0 w→F v w→G v' w→Calls Tryz.prog f #[v,v'] w fun e w'=>∃ v',e=.returned v'∧Below w.heap.size w w'∧(p.c i).P v' w') :
  zAf os Q a p B B0 w0 i { dst:=d,op:=.call { callee:=.value (.func f),args:=#[x,y],argTypes:=ts },type:=ty,pos:=ps,after:=af,guard:=gd }:=by
 subst hB
 exact zFu hp hF hg hen fun L vs w hG hd=>⟨#[_,_],by simp,hC _ _ _ hG.below (hx L vs w hG hd) (hy L vs w hG hd)⟩
theorem zFq (m f:Nat) {v:Value} (hp:p.Ok B B0) (hF:p.Free i) (hg:GdQ os a p B B0 w0 af gd) (ha:zAy (os.map (·.dst))=true) (hj:(os.map (·.dst))[m]?=some (some s)) (hl:zBo os f m i=true) (hx:a.eval (.tmp s)=v) (hv:∀ w,(p.c i).P v w) :
  zAf os Q a p B B0 w0 i { dst:=d,op:=.move (.tmp s),type:=ty,pos:=ps,after:=af,guard:=gd }:=by
 refine zBf hp hF hg fun L vs w hG hL hc hd=>⟨v,?_,hv _⟩
 have hm:=zFm hc hl hL
 have e:(lay os.toArray L vs os.toArray.size a).eval (.tmp s)=a.eval (.tmp s):=by
  refine zJ1 _ _ fun j _ hj2 hd2=>?_
  have hjm:j=m:=Classical.byContradiction fun hne=>zE5 ha j m s hne hd2 (by
   unfold zBq
   simp at hj ⊢
   cases ho:os[m]? with
   | none=>simp [ho] at hj
   | some o=>simp [ho] at hj ⊢;exact hj)
  rw [hjm,hm] at hj2
  cases hj2
 rw [hx] at e
 have e2:(lay os.toArray L vs os.toArray.size a).tmps.getD s undef=v:=e
 simp only [execOp,go_sem]
 rw [e2]
 rfl
end
theorem zJo {w:World} {v:Value} {z:Int} (h:Num w v z) (hT:Tabs w) (hz:z≠0) (hb:ab z<pw 300) :
  Rt 164 #[v] w fun v' w'=>(Fq.tup2 (Fq.num (z/2^v2 z)) (Fq.is (.int .i64 (v2 z:Int)))).P v' w':=zUu h hT hz hb (Nat.le_refl _)
theorem zJp {w:World} {v v':Value} {k n r:Int} (h:v=.int .i64 k) (h':v'=.int .u32 n) (k0:0≤k∧k<9223372036854775808) (n0:0≤n∧n<4294967296) (hr:zBy k n=r) :
  Rt 165 #[v,v'] w fun v' w'=>v'=.int .i64 r:=by
 subst h h' hr
 exact (ofTwosZ w k0.1 k0.2 n0.1 n0.2).mono fun e w' ⟨he,hw⟩=>⟨_,he,by rw [hw];exact Below.refl _ _,rfl⟩
theorem exTurned {w:World} {v v':Value} {k n r:Int} (h:v=.int .u32 k) (h':v'=.int .u32 n) (k0:0≤k∧k<4294967296) (n0:0≤n∧n<4294967296) (hr:zC2 k n=r) :
  Rt 171 #[v,v'] w fun v' w'=>v'=.int .i64 r:=by
 subst h h' hr
 exact (turnedZ w k0.1 k0.2 n0.1 n0.2).mono fun e w' ⟨he,hw⟩=>⟨_,he,by rw [hw];exact Below.refl _ _,rfl⟩
theorem zUr {w:World} {v v':Value} {a n:Int} (hT:Tabs w) (h:v=.int .u64 a) (h':v'=.int .u64 n) (a0:0≤a∧a<18446744073709551616) (n0:0≤n∧n<18446744073709551616) (ho:n % 2=1) :
  Rt 172 #[v,v'] w fun v' w'=>v'=.int .i64 (J a n.toNat):=by
 subst h h'
 obtain ⟨a',rfl⟩:=Int.eq_ofNat_of_zero_le a0.1
 obtain ⟨n',rfl⟩:=Int.eq_ofNat_of_zero_le n0.1
 exact (zWd w hT a' n' zm zm zm).mono fun e w' ⟨he,hw⟩=>⟨_,he,by rw [hw];exact Below.refl _ _,by rw [Int.toNat_natCast]⟩
theorem v2_lt {z:Int} (hz:z≠0) (h:ab z<pw 100):(v2 z:Int)<9223372036854775808:=by
 obtain ⟨m,_,h1⟩:=zNr hz
 have:=zMf h
 omega
theorem zHg (z:Int):0≤ab z % 4294967296∧ab z % 4294967296<4294967296:=zm
theorem zIl {s t:Int} (hs:s=1∨s=-1) (ht:t=1∨t=-1):s*t=1∨s*t=-1:=by rcases hs with rfl | rfl <;> rcases ht with rfl | rfl <;> simp
theorem zNe {s t:Int} (hs:s=1∨s=-1) (ht:t=1∨t=-1):IntKind.i64.wrap (s*t)=s*t:=IntWalk.i64_in _ (by rcases zIl hs ht with h | h <;> rw [h] <;> decide)
theorem J_range (a:Int) (n:Nat):J a n=0∨J a n=1∨J a n=-1:=by
 by_cases h:Int.gcd a n=1
 ·exact .inr (J_or h)
 ·exact .inl (zFf h)
theorem zR5 {s t:Int} (hs:s=1∨s=-1) (ht:t=0∨t=1∨t=-1):IntKind.i64.wrap (s*t)=s*t:=IntWalk.i64_in _ (by rcases hs with rfl | rfl <;> rcases ht with rfl | rfl | rfl <;> decide)
theorem J_round {x y:Int} (hx:0<x) (hy:0<y) (ho:y % 2=1) :
  (0<x/2^v2 x∧(x/2^v2 x) % 2=1∧x/2^v2 x≤x) ∧
  J x y.toNat=(zBy (v2 x:Int) (ab y % 4294967296)*zC2 (ab (x/2^v2 x) % 4294967296) (ab y % 4294967296))*J (y % (x/2^v2 x)) (x/2^v2 x).toNat:=by
 obtain ⟨h1,h2⟩:=v2_div (z:=x) zm
 have hp:=zA6 (v2 x)
 rw [zSo,zSm]
 generalize hO:x/2^v2 x=o at *
 have ho0:0<o:=by
  rcases Int.lt_or_le 0 o with h | h
  ·exact h
  ·have:=Int.mul_le_mul_of_nonneg_left h (show (0:Int)≤2^v2 x by omega)
   omega
 have hle:o≤x:=by
  have:=Int.mul_le_mul_of_nonneg_right (show (1:Int)≤2^v2 x by omega) (show 0≤o by omega)
  omega
 refine ⟨⟨ho0,h2,hle⟩,?_⟩
 obtain ⟨O,rfl⟩:=Int.eq_ofNat_of_zero_le (show 0≤o by omega)
 obtain ⟨Y,rfl⟩:=Int.eq_ofNat_of_zero_le (show 0≤y by omega)
 have hs:=J_step (t:=v2 x) (o:=O) (n:=Y) zm zm
 have e:((2^v2 x*O:Nat):Int)=x:=by
  rw [Int.natCast_mul,Int.natCast_pow]
  exact h1.symm
 rw [e] at hs
 rw [Int.toNat_natCast,Int.toNat_natCast,zBb zm,zBb zm]
 exact hs
theorem nbits_gt {y:Int} (hy:0<y) (h:63<zA8 y):y.toNat≠1:=by
 rcases zH6 y with ⟨h1,h2⟩ | ⟨_,h2,_⟩
 ·omega
 ·have h3:(2:Int)^63≤2^(zA8 y-1):=zCl zm
  rw [zBb zm] at h2
  have:(2:Int)^63=9223372036854775808:=by decide
  omega
theorem zWm {y:Int} (hy:0<y) (h:¬ 63<zA8 y):y≤9223372036854775807:=by
 rcases zH6 y with ⟨h1,h2⟩ | ⟨_,_,h2⟩
 ·rw [zBb zm] at h1;omega
 ·have h3:(2:Int)^zA8 y≤2^63:=zCl zm
  rw [zBb zm] at h2
  have:(2:Int)^63=9223372036854775808:=by decide
  omega

theorem exJacobi {w:World} {v v':Value} {a n:Int} (h:Num w v a) (h':Num w v' n) (hT:Tabs w) (ha:ab a<pw 100) (hn:ab n<pw 100) (hi:0≤a∧a<n∧n % 2=1) :
  Rt 166 #[v,v'] w fun v' w'=>v'=.int .i64 (J a n.toNat):=by
 replace ha:=hidd ha
 replace hn:=hidd hn
 have HT:=hidd hT
 have HI0:=hidd hi
 clear hT hi
 obtain ⟨n0,ao0,k0,c0,rfl⟩:=h.parts
 obtain ⟨n1,ao1,k1,c1,rfl⟩:=h'.parts
 obtain ⟨w1,b1,hw1,hb1,hs1,E⟩:=gN w 36 h
 obtain ⟨w2,b2,hw2,hb2,hs2,E⟩:=fN E hs1 36 h'
 go_enter Tryz.func166,Tryz.ntmps166
 go_upto_region 1 with (fail)
 rw [← hw1,← hw2]
 rw [← hb2,← hb1]
 clear hw1 hw2 hb1 hb2 hs2 hs1
 refine rz [.i 1] N2 [] E (fun hp=>⟨zS,tv⟩) ?_
 intro w3 E _ _
 simp only [rzE] at E ⊢
 have HS:=hidd E
 go_upto_region 2 with (fail)
 go_loopw [5] (fun vs W=>∃ x y s:Int,vs=.int .i64 s∧Hid (ab x<pw 100∧ab y<pw 100)∧Hid (0≤x∧x<y∧y % 2=1∧(s=1∨s=-1)∧J a n.toNat=s*J x y.toNat)∧Fr w [(b2,2,Fq.num y),(b1,2,Fq.num x)] W) (fun _ W=>zF0 W b1)
 case atStart=>exact ⟨a,n,1,rfl,⟨ha.out,hn.out⟩,⟨HI0.out.1,HI0.out.2.1,HI0.out.2.2,.inl rfl,by rw [Int.one_mul]⟩,HS.out⟩
 case round=>
  obtain ⟨x,y,s,rfl,HB,HI,E⟩:=hrel
  clear HS HI0 ha hn
  by_cases hb:63<zA8 y
  ·have TB:Hid ((63:Int)<((zA8 y:Nat):Int)):=by show _<_;omega
   by_cases hx:x=0
   ·subst hx
    have T0:Hid (cmpI (0:Int) 0=0):=cmpIq0.2 rfl
    have HJ:Hid (J a n.toNat=0):=by have:=HI.out;show _=_;rw [this.2.2.2.2,J_zero,if_neg (nbits_gt zm hb),Int.mul_zero]
    clear hb
    go_upto_region 2 with (fail)
    refine rz [.n y,.i ((zA8 y:Nat):Int),.t] N2 [] E (fun hp=>⟨lI 0 hp J0 zw,zc hp zF2 zi fun v w h=>zF9 h,zO hp (sqi 1) TB.out,tv⟩) ?_
    intro w4 E _ _
    simp only [rzE] at E ⊢
    go_upto_region 3 with (fail)
    refine rz [.n 0,.i (cmpI 0 0),.t] N2 [] E (fun hp=>⟨lI 0 hp J1 zw,zc hp zA3 zi fun v w h=>zA5 h,zO hp (sqi 1) T0.out,tv⟩) ?_
    intro w5 E _ _
    simp only [rzE] at E ⊢
    clear TB T0 HB HI HT
    go_wp2
    refine bodyPost_ret (v:=.int .i64 0) ?_ rfl (by first | exact ⟨_,rfl,E.below,by rw [HJ.out]⟩ | exact ⟨_,rfl,E.below⟩ | exact ⟨rfl,E.below⟩)
    simp [results,Tryz.results166,go_sem]
   ·have T0:Hid (¬ cmpI x 0=0):=fun e=>hx (cmpIq0.1 e)
    have HX:Hid (x≠0):=hx
    obtain ⟨⟨o1,o2,o3⟩,hJ⟩:=J_round (x:=x) (y:=y) (by have:=HI.out;omega) (by have:=HI.out;omega) HI.out.2.2.1
    have hA:=zNp (v2 x:Int) (ab y % 4294967296)
    have hC:=zSn (ab (x/2^v2 x) % 4294967296) (ab y % 4294967296)
    obtain ⟨A,eA⟩:∃ A,zBy (v2 x:Int) (ab y % 4294967296)=A:=⟨_,rfl⟩
    obtain ⟨C,eC⟩:∃ C,zC2 (ab (x/2^v2 x) % 4294967296) (ab y % 4294967296)=C:=⟨_,rfl⟩
    rw [eA] at hA hJ
    rw [eC] at hC hJ
    have HA:=hidd eA
    have HC:=hidd eC
    have G1:=hidd (zNe hA hC)
    have G2:=hidd (zNe HI.out.2.2.2.1 (zIl hA hC))
    have HO:Hid (0<x/2^v2 x∧(x/2^v2 x) % 2=1∧x/2^v2 x≤x):=⟨o1,o2,o3⟩
    have HOZ:Hid (x/2^v2 x≠0):=by show _≠_;omega
    have HJ:Hid ((s*(A*C)=1∨s*(A*C)=-1)∧J a n.toNat=s*(A*C)*J (y % (x/2^v2 x)) (x/2^v2 x).toNat):=⟨zIl HI.out.2.2.2.1 (zIl hA hC),by rw [HI.out.2.2.2.2,hJ];ac_rfl⟩
    have BO:Hid (ab (x/2^v2 x)<pw 100):=by have h1:=HB.out.1;have h2:=HI.out;show _<_;unfold ab at *;omega
    have HK:Hid ((v2 x:Int)<9223372036854775808):=v2_lt (by have:=HX.out;exact this) HB.out.1
    clear hx hb o1 o2 o3 hJ hA hC eA eC
    have HBV:=hidd (zFi (zHo (E.box 1 rfl)))
    go_upto_region 2 with (fail)
    refine rz [.n y,.i ((zA8 y:Nat):Int),.t] N2 [] E (fun hp=>⟨lI 0 hp J0 zw,zc hp zF2 zi fun v w h=>zF9 h,zO hp (sqi 1) TB.out,tv⟩) ?_
    intro w6 E _ _
    simp only [rzE] at E ⊢
    go_upto_region 3 with (fail)
    refine rz [.n x,.i (cmpI x 0),.o] N2 [] E (fun hp=>⟨lI 0 hp J1 zw,zc hp zA3 zi fun v w h=>zA5 h,zO hp (sqi 1) T0.out,tv⟩) ?_
    intro w7 E _ _
    simp only [rzE] at E ⊢
    clear TB T0
    go_upto_region 5 with (fail)
    refine rz [.n x,.w (Fq.tup2 (Fq.num (x/2^v2 x)) (Fq.is (.int .i64 (v2 x:Int)))),.w (Fq.tup2 (Fq.num (x/2^v2 x)) (Fq.is (.int .i64 (v2 x:Int)))),.n (x/2^v2 x),.i (v2 x:Int),.k,.a,.i (v2 x:Int)] N2 [⟨5,6,2,Fq.num 0,Fq.num (x/2^v2 x),none⟩] E (fun hp=>⟨lI 0 hp J1 zw,zIf (F:=(Fq.num x).P) hp fo tv (zJc) rfl (sqi 0) (fun v w hbw h=>zJo h (HT.out.mono hbw) HX.out (zu HB.out.1)),zS,zS,zS,aN hp J0,sN 3 hp J0,zS,tv⟩) ?_
    intro w8 b8_5 E _ _
    simp only [rzE] at E ⊢
    go_upto_region 6 with (fail)
    refine rz [.i s,.i (v2 x:Int),.n y,.u (.int .u32 (ab y % 4294967296)),.i A,.n (x/2^v2 x),.u (.int .u32 (ab (x/2^v2 x) % 4294967296)),.n y,.u (.int .u32 (ab y % 4294967296)),.i C,.i (A*C),.i (s*(A*C)),.i (s*(A*C))] N3 [] E (fun hp=>⟨zFq 12 3 hp fo tv rfl rfl rfl rfl (fun _=>rfl),zS,lI 0 hp J1 zw,zc hp zD7 zi fun v w h=>zD9 h,zC hp zJd zi zi fun v v' w h h'=>zJp h h' ⟨zm,HK.out⟩ (zHg _) HA.out,lI 0 hp J0 zw,zc hp zD7 zi fun v w h=>zD9 h,lI 0 hp J1 zw,zc hp zD7 zi fun v w h=>zD9 h,zC hp zTh zi zi fun v v' w h h'=>exTurned h h' (zHg _) (zHg _) HC.out,zT hp (sqi 4) (sqi 9) G1.out,zT hp (sqi 0) (sqi 10) G2.out,zS,tv⟩) ?_
    intro w9 E _ _
    simp only [rzE] at E ⊢
    clear G1 G2
    go_upto_region 7 with (fail)
    have B10:Hid (ab ((y % (x/2^v2 x)))<pw 100):=zCf HOZ.out BO.out
    refine rz [.n (x/2^v2 x),.k,.n y,.n (y % (x/2^v2 x)),.n (x/2^v2 x),.a,.a] [none,some (6,Fq.num (x/2^v2 x)),some (5,Fq.num (y % (x/2^v2 x)))] [⟨1,1,2,Fq.num (x/2^v2 x),Fq.num (x/2^v2 x),(some (.clo 152))⟩] E (fun hp=>⟨lI 0 hp J0 zw,zEv (F:=(Fq.num (x/2^v2 x)).P) hp zF4 J0 rfl rfl rfl (sqi 0) (fun v w h=>zGe h) (fun _ _=>trivial) (zCh rfl) (zDy rfl),zA1 (off:=0) hp fo tv J1 (.inr rfl) (Nat.le_of_ble_eq_true rfl) (zAp rfl rfl (fun _ _=>rfl)) (fun us w hl h=>zAz hl h),zIg (F:=(Fq.num y).P) hp fo tv zF5 J0 rfl (zEg rfl rfl (by simp) rfl) (sqi 2) (fun v b w h hb=>zGd h hb HOZ.out (zu HB.out.2) (zu BO.out)),lI 0 hp J0 zw,zCj hp J2 rfl rfl (zAp rfl rfl (fun _ _=>rfl)) (zA9 3 rfl rfl (by simp) rfl (fun v w h=>zCa h)) (fun _ _=>trivial) (zBj rfl),zCj hp J1 rfl rfl (zAp rfl rfl (fun _ _=>rfl)) (zA9 4 rfl rfl (by simp) rfl (fun v w h=>zCa h)) (fun _ _=>trivial) (zBj rfl),tv⟩) ?_
    intro w11 b11_1 E _ _
    simp only [rzE] at E ⊢
    go_roundw
    case rel=>(repeat apply Exists.intro);exact ⟨⟨y % (x/2^v2 x),x/2^v2 x,s*(A*C),rfl,⟨zCf HOZ.out BO.out,BO.out⟩,⟨Int.emod_nonneg _ HOZ.out,Int.emod_lt_of_pos _ HO.out.1,HO.out.2.1,HJ.out.1,HJ.out.2⟩,E.drop.drop⟩,rfl⟩
    case measure=>rw [zFi (zHo (E.box 3 rfl)),HBV.out];have h1:=HO.out;have h2:=Int.emod_lt_of_pos y h1.1;have h3:=Int.emod_nonneg y HOZ.out;have h4:=HI.out.1;omega
  ·have TB:Hid (¬ (63:Int)<((zA8 y:Nat):Int)):=by show ¬ _;omega
   have hy:=zWm (y:=y) (by have:=HI.out;omega) hb
   have HL1:=hidd (zJ6 (z:=x) (by have:=HI.out;omega) (by have:=HI.out;omega))
   have HL2:=hidd (zJ6 (z:=y) (by have:=HI.out;omega) hy)
   have W1:Hid (IntKind.u64.wrap x=x):=by have:=HI.out;show _=_;rw [zB3];omega
   have W2:Hid (IntKind.u64.wrap y=y):=by have:=HI.out;show _=_;rw [zB3];omega
   have HR:Hid (0≤x∧x<18446744073709551616∧0≤y∧y<18446744073709551616):=by have:=HI.out;show _∧_;omega
   have G1:=hidd (zR5 HI.out.2.2.2.1 (J_range x y.toNat))
   clear hb hy
   go_upto_region 2 with (fail)
   refine rz [.n y,.i ((zA8 y:Nat):Int),.o] N2 [] E (fun hp=>⟨lI 0 hp J0 zw,zc hp zF2 zi fun v w h=>zF9 h,zO hp (sqi 1) TB.out,tv⟩) ?_
   intro w12 E _ _
   simp only [rzE] at E ⊢
   clear TB
   go_upto_region 8 with (fail)
   refine rz [.n x,.w (Fq.tup2 (Fq.is (.int .i64 x)) (yT)),.w (Fq.tup2 (Fq.is (.int .i64 x)) (yT)),.i x,.t,.i x,.t] N2 [] E (fun hp=>⟨lI 0 hp J1 zw,zc hp zHq zi fun v w h=>zHw h HL1.out,zS,zS,zS,zS,zS,tv⟩) ?_
   intro w13 E _ _
   simp only [rzE] at E ⊢
   go_upto_region 9 with (fail)
   refine rz [.n y,.w (Fq.tup2 (Fq.is (.int .i64 y)) (yT)),.w (Fq.tup2 (Fq.is (.int .i64 y)) (yT)),.i y,.t,.i y,.t] N2 [] E (fun hp=>⟨lI 0 hp J0 zw,zc hp zHq zi fun v w h=>zHw h HL2.out,zS,zS,zS,zS,zS,tv⟩) ?_
   intro w14 E _ _
   simp only [rzE] at E ⊢
   go_upto_region 10 with (fail)
   refine rz [.i s,.i x,.u (.int .u64 x),.i y,.u (.int .u64 y),.i (J x y.toNat),.i (s*J x y.toNat),.i (s*J x y.toNat)] N2 [] E (fun hp=>⟨zS,zS,zO hp (sqi 1) W1.out,zS,zO hp (sqi 3) W2.out,zD0 (F:=(Fq.is (.int .u64 x)).P) (G:=(Fq.is (.int .u64 y)).P) hp fo tv (zTg) rfl (sqi 2) (sqi 4) (fun v v' w hbw h h'=>zUr (HT.out.mono hbw) h h' ⟨HR.out.1,HR.out.2.1⟩ HR.out.2.2 HI.out.2.2.1),zT hp (sqi 0) (sqi 5) G1.out,zS,tv⟩) ?_
   intro w15 E _ _
   simp only [rzE] at E ⊢
   have HJ:=hidd HI.out.2.2.2.2
   clear HL1 HL2 W1 W2 HR G1 HI HB HT
   go_wp2
   refine bodyPost_ret (v:=.int .i64 (s*J x y.toNat)) ?_ rfl (by first | exact ⟨_,rfl,E.below,by rw [HJ.out]⟩ | exact ⟨_,rfl,E.below⟩ | exact ⟨rfl,E.below⟩)
   simp [results,Tryz.results166,go_sem]

section
variable {U Y y1 y0 B u q r : Nat}
end
def Least (b p:Nat):Prop:=2≤p∧b % p=0∧∀ q,2≤q→q<p→b % q≠0
def ad (x y:Int × Int):Int × Int:=(x.1+y.1,x.2+y.2)
def sm (c:Int) (x:Int × Int):Int × Int:=(c*x.1,c*x.2)
def Eqp (p:Int) (x y:Int × Int):Prop:=x.1 % p=y.1 % p∧x.2 % p=y.2 % p
theorem Eqp.refl (p:Int) (x:Int × Int):Eqp p x x:=⟨rfl,rfl⟩
theorem Eqp.symm {p:Int} {x y:Int × Int} (h:Eqp p x y):Eqp p y x:=⟨h.1.symm,h.2.symm⟩
theorem Eqp.trans {p:Int} {x y z:Int × Int} (h:Eqp p x y) (h':Eqp p y z):Eqp p x z:=⟨h.1.trans h'.1,h.2.trans h'.2⟩
theorem zQn {p a b c d:Int} (h:a % p=c % p) (h':b % p=d % p):(a*b) % p=(c*d) % p:=by rw [Int.mul_emod,h,h',← Int.mul_emod]
theorem zN1 {p a b c d:Int} (h:a % p=c % p) (h':b % p=d % p):(a+b) % p=(c+d) % p:=by rw [Int.add_emod,h,h',← Int.add_emod]
theorem Eqp.ad {p:Int} {x y x' y':Int × Int} (h:Eqp p x x') (h':Eqp p y y'):Eqp p (ad x y) (ad x' y'):=⟨zN1 h.1 h'.1,zN1 h.2 h'.2⟩
theorem Eqp.sm {p:Int} {c d:Int} {x y:Int × Int} (hc:c % p=d % p) (h:Eqp p x y):Eqp p (sm c x) (sm d y):=⟨zQn hc h.1,zQn hc h.2⟩
def pm (m:Nat):Nat→Nat→Nat→Nat
 | 0,_,_=>1 % m
 | f+1,b,e=>if e=0 then 1 % m else if e % 2=1 then (b*pm m f (b*b % m) (e/2)) % m else pm m f (b*b % m) (e/2)
end Go.Proofs.YtjadciofpgjofaaGreatDoor
namespace Go.Proofs.YtjadciofpgjofaaGreatDoor
open Go Go.RowKit Go.Shelf

attribute [local go_sem] Oper.semAt_some

abbrev MulP (p n:Nat):={ x:Nat // p*p≤x∧x≤n∧x % p=0 }
def KpM (Bp Bn:Nat) (A B:World):Prop:=B.heap[Bp]?=A.heap[Bp]?∧B.heap[Bn]?=A.heap[Bn]?
theorem cell_same {A B:World} {b j:Nat} (h:B.heap[b]?=A.heap[b]?):B.cell? ⟨b,j,none⟩=A.cell? ⟨b,j,none⟩:=by
 unfold World.cell?
 simp only [h]
theorem zWa {A B:World} {b j:Nat} (h:B.heap[b]?=A.heap[b]?):B.frozen? ⟨b,j,none⟩=A.frozen? ⟨b,j,none⟩:=by
 unfold World.frozen?
 simp only [h]
theorem KpM.trans {Bp Bn:Nat} {A B C:World} (h:KpM Bp Bn A B) (k:KpM Bp Bn B C):KpM Bp Bn A C:=⟨k.1.trans h.1,k.2.trans h.2⟩
attribute [local go_sem] Oper.semAt_some

def isP (q:Nat):Bool:=decide (2≤q) && (List.range q).all (fun d=>decide (d<2) || decide (q % d≠0))
def mkB (p m:Nat):Bool:=(List.range p).any (fun q=>isP q && decide (q*q≤m) && (m % q == 0))
def below (p:Nat):List Nat:=(List.range p).filter isP
def Ni (W:World) (B:Nat) (v:Value) (xs:List Nat):Prop:=W.ownsRow B 3 1 v xs.length (xs.map fun x:Nat=>Value.int .i64 (x:Int))
theorem Ni.shape {W:World} {B:Nat} {v:Value} {xs:List Nat} (h:Ni W B v xs):∃ ao cap,v=.slice ao xs.length cap:=by
 rcases h.2 with ⟨rfl,h0⟩ | ⟨g,cap,cur,rfl,_⟩
 ·exact ⟨none,0,by rw [h0]⟩
 ·exact ⟨_,_,rfl⟩
theorem Ni.nil (w:World) (B:Nat):Ni w B (.slice none 0 0) []:=World.ownsRow_nil w B _ _
theorem Ni.mono {w w':World} {B:Nat} {v:Value} {xs:List Nat} (h:Ni w B v xs) (hb:∀ g,(∃ cur t r,w.heap[g]?=some (.cells cur t r))→B≤g→v.ownBlock=some g→w'.heap[g]?=w.heap[g]?):Ni w' B v xs:=by
 refine ⟨h.1,?_⟩
 rcases h.2 with h2 | ⟨g,cap,cur,h1,h2,h3,h4⟩
 ·exact .inl h2
 ·exact .inr ⟨g,cap,cur,h1,h2,by rw [hb g ⟨_,_,_,h3⟩ h2 (by rw [h1];rfl)];exact h3,h4⟩
theorem Ni.below {w w':World} {B:Nat} {v:Value} {xs:List Nat} (h:Ni w B v xs) (hb:Below w.heap.size w w'):Ni w' B v xs:=
 h.mono fun g ⟨_,_,_,hg⟩ _ _=>hb.block g (Array.getElem?_eq_some_iff.1 hg).1
theorem Ni.cell {w:World} {B:Nat} {ao:Option Addr} {n c:Nat} {xs:List Nat} (h:Ni w B (.slice ao n c) xs) {i:Nat} (hi:i<xs.length):∃ g,ao=some ⟨g,0,none⟩∧w.cell? ⟨g,i,none⟩=some (.int .i64 ((xs.getD i 0:Nat):Int)):=by
 rcases h.2 with ⟨_,h0⟩ | ⟨g,cap,cur,e,_⟩
 ·omega
 ·injection e with e1 e2 e3
  subst e1
  have:=World.ownsRow.cells h (g:=g) rfl i (.int .i64 ((xs.getD i 0:Nat):Int)) (by simp [hi])
  rw [zK1] at this
  exact ⟨g,rfl,this⟩
def Bo (W:World) (C N:Nat) (f:Nat→Bool):Prop:=∀ m,m≤N→W.cell? ⟨C,m,none⟩=some (.bool (f m))∧W.frozen? ⟨C,m,none⟩=false
def Marks (B:Nat) (W:World) (ds:List Deferred):Prop:=∃ Ds:List Nat,ds=Ds.map (fun D=>{ target:=.collected D,args:=#[] })∧Ds.Nodup∧∀ D∈Ds,B≤D∧W.heap[D]?=some (Obj.deferred (some []))
theorem Marks.mono {B:Nat} {W W':World} {ds:List Deferred} (h:Marks B W ds) (hk:∀ D:Nat,W.heap[D]?=some (Obj.deferred (some []))→W'.heap[D]?=some (Obj.deferred (some []))):Marks B W' ds:=by
 obtain ⟨Ds,h1,h2,h3⟩:=h
 exact ⟨Ds,h1,h2,fun D hD=>⟨(h3 D hD).1,hk D (h3 D hD).2⟩⟩
theorem Marks.nil (B:Nat) (W:World):Marks B W []:=⟨[],rfl,List.nodup_nil,fun _ h=>by simp at h⟩
theorem Marks.cons {B:Nat} {W W1:World} {ds:List Deferred} (h:Marks B W1 ds) (hk:∀ E,E<W1.heap.size→W.heap[E]?=W1.heap[E]?∨W1.heap[E]?≠some (Obj.deferred (some []))) {D:Nat} (hB:B≤D) (hD1:W1.heap.size≤D) (hD:W.heap[D]?=some (Obj.deferred (some []))):Marks B W ({ target:=.collected D,args:=#[] } :: ds):=by
 obtain ⟨Ds,rfl,h2,h3⟩:=h
 have hlt:∀ E∈Ds,E<W1.heap.size:=fun E hE=>(Array.getElem?_eq_some_iff.1 (h3 E hE).2).1
 refine ⟨D::Ds,rfl,List.nodup_cons.2 ⟨fun hm=>?_,h2⟩,fun E hE=>?_⟩
 ·have:=hlt D hm;omega
 ·rcases List.mem_cons.1 hE with rfl | hE
  ·exact ⟨hB,hD⟩
  ·refine ⟨(h3 E hE).1,?_⟩
   rcases hk E (hlt E hE) with e | e
   ·exact e.trans (h3 E hE).2
   ·exact absurd (h3 E hE).2 e
attribute [local go_sem] Oper.semAt_some

def SvI (C N p:Nat) (S:World) (pre:List (MulP p N)) (W:World):Prop:=
 S.heap.size≤W.heap.size∧(∀ k,k<S.heap.size→k≠C→W.heap[k]?=S.heap[k]?)∧Bo W C N (fun m=>mkB p m || pre.any (fun x=>x.1 == m))∧Below C S W
theorem SvI.own {C N p:Nat} {S:World} (hC:C<S.heap.size):OwnFrom S.heap.size (SvI C N p S):=
 fun s A B row hs hg hr=>⟨Nat.le_trans hs.1 hg.size,fun k hk hkC=>(hg.block k (by have:=hs.1;omega) (fun e=>by have:=(hr k e.symm).1;omega)).trans (hs.2.1 k hk hkC),fun m hm=>by
  have hc:B.heap[C]?=A.heap[C]?:=hg.block C (by have:=hs.1;omega) (fun e=>by have:=(hr C e.symm).1;omega)
  rw [cell_same hc,zWa hc]
  exact hs.2.2.1 m hm,hs.2.2.2.grown hg (by have:=hs.1;omega) (fun k e=>by have:=(hr k e).1;omega)⟩
theorem SvI.step {C N p:Nat} {S W:World} {pre:List (MulP p N)} {x:MulP p N} {y:Nat} (h:SvI C N p S pre W) (hy:y=x.1) (hyN:y≤N):SvI C N p S (pre ++ [x]) (W.setCell ⟨C,y,none⟩ (.bool true)):=by
 obtain ⟨h1,h2,h3,h4⟩:=h
 refine ⟨Nat.le_trans h1 (KeepsOthers.setCell _ _ _).size,fun k hk hkC=>(Below.heap_setCell _ _ _ k (fun e=>hkC e)).trans (h2 k hk hkC),fun m hm=>?_,h4.setCell (p:=⟨C,y,none⟩) (Nat.le_refl _) _⟩
 rw [World.frozen?_setCell]
 refine ⟨?_,(h3 m hm).2⟩
 show _=some (Value.bool (mkB p m || (pre ++ [x]).any (fun x=>x.1 == m)))
 have h3m:W.cell? ⟨C,m,none⟩=some (.bool (mkB p m || pre.any (fun x=>x.1 == m))):=(h3 m hm).1
 rw [List.any_append,List.any_cons,List.any_nil,Bool.or_false,← hy]
 by_cases e:m=y
 ·subst e
  rw [World.cell?_setCell_same' _ _ _ (by rw [h3m];rfl)]
  simp
 ·rw [World.cell?_setCell_other _ _ _ _ (by intro e2;injection e2 with e3 e4;omega),h3m]
  have:(y == m)=false:=by simp;omega
  rw [this,Bool.or_false]
end Go.Proofs.YtjadciofpgjofaaGreatDoor
namespace Go.Proofs.YtjadciofpgjofaaGreatDoor
open Go Go.RowKit

theorem neg_pow:∀ t:Nat,(-1:Int)^t=if t % 2=1 then -1 else 1
 | 0=>rfl
 | t+1=>by
  rw [Int.pow_succ,neg_pow t]
  by_cases h:t % 2=1
  ·rw [if_pos h,if_neg zm];rfl
  ·rw [if_neg h,if_pos zm];rfl
theorem zQw:∀ t:Nat,(1:Int)^t=1
 | 0=>rfl
 | t+1=>by rw [Int.pow_succ,zQw t];rfl
theorem zP0 (a:Int) {N:Nat} (hN:N≠0):∀ t:Nat,kro a (2^t*N)=two a^t*kro a N
 | 0=>by rw [Nat.pow_zero,Nat.one_mul,Int.pow_zero,Int.one_mul]
 | t+1=>by
  have h:2^t*N≠0:=Nat.mul_ne_zero (by have:=Nat.two_pow_pos t;omega) hN
  rw [Nat.pow_succ,Nat.mul_comm (2^t) 2,Nat.mul_assoc,zPz h,zP0 a hN t,Int.pow_succ]
  ac_rfl
theorem two_twosZ {a:Int} {t:Nat} (h:a % 2=1∨t=0):two a^t=zBy (t:Int) (ab a % 4294967296):=by
 rcases Nat.eq_zero_or_pos t with rfl | ht
 ·rw [Int.pow_zero];unfold zBy;rw [if_neg zm]
 ·have ha:a % 2=1:=zm
  unfold zBy two ab
  rw [if_neg zm]
  by_cases h3:a % 8=3∨a % 8=5
  ·rw [if_pos h3,neg_pow]
   by_cases h2:t % 2=1
   ·rw [if_pos h2,if_pos zm]
   ·rw [if_neg h2,if_neg zm]
  ·rw [if_neg h3,if_neg zm,zQw]
def sg2 (a n:Int):Int:=if a<0∧n<0 then -1 else 1
theorem sg2_or (a n:Int):sg2 a n=1∨sg2 a n=-1:=by unfold sg2;split <;> simp
theorem zWe {a n:Int} (hn:n≠0) (hp:¬ (a % 2=0∧n % 2=0)) :
  (0<(Int.natAbs (n/2^v2 n):Int)∧(Int.natAbs (n/2^v2 n):Int) % 2=1∧ab (n/2^v2 n)≤ab n) ∧
  kron a n=sg2 a n*zBy (v2 n:Int) (ab a % 4294967296)*J (a % (Int.natAbs (n/2^v2 n):Int)) (Int.natAbs (n/2^v2 n):Int).toNat:=by
 obtain ⟨h1,h2⟩:=v2_div (z:=n) hn
 generalize ht:v2 n=t at *
 generalize hO:n/2^t=o at *
 have hn2:n.natAbs=2^t*o.natAbs:=by
  have:=congrArg Int.natAbs h1
  rw [Int.natAbs_mul,Int.natAbs_pow] at this
  exact this
 have ho:o.natAbs % 2=1:=zm
 have hle:o.natAbs≤n.natAbs:=by
  rw [hn2]
  exact Nat.le_mul_of_pos_left _ (Nat.two_pow_pos t)
 refine ⟨⟨zm,zm,by unfold ab;omega⟩,?_⟩
 have hodd:a % 2=1∨t=0:=by
  rcases Nat.eq_zero_or_pos t with h | h
  ·exact .inr h
  ·obtain ⟨s,rfl⟩:∃ s,t=s+1:=⟨t-1,zm⟩
   rw [Nat.pow_succ,Nat.mul_comm (2^s) 2,Nat.mul_assoc] at hn2
   generalize 2^s*o.natAbs=q at hn2
   omega
 rw [Int.toNat_natCast,J_mod]
 unfold kron sg2
 rw [if_neg hn,hn2,zP0 a zm,two_twosZ hodd,zL3 ho]
 ac_rfl
theorem kron_even {a n:Int} (hn:n≠0) (hp:a % 2=0∧n % 2=0):kron a n=0:=by
 have h:kro a n.natAbs=0:=by
  refine (kro_zero n.natAbs zm).2 fun e=>?_
  have h2:((2:Nat):Int) ∣ (Int.gcd a n.natAbs:Nat):=Int.ofNat_dvd.2 (Int.dvd_gcd (Int.dvd_of_emod_eq_zero hp.1) zm)
  rw [e] at h2
  omega
 unfold kron
 rw [if_neg hn,h,Int.mul_zero]
theorem zN3 {z:Int}:bits .and .u32 (ab z % 4294967296) 1=ab z % 2:=by
 obtain ⟨x,hx⟩:=Int.eq_ofNat_of_zero_le (show 0≤ab z by unfold ab;omega)
 have h:=zIz (x % 4294967296) 1 zm zd
 have e:(x % 4294967296) &&& 1=x % 2:=by rw [Nat.and_one_is_mod];omega
 rw [e] at h
 rw [hx]
 have e2:((x % 4294967296:Nat):Int)=(x:Int) % 4294967296:=zm
 rw [e2] at h
 exact h.trans zm
theorem zLq {w:World} {v v':Value} {a n r:Int} (h:Num w v a) (h':Num w v' n) (hT:Tabs w) (ha:ab a<pw 100) (hn:ab n<pw 100) (hi:0≤a∧a<n∧n % 2=1) (hr:J a n.toNat=r) :
  Rt 166 #[v,v'] w fun v' w'=>v'=.int .i64 r:=by
 subst hr
 exact exJacobi h h' hT ha hn hi
theorem zUs {w:World} {v v':Value} {a n:Int} (h:Num w v a) (h':Num w v' n) (hT:Tabs w) (ha:ab a<pw 100) (hn:ab n<pw 100) :
  Rt 159 #[v,v'] w fun v' w'=>v'=.int .i64 (kron a n):=by
 replace ha:=hidd ha
 replace hn:=hidd hn
 have HT:=hidd hT
 clear hT
 obtain ⟨n0,ao0,k0,c0,rfl⟩:=h.parts
 obtain ⟨n1,ao1,k1,c1,rfl⟩:=h'.parts
 obtain ⟨w1,b1,hw1,hb1,hs1,E⟩:=gN w 36 h
 obtain ⟨w2,b2,hw2,hb2,hs2,E⟩:=fN E hs1 36 h'
 go_enter Tryz.func159,Tryz.ntmps159
 go_upto_region 1 with (fail)
 rw [← hw1,← hw2]
 rw [← hb2,← hb1]
 clear hw1 hw2 hb1 hb2 hs2 hs1
 have HA1:=hidd (zN3 (z:=a))
 have HN1:=hidd (zN3 (z:=n))
 by_cases h0:n=0
 ·subst h0
  have T0:Hid (cmpI (0:Int) 0=0):=cmpIq0.2 rfl
  refine rz [.n 0,.i (cmpI 0 0),.t] N2 [] E (fun hp=>⟨lI 0 hp J0 zw,zc hp zA3 zi fun v w h=>zA5 h,zO hp (sqi 1) T0.out,tv⟩) ?_
  intro w3 E _ _
  simp only [rzE] at E ⊢
  clear T0
  by_cases h1:a.natAbs=1
  ·have T2:Hid (decide ((Int.natAbs a:Int)=1)=true):=decide_eq_true zm
   have HK:Hid (kron a 0=1):=by show _=_;unfold kron;rw [if_pos rfl,if_pos h1]
   clear h1
   go_upto_region 2 with (fail)
   have B4:Hid (ab ((Int.natAbs a:Int))<pw 100):=zBk ha.out
   refine rz [.n a,.n (Int.natAbs a:Int),.t] N2 [] E (fun hp=>⟨lI 0 hp J1 zw,zc hp zDd zi fun v w h=>exK (AbsV h) B4.out zm,zc hp zOf zi fun v w h=>zPc h T2.out,tv⟩) ?_
   intro w5 E _ _
   simp only [rzE] at E ⊢
   clear T2 HT HA1 HN1
   go_upto_region 3 with (fail)
   refine rz [.i 1] N2 [] E (fun hp=>⟨zS,tv⟩) ?_
   intro w6 E _ _
   simp only [rzE] at E ⊢
   clear B4 ha hn
   go_wp2
   refine bodyPost_ret (v:=.int .i64 1) ?_ rfl (by first | exact ⟨_,rfl,E.below,by rw [HK.out]⟩ | exact ⟨_,rfl,E.below⟩ | exact ⟨rfl,E.below⟩)
   simp [results,Tryz.results159,go_sem]
  ·have T2:Hid (decide ((Int.natAbs a:Int)=1)=false):=decide_eq_false zm
   have HK:Hid (kron a 0=0):=by show _=_;unfold kron;rw [if_pos rfl,if_neg h1]
   clear h1
   go_upto_region 2 with (fail)
   have B7:Hid (ab ((Int.natAbs a:Int))<pw 100):=zBk ha.out
   refine rz [.n a,.n (Int.natAbs a:Int),.o] N2 [] E (fun hp=>⟨lI 0 hp J1 zw,zc hp zDd zi fun v w h=>exK (AbsV h) B7.out zm,zc hp zOf zi fun v w h=>zPc h T2.out,tv⟩) ?_
   intro w8 E _ _
   simp only [rzE] at E ⊢
   clear T2 HT HA1 HN1
   go_upto_region 4 with (fail)
   refine rz [.i 0] N2 [] E (fun hp=>⟨zS,tv⟩) ?_
   intro w9 E _ _
   simp only [rzE] at E ⊢
   clear B7 ha hn
   go_wp2
   refine bodyPost_ret (v:=.int .i64 0) ?_ rfl (by first | exact ⟨_,rfl,E.below,by rw [HK.out]⟩ | exact ⟨_,rfl,E.below⟩ | exact ⟨rfl,E.below⟩)
   simp [results,Tryz.results159,go_sem]
 ·have HNZ:=hidd h0
  have T0:Hid (¬ cmpI n 0=0):=fun e=>h0 (cmpIq0.1 e)
  clear h0
  refine rz [.n n,.i (cmpI n 0),.o] N2 [] E (fun hp=>⟨lI 0 hp J0 zw,zc hp zA3 zi fun v w h=>zA5 h,zO hp (sqi 1) T0.out,tv⟩) ?_
  intro w10 E _ _
  simp only [rzE] at E ⊢
  clear T0
  by_cases hb:a % 2=0∧n % 2=0
  ·have HK:=hidd (kron_even HNZ.out hb)
   have P1:Hid (ab a % 2=0):=by show _=_;unfold ab;omega
   have P2:Hid (ab n % 2=0):=by show _=_;unfold ab;omega
   clear hb
   go_upto_region 5 with (fail)
   refine rz [.n a,.u (.int .u32 (ab a % 4294967296)),.u (.int .u32 (ab a % 2)),.t,.t,.n n,.u (.int .u32 (ab n % 4294967296)),.u (.int .u32 (ab n % 2)),.t,.t] N2 [] E (fun hp=>⟨lI 0 hp J1 zw,zc hp zD7 zi fun v w h=>zD9 h,zO hp (sqi 1) HA1.out,zO hp (sqi 2) P1.out,zS,zA1 (off:=0) hp fo gqi J0 (.inl rfl) (Nat.le_of_ble_eq_true rfl) (zAp rfl rfl (fun _ _=>rfl)) (fun us w hl h=>zAz hl h),zc hp zD7 zi (fun v w h=>zD9 h),zO hp (sqi 6) HN1.out,zO hp (sqi 7) P2.out,zt hp (sqi 4) (sqi 8),tv⟩) ?_
   intro w11 E _ _
   simp only [rzE] at E ⊢
   clear P1 P2 HA1 HN1 HT
   go_upto_region 6 with (fail)
   refine rz [.i 0] N2 [] E (fun hp=>⟨zS,tv⟩) ?_
   intro w12 E _ _
   simp only [rzE] at E ⊢
   clear ha hn
   go_wp2
   refine bodyPost_ret (v:=.int .i64 0) ?_ rfl (by first | exact ⟨_,rfl,E.below,by rw [HK.out]⟩ | exact ⟨_,rfl,E.below⟩ | exact ⟨rfl,E.below⟩)
   simp [results,Tryz.results159,go_sem]
  ·go_upto_region 5 with (fail)
   go_cut [22] from 13 (fun s W=>s=.bool false∧Fr w [(b2,2,Fq.num n),(b1,2,Fq.num a)] W)
   case first=>
    by_cases ho:a % 2=1
    ·have P1:Hid (¬ ab a % 2=0):=by show ¬ _;unfold ab;omega
     clear ho hb
     refine rz [.n a,.u (.int .u32 (ab a % 4294967296)),.u (.int .u32 (ab a % 2)),.o,.o,.u (undef),.u (undef),.u (undef),.u (undef),.o] N2 [] E (fun hp=>⟨lI 0 hp J1 zw,zc hp zD7 zi fun v w h=>zD9 h,zO hp (sqi 1) HA1.out,zO hp (sqi 2) P1.out,zS,zS,zS,zS,zS,zt hp (sqi 4) (zk (.bool false)),tv⟩) ?_
     intro w13 E _ _
     simp only [rzE] at E ⊢
     go_wp2_with (fail)
     go_meet
     case rel=>exact ⟨rfl,E⟩
    ·have P1:Hid (ab a % 2=0):=by show _=_;unfold ab;omega
     have P2:Hid (¬ ab n % 2=0):=by show ¬ _;unfold ab;omega
     clear ho hb
     refine rz [.n a,.u (.int .u32 (ab a % 4294967296)),.u (.int .u32 (ab a % 2)),.t,.t,.n n,.u (.int .u32 (ab n % 4294967296)),.u (.int .u32 (ab n % 2)),.o,.o] N2 [] E (fun hp=>⟨lI 0 hp J1 zw,zc hp zD7 zi fun v w h=>zD9 h,zO hp (sqi 1) HA1.out,zO hp (sqi 2) P1.out,zS,zA1 (off:=0) hp fo gqi J0 (.inl rfl) (Nat.le_of_ble_eq_true rfl) (zAp rfl rfl (fun _ _=>rfl)) (fun us w hl h=>zAz hl h),zc hp zD7 zi (fun v w h=>zD9 h),zO hp (sqi 6) HN1.out,zO hp (sqi 7) P2.out,zt hp (sqi 4) (sqi 8),tv⟩) ?_
     intro w14 E _ _
     simp only [rzE] at E ⊢
     go_wp2_with (fail)
     go_meet
     case rel=>exact ⟨rfl,E⟩
   case rest=>
    clear E
    obtain ⟨rfl,E⟩:=hcut
    clear HA1 HN1
    obtain ⟨⟨k1,k2,k3⟩,hk⟩:=zWe HNZ.out hb
    clear hb
    have hS:=sg2_or a n
    have hA:=zNp (v2 n:Int) (ab a % 4294967296)
    have hR:=J_range (a % (Int.natAbs (n/2^v2 n):Int)) (Int.natAbs (n/2^v2 n):Int).toNat
    obtain ⟨S,eS⟩:∃ S,sg2 a n=S:=⟨_,rfl⟩
    obtain ⟨A,eA⟩:∃ A,zBy (v2 n:Int) (ab a % 4294967296)=A:=⟨_,rfl⟩
    obtain ⟨R,eR⟩:∃ R,J (a % (Int.natAbs (n/2^v2 n):Int)) (Int.natAbs (n/2^v2 n):Int).toNat=R:=⟨_,rfl⟩
    rw [eS,eA,eR] at hk
    rw [eS] at hS
    rw [eA] at hA
    rw [eR] at hR
    have HS:=hidd eS
    have HA:=hidd eA
    have HR:=hidd eR
    have HK:=hidd hk
    have G1:=hidd (zNe hS hA)
    have G2:=hidd (zR5 (zIl hS hA) hR)
    clear hS hA hR eS eA eR hk
    have BO:Hid (ab (n/2^v2 n)<pw 100):=Int.lt_of_le_of_lt k3 hn.out
    have HM0:Hid ((Int.natAbs (n/2^v2 n):Int)≠0):=by show _≠_;omega
    have HI:Hid (0≤a % (Int.natAbs (n/2^v2 n):Int)∧a % (Int.natAbs (n/2^v2 n):Int)<(Int.natAbs (n/2^v2 n):Int)∧(Int.natAbs (n/2^v2 n):Int) % 2=1):=⟨Int.emod_nonneg _ zm,Int.emod_lt_of_pos _ k1,k2⟩
    have HK2:Hid ((v2 n:Int)<9223372036854775808):=v2_lt HNZ.out hn.out
    clear k1 k2 k3
    go_upto_region 7 with (fail)
    refine rz [.i 1] N2 [] E (fun hp=>⟨zS,tv⟩) ?_
    intro w15 E _ _
    simp only [rzE] at E ⊢
    by_cases h1:a<0
    ·have P1:Hid (cmpI a 0<0):=cmpIqlt.2 h1
     by_cases h2:n<0
     ·have P2:Hid (cmpI n 0<0):=cmpIqlt.2 h2
      have P3:Hid (S=-1):=by show _=_;rw [← HS.out];unfold sg2;rw [if_pos ⟨h1,h2⟩]
      clear h1 h2
      go_upto_region 8 with (fail)
      refine rz [.n a,.i (cmpI a 0),.t,.t,.n n,.i (cmpI n 0),.t,.t] N2 [] E (fun hp=>⟨lI 0 hp J1 zw,zc hp zA3 zi fun v w h=>zA5 h,zO hp (sqi 1) P1.out,zS,zA1 (off:=0) hp fo gqi J0 (.inl rfl) (Nat.le_of_ble_eq_true rfl) (zAp rfl rfl (fun _ _=>rfl)) (fun us w hl h=>zAz hl h),zc hp zA3 zi (fun v w h=>zA5 h),zO hp (sqi 5) P2.out,zt hp (sqi 3) (sqi 6),tv⟩) ?_
      intro w16 E _ _
      simp only [rzE] at E ⊢
      clear P1 P2
      go_upto_region 9 with (fail)
      refine rz [.i (-1)] N2 [] E (fun hp=>⟨zS,tv⟩) ?_
      intro w17 E _ _
      simp only [rzE] at E ⊢
      replace G1:=hidd (show IntKind.i64.wrap (-A)=S*A by have:=G1.out;rw [P3.out] at this ⊢;rw [show -A=-1*A by omega];exact this)
      clear HS P3
      go_upto_region 10 with (fail)
      refine rz [.n n,.w (Fq.tup2 (Fq.num (n/2^v2 n)) (Fq.is (.int .i64 (v2 n:Int)))),.w (Fq.tup2 (Fq.num (n/2^v2 n)) (Fq.is (.int .i64 (v2 n:Int)))),.n (n/2^v2 n),.i (v2 n:Int),.a,.i (v2 n:Int)] [some (5,Fq.num (n/2^v2 n)),none] [] E (fun hp=>⟨zA1 (off:=0) hp fo tv J0 (.inr rfl) (Nat.le_of_ble_eq_true rfl) (zAp rfl rfl (fun _ _=>rfl)) (fun us w hl h=>zAz hl h),zIf (F:=(Fq.num n).P) hp fo tv (zJc) rfl (sqi 0) (fun v w hbw h=>zJo h (HT.out.mono hbw) HNZ.out (zu hn.out)),zS,zS,zS,zCj hp J0 rfl rfl (zAp rfl rfl (fun _ _=>rfl)) (zA9 3 rfl rfl (by simp) rfl (fun v w h=>zCa h)) (fun _ _=>trivial) (zBj rfl),zS,tv⟩) ?_
      intro w18 E _ _
      simp only [rzE] at E ⊢
      go_upto_region 11 with (fail)
      refine rz [.i (-1),.i (v2 n:Int),.n a,.u (.int .u32 (ab a % 4294967296)),.i A,.i (S*A),.i (S*A)] N2 [] E (fun hp=>⟨zFq 6 3 hp fo tv rfl rfl rfl rfl (fun _=>rfl),zS,lI 0 hp J1 zw,zc hp zD7 zi fun v w h=>zD9 h,zC hp zJd zi zi fun v v' w h h'=>zJp h h' ⟨zm,HK2.out⟩ (zHg _) HA.out,zT hp (sqi 0) (sqi 4) G1.out,zS,tv⟩) ?_
      intro w19 E _ _
      simp only [rzE] at E ⊢
      go_upto_region 12 with (fail)
      have B20:Hid (ab ((Int.natAbs (n/2^v2 n):Int))<pw 100):=zBk BO.out
      refine rz [.n (n/2^v2 n),.n (Int.natAbs (n/2^v2 n):Int),.a] [some (2,Fq.num (Int.natAbs (n/2^v2 n):Int)),none] [] E (fun hp=>⟨zA1 (off:=0) hp fo tv J0 (.inr rfl) (Nat.le_of_ble_eq_true rfl) (zAp rfl rfl (fun _ _=>rfl)) (fun us w hl h=>zAz hl h),zc hp zDd zi fun v w h=>exK (AbsV h) B20.out zm,zCj hp J0 rfl rfl (zAp rfl rfl (fun _ _=>rfl)) (zA9 1 rfl rfl (by simp) rfl (fun v w h=>zCa h)) (fun _ _=>trivial) (zBj rfl),tv⟩) ?_
      intro w21 E _ _
      simp only [rzE] at E ⊢
      go_upto_region 13 with (fail)
      have B22:Hid (ab ((a % (Int.natAbs (n/2^v2 n):Int)))<pw 100):=zCf HM0.out B20.out
      refine rz [.i (S*A),.n (Int.natAbs (n/2^v2 n):Int),.k,.n a,.n (a % (Int.natAbs (n/2^v2 n):Int)),.n (Int.natAbs (n/2^v2 n):Int),.i R,.i (S*A*R),.i (S*A*R)] N2 [⟨2,2,2,Fq.num (Int.natAbs (n/2^v2 n):Int),Fq.num (Int.natAbs (n/2^v2 n):Int),(some (.clo 152))⟩] E (fun hp=>⟨zS,lI 0 hp J0 zw,zEv (F:=(Fq.num (Int.natAbs (n/2^v2 n):Int)).P) hp zF4 J0 rfl rfl rfl (sqi 1) (fun v w h=>zGe h) (fun _ _=>trivial) (zCh rfl) (zDy rfl),lI 0 hp J1 zw,zIg (F:=(Fq.num a).P) hp fo tv zF5 J0 rfl (zEg rfl rfl (by simp) rfl) (sqi 3) (fun v b w h hb=>zGd h hb HM0.out (zu ha.out) (zu B20.out)),lI 0 hp J0 zw,zD0 (F:=(Fq.num (a % (Int.natAbs (n/2^v2 n):Int))).P) (G:=(Fq.num (Int.natAbs (n/2^v2 n):Int)).P) hp fo tv (zLc) rfl (sqi 4) (sqi 5) (fun v v' w hbw h h'=>zLq h h' (HT.out.mono hbw) (zu B22.out) (zu B20.out) HI.out HR.out),zT hp (sqi 0) (sqi 6) G2.out,zS,tv⟩) ?_
      intro w23 b23_2 E _ _
      simp only [rzE] at E ⊢
      clear HT HA HR G1 G2 HI HK2 HM0 HNZ BO
      clear B20 B22 ha hn
      go_wp2
      refine bodyPost_ret (v:=.int .i64 (S*A*R)) ?_ rfl (by first | exact ⟨_,rfl,E.below,by rw [HK.out]⟩ | exact ⟨_,rfl,E.below⟩ | exact ⟨rfl,E.below⟩)
      simp [results,Tryz.results159,go_sem]
     ·have P2:Hid (¬ cmpI n 0<0):=mt cmpIqlt.1 h2
      have P3:Hid (S=1):=by show _=_;rw [← HS.out];unfold sg2;rw [if_neg (fun h=>h2 h.2)]
      clear h1 h2
      go_upto_region 8 with (fail)
      refine rz [.n a,.i (cmpI a 0),.t,.t,.n n,.i (cmpI n 0),.o,.o] N2 [] E (fun hp=>⟨lI 0 hp J1 zw,zc hp zA3 zi fun v w h=>zA5 h,zO hp (sqi 1) P1.out,zS,zA1 (off:=0) hp fo gqi J0 (.inl rfl) (Nat.le_of_ble_eq_true rfl) (zAp rfl rfl (fun _ _=>rfl)) (fun us w hl h=>zAz hl h),zc hp zA3 zi (fun v w h=>zA5 h),zO hp (sqi 5) P2.out,zt hp (sqi 3) (sqi 6),tv⟩) ?_
      intro w24 E _ _
      simp only [rzE] at E ⊢
      clear P1 P2
      replace G1:=hidd (show IntKind.i64.wrap A=S*A by have:=G1.out;rw [P3.out] at this ⊢;rw [Int.one_mul] at this ⊢;exact this)
      clear HS P3
      go_upto_region 10 with (fail)
      refine rz [.n n,.w (Fq.tup2 (Fq.num (n/2^v2 n)) (Fq.is (.int .i64 (v2 n:Int)))),.w (Fq.tup2 (Fq.num (n/2^v2 n)) (Fq.is (.int .i64 (v2 n:Int)))),.n (n/2^v2 n),.i (v2 n:Int),.a,.i (v2 n:Int)] [some (5,Fq.num (n/2^v2 n)),none] [] E (fun hp=>⟨zA1 (off:=0) hp fo tv J0 (.inr rfl) (Nat.le_of_ble_eq_true rfl) (zAp rfl rfl (fun _ _=>rfl)) (fun us w hl h=>zAz hl h),zIf (F:=(Fq.num n).P) hp fo tv (zJc) rfl (sqi 0) (fun v w hbw h=>zJo h (HT.out.mono hbw) HNZ.out (zu hn.out)),zS,zS,zS,zCj hp J0 rfl rfl (zAp rfl rfl (fun _ _=>rfl)) (zA9 3 rfl rfl (by simp) rfl (fun v w h=>zCa h)) (fun _ _=>trivial) (zBj rfl),zS,tv⟩) ?_
      intro w25 E _ _
      simp only [rzE] at E ⊢
      go_upto_region 11 with (fail)
      refine rz [.i 1,.i (v2 n:Int),.n a,.u (.int .u32 (ab a % 4294967296)),.i A,.i (S*A),.i (S*A)] N2 [] E (fun hp=>⟨zFq 6 3 hp fo tv rfl rfl rfl rfl (fun _=>rfl),zS,lI 0 hp J1 zw,zc hp zD7 zi fun v w h=>zD9 h,zC hp zJd zi zi fun v v' w h h'=>zJp h h' ⟨zm,HK2.out⟩ (zHg _) HA.out,zT hp (sqi 0) (sqi 4) G1.out,zS,tv⟩) ?_
      intro w26 E _ _
      simp only [rzE] at E ⊢
      go_upto_region 12 with (fail)
      have B27:Hid (ab ((Int.natAbs (n/2^v2 n):Int))<pw 100):=zBk BO.out
      refine rz [.n (n/2^v2 n),.n (Int.natAbs (n/2^v2 n):Int),.a] [some (2,Fq.num (Int.natAbs (n/2^v2 n):Int)),none] [] E (fun hp=>⟨zA1 (off:=0) hp fo tv J0 (.inr rfl) (Nat.le_of_ble_eq_true rfl) (zAp rfl rfl (fun _ _=>rfl)) (fun us w hl h=>zAz hl h),zc hp zDd zi fun v w h=>exK (AbsV h) B27.out zm,zCj hp J0 rfl rfl (zAp rfl rfl (fun _ _=>rfl)) (zA9 1 rfl rfl (by simp) rfl (fun v w h=>zCa h)) (fun _ _=>trivial) (zBj rfl),tv⟩) ?_
      intro w28 E _ _
      simp only [rzE] at E ⊢
      go_upto_region 13 with (fail)
      have B29:Hid (ab ((a % (Int.natAbs (n/2^v2 n):Int)))<pw 100):=zCf HM0.out B27.out
      refine rz [.i (S*A),.n (Int.natAbs (n/2^v2 n):Int),.k,.n a,.n (a % (Int.natAbs (n/2^v2 n):Int)),.n (Int.natAbs (n/2^v2 n):Int),.i R,.i (S*A*R),.i (S*A*R)] N2 [⟨2,2,2,Fq.num (Int.natAbs (n/2^v2 n):Int),Fq.num (Int.natAbs (n/2^v2 n):Int),(some (.clo 152))⟩] E (fun hp=>⟨zS,lI 0 hp J0 zw,zEv (F:=(Fq.num (Int.natAbs (n/2^v2 n):Int)).P) hp zF4 J0 rfl rfl rfl (sqi 1) (fun v w h=>zGe h) (fun _ _=>trivial) (zCh rfl) (zDy rfl),lI 0 hp J1 zw,zIg (F:=(Fq.num a).P) hp fo tv zF5 J0 rfl (zEg rfl rfl (by simp) rfl) (sqi 3) (fun v b w h hb=>zGd h hb HM0.out (zu ha.out) (zu B27.out)),lI 0 hp J0 zw,zD0 (F:=(Fq.num (a % (Int.natAbs (n/2^v2 n):Int))).P) (G:=(Fq.num (Int.natAbs (n/2^v2 n):Int)).P) hp fo tv (zLc) rfl (sqi 4) (sqi 5) (fun v v' w hbw h h'=>zLq h h' (HT.out.mono hbw) (zu B29.out) (zu B27.out) HI.out HR.out),zT hp (sqi 0) (sqi 6) G2.out,zS,tv⟩) ?_
      intro w30 b30_2 E _ _
      simp only [rzE] at E ⊢
      clear HT HA HR G1 G2 HI HK2 HM0 HNZ BO
      clear B27 B29 ha hn
      go_wp2
      refine bodyPost_ret (v:=.int .i64 (S*A*R)) ?_ rfl (by first | exact ⟨_,rfl,E.below,by rw [HK.out]⟩ | exact ⟨_,rfl,E.below⟩ | exact ⟨rfl,E.below⟩)
      simp [results,Tryz.results159,go_sem]
    ·have P1:Hid (¬ cmpI a 0<0):=mt cmpIqlt.1 h1
     have P3:Hid (S=1):=by show _=_;rw [← HS.out];unfold sg2;rw [if_neg (fun h=>h1 h.1)]
     clear h1
     go_upto_region 8 with (fail)
     refine rz [.n a,.i (cmpI a 0),.o,.o,.u (undef),.u (undef),.u (undef),.o] N2 [] E (fun hp=>⟨lI 0 hp J1 zw,zc hp zA3 zi fun v w h=>zA5 h,zO hp (sqi 1) P1.out,zS,zS,zS,zS,zt hp (sqi 3) (zk (.bool false)),tv⟩) ?_
     intro w31 E _ _
     simp only [rzE] at E ⊢
     clear P1
     replace G1:=hidd (show IntKind.i64.wrap A=S*A by have:=G1.out;rw [P3.out] at this ⊢;rw [Int.one_mul] at this ⊢;exact this)
     clear HS P3
     go_upto_region 10 with (fail)
     refine rz [.n n,.w (Fq.tup2 (Fq.num (n/2^v2 n)) (Fq.is (.int .i64 (v2 n:Int)))),.w (Fq.tup2 (Fq.num (n/2^v2 n)) (Fq.is (.int .i64 (v2 n:Int)))),.n (n/2^v2 n),.i (v2 n:Int),.a,.i (v2 n:Int)] [some (5,Fq.num (n/2^v2 n)),none] [] E (fun hp=>⟨zA1 (off:=0) hp fo tv J0 (.inr rfl) (Nat.le_of_ble_eq_true rfl) (zAp rfl rfl (fun _ _=>rfl)) (fun us w hl h=>zAz hl h),zIf (F:=(Fq.num n).P) hp fo tv (zJc) rfl (sqi 0) (fun v w hbw h=>zJo h (HT.out.mono hbw) HNZ.out (zu hn.out)),zS,zS,zS,zCj hp J0 rfl rfl (zAp rfl rfl (fun _ _=>rfl)) (zA9 3 rfl rfl (by simp) rfl (fun v w h=>zCa h)) (fun _ _=>trivial) (zBj rfl),zS,tv⟩) ?_
     intro w32 E _ _
     simp only [rzE] at E ⊢
     go_upto_region 11 with (fail)
     refine rz [.i 1,.i (v2 n:Int),.n a,.u (.int .u32 (ab a % 4294967296)),.i A,.i (S*A),.i (S*A)] N2 [] E (fun hp=>⟨zFq 6 3 hp fo tv rfl rfl rfl rfl (fun _=>rfl),zS,lI 0 hp J1 zw,zc hp zD7 zi fun v w h=>zD9 h,zC hp zJd zi zi fun v v' w h h'=>zJp h h' ⟨zm,HK2.out⟩ (zHg _) HA.out,zT hp (sqi 0) (sqi 4) G1.out,zS,tv⟩) ?_
     intro w33 E _ _
     simp only [rzE] at E ⊢
     go_upto_region 12 with (fail)
     have B34:Hid (ab ((Int.natAbs (n/2^v2 n):Int))<pw 100):=zBk BO.out
     refine rz [.n (n/2^v2 n),.n (Int.natAbs (n/2^v2 n):Int),.a] [some (2,Fq.num (Int.natAbs (n/2^v2 n):Int)),none] [] E (fun hp=>⟨zA1 (off:=0) hp fo tv J0 (.inr rfl) (Nat.le_of_ble_eq_true rfl) (zAp rfl rfl (fun _ _=>rfl)) (fun us w hl h=>zAz hl h),zc hp zDd zi fun v w h=>exK (AbsV h) B34.out zm,zCj hp J0 rfl rfl (zAp rfl rfl (fun _ _=>rfl)) (zA9 1 rfl rfl (by simp) rfl (fun v w h=>zCa h)) (fun _ _=>trivial) (zBj rfl),tv⟩) ?_
     intro w35 E _ _
     simp only [rzE] at E ⊢
     go_upto_region 13 with (fail)
     have B36:Hid (ab ((a % (Int.natAbs (n/2^v2 n):Int)))<pw 100):=zCf HM0.out B34.out
     refine rz [.i (S*A),.n (Int.natAbs (n/2^v2 n):Int),.k,.n a,.n (a % (Int.natAbs (n/2^v2 n):Int)),.n (Int.natAbs (n/2^v2 n):Int),.i R,.i (S*A*R),.i (S*A*R)] N2 [⟨2,2,2,Fq.num (Int.natAbs (n/2^v2 n):Int),Fq.num (Int.natAbs (n/2^v2 n):Int),(some (.clo 152))⟩] E (fun hp=>⟨zS,lI 0 hp J0 zw,zEv (F:=(Fq.num (Int.natAbs (n/2^v2 n):Int)).P) hp zF4 J0 rfl rfl rfl (sqi 1) (fun v w h=>zGe h) (fun _ _=>trivial) (zCh rfl) (zDy rfl),lI 0 hp J1 zw,zIg (F:=(Fq.num a).P) hp fo tv zF5 J0 rfl (zEg rfl rfl (by simp) rfl) (sqi 3) (fun v b w h hb=>zGd h hb HM0.out (zu ha.out) (zu B34.out)),lI 0 hp J0 zw,zD0 (F:=(Fq.num (a % (Int.natAbs (n/2^v2 n):Int))).P) (G:=(Fq.num (Int.natAbs (n/2^v2 n):Int)).P) hp fo tv (zLc) rfl (sqi 4) (sqi 5) (fun v v' w hbw h h'=>zLq h h' (HT.out.mono hbw) (zu B36.out) (zu B34.out) HI.out HR.out),zT hp (sqi 0) (sqi 6) G2.out,zS,tv⟩) ?_
     intro w37 b37_2 E _ _
     simp only [rzE] at E ⊢
     clear HT HA HR G1 G2 HI HK2 HM0 HNZ BO
     clear B34 B36 ha hn
     go_wp2
     refine bodyPost_ret (v:=.int .i64 (S*A*R)) ?_ rfl (by first | exact ⟨_,rfl,E.below,by rw [HK.out]⟩ | exact ⟨_,rfl,E.below⟩ | exact ⟨rfl,E.below⟩)
     simp [results,Tryz.results159,go_sem]

def Got (w:World) (v:Value) (z r:Int):Prop:=∃ n ao k c,v=.agg #[.bool n,.slice ao k c,.int .i64 r]∧Num w (.agg #[.bool n,.slice ao k c]) z
theorem Got.parts {w:World} {v:Value} {z r:Int} (h:Got w v z r):∃ n ao k c,v=.agg #[.bool n,.slice ao k c,.int .i64 r]∧Num w (.agg #[.bool n,.slice ao k c]) z:=h
def zeroGot:List Value:=[.bool false,.slice none 0 0,.int .i64 0]
theorem Got.zero (w:World):Got w (.agg zeroGot.toArray) 0 0:=⟨_,_,_,_,rfl,Num.zero w⟩
section
variable {os : List Oper} {Q : Exit → Act → World → Prop} {a : Act} {p : Pq} {B B0 : Nat} {w0 : World}
variable {i s : Nat} {d : Option Tmp} {ty : TypeId} {ps : String} {af : Array Edge} {gd : Option (Nat × Bool)}
end
section
variable {os : List Oper} {Q : Exit → Act → World → Prop} {a : Act} {p : Pq} {B B0 : Nat} {w0 : World}
variable {i s : Nat} {d : Option Tmp} {ty : TypeId} {ps : String} {af : Array Edge} {gd : Option (Nat × Bool)}
end
theorem exMSqrtS {w:World} {v v':Value} {a p:Int} (h:Num w v a) (h':Num w v' p) (ha:ab a<pw 90) (hm:ab p<pw 90) (h0:2≤p) (hb:zA8 (a % p)≤1) :
  Rt 150 #[v,v'] w fun v' w'=>(Fq.tup2 (Fq.num (a % p)) (Fq.is (.int .i64 0))).P v' w':=by
 replace ha:=hidd ha
 replace hm:=hidd hm
 obtain ⟨n0,ao0,k0,c0,rfl⟩:=h.parts
 obtain ⟨n1,ao1,k1,c1,rfl⟩:=h'.parts
 obtain ⟨w1,b1,hw1,hb1,hs1,E⟩:=gN w 36 h
 obtain ⟨w2,b2,hw2,hb2,hs2,E⟩:=fN E hs1 36 h'
 obtain ⟨w3,b3,hw3,hb3,hs3,E⟩:=fZ E hs2 36
 go_enter Tryz.func150,Tryz.ntmps150
 go_upto_region 1 with (fail)
 rw [← hw1,← hw2]
 rw [← hw3,← hb3]
 rw [← hb2,← hb1]
 clear hw1 hw2 hw3 hb1 hb2 hb3 hs3 hs1 hs2
 have T1:Hid (¬ cmpI p (2)<0):=fun e=>by have:=cmpIqlt.1 e;omega
 have HN:Hid (p≠0):=by show _≠_;omega
 clear h0
 have B4:Hid (ab ((2))<pw 3):=zB5 zd
 refine rz [.n p,.n (2),.i (cmpI p (2)),.o] N3 [] E (fun hp=>⟨lI 0 hp J1 zw,zBp (F:=(Fq.is (.int .i64 2)).P) hp fo tv (zBw) (zAk (fun _=>rfl)) (fun v w h=>(by subst h;exact OfK w (2) zm zm)),zC hp zA2 zi zi fun v v' w h h'=>zA4 h h',zO hp (sqi 2) T1.out,tv⟩) ?_
 intro w5 E _ _
 simp only [rzE] at E ⊢
 clear T1
 go_upto_region 3 with (fail)
 refine zKl (same:=[(2,1)]) (C:=[Fq.num p,Fq.any,Fq.any]) (ks:=[none,none,none]) (new:=[⟨1,1,2,Fq.num p,Fq.num p,(some (.clo 152))⟩]) E rfl (by kernel_rfl) rfl rfl (fun hp=>⟨?_,?_,?_,tv⟩) ?_
 ·exact zFe (zA1 (off:=0) hp fo tv J1 (.inl rfl) (Nat.le_of_ble_eq_true rfl) (zAp rfl rfl (fun _ _=>rfl)) (fun us w hl h=>zAz hl h)) rfl
 ·exact zFe (zEv (F:=(Fq.num p).P) hp zF4 J0 rfl rfl rfl (sqi 0) (fun v w h=>zGe h) (fun _ _=>trivial) (zCh rfl) (zDy rfl)) rfl
 ·exact zKs hp fo rfl (j:=1) rfl (by simp) rfl (fun _ _=>trivial) rfl (Nat.ne_of_beq_eq_false rfl)
 intro L vs w6 nb hsm hL hC hn E6
 have e1:vs 1=cloV 152 (nb 1):=hn _ J0
 have e2:vs 2=cloV 152 (nb 1):=(hsm (2,1) (by simp) (Nat.lt_of_sub_eq_succ rfl)).trans e1
 have E:=E6;try simp only [LM,zAj] at E
 rw [zAo hL]
 simp only [zP,Nat.zero_add,Nat.reduceAdd]
 rw [e1,e2]
 generalize nb 1=b6_1 at E ⊢
 generalize vs 0=u6_0
 clear e1 e2 hsm hC hn E6 hL vs L nb
 go_upto_region 4 with (fail)
 have B7:Hid (ab ((a % p))<pw 90):=zCf HN.out hm.out
 refine rz [.u (cloV 152 b6_1),.n a,.n (a % p),.k,.a] N4 [⟨3,4,2,Fq.num 0,Fq.num (a % p),none⟩] E (fun hp=>⟨zS,lI 0 hp J3 zw,zRi (F:=(Fq.num a).P) hp fo tv zF5 J0 rfl (sqi 0) (sqi 1) (fun v w h hb=>zGd h hb HN.out (zu ha.out) (zu hm.out)),aN hp J0,sN 2 hp J0,tv⟩) ?_
 intro w8 b8_3 E _ _
 simp only [rzE] at E ⊢
 replace hb:=hidd hb
 have T2:Hid (((zA8 (a % p):Nat):Int)≤1):=by have:=hb.out;show _≤_;omega
 go_upto_region 5 with (fail)
 refine rz [.n (a % p),.i ((zA8 (a % p):Nat):Int),.t] N5 [] E (fun hp=>⟨lI 0 hp J0 zw,zc hp zF2 zi fun v w h=>zF9 h,zO hp (sqi 1) T2.out,tv⟩) ?_
 intro w9 E _ _
 simp only [rzE] at E ⊢
 clear T2 hb
 go_upto_region 6 with (fail)
 refine rz [.n (a % p),.a,.i 0] [none,none,some (1,Fq.num (a % p)),none,none] [] E (fun hp=>⟨lI 0 hp J0 zw,zCj hp J2 rfl rfl (zAp rfl rfl (fun _ _=>rfl)) (zA9 0 rfl rfl (by simp) rfl (fun v w h=>zCa h)) (fun _ _=>trivial) (zBj rfl),zS,tv⟩) ?_
 intro w10 E _ _
 simp only [rzE] at E ⊢
 clear HN
 obtain ⟨p0,p1,c0,c1,hP⟩:=zCg (E.box 2 rfl)
 clear B4 B7 ha hm
 go_wp2
 exact zR (v:=.tuple #[.agg #[p0,p1],.int .i64 0]) (by simp [results,Tryz.results150,go_sem,c0,c1]) E.below ⟨_,_,rfl,hP,rfl⟩

theorem exMSqrtN {w:World} {v v':Value} {a p:Int} (h:Num w v a) (h':Num w v' p) (ha:ab a<pw 90) (hm:ab p<pw 90) (hT:Tabs w) (h0:2≤p) (hb:1<zA8 (a % p)) (hk:kron (a % p) p≠1) :
  Rt 150 #[v,v'] w fun v' w'=>(Fq.tup2 (Fq.num 0) (Fq.is (.int .i64 6))).P v' w':=by
 replace ha:=hidd ha
 replace hm:=hidd hm
 replace hT:=hidd hT
 replace hk:=hidd hk
 obtain ⟨n0,ao0,k0,c0,rfl⟩:=h.parts
 obtain ⟨n1,ao1,k1,c1,rfl⟩:=h'.parts
 obtain ⟨w1,b1,hw1,hb1,hs1,E⟩:=gN w 36 h
 obtain ⟨w2,b2,hw2,hb2,hs2,E⟩:=fN E hs1 36 h'
 obtain ⟨w3,b3,hw3,hb3,hs3,E⟩:=fZ E hs2 36
 go_enter Tryz.func150,Tryz.ntmps150
 go_upto_region 1 with (fail)
 rw [← hw1,← hw2]
 rw [← hw3,← hb3]
 rw [← hb2,← hb1]
 clear hw1 hw2 hw3 hb1 hb2 hb3 hs3 hs1 hs2
 have T1:Hid (¬ cmpI p (2)<0):=fun e=>by have:=cmpIqlt.1 e;omega
 have HN:Hid (p≠0):=by show _≠_;omega
 clear h0
 have B4:Hid (ab ((2))<pw 3):=zB5 zd
 refine rz [.n p,.n (2),.i (cmpI p (2)),.o] N3 [] E (fun hp=>⟨lI 0 hp J1 zw,zBp (F:=(Fq.is (.int .i64 2)).P) hp fo tv (zBw) (zAk (fun _=>rfl)) (fun v w h=>(by subst h;exact OfK w (2) zm zm)),zC hp zA2 zi zi fun v v' w h h'=>zA4 h h',zO hp (sqi 2) T1.out,tv⟩) ?_
 intro w5 E _ _
 simp only [rzE] at E ⊢
 clear T1
 go_upto_region 3 with (fail)
 refine zKl (same:=[(2,1)]) (C:=[Fq.num p,Fq.any,Fq.any]) (ks:=[none,none,none]) (new:=[⟨1,1,2,Fq.num p,Fq.num p,(some (.clo 152))⟩]) E rfl (by kernel_rfl) rfl rfl (fun hp=>⟨?_,?_,?_,tv⟩) ?_
 ·exact zFe (zA1 (off:=0) hp fo tv J1 (.inl rfl) (Nat.le_of_ble_eq_true rfl) (zAp rfl rfl (fun _ _=>rfl)) (fun us w hl h=>zAz hl h)) rfl
 ·exact zFe (zEv (F:=(Fq.num p).P) hp zF4 J0 rfl rfl rfl (sqi 0) (fun v w h=>zGe h) (fun _ _=>trivial) (zCh rfl) (zDy rfl)) rfl
 ·exact zKs hp fo rfl (j:=1) rfl (by simp) rfl (fun _ _=>trivial) rfl (Nat.ne_of_beq_eq_false rfl)
 intro L vs w6 nb hsm hL hC hn E6
 have e1:vs 1=cloV 152 (nb 1):=hn _ J0
 have e2:vs 2=cloV 152 (nb 1):=(hsm (2,1) (by simp) (Nat.lt_of_sub_eq_succ rfl)).trans e1
 have E:=E6;try simp only [LM,zAj] at E
 rw [zAo hL]
 simp only [zP,Nat.zero_add,Nat.reduceAdd]
 rw [e1,e2]
 generalize nb 1=b6_1 at E ⊢
 generalize vs 0=u6_0
 clear e1 e2 hsm hC hn E6 hL vs L nb
 go_upto_region 4 with (fail)
 have B7:Hid (ab ((a % p))<pw 90):=zCf HN.out hm.out
 refine rz [.u (cloV 152 b6_1),.n a,.n (a % p),.k,.a] N4 [⟨3,4,2,Fq.num 0,Fq.num (a % p),none⟩] E (fun hp=>⟨zS,lI 0 hp J3 zw,zRi (F:=(Fq.num a).P) hp fo tv zF5 J0 rfl (sqi 0) (sqi 1) (fun v w h hb=>zGd h hb HN.out (zu ha.out) (zu hm.out)),aN hp J0,sN 2 hp J0,tv⟩) ?_
 intro w8 b8_3 E _ _
 simp only [rzE] at E ⊢
 replace hb:=hidd hb
 have T2:Hid (¬ ((zA8 (a % p):Nat):Int)≤1):=by have:=hb.out;show ¬ _;omega
 go_upto_region 5 with (fail)
 refine rz [.n (a % p),.i ((zA8 (a % p):Nat):Int),.o] N5 [] E (fun hp=>⟨lI 0 hp J0 zw,zc hp zF2 zi fun v w h=>zF9 h,zO hp (sqi 1) T2.out,tv⟩) ?_
 intro w9 E _ _
 simp only [rzE] at E ⊢
 clear T2 hb
 go_upto_region 7 with (fail)
 refine rz [.n (a % p),.n p,.i (kron (a % p) p),.t] N5 [] E (fun hp=>⟨lI 0 hp J0 zw,lI 0 hp J3 zw,zD0 (F:=(Fq.num (a % p)).P) (G:=(Fq.num p).P) hp fo tv (zTf) rfl (sqi 0) (sqi 1) (fun v v' w hbw h h'=>zUs h h' (hT.out.mono hbw) (zu B7.out) (zu hm.out)),zO hp (sqi 2) hk.out,tv⟩) ?_
 intro w10 E _ _
 simp only [rzE] at E ⊢
 go_upto_region 8 with (fail)
 refine rz [.n 0,.a,.i 6] [none,none,some (1,Fq.num 0),none,none] [] E (fun hp=>⟨q_zeroInt hp fo tv (fun w=>Num.zero w),zCj hp J2 rfl rfl (zAp rfl rfl (fun _ _=>rfl)) (zA9 0 rfl rfl (by simp) rfl (fun v w h=>zCa h)) (fun _ _=>trivial) (zBj rfl),zS,tv⟩) ?_
 intro w11 E _ _
 simp only [rzE] at E ⊢
 clear HN hT hk
 obtain ⟨p0,p1,c0,c1,hP⟩:=zCg (E.box 2 rfl)
 clear B4 B7 ha hm
 go_wp2
 exact zR (v:=.tuple #[.agg #[p0,p1],.int .i64 6]) (by simp [results,Tryz.results150,go_sem,c0,c1]) E.below ⟨_,_,rfl,hP,rfl⟩

def Li (W:World) (B:Nat) (v:Value) (xs:List Int):Prop:=W.ownsRow B 2 1 v xs.length (xs.map (Value.int .i64))
theorem Li.shape {W:World} {B:Nat} {v:Value} {xs:List Int} (h:Li W B v xs):∃ ao cap,v=.slice ao xs.length cap:=by
 rcases h.2 with ⟨rfl,h0⟩ | ⟨g,cap,cur,rfl,_⟩
 ·exact ⟨none,0,by rw [h0]⟩
 ·exact ⟨_,_,rfl⟩
theorem Li.nil (w:World) (B:Nat):Li w B (.slice none 0 0) []:=World.ownsRow_nil w B _ _
theorem Li.one (w:World) {B:Nat} (hB:B≤w.heap.size) (x:Int):Li (w.alloc (.cells #[.int .i64 x] 2)) B (.slice (some ⟨w.heap.size,0,none⟩) 1 1) [x]:=
 ⟨rfl,.inr ⟨w.heap.size,1,#[.int .i64 x],rfl,hB,heap_alloc_new _ _,Nat.le_refl _,zd,rfl,rfl⟩⟩
theorem Li.mono {w w':World} {B:Nat} {v:Value} {xs:List Int} (h:Li w B v xs) (hb:Below w.heap.size w w'):Li w' B v xs:=by
 refine ⟨h.1,?_⟩
 rcases h.2 with h2 | ⟨g,cap,cur,h1,h2,h3,h4⟩
 ·exact .inl h2
 ·exact .inr ⟨g,cap,cur,h1,h2,by rw [hb.block g (Array.getElem?_eq_some_iff.1 h3).1];exact h3,h4⟩
theorem Li.cell {w:World} {B:Nat} {ao:Option Addr} {n c:Nat} {xs:List Int} (h:Li w B (.slice ao n c) xs) {i:Nat} (hi:i<xs.length):∃ g,ao=some ⟨g,0,none⟩∧w.cell? ⟨g,i,none⟩=some (.int .i64 (xs.getD i 0)):=by
 rcases h.2 with ⟨_,h0⟩ | ⟨g,cap,cur,e,_⟩
 ·omega
 ·injection e with e1 e2 e3
  subst e1
  have:=World.ownsRow.cells h (g:=g) rfl i (.int .i64 (xs.getD i 0)) (by simp [hi])
  rw [zK1] at this
  exact ⟨g,rfl,this⟩
theorem Li.step {B:Nat} {w wr w1:World} {v v':Value} {xs:List Int} {d:Int} {o:Obj} (h:Li wr B v xs) (hB:B≤wr.heap.size) (hnx:Below B w wr)
  (hown':w1.ownsRow B 2 1 v' (xs.length+1) (xs.map (Value.int .i64) ++ [.int .i64 d])) (hgrow:(wr.alloc o).grownBy w1 v.ownBlock) :
  Li w1 B v' (xs ++ [d])∧Below B w w1:=by
 refine ⟨?_,?_⟩
 ·unfold Li;simpa using hown'
 ·exact (hnx.alloc hB o).grown hgrow (by simp;omega) (fun j hj=>(World.ownsRow.lt h j hj).1)

def NumAt (w:World) (g i:Nat) (z:Int):Prop:=∃ n ao k c,w.cell? ⟨g,i*2,none⟩=some (.bool n)∧w.cell? ⟨g,i*2+1,none⟩=some (.slice ao k c)∧Num w (.agg #[.bool n,.slice ao k c]) z
def Nums (w:World) (v:Value) (zs:List Int):Prop:=∃ ao cap,v=.slice ao zs.length cap∧(zs=[]∨∃ g,ao=some ⟨g,0,none⟩∧g<w.heap.size∧∀ i z,zs[i]?=some z→NumAt w g i z)
theorem NumAt.mono {w w':World} {g i:Nat} {z:Int} (h:NumAt w g i z) (hb:Below w.heap.size w w'):NumAt w' g i z:=by
 obtain ⟨n,ao,k,c,h1,h2,h3⟩:=h
 have hl:=World.block_lt_of_cell? w _ h1
 exact ⟨n,ao,k,c,(hb.cell (p:=⟨g,i*2,none⟩) hl).trans h1,(hb.cell (p:=⟨g,i*2+1,none⟩) hl).trans h2,h3.mono hb⟩
theorem Nums.mono {w w':World} {v:Value} {zs:List Int} (h:Nums w v zs) (hb:Below w.heap.size w w'):Nums w' v zs:=by
 obtain ⟨ao,cap,e,h⟩:=h
 refine ⟨ao,cap,e,?_⟩
 rcases h with h | ⟨g,h1,h2,h3⟩
 ·exact .inl h
 ·exact .inr ⟨g,h1,Nat.lt_of_lt_of_le h2 hb.size,fun i z hi=>(h3 i z hi).mono hb⟩
theorem Nums.at {w:World} {ao:Option Addr} {n c:Nat} {zs:List Int} (h:Nums w (.slice ao n c) zs) {i:Nat} (hi:i<zs.length) :
  ∃ g p r k d,ao=some ⟨g,0,none⟩∧w.cell? ⟨g,i*2,none⟩=some (.bool p)∧w.cell? ⟨g,i*2+1,none⟩=some (.slice r k d)∧Num w (.agg #[.bool p,.slice r k d]) (zs.getD i 0):=by
 obtain ⟨ao',cap,e,h⟩:=h
 injection e with e1 e2 e3
 subst e1
 rcases h with h | ⟨g,h1,h2,h3⟩
 ·subst h;simp at hi
 ·obtain ⟨p,r,k,d,g1,g2,g3⟩:=h3 i (zs.getD i 0) (by simp [hi])
  exact ⟨g,p,r,k,d,h1,g1,g2,g3⟩

def NumCell (us:List Value) (w:World) (own:Option Nat) (i:Nat) (z:Int):Prop:=
 ∃ n ao k c,us[i*2]?=some (.bool n)∧us[i*2+1]?=some (.slice ao k c)∧(∀ a,ao=some a→k≠0→some a.block≠own)∧Num w (.agg #[.bool n,.slice ao k c]) z
def Ln (W:World) (B:Nat) (v:Value) (zs:List Int):Prop:=∃ us,W.ownsRow B 36 2 v zs.length us∧∀ i z,zs[i]?=some z→NumCell us W v.ownBlock i z
theorem Ln.shape {W:World} {B:Nat} {v:Value} {zs:List Int} (h:Ln W B v zs):∃ ao cap,v=.slice ao zs.length cap:=by
 obtain ⟨us,h,_⟩:=h
 rcases h.2 with ⟨rfl,h0⟩ | ⟨g,cap,cur,rfl,_⟩
 ·exact ⟨none,0,by rw [h0]⟩
 ·exact ⟨_,_,rfl⟩
theorem Ln.nil (w:World) (B:Nat):Ln w B (.slice none 0 0) []:=⟨[],World.ownsRow_nil w B _ _,fun i z h=>by simp at h⟩
theorem Ln.made (w:World) {B cap:Nat} (cur:Array Value) (hb:B≤w.heap.size) (hm:cap≤maxLen) (hs:cur.size=cap*2):Ln (w.alloc (.cells cur 36)) B (.slice (some ⟨w.heap.size,0,none⟩) 0 cap) []:=
 ⟨[],World.ownsRow_made w cur cap hb hm hs,fun i z h=>by simp at h⟩
theorem Ln.mono {w w':World} {B:Nat} {v:Value} {zs:List Int} (h:Ln w B v zs) (hb:Below w.heap.size w w'):Ln w' B v zs:=by
 obtain ⟨us,h,hE⟩:=h
 refine ⟨us,⟨h.1,?_⟩,fun i z hi=>?_⟩
 ·rcases h.2 with h2 | ⟨g,cap,cur,h1,h2,h3,h4⟩
  ·exact .inl h2
  ·exact .inr ⟨g,cap,cur,h1,h2,by rw [hb.block g (Array.getElem?_eq_some_iff.1 h3).1];exact h3,h4⟩
 ·obtain ⟨n,ao,k,c,g1,g2,g3,g4⟩:=hE i z hi
  exact ⟨n,ao,k,c,g1,g2,g3,g4.mono hb⟩
theorem Num.grown {w w':World} {n:Bool} {ao:Option Addr} {k c:Nat} {z:Int} {row:Option Nat} (h:Num w (.agg #[.bool n,.slice ao k c]) z) (hg:w.grownBy w' row) (hne:∀ a,ao=some a→k≠0→some a.block≠row):Num w' (.agg #[.bool n,.slice ao k c]) z:=by
 obtain ⟨neg,ao',k',c',xs,hv,hs,hn,hz⟩:=h
 injection hv with hv
 have hv2:=congrArg Array.toList hv
 simp at hv2
 obtain ⟨rfl,rfl,rfl,rfl⟩:=hv2
 refine ⟨n,ao,k,c,xs,rfl,⟨hs.len,hs.cap,hs.cells.1,?_⟩,hn,hz⟩
 rcases hs.cells.2 with h0 | ⟨b,off,rfl,hlt,hc⟩
 ·exact .inl h0
 ·rcases Nat.eq_zero_or_pos k with h0 | h0
  ·exact .inl (List.eq_nil_of_length_eq_zero (hs.len.trans h0))
  ·refine .inr ⟨b,off,rfl,Nat.lt_of_lt_of_le hlt hg.size,fun j hj=>hg.cell (hc j hj) (show some b≠row from hne ⟨b,off,none⟩ rfl zm)⟩
theorem Num.blk {w:World} {n:Bool} {a:Addr} {k c:Nat} {z:Int} (h:Num w (.agg #[.bool n,.slice (some a) k c]) z) (hk:k≠0):a.block<w.heap.size:=by
 obtain ⟨neg,ao',k',c',xs,hv,hs,hn,hz⟩:=h
 injection hv with hv
 have hv2:=congrArg Array.toList hv
 simp at hv2
 obtain ⟨rfl,rfl,rfl,rfl⟩:=hv2
 rcases hs.cells.2 with h0 | ⟨b,off,e,hlt,hc⟩
 ·have:=hs.len;rw [h0] at this;simp at this;omega
 ·injection e with e;rw [e];exact hlt
theorem Ln.step {B:Nat} {w wr w1 w2:World} {v:Value} {zs:List Int} {us:List Value} {z:Int} {o:Obj} {g cap H:Nat} {ng:Bool} {ao:Option Addr} {n c:Nat}
  (hO:wr.ownsRow B 36 2 v zs.length us) (hE:∀ i z,zs[i]?=some z→NumCell us wr v.ownBlock i z) (hB:B≤wr.heap.size) (hnx:Below B w wr) (hb:Below wr.heap.size wr w1)
  (hnew:∀ a,ao=some a→wr.heap.size≤a.block) (hN:Num w1 (.agg #[.bool ng,.slice ao n c]) z)
  (hown':w2.ownsRow B 36 2 (.slice (some ⟨g,0,none⟩) (zs.length+1) cap) (zs.length+1) (us ++ [.bool ng,.slice ao n c])) (hgrow:(w1.alloc o).grownBy w2 v.ownBlock) (hat:v.ownBlock=some g∨g=H) (hH:(w1.alloc o).heap.size=H) :
  Ln w2 B (.slice (some ⟨g,0,none⟩) (zs.length+1) cap) (zs ++ [z])∧Below B w w2:=by
 have hsz:=hb.size
 have hH2:w1.heap.size+1=H:=by rw [← hH];simp
 have hlt:=hO.lt
 have hul:=hO.1
 refine ⟨⟨us ++ [.bool ng,.slice ao n c],by simpa using hown',fun i y hi=>?_⟩,?_⟩
 ·have hne:∀ {a:Addr} {k:Nat} {m:Bool} {d:Nat} {x:Int},Num w1 (.agg #[.bool m,.slice (some a) k d]) x→k≠0→some a.block≠v.ownBlock→a.block≠g:=by
   intro a k m d x hx hk hr e
   have h1:=hx.blk hk
   rcases hat with h | h
   ·rw [h,e] at hr;exact hr rfl
   ·omega
  by_cases hil:i<zs.length
  ·rw [List.getElem?_append_left hil] at hi
   obtain ⟨p,r,k,d,g1,g2,g3,g4⟩:=hE i y hi
   refine ⟨p,r,k,d,?_,?_,fun a ha hk=>?_,?_⟩
   ·rw [List.getElem?_append_left zm];exact g1
   ·rw [List.getElem?_append_left zm];exact g2
   ·subst ha
    intro e
    exact hne (g4.mono hb) hk (g3 _ rfl hk) (by simpa [Value.ownBlock] using e)
   ·exact ((g4.mono hb).mono (zAh w1 o)).grown hgrow g3
  ·have hi2:i=zs.length:=by
    rcases Nat.lt_or_ge i (zs ++ [z]).length with h | h
    ·simp at h;omega
    ·rw [List.getElem?_eq_none h] at hi;cases hi
   subst hi2
   rw [List.getElem?_append_right (Nat.le_refl _),Nat.sub_self] at hi
   simp only [List.getElem?_cons_zero,Option.some.injEq] at hi
   subst hi
   have hfar:∀ a,ao=some a→some a.block≠v.ownBlock:=fun a ha e=>by
    have h1:=hnew a ha
    have h2:=(hlt a.block e.symm).2
    omega
   refine ⟨ng,ao,n,c,?_,?_,fun a ha hk=>?_,?_⟩
   ·rw [List.getElem?_append_right zm,show zs.length*2-us.length=0 by omega];rfl
   ·rw [List.getElem?_append_right zm,show zs.length*2+1-us.length=1 by omega];rfl
   ·subst ha
    intro e
    exact hne hN hk (hfar _ rfl) (by simpa [Value.ownBlock] using e)
   ·exact (hN.mono (zAh w1 o)).grown hgrow fun a ha _=>hfar a ha
 ·exact ((hnx.trans (hb.mono hB)).alloc zm o).grown hgrow (by simp;omega) (fun j hj=>(hO.lt j hj).1)
section
variable {os : List Oper} {Q : Exit → Act → World → Prop} {a : Act} {p : Pq} {B B0 : Nat} {w0 : World}
variable {i s : Nat} {d : Option Tmp} {ty : TypeId} {ps : String} {af : Array Edge} {gd : Option (Nat × Bool)}
theorem zRk {b l c k:Nat} {x y:Operand} (hp:p.Ok B B0) (hF:p.Free i) (hg:GdQ os a p B B0 w0 af gd) (hx:SrcQ os a p B B0 w0 af x fun v _=>v=.slice (some ⟨b,0,none⟩) l c) (hy:SrcQ os a p B B0 w0 af y fun v _=>v=.int .i64 k) (hk:k<l)
  (hC:∀ w,(p.c i).P (.pointer (some ⟨b,k*2,none⟩)) w) :
  zAf os Q a p B B0 w0 i { dst:=d,op:=.indexAddr 86 x y,type:=ty,pos:=ps,after:=af,guard:=gd }:=
 zAs hp hF hg hx hy fun ρ w _ h h'=>⟨_,by
  have h0:(k:Int)<(l:Int):=zm
  have h1:(0:Int)≤(k:Int):=zm
  simp [execOp,go_sem,h,h',h0,h1],hC w⟩
end
def IntsV (w:World) (us:List Value) (zs:List Int):Prop:=us.length=zs.length*2∧∀ i z,zs[i]?=some z→∃ n ao k c,us.getD (i*2) undef=.bool n∧us.getD (i*2+1) undef=.slice ao k c∧Num w (.agg #[.bool n,.slice ao k c]) z
def Fq.ints (zs:List Int):Fq:=⟨fun v w=>∃ us:List Value,v=.agg us.toArray∧IntsV w us zs,
 fun ⟨us,e,hl,h⟩ hb=>⟨us,e,hl,fun i z hi=>by obtain ⟨n,ao,k,c,g1,g2,g3⟩:=h i z hi;exact ⟨n,ao,k,c,g1,g2,g3.mono hb⟩⟩,
 fun ⟨us,e,hl,h⟩ ha ht hl2=>⟨us,e,hl,fun i z hi=>by obtain ⟨n,ao,k,c,g1,g2,g3⟩:=h i z hi;exact ⟨n,ao,k,c,g1,g2,g3.putAt ha ht hl2⟩⟩⟩
section
variable {n1 n2 n3 : Bool} {a1 a2 a3 : Option Addr} {k1 c1 k2 c2 k3 c3 : Nat} {xs1 xs2 xs3 : List Int}
end

section
variable {os : List Oper} {Q : Exit → Act → World → Prop} {a : Act} {p : Pq} {B B0 : Nat} {w0 : World}
variable {i s : Nat} {d : Option Tmp} {ty : TypeId} {ps : String} {af : Array Edge} {gd : Option (Nat × Bool)}
theorem zW0 {n0:Nb} {x y:Operand} {z1 z2:Int} (hp:p.Ok B B0) (hg:GdQ os a p B B0 w0 af gd) (hi:n0∈p.new) (hii:n0.i=i) (hki:n0.k=i) (hsl:n0.s=some 2) (hm:n0.m=4) (hF1:n0.F1=Fq.ints [z1,z2])
  (hx:SrcQ os a p B B0 w0 af x fun v w=>Num w v z1) (hy:SrcQ os a p B B0 w0 af y fun v w=>Num w v z2)
  (hC:∀ v w',(p.c i).P v w') (h1:∀ o∈p.old,o.k≠i) (h2:∀ n∈p.new,n.i≠i→n.k≠i) :
  zAf os Q a p B B0 w0 i { dst:=d,op:=.buildSlice 86 2 #[(0,x),(1,y)],type:=ty,pos:=ps,after:=af,guard:=gd }:=by
 intro hio L vs w hG hL hd hc
 have p1:=hx L vs w hG hd
 have p2:=hy L vs w hG hd
 obtain ⟨m1,a1,k1,c1,e1⟩:=p1.parts
 obtain ⟨m2,a2,k2,c2,e2⟩:=p2.parts
 rw [e1] at p1
 rw [e2] at p2
 obtain ⟨us,hus⟩:∃ us:List Value,us=[.bool m1,.slice a1 k1 c1,.bool m2,.slice a2 k2 c2]:=⟨_,rfl⟩
 refine wpOp_step hio fun K' hK=>?_
 rw [if_pos (zE2 (o:={ dst:=d,op:=.buildSlice 86 2 #[(0,x),(1,y)],type:=ty,pos:=ps,after:=af,guard:=gd }) hg hG hd)]
 have e:(execOp (lay os.toArray L vs os.toArray.size a).eval ({ dst:=d,op:=.buildSlice 86 2 #[(0,x),(1,y)],type:=ty,pos:=ps,after:=af,guard:=gd }:Oper)).run Tryz.prog w=.ok (.value (.slice (some ⟨w.heap.size,0,none⟩) 2 2)) (w.alloc (.cells us.toArray 36)):=by
  generalize (lay os.toArray L vs os.toArray.size a).eval=ρ at e1 e2
  simp [execOp,go_sem,e1,e2,hus]
 unfold Oper.wp
 rw [e]
 have hb:=zAh w (.cells us.toArray 36)
 subst hii
 have hnow:n0.now (up L n0.i true)=n0.F1:=by
  unfold Nb.now
  rw [hsl]
  rfl
 have hlay:=hG.lay hp hi (F:=n0.F1) hnow hC h1 h2 36 (us:=us) (by rw [hus,hm];rfl) zm (by
   rw [hus]
   intro u hu q e
   simp at hu
   rcases hu with rfl | rfl | rfl | rfl <;> cases e) (by
   rw [hF1]
   refine ⟨us,rfl,by rw [hus];rfl,fun k n hk=>?_⟩
   rw [hus]
   rw [hus] at hb
   match k,hk with
   | 0,hk=>injection hk with q1;subst q1;exact ⟨_,_,_,_,rfl,rfl,p1.mono hb⟩
   | 1,hk=>injection hk with q1;subst q1;exact ⟨_,_,_,_,rfl,rfl,p2.mono hb⟩
   | k+2,hk=>simp at hk)
 have hptr:n0.ptr w.heap.size=.slice (some ⟨w.heap.size,0,none⟩) 2 2:=by unfold Nb.ptr;rw [hsl]
 rw [hptr] at hlay
 exact hK _ _ ⟨_,rfl,hlay⟩
theorem q_call0W {f:FuncId} {ts:Array TypeId} (hp:p.Ok B B0) (hF:p.Free i) (hg:GdQ os a p B B0 w0 af gd) (hen:∀ args w,(callFunc f args).run Tryz.prog w=.ok (.enter f args) w) (hB:B=w0.heap.size)
  (hC:∀ w,Below w0.heap.size w0 w→Calls Tryz.prog f #[] w fun e w'=>∃ v',e=.returned v'∧Below w.heap.size w w'∧(p.c i).P v' w') :
  zAf os Q a p B B0 w0 i { dst:=d,op:=.call { callee:=.value (.func f),args:=#[],argTypes:=ts },type:=ty,pos:=ps,after:=af,guard:=gd }:=by
 subst hB
 exact zFu hp hF hg hen fun L vs w hG _=>⟨#[],by simp,hC w hG.below⟩
theorem q_callWSl {n0:Nb} {x y:Operand} {l:Nat} {F:Value→World→Prop} {f:FuncId} {ts:Array TypeId} (hp:p.Ok B B0) (hF:p.Free i) (hg:GdQ os a p B B0 w0 af gd) (hen:∀ args w,(callFunc f args).run Tryz.prog w=.ok (.enter f args) w) (hB:B=w0.heap.size) (hi:n0∈p.new) (hsl:n0.s=some (.sl l))
  (hx:SrcQ os a p B B0 w0 af x F) (hy:∀ L vs w,p.G B B0 w0 L vs w→(∀ e∈af,Region.binds .any e=true→L e.on=true)→L n0.i=true∧(lay os.toArray L vs os.toArray.size a).eval y=vs n0.i)
  (hC:∀ v b w,Below w0.heap.size w0 w→F v w→Bq w b n0.m n0.F1→Calls Tryz.prog f #[v,.slice (some ⟨b,0,none⟩) l l] w fun e w'=>∃ v',e=.returned v'∧Below w.heap.size w w'∧(p.c i).P v' w') :
  zAf os Q a p B B0 w0 i { dst:=d,op:=.call { callee:=.value (.func f),args:=#[x,y],argTypes:=ts },type:=ty,pos:=ps,after:=af,guard:=gd }:=
 zFu hp hF hg hen fun L vs w hG hd=>by
  subst hB
  obtain ⟨hLi,hye⟩:=hy L vs w hG hd
  obtain ⟨b,e1,_,hb⟩:=hG.new _ hi hLi
  have hptr:n0.ptr b=.slice (some ⟨b,0,none⟩) l l:=by unfold Nb.ptr;rw [hsl]
  have hnow:n0.now L=n0.F1:=by
   unfold Nb.now
   rw [hsl]
   rfl
  rw [hnow] at hb
  refine ⟨#[(lay os.toArray L vs os.toArray.size a).eval x,.slice (some ⟨b,0,none⟩) l l],?_,hC _ b w hG.below (hx L vs w hG hd) hb⟩
  have hm:#[x,y].map (lay os.toArray L vs os.toArray.size a).eval=#[(lay os.toArray L vs os.toArray.size a).eval x,(lay os.toArray L vs os.toArray.size a).eval y]:=by
   generalize (lay os.toArray L vs os.toArray.size a).eval=ρ
   simp
  rw [hm,hye,e1,hptr]
end
section
variable {os : List Oper} {Q : Exit → Act → World → Prop} {a : Act} {p : Pq} {B B0 : Nat} {w0 : World}
variable {i s : Nat} {d : Option Tmp} {ty : TypeId} {ps : String} {af : Array Edge} {gd : Option (Nat × Bool)}
end
def Fq.nraw (n:Bool) (a:Option Addr) (k c:Nat) (xs:List Int) (z:Int):Fq:=⟨fun v w=>v=.agg #[.bool n,.slice a k c]∧Sl w a k c xs∧Num w v z,fun h hb=>⟨h.1,h.2.1.mono hb,h.2.2.mono hb⟩,fun h ha ht hl=>⟨h.1,h.2.1.putAt ha ht hl,h.2.2.putAt ha ht hl⟩⟩
theorem zP1 {n:Bool} {a:Option Addr} {k c:Nat} {xs:List Int} {z:Int} {us:List Value} {w:World} (hl:us.length=2) (h:(Fq.nraw n a k c xs z).P (.agg us.toArray) w):us.getD 1 undef=.slice a k c:=by
 match us,hl with
 | [p,q],_=>
  obtain ⟨e,_⟩:=h
  injection e with e
  have e2:=congrArg Array.toList e
  simp at e2
  simp [e2]
section
variable {os : List Oper} {Q : Exit → Act → World → Prop} {a : Act} {p : Pq} {B B0 : Nat} {w0 : World}
variable {i s : Nat} {d : Option Tmp} {ty : TypeId} {ps : String} {af : Array Edge} {gd : Option (Nat × Bool)}
theorem zRn {o:Ob} {off:Nat} {x:Operand} {v:Value} (hp:p.Ok B B0) (hF:p.Free i) (hg:GdQ os a p B B0 w0 af gd) (ho:o∈p.old) (hk:o.F1=o.F0∨zBo os 9 o.k i=true) (hoff:off+1≤o.m)
  (hx:SrcQ os a p B B0 w0 af x fun u _=>u=.pointer (some ⟨o.b,off,none⟩)) (hC:∀ (us:List Value) (w:World),us.length=o.m→o.F0.P (.agg us.toArray) w→us.getD off undef=v∧(p.c i).P v w) :
  zAf os Q a p B B0 w0 i { dst:=d,op:=.load 27 x,type:=ty,pos:=ps,after:=af,guard:=gd }:=by
 refine zBf hp hF hg fun L vs w hG hL hc hd=>?_
 obtain ⟨us,hl,h0,hat,ht,hP⟩:=zFj ho hk hG hL hc
 have e:=hx L vs w hG hd
 have c0:=(hat off zm).1
 obtain ⟨e2,hP2⟩:=hC us w hl hP
 refine ⟨_,?_,hP2⟩
 rw [e2] at c0
 generalize (lay os.toArray L vs os.toArray.size a).eval=ρ at e
 simp [execOp,go_sem,e,c0]
theorem zRo {o:Ob} {bx:Nat} {ad:Addr} {x:Operand} {x0:Int} (hp:p.Ok B B0) (hF:p.Free i) (hg:GdQ os a p B B0 w0 af gd) (ho:o∈p.old) (hk:o.F1=o.F0∨zBo os 9 o.k i=true)
  (hx:SrcQ os a p B B0 w0 af x fun u _=>u=.pointer (some ad)) (hC:∀ (us:List Value) (w:World),us.length=o.m→o.F0.P (.agg us.toArray) w→w.cell? ad=some (.int .u32 x0)) (hI:∀ w,(p.c i).P (.int .u32 x0) w) (_hb:o.b=bx:=by rfl) :
  zAf os Q a p B B0 w0 i { dst:=d,op:=.load 104 x,type:=ty,pos:=ps,after:=af,guard:=gd }:=by
 refine zBf hp hF hg fun L vs w hG hL hc hd=>?_
 obtain ⟨us,hl,h0,hat,ht,hP⟩:=zFj ho hk hG hL hc
 have e:=hx L vs w hG hd
 have c0:=hC us w hl hP
 refine ⟨_,?_,hI w⟩
 generalize (lay os.toArray L vs os.toArray.size a).eval=ρ at e
 simp [execOp,go_sem,e,c0]
end
theorem nraw_addr {w:World} {n:Bool} {a:Option Addr} {k c:Nat} {xs:List Int} {z:Int} {v:Value} (h:(Fq.nraw n a k c xs z).P v w) (hk:0<k):∃ ab off,a=some ⟨ab,off,none⟩:=by
 obtain ⟨b,off,e,_⟩:=h.2.1.cells.at (k:=0) (by rw [h.2.1.len];exact hk)
 exact ⟨b,off,e⟩
theorem zQq {n:Bool} {ab:Nat} {off k c:Nat} {xs:List Int} {z x0:Int} {q:Nat} (hk:q<k) (hx:xs.getD q 0=x0) {v:Value} {w:World} (h:(Fq.nraw n (some ⟨ab,off,none⟩) k c xs z).P v w):w.cell? ⟨ab,off+q,none⟩=some (.int .u32 x0):=by
 obtain ⟨x,h1,_,_,h4⟩:=h.2.1.cells.at' (k:=q) (by rw [h.2.1.len];exact hk)
 rw [h1,← hx,h4.out]
theorem word_bit {n:Bool} {xs:List Int} {z:Int} {k i:Nat} (h:z=sgn n (val xs)∧Canon xs∧xs.length=k∧(n=true→k≠0)∧Digs xs) (hi:i<zA8 z):i/32<k∧∃ x0 y:Int,xs.getD (i/32) 0=x0∧x0/2^(i % 32)=y∧bits .and .u32 y 1=((z.natAbs/2^i % 2:Nat):Int):=by
 obtain ⟨hz,hc,hl,hn,hd⟩:=h
 have h1:ab z=val xs:=by rw [hz,zD5,zBb (zAm hd)]
 have h2:ab z<pw k:=by rw [h1,← hl];exact zBa hd
 have h3:i/32<k:=by have:=zMf h2;omega
 refine ⟨h3,_,_,rfl,rfl,?_⟩
 have hb:=zS3 hd (k:=i/32) (r:=i % 32) zm zm
 rw [show 32*(i/32)+i % 32=i by omega] at hb
 have hx:=hd.getD (i/32)
 have e3:0≤xs.getD (i/32) 0/2^(i % 32)∧xs.getD (i/32) 0/2^(i % 32)<4294967296:=by
  have h:=Int.ediv_nonneg hx.1 (show (0:Int)≤2^(i % 32) by have:=zA6 (i % 32);omega)
  have h2:=Int.ediv_le_self (a:=xs.getD (i/32) 0) (2^(i % 32)) hx.1
  have:=hx.2
  omega
 rw [and_one _ e3.1 e3.2,← hb,← h1]
 unfold ab
 rw [Int.natCast_emod,Int.natCast_ediv,Int.natCast_pow]
 rfl
section
variable {os : List Oper} {Q : Exit → Act → World → Prop} {a : Act} {p : Pq} {B B0 : Nat} {w0 : World}
variable {i s : Nat} {d : Option Tmp} {ty : TypeId} {ps : String} {af : Array Edge}
end
theorem Fr.store {w0 W:World} {bs:List (Nat × Nat × Fq)} (E:Fr w0 bs W) (k:Nat) {b m:Nat} {F F':Fq} (hk:bs[k]?=some (b,m,F)) {us:List Value} (hl:us.length=m) (ht:Tame us) (hF:F'.P (.agg us.toArray) W):Fr w0 (bs.set k (b,m,F')) (putFrom W b 0 us):=by
 have hm:=List.mem_of_getElem? hk
 have hkl:k<bs.length:=(List.getElem?_eq_some_iff.1 hk).1
 have hap:∀ i,i<bs.length→i≠k→∀ y,bs[i]?=some y→y.1≠b:=by
  intro i hi hne y hy e
  have h1:=E.apart
  rw [List.nodup_iff_pairwise_ne,List.pairwise_map,List.pairwise_iff_getElem] at h1
  have hy':=(List.getElem?_eq_some_iff.1 hy).2
  have hk':=(List.getElem?_eq_some_iff.1 hk).2
  rcases Nat.lt_or_gt_of_ne hne with h | h
  ·have:=h1 i k hi hkl h
   rw [hy',hk'] at this
   exact this e
  ·have:=h1 k i hkl hi h
   rw [hy',hk'] at this
   exact this e.symm
 refine ⟨zId (E.boxes _ hm).1 us 0 _ _ E.below,fun x hx=>?_,?_⟩
 ·obtain ⟨i,hi,e⟩:=List.mem_iff_getElem.1 hx
  rw [List.getElem_set] at e
  split at e
  ·subst e
   exact ⟨(E.boxes _ hm).1,(E.boxes _ hm).2.same hl ht hF⟩
  ·rename_i hne
   have hi':i<bs.length:=by simpa using hi
   have hx':bs[i]?=some x:=by rw [List.getElem?_eq_getElem hi',e]
   have hxm:=List.mem_of_getElem? hx'
   exact ⟨(E.boxes _ hxm).1,(E.boxes _ hxm).2.other (E.boxes _ hm).2 (hap i hi' (fun h=>hne h.symm) x hx') hl⟩
 ·have e:(bs.set k (b,m,F')).map (·.1)=bs.map (·.1):=by
   apply List.ext_getElem?
   intro i
   rw [List.getElem?_map,List.getElem?_map,List.getElem?_set]
   split
   ·rename_i h
    subst h
    simp [hkl]
    exact (congrArg (·.1) (List.getElem?_eq_some_iff.1 hk).2).symm
   ·rfl
  rw [e]
  exact E.apart
theorem oldOf_of {bs:List (Nat × Nat × Fq)} {ks:List (Option (Nat × Fq))} {d:Nat} (hl:ks.length=bs.length):∀ x∈bs,∃ o∈zAx bs ks d,o.b=x.1∧o.m=x.2.1∧o.F0=x.2.2:=by
 induction bs generalizing ks d with
 | nil=>intro x hx;simp at hx
 | cons y r ih=>
  obtain ⟨b,m,F⟩:=y
  cases ks with
  | nil=>simp at hl
  | cons k ks=>
   have hl':ks.length=r.length:=by simpa using hl
   intro x hx
   rcases List.mem_cons.1 hx with rfl | hx
   ·cases k with
    | none=>exact ⟨_,by simp only [zAx];exact List.mem_cons_self ..,rfl,rfl,rfl⟩
    | some kk=>obtain ⟨k,F1⟩:=kk;exact ⟨_,by simp only [zAx];exact List.mem_cons_self ..,rfl,rfl,rfl⟩
   ·cases k with
    | none=>obtain ⟨o,ho,h⟩:=ih (ks:=ks) hl' x hx;exact ⟨o,by simp only [zAx];exact List.mem_cons_of_mem _ ho,h⟩
    | some kk=>obtain ⟨k,F1⟩:=kk;obtain ⟨o,ho,h⟩:=ih (ks:=ks) hl' x hx;exact ⟨o,by simp only [zAx];exact List.mem_cons_of_mem _ ho,h⟩
theorem fr_of_G {w0 W w:World} {C:List Fq} {bs:List (Nat × Nat × Fq)} {ks:List (Option (Nat × Fq))} {new:List Nb} {len:Nat} {L:Nat→Bool} {vs:Nat→Value} (E:Fr w0 bs W) (hG:(plq C bs ks new len).G w0.heap.size W.heap.size w0 L vs w) (hl:ks.length=bs.length) (hs:∀ o∈(plq C bs ks new len).old,o.F1=o.F0):Fr w0 bs w:=by
 refine ⟨hG.below,fun x hx=>?_,E.apart⟩
 obtain ⟨o,ho,h1,h2,h3⟩:=oldOf_of (d:=len) hl x hx
 have hB:=hG.old o ho
 rw [hs o ho,ite_self,h1,h2,h3] at hB
 exact ⟨(E.boxes x hx).1,hB⟩
theorem Fr.later {w0 W W':World} {bs:List (Nat × Nat × Fq)} (E:Fr w0 bs W) (hb:Below W.heap.size W W'):Fr w0 bs W':=⟨E.below.trans (hb.mono E.below.size),fun x hx=>⟨(E.boxes x hx).1,(E.boxes x hx).2.mono hb⟩,E.apart⟩

noncomputable def zeroB (T:Nat) (us:List Value):Prop:=(Tryz.prog.info? T).map (·.zero)=some (some (.agg us.toArray))
theorem zXn {T:Nat} {us:List Value} (h:zeroB T us) {d:Option Tmp} {ty:TypeId} {ps:String} {af:Array Edge} {gd:Option (Nat × Bool)} (ρ:Operand→Value) (w:World):(execOp ρ { dst:=d,op:=.alloc T,type:=ty,pos:=ps,after:=af,guard:=gd }).run Tryz.prog w=.ok (.value (.pointer (some ⟨w.heap.size,0,none⟩))) (w.alloc (.cells us.toArray T)):=by
 unfold zeroB at h
 cases hi:Tryz.prog.info? T with
 | none=>simp [hi] at h
 | some i=>
  simp [hi] at h
  have hz:(zeroValue T).run Tryz.prog w=.ok (.agg us.toArray) w:=by
   simp [zeroValue,typeInfo,hi,h]
  simp only [execOp,Instr.alloc,Sem.run_bind,hz,Result.andThen_ok]
  simp [go_sem,newVar,newRow,Value.cells]
theorem zXi {Q:Exit→Act→World→Prop} {a:Act} {W:World} {id T:Nat} {us:List Value} (hz:zeroB T us) {d:Option Tmp} {ty:TypeId} {ps:String} (h:Q .normal (a.put d (.pointer (some ⟨W.heap.size,0,none⟩))) (W.alloc (.cells us.toArray T))):(Code.region id #[{ dst:=d,op:=.alloc T,type:=ty,pos:=ps,after:=#[],guard:=none }] false).wp Tryz.prog Q a W:=by
 refine wp_region_list ?_
 refine wpList_plain rfl fun K hK=>?_
 unfold Oper.wp
 rw [zXn hz]
 exact hK _ _ h
def AllBut (R:Nat→Oper→Prop):List Oper→Nat→Prop
 | [],_=>True
 | [_],_=>True
 | o::o'::os,k=>R k o∧AllBut R (o'::os) (k+1)
theorem AllBut.at {R:Nat→Oper→Prop}:∀ {os:List Oper} {k:Nat},AllBut R os k→∀ (i:Nat) (o:Oper),i+1<os.length→os[i]?=some o→R (k+i) o
 | [],_,_,i,o,h,_=>by simp at h
 | [_],_,_,i,o,h,_=>by simp at h
 | o'::o''::os,k,hh,0,o,_,h=>by simp at h;subst h;exact hh.1
 | o'::o''::os,k,hh,i+1,o,hl,h=>by
  have:=AllBut.at (os:=o''::os) hh.2 i o (by simpa using hl) (by simpa using h)
  rwa [show k+1+i=k+(i+1) by omega] at this
theorem zWo {bs:List (Nat × Nat × Fq)} {ks:List (Option (Nat × Fq))} {d:Nat} (hk:ks.all (·.isNone)=true):∀ o∈zAx bs ks d,o.F1=o.F0:=by
 induction bs generalizing ks d with
 | nil=>intro o ho;simp [zAx] at ho
 | cons y r ih=>
  obtain ⟨b,m,F⟩:=y
  cases ks with
  | nil=>intro o ho;simp [zAx] at ho
  | cons k ks=>
   cases k with
   | some kk=>simp at hk
   | none=>
    simp only [List.all_cons,Bool.and_eq_true] at hk
    intro o ho
    simp only [zAx,List.mem_cons] at ho
    rcases ho with rfl | ho
    ·rfl
    ·exact ih hk.2 o ho
section
variable {os : List Oper} {Q : Exit → Act → World → Prop} {a : Act} {p : Pq} {B B0 : Nat} {w0 : World}
def LastQ (os:List Oper) (Q:Exit→Act→World→Prop) (a:Act) (p:Pq) (B B0:Nat) (w0:World) (bs bs':List (Nat × Nat × Fq)) (i:Nat) (o:Oper):Prop:=
 os.toArray[i]?=some o→∀ L vs w,Fr w0 bs w→p.G B B0 w0 L vs w→(∀ e∈o.after,Region.binds .any e=true→L e.on=true) →
  wpOp Tryz.prog os.toArray Q i (fun a' w'=>∃ v,a'=(lay os.toArray L vs os.toArray.size a).put o.dst v∧Fr w0 bs' w') (lay os.toArray L vs os.toArray.size a) w
theorem zIk {id:Nat} {dr:Bool} {C:List Fq} {bs bs':List (Nat × Nat × Fq)} {ks:List (Option (Nat × Fq))} {W:World} {o:Oper} (k:Nat) (hk:os.length=k+1) (ho:os[k]?=some o) (E:Fr w0 bs W) (hok:okB os.length bs.length ks []=true) (hn:ks.all (·.isNone)=true) (hm:Tryz.prog.follows .mixedOrders=true) (ha:zAy (os.map (·.dst))=true) (hb:zDr os 0=true)
  (hdep:(List.range k).all (zBo os 9 k)=true)
  (hs:(plq C bs ks [] os.length).Ok w0.heap.size W.heap.size→AllBut (zAf os Q a (plq C bs ks [] os.length) w0.heap.size W.heap.size w0) os 0)
  (hl:(plq C bs ks [] os.length).Ok w0.heap.size W.heap.size→LastQ os Q a (plq C bs ks [] os.length) w0.heap.size W.heap.size w0 bs bs' k o)
  (hf:∀ L vs W',(∀ j,j<os.length→L j=true)→Fr w0 bs' W'→Q .normal (lay os.toArray L vs os.length a) W'):(Code.region id os.toArray dr).wp Tryz.prog Q a W:=by
 simp only [okB,Bool.and_eq_true,beq_iff_eq] at hok
 obtain ⟨⟨⟨⟨⟨k1,k2⟩,k3⟩,k4⟩,k5⟩,k6⟩:=hok
 have n2:=zGj k2
 have hp:(plq C bs ks [] os.length).Ok w0.heap.size W.heap.size:=by
  refine ⟨fun o ho=>?_,zMm E.apart,zMl n2,fun n hn=>by simp [plq] at hn,fun n hn=>by simp [plq] at hn,E.below.size⟩
  have h:=E.boxes _ (zGk ho)
  exact ⟨h.1,h.2.lt⟩
 have h0:∀ W',Below W.heap.size W W'→W'.heap.size=W.heap.size→(plq C bs ks [] os.length).G w0.heap.size W.heap.size w0 (fun _=>false) (fun _=>undef) W':=fun W' hW hsz=>
  ⟨E.below.trans (hW.mono E.below.size),zm,fun _ h=>(by cases h),fun o ho=>by simpa using (E.boxes _ (zGk ho)).2.mono hW,fun _ _ h=>(by cases h),fun _ _ _ _ _ h=>(by cases h)⟩
 have hs':=hs hp
 have hl':=hl hp
 let I:(Nat→Bool)→(Nat→Value)→World→Prop:=fun L vs w=>(L k=true→Fr w0 bs' w)∧(L k=false→(plq C bs ks [] os.length).G w0.heap.size W.heap.size w0 L vs w)
 have hstep:∀ i o',os.toArray[i]?=some o'→∀ L vs w,I L vs w→L i=false→(∀ e∈o'.after,Region.binds .any e=true→L e.on=true)→zDb os.toArray L →
   wpOp Tryz.prog os.toArray Q i (fun a' w'=>∃ v,a'=(lay os.toArray L vs os.toArray.size a).put o'.dst v∧I (up L i true) (up vs i v) w') (lay os.toArray L vs os.toArray.size a) w:=by
  intro i o' ho' L vs w hI hL hd hc
  have hio:os[i]?=some o':=by simpa using ho'
  have hlt:i<os.length:=(List.getElem?_eq_some_iff.1 hio).1
  by_cases hik:i=k
  ·subst hik
   obtain rfl:o=o':=by rw [ho] at hio;exact Option.some.inj hio
   have hG:=hI.2 hL
   refine wpOp_mono ?_ (hl' ho' L vs w (fr_of_G E hG k1 (zWo hn)) hG hd)
   rintro a' w' ⟨v,e,h2⟩
   exact ⟨v,e,fun _=>h2,fun h3=>absurd h3 (by rw [zBx];simp)⟩
  ·have hLk:L k=false:=zFm hc (List.all_eq_true.1 hdep i (List.mem_range.2 zm)) hL
   have hst:=hs'.at i o' zm hio
   rw [Nat.zero_add] at hst
   refine wpOp_mono ?_ (hst ho' L vs w (hI.2 hLk) hL hd hc)
   rintro a' w' ⟨v,e,h2⟩
   exact ⟨v,e,fun h3=>absurd h3 (by rw [zAg _ _ zm,hLk];simp),fun _=>h2⟩
 have hend:∀ L vs w,(∀ j,j<os.toArray.size→L j=true)→I L vs w→Q .normal (lay os.toArray L vs os.toArray.size a) w:=by
  intro L vs w hL hI
  have hL':∀ j,j<os.length→L j=true:=by simpa using hL
  have:=hf L vs w hL' (hI.1 (hL' k zm))
  simpa using this
 cases dr with
 | true=>exact zKw hm (zE5 ha) (zFz hb) I ⟨fun h=>by simp at h,fun _=>h0 W.drew (Below.refl _ _).drew rfl⟩ hstep hend
 | false=>exact zNu (zE5 ha) (zFz hb) I ⟨fun h=>by simp at h,fun _=>h0 W (Below.refl _ _) rfl⟩ hstep hend
variable {i s : Nat} {d : Option Tmp} {ty : TypeId} {ps : String} {af : Array Edge} {gd : Option (Nat × Bool)}
theorem zRl {f:FuncId} {xs:Array Operand} {ts:Array TypeId} {bs bs':List (Nat × Nat × Fq)} (hen:∀ args w,(callFunc f args).run Tryz.prog w=.ok (.enter f args) w) (hg:GdQ os a p B B0 w0 af gd)
  (hr:∀ L vs w,Fr w0 bs w→p.G B B0 w0 L vs w→(∀ e∈af,Region.binds .any e=true→L e.on=true)→∃ args,xs.map (lay os.toArray L vs os.toArray.size a).eval=args∧Calls Tryz.prog f args w fun e w'=>∃ v',e=.returned v'∧Fr w0 bs' w') :
  LastQ os Q a p B B0 w0 bs bs' i { dst:=d,op:=.call { callee:=.value (.func f),args:=xs,argTypes:=ts },type:=ty,pos:=ps,after:=af,guard:=gd }:=by
 intro hio L vs w hE hG hd
 refine wpOp_step hio fun K' hK=>?_
 obtain ⟨args,hx,hC⟩:=hr L vs w hE hG hd
 rw [if_pos (zE2 (o:={ dst:=d,op:=.call { callee:=.value (.func f),args:=xs,argTypes:=ts },type:=ty,pos:=ps,after:=af,guard:=gd }) hg hG hd)]
 have e:(execOp (lay os.toArray L vs os.toArray.size a).eval ({ dst:=d,op:=.call { callee:=.value (.func f),args:=xs,argTypes:=ts },type:=ty,pos:=ps,after:=af,guard:=gd }:Oper)).run Tryz.prog w=(.ok (.enter f args) w):=by
  have hf:(lay os.toArray L vs os.toArray.size a).eval (.func f)=.func (.func f) #[] #[]:=rfl
  generalize (lay os.toArray L vs os.toArray.size a).eval=ρ at hx hf
  simp [execOp,go_sem,hx,hf,hen]
 unfold Oper.wp
 rw [e]
 refine hC.mono ?_
 rintro e' w' ⟨v',rfl,h⟩
 exact hK _ _ ⟨_,rfl,h⟩
theorem zM2 {x:Operand} {f:FuncId} {ts:Array TypeId} {bs bs':List (Nat × Nat × Fq)} {b:Nat} (hen:∀ args w,(callFunc f args).run Tryz.prog w=.ok (.enter f args) w)
  (hx:SrcQ os a p B B0 w0 af x fun v _=>v=.pointer (some ⟨b,0,none⟩)) (hg:GdQ os a p B B0 w0 af gd) (hC:∀ w,Fr w0 bs w→Calls Tryz.prog f #[.pointer (some ⟨b,0,none⟩)] w fun e w'=>∃ v',e=.returned v'∧Fr w0 bs' w') :
  LastQ os Q a p B B0 w0 bs bs' i { dst:=d,op:=.call { callee:=.value (.func f),args:=#[x],argTypes:=ts },type:=ty,pos:=ps,after:=af,guard:=gd }:=
 zRl hen hg fun L vs w hE hG hd=>⟨#[_],by
  have e:(lay os.toArray L vs os.toArray.size a).eval x=.pointer (some ⟨b,0,none⟩):=hx L vs w hG hd
  simp only [List.map_toArray,List.map_cons,List.map_nil,e],hC w hE⟩
theorem zRm {x y:Operand} {G:Value→World→Prop} {f:FuncId} {ts:Array TypeId} {bs bs':List (Nat × Nat × Fq)} {b:Nat} (hen:∀ args w,(callFunc f args).run Tryz.prog w=.ok (.enter f args) w)
  (hx:SrcQ os a p B B0 w0 af x fun v _=>v=.pointer (some ⟨b,0,none⟩)) (hy:SrcQ os a p B B0 w0 af y G) (hg:GdQ os a p B B0 w0 af gd) (hC:∀ v w,Fr w0 bs w→G v w→Calls Tryz.prog f #[.pointer (some ⟨b,0,none⟩),v] w fun e w'=>∃ v',e=.returned v'∧Fr w0 bs' w') :
  LastQ os Q a p B B0 w0 bs bs' i { dst:=d,op:=.call { callee:=.value (.func f),args:=#[x,y],argTypes:=ts },type:=ty,pos:=ps,after:=af,guard:=gd }:=
 zRl hen hg fun L vs w hE hG hd=>⟨#[_,_],by
  have e:(lay os.toArray L vs os.toArray.size a).eval x=.pointer (some ⟨b,0,none⟩):=hx L vs w hG hd
  simp only [List.map_toArray,List.map_cons,List.map_nil,e],hC _ w hE (hy L vs w hG hd)⟩
end
theorem zNi:zDa 146 8=true:=by kernel_rfl
theorem zHz (w:World):Fits w [.n 0,.n 0,.n 0,.n 0] [.bool false,.slice none 0 0,.bool false,.slice none 0 0,.bool false,.slice none 0 0,.bool false,.slice none 0 0]:=⟨_,_,_,rfl,Num.zero w,_,_,_,rfl,Num.zero w,_,_,_,rfl,Num.zero w,_,_,_,rfl,Num.zero w,rfl⟩
theorem zV7 (w:World):(Fq.st [.n 0,.n 0,.n 0,.n 0]).P (.agg ([.bool false,.slice none 0 0,.bool false,.slice none 0 0,.bool false,.slice none 0 0,.bool false,.slice none 0 0]:List Value).toArray) w:=⟨_,rfl,zHz w⟩
theorem zRr {d:Option Tmp} {ty:TypeId} {ps:String} {af:Array Edge} (ρ:Operand→Value) (w:World):(execOp ρ { dst:=d,op:=.alloc 146,type:=ty,pos:=ps,after:=af,guard:=none }).run Tryz.prog w=.ok (.value (.pointer (some ⟨w.heap.size,0,none⟩))) (w.alloc (.cells [.bool false,.slice none 0 0,.bool false,.slice none 0 0,.bool false,.slice none 0 0,.bool false,.slice none 0 0].toArray 146)):=by
 simp [execOp,go_sem]
theorem zX9:zeroB 146 [.bool false,.slice none 0 0,.bool false,.slice none 0 0,.bool false,.slice none 0 0,.bool false,.slice none 0 0]:=by show (Tryz.prog.info? 146).map (·.zero)=some (some (.agg _));kernel_rfl
section
variable {os : List Oper} {Q : Exit → Act → World → Prop} {a : Act} {p : Pq} {B B0 : Nat} {w0 : World}
variable {i s : Nat} {d : Option Tmp} {ty : TypeId} {ps : String} {af : Array Edge} {gd : Option (Nat × Bool)}
theorem zW3 {x0:Operand} {z0_0:Int} {z0_1:Int} {x1:Operand} {z1_0:Int} {z1_1:Int} (hp:p.Ok B B0) (hF:p.Free i) (hg:GdQ os a p B B0 w0 af gd) (h0:SrcQ os a p B B0 w0 af x0 (Fq.st [.n z0_0,.n z0_1]).P) (h1:SrcQ os a p B B0 w0 af x1 (Fq.st [.n z1_0,.n z1_1]).P) (hC:∀ v w,(Fq.st [.n z0_0,.n z0_1,.n z1_0,.n z1_1]).P v w→(p.c i).P v w) :
  zAf os Q a p B B0 w0 i { dst:=d,op:=.build 146 #[(0,x0),(1,x1)],type:=ty,pos:=ps,after:=af,guard:=gd }:=by
 refine zBf hp hF hg fun L vs w hG hL hc hd=>?_
 have g0:=h0 L vs w hG hd
 obtain ⟨_,e0,_,_,_,rfl,a0_n0,_,_,_,rfl,a0_n1,rfl⟩:=g0
 obtain ⟨n0_0,ao0_0,k0_0,c0_0,e0_0⟩:=a0_n0.parts
 have m0_0:=a0_n0
 rw [e0_0] at m0_0
 obtain ⟨n0_1,ao0_1,k0_1,c0_1,e0_1⟩:=a0_n1.parts
 have m0_1:=a0_n1
 rw [e0_1] at m0_1
 injection e0_0 with f0_0
 have f0_0:=congrArg Array.toList f0_0
 simp at f0_0
 obtain ⟨rfl,rfl⟩:=f0_0
 injection e0_1 with f0_1
 have f0_1:=congrArg Array.toList f0_1
 simp at f0_1
 obtain ⟨rfl,rfl⟩:=f0_1
 have g1:=h1 L vs w hG hd
 obtain ⟨_,e1,_,_,_,rfl,a1_n0,_,_,_,rfl,a1_n1,rfl⟩:=g1
 obtain ⟨n1_0,ao1_0,k1_0,c1_0,e1_0⟩:=a1_n0.parts
 have m1_0:=a1_n0
 rw [e1_0] at m1_0
 obtain ⟨n1_1,ao1_1,k1_1,c1_1,e1_1⟩:=a1_n1.parts
 have m1_1:=a1_n1
 rw [e1_1] at m1_1
 injection e1_0 with f1_0
 have f1_0:=congrArg Array.toList f1_0
 simp at f1_0
 obtain ⟨rfl,rfl⟩:=f1_0
 injection e1_1 with f1_1
 have f1_1:=congrArg Array.toList f1_1
 simp at f1_1
 obtain ⟨rfl,rfl⟩:=f1_1
 refine ⟨.agg #[.bool n0_0,.slice ao0_0 k0_0 c0_0,.bool n0_1,.slice ao0_1 k0_1 c0_1,.bool n1_0,.slice ao1_0 k1_0 c1_0,.bool n1_1,.slice ao1_1 k1_1 c1_1],?_,hC _ _ ⟨_,rfl,_,_,_,rfl,m0_0,_,_,_,rfl,m0_1,_,_,_,rfl,m1_0,_,_,_,rfl,m1_1,rfl⟩⟩
 generalize (lay os.toArray L vs os.toArray.size a).eval=ρ at e0 e1
 simp [execOp,go_sem,e0,e1]
theorem zRh {x0:Operand} {z0:Int} {x1:Operand} {z1:Int} (hp:p.Ok B B0) (hF:p.Free i) (hg:GdQ os a p B B0 w0 af gd) (h0:SrcQ os a p B B0 w0 af x0 fun v w=>Num w v z0) (h1:SrcQ os a p B B0 w0 af x1 fun v w=>Num w v z1) (hC:∀ v w,(Fq.st [.n z0,.n z1]).P v w→(p.c i).P v w) :
  zAf os Q a p B B0 w0 i { dst:=d,op:=.build 145 #[(0,x0),(1,x1)],type:=ty,pos:=ps,after:=af,guard:=gd }:=by
 refine zBf hp hF hg fun L vs w hG hL hc hd=>?_
 have g0:=h0 L vs w hG hd
 obtain ⟨n0,ao0,k0,c0,e0⟩:=g0.parts
 have m0:Num w (.agg #[.bool n0,.slice ao0 k0 c0]) z0:=by rw [← e0];exact g0
 have g1:=h1 L vs w hG hd
 obtain ⟨n1,ao1,k1,c1,e1⟩:=g1.parts
 have m1:Num w (.agg #[.bool n1,.slice ao1 k1 c1]) z1:=by rw [← e1];exact g1
 refine ⟨.agg #[.bool n0,.slice ao0 k0 c0,.bool n1,.slice ao1 k1 c1],?_,hC _ _ ⟨_,rfl,_,_,_,rfl,m0,_,_,_,rfl,m1,rfl⟩⟩
 generalize (lay os.toArray L vs os.toArray.size a).eval=ρ at e0 e1
 simp [execOp,go_sem,e0,e1]
end
theorem exPRows {w:World} {v:Value} {x1 x2 x3 x4:Int} (h:(Fq.st [.n x1,.n x2,.n x3,.n x4]).P v w) (hx1:ab x1<pw 60) (hx2:ab x2<pw 60) (hx3:ab x3<pw 60) (hx4:ab x4<pw 60) :
  Rt 154 #[v] w fun v' w'=>(Fq.st [.n x1,.n x2,.n x3,.n x4]).P v' w':=by
 replace hx1:=hidd hx1
 replace hx2:=hidd hx2
 replace hx3:=hidd hx3
 replace hx4:=hidd hx4
 obtain ⟨_,rfl,hf0⟩:=h
 have hF0:=hf0
 obtain ⟨y0_p0,y0_q0,_,rfl,_y0_n0,y0_p1,y0_q1,_,rfl,_y0_n1,y0_p2,y0_q2,_,rfl,_y0_n2,y0_p3,y0_q3,_,rfl,_y0_n3,rfl⟩:=hf0
 obtain ⟨w1,b1,hw1,hb1,hs1,E⟩:=gS w 67 hF0
 obtain ⟨w2,b2,hw2,hb2,hs2,E⟩:=fO E hs1 146 zHz
 go_enter Tryz.func154,Tryz.ntmps154
 go_upto_region 1 with (fail)
 rw [← hw1,← hw2]
 rw [← hb2,← hb1]
 clear hw1 hw2 hb1 hb2 hs2 hs1
 refine rz [.p b1 0,.n x1,.p b1 2,.n x2,.w (Fq.st [.n x1,.n x2]),.p b1 4,.n x3,.p b1 6,.n x4,.w (Fq.st [.n x3,.n x4]),.w (Fq.st [.n x1,.n x2,.n x3,.n x4]),.a] [some (11,Fq.st [.n x1,.n x2,.n x3,.n x4]),none] [] E (fun hp=>⟨qa b1 0 0 hp zw,lN 0 2 hp J1 zAa zi,qa b1 0 2 hp zw,lN 2 2 hp J1 zAa zi,zRh (z0:=x1) (z1:=x2) hp fo tv (sqi 1) (sqi 3) (fun v w h=>h),qa b1 0 4 hp zw,lN 4 2 hp J1 zAa zi,qa b1 0 6 hp zw,lN 6 2 hp J1 zAa zi,zRh (z0:=x3) (z1:=x4) hp fo tv (sqi 6) (sqi 8) (fun v w h=>h),zW3 (z0_0:=x1) (z0_1:=x2) (z1_0:=x3) (z1_1:=x4) hp fo tv (sqi 4) (sqi 9) (fun v w h=>h),sO 0 10 hp J0 zNi zw,tv⟩) ?_
 intro w3 E _ _
 simp only [rzE] at E ⊢
 obtain ⟨_,_,hc0,hf0⟩:=zAv (E.box 0 rfl)
 have hP0:=hf0
 obtain ⟨r0_p0,r0_q0,_,rfl,_r0_n0,r0_p1,r0_q1,_,rfl,_r0_n1,r0_p2,r0_q2,_,rfl,_r0_n2,r0_p3,r0_q3,_,rfl,_r0_n3,rfl⟩:=hf0
 have c0_0:=hc0 0 (by simp)
 have c0_1:=hc0 1 (by simp)
 have c0_2:=hc0 2 (by simp)
 have c0_3:=hc0 3 (by simp)
 have c0_4:=hc0 4 (by simp)
 have c0_5:=hc0 5 (by simp)
 have c0_6:=hc0 6 (by simp)
 have c0_7:=hc0 7 (by simp)
 simp only [List.getD_cons_zero,List.getD_cons_succ] at c0_0 c0_1 c0_2 c0_3 c0_4 c0_5 c0_6 c0_7
 clear hc0
 clear hx1 hx2 hx3 hx4
 go_wp2
 exact zR (v:=.agg #[r0_p0,r0_q0,r0_p1,r0_q1,r0_p2,r0_q2,r0_p3,r0_q3]) (by simp [results,Tryz.results154,go_sem,c0_0,c0_1,c0_2,c0_3,c0_4,c0_5,c0_6,c0_7]) E.below ⟨_,rfl,hP0⟩

theorem zPi {w:World} {v v':Value} {x1 x2 x3 x4 y1 y2 y3 y4:Int} (h:(Fq.st [.n x1,.n x2,.n x3,.n x4]).P v w) (h':(Fq.st [.n y1,.n y2,.n y3,.n y4]).P v' w) (hx1:ab x1<pw 60) (hx2:ab x2<pw 60) (hx3:ab x3<pw 60) (hx4:ab x4<pw 60) (hy1:ab y1<pw 60) (hy2:ab y2<pw 60) (hy3:ab y3<pw 60) (hy4:ab y4<pw 60) :
  Rt 140 #[v,v'] w fun v' w'=>(Fq.st [.n ((x1*y1)+(x2*y3)),.n ((x1*y2)+(x2*y4)),.n ((x3*y1)+(x4*y3)),.n ((x3*y2)+(x4*y4))]).P v' w':=by
 replace hx1:=hidd hx1
 replace hx2:=hidd hx2
 replace hx3:=hidd hx3
 replace hx4:=hidd hx4
 replace hy1:=hidd hy1
 replace hy2:=hidd hy2
 replace hy3:=hidd hy3
 replace hy4:=hidd hy4
 obtain ⟨_,rfl,hf0⟩:=h
 have hF0:=hf0
 obtain ⟨y0_p0,y0_q0,_,rfl,_y0_n0,y0_p1,y0_q1,_,rfl,_y0_n1,y0_p2,y0_q2,_,rfl,_y0_n2,y0_p3,y0_q3,_,rfl,_y0_n3,rfl⟩:=hf0
 obtain ⟨_,rfl,hf1⟩:=h'
 have hF1:=hf1
 obtain ⟨y1_p0,y1_q0,_,rfl,_y1_n0,y1_p1,y1_q1,_,rfl,_y1_n1,y1_p2,y1_q2,_,rfl,_y1_n2,y1_p3,y1_q3,_,rfl,_y1_n3,rfl⟩:=hf1
 obtain ⟨w1,b1,hw1,hb1,hs1,E⟩:=gS w 67 hF0
 obtain ⟨w2,b2,hw2,hb2,hs2,E⟩:=fS E hs1 67 hF1
 obtain ⟨w3,b3,hw3,hb3,hs3,E⟩:=fO E hs2 67 zEo
 go_enter Tryz.func140,Tryz.ntmps140
 go_upto_region 1 with (fail)
 rw [← hw1,← hw2]
 rw [← hw3,← hb3]
 rw [← hb2,← hb1]
 clear hw1 hw2 hw3 hb1 hb2 hb3 hs3 hs1 hs2
 refine rz [.w (Fq.st [.n x1,.n x2,.n x3,.n x4]),.w (Fq.st [.n x1,.n x2,.n x3,.n x4]),.w (Fq.st [.n y1,.n y2,.n y3,.n y4]),.w (Fq.st [.n y1,.n y2,.n y3,.n y4]),.k,.k,.a,.a] N3 [⟨4,6,8,Fq.st [.n 0,.n 0,.n 0,.n 0],Fq.st [.n x1,.n x2,.n x3,.n x4],none⟩,⟨5,7,8,Fq.st [.n 0,.n 0,.n 0,.n 0],Fq.st [.n y1,.n y2,.n y3,.n y4],none⟩] E (fun hp=>⟨lS 0 8 hp J2 zEz zw,zc hp zOx zi fun v w h=>exPRows h (zu hx1.out) (zu hx2.out) (zu hx3.out) (zu hx4.out),lS 0 8 hp J1 zEz zw,zc hp zOx zi fun v w h=>exPRows h (zu hy1.out) (zu hy2.out) (zu hy3.out) (zu hy4.out),aS hp J0 zHz zRr,aS hp J1 zHz zRr,sS 1 hp J0 zNi,sS 3 hp J1 zNi,tv⟩) ?_
 intro w4 b4_4 b4_5 E _ _
 simp only [rzE] at E ⊢
 go_upto_region 2 with (fail)
 refine zXi zX9 ?_
 obtain ⟨w5,b5,hw5,hb5,hs5,E5⟩:=zDm E rfl (F:=Fq.st [.n 0,.n 0,.n 0,.n 0]) (us:=[.bool false,.slice none 0 0,.bool false,.slice none 0 0,.bool false,.slice none 0 0,.bool false,.slice none 0 0]) 146 rfl (by simp) (Fits.tame (zHz w)) (zV7 _)
 rw [← hw5,← hb5]
 clear hw5 hb5 hs5 E
 have E:=E5;try simp only [LM,zAj] at E
 clear E5
 simp only [Act.put,List.setIfInBounds_toArray,List.set_cons_succ,List.set_cons_zero]
 have B6:Hid (ab ((x1*y1))<pw 120):=zAl hx1.out hy1.out zm
 have B7:Hid (ab ((x2*y3))<pw 120):=zAl hx2.out hy3.out zm
 have B8:Hid (ab (((x1*y1)+(x2*y3)))<pw 121):=zBd B6.out B7.out zm zm
 have B9:Hid (ab ((x1*y2))<pw 120):=zAl hx1.out hy2.out zm
 have B10:Hid (ab ((x2*y4))<pw 120):=zAl hx2.out hy4.out zm
 have B11:Hid (ab (((x1*y2)+(x2*y4)))<pw 121):=zBd B9.out B10.out zm zm
 have B12:Hid (ab ((x3*y1))<pw 120):=zAl hx3.out hy1.out zm
 have B13:Hid (ab ((x4*y3))<pw 120):=zAl hx4.out hy3.out zm
 have B14:Hid (ab (((x3*y1)+(x4*y3)))<pw 121):=zBd B12.out B13.out zm zm
 have B15:Hid (ab ((x3*y2))<pw 120):=zAl hx3.out hy2.out zm
 have B16:Hid (ab ((x4*y4))<pw 120):=zAl hx4.out hy4.out zm
 have B17:Hid (ab (((x3*y2)+(x4*y4)))<pw 121):=zBd B15.out B16.out zm zm
 have HE:=hidd E
 clear E
 obtain ⟨W0,rfl⟩:∃ W0,W0=w5:=⟨_,rfl⟩
 go_wp2_with (fail)
 go_loopw [14] (fun vi W=>(vi=.int .i64 0∧Fr w [(b5,8,Fq.st [.n 0,.n 0,.n 0,.n 0]),(b4_4,8,Fq.st [.n x1,.n x2,.n x3,.n x4]),(b4_5,8,Fq.st [.n y1,.n y2,.n y3,.n y4]),(b3,8,Fq.st [.n 0,.n 0,.n 0,.n 0]),(b2,8,Fq.st [.n y1,.n y2,.n y3,.n y4]),(b1,8,Fq.st [.n x1,.n x2,.n x3,.n x4])] W)∨(vi=.int .i64 1∧Fr w [(b5,8,Fq.st [.n ((x1*y1)+(x2*y3)),.n ((x1*y2)+(x2*y4)),.n 0,.n 0]),(b4_4,8,Fq.st [.n x1,.n x2,.n x3,.n x4]),(b4_5,8,Fq.st [.n y1,.n y2,.n y3,.n y4]),(b3,8,Fq.st [.n 0,.n 0,.n 0,.n 0]),(b2,8,Fq.st [.n y1,.n y2,.n y3,.n y4]),(b1,8,Fq.st [.n x1,.n x2,.n x3,.n x4])] W)∨(vi=.int .i64 2∧Fr w [(b5,8,Fq.st [.n ((x1*y1)+(x2*y3)),.n ((x1*y2)+(x2*y4)),.n ((x3*y1)+(x4*y3)),.n ((x3*y2)+(x4*y4))]),(b4_4,8,Fq.st [.n x1,.n x2,.n x3,.n x4]),(b4_5,8,Fq.st [.n y1,.n y2,.n y3,.n y4]),(b3,8,Fq.st [.n 0,.n 0,.n 0,.n 0]),(b2,8,Fq.st [.n y1,.n y2,.n y3,.n y4]),(b1,8,Fq.st [.n x1,.n x2,.n x3,.n x4])] W)) (fun vi _=>(2-intOf vi).toNat)
 case atStart=>exact .inl ⟨rfl,HE.out⟩
 case round=>
  clear HE
  obtain ⟨V2,rfl⟩:∃ V2,V2=wr:=⟨_,rfl⟩
  rcases hrel with ⟨rfl,E⟩ | ⟨rfl,E⟩ | ⟨rfl,E⟩
  ·go_upto_region 4 with (fail)
   refine rz [.t] N6 [] E (fun hp=>⟨zo hp (sqo 14),tv⟩) ?_
   intro w18 E _ _
   simp only [rzE] at E ⊢
   go_upto_region 5 with (fail)
   refine rz [.i 0,.i 0] N6 [] E (fun hp=>⟨zS,zS,tv⟩) ?_
   intro w19 E _ _
   simp only [rzE] at E ⊢
   have HE:=hidd E
   clear E
   obtain ⟨W1,rfl⟩:∃ W1,W1=w19:=⟨_,rfl⟩
   go_wp2_with (fail)
   go_loopw [17] (fun vj W=>(vj=.int .i64 0∧Fr w [(b5,8,Fq.st [.n 0,.n 0,.n 0,.n 0]),(b4_4,8,Fq.st [.n x1,.n x2,.n x3,.n x4]),(b4_5,8,Fq.st [.n y1,.n y2,.n y3,.n y4]),(b3,8,Fq.st [.n 0,.n 0,.n 0,.n 0]),(b2,8,Fq.st [.n y1,.n y2,.n y3,.n y4]),(b1,8,Fq.st [.n x1,.n x2,.n x3,.n x4])] W)∨(vj=.int .i64 1∧Fr w [(b5,8,Fq.st [.n ((x1*y1)+(x2*y3)),.n 0,.n 0,.n 0]),(b4_4,8,Fq.st [.n x1,.n x2,.n x3,.n x4]),(b4_5,8,Fq.st [.n y1,.n y2,.n y3,.n y4]),(b3,8,Fq.st [.n 0,.n 0,.n 0,.n 0]),(b2,8,Fq.st [.n y1,.n y2,.n y3,.n y4]),(b1,8,Fq.st [.n x1,.n x2,.n x3,.n x4])] W)∨(vj=.int .i64 2∧Fr w [(b5,8,Fq.st [.n ((x1*y1)+(x2*y3)),.n ((x1*y2)+(x2*y4)),.n 0,.n 0]),(b4_4,8,Fq.st [.n x1,.n x2,.n x3,.n x4]),(b4_5,8,Fq.st [.n y1,.n y2,.n y3,.n y4]),(b3,8,Fq.st [.n 0,.n 0,.n 0,.n 0]),(b2,8,Fq.st [.n y1,.n y2,.n y3,.n y4]),(b1,8,Fq.st [.n x1,.n x2,.n x3,.n x4])] W)) (fun vj _=>(2-intOf vj).toNat)
   case atStart=>exact .inl ⟨rfl,HE.out⟩
   case round=>
    clear HE
    obtain ⟨V3,rfl⟩:∃ V3,V3=wr:=⟨_,rfl⟩
    rcases hrel with ⟨rfl,E⟩ | ⟨rfl,E⟩ | ⟨rfl,E⟩
    ·go_upto_region 7 with (fail)
     refine rz [.t] N6 [] E (fun hp=>⟨zo hp (sqo 17),tv⟩) ?_
     intro w20 E _ _
     simp only [rzE] at E ⊢
     go_upto_region 8 with (fail)
     refine rz [.i 0,.i 0] N6 [] E (fun hp=>⟨zS,zS,tv⟩) ?_
     intro w21 E _ _
     simp only [rzE] at E ⊢
     go_upto_region 9 with (fail)
     refine rz [.i 0,.i 0,.i 0,.p b4_4 0,.p b4_4 0,.n x1,.i 0,.p b4_5 0,.p b4_5 0,.n y1,.n (x1*y1),.i 0,.p b4_4 0,.p b4_4 2,.n x2,.i 0,.p b4_5 4,.p b4_5 4,.n y3,.n (x2*y3),.n ((x1*y1)+(x2*y3)),.p b5 0,.p b5 0,.a] [some (23,Fq.st [.n ((x1*y1)+(x2*y3)),.n 0,.n 0,.n 0]),none,none,none,none,none] [] E (fun hp=>⟨zS,zS,zS,zAs (F:=fun v _=>v=.pointer (some ⟨b4_4,0,none⟩)) (G:=fun v _=>v=.int .i64 0) hp fo tv (sqo 5) (sqi 2) (fun ρ w hc h h'=>⟨.pointer (some ⟨b4_4,0,none⟩),by simp [execOp,go_sem,h,h'],rfl⟩),zAu (F:=fun v _=>v=.pointer (some ⟨b4_4,0,none⟩)) hp fo tv (sqi 3) (fun ρ w hc h=>⟨.pointer (some ⟨b4_4,0,none⟩),by simp [execOp,go_sem,h,hc],rfl⟩),lN 0 2 hp J1 zAa zi,zS,zAu (F:=fun v _=>v=.pointer (some ⟨b4_5,0,none⟩)) hp fo tv (sqo 6) (fun ρ w hc h=>⟨.pointer (some ⟨b4_5,0,none⟩),by simp [execOp,go_sem,h,hc],rfl⟩),zAs (F:=fun v _=>v=.pointer (some ⟨b4_5,0,none⟩)) (G:=fun v _=>v=.int .i64 0) hp fo tv (sqi 7) (sqi 6) (fun ρ w hc h h'=>⟨.pointer (some ⟨b4_5,0,none⟩),by simp [execOp,go_sem,h,h'],rfl⟩),lN 0 2 hp J2 zAa zi,zC hp zBe zi zi fun v v' w h h'=>exK (MulV h h') B6.out zm,zS,zAs (F:=fun v _=>v=.pointer (some ⟨b4_4,0,none⟩)) (G:=fun v _=>v=.int .i64 0) hp fo tv (sqo 5) (sqi 11) (fun ρ w hc h h'=>⟨.pointer (some ⟨b4_4,0,none⟩),by simp [execOp,go_sem,h,h'],rfl⟩),zAu (F:=fun v _=>v=.pointer (some ⟨b4_4,0,none⟩)) hp fo tv (sqi 12) (fun ρ w hc h=>⟨.pointer (some ⟨b4_4,2,none⟩),by simp [execOp,go_sem,h,hc],rfl⟩),lN 2 2 hp J1 zAa zi,zS,zAu (F:=fun v _=>v=.pointer (some ⟨b4_5,0,none⟩)) hp fo tv (sqo 6) (fun ρ w hc h=>⟨.pointer (some ⟨b4_5,4,none⟩),by simp [execOp,go_sem,h,hc],rfl⟩),zAs (F:=fun v _=>v=.pointer (some ⟨b4_5,4,none⟩)) (G:=fun v _=>v=.int .i64 0) hp fo tv (sqi 16) (sqi 15) (fun ρ w hc h h'=>⟨.pointer (some ⟨b4_5,4,none⟩),by simp [execOp,go_sem,h,h'],rfl⟩),lN 4 2 hp J2 zAa zi,zC hp zBe zi zi fun v v' w h h'=>exK (MulV h h') B7.out zm,zC hp zDe zi zi fun v v' w h h'=>exK (AddV h h') B8.out zm,zAs (F:=fun v _=>v=.pointer (some ⟨b5,0,none⟩)) (G:=fun v _=>v=.int .i64 0) hp fo tv (sqo 7) (sqi 0) (fun ρ w hc h h'=>⟨.pointer (some ⟨b5,0,none⟩),by simp [execOp,go_sem,h,h'],rfl⟩),zAs (F:=fun v _=>v=.pointer (some ⟨b5,0,none⟩)) (G:=fun v _=>v=.int .i64 0) hp fo tv (sqi 21) (sqi 1) (fun ρ w hc h h'=>⟨.pointer (some ⟨b5,0,none⟩),by simp [execOp,go_sem,h,h'],rfl⟩),zEw (off:=0) (fs:=[.n 0,.n 0,.n 0,.n 0]) (gs:=[.n ((x1*y1)+(x2*y3))]) (fs':=[.n ((x1*y1)+(x2*y3)),.n 0,.n 0,.n 0]) hp J0 rfl rfl rfl zIm rfl (sqi 22) (zA9 20 rfl rfl (by simp) rfl (fun v w h=>zH0 h)) (fun _ _=>trivial) (zBj rfl),tv⟩) ?_
     intro w22 E _ _
     simp only [rzE] at E ⊢
     clear B6 B7 B8 B9 B10 B11 B12 B13 B14 B15 B16 B17 hx1 hx2 hx3 hx4 hy1 hy2 hy3 hy4
     go_wp2
     go_roundw
     case rel=>exact .inr (.inl ⟨by first | rfl | go_num,E⟩)
     case measure=>first | (simp [intOf];omega) | simp [intOf] | decide
    ·go_upto_region 7 with (fail)
     refine rz [.t] N6 [] E (fun hp=>⟨zo hp (sqo 17),tv⟩) ?_
     intro w23 E _ _
     simp only [rzE] at E ⊢
     go_upto_region 8 with (fail)
     refine rz [.i 1,.i 1] N6 [] E (fun hp=>⟨zS,zS,tv⟩) ?_
     intro w24 E _ _
     simp only [rzE] at E ⊢
     go_upto_region 9 with (fail)
     refine rz [.i 0,.i 1,.i 0,.p b4_4 0,.p b4_4 0,.n x1,.i 1,.p b4_5 0,.p b4_5 2,.n y2,.n (x1*y2),.i 0,.p b4_4 0,.p b4_4 2,.n x2,.i 1,.p b4_5 4,.p b4_5 6,.n y4,.n (x2*y4),.n ((x1*y2)+(x2*y4)),.p b5 0,.p b5 2,.a] [some (23,Fq.st [.n ((x1*y1)+(x2*y3)),.n ((x1*y2)+(x2*y4)),.n 0,.n 0]),none,none,none,none,none] [] E (fun hp=>⟨zS,zS,zS,zAs (F:=fun v _=>v=.pointer (some ⟨b4_4,0,none⟩)) (G:=fun v _=>v=.int .i64 0) hp fo tv (sqo 5) (sqi 2) (fun ρ w hc h h'=>⟨.pointer (some ⟨b4_4,0,none⟩),by simp [execOp,go_sem,h,h'],rfl⟩),zAu (F:=fun v _=>v=.pointer (some ⟨b4_4,0,none⟩)) hp fo tv (sqi 3) (fun ρ w hc h=>⟨.pointer (some ⟨b4_4,0,none⟩),by simp [execOp,go_sem,h,hc],rfl⟩),lN 0 2 hp J1 zAa zi,zS,zAu (F:=fun v _=>v=.pointer (some ⟨b4_5,0,none⟩)) hp fo tv (sqo 6) (fun ρ w hc h=>⟨.pointer (some ⟨b4_5,0,none⟩),by simp [execOp,go_sem,h,hc],rfl⟩),zAs (F:=fun v _=>v=.pointer (some ⟨b4_5,0,none⟩)) (G:=fun v _=>v=.int .i64 1) hp fo tv (sqi 7) (sqi 6) (fun ρ w hc h h'=>⟨.pointer (some ⟨b4_5,2,none⟩),by simp [execOp,go_sem,h,h'],rfl⟩),lN 2 2 hp J2 zAa zi,zC hp zBe zi zi fun v v' w h h'=>exK (MulV h h') B9.out zm,zS,zAs (F:=fun v _=>v=.pointer (some ⟨b4_4,0,none⟩)) (G:=fun v _=>v=.int .i64 0) hp fo tv (sqo 5) (sqi 11) (fun ρ w hc h h'=>⟨.pointer (some ⟨b4_4,0,none⟩),by simp [execOp,go_sem,h,h'],rfl⟩),zAu (F:=fun v _=>v=.pointer (some ⟨b4_4,0,none⟩)) hp fo tv (sqi 12) (fun ρ w hc h=>⟨.pointer (some ⟨b4_4,2,none⟩),by simp [execOp,go_sem,h,hc],rfl⟩),lN 2 2 hp J1 zAa zi,zS,zAu (F:=fun v _=>v=.pointer (some ⟨b4_5,0,none⟩)) hp fo tv (sqo 6) (fun ρ w hc h=>⟨.pointer (some ⟨b4_5,4,none⟩),by simp [execOp,go_sem,h,hc],rfl⟩),zAs (F:=fun v _=>v=.pointer (some ⟨b4_5,4,none⟩)) (G:=fun v _=>v=.int .i64 1) hp fo tv (sqi 16) (sqi 15) (fun ρ w hc h h'=>⟨.pointer (some ⟨b4_5,6,none⟩),by simp [execOp,go_sem,h,h'],rfl⟩),lN 6 2 hp J2 zAa zi,zC hp zBe zi zi fun v v' w h h'=>exK (MulV h h') B10.out zm,zC hp zDe zi zi fun v v' w h h'=>exK (AddV h h') B11.out zm,zAs (F:=fun v _=>v=.pointer (some ⟨b5,0,none⟩)) (G:=fun v _=>v=.int .i64 0) hp fo tv (sqo 7) (sqi 0) (fun ρ w hc h h'=>⟨.pointer (some ⟨b5,0,none⟩),by simp [execOp,go_sem,h,h'],rfl⟩),zAs (F:=fun v _=>v=.pointer (some ⟨b5,0,none⟩)) (G:=fun v _=>v=.int .i64 1) hp fo tv (sqi 21) (sqi 1) (fun ρ w hc h h'=>⟨.pointer (some ⟨b5,2,none⟩),by simp [execOp,go_sem,h,h'],rfl⟩),zEw (off:=2) (fs:=[.n ((x1*y1)+(x2*y3)),.n 0,.n 0,.n 0]) (gs:=[.n ((x1*y2)+(x2*y4))]) (fs':=[.n ((x1*y1)+(x2*y3)),.n ((x1*y2)+(x2*y4)),.n 0,.n 0]) hp J0 rfl rfl rfl zIm rfl (sqi 22) (zA9 20 rfl rfl (by simp) rfl (fun v w h=>zH0 h)) (fun _ _=>trivial) (zBj rfl),tv⟩) ?_
     intro w25 E _ _
     simp only [rzE] at E ⊢
     clear B6 B7 B8 B9 B10 B11 B12 B13 B14 B15 B16 B17 hx1 hx2 hx3 hx4 hy1 hy2 hy3 hy4
     go_wp2
     go_roundw
     case rel=>exact .inr (.inr ⟨by first | rfl | go_num,E⟩)
     case measure=>first | (simp [intOf];omega) | simp [intOf] | decide
    ·clear B6 B7 B8 B9 B10 B11 B12 B13 B14 B15 B16 B17 hx1 hx2 hx3 hx4 hy1 hy2 hy3 hy4
     go_wp2
     go_roundw
     case rel=>exact .inr (.inl ⟨by first | rfl | go_num,E⟩)
     case measure=>first | (simp [intOf];omega) | simp [intOf] | decide
  ·go_upto_region 4 with (fail)
   refine rz [.t] N6 [] E (fun hp=>⟨zo hp (sqo 14),tv⟩) ?_
   intro w26 E _ _
   simp only [rzE] at E ⊢
   go_upto_region 5 with (fail)
   refine rz [.i 1,.i 1] N6 [] E (fun hp=>⟨zS,zS,tv⟩) ?_
   intro w27 E _ _
   simp only [rzE] at E ⊢
   have HE:=hidd E
   clear E
   obtain ⟨W1,rfl⟩:∃ W1,W1=w27:=⟨_,rfl⟩
   go_wp2_with (fail)
   go_loopw [17] (fun vj W=>(vj=.int .i64 0∧Fr w [(b5,8,Fq.st [.n ((x1*y1)+(x2*y3)),.n ((x1*y2)+(x2*y4)),.n 0,.n 0]),(b4_4,8,Fq.st [.n x1,.n x2,.n x3,.n x4]),(b4_5,8,Fq.st [.n y1,.n y2,.n y3,.n y4]),(b3,8,Fq.st [.n 0,.n 0,.n 0,.n 0]),(b2,8,Fq.st [.n y1,.n y2,.n y3,.n y4]),(b1,8,Fq.st [.n x1,.n x2,.n x3,.n x4])] W)∨(vj=.int .i64 1∧Fr w [(b5,8,Fq.st [.n ((x1*y1)+(x2*y3)),.n ((x1*y2)+(x2*y4)),.n ((x3*y1)+(x4*y3)),.n 0]),(b4_4,8,Fq.st [.n x1,.n x2,.n x3,.n x4]),(b4_5,8,Fq.st [.n y1,.n y2,.n y3,.n y4]),(b3,8,Fq.st [.n 0,.n 0,.n 0,.n 0]),(b2,8,Fq.st [.n y1,.n y2,.n y3,.n y4]),(b1,8,Fq.st [.n x1,.n x2,.n x3,.n x4])] W)∨(vj=.int .i64 2∧Fr w [(b5,8,Fq.st [.n ((x1*y1)+(x2*y3)),.n ((x1*y2)+(x2*y4)),.n ((x3*y1)+(x4*y3)),.n ((x3*y2)+(x4*y4))]),(b4_4,8,Fq.st [.n x1,.n x2,.n x3,.n x4]),(b4_5,8,Fq.st [.n y1,.n y2,.n y3,.n y4]),(b3,8,Fq.st [.n 0,.n 0,.n 0,.n 0]),(b2,8,Fq.st [.n y1,.n y2,.n y3,.n y4]),(b1,8,Fq.st [.n x1,.n x2,.n x3,.n x4])] W)) (fun vj _=>(2-intOf vj).toNat)
   case atStart=>exact .inl ⟨rfl,HE.out⟩
   case round=>
    clear HE
    obtain ⟨V3,rfl⟩:∃ V3,V3=wr:=⟨_,rfl⟩
    rcases hrel with ⟨rfl,E⟩ | ⟨rfl,E⟩ | ⟨rfl,E⟩
    ·go_upto_region 7 with (fail)
     refine rz [.t] N6 [] E (fun hp=>⟨zo hp (sqo 17),tv⟩) ?_
     intro w28 E _ _
     simp only [rzE] at E ⊢
     go_upto_region 8 with (fail)
     refine rz [.i 0,.i 0] N6 [] E (fun hp=>⟨zS,zS,tv⟩) ?_
     intro w29 E _ _
     simp only [rzE] at E ⊢
     go_upto_region 9 with (fail)
     refine rz [.i 1,.i 0,.i 1,.p b4_4 4,.p b4_4 4,.n x3,.i 0,.p b4_5 0,.p b4_5 0,.n y1,.n (x3*y1),.i 1,.p b4_4 4,.p b4_4 6,.n x4,.i 0,.p b4_5 4,.p b4_5 4,.n y3,.n (x4*y3),.n ((x3*y1)+(x4*y3)),.p b5 4,.p b5 4,.a] [some (23,Fq.st [.n ((x1*y1)+(x2*y3)),.n ((x1*y2)+(x2*y4)),.n ((x3*y1)+(x4*y3)),.n 0]),none,none,none,none,none] [] E (fun hp=>⟨zS,zS,zS,zAs (F:=fun v _=>v=.pointer (some ⟨b4_4,0,none⟩)) (G:=fun v _=>v=.int .i64 1) hp fo tv (sqo 5) (sqi 2) (fun ρ w hc h h'=>⟨.pointer (some ⟨b4_4,4,none⟩),by simp [execOp,go_sem,h,h'],rfl⟩),zAu (F:=fun v _=>v=.pointer (some ⟨b4_4,4,none⟩)) hp fo tv (sqi 3) (fun ρ w hc h=>⟨.pointer (some ⟨b4_4,4,none⟩),by simp [execOp,go_sem,h,hc],rfl⟩),lN 4 2 hp J1 zAa zi,zS,zAu (F:=fun v _=>v=.pointer (some ⟨b4_5,0,none⟩)) hp fo tv (sqo 6) (fun ρ w hc h=>⟨.pointer (some ⟨b4_5,0,none⟩),by simp [execOp,go_sem,h,hc],rfl⟩),zAs (F:=fun v _=>v=.pointer (some ⟨b4_5,0,none⟩)) (G:=fun v _=>v=.int .i64 0) hp fo tv (sqi 7) (sqi 6) (fun ρ w hc h h'=>⟨.pointer (some ⟨b4_5,0,none⟩),by simp [execOp,go_sem,h,h'],rfl⟩),lN 0 2 hp J2 zAa zi,zC hp zBe zi zi fun v v' w h h'=>exK (MulV h h') B12.out zm,zS,zAs (F:=fun v _=>v=.pointer (some ⟨b4_4,0,none⟩)) (G:=fun v _=>v=.int .i64 1) hp fo tv (sqo 5) (sqi 11) (fun ρ w hc h h'=>⟨.pointer (some ⟨b4_4,4,none⟩),by simp [execOp,go_sem,h,h'],rfl⟩),zAu (F:=fun v _=>v=.pointer (some ⟨b4_4,4,none⟩)) hp fo tv (sqi 12) (fun ρ w hc h=>⟨.pointer (some ⟨b4_4,6,none⟩),by simp [execOp,go_sem,h,hc],rfl⟩),lN 6 2 hp J1 zAa zi,zS,zAu (F:=fun v _=>v=.pointer (some ⟨b4_5,0,none⟩)) hp fo tv (sqo 6) (fun ρ w hc h=>⟨.pointer (some ⟨b4_5,4,none⟩),by simp [execOp,go_sem,h,hc],rfl⟩),zAs (F:=fun v _=>v=.pointer (some ⟨b4_5,4,none⟩)) (G:=fun v _=>v=.int .i64 0) hp fo tv (sqi 16) (sqi 15) (fun ρ w hc h h'=>⟨.pointer (some ⟨b4_5,4,none⟩),by simp [execOp,go_sem,h,h'],rfl⟩),lN 4 2 hp J2 zAa zi,zC hp zBe zi zi fun v v' w h h'=>exK (MulV h h') B13.out zm,zC hp zDe zi zi fun v v' w h h'=>exK (AddV h h') B14.out zm,zAs (F:=fun v _=>v=.pointer (some ⟨b5,0,none⟩)) (G:=fun v _=>v=.int .i64 1) hp fo tv (sqo 7) (sqi 0) (fun ρ w hc h h'=>⟨.pointer (some ⟨b5,4,none⟩),by simp [execOp,go_sem,h,h'],rfl⟩),zAs (F:=fun v _=>v=.pointer (some ⟨b5,4,none⟩)) (G:=fun v _=>v=.int .i64 0) hp fo tv (sqi 21) (sqi 1) (fun ρ w hc h h'=>⟨.pointer (some ⟨b5,4,none⟩),by simp [execOp,go_sem,h,h'],rfl⟩),zEw (off:=4) (fs:=[.n ((x1*y1)+(x2*y3)),.n ((x1*y2)+(x2*y4)),.n 0,.n 0]) (gs:=[.n ((x3*y1)+(x4*y3))]) (fs':=[.n ((x1*y1)+(x2*y3)),.n ((x1*y2)+(x2*y4)),.n ((x3*y1)+(x4*y3)),.n 0]) hp J0 rfl rfl rfl zIm rfl (sqi 22) (zA9 20 rfl rfl (by simp) rfl (fun v w h=>zH0 h)) (fun _ _=>trivial) (zBj rfl),tv⟩) ?_
     intro w30 E _ _
     simp only [rzE] at E ⊢
     clear B6 B7 B8 B9 B10 B11 B12 B13 B14 B15 B16 B17 hx1 hx2 hx3 hx4 hy1 hy2 hy3 hy4
     go_wp2
     go_roundw
     case rel=>exact .inr (.inl ⟨by first | rfl | go_num,E⟩)
     case measure=>first | (simp [intOf];omega) | simp [intOf] | decide
    ·go_upto_region 7 with (fail)
     refine rz [.t] N6 [] E (fun hp=>⟨zo hp (sqo 17),tv⟩) ?_
     intro w31 E _ _
     simp only [rzE] at E ⊢
     go_upto_region 8 with (fail)
     refine rz [.i 1,.i 1] N6 [] E (fun hp=>⟨zS,zS,tv⟩) ?_
     intro w32 E _ _
     simp only [rzE] at E ⊢
     go_upto_region 9 with (fail)
     refine rz [.i 1,.i 1,.i 1,.p b4_4 4,.p b4_4 4,.n x3,.i 1,.p b4_5 0,.p b4_5 2,.n y2,.n (x3*y2),.i 1,.p b4_4 4,.p b4_4 6,.n x4,.i 1,.p b4_5 4,.p b4_5 6,.n y4,.n (x4*y4),.n ((x3*y2)+(x4*y4)),.p b5 4,.p b5 6,.a] [some (23,Fq.st [.n ((x1*y1)+(x2*y3)),.n ((x1*y2)+(x2*y4)),.n ((x3*y1)+(x4*y3)),.n ((x3*y2)+(x4*y4))]),none,none,none,none,none] [] E (fun hp=>⟨zS,zS,zS,zAs (F:=fun v _=>v=.pointer (some ⟨b4_4,0,none⟩)) (G:=fun v _=>v=.int .i64 1) hp fo tv (sqo 5) (sqi 2) (fun ρ w hc h h'=>⟨.pointer (some ⟨b4_4,4,none⟩),by simp [execOp,go_sem,h,h'],rfl⟩),zAu (F:=fun v _=>v=.pointer (some ⟨b4_4,4,none⟩)) hp fo tv (sqi 3) (fun ρ w hc h=>⟨.pointer (some ⟨b4_4,4,none⟩),by simp [execOp,go_sem,h,hc],rfl⟩),lN 4 2 hp J1 zAa zi,zS,zAu (F:=fun v _=>v=.pointer (some ⟨b4_5,0,none⟩)) hp fo tv (sqo 6) (fun ρ w hc h=>⟨.pointer (some ⟨b4_5,0,none⟩),by simp [execOp,go_sem,h,hc],rfl⟩),zAs (F:=fun v _=>v=.pointer (some ⟨b4_5,0,none⟩)) (G:=fun v _=>v=.int .i64 1) hp fo tv (sqi 7) (sqi 6) (fun ρ w hc h h'=>⟨.pointer (some ⟨b4_5,2,none⟩),by simp [execOp,go_sem,h,h'],rfl⟩),lN 2 2 hp J2 zAa zi,zC hp zBe zi zi fun v v' w h h'=>exK (MulV h h') B15.out zm,zS,zAs (F:=fun v _=>v=.pointer (some ⟨b4_4,0,none⟩)) (G:=fun v _=>v=.int .i64 1) hp fo tv (sqo 5) (sqi 11) (fun ρ w hc h h'=>⟨.pointer (some ⟨b4_4,4,none⟩),by simp [execOp,go_sem,h,h'],rfl⟩),zAu (F:=fun v _=>v=.pointer (some ⟨b4_4,4,none⟩)) hp fo tv (sqi 12) (fun ρ w hc h=>⟨.pointer (some ⟨b4_4,6,none⟩),by simp [execOp,go_sem,h,hc],rfl⟩),lN 6 2 hp J1 zAa zi,zS,zAu (F:=fun v _=>v=.pointer (some ⟨b4_5,0,none⟩)) hp fo tv (sqo 6) (fun ρ w hc h=>⟨.pointer (some ⟨b4_5,4,none⟩),by simp [execOp,go_sem,h,hc],rfl⟩),zAs (F:=fun v _=>v=.pointer (some ⟨b4_5,4,none⟩)) (G:=fun v _=>v=.int .i64 1) hp fo tv (sqi 16) (sqi 15) (fun ρ w hc h h'=>⟨.pointer (some ⟨b4_5,6,none⟩),by simp [execOp,go_sem,h,h'],rfl⟩),lN 6 2 hp J2 zAa zi,zC hp zBe zi zi fun v v' w h h'=>exK (MulV h h') B16.out zm,zC hp zDe zi zi fun v v' w h h'=>exK (AddV h h') B17.out zm,zAs (F:=fun v _=>v=.pointer (some ⟨b5,0,none⟩)) (G:=fun v _=>v=.int .i64 1) hp fo tv (sqo 7) (sqi 0) (fun ρ w hc h h'=>⟨.pointer (some ⟨b5,4,none⟩),by simp [execOp,go_sem,h,h'],rfl⟩),zAs (F:=fun v _=>v=.pointer (some ⟨b5,4,none⟩)) (G:=fun v _=>v=.int .i64 1) hp fo tv (sqi 21) (sqi 1) (fun ρ w hc h h'=>⟨.pointer (some ⟨b5,6,none⟩),by simp [execOp,go_sem,h,h'],rfl⟩),zEw (off:=6) (fs:=[.n ((x1*y1)+(x2*y3)),.n ((x1*y2)+(x2*y4)),.n ((x3*y1)+(x4*y3)),.n 0]) (gs:=[.n ((x3*y2)+(x4*y4))]) (fs':=[.n ((x1*y1)+(x2*y3)),.n ((x1*y2)+(x2*y4)),.n ((x3*y1)+(x4*y3)),.n ((x3*y2)+(x4*y4))]) hp J0 rfl rfl rfl zIm rfl (sqi 22) (zA9 20 rfl rfl (by simp) rfl (fun v w h=>zH0 h)) (fun _ _=>trivial) (zBj rfl),tv⟩) ?_
     intro w33 E _ _
     simp only [rzE] at E ⊢
     clear B6 B7 B8 B9 B10 B11 B12 B13 B14 B15 B16 B17 hx1 hx2 hx3 hx4 hy1 hy2 hy3 hy4
     go_wp2
     go_roundw
     case rel=>exact .inr (.inr ⟨by first | rfl | go_num,E⟩)
     case measure=>first | (simp [intOf];omega) | simp [intOf] | decide
    ·clear B6 B7 B8 B9 B10 B11 B12 B13 B14 B15 B16 B17 hx1 hx2 hx3 hx4 hy1 hy2 hy3 hy4
     go_wp2
     go_roundw
     case rel=>exact .inr (.inr ⟨by first | rfl | go_num,E⟩)
     case measure=>first | (simp [intOf];omega) | simp [intOf] | decide
  ·go_upto_region 4 with (fail)
   refine rz [.o] N6 [] E (fun hp=>⟨zo hp (sqo 14),tv⟩) ?_
   intro w34 E _ _
   simp only [rzE] at E ⊢
   go_upto_region 12 with (fail)
   refine rz [.p b5 0,.p b5 0,.n ((x1*y1)+(x2*y3)),.p b5 0,.p b5 2,.n ((x1*y2)+(x2*y4)),.p b5 4,.p b5 4,.n ((x3*y1)+(x4*y3)),.p b5 4,.p b5 6,.n ((x3*y2)+(x4*y4)),.w (Fq.st [.n ((x1*y1)+(x2*y3)),.n ((x1*y2)+(x2*y4)),.n ((x3*y1)+(x4*y3)),.n ((x3*y2)+(x4*y4))]),.a] [none,none,none,some (13,Fq.st [.n ((x1*y1)+(x2*y3)),.n ((x1*y2)+(x2*y4)),.n ((x3*y1)+(x4*y3)),.n ((x3*y2)+(x4*y4))]),none,none] [] E (fun hp=>⟨zAu (F:=fun v _=>v=.pointer (some ⟨b5,0,none⟩)) hp fo tv (sqo 7) (fun ρ w hc h=>⟨.pointer (some ⟨b5,0,none⟩),by simp [execOp,go_sem,h,hc],rfl⟩),zAu (F:=fun v _=>v=.pointer (some ⟨b5,0,none⟩)) hp fo tv (sqi 0) (fun ρ w hc h=>⟨.pointer (some ⟨b5,0,none⟩),by simp [execOp,go_sem,h,hc],rfl⟩),lN 0 2 hp J0 zAa zi,zAu (F:=fun v _=>v=.pointer (some ⟨b5,0,none⟩)) hp fo tv (sqo 7) (fun ρ w hc h=>⟨.pointer (some ⟨b5,0,none⟩),by simp [execOp,go_sem,h,hc],rfl⟩),zAu (F:=fun v _=>v=.pointer (some ⟨b5,0,none⟩)) hp fo tv (sqi 3) (fun ρ w hc h=>⟨.pointer (some ⟨b5,2,none⟩),by simp [execOp,go_sem,h,hc],rfl⟩),lN 2 2 hp J0 zAa zi,zAu (F:=fun v _=>v=.pointer (some ⟨b5,0,none⟩)) hp fo tv (sqo 7) (fun ρ w hc h=>⟨.pointer (some ⟨b5,4,none⟩),by simp [execOp,go_sem,h,hc],rfl⟩),zAu (F:=fun v _=>v=.pointer (some ⟨b5,4,none⟩)) hp fo tv (sqi 6) (fun ρ w hc h=>⟨.pointer (some ⟨b5,4,none⟩),by simp [execOp,go_sem,h,hc],rfl⟩),lN 4 2 hp J0 zAa zi,zAu (F:=fun v _=>v=.pointer (some ⟨b5,0,none⟩)) hp fo tv (sqo 7) (fun ρ w hc h=>⟨.pointer (some ⟨b5,4,none⟩),by simp [execOp,go_sem,h,hc],rfl⟩),zAu (F:=fun v _=>v=.pointer (some ⟨b5,4,none⟩)) hp fo tv (sqi 9) (fun ρ w hc h=>⟨.pointer (some ⟨b5,6,none⟩),by simp [execOp,go_sem,h,hc],rfl⟩),lN 6 2 hp J0 zAa zi,zM0 (z0:=((x1*y1)+(x2*y3))) (z1:=((x1*y2)+(x2*y4))) (z2:=((x3*y1)+(x4*y3))) (z3:=((x3*y2)+(x4*y4))) hp fo tv (sqi 2) (sqi 5) (sqi 8) (sqi 11) (fun v w h=>h),sO 0 12 hp J3 zEh zw,tv⟩) ?_
   intro w35 E _ _
   simp only [rzE] at E ⊢
   obtain ⟨_,_,hc0,hf0⟩:=zAv (E.box 3 rfl)
   have hP0:=hf0
   obtain ⟨r0_p0,r0_q0,_,rfl,_r0_n0,r0_p1,r0_q1,_,rfl,_r0_n1,r0_p2,r0_q2,_,rfl,_r0_n2,r0_p3,r0_q3,_,rfl,_r0_n3,rfl⟩:=hf0
   have c0_0:=hc0 0 (by simp)
   have c0_1:=hc0 1 (by simp)
   have c0_2:=hc0 2 (by simp)
   have c0_3:=hc0 3 (by simp)
   have c0_4:=hc0 4 (by simp)
   have c0_5:=hc0 5 (by simp)
   have c0_6:=hc0 6 (by simp)
   have c0_7:=hc0 7 (by simp)
   simp only [List.getD_cons_zero,List.getD_cons_succ] at c0_0 c0_1 c0_2 c0_3 c0_4 c0_5 c0_6 c0_7
   clear hc0
   clear B6 B7 B8 B9 B10 B11 B12 B13 B14 B15 B16 B17 hx1 hx2 hx3 hx4 hy1 hy2 hy3 hy4
   go_wp2
   exact zR (v:=.agg #[r0_p0,r0_q0,r0_p1,r0_q1,r0_p2,r0_q2,r0_p3,r0_q3]) (by simp [results,Tryz.results140,go_sem,c0_0,c0_1,c0_2,c0_3,c0_4,c0_5,c0_6,c0_7]) E.below ⟨_,rfl,hP0⟩

end Go.Proofs.YtjadciofpgjofaaGreatDoor
