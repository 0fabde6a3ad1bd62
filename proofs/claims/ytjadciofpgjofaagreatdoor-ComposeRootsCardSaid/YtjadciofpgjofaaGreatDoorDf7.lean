/- Hi, Hj, Hk, Hl, Oa, Ob, Oc, Hm, Ul, Uo, Ux, Hn, Ho. -/
import Derived.Test.YtjadciofpgjofaaGreatDoorDf6
import Derived.WalkMore
import Derived.Lib.LazyBuf
import Derived.Deep.AppendSrc
set_option linter.unusedSimpArgs false
set_option linter.unusedVariables false
set_option maxRecDepth 100000
set_option maxHeartbeats 8000000
namespace Go.Proofs.YtjadciofpgjofaaGreatDoor
open Go Go.RowKit

theorem zTs:En 53:=zAd Tryz.func53 (by kernel_rfl) rfl
theorem zTt:En 54:=zAd Tryz.func54 (by kernel_rfl) rfl
theorem zOn:En 18:=zAd Tryz.func18 (by kernel_rfl) rfl
theorem zTu:En 93:=zAd Tryz.func93 (by kernel_rfl) rfl
theorem zDf:En 55:=zAd Tryz.func55 (by kernel_rfl) rfl
theorem zLh:En 56:=zAd Tryz.func56 (by kernel_rfl) rfl
theorem zGx:En 107:=zAd Tryz.func107 (by kernel_rfl) rfl
theorem zOr:En 108:=zAd Tryz.func108 (by kernel_rfl) rfl
theorem zGw:En 57:=zAd Tryz.func57 (by kernel_rfl) rfl
theorem zHt:En 59:=zAd Tryz.func59 (by kernel_rfl) rfl
theorem zLg:En 60:=zAd Tryz.func60 (by kernel_rfl) rfl
theorem zTv:En 61:=zAd Tryz.func61 (by kernel_rfl) rfl
theorem zOp:En 64:=zAd Tryz.func64 (by kernel_rfl) rfl
theorem zHs:En 65:=zAd Tryz.func65 (by kernel_rfl) rfl
theorem zLf:En 114:=zAd Tryz.func114 (by kernel_rfl) rfl
theorem zOo:En 110:=zAd Tryz.func110 (by kernel_rfl) rfl
theorem zJi:En 112:=zAd Tryz.func112 (by kernel_rfl) rfl
theorem zOq:En 129:=zAd Tryz.func129 (by kernel_rfl) rfl

theorem exPBezG {w:World} {v v':Value} {a b:Int} (h:Num w v a) (h':Num w v' b) (ha0:ab a<pw 40) (hb0:ab b<pw 40) :
  Rt 111 #[v,v'] w fun v' w'=>(Fq.tup3 (Fq.num (Int.gcd a b:Int)) (Fq.num (bqU a b)) (Fq.num (bqV a b))).P v' w':=by
 refine (BezoutV h h' ha0 hb0 zm).mono fun e w' hh=>?_
 obtain ⟨hb,v1,v2,v3,g,u,x,rfl,h1,h2,h3,rfl,⟨h4,h5,h6⟩ | ⟨h4,h5,h6,h7⟩⟩:=hh
 ·subst h4 h5 h6
  exact ⟨_,rfl,hb,_,_,_,rfl,h1,by unfold bqU;rw [if_pos rfl];exact h2,by unfold bqV;rw [if_pos rfl];exact h3⟩
 ·have h0:0<ab b:=by unfold ab;omega
  rw [← zJv a b] at h6
  by_cases hp:0<b
  ·obtain ⟨e1,e2⟩:=zN6 h0 h5 h6 (v:=x) (by rw [zJv,show ab b=b by unfold ab;omega];exact h7)
   exact ⟨_,rfl,hb,_,_,_,rfl,h1,by unfold bqU;rw [if_neg h4,← e1];exact h2,by unfold bqV;rw [if_neg h4,if_pos hp,← e2];exact h3⟩
  ·obtain ⟨e1,e2⟩:=zN6 h0 h5 h6 (v:=-x) (by rw [zJv,show ab b=-b by unfold ab;omega,Int.neg_mul_neg];exact h7)
   exact ⟨_,rfl,hb,_,_,_,rfl,h1,by unfold bqU;rw [if_neg h4,← e1];exact h2,by unfold bqV;rw [if_neg h4,if_neg hp,← e2,Int.neg_neg];exact h3⟩
theorem zT3 {w:World} {v:Value} {a b c:Int} (h:(f3 a b c).P v w) (ha:ab a<pw 40) (hb:ab b<pw 40) (hc:ab c<pw 40) (hD:ab (b*b-4*(a*c))<pw 40) (hk:¬ chkF a b c=0) :
  Rt 55 #[v] w fun v' w'=>v'=.int .i64 (chkF a b c):=by
 replace ha:=hidd ha
 replace hb:=hidd hb
 replace hc:=hidd hc
 have HDB:=hidd hD
 clear hD
 obtain ⟨er,her⟩:∃ er,er=chkF a b c:=⟨_,rfl⟩
 rw [← her] at hk ⊢
 have HK:=hidd her.symm
 have HN:=hidd hk
 clear her hk
 obtain ⟨y0_p0,y0_q0,y0_p1,y0_q1,y0_p2,y0_q2,rfl,hF0⟩:=o3 h
 obtain ⟨w1,b1,hw1,hb1,hs1,E⟩:=gS w 38 hF0
 go_enter Tryz.func55,Tryz.ntmps55
 go_upto_region 1 with (fail)
 rw [← hw1,← hb1]
 clear hw1 hb1 hs1
 refine rz [.w (f3 a b c),.i er,.i er] [none] [] E (fun hp=>⟨lS 0 6 hp J0 zAc zw,zc hp zF8 zi fun v w h=>zGb h ha.out hb.out hc.out HDB.out HK.out,zS,tv⟩) ?_
 intro w2 E _ _
 simp only [rzE] at E ⊢
 go_upto_region 2 with (fail)
 refine rz [.i er,.t] [none] [] E (fun hp=>⟨zS,zO hp (sqi 0) HN.out,tv⟩) ?_
 intro w3 E _ _
 simp only [rzE] at E ⊢
 go_upto_region 3 with (fail)
 refine rz [.i er,.i er] [none] [] E (fun hp=>⟨zS,zS,tv⟩) ?_
 intro w4 E _ _
 simp only [rzE] at E ⊢
 clear HK HN
 clear ha hb hc HDB
 go_wp2
 exact zR (v:=.int .i64 er) (by simp [results,Tryz.results55,go_sem]) E.below rfl

theorem zT5 {w:World} {v:Value} {a b c:Int} (h:(f3 a b c).P v w) (ha:ab a<pw 40) (hb:ab b<pw 40) (hc:ab c<pw 40) (hD:ab (b*b-4*(a*c))<pw 40) (hk:chkF a b c=0) (hd:0<(b*b-4*(a*c))) :
  Rt 55 #[v] w fun v' w'=>v'=.int .i64 5:=by
 replace ha:=hidd ha
 replace hb:=hidd hb
 replace hc:=hidd hc
 have HDB:=hidd hD
 clear hD
 have HK:=hidd hk
 clear hk
 have T1:Hid (0<cmpI (b*b-4*(a*c)) 0):=cmpIqgt.2 hd
 clear hd
 obtain ⟨y0_p0,y0_q0,y0_p1,y0_q1,y0_p2,y0_q2,rfl,hF0⟩:=o3 h
 obtain ⟨w1,b1,hw1,hb1,hs1,E⟩:=gS w 38 hF0
 go_enter Tryz.func55,Tryz.ntmps55
 go_upto_region 1 with (fail)
 rw [← hw1,← hb1]
 clear hw1 hb1 hs1
 refine rz [.w (f3 a b c),.i 0,.i 0] [none] [] E (fun hp=>⟨lS 0 6 hp J0 zAc zw,zc hp zF8 zi fun v w h=>zGb h ha.out hb.out hc.out HDB.out HK.out,zS,tv⟩) ?_
 intro w2 E _ _
 simp only [rzE] at E ⊢
 go_upto_region 2 with (fail)
 refine rz [.i 0,.o] [none] [] E (fun hp=>⟨zS,zo hp (sqi 0),tv⟩) ?_
 intro w3 E _ _
 simp only [rzE] at E ⊢
 go_upto_region 4 with (fail)
 refine rz [.w (f3 a b c),.n (b*b-4*(a*c)),.i (cmpI (b*b-4*(a*c)) 0),.t] [none] [] E (fun hp=>⟨lS 0 6 hp J0 zAc zw,zc hp zC5 zi fun v w h=>zC6 h (zu ha.out) (zu hb.out) (zu hc.out),zc hp zA3 zi fun v w h=>zA5 h,zO hp (sqi 2) T1.out,tv⟩) ?_
 intro w4 E _ _
 simp only [rzE] at E ⊢
 go_upto_region 5 with (fail)
 refine rz [.i 5] [none] [] E (fun hp=>⟨zS,tv⟩) ?_
 intro w5 E _ _
 simp only [rzE] at E ⊢
 clear HK T1
 clear ha hb hc HDB
 go_wp2
 exact zR (v:=.int .i64 5) (by simp [results,Tryz.results55,go_sem]) E.below rfl

theorem zT6 {w:World} {v:Value} {a b c:Int} (h:(f3 a b c).P v w) (ha:ab a<pw 40) (hb:ab b<pw 40) (hc:ab c<pw 40) (hD:ab (b*b-4*(a*c))<pw 40) (hk:chkF a b c=0) (hd:¬ 0<(b*b-4*(a*c))) (hc1:¬ cont a b c=1) :
  Rt 55 #[v] w fun v' w'=>v'=.int .i64 80:=by
 replace ha:=hidd ha
 replace hb:=hidd hb
 replace hc:=hidd hc
 have HDB:=hidd hD
 clear hD
 have HK:=hidd hk
 clear hk
 have T1:Hid (¬ 0<cmpI (b*b-4*(a*c)) 0):=fun e=>hd (cmpIqgt.1 e)
 have HT:Hid (decide (cont a b c=1)=false):=decide_eq_false hc1
 clear hd hc1
 obtain ⟨y0_p0,y0_q0,y0_p1,y0_q1,y0_p2,y0_q2,rfl,hF0⟩:=o3 h
 obtain ⟨w1,b1,hw1,hb1,hs1,E⟩:=gS w 38 hF0
 go_enter Tryz.func55,Tryz.ntmps55
 go_upto_region 1 with (fail)
 rw [← hw1,← hb1]
 clear hw1 hb1 hs1
 refine rz [.w (f3 a b c),.i 0,.i 0] [none] [] E (fun hp=>⟨lS 0 6 hp J0 zAc zw,zc hp zF8 zi fun v w h=>zGb h ha.out hb.out hc.out HDB.out HK.out,zS,tv⟩) ?_
 intro w2 E _ _
 simp only [rzE] at E ⊢
 go_upto_region 2 with (fail)
 refine rz [.i 0,.o] [none] [] E (fun hp=>⟨zS,zo hp (sqi 0),tv⟩) ?_
 intro w3 E _ _
 simp only [rzE] at E ⊢
 go_upto_region 4 with (fail)
 refine rz [.w (f3 a b c),.n (b*b-4*(a*c)),.i (cmpI (b*b-4*(a*c)) 0),.o] [none] [] E (fun hp=>⟨lS 0 6 hp J0 zAc zw,zc hp zC5 zi fun v w h=>zC6 h (zu ha.out) (zu hb.out) (zu hc.out),zc hp zA3 zi fun v w h=>zA5 h,zO hp (sqi 2) T1.out,tv⟩) ?_
 intro w4 E _ _
 simp only [rzE] at E ⊢
 go_upto_region 6 with (fail)
 refine rz [.w (f3 a b c),.o,.t] [none] [] E (fun hp=>⟨lS 0 6 hp J0 zAc zw,zc hp zLi zi fun v w h=>zLs h (zu ha.out) (zu hb.out) (zu hc.out) HT.out,zo hp (sqi 1),tv⟩) ?_
 intro w5 E _ _
 simp only [rzE] at E ⊢
 go_upto_region 7 with (fail)
 refine rz [.i 80] [none] [] E (fun hp=>⟨zS,tv⟩) ?_
 intro w6 E _ _
 simp only [rzE] at E ⊢
 clear HK T1 HT
 clear ha hb hc HDB
 go_wp2
 exact zR (v:=.int .i64 80) (by simp [results,Tryz.results55,go_sem]) E.below rfl

theorem zT4 {w:World} {v:Value} {a b c:Int} (h:(f3 a b c).P v w) (ha:ab a<pw 40) (hb:ab b<pw 40) (hc:ab c<pw 40) (hD:ab (b*b-4*(a*c))<pw 40) (hk:chkF a b c=0) (hd:¬ 0<(b*b-4*(a*c))) (hc1:cont a b c=1) :
  Rt 55 #[v] w fun v' w'=>v'=.int .i64 0:=by
 replace ha:=hidd ha
 replace hb:=hidd hb
 replace hc:=hidd hc
 have HDB:=hidd hD
 clear hD
 have HK:=hidd hk
 clear hk
 have T1:Hid (¬ 0<cmpI (b*b-4*(a*c)) 0):=fun e=>hd (cmpIqgt.1 e)
 have HT:Hid (decide (cont a b c=1)=true):=decide_eq_true hc1
 clear hd hc1
 obtain ⟨y0_p0,y0_q0,y0_p1,y0_q1,y0_p2,y0_q2,rfl,hF0⟩:=o3 h
 obtain ⟨w1,b1,hw1,hb1,hs1,E⟩:=gS w 38 hF0
 go_enter Tryz.func55,Tryz.ntmps55
 go_upto_region 1 with (fail)
 rw [← hw1,← hb1]
 clear hw1 hb1 hs1
 refine rz [.w (f3 a b c),.i 0,.i 0] [none] [] E (fun hp=>⟨lS 0 6 hp J0 zAc zw,zc hp zF8 zi fun v w h=>zGb h ha.out hb.out hc.out HDB.out HK.out,zS,tv⟩) ?_
 intro w2 E _ _
 simp only [rzE] at E ⊢
 go_upto_region 2 with (fail)
 refine rz [.i 0,.o] [none] [] E (fun hp=>⟨zS,zo hp (sqi 0),tv⟩) ?_
 intro w3 E _ _
 simp only [rzE] at E ⊢
 go_upto_region 4 with (fail)
 refine rz [.w (f3 a b c),.n (b*b-4*(a*c)),.i (cmpI (b*b-4*(a*c)) 0),.o] [none] [] E (fun hp=>⟨lS 0 6 hp J0 zAc zw,zc hp zC5 zi fun v w h=>zC6 h (zu ha.out) (zu hb.out) (zu hc.out),zc hp zA3 zi fun v w h=>zA5 h,zO hp (sqi 2) T1.out,tv⟩) ?_
 intro w4 E _ _
 simp only [rzE] at E ⊢
 go_upto_region 6 with (fail)
 refine rz [.w (f3 a b c),.t,.o] [none] [] E (fun hp=>⟨lS 0 6 hp J0 zAc zw,zc hp zLi zi fun v w h=>zLs h (zu ha.out) (zu hb.out) (zu hc.out) HT.out,zo hp (sqi 1),tv⟩) ?_
 intro w5 E _ _
 simp only [rzE] at E ⊢
 go_upto_region 8 with (fail)
 refine rz [.i 0] [none] [] E (fun hp=>⟨zS,tv⟩) ?_
 intro w6 E _ _
 simp only [rzE] at E ⊢
 clear HK T1 HT
 clear ha hb hc HDB
 go_wp2
 exact zR (v:=.int .i64 0) (by simp [results,Tryz.results55,go_sem]) E.below rfl

theorem zDg {w:World} {v:Value} {a b c:Int} (h:(f3 a b c).P v w) (ha:ab a<pw 40) (hb:ab b<pw 40) (hc:ab c<pw 40) (hD:ab (b*b-4*(a*c))<pw 40) {er:Int} (he:rfE a b c=er) :
  Rt 55 #[v] w fun v' w'=>v'=.int .i64 er:=by
 subst he
 by_cases hk:chkF a b c=0
 ·by_cases hd:0<b*b-4*(a*c)
  ·rw [rfE_pos hk hd];exact zT5 h ha hb hc hD hk hd
  ·rw [rfE_neg hk hd]
   by_cases h1:cont a b c=1
   ·rw [if_pos h1];exact zT4 h ha hb hc hD hk hd h1
   ·rw [if_neg h1];exact zT6 h ha hb hc hD hk hd h1
 ·rw [rfE_chk hk];exact zT3 h ha hb hc hD hk

theorem zLp {w:World} {v:Value} {a b c:Int} (h:(f3 a b c).P v w) (ha:ab a<pw 5) (hb:ab b<pw 11) (hc:ab c<pw 24) (hD:ab (b*b-4*(a*c))<pw 20) :
  Rt 59 #[v] w fun v' w'=>(Fq.st [.n (redT a b c).fa,.n (redT a b c).fb,.n (redT a b c).fc]).P v' w':=by
 replace ha:=hidd ha
 replace hb:=hidd hb
 replace hc:=hidd hc
 obtain ⟨R,hR⟩:∃ R,R=redT a b c:=⟨_,rfl⟩
 rw [← hR]
 have BR:=hidd (zM9 ha.out hb.out hc.out hD)
 rw [← hR] at BR
 have HR:=hidd hR
 have HDB:=hidd hD
 clear hR hD
 obtain ⟨y0_p0,y0_q0,y0_p1,y0_q1,y0_p2,y0_q2,rfl,hF0⟩:=o3 h
 obtain ⟨w1,b1,hw1,hb1,hs1,E⟩:=gS w 38 hF0
 obtain ⟨w2,b2,hw2,hb2,hs2,E⟩:=fO E hs1 38 zAt
 go_enter Tryz.func59,Tryz.ntmps59
 go_upto_region 1 with (fail)
 rw [← hw1,← hw2]
 rw [← hb2,← hb1]
 clear hw1 hw2 hb1 hb2 hs2 hs1
 refine rz [.w (f3 a b c),.w (Fq.tup3 (f3 R.fa R.fb R.fc) (Fq.st [.n R.x1,.n R.x2,.n R.x3,.n R.x4]) (Fq.is (.int .i64 (redE a b c)))),.w (Fq.tup3 (f3 R.fa R.fb R.fc) (Fq.st [.n R.x1,.n R.x2,.n R.x3,.n R.x4]) (Fq.is (.int .i64 (redE a b c)))),.w (f3 R.fa R.fb R.fc),.w (Fq.st [.n R.x1,.n R.x2,.n R.x3,.n R.x4]),.i (redE a b c),.k,.k,.a,.a,.i (redE a b c)] N2 [⟨6,8,6,f3 0 0 0,f3 R.fa R.fb R.fc,none⟩,⟨7,9,8,Fq.st [.n 0,.n 0,.n 0,.n 0],Fq.st [.n R.x1,.n R.x2,.n R.x3,.n R.x4],none⟩] E (fun hp=>⟨lS 0 6 hp J1 zAc zw,zc hp zOt zi fun v w h=>(by have hh:=zPh h ha.out hb.out hc.out HDB.out;rw [← HR.out] at hh;exact hh),zS,zS,zS,zS,aS hp J0 zAt zB1,aS hp J1 zEo zM7,sS 3 hp J0 zAn,sS 4 hp J1 zEh,zS,tv⟩) ?_
 intro w3 b3_6 b3_7 E _ _
 simp only [rzE] at E ⊢
 go_upto_region 2 with (fail)
 refine rz [.w (f3 R.fa R.fb R.fc),.a] [none,none,some (1,f3 R.fa R.fb R.fc),none] [] E (fun hp=>⟨lS 0 6 hp J0 zAc zw,sO 0 0 hp J2 zAn zw,tv⟩) ?_
 intro w4 E _ _
 simp only [rzE] at E ⊢
 clear HR
 obtain ⟨_,_,hc0,hf0⟩:=zAv (E.box 2 rfl)
 have hP0:=hf0
 obtain ⟨r0_p0,r0_q0,_,rfl,_r0_n0,r0_p1,r0_q1,_,rfl,_r0_n1,r0_p2,r0_q2,_,rfl,_r0_n2,rfl⟩:=hf0
 have c0_z:=c6 hc0
 simp only [List.getD_cons_zero,List.getD_cons_succ] at c0_z
 clear hc0
 clear ha hb hc BR HDB
 go_wp2
 exact zR (v:=.agg #[r0_p0,r0_q0,r0_p1,r0_q1,r0_p2,r0_q2]) (by simp [results,Tryz.results59,go_sem,c0_z]) E.below ⟨_,rfl,hP0⟩

theorem zJn {w:World} {v v':Value} {a b:Int} (h:Num w v a) (h':Num w v' b) (ha:ab a<pw 100) (hb:ab b<pw 100) (hn:b≠0) :
  Rt 112 #[v,v'] w fun v' w'=>Num w' v' (a/b):=by
 replace ha:=hidd ha
 replace hb:=hidd hb
 have HN:=hidd hn
 clear hn
 obtain ⟨n0,ao0,k0,c0,rfl⟩:=h.parts
 obtain ⟨n1,ao1,k1,c1,rfl⟩:=h'.parts
 obtain ⟨w1,b1,hw1,hb1,hs1,E⟩:=gN w 36 h
 obtain ⟨w2,b2,hw2,hb2,hs2,E⟩:=fN E hs1 36 h'
 obtain ⟨w3,b3,hw3,hb3,hs3,E⟩:=fZ E hs2 36
 go_enter Tryz.func112,Tryz.ntmps112
 go_upto_region 1 with (fail)
 rw [← hw1,← hw2]
 rw [← hw3,← hb3]
 rw [← hb2,← hb1]
 clear hw1 hw2 hw3 hb1 hb2 hb3 hs3 hs1 hs2
 have B4:Hid (ab ((a/b))<pw 101):=zEj ha.out zm
 have B5:Hid (ab ((a % b))<pw 100):=zCf HN.out hb.out
 refine rz [.n a,.n b,.w (Fq.tup3 (Fq.num (a/b)) (Fq.num (a % b)) (Fq.is (.int .i64 0))),.w (Fq.tup3 (Fq.num (a/b)) (Fq.num (a % b)) (Fq.is (.int .i64 0))),.n (a/b),.n (a % b),.i 0,.k,.k,.a,.a,.i 0] N3 [⟨7,9,2,Fq.num 0,Fq.num (a/b),none⟩,⟨8,10,2,Fq.num 0,Fq.num (a % b),none⟩] E (fun hp=>⟨lI 0 hp J2 zw,lI 0 hp J1 zw,zC hp zF3 zi zi fun v v' w h h'=>zGa h h' HN.out B4.out B5.out zm zm,zS,zS,zS,zS,aN hp J0,aN hp J1,sN 4 hp J0,sN 5 hp J1,zS,tv⟩) ?_
 intro w6 b6_7 b6_8 E _ _
 simp only [rzE] at E ⊢
 go_upto_region 2 with (fail)
 refine rz [.n (a/b),.a] [none,none,some (1,Fq.num (a/b)),none,none] [] E (fun hp=>⟨lI 0 hp J0 zw,sP 0 hp J2 zw,tv⟩) ?_
 intro w7 E _ _
 simp only [rzE] at E ⊢
 clear HN
 obtain ⟨p0_0,p0_1,c0_0,c0_1,hP0⟩:=zCg (E.box 2 rfl)
 clear B4 B5 ha hb
 go_wp2
 exact zR (v:=.agg #[p0_0,p0_1]) (by simp [results,Tryz.results112,go_sem,c0_0,c0_1]) E.below hP0

theorem zO6 {w:World} {v:Value} {a:Int} (h:Num w v a) (ha:ab a<pw 100) :
  Rt 110 #[v] w fun v' w'=>Num w' v' (a/2):=by
 replace ha:=hidd ha
 have H2:Hid ((2:Int)≠0):=by show _≠_;decide
 have BQ:Hid (ab (a/2)<pw 100):=zHp ha.out
 obtain ⟨n0,ao0,k0,c0,rfl⟩:=h.parts
 obtain ⟨w1,b1,hw1,hb1,hs1,E⟩:=gN w 36 h
 obtain ⟨w2,b2,hw2,hb2,hs2,E⟩:=fZ E hs1 36
 go_enter Tryz.func110,Tryz.ntmps110
 go_upto_region 1 with (fail)
 rw [← hw1,← hw2]
 rw [← hb2,← hb1]
 clear hw1 hw2 hb1 hb2 hs2 hs1
 refine rz [.n a,.n 2,.n (a/2),.a] [some (3,Fq.num (a/2)),none] [] E (fun hp=>⟨lI 0 hp J1 zw,zBp (F:=(Fq.is (.int .i64 2)).P) hp fo tv (zBw) (zAk (fun _=>rfl)) (fun v w h=>(by subst h;exact OfK w 2 zm zm)),zC hp zJi zi zi fun v v' w h h'=>zJn h h' ha.out (zu (show ab (2:Int)<pw 3 from zAr zd zd)) H2.out,sP 2 hp J0 zw,tv⟩) ?_
 intro w3 E _ _
 simp only [rzE] at E ⊢
 clear H2
 obtain ⟨p0_0,p0_1,c0_0,c0_1,hP0⟩:=zCg (E.box 0 rfl)
 clear ha BQ
 go_wp2
 exact zR (v:=.agg #[p0_0,p0_1]) (by simp [results,Tryz.results110,go_sem,c0_0,c0_1]) E.below hP0

theorem exCmIsEq0 {w:World} {v v':Value} {a b c x y z:Int} (h:(f3 a b c).P v w) (h':(f3 x y z).P v' w) (e0:¬ a=x) {t:Bool} (ht:eqF a b c x y z=t) :
  Rt 64 #[v,v'] w fun v' w'=>v'=.bool t:=by
 have ht2:t=false:=ht.symm.trans (by unfold eqF;simp [e0])
 subst ht2
 clear ht
 have T0:Hid (¬ cmpI a x=0):=fun e=>e0 (cmpI_eq0.1 e)
 clear e0
 obtain ⟨y0_p0,y0_q0,y0_p1,y0_q1,y0_p2,y0_q2,rfl,hF0⟩:=o3 h
 obtain ⟨y1_p0,y1_q0,y1_p1,y1_q1,y1_p2,y1_q2,rfl,hF1⟩:=o3 h'
 obtain ⟨w1,b1,hw1,hb1,hs1,E⟩:=gS w 38 hF0
 obtain ⟨w2,b2,hw2,hb2,hs2,E⟩:=fS E hs1 38 hF1
 go_enter Tryz.func64,Tryz.ntmps64
 go_upto_region 1 with (fail)
 rw [← hw1,← hw2]
 rw [← hb2,← hb1]
 clear hw1 hw2 hb1 hb2 hs2 hs1
 refine rz [.p b1 0,.n a,.p b2 0,.n x,.i (cmpI a x),.o,.o,.u (undef),.u (undef),.u (undef),.u (undef),.u (undef),.u (undef),.o,.o,.u (undef),.u (undef),.u (undef),.u (undef),.u (undef),.u (undef),.o,.o] N2 [] E (fun hp=>⟨qa b1 0 0 hp zw,lN 0 2 hp J1 zAa zi,qa b2 0 0 hp zw,lN 0 2 hp J0 zAa zi,zC hp zA2 zi zi fun v v' w h h'=>zA4 h h',zO hp (sqi 4) T0.out,zS,zS,zS,zS,zS,zS,zS,zt hp (sqi 6) (zk (.bool false)),zS,zS,zS,zS,zS,zS,zS,zt hp (sqi 14) (zk (.bool false)),zS,tv⟩) ?_
 intro w3 E _ _
 simp only [rzE] at E ⊢
 clear T0
 go_wp2
 exact zR (v:=.bool false) (by simp [results,Tryz.results64,go_sem]) E.below rfl

theorem exCmIsEq1 {w:World} {v v':Value} {a b c x y z:Int} (h:(f3 a b c).P v w) (h':(f3 x y z).P v' w) (e0:a=x) (e1:¬ b=y) {t:Bool} (ht:eqF a b c x y z=t) :
  Rt 64 #[v,v'] w fun v' w'=>v'=.bool t:=by
 have ht2:t=false:=ht.symm.trans (by unfold eqF;simp [e0,e1])
 subst ht2
 clear ht
 have T0:Hid (cmpI a x=0):=cmpI_eq0.2 e0
 have T1:Hid (¬ cmpI b y=0):=fun e=>e1 (cmpI_eq0.1 e)
 clear e0 e1
 obtain ⟨y0_p0,y0_q0,y0_p1,y0_q1,y0_p2,y0_q2,rfl,hF0⟩:=o3 h
 obtain ⟨y1_p0,y1_q0,y1_p1,y1_q1,y1_p2,y1_q2,rfl,hF1⟩:=o3 h'
 obtain ⟨w1,b1,hw1,hb1,hs1,E⟩:=gS w 38 hF0
 obtain ⟨w2,b2,hw2,hb2,hs2,E⟩:=fS E hs1 38 hF1
 go_enter Tryz.func64,Tryz.ntmps64
 go_upto_region 1 with (fail)
 rw [← hw1,← hw2]
 rw [← hb2,← hb1]
 clear hw1 hw2 hb1 hb2 hs2 hs1
 refine rz [.p b1 0,.n a,.p b2 0,.n x,.i (cmpI a x),.t,.t,.p b1 2,.n b,.p b2 2,.n y,.i (cmpI b y),.o,.o,.o,.u (undef),.u (undef),.u (undef),.u (undef),.u (undef),.u (undef),.o,.o] N2 [] E (fun hp=>⟨qa b1 0 0 hp zw,lN 0 2 hp J1 zAa zi,qa b2 0 0 hp zw,lN 0 2 hp J0 zAa zi,zC hp zA2 zi zi fun v v' w h h'=>zA4 h h',zO hp (sqi 4) T0.out,zS,zg b1 0 2 hp zw,lG 2 2 hp gqi J1 zAa zi fun v w h=>zAe h,zg b2 0 2 hp zw,lG 2 2 hp gqi J0 zAa zi fun v w h=>zAe h,zC hp zA2 zi zi (fun v v' w h h'=>zA4 h h'),zO hp (sqi 11) T1.out,zt hp (sqi 6) (sqi 12),zS,zS,zS,zS,zS,zS,zS,zt hp (sqi 14) (zk (.bool false)),zS,tv⟩) ?_
 intro w3 E _ _
 simp only [rzE] at E ⊢
 clear T0 T1
 go_wp2
 exact zR (v:=.bool false) (by simp [results,Tryz.results64,go_sem]) E.below rfl

theorem exCmIsEq2 {w:World} {v v':Value} {a b c x y z:Int} (h:(f3 a b c).P v w) (h':(f3 x y z).P v' w) (e0:a=x) (e1:b=y) (e2:¬ c=z) {t:Bool} (ht:eqF a b c x y z=t) :
  Rt 64 #[v,v'] w fun v' w'=>v'=.bool t:=by
 have ht2:t=false:=ht.symm.trans (by unfold eqF;simp [e0,e1,e2])
 subst ht2
 clear ht
 have T0:Hid (cmpI a x=0):=cmpI_eq0.2 e0
 have T1:Hid (cmpI b y=0):=cmpI_eq0.2 e1
 have T2:Hid (¬ cmpI c z=0):=fun e=>e2 (cmpI_eq0.1 e)
 clear e0 e1 e2
 obtain ⟨y0_p0,y0_q0,y0_p1,y0_q1,y0_p2,y0_q2,rfl,hF0⟩:=o3 h
 obtain ⟨y1_p0,y1_q0,y1_p1,y1_q1,y1_p2,y1_q2,rfl,hF1⟩:=o3 h'
 obtain ⟨w1,b1,hw1,hb1,hs1,E⟩:=gS w 38 hF0
 obtain ⟨w2,b2,hw2,hb2,hs2,E⟩:=fS E hs1 38 hF1
 go_enter Tryz.func64,Tryz.ntmps64
 go_upto_region 1 with (fail)
 rw [← hw1,← hw2]
 rw [← hb2,← hb1]
 clear hw1 hw2 hb1 hb2 hs2 hs1
 refine rz [.p b1 0,.n a,.p b2 0,.n x,.i (cmpI a x),.t,.t,.p b1 2,.n b,.p b2 2,.n y,.i (cmpI b y),.t,.t,.t,.p b1 4,.n c,.p b2 4,.n z,.i (cmpI c z),.o,.o,.o] N2 [] E (fun hp=>⟨qa b1 0 0 hp zw,lN 0 2 hp J1 zAa zi,qa b2 0 0 hp zw,lN 0 2 hp J0 zAa zi,zC hp zA2 zi zi fun v v' w h h'=>zA4 h h',zO hp (sqi 4) T0.out,zS,zg b1 0 2 hp zw,lG 2 2 hp gqi J1 zAa zi fun v w h=>zAe h,zg b2 0 2 hp zw,lG 2 2 hp gqi J0 zAa zi fun v w h=>zAe h,zC hp zA2 zi zi (fun v v' w h h'=>zA4 h h'),zO hp (sqi 11) T1.out,zt hp (sqi 6) (sqi 12),zS,zg b1 0 4 hp zw,lG 4 2 hp gqi J1 zAa zi fun v w h=>zAe h,zg b2 0 4 hp zw,lG 4 2 hp gqi J0 zAa zi fun v w h=>zAe h,zC hp zA2 zi zi (fun v v' w h h'=>zA4 h h'),zO hp (sqi 19) T2.out,zt hp (sqi 14) (sqi 20),zS,tv⟩) ?_
 intro w3 E _ _
 simp only [rzE] at E ⊢
 clear T0 T1 T2
 go_wp2
 exact zR (v:=.bool false) (by simp [results,Tryz.results64,go_sem]) E.below rfl

theorem exCmIsEq3 {w:World} {v v':Value} {a b c x y z:Int} (h:(f3 a b c).P v w) (h':(f3 x y z).P v' w) (e0:a=x) (e1:b=y) (e2:c=z) {t:Bool} (ht:eqF a b c x y z=t) :
  Rt 64 #[v,v'] w fun v' w'=>v'=.bool t:=by
 have ht2:t=true:=ht.symm.trans (by unfold eqF;simp [e0,e1,e2])
 subst ht2
 clear ht
 have T0:Hid (cmpI a x=0):=cmpI_eq0.2 e0
 have T1:Hid (cmpI b y=0):=cmpI_eq0.2 e1
 have T2:Hid (cmpI c z=0):=cmpI_eq0.2 e2
 clear e0 e1 e2
 obtain ⟨y0_p0,y0_q0,y0_p1,y0_q1,y0_p2,y0_q2,rfl,hF0⟩:=o3 h
 obtain ⟨y1_p0,y1_q0,y1_p1,y1_q1,y1_p2,y1_q2,rfl,hF1⟩:=o3 h'
 obtain ⟨w1,b1,hw1,hb1,hs1,E⟩:=gS w 38 hF0
 obtain ⟨w2,b2,hw2,hb2,hs2,E⟩:=fS E hs1 38 hF1
 go_enter Tryz.func64,Tryz.ntmps64
 go_upto_region 1 with (fail)
 rw [← hw1,← hw2]
 rw [← hb2,← hb1]
 clear hw1 hw2 hb1 hb2 hs2 hs1
 refine rz [.p b1 0,.n a,.p b2 0,.n x,.i (cmpI a x),.t,.t,.p b1 2,.n b,.p b2 2,.n y,.i (cmpI b y),.t,.t,.t,.p b1 4,.n c,.p b2 4,.n z,.i (cmpI c z),.t,.t,.t] N2 [] E (fun hp=>⟨qa b1 0 0 hp zw,lN 0 2 hp J1 zAa zi,qa b2 0 0 hp zw,lN 0 2 hp J0 zAa zi,zC hp zA2 zi zi fun v v' w h h'=>zA4 h h',zO hp (sqi 4) T0.out,zS,zg b1 0 2 hp zw,lG 2 2 hp gqi J1 zAa zi fun v w h=>zAe h,zg b2 0 2 hp zw,lG 2 2 hp gqi J0 zAa zi fun v w h=>zAe h,zC hp zA2 zi zi (fun v v' w h h'=>zA4 h h'),zO hp (sqi 11) T1.out,zt hp (sqi 6) (sqi 12),zS,zg b1 0 4 hp zw,lG 4 2 hp gqi J1 zAa zi fun v w h=>zAe h,zg b2 0 4 hp zw,lG 4 2 hp gqi J0 zAa zi fun v w h=>zAe h,zC hp zA2 zi zi (fun v v' w h h'=>zA4 h h'),zO hp (sqi 19) T2.out,zt hp (sqi 14) (sqi 20),zS,tv⟩) ?_
 intro w3 E _ _
 simp only [rzE] at E ⊢
 clear T0 T1 T2
 go_wp2
 exact zR (v:=.bool true) (by simp [results,Tryz.results64,go_sem]) E.below rfl

theorem zO7 {w:World} {v v':Value} {a b c x y z:Int} (h:(f3 a b c).P v w) (h':(f3 x y z).P v' w) {t:Bool} (ht:eqF a b c x y z=t) :
  Rt 64 #[v,v'] w fun v' w'=>v'=.bool t:=by
 by_cases e0:a=x
 ·by_cases e1:b=y
  ·by_cases e2:c=z
   ·exact exCmIsEq3 h h' e0 e1 e2 ht
   ·exact exCmIsEq2 h h' e0 e1 e2 ht
  ·exact exCmIsEq1 h h' e0 e1 ht
 ·exact exCmIsEq0 h h' e0 ht

theorem exCmIsPr0 {w:World} {v:Value} {a b c:Int} (h:(f3 a b c).P v w) (e0:¬ a=1) {t:Bool} (ht:decide (a=1)=t) :
  Rt 57 #[v] w fun v' w'=>v'=.bool t:=by
 have ht2:t=false:=ht.symm.trans (by simp [e0])
 subst ht2
 clear ht
 have T0:Hid (¬ cmpI a 1=0):=fun e=>e0 (cmpI_eq0.1 e)
 clear e0
 obtain ⟨y0_p0,y0_q0,y0_p1,y0_q1,y0_p2,y0_q2,rfl,hF0⟩:=o3 h
 obtain ⟨w1,b1,hw1,hb1,hs1,E⟩:=gS w 38 hF0
 go_enter Tryz.func57,Tryz.ntmps57
 go_upto_region 1 with (fail)
 rw [← hw1,← hb1]
 clear hw1 hb1 hs1
 refine rz [.p b1 0,.n a,.n 1,.i (cmpI a 1),.o,.o] [none] [] E (fun hp=>⟨qa b1 0 0 hp zw,lN 0 2 hp J0 zAa zi,zBp (F:=(Fq.is (.int .i64 1)).P) hp fo tv (zBw) (zAk (fun _=>rfl)) (fun v w h=>(by subst h;exact OfK w 1 zm zm)),zC hp zA2 zi zi fun v v' w h h'=>zA4 h h',zO hp (sqi 3) T0.out,zS,tv⟩) ?_
 intro w2 E _ _
 simp only [rzE] at E ⊢
 clear T0
 go_wp2
 exact zR (v:=.bool false) (by simp [results,Tryz.results57,go_sem]) E.below rfl

theorem exCmIsPr1 {w:World} {v:Value} {a b c:Int} (h:(f3 a b c).P v w) (e0:a=1) {t:Bool} (ht:decide (a=1)=t) :
  Rt 57 #[v] w fun v' w'=>v'=.bool t:=by
 have ht2:t=true:=ht.symm.trans (by simp [e0])
 subst ht2
 clear ht
 have T0:Hid (cmpI a 1=0):=cmpI_eq0.2 e0
 clear e0
 obtain ⟨y0_p0,y0_q0,y0_p1,y0_q1,y0_p2,y0_q2,rfl,hF0⟩:=o3 h
 obtain ⟨w1,b1,hw1,hb1,hs1,E⟩:=gS w 38 hF0
 go_enter Tryz.func57,Tryz.ntmps57
 go_upto_region 1 with (fail)
 rw [← hw1,← hb1]
 clear hw1 hb1 hs1
 refine rz [.p b1 0,.n a,.n 1,.i (cmpI a 1),.t,.t] [none] [] E (fun hp=>⟨qa b1 0 0 hp zw,lN 0 2 hp J0 zAa zi,zBp (F:=(Fq.is (.int .i64 1)).P) hp fo tv (zBw) (zAk (fun _=>rfl)) (fun v w h=>(by subst h;exact OfK w 1 zm zm)),zC hp zA2 zi zi fun v v' w h h'=>zA4 h h',zO hp (sqi 3) T0.out,zS,tv⟩) ?_
 intro w2 E _ _
 simp only [rzE] at E ⊢
 clear T0
 go_wp2
 exact zR (v:=.bool true) (by simp [results,Tryz.results57,go_sem]) E.below rfl

theorem zGz {w:World} {v:Value} {a b c:Int} (h:(f3 a b c).P v w) {t:Bool} (ht:decide (a=1)=t) :
  Rt 57 #[v] w fun v' w'=>v'=.bool t:=by
 by_cases e0:a=1
 ·exact exCmIsPr1 h e0 ht
 ·exact exCmIsPr0 h e0 ht

theorem zUm {w:World} {v0 v':Value} {a b c x y z s hh p1 q1 e u t m n d r C:Int} {R:RS} (h:(f3 a b c).P v0 w) (h':(f3 x y z).P v' w) (ha:ab a<pw 2) (hb:ab b<pw 2) (hc:ab c<pw 2) (hx:ab x<pw 2) (hy:ab y<pw 2) (hz:ab z<pw 2) (hs:ab s<pw 2) (hhh:ab hh<pw 2) (hp1:ab p1<pw 2) (hq1:ab q1<pw 3) (he:ab e<pw 2) (hu:ab u<pw 2) (ht:ab t<pw 3) (hm:ab m<pw 2) (hn:ab n<pw 2) (hd:ab d<pw 2) (hr:ab r<pw 2) (hC:ab C<pw 9) (e1:s=(b+y)/2) (e2:hh=(Int.gcd a x:Int)) (e3:p1=bqU a x) (e4:q1=bqV a x) (e5:e=(Int.gcd hh s:Int)) (e6:u=bqU hh s) (e7:t=bqV hh s) (e8:m=a/e) (e9:n=x/e) (e10:d=(b-y)/2) (e11:r=(((u*q1)*d)-(t*z)) % m) (e12:C=((e*z)+(r*(y+(r*n))))/m) (e13:R=redT (m*n) ((y+(r*n))+(r*n)) C) (n0:e≠0) (n1:0<m) (n2:m≠0) (d20:ab (((y+(r*n))+(r*n))*((y+(r*n))+(r*n))-4*((m*n)*C))<pw 20) :
  Rt 65 #[v0,v'] w fun v' w'=>(f3 R.fa R.fb R.fc).P v' w':=by
 replace ha:=hidd ha
 replace hb:=hidd hb
 replace hc:=hidd hc
 replace hx:=hidd hx
 replace hy:=hidd hy
 replace hz:=hidd hz
 replace hs:=hidd hs
 replace hhh:=hidd hhh
 replace hp1:=hidd hp1
 replace hq1:=hidd hq1
 replace he:=hidd he
 replace hu:=hidd hu
 replace ht:=hidd ht
 replace hm:=hidd hm
 replace hn:=hidd hn
 replace hd:=hidd hd
 replace hr:=hidd hr
 replace hC:=hidd hC
 have Ee1:Hid (s=(b+y)/2):=e1
 have Ee2:Hid (hh=(Int.gcd a x:Int)):=e2
 have Ee3:Hid (p1=bqU a x):=e3
 have Ee4:Hid (q1=bqV a x):=e4
 have Ee5:Hid (e=(Int.gcd hh s:Int)):=e5
 have Ee6:Hid (u=bqU hh s):=e6
 have Ee7:Hid (t=bqV hh s):=e7
 have Ee8:Hid (m=a/e):=e8
 have Ee9:Hid (n=x/e):=e9
 have Ee10:Hid (d=(b-y)/2):=e10
 have Ee11:Hid (r=(((u*q1)*d)-(t*z)) % m):=e11
 have Ee12:Hid (C=((e*z)+(r*(y+(r*n))))/m):=e12
 have Ee13:Hid (R=redT (m*n) ((y+(r*n))+(r*n)) C):=e13
 have En0:Hid (e≠0):=n0
 have En1:Hid (0<m):=n1
 have En2:Hid (m≠0):=n2
 have Ed20:Hid (ab (((y+(r*n))+(r*n))*((y+(r*n))+(r*n))-4*((m*n)*C))<pw 20):=d20
 clear e1 e2 e3 e4 e5 e6 e7 e8 e9 e10 e11 e12 e13 n0 n1 n2 d20
 have B1:Hid (ab ((m*n))<pw 4):=zAl hm.out hn.out zm
 have B2:Hid (ab ((r*n))<pw 4):=zAl hr.out hn.out zm
 have B3:Hid (ab ((y+(r*n)))<pw 5):=zBd hy.out B2.out zm zm
 have B4:Hid (ab (((y+(r*n))+(r*n)))<pw 6):=zBd B3.out B2.out zm zm
 have HA5:Hid (ab (m*n)<pw 5):=(zu B1.out)
 have HB11:Hid (ab ((y+(r*n))+(r*n))<pw 11):=(zu B4.out)
 have HC24:Hid (ab C<pw 24):=(zu hC.out)
 have BR:=hidd (zM9 HA5.out HB11.out HC24.out Ed20.out)
 rw [← Ee13.out] at BR
 obtain ⟨y0_p0,y0_q0,y0_p1,y0_q1,y0_p2,y0_q2,rfl,hF0⟩:=o3 h
 obtain ⟨y1_p0,y1_q0,y1_p1,y1_q1,y1_p2,y1_q2,rfl,hF1⟩:=o3 h'
 obtain ⟨w5,b5,hw5,hb5,hs5,E⟩:=gS w 38 hF0
 obtain ⟨w6,b6,hw6,hb6,hs6,E⟩:=fS E hs5 38 hF1
 obtain ⟨w7,b7,hw7,hb7,hs7,E⟩:=fO E hs6 38 zAt
 go_enter Tryz.func65,Tryz.ntmps65
 go_upto_region 1 with (fail)
 rw [← hw5,← hw6]
 rw [← hw7,← hb7]
 rw [← hb6,← hb5]
 clear hw5 hw6 hw7 hb5 hb6 hb7 hs7 hs5 hs6
 have B8:Hid (ab ((b+y))<pw 3):=zBd hb.out hy.out zm zm
 refine rz [.p b5 2,.n b,.p b6 2,.n y,.n (b+y),.n s,.k,.a] N3 [⟨6,7,2,Fq.num 0,Fq.num s,none⟩] E (fun hp=>⟨qa b5 0 2 hp zw,lN 2 2 hp J2 zAa zi,qa b6 0 2 hp zw,lN 2 2 hp J1 zAa zi,zC hp zDe zi zi fun v v' w h h'=>exK (AddV h h') B8.out zm,zc hp zOo zi fun v w h=>(by rw [Ee1.out];exact zO6 h (zu B8.out)),aN hp J0,sN 5 hp J0,tv⟩) ?_
 intro w9 b9_6 E _ _
 simp only [rzE] at E ⊢
 go_upto_region 2 with (fail)
 refine rz [.p b5 0,.n a,.p b6 0,.n x,.w (Fq.tup3 (Fq.num hh) (Fq.num p1) (Fq.num q1)),.w (Fq.tup3 (Fq.num hh) (Fq.num p1) (Fq.num q1)),.n hh,.n p1,.n q1,.k,.k,.k,.a,.a,.a] N4 [⟨9,12,2,Fq.num 0,Fq.num hh,none⟩,⟨10,13,2,Fq.num 0,Fq.num p1,none⟩,⟨11,14,2,Fq.num 0,Fq.num q1,none⟩] E (fun hp=>⟨qa b5 0 0 hp zw,lN 0 2 hp J3 zAa zi,qa b6 0 0 hp zw,lN 0 2 hp J2 zAa zi,zC hp zOd zi zi fun v v' w h h'=>(by rw [Ee2.out,Ee3.out,Ee4.out];exact exPBezG h h' (zu ha.out) (zu hx.out)),zS,zS,zS,zS,aN hp J0,aN hp J1,aN hp J2,sN 6 hp J0,sN 7 hp J1,sN 8 hp J2,tv⟩) ?_
 intro w10 b10_9 b10_10 b10_11 E _ _
 simp only [rzE] at E ⊢
 go_upto_region 3 with (fail)
 refine rz [.n hh,.n s,.w (Fq.tup3 (Fq.num e) (Fq.num u) (Fq.num t)),.w (Fq.tup3 (Fq.num e) (Fq.num u) (Fq.num t)),.n e,.n u,.n t,.k,.k,.k,.a,.a,.a] N7 [⟨7,10,2,Fq.num 0,Fq.num e,none⟩,⟨8,11,2,Fq.num 0,Fq.num u,none⟩,⟨9,12,2,Fq.num 0,Fq.num t,none⟩] E (fun hp=>⟨lI 0 hp J0 zw,lI 0 hp J3 zw,zC hp zOd zi zi fun v v' w h h'=>(by rw [Ee5.out,Ee6.out,Ee7.out];exact exPBezG h h' (zu hhh.out) (zu hs.out)),zS,zS,zS,zS,aN hp J0,aN hp J1,aN hp J2,sN 4 hp J0,sN 5 hp J1,sN 6 hp J2,tv⟩) ?_
 intro w11 b11_7 b11_8 b11_9 E _ _
 simp only [rzE] at E ⊢
 go_upto_region 4 with (fail)
 have B12:Hid (ab ((u*q1))<pw 5):=zAl hu.out hq1.out zm
 refine rz [.n u,.n q1,.n (u*q1),.a] [none,none,none,none,none,some (3,Fq.num (u*q1)),none,none,none,none] [] E (fun hp=>⟨lI 0 hp J1 zw,zA1 (off:=0) hp fo tv J5 (.inr rfl) (Nat.le_of_ble_eq_true rfl) (sqo 8) (fun us w hl h=>zAz hl h),zC hp zBe zi zi fun v v' w h h'=>exK (MulV h h') B12.out zm,sP 2 hp J5 zw,tv⟩) ?_
 intro w13 E _ _
 simp only [rzE] at E ⊢
 go_upto_region 5 with (fail)
 refine rz [.p b5 0,.n a,.n e,.n m,.p b6 0,.n x,.n e,.n n,.k,.k,.a,.a] N10 [⟨8,10,2,Fq.num 0,Fq.num m,none⟩,⟨9,11,2,Fq.num 0,Fq.num n,none⟩] E (fun hp=>⟨qa b5 0 0 hp zw,lN 0 2 hp J9 zAa zi,lI 0 hp J0 zw,zC hp zJi zi zi fun v v' w h h'=>(by rw [Ee8.out];exact zJn h h' (zu ha.out) (zu he.out) En0.out),qa b6 0 0 hp zw,lN 0 2 hp J8 zAa zi,lI 0 hp J0 zw,zC hp zJi zi zi fun v v' w h h'=>(by rw [Ee9.out];exact zJn h h' (zu hx.out) (zu he.out) En0.out),aN hp J0,aN hp J1,sN 3 hp J0,sN 7 hp J1,tv⟩) ?_
 intro w14 b14_8 b14_9 E _ _
 simp only [rzE] at E ⊢
 go_upto_region 6 with (fail)
 have B15:Hid (ab ((b-y))<pw 3):=zCm hb.out hy.out zm zm
 refine rz [.p b5 2,.n b,.p b6 2,.n y,.n (b-y),.n d,.k,.a] N12 [⟨6,7,2,Fq.num 0,Fq.num d,none⟩] E (fun hp=>⟨qa b5 0 2 hp zw,lN 2 2 hp J11 zAa zi,qa b6 0 2 hp zw,lN 2 2 hp J10 zAa zi,zC hp zF6 zi zi fun v v' w h h'=>exK (SubV h h') B15.out zm,zc hp zOo zi fun v w h=>(by rw [Ee10.out];exact zO6 h (zu B15.out)),aN hp J0,sN 5 hp J0,tv⟩) ?_
 intro w16 b16_6 E _ _
 simp only [rzE] at E ⊢
 go_upto_region 7 with (fail)
 have B17:Hid (ab (((u*q1)*d))<pw 7):=zAl B12.out hd.out zm
 have B18:Hid (ab ((t*z))<pw 5):=zAl ht.out hz.out zm
 have B19:Hid (ab ((((u*q1)*d)-(t*z)))<pw 8):=zCm B17.out B18.out zm zm
 refine rz [.n (u*q1),.n d,.n ((u*q1)*d),.n t,.p b6 4,.n z,.n (t*z),.n (((u*q1)*d)-(t*z)),.n m,.w (Fq.tup2 (Fq.num r) (Fq.is (.int .i64 0))),.w (Fq.tup2 (Fq.num r) (Fq.is (.int .i64 0))),.n r,.i 0,.k,.a,.i 0] N13 [⟨13,14,2,Fq.num 0,Fq.num r,none⟩] E (fun hp=>⟨lI 0 hp J8 zw,lI 0 hp J0 zw,zC hp zBe zi zi fun v v' w h h'=>exK (MulV h h') B17.out zm,lI 0 hp J5 zw,qa b6 0 4 hp zw,lN 4 2 hp J11 zAa zi,zC hp zBe zi zi fun v v' w h h'=>exK (MulV h h') B18.out zm,zC hp zF6 zi zi fun v v' w h h'=>exK (SubV h h') B19.out zm,lI 0 hp J1 zw,zC hp enq_M_Mod zi zi fun v v' w h h'=>(by rw [Ee11.out];exact exModP h h' (zu B19.out) (zu hm.out) En1.out),zS,zS,zS,aN hp J0,sN 11 hp J0,zS,tv⟩) ?_
 intro w20 b20_13 E _ _
 simp only [rzE] at E ⊢
 go_upto_region 8 with (fail)
 refine rz [.n r,.n n,.n (r*n),.k,.a] N14 [⟨3,4,2,Fq.num 0,Fq.num (r*n),none⟩] E (fun hp=>⟨lI 0 hp J0 zw,lI 0 hp J3 zw,zC hp zBe zi zi fun v v' w h h'=>exK (MulV h h') B2.out zm,aN hp J0,sN 2 hp J0,tv⟩) ?_
 intro w21 b21_3 E _ _
 simp only [rzE] at E ⊢
 go_upto_region 9 with (fail)
 refine rz [.p b6 2,.n y,.n (r*n),.n (y+(r*n)),.k,.a] N15 [⟨4,5,2,Fq.num 0,Fq.num (y+(r*n)),none⟩] E (fun hp=>⟨qa b6 0 2 hp zw,lN 2 2 hp J13 zAa zi,lI 0 hp J0 zw,zC hp zDe zi zi fun v v' w h h'=>exK (AddV h h') B3.out zm,aN hp J0,sN 3 hp J0,tv⟩) ?_
 intro w22 b22_4 E _ _
 simp only [rzE] at E ⊢
 go_upto_region 10 with (fail)
 have B23:Hid (ab ((e*z))<pw 4):=zAl he.out hz.out zm
 have B24:Hid (ab ((r*(y+(r*n))))<pw 7):=zAl hr.out B3.out zm
 have B25:Hid (ab (((e*z)+(r*(y+(r*n)))))<pw 8):=zBd B23.out B24.out zm zm
 refine rz [.n m,.n n,.n (m*n),.n (y+(r*n)),.n (r*n),.n ((y+(r*n))+(r*n)),.n e,.p b6 4,.n z,.n (e*z),.n r,.n (y+(r*n)),.n (r*(y+(r*n))),.n ((e*z)+(r*(y+(r*n)))),.n m,.n C,.w (f3 (m*n) ((y+(r*n))+(r*n)) C),.w (f3 R.fa R.fb R.fc),.a] [none,none,none,none,none,none,none,none,none,none,none,none,none,some (18,f3 R.fa R.fb R.fc),none,none] [] E (fun hp=>⟨lI 0 hp J4 zw,lI 0 hp J5 zw,zC hp zBe zi zi fun v v' w h h'=>exK (MulV h h') B1.out zm,lI 0 hp J0 zw,lI 0 hp J1 zw,zC hp zDe zi zi fun v v' w h h'=>exK (AddV h h') B4.out zm,lI 0 hp J6 zw,qa b6 0 4 hp zw,lN 4 2 hp J14 zAa zi,zC hp zBe zi zi fun v v' w h h'=>exK (MulV h h') B23.out zm,lI 0 hp J2 zw,lI 0 hp J0 zw,zC hp zBe zi zi fun v v' w h h'=>exK (MulV h h') B24.out zm,zC hp zDe zi zi fun v v' w h h'=>exK (AddV h h') B25.out zm,lI 0 hp J4 zw,zC hp zJi zi zi fun v v' w h h'=>(by rw [Ee12.out];exact zJn h h' (zu B25.out) (zu hm.out) En2.out),zFo (z0:=(m*n)) (z1:=((y+(r*n))+(r*n))) (z2:=C) hp fo tv (sqi 2) (sqi 5) (sqi 15) (fun v w h=>h),zc hp zHt zi fun v w h=>(by have hh:=zLp h HA5.out HB11.out HC24.out Ed20.out;rw [← Ee13.out] at hh;exact hh),sO 0 17 hp J13 zAn zw,tv⟩) ?_
 intro w26 E _ _
 simp only [rzE] at E ⊢
 clear Ee1 Ee2 Ee3 Ee4 Ee5 Ee6 Ee7 Ee8 Ee9 Ee10 Ee11 Ee12 Ee13 En0 En1 En2 Ed20
 obtain ⟨_,_,hc0,hf0⟩:=zAv (E.box 13 rfl)
 have hP0:=hf0
 obtain ⟨r0_p0,r0_q0,_,rfl,_r0_n0,r0_p1,r0_q1,_,rfl,_r0_n1,r0_p2,r0_q2,_,rfl,_r0_n2,rfl⟩:=hf0
 have c0_z:=c6 hc0
 simp only [List.getD_cons_zero,List.getD_cons_succ] at c0_z
 clear hc0
 clear B1 B2 B3 B4 B8 B12 B15 B17 B18 B19 B23 B24 B25 ha hb hc hx hy hz hs hhh hp1 hq1 he hu ht hm hn hd hr hC BR HA5 HB11 HC24
 go_wp2
 exact zR (v:=.agg #[r0_p0,r0_q0,r0_p1,r0_q1,r0_p2,r0_q2]) (by simp [results,Tryz.results65,go_sem,c0_z]) E.below ⟨_,rfl,hP0⟩

theorem zO9 {w:World} {v v':Value} {a b c x y z:Int} (h:(f3 a b c).P v w) (h':(f3 x y z).P v' w) (ha:ab a<pw 2) (hb:ab b<pw 2) (hc:ab c<pw 2) (hx:ab x<pw 2) (hy:ab y<pw 2) (hz:ab z<pw 2) (hf:Sf (b*b-4*(a*c)) a b c) (hg:Sf (b*b-4*(a*c)) x y z) (hDn:(b*b-4*(a*c))<0) :
  Rt 65 #[v,v'] w fun v' w'=>(Fq.st [.n (mulF (b*b-4*(a*c)) ⟨a,b,c⟩ ⟨x,y,z⟩).a,.n (mulF (b*b-4*(a*c)) ⟨a,b,c⟩ ⟨x,y,z⟩).b,.n (mulF (b*b-4*(a*c)) ⟨a,b,c⟩ ⟨x,y,z⟩).c]).P v' w':=by
 have d6:ab (b*b-4*(a*c))<pw 6:=zCm (zBv hb hb) (zBv (show ab (4:Int)<pw 1 by decide) (zBv ha hc)) zm zm
 obtain ⟨s,e1⟩:∃ s,s=(b+y)/2:=⟨_,rfl⟩
 obtain ⟨hh,e2⟩:∃ s:Int,s=(Int.gcd a x:Int):=⟨_,rfl⟩
 obtain ⟨p1,e3⟩:∃ s,s=bqU a x:=⟨_,rfl⟩
 obtain ⟨q1,e4⟩:∃ s,s=bqV a x:=⟨_,rfl⟩
 obtain ⟨e,e5⟩:∃ t:Int,t=(Int.gcd hh s:Int):=⟨_,rfl⟩
 obtain ⟨u,e6⟩:∃ t,t=bqU hh s:=⟨_,rfl⟩
 obtain ⟨t,e7⟩:∃ t,t=bqV hh s:=⟨_,rfl⟩
 obtain ⟨m,e8⟩:∃ m,m=a/e:=⟨_,rfl⟩
 obtain ⟨n,e9⟩:∃ n,n=x/e:=⟨_,rfl⟩
 obtain ⟨d,e10⟩:∃ d,d=(b-y)/2:=⟨_,rfl⟩
 obtain ⟨r,e11⟩:∃ r,r=(((u*q1)*d)-(t*z)) % m:=⟨_,rfl⟩
 obtain ⟨C,e12⟩:∃ C,C=((e*z)+(r*(y+(r*n))))/m:=⟨_,rfl⟩
 have pa:=hf.pos
 have px:=hg.pos
 have g1:0<hh:=by have:=zJw (a:=a) (show x≠0 by omega);omega
 have g2:0<e:=by
  have:=Int.gcd_pos_iff (a:=hh) (b:=s)
  have:=this.2 (.inl zm)
  omega
 have k1:hh ∣ a:=by rw [e2];exact Int.gcd_dvd_left ..
 have k2:hh ∣ x:=by rw [e2];exact Int.gcd_dvd_right ..
 have k3:e ∣ hh:=by rw [e5];exact Int.gcd_dvd_left ..
 have k4:e ∣ s:=by rw [e5];exact Int.gcd_dvd_right ..
 have hhB:ab hh<pw 2:=by
  have:=Int.le_of_dvd pa k1
  unfold ab at ha ⊢
  generalize pw 2=K at ha ⊢
  omega
 have heB:ab e<pw 2:=by
  have:=Int.le_of_dvd g1 k3
  unfold ab at hhB ⊢
  generalize pw 2=K at hhB ⊢
  omega
 have hsB:ab s<pw 2:=by
  unfold ab at hb hy ⊢
  generalize pw 2=K at hb hy ⊢
  omega
 have hdB:ab d<pw 2:=by
  unfold ab at hb hy ⊢
  generalize pw 2=K at hb hy ⊢
  omega
 have z1:p1*a+q1*x=hh:=by rw [e2,e3,e4];exact zK4 (fun e=>zm)
 have z2:u*hh+t*s=e:=by rw [e5,e6,e7];exact zK4 (fun e=>zm)
 have hu:ab u<pw 2:=by rw [e6];exact bqU_ab zm hsB
 have ht:ab t<pw 3:=by rw [e7];exact bqV_ab hhB
 have hp:ab p1<pw 2:=by rw [e3];exact bqU_ab zm hx
 have hq:ab q1<pw 3:=by rw [e4];exact bqV_ab ha
 have hm:ab m<pw 2:=by rw [e8];exact zHp ha
 have hn:ab n<pw 2:=by rw [e9];exact zHp hx
 obtain ⟨m0,n0,Q,c1,c2,c3⟩:=prod_prog hf hg z1 k1 k2 e1 e10 z2 k3 k4 g2 e8 e9 e11
 have hr0:0≤r∧r<m:=by rw [e11];exact ⟨Int.emod_nonneg _ zm,Int.emod_lt_of_pos _ m0⟩
 have hr:ab r<pw 2:=by
  have h1:=hm
  unfold ab at h1 ⊢
  generalize pw 2=K at h1 ⊢
  omega
 have hS:ab (r*n)<pw 4:=zu (zBv hr hn)
 have hM:ab (y+r*n)<pw 5:=zBd (m:=5) hy hS zm zm
 have hB:ab (y+r*n+r*n)<pw 11:=zu (zBd (m:=6) hM hS zm zm)
 have hC:ab C<pw 9:=by rw [e12];exact zHp (zBd (m:=9) (zBv heB hz) (zBv hr hM) zm zm)
 have hA5:ab (m*n)<pw 5:=zu (zBv hm hn)
 have hC24:ab C<pw 24:=zu hC
 rw [← e12] at c3
 have c4:Sc (b*b-4*(a*c)) ⟨m*n,y+r*n+r*n,C⟩:=Eqv.sc hDn ⟨_,_,_,_,c3⟩ c1
 have d20:ab ((y+r*n+r*n)*(y+r*n+r*n)-4*((m*n)*C))<pw 20:=by rw [c4.disc];exact zu d6
 obtain ⟨r1,r2⟩:=zRu hA5 hB hC24 d20 (zFs (by rw [c4.disc];exact hDn) c4.pos)
 have hR:mulF (b*b-4*(a*c)) ⟨a,b,c⟩ ⟨x,y,z⟩=⟨(redT (m*n) (y+r*n+r*n) C).fa,(redT (m*n) (y+r*n+r*n) C).fb,(redT (m*n) (y+r*n+r*n) C).fc⟩:=zH3 hDn hf hg ⟨r2,Q,c1,c2,Eqv.trans (Q:=⟨m*n,y+r*n+r*n,C⟩) ⟨_,_,_,_,c3⟩ ⟨_,_,_,_,r1⟩⟩
 rw [hR]
 exact zUm h h' ha hb hc hx hy hz hsB hhB hp hq heB hu ht hm hn hdB hr hC e1 e2 e3 e4 e5 e6 e7 e8 e9 e10 e11 e12 rfl zm m0 zm d20

theorem zT9 {w:World} {v v':Value} {a b c x y z:Int} (h:(f3 a b c).P v w) (h':(f3 x y z).P v' w) (ha:ab a<pw 2) (hb:ab b<pw 2) (hc:ab c<pw 2) (hx:ab x<pw 2) (hy:ab y<pw 2) (hz:ab z<pw 2) (k1:¬ rfE a b c=0) :
  Rt 53 #[v,v'] w fun v' w'=>(Fq.tup2 (f3 0 0 0) (Fq.is (.int .i64 (rfE a b c)))).P v' w':=by
 replace ha:=hidd ha
 replace hb:=hidd hb
 replace hc:=hidd hc
 replace hx:=hidd hx
 replace hy:=hidd hy
 replace hz:=hidd hz
 obtain ⟨er1,he1⟩:∃ e,e=rfE a b c:=⟨_,rfl⟩
 obtain ⟨er2,he2⟩:∃ e,e=rfE x y z:=⟨_,rfl⟩
 have D1:=hidd (zCn ha.out hb.out hc.out)
 have D2:=hidd (zCn hx.out hy.out hz.out)
 rw [← he1] at k1 ⊢
 have T1:=hidd k1
 clear k1
 have HE1:=hidd he1.symm
 have HE2:=hidd he2.symm
 clear he1 he2
 obtain ⟨y0_p0,y0_q0,y0_p1,y0_q1,y0_p2,y0_q2,rfl,hF0⟩:=o3 h
 obtain ⟨y1_p0,y1_q0,y1_p1,y1_q1,y1_p2,y1_q2,rfl,hF1⟩:=o3 h'
 obtain ⟨w1,b1,hw1,hb1,hs1,E⟩:=gS w 38 hF0
 obtain ⟨w2,b2,hw2,hb2,hs2,E⟩:=fS E hs1 38 hF1
 obtain ⟨w3,b3,hw3,hb3,hs3,E⟩:=fO E hs2 38 zAt
 go_enter Tryz.func53,Tryz.ntmps53
 go_upto_region 1 with (fail)
 rw [← hw1,← hw2]
 rw [← hw3,← hb3]
 rw [← hb2,← hb1]
 clear hw1 hw2 hw3 hb1 hb2 hb3 hs3 hs1 hs2
 refine rz [.w (f3 a b c),.i er1,.i er1] N3 [] E (fun hp=>⟨lS 0 6 hp J2 zAc zw,zc hp zDf zi fun v w h=>zDg h (zu ha.out) (zu hb.out) (zu hc.out) (zu D1.out) HE1.out,zS,tv⟩) ?_
 intro w4 E _ _
 simp only [rzE] at E ⊢
 go_upto_region 2 with (fail)
 refine rz [.i er1,.t] N3 [] E (fun hp=>⟨zS,zO hp (sqi 0) T1.out,tv⟩) ?_
 intro w5 E _ _
 simp only [rzE] at E ⊢
 go_upto_region 3 with (fail)
 refine rz [.w (f3 0 0 0),.i er1,.a,.i er1] [some (2,f3 0 0 0),none,none] [] E (fun hp=>⟨zFn hp fo tv (fun v w h=>h),zS,sO 0 0 hp J0 zAn zw,zS,tv⟩) ?_
 intro w6 E _ _
 simp only [rzE] at E ⊢
 clear HE1 HE2 T1
 obtain ⟨_,_,hccr,hffr⟩:=zAv (E.box 0 rfl)
 have hPr:=hffr
 obtain ⟨r_p0,r_q0,_,rfl,_r_n0,r_p1,r_q1,_,rfl,_r_n1,r_p2,r_q2,_,rfl,_r_n2,rfl⟩:=hffr
 have crz:=c6 hccr
 simp only [List.getD_cons_zero,List.getD_cons_succ] at crz
 clear hccr
 clear ha hb hc hx hy hz D1 D2
 go_wp2
 exact zR (v:=.tuple #[.agg #[r_p0,r_q0,r_p1,r_q1,r_p2,r_q2],.int .i64 er1]) (by simp [results,Tryz.results53,go_sem,crz]) E.below ⟨_,_,rfl,⟨_,rfl,hPr⟩,rfl⟩

theorem zUa {w:World} {v v':Value} {a b c x y z:Int} (h:(f3 a b c).P v w) (h':(f3 x y z).P v' w) (ha:ab a<pw 2) (hb:ab b<pw 2) (hc:ab c<pw 2) (hx:ab x<pw 2) (hy:ab y<pw 2) (hz:ab z<pw 2) (k1:rfE a b c=0) (k2:¬ rfE x y z=0) :
  Rt 53 #[v,v'] w fun v' w'=>(Fq.tup2 (f3 0 0 0) (Fq.is (.int .i64 (rfE x y z)))).P v' w':=by
 replace ha:=hidd ha
 replace hb:=hidd hb
 replace hc:=hidd hc
 replace hx:=hidd hx
 replace hy:=hidd hy
 replace hz:=hidd hz
 obtain ⟨er1,he1⟩:∃ e,e=rfE a b c:=⟨_,rfl⟩
 obtain ⟨er2,he2⟩:∃ e,e=rfE x y z:=⟨_,rfl⟩
 have D1:=hidd (zCn ha.out hb.out hc.out)
 have D2:=hidd (zCn hx.out hy.out hz.out)
 rw [← he2] at k2 ⊢
 rw [← he1] at k1
 have T1:=hidd k1
 clear k1
 have T2:=hidd k2
 clear k2
 have HE1:=hidd he1.symm
 have HE2:=hidd he2.symm
 clear he1 he2
 obtain ⟨y0_p0,y0_q0,y0_p1,y0_q1,y0_p2,y0_q2,rfl,hF0⟩:=o3 h
 obtain ⟨y1_p0,y1_q0,y1_p1,y1_q1,y1_p2,y1_q2,rfl,hF1⟩:=o3 h'
 obtain ⟨w1,b1,hw1,hb1,hs1,E⟩:=gS w 38 hF0
 obtain ⟨w2,b2,hw2,hb2,hs2,E⟩:=fS E hs1 38 hF1
 obtain ⟨w3,b3,hw3,hb3,hs3,E⟩:=fO E hs2 38 zAt
 go_enter Tryz.func53,Tryz.ntmps53
 go_upto_region 1 with (fail)
 rw [← hw1,← hw2]
 rw [← hw3,← hb3]
 rw [← hb2,← hb1]
 clear hw1 hw2 hw3 hb1 hb2 hb3 hs3 hs1 hs2
 refine rz [.w (f3 a b c),.i er1,.i er1] N3 [] E (fun hp=>⟨lS 0 6 hp J2 zAc zw,zc hp zDf zi fun v w h=>zDg h (zu ha.out) (zu hb.out) (zu hc.out) (zu D1.out) HE1.out,zS,tv⟩) ?_
 intro w4 E _ _
 simp only [rzE] at E ⊢
 go_upto_region 2 with (fail)
 refine rz [.i er1,.o] N3 [] E (fun hp=>⟨zS,zO hp (sqi 0) T1.out,tv⟩) ?_
 intro w5 E _ _
 simp only [rzE] at E ⊢
 go_upto_region 4 with (fail)
 refine rz [.w (f3 x y z),.i er2,.i er2] N3 [] E (fun hp=>⟨lS 0 6 hp J1 zAc zw,zc hp zDf zi fun v w h=>zDg h (zu hx.out) (zu hy.out) (zu hz.out) (zu D2.out) HE2.out,zS,tv⟩) ?_
 intro w6 E _ _
 simp only [rzE] at E ⊢
 go_upto_region 5 with (fail)
 refine rz [.i er2,.t] N3 [] E (fun hp=>⟨zS,zO hp (sqi 0) T2.out,tv⟩) ?_
 intro w7 E _ _
 simp only [rzE] at E ⊢
 go_upto_region 6 with (fail)
 refine rz [.w (f3 0 0 0),.i er2,.a,.i er2] [some (2,f3 0 0 0),none,none] [] E (fun hp=>⟨zFn hp fo tv (fun v w h=>h),zS,sO 0 0 hp J0 zAn zw,zS,tv⟩) ?_
 intro w8 E _ _
 simp only [rzE] at E ⊢
 clear HE1 HE2 T1 T2
 obtain ⟨_,_,hccr,hffr⟩:=zAv (E.box 0 rfl)
 have hPr:=hffr
 obtain ⟨r_p0,r_q0,_,rfl,_r_n0,r_p1,r_q1,_,rfl,_r_n1,r_p2,r_q2,_,rfl,_r_n2,rfl⟩:=hffr
 have crz:=c6 hccr
 simp only [List.getD_cons_zero,List.getD_cons_succ] at crz
 clear hccr
 clear ha hb hc hx hy hz D1 D2
 go_wp2
 exact zR (v:=.tuple #[.agg #[r_p0,r_q0,r_p1,r_q1,r_p2,r_q2],.int .i64 er2]) (by simp [results,Tryz.results53,go_sem,crz]) E.below ⟨_,_,rfl,⟨_,rfl,hPr⟩,rfl⟩

theorem zT8 {w:World} {v v':Value} {a b c x y z:Int} (h:(f3 a b c).P v w) (h':(f3 x y z).P v' w) (ha:ab a<pw 2) (hb:ab b<pw 2) (hc:ab c<pw 2) (hx:ab x<pw 2) (hy:ab y<pw 2) (hz:ab z<pw 2) (k1:rfE a b c=0) (k2:rfE x y z=0) (k3:¬ (b*b-4*(a*c))=(y*y-4*(x*z))) :
  Rt 53 #[v,v'] w fun v' w'=>(Fq.tup2 (f3 0 0 0) (Fq.is (.int .i64 5))).P v' w':=by
 replace ha:=hidd ha
 replace hb:=hidd hb
 replace hc:=hidd hc
 replace hx:=hidd hx
 replace hy:=hidd hy
 replace hz:=hidd hz
 obtain ⟨er1,he1⟩:∃ e,e=rfE a b c:=⟨_,rfl⟩
 obtain ⟨er2,he2⟩:∃ e,e=rfE x y z:=⟨_,rfl⟩
 have D1:=hidd (zCn ha.out hb.out hc.out)
 have D2:=hidd (zCn hx.out hy.out hz.out)
 rw [← he1] at k1
 have T1:=hidd k1
 clear k1
 rw [← he2] at k2
 have T2:=hidd k2
 have T3:Hid (¬ cmpI (b*b-4*(a*c)) (y*y-4*(x*z))=0):=fun e=>k3 (cmpI_eq0.1 e)
 clear k2 k3
 have HE1:=hidd he1.symm
 have HE2:=hidd he2.symm
 clear he1 he2
 obtain ⟨y0_p0,y0_q0,y0_p1,y0_q1,y0_p2,y0_q2,rfl,hF0⟩:=o3 h
 obtain ⟨y1_p0,y1_q0,y1_p1,y1_q1,y1_p2,y1_q2,rfl,hF1⟩:=o3 h'
 obtain ⟨w1,b1,hw1,hb1,hs1,E⟩:=gS w 38 hF0
 obtain ⟨w2,b2,hw2,hb2,hs2,E⟩:=fS E hs1 38 hF1
 obtain ⟨w3,b3,hw3,hb3,hs3,E⟩:=fO E hs2 38 zAt
 go_enter Tryz.func53,Tryz.ntmps53
 go_upto_region 1 with (fail)
 rw [← hw1,← hw2]
 rw [← hw3,← hb3]
 rw [← hb2,← hb1]
 clear hw1 hw2 hw3 hb1 hb2 hb3 hs3 hs1 hs2
 refine rz [.w (f3 a b c),.i er1,.i er1] N3 [] E (fun hp=>⟨lS 0 6 hp J2 zAc zw,zc hp zDf zi fun v w h=>zDg h (zu ha.out) (zu hb.out) (zu hc.out) (zu D1.out) HE1.out,zS,tv⟩) ?_
 intro w4 E _ _
 simp only [rzE] at E ⊢
 go_upto_region 2 with (fail)
 refine rz [.i er1,.o] N3 [] E (fun hp=>⟨zS,zO hp (sqi 0) T1.out,tv⟩) ?_
 intro w5 E _ _
 simp only [rzE] at E ⊢
 go_upto_region 4 with (fail)
 refine rz [.w (f3 x y z),.i er2,.i er2] N3 [] E (fun hp=>⟨lS 0 6 hp J1 zAc zw,zc hp zDf zi fun v w h=>zDg h (zu hx.out) (zu hy.out) (zu hz.out) (zu D2.out) HE2.out,zS,tv⟩) ?_
 intro w6 E _ _
 simp only [rzE] at E ⊢
 go_upto_region 5 with (fail)
 refine rz [.i er2,.o] N3 [] E (fun hp=>⟨zS,zO hp (sqi 0) T2.out,tv⟩) ?_
 intro w7 E _ _
 simp only [rzE] at E ⊢
 go_upto_region 7 with (fail)
 refine rz [.w (f3 a b c),.n (b*b-4*(a*c)),.w (f3 x y z),.n (y*y-4*(x*z)),.i (cmpI (b*b-4*(a*c)) (y*y-4*(x*z))),.t] N3 [] E (fun hp=>⟨lS 0 6 hp J2 zAc zw,zc hp zC5 zi fun v w h=>zC6 h (zu ha.out) (zu hb.out) (zu hc.out),lS 0 6 hp J1 zAc zw,zc hp zC5 zi fun v w h=>zC6 h (zu hx.out) (zu hy.out) (zu hz.out),zC hp zA2 zi zi fun v v' w h h'=>zA4 h h',zO hp (sqi 4) T3.out,tv⟩) ?_
 intro w8 E _ _
 simp only [rzE] at E ⊢
 go_upto_region 8 with (fail)
 refine rz [.w (f3 0 0 0),.a,.i 5] [some (1,f3 0 0 0),none,none] [] E (fun hp=>⟨zFn hp fo tv (fun v w h=>h),sO 0 0 hp J0 zAn zw,zS,tv⟩) ?_
 intro w9 E _ _
 simp only [rzE] at E ⊢
 clear HE1 HE2 T1 T2 T3
 obtain ⟨_,_,hccr,hffr⟩:=zAv (E.box 0 rfl)
 have hPr:=hffr
 obtain ⟨r_p0,r_q0,_,rfl,_r_n0,r_p1,r_q1,_,rfl,_r_n1,r_p2,r_q2,_,rfl,_r_n2,rfl⟩:=hffr
 have crz:=c6 hccr
 simp only [List.getD_cons_zero,List.getD_cons_succ] at crz
 clear hccr
 clear ha hb hc hx hy hz D1 D2
 go_wp2
 exact zR (v:=.tuple #[.agg #[r_p0,r_q0,r_p1,r_q1,r_p2,r_q2],.int .i64 5]) (by simp [results,Tryz.results53,go_sem,crz]) E.below ⟨_,_,rfl,⟨_,rfl,hPr⟩,rfl⟩

theorem zUb {w:World} {v v':Value} {a b c x y z:Int} (h:(f3 a b c).P v w) (h':(f3 x y z).P v' w) (ha:ab a<pw 2) (hb:ab b<pw 2) (hc:ab c<pw 2) (hx:ab x<pw 2) (hy:ab y<pw 2) (hz:ab z<pw 2) (k1:rfE a b c=0) (k2:rfE x y z=0) (k3:(b*b-4*(a*c))=(y*y-4*(x*z))) :
  Rt 53 #[v,v'] w fun v' w'=>(Fq.tup2 (Fq.st [.n (mulF (b*b-4*(a*c)) ⟨a,b,c⟩ ⟨x,y,z⟩).a,.n (mulF (b*b-4*(a*c)) ⟨a,b,c⟩ ⟨x,y,z⟩).b,.n (mulF (b*b-4*(a*c)) ⟨a,b,c⟩ ⟨x,y,z⟩).c]) (Fq.is (.int .i64 0))).P v' w':=by
 replace ha:=hidd ha
 replace hb:=hidd hb
 replace hc:=hidd hc
 replace hx:=hidd hx
 replace hy:=hidd hy
 replace hz:=hidd hz
 obtain ⟨er1,he1⟩:∃ e,e=rfE a b c:=⟨_,rfl⟩
 obtain ⟨er2,he2⟩:∃ e,e=rfE x y z:=⟨_,rfl⟩
 have D1:=hidd (zCn ha.out hb.out hc.out)
 have D2:=hidd (zCn hx.out hy.out hz.out)
 have q1:=sf_of k1
 have q2:=sf_of k2
 have q3:=q2.1
 rw [← k3] at q3
 have S1:=hidd q1.1
 have S2:=hidd q3
 have S3:=hidd q1.2
 clear q1 q2 q3
 rw [← he1] at k1
 have T1:=hidd k1
 clear k1
 rw [← he2] at k2
 have T2:=hidd k2
 have T3:Hid (cmpI (b*b-4*(a*c)) (y*y-4*(x*z))=0):=cmpI_eq0.2 k3
 clear k2 k3
 have HE1:=hidd he1.symm
 have HE2:=hidd he2.symm
 clear he1 he2
 obtain ⟨y0_p0,y0_q0,y0_p1,y0_q1,y0_p2,y0_q2,rfl,hF0⟩:=o3 h
 obtain ⟨y1_p0,y1_q0,y1_p1,y1_q1,y1_p2,y1_q2,rfl,hF1⟩:=o3 h'
 obtain ⟨w1,b1,hw1,hb1,hs1,E⟩:=gS w 38 hF0
 obtain ⟨w2,b2,hw2,hb2,hs2,E⟩:=fS E hs1 38 hF1
 obtain ⟨w3,b3,hw3,hb3,hs3,E⟩:=fO E hs2 38 zAt
 go_enter Tryz.func53,Tryz.ntmps53
 go_upto_region 1 with (fail)
 rw [← hw1,← hw2]
 rw [← hw3,← hb3]
 rw [← hb2,← hb1]
 clear hw1 hw2 hw3 hb1 hb2 hb3 hs3 hs1 hs2
 refine rz [.w (f3 a b c),.i er1,.i er1] N3 [] E (fun hp=>⟨lS 0 6 hp J2 zAc zw,zc hp zDf zi fun v w h=>zDg h (zu ha.out) (zu hb.out) (zu hc.out) (zu D1.out) HE1.out,zS,tv⟩) ?_
 intro w4 E _ _
 simp only [rzE] at E ⊢
 go_upto_region 2 with (fail)
 refine rz [.i er1,.o] N3 [] E (fun hp=>⟨zS,zO hp (sqi 0) T1.out,tv⟩) ?_
 intro w5 E _ _
 simp only [rzE] at E ⊢
 go_upto_region 4 with (fail)
 refine rz [.w (f3 x y z),.i er2,.i er2] N3 [] E (fun hp=>⟨lS 0 6 hp J1 zAc zw,zc hp zDf zi fun v w h=>zDg h (zu hx.out) (zu hy.out) (zu hz.out) (zu D2.out) HE2.out,zS,tv⟩) ?_
 intro w6 E _ _
 simp only [rzE] at E ⊢
 go_upto_region 5 with (fail)
 refine rz [.i er2,.o] N3 [] E (fun hp=>⟨zS,zO hp (sqi 0) T2.out,tv⟩) ?_
 intro w7 E _ _
 simp only [rzE] at E ⊢
 go_upto_region 7 with (fail)
 refine rz [.w (f3 a b c),.n (b*b-4*(a*c)),.w (f3 x y z),.n (y*y-4*(x*z)),.i (cmpI (b*b-4*(a*c)) (y*y-4*(x*z))),.o] N3 [] E (fun hp=>⟨lS 0 6 hp J2 zAc zw,zc hp zC5 zi fun v w h=>zC6 h (zu ha.out) (zu hb.out) (zu hc.out),lS 0 6 hp J1 zAc zw,zc hp zC5 zi fun v w h=>zC6 h (zu hx.out) (zu hy.out) (zu hz.out),zC hp zA2 zi zi fun v v' w h h'=>zA4 h h',zO hp (sqi 4) T3.out,tv⟩) ?_
 intro w8 E _ _
 simp only [rzE] at E ⊢
 go_upto_region 9 with (fail)
 refine rz [.w (f3 a b c),.w (f3 x y z),.w (Fq.st [.n ((mulF (b*b-4*(a*c)) ⟨a,b,c⟩ ⟨x,y,z⟩).a),.n ((mulF (b*b-4*(a*c)) ⟨a,b,c⟩ ⟨x,y,z⟩).b),.n ((mulF (b*b-4*(a*c)) ⟨a,b,c⟩ ⟨x,y,z⟩).c)]),.a,.i 0] [some (3,Fq.st [.n ((mulF (b*b-4*(a*c)) ⟨a,b,c⟩ ⟨x,y,z⟩).a),.n ((mulF (b*b-4*(a*c)) ⟨a,b,c⟩ ⟨x,y,z⟩).b),.n ((mulF (b*b-4*(a*c)) ⟨a,b,c⟩ ⟨x,y,z⟩).c)]),none,none] [] E (fun hp=>⟨lS 0 6 hp J2 zAc zw,lS 0 6 hp J1 zAc zw,zC hp zHs zi zi fun v v' w h h'=>zO9 h h' ha.out hb.out hc.out hx.out hy.out hz.out S1.out S2.out S3.out,sO 0 2 hp J0 zAn zw,zS,tv⟩) ?_
 intro w9 E _ _
 simp only [rzE] at E ⊢
 clear HE1 HE2 S1 S2 S3 T3 T1 T2
 obtain ⟨_,_,hccr,hffr⟩:=zAv (E.box 0 rfl)
 have hPr:=hffr
 obtain ⟨r_p0,r_q0,_,rfl,_r_n0,r_p1,r_q1,_,rfl,_r_n1,r_p2,r_q2,_,rfl,_r_n2,rfl⟩:=hffr
 have crz:=c6 hccr
 simp only [List.getD_cons_zero,List.getD_cons_succ] at crz
 clear hccr
 clear ha hb hc hx hy hz D1 D2
 go_wp2
 exact zR (v:=.tuple #[.agg #[r_p0,r_q0,r_p1,r_q1,r_p2,r_q2],.int .i64 0]) (by simp [results,Tryz.results53,go_sem,crz]) E.below ⟨_,_,rfl,⟨_,rfl,hPr⟩,rfl⟩

theorem zT7 {w:World} {v v':Value} {a b c x y z:Int} (h:(f3 a b c).P v w) (h':(f3 x y z).P v' w) (ha:ab a<pw 2) (hb:ab b<pw 2) (hc:ab c<pw 2) (hx:ab x<pw 2) (hy:ab y<pw 2) (hz:ab z<pw 2) :
  Rt 53 #[v,v'] w fun v' w'=>(Fq.tup2 (Fq.st [.n (cmF a b c x y z).a,.n (cmF a b c x y z).b,.n (cmF a b c x y z).c]) (Fq.is (.int .i64 (cmE a b c x y z)))).P v' w':=by
 by_cases k1:rfE a b c=0
 ·by_cases k2:rfE x y z=0
  ·by_cases k3:(b*b-4*(a*c))=(y*y-4*(x*z))
   ·have e:cmE a b c x y z=0:=by unfold cmE;rw [if_pos k1,if_pos k2,if_pos k3]
    unfold cmF
    rw [if_pos e,e]
    exact zUb h h' ha hb hc hx hy hz k1 k2 k3
   ·have e:cmE a b c x y z=5:=by unfold cmE;rw [if_pos k1,if_pos k2,if_neg k3]
    unfold cmF
    rw [if_neg (by rw [e];decide),e]
    exact zT8 h h' ha hb hc hx hy hz k1 k2 k3
  ·have e:cmE a b c x y z=rfE x y z:=by unfold cmE;rw [if_pos k1,if_neg k2]
   unfold cmF
   rw [if_neg (by rw [e];exact k2),e]
   exact zUa h h' ha hb hc hx hy hz k1 k2
 ·have e:cmE a b c x y z=rfE a b c:=by unfold cmE;rw [if_neg k1]
  unfold cmF
  rw [if_neg (by rw [e];exact k1),e]
  exact zT9 h h' ha hb hc hx hy hz k1

section
variable {os : List Oper} {Q : Exit → Act → World → Prop} {a : Act} {p : Pq} {B B0 : Nat} {w0 : World}
variable {i s : Nat} {d : Option Tmp} {ty : TypeId} {ps : String} {af : Array Edge} {gd : Option (Nat × Bool)}
theorem zNk {f:FuncId} {F:Value→World→Prop} (hF:∀ w,F (.func (.func f) #[] #[]) w):SrcQ os a p B B0 w0 af (.func f) F:=fun _ _ _ _ _=>hF _
theorem zSc {f0:Operand} {g:FuncId} {xs:Array Operand} {ts:Array TypeId} (hp:p.Ok B B0) (hF:p.Free i) (hg:GdQ os a p B B0 w0 af gd) (hen:∀ args w,(callFunc g args).run Tryz.prog w=.ok (.enter g args) w)
  (hr:∀ L vs w,p.G B B0 w0 L vs w→(∀ e∈af,Region.binds .any e=true→L e.on=true)→∃ args,xs.map (lay os.toArray L vs os.toArray.size a).eval=args∧(lay os.toArray L vs os.toArray.size a).eval f0=.func (.func g) #[] #[] ∧
   Calls Tryz.prog g args w fun e w'=>∃ v',e=.returned v'∧Below w.heap.size w w'∧(p.c i).P v' w') :
  zAf os Q a p B B0 w0 i { dst:=d,op:=.call { callee:=.value f0,args:=xs,argTypes:=ts },type:=ty,pos:=ps,after:=af,guard:=gd }:=by
 intro hio L vs w hG hL hd hc
 refine wpOp_step hio fun K' hK=>?_
 obtain ⟨args,hx,hf,hC⟩:=hr L vs w hG hd
 rw [if_pos (zE2 (o:={ dst:=d,op:=.call { callee:=.value f0,args:=xs,argTypes:=ts },type:=ty,pos:=ps,after:=af,guard:=gd }) hg hG hd)]
 have e:(execOp (lay os.toArray L vs os.toArray.size a).eval ({ dst:=d,op:=.call { callee:=.value f0,args:=xs,argTypes:=ts },type:=ty,pos:=ps,after:=af,guard:=gd }:Oper)).run Tryz.prog w=(.ok (.enter g args) w):=by
  generalize (lay os.toArray L vs os.toArray.size a).eval=ρ at hx hf
  simp [execOp,go_sem,hx,hf,hen]
 unfold Oper.wp
 rw [e]
 refine hC.mono ?_
 rintro e' w' ⟨v',rfl,hb,h⟩
 exact hK _ _ ⟨_,rfl,hG.plain hp hF hb h⟩
theorem zRj {f0 x y:Operand} {F G:Value→World→Prop} {f:FuncId} {ts:Array TypeId} (hp:p.Ok B B0) (hF:p.Free i) (hg:GdQ os a p B B0 w0 af gd) (hen:∀ args w,(callFunc f args).run Tryz.prog w=.ok (.enter f args) w)
  (hf:SrcQ os a p B B0 w0 af f0 fun v _=>v=.func (.func f) #[] #[]) (hx:SrcQ os a p B B0 w0 af x F) (hy:SrcQ os a p B B0 w0 af y G) (hC:∀ v v' w,F v w→G v' w→Calls Tryz.prog f #[v,v'] w fun e w'=>∃ v',e=.returned v'∧Below w.heap.size w w'∧(p.c i).P v' w') :
  zAf os Q a p B B0 w0 i { dst:=d,op:=.call { callee:=.value f0,args:=#[x,y],argTypes:=ts },type:=ty,pos:=ps,after:=af,guard:=gd }:=
 zSc hp hF hg hen fun L vs w hG hd=>⟨#[_,_],by simp,hf L vs w hG hd,hC _ _ _ (hx L vs w hG hd) (hy L vs w hG hd)⟩
theorem zM1 {f0 x:Operand} {F:Value→World→Prop} {f:FuncId} {ts:Array TypeId} (hp:p.Ok B B0) (hF:p.Free i) (hg:GdQ os a p B B0 w0 af gd) (hen:∀ args w,(callFunc f args).run Tryz.prog w=.ok (.enter f args) w)
  (hf:SrcQ os a p B B0 w0 af f0 fun v _=>v=.func (.func f) #[] #[]) (hx:SrcQ os a p B B0 w0 af x F) (hC:∀ v w,F v w→Calls Tryz.prog f #[v] w fun e w'=>∃ v',e=.returned v'∧Below w.heap.size w w'∧(p.c i).P v' w') :
  zAf os Q a p B B0 w0 i { dst:=d,op:=.call { callee:=.value f0,args:=#[x],argTypes:=ts },type:=ty,pos:=ps,after:=af,guard:=gd }:=
 zSc hp hF hg hen fun L vs w hG hd=>⟨#[_],by simp,hf L vs w hG hd,hC _ _ (hx L vs w hG hd)⟩
theorem zW9 {n0:Nb} {f0 x y:Operand} {g:FuncId} {ts:Array TypeId} {F G:Value→World→Prop} (hp:p.Ok B B0) (hF:p.Free i) (hg:GdQ os a p B B0 w0 af gd) (hen:∀ args w,(callFunc g args).run Tryz.prog w=.ok (.enter g args) w) (hi:n0∈p.new) (hsl:n0.s=some (.clo g))
  (hf:∀ L vs w,p.G B B0 w0 L vs w→(∀ e∈af,Region.binds .any e=true→L e.on=true)→L n0.i=true∧(lay os.toArray L vs os.toArray.size a).eval f0=vs n0.i) (hx:SrcQ os a p B B0 w0 af x F) (hy:SrcQ os a p B B0 w0 af y G)
  (hC:∀ v v' b w,F v w→G v' w→Bq w b n0.m n0.F1→Calls Tryz.prog g #[v,v',.pointer (some ⟨b,0,none⟩)] w fun e w'=>∃ v',e=.returned v'∧Below w.heap.size w w'∧(p.c i).P v' w') :
  zAf os Q a p B B0 w0 i { dst:=d,op:=.call { callee:=.value f0,args:=#[x,y],argTypes:=ts },type:=ty,pos:=ps,after:=af,guard:=gd }:=
 zKt hp hF hg hen fun L vs w hG hd=>by
  obtain ⟨hLi,hye⟩:=hf L vs w hG hd
  obtain ⟨b,e1,_,hb⟩:=hG.new _ hi hLi
  have hptr:n0.ptr b=cloV g b:=by unfold Nb.ptr;rw [hsl]
  have hnow:n0.now L=n0.F1:=by
   unfold Nb.now
   rw [hsl]
   rfl
  rw [hnow] at hb
  exact ⟨_,b,rfl,by rw [hye,e1,hptr],by simpa using hC _ _ b w (hx L vs w hG hd) (hy L vs w hG hd) hb⟩
theorem zIh {o:Ob} {f0 x y:Operand} {g:FuncId} {ts:Array TypeId} {F G:Value→World→Prop} (hp:p.Ok B B0) (hF:p.Free i) (hg:GdQ os a p B B0 w0 af gd) (hen:∀ args w,(callFunc g args).run Tryz.prog w=.ok (.enter g args) w) (ho:o∈p.old) (hk:o.F1=o.F0)
  (hf:SrcQ os a p B B0 w0 af f0 fun v _=>v=cloV g o.b) (hx:SrcQ os a p B B0 w0 af x F) (hy:SrcQ os a p B B0 w0 af y G)
  (hC:∀ v v' w,F v w→G v' w→Bq w o.b o.m o.F0→Calls Tryz.prog g #[v,v',.pointer (some ⟨o.b,0,none⟩)] w fun e w'=>∃ v',e=.returned v'∧Below w.heap.size w w'∧(p.c i).P v' w') :
  zAf os Q a p B B0 w0 i { dst:=d,op:=.call { callee:=.value f0,args:=#[x,y],argTypes:=ts },type:=ty,pos:=ps,after:=af,guard:=gd }:=
 zKt hp hF hg hen fun L vs w hG hd=>by
  have hb:=hG.old o ho
  rw [hk] at hb
  exact ⟨_,o.b,rfl,hf L vs w hG hd,by simpa using hC _ _ w (hx L vs w hG hd) (hy L vs w hG hd) (by simpa using hb)⟩
end
theorem Bq.stAt {w w':World} {b m:Nat} {fs:List Fd} (h:Bq w b m (Fq.st fs)) (hb:Below w.heap.size w w'):StAt w' b 0 fs:=by
 obtain ⟨us,hl,h0,hat,ht,us2,e,hf⟩:=h.mono hb
 injection e with e
 have e2:us=us2:=by simpa using congrArg Array.toList e
 subst e2
 exact ⟨us,hf,fun j hj=>by rw [Nat.zero_add];exact (hat j hj).1⟩
def Sm (P:F3):Prop:=ab P.a<pw 2∧ab P.b<pw 2∧ab P.c<pw 2
structure GC (D:Int):Prop where
 neg:D<0
 ab6:ab D<pw 6
 sm:∀ P,Gm D P→Sm P
theorem gm_small {D:Int} (h:D<0) (h0:-2000000000≤D) {P:F3} (hP:Gm D P):P.a.natAbs≤2000000000∧P.b.natAbs≤2000000000∧P.c.natAbs≤2000000000:=by
 obtain ⟨h1,hr⟩:=hP
 have h2:=hr.lo
 have h3:=hr.hi
 have h4:=hr.ac
 have hd:=h1.disc
 have ha:=h1.pos
 have e1:P.b*P.b≤P.a*P.a:=by
  rw [← zD2 P.b]
  exact Int.mul_le_mul zm zm zm zm
 have e2:P.a*P.a≤P.a*P.c:=Int.mul_le_mul_of_nonneg_left h4 zm
 have e3:1*P.c≤P.a*P.c:=Int.mul_le_mul_of_nonneg_right ha zm
 omega
theorem zFy {x:Int} (h:x.natAbs≤4611686018427387904):ab x<pw 2:=by
 have e:pw 2=18446744073709551616:=by decide
 rw [e]
 unfold ab
 omega
theorem GC.of {D:Int} (h:D<0) (h0:-2000000000≤D):GC D:=
 ⟨h,zu (zFy zm),fun P hP=>by have:=gm_small h h0 hP;exact ⟨zFy zm,zFy zm,zFy zm⟩⟩
theorem zJm {w:World} {v v':Value} {D:Int} {P Q:F3} (hC:D<0) (hP:Sc D P) (hQ:Sc D Q) (sP:Sm P) (sQ:Sm Q) (h:(f3 P.a P.b P.c).P v w) (h':(f3 Q.a Q.b Q.c).P v' w):Calls Tryz.prog 65 #[v,v'] w fun e w'=>∃ v',e=.returned v'∧Below w.heap.size w w'∧(Fq.st [.n (mulF D P Q).a,.n (mulF D P Q).b,.n (mulF D P Q).c]).P v' w':=by
 have hd:=hP.disc
 have hh:=zO9 h h' sP.1 sP.2.1 sP.2.2 sQ.1 sQ.2.1 sQ.2.2 (by rw [hd];exact hP) (by rw [hd];exact hQ) (by rw [hd];exact hC)
 rw [hd] at hh
 exact hh
theorem zPx (N i:Nat):N/2^(i+1)=N/2^i/2:=by rw [Nat.pow_succ,Nat.div_div_eq_div_mul]
theorem top_bit {N k:Nat} (h1:2^k≤N) (h2:N<2^(k+1)):N/2^k=1:=by
 have hp:0<2^k:=Nat.pow_pos zm
 rw [Nat.pow_succ] at h2
 have a1:1≤N/2^k:=(Nat.le_div_iff_mul_le hp).2 zm
 have a2:N/2^k<2:=(Nat.div_lt_iff_lt_mul hp).2 zm
 omega
theorem nbits_log {z:Int} (h:z≠0):∃ k,zA8 z=k+1∧z.natAbs/2^k=1:=by
 have h0:z.natAbs≠0:=zm
 refine ⟨z.natAbs.log2,by unfold zA8;rw [if_neg h],top_bit (Nat.log2_self_le h0) Nat.lt_log2_self⟩
section
variable {D : Int} (hD : D < 0) (h4 : D % 4 = 0 ∨ D % 4 = 1)
include hD h4
theorem pw_dbl {X:F3} (hX:Sc D X) (q:Nat):mulF D (pwF D X q) (pwF D X q)=pwF D X (2*q):=by
 rw [show 2*q=q+q by omega]
 exact (zG9 hD h4 hX q q).symm
end
noncomputable def rdF (P:F3):F3:=⟨(redT P.a P.b P.c).fa,(redT P.a P.b P.c).fb,(redT P.a P.b P.c).fc⟩
theorem zGn {D:Int} {P:F3} (hD:D<0) (hP:Sc D P) (sP:Sm P):Gm D (rdF P)∧Eqv P (rdF P):=by
 have h5:∀ {x:Int},ab x<pw 2→ab x<pw 5:=fun h=>zu h
 obtain ⟨r1,r2⟩:=redT_in (h5 sP.1) (h5 sP.2.1) (h5 sP.2.2) (zFs (by rw [hP.disc];exact hD) hP.pos)
 have e:Eqv P (rdF P):=⟨_,_,_,_,r1⟩
 exact ⟨⟨e.sc hD hP,r2⟩,e⟩
theorem rdF_gm {D:Int} {P:F3} (hD:D<0) (hP:Gm D P) (sP:Sm P):rdF P=P:=by
 obtain ⟨h1,h2⟩:=zGn hD hP.1 sP
 exact zIj h2 (.rfl' P) h1.2 hP.2 |>.symm
theorem Sm.op {P:F3} (h:Sm P):Sm (opF P):=⟨h.1,(fun {x:Int} {k:Int} (h:ab x<k)=>show ab (-x)<k by unfold ab;rw [Int.natAbs_neg];exact h) h.2.1,h.2.2⟩
theorem zLo {w:World} {v:Value} {P:F3} {D:Int} (hD:D<0) (hP:Sc D P) (sP:Sm P) (h:(f3 P.a P.b P.c).P v w):Calls Tryz.prog 59 #[v] w fun e w'=>∃ v',e=.returned v'∧Below w.heap.size w w'∧(Fq.st [.n (rdF P).a,.n (rdF P).b,.n (rdF P).c]).P v' w':=by
 have hx:=Int.lt_of_lt_of_le (zCn sP.1 sP.2.1 sP.2.2) (zBu (show 6≤20 by omega))
 exact zLp h (zu sP.1) (zu sP.2.1) (zu sP.2.2) hx
theorem exPInvF {w:World} {v:Value} {P:F3} {D:Int} (hD:D<0) (hP:Sc D P) (sP:Sm P) (h:(f3 P.a P.b P.c).P v w):Calls Tryz.prog 29 #[v] w fun e w'=>∃ v',e=.returned v'∧Below w.heap.size w w'∧(Fq.tup2 (Fq.st [.n (rdF (opF P)).a,.n (rdF (opF P)).b,.n (rdF (opF P)).c]) (Fq.is (.int .i64 0))).P v' w':=by
 have h5:∀ {x:Int},ab x<pw 2→ab x<pw 5:=fun h=>zu h
 have he:=zFs (by rw [hP.disc];exact hD) hP.pos
 have hh:=zU5 h (h5 sP.1) (h5 sP.2.1) (h5 sP.2.2)
 have e:invT P.a P.b P.c=redT P.a (-P.b) P.c:=by unfold invT;rw [if_pos he]
 rw [he,e] at hh
 exact hh
theorem zJq {w:World} {v:Value} {D:Int} (h:Num w v D) (hd:ab D<pw 40) (hD:D<0) (h4:D % 4=0∨D % 4=1):Calls Tryz.prog 26 #[v] w fun e w'=>∃ v',e=.returned v'∧Below w.heap.size w w'∧(Fq.tup2 (Fq.st [.n (onF D).a,.n (onF D).b,.n (onF D).c]) (Fq.is (.int .i64 0))).P v' w':=
 zVi h hd zm (zIn hD)
theorem Fr.opnAt {w0 W:World} {bs:List (Nat × Nat × Fq)} (E:Fr w0 bs W) (k:Nat) {b:Nat} {z:Int} (hk:bs[k]?=some (b,2,Fq.num z)):∃ n a k' c xs,(z=sgn n (val xs)∧Canon xs∧xs.length=k'∧(n=true→k'≠0)∧Digs xs)∧(0<k'→∃ ab off,a=some ⟨ab,off,none⟩)∧Fr w0 (bs.set k (b,2,Fq.nraw n a k' c xs z)) W:=by
 obtain ⟨us,h1,h2,h3,h4,h5⟩:=(E.boxes _ (List.mem_of_getElem? hk)).2
 obtain ⟨neg,ao,k',c,xs,hv,hs,hn,hz,hc,hnn⟩:=id h5
 refine ⟨neg,ao,k',c,xs,⟨hz,hc,hs.len,hnn,hs.digs⟩,nraw_addr (v:=.agg us.toArray) (w:=W) (z:=z) ⟨hv,hs,h5⟩,E.below,fun x hx=>?_,?_⟩
 ·rcases List.mem_or_eq_of_mem_set hx with hx | rfl
  ·exact E.boxes x hx
  ·exact ⟨(E.boxes _ (List.mem_of_getElem? hk)).1,us,h1,h2,h3,h4,hv,hs,h5⟩
 ·have e:(bs.set k (b,2,Fq.nraw neg ao k' c xs z)).map (·.1)=bs.map (·.1):=by
   apply List.ext_getElem?
   intro i
   rw [List.getElem?_map,List.getElem?_map,List.getElem?_set]
   split
   ·rename_i hik
    subst hik
    rw [hk]
    split
    ·rfl
    ·rename_i hl
     exact absurd (List.getElem?_eq_some_iff.1 hk).1 hl
   ·rfl
  rw [e]
  exact E.apart
theorem zLa {D:Int} {P:F3} (s:Sm P) (h:Sc D P):ab D<pw 6:=by
 have hh:=zCn s.1 s.2.1 s.2.2
 rw [h.disc] at hh
 exact hh
theorem zFt {D:Int} {P:F3} (h:Sc D P) (hD:D<0):rfE P.a P.b P.c=0:=by
 have e:redE P.a P.b P.c=0:=zFs (by rw [h.disc];exact hD) h.pos
 have e2:cont P.a P.b P.c=1:=zQ8 h.prim
 unfold rfE
 rw [if_pos e,if_pos e2]
theorem zUj {w:World} {v v' u:Value} {O X:F3} (h:(f3 O.a O.b O.c).P v w) (h':(f3 X.a X.b X.c).P v' w) (g:Num w u 0) :
  Calls Tryz.prog 108 #[v,v',u,.func (.func 65) #[] #[]] w fun e w'=>∃ v',e=.returned v'∧Below w.heap.size w w'∧(f3 O.a O.b O.c).P v' w':=by
 have NB0:Hid (zA8 0=0):=by show _=_;decide
 have TWM:Hid (IntKind.i64.wrap (-1)=-1):=IntWalk.i64_in _ zm
 obtain ⟨y0_p0,y0_q0,y0_p1,y0_q1,y0_p2,y0_q2,rfl,hF0⟩:=o3 h
 obtain ⟨y1_p0,y1_q0,y1_p1,y1_q1,y1_p2,y1_q2,rfl,hF1⟩:=o3 h'
 obtain ⟨n2,ao2,k2,c2,rfl⟩:=g.parts
 obtain ⟨w1,b1,hw1,hb1,hs1,E⟩:=gS w 38 hF0
 obtain ⟨w2,b2,hw2,hb2,hs2,E⟩:=fS E hs1 38 hF1
 obtain ⟨w3,b3,hw3,hb3,hs3,E⟩:=zDm E hs2 (F:=Fq.num 0) (us:=[.bool n2,.slice ao2 k2 c2]) 36 rfl (by simp) (zCk _ _ _ _) (g.mono E.below)
 obtain ⟨w4,b4,hw4,hb4,hs4,E⟩:=fO E hs3 38 zAt
 go_enter Tryz.func108,Tryz.ntmps108
 go_upto_region 1 with (fail)
 rw [← hw1,← hw2]
 rw [← hw3,← hw4]
 rw [← hb4,← hb3]
 rw [← hb2,← hb1]
 clear hw1 hw2 hw3 hw4 hb1 hb2 hb3 hb4 hs4 hs1 hs2 hs3
 refine rz [.n 0,.i 0,.i (-1),.i (-1)] N4 [] E (fun hp=>⟨lI 0 hp J1 zw,zc hp zF2 zi fun v w h=>(by have hh:=zF9 h;rw [NB0.out] at hh;exact hh),zO hp (sqi 1) TWM.out,zS,tv⟩) ?_
 intro w5 E _ _
 simp only [rzE] at E ⊢
 go_upto_region 2 with (fail)
 refine rz [.i (-1),.t] N4 [] E (fun hp=>⟨zS,zo hp (sqi 0),tv⟩) ?_
 intro w6 E _ _
 simp only [rzE] at E ⊢
 go_upto_region 3 with (fail)
 refine rz [.w (f3 O.a O.b O.c),.a] [some (1,f3 O.a O.b O.c),none,none,none] [] E (fun hp=>⟨lS 0 6 hp J3 zAc zw,sO 0 0 hp J0 zAn zw,tv⟩) ?_
 intro w7 E _ _
 simp only [rzE] at E ⊢
 clear NB0 TWM
 obtain ⟨_,_,hc0,hf0⟩:=zAv (E.box 0 rfl)
 have hP0:=hf0
 obtain ⟨r0_p0,r0_q0,_,rfl,_r0_n0,r0_p1,r0_q1,_,rfl,_r0_n1,r0_p2,r0_q2,_,rfl,_r0_n2,rfl⟩:=hf0
 have c0_z:=c6 hc0
 simp only [List.getD_cons_zero,List.getD_cons_succ] at c0_z
 clear hc0
 go_wp2
 exact zR (v:=.agg #[r0_p0,r0_q0,r0_p1,r0_q1,r0_p2,r0_q2]) (by simp [results,Tryz.results108,go_sem,c0_z]) E.below ⟨_,rfl,hP0⟩

theorem zUi {w:World} {v v' u:Value} {D n:Int} {O X:F3} (hC:GC D) (h4:D % 4=0∨D % 4=1) (hX:Gm D X) (h:(f3 O.a O.b O.c).P v w) (h':(f3 X.a X.b X.c).P v' w) (g:Num w u n) (hn:ab n<pw 20) (hn0:n≠0) :
  Calls Tryz.prog 108 #[v,v',u,.func (.func 65) #[] #[]] w fun e w'=>∃ v',e=.returned v'∧Below w.heap.size w w'∧(Fq.st [.n (pwF D X n.natAbs).a,.n (pwF D X n.natAbs).b,.n (pwF D X n.natAbs).c]).P v' w':=by
 replace hn:=hidd hn
 have HC:=hidd hC
 have H4:=hidd h4
 have HX:Hid (Sc D X∧Sm X):=⟨hX.1,hC.sm _ hX⟩
 have HG:=hidd hX
 obtain ⟨k,hk,htop⟩:=nbits_log hn0
 have HK:=hidd hk
 have HNB:Hid (zA8 n≤640):=zMf hn.out
 have HTOP:=hidd htop
 obtain ⟨bb,hbb⟩:∃ bb:Int,bb=((zA8 n:Nat):Int):=⟨_,rfl⟩
 have HBB:=hidd hbb
 have TW:Hid (IntKind.i64.wrap (bb-1)=(k:Int)):=by show _=_;rw [show bb-1=(k:Int) by omega];exact IntWalk.i64_in _ (by have:=HNB.out;omega)
 have TW2:Hid (IntKind.i64.wrap ((k:Int)-1)=(k:Int)-1):=IntWalk.i64_in _ (by have:=HNB.out;omega)
 have TL0:Hid (¬ (k:Int)<0):=by show ¬ _;omega
 clear hC h4 hX hk hn0 hbb htop
 obtain ⟨y0_p0,y0_q0,y0_p1,y0_q1,y0_p2,y0_q2,rfl,hF0⟩:=o3 h
 obtain ⟨y1_p0,y1_q0,y1_p1,y1_q1,y1_p2,y1_q2,rfl,hF1⟩:=o3 h'
 obtain ⟨n2,ao2,k2,c2,rfl⟩:=g.parts
 obtain ⟨w1,b1,hw1,hb1,hs1,E⟩:=gS w 38 hF0
 obtain ⟨w2,b2,hw2,hb2,hs2,E⟩:=fS E hs1 38 hF1
 obtain ⟨w3,b3,hw3,hb3,hs3,E⟩:=zDm E hs2 (F:=Fq.num n) (us:=[.bool n2,.slice ao2 k2 c2]) 36 rfl (by simp) (zCk _ _ _ _) (g.mono E.below)
 obtain ⟨w4,b4,hw4,hb4,hs4,E⟩:=fO E hs3 38 zAt
 go_enter Tryz.func108,Tryz.ntmps108
 go_upto_region 1 with (fail)
 rw [← hw1,← hw2]
 rw [← hw3,← hw4]
 rw [← hb4,← hb3]
 rw [← hb2,← hb1]
 clear hw1 hw2 hw3 hw4 hb1 hb2 hb3 hb4 hs4 hs1 hs2 hs3
 refine rz [.n n,.i bb,.i (k:Int),.i (k:Int)] N4 [] E (fun hp=>⟨lI 0 hp J1 zw,zc hp zF2 zi fun v w h=>(by have hh:=zF9 h;rw [← HBB.out] at hh;exact hh),zO hp (sqi 1) TW.out,zS,tv⟩) ?_
 intro w5 E _ _
 simp only [rzE] at E ⊢
 go_upto_region 2 with (fail)
 refine rz [.i (k:Int),.o] N4 [] E (fun hp=>⟨zS,zO hp (sqi 0) TL0.out,tv⟩) ?_
 intro w6 E _ _
 simp only [rzE] at E ⊢
 go_upto_region 4 with (fail)
 refine rz [.w (f3 X.a X.b X.c),.k,.a] N4 [⟨1,2,6,f3 0 0 0,f3 X.a X.b X.c,none⟩] E (fun hp=>⟨lS 0 6 hp J2 zAc zw,aS hp J0 zAt zB1,sS 0 hp J0 zAn,tv⟩) ?_
 intro w7 b7_1 E _ _
 simp only [rzE] at E ⊢
 go_upto_region 5 with (fail)
 refine rz [.i (k:Int),.i ((k:Int)-1),.i ((k:Int)-1)] N5 [] E (fun hp=>⟨zS,zO hp (sqi 0) TW2.out,zS,tv⟩) ?_
 intro w8 E _ _
 simp only [rzE] at E ⊢
 clear TW TW2 TL0 HBB
 obtain ⟨m1,d1,j1,cc1,ys,hop,hadr,E⟩:=Fr.opnAt E 2 rfl
 replace E:Fr w [(b7_1,6,f3 X.a X.b X.c),(b4,6,f3 0 0 0),(b3,2,Fq.nraw m1 d1 j1 cc1 ys n),(b2,6,f3 X.a X.b X.c),(b1,6,f3 O.a O.b O.c)] w8:=E
 have HA2:=hidd hadr
 have HOP:=hidd hop
 clear hop hadr
 have HS:=hidd E
 go_upto_region 6 with (fail)
 go_loopw [11] (fun vi W=>∃ (j:Nat) (R:F3),j≤k∧vi=.int .i64 ((j:Int)-1)∧R=pwF D X (n.natAbs/2^j)∧Fr w [(b7_1,6,f3 R.a R.b R.c),(b4,6,f3 0 0 0),(b3,2,Fq.nraw m1 d1 j1 cc1 ys n),(b2,6,f3 X.a X.b X.c),(b1,6,f3 O.a O.b O.c)] W) (fun vi _=>(intOf vi+1).toNat)
 case atStart=>exact ⟨k,_,Nat.le_refl _,by first | rfl | go_num,by rw [HTOP.out];exact (zKi HC.out.neg H4.out HG.out).symm,HS.out⟩
 case round=>
  obtain ⟨j,R,hj,rfl,hR,E⟩:=hrel
  clear HS
  by_cases h0:j=0
  ·subst h0
   rw [Nat.pow_zero,Nat.div_one] at hR
   have HR:=hidd hR
   clear hj hR
   go_upto_region 6 with (fail)
   refine rz [.i (((0:Nat):Int)-1),.o] N5 [] E (fun hp=>⟨zS,zo hp (sqi 0),tv⟩) ?_
   intro w9 E _ _
   simp only [rzE] at E ⊢
   go_upto_region 11 with (fail)
   refine rz [.w (f3 R.a R.b R.c),.a] [none,some (1,f3 R.a R.b R.c),none,none,none] [] E (fun hp=>⟨lS 0 6 hp J0 zAc zw,sO 0 0 hp J1 zAn zw,tv⟩) ?_
   intro w10 E _ _
   simp only [rzE] at E ⊢
   have hE:=HR.out
   clear HR HC H4 HX HK HA2 HOP HNB HTOP HG
   obtain ⟨_,_,hc0,hf0⟩:=zAv (E.box 1 rfl)
   have hP0:=hf0
   obtain ⟨r0_p0,r0_q0,_,rfl,_r0_n0,r0_p1,r0_q1,_,rfl,_r0_n1,r0_p2,r0_q2,_,rfl,_r0_n2,rfl⟩:=hf0
   have c0_z:=c6 hc0
   simp only [List.getD_cons_zero,List.getD_cons_succ] at c0_z
   clear hc0
   clear hn
   rw [hE] at hP0
   go_wp2
   exact zR (v:=.agg #[r0_p0,r0_q0,r0_p1,r0_q1,r0_p2,r0_q2]) (by simp [results,Tryz.results108,go_sem,c0_z]) E.below ⟨_,rfl,hP0⟩
  ·obtain ⟨i,rfl⟩:∃ i,j=i+1:=⟨j-1,zm⟩
   have ei:(((i+1:Nat):Int)-1)=(i:Int):=zm
   rw [ei]
   have HJ:=hidd hj
   have HGR:Hid (Gm D R):=by show Gm D R;rw [hR];exact zBl HC.out.neg H4.out HX.out.1 _
   obtain ⟨S,hS⟩:∃ S,S=mulF D R R:=⟨_,rfl⟩
   have hS2:S=pwF D X (2*(n.natAbs/2^(i+1))):=by rw [hS,hR];exact pw_dbl HC.out.neg H4.out HX.out.1 _
   have HGS:Hid (Gm D S):=by show Gm D S;rw [hS2];exact zBl HC.out.neg H4.out HX.out.1 _
   have HS:=hidd hS.symm
   have HS2:=hidd hS2
   have TL:Hid (0≤(i:Int)):=by show 0≤_;omega
   have hw:wrap64 ((i:Int)-1)=(i:Int)-1:=by have:=HJ.out;have:=HK.out;have:=HNB.out;simp only [wrap64];omega
   obtain ⟨hqk,x0,y,hx0,hy,hband⟩:=word_bit HOP.out (i:=i) (by have:=HK.out;omega)
   obtain ⟨ad,off,rfl⟩:=HA2.out zm
   obtain ⟨q,hq⟩:∃ q,q=i/32:=⟨_,rfl⟩
   obtain ⟨r,hr⟩:∃ r,r=i % 32:=⟨_,rfl⟩
   rw [← hq] at hqk hx0
   rw [← hr] at hy
   have HX0:=hidd hx0
   have HQK:=hidd hqk
   have HQI:Hid ((q:Int)<j1):=by show (q:Int)<j1;omega
   have HBA:=hidd hband
   have HR32:Hid (r<32):=by show r<32;omega
   have WQ:Hid (Int.tdiv (i:Int) 32=(q:Int)):=by show _=_;rw [Int.tdiv_eq_ediv_of_nonneg zm];omega
   have WQ3:Hid (IntKind.i64.wrap (q:Int)=q):=IntWalk.i64_in _ (by have:=HJ.out;have:=HK.out;have:=HNB.out;omega)
   have WR:Hid (Int.tmod (i:Int) 32=(r:Int)):=by show _=_;rw [Int.tmod_eq_emod_of_nonneg zm];omega
   have WR3:Hid (IntKind.i64.wrap (r:Int)=r):=IntWalk.i64_in _ zm
   have WC:Hid (IntKind.u64.wrap (r:Int)=r):=by show _=_;simp [IntKind.wrap,IntKind.bits,IntKind.signed];omega
   have WS:Hid (x0/2^r=y):=hy
   have WM:Hid (min r 32=r):=by show _=_;omega
   have WG:Hid ((0:Int)≤r):=by show (0:Int)≤_;omega
   clear ei hR hS hS2 h0 hj hq hr hqk hx0 hy hband
   go_upto_region 6 with (fail)
   refine rz [.i (i:Int),.t] N5 [] E (fun hp=>⟨zS,zO hp (sqi 0) TL.out,tv⟩) ?_
   intro w11 E _ _
   simp only [rzE] at E ⊢
   clear TL
   go_upto_region 8 with (fail)
   refine rz [.u (.func (.func 65) #[] #[]),.w (f3 R.a R.b R.c),.w (f3 R.a R.b R.c),.w (f3 S.a S.b S.c),.a] [some (4,f3 S.a S.b S.c),none,none,none,none] [] E (fun hp=>⟨zS,zCz (off:=0) (l:=6) hp fo tv J0 (.inr rfl) rfl zAc rfl (sqo 10) (fun v w h=>h),zCz (off:=0) (l:=6) hp fo tv J0 (.inr rfl) rfl zAc rfl (sqo 10) (fun v w h=>h),zRj (f:=65) (F:=(f3 R.a R.b R.c).P) (G:=(f3 R.a R.b R.c).P) hp fo tv (zHs) (sqi 0) (sqi 1) (sqi 2) (fun v v' w h h'=>(by have hh:=zJm HC.out.neg HGR.out.1 HGR.out.1 (HC.out.sm _ HGR.out) (HC.out.sm _ HGR.out) h h';rw [HS.out] at hh;exact hh)),sO 0 3 hp J0 zAn zw,tv⟩) ?_
   intro w12 E _ _
   simp only [rzE] at E ⊢
   by_cases hb:n.natAbs/2^i % 2=1
   ·have TB:Hid (bits .and .u32 y 1=1):=by show _=_;rw [HBA.out,hb];rfl
    obtain ⟨U,hU⟩:∃ U,U=mulF D S X:=⟨_,rfl⟩
    have HU:=hidd hU.symm
    have HU2:Hid (U=pwF D X (n.natAbs/2^i)):=by show _=_;rw [hU,HS2.out,show n.natAbs/2^i=2*(n.natAbs/2^(i+1))+1 by have:=zPx n.natAbs i;omega];rfl
    clear hU hb
    go_upto_region 9 with (fail)
    refine rz [.p b3 1,.u (.slice (some ⟨ad,off,none⟩) j1 cc1),.i (i:Int),.i (q:Int),.u (.pointer (some ⟨ad,off+q,none⟩)),.u (.int .u32 x0),.i (i:Int),.i (r:Int),.u (.int .u32 y),.u (.int .u32 1),.t] N5 [] E (fun hp=>⟨qa b3 0 1 hp zw,zRn (off:=1) (v:=.slice (some ⟨ad,off,none⟩) j1 cc1) hp fo tv J2 (.inl rfl) (Nat.le_of_ble_eq_true rfl) (sqi 0) (fun us w hl h=>⟨zP1 hl h,rfl⟩),zS,zO hp (sqi 2) (And.intro WQ.out WQ3.out),zAs (F:=fun v _=>v=.slice (some ⟨ad,off,none⟩) j1 cc1) (G:=fun v _=>v=.int .i64 (q:Int)) hp fo tv (sqi 1) (sqi 3) (fun ρ w hc h h'=>⟨.pointer (some ⟨ad,off+q,none⟩),by simp [execOp,go_sem,h,h',hc,HQI.out],rfl⟩),zRo (bx:=b3) (x0:=x0) hp fo tv J2 (.inl rfl) (sqi 4) (fun us w hl h=>zQq HQK.out HX0.out h) (fun _=>rfl),zS,zO hp (sqi 6) WR.out,zAs (F:=fun v _=>v=.int .u32 x0) (G:=fun v _=>v=.int .i64 (r:Int)) hp fo tv (sqi 5) (sqi 7) (fun ρ w hc h h'=>⟨.int .u32 y,by simp [execOp,go_sem,h,h',WG.out,WS.out,WM.out],rfl⟩),zO hp (sqi 8) TB.out,zo hp (sqi 9),tv⟩) ?_
    intro w13 E _ _
    simp only [rzE] at E ⊢
    clear TB HX0 HQK HQI HBA HR32 WQ WQ3 WR WR3 WC WS WM WG
    go_upto_region 10 with (fail)
    refine rz [.u (.func (.func 65) #[] #[]),.w (f3 S.a S.b S.c),.w (f3 X.a X.b X.c),.w (f3 U.a U.b U.c),.a] [some (4,f3 U.a U.b U.c),none,none,none,none] [] E (fun hp=>⟨zS,zCz (off:=0) (l:=6) hp fo tv J0 (.inr rfl) rfl zAc rfl (sqo 10) (fun v w h=>h),lS 0 6 hp J3 zAc zw,zRj (f:=65) (F:=(f3 S.a S.b S.c).P) (G:=(f3 X.a X.b X.c).P) hp fo tv (zHs) (sqi 0) (sqi 1) (sqi 2) (fun v v' w h h'=>(by have hh:=zJm HC.out.neg HGS.out.1 HX.out.1 (HC.out.sm _ HGS.out) HX.out.2 h h';rw [HU.out] at hh;exact hh)),sO 0 3 hp J0 zAn zw,tv⟩) ?_
    intro w14 E _ _
    simp only [rzE] at E ⊢
    clear HU
    go_wp2
    go_roundw
    case rel=>exact ⟨i,U,by have:=HJ.out;omega,by first | go_num | (rw [hw];go_num),HU2.out,E⟩
    case measure=>first | exact measP | (rw [hw];exact measP)
   ·have TB:Hid (bits .and .u32 y 1=0):=by show _=_;rw [HBA.out,show n.natAbs/2^i % 2=0 by omega];rfl
    have HU2:Hid (S=pwF D X (n.natAbs/2^i)):=by show _=_;rw [HS2.out,show n.natAbs/2^i=2*(n.natAbs/2^(i+1)) by have:=zPx n.natAbs i;omega]
    clear hb
    go_upto_region 9 with (fail)
    refine rz [.p b3 1,.u (.slice (some ⟨ad,off,none⟩) j1 cc1),.i (i:Int),.i (q:Int),.u (.pointer (some ⟨ad,off+q,none⟩)),.u (.int .u32 x0),.i (i:Int),.i (r:Int),.u (.int .u32 y),.u (.int .u32 0),.o] N5 [] E (fun hp=>⟨qa b3 0 1 hp zw,zRn (off:=1) (v:=.slice (some ⟨ad,off,none⟩) j1 cc1) hp fo tv J2 (.inl rfl) (Nat.le_of_ble_eq_true rfl) (sqi 0) (fun us w hl h=>⟨zP1 hl h,rfl⟩),zS,zO hp (sqi 2) (And.intro WQ.out WQ3.out),zAs (F:=fun v _=>v=.slice (some ⟨ad,off,none⟩) j1 cc1) (G:=fun v _=>v=.int .i64 (q:Int)) hp fo tv (sqi 1) (sqi 3) (fun ρ w hc h h'=>⟨.pointer (some ⟨ad,off+q,none⟩),by simp [execOp,go_sem,h,h',hc,HQI.out],rfl⟩),zRo (bx:=b3) (x0:=x0) hp fo tv J2 (.inl rfl) (sqi 4) (fun us w hl h=>zQq HQK.out HX0.out h) (fun _=>rfl),zS,zO hp (sqi 6) WR.out,zAs (F:=fun v _=>v=.int .u32 x0) (G:=fun v _=>v=.int .i64 (r:Int)) hp fo tv (sqi 5) (sqi 7) (fun ρ w hc h h'=>⟨.int .u32 y,by simp [execOp,go_sem,h,h',WG.out,WS.out,WM.out],rfl⟩),zO hp (sqi 8) TB.out,zo hp (sqi 9),tv⟩) ?_
    intro w15 E _ _
    simp only [rzE] at E ⊢
    clear TB HX0 HQK HQI HBA HR32 WQ WQ3 WR WR3 WC WS WM WG
    go_wp2
    go_roundw
    case rel=>exact ⟨i,S,by have:=HJ.out;omega,by first | go_num | (rw [hw];go_num),HU2.out,E⟩
    case measure=>first | exact measP | (rw [hw];exact measP)

theorem zO8 {w:World} {v v' u:Value} {D n:Int} {X:F3} (hC:GC D) (h4:D % 4=0∨D % 4=1) (hX:Gm D X) (h:(Fq.st [.n (onF D).a,.n (onF D).b,.n (onF D).c]).P v w) (h':(f3 X.a X.b X.c).P v' w) (g:Num w u n) (hn:ab n<pw 20) :
  Calls Tryz.prog 108 #[v,v',u,.func (.func 65) #[] #[]] w fun e w'=>∃ v',e=.returned v'∧Below w.heap.size w w'∧(Fq.st [.n (pwF D X n.natAbs).a,.n (pwF D X n.natAbs).b,.n (pwF D X n.natAbs).c]).P v' w':=by
 by_cases h0:n=0
 ·subst h0
  exact zUj h h' g
 ·exact zUi hC h4 hX h h' g hn h0

theorem zLn {w:World} {v:Value} {P:F3} {D:Int} (hC:ab D<pw 6) (hN:D<0) (hP:Sc D P) (sP:Sm P) (h:(f3 P.a P.b P.c).P v w) :
  Calls Tryz.prog 56 #[v] w fun e w'=>∃ b,e=.returned (cloV 107 b)∧w.heap.size≤b∧Below w.heap.size w w'∧Bq w' b 6 (Fq.st [.n (onF D).a,.n (onF D).b,.n (onF D).c]):=by
 have HC:=hidd hC
 have HP:=hidd hP
 have SP:=hidd sP
 have HDB:Hid (ab D<pw 40):=zu hC
 have HN:=hidd hN
 clear hC hP sP hN
 obtain ⟨y0_p0,y0_q0,y0_p1,y0_q1,y0_p2,y0_q2,rfl,hF0⟩:=o3 h
 obtain ⟨w1,b1,hw1,hb1,hs1,E⟩:=gS w 38 hF0
 go_enter Tryz.func56,Tryz.ntmps56
 go_upto_region 1 with (fail)
 rw [← hw1,← hb1]
 clear hw1 hb1 hs1
 refine rz [.w (f3 P.a P.b P.c),.n D,.w (Fq.tup2 (f3 ((onF D).a) ((onF D).b) ((onF D).c)) (Fq.is (.int .i64 0))),.w (Fq.tup2 (f3 ((onF D).a) ((onF D).b) ((onF D).c)) (Fq.is (.int .i64 0))),.w (f3 ((onF D).a) ((onF D).b) ((onF D).c)),.i 0,.k,.a,.i 0] [none] [⟨6,7,6,f3 0 0 0,f3 ((onF D).a) ((onF D).b) ((onF D).c),none⟩] E (fun hp=>⟨lS 0 6 hp J0 zAc zw,zc hp zC5 zi fun v w h=>(by have hh:=zC6 h (zu SP.out.1) (zu SP.out.2.1) (zu SP.out.2.2);rw [HP.out.disc] at hh;exact hh),zc hp zJj zi fun v w h=>zJq h HDB.out HN.out (zDp HP.out),zS,zS,zS,aS hp J0 zAt zB1,sS 4 hp J0 zAn,zS,tv⟩) ?_
 intro w2 b2_6 E _ _
 simp only [rzE] at E ⊢
 have hbs:w.heap.size≤b2_6:=(E.boxes _ J0).1
 have hbx:=(E.boxes _ J0).2
 clear HC HP SP HDB HN
 go_wp2
 refine bodyPost_ret (v:=cloV 107 b2_6) ?_ rfl ⟨_,rfl,hbs,E.below,hbx⟩
 simp [results,Tryz.results56,go_sem,cloV]

theorem zUn {w:World} {v v':Value} {b:Nat} {D n:Int} {P:F3} (hb:Bq w b 6 (Fq.st [.n (onF D).a,.n (onF D).b,.n (onF D).c])) (h:(f3 P.a P.b P.c).P v w) (h':Num w v' n) (hC:GC D) (hP:Sc D P) (sP:Sm P) (hn:ab n<pw 20) (hs:n<0) :
  Rt 107 #[v,v',.pointer (some ⟨b,0,none⟩)] w fun v' w'=>(Fq.st [.n (pzF D P n).a,.n (pzF D P n).b,.n (pzF D P n).c]).P v' w':=by
 replace hn:=hidd hn
 have HC:=hidd hC
 have HP:=hidd hP
 have SP:=hidd sP
 have SG:Hid (cmpI n 0<0):=cmpIqlt.2 hs
 obtain ⟨X,hX⟩:∃ X,X=rdF (opF P):=⟨_,rfl⟩
 have hG:=zGn hC.neg (zFb hP) sP.op
 rw [← hX] at hG
 have HX:=hidd hX.symm
 have HG:=hidd hG.1
 have HE:Hid (pwF D X n.natAbs=pzF D P n):=by show _=_;unfold pzF;rw [if_pos hs];exact zKh hC.neg (zDp hP) (zFb hP) hG.2 _
 have HO:Hid (∀ w1,Below w.heap.size w w1→StAt w1 b 0 [.n (onF D).a,.n (onF D).b,.n (onF D).c]):=fun w1 hb1=>hb.stAt hb1
 clear hC hP sP hs hX hG hb
 obtain ⟨y0_p0,y0_q0,y0_p1,y0_q1,y0_p2,y0_q2,rfl,hF0⟩:=o3 h
 obtain ⟨n1,ao1,k1,c1,rfl⟩:=h'.parts
 obtain ⟨w1,b1,hw1,hb1,hs1,E⟩:=gS w 38 hF0
 obtain ⟨w2,b2,hw2,hb2,hs2,E⟩:=fN E hs1 36 h'
 obtain ⟨w3,b3,hw3,hb3,hs3,E⟩:=fO E hs2 38 zAt
 go_enter Tryz.func107,Tryz.ntmps107
 go_upto_region 1 with (fail)
 rw [← hw1,← hw2]
 rw [← hw3,← hb3]
 rw [← hb2,← hb1]
 clear hw1 hw2 hw3 hb1 hb2 hb3 hs3 hs1 hs2
 refine rz [.n n,.i (cmpI n 0),.t] N3 [] E (fun hp=>⟨lI 0 hp J1 zw,zc hp zA3 zi fun v w h=>zA5 h,zO hp (sqi 1) SG.out,tv⟩) ?_
 intro w4 E _ _
 simp only [rzE] at E ⊢
 go_upto_region 2 with (fail)
 refine rz [.w (f3 P.a P.b P.c),.w (Fq.tup2 (f3 X.a X.b X.c) (Fq.is (.int .i64 0))),.w (Fq.tup2 (f3 X.a X.b X.c) (Fq.is (.int .i64 0))),.w (f3 X.a X.b X.c),.i 0,.a] [none,none,some (5,f3 X.a X.b X.c)] [] E (fun hp=>⟨zCz (off:=0) (l:=6) hp fo tv J2 (.inr rfl) rfl zAc rfl (sqo 3) (fun v w h=>h),zc hp zTw zi fun v w h=>(by have hh:=exPInvF HC.out.neg HP.out SP.out h;rw [HX.out] at hh;exact hh),zS,zS,zS,sO 0 3 hp J2 zAn zw,tv⟩) ?_
 intro w5 E _ _
 simp only [rzE] at E ⊢
 go_upto_region 4 with (fail)
 refine rz [.w (f3 ((onF D).a) ((onF D).b) ((onF D).c)),.w (f3 X.a X.b X.c),.n n,.w (f3 ((pwF D X n.natAbs).a) ((pwF D X n.natAbs).b) ((pwF D X n.natAbs).c)),.a] [some (4,f3 ((pwF D X n.natAbs).a) ((pwF D X n.natAbs).b) ((pwF D X n.natAbs).c)),none,none] [] E (fun hp=>⟨zCi (off:=0) (l:=6) (fs:=[.n ((onF D).a),.n ((onF D).b),.n ((onF D).c)]) hp fo tv HO.out zAc rfl (sqo 2) (fun v w h=>h),lS 0 6 hp J2 zAc zw,lI 0 hp J1 zw,zD1 (F:=(f3 ((onF D).a) ((onF D).b) ((onF D).c)).P) (G:=(f3 X.a X.b X.c).P) (F3:=(Fq.num n).P) (F4:=(Fq.is (.func (.func 65) #[] #[])).P) hp fo tv (zOr) (sqi 0) (sqi 1) (sqi 2) (zNk (fun _=>rfl)) (fun v v' u u' w h h' g g'=>(by subst g';exact zO8 HC.out (zDp HP.out) HG.out h h' g hn.out)),sO 0 3 hp J0 zAn zw,tv⟩) ?_
 intro w6 E _ _
 simp only [rzE] at E ⊢
 have hE:=HE.out
 clear HC HP SP SG HX HG HE HO
 obtain ⟨_,_,hc0,hf0⟩:=zAv (E.box 0 rfl)
 have hP0:=hf0
 obtain ⟨r0_p0,r0_q0,_,rfl,_r0_n0,r0_p1,r0_q1,_,rfl,_r0_n1,r0_p2,r0_q2,_,rfl,_r0_n2,rfl⟩:=hf0
 have c0_z:=c6 hc0
 simp only [List.getD_cons_zero,List.getD_cons_succ] at c0_z
 clear hc0
 clear hn
 rw [hE] at hP0
 go_wp2
 exact zR (v:=.agg #[r0_p0,r0_q0,r0_p1,r0_q1,r0_p2,r0_q2]) (by simp [results,Tryz.results107,go_sem,c0_z]) E.below ⟨_,rfl,hP0⟩

theorem zUo {w:World} {v v':Value} {b:Nat} {D n:Int} {P:F3} (hb:Bq w b 6 (Fq.st [.n (onF D).a,.n (onF D).b,.n (onF D).c])) (h:(f3 P.a P.b P.c).P v w) (h':Num w v' n) (hC:GC D) (hP:Sc D P) (sP:Sm P) (hn:ab n<pw 20) (hs:¬ n<0) :
  Rt 107 #[v,v',.pointer (some ⟨b,0,none⟩)] w fun v' w'=>(Fq.st [.n (pzF D P n).a,.n (pzF D P n).b,.n (pzF D P n).c]).P v' w':=by
 replace hn:=hidd hn
 have HC:=hidd hC
 have HP:=hidd hP
 have SP:=hidd sP
 have SG:Hid (¬ cmpI n 0<0):=fun e=>hs (cmpIqlt.1 e)
 obtain ⟨X,hX⟩:∃ X,X=rdF P:=⟨_,rfl⟩
 have hG:=zGn hC.neg hP sP
 rw [← hX] at hG
 have HX:=hidd hX.symm
 have HG:=hidd hG.1
 have HE:Hid (pwF D X n.natAbs=pzF D P n):=by show _=_;unfold pzF;rw [if_neg hs];exact zKh hC.neg (zDp hP) hP hG.2 _
 have HO:Hid (∀ w1,Below w.heap.size w w1→StAt w1 b 0 [.n (onF D).a,.n (onF D).b,.n (onF D).c]):=fun w1 hb1=>hb.stAt hb1
 clear hC hP sP hs hX hG hb
 obtain ⟨y0_p0,y0_q0,y0_p1,y0_q1,y0_p2,y0_q2,rfl,hF0⟩:=o3 h
 obtain ⟨n1,ao1,k1,c1,rfl⟩:=h'.parts
 obtain ⟨w1,b1,hw1,hb1,hs1,E⟩:=gS w 38 hF0
 obtain ⟨w2,b2,hw2,hb2,hs2,E⟩:=fN E hs1 36 h'
 obtain ⟨w3,b3,hw3,hb3,hs3,E⟩:=fO E hs2 38 zAt
 go_enter Tryz.func107,Tryz.ntmps107
 go_upto_region 1 with (fail)
 rw [← hw1,← hw2]
 rw [← hw3,← hb3]
 rw [← hb2,← hb1]
 clear hw1 hw2 hw3 hb1 hb2 hb3 hs3 hs1 hs2
 refine rz [.n n,.i (cmpI n 0),.o] N3 [] E (fun hp=>⟨lI 0 hp J1 zw,zc hp zA3 zi fun v w h=>zA5 h,zO hp (sqi 1) SG.out,tv⟩) ?_
 intro w4 E _ _
 simp only [rzE] at E ⊢
 go_upto_region 3 with (fail)
 refine rz [.w (f3 P.a P.b P.c),.w (f3 X.a X.b X.c),.a] [none,none,some (2,f3 X.a X.b X.c)] [] E (fun hp=>⟨zCz (off:=0) (l:=6) hp fo tv J2 (.inr rfl) rfl zAc rfl (sqo 3) (fun v w h=>h),zc hp zHt zi fun v w h=>(by have hh:=zLo HC.out.neg HP.out SP.out h;rw [HX.out] at hh;exact hh),sO 0 1 hp J2 zAn zw,tv⟩) ?_
 intro w5 E _ _
 simp only [rzE] at E ⊢
 go_upto_region 4 with (fail)
 refine rz [.w (f3 ((onF D).a) ((onF D).b) ((onF D).c)),.w (f3 X.a X.b X.c),.n n,.w (f3 ((pwF D X n.natAbs).a) ((pwF D X n.natAbs).b) ((pwF D X n.natAbs).c)),.a] [some (4,f3 ((pwF D X n.natAbs).a) ((pwF D X n.natAbs).b) ((pwF D X n.natAbs).c)),none,none] [] E (fun hp=>⟨zCi (off:=0) (l:=6) (fs:=[.n ((onF D).a),.n ((onF D).b),.n ((onF D).c)]) hp fo tv HO.out zAc rfl (sqo 2) (fun v w h=>h),lS 0 6 hp J2 zAc zw,lI 0 hp J1 zw,zD1 (F:=(f3 ((onF D).a) ((onF D).b) ((onF D).c)).P) (G:=(f3 X.a X.b X.c).P) (F3:=(Fq.num n).P) (F4:=(Fq.is (.func (.func 65) #[] #[])).P) hp fo tv (zOr) (sqi 0) (sqi 1) (sqi 2) (zNk (fun _=>rfl)) (fun v v' u u' w h h' g g'=>(by subst g';exact zO8 HC.out (zDp HP.out) HG.out h h' g hn.out)),sO 0 3 hp J0 zAn zw,tv⟩) ?_
 intro w6 E _ _
 simp only [rzE] at E ⊢
 have hE:=HE.out
 clear HC HP SP SG HX HG HE HO
 obtain ⟨_,_,hc0,hf0⟩:=zAv (E.box 0 rfl)
 have hP0:=hf0
 obtain ⟨r0_p0,r0_q0,_,rfl,_r0_n0,r0_p1,r0_q1,_,rfl,_r0_n1,r0_p2,r0_q2,_,rfl,_r0_n2,rfl⟩:=hf0
 have c0_z:=c6 hc0
 simp only [List.getD_cons_zero,List.getD_cons_succ] at c0_z
 clear hc0
 clear hn
 rw [hE] at hP0
 go_wp2
 exact zR (v:=.agg #[r0_p0,r0_q0,r0_p1,r0_q1,r0_p2,r0_q2]) (by simp [results,Tryz.results107,go_sem,c0_z]) E.below ⟨_,rfl,hP0⟩

theorem zG0 {w:World} {v v':Value} {b:Nat} {D n:Int} {P:F3} (hb:Bq w b 6 (Fq.st [.n (onF D).a,.n (onF D).b,.n (onF D).c])) (h:(f3 P.a P.b P.c).P v w) (h':Num w v' n) (hC:GC D) (hP:Sc D P) (sP:Sm P) (hn:ab n<pw 20) :
  Rt 107 #[v,v',.pointer (some ⟨b,0,none⟩)] w fun v' w'=>(Fq.st [.n (pzF D P n).a,.n (pzF D P n).b,.n (pzF D P n).c]).P v' w':=by
 by_cases hs:n<0
 ·exact zUn hb h h' hC hP sP hn hs
 ·exact zUo hb h h' hC hP sP hn hs

theorem zUh {w:World} {v v':Value} {P:F3} {D n:Int} (hC:GC D) (hP:Sc D P) (hn:ab n<pw 20) (h:(f3 P.a P.b P.c).P v w) (h':Num w v' n) (sP:Sm P) :
  Rt 54 #[v,v'] w fun v' w'=>(Fq.tup2 (Fq.st [.n (pzF D P n).a,.n (pzF D P n).b,.n (pzF D P n).c]) (Fq.is (.int .i64 0))).P v' w':=by
 replace hn:=hidd hn
 have SP:=hidd sP
 clear sP
 have HP:=hidd hP
 have HC:=hidd hC
 have HNG:=hidd hC.neg
 clear hC
 have HE:Hid (rfE P.a P.b P.c=0):=zFt hP HNG.out
 clear hP
 obtain ⟨y0_p0,y0_q0,y0_p1,y0_q1,y0_p2,y0_q2,rfl,hF0⟩:=o3 h
 obtain ⟨n1,ao1,k1,c1,rfl⟩:=h'.parts
 obtain ⟨w1,b1,hw1,hb1,hs1,E⟩:=gS w 38 hF0
 obtain ⟨w2,b2,hw2,hb2,hs2,E⟩:=fN E hs1 36 h'
 obtain ⟨w3,b3,hw3,hb3,hs3,E⟩:=fO E hs2 38 zAt
 go_enter Tryz.func54,Tryz.ntmps54
 go_upto_region 1 with (fail)
 rw [← hw1,← hw2]
 rw [← hw3,← hb3]
 rw [← hb2,← hb1]
 clear hw1 hw2 hw3 hb1 hb2 hb3 hs3 hs1 hs2
 refine rz [.w (f3 P.a P.b P.c),.i 0,.i 0] N3 [] E (fun hp=>⟨lS 0 6 hp J2 zAc zw,zc hp zDf zi fun v w h=>zDg h (zu SP.out.1) (zu SP.out.2.1) (zu SP.out.2.2) (zu (zCn SP.out.1 SP.out.2.1 SP.out.2.2)) HE.out,zS,tv⟩) ?_
 intro w4 E _ _
 simp only [rzE] at E ⊢
 go_upto_region 2 with (fail)
 refine rz [.i 0,.o] N3 [] E (fun hp=>⟨zS,zo hp (sqi 0),tv⟩) ?_
 intro w5 E _ _
 simp only [rzE] at E ⊢
 go_upto_region 4 with (fail)
 refine rz [.w (f3 P.a P.b P.c),.k,.w (f3 P.a P.b P.c),.n n,.w (f3 ((pzF D P n).a) ((pzF D P n).b) ((pzF D P n).c)),.a,.i 0] [some (5,f3 ((pzF D P n).a) ((pzF D P n).b) ((pzF D P n).c)),none,none] [⟨1,1,6,f3 ((onF D).a) ((onF D).b) ((onF D).c),f3 ((onF D).a) ((onF D).b) ((onF D).c),(some (.clo 107))⟩] E (fun hp=>⟨lS 0 6 hp J2 zAc zw,zEv (F:=(f3 P.a P.b P.c).P) hp (zLh) J0 rfl rfl rfl (sqi 0) (fun v w h=>zLn (zu (zLa SP.out HP.out)) HNG.out HP.out SP.out h) (fun _ _=>trivial) (zCh rfl) (zDy rfl),lS 0 6 hp J2 zAc zw,lI 0 hp J1 zw,zW9 (F:=(f3 P.a P.b P.c).P) (G:=(Fq.num n).P) hp fo tv (zGx) J0 rfl (zEg rfl rfl (by simp) rfl) (sqi 2) (sqi 3) (fun v v' b w h h' hb=>zG0 hb h h' HC.out HP.out SP.out hn.out),sO 0 4 hp J0 zAn zw,zS,tv⟩) ?_
 intro w6 b6_1 E _ _
 simp only [rzE] at E ⊢
 clear HP HNG HE SP HC
 obtain ⟨_,_,hccr,hffr⟩:=zAv (E.box 1 rfl)
 have hPr:=hffr
 obtain ⟨r_p0,r_q0,_,rfl,_r_n0,r_p1,r_q1,_,rfl,_r_n1,r_p2,r_q2,_,rfl,_r_n2,rfl⟩:=hffr
 have crz:=c6 hccr
 simp only [List.getD_cons_zero,List.getD_cons_succ] at crz
 clear hccr
 clear hn
 go_wp2
 exact zR (v:=.tuple #[.agg #[r_p0,r_q0,r_p1,r_q1,r_p2,r_q2],.int .i64 0]) (by simp [results,Tryz.results54,go_sem,crz]) E.below ⟨_,_,rfl,⟨_,rfl,hPr⟩,rfl⟩

theorem Least.prime {n q:Nat} (h:Least n q) {d:Nat} (h2:2≤d) (hd:q % d=0):d=q:=by
 obtain ⟨h0,h1,h3⟩:=h
 have hle:d≤q:=Nat.le_of_dvd zm (Nat.dvd_of_mod_eq_zero hd)
 rcases Nat.lt_or_ge d q with h | h
 ·exact absurd (Nat.mod_eq_zero_of_dvd (Nat.dvd_trans (Nat.dvd_of_mod_eq_zero hd) (Nat.dvd_of_mod_eq_zero h1))) (h3 d h2 h)
 ·omega
theorem least_ex {n:Nat} (h:2≤n):∃ q,Least n q∧q≤n:=by
 have key:∀ k d,2≤d→n-d=k→(∀ e,2≤e→e<d→n % e≠0)→d≤n→∃ q,Least n q∧q≤n:=by
  intro k
  induction k with
  | zero=>
   intro d hd hk hno hle
   have:d=n:=zm
   subst this
   exact ⟨d,⟨hd,Nat.mod_self d,hno⟩,Nat.le_refl _⟩
  | succ k ih=>
   intro d hd hk hno hle
   by_cases hm:n % d=0
   ·exact ⟨d,⟨hd,hm,hno⟩,hle⟩
   ·refine ih (d+1) zm zm (fun e h1 h2=>?_) zm
    rcases Nat.lt_or_ge e d with h | h
    ·exact hno e h1 h
    ·rw [show e=d by omega];exact hm
 exact key (n-2) 2 (Nat.le_refl _) rfl (fun e h1 h2=>zm) h
theorem Least.next {n q d:Nat} (h:Least n q) (hd:2≤d) (ho:d=2∨d % 2=1) (hq:d≤q) (hm:¬ n % d=0):d+(1+d % 2)≤q∧(d+(1+d % 2)) % 2=1:=by
 obtain ⟨h0,h1,h3⟩:=h
 have hne:d≠q:=by rintro rfl;exact hm h1
 rcases ho with rfl | ho
 ·exact ⟨zm,zm⟩
 ·refine ⟨?_,zm⟩
  rcases Nat.lt_or_ge (d+1) q with h | h
  ·omega
  ·have e:q=d+1:=zm
   have h2:q % 2=0:=zm
   have h4:n % 2=0:=Nat.mod_eq_zero_of_dvd (Nat.dvd_trans (Nat.dvd_of_mod_eq_zero h2) (Nat.dvd_of_mod_eq_zero h1))
   have:=h3 2 (Nat.le_refl _) zm
   exact absurd h4 this
theorem Least.found {n q d:Nat} (h:Least n q) (hd:2≤d) (hq:d≤q) (hm:n % d=0):d=q:=by
 rcases Nat.lt_or_ge d q with h9 | h9
 ·exact absurd hm (h.2.2 d hd h9)
 ·omega
theorem Least.last {n q d:Nat} (h:Least n q) (hn:0<n) (hd:2≤d) (hq:d≤q) (hm:¬ d≤n/d):n=q:=by
 obtain ⟨h0,h1,h3⟩:=h
 obtain ⟨m,hm2⟩:=Nat.dvd_of_mod_eq_zero h1
 have hlt:n<d*d:=by
  have:=(Nat.le_div_iff_mul_le (k:=d) (x:=d) (y:=n) zm)
  rw [this] at hm
  omega
 have hdd:d*d≤q*q:=Nat.mul_le_mul hq hq
 have hmq:m<q:=by
  rcases Nat.lt_or_ge m q with h | h
  ·exact h
  ·have:=Nat.mul_le_mul_left q h
   omega
 rcases Nat.lt_or_ge m 2 with h | h
 ·have:m=1:=by
   rcases Nat.eq_zero_or_pos m with e | e
   ·subst e;omega
   ·omega
  subst this
  omega
 ·exact absurd (Nat.mod_eq_zero_of_dvd ⟨q,by rw [hm2,Nat.mul_comm]⟩) (h3 m h hmq)
theorem zIr {c n:Nat} (h:c≤n) (hn:(n:Int)≤9223372036854775807):wrap64 (c:Int)=c:=by
 have h0:(0:Int)≤c:=zm
 have h1:(c:Int)≤9223372036854775807:=zm
 generalize (c:Int)=z at h0 h1 ⊢
 simp only [wrap64]
 omega
theorem zKx {z:Int} (h0:0≤z) (h1:z≤9223372036854775807):wrap64 z=z:=by
 simp only [wrap64]
 omega
theorem wrap_few {r:Nat} (h:r<2):wrap64 (r:Int)=r∧wrap64 (1+(r:Int))=1+(r:Int):=⟨zKx zm zm,zKx zm zm⟩
theorem meas_q {q d r:Nat} (h:d+(1+r)≤q):q-(intOf (.int .i64 ((d:Int)+(1+(r:Int))))).toNat<q-(intOf (.int .i64 (d:Int))).toNat:=by simp [intOf];omega
theorem meas_y {x y:Nat} (h:y<x):(intOf (.int .i64 (y:Int))).toNat<(intOf (.int .i64 (x:Int))).toNat:=by simp [intOf];omega
theorem zWk {d c:Nat} (h:d≤c):(d:Int)≤(c:Int):=zm
theorem zWl {d c:Nat} (h:¬ d≤c):¬ (d:Int)≤(c:Int):=zm
theorem zQp {m:Nat} (h:¬ m=0):((m:Int) == 0)=false∧¬ (m:Int)=0:=⟨by simp;omega,zm⟩
theorem zWf (w:World) {n q d0:Nat} (hl:Least n q) (hn0:0<n) (hn:(n:Int)≤9223372036854775807) (h2:2≤d0) (ho:d0=2∨d0 % 2=1) (hq:d0≤q) :
  Calls Tryz.prog 60 #[.int .i64 n,.int .i64 d0] w fun e w'=>e=.returned (.int .i64 q)∧w'=w:=by
 have HL:=hidd hl
 have HN:=hidd hn
 have HN0:=hidd hn0
 have H0:=hidd (show 2≤d0∧(d0=2∨d0 % 2=1)∧d0≤q from ⟨h2,ho,hq⟩)
 clear hl hn hn0 h2 ho hq
 go_enter Tryz.func60,Tryz.ntmps60
 go_wp2
 go_loop [5] (fun v=>∃ d:Nat,v=.int .i64 d∧2≤d∧(d=2∨d % 2=1)∧d≤q) (fun v=>q-(intOf v).toNat)
 case atStart=>exact ⟨d0,rfl,H0.out⟩
 case round=>
  obtain ⟨d,rfl,hd,hdo,hdq⟩:=hrel
  have hqn:q≤n:=Nat.le_of_dvd HN0.out (Nat.dvd_of_mod_eq_zero HL.out.2.1)
  have ht:Int.tdiv (n:Int) d=((n/d:Nat):Int):=by rw [Int.tdiv_eq_ediv_of_nonneg zm];exact (Int.natCast_ediv n d).symm
  have htm:Int.tmod (n:Int) d=((n % d:Nat):Int):=by rw [Int.tmod_eq_emod_of_nonneg zm];exact (Int.natCast_emod n d).symm
  have ht2:Int.tmod (d:Int) 2=((d % 2:Nat):Int):=by rw [Int.tmod_eq_emod_of_nonneg zm];exact (Int.natCast_emod d 2).symm
  have hp0:((d:Int) == 0)=false:=by simp;omega
  have hpz:¬ (d:Int)=0:=zm
  have hcn:n/d≤n:=Nat.div_le_self n d
  have hmn:n % d≤n:=Nat.mod_le n d
  have HD:=hidd (show 2≤d∧(d=2∨d % 2=1)∧d≤q from ⟨hd,hdo,hdq⟩)
  have HQN:=hidd hqn
  have nx:=fun hm=>HL.out.next hd hdo hdq hm
  have fd:=fun hm=>HL.out.found hd hdq hm
  have ls:=fun hm=>HL.out.last HN0.out hd hdq hm
  obtain ⟨c,hc⟩:∃ c,c=n/d:=⟨_,rfl⟩
  obtain ⟨m,hm⟩:∃ m,m=n % d:=⟨_,rfl⟩
  obtain ⟨r,hr⟩:∃ r,r=d % 2:=⟨_,rfl⟩
  rw [← hc] at ht hcn ls
  rw [← hm] at htm hmn nx fd
  rw [← hr] at ht2 nx
  have hr2:r<2:=by rw [hr];exact Nat.mod_lt _ zd
  have hcw:=zIr hcn HN.out
  have hmw:=zIr hmn HN.out
  obtain ⟨hrw,hrw1⟩:=wrap_few hr2
  have NX:=hidd nx
  have FD:=hidd fd
  have LS:=hidd ls
  clear hc hm hr nx fd ls hd hdo hdq hqn hcn hmn hr2
  by_cases h1:d≤c
  ·have hle:=zWk h1
   clear h1
   by_cases h3:m=0
   ·subst h3
    have e:=FD.out rfl
    subst e
    clear NX FD LS
    go_wp2
    go_ret
    exact ⟨rfl,rfl⟩
   ·obtain ⟨hmb,hmz⟩:=zQp h3
    have n1:=hidd (NX.out h3)
    have hw:wrap64 ((d:Int)+(1+(r:Int)))=(d:Int)+(1+(r:Int)):=by have h7:=zIr (Nat.le_trans n1.out.1 HQN.out) HN.out;simpa using h7
    clear h3 NX FD LS
    go_wp2
    go_round
    case rel=>exact ⟨d+(1+r),by rw [hw];simp,Nat.le_trans HD.out.1 (Nat.le_add_right _ _),.inr n1.out.2,n1.out.1⟩
    case measure=>rw [hw];exact meas_q n1.out.1
  ·have hle:=zWl h1
   have e:=LS.out h1
   subst e
   clear NX FD LS h1
   go_wp2
   go_ret
   exact ⟨rfl,rfl⟩
theorem zX2 (w:World) {q k m:Nat} (hq:2≤q) (hm:0<m) (hnd:¬ m % q=0) {n:Nat} (he:n=q^k*m) (hn:(n:Int)≤9223372036854775807) :
  Calls Tryz.prog 61 #[.int .i64 n,.int .i64 q] w fun e w'=>e=.returned (.int .i64 m)∧w'=w:=by
 have HQ:=hidd hq
 have HM:=hidd (show 0<m∧¬ m % q=0 from ⟨hm,hnd⟩)
 have HN:=hidd (show n=q^k*m∧(n:Int)≤9223372036854775807 from ⟨he,hn⟩)
 clear hq hm hnd hn he
 go_enter Tryz.func61,Tryz.ntmps61
 go_wp2
 go_loop [0] (fun v=>∃ x j:Nat,v=.int .i64 x∧x=q^j*m∧x≤n) (fun v=>(intOf v).toNat)
 case atStart=>exact ⟨n,k,rfl,HN.out.1,Nat.le_refl _⟩
 case round=>
  obtain ⟨x,j,rfl,hx,hxb⟩:=hrel
  have ht:Int.tdiv (x:Int) q=((x/q:Nat):Int):=by rw [Int.tdiv_eq_ediv_of_nonneg zm];exact (Int.natCast_ediv x q).symm
  have htm:Int.tmod (x:Int) q=((x % q:Nat):Int):=by rw [Int.tmod_eq_emod_of_nonneg zm];exact (Int.natCast_emod x q).symm
  have hp0:((q:Int) == 0)=false:=by have:=HQ.out;simp;omega
  have hpz:¬ (q:Int)=0:=by have:=HQ.out;omega
  by_cases hj:j=0
  ·subst hj
   have e:x=m:=by rw [hx,Nat.pow_zero,Nat.one_mul]
   subst e
   have hne:=HM.out.2
   have hlt:=Nat.mod_le x q
   obtain ⟨c,hc⟩:∃ c,c=x % q:=⟨_,rfl⟩
   rw [← hc] at htm hne hlt
   obtain ⟨hcb,hcz⟩:=zQp hne
   have hcw:=zIr (Nat.le_trans hlt hxb) HN.out.2
   clear hc hx hne hlt ht hxb
   go_wp2
   go_ret
   exact ⟨rfl,rfl⟩
  ·obtain ⟨i,rfl⟩:∃ i,j=i+1:=⟨j-1,zm⟩
   have e1:x=q*(q^i*m):=by rw [hx,Nat.pow_succ,Nat.mul_comm (q^i) q,Nat.mul_assoc]
   have e2:x/q=q^i*m:=by rw [e1];exact Nat.mul_div_cancel_left _ (by have:=HQ.out;omega)
   have e3:x % q=0:=by rw [e1];exact Nat.mul_mod_right _ _
   have hpos:0<q^i*m:=Nat.mul_pos (Nat.pow_pos (by have:=HQ.out;omega)) HM.out.1
   obtain ⟨y,hy⟩:∃ y,y=q^i*m:=⟨_,rfl⟩
   rw [← hy] at e1 e2 hpos
   rw [e3] at htm
   rw [e2] at ht
   have hlt:y<x:=by
    have h2:=Nat.mul_le_mul_right y HQ.out
    omega
   have hyw:=zIr (Nat.le_trans (Nat.le_of_lt hlt) hxb) HN.out.2
   have HY:=hidd hy
   have HLT:=hidd hlt
   have HXB:=hidd hxb
   clear hx e1 e2 e3 hpos hy hj hlt hxb
   go_wp2
   go_round
   case rel=>exact ⟨y,i,by first | rfl | rw [hyw],HY.out,Nat.le_trans (Nat.le_of_lt HLT.out) HXB.out⟩
   case measure=>first | (rw [hyw];exact meas_y HLT.out) | exact meas_y HLT.out
theorem zLm (w:World) {n q d0:Nat} (hl:Least n q) (hn0:0<n) (hn:(n:Int)≤9223372036854775807) (h2:2≤d0) (ho:d0=2∨d0 % 2=1) (hq:d0≤q) :
  Rt 60 #[.int .i64 n,.int .i64 d0] w fun v' w'=>v'=.int .i64 q:=
 (zWf w hl hn0 hn h2 ho hq).mono fun e w' ⟨he,hw⟩=>⟨_,he,by rw [hw];exact Below.refl _ _,rfl⟩
theorem zUp (w:World) {q k m:Nat} (hq:2≤q) (hm:0<m) (hnd:¬ m % q=0) {n:Nat} (he:n=q^k*m) (hn:(n:Int)≤9223372036854775807) :
  Rt 61 #[.int .i64 n,.int .i64 q] w fun v' w'=>v'=.int .i64 m:=
 (zX2 w hq hm hnd he hn).mono fun e w' ⟨he,hw⟩=>⟨_,he,by rw [hw];exact Below.refl _ _,rfl⟩
theorem split_pow {q:Nat} (hq:2≤q):∀ n,0<n→∃ k m,n=q^k*m∧0<m∧¬ m % q=0:=by
 intro n
 induction n using Nat.strongRecOn with
 | _ n ih=>
  intro hn
  by_cases h:n % q=0
  ·obtain ⟨c,hc⟩:=Nat.dvd_of_mod_eq_zero h
   have c0:0<c:=by
    rcases Nat.eq_zero_or_pos c with e | e
    ·subst e;omega
    ·exact e
   have hlt:c<n:=by
    have:=Nat.mul_le_mul_right c hq
    omega
   obtain ⟨k,m,e,h1,h2⟩:=ih c hlt c0
   exact ⟨k+1,m,by rw [hc,e,Nat.pow_succ,Nat.mul_comm (q^k) q,Nat.mul_assoc],h1,h2⟩
  ·exact ⟨0,n,by rw [Nat.pow_zero,Nat.one_mul],hn,h⟩
theorem zWu {q o n m j:Nat} (hl:∀ d,2≤d→q % d=0→d=q) (ho:0<o) (hn:n ∣ o) (h1:o ∣ n*(q^j*m)) (h2:¬ o ∣ n*m):∃ i,j=i+1∧n*q ∣ o:=by
 obtain ⟨t,rfl⟩:=hn
 have n0:0<n:=Nat.pos_of_mul_pos_right ho
 have t1:t ∣ q^j*m:=Nat.dvd_of_mul_dvd_mul_left n0 h1
 have t2:¬ t ∣ m:=fun h=>h2 (Nat.mul_dvd_mul_left n h)
 by_cases hqt:q ∣ t
 ·cases j with
  | zero=>exact absurd (by simpa using t1) t2
  | succ i=>exact ⟨i,rfl,Nat.mul_dvd_mul_left n hqt⟩
 ·have hc:Nat.Coprime t q:=by
   have g1:=Nat.gcd_dvd_left t q
   have g2:=Nat.gcd_dvd_right t q
   rcases Nat.lt_or_ge (Nat.gcd t q) 2 with h | h
   ·have g0:0<Nat.gcd t q:=Nat.gcd_pos_of_pos_left _ (Nat.pos_of_mul_pos_left ho)
    show Nat.gcd t q=1
    omega
   ·exact absurd ((hl _ h (Nat.mod_eq_zero_of_dvd g2)) ▸ g1) hqt
  exact absurd ((hc.pow_right j).dvd_of_dvd_mul_left t1) t2
def Ord (D:Int) (P:F3) (o:Nat):Prop:=0<o∧pwF D P o=onF D∧∀ j,0<j→j<o→pwF D P j≠onF D
section
variable {D : Int} (hD : D < 0) (h4 : D % 4 = 0 ∨ D % 4 = 1)
include hD h4
theorem Ord.iff {P:F3} {o:Nat} (hp:Sc D P) (h:Ord D P o) (n:Nat):pwF D P n=onF D ↔ o ∣ n:=by
 have h1:=order_iff hD h4 hp h.1 h.2.1 h.2.2 (n:Int)
 rw [zHa] at h1
 rw [h1]
 constructor
 ·intro e
  exact Nat.dvd_of_mod_eq_zero (by exact_mod_cast e)
 ·intro e
  have:=Nat.mod_eq_zero_of_dvd e
  exact_mod_cast this
theorem zG3 {X:F3} (hX:Gm D X):X.a=1 ↔ X=onF D:=by
 have hO:=zCr hD h4
 constructor
 ·intro h
  have e1:=zQk hD hO.1 hX.1 h hO.2 (.rfl' _)
  rw [zG8 hD h4 hX] at e1
  exact e1
 ·rintro rfl
  rfl
theorem rdF_pw {P:F3} (hP:Sc D P) (sP:Sm P):rdF P=pwF D P 1:=by
 obtain ⟨h1,h2⟩:=zGn hD hP sP
 rw [← zKh hD h4 hP h2 1,zKi hD h4 h1]
end
structure OI (D:Int) (P:F3) (o h n l q:Nat) (X:F3):Prop where
 x:X=pwF D P n
 n0:0<n
 no:n ∣ o
 l0:0<l
 lh:l≤h
 ol:o ∣ n*l
 q2:2≤q
 qo:q=2∨q % 2=1
 qd:∀ d,2≤d→d<q→l % d≠0
structure II (D:Int) (P:F3) (o m q n j:Nat) (X Y:F3):Prop where
 x:X=pwF D P n
 y:Y=pwF D P (n*m)
 n0:0<n
 no:n ∣ o
 oj:o ∣ n*(q^j*m)
structure QO (q m l:Nat):Prop where
 le:Least l q
 m0:0<m
 ml:m<l
 ql:q≤l
 qo:q=2∨q % 2=1
 qd:∀ d,2≤d→d<q→m % d≠0
section
variable {D : Int} (hD : D < 0) (h4 : D % 4 = 0 ∨ D % 4 = 1)
include hD h4
theorem OI.step {P X:F3} {o h n l q:Nat} (hP:Sc D P) (ho:Ord D P o) (H:OI D P o h n l q X) (hX:¬ X.a=1):∃ q1 k m,QO q1 m l∧q≤q1∧l=q1^k*m∧¬ m % q1=0∧II D P o m q1 n k X (pwF D P (n*m)):=by
 have hn:¬ o ∣ n:=fun e=>hX ((zG3 hD h4 (by rw [H.x];exact zBl hD h4 hP n)).2 (by rw [H.x];exact (ho.iff hD h4 hP n).2 e))
 have l2:2≤l:=by
  have:=H.l0
  rcases Nat.lt_or_ge l 2 with h9 | h9
  ·have e:l=1:=zm
   have:=H.ol
   rw [e,Nat.mul_one] at this
   exact absurd this hn
  ·exact h9
 obtain ⟨q1,hq1,hql⟩:=least_ex l2
 obtain ⟨k,m,hk,m0,hm⟩:=split_pow hq1.1 l H.l0
 have hmd:m ∣ l:=⟨q1^k,by rw [hk,Nat.mul_comm]⟩
 have hne:m≠l:=by rintro rfl;exact hm hq1.2.1
 have hle:q≤q1:=by
  rcases Nat.lt_or_ge q1 q with h9 | h9
  ·exact absurd hq1.2.1 (H.qd q1 hq1.1 h9)
  ·exact h9
 refine ⟨q1,k,m,⟨hq1,m0,?_,hql,?_,fun d h2 h3 e=>?_⟩,hle,hk,hm,H.x,rfl,H.n0,H.no,by rw [← hk];exact H.ol⟩
 ·have:=Nat.le_of_dvd H.l0 hmd
  omega
 ·rcases Nat.mod_two_eq_zero_or_one q1 with e | e
  ·exact .inl (hq1.prime (Nat.le_refl 2) e).symm
  ·exact .inr e
 ·exact hq1.2.2 d h2 h3 (Nat.mod_eq_zero_of_dvd (Nat.dvd_trans (Nat.dvd_of_mod_eq_zero e) hmd))
theorem II.step {P X Y:F3} {o m q n j l:Nat} (hP:Sc D P) (ho:Ord D P o) (hq:Least l q) (H:II D P o m q n j X Y) (hY:¬ Y.a=1):n*q≤o∧n<n*q∧∃ i,II D P o m q (n*q) i (pwF D X q) (pwF D Y q):=by
 have hn:¬ o ∣ n*m:=fun e=>hY ((zG3 hD h4 (by rw [H.y];exact zBl hD h4 hP _)).2 (by rw [H.y];exact (ho.iff hD h4 hP _).2 e))
 obtain ⟨i,rfl,hno⟩:=zWu (fun d h2 h3=>hq.prime h2 h3) ho.1 H.no H.oj hn
 have h2:=hq.1
 refine ⟨Nat.le_of_dvd ho.1 hno,?_,i,by rw [H.x,← zIe hD h4 hP],by rw [H.y,← zIe hD h4 hP];congr 1;rw [Nat.mul_assoc,Nat.mul_assoc,Nat.mul_comm m q],Nat.mul_pos H.n0 zm,hno,?_⟩
 ·have:=Nat.mul_le_mul_left n h2
  have:=H.n0
  omega
 ·have:=H.oj
  rw [Nat.pow_succ,Nat.mul_comm (q^i) q,Nat.mul_assoc] at this
  rw [Nat.mul_assoc]
  exact this
theorem II.done {P X Y:F3} {o m q n j l h:Nat} (hP:Sc D P) (ho:Ord D P o) (hl:l≤h) (Q:QO q m l) (H:II D P o m q n j X Y) (hY:Y.a=1):OI D P o h n m q X:=by
 have e:=(zG3 hD h4 (by rw [H.y];exact zBl hD h4 hP _)).1 hY
 rw [H.y] at e
 exact ⟨H.x,H.n0,H.no,Q.m0,by have:=Q.ml;omega,(ho.iff hD h4 hP _).1 e,Q.le.1,Q.qo,Q.qd⟩
theorem OI.done {P X:F3} {o h n l q:Nat} (hP:Sc D P) (ho:Ord D P o) (H:OI D P o h n l q X) (hX:X.a=1):n=o:=by
 have e:=(zG3 hD h4 (by rw [H.x];exact zBl hD h4 hP _)).1 hX
 rw [H.x] at e
 exact Nat.dvd_antisymm H.no ((ho.iff hD h4 hP _).1 e)
end
theorem meas_o {o n n2:Nat} (h:n2≤o) (h1:n<n2):o-(intOf (.int .i64 (n2:Int))).toNat<o-(intOf (.int .i64 (n:Int))).toNat:=by simp [intOf];omega
theorem zH1 {c h:Nat} (h1:c≤h) (h2:(h:Int)≤9223372036854775807):-9223372036854775808≤(c:Int)∧(c:Int)≤9223372036854775807:=zm
theorem ab_to {c h:Nat} (h1:c≤h) (h2:(h:Int)≤9223372036854775807):ab (c:Int)<pw 3:=zAr (zH1 h1 h2).1 (zH1 h1 h2).2
theorem mul_to {n q n2 o:Nat} (e:n2=n*q) (h:n2≤o) (h2:(o:Int)≤9223372036854775807):IntKind.i64.wrap ((n:Int)*(q:Int))=(n2:Int):=by
 rw [show (n:Int)*(q:Int)=(n2:Int) by rw [e];simp]
 exact IntWalk.i64_in _ (zH1 h h2)
theorem zUd {w:World} {v:Value} {P:F3} {D:Int} (h:(f3 P.a P.b P.c).P v w) (sP:Sm P) (hP:Sc D P) (hC:GC D) {hh:Nat} (hk0:1≤hh) (hk1:(hh:Int)≤9223372036854775807) (hno:¬ pwF D P hh=onF D) :
  Rt 18 #[v,.int .i64 (hh:Int)] w fun v' w'=>(Fq.tup2 (Fq.is (.int .i64 0)) (Fq.is (.int .i64 1))).P v' w':=by
 have SP:=hidd sP
 have HP:=hidd hP
 have HC:=hidd hC
 have HNG:=hidd hC.neg
 have HE:Hid (rfE P.a P.b P.c=0):=zFt hP hC.neg
 have H4:=hidd (zDp hP)
 have TL:Hid (¬ (hh:Int)<1):=by show ¬ _;omega
 have RH:Hid (-9223372036854775808≤(hh:Int)∧(hh:Int)≤9223372036854775807):=by show _∧_;omega
 have BH:Hid (ab (hh:Int)<pw 3):=zAr RH.out.1 RH.out.2
 obtain ⟨Z,hZ⟩:∃ Z,Z=pzF D P (hh:Int):=⟨_,rfl⟩
 have HZ:=hidd hZ.symm
 have hGZ:=pzF_gm hC.neg (zDp hP) hP (hh:Int)
 rw [← hZ] at hGZ
 have TP:Hid (decide (Z.a=1)=false):=decide_eq_false fun e=>hno (by have e2:=(zG3 hC.neg (zDp hP) hGZ).1 e;rw [hZ,zHa] at e2;exact e2)
 clear hno
 clear hZ hGZ
 clear hk0 hk1
 clear sP hP hC
 obtain ⟨y0_p0,y0_q0,y0_p1,y0_q1,y0_p2,y0_q2,rfl,hF0⟩:=o3 h
 obtain ⟨w1,b1,hw1,hb1,hs1,E⟩:=gS w 38 hF0
 go_enter Tryz.func18,Tryz.ntmps18
 go_upto_region 1 with (fail)
 rw [← hw1,← hb1]
 clear hw1 hb1 hs1
 refine rz [.w (f3 P.a P.b P.c),.i 0,.i 0] [none] [] E (fun hp=>⟨lS 0 6 hp J0 zAc zw,zc hp zDf zi fun v w h=>zDg h (zu SP.out.1) (zu SP.out.2.1) (zu SP.out.2.2) (zu (zCn SP.out.1 SP.out.2.1 SP.out.2.2)) HE.out,zS,tv⟩) ?_
 intro w2 E _ _
 simp only [rzE] at E ⊢
 go_upto_region 2 with (fail)
 refine rz [.i 0,.o] [none] [] E (fun hp=>⟨zS,zo hp (sqi 0),tv⟩) ?_
 intro w3 E _ _
 simp only [rzE] at E ⊢
 go_upto_region 4 with (fail)
 refine zKl (same:=[(2,1)]) (C:=[f3 P.a P.b P.c,Fq.any,Fq.any]) (ks:=[none]) (new:=[⟨1,1,6,f3 ((onF D).a) ((onF D).b) ((onF D).c),f3 ((onF D).a) ((onF D).b) ((onF D).c),(some (.clo 107))⟩]) E rfl (by kernel_rfl) rfl rfl (fun hp=>⟨?_,?_,?_,tv⟩) ?_
 ·exact zFe (lS 0 6 hp J0 zAc (sqo 2)) rfl
 ·exact zFe (zEv (F:=(f3 P.a P.b P.c).P) hp (zLh) J0 rfl rfl rfl (sqi 0) (fun v w h=>zLn (zu (zLa SP.out HP.out)) HNG.out HP.out SP.out h) (fun _ _=>trivial) (zCh rfl) (zDy rfl)) rfl
 ·exact zKs hp fo rfl (j:=1) rfl (by simp) rfl (fun _ _=>trivial) rfl (Nat.ne_of_beq_eq_false rfl)
 intro L vs w4 nb hsm hL hC hn E4
 have e1:vs 1=cloV 107 (nb 1):=hn _ J0
 have e2:vs 2=cloV 107 (nb 1):=(hsm (2,1) (by simp) (Nat.lt_of_sub_eq_succ rfl)).trans e1
 have E:=E4;try simp only [LM,zAj] at E
 rw [zAo hL]
 simp only [zP,Nat.zero_add,Nat.reduceAdd]
 rw [e1,e2]
 generalize nb 1=b4_1 at E ⊢
 generalize vs 0=u4_0
 clear e1 e2 hsm hC hn E4 hL vs L nb
 go_upto_region 5 with (fail)
 refine rz [.i (hh:Int),.o,.o,.u (cloV 107 b4_1),.w (f3 P.a P.b P.c),.i (hh:Int),.n (hh:Int),.w (f3 Z.a Z.b Z.c),.o,.t,.t] N2 [] E (fun hp=>⟨zS,zO hp (sqi 0) TL.out,zS,zAi hp fo gqi (sqo 7),lG 0 6 hp gqi J1 zAc zw fun v w h=>h,zAi hp fo gqi (sqo 1),zBp (F:=(Fq.is (.int .i64 (hh:Int))).P) hp fo gqi (zBw) (sqi 5) (fun v w h=>(by subst h;exact OfK w (hh:Int) RH.out.1 RH.out.2)),zIh (F:=(f3 P.a P.b P.c).P) (G:=(Fq.num (hh:Int)).P) hp fo gqi (zGx) J0 rfl (sqi 3) (sqi 4) (sqi 6) (fun v v' w h h' hb=>(by have hh9:=zG0 hb h h' HC.out HP.out SP.out (zu BH.out);rw [HZ.out] at hh9;exact hh9)),zc hp zGw zi (fun v w h=>zGz h TP.out),zo hp (sqi 8),zt hp (sqi 2) (sqi 9),tv⟩) ?_
 intro w5 E _ _
 simp only [rzE] at E ⊢
 go_upto_region 6 with (fail)
 refine rz [.i 0,.i 1] N2 [] E (fun hp=>⟨zS,zS,tv⟩) ?_
 intro w6 E _ _
 simp only [rzE] at E ⊢
 clear SP HP HC HNG HE H4 TL RH HZ TP
 clear BH
 go_wp2
 refine bodyPost_ret (v:=.tuple #[.int .i64 0,.int .i64 1]) ?_ rfl (by first | exact ⟨_,rfl,E.below,⟨_,_,rfl,rfl,rfl⟩⟩ | exact ⟨_,rfl,E.below⟩ | exact ⟨rfl,E.below⟩)
 simp [results,Tryz.results18,go_sem]

theorem zUe {w:World} {v:Value} {P:F3} {D:Int} (h:(f3 P.a P.b P.c).P v w) (sP:Sm P) (hP:Sc D P) (hC:GC D) {hh o:Nat} (hk0:1≤hh) (hk1:(hh:Int)≤9223372036854775807) (ho:Ord D P o) (hoh:o ∣ hh) :
  Rt 18 #[v,.int .i64 (hh:Int)] w fun v' w'=>(Fq.tup2 (Fq.is (.int .i64 (o:Int))) (Fq.is (.int .i64 0))).P v' w':=by
 have SP:=hidd sP
 have HP:=hidd hP
 have HC:=hidd hC
 have HNG:=hidd hC.neg
 have HE:Hid (rfE P.a P.b P.c=0):=zFt hP hC.neg
 have H4:=hidd (zDp hP)
 have TL:Hid (¬ (hh:Int)<1):=by show ¬ _;omega
 have RH:Hid (-9223372036854775808≤(hh:Int)∧(hh:Int)≤9223372036854775807):=by show _∧_;omega
 have BH:Hid (ab (hh:Int)<pw 3):=zAr RH.out.1 RH.out.2
 obtain ⟨Z,hZ⟩:∃ Z,Z=pzF D P (hh:Int):=⟨_,rfl⟩
 have HZ:=hidd hZ.symm
 have hGZ:=pzF_gm hC.neg (zDp hP) hP (hh:Int)
 rw [← hZ] at hGZ
 have TP:Hid (decide (Z.a=1)=true):=decide_eq_true ((zG3 hC.neg (zDp hP) hGZ).2 (by rw [hZ,zHa];exact (ho.iff hC.neg (zDp hP) hP hh).2 hoh))
 clear hZ hGZ
 have HO:=hidd ho
 have HHB:=hidd hk1
 obtain ⟨X0,hX0⟩:∃ X,X=rdF P:=⟨_,rfl⟩
 have HX0:=hidd hX0.symm
 have HS0:Hid (OI D P o hh 1 hh 2 X0):=⟨by rw [hX0];exact rdF_pw hC.neg (zDp hP) hP sP,zm,Nat.one_dvd _,zm,Nat.le_refl _,by rw [Nat.one_mul];exact hoh,Nat.le_refl _,.inl rfl,fun d h2 h3=>zm⟩
 have HOB:Hid ((o:Int)≤9223372036854775807):=by have h9:=Nat.le_of_dvd zm hoh;show _≤_;omega
 clear ho hoh hX0
 clear hk0 hk1
 clear sP hP hC
 obtain ⟨y0_p0,y0_q0,y0_p1,y0_q1,y0_p2,y0_q2,rfl,hF0⟩:=o3 h
 obtain ⟨w1,b1,hw1,hb1,hs1,E⟩:=gS w 38 hF0
 go_enter Tryz.func18,Tryz.ntmps18
 go_upto_region 1 with (fail)
 rw [← hw1,← hb1]
 clear hw1 hb1 hs1
 refine rz [.w (f3 P.a P.b P.c),.i 0,.i 0] [none] [] E (fun hp=>⟨lS 0 6 hp J0 zAc zw,zc hp zDf zi fun v w h=>zDg h (zu SP.out.1) (zu SP.out.2.1) (zu SP.out.2.2) (zu (zCn SP.out.1 SP.out.2.1 SP.out.2.2)) HE.out,zS,tv⟩) ?_
 intro w2 E _ _
 simp only [rzE] at E ⊢
 go_upto_region 2 with (fail)
 refine rz [.i 0,.o] [none] [] E (fun hp=>⟨zS,zo hp (sqi 0),tv⟩) ?_
 intro w3 E _ _
 simp only [rzE] at E ⊢
 go_upto_region 4 with (fail)
 refine zKl (same:=[(2,1)]) (C:=[f3 P.a P.b P.c,Fq.any,Fq.any]) (ks:=[none]) (new:=[⟨1,1,6,f3 ((onF D).a) ((onF D).b) ((onF D).c),f3 ((onF D).a) ((onF D).b) ((onF D).c),(some (.clo 107))⟩]) E rfl (by kernel_rfl) rfl rfl (fun hp=>⟨?_,?_,?_,tv⟩) ?_
 ·exact zFe (lS 0 6 hp J0 zAc (sqo 2)) rfl
 ·exact zFe (zEv (F:=(f3 P.a P.b P.c).P) hp (zLh) J0 rfl rfl rfl (sqi 0) (fun v w h=>zLn (zu (zLa SP.out HP.out)) HNG.out HP.out SP.out h) (fun _ _=>trivial) (zCh rfl) (zDy rfl)) rfl
 ·exact zKs hp fo rfl (j:=1) rfl (by simp) rfl (fun _ _=>trivial) rfl (Nat.ne_of_beq_eq_false rfl)
 intro L vs w4 nb hsm hL hC hn E4
 have e1:vs 1=cloV 107 (nb 1):=hn _ J0
 have e2:vs 2=cloV 107 (nb 1):=(hsm (2,1) (by simp) (Nat.lt_of_sub_eq_succ rfl)).trans e1
 have E:=E4;try simp only [LM,zAj] at E
 rw [zAo hL]
 simp only [zP,Nat.zero_add,Nat.reduceAdd]
 rw [e1,e2]
 generalize nb 1=b4_1 at E ⊢
 generalize vs 0=u4_0
 clear e1 e2 hsm hC hn E4 hL vs L nb
 go_upto_region 5 with (fail)
 refine rz [.i (hh:Int),.o,.o,.u (cloV 107 b4_1),.w (f3 P.a P.b P.c),.i (hh:Int),.n (hh:Int),.w (f3 Z.a Z.b Z.c),.t,.o,.o] N2 [] E (fun hp=>⟨zS,zO hp (sqi 0) TL.out,zS,zAi hp fo gqi (sqo 7),lG 0 6 hp gqi J1 zAc zw fun v w h=>h,zAi hp fo gqi (sqo 1),zBp (F:=(Fq.is (.int .i64 (hh:Int))).P) hp fo gqi (zBw) (sqi 5) (fun v w h=>(by subst h;exact OfK w (hh:Int) RH.out.1 RH.out.2)),zIh (F:=(f3 P.a P.b P.c).P) (G:=(Fq.num (hh:Int)).P) hp fo gqi (zGx) J0 rfl (sqi 3) (sqi 4) (sqi 6) (fun v v' w h h' hb=>(by have hh9:=zG0 hb h h' HC.out HP.out SP.out (zu BH.out);rw [HZ.out] at hh9;exact hh9)),zc hp zGw zi (fun v w h=>zGz h TP.out),zo hp (sqi 8),zt hp (sqi 2) (sqi 9),tv⟩) ?_
 intro w5 E _ _
 simp only [rzE] at E ⊢
 go_upto_region 7 with (fail)
 refine rz [.i (hh:Int),.i 1,.i (hh:Int)] N2 [] E (fun hp=>⟨zS,zS,zS,tv⟩) ?_
 intro w6 E _ _
 simp only [rzE] at E ⊢
 go_upto_region 8 with (fail)
 refine rz [.w (f3 P.a P.b P.c),.w (f3 X0.a X0.b X0.c),.k,.a] N2 [⟨2,3,6,f3 0 0 0,f3 X0.a X0.b X0.c,none⟩] E (fun hp=>⟨lS 0 6 hp J1 zAc zw,zc hp zHt zi fun v w h=>(by have hh9:=zLo HC.out.neg HP.out SP.out h;rw [HX0.out] at hh9;exact hh9),aS hp J0 zAt zB1,sS 1 hp J0 zAn,tv⟩) ?_
 intro w7 b7_2 E _ _
 simp only [rzE] at E ⊢
 go_upto_region 9 with (fail)
 refine rz [.i 2] N3 [] E (fun hp=>⟨zS,tv⟩) ?_
 intro w8 E _ _
 simp only [rzE] at E ⊢
 clear HX0 HZ TP TL HE HNG RH
 have HS:=hidd E
 go_upto_region 10 with (fail)
 go_loopw [8,9,11] (fun vn vl vq W=>∃ (n l q:Nat) (X:F3),vn=.int .i64 (n:Int)∧vl=.int .i64 (l:Int)∧vq=.int .i64 (q:Int)∧OI D P o hh n l q X∧Fr w [(b7_2,6,f3 X.a X.b X.c),(b4_1,6,f3 ((onF D).a) ((onF D).b) ((onF D).c)),(b1,6,f3 P.a P.b P.c)] W) (fun _ vl _ _=>(intOf vl).toNat)
 case atStart=>exact ⟨1,hh,2,X0,by first | rfl | go_num,rfl,by first | rfl | go_num,HS0.out,HS.out⟩
 case round=>
  obtain ⟨n,l,q,X,rfl,rfl,rfl,hI,E⟩:=hrel
  clear HS HS0
  by_cases h0:X.a=1
  ·obtain rfl:=hI.done HC.out.neg H4.out HP.out HO.out h0
   have TX:=hidd (decide_eq_true h0)
   clear h0 hI
   go_upto_region 10 with (fail)
   refine rz [.w (f3 X.a X.b X.c),.t,.o] N3 [] E (fun hp=>⟨lS 0 6 hp J0 zAc zw,zc hp zGw zi fun v w h=>zGz h TX.out,zo hp (sqi 1),tv⟩) ?_
   intro w9 E _ _
   simp only [rzE] at E ⊢
   go_upto_region 18 with (fail)
   refine rz [.i (n:Int),.i (n:Int),.i 0] N3 [] E (fun hp=>⟨zS,zS,zS,tv⟩) ?_
   intro w10 E _ _
   simp only [rzE] at E ⊢
   clear SP HP HC H4 HO HHB HOB TX
   clear BH
   go_wp2
   refine bodyPost_ret (v:=.tuple #[.int .i64 (n:Int),.int .i64 0]) ?_ rfl (by first | exact ⟨_,rfl,E.below,⟨_,_,rfl,rfl,rfl⟩⟩ | exact ⟨_,rfl,E.below⟩ | exact ⟨rfl,E.below⟩)
   simp [results,Tryz.results18,go_sem]
  ·have TX:=hidd (decide_eq_false h0)
   obtain ⟨q1,k1,m,hQ,hqq,hlk,hmq,hII⟩:=hI.step HC.out.neg H4.out HP.out HO.out h0
   have HGX:Hid (Gm D X):=by show Gm D X;rw [hI.x];exact zBl HC.out.neg H4.out HP.out _
   have HLB:=hidd hI.lh
   have HL0:=hidd hI.l0
   have HQ:=hidd hQ
   have HLK:=hidd hlk
   have HMQ:=hidd hmq
   have HQQ:Hid (2≤q∧(q=2∨q % 2=1)∧q≤q1):=⟨hI.q2,hI.qo,hqq⟩
   obtain ⟨Y,hY⟩:∃ Y,Y=pwF D P (n*m):=⟨_,rfl⟩
   rw [← hY] at hII
   have HY:Hid (pzF D X (m:Int)=Y):=by show _=_;rw [zHa,hI.x,← zIe HC.out.neg H4.out HP.out,hY]
   have HI2:=hidd hII
   have HL9:Hid ((l:Int)≤9223372036854775807):=by have:=HLB.out;have:=HHB.out;show _≤_;omega
   have RQ1:=hidd (zH1 HQ.out.ql HL9.out)
   have BQ1:=hidd (ab_to HQ.out.ql HL9.out)
   have RM:=hidd (zH1 (Nat.le_of_lt HQ.out.ml) HL9.out)
   have BM:=hidd (ab_to (Nat.le_of_lt HQ.out.ml) HL9.out)
   clear h0 hI hQ hqq hlk hmq hII hY
   go_upto_region 10 with (fail)
   refine rz [.w (f3 X.a X.b X.c),.o,.t] N3 [] E (fun hp=>⟨lS 0 6 hp J0 zAc zw,zc hp zGw zi fun v w h=>zGz h TX.out,zo hp (sqi 1),tv⟩) ?_
   intro w11 E _ _
   simp only [rzE] at E ⊢
   go_upto_region 11 with (fail)
   refine rz [.i (l:Int),.i (q:Int),.i (q1:Int),.i (q1:Int)] N3 [] E (fun hp=>⟨zS,zFq 3 3 hp fo tv rfl rfl rfl rfl (fun _=>rfl),wXb (Fq.is (.int .i64 (l:Int))) (Fq.is (.int .i64 (q:Int))) hp zLg (sqi 0) (sqi 1) fun v v' w h h'=>(by subst h h';exact zLm w HQ.out.le HL0.out HL9.out HQQ.out.1 HQQ.out.2.1 HQQ.out.2.2),zS,tv⟩) ?_
   intro w12 E _ _
   simp only [rzE] at E ⊢
   go_upto_region 12 with (fail)
   refine rz [.i (l:Int),.i (q1:Int),.i (m:Int),.i (m:Int)] N3 [] E (fun hp=>⟨zFq 3 3 hp fo tv rfl rfl rfl rfl (fun _=>rfl),zS,wXb (Fq.is (.int .i64 (l:Int))) (Fq.is (.int .i64 (q1:Int))) hp zTv (sqi 0) (sqi 1) fun v v' w h h'=>(by subst h h';exact zUp w HQ.out.le.1 HQ.out.m0 HMQ.out HLK.out HL9.out),zS,tv⟩) ?_
   intro w13 E _ _
   simp only [rzE] at E ⊢
   go_upto_region 13 with (fail)
   refine rz [.i (q1:Int),.n (q1:Int),.k,.a] N3 [⟨2,3,2,Fq.num 0,Fq.num (q1:Int),none⟩] E (fun hp=>⟨zS,wXa (Fq.is (.int .i64 (q1:Int))) hp zBw (sqi 0) fun v w h=>(by subst h;exact OfK w (q1:Int) RQ1.out.1 RQ1.out.2),aN hp J0,sN 1 hp J0,tv⟩) ?_
   intro w14 b14_2 E _ _
   simp only [rzE] at E ⊢
   go_upto_region 14 with (fail)
   refine rz [.u (cloV 107 b4_1),.w (f3 X.a X.b X.c),.i (m:Int),.n (m:Int),.w (f3 Y.a Y.b Y.c),.k,.a] N4 [⟨5,6,6,f3 0 0 0,f3 Y.a Y.b Y.c,none⟩] E (fun hp=>⟨zS,lS 0 6 hp J1 zAc zw,zS,wXa (Fq.is (.int .i64 (m:Int))) hp zBw (sqi 2) fun v w h=>(by subst h;exact OfK w (m:Int) RM.out.1 RM.out.2),zIh (F:=(f3 X.a X.b X.c).P) (G:=(Fq.num (m:Int)).P) hp fo tv (zGx) J2 rfl (sqi 0) (sqi 1) (sqi 3) (fun v v' w h h' hb=>(by have hh9:=zG0 hb h h' HC.out HGX.out.1 (HC.out.sm _ HGX.out) (zu BM.out);rw [HY.out] at hh9;exact hh9)),aS hp J0 zAt zB1,sS 4 hp J0 zAn,tv⟩) ?_
   intro w15 b15_5 E _ _
   simp only [rzE] at E ⊢
   clear TX HY HLK HMQ HQQ RM HGX HL0
   have HS:=hidd E
   go_upto_region 15 with (fail)
   go_loopw [8] (fun vn W=>∃ (n1 j:Nat) (X1 Y1:F3),vn=.int .i64 (n1:Int)∧II D P o m q1 n1 j X1 Y1∧Fr w [(b15_5,6,f3 Y1.a Y1.b Y1.c),(b14_2,2,Fq.num (q1:Int)),(b7_2,6,f3 X1.a X1.b X1.c),(b4_1,6,f3 ((onF D).a) ((onF D).b) ((onF D).c)),(b1,6,f3 P.a P.b P.c)] W) (fun vn _=>o-(intOf vn).toNat)
   case atStart=>exact ⟨n,k1,X,Y,rfl,HI2.out,HS.out⟩
   case round=>
    obtain ⟨n1,j,X1,Y1,rfl,hI,E⟩:=hrel
    clear HS HI2
    by_cases h1:Y1.a=1
    ·have hD:=hI.done HC.out.neg H4.out HP.out HO.out HLB.out HQ.out h1
     have HD:=hidd hD
     have TY:=hidd (decide_eq_true h1)
     clear hI hD h1
     go_upto_region 15 with (fail)
     refine rz [.w (f3 Y1.a Y1.b Y1.c),.t,.o] N5 [] E (fun hp=>⟨lS 0 6 hp J0 zAc zw,zc hp zGw zi fun v w h=>zGz h TY.out,zo hp (sqi 1),tv⟩) ?_
     intro w16 E _ _
     simp only [rzE] at E ⊢
     go_wp2
     go_roundw
     case rel=>exact ⟨n1,m,q1,X1,rfl,rfl,rfl,HD.out,E.drop.drop⟩
     case measure=>exact meas_y HQ.out.ml
    ·have TY:=hidd (decide_eq_false h1)
     obtain ⟨hno,hnn,i,hJ⟩:=hI.step HC.out.neg H4.out HP.out HO.out HQ.out.le h1
     have HGX1:Hid (Gm D X1):=by show Gm D X1;rw [hI.x];exact zBl HC.out.neg H4.out HP.out _
     have HGY1:Hid (Gm D Y1):=by show Gm D Y1;rw [hI.y];exact zBl HC.out.neg H4.out HP.out _
     obtain ⟨X2,hX2⟩:∃ X,X=pwF D X1 q1:=⟨_,rfl⟩
     obtain ⟨Y2,hY2⟩:∃ X,X=pwF D Y1 q1:=⟨_,rfl⟩
     obtain ⟨n2,hn2⟩:∃ n2,n2=n1*q1:=⟨_,rfl⟩
     rw [← hX2,← hY2,← hn2] at hJ
     rw [← hn2] at hno hnn
     have HX2:Hid (pzF D X1 (q1:Int)=X2):=by show _=_;rw [zHa,hX2]
     have HY2:Hid (pzF D Y1 (q1:Int)=Y2):=by show _=_;rw [zHa,hY2]
     have TN:=hidd (mul_to hn2 hno HOB.out)
     have HNN:Hid (n2≤o∧n1<n2):=⟨hno,hnn⟩
     have HJ:=hidd hJ
     clear hI h1 hno hnn hJ hX2 hY2 hn2
     go_upto_region 15 with (fail)
     refine rz [.w (f3 Y1.a Y1.b Y1.c),.o,.t] N5 [] E (fun hp=>⟨lS 0 6 hp J0 zAc zw,zc hp zGw zi fun v w h=>zGz h TY.out,zo hp (sqi 1),tv⟩) ?_
     intro w17 E _ _
     simp only [rzE] at E ⊢
     go_upto_region 16 with (fail)
     refine rz [.u (cloV 107 b4_1),.w (f3 X1.a X1.b X1.c),.n (q1:Int),.w (f3 X2.a X2.b X2.c),.u (cloV 107 b4_1),.w (f3 Y1.a Y1.b Y1.c),.n (q1:Int),.w (f3 Y2.a Y2.b Y2.c),.a,.a] [some (9,f3 Y2.a Y2.b Y2.c),none,some (8,f3 X2.a X2.b X2.c),none,none] [] E (fun hp=>⟨zS,zCz (off:=0) (l:=6) hp fo tv J2 (.inr rfl) rfl zAc rfl (sqo 10) (fun v w h=>h),lI 0 hp J1 zw,zIh (F:=(f3 X1.a X1.b X1.c).P) (G:=(Fq.num (q1:Int)).P) hp fo tv (zGx) J3 rfl (sqi 0) (sqi 1) (sqi 2) (fun v v' w h h' hb=>(by have hh9:=zG0 hb h h' HC.out HGX1.out.1 (HC.out.sm _ HGX1.out) (zu BQ1.out);rw [HX2.out] at hh9;exact hh9)),zS,zCz (off:=0) (l:=6) hp fo tv J0 (.inr rfl) rfl zAc rfl (sqo 13) (fun v w h=>h),lI 0 hp J1 zw,zIh (F:=(f3 Y1.a Y1.b Y1.c).P) (G:=(Fq.num (q1:Int)).P) hp fo tv (zGx) J3 rfl (sqi 4) (sqi 5) (sqi 6) (fun v v' w h h' hb=>(by have hh9:=zG0 hb h h' HC.out HGY1.out.1 (HC.out.sm _ HGY1.out) (zu BQ1.out);rw [HY2.out] at hh9;exact hh9)),sO 0 3 hp J2 zAn zw,sO 0 7 hp J0 zAn zw,tv⟩) ?_
     intro w18 E _ _
     simp only [rzE] at E ⊢
     go_upto_region 17 with (fail)
     refine rz [.i (n1:Int),.i (q1:Int),.i (n2:Int),.i (n2:Int)] N5 [] E (fun hp=>⟨zFq 3 3 hp fo tv rfl rfl rfl rfl (fun _=>rfl),zS,zT hp (sqi 0) (sqi 1) TN.out,zS,tv⟩) ?_
     intro w19 E _ _
     simp only [rzE] at E ⊢
     go_wp2
     go_roundw
     case rel=>exact ⟨n2,i,X2,Y2,rfl,HJ.out,E⟩
     case measure=>exact meas_o HNN.out.1 HNN.out.2

theorem ld_ints {us:List Value} {w:World} {zs:List Int} {i:Nat} {z:Int} (hz:zs[i]?=some z) (h:(Fq.ints zs).P (.agg us.toArray) w):Num w (.agg #[us.getD (i*2) undef,us.getD (i*2+1) undef]) z:=by
 obtain ⟨us2,e,_,h⟩:=h
 injection e with e
 have e2:=congrArg Array.toList e
 simp at e2
 subst e2
 obtain ⟨n,ao,k,c,g1,g2,g3⟩:=h i z hz
 rw [g1,g2]
 exact g3
theorem off_i {i:Nat} (h:i<2):i*2+2≤4:=zm
section
variable {os : List Oper} {Q : Exit → Act → World → Prop} {a : Act} {p : Pq} {B B0 : Nat} {w0 : World}
variable {i s : Nat} {d : Option Tmp} {ty : TypeId} {ps : String} {af : Array Edge} {gd : Option (Nat × Bool)}
theorem q_lenNew {n0:Nb} {x:Operand} {l:Nat} (hp:p.Ok B B0) (hF:p.Free i) (hg:GdQ os a p B B0 w0 af gd) (hi:n0∈p.new) (hsl:n0.s=some (.sl l))
  (hf:∀ L vs w,p.G B B0 w0 L vs w→(∀ e∈af,Region.binds .any e=true→L e.on=true)→L n0.i=true∧(lay os.toArray L vs os.toArray.size a).eval x=vs n0.i)
  (hC:∀ w,(p.c i).P (.int .i64 (l:Int)) w) :
  zAf os Q a p B B0 w0 i { dst:=d,op:=.call { callee:=.builtin .len,args:=#[x],argTypes:=#[86] },type:=ty,pos:=ps,after:=af,guard:=gd }:=by
 refine zBf hp hF hg fun L vs w hG hL hc hd=>?_
 obtain ⟨hLi,hye⟩:=hf L vs w hG hd
 obtain ⟨b,e1,_,_⟩:=hG.new _ hi hLi
 have hptr:n0.ptr b=.slice (some ⟨b,0,none⟩) l l:=by unfold Nb.ptr;rw [hsl]
 rw [e1,hptr] at hye
 refine ⟨.int .i64 l,?_,hC w⟩
 generalize (lay os.toArray L vs os.toArray.size a).eval=ρ at hye
 simp [go_sem,hye]
end
def ovB (d p r:Int):Bool:=decide ((((r*r)-d) % (4*p))=0) || decide (((((p-r)*(p-r))-d) % (4*p))=0)
def ovF (d p r:Int):F3:=if (((r*r)-d) % (4*p))=0 then ⟨p,r,(((r*r)-d)/(4*p))⟩ else if ((((p-r)*(p-r))-d) % (4*p))=0 then ⟨p,p-r,((((p-r)*(p-r))-d)/(4*p))⟩ else ⟨0,0,0⟩
theorem zUf {w:World} {v v':Value} {d p z e:Int} (h:Num w v d) (h':Num w v' p) (hd:ab d<pw 3) (hp:ab p<pw 3) (he:¬ e=0) (hS:∀ (w1:World) (x x':Value),Below w.heap.size w w1→Num w1 x d→Num w1 x' p→Calls Tryz.prog 150 #[x,x'] w1 fun e' w'=>∃ v',e'=.returned v'∧Below w1.heap.size w1 w'∧(Fq.tup2 (Fq.num z) (Fq.is (.int .i64 e))).P v' w') :
  Rt 129 #[v,v'] w fun v' w'=>(Fq.tup2 (f3 0 0 0) (Fq.is (.bool false))).P v' w':=by
 replace hd:=hidd hd
 replace hp:=hidd hp
 have HS0:=hidd hS
 clear hS
 have HN:=hidd he
 clear he
 obtain ⟨n0,ao0,k0,c0,rfl⟩:=h.parts
 obtain ⟨n1,ao1,k1,c1,rfl⟩:=h'.parts
 obtain ⟨w1,b1,hw1,hb1,hs1,E⟩:=gN w 36 h
 obtain ⟨w2,b2,hw2,hb2,hs2,E⟩:=fN E hs1 36 h'
 obtain ⟨w3,b3,hw3,hb3,hs3,E⟩:=fO E hs2 38 zAt
 go_enter Tryz.func129,Tryz.ntmps129
 go_upto_region 1 with (fail)
 rw [← hw1,← hw2]
 rw [← hw3,← hb3]
 rw [← hb2,← hb1]
 clear hw1 hw2 hw3 hb1 hb2 hb3 hs3 hs1 hs2
 refine rz [.n d,.n p,.w (Fq.tup2 (Fq.num z) (Fq.is (.int .i64 e))),.w (Fq.tup2 (Fq.num z) (Fq.is (.int .i64 e))),.n z,.i e,.k,.a,.i e] N3 [⟨6,7,2,Fq.num 0,Fq.num z,none⟩] E (fun hp=>⟨lI 0 hp J2 zw,lI 0 hp J1 zw,zD0 (F:=(Fq.num d).P) (G:=(Fq.num p).P) hp fo tv (zOe) rfl (sqi 0) (sqi 1) (fun v v' w hbw h h'=>HS0.out _ _ _ hbw h h'),zS,zS,zS,aN hp J0,sN 4 hp J0,zS,tv⟩) ?_
 intro w4 b4_6 E _ _
 simp only [rzE] at E ⊢
 go_upto_region 2 with (fail)
 refine rz [.i e,.t] N4 [] E (fun hp=>⟨zS,zO hp (sqi 0) HN.out,tv⟩) ?_
 intro w5 E _ _
 simp only [rzE] at E ⊢
 go_upto_region 3 with (fail)
 refine rz [.w (f3 0 0 0),.a,.o] [none,some (1,f3 0 0 0),none,none] [] E (fun hp=>⟨zFn hp fo tv (fun v w h=>h),sO 0 0 hp J1 zAn zw,zS,tv⟩) ?_
 intro w6 E _ _
 simp only [rzE] at E ⊢
 clear HN HS0
 obtain ⟨_,_,hccr,hffr⟩:=zAv (E.box 1 rfl)
 have hPr:=hffr
 obtain ⟨r_p0,r_q0,_,rfl,_r_n0,r_p1,r_q1,_,rfl,_r_n1,r_p2,r_q2,_,rfl,_r_n2,rfl⟩:=hffr
 have crz:=c6 hccr
 simp only [List.getD_cons_zero,List.getD_cons_succ] at crz
 clear hccr
 clear hd hp
 go_wp2
 exact zR (v:=.tuple #[.agg #[r_p0,r_q0,r_p1,r_q1,r_p2,r_q2],.bool false]) (by simp [results,Tryz.results129,go_sem,crz]) E.below ⟨_,_,rfl,⟨_,rfl,hPr⟩,rfl⟩

theorem zUg {w:World} {v v':Value} {d p r:Int} (h:Num w v d) (h':Num w v' p) (hd:ab d<pw 3) (hp:ab p<pw 3) (hr:ab r<pw 3) (hp0:0<p) (hS:∀ (w1:World) (x x':Value),Below w.heap.size w w1→Num w1 x d→Num w1 x' p→Calls Tryz.prog 150 #[x,x'] w1 fun e' w'=>∃ v',e'=.returned v'∧Below w1.heap.size w1 w'∧(Fq.tup2 (Fq.num r) (Fq.is (.int .i64 0))).P v' w') :
  Rt 129 #[v,v'] w fun v' w'=>(Fq.tup2 (Fq.st [.n (ovF d p r).a,.n (ovF d p r).b,.n (ovF d p r).c]) (Fq.is (.bool (ovB d p r)))).P v' w':=by
 replace hd:=hidd hd
 replace hp:=hidd hp
 have HS0:=hidd hS
 clear hS
 replace hr:=hidd hr
 have HP0:=hidd hp0
 have B4:Hid (ab (4:Int)<pw 3):=zAr zd zd
 have HM0:Hid (4*p≠0):=by show _≠_;omega
 have HI:Hid ((0:Nat)<2):=by show _<_;decide
 have HI1:Hid ((1:Nat)<2):=by show _<_;decide
 clear hp0
 obtain ⟨n0,ao0,k0,c0,rfl⟩:=h.parts
 obtain ⟨n1,ao1,k1,c1,rfl⟩:=h'.parts
 obtain ⟨w1,b1,hw1,hb1,hs1,E⟩:=gN w 36 h
 obtain ⟨w2,b2,hw2,hb2,hs2,E⟩:=fN E hs1 36 h'
 obtain ⟨w3,b3,hw3,hb3,hs3,E⟩:=fO E hs2 38 zAt
 go_enter Tryz.func129,Tryz.ntmps129
 go_upto_region 1 with (fail)
 rw [← hw1,← hw2]
 rw [← hw3,← hb3]
 rw [← hb2,← hb1]
 clear hw1 hw2 hw3 hb1 hb2 hb3 hs3 hs1 hs2
 refine rz [.n d,.n p,.w (Fq.tup2 (Fq.num r) (Fq.is (.int .i64 0))),.w (Fq.tup2 (Fq.num r) (Fq.is (.int .i64 0))),.n r,.i 0,.k,.a,.i 0] N3 [⟨6,7,2,Fq.num 0,Fq.num r,none⟩] E (fun hp=>⟨lI 0 hp J2 zw,lI 0 hp J1 zw,zD0 (F:=(Fq.num d).P) (G:=(Fq.num p).P) hp fo tv (zOe) rfl (sqi 0) (sqi 1) (fun v v' w hbw h h'=>HS0.out _ _ _ hbw h h'),zS,zS,zS,aN hp J0,sN 4 hp J0,zS,tv⟩) ?_
 intro w4 b4_6 E _ _
 simp only [rzE] at E ⊢
 go_upto_region 2 with (fail)
 refine rz [.i 0,.o] N4 [] E (fun hp=>⟨zS,zo hp (sqi 0),tv⟩) ?_
 intro w5 E _ _
 simp only [rzE] at E ⊢
 go_upto_region 4 with (fail)
 have B6:Hid (ab ((4*p))<pw 6):=zAl B4.out hp.out zm
 refine rz [.n 4,.n p,.n (4*p),.k,.a] N4 [⟨3,4,2,Fq.num 0,Fq.num (4*p),none⟩] E (fun hp=>⟨zBp (F:=(Fq.is (.int .i64 4)).P) hp fo tv (zBw) (zAk (fun _=>rfl)) (fun v w h=>(by subst h;exact OfK w 4 zm zm)),lI 0 hp J2 zw,zC hp zBe zi zi fun v v' w h h'=>exK (MulV h h') B6.out zm,aN hp J0,sN 2 hp J0,tv⟩) ?_
 intro w7 b7_3 E _ _
 simp only [rzE] at E ⊢
 go_upto_region 5 with (fail)
 have B8:Hid (ab ((p-r))<pw 4):=zCm hp.out hr.out zm zm
 refine rz [.n r,.n p,.n r,.n (p-r),.k,.i ((2:Nat):Int),.i 0] N5 [⟨4,4,4,Fq.ints [r,(p-r)],Fq.ints [r,(p-r)],(some 2)⟩] E (fun hp=>⟨lI 0 hp J1 zw,lI 0 hp J3 zw,lI 0 hp J1 zw,zC hp zF6 zi zi fun v v' w h h'=>exK (SubV h h') B8.out zm,zW0 hp trivial J0 rfl rfl rfl rfl rfl (sqi 0) (sqi 3) (fun _ _=>trivial) (zCh rfl) (zDy rfl),q_lenNew hp fo tv J0 rfl (zEg rfl rfl (by simp) rfl) (fun _=>rfl),zAi hp fo tv (zAk (fun _=>rfl)),tv⟩) ?_
 intro w9 b9_4 E _ _
 simp only [rzE] at E ⊢
 clear HS0
 have HS:=hidd E
 go_upto_region 6 with (fail)
 go_loopw [32] (fun vi W=>∃ i:Nat,vi=.int .i64 (i:Int)∧(i=0∨i=1∧¬ (((r*r)-d) % (4*p))=0∨i=2∧¬ (((r*r)-d) % (4*p))=0∧¬ ((((p-r)*(p-r))-d) % (4*p))=0)∧Fr w [(b9_4,4,Fq.ints [r,(p-r)]),(b7_3,2,Fq.num (4*p)),(b4_6,2,Fq.num r),(b3,6,f3 0 0 0),(b2,2,Fq.num p),(b1,2,Fq.num d)] W) (fun vi _=>2-(intOf vi).toNat)
 case atStart=>exact ⟨0,rfl,.inl rfl,HS.out⟩
 case round=>
  obtain ⟨i,rfl,hi,E⟩:=hrel
  clear HS
  rcases hi with rfl | ⟨rfl,k1⟩ | ⟨rfl,k1,k2⟩
  ·have HQI:Hid (([r,(p-r)]:List Int)[0]?=some r):=rfl
   go_upto_region 6 with (fail)
   refine rz [.t] N6 [] E (fun hp=>⟨zt hp (sqo 32) (sqo 31),tv⟩) ?_
   intro w10 E _ _
   simp only [rzE] at E ⊢
   go_upto_region 7 with (fail)
   refine rz [.u (.pointer (some ⟨b9_4,0*2,none⟩)),.n r,.k,.a] N6 [⟨2,3,2,Fq.num 0,Fq.num r,none⟩] E (fun hp=>⟨zRk (b:=b9_4) (l:=2) (c:=2) (k:=0) hp fo tv (sqo 30) (sqo 32) zd (fun _=>rfl),zA1 (off:=0*2) hp fo tv J0 (.inl rfl) (off_i HI.out) (sqi 0) (fun us w hl h=>ld_ints HQI.out h),aN hp J0,sN 1 hp J0,tv⟩) ?_
   intro w11 b11_2 E _ _
   simp only [rzE] at E ⊢
   clear HQI
   go_upto_region 8 with (fail)
   have B12:Hid (ab ((r*r))<pw 6):=zAl hr.out hr.out zm
   have B13:Hid (ab (((r*r)-d))<pw 7):=zCm B12.out hd.out zm zm
   have B14:Hid (ab ((((r*r)-d)/(4*p)))<pw 8):=zEj B13.out zm
   have B15:Hid (ab ((((r*r)-d) % (4*p)))<pw 6):=zCf HM0.out B6.out
   refine rz [.n r,.n r,.n (r*r),.n d,.n ((r*r)-d),.n (4*p),.w (Fq.tup3 (Fq.num (((r*r)-d)/(4*p))) (Fq.num (((r*r)-d) % (4*p))) (Fq.is (.int .i64 0))),.w (Fq.tup3 (Fq.num (((r*r)-d)/(4*p))) (Fq.num (((r*r)-d) % (4*p))) (Fq.is (.int .i64 0))),.n (((r*r)-d)/(4*p)),.n (((r*r)-d) % (4*p)),.i 0,.k,.k,.a,.a,.i 0] N7 [⟨11,13,2,Fq.num 0,Fq.num (((r*r)-d)/(4*p)),none⟩,⟨12,14,2,Fq.num 0,Fq.num (((r*r)-d) % (4*p)),none⟩] E (fun hp=>⟨lI 0 hp J0 zw,lI 0 hp J0 zw,zC hp zBe zi zi fun v v' w h h'=>exK (MulV h h') B12.out zm,lI 0 hp J6 zw,zC hp zF6 zi zi fun v v' w h h'=>exK (SubV h h') B13.out zm,lI 0 hp J2 zw,zC hp zF3 zi zi fun v v' w h h'=>zGa h h' HM0.out B14.out B15.out zm zm,zS,zS,zS,zS,aN hp J0,aN hp J1,sN 8 hp J0,sN 9 hp J1,zS,tv⟩) ?_
   intro w16 b16_11 b16_12 E _ _
   simp only [rzE] at E ⊢
   by_cases kk:(((r*r)-d) % (4*p))=0
   ·have e1:ovB d p r=true∧ovF d p r=⟨p,r,(((r*r)-d)/(4*p))⟩:=⟨by unfold ovB;rw [decide_eq_true kk];rfl,by unfold ovF;rw [if_pos kk]⟩
    have HE1:=hidd e1
    have T1:Hid (cmpI (((r*r)-d) % (4*p)) 0=0):=cmpIq0.2 kk
    clear e1 kk
    go_upto_region 9 with (fail)
    refine rz [.n (((r*r)-d) % (4*p)),.i (cmpI (((r*r)-d) % (4*p)) 0),.t] N9 [] E (fun hp=>⟨lI 0 hp J1 zw,zc hp zA3 zi fun v w h=>zA5 h,zO hp (sqi 1) T1.out,tv⟩) ?_
    intro w17 E _ _
    simp only [rzE] at E ⊢
    go_upto_region 10 with (fail)
    refine rz [.n p,.n r,.n (((r*r)-d)/(4*p)),.w (f3 p r (((r*r)-d)/(4*p))),.a,.t] [none,none,none,none,none,none,some (4,f3 p r (((r*r)-d)/(4*p))),none,none] [] E (fun hp=>⟨lI 0 hp J7 zw,lI 0 hp J2 zw,lI 0 hp J0 zw,zFo (z0:=p) (z1:=r) (z2:=(((r*r)-d)/(4*p))) hp fo tv (sqi 0) (sqi 1) (sqi 2) (fun v w h=>h),sO 0 3 hp J6 zAn zw,zS,tv⟩) ?_
    intro w18 E _ _
    simp only [rzE] at E ⊢
    have e1:=HE1.out
    clear HE1 T1 HI HP0 HM0 HI1
    obtain ⟨_,_,hccr,hffr⟩:=zAv (E.box 6 rfl)
    have hPr:=hffr
    obtain ⟨r_p0,r_q0,_,rfl,_r_n0,r_p1,r_q1,_,rfl,_r_n1,r_p2,r_q2,_,rfl,_r_n2,rfl⟩:=hffr
    have crz:=c6 hccr
    simp only [List.getD_cons_zero,List.getD_cons_succ] at crz
    clear hccr
    clear B6 B8 B12 B13 B14 B15 hd hp hr B4
    go_wp2
    exact zR (v:=.tuple #[.agg #[r_p0,r_q0,r_p1,r_q1,r_p2,r_q2],.bool true]) (by simp [results,Tryz.results129,go_sem,crz]) E.below ⟨_,_,rfl,(by rw [e1.2];exact ⟨_,rfl,hPr⟩),congrArg Value.bool e1.1.symm⟩
   ·have T1:Hid (¬ cmpI (((r*r)-d) % (4*p)) 0=0):=fun e=>kk (cmpIq0.1 e)
    have KK:=hidd kk
    clear kk
    go_upto_region 9 with (fail)
    refine rz [.n (((r*r)-d) % (4*p)),.i (cmpI (((r*r)-d) % (4*p)) 0),.o] N9 [] E (fun hp=>⟨lI 0 hp J1 zw,zc hp zA3 zi fun v w h=>zA5 h,zO hp (sqi 1) T1.out,tv⟩) ?_
    intro w19 E _ _
    simp only [rzE] at E ⊢
    go_wp2
    go_roundw
    case rel=>exact ⟨1,by first | rfl | go_num,.inr (.inl ⟨rfl,KK.out⟩),E.drop.drop.drop⟩
    case measure=>first | decide | simp [intOf]
  ·have K1:=hidd k1
   clear k1
   have HQI:Hid (([r,(p-r)]:List Int)[1]?=some (p-r)):=rfl
   clear HI
   have HI:=HI1
   go_upto_region 6 with (fail)
   refine rz [.t] N6 [] E (fun hp=>⟨zt hp (sqo 32) (sqo 31),tv⟩) ?_
   intro w20 E _ _
   simp only [rzE] at E ⊢
   go_upto_region 7 with (fail)
   refine rz [.u (.pointer (some ⟨b9_4,1*2,none⟩)),.n (p-r),.k,.a] N6 [⟨2,3,2,Fq.num 0,Fq.num (p-r),none⟩] E (fun hp=>⟨zRk (b:=b9_4) (l:=2) (c:=2) (k:=1) hp fo tv (sqo 30) (sqo 32) zd (fun _=>rfl),zA1 (off:=1*2) hp fo tv J0 (.inl rfl) (off_i HI.out) (sqi 0) (fun us w hl h=>ld_ints HQI.out h),aN hp J0,sN 1 hp J0,tv⟩) ?_
   intro w21 b21_2 E _ _
   simp only [rzE] at E ⊢
   clear HQI
   go_upto_region 8 with (fail)
   have B22:Hid (ab (((p-r)*(p-r)))<pw 8):=zAl B8.out B8.out zm
   have B23:Hid (ab ((((p-r)*(p-r))-d))<pw 9):=zCm B22.out hd.out zm zm
   have B24:Hid (ab (((((p-r)*(p-r))-d)/(4*p)))<pw 10):=zEj B23.out zm
   have B25:Hid (ab (((((p-r)*(p-r))-d) % (4*p)))<pw 6):=zCf HM0.out B6.out
   refine rz [.n (p-r),.n (p-r),.n ((p-r)*(p-r)),.n d,.n (((p-r)*(p-r))-d),.n (4*p),.w (Fq.tup3 (Fq.num ((((p-r)*(p-r))-d)/(4*p))) (Fq.num ((((p-r)*(p-r))-d) % (4*p))) (Fq.is (.int .i64 0))),.w (Fq.tup3 (Fq.num ((((p-r)*(p-r))-d)/(4*p))) (Fq.num ((((p-r)*(p-r))-d) % (4*p))) (Fq.is (.int .i64 0))),.n ((((p-r)*(p-r))-d)/(4*p)),.n ((((p-r)*(p-r))-d) % (4*p)),.i 0,.k,.k,.a,.a,.i 0] N7 [⟨11,13,2,Fq.num 0,Fq.num ((((p-r)*(p-r))-d)/(4*p)),none⟩,⟨12,14,2,Fq.num 0,Fq.num ((((p-r)*(p-r))-d) % (4*p)),none⟩] E (fun hp=>⟨lI 0 hp J0 zw,lI 0 hp J0 zw,zC hp zBe zi zi fun v v' w h h'=>exK (MulV h h') B22.out zm,lI 0 hp J6 zw,zC hp zF6 zi zi fun v v' w h h'=>exK (SubV h h') B23.out zm,lI 0 hp J2 zw,zC hp zF3 zi zi fun v v' w h h'=>zGa h h' HM0.out B24.out B25.out zm zm,zS,zS,zS,zS,aN hp J0,aN hp J1,sN 8 hp J0,sN 9 hp J1,zS,tv⟩) ?_
   intro w26 b26_11 b26_12 E _ _
   simp only [rzE] at E ⊢
   by_cases kk:((((p-r)*(p-r))-d) % (4*p))=0
   ·have e1:ovB d p r=true∧ovF d p r=⟨p,p-r,((((p-r)*(p-r))-d)/(4*p))⟩:=⟨by unfold ovB;rw [decide_eq_true kk,Bool.or_true],by unfold ovF;rw [if_neg K1.out,if_pos kk]⟩
    have HE1:=hidd e1
    have T1:Hid (cmpI ((((p-r)*(p-r))-d) % (4*p)) 0=0):=cmpIq0.2 kk
    clear e1 kk
    go_upto_region 9 with (fail)
    refine rz [.n ((((p-r)*(p-r))-d) % (4*p)),.i (cmpI ((((p-r)*(p-r))-d) % (4*p)) 0),.t] N9 [] E (fun hp=>⟨lI 0 hp J1 zw,zc hp zA3 zi fun v w h=>zA5 h,zO hp (sqi 1) T1.out,tv⟩) ?_
    intro w27 E _ _
    simp only [rzE] at E ⊢
    go_upto_region 10 with (fail)
    refine rz [.n p,.n (p-r),.n ((((p-r)*(p-r))-d)/(4*p)),.w (Fq.st [.n p,.n (p-r),.n ((((p-r)*(p-r))-d)/(4*p))]),.a,.t] [none,none,none,none,none,none,some (4,Fq.st [.n p,.n (p-r),.n ((((p-r)*(p-r))-d)/(4*p))]),none,none] [] E (fun hp=>⟨lI 0 hp J7 zw,lI 0 hp J2 zw,lI 0 hp J0 zw,zFo (z0:=p) (z1:=(p-r)) (z2:=((((p-r)*(p-r))-d)/(4*p))) hp fo tv (sqi 0) (sqi 1) (sqi 2) (fun v w h=>h),sO 0 3 hp J6 zAn zw,zS,tv⟩) ?_
    intro w28 E _ _
    simp only [rzE] at E ⊢
    have e1:=HE1.out
    clear HE1 T1 HI HP0 HM0 K1
    obtain ⟨_,_,hccr,hffr⟩:=zAv (E.box 6 rfl)
    have hPr:=hffr
    obtain ⟨r_p0,r_q0,_,rfl,_r_n0,r_p1,r_q1,_,rfl,_r_n1,r_p2,r_q2,_,rfl,_r_n2,rfl⟩:=hffr
    have crz:=c6 hccr
    simp only [List.getD_cons_zero,List.getD_cons_succ] at crz
    clear hccr
    clear B6 B8 B22 B23 B24 B25 hd hp hr B4
    go_wp2
    exact zR (v:=.tuple #[.agg #[r_p0,r_q0,r_p1,r_q1,r_p2,r_q2],.bool true]) (by simp [results,Tryz.results129,go_sem,crz]) E.below ⟨_,_,rfl,(by rw [e1.2];exact ⟨_,rfl,hPr⟩),congrArg Value.bool e1.1.symm⟩
   ·have T1:Hid (¬ cmpI ((((p-r)*(p-r))-d) % (4*p)) 0=0):=fun e=>kk (cmpIq0.1 e)
    have KK:=hidd kk
    clear kk
    go_upto_region 9 with (fail)
    refine rz [.n ((((p-r)*(p-r))-d) % (4*p)),.i (cmpI ((((p-r)*(p-r))-d) % (4*p)) 0),.o] N9 [] E (fun hp=>⟨lI 0 hp J1 zw,zc hp zA3 zi fun v w h=>zA5 h,zO hp (sqi 1) T1.out,tv⟩) ?_
    intro w29 E _ _
    simp only [rzE] at E ⊢
    go_wp2
    go_roundw
    case rel=>exact ⟨2,by first | rfl | go_num,.inr (.inr ⟨rfl,K1.out,KK.out⟩),E.drop.drop.drop⟩
    case measure=>first | decide | simp [intOf]
  ·have e1:ovB d p r=false∧ovF d p r=⟨0,0,0⟩:=⟨by unfold ovB;rw [decide_eq_false k1,decide_eq_false k2];rfl,by unfold ovF;rw [if_neg k1,if_neg k2]⟩
   have HE1:=hidd e1
   clear e1 k1 k2
   go_upto_region 6 with (fail)
   refine rz [.o] N6 [] E (fun hp=>⟨zt hp (sqo 32) (sqo 31),tv⟩) ?_
   intro w30 E _ _
   simp only [rzE] at E ⊢
   go_upto_region 12 with (fail)
   refine rz [.w (f3 0 0 0),.a,.o] [none,none,none,some (1,f3 0 0 0),none,none] [] E (fun hp=>⟨zFn hp fo tv (fun v w h=>h),sO 0 0 hp J3 zAn zw,zS,tv⟩) ?_
   intro w31 E _ _
   simp only [rzE] at E ⊢
   have e1:=HE1.out
   clear HE1 HI HI1 HP0 HM0
   obtain ⟨_,_,hccr,hffr⟩:=zAv (E.box 3 rfl)
   have hPr:=hffr
   obtain ⟨r_p0,r_q0,_,rfl,_r_n0,r_p1,r_q1,_,rfl,_r_n1,r_p2,r_q2,_,rfl,_r_n2,rfl⟩:=hffr
   have crz:=c6 hccr
   simp only [List.getD_cons_zero,List.getD_cons_succ] at crz
   clear hccr
   clear B6 B8 hd hp hr B4
   go_wp2
   exact zR (v:=.tuple #[.agg #[r_p0,r_q0,r_p1,r_q1,r_p2,r_q2],.bool false]) (by simp [results,Tryz.results129,go_sem,crz]) E.below ⟨_,_,rfl,(by rw [e1.2];exact ⟨_,rfl,hPr⟩),congrArg Value.bool e1.1.symm⟩

theorem zUk {w:World} {v:Value} {d:Int} (h:Num w v d) (hd:ab d<pw 3) (hd0:d<0) (h4:d % 4=0∨d % 4=1){pp:Nat} (hp2:2≤pp) (hp20:pp<1048576) (hl:Least pp pp) {F:F3} (hO:∀ (w1:World) (x x':Value),Below w.heap.size w w1→Num w1 x d→Num w1 x' (pp:Int)→Calls Tryz.prog 129 #[x,x'] w1 fun e' w'=>∃ v',e'=.returned v'∧Below w1.heap.size w1 w'∧(Fq.tup2 (f3 F.a F.b F.c) (Fq.is (.bool false))).P v' w') :
  Rt 93 #[v,.int .i64 (pp:Int)] w fun v' w'=>(Fq.tup2 (f3 0 0 0) (Fq.is (.int .i64 6))).P v' w':=by
 replace hd:=hidd hd
 have HD0:=hidd hd0
 have H4:=hidd h4
 have TP:Hid (¬ 0<cmpI d 0):=fun e=>by have:=cmpIqgt.1 e;have:=HD0.out;omega
 clear hd0 h4
 have T2:Hid (¬ (pp:Int)<2):=by show ¬ _;omega
 have T3:Hid (¬ 1048576≤(pp:Int)):=by show ¬ _;omega
 have HL:=hidd hl
 have HP1:Hid (0<pp∧(pp:Int)≤9223372036854775807):=⟨zm,zm⟩
 have HQ2:=hidd hl.1
 have T4:Hid (¬ (pp:Int)<(pp:Int)):=by show ¬ _;omega
 clear hl hp2 hp20
 have RP:Hid (-9223372036854775808≤(pp:Int)∧(pp:Int)≤9223372036854775807):=by have:=HP1.out;show _∧_;omega
 have BP:Hid (ab (pp:Int)<pw 3):=zAr RP.out.1 RP.out.2
 have HO:=hidd hO
 clear hO
 obtain ⟨n0,ao0,k0,c0,rfl⟩:=h.parts
 obtain ⟨w1,b1,hw1,hb1,hs1,E⟩:=gN w 36 h
 obtain ⟨w2,b2,hw2,hb2,hs2,E⟩:=fO E hs1 38 zAt
 go_enter Tryz.func93,Tryz.ntmps93
 go_upto_region 1 with (fail)
 rw [← hw1,← hw2]
 rw [← hb2,← hb1]
 clear hw1 hw2 hb1 hb2 hs2 hs1
 refine rz [.n d,.w (Fq.tup2 (f3 ((onF d).a) ((onF d).b) ((onF d).c)) (Fq.is (.int .i64 0))),.w (Fq.tup2 (f3 ((onF d).a) ((onF d).b) ((onF d).c)) (Fq.is (.int .i64 0))),.w (f3 ((onF d).a) ((onF d).b) ((onF d).c)),.i 0,.k,.a,.i 0] N2 [⟨5,6,6,f3 0 0 0,f3 ((onF d).a) ((onF d).b) ((onF d).c),none⟩] E (fun hp=>⟨lI 0 hp J1 zw,zc hp zJj zi fun v w h=>zJq h (zu hd.out) HD0.out H4.out,zS,zS,zS,aS hp J0 zAt zB1,sS 3 hp J0 zAn,zS,tv⟩) ?_
 intro w3 b3_5 E _ _
 simp only [rzE] at E ⊢
 go_upto_region 2 with (fail)
 refine rz [.i 0,.o,.o,.n d,.i (cmpI d 0),.o,.o] N3 [] E (fun hp=>⟨zS,zo hp (sqi 0),zS,zA1 (off:=0) hp fo gqi J2 (.inl rfl) (Nat.le_of_ble_eq_true rfl) (sqo 2) (fun us w hl h=>zAz hl h),zc hp zA3 zi (fun v w h=>zA5 h),zO hp (sqi 4) TP.out,zt hp (sqi 2) (sqi 5),tv⟩) ?_
 intro w4 E _ _
 simp only [rzE] at E ⊢
 go_upto_region 4 with (fail)
 refine rz [.i (pp:Int),.o,.o,.i (pp:Int),.o,.o,.o,.i (pp:Int),.i (pp:Int),.i (pp:Int),.o,.o] N3 [] E (fun hp=>⟨zS,zO hp (sqi 0) T2.out,zS,zAi hp fo gqi (sqo 1),zO hp (sqi 3) T3.out,zt hp (sqi 2) (sqi 4),zS,zAi hp fo gqi (sqo 1),zEt (F:=(Fq.is (.int .i64 (pp:Int))).P) (G:=(Fq.is (.int .i64 2)).P) hp fo gqi (zLg) (sqi 7) (zAk (fun _=>rfl)) (fun v v' w h h'=>(by subst h h';exact zLm w HL.out HP1.out.1 HP1.out.2 (Nat.le_refl 2) (.inl rfl) HQ2.out)),zAi hp fo gqi (sqo 1),zAs (F:=fun v _=>v=.int .i64 (pp:Int)) (G:=fun v _=>v=.int .i64 (pp:Int)) hp fo gqi (sqi 8) (sqi 9) (fun ρ w hc h h'=>⟨.bool false,by simp [execOp,go_sem,h,h',T4.out],rfl⟩),zt hp (sqi 6) (sqi 10),tv⟩) ?_
 intro w5 E _ _
 simp only [rzE] at E ⊢
 go_upto_region 6 with (fail)
 refine rz [.n d,.i (pp:Int),.n (pp:Int),.w (Fq.tup2 (f3 F.a F.b F.c) (yF)),.w (Fq.tup2 (f3 F.a F.b F.c) (yF)),.w (f3 F.a F.b F.c),.o,.k,.a,.o] N3 [⟨7,8,6,f3 0 0 0,f3 F.a F.b F.c,none⟩] E (fun hp=>⟨lI 0 hp J2 zw,zS,wXa (Fq.is (.int .i64 (pp:Int))) hp zBw (sqi 1) fun v w h=>(by subst h;exact OfK w (pp:Int) RP.out.1 RP.out.2),zD0 (F:=(Fq.num d).P) (G:=(Fq.num (pp:Int)).P) hp fo tv (zOq) rfl (sqi 0) (sqi 2) (fun v v' w hbw h h'=>HO.out _ _ _ hbw h h'),zS,zS,zS,aS hp J0 zAt zB1,sS 5 hp J0 zAn,zS,tv⟩) ?_
 intro w6 b6_7 E _ _
 simp only [rzE] at E ⊢
 go_upto_region 7 with (fail)
 refine rz [.o,.t,.t,.u (undef),.u (undef),.u (undef),.t] N4 [] E (fun hp=>⟨zS,zo hp (sqi 0),zS,zS,zS,zS,zt hp (sqi 2) (zk (.bool true)),tv⟩) ?_
 intro w7 E _ _
 simp only [rzE] at E ⊢
 go_upto_region 8 with (fail)
 refine rz [.w (f3 0 0 0),.a,.i 6] [none,none,some (1,f3 0 0 0),none] [] E (fun hp=>⟨zFn hp fo tv (fun v w h=>h),sO 0 0 hp J2 zAn zw,zS,tv⟩) ?_
 intro w8 E _ _
 simp only [rzE] at E ⊢
 clear HD0 H4 TP T2 T3 HL HP1 HQ2 T4 RP HO
 obtain ⟨_,_,hccr,hffr⟩:=zAv (E.box 2 rfl)
 have hPr:=hffr
 obtain ⟨r_p0,r_q0,_,rfl,_r_n0,r_p1,r_q1,_,rfl,_r_n1,r_p2,r_q2,_,rfl,_r_n2,rfl⟩:=hffr
 have crz:=c6 hccr
 simp only [List.getD_cons_zero,List.getD_cons_succ] at crz
 clear hccr
 clear hd BP
 go_wp2
 exact zR (v:=.tuple #[.agg #[r_p0,r_q0,r_p1,r_q1,r_p2,r_q2],.int .i64 6]) (by simp [results,Tryz.results93,go_sem,crz]) E.below ⟨_,_,rfl,⟨_,rfl,hPr⟩,rfl⟩

theorem zUl {w:World} {v:Value} {d:Int} (h:Num w v d) (hd:ab d<pw 3) (hd0:d<0) (h4:d % 4=0∨d % 4=1){pp:Nat} (hp2:2≤pp) (hp20:pp<1048576) (hl:Least pp pp) {F:F3} (hF:ab F.a<pw 4∧ab F.b<pw 6∧ab F.c<pw 12) (hpr:decide (cont F.a F.b F.c=1)=true) (hDF:ab (F.b*F.b-4*(F.a*F.c))<pw 20) (hO:∀ (w1:World) (x x':Value),Below w.heap.size w w1→Num w1 x d→Num w1 x' (pp:Int)→Calls Tryz.prog 129 #[x,x'] w1 fun e' w'=>∃ v',e'=.returned v'∧Below w1.heap.size w1 w'∧(Fq.tup2 (f3 F.a F.b F.c) (Fq.is (.bool true))).P v' w') :
  Rt 93 #[v,.int .i64 (pp:Int)] w fun v' w'=>(Fq.tup2 (Fq.st [.n (rdF F).a,.n (rdF F).b,.n (rdF F).c]) (Fq.is (.int .i64 0))).P v' w':=by
 replace hd:=hidd hd
 have HD0:=hidd hd0
 have H4:=hidd h4
 have TP:Hid (¬ 0<cmpI d 0):=fun e=>by have:=cmpIqgt.1 e;have:=HD0.out;omega
 clear hd0 h4
 have T2:Hid (¬ (pp:Int)<2):=by show ¬ _;omega
 have T3:Hid (¬ 1048576≤(pp:Int)):=by show ¬ _;omega
 have HL:=hidd hl
 have HP1:Hid (0<pp∧(pp:Int)≤9223372036854775807):=⟨zm,zm⟩
 have HQ2:=hidd hl.1
 have T4:Hid (¬ (pp:Int)<(pp:Int)):=by show ¬ _;omega
 clear hl hp2 hp20
 have RP:Hid (-9223372036854775808≤(pp:Int)∧(pp:Int)≤9223372036854775807):=by have:=HP1.out;show _∧_;omega
 have BP:Hid (ab (pp:Int)<pw 3):=zAr RP.out.1 RP.out.2
 have HO:=hidd hO
 clear hO
 have HF:=hidd hF
 have TI:Hid (decide (cont F.a F.b F.c=1)=true):=hpr
 have HDF:=hidd hDF
 clear hpr hDF
 clear hF
 obtain ⟨n0,ao0,k0,c0,rfl⟩:=h.parts
 obtain ⟨w1,b1,hw1,hb1,hs1,E⟩:=gN w 36 h
 obtain ⟨w2,b2,hw2,hb2,hs2,E⟩:=fO E hs1 38 zAt
 go_enter Tryz.func93,Tryz.ntmps93
 go_upto_region 1 with (fail)
 rw [← hw1,← hw2]
 rw [← hb2,← hb1]
 clear hw1 hw2 hb1 hb2 hs2 hs1
 refine rz [.n d,.w (Fq.tup2 (f3 ((onF d).a) ((onF d).b) ((onF d).c)) (Fq.is (.int .i64 0))),.w (Fq.tup2 (f3 ((onF d).a) ((onF d).b) ((onF d).c)) (Fq.is (.int .i64 0))),.w (f3 ((onF d).a) ((onF d).b) ((onF d).c)),.i 0,.k,.a,.i 0] N2 [⟨5,6,6,f3 0 0 0,f3 ((onF d).a) ((onF d).b) ((onF d).c),none⟩] E (fun hp=>⟨lI 0 hp J1 zw,zc hp zJj zi fun v w h=>zJq h (zu hd.out) HD0.out H4.out,zS,zS,zS,aS hp J0 zAt zB1,sS 3 hp J0 zAn,zS,tv⟩) ?_
 intro w3 b3_5 E _ _
 simp only [rzE] at E ⊢
 go_upto_region 2 with (fail)
 refine rz [.i 0,.o,.o,.n d,.i (cmpI d 0),.o,.o] N3 [] E (fun hp=>⟨zS,zo hp (sqi 0),zS,zA1 (off:=0) hp fo gqi J2 (.inl rfl) (Nat.le_of_ble_eq_true rfl) (sqo 2) (fun us w hl h=>zAz hl h),zc hp zA3 zi (fun v w h=>zA5 h),zO hp (sqi 4) TP.out,zt hp (sqi 2) (sqi 5),tv⟩) ?_
 intro w4 E _ _
 simp only [rzE] at E ⊢
 go_upto_region 4 with (fail)
 refine rz [.i (pp:Int),.o,.o,.i (pp:Int),.o,.o,.o,.i (pp:Int),.i (pp:Int),.i (pp:Int),.o,.o] N3 [] E (fun hp=>⟨zS,zO hp (sqi 0) T2.out,zS,zAi hp fo gqi (sqo 1),zO hp (sqi 3) T3.out,zt hp (sqi 2) (sqi 4),zS,zAi hp fo gqi (sqo 1),zEt (F:=(Fq.is (.int .i64 (pp:Int))).P) (G:=(Fq.is (.int .i64 2)).P) hp fo gqi (zLg) (sqi 7) (zAk (fun _=>rfl)) (fun v v' w h h'=>(by subst h h';exact zLm w HL.out HP1.out.1 HP1.out.2 (Nat.le_refl 2) (.inl rfl) HQ2.out)),zAi hp fo gqi (sqo 1),zAs (F:=fun v _=>v=.int .i64 (pp:Int)) (G:=fun v _=>v=.int .i64 (pp:Int)) hp fo gqi (sqi 8) (sqi 9) (fun ρ w hc h h'=>⟨.bool false,by simp [execOp,go_sem,h,h',T4.out],rfl⟩),zt hp (sqi 6) (sqi 10),tv⟩) ?_
 intro w5 E _ _
 simp only [rzE] at E ⊢
 go_upto_region 6 with (fail)
 refine rz [.n d,.i (pp:Int),.n (pp:Int),.w (Fq.tup2 (f3 F.a F.b F.c) (yT)),.w (Fq.tup2 (f3 F.a F.b F.c) (yT)),.w (f3 F.a F.b F.c),.t,.k,.a,.t] N3 [⟨7,8,6,f3 0 0 0,f3 F.a F.b F.c,none⟩] E (fun hp=>⟨lI 0 hp J2 zw,zS,wXa (Fq.is (.int .i64 (pp:Int))) hp zBw (sqi 1) fun v w h=>(by subst h;exact OfK w (pp:Int) RP.out.1 RP.out.2),zD0 (F:=(Fq.num d).P) (G:=(Fq.num (pp:Int)).P) hp fo tv (zOq) rfl (sqi 0) (sqi 2) (fun v v' w hbw h h'=>HO.out _ _ _ hbw h h'),zS,zS,zS,aS hp J0 zAt zB1,sS 5 hp J0 zAn,zS,tv⟩) ?_
 intro w6 b6_7 E _ _
 simp only [rzE] at E ⊢
 go_upto_region 7 with (fail)
 refine rz [.t,.o,.o,.w (f3 F.a F.b F.c),.t,.o,.o] N4 [] E (fun hp=>⟨zS,zo hp (sqi 0),zS,lG 0 6 hp gqi J0 zAc zw fun v w h=>h,zc hp zLi zi (fun v w h=>zLs h (zu HF.out.1) (zu HF.out.2.1) (zu HF.out.2.2) TI.out),zo hp (sqi 4),zt hp (sqi 2) (sqi 5),tv⟩) ?_
 intro w7 E _ _
 simp only [rzE] at E ⊢
 go_upto_region 9 with (fail)
 refine rz [.w (f3 F.a F.b F.c),.w (f3 ((rdF F).a) ((rdF F).b) ((rdF F).c)),.a,.i 0] [none,none,some (2,f3 ((rdF F).a) ((rdF F).b) ((rdF F).c)),none] [] E (fun hp=>⟨lS 0 6 hp J0 zAc zw,zc hp zHt zi fun v w h=>zLp h (zu HF.out.1) (zu HF.out.2.1) (zu HF.out.2.2) HDF.out,sO 0 1 hp J2 zAn zw,zS,tv⟩) ?_
 intro w8 E _ _
 simp only [rzE] at E ⊢
 clear HD0 H4 TP T2 T3 HL HP1 HQ2 T4 RP HO HF TI HDF
 obtain ⟨_,_,hccr,hffr⟩:=zAv (E.box 2 rfl)
 have hPr:=hffr
 obtain ⟨r_p0,r_q0,_,rfl,_r_n0,r_p1,r_q1,_,rfl,_r_n1,r_p2,r_q2,_,rfl,_r_n2,rfl⟩:=hffr
 have crz:=c6 hccr
 simp only [List.getD_cons_zero,List.getD_cons_succ] at crz
 clear hccr
 clear hd BP
 go_wp2
 exact zR (v:=.tuple #[.agg #[r_p0,r_q0,r_p1,r_q1,r_p2,r_q2],.int .i64 0]) (by simp [results,Tryz.results93,go_sem,crz]) E.below ⟨_,_,rfl,⟨_,rfl,hPr⟩,rfl⟩

theorem act_disc (a b c p q r s:Int):qm a b c p q r s*qm a b c p q r s-4*(qv a b c p r*qv a b c q s)=(b*b-4*(a*c))*((p*s-q*r)*(p*s-q*r)):=by
 unfold qv qm
 exact zM3 a b c p q r s
theorem zDi {x y:Int} {m n:Nat} (hx:x.natAbs≤m) (hy:y.natAbs≤n):(x*y).natAbs≤m*n:=by
 rw [Int.natAbs_mul]
 exact Nat.mul_le_mul hx hy
theorem turn_bd {z s t:Int} (es:s=z % 8-3) (et:t=z/8 % 8-4):s.natAbs≤4∧t.natAbs≤4∧(s*t-1).natAbs≤17:=by
 have h1:s.natAbs≤4:=zm
 have h2:t.natAbs≤4:=zm
 have h3:=zDi h1 h2
 exact ⟨h1,h2,zm⟩
theorem ab_few {x:Int} (h:x.natAbs≤2000):ab x<pw 3:=zAr zm zm
theorem zS7 {a b c p q r s:Int} (hd:(p*s-q*r)*(p*s-q*r)=1):qm a b c p q r s*qm a b c p q r s-4*(qv a b c p r*qv a b c q s)=b*b-4*(a*c):=by
 rw [act_disc,hd,Int.mul_one]
section
variable {os : List Oper} {Q : Exit → Act → World → Prop} {a : Act} {p : Pq} {B B0 : Nat} {w0 : World}
variable {i s : Nat} {d : Option Tmp} {ty : TypeId} {ps : String} {af : Array Edge} {gd : Option (Nat × Bool)}
theorem zDh {x:Operand} {ad:Option Addr} {k c:Nat} (hp:p.Ok B B0) (hF:p.Free i) (hg:GdQ os a p B B0 w0 af gd) (hx:SrcQ os a p B B0 w0 af x fun v _=>v=.slice ad k c) (hC:∀ w,(p.c i).P (.int .i64 k) w) :
  zAf os Q a p B B0 w0 i { dst:=d,op:=.call { callee:=.builtin .len,args:=#[x],argTypes:=#[54] },type:=ty,pos:=ps,after:=af,guard:=gd }:=
 zAu hp hF hg hx fun ρ w _ h=>⟨.int .i64 k,by simp [go_sem,h],hC w⟩
theorem zKj {b l c k:Nat} {x y:Operand} (hp:p.Ok B B0) (hF:p.Free i) (hg:GdQ os a p B B0 w0 af gd) (hx:SrcQ os a p B B0 w0 af x fun v _=>v=.slice (some ⟨b,0,none⟩) l c) (hy:SrcQ os a p B B0 w0 af y fun v _=>v=.int .i64 k) (hk:k<l)
  (hC:∀ w,(p.c i).P (.pointer (some ⟨b,k*6,none⟩)) w) :
  zAf os Q a p B B0 w0 i { dst:=d,op:=.indexAddr 54 x y,type:=ty,pos:=ps,after:=af,guard:=gd }:=
 zAs hp hF hg hx hy fun ρ w _ h h'=>⟨_,by
  have h0:(k:Int)<(l:Int):=zm
  have h1:(0:Int)≤(k:Int):=zm
  simp [execOp,go_sem,h,h',h0,h1],hC w⟩
end
theorem zPm {w:World} {v:Value} {D i0 i1 i2 i3 m0 m1 m2 m3 n:Int} (h:(Fq.st [.v (.int .u16 D),.v (.int .u16 i0),.v (.int .u16 i1),.v (.int .u16 i2),.v (.int .u16 i3),.v (.int .u8 m0),.v (.int .u8 m1),.v (.int .u8 m2),.v (.int .u8 m3)]).P v w) (hD:0≤D∧D≤65535) (hn:zCc D=n) :
  Rt 39 #[v] w fun v' w'=>v'=.int .i64 n:=by
 subst hn
 exact exQSize h hD
noncomputable def zCx (n i:Int):F3:=(zBz n).getD (i % ((zBz n).length:Int)).toNat ⟨0,0,0⟩
noncomputable def zFa (n i m:Int):F3:=if m % 4=0 then zCx n i else ⟨qv (zCx n i).a (zCx n i).b (zCx n i).c (m % 8-3) 1,qm (zCx n i).a (zCx n i).b (zCx n i).c (m % 8-3) ((m % 8-3)*(m/8 % 8-4)-1) 1 (m/8 % 8-4),qv (zCx n i).a (zCx n i).b (zCx n i).c ((m % 8-3)*(m/8 % 8-4)-1) (m/8 % 8-4)⟩
theorem zMp {n:Int} (i:Int) (h0:3≤n) (h1:n≤2004) (h4:n % 4=0∨n % 4=3):∃ j:Nat,j<(zBz n).length∧i % ((zBz n).length:Int)=j∧(zBz n)[j]?=some (zCx n i):=by
 have h:=zQd h0 h1 h4
 have h5:=Int.emod_nonneg i (show ((zBz n).length:Int)≠0 by omega)
 have h6:=Int.emod_lt_of_pos i (show (0:Int)<((zBz n).length:Int) by omega)
 refine ⟨(i % ((zBz n).length:Int)).toNat,zm,zm,?_⟩
 unfold zCx
 rw [List.getD,List.getElem?_eq_getElem zm]
 rfl
theorem FOk.bds {n:Int} {P:F3} (h:FOk n P) (h1:n≤2004):0<P.a∧P.a.natAbs≤668∧P.b.natAbs≤668∧P.c.natAbs≤668:=by
 obtain ⟨ha,hk,_,hd⟩:=h
 simp only [Bool.and_eq_true] at hk
 have hr:=(zEx (show 0<P.a by omega)).1 hk.2
 have h2:=hr.lo
 have h3:=hr.hi
 have h4:=hr.ac
 have e1:P.b*P.b≤P.a*P.a:=by
  rw [← zD2 P.b]
  exact Int.mul_le_mul zm zm zm zm
 have e2:P.a*P.a≤P.a*P.c:=Int.mul_le_mul_of_nonneg_left h4 zm
 have e3:1*P.c≤P.a*P.c:=Int.mul_le_mul_of_nonneg_right ha zm
 omega
def MOk (n:Int) (P:F3):Prop:=redE P.a P.b P.c=0∧P.b*P.b-4*(P.a*P.c)=-n∧(ab P.a<pw 3∧ab P.b<pw 3∧ab P.c<pw 3)∧P.a.natAbs≤100000000∧P.b.natAbs≤100000000∧P.c.natAbs≤100000000
theorem zE4 {x:Int} (h:x.natAbs≤100000000):ab x<pw 3:=zAr zm zm
theorem zQf {n i m:Int} (h0:3≤n) (h1:n≤2004) (h4:n % 4=0∨n % 4=3):MOk n (zFa n i m):=by
 obtain ⟨j,_,_,hj⟩:=zMp i h0 h1 h4
 have hF:=zL9 _ (List.mem_of_getElem? hj)
 obtain ⟨hp,b1,b2,b3⟩:=hF.bds h1
 have hd:=hF.2.2.2
 unfold zFa
 split
 ·exact ⟨zFs (by rw [hd];omega) hp,hd,⟨zE4 zm,zE4 zm,zE4 zm⟩,zm,zm,zm⟩
 ·obtain ⟨s,es⟩:∃ s,s=m % 8-3:=⟨_,rfl⟩
  obtain ⟨t,et⟩:∃ t,t=m/8 % 8-4:=⟨_,rfl⟩
  rw [← es,← et]
  obtain ⟨t1,t2,t3⟩:=turn_bd es et
  generalize zCx n i=P at hp b1 b2 b3 hd ⊢
  have hdet:(s*t-(s*t-1)*1)*(s*t-(s*t-1)*1)=1:=by
   rw [show s*t-(s*t-1)*1=1 by omega]
   rfl
  have h5:=zS7 (a:=P.a) (b:=P.b) (c:=P.c) hdet
  have hpos:=qv_pos (x:=s) (y:=1) hp (by rw [hd];omega) zm
  have qb:∀ x y:Int,x.natAbs≤17→y.natAbs≤17→(qv P.a P.b P.c x y).natAbs≤100000000:=by
   intro x y hx hy
   have m1:=zDi b1 (zDi hx hx)
   have m2:=zDi b2 (zDi hx hy)
   have m3:=zDi b3 (zDi hy hy)
   unfold qv
   omega
  have qc:(qm P.a P.b P.c s (s*t-1) 1 t).natAbs≤100000000:=by
   have u1:(1:Int).natAbs≤17:=by decide
   have m1:=zDi b1 (zDi (show s.natAbs≤17 by omega) t3)
   have m2:=zDi b3 (zDi u1 (show t.natAbs≤17 by omega))
   have m3:=zDi (show s.natAbs≤17 by omega) (show t.natAbs≤17 by omega)
   have m4:=zDi t3 u1
   have m5:=zDi b2 (show (s*t+(s*t-1)*1).natAbs≤17*17+17*17 by omega)
   unfold qm
   omega
  refine ⟨zFs ?_ hpos,?_,⟨zE4 (qb _ _ zm zd),zE4 qc,zE4 (qb _ _ t3 zm)⟩,qb _ _ zm zd,qc,qb _ _ t3 zm⟩
  ·show qm _ _ _ _ _ _ _*qm _ _ _ _ _ _ _-4*(qv _ _ _ _ _*qv _ _ _ _ _)<0
   rw [h5,hd];omega
  ·show qm _ _ _ _ _ _ _*qm _ _ _ _ _ _ _-4*(qv _ _ _ _ _*qv _ _ _ _ _)=-n
   rw [h5];exact hd
theorem exQMade0 {w:World} {v:Value} {D i0 i1 i2 i3 m0 m1 m2 m3:Int} (h:(Fq.st [.v (.int .u16 D),.v (.int .u16 i0),.v (.int .u16 i1),.v (.int .u16 i2),.v (.int .u16 i3),.v (.int .u8 m0),.v (.int .u8 m1),.v (.int .u8 m2),.v (.int .u8 m3)]).P v w) (hD:0≤D∧D≤65535) (hi:0≤i0∧i0≤65535) (hm:0≤m0∧m0≤255) {n:Int} (hn:zCc D=n) {P:F3} (hP:zFa n i0 m0=P) :
  Rt 10 #[v,.int .i64 0] w fun v' w'=>(f3 P.a P.b P.c).P v' w':=by
 have hsz:=zNh D
 rw [hn] at hsz
 obtain ⟨j,hj,hQj,hPj⟩:=zMp i0 zm zm hsz.2.2
 have hFo:=(zL9 _ (List.mem_of_getElem? hPj)).bds hsz.2.1
 obtain ⟨F,hF⟩:∃ F,F=zCx n i0:=⟨_,rfl⟩
 rw [← hF] at hPj hFo
 obtain ⟨ps,hps⟩:∃ ps,ps=zBz n:=⟨_,rfl⟩
 rw [← hps] at hj hQj hPj
 obtain ⟨nl,hnl⟩:∃ nl,nl=ps.length:=⟨_,rfl⟩
 rw [← hnl] at hj hQj
 have BF:Hid (ab F.a<pw 3∧ab F.b<pw 3∧ab F.c<pw 3):=⟨zE4 zm,zE4 zm,zE4 zm⟩
 have HSZ:=hidd hsz
 have HNE:=hidd hn
 have HFE:=hidd hF
 have HPS:=hidd hps
 have HNL:=hidd hnl
 have HJ:=hidd hj
 have HPJ:=hidd hPj
 have HDD:=hidd hD
 have HMM:=hidd hm
 have HPE:=hidd hP
 have I16:Hid (IntKind.i64.wrap i0=i0):=IntWalk.i64_in _ zm
 have HLN:Hid (¬ nl=0):=by show ¬ _;omega
 have HTJ:Hid (Int.tmod i0 (nl:Int)=(j:Int)):=by show _=_;rw [Int.tmod_eq_emod_of_nonneg zm,hQj]
 obtain ⟨r,hr⟩:∃ r,r=m0 % 4:=⟨_,rfl⟩
 have C4:Hid (Int.tmod m0 4=r):=by show _=_;rw [Int.tmod_eq_emod_of_nonneg zm,hr]
 have HR:=hidd hr
 obtain ⟨s,es⟩:∃ s,s=m0 % 8-3:=⟨_,rfl⟩
 obtain ⟨t,et⟩:∃ t,t=m0/8 % 8-4:=⟨_,rfl⟩
 have htb:=turn_bd es et
 have Bs:Hid (ab s<pw 3):=ab_few zm
 have Bt:Hid (ab t<pw 3):=ab_few zm
 have Bu:Hid (ab (s*t-1)<pw 3):=ab_few zm
 have Es:=hidd es
 have Et:=hidd et
 clear hsz hj hQj hPj hFo hF hps hnl hr htb es et hD hi hm hn hP
 obtain ⟨_,rfl,hf0⟩:=h
 have hF0:=hf0
 obtain ⟨_,rfl,_,_,rfl,_,_,rfl,_,_,rfl,_,_,rfl,_,_,rfl,_,_,rfl,_,_,rfl,_,_,rfl,_,rfl⟩:=hf0
 obtain ⟨w1,b1,hw1,hb1,hs1,E⟩:=gS w 26 hF0
 obtain ⟨w2,b2,hw2,hb2,hs2,E⟩:=fO E hs1 38 zAt
 go_enter Tryz.func10,Tryz.ntmps10
 go_upto_region 1 with (fail)
 rw [← hw1,← hw2]
 rw [← hb2,← hb1]
 clear hw1 hw2 hb1 hb2 hs2 hs1
 refine wp_region_list ?_
 refine zE3 rfl 26 (.tmp 2) rfl zNc rfl rfl (StAt.of_boxQ (E.box 1 rfl)) fun vc hvc=>?_
 go_upto_region 2 with (first | (go_at_call 39;(with_reducible refine (zPm hvc HDD.out HNE.out).mono ?_);rintro e w8 ⟨v8,rfl,hB8,rfl⟩) | (go_at_call 44;(with_reducible refine (exQList HSZ.out.1 HSZ.out.2.1).mono ?_);rintro e w9 ⟨vL,rfl,hB9,hLs⟩;obtain ⟨gg,cp,rfl,hgg,hbox⟩:=hLs.box6 (by rw [← HPS.out];have:=HJ.out;have:=HNL.out;omega)) | fail)
 rw [← HPS.out,← HNL.out] at hbox
 first | rw [← HPS.out,← HNL.out] | skip
 replace E:=Fr.addQ E (hB8.trans (hB9.mono hB8.size)) (Nat.le_trans hB8.size hgg) hbox
 clear hvc hB8 hB9 hLs hgg hbox
 refine rz [.u (.slice (some ⟨gg,0,none⟩) nl cp),.i 0,.i 0,.p b1 1,.p b1 1,.u (.int .u16 i0),.i i0,.u (.slice (some ⟨gg,0,none⟩) nl cp),.i ((nl:Nat):Int),.i (j:Int),.u (.pointer (some ⟨gg,j*6,none⟩)),.w (f3 F.a F.b F.c),.k,.a] N3 [⟨12,13,6,f3 0 0 0,f3 F.a F.b F.c,none⟩] E (fun hp=>⟨zS,zS,zo hp (sqi 1),qa b1 0 1 hp zw,zAs (F:=fun v _=>v=.pointer (some ⟨b1,1,none⟩)) (G:=fun v _=>v=.int .i64 0) hp fo tv (sqi 3) (sqi 2) (fun ρ w hc h h'=>⟨.pointer (some ⟨b1,1,none⟩),by simp [execOp,go_sem,h,h'],rfl⟩),wXc 1 hp J2 zi,zO hp (sqi 5) I16.out,zS,zDh hp fo tv (sqi 7) (fun _=>rfl),zT hp (sqi 6) (sqi 8) (And.intro HLN.out HTJ.out),zKj (b:=gg) (l:=nl) (c:=cp) (k:=j) hp fo tv (sqi 0) (sqi 9) HJ.out (fun _=>rfl),zCz (off:=j*6) (l:=6) (fs:=rowQ ps) (gs:=[.n F.a,.n F.b,.n F.c]) hp fo tv J0 (.inl rfl) rfl zAc (zR2 HPJ.out) (sqi 10) (fun v w h=>h),aS hp J0 zAt zB1,sS 11 hp J0 zAn,tv⟩) ?_
 intro w3 b3_12 E _ _
 simp only [rzE] at E ⊢
 clear I16 HLN HTJ HJ HPJ HNL HPS HNE HSZ HDD
 go_upto_region 3 with (fail)
 by_cases hz:r=0
 ·have T6:=hidd hz
  have hQ:F=P:=by rw [HFE.out,← HPE.out];unfold zFa;rw [if_pos (HR.out.symm.trans hz)]
  have HQ:=hidd hQ
  clear hz hQ
  refine rz [.i 0,.i 0,.p b1 5,.p b1 5,.u (.int .u8 m0),.u (.int .u8 r),.t] N4 [] E (fun hp=>⟨zS,zo hp (sqi 0),qa b1 0 5 hp zw,zAs (F:=fun v _=>v=.pointer (some ⟨b1,5,none⟩)) (G:=fun v _=>v=.int .i64 0) hp fo tv (sqi 2) (sqi 1) (fun ρ w hc h h'=>⟨.pointer (some ⟨b1,5,none⟩),by simp [execOp,go_sem,h,h'],rfl⟩),wXc 5 hp J3 zi,zO hp (sqi 4) C4.out,zO hp (sqi 5) T6.out,tv⟩) ?_
  intro w4 E _ _
  simp only [rzE] at E ⊢
  go_upto_region 4 with (fail)
  refine rz [.w (f3 F.a F.b F.c),.a] [none,none,some (1,f3 F.a F.b F.c),none] [] E (fun hp=>⟨lS 0 6 hp J0 zAc zw,sO 0 0 hp J2 zAn zw,tv⟩) ?_
  intro w5 E _ _
  simp only [rzE] at E ⊢
  obtain ⟨_,_,hccr,hffr⟩:=zAv (E.box 2 rfl)
  have hPr:=hffr
  obtain ⟨r_p0,r_q0,_,rfl,_r_n0,r_p1,r_q1,_,rfl,_r_n1,r_p2,r_q2,_,rfl,_r_n2,rfl⟩:=hffr
  have crz:=c6 hccr
  simp only [List.getD_cons_zero,List.getD_cons_succ] at crz
  clear hccr
  have hQ:=HQ.out
  clear T6 HQ C4 HR HFE HMM HPE Es Et
  rw [hQ] at hPr
  clear BF Bs Bt Bu
  go_wp2
  exact zR (v:=.agg #[r_p0,r_q0,r_p1,r_q1,r_p2,r_q2]) (by simp [results,Tryz.results10,go_sem,crz]) E.below ⟨_,rfl,hPr⟩
 ·have T6:=hidd hz
  have hQ:P=⟨qv F.a F.b F.c s 1,qm F.a F.b F.c s (s*t-1) 1 t,qv F.a F.b F.c (s*t-1) t⟩:=by rw [← HPE.out];unfold zFa;rw [if_neg (fun e=>hz (HR.out.trans e)),← HFE.out,← Es.out,← Et.out]
  have HQ:=hidd hQ
  clear hz hQ
  refine rz [.i 0,.i 0,.p b1 5,.p b1 5,.u (.int .u8 m0),.u (.int .u8 r),.o] N4 [] E (fun hp=>⟨zS,zo hp (sqi 0),qa b1 0 5 hp zw,zAs (F:=fun v _=>v=.pointer (some ⟨b1,5,none⟩)) (G:=fun v _=>v=.int .i64 0) hp fo tv (sqi 2) (sqi 1) (fun ρ w hc h h'=>⟨.pointer (some ⟨b1,5,none⟩),by simp [execOp,go_sem,h,h'],rfl⟩),wXc 5 hp J3 zi,zO hp (sqi 4) C4.out,zO hp (sqi 5) T6.out,tv⟩) ?_
  intro w6 E _ _
  simp only [rzE] at E ⊢
  go_upto_region 5 with (fail)
  refine rz [.w (f3 F.a F.b F.c),.i 0,.i 0,.p b1 5,.p b1 5,.u (.int .u8 m0),.w (Fq.st [.n s,.n (s*t-1),.n 1,.n t]),.w (f3 (qv F.a F.b F.c s 1) (qm F.a F.b F.c s (s*t-1) 1 t) (qv F.a F.b F.c (s*t-1) t)),.a] [none,none,some (8,f3 (qv F.a F.b F.c s 1) (qm F.a F.b F.c s (s*t-1) 1 t) (qv F.a F.b F.c (s*t-1) t)),none] [] E (fun hp=>⟨lS 0 6 hp J0 zAc zw,zS,zo hp (sqi 1),qa b1 0 5 hp zw,zAs (F:=fun v _=>v=.pointer (some ⟨b1,5,none⟩)) (G:=fun v _=>v=.int .i64 0) hp fo tv (sqi 3) (sqi 2) (fun ρ w hc h h'=>⟨.pointer (some ⟨b1,5,none⟩),by simp [execOp,go_sem,h,h'],rfl⟩),wXc 5 hp J3 zi,wXa (Fq.is (.int .u8 m0)) hp zTq (sqi 5) fun v w h=>(by subst h;exact exQTurn HMM.out Es.out Et.out),zC hp zTl zi zi fun v v' w h h'=>exQApply h h' (zu BF.out.1) (zu BF.out.2.1) (zu BF.out.2.2) (zu Bs.out) (zu Bu.out) (zu (zAr zd zd)) (zu Bt.out),sO 0 7 hp J2 zAn zw,tv⟩) ?_
  intro w7 E _ _
  simp only [rzE] at E ⊢
  obtain ⟨_,_,hccr,hffr⟩:=zAv (E.box 2 rfl)
  have hPr:=hffr
  obtain ⟨r_p0,r_q0,_,rfl,_r_n0,r_p1,r_q1,_,rfl,_r_n1,r_p2,r_q2,_,rfl,_r_n2,rfl⟩:=hffr
  have crz:=c6 hccr
  simp only [List.getD_cons_zero,List.getD_cons_succ] at crz
  clear hccr
  have hQ:=HQ.out
  clear T6 HQ C4 HR HFE HMM HPE Es Et
  rw [show qv F.a F.b F.c s 1=P.a by rw [hQ],show qm F.a F.b F.c s (s*t-1) 1 t=P.b by rw [hQ],show qv F.a F.b F.c (s*t-1) t=P.c by rw [hQ]] at hPr
  clear BF Bs Bt Bu
  go_wp2
  exact zR (v:=.agg #[r_p0,r_q0,r_p1,r_q1,r_p2,r_q2]) (by simp [results,Tryz.results10,go_sem,crz]) E.below ⟨_,rfl,hPr⟩

def TameN (w:World) (v:Value):Prop:=v=.slice none 0 0∨TameRow w v
theorem TameN.mono {w w':World} {v:Value} (h:TameN w v) (hb:Below w.heap.size w w'):TameN w' v:=by
 rcases h with h | h
 ·exact .inl h
 ·exact .inr (h.mono hb)
theorem TameN.far {w:World} {v:Value} (h:TameN w v) {fs:List Fd} {es:List Value} (hF:Fits w fs es) (hn:noSl fs=true):FarC v.ownBlock es:=by
 rcases h with rfl | h
 ·intro a k c _ _ e
  cases e
 ·exact h.far hF hn
theorem Ls.none {T m:Nat} (w:World) {B:Nat}:Ls T m w B (.slice none 0 0) []:=
 ⟨[],⟨by simp,.inl ⟨rfl,rfl⟩⟩,fun i z hi=>by simp at hi⟩
def Fl (w:World) (v:Value) (Ps:List F3):Prop:=∃ ao cap,v=.slice ao Ps.length cap∧(0<Ps.length→∃ g,ao=some ⟨g,0,none⟩∧g<w.heap.size∧∀ i P,Ps[i]?=some P→StAt w g (i*6) (frF P))
theorem Fl.mono {w w':World} {v:Value} {Ps:List F3} (h:Fl w v Ps) (hb:Below w.heap.size w w'):Fl w' v Ps:=by
 obtain ⟨ao,cap,e,h1⟩:=h
 refine ⟨ao,cap,e,fun h0=>?_⟩
 obtain ⟨g,e2,hg,h2⟩:=h1 h0
 exact ⟨g,e2,Nat.lt_of_lt_of_le hg hb.size,fun i P hi=>(h2 i P hi).mono hg hb⟩
theorem Ls.fl {T B:Nat} {w:World} {v:Value} {Ps:List F3} (h:Ls T 6 w B v (Ps.map frF)):Fl w v Ps:=by
 obtain ⟨ao,cap,e⟩:=h.shape
 rw [List.length_map] at e
 refine ⟨ao,cap,e,fun h0=>?_⟩
 obtain ⟨g,cap2,e2,hg,h2⟩:=h.sts (by rw [List.length_map];exact h0)
 rw [List.length_map] at e2
 rw [e] at e2
 injection e2 with e3 e4 e5
 exact ⟨g,e3,hg,fun i P hi=>h2 i _ (by rw [List.getElem?_map,hi];rfl)⟩
theorem Fits.split6 {w:World} {Q:F3} {Ps:List F3} {us:List Value} (h:Fits w (rowQ (Q::Ps)) us):∃ es us2,us=es++us2∧Fits w (frF Q) es∧Fits w (rowQ Ps) us2:=by
 obtain ⟨p0,q0,r0,rfl,n0,p1,q1,r1,rfl,n1,p2,q2,r2,rfl,n2,h2⟩:=h
 exact ⟨[p0,q0,p1,q1,p2,q2],r2,rfl,⟨_,_,_,rfl,n0,_,_,_,rfl,n1,_,_,_,rfl,n2,rfl⟩,h2⟩
theorem zNb {w:World} {b:Nat}:∀ {Ps:List F3} {us:List Value},Fits w (rowQ Ps) us→∀ {o:Nat},(∀ j,j<us.length→w.cell? ⟨b,o+j,none⟩=some (us.getD j undef))→∀ {i:Nat} {P:F3},Ps[i]?=some P→StAt w b (o+i*6) (frF P)
 | [],_,_,_,_,i,P,hi=>by simp at hi
 | Q::Ps,us,h,o,hc,i,P,hi=>by
  obtain ⟨es,us2,rfl,h1,h2⟩:=Fits.split6 h
  have hl:=h1.length
  have hl6:es.length=6:=hl
  match i,hi with
  | 0,hi=>
   simp at hi
   subst hi
   refine ⟨es,h1,fun j hj=>?_⟩
   rw [Nat.zero_mul,Nat.add_zero,hc j (by rw [List.length_append];omega)]
   simp [List.getD,List.getElem?_append_left hj]
  | i+1,hi=>
   have:=zNb h2 (o:=o+6) (fun j hj=>by
    have h3:=hc (6+j) (by rw [List.length_append];omega)
    rw [show o+6+j=o+(6+j) by omega,h3]
    simp only [List.getD]
    rw [List.getElem?_append_right zm,show 6+j-es.length=j by omega]) (i:=i) (P:=P) (by simpa using hi)
   rw [show o+(i+1)*6=o+6+i*6 by omega]
   exact this
theorem Fl.ofBox {w:World} {b n:Nat} {Ps:List F3} (hn:n=Ps.length*6) (h:Bq w b n (Fq.st (rowQ Ps))):Fl w (.slice (some ⟨b,0,none⟩) Ps.length Ps.length) Ps:=by
 subst hn
 refine ⟨_,_,rfl,fun h0=>⟨b,rfl,h.lt,fun i P hi=>?_⟩⟩
 obtain ⟨us,_,h2,h3⟩:=zAv h
 have:=zNb h3 (o:=0) (fun j hj=>by rw [Nat.zero_add];exact h2 j hj) hi
 rw [Nat.zero_add] at this
 exact this
theorem zXo {w:World} (t ty:TypeId) (base:Nat) (e:TypeId) (i:TypeInfo) (z:Value) (size bytes:Nat) (ht:Tryz.prog.underlying t=some (.slice e)) (hi:Tryz.prog.info? e=some i) (hz:i.zero=some z)
  (hsize:i.size=size) (hby:i.bytes=bytes) (hzs:z.cells.size=size) (hsz:0<size)
  (v:Value) (n:Nat) (xs:List Value) (hown:w.ownsRow base e size v n xs) (htm:TameN w v) (hzt:∀ u∈z.cells.toList,zCe u=true)
  (ad:Addr) (m c:Nat) (news:List Value) (hl:news.length=m*size) (hnews:∀ j u,news[j]?=some u→w.cell? (ad.add j)=some u) (h1:∀ u∈news,zCe u=true)
  (hm:0<m) (h63:n+m≤maxLen) (hbytes:(n+m)*bytes≤140737488355328) (hbase:base≤w.heap.size) (H:Nat) (hH:w.heap.size=H) :
  ∃ g cap w',(Builtin.append_ #[t,t] ty #[v,.slice (some ad) m c]).run Tryz.prog w=.ok (.slice (some ⟨g,0,none⟩) (n+m) cap) w' ∧
   w'.ownsRow base e size (.slice (some ⟨g,0,none⟩) (n+m) cap) (n+m) (xs++news)∧w.grownBy w' v.ownBlock∧(v.ownBlock=some g∨g=H)∧g<w'.heap.size∧TameRow w' (.slice (some ⟨g,0,none⟩) (n+m) cap):=by
 rcases htm with rfl | htm
 ·have hone:∀ u∈news,u.oneCell'=true:=fun u hu=>by
   have:=h1 u hu
   simp only [zCe,Bool.and_eq_true] at this
   exact this.1
  obtain ⟨g,cap,w',hr,h2,h3,h4,h5⟩:=run_append_lies (P:=Tryz.prog) w t ty base e i z size bytes ht hi hz hsize hby hzs hsz _ n xs hown ad m c news hl hnews hone hm h63 hbytes hbase H hH
  refine ⟨g,cap,w',hr,h2,h3,h4,h5,?_⟩
  have hn:n=0:=by
   rcases hown.2 with ⟨_,h6⟩ | ⟨g6,cap6,cur,h7,_⟩
   ·exact h6
   ·cases h7
  subst hn
  subst hsize
  subst hby
  have hr2:=run_append_grow_src (P:=Tryz.prog) w t t ty e i z ht hi hz none 0 0 [] (run_firstCells_none w.drew i.size 0 0 0) (.slice (some ad) m c) m news (Src.ofSlice w ht ad m c news hl hnews hone) zm (by simp only [maxLen] at h63;omega) (growslice_fits zm hbytes)
  rw [hr] at hr2
  injection hr2 with e1 e2
  injection e1 with e1 _ e3
  injection e1 with e1
  injection e1 with e1
  subst e1 e2 e3
  refine ⟨_,_,_,_,e,rfl,heap_alloc_new w.drew _,fun u hu=>?_⟩
  simp only [List.nil_append,Array.toList_append,List.mem_append] at hu
  rcases hu with hu | hu
  ·exact h1 u hu
  ·simp only [Builtin.zeroCells,Array.toList_map,Array.toList_range,List.mem_map,List.mem_range] at hu
   obtain ⟨j,hj,rfl⟩:=hu
   have hlt:j % z.cells.size<z.cells.size:=Nat.mod_lt _ (by rw [hzs];exact hsz)
   rw [getElem!_pos z.cells (j % z.cells.size) hlt]
   exact hzt _ (by simp)
 ·exact zR3 t ty base e i z size bytes ht hi hz hsize hby hzs hsz v n xs hown htm hzt ad m c news hl hnews h1 hm h63 hbytes hbase H hH
theorem zX5 {w:World} {ops:Array Oper} {rest:List Oper} {o:Oper} {a:Act} {Q:Exit→Act→World→Prop} (hgd:o.guard=none) (s x:Operand) (t:TypeId)
  (ho:o.op=.call { callee:=.builtin .append,args:=#[s,x],argTypes:=#[t,t] })
  (base:Nat) (e:TypeId) (i:TypeInfo) (z:Value) (size bytes:Nat) (ht:Tryz.prog.underlying t=some (.slice e)) (hi:Tryz.prog.info? e=some i) (hz:i.zero=some z)
  (hsize:i.size=size) (hby:i.bytes=bytes) (hzs:z.cells.size=size) (hsz:0<size)
  (v:Value) (n:Nat) (xs:List Value) (hs:a.eval s=v) (hown:w.ownsRow base e size v n xs) (htm:TameN w v) (hzt:∀ u∈z.cells.toList,zCe u=true)
  (ad:Addr) (m c:Nat) (news:List Value) (hx:a.eval x=.slice (some ad) m c) (hl:news.length=m*size) (hnews:∀ j u,news[j]?=some u→w.cell? (ad.add j)=some u) (h1:∀ u∈news,zCe u=true)
  (hm:0<m) (h63:n+m≤maxLen) (hbytes:(n+m)*bytes≤140737488355328) (hbase:base≤w.heap.size) (H:Nat) (hH:w.heap.size=H)
  (h:∀ g cap w',w'.ownsRow base e size (.slice (some ⟨g,0,none⟩) (n+m) cap) (n+m) (xs++news)→w.grownBy w' v.ownBlock→(v.ownBlock=some g∨g=H)→g<w'.heap.size→TameRow w' (.slice (some ⟨g,0,none⟩) (n+m) cap)→wpList Tryz.prog ops Q rest (a.put o.dst (.slice (some ⟨g,0,none⟩) (n+m) cap)) w'):wpList Tryz.prog ops Q (o::rest) a w:=by
 refine wpList_plain hgd fun K hK=>?_
 obtain ⟨g,cap,w',hr,h2,h3,h4,h5,h6⟩:=zXo (w:=w) t o.type base e i z size bytes ht hi hz hsize hby hzs hsz v n xs hown htm hzt ad m c news hl hnews h1 hm h63 hbytes hbase H hH
 unfold Oper.wp execOp
 simp only [ho,resolve,invoke,builtin,Sem.run_bind,Sem.run_pure,Result.andThen_ok,List.map_toArray,List.map_cons,List.map_nil,hs,hx,hr]
 exact hK _ _ (h g cap w' h2 h3 h4 h5 h6)
def Fq.slo (k:Nat) (xs:List Int):Fq:=⟨fun v w=>∃ a c,v=.slice a k c∧Sl w a k c xs,fun ⟨a,c,e,h⟩ hb=>⟨a,c,e,h.mono hb⟩,fun ⟨a,c,e,h⟩ ha ht hl=>⟨a,c,e,h.putAt ha ht hl⟩⟩
theorem enq_clone:En 115:=zAd Tryz.func115 (by kernel_rfl) rfl
theorem exCloneW (w:World) (ao:Option Addr) (k c:Nat) (xs:List Int) (hS:Sl w ao k c xs) (hk:k≤900000):Calls Tryz.prog 115 #[.slice ao k c] w fun e w'=>∃ ao' c',e=.returned (.slice ao' k c')∧Below w.heap.size w w'∧Sl w' ao' k c' xs:=by
 have hk':k≤1000000:=zm
 have hx:=run_eql_slice_nil (P:=Tryz.prog) w 27 104 ao k c Tryz.underlying27
 cases ao with
 | none=>
  have h0:k=0∧xs=[]:=by
   have h1:=hS.len
   rcases hS with ⟨_,_,_,h | ⟨b,off,h,_⟩⟩
   ·rw [h] at h1
    exact ⟨by simpa using h1.symm,h⟩
   ·cases h
  obtain ⟨rfl,rfl⟩:=h0
  simp only [Option.isNone_none] at hx
  go_enter Tryz.func115,Tryz.ntmps115
  go_wp2
  go_ret
  exact ⟨none,0,rfl,Below.refl _ _,Sl.nil w⟩
 | some a=>
  simp only [Option.isNone_some] at hx
  go_enter Tryz.func115,Tryz.ntmps115
  go_wp2_with (at_builtin;refine zSr _ rfl _ _ rfl _ (some a) k c xs rfl rfl (hS.mono (zAh _ _)) hk' ?_;intro ar cr w1 hb1 hS1 hM1)
  have hb:=(zAh w (.cells #[] 104)).trans (hb1.mono (zAh w (.cells #[] 104)).size)
  go_wp2
  go_ret
  exact ⟨ar,cr,rfl,hb,hS1⟩

theorem exCloneF {w:World} {ao:Option Addr} {k c:Nat} {xs:List Int} (hS:Sl w ao k c xs) (hk:k≤900000):Calls Tryz.prog 115 #[.slice ao k c] w fun e w'=>∃ v',e=.returned v'∧Below w.heap.size w w'∧(Fq.slo k xs).P v' w':=
 (exCloneW w ao k c xs hS hk).mono fun e w' ⟨a,c',e1,hb,h⟩=>⟨_,e1,hb,a,c',rfl,h⟩
theorem ld_rawB {n:Bool} {a:Option Addr} {k c:Nat} {xs:List Int} {us:List Value} {w:World} (hl:us.length=2) (h:(Fq.raw n a k c xs).P (.agg us.toArray) w):us.getD 0 undef=.bool n:=by
 match us,hl with
 | [p,q],_=>
  obtain ⟨e,h1⟩:=h
  injection e with e
  have e2:=congrArg Array.toList e
  simp at e2
  simp [e2.1]
section
variable {os : List Oper} {Q : Exit → Act → World → Prop} {a : Act} {p : Pq} {B B0 : Nat} {w0 : World}
variable {i s : Nat} {d : Option Tmp} {ty : TypeId} {ps : String} {af : Array Edge} {gd : Option (Nat × Bool)}
theorem zXa {o:Ob} {off:Nat} {x:Operand} {v:Value} (hp:p.Ok B B0) (hF:p.Free i) (hg:GdQ os a p B B0 w0 af gd) (ho:o∈p.old) (hk:o.F1=o.F0∨zBo os 9 o.k i=true) (hoff:off+1≤o.m)
  (hx:SrcQ os a p B B0 w0 af x fun u _=>u=.pointer (some ⟨o.b,off,none⟩)) (hC:∀ (us:List Value) (w:World),us.length=o.m→o.F0.P (.agg us.toArray) w→us.getD off undef=v∧(p.c i).P v w) :
  zAf os Q a p B B0 w0 i { dst:=d,op:=.load 4 x,type:=ty,pos:=ps,after:=af,guard:=gd }:=by
 refine zBf hp hF hg fun L vs w hG hL hc hd=>?_
 obtain ⟨us,hl,h0,hat,ht,hP⟩:=zFj ho hk hG hL hc
 have e:=hx L vs w hG hd
 have c0:=(hat off zm).1
 obtain ⟨e2,hP2⟩:=hC us w hl hP
 refine ⟨_,?_,hP2⟩
 rw [e2] at c0
 generalize (lay os.toArray L vs os.toArray.size a).eval=ρ at e
 simp [execOp,go_sem,e,c0]
theorem zW2 {x y:Operand} {n:Bool} {k:Nat} {xs:List Int} {z:Int} (hp:p.Ok B B0) (hF:p.Free i) (hg:GdQ os a p B B0 w0 af gd) (hx:SrcQ os a p B B0 w0 af x fun v _=>v=.bool n) (hy:SrcQ os a p B B0 w0 af y (Fq.slo k xs).P)
  (hz:k≤900000∧z=sgn n (val xs)∧Canon xs∧(n=true→k≠0)) (hC:∀ v w,Num w v z→(p.c i).P v w) :
  zAf os Q a p B B0 w0 i { dst:=d,op:=.build 36 #[(0,x),(1,y)],type:=ty,pos:=ps,after:=af,guard:=gd }:=by
 refine zBf hp hF hg fun L vs w hG hL hc hd=>?_
 have e0:=hx L vs w hG hd
 obtain ⟨a',c',e1,hs⟩:=hy L vs w hG hd
 refine ⟨.agg #[.bool n,.slice a' k c'],?_,hC _ _ ⟨n,a',k,c',xs,rfl,hs,hz.1,hz.2.1,hz.2.2.1,hz.2.2.2⟩⟩
 generalize (lay os.toArray L vs os.toArray.size a).eval=ρ at e0 e1
 simp [execOp,go_sem,e0,e1]
end
noncomputable def rtB (G Q:F3):Bool:=decide (rfE Q.a Q.b Q.c=0) && eqF (mulF (Q.b*Q.b-4*(Q.a*Q.c)) Q Q).a (mulF (Q.b*Q.b-4*(Q.a*Q.c)) Q Q).b (mulF (Q.b*Q.b-4*(Q.a*Q.c)) Q Q).c G.a G.b G.c
theorem rtB_snoc (G:F3) (Ps:List F3) {i:Nat} {P:F3} (h:Ps[i]?=some P):(Ps.take (i+1)).filter (rtB G)=(Ps.take i).filter (rtB G)++(if rtB G P=true then [P] else []):=by
 rw [List.take_add_one,h,Option.toList_some,List.filter_append]
 congr 1
 cases h9:rtB G P <;> simp [h9]
theorem zV6 (Qs:List F3) (P:F3):(Qs ++ [P]).map frF=Qs.map frF ++ [frF P]:=by simp
theorem zFl {n i:Nat} (h:i<n):n-(intOf (.int .i64 ((i:Int)+1))).toNat<n-(intOf (.int .i64 (i:Int))).toNat:=by simp [intOf];omega
theorem fl_at {w:World} {ao:Option Addr} {n cap:Nat} {Ps:List F3} (h:Fl w (.slice ao n cap) Ps) {i:Nat} {P:F3} (hi:Ps[i]?=some P):∃ g,ao=some ⟨g,0,none⟩∧∀ w',Below w.heap.size w w'→StAt w' g (i*6) (frF P):=by
 obtain ⟨ao2,cap2,e,h1⟩:=h
 injection e with e1 e2 e3
 have hl:=(List.getElem?_eq_some_iff.1 hi).1
 obtain ⟨g,e4,hg,h2⟩:=h1 zm
 exact ⟨g,by rw [e1,e4],fun w' hb=>(h2 i P hi).mono hg hb⟩
theorem eqF_iff {a b c x y z:Int}:eqF a b c x y z=true ↔ a=x∧b=y∧c=z:=by
 unfold eqF
 simp [Bool.and_eq_true,decide_eq_true_eq]
theorem zLl {w:World} {v:Value} {z:Int} (h:Num w v z) :
  Rt 114 #[v] w fun v' w'=>Num w' v' z:=by
 obtain ⟨n1,a1,k1,c1,xs1,rfl,hS,hn,hz⟩:=h
 have HS1:=hidd hS
 have HZ1:=hidd (And.intro hn hz)
 clear hn hz
 obtain ⟨w1,b1,hw1,hb1,hs1,E⟩:=zEb w (F:=Fq.raw n1 a1 k1 c1 xs1) (us:=[.bool n1,.slice a1 k1 c1]) 36 rfl (by simp) (zCk _ _ _ _) (show (Fq.raw n1 a1 k1 c1 xs1).P _ w from ⟨rfl,hS⟩)
 obtain ⟨w2,b2,hw2,hb2,hs2,E⟩:=fZ E hs1 36
 go_enter Tryz.func114,Tryz.ntmps114
 go_upto_region 1 with (fail)
 rw [← hw1,← hw2]
 rw [← hb2,← hb1]
 clear hw1 hw2 hb1 hb2 hs2 hs1
 refine rz [.p b1 0,.u (.bool n1),.p b1 1,.u (.slice a1 k1 c1),.w (Fq.slo k1 xs1),.n z,.a] [some (6,Fq.num z),none] [] E (fun hp=>⟨qa b1 0 0 hp zw,zXa (off:=0) (v:=.bool n1) hp fo tv J1 (.inl rfl) (Nat.le_of_ble_eq_true rfl) (sqi 0) (fun us w hl h=>⟨ld_rawB hl h,rfl⟩),qa b1 0 1 hp zw,q_loadSl (off:=1) (v:=.slice a1 k1 c1) hp fo tv J1 (.inl rfl) (Nat.le_of_ble_eq_true rfl) (sqi 2) (fun us w hl h=>⟨ld_rawS hl h,rfl⟩),zIf (F:=(Fq.is (.slice a1 k1 c1)).P) hp fo tv (enq_clone) rfl (sqi 3) (fun v w hbw h=>(by subst h;exact exCloneF (HS1.out.mono hbw) HZ1.out.1)),zW2 hp fo tv (sqi 1) (sqi 4) HZ1.out (fun v w h=>h),sP 5 hp J0 zw,tv⟩) ?_
 intro w3 E _ _
 simp only [rzE] at E ⊢
 clear HS1 HZ1 hS
 obtain ⟨p0_0,p0_1,c0_0,c0_1,hP0⟩:=zCg (E.box 0 rfl)
 go_wp2
 exact zR (v:=.agg #[p0_0,p0_1]) (by simp [results,Tryz.results114,go_sem,c0_0,c0_1]) E.below hP0

theorem zUc {w:World} {v:Value} {P:F3} (h:(f3 P.a P.b P.c).P v w) :
  Rt 66 #[v] w fun v' w'=>(f3 P.a P.b P.c).P v' w':=by
 obtain ⟨y0_p0,y0_q0,y0_p1,y0_q1,y0_p2,y0_q2,rfl,hF0⟩:=o3 h
 obtain ⟨w1,b1,hw1,hb1,hs1,E⟩:=gS w 38 hF0
 obtain ⟨w2,b2,hw2,hb2,hs2,E⟩:=fO E hs1 38 zAt
 go_enter Tryz.func66,Tryz.ntmps66
 go_upto_region 1 with (fail)
 rw [← hw1,← hw2]
 rw [← hb2,← hb1]
 clear hw1 hw2 hb1 hb2 hs2 hs1
 refine rz [.u (.func (.func 114) #[] #[])] N2 [] E (fun hp=>⟨zCu hp fo tv (zNk (fun _=>rfl)),tv⟩) ?_
 intro w3 E _ _
 simp only [rzE] at E ⊢
 go_upto_region 2 with (fail)
 refine rz [.u (.func (.func 114) #[] #[]),.p b1 0,.n P.a,.n P.a,.u (.func (.func 114) #[] #[]),.p b1 2,.n P.b,.n P.b,.u (.func (.func 114) #[] #[]),.p b1 4,.n P.c,.n P.c,.w (f3 P.a P.b P.c),.a] [some (13,f3 P.a P.b P.c),none] [] E (fun hp=>⟨zS,qa b1 0 0 hp zw,lN 0 2 hp J1 zAa zi,zM1 (f:=114) (F:=(Fq.num P.a).P) hp fo tv (zLf) (sqi 0) (sqi 2) (fun v w h=>zLl h),zS,qa b1 0 2 hp zw,lN 2 2 hp J1 zAa zi,zM1 (f:=114) (F:=(Fq.num P.b).P) hp fo tv (zLf) (sqi 4) (sqi 6) (fun v w h=>zLl h),zS,qa b1 0 4 hp zw,lN 4 2 hp J1 zAa zi,zM1 (f:=114) (F:=(Fq.num P.c).P) hp fo tv (zLf) (sqi 8) (sqi 10) (fun v w h=>zLl h),zFo (z0:=P.a) (z1:=P.b) (z2:=P.c) hp fo tv (sqi 3) (sqi 7) (sqi 11) (fun v w h=>h),sO 0 12 hp J0 zAn zw,tv⟩) ?_
 intro w4 E _ _
 simp only [rzE] at E ⊢
 obtain ⟨_,_,hc0,hf0⟩:=zAv (E.box 0 rfl)
 have hP0:=hf0
 obtain ⟨r0_p0,r0_q0,_,rfl,_r0_n0,r0_p1,r0_q1,_,rfl,_r0_n1,r0_p2,r0_q2,_,rfl,_r0_n2,rfl⟩:=hf0
 have c0_z:=c6 hc0
 simp only [List.getD_cons_zero,List.getD_cons_succ] at c0_z
 clear hc0
 go_wp2
 exact zR (v:=.agg #[r0_p0,r0_q0,r0_p1,r0_q1,r0_p2,r0_q2]) (by simp [results,Tryz.results66,go_sem,c0_z]) E.below ⟨_,rfl,hP0⟩

theorem zPa {w:World} {v vl:Value} {Ps:List F3} {P:F3} {D:Int} (h:(f3 P.a P.b P.c).P v w) (sP:Sm P) (hP:Sc D P) (hD:D<0) (hl:Fl w vl Ps) (hk:Ps.length≤400) (hS:∀ Q∈Ps,Sm Q) :
  Calls Tryz.prog 21 #[v,vl] w fun e w'=>∃ v1 B,e=.returned (.tuple #[v1,.int .i64 0])∧Below w.heap.size w w'∧w.heap.size≤B∧Ls 38 6 w' B v1 ((Ps.filter (rtB (rdF P))).map frF):=by
 have SP:=hidd sP
 have HP:=hidd hP
 have HNG:=hidd hD
 have HE:Hid (rfE P.a P.b P.c=0):=zFt hP hD
 obtain ⟨ao,cap,rfl,hfl⟩:=id hl
 have HFL:=hidd hl
 have TL:Hid (¬ (400:Int)<((Ps.length:Nat):Int)):=by show ¬ _;omega
 have HK:Hid (Ps.length≤400):=hk
 have HSM:=hidd hS
 obtain ⟨G,hG⟩:∃ G,G=rdF P:=⟨_,rfl⟩
 have HG:=hidd hG.symm
 rw [← hG]
 obtain ⟨i0,hi,hz0,hz1,hz2⟩:=info_parts zL1
 have HI0:=hidd (And.intro hi (And.intro hz0 (And.intro hz1 hz2)))
 clear hl hfl hk hS hP hD hG hi hz0 hz1 hz2
 clear sP
 obtain ⟨y0_p0,y0_q0,y0_p1,y0_q1,y0_p2,y0_q2,rfl,hF0⟩:=o3 h
 obtain ⟨w1,b1,hw1,hb1,hs1,E⟩:=gS w 38 hF0
 go_enter Tryz.func21,Tryz.ntmps21
 go_upto_region 1 with (fail)
 rw [← hw1,← hb1]
 clear hw1 hb1 hs1
 refine rg [f3 P.a P.b P.c,Fq.is (.int .i64 0),Fq.is (.int .i64 0)] [none] [] E (fun hp=>⟨?_,?_,?_,tv⟩) ?_
 ·exact lS 0 6 hp J0 zAc (sqo 2)
 ·exact wXa (f3 P.a P.b P.c) hp zDf (sqi 0) fun v w h=>zDg h (zu SP.out.1) (zu SP.out.2.1) (zu SP.out.2.2) (zu (zCn SP.out.1 SP.out.2.1 SP.out.2.2)) HE.out
 ·exact zCu hp fo tv (sqi 1)
 intro L vs w2 nb hL hC hn E2
 have e1:=wXi hC 1
 have e2:=wXi hC 2
 have E:=E2;try simp only [LM,zAj] at E
 rw [zAo hL]
 simp only [zP,Nat.zero_add,Nat.reduceAdd]
 rw [e1,e2]
 generalize vs 0=u2_0
 clear e1 e2 hC hn E2 hL vs L nb
 go_upto_region 2 with (fail)
 refine rg [Fq.is (.int .i64 0),yF] [none] [] E (fun hp=>⟨?_,?_,tv⟩) ?_
 ·exact zAi hp fo tv (sqo 6)
 ·exact zAu (F:=fun v _=>v=.int .i64 0) hp fo tv (sqi 0) (fun ρ w hc h=>⟨.bool false,by simp [execOp,go_sem,h,hc],rfl⟩)
 intro L vs w3 nb hL hC hn E3
 have e0:=wXi hC 0
 have e1:=wXi hC 1
 have E:=E3;try simp only [LM,zAj] at E
 rw [zAo hL]
 simp only [zP,Nat.zero_add,Nat.reduceAdd]
 rw [e0,e1]
 clear e0 e1 hC hn E3 hL vs L nb
 go_upto_region 4 with (fail)
 refine rg [Fq.is (.slice ao Ps.length cap),Fq.is (.int .i64 ((Ps.length:Nat):Int)),yF] [none] [] E (fun hp=>⟨?_,?_,?_,tv⟩) ?_
 ·exact zAi hp fo tv (sqo 1)
 ·exact zDh hp fo tv (sqi 0) (fun _=>rfl)
 ·exact zAu (F:=fun v _=>v=.int .i64 ((Ps.length:Nat):Int)) hp fo tv (sqi 1) (fun ρ w hc h=>⟨.bool false,by simp [execOp,go_sem,h,hc,TL.out],rfl⟩)
 intro L vs w4 nb hL hC hn E4
 have e0:=wXi hC 0
 have e1:=wXi hC 1
 have e2:=wXi hC 2
 have E:=E4;try simp only [LM,zAj] at E
 rw [zAo hL]
 simp only [zP,Nat.zero_add,Nat.reduceAdd]
 rw [e0,e1,e2]
 clear e0 e1 e2 hC hn E4 hL vs L nb
 go_upto_region 6 with (fail)
 refine rg [f3 P.a P.b P.c,f3 G.a G.b G.c,Fq.any,Fq.any] [none] [⟨2,3,6,f3 0 0 0,f3 G.a G.b G.c,none⟩] E (fun hp=>⟨?_,?_,?_,?_,tv⟩) ?_
 ·exact lS 0 6 hp J0 zAc (sqo 2)
 ·exact wXa (f3 P.a P.b P.c) hp zHt (sqi 0) fun v w h=>(by have hh9:=zLo HNG.out HP.out SP.out h;rw [HG.out] at hh9;exact hh9)
 ·exact aS hp J0 zAt zB1
 ·exact sS 1 hp J0 zAn
 intro L vs w5 nb hL hC hn E5
 have e2:vs 2=.pointer (some ⟨nb 2,0,none⟩):=hn _ J0
 have E:=E5;try simp only [LM,zAj] at E
 rw [zAo hL]
 simp only [zP,Nat.zero_add,Nat.reduceAdd]
 rw [e2]
 generalize nb 2=b5_2 at E ⊢
 generalize vs 0=u5_0
 generalize vs 1=u5_1
 clear e2 hC hn E5 hL vs L nb
 go_upto_region 7 with (fail)
 refine rg [Fq.is (.slice none 0 0)] N2 [] E (fun hp=>⟨?_,tv⟩) ?_
 ·exact zCu hp fo tv (zAk (fun _=>rfl))
 intro L vs w6 nb hL hC hn E6
 have e0:=wXi hC 0
 have E:=E6;try simp only [LM,zAj] at E
 rw [zAo hL]
 simp only [zP,Nat.zero_add,Nat.reduceAdd]
 rw [e0]
 clear e0 hC hn E6 hL vs L nb
 go_upto_region 8 with (fail)
 refine rg [Fq.is (.slice ao Ps.length cap),Fq.is (.int .i64 ((Ps.length:Nat):Int)),Fq.is (.int .i64 0)] N2 [] E (fun hp=>⟨?_,?_,?_,tv⟩) ?_
 ·exact zAi hp fo tv (sqo 1)
 ·exact zDh hp fo tv (sqi 0) (fun _=>rfl)
 ·exact zAi hp fo tv (zAk (fun _=>rfl))
 intro L vs w7 nb hL hC hn E7
 have e0:=wXi hC 0
 have e1:=wXi hC 1
 have e2:=wXi hC 2
 have E:=E7;try simp only [LM,zAj] at E
 rw [zAo hL]
 simp only [zP,Nat.zero_add,Nat.reduceAdd]
 rw [e0,e1,e2]
 clear e0 e1 e2 hC hn E7 hL vs L nb
 clear HE SP HP HNG TL HG
 obtain ⟨V0,rfl⟩:∃ V0,V0=w7:=⟨_,rfl⟩
 have HF0:=hidd E
 clear E
 go_upto_region 9 with (fail)
 go_loopw [8,23] (fun vl vi W=>∃ i:Nat,vi=.int .i64 (i:Int)∧i≤Ps.length∧Ls 38 6 W V0.heap.size vl (((Ps.take i).filter (rtB G)).map frF)∧TameN W vl∧Below V0.heap.size V0 W) (fun _ vi _=>Ps.length-(intOf vi).toNat)
 case atStart=>exact ⟨0,rfl,Nat.zero_le _,Ls.none _,.inl rfl,Below.refl _ _⟩
 case round=>
  obtain ⟨V2,rfl⟩:∃ V2,V2=wr:=⟨_,rfl⟩
  obtain ⟨i,rfl,hi,HL,HT,HBW⟩:=hrel
  have E0:=HF0.out.mono HBW
  have hV:=E0.below.size
  by_cases h0:¬ i<Ps.length
  ·obtain rfl:i=Ps.length:=zm
   rw [List.take_length] at HL
   have HLH:=hidd HL
   have HBH:=hidd E0.below
   have HBB:=hidd HF0.out.below.size
   obtain ⟨ao2,cap2,rfl⟩:=id HL.shape
   clear HL HT E0 hi h0 hV HBW
   have E:=Fr.start V2
   have t0:¬ ((Ps.length:Nat):Int)<((Ps.length:Nat):Int):=zm
   go_wp2
   refine bodyPost_ret (v:=.tuple #[.slice ao2 (((Ps.filter (rtB G)).map frF).length) cap2,.int .i64 0]) ?_ rfl (by first | exact ⟨_,rfl,HBH.out,_,HBB.out,HLH.out⟩ | exact ⟨_,_,rfl,HBH.out,HBB.out,HLH.out⟩)
   simp [results,Tryz.results21,go_sem]
  ·have hil:i<Ps.length:=zm
   obtain ⟨P1,hP1⟩:∃ P,Ps[i]?=some P:=⟨_,List.getElem?_eq_getElem hil⟩
   obtain ⟨bl,rfl,hat⟩:=fl_at HFL.out hP1
   have HSN:=hidd (rtB_snoc G Ps hP1)
   have SQ:=hidd (HSM.out P1 (List.mem_of_getElem? hP1))
   have HIL:=hidd hil
   have HLH:=hidd HL
   have HTH:=hidd HT
   have HBH:=hidd HBW
   have TIL:Hid ((i:Int)<((Ps.length:Nat):Int)):=by show _<_;omega
   have HO1:Hid (∀ w1,Below V2.heap.size V2 w1→StAt w1 bl (i*6) (frF P1)):=fun w1 hb1=>hat w1 (E0.below.trans (hb1.mono hV))
   have HOG:Hid (∀ w1,Below V2.heap.size V2 w1→StAt w1 b5_2 0 [.n G.a,.n G.b,.n G.c]):=fun w1 hb1=>(E0.box 0 rfl).stAt hb1
   have hw:wrap64 ((i:Int)+1)=(i:Int)+1:=by have:=HK.out;exact zKx zm zm
   obtain ⟨e1,he1⟩:∃ e,e=rfE P1.a P1.b P1.c:=⟨_,rfl⟩
   have HE1:=hidd he1.symm
   clear HL HT E0 hi h0 hat hP1 hil hV HBW
   have E:=Fr.start V2
   go_upto_region 9 with (fail)
   refine rg [yT] [] [] E (fun hp=>⟨?_,tv⟩) ?_
   ·exact zAs (F:=fun v _=>v=.int .i64 (i:Int)) (G:=fun v _=>v=.int .i64 ((Ps.length:Nat):Int)) hp fo tv (sqo 23) (sqo 22) (fun ρ w hc h h'=>⟨.bool true,by simp [execOp,go_sem,h,h',TIL.out],rfl⟩)
   intro L vs w8 nb hL hC hn E8
   have e0:=wXi hC 0
   have E:=E8;try simp only [LM,zAj] at E
   rw [zAo hL]
   simp only [zP,Nat.zero_add,Nat.reduceAdd]
   rw [e0]
   clear e0 hC hn E8 hL vs L nb
   clear TIL
   go_upto_region 10 with (fail)
   refine rg [Fq.is (.pointer (some ⟨bl,i*6,none⟩)),f3 P1.a P1.b P1.c,Fq.any,Fq.any] [] [⟨2,3,6,f3 0 0 0,f3 P1.a P1.b P1.c,none⟩] E (fun hp=>⟨?_,?_,?_,?_,tv⟩) ?_
   ·exact zKj (b:=bl) (l:=Ps.length) (c:=cap) (k:=i) hp fo tv (sqo 21) (sqo 23) HIL.out (fun _=>rfl)
   ·exact zCi (off:=i*6) (l:=6) (fs:=[.n P1.a,.n P1.b,.n P1.c]) hp fo tv HO1.out zAc rfl (sqi 0) (fun v w h=>h)
   ·exact aS hp J0 zAt zB1
   ·exact sS 1 hp J0 zAn
   intro L vs w9 nb hL hC hn E9
   have e0:=wXi hC 0
   have e2:vs 2=.pointer (some ⟨nb 2,0,none⟩):=hn _ J0
   have E:=E9;try simp only [LM,zAj] at E
   rw [zAo hL]
   simp only [zP,Nat.zero_add,Nat.reduceAdd]
   rw [e0,e2]
   generalize nb 2=b9_2 at E ⊢
   generalize vs 1=u9_1
   clear e0 e2 hC hn E9 hL vs L nb
   clear HO1
   go_upto_region 11 with (fail)
   by_cases hne:¬ e1=0
   ·have T1:Hid (¬ e1=0):=hne
    have HF:Hid (rtB G P1=false):=by show _=_;unfold rtB;rw [HE1.out,decide_eq_false hne];rfl
    clear hne
    refine rg [f3 P1.a P1.b P1.c,Fq.is (.int .i64 e1),yF,yF,Fq.is (undef),Fq.is (undef),Fq.is (undef),Fq.is (undef),Fq.is (undef),yF] [none] [] E (fun hp=>⟨?_,?_,?_,?_,?_,?_,?_,?_,?_,?_,tv⟩) ?_
    ·exact lS 0 6 hp J0 zAc (sqo 10)
    ·exact wXa (f3 P1.a P1.b P1.c) hp zDf (sqi 0) fun v w h=>zDg h (zu SQ.out.1) (zu SQ.out.2.1) (zu SQ.out.2.2) (zu (zCn SQ.out.1 SQ.out.2.1 SQ.out.2.2)) HE1.out
    ·exact zAu (F:=fun v _=>v=.int .i64 e1) hp fo tv (sqi 1) (fun ρ w hc h=>⟨.bool false,by simp [execOp,go_sem,h,hc,T1.out],rfl⟩)
    ·exact zAi hp fo tv (sqi 2)
    ·exact zFr hp fo rfl gqi (fun _=>rfl)
    ·exact zFr hp fo rfl gqi (fun _=>rfl)
    ·exact zFr hp fo rfl gqi (fun _=>rfl)
    ·exact zFr hp fo rfl gqi (fun _=>rfl)
    ·exact zFr hp fo rfl gqi (fun _=>rfl)
    ·exact zAs (F:=fun v _=>v=.bool false) (G:=fun v _=>v=.bool false) hp fo tv (sqi 3) (zAk (fun _=>rfl)) (fun ρ w hc h h'=>⟨_,by simp [execOp,go_sem,h,h'],rfl⟩)
    intro L vs w10 nb hL hC hn E10
    have e1:=wXi hC 1
    have e2:=wXi hC 2
    have e3:=wXi hC 3
    have e4:=wXi hC 4
    have e5:=wXi hC 5
    have e6:=wXi hC 6
    have e7:=wXi hC 7
    have e8:=wXi hC 8
    have e9:=wXi hC 9
    have E:=E10;try simp only [LM,zAj] at E
    rw [zAo hL]
    simp only [zP,Nat.zero_add,Nat.reduceAdd]
    rw [e1,e2,e3,e4,e5,e6,e7,e8,e9]
    generalize vs 0=u10_0
    clear e1 e2 e3 e4 e5 e6 e7 e8 e9 hC hn E10 hL vs L nb
    clear T1 HE1
    have HL6:=hidd (HLH.out.mono E.below)
    have HT6:=hidd (HTH.out.mono E.below)
    have HE6:=hidd (HBH.out.trans (E.below.mono HBH.out.size))
    clear HLH HTH HBH E HSM HFL HK HI0 SQ HOG
    go_wp2
    go_roundw
    case rel=>exact ⟨i+1,by first | go_num | (rw [hw];go_num),by have:=HIL.out;omega,(by rw [HSN.out,HF.out,if_neg zd,List.append_nil];exact HL6.out),HT6.out,HE6.out⟩
    case measure=>first | exact zFl HIL.out | (rw [hw];exact zFl HIL.out)
   ·have T1:Hid (e1=0):=by show _=_;omega
    have hsf:=sf_of (HE1.out.trans T1.out)
    have HSF:=hidd hsf.1
    have HSD:=hidd hsf.2
    obtain ⟨D1,hD1⟩:∃ D,D=P1.b*P1.b-4*(P1.a*P1.c):=⟨_,rfl⟩
    rw [← hD1] at HSF HSD
    obtain ⟨S,hS⟩:∃ S,S=mulF D1 P1 P1:=⟨_,rfl⟩
    have HS:=hidd hS.symm
    have HR:Hid (rtB G P1=eqF S.a S.b S.c G.a G.b G.c):=by show _=_;unfold rtB;rw [HE1.out,T1.out,← hD1,← hS];rfl
    clear hsf hD1 hS hne
    by_cases hq:eqF S.a S.b S.c G.a G.b G.c=true
    ·have HF:Hid (rtB G P1=true):=by show _=_;rw [HR.out];exact hq
     have HQ:Hid (eqF S.a S.b S.c G.a G.b G.c=true):=hq
     clear hq
     refine rg [f3 P1.a P1.b P1.c,Fq.is (.int .i64 e1),yT,yT,f3 P1.a P1.b P1.c,f3 P1.a P1.b P1.c,f3 S.a S.b S.c,f3 G.a G.b G.c,yT,yT] [none] [] E (fun hp=>⟨?_,?_,?_,?_,?_,?_,?_,?_,?_,?_,tv⟩) ?_
     ·exact lS 0 6 hp J0 zAc (sqo 10)
     ·exact wXa (f3 P1.a P1.b P1.c) hp zDf (sqi 0) fun v w h=>zDg h (zu SQ.out.1) (zu SQ.out.2.1) (zu SQ.out.2.2) (zu (zCn SQ.out.1 SQ.out.2.1 SQ.out.2.2)) HE1.out
     ·exact zAu (F:=fun v _=>v=.int .i64 e1) hp fo tv (sqi 1) (fun ρ w hc h=>⟨.bool true,by simp [execOp,go_sem,h,hc,T1.out],rfl⟩)
     ·exact zAi hp fo tv (sqi 2)
     ·exact lG 0 6 hp gqi J0 zAc (sqo 10) fun v w h=>h
     ·exact lG 0 6 hp gqi J0 zAc (sqo 10) fun v w h=>h
     ·exact zEt (F:=(f3 P1.a P1.b P1.c).P) (G:=(f3 P1.a P1.b P1.c).P) hp fo gqi (zHs) (sqi 4) (sqi 5) (fun v v' w h h'=>(by have hh9:=zJm HSD.out HSF.out HSF.out SQ.out SQ.out h h';rw [HS.out] at hh9;exact hh9))
     ·exact zCi (off:=0) (l:=6) (fs:=[.n G.a,.n G.b,.n G.c]) hp fo gqi HOG.out zAc rfl (sqo 7) (fun v w h=>h)
     ·exact zEt (F:=(f3 S.a S.b S.c).P) (G:=(f3 G.a G.b G.c).P) hp fo gqi (zOp) (sqi 6) (sqi 7) (fun v v' w h h'=>zO7 h h' HQ.out)
     ·exact zAs (F:=fun v _=>v=.bool true) (G:=fun v _=>v=.bool true) hp fo tv (sqi 3) (sqi 8) (fun ρ w hc h h'=>⟨_,by simp [execOp,go_sem,h,h'],rfl⟩)
     intro L vs w11 nb hL hC hn E11
     have e1:=wXi hC 1
     have e2:=wXi hC 2
     have e3:=wXi hC 3
     have e8:=wXi hC 8
     have e9:=wXi hC 9
     have E:=E11;try simp only [LM,zAj] at E
     rw [zAo hL]
     simp only [zP,Nat.zero_add,Nat.reduceAdd]
     rw [e1,e2,e3,e8,e9]
     generalize vs 0=u11_0
     generalize vs 4=u11_4
     generalize vs 5=u11_5
     generalize vs 6=u11_6
     generalize vs 7=u11_7
     clear e1 e2 e3 e8 e9 hC hn E11 hL vs L nb
     clear T1 HE1 HSF HSD HS HR HQ SQ HOG HSM HFL
     have HST:=hidd (StAt.of_boxQ (E.box 0 rfl))
     have hHL:=HLH.out
     have hHT:=HTH.out
     obtain ⟨Qs,hQs⟩:∃ Qs,Qs=(Ps.take i).filter (rtB G):=⟨_,rfl⟩
     have HSN2:Hid ((Ps.take (i+1)).filter (rtB G)=Qs ++ [P1]):=by show _=_;rw [HSN.out,HF.out,if_pos rfl,hQs]
     have hQl:Qs.length≤400:=by have h8:=List.length_filter_le (rtB G) (Ps.take i);have h9:=List.length_take_le i Ps;have:=HK.out;have:=HIL.out;rw [hQs];omega
     have HQL:=hidd hQl
     rw [← hQs] at hHL
     have hml:(Qs.map frF).length=Qs.length:=List.length_map ..
     have HL5:=hidd (hHL.mono E.below)
     have HT5:=hidd (hHT.mono E.below)
     have HB5:=hidd (HBH.out.trans (E.below.mono HBH.out.size))
     clear hHL hHT hQs hQl HLH HTH HBH HSN HF E hml
     obtain ⟨V5,rfl⟩:∃ V5,V5=w11:=⟨_,rfl⟩
     go_upto_region 12 with (fail)
     refine wp_region_list ?_
     refine zSs rfl (.tmp 8) rfl ?_
     refine zE3 rfl 38 (.tmp 10) rfl zAc rfl rfl HST.out fun vc hvc=>?_
     go_wp2_with (first | (go_at_call 66;(with_reducible refine (zUc hvc).mono ?_);rintro e w9 ⟨_,rfl,hb9,es,rfl,hfit⟩;have hlen:=hfit.length;obtain ⟨c0,c1,c2,c3,c4,c5,rfl⟩:=sixQ hlen;have HFT:=hidd hfit;have HL9:=hidd (HL5.out.mono hb9);have HT9:=hidd (HT5.out.mono hb9);have HB9:=hidd (HB5.out.trans (hb9.mono HB5.out.size));clear hfit hlen hb9 hvc) | (at_builtin;obtain ⟨us,hO,hE⟩:=HL9.out;have hsz3:=HB9.out.size;have hQl:=HQL.out;refine zX5 (n:=Qs.length) (xs:=us) rfl _ _ 54 rfl V0.heap.size 38 i0 (.agg #[.bool false,.slice none 0 0,.bool false,.slice none 0 0,.bool false,.slice none 0 0]) 6 96 Tryz.underlying54 HI0.out.1 HI0.out.2.1 HI0.out.2.2.1 HI0.out.2.2.2 zd zd _ rfl (World.ownsRow.alloc (by have h9:=hO;rwa [List.length_map] at h9) _) (HT9.out.mono (zAh _ _)) (List.all_eq_true.1 rfl) ⟨_,0,none⟩ 1 1 [c0,c1,c2,c3,c4,c5] rfl rfl (World.news_of_block (heap_alloc_new _ _)) HFT.out.all zd (by unfold maxLen;omega) zm (Nat.le_trans hsz3 (by simp)) _ rfl ?_;intro g9 cap w8 hown' hgrow hat hlt htm) | fail)
     have hS:=Ls.stepF (fs:=frF P1) (es:=[c0,c1,c2,c3,c4,c5]) hO hE hsz3 HB9.out (Below.refl _ _) (HT9.out.far HFT.out rfl) HFT.out rfl rfl (by rw [List.length_map];exact hown') hgrow hat rfl
     rw [List.length_map] at hS
     have hS4:=hidd hS.1
     have hS5:=hidd hS.2
     have hS6:=hidd htm
     clear hown' hgrow hat hlt htm hS hO hE HT9 HL9 HB9 HL5 HT5 HB5 HST HFT HK HI0 HQL
     go_wp2
     go_roundw
     case rel=>exact ⟨i+1,by first | go_num | (rw [hw];go_num),by have:=HIL.out;omega,(by rw [HSN2.out,zV6];simpa using hS4.out),(.inr (by simpa using hS6.out)),hS5.out⟩
     case measure=>first | exact zFl HIL.out | (rw [hw];exact zFl HIL.out)
    ·have HF:Hid (rtB G P1=false):=by show _=_;rw [HR.out];exact Bool.eq_false_iff.2 hq
     have HQ:Hid (eqF S.a S.b S.c G.a G.b G.c=false):=Bool.eq_false_iff.2 hq
     clear hq
     refine rg [f3 P1.a P1.b P1.c,Fq.is (.int .i64 e1),yT,yT,f3 P1.a P1.b P1.c,f3 P1.a P1.b P1.c,f3 S.a S.b S.c,f3 G.a G.b G.c,yF,yF] [none] [] E (fun hp=>⟨?_,?_,?_,?_,?_,?_,?_,?_,?_,?_,tv⟩) ?_
     ·exact lS 0 6 hp J0 zAc (sqo 10)
     ·exact wXa (f3 P1.a P1.b P1.c) hp zDf (sqi 0) fun v w h=>zDg h (zu SQ.out.1) (zu SQ.out.2.1) (zu SQ.out.2.2) (zu (zCn SQ.out.1 SQ.out.2.1 SQ.out.2.2)) HE1.out
     ·exact zAu (F:=fun v _=>v=.int .i64 e1) hp fo tv (sqi 1) (fun ρ w hc h=>⟨.bool true,by simp [execOp,go_sem,h,hc,T1.out],rfl⟩)
     ·exact zAi hp fo tv (sqi 2)
     ·exact lG 0 6 hp gqi J0 zAc (sqo 10) fun v w h=>h
     ·exact lG 0 6 hp gqi J0 zAc (sqo 10) fun v w h=>h
     ·exact zEt (F:=(f3 P1.a P1.b P1.c).P) (G:=(f3 P1.a P1.b P1.c).P) hp fo gqi (zHs) (sqi 4) (sqi 5) (fun v v' w h h'=>(by have hh9:=zJm HSD.out HSF.out HSF.out SQ.out SQ.out h h';rw [HS.out] at hh9;exact hh9))
     ·exact zCi (off:=0) (l:=6) (fs:=[.n G.a,.n G.b,.n G.c]) hp fo gqi HOG.out zAc rfl (sqo 7) (fun v w h=>h)
     ·exact zEt (F:=(f3 S.a S.b S.c).P) (G:=(f3 G.a G.b G.c).P) hp fo gqi (zOp) (sqi 6) (sqi 7) (fun v v' w h h'=>zO7 h h' HQ.out)
     ·exact zAs (F:=fun v _=>v=.bool true) (G:=fun v _=>v=.bool false) hp fo tv (sqi 3) (sqi 8) (fun ρ w hc h h'=>⟨_,by simp [execOp,go_sem,h,h'],rfl⟩)
     intro L vs w12 nb hL hC hn E12
     have e1:=wXi hC 1
     have e2:=wXi hC 2
     have e3:=wXi hC 3
     have e8:=wXi hC 8
     have e9:=wXi hC 9
     have E:=E12;try simp only [LM,zAj] at E
     rw [zAo hL]
     simp only [zP,Nat.zero_add,Nat.reduceAdd]
     rw [e1,e2,e3,e8,e9]
     generalize vs 0=u12_0
     generalize vs 4=u12_4
     generalize vs 5=u12_5
     generalize vs 6=u12_6
     generalize vs 7=u12_7
     clear e1 e2 e3 e8 e9 hC hn E12 hL vs L nb
     clear T1 HE1 HSF HSD HS HR HQ
     have HL6:=hidd (HLH.out.mono E.below)
     have HT6:=hidd (HTH.out.mono E.below)
     have HE6:=hidd (HBH.out.trans (E.below.mono HBH.out.size))
     clear HLH HTH HBH E HSM HFL HK HI0 SQ HOG
     go_wp2
     go_roundw
     case rel=>exact ⟨i+1,by first | go_num | (rw [hw];go_num),by have:=HIL.out;omega,(by rw [HSN.out,HF.out,if_neg zd,List.append_nil];exact HL6.out),HT6.out,HE6.out⟩
     case measure=>first | exact zFl HIL.out | (rw [hw];exact zFl HIL.out)

theorem zT2 {w:World} {v v':Value} {Ps:List F3} (h:Fl w v Ps) (h':Fl w v' Ps) (hk:Ps.length≤400) :
  Rt 23 #[v,v'] w fun v' w'=>v'=.bool true:=by
 obtain ⟨ao,cap,rfl,_⟩:=id h
 obtain ⟨ao2,cap2,rfl,_⟩:=id h'
 have HFL:=hidd h
 have HFQ:=hidd h'
 have HK:=hidd hk
 clear h h'
 obtain ⟨n,hn⟩:∃ n,n=Ps.length:=⟨_,rfl⟩
 rw [← hn]
 rw [← hn] at hk
 have HN:=hidd hn
 have HKN:=hidd hk
 have T0:Hid (¬ ¬ ((n:Nat):Int)=((n:Nat):Int)):=fun e=>e rfl
 clear hn hk
 go_enter Tryz.func23,Tryz.ntmps23
 go_wp2
 go_loopw [5] (fun vi W=>∃ i:Nat,vi=.int .i64 (i:Int)∧i≤n∧Below w.heap.size w W) (fun vi _=>n-(intOf vi).toNat)
 case atStart=>exact ⟨0,rfl,Nat.zero_le _,Below.refl _ _⟩
 case round=>
  obtain ⟨V2,rfl⟩:∃ V2,V2=wr:=⟨_,rfl⟩
  obtain ⟨i,rfl,hi,HBW⟩:=hrel
  by_cases h0:¬ i<n
  ·obtain rfl:i=n:=zm
   have HB2:=hidd HBW
   clear HBW hi h0
   have t0:¬ ((i:Nat):Int)<((i:Nat):Int):=zm
   go_wp2
   refine bodyPost_ret (v:=.bool true) ?_ rfl (by first | exact ⟨_,rfl,HB2.out,rfl⟩ | exact ⟨HB2.out,rfl⟩ | exact ⟨rfl,HB2.out⟩ | exact HB2.out)
   simp [results,Tryz.results23,go_sem]
  ·have hil:i<n:=zm
   have hi1:i<Ps.length:=by rw [← HN.out];exact hil
   obtain ⟨P1,hP1⟩:∃ P,Ps[i]?=some P:=⟨_,List.getElem?_eq_getElem hi1⟩
   obtain ⟨bl,rfl,hat⟩:=fl_at HFL.out hP1
   obtain ⟨bq,rfl,haq⟩:=fl_at HFQ.out hP1
   have hV:=HBW.size
   have HIL:=hidd hil
   have HEQ:Hid (eqF P1.a P1.b P1.c P1.a P1.b P1.c=true):=eqF_iff.2 ⟨rfl,rfl,rfl⟩
   have TIL:Hid ((i:Int)<((n:Nat):Int)):=by show _<_;omega
   have HO1:Hid (∀ w1,Below V2.heap.size V2 w1→StAt w1 bl (i*6) (frF P1)):=fun w1 hb1=>hat w1 (HBW.trans (hb1.mono hV))
   have HO2:Hid (∀ w1,Below V2.heap.size V2 w1→StAt w1 bq (i*6) (frF P1)):=fun w1 hb1=>haq w1 (HBW.trans (hb1.mono hV))
   have hw:wrap64 ((i:Int)+1)=(i:Int)+1:=by have:=HKN.out;exact zKx zm zm
   have HB2:=hidd HBW
   clear HBW hi h0 hat haq hP1 hil hi1 hV
   have E:=Fr.start V2
   go_upto_region 4 with (fail)
   refine rz [.i (i:Int),.u (.slice (some ⟨bl,0,none⟩) n cap),.i ((n:Nat):Int),.t] [] [] E (fun hp=>⟨zS,zS,zDh hp fo tv (sqi 1) (fun _=>rfl),zT hp (sqi 0) (sqi 2) TIL.out,tv⟩) ?_
   intro w1 E _ _
   simp only [rzE] at E ⊢
   clear TIL
   go_upto_region 6 with (fail)
   refine rz [.u (.slice (some ⟨bl,0,none⟩) n cap),.i (i:Int),.u (.pointer (some ⟨bl,i*6,none⟩)),.w (f3 P1.a P1.b P1.c),.u (.slice (some ⟨bq,0,none⟩) n cap2),.i (i:Int),.u (.pointer (some ⟨bq,i*6,none⟩)),.w (f3 P1.a P1.b P1.c),.t,.o] [] [] E (fun hp=>⟨zS,zS,zKj (b:=bl) (l:=n) (c:=cap) (k:=i) hp fo tv (sqi 0) (sqi 1) HIL.out (fun _=>rfl),zCi (off:=i*6) (l:=6) (fs:=[.n P1.a,.n P1.b,.n P1.c]) hp fo tv HO1.out zAc rfl (sqi 2) (fun v w h=>h),zS,zS,zKj (b:=bq) (l:=n) (c:=cap2) (k:=i) hp fo tv (sqi 4) (sqi 5) HIL.out (fun _=>rfl),zCi (off:=i*6) (l:=6) (fs:=[.n P1.a,.n P1.b,.n P1.c]) hp fo tv HO2.out zAc rfl (sqi 6) (fun v w h=>h),zC hp zOj zi zi fun v v' w h h'=>zPk h h' HEQ.out,zo hp (sqi 8),tv⟩) ?_
   intro w2 E _ _
   simp only [rzE] at E ⊢
   have HB3:=hidd (HB2.out.trans (E.below.mono HB2.out.size))
   clear HO1 HO2 HEQ E HB2
   go_wp2
   go_roundw
   case rel=>exact ⟨i+1,by first | go_num | (rw [hw];go_num),by have:=HIL.out;omega,HB3.out⟩
   case measure=>first | exact zFl HIL.out | (rw [hw];exact zFl HIL.out)

theorem zTj:En 9:=zAd Tryz.func9 (by kernel_rfl) rfl
theorem zHr:En 16:=zAd Tryz.func16 (by kernel_rfl) rfl
theorem zTk:En 17:=zAd Tryz.func17 (by kernel_rfl) rfl
theorem zJf:En 32:=zAd Tryz.func32 (by kernel_rfl) rfl
theorem zOi:En 41:=zAd Tryz.func41 (by kernel_rfl) rfl
theorem zHc:zDa 48 7=true:=by kernel_rfl
theorem zGf (w:World):Fits w [.n 0,.n 0,.n 0,.v (.int .i64 0)] [.bool false,.slice none 0 0,.bool false,.slice none 0 0,.bool false,.slice none 0 0,.int .i64 0]:=⟨_,_,_,rfl,Num.zero w,_,_,_,rfl,Num.zero w,_,_,_,rfl,Num.zero w,_,rfl,rfl,rfl⟩
theorem zYa (w:World):(Fq.st [.n 0,.n 0,.n 0,.v (.int .i64 0)]).P (.agg ([.bool false,.slice none 0 0,.bool false,.slice none 0 0,.bool false,.slice none 0 0,.int .i64 0]:List Value).toArray) w:=⟨_,rfl,zGf w⟩
theorem zM6 {d:Option Tmp} {ty:TypeId} {ps:String} {af:Array Edge} (ρ:Operand→Value) (w:World):(execOp ρ { dst:=d,op:=.alloc 48,type:=ty,pos:=ps,after:=af,guard:=none }).run Tryz.prog w=.ok (.value (.pointer (some ⟨w.heap.size,0,none⟩))) (w.alloc (.cells [.bool false,.slice none 0 0,.bool false,.slice none 0 0,.bool false,.slice none 0 0,.int .i64 0].toArray 48)):=by
 simp [execOp,go_sem]
section
variable {os : List Oper} {Q : Exit → Act → World → Prop} {a : Act} {p : Pq} {B B0 : Nat} {w0 : World}
variable {i s : Nat} {d : Option Tmp} {ty : TypeId} {ps : String} {af : Array Edge} {gd : Option (Nat × Bool)}
theorem q_gotErr {x:Operand} {a0 b0 c0 e0:Int} (hp:p.Ok B B0) (hF:p.Free i) (hg:GdQ os a p B B0 w0 af gd) (hx:SrcQ os a p B B0 w0 af x (Fq.st [.n a0,.n b0,.n c0,.v (.int .i64 e0)]).P) (hC:∀ w,(p.c i).P (.int .i64 e0) w) :
  zAf os Q a p B B0 w0 i { dst:=d,op:=.field 48 x 1,type:=ty,pos:=ps,after:=af,guard:=gd }:=by
 refine zBf hp hF hg fun L vs w hG hL hc hd=>?_
 obtain ⟨_,e1,p0,q0,_,rfl,_,p1,q1,_,rfl,_,p2,q2,_,rfl,_,_,rfl,_,rfl⟩:=hx L vs w hG hd
 refine ⟨.int .i64 e0,?_,hC w⟩
 generalize (lay os.toArray L vs os.toArray.size a).eval=ρ at e1
 have hf:(Instr.field 48 (.agg #[p0,q0,p1,q1,p2,q2,.int .i64 e0]) 1).run Tryz.prog w=.ok (.int .i64 e0) w:=by kernel_rfl
 simp [execOp,go_sem,e1,hf]
end
theorem Fl.built {w:World} {Ps:List F3} {es:List Value} {n:Nat} (hn:n=Ps.length) (h:Fits w (rowQ Ps) es) (h0:0<Ps.length):Fl (w.alloc (.cells es.toArray 38)) (.slice (some ⟨w.heap.size,0,none⟩) n n) Ps:=by
 subst hn
 have h2:=h.mono (zAh w (.cells es.toArray 38))
 refine ⟨_,_,rfl,fun _=>⟨w.heap.size,rfl,by simp,fun i P hi=>?_⟩⟩
 have:=zNb h2 (b:=w.heap.size) (o:=0) (fun j hj=>by rw [Nat.zero_add];unfold World.cell?;rw [heap_alloc_new];simp [List.getD,List.getElem?_eq_getElem hj]) hi
 rw [Nat.zero_add] at this
 exact this
theorem zMr {a b c:Int} (h:cont a b c=1) (d:Int) (h1:d ∣ a) (h2:d ∣ b) (h3:d ∣ c):d ∣ 1:=zK7 h d h1 h2 h3
theorem und_e22:Und 4 (-11) 9 (-1) (2) (-1) (1) 2 (-1) 3:=⟨zd,zd,zd,zd⟩
section
variable {os : List Oper} {Q : Exit → Act → World → Prop} {a : Act} {p : Pq} {B B0 : Nat} {w0 : World}
variable {i s : Nat} {d : Option Tmp} {ty : TypeId} {ps : String} {af : Array Edge} {gd : Option (Nat × Bool)}
theorem zMz {x0:Operand} {z0_0:Int} {z0_1:Int} {z0_2:Int} {x1:Operand} {u1:Int} (hp:p.Ok B B0) (hF:p.Free i) (hg:GdQ os a p B B0 w0 af gd) (h0:SrcQ os a p B B0 w0 af x0 (f3 z0_0 z0_1 z0_2).P) (h1:SrcQ os a p B B0 w0 af x1 fun v _=>v=.int .i64 u1) (hC:∀ v w,(Fq.st [.n z0_0,.n z0_1,.n z0_2,.v (.int .i64 u1)]).P v w→(p.c i).P v w) :
  zAf os Q a p B B0 w0 i { dst:=d,op:=.build 48 #[(0,x0),(1,x1)],type:=ty,pos:=ps,after:=af,guard:=gd }:=by
 refine zBf hp hF hg fun L vs w hG hL hc hd=>?_
 have g0:=h0 L vs w hG hd
 obtain ⟨_,e0,_,_,_,rfl,a0_n0,_,_,_,rfl,a0_n1,_,_,_,rfl,a0_n2,rfl⟩:=g0
 obtain ⟨n0_0,ao0_0,k0_0,c0_0,e0_0⟩:=a0_n0.parts
 have m0_0:=a0_n0
 rw [e0_0] at m0_0
 obtain ⟨n0_1,ao0_1,k0_1,c0_1,e0_1⟩:=a0_n1.parts
 have m0_1:=a0_n1
 rw [e0_1] at m0_1
 obtain ⟨n0_2,ao0_2,k0_2,c0_2,e0_2⟩:=a0_n2.parts
 have m0_2:=a0_n2
 rw [e0_2] at m0_2
 injection e0_0 with f0_0
 have f0_0:=congrArg Array.toList f0_0
 simp at f0_0
 obtain ⟨rfl,rfl⟩:=f0_0
 injection e0_1 with f0_1
 have f0_1:=congrArg Array.toList f0_1
 simp at f0_1
 obtain ⟨rfl,rfl⟩:=f0_1
 injection e0_2 with f0_2
 have f0_2:=congrArg Array.toList f0_2
 simp at f0_2
 obtain ⟨rfl,rfl⟩:=f0_2
 have g1:=h1 L vs w hG hd
 refine ⟨.agg #[.bool n0_0,.slice ao0_0 k0_0 c0_0,.bool n0_1,.slice ao0_1 k0_1 c0_1,.bool n0_2,.slice ao0_2 k0_2 c0_2,.int .i64 u1],?_,hC _ _ ⟨_,rfl,_,_,_,rfl,m0_0,_,_,_,rfl,m0_1,_,_,_,rfl,m0_2,_,rfl,rfl,rfl⟩⟩
 generalize (lay os.toArray L vs os.toArray.size a).eval=ρ at e0 g1
 simp [execOp,go_sem,e0,g1]
end
theorem zHv {w:World} {v v':Value} {P Q R:F3} {er:Int} (h:(f3 P.a P.b P.c).P v w) (h':(f3 Q.a Q.b Q.c).P v' w) (sP:Sm P) (sQ:Sm Q) (hR:cmF P.a P.b P.c Q.a Q.b Q.c=R) (hE:cmE P.a P.b P.c Q.a Q.b Q.c=er) :
  Rt 16 #[v,v'] w fun v' w'=>(Fq.st [.n R.a,.n R.b,.n R.c,.v (.int .i64 er)]).P v' w':=by
 have HsP:=hidd sP
 have HsQ:=hidd sQ
 have HhR:=hidd hR
 have HhE:=hidd hE
 obtain ⟨y0_p0,y0_q0,y0_p1,y0_q1,y0_p2,y0_q2,rfl,hF0⟩:=o3 h
 obtain ⟨y1_p0,y1_q0,y1_p1,y1_q1,y1_p2,y1_q2,rfl,hF1⟩:=o3 h'
 obtain ⟨w1,b1,hw1,hb1,hs1,E⟩:=gS w 38 hF0
 obtain ⟨w2,b2,hw2,hb2,hs2,E⟩:=fS E hs1 38 hF1
 obtain ⟨w3,b3,hw3,hb3,hs3,E⟩:=fO E hs2 48 zGf
 go_enter Tryz.func16,Tryz.ntmps16
 go_upto_region 1 with (fail)
 rw [← hw1,← hw2]
 rw [← hw3,← hb3]
 rw [← hb2,← hb1]
 clear hw1 hw2 hw3 hb1 hb2 hb3 hs3 hs1 hs2
 refine rz [.w (f3 P.a P.b P.c),.w (f3 Q.a Q.b Q.c),.w (Fq.tup2 (f3 R.a R.b R.c) (Fq.is (.int .i64 er))),.w (Fq.tup2 (f3 R.a R.b R.c) (Fq.is (.int .i64 er))),.w (f3 R.a R.b R.c),.i er,.k,.a,.i er] N3 [⟨6,7,6,f3 0 0 0,f3 R.a R.b R.c,none⟩] E (fun hp=>⟨lS 0 6 hp J2 zAc zw,lS 0 6 hp J1 zAc zw,zC hp zTs zi zi fun v v' w h h'=>(by have hh9:=zT7 h h' HsP.out.1 HsP.out.2.1 HsP.out.2.2 HsQ.out.1 HsQ.out.2.1 HsQ.out.2.2;rw [HhR.out,HhE.out] at hh9;exact hh9),zS,zS,zS,aS hp J0 zAt zB1,sS 4 hp J0 zAn,zS,tv⟩) ?_
 intro w4 b4_6 E _ _
 simp only [rzE] at E ⊢
 go_upto_region 2 with (fail)
 refine rz [.w (f3 R.a R.b R.c),.i er,.w (Fq.st [.n R.a,.n R.b,.n R.c,.v (.int .i64 er)]),.a] [none,some (3,Fq.st [.n R.a,.n R.b,.n R.c,.v (.int .i64 er)]),none,none] [] E (fun hp=>⟨lS 0 6 hp J0 zAc zw,zS,zMz (u1:=er) (z0_0:=R.a) (z0_1:=R.b) (z0_2:=R.c) hp fo tv (sqi 0) (sqi 1) (fun v w h=>h),sO 0 2 hp J1 zHc zw,tv⟩) ?_
 intro w5 E _ _
 simp only [rzE] at E ⊢
 clear HsP sP HsQ sQ HhR hR HhE hE
 obtain ⟨_,_,hc0,hf0⟩:=zAv (E.box 1 rfl)
 have hP0:=hf0
 obtain ⟨r0_p0,r0_q0,_,rfl,_r0_n0,r0_p1,r0_q1,_,rfl,_r0_n1,r0_p2,r0_q2,_,rfl,_r0_n2,_,rfl,_,rfl⟩:=hf0
 have c0_0:=hc0 0 (by simp)
 have c0_1:=hc0 1 (by simp)
 have c0_2:=hc0 2 (by simp)
 have c0_3:=hc0 3 (by simp)
 have c0_4:=hc0 4 (by simp)
 have c0_5:=hc0 5 (by simp)
 have c0_6:=hc0 6 (by simp)
 simp only [List.getD_cons_zero,List.getD_cons_succ] at c0_0 c0_1 c0_2 c0_3 c0_4 c0_5 c0_6
 clear hc0
 go_wp2
 exact zR (v:=.agg #[r0_p0,r0_q0,r0_p1,r0_q1,r0_p2,r0_q2,.int .i64 er]) (by simp [results,Tryz.results16,go_sem,c0_0,c0_1,c0_2,c0_3,c0_4,c0_5,c0_6]) E.below ⟨_,rfl,hP0⟩

theorem zUq {w:World} {v v':Value} {P:F3} {D n:Int} (hC:GC D) (hP:Sc D P) (hn:ab n<pw 20) (sP:Sm P) (h:(f3 P.a P.b P.c).P v w) (h':Num w v' n) :
  Rt 17 #[v,v'] w fun v' w'=>(Fq.st [.n (pzF D P n).a,.n (pzF D P n).b,.n (pzF D P n).c,.v (.int .i64 0)]).P v' w':=by
 have HhC:=hidd hC
 have HhP:=hidd hP
 have Hhn:=hidd hn
 have HsP:=hidd sP
 obtain ⟨y0_p0,y0_q0,y0_p1,y0_q1,y0_p2,y0_q2,rfl,hF0⟩:=o3 h
 obtain ⟨n1,ao1,k1,c1,rfl⟩:=h'.parts
 obtain ⟨w1,b1,hw1,hb1,hs1,E⟩:=gS w 38 hF0
 obtain ⟨w2,b2,hw2,hb2,hs2,E⟩:=fN E hs1 36 h'
 obtain ⟨w3,b3,hw3,hb3,hs3,E⟩:=fO E hs2 48 zGf
 go_enter Tryz.func17,Tryz.ntmps17
 go_upto_region 1 with (fail)
 rw [← hw1,← hw2]
 rw [← hw3,← hb3]
 rw [← hb2,← hb1]
 clear hw1 hw2 hw3 hb1 hb2 hb3 hs3 hs1 hs2
 refine rz [.w (f3 P.a P.b P.c),.n n,.w (Fq.tup2 (f3 ((pzF D P n).a) ((pzF D P n).b) ((pzF D P n).c)) (Fq.is (.int .i64 0))),.w (Fq.tup2 (f3 ((pzF D P n).a) ((pzF D P n).b) ((pzF D P n).c)) (Fq.is (.int .i64 0))),.w (f3 ((pzF D P n).a) ((pzF D P n).b) ((pzF D P n).c)),.i 0,.k,.a,.i 0] N3 [⟨6,7,6,f3 0 0 0,f3 ((pzF D P n).a) ((pzF D P n).b) ((pzF D P n).c),none⟩] E (fun hp=>⟨lS 0 6 hp J2 zAc zw,lI 0 hp J1 zw,zC hp zTt zi zi fun v v' w h h'=>zUh HhC.out HhP.out Hhn.out h h' HsP.out,zS,zS,zS,aS hp J0 zAt zB1,sS 4 hp J0 zAn,zS,tv⟩) ?_
 intro w4 b4_6 E _ _
 simp only [rzE] at E ⊢
 go_upto_region 2 with (fail)
 refine rz [.w (f3 ((pzF D P n).a) ((pzF D P n).b) ((pzF D P n).c)),.i 0,.w (Fq.st [.n ((pzF D P n).a),.n ((pzF D P n).b),.n ((pzF D P n).c),.v (.int .i64 0)]),.a] [none,some (3,Fq.st [.n ((pzF D P n).a),.n ((pzF D P n).b),.n ((pzF D P n).c),.v (.int .i64 0)]),none,none] [] E (fun hp=>⟨lS 0 6 hp J0 zAc zw,zS,zMz (u1:=0) (z0_0:=(pzF D P n).a) (z0_1:=(pzF D P n).b) (z0_2:=(pzF D P n).c) hp fo tv (sqi 0) (sqi 1) (fun v w h=>h),sO 0 2 hp J1 zHc zw,tv⟩) ?_
 intro w5 E _ _
 simp only [rzE] at E ⊢
 clear HhC hC HhP hP Hhn hn HsP sP
 obtain ⟨_,_,hc0,hf0⟩:=zAv (E.box 1 rfl)
 have hP0:=hf0
 obtain ⟨r0_p0,r0_q0,_,rfl,_r0_n0,r0_p1,r0_q1,_,rfl,_r0_n1,r0_p2,r0_q2,_,rfl,_r0_n2,_,rfl,_,rfl⟩:=hf0
 have c0_0:=hc0 0 (by simp)
 have c0_1:=hc0 1 (by simp)
 have c0_2:=hc0 2 (by simp)
 have c0_3:=hc0 3 (by simp)
 have c0_4:=hc0 4 (by simp)
 have c0_5:=hc0 5 (by simp)
 have c0_6:=hc0 6 (by simp)
 simp only [List.getD_cons_zero,List.getD_cons_succ] at c0_0 c0_1 c0_2 c0_3 c0_4 c0_5 c0_6
 clear hc0
 go_wp2
 exact zR (v:=.agg #[r0_p0,r0_q0,r0_p1,r0_q1,r0_p2,r0_q2,.int .i64 0]) (by simp [results,Tryz.results17,go_sem,c0_0,c0_1,c0_2,c0_3,c0_4,c0_5,c0_6]) E.below ⟨_,rfl,hP0⟩

def F3.zero:F3:=⟨0,0,0⟩

theorem zPb {w:World} {v:Value} {d k er:Int} {R:F3} (h:Num w v d) (hO:∀ (w1:World) (x:Value),Below w.heap.size w w1→Num w1 x d→Calls Tryz.prog 93 #[x,.int .i64 k] w1 fun e' w'=>∃ v',e'=.returned v'∧Below w1.heap.size w1 w'∧(Fq.tup2 (f3 R.a R.b R.c) (Fq.is (.int .i64 er))).P v' w') :
  Rt 41 #[v,.int .i64 k] w fun v' w'=>(Fq.st [.n R.a,.n R.b,.n R.c,.v (.int .i64 er)]).P v' w':=by
 have HhO:=hidd hO
 obtain ⟨n0,ao0,k0,c0,rfl⟩:=h.parts
 obtain ⟨w1,b1,hw1,hb1,hs1,E⟩:=gN w 36 h
 obtain ⟨w2,b2,hw2,hb2,hs2,E⟩:=fO E hs1 48 zGf
 go_enter Tryz.func41,Tryz.ntmps41
 go_upto_region 1 with (fail)
 rw [← hw1,← hw2]
 rw [← hb2,← hb1]
 clear hw1 hw2 hb1 hb2 hs2 hs1
 refine rz [.n d,.i k,.w (Fq.tup2 (f3 R.a R.b R.c) (Fq.is (.int .i64 er))),.w (Fq.tup2 (f3 R.a R.b R.c) (Fq.is (.int .i64 er))),.w (f3 R.a R.b R.c),.i er,.k,.a,.i er] N2 [⟨6,7,6,f3 0 0 0,f3 R.a R.b R.c,none⟩] E (fun hp=>⟨lI 0 hp J1 zw,zS,zD0 (F:=(Fq.num d).P) (G:=(Fq.is (.int .i64 k)).P) hp fo tv (zTu) rfl (sqi 0) (sqi 1) (fun v v' w hbw h h'=>(by subst h';exact HhO.out _ _ hbw h)),zS,zS,zS,aS hp J0 zAt zB1,sS 4 hp J0 zAn,zS,tv⟩) ?_
 intro w3 b3_6 E _ _
 simp only [rzE] at E ⊢
 go_upto_region 2 with (fail)
 refine rz [.w (f3 R.a R.b R.c),.i er,.w (Fq.st [.n R.a,.n R.b,.n R.c,.v (.int .i64 er)]),.a] [none,some (3,Fq.st [.n R.a,.n R.b,.n R.c,.v (.int .i64 er)]),none] [] E (fun hp=>⟨lS 0 6 hp J0 zAc zw,zS,zMz (u1:=er) (z0_0:=R.a) (z0_1:=R.b) (z0_2:=R.c) hp fo tv (sqi 0) (sqi 1) (fun v w h=>h),sO 0 2 hp J1 zHc zw,tv⟩) ?_
 intro w4 E _ _
 simp only [rzE] at E ⊢
 clear HhO hO
 obtain ⟨_,_,hc0,hf0⟩:=zAv (E.box 1 rfl)
 have hP0:=hf0
 obtain ⟨r0_p0,r0_q0,_,rfl,_r0_n0,r0_p1,r0_q1,_,rfl,_r0_n1,r0_p2,r0_q2,_,rfl,_r0_n2,_,rfl,_,rfl⟩:=hf0
 have c0_0:=hc0 0 (by simp)
 have c0_1:=hc0 1 (by simp)
 have c0_2:=hc0 2 (by simp)
 have c0_3:=hc0 3 (by simp)
 have c0_4:=hc0 4 (by simp)
 have c0_5:=hc0 5 (by simp)
 have c0_6:=hc0 6 (by simp)
 simp only [List.getD_cons_zero,List.getD_cons_succ] at c0_0 c0_1 c0_2 c0_3 c0_4 c0_5 c0_6
 clear hc0
 go_wp2
 exact zR (v:=.agg #[r0_p0,r0_q0,r0_p1,r0_q1,r0_p2,r0_q2,.int .i64 er]) (by simp [results,Tryz.results41,go_sem,c0_0,c0_1,c0_2,c0_3,c0_4,c0_5,c0_6]) E.below ⟨_,rfl,hP0⟩

theorem exGIs {w:World} {v v':Value} {P Q:F3} (h:(Fq.st [.n P.a,.n P.b,.n P.c,.v (.int .i64 0)]).P v w) (h':(f3 Q.a Q.b Q.c).P v' w) (he:eqF P.a P.b P.c Q.a Q.b Q.c=true) :
  Rt 32 #[v,v'] w fun v' w'=>v'=.bool true:=by
 have HE:=hidd he
 clear he
 obtain ⟨_,rfl,hf0⟩:=h
 have hF0:=hf0
 obtain ⟨y0_p0,y0_q0,_,rfl,_y0_n0,y0_p1,y0_q1,_,rfl,_y0_n1,y0_p2,y0_q2,_,rfl,_y0_n2,_,rfl,_,rfl⟩:=hf0
 obtain ⟨y1_p0,y1_q0,y1_p1,y1_q1,y1_p2,y1_q2,rfl,hF1⟩:=o3 h'
 obtain ⟨w1,b1,hw1,hb1,hs1,E⟩:=gS w 48 hF0
 obtain ⟨w2,b2,hw2,hb2,hs2,E⟩:=fS E hs1 38 hF1
 go_enter Tryz.func32,Tryz.ntmps32
 go_upto_region 1 with (fail)
 rw [← hw1,← hw2]
 rw [← hb2,← hb1]
 clear hw1 hw2 hb1 hb2 hs2 hs1
 refine rz [.p b1 6,.i 0,.t,.t,.p b1 0,.w (f3 P.a P.b P.c),.w (f3 Q.a Q.b Q.c),.t,.t,.t] N2 [] E (fun hp=>⟨qa b1 0 6 hp zw,wXc 6 hp J1 zi,zo hp (sqi 1),zS,zg b1 0 0 hp zw,lG 0 6 hp gqi J1 zAc zi fun v w h=>h,lG 0 6 hp gqi J0 zAc zw fun v w h=>h,zC hp zOj zi zi (fun v v' w h h'=>zPk h h' HE.out),zt hp (sqi 3) (sqi 7),zS,tv⟩) ?_
 intro w3 E _ _
 simp only [rzE] at E ⊢
 clear HE
 go_wp2
 exact zR (v:=.bool true) (by simp [results,Tryz.results32,go_sem]) E.below rfl

theorem zGs {D:Int} {P Q:F3} (hD:D<0) (hP:Sc D P) (hQ:Sc D Q):cmF P.a P.b P.c Q.a Q.b Q.c=mulF D P Q∧cmE P.a P.b P.c Q.a Q.b Q.c=0:=by
 have e1:=zFt hP hD
 have e2:=zFt hQ hD
 have e3:cmE P.a P.b P.c Q.a Q.b Q.c=0:=by unfold cmE;rw [if_pos e1,if_pos e2,if_pos (by rw [hP.disc,hQ.disc])]
 refine ⟨?_,e3⟩
 unfold cmF
 rw [if_pos e3,hP.disc]
theorem cm_no {P Q:F3} {er:Int} (h:cmE P.a P.b P.c Q.a Q.b Q.c=er) (h0:¬ er=0):cmF P.a P.b P.c Q.a Q.b Q.c=F3.zero:=by
 unfold cmF
 rw [if_neg (by rw [h];exact h0)]
 rfl
def e1F:F3:=⟨1,1,6⟩
def e2F:F3:=⟨2,1,3⟩
def e3F:F3:=⟨2,-1,3⟩
theorem e1_gm:Gm (-23) e1F:=zCr (D:=-23) zd zd
theorem e2_gm:Gm (-23) e2F:=⟨⟨zd,zd,zMr (show cont 2 1 3=1 by decide)⟩,⟨zd,zd,zd,zd,zd⟩⟩
theorem e3_gm:Gm (-23) e3F:=⟨⟨zd,zd,zMr (show cont 2 (-1) 3=1 by decide)⟩,⟨zd,zd,zd,zd,zd⟩⟩
theorem e_sm:Sm e1F∧Sm e2F∧Sm e3F:=⟨⟨zd,zd,zd⟩,⟨zd,zd,zd⟩,⟨zd,zd,zd⟩⟩
theorem e_22:mulF (-23) e2F e2F=e3F:=by
 obtain ⟨c1,c2⟩:=zRc (D:=-23) (a:=2) (b:=1) (c:=3) (a':=2) (b':=1) (c':=3) (h:=2) (x:=0) (y:=1) (e:=1) (u:=0) (z:=1) e2_gm.1 e2_gm.1 zd zd zd zd zd zd zd
 have q1:((2:Int)*2/(1*1))=4:=by decide
 have q2:(((0:Int)*0*2*1+0*1*2*1+1*((1*1+-23)/2))/1)=-11:=by decide
 have q3:(((-11:Int)*-11 - -23)/(4*4))=9:=by decide
 rw [q1,q2] at c1 c2
 rw [q3] at c2
 exact zH3 zd e2_gm.1 e2_gm.1 ⟨e3_gm.2,⟨4,-11,9⟩,c2,c1,⟨_,_,_,_,und_e22⟩⟩
theorem e_23:mulF (-23) e2F e3F=e1F:=zJ8 zd zd e2_gm.1
theorem e_33:mulF (-23) e3F e3F=e2F:=by
 have h1:=zEf (D:=-23) zd e2_gm.1 e2_gm.1 e3_gm.1
 rw [e_22,e_23] at h1
 rw [h1]
 exact zDn zd zd e2_gm
theorem e_11:mulF (-23) e1F e1F=e1F:=zDn zd zd e1_gm
theorem e_ord:Ord (-23) e2F 3:=by
 have p1:pwF (-23) e2F 1=e2F:=zKi zd zd e2_gm
 have p2:pwF (-23) e2F 2=e3F:=by show mulF (-23) (pwF (-23) e2F 1) e2F=e3F;rw [p1,e_22]
 have p3:pwF (-23) e2F 3=e1F:=by show mulF (-23) (pwF (-23) e2F 2) e2F=e1F;rw [p2,zMc zd e3_gm.1 e2_gm.1,e_23]
 have n2:e2F≠onF (-23):=fun e=>by have:=congrArg F3.a e;revert this;decide
 have n3:e3F≠onF (-23):=fun e=>by have:=congrArg F3.a e;revert this;decide
 refine ⟨zd,p3,fun j h1 h2=>?_⟩
 have:j=1∨j=2:=zm
 rcases this with rfl | rfl
 ·rw [p1];exact n2
 ·rw [p2];exact n3
theorem e_four:¬ pwF (-23) e2F 4=onF (-23):=fun e=>by
 have:=(e_ord.iff zd zd e2_gm.1 4).1 e
 revert this
 decide
theorem e_inv:pzF (-23) e2F (-1)=e3F:=zKi (D:=-23) (P:=e3F) zd zd e3_gm
theorem e_roots:[e1F,e2F,e3F].filter (rtB (rdF e2F))=[e3F]:=by
 have h2:rdF e2F=e2F:=rdF_gm (D:=-23) zd e2_gm e_sm.2.1
 have r1:rtB e2F e1F=false:=by
  unfold rtB
  rw [show e1F.b*e1F.b-4*(e1F.a*e1F.c)=-23 from rfl,e_11]
  rfl
 have r2:rtB e2F e2F=false:=by
  unfold rtB
  rw [show e2F.b*e2F.b-4*(e2F.a*e2F.c)=-23 from rfl,e_22]
  simp [eqF,e3F,e2F]
 have r3:rtB e2F e3F=true:=by
  unfold rtB
  rw [show e3F.b*e3F.b-4*(e3F.a*e3F.c)=-23 from rfl,e_33,zFt e3_gm.1 zd]
  rfl
 rw [h2]
 simp [List.filter,r1,r2,r3]
theorem kron_2_5:kron 2 5=-1:=by
 unfold kron
 rw [if_neg zd,if_neg zd]
 show 1*kro 2 5=-1
 rw [zL3 zd,J_two zd]
 decide
theorem nbits_two:zA8 2=2:=by
 unfold zA8
 rw [if_neg zd]
 decide
theorem least5:Least 5 5:=⟨zd,zd,fun q h1 h2=>by (have:q=2∨q=3∨q=4:=zm);rcases this with rfl | rfl | rfl <;> decide⟩
theorem least3:Least 3 3:=⟨zd,zd,fun q h1 h2=>by (have:q=2:=zm);subst this;decide⟩
theorem ab90 {x:Int} (h:-9223372036854775808≤x) (h':x≤9223372036854775807):ab x<pw 90:=zu (zAr h h')
theorem exPrime5 {w:World} {v:Value} (hT:Tabs w) (h:Num w v (-23)):Calls Tryz.prog 93 #[v,.int .i64 5] w fun e w'=>∃ v',e=.returned v'∧Below w.heap.size w w'∧(Fq.tup2 (f3 F3.zero.a F3.zero.b F3.zero.c) (Fq.is (.int .i64 6))).P v' w':=
 zUk (pp:=5) (F:=F3.zero) h (zAr zd zd) zd zd zd zd least5 fun w1 x x' hb hx hx'=>
  zUf hx hx' (zAr zd zd) (zAr zd zd) (e:=6) (z:=0) zd fun w2 y y' hb2 hy hy'=>
   exMSqrtN hy hy' (ab90 zd zd) (ab90 zd zd) ((hT.mono hb).mono hb2) zd (by show 1<zA8 2;rw [nbits_two];decide) (by show kron 2 5≠1;rw [kron_2_5];decide)
theorem rd312:rdF ⟨3,1,2⟩=e3F:=by
 have s:Sm ⟨3,1,2⟩:=⟨zd,zd,zd⟩
 have hs:Sc (-23) ⟨3,1,2⟩:=⟨zd,zd,zMr (show cont 3 1 2=1 by decide)⟩
 obtain ⟨h1,h2⟩:=zGn zd hs s
 exact zIj (P:=⟨3,1,2⟩) ⟨0,-1,1,0,zd,zd,zd,zd⟩ h2 e3_gm.2 h1.2
theorem exPrime3 {w:World} {v:Value} (h:Num w v (-23)):Calls Tryz.prog 93 #[v,.int .i64 3] w fun e w'=>∃ v',e=.returned v'∧Below w.heap.size w w'∧(Fq.tup2 (f3 e3F.a e3F.b e3F.c) (Fq.is (.int .i64 0))).P v' w':=by
 have hh:=zUl (pp:=3) (F:=⟨3,1,2⟩) h (zAr zd zd) zd zd zd zd least3 ⟨zd,zd,zd⟩ zd zd fun w1 x x' hb hx hx'=>
  zUg (r:=1) hx hx' (zAr zd zd) (zAr zd zd) (zAr zd zd) zd fun w2 y y' hb2 hy hy'=>
   exMSqrtS hy hy' (ab90 zd zd) (ab90 zd zd) zd (by show zA8 1≤1;decide)
 rw [rd312] at hh
 exact hh

end Go.Proofs.YtjadciofpgjofaaGreatDoor
