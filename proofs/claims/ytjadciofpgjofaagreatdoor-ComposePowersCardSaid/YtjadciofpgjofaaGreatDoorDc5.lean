/- Uc, Ud, Ug, Oq, Or, Os, Mi, Mj, Mk, Pn, Pd, Pe, Pg, Pf, Pk, Ps, Ph, Pi, Pj, Qf, Pq, Qg, Pr, Pt, Pu, Ml, Mm, Mo, Mq, Ms, Mu, Mw, Mx. -/
import Derived.Test.YtjadciofpgjofaaGreatDoorDc4
import Derived.WalkSmall
import Derived.Shelf.Bits.Mul64
import Derived.Lib.BitFns
import Derived.Lib.Walk
import Derived.Lib.Small
import Derived.RangeFuncNested
import Derived.RangeFuncBound
import Derived.RangeFuncCalls
import Derived.RangeFuncLeaves
import Derived.Shelf.Abstract
import Derived.Shelf.RegionOpen
import Derived.WalkKit
import Derived.OwnWalkIn
import Derived.TacticsInMore
import Derived.LoopNIn
import Derived.LoopIn
set_option linter.unusedSimpArgs false
set_option linter.unusedVariables false
set_option maxRecDepth 100000
set_option maxHeartbeats 8000000
namespace Go.Proofs.YtjadciofpgjofaaGreatDoor
open Go Go.RowKit

theorem zTd:En 147:=zAe Tryz.func147 (by kernel_rfl) rfl
def sqB (n:Int):Bool:=decide (0≤n) && (List.range (n.toNat+1)).any fun k=>k*k == n.toNat
theorem sqB_iff {n:Int}:sqB n=true ↔ ∃ k:Int,k*k=n:=by
 simp only [sqB,Bool.and_eq_true,decide_eq_true_eq,List.any_eq_true,List.mem_range,beq_iff_eq]
 constructor
 ·rintro ⟨h0,k,_,hk⟩
  refine ⟨(k:Int),?_⟩
  have:((k*k:Nat):Int)=((n.toNat:Nat):Int):=by rw [hk]
  rw [Int.natCast_mul] at this
  omega
 ·rintro ⟨k,hk⟩
  have h0:=zE4 k
  have h1:=zD1 k
  have h2:(k.natAbs:Int)*(k.natAbs:Int)=((k.natAbs*k.natAbs:Nat):Int):=by rw [Int.natCast_mul]
  have h3:k.natAbs≤k.natAbs*k.natAbs:=by
   rcases Nat.eq_zero_or_pos k.natAbs with e | e
   ·rw [e];omega
   ·exact Nat.le_mul_of_pos_left _ e
  refine ⟨by omega,k.natAbs,by omega,by omega⟩
theorem isq_ex:∀ p:Nat,∃ s:Int,0≤s∧s*s≤p∧(p:Int)<(s+1)*(s+1)
 | 0=>⟨0,by decide,by decide,by decide⟩
 | p+1=>by
  obtain ⟨s,h0,h1,h2⟩:=isq_ex p
  have e:(s+1+1)*(s+1+1)=(s+1)*(s+1)+2*(s+1)+1:=by rw [Int.add_mul (s+1) 1,Int.mul_add (s+1) (s+1) 1];omega
  by_cases h:((p+1:Nat):Int)<(s+1)*(s+1)
  ·exact ⟨s,h0,by omega,h⟩
  ·exact ⟨s+1,by omega,by omega,by rw [e];omega⟩
theorem zL4 {X r s:Int} (r0:0≤r) (r1:r*r≤X) (r2:X<(r+1)*(r+1)) (s0:0≤s) (h1:s*s≤X) (h2:X<(s+1)*(s+1)):r=s:=by
 rcases Int.lt_trichotomy r s with h | h | h
 ·have:=Int.mul_le_mul (show r+1≤s by omega) (show r+1≤s by omega) zm s0
  omega
 ·exact h
 ·have:=Int.mul_le_mul (show s+1≤r by omega) (show s+1≤r by omega) zm r0
  omega
theorem root_sq {X r:Int} (hr:IsRoot X 2 r):0≤r∧r*r≤X∧X<(r+1)*(r+1):=by
 obtain ⟨r0,r1,r2⟩:=hr
 have e:∀ z:Int,z^2=z*z:=fun z=>by rw [show (2:Nat)=1+1 by rfl,Int.pow_succ,Int.pow_succ,Int.pow_zero,Int.one_mul]
 rw [e] at r1 r2
 exact ⟨r0,r1,r2⟩
theorem zR7 {n s:Int} (s0:0≤s) (h1:s*s≤n) (h2:n<(s+1)*(s+1)):sqB n=decide (n-s*s=0):=by
 by_cases e:n-s*s=0
 ·rw [decide_eq_true e]
  exact sqB_iff.2 ⟨s,by omega⟩
 ·rw [decide_eq_false e]
  refine Bool.eq_false_iff.2 fun h=>e ?_
  obtain ⟨k,hk⟩:=sqB_iff.1 h
  have hk2:=zD1 k
  have:=zL4 (X:=n) (r:=(k.natAbs:Int)) zm zm (by rw [Int.add_mul,Int.mul_add];omega) s0 h1 h2
  rw [← this]
  omega
theorem exQSqrt {n:Int} (h0:0≤n) (hn:ab n<pw 40):∃ s:Int,(∀ (w:World) (v:Value),Num w v n→Calls Tryz.prog 147 #[v] w fun e w'=>∃ v',e=.returned v'∧Below w.heap.size w w'∧(Fq.tup3 (Fq.num s) (Fq.num (n-s*s)) (Fq.is (.int .i64 0))).P v' w')∧sqB n=decide (n-s*s=0):=by
 obtain ⟨s,s0,s1,s2⟩:=isq_ex n.toNat
 have e:((n.toNat:Nat):Int)=n:=by omega
 rw [e] at s1 s2
 refine ⟨s,fun w v hv=>(RSqrtV hv hn).mono fun e w' hh=>?_,zR7 s0 s1 s2⟩
 obtain ⟨hB,⟨h1,_⟩ | ⟨_,v1,v2,r,rfl,hr1,hr2,hr⟩⟩:=hh
 ·omega
 ·obtain ⟨q0,q1,q2⟩:=root_sq hr
  obtain rfl:r=s:=zL4 q0 q1 q2 s0 s1 s2
  have hbr:ab r<pw 40:=by
   have h4:=hn
   have h5:r≤r*r:=by
    rcases Int.lt_or_le 0 r with h | h
    ·have:=Int.mul_le_mul_of_nonneg_left (show 1≤r by omega) s0;omega
    ·have:=Int.mul_nonneg s0 s0;omega
   unfold ab at *
   generalize pw 40=k at *
   omega
  have hbr2:ab (n-r*r)<pw 40:=by
   have h4:=hn
   have:=Int.mul_nonneg s0 s0
   unfold ab at *
   generalize pw 40=k at *
   omega
  exact ⟨_,rfl,hB,v1,v2,_,rfl,zCq hr1 hbr zm,zCq hr2 hbr2 zm,rfl⟩
theorem zIo {n:Int} (h:n<0):sqB n=false:=by
 refine Bool.eq_false_iff.2 fun e=>?_
 obtain ⟨k,hk⟩:=sqB_iff.1 e
 have:=zE4 k
 omega
theorem disc_ab {a b c:Int} (ha:ab a<pw 15) (hb:ab b<pw 15) (hc:ab c<pw 15):ab (b*b-4*(a*c))<pw 40:=
 zCm (zBu hb hb) (zBu (zAs (x:=4) zd zd) (zBu ha hc)) zm zm
theorem zDt {w:World} {v:Value} {z:Int} (h:Num w v z):Calls Tryz.prog 134 #[v] w fun e w'=>∃ v',e=.returned v'∧Below w.heap.size w w'∧v'=.bool true:=by
 obtain ⟨n,ao,k,c,rfl⟩:=h.parts
 refine (exRValid h).mono ?_
 rintro e w' ⟨rfl,hb⟩
 exact ⟨_,rfl,hb,rfl⟩
def chkF (a b c:Int):Int:=if sqB (b*b-4*(a*c))=true then 5 else if b*b-4*(a*c)<0∧a<0 then 1 else 0
theorem zK6 {a b c:Int} (hd:b*b-4*(a*c)<0) (hz:¬ a<0):chkF a b c=0:=by
 unfold chkF
 rw [zIo hd,if_neg zd,if_neg fun x=>hz x.2]
theorem zOb {a b c:Int} (hd:b*b-4*(a*c)<0) (hz:a<0):chkF a b c=1:=by
 unfold chkF
 rw [zIo hd,if_neg zd,if_pos ⟨hd,hz⟩]
theorem zK7 {a b c:Int} (hd:¬ b*b-4*(a*c)<0):chkF a b c=if sqB (b*b-4*(a*c))=true then 5 else 0:=by
 unfold chkF
 by_cases h:sqB (b*b-4*(a*c))=true
 ·rw [if_pos h,if_pos h]
 ·rw [if_neg h,if_neg h,if_neg fun x=>hd x.1]
def dfB (a b c:Int):Bool:=decide (b*b-4*(a*c)<0∧0≤a)
section
variable {os : List Oper} {Q : Exit → Act → World → Prop} {a : Act} {p : Pq} {B B0 : Nat} {w0 : World}
variable {i s : Nat} {d : Option Tmp} {ty : TypeId} {ps : String} {af : Array Edge} {gd : Option (Nat × Bool)}
theorem zFn (hp:p.Ok B B0) (hF:p.Free i) (hg:GdQ os a p B B0 w0 af gd) (hC:∀ v w,(f3 0 0 0).P v w→(p.c i).P v w) :
  zAg os Q a p B B0 w0 i { dst:=d,op:=.build 38 #[],type:=ty,pos:=ps,after:=af,guard:=gd }:=by
 refine zBg hp hF hg fun L vs w hG hL hc hd=>?_
 refine ⟨.agg #[.bool false,.slice none 0 0,.bool false,.slice none 0 0,.bool false,.slice none 0 0],?_,hC _ _ ⟨_,rfl,_,_,_,rfl,Num.zero w,_,_,_,rfl,Num.zero w,_,_,_,rfl,Num.zero w,rfl⟩⟩
 simp [execOp,go_sem]
end
theorem zVv {w:World} {v:Value} {n:Int} (h:Num w v n) (hn:ab n<pw 40) (hc:n<0) {t:Bool} (ht:sqB n=t) :
  Rt 126 #[v] w fun v' w'=>v'=.bool t:=by
 replace hn:=hidd hn
 have T1:Hid (cmpI n 0<0):=cmpIqlt.2 hc
 have ht2:t=false:=ht.symm.trans (zIo hc)
 subst ht2
 clear ht
 clear hc
 obtain ⟨n0,ao0,k0,c0,rfl⟩:=h.parts
 obtain ⟨w1,b1,hw1,hb1,hs1,E⟩:=gN w 36 h
 go_enter Tryz.func126,Tryz.ntmps126
 go_upto_region 1 with (fail)
 rw [← hw1,← hb1]
 clear hw1 hb1 hs1
 refine rz [.n n,.i (cmpI n 0),.t] [none] [] E (fun hp=>⟨lI 0 hp (mq 0 rfl) zw,zc hp zCo zi fun v w h=>zCp h,zO hp (sqi 1) T1.out,tv⟩) ?_
 intro w2 E _ _
 simp only [Z1] at E ⊢
 go_upto_region 2 with (fail)
 refine rz [.o] [none] [] E (fun hp=>⟨zS,tv⟩) ?_
 intro w3 E _ _
 simp only [Z1] at E ⊢
 clear T1
 clear hn
 go_wp2
 exact zR (v:=.bool false) (by simp [results,Tryz.results126,go_sem]) E.below rfl

theorem zVw {w:World} {v:Value} {n:Int} (h:Num w v n) (hn:ab n<pw 40) (hc:¬ n<0) {t:Bool} (ht:sqB n=t) :
  Rt 126 #[v] w fun v' w'=>v'=.bool t:=by
 replace hn:=hidd hn
 have T1:Hid (¬ cmpI n 0<0):=fun e=>hc (cmpIqlt.1 e)
 obtain ⟨s,hS,hq⟩:=exQSqrt zm hn.out
 have HS:=hidd hS
 have ht3:t=decide (n-s*s=0):=ht.symm.trans hq
 clear hc hS hq ht
 have HT:Hid (t=decide (n-s*s=0)):=ht3
 clear ht3
 obtain ⟨n0,ao0,k0,c0,rfl⟩:=h.parts
 obtain ⟨w1,b1,hw1,hb1,hs1,E⟩:=gN w 36 h
 go_enter Tryz.func126,Tryz.ntmps126
 go_upto_region 1 with (fail)
 rw [← hw1,← hb1]
 clear hw1 hb1 hs1
 refine rz [.n n,.i (cmpI n 0),.o] [none] [] E (fun hp=>⟨lI 0 hp (mq 0 rfl) zw,zc hp zCo zi fun v w h=>zCp h,zO hp (sqi 1) T1.out,tv⟩) ?_
 intro w2 E _ _
 simp only [Z1] at E ⊢
 go_upto_region 3 with (fail)
 refine rz [.n n,.w (Fq.tup3 (Fq.num s) (Fq.num (n-s*s)) (Fq.is (.int .i64 0))),.w (Fq.tup3 (Fq.num s) (Fq.num (n-s*s)) (Fq.is (.int .i64 0))),.n s,.n (n-s*s),.i 0,.k,.k,.a,.a,.i 0] [none] [⟨6,8,2,Fq.num 0,Fq.num s,none⟩,⟨7,9,2,Fq.num 0,Fq.num (n-s*s),none⟩] E (fun hp=>⟨lI 0 hp (mq 0 rfl) zw,zc hp zTd zi fun v w h=>HS.out _ _ h,zS,zS,zS,zS,aN hp (mq 0 rfl),aN hp (mq 1 rfl),sN 3 hp (mq 0 rfl),sN 4 hp (mq 1 rfl),zS,tv⟩) ?_
 intro w3 b3_6 b3_7 E _ _
 simp only [Z1] at E ⊢
 go_upto_region 4 with (fail)
 by_cases hz:n-s*s=0
 ·have T2:Hid (cmpI (n-s*s) 0=0):=cmpIq0.2 hz
  have ht2:t=true:=HT.out.trans (decide_eq_true hz)
  subst ht2
  clear hz HT
  refine rz [.n (n-s*s),.i (cmpI (n-s*s) 0),.t,.t] N3 [] E (fun hp=>⟨lI 0 hp (mq 1 rfl) zw,zc hp zCo zi fun v w h=>zCp h,zO hp (sqi 1) T2.out,zS,tv⟩) ?_
  intro w4 E _ _
  simp only [Z1] at E ⊢
  clear T1 T2 HS
  clear hn
  go_wp2
  exact zR (v:=.bool true) (by simp [results,Tryz.results126,go_sem]) E.below rfl
 ·have T2:Hid (¬ cmpI (n-s*s) 0=0):=fun e=>hz (cmpIq0.1 e)
  have ht2:t=false:=HT.out.trans (decide_eq_false hz)
  subst ht2
  clear hz HT
  refine rz [.n (n-s*s),.i (cmpI (n-s*s) 0),.o,.o] N3 [] E (fun hp=>⟨lI 0 hp (mq 1 rfl) zw,zc hp zCo zi fun v w h=>zCp h,zO hp (sqi 1) T2.out,zS,tv⟩) ?_
  intro w5 E _ _
  simp only [Z1] at E ⊢
  clear T1 T2 HS
  clear hn
  go_wp2
  exact zR (v:=.bool false) (by simp [results,Tryz.results126,go_sem]) E.below rfl

theorem zJv {w:World} {v:Value} {n:Int} (h:Num w v n) (hn:ab n<pw 40) {t:Bool} (ht:sqB n=t) :
  Rt 126 #[v] w fun v' w'=>v'=.bool t:=by
 by_cases hc:n<0
 ·exact zVv h hn hc ht
 ·exact zVw h hn hc ht

theorem zVg {w:World} {v:Value} {a b c:Int} (h:(f3 a b c).P v w) (ha:ab a<pw 40) (hb:ab b<pw 40) (hc:ab c<pw 40) (hD:ab (b*b-4*(a*c))<pw 40) (hq:sqB (b*b-4*(a*c))=true) :
  Rt 100 #[v] w fun v' w'=>v'=.int .i64 5:=by
 replace ha:=hidd ha
 replace hb:=hidd hb
 replace hc:=hidd hc
 have HQ:=hidd hq
 clear hq
 have HDB:=hidd hD
 clear hD
 obtain ⟨y0_p0,y0_q0,y0_p1,y0_q1,y0_p2,y0_q2,rfl,hF0⟩:=o3 h
 obtain ⟨w1,b1,hw1,hb1,hs1,E⟩:=gS w 38 hF0
 go_enter Tryz.func100,Tryz.ntmps100
 go_upto_region 1 with (fail)
 rw [← hw1,← hb1]
 clear hw1 hb1 hs1
 refine rz [.p b1 0,.n a,.t,.o,.o,.p b1 2,.n b,.t,.o,.o,.o,.p b1 4,.n c,.t,.o,.o] [none] [] E (fun hp=>⟨qa b1 0 0 hp zw,lN 0 2 hp (mq 0 rfl) zAb zi,zc hp zDq zi fun v w h=>zDt h,zo hp (sqi 2),zS,zg b1 0 2 hp zw,lG 2 2 hp gqi (mq 0 rfl) zAb zi fun v w h=>zAf h,zc hp zDq zi (fun v w h=>zDt h),zo hp (sqi 7),zt hp (sqi 4) (sqi 8),zS,zg b1 0 4 hp zw,lG 4 2 hp gqi (mq 0 rfl) zAb zi fun v w h=>zAf h,zc hp zDq zi (fun v w h=>zDt h),zo hp (sqi 13),zt hp (sqi 10) (sqi 14),tv⟩) ?_
 intro w2 E _ _
 simp only [Z1] at E ⊢
 go_upto_region 3 with (fail)
 refine rz [.w (f3 a b c),.n (b*b-4*(a*c)),.k,.a] [none] [⟨2,3,2,Fq.num 0,Fq.num (b*b-4*(a*c)),none⟩] E (fun hp=>⟨lS 0 6 hp (mq 0 rfl) zAd zw,zc hp zGu zi fun v w h=>zG1 h (Int.lt_of_lt_of_le ha.out (zAa zm)) (Int.lt_of_lt_of_le hb.out (zAa zm)) (Int.lt_of_lt_of_le hc.out (zAa zm)),aN hp (mq 0 rfl),sN 1 hp (mq 0 rfl),tv⟩) ?_
 intro w3 b3_2 E _ _
 simp only [Z1] at E ⊢
 go_upto_region 4 with (fail)
 refine rz [.n (b*b-4*(a*c)),.t] N2 [] E (fun hp=>⟨lI 0 hp (mq 0 rfl) zw,zc hp zJj zi fun v w h=>zJv h HDB.out HQ.out,tv⟩) ?_
 intro w4 E _ _
 simp only [Z1] at E ⊢
 go_upto_region 5 with (fail)
 refine rz [.i 5] N2 [] E (fun hp=>⟨zS,tv⟩) ?_
 intro w5 E _ _
 simp only [Z1] at E ⊢
 clear HQ
 clear ha hb hc HDB
 go_wp2
 exact zR (v:=.int .i64 5) (by simp [results,Tryz.results100,go_sem]) E.below rfl

theorem zVf {w:World} {v:Value} {a b c:Int} (h:(f3 a b c).P v w) (ha:ab a<pw 40) (hb:ab b<pw 40) (hc:ab c<pw 40) (hD:ab (b*b-4*(a*c))<pw 40) (hq:sqB (b*b-4*(a*c))=false) (hd:(b*b-4*(a*c))<0) (hz:a<0) :
  Rt 100 #[v] w fun v' w'=>v'=.int .i64 1:=by
 replace ha:=hidd ha
 replace hb:=hidd hb
 replace hc:=hidd hc
 have HQ:=hidd hq
 clear hq
 have HDB:=hidd hD
 clear hD
 have T1:Hid (cmpI (b*b-4*(a*c)) 0<0):=cmpIqlt.2 hd
 clear hd
 have T2:Hid (cmpI a 0<0):=cmpIqlt.2 hz
 clear hz
 obtain ⟨y0_p0,y0_q0,y0_p1,y0_q1,y0_p2,y0_q2,rfl,hF0⟩:=o3 h
 obtain ⟨w1,b1,hw1,hb1,hs1,E⟩:=gS w 38 hF0
 go_enter Tryz.func100,Tryz.ntmps100
 go_upto_region 1 with (fail)
 rw [← hw1,← hb1]
 clear hw1 hb1 hs1
 refine rz [.p b1 0,.n a,.t,.o,.o,.p b1 2,.n b,.t,.o,.o,.o,.p b1 4,.n c,.t,.o,.o] [none] [] E (fun hp=>⟨qa b1 0 0 hp zw,lN 0 2 hp (mq 0 rfl) zAb zi,zc hp zDq zi fun v w h=>zDt h,zo hp (sqi 2),zS,zg b1 0 2 hp zw,lG 2 2 hp gqi (mq 0 rfl) zAb zi fun v w h=>zAf h,zc hp zDq zi (fun v w h=>zDt h),zo hp (sqi 7),zt hp (sqi 4) (sqi 8),zS,zg b1 0 4 hp zw,lG 4 2 hp gqi (mq 0 rfl) zAb zi fun v w h=>zAf h,zc hp zDq zi (fun v w h=>zDt h),zo hp (sqi 13),zt hp (sqi 10) (sqi 14),tv⟩) ?_
 intro w2 E _ _
 simp only [Z1] at E ⊢
 go_upto_region 3 with (fail)
 refine rz [.w (f3 a b c),.n (b*b-4*(a*c)),.k,.a] [none] [⟨2,3,2,Fq.num 0,Fq.num (b*b-4*(a*c)),none⟩] E (fun hp=>⟨lS 0 6 hp (mq 0 rfl) zAd zw,zc hp zGu zi fun v w h=>zG1 h (Int.lt_of_lt_of_le ha.out (zAa zm)) (Int.lt_of_lt_of_le hb.out (zAa zm)) (Int.lt_of_lt_of_le hc.out (zAa zm)),aN hp (mq 0 rfl),sN 1 hp (mq 0 rfl),tv⟩) ?_
 intro w3 b3_2 E _ _
 simp only [Z1] at E ⊢
 go_upto_region 4 with (fail)
 refine rz [.n (b*b-4*(a*c)),.o] N2 [] E (fun hp=>⟨lI 0 hp (mq 0 rfl) zw,zc hp zJj zi fun v w h=>zJv h HDB.out HQ.out,tv⟩) ?_
 intro w4 E _ _
 simp only [Z1] at E ⊢
 go_upto_region 6 with (fail)
 refine rz [.n (b*b-4*(a*c)),.i (cmpI (b*b-4*(a*c)) 0),.t,.t,.p b1 0,.n a,.i (cmpI a 0),.t,.t] N2 [] E (fun hp=>⟨lI 0 hp (mq 0 rfl) zw,zc hp zCo zi fun v w h=>zCp h,zO hp (sqi 1) T1.out,zS,zg b1 0 0 hp zw,lG 0 2 hp gqi (mq 1 rfl) zAb zi fun v w h=>zAf h,zc hp zCo zi (fun v w h=>zCp h),zO hp (sqi 6) T2.out,zt hp (sqi 3) (sqi 7),tv⟩) ?_
 intro w5 E _ _
 simp only [Z1] at E ⊢
 go_upto_region 7 with (fail)
 refine rz [.i 1] N2 [] E (fun hp=>⟨zS,tv⟩) ?_
 intro w6 E _ _
 simp only [Z1] at E ⊢
 clear HQ T1 T2
 clear ha hb hc HDB
 go_wp2
 exact zR (v:=.int .i64 1) (by simp [results,Tryz.results100,go_sem]) E.below rfl

theorem zVd {w:World} {v:Value} {a b c:Int} (h:(f3 a b c).P v w) (ha:ab a<pw 40) (hb:ab b<pw 40) (hc:ab c<pw 40) (hD:ab (b*b-4*(a*c))<pw 40) (hq:sqB (b*b-4*(a*c))=false) (hd:(b*b-4*(a*c))<0) (hz:¬ a<0) :
  Rt 100 #[v] w fun v' w'=>v'=.int .i64 0:=by
 replace ha:=hidd ha
 replace hb:=hidd hb
 replace hc:=hidd hc
 have HQ:=hidd hq
 clear hq
 have HDB:=hidd hD
 clear hD
 have T1:Hid (cmpI (b*b-4*(a*c)) 0<0):=cmpIqlt.2 hd
 clear hd
 have T2:Hid (¬ cmpI a 0<0):=fun e=>hz (cmpIqlt.1 e)
 clear hz
 obtain ⟨y0_p0,y0_q0,y0_p1,y0_q1,y0_p2,y0_q2,rfl,hF0⟩:=o3 h
 obtain ⟨w1,b1,hw1,hb1,hs1,E⟩:=gS w 38 hF0
 go_enter Tryz.func100,Tryz.ntmps100
 go_upto_region 1 with (fail)
 rw [← hw1,← hb1]
 clear hw1 hb1 hs1
 refine rz [.p b1 0,.n a,.t,.o,.o,.p b1 2,.n b,.t,.o,.o,.o,.p b1 4,.n c,.t,.o,.o] [none] [] E (fun hp=>⟨qa b1 0 0 hp zw,lN 0 2 hp (mq 0 rfl) zAb zi,zc hp zDq zi fun v w h=>zDt h,zo hp (sqi 2),zS,zg b1 0 2 hp zw,lG 2 2 hp gqi (mq 0 rfl) zAb zi fun v w h=>zAf h,zc hp zDq zi (fun v w h=>zDt h),zo hp (sqi 7),zt hp (sqi 4) (sqi 8),zS,zg b1 0 4 hp zw,lG 4 2 hp gqi (mq 0 rfl) zAb zi fun v w h=>zAf h,zc hp zDq zi (fun v w h=>zDt h),zo hp (sqi 13),zt hp (sqi 10) (sqi 14),tv⟩) ?_
 intro w2 E _ _
 simp only [Z1] at E ⊢
 go_upto_region 3 with (fail)
 refine rz [.w (f3 a b c),.n (b*b-4*(a*c)),.k,.a] [none] [⟨2,3,2,Fq.num 0,Fq.num (b*b-4*(a*c)),none⟩] E (fun hp=>⟨lS 0 6 hp (mq 0 rfl) zAd zw,zc hp zGu zi fun v w h=>zG1 h (Int.lt_of_lt_of_le ha.out (zAa zm)) (Int.lt_of_lt_of_le hb.out (zAa zm)) (Int.lt_of_lt_of_le hc.out (zAa zm)),aN hp (mq 0 rfl),sN 1 hp (mq 0 rfl),tv⟩) ?_
 intro w3 b3_2 E _ _
 simp only [Z1] at E ⊢
 go_upto_region 4 with (fail)
 refine rz [.n (b*b-4*(a*c)),.o] N2 [] E (fun hp=>⟨lI 0 hp (mq 0 rfl) zw,zc hp zJj zi fun v w h=>zJv h HDB.out HQ.out,tv⟩) ?_
 intro w4 E _ _
 simp only [Z1] at E ⊢
 go_upto_region 6 with (fail)
 refine rz [.n (b*b-4*(a*c)),.i (cmpI (b*b-4*(a*c)) 0),.t,.t,.p b1 0,.n a,.i (cmpI a 0),.o,.o] N2 [] E (fun hp=>⟨lI 0 hp (mq 0 rfl) zw,zc hp zCo zi fun v w h=>zCp h,zO hp (sqi 1) T1.out,zS,zg b1 0 0 hp zw,lG 0 2 hp gqi (mq 1 rfl) zAb zi fun v w h=>zAf h,zc hp zCo zi (fun v w h=>zCp h),zO hp (sqi 6) T2.out,zt hp (sqi 3) (sqi 7),tv⟩) ?_
 intro w5 E _ _
 simp only [Z1] at E ⊢
 go_upto_region 8 with (fail)
 refine rz [.i 0] N2 [] E (fun hp=>⟨zS,tv⟩) ?_
 intro w6 E _ _
 simp only [Z1] at E ⊢
 clear HQ T1 T2
 clear ha hb hc HDB
 go_wp2
 exact zR (v:=.int .i64 0) (by simp [results,Tryz.results100,go_sem]) E.below rfl

theorem zVe {w:World} {v:Value} {a b c:Int} (h:(f3 a b c).P v w) (ha:ab a<pw 40) (hb:ab b<pw 40) (hc:ab c<pw 40) (hD:ab (b*b-4*(a*c))<pw 40) (hq:sqB (b*b-4*(a*c))=false) (hd:¬ (b*b-4*(a*c))<0) :
  Rt 100 #[v] w fun v' w'=>v'=.int .i64 0:=by
 replace ha:=hidd ha
 replace hb:=hidd hb
 replace hc:=hidd hc
 have HQ:=hidd hq
 clear hq
 have HDB:=hidd hD
 clear hD
 have T1:Hid (¬ cmpI (b*b-4*(a*c)) 0<0):=fun e=>hd (cmpIqlt.1 e)
 clear hd
 obtain ⟨y0_p0,y0_q0,y0_p1,y0_q1,y0_p2,y0_q2,rfl,hF0⟩:=o3 h
 obtain ⟨w1,b1,hw1,hb1,hs1,E⟩:=gS w 38 hF0
 go_enter Tryz.func100,Tryz.ntmps100
 go_upto_region 1 with (fail)
 rw [← hw1,← hb1]
 clear hw1 hb1 hs1
 refine rz [.p b1 0,.n a,.t,.o,.o,.p b1 2,.n b,.t,.o,.o,.o,.p b1 4,.n c,.t,.o,.o] [none] [] E (fun hp=>⟨qa b1 0 0 hp zw,lN 0 2 hp (mq 0 rfl) zAb zi,zc hp zDq zi fun v w h=>zDt h,zo hp (sqi 2),zS,zg b1 0 2 hp zw,lG 2 2 hp gqi (mq 0 rfl) zAb zi fun v w h=>zAf h,zc hp zDq zi (fun v w h=>zDt h),zo hp (sqi 7),zt hp (sqi 4) (sqi 8),zS,zg b1 0 4 hp zw,lG 4 2 hp gqi (mq 0 rfl) zAb zi fun v w h=>zAf h,zc hp zDq zi (fun v w h=>zDt h),zo hp (sqi 13),zt hp (sqi 10) (sqi 14),tv⟩) ?_
 intro w2 E _ _
 simp only [Z1] at E ⊢
 go_upto_region 3 with (fail)
 refine rz [.w (f3 a b c),.n (b*b-4*(a*c)),.k,.a] [none] [⟨2,3,2,Fq.num 0,Fq.num (b*b-4*(a*c)),none⟩] E (fun hp=>⟨lS 0 6 hp (mq 0 rfl) zAd zw,zc hp zGu zi fun v w h=>zG1 h (Int.lt_of_lt_of_le ha.out (zAa zm)) (Int.lt_of_lt_of_le hb.out (zAa zm)) (Int.lt_of_lt_of_le hc.out (zAa zm)),aN hp (mq 0 rfl),sN 1 hp (mq 0 rfl),tv⟩) ?_
 intro w3 b3_2 E _ _
 simp only [Z1] at E ⊢
 go_upto_region 4 with (fail)
 refine rz [.n (b*b-4*(a*c)),.o] N2 [] E (fun hp=>⟨lI 0 hp (mq 0 rfl) zw,zc hp zJj zi fun v w h=>zJv h HDB.out HQ.out,tv⟩) ?_
 intro w4 E _ _
 simp only [Z1] at E ⊢
 go_upto_region 6 with (fail)
 refine rz [.n (b*b-4*(a*c)),.i (cmpI (b*b-4*(a*c)) 0),.o,.o,.u (undef),.u (undef),.u (undef),.u (undef),.o] N2 [] E (fun hp=>⟨lI 0 hp (mq 0 rfl) zw,zc hp zCo zi fun v w h=>zCp h,zO hp (sqi 1) T1.out,zS,zS,zS,zS,zS,zt hp (sqi 3) (zk (.bool false)),tv⟩) ?_
 intro w5 E _ _
 simp only [Z1] at E ⊢
 go_upto_region 8 with (fail)
 refine rz [.i 0] N2 [] E (fun hp=>⟨zS,tv⟩) ?_
 intro w6 E _ _
 simp only [Z1] at E ⊢
 clear HQ T1
 clear ha hb hc HDB
 go_wp2
 exact zR (v:=.int .i64 0) (by simp [results,Tryz.results100,go_sem]) E.below rfl

theorem zJu {w:World} {v:Value} {a b c:Int} (h:(f3 a b c).P v w) (ha:ab a<pw 40) (hb:ab b<pw 40) (hc:ab c<pw 40) (hD:ab (b*b-4*(a*c))<pw 40) {e0:Int} (he:chkF a b c=e0) :
  Rt 100 #[v] w fun v' w'=>v'=.int .i64 e0:=by
 subst he
 unfold chkF
 cases hq:sqB (b*b-4*(a*c)) with
 | true=>rw [if_pos rfl];exact zVg h ha hb hc hD hq
 | false=>
  rw [if_neg zd]
  by_cases hd:(b*b-4*(a*c))<0
  ·by_cases hz:a<0
   ·rw [if_pos ⟨hd,hz⟩];exact zVf h ha hb hc hD hq hd hz
   ·rw [if_neg fun x=>hz x.2];exact zVd h ha hb hc hD hq hd hz
  ·rw [if_neg fun x=>hd x.1];exact zVe h ha hb hc hD hq hd

theorem zVl {w:World} {v:Value} {a b c:Int} (h:(f3 a b c).P v w) (ha:ab a<pw 40) (hb:ab b<pw 40) (hc:ab c<pw 40) (hD:ab (b*b-4*(a*c))<pw 40) (hd:(b*b-4*(a*c))<0) (hz:¬ a<0) {t:Bool} (ht:dfB a b c=t) :
  Rt 130 #[v] w fun v' w'=>v'=.bool t:=by
 replace ha:=hidd ha
 replace hb:=hidd hb
 replace hc:=hidd hc
 have HC:=hidd (zK6 hd hz)
 have HDB:=hidd hD
 clear hD
 have ht2:t=true:=ht.symm.trans (by unfold dfB;exact decide_eq_true zm)
 subst ht2
 clear ht
 have T1:Hid (cmpI (b*b-4*(a*c)) 0<0):=cmpIqlt.2 hd
 clear hd hz
 obtain ⟨y0_p0,y0_q0,y0_p1,y0_q1,y0_p2,y0_q2,rfl,hF0⟩:=o3 h
 obtain ⟨w1,b1,hw1,hb1,hs1,E⟩:=gS w 38 hF0
 go_enter Tryz.func130,Tryz.ntmps130
 go_upto_region 1 with (fail)
 rw [← hw1,← hb1]
 clear hw1 hb1 hs1
 refine rz [.w (f3 a b c),.i 0,.t,.t,.w (f3 a b c),.n (b*b-4*(a*c)),.i (cmpI (b*b-4*(a*c)) 0),.t,.t,.t] [none] [] E (fun hp=>⟨lS 0 6 hp (mq 0 rfl) zAd zw,zc hp zJi zi fun v w h=>zJu h ha.out hb.out hc.out HDB.out HC.out,zo hp (sqi 1),zS,lG 0 6 hp gqi (mq 0 rfl) zAd zw fun v w h=>h,zc hp zGu zi (fun v w h=>zG1 h (Int.lt_of_lt_of_le ha.out (zAa zm)) (Int.lt_of_lt_of_le hb.out (zAa zm)) (Int.lt_of_lt_of_le hc.out (zAa zm))),zc hp zCo zi (fun v w h=>zCp h),zO hp (sqi 6) T1.out,zt hp (sqi 3) (sqi 7),zS,tv⟩) ?_
 intro w2 E _ _
 simp only [Z1] at E ⊢
 clear HC T1
 clear ha hb hc HDB
 go_wp2
 exact zR (v:=.bool true) (by simp [results,Tryz.results130,go_sem]) E.below rfl

theorem zVj {w:World} {v:Value} {a b c:Int} (h:(f3 a b c).P v w) (ha:ab a<pw 40) (hb:ab b<pw 40) (hc:ab c<pw 40) (hD:ab (b*b-4*(a*c))<pw 40) (hd:(b*b-4*(a*c))<0) (hz:a<0) {t:Bool} (ht:dfB a b c=t) :
  Rt 130 #[v] w fun v' w'=>v'=.bool t:=by
 replace ha:=hidd ha
 replace hb:=hidd hb
 replace hc:=hidd hc
 have HC:=hidd (zOb hd hz)
 have HDB:=hidd hD
 clear hD
 have ht2:t=false:=ht.symm.trans (by unfold dfB;exact decide_eq_false zm)
 subst ht2
 clear ht
 clear hd hz
 obtain ⟨y0_p0,y0_q0,y0_p1,y0_q1,y0_p2,y0_q2,rfl,hF0⟩:=o3 h
 obtain ⟨w1,b1,hw1,hb1,hs1,E⟩:=gS w 38 hF0
 go_enter Tryz.func130,Tryz.ntmps130
 go_upto_region 1 with (fail)
 rw [← hw1,← hb1]
 clear hw1 hb1 hs1
 refine rz [.w (f3 a b c),.i 1,.o,.o,.u (undef),.u (undef),.u (undef),.u (undef),.o,.o] [none] [] E (fun hp=>⟨lS 0 6 hp (mq 0 rfl) zAd zw,zc hp zJi zi fun v w h=>zJu h ha.out hb.out hc.out HDB.out HC.out,zo hp (sqi 1),zS,zS,zS,zS,zS,zt hp (sqi 3) (zk (.bool false)),zS,tv⟩) ?_
 intro w2 E _ _
 simp only [Z1] at E ⊢
 clear HC
 clear ha hb hc HDB
 go_wp2
 exact zR (v:=.bool false) (by simp [results,Tryz.results130,go_sem]) E.below rfl

theorem zVk {w:World} {v:Value} {a b c:Int} (h:(f3 a b c).P v w) (ha:ab a<pw 40) (hb:ab b<pw 40) (hc:ab c<pw 40) (hD:ab (b*b-4*(a*c))<pw 40) (hd:¬ (b*b-4*(a*c))<0) (hz:sqB (b*b-4*(a*c))=true) {t:Bool} (ht:dfB a b c=t) :
  Rt 130 #[v] w fun v' w'=>v'=.bool t:=by
 replace ha:=hidd ha
 replace hb:=hidd hb
 replace hc:=hidd hc
 have HC:=hidd ((zK7 hd).trans (if_pos hz))
 have HDB:=hidd hD
 clear hD
 have ht2:t=false:=ht.symm.trans (by unfold dfB;exact decide_eq_false zm)
 subst ht2
 clear ht
 clear hd hz
 obtain ⟨y0_p0,y0_q0,y0_p1,y0_q1,y0_p2,y0_q2,rfl,hF0⟩:=o3 h
 obtain ⟨w1,b1,hw1,hb1,hs1,E⟩:=gS w 38 hF0
 go_enter Tryz.func130,Tryz.ntmps130
 go_upto_region 1 with (fail)
 rw [← hw1,← hb1]
 clear hw1 hb1 hs1
 refine rz [.w (f3 a b c),.i 5,.o,.o,.u (undef),.u (undef),.u (undef),.u (undef),.o,.o] [none] [] E (fun hp=>⟨lS 0 6 hp (mq 0 rfl) zAd zw,zc hp zJi zi fun v w h=>zJu h ha.out hb.out hc.out HDB.out HC.out,zo hp (sqi 1),zS,zS,zS,zS,zS,zt hp (sqi 3) (zk (.bool false)),zS,tv⟩) ?_
 intro w2 E _ _
 simp only [Z1] at E ⊢
 clear HC
 clear ha hb hc HDB
 go_wp2
 exact zR (v:=.bool false) (by simp [results,Tryz.results130,go_sem]) E.below rfl

theorem zVi {w:World} {v:Value} {a b c:Int} (h:(f3 a b c).P v w) (ha:ab a<pw 40) (hb:ab b<pw 40) (hc:ab c<pw 40) (hD:ab (b*b-4*(a*c))<pw 40) (hd:¬ (b*b-4*(a*c))<0) (hz:¬ sqB (b*b-4*(a*c))=true) {t:Bool} (ht:dfB a b c=t) :
  Rt 130 #[v] w fun v' w'=>v'=.bool t:=by
 replace ha:=hidd ha
 replace hb:=hidd hb
 replace hc:=hidd hc
 have HC:=hidd ((zK7 hd).trans (if_neg hz))
 have HDB:=hidd hD
 clear hD
 have ht2:t=false:=ht.symm.trans (by unfold dfB;exact decide_eq_false zm)
 subst ht2
 clear ht
 have T1:Hid (¬ cmpI (b*b-4*(a*c)) 0<0):=fun e=>hd (cmpIqlt.1 e)
 clear hd hz
 obtain ⟨y0_p0,y0_q0,y0_p1,y0_q1,y0_p2,y0_q2,rfl,hF0⟩:=o3 h
 obtain ⟨w1,b1,hw1,hb1,hs1,E⟩:=gS w 38 hF0
 go_enter Tryz.func130,Tryz.ntmps130
 go_upto_region 1 with (fail)
 rw [← hw1,← hb1]
 clear hw1 hb1 hs1
 refine rz [.w (f3 a b c),.i 0,.t,.t,.w (f3 a b c),.n (b*b-4*(a*c)),.i (cmpI (b*b-4*(a*c)) 0),.o,.o,.o] [none] [] E (fun hp=>⟨lS 0 6 hp (mq 0 rfl) zAd zw,zc hp zJi zi fun v w h=>zJu h ha.out hb.out hc.out HDB.out HC.out,zo hp (sqi 1),zS,lG 0 6 hp gqi (mq 0 rfl) zAd zw fun v w h=>h,zc hp zGu zi (fun v w h=>zG1 h (Int.lt_of_lt_of_le ha.out (zAa zm)) (Int.lt_of_lt_of_le hb.out (zAa zm)) (Int.lt_of_lt_of_le hc.out (zAa zm))),zc hp zCo zi (fun v w h=>zCp h),zO hp (sqi 6) T1.out,zt hp (sqi 3) (sqi 7),zS,tv⟩) ?_
 intro w2 E _ _
 simp only [Z1] at E ⊢
 clear HC T1
 clear ha hb hc HDB
 go_wp2
 exact zR (v:=.bool false) (by simp [results,Tryz.results130,go_sem]) E.below rfl

theorem zD9 {w:World} {v:Value} {a b c:Int} (h:(f3 a b c).P v w) (ha:ab a<pw 40) (hb:ab b<pw 40) (hc:ab c<pw 40) (hD:ab (b*b-4*(a*c))<pw 40) {t:Bool} (ht:dfB a b c=t) :
  Rt 130 #[v] w fun v' w'=>v'=.bool t:=by
 by_cases hd:(b*b-4*(a*c))<0
 ·by_cases hz:a<0
  ·exact zVj h ha hb hc hD hd hz ht
  ·exact zVl h ha hb hc hD hd hz ht
 ·by_cases hz:sqB (b*b-4*(a*c))=true
  ·exact zVk h ha hb hc hD hd hz ht
  ·exact zVi h ha hb hc hD hd hz ht

theorem exQRed_no {w:World} {v:Value} {a b c:Int} (h:(f3 a b c).P v w) (ha:ab a<pw 40) (hb:ab b<pw 40) (hc:ab c<pw 40) (hD:ab (b*b-4*(a*c))<pw 40) (hdf:dfB a b c=false) {t:Bool} (ht:(dfB a b c && redB a b c)=t) :
  Rt 94 #[v] w fun v' w'=>v'=.bool t:=by
 replace ha:=hidd ha
 replace hb:=hidd hb
 replace hc:=hidd hc
 have ht2:t=false:=ht.symm.trans (by rw [hdf];rfl)
 subst ht2
 clear ht
 have HD:=hidd hdf
 clear hdf
 have HDB:=hidd hD
 clear hD
 obtain ⟨y0_p0,y0_q0,y0_p1,y0_q1,y0_p2,y0_q2,rfl,hF0⟩:=o3 h
 obtain ⟨w1,b1,hw1,hb1,hs1,E⟩:=gS w 38 hF0
 go_enter Tryz.func94,Tryz.ntmps94
 go_upto_region 1 with (fail)
 rw [← hw1,← hb1]
 clear hw1 hb1 hs1
 refine rz [.w (f3 a b c),.o,.t,.t,.u (undef),.u (undef),.u (undef),.u (undef),.u (undef),.u (undef),.u (undef),.t,.t,.u (undef),.u (undef),.u (undef),.u (undef),.u (undef),.u (undef),.t] [none] [] E (fun hp=>⟨lS 0 6 hp (mq 0 rfl) zAd zw,zc hp zD7 zi fun v w h=>zD9 h ha.out hb.out hc.out HDB.out HD.out,zo hp (sqi 1),zS,zS,zS,zS,zS,zS,zS,zS,zt hp (sqi 3) (zk (.bool true)),zS,zS,zS,zS,zS,zS,zS,zt hp (sqi 12) (zk (.bool true)),tv⟩) ?_
 intro w2 E _ _
 simp only [Z1] at E ⊢
 go_upto_region 2 with (fail)
 refine rz [.o] [none] [] E (fun hp=>⟨zS,tv⟩) ?_
 intro w3 E _ _
 simp only [Z1] at E ⊢
 clear HD
 clear ha hb hc HDB
 go_wp2
 exact zR (v:=.bool false) (by simp [results,Tryz.results94,go_sem]) E.below rfl

theorem exQRed_b {w:World} {v:Value} {a b c:Int} (h:(f3 a b c).P v w) (ha:ab a<pw 40) (hb:ab b<pw 40) (hc:ab c<pw 40) (hD:ab (b*b-4*(a*c))<pw 40) (hdf:dfB a b c=true) (hx:a<(Int.natAbs b:Int)) {t:Bool} (ht:(dfB a b c && redB a b c)=t) :
  Rt 94 #[v] w fun v' w'=>v'=.bool t:=by
 replace ha:=hidd ha
 replace hb:=hidd hb
 replace hc:=hidd hc
 have ht2:t=false:=ht.symm.trans (by rw [hdf,Bool.true_and];unfold redB;exact decide_eq_false zm)
 subst ht2
 clear ht
 have HD:=hidd hdf
 clear hdf
 have HDB:=hidd hD
 clear hD
 have T1:Hid (0<cmpI (Int.natAbs b:Int) a):=cmpIqgt.2 hx
 clear hx
 skip
 obtain ⟨y0_p0,y0_q0,y0_p1,y0_q1,y0_p2,y0_q2,rfl,hF0⟩:=o3 h
 obtain ⟨w1,b1,hw1,hb1,hs1,E⟩:=gS w 38 hF0
 go_enter Tryz.func94,Tryz.ntmps94
 go_upto_region 1 with (fail)
 rw [← hw1,← hb1]
 clear hw1 hb1 hs1
 have B2:Hid (ab ((Int.natAbs b:Int))<pw 40):=zBm hb.out
 refine rz [.w (f3 a b c),.t,.o,.o,.p b1 2,.n b,.n (Int.natAbs b:Int),.p b1 0,.n a,.i (cmpI (Int.natAbs b:Int) a),.t,.t,.t,.u (undef),.u (undef),.u (undef),.u (undef),.u (undef),.u (undef),.t] [none] [] E (fun hp=>⟨lS 0 6 hp (mq 0 rfl) zAd zw,zc hp zD7 zi fun v w h=>zD9 h ha.out hb.out hc.out HDB.out HD.out,zo hp (sqi 1),zS,zg b1 0 2 hp zw,lG 2 2 hp gqi (mq 0 rfl) zAb zi fun v w h=>zAf h,zc hp zCb zi (fun v w h=>exK (zB2 h) B2.out zm),zg b1 0 0 hp zw,lG 0 2 hp gqi (mq 0 rfl) zAb zi fun v w h=>zAf h,zC hp zBj zi zi (fun v v' w h h'=>zBk h h'),zO hp (sqi 9) T1.out,zt hp (sqi 3) (sqi 10),zS,zS,zS,zS,zS,zS,zS,zt hp (sqi 12) (zk (.bool true)),tv⟩) ?_
 intro w3 E _ _
 simp only [Z1] at E ⊢
 go_upto_region 2 with (fail)
 refine rz [.o] [none] [] E (fun hp=>⟨zS,tv⟩) ?_
 intro w4 E _ _
 simp only [Z1] at E ⊢
 clear HD T1
 clear B2 ha hb hc HDB
 go_wp2
 exact zR (v:=.bool false) (by simp [results,Tryz.results94,go_sem]) E.below rfl

theorem exQRed_c {w:World} {v:Value} {a b c:Int} (h:(f3 a b c).P v w) (ha:ab a<pw 40) (hb:ab b<pw 40) (hc:ab c<pw 40) (hD:ab (b*b-4*(a*c))<pw 40) (hdf:dfB a b c=true) (hx:¬ a<(Int.natAbs b:Int)) (hy:¬ a≤c) {t:Bool} (ht:(dfB a b c && redB a b c)=t) :
  Rt 94 #[v] w fun v' w'=>v'=.bool t:=by
 replace ha:=hidd ha
 replace hb:=hidd hb
 replace hc:=hidd hc
 have ht2:t=false:=ht.symm.trans (by rw [hdf,Bool.true_and];unfold redB;exact decide_eq_false zm)
 subst ht2
 clear ht
 have HD:=hidd hdf
 clear hdf
 have HDB:=hidd hD
 clear hD
 have T1:Hid (¬ 0<cmpI (Int.natAbs b:Int) a):=fun e=>by have:=cmpIqgt.1 e;omega
 have T2:Hid (0<cmpI a c):=cmpIqgt.2 zm
 clear hx hy
 obtain ⟨y0_p0,y0_q0,y0_p1,y0_q1,y0_p2,y0_q2,rfl,hF0⟩:=o3 h
 obtain ⟨w1,b1,hw1,hb1,hs1,E⟩:=gS w 38 hF0
 go_enter Tryz.func94,Tryz.ntmps94
 go_upto_region 1 with (fail)
 rw [← hw1,← hb1]
 clear hw1 hb1 hs1
 have B2:Hid (ab ((Int.natAbs b:Int))<pw 40):=zBm hb.out
 refine rz [.w (f3 a b c),.t,.o,.o,.p b1 2,.n b,.n (Int.natAbs b:Int),.p b1 0,.n a,.i (cmpI (Int.natAbs b:Int) a),.o,.o,.o,.p b1 0,.n a,.p b1 4,.n c,.i (cmpI a c),.t,.t] [none] [] E (fun hp=>⟨lS 0 6 hp (mq 0 rfl) zAd zw,zc hp zD7 zi fun v w h=>zD9 h ha.out hb.out hc.out HDB.out HD.out,zo hp (sqi 1),zS,zg b1 0 2 hp zw,lG 2 2 hp gqi (mq 0 rfl) zAb zi fun v w h=>zAf h,zc hp zCb zi (fun v w h=>exK (zB2 h) B2.out zm),zg b1 0 0 hp zw,lG 0 2 hp gqi (mq 0 rfl) zAb zi fun v w h=>zAf h,zC hp zBj zi zi (fun v v' w h h'=>zBk h h'),zO hp (sqi 9) T1.out,zt hp (sqi 3) (sqi 10),zS,zg b1 0 0 hp zw,lG 0 2 hp gqi (mq 0 rfl) zAb zi fun v w h=>zAf h,zg b1 0 4 hp zw,lG 4 2 hp gqi (mq 0 rfl) zAb zi fun v w h=>zAf h,zC hp zBj zi zi (fun v v' w h h'=>zBk h h'),zO hp (sqi 17) T2.out,zt hp (sqi 12) (sqi 18),tv⟩) ?_
 intro w3 E _ _
 simp only [Z1] at E ⊢
 go_upto_region 2 with (fail)
 refine rz [.o] [none] [] E (fun hp=>⟨zS,tv⟩) ?_
 intro w4 E _ _
 simp only [Z1] at E ⊢
 clear HD T1 T2
 clear B2 ha hb hc HDB
 go_wp2
 exact zR (v:=.bool false) (by simp [results,Tryz.results94,go_sem]) E.below rfl

theorem zVm {w:World} {v:Value} {a b c:Int} (h:(f3 a b c).P v w) (ha:ab a<pw 40) (hb:ab b<pw 40) (hc:ab c<pw 40) (hD:ab (b*b-4*(a*c))<pw 40) (hdf:dfB a b c=true) (hx:¬ a<(Int.natAbs b:Int)) (hy:a≤c) (k0:¬ (Int.natAbs b:Int)=a) (k1:¬ a=c) (k2:¬ 0≤b) {t:Bool} (ht:(dfB a b c && redB a b c)=t) :
  Rt 94 #[v] w fun v' w'=>v'=.bool t:=by
 replace ha:=hidd ha
 replace hb:=hidd hb
 replace hc:=hidd hc
 have ht2:t=true:=ht.symm.trans (by rw [hdf,Bool.true_and];unfold redB;exact decide_eq_true zm)
 subst ht2
 clear ht
 have HD:=hidd hdf
 clear hdf
 have HDB:=hidd hD
 clear hD
 have T1:Hid (¬ 0<cmpI (Int.natAbs b:Int) a):=fun e=>by have:=cmpIqgt.1 e;omega
 have T2:Hid (¬ 0<cmpI a c):=fun e=>by have:=cmpIqgt.1 e;omega
 have T3:Hid (¬ cmpI (Int.natAbs b:Int) a=0):=fun e=>k0 (cmpIq0.1 e)
 have T4:Hid (¬ cmpI a c=0):=fun e=>k1 (cmpIq0.1 e)
 have T5:Hid (¬ 0≤cmpI b 0):=by have:=cmpIqlt.2 (show b<0 by omega);show ¬ _≤_;omega
 clear k0 k1 k2
 clear hx hy
 obtain ⟨y0_p0,y0_q0,y0_p1,y0_q1,y0_p2,y0_q2,rfl,hF0⟩:=o3 h
 obtain ⟨w1,b1,hw1,hb1,hs1,E⟩:=gS w 38 hF0
 go_enter Tryz.func94,Tryz.ntmps94
 go_upto_region 1 with (fail)
 rw [← hw1,← hb1]
 clear hw1 hb1 hs1
 have B2:Hid (ab ((Int.natAbs b:Int))<pw 40):=zBm hb.out
 refine rz [.w (f3 a b c),.t,.o,.o,.p b1 2,.n b,.n (Int.natAbs b:Int),.p b1 0,.n a,.i (cmpI (Int.natAbs b:Int) a),.o,.o,.o,.p b1 0,.n a,.p b1 4,.n c,.i (cmpI a c),.o,.o] [none] [] E (fun hp=>⟨lS 0 6 hp (mq 0 rfl) zAd zw,zc hp zD7 zi fun v w h=>zD9 h ha.out hb.out hc.out HDB.out HD.out,zo hp (sqi 1),zS,zg b1 0 2 hp zw,lG 2 2 hp gqi (mq 0 rfl) zAb zi fun v w h=>zAf h,zc hp zCb zi (fun v w h=>exK (zB2 h) B2.out zm),zg b1 0 0 hp zw,lG 0 2 hp gqi (mq 0 rfl) zAb zi fun v w h=>zAf h,zC hp zBj zi zi (fun v v' w h h'=>zBk h h'),zO hp (sqi 9) T1.out,zt hp (sqi 3) (sqi 10),zS,zg b1 0 0 hp zw,lG 0 2 hp gqi (mq 0 rfl) zAb zi fun v w h=>zAf h,zg b1 0 4 hp zw,lG 4 2 hp gqi (mq 0 rfl) zAb zi fun v w h=>zAf h,zC hp zBj zi zi (fun v v' w h h'=>zBk h h'),zO hp (sqi 17) T2.out,zt hp (sqi 12) (sqi 18),tv⟩) ?_
 intro w3 E _ _
 simp only [Z1] at E ⊢
 go_upto_region 3 with (fail)
 refine rz [.p b1 2,.n b,.n (Int.natAbs b:Int),.p b1 0,.n a,.i (cmpI (Int.natAbs b:Int) a),.o,.o,.p b1 0,.n a,.p b1 4,.n c,.i (cmpI a c),.o,.o,.o] [none] [] E (fun hp=>⟨qa b1 0 2 hp zw,lN 2 2 hp (mq 0 rfl) zAb zi,zc hp zCb zi fun v w h=>exK (zB2 h) B2.out zm,qa b1 0 0 hp zw,lN 0 2 hp (mq 0 rfl) zAb zi,zC hp zBj zi zi fun v v' w h h'=>zBk h h',zO hp (sqi 5) T3.out,zS,zg b1 0 0 hp zw,lG 0 2 hp gqi (mq 0 rfl) zAb zi fun v w h=>zAf h,zg b1 0 4 hp zw,lG 4 2 hp gqi (mq 0 rfl) zAb zi fun v w h=>zAf h,zC hp zBj zi zi (fun v v' w h h'=>zBk h h'),zO hp (sqi 12) T4.out,zt hp (sqi 7) (sqi 13),zS,tv⟩) ?_
 intro w4 E _ _
 simp only [Z1] at E ⊢
 go_upto_region 4 with (fail)
 refine rz [.o,.t,.t,.u (undef),.u (undef),.u (undef),.u (undef),.t,.t] [none] [] E (fun hp=>⟨zS,zo hp (sqi 0),zS,zS,zS,zS,zS,zt hp (sqi 2) (zk (.bool true)),zS,tv⟩) ?_
 intro w5 E _ _
 simp only [Z1] at E ⊢
 clear HD T1 T2 T3 T4 T5
 clear B2 ha hb hc HDB
 go_wp2
 exact zR (v:=.bool true) (by simp [results,Tryz.results94,go_sem]) E.below rfl

theorem zVn {w:World} {v:Value} {a b c:Int} (h:(f3 a b c).P v w) (ha:ab a<pw 40) (hb:ab b<pw 40) (hc:ab c<pw 40) (hD:ab (b*b-4*(a*c))<pw 40) (hdf:dfB a b c=true) (hx:¬ a<(Int.natAbs b:Int)) (hy:a≤c) (k0:¬ (Int.natAbs b:Int)=a) (k1:¬ a=c) (k2:0≤b) {t:Bool} (ht:(dfB a b c && redB a b c)=t) :
  Rt 94 #[v] w fun v' w'=>v'=.bool t:=by
 replace ha:=hidd ha
 replace hb:=hidd hb
 replace hc:=hidd hc
 have ht2:t=true:=ht.symm.trans (by rw [hdf,Bool.true_and];unfold redB;exact decide_eq_true zm)
 subst ht2
 clear ht
 have HD:=hidd hdf
 clear hdf
 have HDB:=hidd hD
 clear hD
 have T1:Hid (¬ 0<cmpI (Int.natAbs b:Int) a):=fun e=>by have:=cmpIqgt.1 e;omega
 have T2:Hid (¬ 0<cmpI a c):=fun e=>by have:=cmpIqgt.1 e;omega
 have T3:Hid (¬ cmpI (Int.natAbs b:Int) a=0):=fun e=>k0 (cmpIq0.1 e)
 have T4:Hid (¬ cmpI a c=0):=fun e=>k1 (cmpIq0.1 e)
 have T5:Hid (0≤cmpI b 0):=by have:=mt cmpIqlt.1 (show ¬ b<0 by omega);show _≤_;omega
 clear k0 k1 k2
 clear hx hy
 obtain ⟨y0_p0,y0_q0,y0_p1,y0_q1,y0_p2,y0_q2,rfl,hF0⟩:=o3 h
 obtain ⟨w1,b1,hw1,hb1,hs1,E⟩:=gS w 38 hF0
 go_enter Tryz.func94,Tryz.ntmps94
 go_upto_region 1 with (fail)
 rw [← hw1,← hb1]
 clear hw1 hb1 hs1
 have B2:Hid (ab ((Int.natAbs b:Int))<pw 40):=zBm hb.out
 refine rz [.w (f3 a b c),.t,.o,.o,.p b1 2,.n b,.n (Int.natAbs b:Int),.p b1 0,.n a,.i (cmpI (Int.natAbs b:Int) a),.o,.o,.o,.p b1 0,.n a,.p b1 4,.n c,.i (cmpI a c),.o,.o] [none] [] E (fun hp=>⟨lS 0 6 hp (mq 0 rfl) zAd zw,zc hp zD7 zi fun v w h=>zD9 h ha.out hb.out hc.out HDB.out HD.out,zo hp (sqi 1),zS,zg b1 0 2 hp zw,lG 2 2 hp gqi (mq 0 rfl) zAb zi fun v w h=>zAf h,zc hp zCb zi (fun v w h=>exK (zB2 h) B2.out zm),zg b1 0 0 hp zw,lG 0 2 hp gqi (mq 0 rfl) zAb zi fun v w h=>zAf h,zC hp zBj zi zi (fun v v' w h h'=>zBk h h'),zO hp (sqi 9) T1.out,zt hp (sqi 3) (sqi 10),zS,zg b1 0 0 hp zw,lG 0 2 hp gqi (mq 0 rfl) zAb zi fun v w h=>zAf h,zg b1 0 4 hp zw,lG 4 2 hp gqi (mq 0 rfl) zAb zi fun v w h=>zAf h,zC hp zBj zi zi (fun v v' w h h'=>zBk h h'),zO hp (sqi 17) T2.out,zt hp (sqi 12) (sqi 18),tv⟩) ?_
 intro w3 E _ _
 simp only [Z1] at E ⊢
 go_upto_region 3 with (fail)
 refine rz [.p b1 2,.n b,.n (Int.natAbs b:Int),.p b1 0,.n a,.i (cmpI (Int.natAbs b:Int) a),.o,.o,.p b1 0,.n a,.p b1 4,.n c,.i (cmpI a c),.o,.o,.o] [none] [] E (fun hp=>⟨qa b1 0 2 hp zw,lN 2 2 hp (mq 0 rfl) zAb zi,zc hp zCb zi fun v w h=>exK (zB2 h) B2.out zm,qa b1 0 0 hp zw,lN 0 2 hp (mq 0 rfl) zAb zi,zC hp zBj zi zi fun v v' w h h'=>zBk h h',zO hp (sqi 5) T3.out,zS,zg b1 0 0 hp zw,lG 0 2 hp gqi (mq 0 rfl) zAb zi fun v w h=>zAf h,zg b1 0 4 hp zw,lG 4 2 hp gqi (mq 0 rfl) zAb zi fun v w h=>zAf h,zC hp zBj zi zi (fun v v' w h h'=>zBk h h'),zO hp (sqi 12) T4.out,zt hp (sqi 7) (sqi 13),zS,tv⟩) ?_
 intro w4 E _ _
 simp only [Z1] at E ⊢
 go_upto_region 4 with (fail)
 refine rz [.o,.t,.t,.u (undef),.u (undef),.u (undef),.u (undef),.t,.t] [none] [] E (fun hp=>⟨zS,zo hp (sqi 0),zS,zS,zS,zS,zS,zt hp (sqi 2) (zk (.bool true)),zS,tv⟩) ?_
 intro w5 E _ _
 simp only [Z1] at E ⊢
 clear HD T1 T2 T3 T4 T5
 clear B2 ha hb hc HDB
 go_wp2
 exact zR (v:=.bool true) (by simp [results,Tryz.results94,go_sem]) E.below rfl

theorem zVo {w:World} {v:Value} {a b c:Int} (h:(f3 a b c).P v w) (ha:ab a<pw 40) (hb:ab b<pw 40) (hc:ab c<pw 40) (hD:ab (b*b-4*(a*c))<pw 40) (hdf:dfB a b c=true) (hx:¬ a<(Int.natAbs b:Int)) (hy:a≤c) (k0:¬ (Int.natAbs b:Int)=a) (k1:a=c) (k2:¬ 0≤b) {t:Bool} (ht:(dfB a b c && redB a b c)=t) :
  Rt 94 #[v] w fun v' w'=>v'=.bool t:=by
 replace ha:=hidd ha
 replace hb:=hidd hb
 replace hc:=hidd hc
 have ht2:t=false:=ht.symm.trans (by rw [hdf,Bool.true_and];unfold redB;exact decide_eq_false zm)
 subst ht2
 clear ht
 have HD:=hidd hdf
 clear hdf
 have HDB:=hidd hD
 clear hD
 have T1:Hid (¬ 0<cmpI (Int.natAbs b:Int) a):=fun e=>by have:=cmpIqgt.1 e;omega
 have T2:Hid (¬ 0<cmpI a c):=fun e=>by have:=cmpIqgt.1 e;omega
 have T3:Hid (¬ cmpI (Int.natAbs b:Int) a=0):=fun e=>k0 (cmpIq0.1 e)
 have T4:Hid (cmpI a c=0):=cmpIq0.2 k1
 have T5:Hid (¬ 0≤cmpI b 0):=by have:=cmpIqlt.2 (show b<0 by omega);show ¬ _≤_;omega
 clear k0 k1 k2
 clear hx hy
 obtain ⟨y0_p0,y0_q0,y0_p1,y0_q1,y0_p2,y0_q2,rfl,hF0⟩:=o3 h
 obtain ⟨w1,b1,hw1,hb1,hs1,E⟩:=gS w 38 hF0
 go_enter Tryz.func94,Tryz.ntmps94
 go_upto_region 1 with (fail)
 rw [← hw1,← hb1]
 clear hw1 hb1 hs1
 have B2:Hid (ab ((Int.natAbs b:Int))<pw 40):=zBm hb.out
 refine rz [.w (f3 a b c),.t,.o,.o,.p b1 2,.n b,.n (Int.natAbs b:Int),.p b1 0,.n a,.i (cmpI (Int.natAbs b:Int) a),.o,.o,.o,.p b1 0,.n a,.p b1 4,.n c,.i (cmpI a c),.o,.o] [none] [] E (fun hp=>⟨lS 0 6 hp (mq 0 rfl) zAd zw,zc hp zD7 zi fun v w h=>zD9 h ha.out hb.out hc.out HDB.out HD.out,zo hp (sqi 1),zS,zg b1 0 2 hp zw,lG 2 2 hp gqi (mq 0 rfl) zAb zi fun v w h=>zAf h,zc hp zCb zi (fun v w h=>exK (zB2 h) B2.out zm),zg b1 0 0 hp zw,lG 0 2 hp gqi (mq 0 rfl) zAb zi fun v w h=>zAf h,zC hp zBj zi zi (fun v v' w h h'=>zBk h h'),zO hp (sqi 9) T1.out,zt hp (sqi 3) (sqi 10),zS,zg b1 0 0 hp zw,lG 0 2 hp gqi (mq 0 rfl) zAb zi fun v w h=>zAf h,zg b1 0 4 hp zw,lG 4 2 hp gqi (mq 0 rfl) zAb zi fun v w h=>zAf h,zC hp zBj zi zi (fun v v' w h h'=>zBk h h'),zO hp (sqi 17) T2.out,zt hp (sqi 12) (sqi 18),tv⟩) ?_
 intro w3 E _ _
 simp only [Z1] at E ⊢
 go_upto_region 3 with (fail)
 refine rz [.p b1 2,.n b,.n (Int.natAbs b:Int),.p b1 0,.n a,.i (cmpI (Int.natAbs b:Int) a),.o,.o,.p b1 0,.n a,.p b1 4,.n c,.i (cmpI a c),.t,.t,.t] [none] [] E (fun hp=>⟨qa b1 0 2 hp zw,lN 2 2 hp (mq 0 rfl) zAb zi,zc hp zCb zi fun v w h=>exK (zB2 h) B2.out zm,qa b1 0 0 hp zw,lN 0 2 hp (mq 0 rfl) zAb zi,zC hp zBj zi zi fun v v' w h h'=>zBk h h',zO hp (sqi 5) T3.out,zS,zg b1 0 0 hp zw,lG 0 2 hp gqi (mq 0 rfl) zAb zi fun v w h=>zAf h,zg b1 0 4 hp zw,lG 4 2 hp gqi (mq 0 rfl) zAb zi fun v w h=>zAf h,zC hp zBj zi zi (fun v v' w h h'=>zBk h h'),zO hp (sqi 12) T4.out,zt hp (sqi 7) (sqi 13),zS,tv⟩) ?_
 intro w4 E _ _
 simp only [Z1] at E ⊢
 go_upto_region 4 with (fail)
 refine rz [.t,.o,.o,.p b1 2,.n b,.i (cmpI b 0),.o,.o,.o] [none] [] E (fun hp=>⟨zS,zo hp (sqi 0),zS,zg b1 0 2 hp zw,lG 2 2 hp gqi (mq 0 rfl) zAb zi fun v w h=>zAf h,zc hp zCo zi (fun v w h=>zCp h),zO hp (sqi 5) T5.out,zt hp (sqi 2) (sqi 6),zS,tv⟩) ?_
 intro w5 E _ _
 simp only [Z1] at E ⊢
 clear HD T1 T2 T3 T4 T5
 clear B2 ha hb hc HDB
 go_wp2
 exact zR (v:=.bool false) (by simp [results,Tryz.results94,go_sem]) E.below rfl

theorem zVp {w:World} {v:Value} {a b c:Int} (h:(f3 a b c).P v w) (ha:ab a<pw 40) (hb:ab b<pw 40) (hc:ab c<pw 40) (hD:ab (b*b-4*(a*c))<pw 40) (hdf:dfB a b c=true) (hx:¬ a<(Int.natAbs b:Int)) (hy:a≤c) (k0:¬ (Int.natAbs b:Int)=a) (k1:a=c) (k2:0≤b) {t:Bool} (ht:(dfB a b c && redB a b c)=t) :
  Rt 94 #[v] w fun v' w'=>v'=.bool t:=by
 replace ha:=hidd ha
 replace hb:=hidd hb
 replace hc:=hidd hc
 have ht2:t=true:=ht.symm.trans (by rw [hdf,Bool.true_and];unfold redB;exact decide_eq_true zm)
 subst ht2
 clear ht
 have HD:=hidd hdf
 clear hdf
 have HDB:=hidd hD
 clear hD
 have T1:Hid (¬ 0<cmpI (Int.natAbs b:Int) a):=fun e=>by have:=cmpIqgt.1 e;omega
 have T2:Hid (¬ 0<cmpI a c):=fun e=>by have:=cmpIqgt.1 e;omega
 have T3:Hid (¬ cmpI (Int.natAbs b:Int) a=0):=fun e=>k0 (cmpIq0.1 e)
 have T4:Hid (cmpI a c=0):=cmpIq0.2 k1
 have T5:Hid (0≤cmpI b 0):=by have:=mt cmpIqlt.1 (show ¬ b<0 by omega);show _≤_;omega
 clear k0 k1 k2
 clear hx hy
 obtain ⟨y0_p0,y0_q0,y0_p1,y0_q1,y0_p2,y0_q2,rfl,hF0⟩:=o3 h
 obtain ⟨w1,b1,hw1,hb1,hs1,E⟩:=gS w 38 hF0
 go_enter Tryz.func94,Tryz.ntmps94
 go_upto_region 1 with (fail)
 rw [← hw1,← hb1]
 clear hw1 hb1 hs1
 have B2:Hid (ab ((Int.natAbs b:Int))<pw 40):=zBm hb.out
 refine rz [.w (f3 a b c),.t,.o,.o,.p b1 2,.n b,.n (Int.natAbs b:Int),.p b1 0,.n a,.i (cmpI (Int.natAbs b:Int) a),.o,.o,.o,.p b1 0,.n a,.p b1 4,.n c,.i (cmpI a c),.o,.o] [none] [] E (fun hp=>⟨lS 0 6 hp (mq 0 rfl) zAd zw,zc hp zD7 zi fun v w h=>zD9 h ha.out hb.out hc.out HDB.out HD.out,zo hp (sqi 1),zS,zg b1 0 2 hp zw,lG 2 2 hp gqi (mq 0 rfl) zAb zi fun v w h=>zAf h,zc hp zCb zi (fun v w h=>exK (zB2 h) B2.out zm),zg b1 0 0 hp zw,lG 0 2 hp gqi (mq 0 rfl) zAb zi fun v w h=>zAf h,zC hp zBj zi zi (fun v v' w h h'=>zBk h h'),zO hp (sqi 9) T1.out,zt hp (sqi 3) (sqi 10),zS,zg b1 0 0 hp zw,lG 0 2 hp gqi (mq 0 rfl) zAb zi fun v w h=>zAf h,zg b1 0 4 hp zw,lG 4 2 hp gqi (mq 0 rfl) zAb zi fun v w h=>zAf h,zC hp zBj zi zi (fun v v' w h h'=>zBk h h'),zO hp (sqi 17) T2.out,zt hp (sqi 12) (sqi 18),tv⟩) ?_
 intro w3 E _ _
 simp only [Z1] at E ⊢
 go_upto_region 3 with (fail)
 refine rz [.p b1 2,.n b,.n (Int.natAbs b:Int),.p b1 0,.n a,.i (cmpI (Int.natAbs b:Int) a),.o,.o,.p b1 0,.n a,.p b1 4,.n c,.i (cmpI a c),.t,.t,.t] [none] [] E (fun hp=>⟨qa b1 0 2 hp zw,lN 2 2 hp (mq 0 rfl) zAb zi,zc hp zCb zi fun v w h=>exK (zB2 h) B2.out zm,qa b1 0 0 hp zw,lN 0 2 hp (mq 0 rfl) zAb zi,zC hp zBj zi zi fun v v' w h h'=>zBk h h',zO hp (sqi 5) T3.out,zS,zg b1 0 0 hp zw,lG 0 2 hp gqi (mq 0 rfl) zAb zi fun v w h=>zAf h,zg b1 0 4 hp zw,lG 4 2 hp gqi (mq 0 rfl) zAb zi fun v w h=>zAf h,zC hp zBj zi zi (fun v v' w h h'=>zBk h h'),zO hp (sqi 12) T4.out,zt hp (sqi 7) (sqi 13),zS,tv⟩) ?_
 intro w4 E _ _
 simp only [Z1] at E ⊢
 go_upto_region 4 with (fail)
 refine rz [.t,.o,.o,.p b1 2,.n b,.i (cmpI b 0),.t,.t,.t] [none] [] E (fun hp=>⟨zS,zo hp (sqi 0),zS,zg b1 0 2 hp zw,lG 2 2 hp gqi (mq 0 rfl) zAb zi fun v w h=>zAf h,zc hp zCo zi (fun v w h=>zCp h),zO hp (sqi 5) T5.out,zt hp (sqi 2) (sqi 6),zS,tv⟩) ?_
 intro w5 E _ _
 simp only [Z1] at E ⊢
 clear HD T1 T2 T3 T4 T5
 clear B2 ha hb hc HDB
 go_wp2
 exact zR (v:=.bool true) (by simp [results,Tryz.results94,go_sem]) E.below rfl

theorem zVq {w:World} {v:Value} {a b c:Int} (h:(f3 a b c).P v w) (ha:ab a<pw 40) (hb:ab b<pw 40) (hc:ab c<pw 40) (hD:ab (b*b-4*(a*c))<pw 40) (hdf:dfB a b c=true) (hx:¬ a<(Int.natAbs b:Int)) (hy:a≤c) (k0:(Int.natAbs b:Int)=a) (k1:¬ a=c) (k2:¬ 0≤b) {t:Bool} (ht:(dfB a b c && redB a b c)=t) :
  Rt 94 #[v] w fun v' w'=>v'=.bool t:=by
 replace ha:=hidd ha
 replace hb:=hidd hb
 replace hc:=hidd hc
 have ht2:t=false:=ht.symm.trans (by rw [hdf,Bool.true_and];unfold redB;exact decide_eq_false zm)
 subst ht2
 clear ht
 have HD:=hidd hdf
 clear hdf
 have HDB:=hidd hD
 clear hD
 have T1:Hid (¬ 0<cmpI (Int.natAbs b:Int) a):=fun e=>by have:=cmpIqgt.1 e;omega
 have T2:Hid (¬ 0<cmpI a c):=fun e=>by have:=cmpIqgt.1 e;omega
 have T3:Hid (cmpI (Int.natAbs b:Int) a=0):=cmpIq0.2 k0
 have T4:Hid (¬ cmpI a c=0):=fun e=>k1 (cmpIq0.1 e)
 have T5:Hid (¬ 0≤cmpI b 0):=by have:=cmpIqlt.2 (show b<0 by omega);show ¬ _≤_;omega
 clear k0 k1 k2
 clear hx hy
 obtain ⟨y0_p0,y0_q0,y0_p1,y0_q1,y0_p2,y0_q2,rfl,hF0⟩:=o3 h
 obtain ⟨w1,b1,hw1,hb1,hs1,E⟩:=gS w 38 hF0
 go_enter Tryz.func94,Tryz.ntmps94
 go_upto_region 1 with (fail)
 rw [← hw1,← hb1]
 clear hw1 hb1 hs1
 have B2:Hid (ab ((Int.natAbs b:Int))<pw 40):=zBm hb.out
 refine rz [.w (f3 a b c),.t,.o,.o,.p b1 2,.n b,.n (Int.natAbs b:Int),.p b1 0,.n a,.i (cmpI (Int.natAbs b:Int) a),.o,.o,.o,.p b1 0,.n a,.p b1 4,.n c,.i (cmpI a c),.o,.o] [none] [] E (fun hp=>⟨lS 0 6 hp (mq 0 rfl) zAd zw,zc hp zD7 zi fun v w h=>zD9 h ha.out hb.out hc.out HDB.out HD.out,zo hp (sqi 1),zS,zg b1 0 2 hp zw,lG 2 2 hp gqi (mq 0 rfl) zAb zi fun v w h=>zAf h,zc hp zCb zi (fun v w h=>exK (zB2 h) B2.out zm),zg b1 0 0 hp zw,lG 0 2 hp gqi (mq 0 rfl) zAb zi fun v w h=>zAf h,zC hp zBj zi zi (fun v v' w h h'=>zBk h h'),zO hp (sqi 9) T1.out,zt hp (sqi 3) (sqi 10),zS,zg b1 0 0 hp zw,lG 0 2 hp gqi (mq 0 rfl) zAb zi fun v w h=>zAf h,zg b1 0 4 hp zw,lG 4 2 hp gqi (mq 0 rfl) zAb zi fun v w h=>zAf h,zC hp zBj zi zi (fun v v' w h h'=>zBk h h'),zO hp (sqi 17) T2.out,zt hp (sqi 12) (sqi 18),tv⟩) ?_
 intro w3 E _ _
 simp only [Z1] at E ⊢
 go_upto_region 3 with (fail)
 refine rz [.p b1 2,.n b,.n (Int.natAbs b:Int),.p b1 0,.n a,.i (cmpI (Int.natAbs b:Int) a),.t,.t,.u (undef),.u (undef),.u (undef),.u (undef),.u (undef),.u (undef),.t,.t] [none] [] E (fun hp=>⟨qa b1 0 2 hp zw,lN 2 2 hp (mq 0 rfl) zAb zi,zc hp zCb zi fun v w h=>exK (zB2 h) B2.out zm,qa b1 0 0 hp zw,lN 0 2 hp (mq 0 rfl) zAb zi,zC hp zBj zi zi fun v v' w h h'=>zBk h h',zO hp (sqi 5) T3.out,zS,zS,zS,zS,zS,zS,zS,zt hp (sqi 7) (zk (.bool true)),zS,tv⟩) ?_
 intro w4 E _ _
 simp only [Z1] at E ⊢
 go_upto_region 4 with (fail)
 refine rz [.t,.o,.o,.p b1 2,.n b,.i (cmpI b 0),.o,.o,.o] [none] [] E (fun hp=>⟨zS,zo hp (sqi 0),zS,zg b1 0 2 hp zw,lG 2 2 hp gqi (mq 0 rfl) zAb zi fun v w h=>zAf h,zc hp zCo zi (fun v w h=>zCp h),zO hp (sqi 5) T5.out,zt hp (sqi 2) (sqi 6),zS,tv⟩) ?_
 intro w5 E _ _
 simp only [Z1] at E ⊢
 clear HD T1 T2 T3 T4 T5
 clear B2 ha hb hc HDB
 go_wp2
 exact zR (v:=.bool false) (by simp [results,Tryz.results94,go_sem]) E.below rfl

theorem zVr {w:World} {v:Value} {a b c:Int} (h:(f3 a b c).P v w) (ha:ab a<pw 40) (hb:ab b<pw 40) (hc:ab c<pw 40) (hD:ab (b*b-4*(a*c))<pw 40) (hdf:dfB a b c=true) (hx:¬ a<(Int.natAbs b:Int)) (hy:a≤c) (k0:(Int.natAbs b:Int)=a) (k1:¬ a=c) (k2:0≤b) {t:Bool} (ht:(dfB a b c && redB a b c)=t) :
  Rt 94 #[v] w fun v' w'=>v'=.bool t:=by
 replace ha:=hidd ha
 replace hb:=hidd hb
 replace hc:=hidd hc
 have ht2:t=true:=ht.symm.trans (by rw [hdf,Bool.true_and];unfold redB;exact decide_eq_true zm)
 subst ht2
 clear ht
 have HD:=hidd hdf
 clear hdf
 have HDB:=hidd hD
 clear hD
 have T1:Hid (¬ 0<cmpI (Int.natAbs b:Int) a):=fun e=>by have:=cmpIqgt.1 e;omega
 have T2:Hid (¬ 0<cmpI a c):=fun e=>by have:=cmpIqgt.1 e;omega
 have T3:Hid (cmpI (Int.natAbs b:Int) a=0):=cmpIq0.2 k0
 have T4:Hid (¬ cmpI a c=0):=fun e=>k1 (cmpIq0.1 e)
 have T5:Hid (0≤cmpI b 0):=by have:=mt cmpIqlt.1 (show ¬ b<0 by omega);show _≤_;omega
 clear k0 k1 k2
 clear hx hy
 obtain ⟨y0_p0,y0_q0,y0_p1,y0_q1,y0_p2,y0_q2,rfl,hF0⟩:=o3 h
 obtain ⟨w1,b1,hw1,hb1,hs1,E⟩:=gS w 38 hF0
 go_enter Tryz.func94,Tryz.ntmps94
 go_upto_region 1 with (fail)
 rw [← hw1,← hb1]
 clear hw1 hb1 hs1
 have B2:Hid (ab ((Int.natAbs b:Int))<pw 40):=zBm hb.out
 refine rz [.w (f3 a b c),.t,.o,.o,.p b1 2,.n b,.n (Int.natAbs b:Int),.p b1 0,.n a,.i (cmpI (Int.natAbs b:Int) a),.o,.o,.o,.p b1 0,.n a,.p b1 4,.n c,.i (cmpI a c),.o,.o] [none] [] E (fun hp=>⟨lS 0 6 hp (mq 0 rfl) zAd zw,zc hp zD7 zi fun v w h=>zD9 h ha.out hb.out hc.out HDB.out HD.out,zo hp (sqi 1),zS,zg b1 0 2 hp zw,lG 2 2 hp gqi (mq 0 rfl) zAb zi fun v w h=>zAf h,zc hp zCb zi (fun v w h=>exK (zB2 h) B2.out zm),zg b1 0 0 hp zw,lG 0 2 hp gqi (mq 0 rfl) zAb zi fun v w h=>zAf h,zC hp zBj zi zi (fun v v' w h h'=>zBk h h'),zO hp (sqi 9) T1.out,zt hp (sqi 3) (sqi 10),zS,zg b1 0 0 hp zw,lG 0 2 hp gqi (mq 0 rfl) zAb zi fun v w h=>zAf h,zg b1 0 4 hp zw,lG 4 2 hp gqi (mq 0 rfl) zAb zi fun v w h=>zAf h,zC hp zBj zi zi (fun v v' w h h'=>zBk h h'),zO hp (sqi 17) T2.out,zt hp (sqi 12) (sqi 18),tv⟩) ?_
 intro w3 E _ _
 simp only [Z1] at E ⊢
 go_upto_region 3 with (fail)
 refine rz [.p b1 2,.n b,.n (Int.natAbs b:Int),.p b1 0,.n a,.i (cmpI (Int.natAbs b:Int) a),.t,.t,.u (undef),.u (undef),.u (undef),.u (undef),.u (undef),.u (undef),.t,.t] [none] [] E (fun hp=>⟨qa b1 0 2 hp zw,lN 2 2 hp (mq 0 rfl) zAb zi,zc hp zCb zi fun v w h=>exK (zB2 h) B2.out zm,qa b1 0 0 hp zw,lN 0 2 hp (mq 0 rfl) zAb zi,zC hp zBj zi zi fun v v' w h h'=>zBk h h',zO hp (sqi 5) T3.out,zS,zS,zS,zS,zS,zS,zS,zt hp (sqi 7) (zk (.bool true)),zS,tv⟩) ?_
 intro w4 E _ _
 simp only [Z1] at E ⊢
 go_upto_region 4 with (fail)
 refine rz [.t,.o,.o,.p b1 2,.n b,.i (cmpI b 0),.t,.t,.t] [none] [] E (fun hp=>⟨zS,zo hp (sqi 0),zS,zg b1 0 2 hp zw,lG 2 2 hp gqi (mq 0 rfl) zAb zi fun v w h=>zAf h,zc hp zCo zi (fun v w h=>zCp h),zO hp (sqi 5) T5.out,zt hp (sqi 2) (sqi 6),zS,tv⟩) ?_
 intro w5 E _ _
 simp only [Z1] at E ⊢
 clear HD T1 T2 T3 T4 T5
 clear B2 ha hb hc HDB
 go_wp2
 exact zR (v:=.bool true) (by simp [results,Tryz.results94,go_sem]) E.below rfl

theorem zVs {w:World} {v:Value} {a b c:Int} (h:(f3 a b c).P v w) (ha:ab a<pw 40) (hb:ab b<pw 40) (hc:ab c<pw 40) (hD:ab (b*b-4*(a*c))<pw 40) (hdf:dfB a b c=true) (hx:¬ a<(Int.natAbs b:Int)) (hy:a≤c) (k0:(Int.natAbs b:Int)=a) (k1:a=c) (k2:¬ 0≤b) {t:Bool} (ht:(dfB a b c && redB a b c)=t) :
  Rt 94 #[v] w fun v' w'=>v'=.bool t:=by
 replace ha:=hidd ha
 replace hb:=hidd hb
 replace hc:=hidd hc
 have ht2:t=false:=ht.symm.trans (by rw [hdf,Bool.true_and];unfold redB;exact decide_eq_false zm)
 subst ht2
 clear ht
 have HD:=hidd hdf
 clear hdf
 have HDB:=hidd hD
 clear hD
 have T1:Hid (¬ 0<cmpI (Int.natAbs b:Int) a):=fun e=>by have:=cmpIqgt.1 e;omega
 have T2:Hid (¬ 0<cmpI a c):=fun e=>by have:=cmpIqgt.1 e;omega
 have T3:Hid (cmpI (Int.natAbs b:Int) a=0):=cmpIq0.2 k0
 have T4:Hid (cmpI a c=0):=cmpIq0.2 k1
 have T5:Hid (¬ 0≤cmpI b 0):=by have:=cmpIqlt.2 (show b<0 by omega);show ¬ _≤_;omega
 clear k0 k1 k2
 clear hx hy
 obtain ⟨y0_p0,y0_q0,y0_p1,y0_q1,y0_p2,y0_q2,rfl,hF0⟩:=o3 h
 obtain ⟨w1,b1,hw1,hb1,hs1,E⟩:=gS w 38 hF0
 go_enter Tryz.func94,Tryz.ntmps94
 go_upto_region 1 with (fail)
 rw [← hw1,← hb1]
 clear hw1 hb1 hs1
 have B2:Hid (ab ((Int.natAbs b:Int))<pw 40):=zBm hb.out
 refine rz [.w (f3 a b c),.t,.o,.o,.p b1 2,.n b,.n (Int.natAbs b:Int),.p b1 0,.n a,.i (cmpI (Int.natAbs b:Int) a),.o,.o,.o,.p b1 0,.n a,.p b1 4,.n c,.i (cmpI a c),.o,.o] [none] [] E (fun hp=>⟨lS 0 6 hp (mq 0 rfl) zAd zw,zc hp zD7 zi fun v w h=>zD9 h ha.out hb.out hc.out HDB.out HD.out,zo hp (sqi 1),zS,zg b1 0 2 hp zw,lG 2 2 hp gqi (mq 0 rfl) zAb zi fun v w h=>zAf h,zc hp zCb zi (fun v w h=>exK (zB2 h) B2.out zm),zg b1 0 0 hp zw,lG 0 2 hp gqi (mq 0 rfl) zAb zi fun v w h=>zAf h,zC hp zBj zi zi (fun v v' w h h'=>zBk h h'),zO hp (sqi 9) T1.out,zt hp (sqi 3) (sqi 10),zS,zg b1 0 0 hp zw,lG 0 2 hp gqi (mq 0 rfl) zAb zi fun v w h=>zAf h,zg b1 0 4 hp zw,lG 4 2 hp gqi (mq 0 rfl) zAb zi fun v w h=>zAf h,zC hp zBj zi zi (fun v v' w h h'=>zBk h h'),zO hp (sqi 17) T2.out,zt hp (sqi 12) (sqi 18),tv⟩) ?_
 intro w3 E _ _
 simp only [Z1] at E ⊢
 go_upto_region 3 with (fail)
 refine rz [.p b1 2,.n b,.n (Int.natAbs b:Int),.p b1 0,.n a,.i (cmpI (Int.natAbs b:Int) a),.t,.t,.u (undef),.u (undef),.u (undef),.u (undef),.u (undef),.u (undef),.t,.t] [none] [] E (fun hp=>⟨qa b1 0 2 hp zw,lN 2 2 hp (mq 0 rfl) zAb zi,zc hp zCb zi fun v w h=>exK (zB2 h) B2.out zm,qa b1 0 0 hp zw,lN 0 2 hp (mq 0 rfl) zAb zi,zC hp zBj zi zi fun v v' w h h'=>zBk h h',zO hp (sqi 5) T3.out,zS,zS,zS,zS,zS,zS,zS,zt hp (sqi 7) (zk (.bool true)),zS,tv⟩) ?_
 intro w4 E _ _
 simp only [Z1] at E ⊢
 go_upto_region 4 with (fail)
 refine rz [.t,.o,.o,.p b1 2,.n b,.i (cmpI b 0),.o,.o,.o] [none] [] E (fun hp=>⟨zS,zo hp (sqi 0),zS,zg b1 0 2 hp zw,lG 2 2 hp gqi (mq 0 rfl) zAb zi fun v w h=>zAf h,zc hp zCo zi (fun v w h=>zCp h),zO hp (sqi 5) T5.out,zt hp (sqi 2) (sqi 6),zS,tv⟩) ?_
 intro w5 E _ _
 simp only [Z1] at E ⊢
 clear HD T1 T2 T3 T4 T5
 clear B2 ha hb hc HDB
 go_wp2
 exact zR (v:=.bool false) (by simp [results,Tryz.results94,go_sem]) E.below rfl

theorem zVt {w:World} {v:Value} {a b c:Int} (h:(f3 a b c).P v w) (ha:ab a<pw 40) (hb:ab b<pw 40) (hc:ab c<pw 40) (hD:ab (b*b-4*(a*c))<pw 40) (hdf:dfB a b c=true) (hx:¬ a<(Int.natAbs b:Int)) (hy:a≤c) (k0:(Int.natAbs b:Int)=a) (k1:a=c) (k2:0≤b) {t:Bool} (ht:(dfB a b c && redB a b c)=t) :
  Rt 94 #[v] w fun v' w'=>v'=.bool t:=by
 replace ha:=hidd ha
 replace hb:=hidd hb
 replace hc:=hidd hc
 have ht2:t=true:=ht.symm.trans (by rw [hdf,Bool.true_and];unfold redB;exact decide_eq_true zm)
 subst ht2
 clear ht
 have HD:=hidd hdf
 clear hdf
 have HDB:=hidd hD
 clear hD
 have T1:Hid (¬ 0<cmpI (Int.natAbs b:Int) a):=fun e=>by have:=cmpIqgt.1 e;omega
 have T2:Hid (¬ 0<cmpI a c):=fun e=>by have:=cmpIqgt.1 e;omega
 have T3:Hid (cmpI (Int.natAbs b:Int) a=0):=cmpIq0.2 k0
 have T4:Hid (cmpI a c=0):=cmpIq0.2 k1
 have T5:Hid (0≤cmpI b 0):=by have:=mt cmpIqlt.1 (show ¬ b<0 by omega);show _≤_;omega
 clear k0 k1 k2
 clear hx hy
 obtain ⟨y0_p0,y0_q0,y0_p1,y0_q1,y0_p2,y0_q2,rfl,hF0⟩:=o3 h
 obtain ⟨w1,b1,hw1,hb1,hs1,E⟩:=gS w 38 hF0
 go_enter Tryz.func94,Tryz.ntmps94
 go_upto_region 1 with (fail)
 rw [← hw1,← hb1]
 clear hw1 hb1 hs1
 have B2:Hid (ab ((Int.natAbs b:Int))<pw 40):=zBm hb.out
 refine rz [.w (f3 a b c),.t,.o,.o,.p b1 2,.n b,.n (Int.natAbs b:Int),.p b1 0,.n a,.i (cmpI (Int.natAbs b:Int) a),.o,.o,.o,.p b1 0,.n a,.p b1 4,.n c,.i (cmpI a c),.o,.o] [none] [] E (fun hp=>⟨lS 0 6 hp (mq 0 rfl) zAd zw,zc hp zD7 zi fun v w h=>zD9 h ha.out hb.out hc.out HDB.out HD.out,zo hp (sqi 1),zS,zg b1 0 2 hp zw,lG 2 2 hp gqi (mq 0 rfl) zAb zi fun v w h=>zAf h,zc hp zCb zi (fun v w h=>exK (zB2 h) B2.out zm),zg b1 0 0 hp zw,lG 0 2 hp gqi (mq 0 rfl) zAb zi fun v w h=>zAf h,zC hp zBj zi zi (fun v v' w h h'=>zBk h h'),zO hp (sqi 9) T1.out,zt hp (sqi 3) (sqi 10),zS,zg b1 0 0 hp zw,lG 0 2 hp gqi (mq 0 rfl) zAb zi fun v w h=>zAf h,zg b1 0 4 hp zw,lG 4 2 hp gqi (mq 0 rfl) zAb zi fun v w h=>zAf h,zC hp zBj zi zi (fun v v' w h h'=>zBk h h'),zO hp (sqi 17) T2.out,zt hp (sqi 12) (sqi 18),tv⟩) ?_
 intro w3 E _ _
 simp only [Z1] at E ⊢
 go_upto_region 3 with (fail)
 refine rz [.p b1 2,.n b,.n (Int.natAbs b:Int),.p b1 0,.n a,.i (cmpI (Int.natAbs b:Int) a),.t,.t,.u (undef),.u (undef),.u (undef),.u (undef),.u (undef),.u (undef),.t,.t] [none] [] E (fun hp=>⟨qa b1 0 2 hp zw,lN 2 2 hp (mq 0 rfl) zAb zi,zc hp zCb zi fun v w h=>exK (zB2 h) B2.out zm,qa b1 0 0 hp zw,lN 0 2 hp (mq 0 rfl) zAb zi,zC hp zBj zi zi fun v v' w h h'=>zBk h h',zO hp (sqi 5) T3.out,zS,zS,zS,zS,zS,zS,zS,zt hp (sqi 7) (zk (.bool true)),zS,tv⟩) ?_
 intro w4 E _ _
 simp only [Z1] at E ⊢
 go_upto_region 4 with (fail)
 refine rz [.t,.o,.o,.p b1 2,.n b,.i (cmpI b 0),.t,.t,.t] [none] [] E (fun hp=>⟨zS,zo hp (sqi 0),zS,zg b1 0 2 hp zw,lG 2 2 hp gqi (mq 0 rfl) zAb zi fun v w h=>zAf h,zc hp zCo zi (fun v w h=>zCp h),zO hp (sqi 5) T5.out,zt hp (sqi 2) (sqi 6),zS,tv⟩) ?_
 intro w5 E _ _
 simp only [Z1] at E ⊢
 clear HD T1 T2 T3 T4 T5
 clear B2 ha hb hc HDB
 go_wp2
 exact zR (v:=.bool true) (by simp [results,Tryz.results94,go_sem]) E.below rfl

theorem zVu {w:World} {v:Value} {a b c:Int} (h:(f3 a b c).P v w) (ha:ab a<pw 40) (hb:ab b<pw 40) (hc:ab c<pw 40) (hD:ab (b*b-4*(a*c))<pw 40) {t:Bool} (ht:(dfB a b c && redB a b c)=t) :
  Rt 94 #[v] w fun v' w'=>v'=.bool t:=by
 cases hdf:dfB a b c with
 | false=>exact exQRed_no h ha hb hc hD hdf ht
 | true=>
  by_cases hx:a<(Int.natAbs b:Int)
  ·exact exQRed_b h ha hb hc hD hdf hx ht
  by_cases hy:a≤c
  ·by_cases k0:(Int.natAbs b:Int)=a <;> by_cases k1:a=c <;> by_cases k2:0≤b
   ·exact zVt h ha hb hc hD hdf hx hy k0 k1 k2 ht
   ·exact zVs h ha hb hc hD hdf hx hy k0 k1 k2 ht
   ·exact zVr h ha hb hc hD hdf hx hy k0 k1 k2 ht
   ·exact zVq h ha hb hc hD hdf hx hy k0 k1 k2 ht
   ·exact zVp h ha hb hc hD hdf hx hy k0 k1 k2 ht
   ·exact zVo h ha hb hc hD hdf hx hy k0 k1 k2 ht
   ·exact zVn h ha hb hc hD hdf hx hy k0 k1 k2 ht
   ·exact zVm h ha hb hc hD hdf hx hy k0 k1 k2 ht
  ·exact exQRed_c h ha hb hc hD hdf hx hy ht

theorem zLy {w:World} {v:Value} {a b c:Int} (h:(f3 a b c).P v w) (ha:ab a<pw 15) (hb:ab b<pw 15) (hc:ab c<pw 15) {t:Bool} (ht:(dfB a b c && redB a b c)=t) :
  Rt 94 #[v] w fun v' w'=>v'=.bool t:=
 zVu h (Int.lt_of_lt_of_le ha (zAa zm)) (Int.lt_of_lt_of_le hb (zAa zm)) (Int.lt_of_lt_of_le hc (zAa zm)) (disc_ab ha hb hc) ht

theorem frm_uniq {w:World} {b:Nat} {x y z x' y' z':Int} (h:Bq w b 6 (f3 x y z)) (h':Bq w b 6 (f3 x' y' z')):x=x'∧y=y'∧z=z':=by
 obtain ⟨us,h1,_,h2,_,us1,e1,h3⟩:=h
 obtain ⟨us',g1,_,g2,_,us2,e2,g3⟩:=h'
 have e:us=us':=by
  refine List.ext_getElem zm fun j hj hj'=>?_
  have a1:=(h2 j hj).1
  have a2:=(g2 j hj').1
  rw [a2] at a1
  injection a1 with a1
  rw [List.getD_eq_getElem?_getD,List.getD_eq_getElem?_getD,List.getElem?_eq_getElem hj,List.getElem?_eq_getElem hj',Option.getD_some,Option.getD_some] at a1
  exact a1.symm
 injection e1 with e1
 injection e2 with e2
 have e1:=congrArg Array.toList e1
 have e2:=congrArg Array.toList e2
 simp at e1 e2
 subst e e1 e2
 obtain ⟨p1,q1,r1,rfl,n1,p2,q2,r2,rfl,n2,p3,q3,r3,rfl,n3,rfl⟩:=h3
 obtain ⟨_,_,_,i1,m1,_,_,_,rfl,m2,_,_,_,rfl,m3,rfl⟩:=g3
 injection i1 with j1 i1
 injection i1 with j2 i1
 injection i1 with j3 i1
 injection i1 with j4 i1
 injection i1 with j5 i1
 injection i1 with j6 i1
 subst j1 j2 j3 j4 j5 j6
 exact ⟨n1.unique m1,n2.unique m2,n3.unique m3⟩
open Classical in
noncomputable def frmMes (w:World) (b:Nat):Nat:=
 if h:∃ x:Nat,∃ fa fb fc:Int,Bq w b 6 (f3 fa fb fc)∧x=2*fa.natAbs+(if redB fa fb fc=true then 0 else 1) then Classical.choose h else 0
theorem zPq {w:World} {b:Nat} {fa fb fc:Int} (h:Bq w b 6 (f3 fa fb fc)):frmMes w b=2*fa.natAbs+(if redB fa fb fc=true then 0 else 1):=by
 have he:∃ x:Nat,∃ fa fb fc:Int,Bq w b 6 (f3 fa fb fc)∧x=2*fa.natAbs+(if redB fa fb fc=true then 0 else 1):=⟨_,fa,fb,fc,h,rfl⟩
 unfold frmMes
 rw [dif_pos he]
 obtain ⟨x,y,z,h',hx⟩:=Classical.choose_spec he
 obtain ⟨rfl,rfl,rfl⟩:=frm_uniq h h'
 exact hx
structure RIn (a b c x1 x2 x3 x4 fa fb fc:Int):Prop where
 u:Und a b c x1 x2 x3 x4 fa fb fc
 p:0<fa
 l:fa≤a
 bb:ab fb<pw 11
 cb:ab fc<pw 24
theorem ab_le_sq {x n:Int} (h:x*x≤n):ab x≤ab n:=by
 have h1:=zD1 x
 have h2:(x.natAbs:Int)≤(x.natAbs:Int)*(x.natAbs:Int):=by
  rcases Nat.eq_zero_or_pos x.natAbs with e | e
  ·rw [e];decide
  ·have:=Int.mul_le_mul_of_nonneg_left (show (1:Int)≤(x.natAbs:Int) by omega) (show (0:Int)≤(x.natAbs:Int) by omega)
   omega
 unfold ab
 omega
theorem RIn.bds {a b c x1 x2 x3 x4 fa fb fc:Int} (h:RIn a b c x1 x2 x3 x4 fa fb fc) (ha:ab a<pw 5) (hc:ab c<pw 24) (hd:b*b-4*(a*c)<0):(ab fa<pw 5∧ab fb<pw 11∧ab fc<pw 24)∧ab x1<pw 52∧ab x2<pw 52∧ab x3<pw 52∧ab x4<pw 52:=by
 have hfa:ab fa<pw 5:=by
  have h1:=h.p
  have h2:=h.l
  unfold ab at ha ⊢
  generalize pw 5=k at ha ⊢
  omega
 have h4:ab (4:Int)<pw 3:=zAs zd zd
 obtain ⟨g1,g2,g3,g4⟩:=h.u.bds hd
 have up:∀ {x y z:Int},x*x≤4*(y*z)→ab y<pw 24→ab z<pw 24→ab x<pw 52:=fun {x y z} hx hy hz=>Int.lt_of_le_of_lt (ab_le_sq hx) (Int.lt_of_lt_of_le (zBu h4 (zBu hy hz)) (zAa zm))
 have hfa2:ab fa<pw 24:=Int.lt_of_lt_of_le hfa (zAa zm)
 have ha2:ab a<pw 24:=Int.lt_of_lt_of_le ha (zAa zm)
 exact ⟨⟨hfa,h.bb,h.cb⟩,up g1 hc hfa2,up g2 hc h.cb,up g3 ha2 hfa2,up g4 ha2 h.cb⟩
theorem RIn.one {a b c:Int} (h0:0<a) (hb:ab b<pw 11) (hc:ab c<pw 24):RIn a b c 1 0 0 1 a b c:=⟨Und.one a b c,h0,Int.le_refl _,hb,hc⟩
theorem RIn.shift {a b c x1 x2 x3 x4 fa fb fc kk gb gc:Int} (h:RIn a b c x1 x2 x3 x4 fa fb fc) (ha:ab a<pw 5) (hc:ab c<pw 24) (hd:b*b-4*(a*c)<0) (h20:ab (b*b-4*(a*c))<pw 20) (hk:kk=(fa-fb)/(2*fa)) (hgb:gb=fb+2*(fa*kk)) (hgc:gc=fa*(kk*kk)+fb*kk+fc):RIn a b c (x1*1+x2*0) (x1*kk+x2*1) (x3*1+x4*0) (x3*kk+x4*1) fa gb gc∧-fa<gb∧gb≤fa:=by
 have hm:=zR6 (b:=fb) h.p
 rw [← hk,← hgb] at hm
 have hu:Und fa fb fc 1 kk 0 1 fa gb gc:=by rw [hgb,hgc];exact Und.shift fa fb fc kk
 have hU:=h.u.mul hu
 have hfa:=(h.bds ha hc hd).1.1
 have hD:gb*gb-4*(fa*gc)=b*b-4*(a*c):=hU.disc
 have hc1:=zJ3 h.p (by rw [hD];exact hd)
 have hc2:=last_le h.p zm hm.2 (by rw [hD];exact hd)
 rw [hD] at hc2
 refine ⟨⟨hU,h.p,h.l,?_,?_⟩,hm⟩
 ·have hg:ab gb<pw 5:=by
   have h1:=h.p
   unfold ab at hfa ⊢
   generalize pw 5=k at hfa ⊢
   omega
  exact Int.lt_of_lt_of_le hg (zAa zm)
 ·have hb1:ab (fa*fa-(b*b-4*(a*c)))<pw 24:=zCm (zBu hfa hfa) h20 zm zm
  unfold ab at hb1 ⊢
  generalize pw 24=k at hb1 ⊢
  omega
theorem RIn.swap {a b c x1 x2 x3 x4 fa fb fc:Int} (h:RIn a b c x1 x2 x3 x4 fa fb fc) (ha:ab a<pw 5) (hc:ab c<pw 24) (hd:b*b-4*(a*c)<0) (hl:fc≤fa):RIn a b c (x1*0+x2*1) (x1*-1+x2*0) (x3*0+x4*1) (x3*-1+x4*0) fc (-fb) fa:=by
 have hU:=h.u.mul (Und.swap fa fb fc)
 have hD:fb*fb-4*(fa*fc)=b*b-4*(a*c):=h.u.disc
 have hc1:=zJ3 h.p (by rw [hD];exact hd)
 have hl2:=h.l
 refine ⟨hU,hc1,by omega,?_,Int.lt_of_lt_of_le (h.bds ha hc hd).1.1 (zAa zm)⟩
 have:=h.bb
 unfold ab at this ⊢
 rw [Int.natAbs_neg]
 exact this
theorem zHp {x y:Int} {k:Nat} (hx:ab x<pw k):ab (x/y)<pw k:=by
 have:=Int.natAbs_ediv_le_natAbs x y
 unfold ab at hx ⊢
 generalize pw k=m at hx ⊢
 omega
structure RS where
 x1:Int
 x2:Int
 x3:Int
 x4:Int
 fa:Int
 fb:Int
 fc:Int
def RS.kk (S:RS):Int:=(S.fa-S.fb)/(2*S.fa)
def rsh (S:RS):RS:=⟨S.x1*1+S.x2*0,S.x1*S.kk+S.x2*1,S.x3*1+S.x4*0,S.x3*S.kk+S.x4*1,S.fa,S.fb+2*(S.fa*S.kk),S.fa*(S.kk*S.kk)+S.fb*S.kk+S.fc⟩
def rsw (S:RS):RS:=⟨S.x1*0+S.x2*1,S.x1*-1+S.x2*0,S.x3*0+S.x4*1,S.x3*-1+S.x4*0,S.fc,-S.fb,S.fa⟩
def RS.red (S:RS):Bool:=redB S.fa S.fb S.fc
def zDa (S:RS):RS:=if (rsh S).red=true then rsh S else rsw (rsh S)
def riter (a b c:Int):Nat→RS
 | 0=>⟨1,0,0,1,a,b,c⟩
 | n+1=>zDa (riter a b c n)
def RAt (a b c:Int) (S:RS):Prop:=∃ n,S=riter a b c n∧∀ m,m<n→(riter a b c m).red=false
theorem RAt.zero (a b c:Int):RAt a b c ⟨1,0,0,1,a,b,c⟩:=⟨0,rfl,fun m hm=>by omega⟩
theorem RAt.next {a b c:Int} {S:RS} (h:RAt a b c S) (hr:S.red=false):RAt a b c (zDa S):=by
 obtain ⟨n,rfl,hn⟩:=h
 refine ⟨n+1,rfl,fun m hm=>?_⟩
 rcases Nat.lt_or_ge m n with g | g
 ·exact hn m g
 ·rw [show m=n by omega];exact hr
theorem RAt.uniq {a b c:Int} {S T:RS} (h:RAt a b c S) (g:RAt a b c T) (hs:S.red=true) (ht:T.red=true):S=T:=by
 obtain ⟨n,rfl,hn⟩:=h
 obtain ⟨m,rfl,hm⟩:=g
 rcases Nat.lt_trichotomy n m with e | e | e
 ·have:=hm n e;rw [hs] at this;cases this
 ·rw [e]
 ·have:=hn m e;rw [ht] at this;cases this
open Classical in
noncomputable def zC1 (a b c:Int):RS:=if h:∃ S,RAt a b c S∧S.red=true then Classical.choose h else ⟨1,0,0,1,a,b,c⟩
theorem zM8 {a b c:Int} {S:RS} (h:RAt a b c S) (hs:S.red=true):zC1 a b c=S:=by
 have he:∃ S,RAt a b c S∧S.red=true:=⟨S,h,hs⟩
 unfold zC1
 rw [dif_pos he]
 exact (Classical.choose_spec he).1.uniq h (Classical.choose_spec he).2 hs
theorem RIn.next {a b c:Int} {S:RS} (h:RIn a b c S.x1 S.x2 S.x3 S.x4 S.fa S.fb S.fc) (ha:ab a<pw 5) (hb:ab b<pw 11) (hc:ab c<pw 24) (hd:b*b-4*(a*c)<0) (hD:ab (b*b-4*(a*c))<pw 20):RIn a b c (zDa S).x1 (zDa S).x2 (zDa S).x3 (zDa S).x4 (zDa S).fa (zDa S).fb (zDa S).fc∧((zDa S).red=true∧(zDa S).fa≤S.fa∨(zDa S).fa<S.fa):=by
 obtain ⟨h1,h2,h3⟩:=h.shift ha hc hd hD (kk:=S.kk) rfl rfl rfl
 unfold zDa
 by_cases hr:(rsh S).red=true
 ·rw [if_pos hr]
  exact ⟨h1,.inl ⟨hr,Int.le_refl _⟩⟩
 ·rw [if_neg hr]
  have hsw:=zNp (a:=(rsh S).fa) (b:=(rsh S).fb) (c:=(rsh S).fc) h1.p h2 h3 (fun e=>hr ((zE0 h1.p).2 e))
  have hle:(rsh S).fc≤(rsh S).fa:=by rcases hsw with h | h <;> omega
  refine ⟨RIn.swap (fa:=(rsh S).fa) (fb:=(rsh S).fb) (fc:=(rsh S).fc) h1 ha hc hd hle,?_⟩
  rcases hsw with h | ⟨h,_,g⟩
  ·exact .inr h
  ·exact .inl ⟨(zE0 (a:=(rsh S).fc) (b:=-(rsh S).fb) (c:=(rsh S).fa) (by rw [h];exact h1.p)).2 g,by show (rsh S).fc≤S.fa;rw [h];exact Int.le_refl _⟩
theorem zRt {a b c:Int} (ha:ab a<pw 5) (hb:ab b<pw 11) (hc:ab c<pw 24) (hd:b*b-4*(a*c)<0) (hD:ab (b*b-4*(a*c))<pw 20):∀ (k:Nat) (S:RS),S.fa.natAbs≤k→RAt a b c S→RIn a b c S.x1 S.x2 S.x3 S.x4 S.fa S.fb S.fc→∃ T,RAt a b c T∧T.red=true∧RIn a b c T.x1 T.x2 T.x3 T.x4 T.fa T.fb T.fc
 | 0,S,hk,_,hI=>by have:=hI.p;omega
 | k+1,S,hk,hA,hI=>by
  cases hr:S.red with
  | true=>exact ⟨S,hA,hr,hI⟩
  | false=>
   obtain ⟨hI2,h⟩:=hI.next ha hb hc hd hD
   have hA2:=hA.next hr
   rcases h with ⟨h,_⟩ | h
   ·exact ⟨_,hA2,h,hI2⟩
   ·have p1:=hI.p
    have p2:=hI2.p
    exact zRt ha hb hc hd hD k _ zm hA2 hI2
theorem zRr {a b c:Int} (ha:ab a<pw 5) (hb:ab b<pw 11) (hc:ab c<pw 24) (hd:b*b-4*(a*c)<0) (hD:ab (b*b-4*(a*c))<pw 20) (h0:0<a):RIn a b c (zC1 a b c).x1 (zC1 a b c).x2 (zC1 a b c).x3 (zC1 a b c).x4 (zC1 a b c).fa (zC1 a b c).fb (zC1 a b c).fc∧Rdf (zC1 a b c).fa (zC1 a b c).fb (zC1 a b c).fc:=by
 obtain ⟨T,hA,hr,hI⟩:=zRt ha hb hc hd hD a.natAbs _ (Nat.le_refl _) (RAt.zero a b c) (RIn.one h0 hb hc)
 rw [zM8 hA hr]
 exact ⟨hI,(zE0 hI.p).1 hr⟩
def Fq.red (R:RS):Fq:=Fq.tup3 (f3 R.fa R.fb R.fc) (Fq.st [.n R.x1,.n R.x2,.n R.x3,.n R.x4]) (Fq.is (.int .i64 0))
def redE (a b c:Int):Int:=if chkF a b c=0∧0<b*b-4*(a*c) then 5 else chkF a b c
section
variable {os : List Oper} {Q : Exit → Act → World → Prop} {a : Act} {p : Pq} {B B0 : Nat} {w0 : World}
variable {i s : Nat} {d : Option Tmp} {ty : TypeId} {ps : String} {af : Array Edge} {gd : Option (Nat × Bool)}
theorem zWv (hp:p.Ok B B0) (hF:p.Free i) (hg:GdQ os a p B B0 w0 af gd) (hC:∀ v w,(Fq.st [.n 0,.n 0,.n 0,.n 0]).P v w→(p.c i).P v w) :
  zAg os Q a p B B0 w0 i { dst:=d,op:=.build 67 #[],type:=ty,pos:=ps,after:=af,guard:=gd }:=by
 refine zBg hp hF hg fun L vs w hG hL hc hd=>?_
 refine ⟨.agg #[.bool false,.slice none 0 0,.bool false,.slice none 0 0,.bool false,.slice none 0 0,.bool false,.slice none 0 0],?_,hC _ _ ⟨_,rfl,_,_,_,rfl,Num.zero w,_,_,_,rfl,Num.zero w,_,_,_,rfl,Num.zero w,_,_,_,rfl,Num.zero w,rfl⟩⟩
 simp [execOp,go_sem]
end
theorem zLa {a b c:Int} (ha:ab a<pw 5) (hb:ab b<pw 5) (hc:ab c<pw 5):ab (b*b-4*(a*c))<pw 20:=
 zCm (zBu hb hb) (zBu (zAs (x:=4) zd zd) (zBu ha hc)) zm zm
theorem zOt:En 30:=zAe Tryz.func30 (by kernel_rfl) rfl
theorem zOv:En 140:=zAe Tryz.func140 (by kernel_rfl) rfl
theorem zOw:En 33:=zAe Tryz.func33 (by kernel_rfl) rfl
theorem zC6:En 27:=zAe Tryz.func27 (by kernel_rfl) rfl
theorem zOu:En 28:=zAe Tryz.func28 (by kernel_rfl) rfl
theorem zLj:En 106:=zAe Tryz.func106 (by kernel_rfl) rfl
theorem zF6:En 105:=zAe Tryz.func105 (by kernel_rfl) rfl
theorem zJm:En 26:=zAe Tryz.func26 (by kernel_rfl) rfl
theorem zTo:En 29:=zAe Tryz.func29 (by kernel_rfl) rfl
theorem zLk:En 75:=zAe Tryz.func75 (by kernel_rfl) rfl
theorem zOy:En 154:=zAe Tryz.func154 (by kernel_rfl) rfl
theorem zJn:En 68:=zAe Tryz.func68 (by kernel_rfl) rfl
theorem zOx:En 69:=zAe Tryz.func69 (by kernel_rfl) rfl
theorem zHv:En 70:=zAe Tryz.func70 (by kernel_rfl) rfl
theorem zDs {w:World} {v:Value} {z:Int} (h:Num w v z):Calls Tryz.prog 135 #[v] w fun e w'=>∃ v',e=.returned v'∧Below w.heap.size w w'∧v'=.bool true:=by
 obtain ⟨n,ao,k,c,rfl⟩:=h.parts
 refine (exValid h).mono ?_
 rintro e w' ⟨rfl,hb⟩
 exact ⟨_,rfl,hb,rfl⟩
theorem exPSqrt {n:Int} (h0:0≤n) (hn:ab n<pw 40):∃ s:Int,(∀ (w:World) (v:Value),Num w v n→Calls Tryz.prog 118 #[v] w fun e w'=>∃ v',e=.returned v'∧Below w.heap.size w w'∧(Fq.tup3 (Fq.num s) (Fq.num (n-s*s)) (Fq.is (.int .i64 0))).P v' w')∧sqB n=decide (n-s*s=0):=by
 obtain ⟨s,s0,s1,s2⟩:=isq_ex n.toNat
 have e:((n.toNat:Nat):Int)=n:=by omega
 rw [e] at s1 s2
 refine ⟨s,fun w v hv=>(SqrtV hv (Int.lt_of_lt_of_le hn (zAa zm))).mono fun e w' hh=>?_,zR7 s0 s1 s2⟩
 obtain ⟨hB,⟨h1,_⟩ | ⟨_,v1,v2,r,rfl,hr1,hr2,hr⟩⟩:=hh
 ·omega
 ·obtain ⟨q0,q1,q2⟩:=root_sq hr
  obtain rfl:r=s:=zL4 q0 q1 q2 s0 s1 s2
  have hbr:ab r<pw 40:=by
   have h4:=hn
   have h5:r≤r*r:=by
    rcases Int.lt_or_le 0 r with h | h
    ·have:=Int.mul_le_mul_of_nonneg_left (show 1≤r by omega) s0;omega
    ·have:=Int.mul_nonneg s0 s0;omega
   unfold ab at *
   generalize pw 40=k at *
   omega
  have hbr2:ab (n-r*r)<pw 40:=by
   have h4:=hn
   have:=Int.mul_nonneg s0 s0
   unfold ab at *
   generalize pw 40=k at *
   omega
  exact ⟨_,rfl,hB,v1,v2,_,rfl,zCq hr1 hbr zm,zCq hr2 hbr2 zm,rfl⟩
theorem exPSqrtN {w:World} {v:Value} {n:Int} (h:Num w v n) (hn:ab n<pw 40) (h0:n<0):Calls Tryz.prog 118 #[v] w fun e w'=>∃ v',e=.returned v'∧Below w.heap.size w w'∧(Fq.tup3 (Fq.num 0) (Fq.num 0) (Fq.is (.int .i64 1))).P v' w':=by
 refine (SqrtV h (Int.lt_of_lt_of_le hn (zAa zm))).mono fun e w' hh=>?_
 obtain ⟨hB,⟨_,rfl⟩ | ⟨h1,_⟩⟩:=hh
 ·exact ⟨_,rfl,hB,_,_,_,rfl,Num.zero w',Num.zero w',rfl⟩
 ·omega
theorem zLz {a b c:Int} (hd:b*b-4*(a*c)<0):a≠0:=by
 rintro rfl
 have:=zE4 b
 rw [Int.zero_mul] at hd
 omega
theorem cmpI_eq0 {x y:Int}:cmpI x y=0 ↔ x=y:=cmpIq0
theorem zRq (a b c:Int):dfB a b c=decide (redE a b c=0):=by
 unfold dfB redE
 by_cases hd:b*b-4*(a*c)<0
 ·rw [if_neg (fun x=>by omega)]
  by_cases hz:a<0
  ·rw [zOb hd hz,decide_eq_false zm];rfl
  ·rw [zK6 hd hz,decide_eq_true zm];rfl
 ·rw [zK7 hd,decide_eq_false zm]
  symm
  refine decide_eq_false ?_
  by_cases hq:sqB (b*b-4*(a*c))=true
  ·rw [if_pos hq,if_neg (fun x=>absurd x.1 zd)];decide
  ·rw [if_neg hq,if_pos ⟨rfl,by
    rcases Int.lt_or_le 0 (b*b-4*(a*c)) with h | h
    ·exact h
    ·exfalso
     have e:b*b-4*(a*c)=0:=by omega
     rw [e] at hq
     exact hq (sqB_iff.2 ⟨0,rfl⟩)⟩]
   decide
theorem zU8 {w:World} {v:Value} {n:Int} (h:Num w v n) (hn:ab n<pw 40) (hc:n<0) {t:Bool} (ht:sqB n=t) :
  Rt 70 #[v] w fun v' w'=>v'=.bool t:=by
 replace hn:=hidd hn
 have ht2:t=false:=ht.symm.trans (zIo hc)
 subst ht2
 clear ht
 have HC:=hidd hc
 clear hc
 obtain ⟨n0,ao0,k0,c0,rfl⟩:=h.parts
 obtain ⟨w1,b1,hw1,hb1,hs1,E⟩:=gN w 36 h
 go_enter Tryz.func70,Tryz.ntmps70
 go_upto_region 1 with (fail)
 rw [← hw1,← hb1]
 clear hw1 hb1 hs1
 refine rz [.n n,.w (Fq.tup3 (Fq.num 0) (Fq.num 0) (Fq.is (.int .i64 1))),.w (Fq.tup3 (Fq.num 0) (Fq.num 0) (Fq.is (.int .i64 1))),.n 0,.n 0,.i 1,.k,.k,.a,.a,.i 1] [none] [⟨6,8,2,Fq.num 0,Fq.num 0,none⟩,⟨7,9,2,Fq.num 0,Fq.num 0,none⟩] E (fun hp=>⟨lI 0 hp (mq 0 rfl) zw,zc hp zOk zi fun v w h=>exPSqrtN h hn.out HC.out,zS,zS,zS,zS,aN hp (mq 0 rfl),aN hp (mq 1 rfl),sN 3 hp (mq 0 rfl),sN 4 hp (mq 1 rfl),zS,tv⟩) ?_
 intro w2 b2_6 b2_7 E _ _
 simp only [Z1] at E ⊢
 clear HC
 go_upto_region 2 with (fail)
 refine rz [.i 1,.o,.o,.u (undef),.u (undef),.u (undef),.o,.o] N3 [] E (fun hp=>⟨zS,zo hp (sqi 0),zS,zS,zS,zS,zt hp (sqi 2) (zk (.bool false)),zS,tv⟩) ?_
 intro w3 E _ _
 simp only [Z1] at E ⊢
 clear hn
 go_wp2
 exact zR (v:=.bool false) (by simp [results,Tryz.results70,go_sem]) E.below rfl

theorem zU9 {w:World} {v:Value} {n:Int} (h:Num w v n) (hn:ab n<pw 40) (hc:¬ n<0) {t:Bool} (ht:sqB n=t) :
  Rt 70 #[v] w fun v' w'=>v'=.bool t:=by
 replace hn:=hidd hn
 obtain ⟨s,hS,hq⟩:=exPSqrt zm hn.out
 have HS:=hidd hS
 have ht3:t=decide (n-s*s=0):=ht.symm.trans hq
 clear hc hS hq ht
 have HT:Hid (t=decide (n-s*s=0)):=ht3
 clear ht3
 obtain ⟨n0,ao0,k0,c0,rfl⟩:=h.parts
 obtain ⟨w1,b1,hw1,hb1,hs1,E⟩:=gN w 36 h
 go_enter Tryz.func70,Tryz.ntmps70
 go_upto_region 1 with (fail)
 rw [← hw1,← hb1]
 clear hw1 hb1 hs1
 refine rz [.n n,.w (Fq.tup3 (Fq.num s) (Fq.num (n-s*s)) (Fq.is (.int .i64 0))),.w (Fq.tup3 (Fq.num s) (Fq.num (n-s*s)) (Fq.is (.int .i64 0))),.n s,.n (n-s*s),.i 0,.k,.k,.a,.a,.i 0] [none] [⟨6,8,2,Fq.num 0,Fq.num s,none⟩,⟨7,9,2,Fq.num 0,Fq.num (n-s*s),none⟩] E (fun hp=>⟨lI 0 hp (mq 0 rfl) zw,zc hp zOk zi fun v w h=>HS.out _ _ h,zS,zS,zS,zS,aN hp (mq 0 rfl),aN hp (mq 1 rfl),sN 3 hp (mq 0 rfl),sN 4 hp (mq 1 rfl),zS,tv⟩) ?_
 intro w2 b2_6 b2_7 E _ _
 simp only [Z1] at E ⊢
 go_upto_region 2 with (fail)
 by_cases hz:n-s*s=0
 ·have T2:Hid (cmpI (n-s*s) 0=0):=cmpIq0.2 hz
  have ht2:t=true:=HT.out.trans (decide_eq_true hz)
  subst ht2
  clear hz HT
  refine rz [.i 0,.t,.t,.n (n-s*s),.i (cmpI (n-s*s) 0),.t,.t,.t] N3 [] E (fun hp=>⟨zS,zo hp (sqi 0),zS,zAx (off:=0) hp fo gqi (mq 1 rfl) (.inl rfl) (Nat.le_of_ble_eq_true rfl) (sqo 4) (fun us w hl h=>zAw hl h),zc hp zAz zi (fun v w h=>zA0 h),zO hp (sqi 4) T2.out,zt hp (sqi 2) (sqi 5),zS,tv⟩) ?_
  intro w3 E _ _
  simp only [Z1] at E ⊢
  clear T2 HS
  clear hn
  go_wp2
  exact zR (v:=.bool true) (by simp [results,Tryz.results70,go_sem]) E.below rfl
 ·have T2:Hid (¬ cmpI (n-s*s) 0=0):=fun e=>hz (cmpIq0.1 e)
  have ht2:t=false:=HT.out.trans (decide_eq_false hz)
  subst ht2
  clear hz HT
  refine rz [.i 0,.t,.t,.n (n-s*s),.i (cmpI (n-s*s) 0),.o,.o,.o] N3 [] E (fun hp=>⟨zS,zo hp (sqi 0),zS,zAx (off:=0) hp fo gqi (mq 1 rfl) (.inl rfl) (Nat.le_of_ble_eq_true rfl) (sqo 4) (fun us w hl h=>zAw hl h),zc hp zAz zi (fun v w h=>zA0 h),zO hp (sqi 4) T2.out,zt hp (sqi 2) (sqi 5),zS,tv⟩) ?_
  intro w4 E _ _
  simp only [Z1] at E ⊢
  clear T2 HS
  clear hn
  go_wp2
  exact zR (v:=.bool false) (by simp [results,Tryz.results70,go_sem]) E.below rfl

theorem zHz {w:World} {v:Value} {n:Int} (h:Num w v n) (hn:ab n<pw 40) {t:Bool} (ht:sqB n=t) :
  Rt 70 #[v] w fun v' w'=>v'=.bool t:=by
 by_cases hc:n<0
 ·exact zU8 h hn hc ht
 ·exact zU9 h hn hc ht

theorem exPDisc0 {w:World} {v:Value} {a b c:Int} (h:(f3 a b c).P v w) (ha:ab a<pw 60) (hb:ab b<pw 60) (hc:ab c<pw 60) :
  Rt 27 #[v] w fun v' w'=>Num w' v' (((b*b)-((4)*(a*c)))):=by
 replace ha:=hidd ha
 replace hb:=hidd hb
 replace hc:=hidd hc
 obtain ⟨y0_p0,y0_q0,y0_p1,y0_q1,y0_p2,y0_q2,rfl,hF0⟩:=o3 h
 obtain ⟨w1,b1,hw1,hb1,hs1,E⟩:=gS w 38 hF0
 obtain ⟨w2,b2,hw2,hb2,hs2,E⟩:=fZ E hs1 36
 go_enter Tryz.func27,Tryz.ntmps27
 go_upto_region 1 with (fail)
 rw [← hw1,← hw2]
 rw [← hb2,← hb1]
 clear hw1 hw2 hb1 hb2 hs2 hs1
 have B3:Hid (ab ((4))<pw 3):=zB3 zd
 refine rz [.n (4),.k,.a] N2 [⟨1,2,2,Fq.num 0,Fq.num (4),none⟩] E (fun hp=>⟨zBn (F:=(Fq.is (.int .i64 4)).P) hp fo tv (zBv) (zAk (fun _=>rfl)) (fun v w h=>(by subst h;exact OfK w (4) zm zm)),aN hp (mq 0 rfl),sN 0 hp (mq 0 rfl),tv⟩) ?_
 intro w4 b4_1 E _ _
 simp only [Z1] at E ⊢
 go_upto_region 2 with (fail)
 have B5:Hid (ab ((b*b))<pw 120):=zAm hb.out hb.out zm
 have B6:Hid (ab ((a*c))<pw 120):=zAm ha.out hc.out zm
 have B7:Hid (ab (((4)*(a*c)))<pw 123):=zAm B3.out B6.out zm
 have B8:Hid (ab (((b*b)-((4)*(a*c))))<pw 124):=zCm B5.out B7.out zm zm
 refine rz [.p b1 2,.n b,.p b1 2,.n b,.n (b*b),.n (4),.p b1 0,.n a,.p b1 4,.n c,.n (a*c),.n ((4)*(a*c)),.n ((b*b)-((4)*(a*c))),.a] [none,some (13,Fq.num ((b*b)-((4)*(a*c)))),none] [] E (fun hp=>⟨qa b1 0 2 hp zw,lN 2 2 hp (mq 2 rfl) zAb zi,qa b1 0 2 hp zw,lN 2 2 hp (mq 2 rfl) zAb zi,zC hp zBh zi zi fun v v' w h h'=>exK (MulV h h') B5.out zm,lI 0 hp (mq 0 rfl) zw,qa b1 0 0 hp zw,lN 0 2 hp (mq 2 rfl) zAb zi,qa b1 0 4 hp zw,lN 4 2 hp (mq 2 rfl) zAb zi,zC hp zBh zi zi fun v v' w h h'=>exK (MulV h h') B6.out zm,zC hp zBh zi zi fun v v' w h h'=>exK (MulV h h') B7.out zm,zC hp zF4 zi zi fun v v' w h h'=>exK (SubV h h') B8.out zm,sP 12 hp (mq 1 rfl) zw,tv⟩) ?_
 intro w9 E _ _
 simp only [Z1] at E ⊢
 obtain ⟨p0_0,p0_1,c0_0,c0_1,hP0⟩:=zCg (E.box 1 rfl)
 clear B3 B5 B6 B7 B8 ha hb hc
 go_wp2
 exact zR (v:=.agg #[p0_0,p0_1]) (by simp [results,Tryz.results27,go_sem,c0_0,c0_1]) E.below hP0

theorem zC7 {w:World} {v:Value} {a b c:Int} (h:(f3 a b c).P v w) (ha:ab a<pw 60) (hb:ab b<pw 60) (hc:ab c<pw 60) :
  Rt 27 #[v] w fun v' w'=>Num w' v' (b*b-4*(a*c)):=exPDisc0 h ha hb hc

theorem zUv {w:World} {v:Value} {a b c:Int} (h:(f3 a b c).P v w) (ha:ab a<pw 40) (hb:ab b<pw 40) (hc:ab c<pw 40) (hD:ab (b*b-4*(a*c))<pw 40) (hq:sqB (b*b-4*(a*c))=true) :
  Rt 105 #[v] w fun v' w'=>v'=.int .i64 5:=by
 replace ha:=hidd ha
 replace hb:=hidd hb
 replace hc:=hidd hc
 have HQ:=hidd hq
 clear hq
 have HDB:=hidd hD
 clear hD
 obtain ⟨y0_p0,y0_q0,y0_p1,y0_q1,y0_p2,y0_q2,rfl,hF0⟩:=o3 h
 obtain ⟨w1,b1,hw1,hb1,hs1,E⟩:=gS w 38 hF0
 go_enter Tryz.func105,Tryz.ntmps105
 go_upto_region 1 with (fail)
 rw [← hw1,← hb1]
 clear hw1 hb1 hs1
 refine rz [.p b1 0,.n a,.t,.o,.o,.p b1 2,.n b,.t,.o,.o,.o,.p b1 4,.n c,.t,.o,.o] [none] [] E (fun hp=>⟨qa b1 0 0 hp zw,lN 0 2 hp (mq 0 rfl) zAb zi,zc hp zDr zi fun v w h=>zDs h,zo hp (sqi 2),zS,zg b1 0 2 hp zw,lG 2 2 hp gqi (mq 0 rfl) zAb zi fun v w h=>zAf h,zc hp zDr zi (fun v w h=>zDs h),zo hp (sqi 7),zt hp (sqi 4) (sqi 8),zS,zg b1 0 4 hp zw,lG 4 2 hp gqi (mq 0 rfl) zAb zi fun v w h=>zAf h,zc hp zDr zi (fun v w h=>zDs h),zo hp (sqi 13),zt hp (sqi 10) (sqi 14),tv⟩) ?_
 intro w2 E _ _
 simp only [Z1] at E ⊢
 go_upto_region 3 with (fail)
 refine rz [.w (f3 a b c),.n (b*b-4*(a*c)),.k,.a] [none] [⟨2,3,2,Fq.num 0,Fq.num (b*b-4*(a*c)),none⟩] E (fun hp=>⟨lS 0 6 hp (mq 0 rfl) zAd zw,zc hp zC6 zi fun v w h=>zC7 h (Int.lt_of_lt_of_le ha.out (zAa zm)) (Int.lt_of_lt_of_le hb.out (zAa zm)) (Int.lt_of_lt_of_le hc.out (zAa zm)),aN hp (mq 0 rfl),sN 1 hp (mq 0 rfl),tv⟩) ?_
 intro w3 b3_2 E _ _
 simp only [Z1] at E ⊢
 go_upto_region 4 with (fail)
 refine rz [.n (b*b-4*(a*c)),.t,.t] N2 [] E (fun hp=>⟨lI 0 hp (mq 0 rfl) zw,zc hp zHv zi fun v w h=>zHz h HDB.out HQ.out,zS,tv⟩) ?_
 intro w4 E _ _
 simp only [Z1] at E ⊢
 go_upto_region 5 with (fail)
 refine rz [.i 5] N2 [] E (fun hp=>⟨zS,tv⟩) ?_
 intro w5 E _ _
 simp only [Z1] at E ⊢
 clear HQ
 clear ha hb hc HDB
 go_wp2
 exact zR (v:=.int .i64 5) (by simp [results,Tryz.results105,go_sem]) E.below rfl

theorem zUu {w:World} {v:Value} {a b c:Int} (h:(f3 a b c).P v w) (ha:ab a<pw 40) (hb:ab b<pw 40) (hc:ab c<pw 40) (hD:ab (b*b-4*(a*c))<pw 40) (hq:sqB (b*b-4*(a*c))=false) (hd:(b*b-4*(a*c))<0) (hz:a<0) :
  Rt 105 #[v] w fun v' w'=>v'=.int .i64 1:=by
 replace ha:=hidd ha
 replace hb:=hidd hb
 replace hc:=hidd hc
 have HQ:=hidd hq
 clear hq
 have HDB:=hidd hD
 clear hD
 have T1:Hid (cmpI (b*b-4*(a*c)) 0<0):=cmpIqlt.2 hd
 clear hd
 have T2:Hid (cmpI a 0≤0):=by have:=cmpIqlt.2 hz;show _≤_;omega
 clear hz
 obtain ⟨y0_p0,y0_q0,y0_p1,y0_q1,y0_p2,y0_q2,rfl,hF0⟩:=o3 h
 obtain ⟨w1,b1,hw1,hb1,hs1,E⟩:=gS w 38 hF0
 go_enter Tryz.func105,Tryz.ntmps105
 go_upto_region 1 with (fail)
 rw [← hw1,← hb1]
 clear hw1 hb1 hs1
 refine rz [.p b1 0,.n a,.t,.o,.o,.p b1 2,.n b,.t,.o,.o,.o,.p b1 4,.n c,.t,.o,.o] [none] [] E (fun hp=>⟨qa b1 0 0 hp zw,lN 0 2 hp (mq 0 rfl) zAb zi,zc hp zDr zi fun v w h=>zDs h,zo hp (sqi 2),zS,zg b1 0 2 hp zw,lG 2 2 hp gqi (mq 0 rfl) zAb zi fun v w h=>zAf h,zc hp zDr zi (fun v w h=>zDs h),zo hp (sqi 7),zt hp (sqi 4) (sqi 8),zS,zg b1 0 4 hp zw,lG 4 2 hp gqi (mq 0 rfl) zAb zi fun v w h=>zAf h,zc hp zDr zi (fun v w h=>zDs h),zo hp (sqi 13),zt hp (sqi 10) (sqi 14),tv⟩) ?_
 intro w2 E _ _
 simp only [Z1] at E ⊢
 go_upto_region 3 with (fail)
 refine rz [.w (f3 a b c),.n (b*b-4*(a*c)),.k,.a] [none] [⟨2,3,2,Fq.num 0,Fq.num (b*b-4*(a*c)),none⟩] E (fun hp=>⟨lS 0 6 hp (mq 0 rfl) zAd zw,zc hp zC6 zi fun v w h=>zC7 h (Int.lt_of_lt_of_le ha.out (zAa zm)) (Int.lt_of_lt_of_le hb.out (zAa zm)) (Int.lt_of_lt_of_le hc.out (zAa zm)),aN hp (mq 0 rfl),sN 1 hp (mq 0 rfl),tv⟩) ?_
 intro w3 b3_2 E _ _
 simp only [Z1] at E ⊢
 go_upto_region 4 with (fail)
 refine rz [.n (b*b-4*(a*c)),.o,.o] N2 [] E (fun hp=>⟨lI 0 hp (mq 0 rfl) zw,zc hp zHv zi fun v w h=>zHz h HDB.out HQ.out,zS,tv⟩) ?_
 intro w4 E _ _
 simp only [Z1] at E ⊢
 go_upto_region 6 with (fail)
 refine rz [.n (b*b-4*(a*c)),.i (cmpI (b*b-4*(a*c)) 0),.t,.t,.p b1 0,.n a,.i (cmpI a 0),.t,.t,.t] N2 [] E (fun hp=>⟨lI 0 hp (mq 0 rfl) zw,zc hp zAz zi fun v w h=>zA0 h,zO hp (sqi 1) T1.out,zS,zg b1 0 0 hp zw,lG 0 2 hp gqi (mq 1 rfl) zAb zi fun v w h=>zAf h,zc hp zAz zi (fun v w h=>zA0 h),zO hp (sqi 6) T2.out,zt hp (sqi 3) (sqi 7),zS,tv⟩) ?_
 intro w5 E _ _
 simp only [Z1] at E ⊢
 go_upto_region 7 with (fail)
 refine rz [.i 1] N2 [] E (fun hp=>⟨zS,tv⟩) ?_
 intro w6 E _ _
 simp only [Z1] at E ⊢
 clear HQ T1 T2
 clear ha hb hc HDB
 go_wp2
 exact zR (v:=.int .i64 1) (by simp [results,Tryz.results105,go_sem]) E.below rfl

theorem zUs {w:World} {v:Value} {a b c:Int} (h:(f3 a b c).P v w) (ha:ab a<pw 40) (hb:ab b<pw 40) (hc:ab c<pw 40) (hD:ab (b*b-4*(a*c))<pw 40) (hq:sqB (b*b-4*(a*c))=false) (hd:(b*b-4*(a*c))<0) (hz:0<a) :
  Rt 105 #[v] w fun v' w'=>v'=.int .i64 0:=by
 replace ha:=hidd ha
 replace hb:=hidd hb
 replace hc:=hidd hc
 have HQ:=hidd hq
 clear hq
 have HDB:=hidd hD
 clear hD
 have T1:Hid (cmpI (b*b-4*(a*c)) 0<0):=cmpIqlt.2 hd
 clear hd
 have T2:Hid (¬ cmpI a 0≤0):=by have:=cmpIqgt.2 hz;show ¬ _≤_;omega
 clear hz
 obtain ⟨y0_p0,y0_q0,y0_p1,y0_q1,y0_p2,y0_q2,rfl,hF0⟩:=o3 h
 obtain ⟨w1,b1,hw1,hb1,hs1,E⟩:=gS w 38 hF0
 go_enter Tryz.func105,Tryz.ntmps105
 go_upto_region 1 with (fail)
 rw [← hw1,← hb1]
 clear hw1 hb1 hs1
 refine rz [.p b1 0,.n a,.t,.o,.o,.p b1 2,.n b,.t,.o,.o,.o,.p b1 4,.n c,.t,.o,.o] [none] [] E (fun hp=>⟨qa b1 0 0 hp zw,lN 0 2 hp (mq 0 rfl) zAb zi,zc hp zDr zi fun v w h=>zDs h,zo hp (sqi 2),zS,zg b1 0 2 hp zw,lG 2 2 hp gqi (mq 0 rfl) zAb zi fun v w h=>zAf h,zc hp zDr zi (fun v w h=>zDs h),zo hp (sqi 7),zt hp (sqi 4) (sqi 8),zS,zg b1 0 4 hp zw,lG 4 2 hp gqi (mq 0 rfl) zAb zi fun v w h=>zAf h,zc hp zDr zi (fun v w h=>zDs h),zo hp (sqi 13),zt hp (sqi 10) (sqi 14),tv⟩) ?_
 intro w2 E _ _
 simp only [Z1] at E ⊢
 go_upto_region 3 with (fail)
 refine rz [.w (f3 a b c),.n (b*b-4*(a*c)),.k,.a] [none] [⟨2,3,2,Fq.num 0,Fq.num (b*b-4*(a*c)),none⟩] E (fun hp=>⟨lS 0 6 hp (mq 0 rfl) zAd zw,zc hp zC6 zi fun v w h=>zC7 h (Int.lt_of_lt_of_le ha.out (zAa zm)) (Int.lt_of_lt_of_le hb.out (zAa zm)) (Int.lt_of_lt_of_le hc.out (zAa zm)),aN hp (mq 0 rfl),sN 1 hp (mq 0 rfl),tv⟩) ?_
 intro w3 b3_2 E _ _
 simp only [Z1] at E ⊢
 go_upto_region 4 with (fail)
 refine rz [.n (b*b-4*(a*c)),.o,.o] N2 [] E (fun hp=>⟨lI 0 hp (mq 0 rfl) zw,zc hp zHv zi fun v w h=>zHz h HDB.out HQ.out,zS,tv⟩) ?_
 intro w4 E _ _
 simp only [Z1] at E ⊢
 go_upto_region 6 with (fail)
 refine rz [.n (b*b-4*(a*c)),.i (cmpI (b*b-4*(a*c)) 0),.t,.t,.p b1 0,.n a,.i (cmpI a 0),.o,.o,.o] N2 [] E (fun hp=>⟨lI 0 hp (mq 0 rfl) zw,zc hp zAz zi fun v w h=>zA0 h,zO hp (sqi 1) T1.out,zS,zg b1 0 0 hp zw,lG 0 2 hp gqi (mq 1 rfl) zAb zi fun v w h=>zAf h,zc hp zAz zi (fun v w h=>zA0 h),zO hp (sqi 6) T2.out,zt hp (sqi 3) (sqi 7),zS,tv⟩) ?_
 intro w5 E _ _
 simp only [Z1] at E ⊢
 go_upto_region 8 with (fail)
 refine rz [.i 0] N2 [] E (fun hp=>⟨zS,tv⟩) ?_
 intro w6 E _ _
 simp only [Z1] at E ⊢
 clear HQ T1 T2
 clear ha hb hc HDB
 go_wp2
 exact zR (v:=.int .i64 0) (by simp [results,Tryz.results105,go_sem]) E.below rfl

theorem zUt {w:World} {v:Value} {a b c:Int} (h:(f3 a b c).P v w) (ha:ab a<pw 40) (hb:ab b<pw 40) (hc:ab c<pw 40) (hD:ab (b*b-4*(a*c))<pw 40) (hq:sqB (b*b-4*(a*c))=false) (hd:¬ (b*b-4*(a*c))<0) :
  Rt 105 #[v] w fun v' w'=>v'=.int .i64 0:=by
 replace ha:=hidd ha
 replace hb:=hidd hb
 replace hc:=hidd hc
 have HQ:=hidd hq
 clear hq
 have HDB:=hidd hD
 clear hD
 have T1:Hid (¬ cmpI (b*b-4*(a*c)) 0<0):=fun e=>hd (cmpIqlt.1 e)
 clear hd
 obtain ⟨y0_p0,y0_q0,y0_p1,y0_q1,y0_p2,y0_q2,rfl,hF0⟩:=o3 h
 obtain ⟨w1,b1,hw1,hb1,hs1,E⟩:=gS w 38 hF0
 go_enter Tryz.func105,Tryz.ntmps105
 go_upto_region 1 with (fail)
 rw [← hw1,← hb1]
 clear hw1 hb1 hs1
 refine rz [.p b1 0,.n a,.t,.o,.o,.p b1 2,.n b,.t,.o,.o,.o,.p b1 4,.n c,.t,.o,.o] [none] [] E (fun hp=>⟨qa b1 0 0 hp zw,lN 0 2 hp (mq 0 rfl) zAb zi,zc hp zDr zi fun v w h=>zDs h,zo hp (sqi 2),zS,zg b1 0 2 hp zw,lG 2 2 hp gqi (mq 0 rfl) zAb zi fun v w h=>zAf h,zc hp zDr zi (fun v w h=>zDs h),zo hp (sqi 7),zt hp (sqi 4) (sqi 8),zS,zg b1 0 4 hp zw,lG 4 2 hp gqi (mq 0 rfl) zAb zi fun v w h=>zAf h,zc hp zDr zi (fun v w h=>zDs h),zo hp (sqi 13),zt hp (sqi 10) (sqi 14),tv⟩) ?_
 intro w2 E _ _
 simp only [Z1] at E ⊢
 go_upto_region 3 with (fail)
 refine rz [.w (f3 a b c),.n (b*b-4*(a*c)),.k,.a] [none] [⟨2,3,2,Fq.num 0,Fq.num (b*b-4*(a*c)),none⟩] E (fun hp=>⟨lS 0 6 hp (mq 0 rfl) zAd zw,zc hp zC6 zi fun v w h=>zC7 h (Int.lt_of_lt_of_le ha.out (zAa zm)) (Int.lt_of_lt_of_le hb.out (zAa zm)) (Int.lt_of_lt_of_le hc.out (zAa zm)),aN hp (mq 0 rfl),sN 1 hp (mq 0 rfl),tv⟩) ?_
 intro w3 b3_2 E _ _
 simp only [Z1] at E ⊢
 go_upto_region 4 with (fail)
 refine rz [.n (b*b-4*(a*c)),.o,.o] N2 [] E (fun hp=>⟨lI 0 hp (mq 0 rfl) zw,zc hp zHv zi fun v w h=>zHz h HDB.out HQ.out,zS,tv⟩) ?_
 intro w4 E _ _
 simp only [Z1] at E ⊢
 go_upto_region 6 with (fail)
 refine rz [.n (b*b-4*(a*c)),.i (cmpI (b*b-4*(a*c)) 0),.o,.o,.u (undef),.u (undef),.u (undef),.u (undef),.o,.o] N2 [] E (fun hp=>⟨lI 0 hp (mq 0 rfl) zw,zc hp zAz zi fun v w h=>zA0 h,zO hp (sqi 1) T1.out,zS,zS,zS,zS,zS,zt hp (sqi 3) (zk (.bool false)),zS,tv⟩) ?_
 intro w5 E _ _
 simp only [Z1] at E ⊢
 go_upto_region 8 with (fail)
 refine rz [.i 0] N2 [] E (fun hp=>⟨zS,tv⟩) ?_
 intro w6 E _ _
 simp only [Z1] at E ⊢
 clear HQ T1
 clear ha hb hc HDB
 go_wp2
 exact zR (v:=.int .i64 0) (by simp [results,Tryz.results105,go_sem]) E.below rfl

theorem zF8 {w:World} {v:Value} {a b c:Int} (h:(f3 a b c).P v w) (ha:ab a<pw 40) (hb:ab b<pw 40) (hc:ab c<pw 40) (hD:ab (b*b-4*(a*c))<pw 40) {e0:Int} (he:chkF a b c=e0) :
  Rt 105 #[v] w fun v' w'=>v'=.int .i64 e0:=by
 subst he
 unfold chkF
 cases hq:sqB (b*b-4*(a*c)) with
 | true=>rw [if_pos rfl];exact zUv h ha hb hc hD hq
 | false=>
  rw [if_neg zd]
  by_cases hd:(b*b-4*(a*c))<0
  ·have hne:=zLz hd
   by_cases hz:a<0
   ·rw [if_pos ⟨hd,hz⟩];exact zUu h ha hb hc hD hq hd hz
   ·rw [if_neg fun x=>hz x.2];exact zUs h ha hb hc hD hq hd zm
  ·rw [if_neg fun x=>hd x.1];exact zUt h ha hb hc hD hq hd

theorem exPPrim0 {w:World} {v:Value} {a b c:Int} (h:(f3 a b c).P v w) (ha:ab a<pw 60) (hb:ab b<pw 60) (hc:ab c<pw 60) {t:Bool} (ht:decide ((Int.gcd (Int.gcd a b:Int) c:Int)=1)=t) :
  Rt 106 #[v] w fun v' w'=>v'=.bool t:=by
 replace ha:=hidd ha
 replace hb:=hidd hb
 replace hc:=hidd hc
 obtain ⟨y0_p0,y0_q0,y0_p1,y0_q1,y0_p2,y0_q2,rfl,hF0⟩:=o3 h
 obtain ⟨w1,b1,hw1,hb1,hs1,E⟩:=gS w 38 hF0
 go_enter Tryz.func106,Tryz.ntmps106
 go_upto_region 1 with (fail)
 rw [← hw1,← hb1]
 clear hw1 hb1 hs1
 have HT:=hidd ht
 clear ht
 have B2:Hid (ab ((Int.gcd a b:Int))<pw 60):=zIw ha.out hb.out zm zm
 have B3:Hid (ab ((Int.gcd (Int.gcd a b:Int) c:Int))<pw 60):=zIw B2.out hc.out zm zm
 refine rz [.p b1 0,.n a,.p b1 2,.n b,.n (Int.gcd a b:Int),.p b1 4,.n c,.n (Int.gcd (Int.gcd a b:Int) c:Int),.k,.a] [none] [⟨8,9,2,Fq.num 0,Fq.num (Int.gcd (Int.gcd a b:Int) c:Int),none⟩] E (fun hp=>⟨qa b1 0 0 hp zw,lN 0 2 hp (mq 0 rfl) zAb zi,qa b1 0 2 hp zw,lN 2 2 hp (mq 0 rfl) zAb zi,zC hp enq_Gcd zi zi fun v v' w h h'=>exK (GcdV h h') B2.out zm,qa b1 0 4 hp zw,lN 4 2 hp (mq 0 rfl) zAb zi,zC hp enq_Gcd zi zi fun v v' w h h'=>exK (GcdV h h') B3.out zm,aN hp (mq 0 rfl),sN 7 hp (mq 0 rfl),tv⟩) ?_
 intro w4 b4_8 E _ _
 simp only [Z1] at E ⊢
 go_upto_region 2 with (fail)
 by_cases hz:(Int.gcd (Int.gcd a b:Int) c:Int)=1
 ·have T2:Hid (cmpI (Int.gcd (Int.gcd a b:Int) c:Int) 1=0):=cmpIq0.2 hz
  have ht2:t=true:=HT.out.symm.trans (decide_eq_true hz)
  subst ht2
  clear hz HT
  have B5:Hid (ab ((1))<pw 3):=zB3 zd
  refine rz [.n (Int.gcd (Int.gcd a b:Int) c:Int),.n (1),.i (cmpI (Int.gcd (Int.gcd a b:Int) c:Int) (1)),.t,.t] N2 [] E (fun hp=>⟨lI 0 hp (mq 0 rfl) zw,zBn (F:=(Fq.is (.int .i64 1)).P) hp fo tv (zBv) (zAk (fun _=>rfl)) (fun v w h=>(by subst h;exact OfK w (1) zm zm)),zC hp zA5 zi zi fun v v' w h h'=>zA6 h h',zO hp (sqi 2) T2.out,zS,tv⟩) ?_
  intro w6 E _ _
  simp only [Z1] at E ⊢
  clear T2
  clear B2 B3 B5 ha hb hc
  go_wp2
  exact zR (v:=.bool true) (by simp [results,Tryz.results106,go_sem]) E.below rfl
 ·have T2:Hid (¬ cmpI (Int.gcd (Int.gcd a b:Int) c:Int) 1=0):=fun e=>hz (cmpIq0.1 e)
  have ht2:t=false:=HT.out.symm.trans (decide_eq_false hz)
  subst ht2
  clear hz HT
  have B7:Hid (ab ((1))<pw 3):=zB3 zd
  refine rz [.n (Int.gcd (Int.gcd a b:Int) c:Int),.n (1),.i (cmpI (Int.gcd (Int.gcd a b:Int) c:Int) (1)),.o,.o] N2 [] E (fun hp=>⟨lI 0 hp (mq 0 rfl) zw,zBn (F:=(Fq.is (.int .i64 1)).P) hp fo tv (zBv) (zAk (fun _=>rfl)) (fun v w h=>(by subst h;exact OfK w (1) zm zm)),zC hp zA5 zi zi fun v v' w h h'=>zA6 h h',zO hp (sqi 2) T2.out,zS,tv⟩) ?_
  intro w8 E _ _
  simp only [Z1] at E ⊢
  clear T2
  clear B2 B3 B7 ha hb hc
  go_wp2
  exact zR (v:=.bool false) (by simp [results,Tryz.results106,go_sem]) E.below rfl

theorem zLv {w:World} {v:Value} {a b c:Int} (h:(f3 a b c).P v w) (ha:ab a<pw 60) (hb:ab b<pw 60) (hc:ab c<pw 60) {t:Bool} (ht:decide (cont a b c=1)=t) :
  Rt 106 #[v] w fun v' w'=>v'=.bool t:=exPPrim0 h ha hb hc ht

theorem exPValue0 {w:World} {v v' u:Value} {a b c x y:Int} (h:(f3 a b c).P v w) (h':Num w v' x) (g:Num w u y) (ha:ab a<pw 60) (hb:ab b<pw 60) (hc:ab c<pw 60) (hx:ab x<pw 60) (hy:ab y<pw 60) :
  Rt 33 #[v,v',u] w fun v' w'=>Num w' v' (((((a*x)+(b*y))*x)+((c*y)*y))):=by
 replace ha:=hidd ha
 replace hb:=hidd hb
 replace hc:=hidd hc
 replace hx:=hidd hx
 replace hy:=hidd hy
 obtain ⟨y0_p0,y0_q0,y0_p1,y0_q1,y0_p2,y0_q2,rfl,hF0⟩:=o3 h
 obtain ⟨n1,ao1,k1,c1,rfl⟩:=h'.parts
 obtain ⟨n2,ao2,k2,c2,rfl⟩:=g.parts
 obtain ⟨w1,b1,hw1,hb1,hs1,E⟩:=gS w 38 hF0
 obtain ⟨w2,b2,hw2,hb2,hs2,E⟩:=fN E hs1 36 h'
 obtain ⟨w3,b3,hw3,hb3,hs3,E⟩:=zC8 E hs2 (F:=Fq.num y) (us:=[.bool n2,.slice ao2 k2 c2]) 36 rfl (by simp) (zB8 _ _ _ _) (g.mono E.below)
 obtain ⟨w4,b4,hw4,hb4,hs4,E⟩:=fZ E hs3 36
 go_enter Tryz.func33,Tryz.ntmps33
 go_upto_region 1 with (fail)
 rw [← hw1,← hw2]
 rw [← hw3,← hw4]
 rw [← hb4,← hb3]
 rw [← hb2,← hb1]
 clear hw1 hw2 hw3 hw4 hb1 hb2 hb3 hb4 hs4 hs1 hs2 hs3
 have B5:Hid (ab ((a*x))<pw 120):=zAm ha.out hx.out zm
 have B6:Hid (ab ((b*y))<pw 120):=zAm hb.out hy.out zm
 have B7:Hid (ab (((a*x)+(b*y)))<pw 121):=zBd B5.out B6.out zm zm
 refine rz [.p b1 0,.n a,.n x,.n (a*x),.p b1 2,.n b,.n y,.n (b*y),.n ((a*x)+(b*y)),.k,.a] N4 [⟨9,10,2,Fq.num 0,Fq.num ((a*x)+(b*y)),none⟩] E (fun hp=>⟨qa b1 0 0 hp zw,lN 0 2 hp (mq 3 rfl) zAb zi,lI 0 hp (mq 2 rfl) zw,zC hp zBh zi zi fun v v' w h h'=>exK (MulV h h') B5.out zm,qa b1 0 2 hp zw,lN 2 2 hp (mq 3 rfl) zAb zi,lI 0 hp (mq 1 rfl) zw,zC hp zBh zi zi fun v v' w h h'=>exK (MulV h h') B6.out zm,zC hp zC5 zi zi fun v v' w h h'=>exK (AddV h h') B7.out zm,aN hp (mq 0 rfl),sN 8 hp (mq 0 rfl),tv⟩) ?_
 intro w8 b8_9 E _ _
 simp only [Z1] at E ⊢
 go_upto_region 2 with (fail)
 have B9:Hid (ab ((((a*x)+(b*y))*x))<pw 181):=zAm B7.out hx.out zm
 have B10:Hid (ab ((c*y))<pw 120):=zAm hc.out hy.out zm
 have B11:Hid (ab (((c*y)*y))<pw 180):=zAm B10.out hy.out zm
 have B12:Hid (ab (((((a*x)+(b*y))*x)+((c*y)*y)))<pw 182):=zBd B9.out B11.out zm zm
 refine rz [.n ((a*x)+(b*y)),.n x,.n (((a*x)+(b*y))*x),.p b1 4,.n c,.n y,.n (c*y),.n y,.n ((c*y)*y),.n ((((a*x)+(b*y))*x)+((c*y)*y)),.a] [none,some (10,Fq.num ((((a*x)+(b*y))*x)+((c*y)*y))),none,none,none] [] E (fun hp=>⟨lI 0 hp (mq 0 rfl) zw,lI 0 hp (mq 3 rfl) zw,zC hp zBh zi zi fun v v' w h h'=>exK (MulV h h') B9.out zm,qa b1 0 4 hp zw,lN 4 2 hp (mq 4 rfl) zAb zi,lI 0 hp (mq 2 rfl) zw,zC hp zBh zi zi fun v v' w h h'=>exK (MulV h h') B10.out zm,lI 0 hp (mq 2 rfl) zw,zC hp zBh zi zi fun v v' w h h'=>exK (MulV h h') B11.out zm,zC hp zC5 zi zi fun v v' w h h'=>exK (AddV h h') B12.out zm,sP 9 hp (mq 1 rfl) zw,tv⟩) ?_
 intro w13 E _ _
 simp only [Z1] at E ⊢
 obtain ⟨p0_0,p0_1,c0_0,c0_1,hP0⟩:=zCg (E.box 1 rfl)
 clear B5 B6 B7 B9 B10 B11 B12 ha hb hc hx hy
 go_wp2
 exact zR (v:=.agg #[p0_0,p0_1]) (by simp [results,Tryz.results33,go_sem,c0_0,c0_1]) E.below hP0

theorem qv_eqP (a b c x y:Int):qv a b c x y=((((a*x)+(b*y))*x)+((c*y)*y)):=by
 unfold qv
 rw [Int.add_mul,Int.mul_assoc,Int.mul_assoc,Int.mul_assoc,Int.mul_comm y x]
theorem zPk {w:World} {v v' u:Value} {a b c x y:Int} (h:(f3 a b c).P v w) (h':Num w v' x) (g:Num w u y) (ha:ab a<pw 60) (hb:ab b<pw 60) (hc:ab c<pw 60) (hx:ab x<pw 60) (hy:ab y<pw 60) :
  Rt 33 #[v,v',u] w fun v' w'=>Num w' v' (qv a b c x y):=by
 rw [qv_eqP]
 exact exPValue0 h h' g ha hb hc hx hy

theorem exPTwice0 {w:World} {v:Value} {z:Int} (h:Num w v z) (hz:ab z<pw 600) :
  Rt 75 #[v] w fun v' w'=>Num w' v' ((z+z)):=by
 replace hz:=hidd hz
 obtain ⟨n0,ao0,k0,c0,rfl⟩:=h.parts
 obtain ⟨w1,b1,hw1,hb1,hs1,E⟩:=gN w 36 h
 obtain ⟨w2,b2,hw2,hb2,hs2,E⟩:=fZ E hs1 36
 go_enter Tryz.func75,Tryz.ntmps75
 go_upto_region 1 with (fail)
 rw [← hw1,← hw2]
 rw [← hb2,← hb1]
 clear hw1 hw2 hb1 hb2 hs2 hs1
 have B3:Hid (ab ((z+z))<pw 601):=zBd hz.out hz.out zm zm
 refine rz [.n z,.n z,.n (z+z),.a] [some (3,Fq.num (z+z)),none] [] E (fun hp=>⟨lI 0 hp (mq 1 rfl) zw,lI 0 hp (mq 1 rfl) zw,zC hp zC5 zi zi fun v v' w h h'=>exK (AddV h h') B3.out zm,sP 2 hp (mq 0 rfl) zw,tv⟩) ?_
 intro w4 E _ _
 simp only [Z1] at E ⊢
 obtain ⟨p0_0,p0_1,c0_0,c0_1,hP0⟩:=zCg (E.box 0 rfl)
 clear B3 hz
 go_wp2
 exact zR (v:=.agg #[p0_0,p0_1]) (by simp [results,Tryz.results75,go_sem,c0_0,c0_1]) E.below hP0

theorem zLw {w:World} {v:Value} {z:Int} (h:Num w v z) (hz:ab z<pw 600):Calls Tryz.prog 75 #[v] w fun e w'=>∃ v',e=.returned v'∧Below w.heap.size w w'∧Num w' v' (2*z):=by
 have e:2*z=(z+z):=by omega
 rw [e]
 exact exPTwice0 h hz

theorem exPApply0 {w:World} {v v':Value} {a b c x1 x2 x3 x4:Int} (h:(f3 a b c).P v w) (h':(Fq.st [.n x1,.n x2,.n x3,.n x4]).P v' w) (ha:ab a<pw 60) (hb:ab b<pw 60) (hc:ab c<pw 60) (hx1:ab x1<pw 60) (hx2:ab x2<pw 60) (hx3:ab x3<pw 60) (hx4:ab x4<pw 60) :
  Rt 30 #[v,v'] w fun v' w'=>(Fq.st [.n (qv a b c x1 x3),.n (((((2*(a*x1))+(b*x3))*x2)+(((b*x1)+(2*(c*x3)))*x4))),.n (qv a b c x2 x4)]).P v' w':=by
 replace ha:=hidd ha
 replace hb:=hidd hb
 replace hc:=hidd hc
 replace hx1:=hidd hx1
 replace hx2:=hidd hx2
 replace hx3:=hidd hx3
 replace hx4:=hidd hx4
 obtain ⟨y0_p0,y0_q0,y0_p1,y0_q1,y0_p2,y0_q2,rfl,hF0⟩:=o3 h
 obtain ⟨_,rfl,hf1⟩:=h'
 have hF1:=hf1
 obtain ⟨y1_p0,y1_q0,_,rfl,_y1_n0,y1_p1,y1_q1,_,rfl,_y1_n1,y1_p2,y1_q2,_,rfl,_y1_n2,y1_p3,y1_q3,_,rfl,_y1_n3,rfl⟩:=hf1
 obtain ⟨w1,b1,hw1,hb1,hs1,E⟩:=gS w 38 hF0
 obtain ⟨w2,b2,hw2,hb2,hs2,E⟩:=fS E hs1 67 hF1
 obtain ⟨w3,b3,hw3,hb3,hs3,E⟩:=fO E hs2 38 zAu
 go_enter Tryz.func30,Tryz.ntmps30
 go_upto_region 1 with (fail)
 rw [← hw1,← hw2]
 rw [← hw3,← hb3]
 rw [← hb2,← hb1]
 clear hw1 hw2 hw3 hb1 hb2 hb3 hs3 hs1 hs2
 have B4:Hid (ab ((a*x1))<pw 120):=zAm ha.out hx1.out zm
 have B5:Hid (ab ((2*(a*x1)))<pw 123):=Int.lt_of_lt_of_le (zBu (zAs (x:=2) zd zd) B4.out) (zAa zm)
 have B6:Hid (ab ((b*x3))<pw 120):=zAm hb.out hx3.out zm
 have B7:Hid (ab (((2*(a*x1))+(b*x3)))<pw 124):=zBd B5.out B6.out zm zm
 refine rz [.p b1 0,.n a,.p b2 0,.n x1,.n (a*x1),.n (2*(a*x1)),.p b1 2,.n b,.p b2 4,.n x3,.n (b*x3),.n ((2*(a*x1))+(b*x3)),.k,.a] N3 [⟨12,13,2,Fq.num 0,Fq.num ((2*(a*x1))+(b*x3)),none⟩] E (fun hp=>⟨qa b1 0 0 hp zw,lN 0 2 hp (mq 2 rfl) zAb zi,qa b2 0 0 hp zw,lN 0 2 hp (mq 1 rfl) zAb zi,zC hp zBh zi zi fun v v' w h h'=>exK (MulV h h') B4.out zm,zc hp zLk zi fun v w h=>zLw h (Int.lt_of_lt_of_le B4.out (zAa zm)),qa b1 0 2 hp zw,lN 2 2 hp (mq 2 rfl) zAb zi,qa b2 0 4 hp zw,lN 4 2 hp (mq 1 rfl) zAb zi,zC hp zBh zi zi fun v v' w h h'=>exK (MulV h h') B6.out zm,zC hp zC5 zi zi fun v v' w h h'=>exK (AddV h h') B7.out zm,aN hp (mq 0 rfl),sN 11 hp (mq 0 rfl),tv⟩) ?_
 intro w8 b8_12 E _ _
 simp only [Z1] at E ⊢
 go_upto_region 2 with (fail)
 have B9:Hid (ab ((b*x1))<pw 120):=zAm hb.out hx1.out zm
 have B10:Hid (ab ((c*x3))<pw 120):=zAm hc.out hx3.out zm
 have B11:Hid (ab ((2*(c*x3)))<pw 123):=Int.lt_of_lt_of_le (zBu (zAs (x:=2) zd zd) B10.out) (zAa zm)
 have B12:Hid (ab (((b*x1)+(2*(c*x3))))<pw 124):=zBd B9.out B11.out zm zm
 refine rz [.p b1 2,.n b,.p b2 0,.n x1,.n (b*x1),.p b1 4,.n c,.p b2 4,.n x3,.n (c*x3),.n (2*(c*x3)),.n ((b*x1)+(2*(c*x3))),.k,.a] N4 [⟨12,13,2,Fq.num 0,Fq.num ((b*x1)+(2*(c*x3))),none⟩] E (fun hp=>⟨qa b1 0 2 hp zw,lN 2 2 hp (mq 3 rfl) zAb zi,qa b2 0 0 hp zw,lN 0 2 hp (mq 2 rfl) zAb zi,zC hp zBh zi zi fun v v' w h h'=>exK (MulV h h') B9.out zm,qa b1 0 4 hp zw,lN 4 2 hp (mq 3 rfl) zAb zi,qa b2 0 4 hp zw,lN 4 2 hp (mq 2 rfl) zAb zi,zC hp zBh zi zi fun v v' w h h'=>exK (MulV h h') B10.out zm,zc hp zLk zi fun v w h=>zLw h (Int.lt_of_lt_of_le B10.out (zAa zm)),zC hp zC5 zi zi fun v v' w h h'=>exK (AddV h h') B12.out zm,aN hp (mq 0 rfl),sN 11 hp (mq 0 rfl),tv⟩) ?_
 intro w13 b13_12 E _ _
 simp only [Z1] at E ⊢
 go_upto_region 3 with (fail)
 have B14:Hid (ab ((((2*(a*x1))+(b*x3))*x2))<pw 184):=zAm B7.out hx2.out zm
 have B15:Hid (ab ((((b*x1)+(2*(c*x3)))*x4))<pw 184):=zAm B12.out hx4.out zm
 have B16:Hid (ab (((((2*(a*x1))+(b*x3))*x2)+(((b*x1)+(2*(c*x3)))*x4)))<pw 185):=zBd B14.out B15.out zm zm
 refine rz [.w (f3 a b c),.p b2 0,.n x1,.p b2 4,.n x3,.n (qv a b c x1 x3),.n ((2*(a*x1))+(b*x3)),.p b2 2,.n x2,.n (((2*(a*x1))+(b*x3))*x2),.n ((b*x1)+(2*(c*x3))),.p b2 6,.n x4,.n (((b*x1)+(2*(c*x3)))*x4),.n ((((2*(a*x1))+(b*x3))*x2)+(((b*x1)+(2*(c*x3)))*x4)),.w (f3 a b c),.p b2 2,.n x2,.p b2 6,.n x4,.n (qv a b c x2 x4),.w (Fq.st [.n (qv a b c x1 x3),.n ((((2*(a*x1))+(b*x3))*x2)+(((b*x1)+(2*(c*x3)))*x4)),.n (qv a b c x2 x4)]),.a] [none,none,some (22,Fq.st [.n (qv a b c x1 x3),.n ((((2*(a*x1))+(b*x3))*x2)+(((b*x1)+(2*(c*x3)))*x4)),.n (qv a b c x2 x4)]),none,none] [] E (fun hp=>⟨lS 0 6 hp (mq 4 rfl) zAd zw,qa b2 0 0 hp zw,lN 0 2 hp (mq 3 rfl) zAb zi,qa b2 0 4 hp zw,lN 4 2 hp (mq 3 rfl) zAb zi,zEx (F:=(f3 a b c).P) (G:=(Fq.num x1).P) (F3:=(Fq.num x3).P) hp fo tv (zOw) (sqi 0) (sqi 2) (sqi 4) (fun v v' u w h h' g=>zPk h h' g ha.out hb.out hc.out hx1.out hx3.out),lI 0 hp (mq 1 rfl) zw,qa b2 0 2 hp zw,lN 2 2 hp (mq 3 rfl) zAb zi,zC hp zBh zi zi fun v v' w h h'=>exK (MulV h h') B14.out zm,lI 0 hp (mq 0 rfl) zw,qa b2 0 6 hp zw,lN 6 2 hp (mq 3 rfl) zAb zi,zC hp zBh zi zi fun v v' w h h'=>exK (MulV h h') B15.out zm,zC hp zC5 zi zi fun v v' w h h'=>exK (AddV h h') B16.out zm,lS 0 6 hp (mq 4 rfl) zAd zw,qa b2 0 2 hp zw,lN 2 2 hp (mq 3 rfl) zAb zi,qa b2 0 6 hp zw,lN 6 2 hp (mq 3 rfl) zAb zi,zEx (F:=(f3 a b c).P) (G:=(Fq.num x2).P) (F3:=(Fq.num x4).P) hp fo tv (zOw) (sqi 15) (sqi 17) (sqi 19) (fun v v' u w h h' g=>zPk h h' g ha.out hb.out hc.out hx2.out hx4.out),zFo (z0:=(qv a b c x1 x3)) (z1:=((((2*(a*x1))+(b*x3))*x2)+(((b*x1)+(2*(c*x3)))*x4))) (z2:=(qv a b c x2 x4)) hp fo tv (sqi 5) (sqi 14) (sqi 20) (fun v w h=>h),sO 0 21 hp (mq 2 rfl) zAo zw,tv⟩) ?_
 intro w17 E _ _
 simp only [Z1] at E ⊢
 obtain ⟨_,_,hc0,hf0⟩:=zAy (E.box 2 rfl)
 have hP0:=hf0
 obtain ⟨r0_p0,r0_q0,_,rfl,_r0_n0,r0_p1,r0_q1,_,rfl,_r0_n1,r0_p2,r0_q2,_,rfl,_r0_n2,rfl⟩:=hf0
 have c0_z:=c6 hc0
 simp only [List.getD_cons_zero,List.getD_cons_succ] at c0_z
 clear hc0
 clear B4 B5 B6 B7 B9 B10 B11 B12 B14 B15 B16 ha hb hc hx1 hx2 hx3 hx4
 go_wp2
 exact zR (v:=.agg #[r0_p0,r0_q0,r0_p1,r0_q1,r0_p2,r0_q2]) (by simp [results,Tryz.results30,go_sem,c0_z]) E.below ⟨_,rfl,hP0⟩

theorem qm_eqP (a b c x1 x2 x3 x4:Int):qm a b c x1 x2 x3 x4=((((2*(a*x1))+(b*x3))*x2)+(((b*x1)+(2*(c*x3)))*x4)):=by
 have h:=PE.same [a,b,c,x1,x2,x3,x4] (.a (.m (.c 2) (.a (.m (.v 0) (.m (.v 3) (.v 4))) (.m (.v 2) (.m (.v 5) (.v 6))))) (.m (.v 1) (.a (.m (.v 3) (.v 6)) (.m (.v 4) (.v 5))))) (.a (.m (.a (.m (.c 2) (.m (.v 0) (.v 3))) (.m (.v 1) (.v 5))) (.v 4)) (.m (.a (.m (.v 1) (.v 3)) (.m (.c 2) (.m (.v 2) (.v 5)))) (.v 6))) (by decide +kernel)
 simp only [PE.den,List.getD_cons_zero,List.getD_cons_succ] at h
 exact h
theorem zPe {w:World} {v v':Value} {a b c x1 x2 x3 x4:Int} (h:(f3 a b c).P v w) (h':(Fq.st [.n x1,.n x2,.n x3,.n x4]).P v' w) (ha:ab a<pw 60) (hb:ab b<pw 60) (hc:ab c<pw 60) (hx1:ab x1<pw 60) (hx2:ab x2<pw 60) (hx3:ab x3<pw 60) (hx4:ab x4<pw 60) :
  Rt 30 #[v,v'] w fun v' w'=>(f3 (qv a b c x1 x3) (qm a b c x1 x2 x3 x4) (qv a b c x2 x4)).P v' w':=by
 rw [qm_eqP]
 exact exPApply0 h h' ha hb hc hx1 hx2 hx3 hx4

theorem zVa {w:World} {v:Value} {d:Int} (h:Num w v d) (hd:ab d<pw 40) (hr:¬ 1<d % 4) (hq:sqB d=false) :
  Rt 26 #[v] w fun v' w'=>(Fq.tup2 (f3 1 (d % 4) (-(d/4))) (Fq.is (.int .i64 0))).P v' w':=by
 replace hd:=hidd hd
 have HR4:Hid (0≤d % 4∧d % 4<4):=by show _∧_;omega
 have BR:Hid (ab (d % 4)<pw 3):=zAs zm zm
 have H4:Hid ((4:Int)≠0):=by show _≠_;decide
 have T1:Hid (¬ 0<cmpI (d % 4) 1):=fun e=>hr (cmpIqgt.1 e)
 clear hr
 have HQ:=hidd hq
 clear hq
 obtain ⟨n0,ao0,k0,c0,rfl⟩:=h.parts
 obtain ⟨w1,b1,hw1,hb1,hs1,E⟩:=gN w 36 h
 obtain ⟨w2,b2,hw2,hb2,hs2,E⟩:=fO E hs1 38 zAu
 go_enter Tryz.func26,Tryz.ntmps26
 go_upto_region 1 with (fail)
 rw [← hw1,← hw2]
 rw [← hb2,← hb1]
 clear hw1 hw2 hb1 hb2 hs2 hs1
 have B3:Hid (ab ((4))<pw 3):=zB3 zd
 have B4:Hid (ab ((d/4))<pw 41):=zDp hd.out zm
 refine rz [.n d,.n (4),.w (Fq.tup3 (Fq.num (d/4)) (Fq.num (d % 4)) (Fq.is (.int .i64 0))),.w (Fq.tup3 (Fq.num (d/4)) (Fq.num (d % 4)) (Fq.is (.int .i64 0))),.n (d/4),.n (d % 4),.i 0,.k,.k,.a,.a,.i 0] N2 [⟨7,9,2,Fq.num 0,Fq.num (d/4),none⟩,⟨8,10,2,Fq.num 0,Fq.num (d % 4),none⟩] E (fun hp=>⟨lI 0 hp (mq 1 rfl) zw,zBn (F:=(Fq.is (.int .i64 4)).P) hp fo tv (zBv) (zAk (fun _=>rfl)) (fun v w h=>(by subst h;exact OfK w (4) zm zm)),zC hp zE7 zi zi fun v v' w h h'=>zE8 h h' H4.out B4.out BR.out zm zm,zS,zS,zS,zS,aN hp (mq 0 rfl),aN hp (mq 1 rfl),sN 4 hp (mq 0 rfl),sN 5 hp (mq 1 rfl),zS,tv⟩) ?_
 intro w5 b5_7 b5_8 E _ _
 simp only [Z1] at E ⊢
 go_upto_region 2 with (fail)
 have B6:Hid (ab ((1))<pw 3):=zB3 zd
 refine rz [.n (d % 4),.n (1),.i (cmpI (d % 4) (1)),.o,.o,.n d,.o,.o] N4 [] E (fun hp=>⟨lI 0 hp (mq 1 rfl) zw,zBn (F:=(Fq.is (.int .i64 1)).P) hp fo tv (zBv) (zAk (fun _=>rfl)) (fun v w h=>(by subst h;exact OfK w (1) zm zm)),zC hp zA5 zi zi fun v v' w h h'=>zA6 h h',zO hp (sqi 2) T1.out,zS,zAx (off:=0) hp fo gqi (mq 3 rfl) (.inl rfl) (Nat.le_of_ble_eq_true rfl) (sqo 1) (fun us w hl h=>zAw hl h),zc hp zHv zi (fun v w h=>zHz h hd.out HQ.out),zt hp (sqi 4) (sqi 6),tv⟩) ?_
 intro w7 E _ _
 simp only [Z1] at E ⊢
 go_upto_region 4 with (fail)
 have B8:Hid (ab ((-(d/4)))<pw 41):=zK0 B4.out
 refine rz [.n (1),.n (d % 4),.n (d/4),.n (-(d/4)),.w (f3 (1) (d % 4) (-(d/4))),.a,.i 0] [none,none,some (5,f3 (1) (d % 4) (-(d/4))),none] [] E (fun hp=>⟨zBn (F:=(Fq.is (.int .i64 1)).P) hp fo tv (zBv) (zAk (fun _=>rfl)) (fun v w h=>(by subst h;exact OfK w (1) zm zm)),lI 0 hp (mq 1 rfl) zw,lI 0 hp (mq 0 rfl) zw,zc hp enq_Neg zi fun v w h=>exK (NegV h) B8.out zm,zFo (z0:=(1)) (z1:=(d % 4)) (z2:=(-(d/4))) hp fo tv (sqi 0) (sqi 1) (sqi 3) (fun v w h=>h),sO 0 4 hp (mq 2 rfl) zAo zw,zS,tv⟩) ?_
 intro w9 E _ _
 simp only [Z1] at E ⊢
 clear HR4 H4 HQ T1
 obtain ⟨_,_,hcc,hff⟩:=zAy (E.box 2 rfl)
 have hR2:=hff
 obtain ⟨r_p0,r_q0,_,rfl,_r_n0,r_p1,r_q1,_,rfl,_r_n1,r_p2,r_q2,_,rfl,_r_n2,rfl⟩:=hff
 have cz:=c6 hcc
 simp only [List.getD_cons_zero,List.getD_cons_succ] at cz
 clear hcc
 clear B3 B4 B6 B8 hd BR
 go_wp2
 exact zR (v:=.tuple #[.agg #[r_p0,r_q0,r_p1,r_q1,r_p2,r_q2],.int .i64 0]) (by simp [results,Tryz.results26,go_sem,cz]) E.below ⟨_,_,rfl,⟨_,rfl,hR2⟩,rfl⟩

theorem zU6 {w:World} {v:Value} {a b c:Int} (h:(f3 a b c).P v w) (ha:ab a<pw 60) (hb:ab b<pw 60) (hc:ab c<pw 60) (hx:a<(Int.natAbs b:Int)) {t:Bool} (ht:redB a b c=t) :
  Rt 69 #[v] w fun v' w'=>v'=.bool t:=by
 replace ha:=hidd ha
 replace hb:=hidd hb
 replace hc:=hidd hc
 have ht2:t=false:=ht.symm.trans (by unfold redB;exact decide_eq_false zm)
 subst ht2
 clear ht
 have T1:Hid (0<cmpI (Int.natAbs b:Int) a):=cmpIqgt.2 hx
 clear hx
 obtain ⟨y0_p0,y0_q0,y0_p1,y0_q1,y0_p2,y0_q2,rfl,hF0⟩:=o3 h
 obtain ⟨w1,b1,hw1,hb1,hs1,E⟩:=gS w 38 hF0
 go_enter Tryz.func69,Tryz.ntmps69
 go_upto_region 1 with (fail)
 rw [← hw1,← hb1]
 clear hw1 hb1 hs1
 have B2:Hid (ab ((Int.natAbs b:Int))<pw 60):=zBm hb.out
 refine rz [.p b1 2,.n b,.n (Int.natAbs b:Int),.p b1 0,.n a,.i (cmpI (Int.natAbs b:Int) a),.p b1 0,.n a,.p b1 4,.n c,.i (cmpI a c),.i (cmpI (Int.natAbs b:Int) a),.i (cmpI a c)] [none] [] E (fun hp=>⟨qa b1 0 2 hp zw,lN 2 2 hp (mq 0 rfl) zAb zi,zc hp zDc zi fun v w h=>exK (AbsV h) B2.out zm,qa b1 0 0 hp zw,lN 0 2 hp (mq 0 rfl) zAb zi,zC hp zA5 zi zi fun v v' w h h'=>zA6 h h',qa b1 0 0 hp zw,lN 0 2 hp (mq 0 rfl) zAb zi,qa b1 0 4 hp zw,lN 4 2 hp (mq 0 rfl) zAb zi,zC hp zA5 zi zi fun v v' w h h'=>zA6 h h',zS,zS,tv⟩) ?_
 intro w3 E _ _
 simp only [Z1] at E ⊢
 go_upto_region 2 with (fail)
 refine rz [.i (cmpI (Int.natAbs b:Int) a),.t,.t,.u (undef),.u (undef),.t] [none] [] E (fun hp=>⟨zS,zO hp (sqi 0) T1.out,zS,zS,zS,zt hp (sqi 2) (zk (.bool true)),tv⟩) ?_
 intro w4 E _ _
 simp only [Z1] at E ⊢
 go_upto_region 3 with (fail)
 refine rz [.o] [none] [] E (fun hp=>⟨zS,tv⟩) ?_
 intro w5 E _ _
 simp only [Z1] at E ⊢
 clear  T1
 clear B2 ha hb hc
 go_wp2
 exact zR (v:=.bool false) (by simp [results,Tryz.results69,go_sem]) E.below rfl

theorem zU7 {w:World} {v:Value} {a b c:Int} (h:(f3 a b c).P v w) (ha:ab a<pw 60) (hb:ab b<pw 60) (hc:ab c<pw 60) (hx:¬ a<(Int.natAbs b:Int)) (hy:¬ a≤c) {t:Bool} (ht:redB a b c=t) :
  Rt 69 #[v] w fun v' w'=>v'=.bool t:=by
 replace ha:=hidd ha
 replace hb:=hidd hb
 replace hc:=hidd hc
 have ht2:t=false:=ht.symm.trans (by unfold redB;exact decide_eq_false zm)
 subst ht2
 clear ht
 have T1:Hid (¬ 0<cmpI (Int.natAbs b:Int) a):=fun e=>by have:=cmpIqgt.1 e;omega
 have T2:Hid (0<cmpI a c):=cmpIqgt.2 zm
 clear hx hy
 obtain ⟨y0_p0,y0_q0,y0_p1,y0_q1,y0_p2,y0_q2,rfl,hF0⟩:=o3 h
 obtain ⟨w1,b1,hw1,hb1,hs1,E⟩:=gS w 38 hF0
 go_enter Tryz.func69,Tryz.ntmps69
 go_upto_region 1 with (fail)
 rw [← hw1,← hb1]
 clear hw1 hb1 hs1
 have B2:Hid (ab ((Int.natAbs b:Int))<pw 60):=zBm hb.out
 refine rz [.p b1 2,.n b,.n (Int.natAbs b:Int),.p b1 0,.n a,.i (cmpI (Int.natAbs b:Int) a),.p b1 0,.n a,.p b1 4,.n c,.i (cmpI a c),.i (cmpI (Int.natAbs b:Int) a),.i (cmpI a c)] [none] [] E (fun hp=>⟨qa b1 0 2 hp zw,lN 2 2 hp (mq 0 rfl) zAb zi,zc hp zDc zi fun v w h=>exK (AbsV h) B2.out zm,qa b1 0 0 hp zw,lN 0 2 hp (mq 0 rfl) zAb zi,zC hp zA5 zi zi fun v v' w h h'=>zA6 h h',qa b1 0 0 hp zw,lN 0 2 hp (mq 0 rfl) zAb zi,qa b1 0 4 hp zw,lN 4 2 hp (mq 0 rfl) zAb zi,zC hp zA5 zi zi fun v v' w h h'=>zA6 h h',zS,zS,tv⟩) ?_
 intro w3 E _ _
 simp only [Z1] at E ⊢
 go_upto_region 2 with (fail)
 refine rz [.i (cmpI (Int.natAbs b:Int) a),.o,.o,.i (cmpI a c),.t,.t] [none] [] E (fun hp=>⟨zS,zO hp (sqi 0) T1.out,zS,zAj hp fo gqi (sqo 4),zO hp (sqi 3) T2.out,zt hp (sqi 2) (sqi 4),tv⟩) ?_
 intro w4 E _ _
 simp only [Z1] at E ⊢
 go_upto_region 3 with (fail)
 refine rz [.o] [none] [] E (fun hp=>⟨zS,tv⟩) ?_
 intro w5 E _ _
 simp only [Z1] at E ⊢
 clear  T1 T2
 clear B2 ha hb hc
 go_wp2
 exact zR (v:=.bool false) (by simp [results,Tryz.results69,go_sem]) E.below rfl

theorem zU5 {w:World} {v:Value} {a b c:Int} (h:(f3 a b c).P v w) (ha:ab a<pw 60) (hb:ab b<pw 60) (hc:ab c<pw 60) (hx:¬ a<(Int.natAbs b:Int)) (hy:a≤c) (k0:(Int.natAbs b:Int)<a) (k1:a<c) {t:Bool} (ht:redB a b c=t) :
  Rt 69 #[v] w fun v' w'=>v'=.bool t:=by
 replace ha:=hidd ha
 replace hb:=hidd hb
 replace hc:=hidd hc
 have ht2:t=true:=ht.symm.trans (by unfold redB;exact decide_eq_true zm)
 subst ht2
 clear ht
 have T1:Hid (¬ 0<cmpI (Int.natAbs b:Int) a):=fun e=>by have:=cmpIqgt.1 e;omega
 have T2:Hid (¬ 0<cmpI a c):=fun e=>by have:=cmpIqgt.1 e;omega
 have T3:Hid (cmpI (Int.natAbs b:Int) a<0):=cmpIqlt.2 k0
 have T4:Hid (cmpI a c<0):=cmpIqlt.2 k1
 clear hx hy k0 k1
 obtain ⟨y0_p0,y0_q0,y0_p1,y0_q1,y0_p2,y0_q2,rfl,hF0⟩:=o3 h
 obtain ⟨w1,b1,hw1,hb1,hs1,E⟩:=gS w 38 hF0
 go_enter Tryz.func69,Tryz.ntmps69
 go_upto_region 1 with (fail)
 rw [← hw1,← hb1]
 clear hw1 hb1 hs1
 have B2:Hid (ab ((Int.natAbs b:Int))<pw 60):=zBm hb.out
 refine rz [.p b1 2,.n b,.n (Int.natAbs b:Int),.p b1 0,.n a,.i (cmpI (Int.natAbs b:Int) a),.p b1 0,.n a,.p b1 4,.n c,.i (cmpI a c),.i (cmpI (Int.natAbs b:Int) a),.i (cmpI a c)] [none] [] E (fun hp=>⟨qa b1 0 2 hp zw,lN 2 2 hp (mq 0 rfl) zAb zi,zc hp zDc zi fun v w h=>exK (AbsV h) B2.out zm,qa b1 0 0 hp zw,lN 0 2 hp (mq 0 rfl) zAb zi,zC hp zA5 zi zi fun v v' w h h'=>zA6 h h',qa b1 0 0 hp zw,lN 0 2 hp (mq 0 rfl) zAb zi,qa b1 0 4 hp zw,lN 4 2 hp (mq 0 rfl) zAb zi,zC hp zA5 zi zi fun v v' w h h'=>zA6 h h',zS,zS,tv⟩) ?_
 intro w3 E _ _
 simp only [Z1] at E ⊢
 go_upto_region 2 with (fail)
 refine rz [.i (cmpI (Int.natAbs b:Int) a),.o,.o,.i (cmpI a c),.o,.o] [none] [] E (fun hp=>⟨zS,zO hp (sqi 0) T1.out,zS,zAj hp fo gqi (sqo 4),zO hp (sqi 3) T2.out,zt hp (sqi 2) (sqi 4),tv⟩) ?_
 intro w4 E _ _
 simp only [Z1] at E ⊢
 go_upto_region 4 with (fail)
 refine rz [.i (cmpI (Int.natAbs b:Int) a),.t,.t,.i (cmpI a c),.t,.t,.t,.u (undef),.u (undef),.u (undef),.u (undef),.t,.t] [none] [] E (fun hp=>⟨zS,zO hp (sqi 0) T3.out,zS,zAj hp fo gqi (sqo 4),zO hp (sqi 3) T4.out,zt hp (sqi 2) (sqi 4),zS,zS,zS,zS,zS,zt hp (sqi 6) (zk (.bool true)),zS,tv⟩) ?_
 intro w5 E _ _
 simp only [Z1] at E ⊢
 clear  T1 T2 T3 T4
 clear B2 ha hb hc
 go_wp2
 exact zR (v:=.bool true) (by simp [results,Tryz.results69,go_sem]) E.below rfl

theorem zU3 {w:World} {v:Value} {a b c:Int} (h:(f3 a b c).P v w) (ha:ab a<pw 60) (hb:ab b<pw 60) (hc:ab c<pw 60) (hx:¬ a<(Int.natAbs b:Int)) (hy:a≤c) (k0:(Int.natAbs b:Int)<a) (k1:¬ a<c) (k2:¬ 0≤b) {t:Bool} (ht:redB a b c=t) :
  Rt 69 #[v] w fun v' w'=>v'=.bool t:=by
 replace ha:=hidd ha
 replace hb:=hidd hb
 replace hc:=hidd hc
 have ht2:t=false:=ht.symm.trans (by unfold redB;exact decide_eq_false zm)
 subst ht2
 clear ht
 have T1:Hid (¬ 0<cmpI (Int.natAbs b:Int) a):=fun e=>by have:=cmpIqgt.1 e;omega
 have T2:Hid (¬ 0<cmpI a c):=fun e=>by have:=cmpIqgt.1 e;omega
 have T3:Hid (cmpI (Int.natAbs b:Int) a<0):=cmpIqlt.2 k0
 have T4:Hid (¬ cmpI a c<0):=fun e=>k1 (cmpIqlt.1 e)
 have T5:Hid (¬ 0≤cmpI b 0):=by have:=cmpIqlt.2 (show b<0 by omega);show ¬ _≤_;omega
 clear hx hy k0 k1 k2
 obtain ⟨y0_p0,y0_q0,y0_p1,y0_q1,y0_p2,y0_q2,rfl,hF0⟩:=o3 h
 obtain ⟨w1,b1,hw1,hb1,hs1,E⟩:=gS w 38 hF0
 go_enter Tryz.func69,Tryz.ntmps69
 go_upto_region 1 with (fail)
 rw [← hw1,← hb1]
 clear hw1 hb1 hs1
 have B2:Hid (ab ((Int.natAbs b:Int))<pw 60):=zBm hb.out
 refine rz [.p b1 2,.n b,.n (Int.natAbs b:Int),.p b1 0,.n a,.i (cmpI (Int.natAbs b:Int) a),.p b1 0,.n a,.p b1 4,.n c,.i (cmpI a c),.i (cmpI (Int.natAbs b:Int) a),.i (cmpI a c)] [none] [] E (fun hp=>⟨qa b1 0 2 hp zw,lN 2 2 hp (mq 0 rfl) zAb zi,zc hp zDc zi fun v w h=>exK (AbsV h) B2.out zm,qa b1 0 0 hp zw,lN 0 2 hp (mq 0 rfl) zAb zi,zC hp zA5 zi zi fun v v' w h h'=>zA6 h h',qa b1 0 0 hp zw,lN 0 2 hp (mq 0 rfl) zAb zi,qa b1 0 4 hp zw,lN 4 2 hp (mq 0 rfl) zAb zi,zC hp zA5 zi zi fun v v' w h h'=>zA6 h h',zS,zS,tv⟩) ?_
 intro w3 E _ _
 simp only [Z1] at E ⊢
 go_upto_region 2 with (fail)
 refine rz [.i (cmpI (Int.natAbs b:Int) a),.o,.o,.i (cmpI a c),.o,.o] [none] [] E (fun hp=>⟨zS,zO hp (sqi 0) T1.out,zS,zAj hp fo gqi (sqo 4),zO hp (sqi 3) T2.out,zt hp (sqi 2) (sqi 4),tv⟩) ?_
 intro w4 E _ _
 simp only [Z1] at E ⊢
 go_upto_region 4 with (fail)
 refine rz [.i (cmpI (Int.natAbs b:Int) a),.t,.t,.i (cmpI a c),.o,.o,.o,.p b1 2,.n b,.i (cmpI b 0),.o,.o,.o] [none] [] E (fun hp=>⟨zS,zO hp (sqi 0) T3.out,zS,zAj hp fo gqi (sqo 4),zO hp (sqi 3) T4.out,zt hp (sqi 2) (sqi 4),zS,zg b1 0 2 hp zw,lG 2 2 hp gqi (mq 0 rfl) zAb zi fun v w h=>zAf h,zc hp zAz zi (fun v w h=>zA0 h),zO hp (sqi 9) T5.out,zt hp (sqi 6) (sqi 10),zS,tv⟩) ?_
 intro w5 E _ _
 simp only [Z1] at E ⊢
 clear  T1 T2 T3 T4 T5
 clear B2 ha hb hc
 go_wp2
 exact zR (v:=.bool false) (by simp [results,Tryz.results69,go_sem]) E.below rfl

theorem zU4 {w:World} {v:Value} {a b c:Int} (h:(f3 a b c).P v w) (ha:ab a<pw 60) (hb:ab b<pw 60) (hc:ab c<pw 60) (hx:¬ a<(Int.natAbs b:Int)) (hy:a≤c) (k0:(Int.natAbs b:Int)<a) (k1:¬ a<c) (k2:0≤b) {t:Bool} (ht:redB a b c=t) :
  Rt 69 #[v] w fun v' w'=>v'=.bool t:=by
 replace ha:=hidd ha
 replace hb:=hidd hb
 replace hc:=hidd hc
 have ht2:t=true:=ht.symm.trans (by unfold redB;exact decide_eq_true zm)
 subst ht2
 clear ht
 have T1:Hid (¬ 0<cmpI (Int.natAbs b:Int) a):=fun e=>by have:=cmpIqgt.1 e;omega
 have T2:Hid (¬ 0<cmpI a c):=fun e=>by have:=cmpIqgt.1 e;omega
 have T3:Hid (cmpI (Int.natAbs b:Int) a<0):=cmpIqlt.2 k0
 have T4:Hid (¬ cmpI a c<0):=fun e=>k1 (cmpIqlt.1 e)
 have T5:Hid (0≤cmpI b 0):=by have:=mt cmpIqlt.1 (show ¬ b<0 by omega);show _≤_;omega
 clear hx hy k0 k1 k2
 obtain ⟨y0_p0,y0_q0,y0_p1,y0_q1,y0_p2,y0_q2,rfl,hF0⟩:=o3 h
 obtain ⟨w1,b1,hw1,hb1,hs1,E⟩:=gS w 38 hF0
 go_enter Tryz.func69,Tryz.ntmps69
 go_upto_region 1 with (fail)
 rw [← hw1,← hb1]
 clear hw1 hb1 hs1
 have B2:Hid (ab ((Int.natAbs b:Int))<pw 60):=zBm hb.out
 refine rz [.p b1 2,.n b,.n (Int.natAbs b:Int),.p b1 0,.n a,.i (cmpI (Int.natAbs b:Int) a),.p b1 0,.n a,.p b1 4,.n c,.i (cmpI a c),.i (cmpI (Int.natAbs b:Int) a),.i (cmpI a c)] [none] [] E (fun hp=>⟨qa b1 0 2 hp zw,lN 2 2 hp (mq 0 rfl) zAb zi,zc hp zDc zi fun v w h=>exK (AbsV h) B2.out zm,qa b1 0 0 hp zw,lN 0 2 hp (mq 0 rfl) zAb zi,zC hp zA5 zi zi fun v v' w h h'=>zA6 h h',qa b1 0 0 hp zw,lN 0 2 hp (mq 0 rfl) zAb zi,qa b1 0 4 hp zw,lN 4 2 hp (mq 0 rfl) zAb zi,zC hp zA5 zi zi fun v v' w h h'=>zA6 h h',zS,zS,tv⟩) ?_
 intro w3 E _ _
 simp only [Z1] at E ⊢
 go_upto_region 2 with (fail)
 refine rz [.i (cmpI (Int.natAbs b:Int) a),.o,.o,.i (cmpI a c),.o,.o] [none] [] E (fun hp=>⟨zS,zO hp (sqi 0) T1.out,zS,zAj hp fo gqi (sqo 4),zO hp (sqi 3) T2.out,zt hp (sqi 2) (sqi 4),tv⟩) ?_
 intro w4 E _ _
 simp only [Z1] at E ⊢
 go_upto_region 4 with (fail)
 refine rz [.i (cmpI (Int.natAbs b:Int) a),.t,.t,.i (cmpI a c),.o,.o,.o,.p b1 2,.n b,.i (cmpI b 0),.t,.t,.t] [none] [] E (fun hp=>⟨zS,zO hp (sqi 0) T3.out,zS,zAj hp fo gqi (sqo 4),zO hp (sqi 3) T4.out,zt hp (sqi 2) (sqi 4),zS,zg b1 0 2 hp zw,lG 2 2 hp gqi (mq 0 rfl) zAb zi fun v w h=>zAf h,zc hp zAz zi (fun v w h=>zA0 h),zO hp (sqi 9) T5.out,zt hp (sqi 6) (sqi 10),zS,tv⟩) ?_
 intro w5 E _ _
 simp only [Z1] at E ⊢
 clear  T1 T2 T3 T4 T5
 clear B2 ha hb hc
 go_wp2
 exact zR (v:=.bool true) (by simp [results,Tryz.results69,go_sem]) E.below rfl

theorem zU1 {w:World} {v:Value} {a b c:Int} (h:(f3 a b c).P v w) (ha:ab a<pw 60) (hb:ab b<pw 60) (hc:ab c<pw 60) (hx:¬ a<(Int.natAbs b:Int)) (hy:a≤c) (k0:¬ (Int.natAbs b:Int)<a) (k1:a<c) (k2:¬ 0≤b) {t:Bool} (ht:redB a b c=t) :
  Rt 69 #[v] w fun v' w'=>v'=.bool t:=by
 replace ha:=hidd ha
 replace hb:=hidd hb
 replace hc:=hidd hc
 have ht2:t=false:=ht.symm.trans (by unfold redB;exact decide_eq_false zm)
 subst ht2
 clear ht
 have T1:Hid (¬ 0<cmpI (Int.natAbs b:Int) a):=fun e=>by have:=cmpIqgt.1 e;omega
 have T2:Hid (¬ 0<cmpI a c):=fun e=>by have:=cmpIqgt.1 e;omega
 have T3:Hid (¬ cmpI (Int.natAbs b:Int) a<0):=fun e=>k0 (cmpIqlt.1 e)
 have T5:Hid (¬ 0≤cmpI b 0):=by have:=cmpIqlt.2 (show b<0 by omega);show ¬ _≤_;omega
 clear hx hy k0 k1 k2
 obtain ⟨y0_p0,y0_q0,y0_p1,y0_q1,y0_p2,y0_q2,rfl,hF0⟩:=o3 h
 obtain ⟨w1,b1,hw1,hb1,hs1,E⟩:=gS w 38 hF0
 go_enter Tryz.func69,Tryz.ntmps69
 go_upto_region 1 with (fail)
 rw [← hw1,← hb1]
 clear hw1 hb1 hs1
 have B2:Hid (ab ((Int.natAbs b:Int))<pw 60):=zBm hb.out
 refine rz [.p b1 2,.n b,.n (Int.natAbs b:Int),.p b1 0,.n a,.i (cmpI (Int.natAbs b:Int) a),.p b1 0,.n a,.p b1 4,.n c,.i (cmpI a c),.i (cmpI (Int.natAbs b:Int) a),.i (cmpI a c)] [none] [] E (fun hp=>⟨qa b1 0 2 hp zw,lN 2 2 hp (mq 0 rfl) zAb zi,zc hp zDc zi fun v w h=>exK (AbsV h) B2.out zm,qa b1 0 0 hp zw,lN 0 2 hp (mq 0 rfl) zAb zi,zC hp zA5 zi zi fun v v' w h h'=>zA6 h h',qa b1 0 0 hp zw,lN 0 2 hp (mq 0 rfl) zAb zi,qa b1 0 4 hp zw,lN 4 2 hp (mq 0 rfl) zAb zi,zC hp zA5 zi zi fun v v' w h h'=>zA6 h h',zS,zS,tv⟩) ?_
 intro w3 E _ _
 simp only [Z1] at E ⊢
 go_upto_region 2 with (fail)
 refine rz [.i (cmpI (Int.natAbs b:Int) a),.o,.o,.i (cmpI a c),.o,.o] [none] [] E (fun hp=>⟨zS,zO hp (sqi 0) T1.out,zS,zAj hp fo gqi (sqo 4),zO hp (sqi 3) T2.out,zt hp (sqi 2) (sqi 4),tv⟩) ?_
 intro w4 E _ _
 simp only [Z1] at E ⊢
 go_upto_region 4 with (fail)
 refine rz [.i (cmpI (Int.natAbs b:Int) a),.o,.o,.u (undef),.u (undef),.o,.o,.p b1 2,.n b,.i (cmpI b 0),.o,.o,.o] [none] [] E (fun hp=>⟨zS,zO hp (sqi 0) T3.out,zS,zS,zS,zt hp (sqi 2) (zk (.bool false)),zS,zg b1 0 2 hp zw,lG 2 2 hp gqi (mq 0 rfl) zAb zi fun v w h=>zAf h,zc hp zAz zi (fun v w h=>zA0 h),zO hp (sqi 9) T5.out,zt hp (sqi 6) (sqi 10),zS,tv⟩) ?_
 intro w5 E _ _
 simp only [Z1] at E ⊢
 clear  T1 T2 T3 T5
 clear B2 ha hb hc
 go_wp2
 exact zR (v:=.bool false) (by simp [results,Tryz.results69,go_sem]) E.below rfl

theorem zU2 {w:World} {v:Value} {a b c:Int} (h:(f3 a b c).P v w) (ha:ab a<pw 60) (hb:ab b<pw 60) (hc:ab c<pw 60) (hx:¬ a<(Int.natAbs b:Int)) (hy:a≤c) (k0:¬ (Int.natAbs b:Int)<a) (k1:a<c) (k2:0≤b) {t:Bool} (ht:redB a b c=t) :
  Rt 69 #[v] w fun v' w'=>v'=.bool t:=by
 replace ha:=hidd ha
 replace hb:=hidd hb
 replace hc:=hidd hc
 have ht2:t=true:=ht.symm.trans (by unfold redB;exact decide_eq_true zm)
 subst ht2
 clear ht
 have T1:Hid (¬ 0<cmpI (Int.natAbs b:Int) a):=fun e=>by have:=cmpIqgt.1 e;omega
 have T2:Hid (¬ 0<cmpI a c):=fun e=>by have:=cmpIqgt.1 e;omega
 have T3:Hid (¬ cmpI (Int.natAbs b:Int) a<0):=fun e=>k0 (cmpIqlt.1 e)
 have T5:Hid (0≤cmpI b 0):=by have:=mt cmpIqlt.1 (show ¬ b<0 by omega);show _≤_;omega
 clear hx hy k0 k1 k2
 obtain ⟨y0_p0,y0_q0,y0_p1,y0_q1,y0_p2,y0_q2,rfl,hF0⟩:=o3 h
 obtain ⟨w1,b1,hw1,hb1,hs1,E⟩:=gS w 38 hF0
 go_enter Tryz.func69,Tryz.ntmps69
 go_upto_region 1 with (fail)
 rw [← hw1,← hb1]
 clear hw1 hb1 hs1
 have B2:Hid (ab ((Int.natAbs b:Int))<pw 60):=zBm hb.out
 refine rz [.p b1 2,.n b,.n (Int.natAbs b:Int),.p b1 0,.n a,.i (cmpI (Int.natAbs b:Int) a),.p b1 0,.n a,.p b1 4,.n c,.i (cmpI a c),.i (cmpI (Int.natAbs b:Int) a),.i (cmpI a c)] [none] [] E (fun hp=>⟨qa b1 0 2 hp zw,lN 2 2 hp (mq 0 rfl) zAb zi,zc hp zDc zi fun v w h=>exK (AbsV h) B2.out zm,qa b1 0 0 hp zw,lN 0 2 hp (mq 0 rfl) zAb zi,zC hp zA5 zi zi fun v v' w h h'=>zA6 h h',qa b1 0 0 hp zw,lN 0 2 hp (mq 0 rfl) zAb zi,qa b1 0 4 hp zw,lN 4 2 hp (mq 0 rfl) zAb zi,zC hp zA5 zi zi fun v v' w h h'=>zA6 h h',zS,zS,tv⟩) ?_
 intro w3 E _ _
 simp only [Z1] at E ⊢
 go_upto_region 2 with (fail)
 refine rz [.i (cmpI (Int.natAbs b:Int) a),.o,.o,.i (cmpI a c),.o,.o] [none] [] E (fun hp=>⟨zS,zO hp (sqi 0) T1.out,zS,zAj hp fo gqi (sqo 4),zO hp (sqi 3) T2.out,zt hp (sqi 2) (sqi 4),tv⟩) ?_
 intro w4 E _ _
 simp only [Z1] at E ⊢
 go_upto_region 4 with (fail)
 refine rz [.i (cmpI (Int.natAbs b:Int) a),.o,.o,.u (undef),.u (undef),.o,.o,.p b1 2,.n b,.i (cmpI b 0),.t,.t,.t] [none] [] E (fun hp=>⟨zS,zO hp (sqi 0) T3.out,zS,zS,zS,zt hp (sqi 2) (zk (.bool false)),zS,zg b1 0 2 hp zw,lG 2 2 hp gqi (mq 0 rfl) zAb zi fun v w h=>zAf h,zc hp zAz zi (fun v w h=>zA0 h),zO hp (sqi 9) T5.out,zt hp (sqi 6) (sqi 10),zS,tv⟩) ?_
 intro w5 E _ _
 simp only [Z1] at E ⊢
 clear  T1 T2 T3 T5
 clear B2 ha hb hc
 go_wp2
 exact zR (v:=.bool true) (by simp [results,Tryz.results69,go_sem]) E.below rfl

theorem zUz {w:World} {v:Value} {a b c:Int} (h:(f3 a b c).P v w) (ha:ab a<pw 60) (hb:ab b<pw 60) (hc:ab c<pw 60) (hx:¬ a<(Int.natAbs b:Int)) (hy:a≤c) (k0:¬ (Int.natAbs b:Int)<a) (k1:¬ a<c) (k2:¬ 0≤b) {t:Bool} (ht:redB a b c=t) :
  Rt 69 #[v] w fun v' w'=>v'=.bool t:=by
 replace ha:=hidd ha
 replace hb:=hidd hb
 replace hc:=hidd hc
 have ht2:t=false:=ht.symm.trans (by unfold redB;exact decide_eq_false zm)
 subst ht2
 clear ht
 have T1:Hid (¬ 0<cmpI (Int.natAbs b:Int) a):=fun e=>by have:=cmpIqgt.1 e;omega
 have T2:Hid (¬ 0<cmpI a c):=fun e=>by have:=cmpIqgt.1 e;omega
 have T3:Hid (¬ cmpI (Int.natAbs b:Int) a<0):=fun e=>k0 (cmpIqlt.1 e)
 have T5:Hid (¬ 0≤cmpI b 0):=by have:=cmpIqlt.2 (show b<0 by omega);show ¬ _≤_;omega
 clear hx hy k0 k1 k2
 obtain ⟨y0_p0,y0_q0,y0_p1,y0_q1,y0_p2,y0_q2,rfl,hF0⟩:=o3 h
 obtain ⟨w1,b1,hw1,hb1,hs1,E⟩:=gS w 38 hF0
 go_enter Tryz.func69,Tryz.ntmps69
 go_upto_region 1 with (fail)
 rw [← hw1,← hb1]
 clear hw1 hb1 hs1
 have B2:Hid (ab ((Int.natAbs b:Int))<pw 60):=zBm hb.out
 refine rz [.p b1 2,.n b,.n (Int.natAbs b:Int),.p b1 0,.n a,.i (cmpI (Int.natAbs b:Int) a),.p b1 0,.n a,.p b1 4,.n c,.i (cmpI a c),.i (cmpI (Int.natAbs b:Int) a),.i (cmpI a c)] [none] [] E (fun hp=>⟨qa b1 0 2 hp zw,lN 2 2 hp (mq 0 rfl) zAb zi,zc hp zDc zi fun v w h=>exK (AbsV h) B2.out zm,qa b1 0 0 hp zw,lN 0 2 hp (mq 0 rfl) zAb zi,zC hp zA5 zi zi fun v v' w h h'=>zA6 h h',qa b1 0 0 hp zw,lN 0 2 hp (mq 0 rfl) zAb zi,qa b1 0 4 hp zw,lN 4 2 hp (mq 0 rfl) zAb zi,zC hp zA5 zi zi fun v v' w h h'=>zA6 h h',zS,zS,tv⟩) ?_
 intro w3 E _ _
 simp only [Z1] at E ⊢
 go_upto_region 2 with (fail)
 refine rz [.i (cmpI (Int.natAbs b:Int) a),.o,.o,.i (cmpI a c),.o,.o] [none] [] E (fun hp=>⟨zS,zO hp (sqi 0) T1.out,zS,zAj hp fo gqi (sqo 4),zO hp (sqi 3) T2.out,zt hp (sqi 2) (sqi 4),tv⟩) ?_
 intro w4 E _ _
 simp only [Z1] at E ⊢
 go_upto_region 4 with (fail)
 refine rz [.i (cmpI (Int.natAbs b:Int) a),.o,.o,.u (undef),.u (undef),.o,.o,.p b1 2,.n b,.i (cmpI b 0),.o,.o,.o] [none] [] E (fun hp=>⟨zS,zO hp (sqi 0) T3.out,zS,zS,zS,zt hp (sqi 2) (zk (.bool false)),zS,zg b1 0 2 hp zw,lG 2 2 hp gqi (mq 0 rfl) zAb zi fun v w h=>zAf h,zc hp zAz zi (fun v w h=>zA0 h),zO hp (sqi 9) T5.out,zt hp (sqi 6) (sqi 10),zS,tv⟩) ?_
 intro w5 E _ _
 simp only [Z1] at E ⊢
 clear  T1 T2 T3 T5
 clear B2 ha hb hc
 go_wp2
 exact zR (v:=.bool false) (by simp [results,Tryz.results69,go_sem]) E.below rfl

theorem zU0 {w:World} {v:Value} {a b c:Int} (h:(f3 a b c).P v w) (ha:ab a<pw 60) (hb:ab b<pw 60) (hc:ab c<pw 60) (hx:¬ a<(Int.natAbs b:Int)) (hy:a≤c) (k0:¬ (Int.natAbs b:Int)<a) (k1:¬ a<c) (k2:0≤b) {t:Bool} (ht:redB a b c=t) :
  Rt 69 #[v] w fun v' w'=>v'=.bool t:=by
 replace ha:=hidd ha
 replace hb:=hidd hb
 replace hc:=hidd hc
 have ht2:t=true:=ht.symm.trans (by unfold redB;exact decide_eq_true zm)
 subst ht2
 clear ht
 have T1:Hid (¬ 0<cmpI (Int.natAbs b:Int) a):=fun e=>by have:=cmpIqgt.1 e;omega
 have T2:Hid (¬ 0<cmpI a c):=fun e=>by have:=cmpIqgt.1 e;omega
 have T3:Hid (¬ cmpI (Int.natAbs b:Int) a<0):=fun e=>k0 (cmpIqlt.1 e)
 have T5:Hid (0≤cmpI b 0):=by have:=mt cmpIqlt.1 (show ¬ b<0 by omega);show _≤_;omega
 clear hx hy k0 k1 k2
 obtain ⟨y0_p0,y0_q0,y0_p1,y0_q1,y0_p2,y0_q2,rfl,hF0⟩:=o3 h
 obtain ⟨w1,b1,hw1,hb1,hs1,E⟩:=gS w 38 hF0
 go_enter Tryz.func69,Tryz.ntmps69
 go_upto_region 1 with (fail)
 rw [← hw1,← hb1]
 clear hw1 hb1 hs1
 have B2:Hid (ab ((Int.natAbs b:Int))<pw 60):=zBm hb.out
 refine rz [.p b1 2,.n b,.n (Int.natAbs b:Int),.p b1 0,.n a,.i (cmpI (Int.natAbs b:Int) a),.p b1 0,.n a,.p b1 4,.n c,.i (cmpI a c),.i (cmpI (Int.natAbs b:Int) a),.i (cmpI a c)] [none] [] E (fun hp=>⟨qa b1 0 2 hp zw,lN 2 2 hp (mq 0 rfl) zAb zi,zc hp zDc zi fun v w h=>exK (AbsV h) B2.out zm,qa b1 0 0 hp zw,lN 0 2 hp (mq 0 rfl) zAb zi,zC hp zA5 zi zi fun v v' w h h'=>zA6 h h',qa b1 0 0 hp zw,lN 0 2 hp (mq 0 rfl) zAb zi,qa b1 0 4 hp zw,lN 4 2 hp (mq 0 rfl) zAb zi,zC hp zA5 zi zi fun v v' w h h'=>zA6 h h',zS,zS,tv⟩) ?_
 intro w3 E _ _
 simp only [Z1] at E ⊢
 go_upto_region 2 with (fail)
 refine rz [.i (cmpI (Int.natAbs b:Int) a),.o,.o,.i (cmpI a c),.o,.o] [none] [] E (fun hp=>⟨zS,zO hp (sqi 0) T1.out,zS,zAj hp fo gqi (sqo 4),zO hp (sqi 3) T2.out,zt hp (sqi 2) (sqi 4),tv⟩) ?_
 intro w4 E _ _
 simp only [Z1] at E ⊢
 go_upto_region 4 with (fail)
 refine rz [.i (cmpI (Int.natAbs b:Int) a),.o,.o,.u (undef),.u (undef),.o,.o,.p b1 2,.n b,.i (cmpI b 0),.t,.t,.t] [none] [] E (fun hp=>⟨zS,zO hp (sqi 0) T3.out,zS,zS,zS,zt hp (sqi 2) (zk (.bool false)),zS,zg b1 0 2 hp zw,lG 2 2 hp gqi (mq 0 rfl) zAb zi fun v w h=>zAf h,zc hp zAz zi (fun v w h=>zA0 h),zO hp (sqi 9) T5.out,zt hp (sqi 6) (sqi 10),zS,tv⟩) ?_
 intro w5 E _ _
 simp only [Z1] at E ⊢
 clear  T1 T2 T3 T5
 clear B2 ha hb hc
 go_wp2
 exact zR (v:=.bool true) (by simp [results,Tryz.results69,go_sem]) E.below rfl

theorem zPg {w:World} {v:Value} {a b c:Int} (h:(f3 a b c).P v w) (ha:ab a<pw 60) (hb:ab b<pw 60) (hc:ab c<pw 60) {t:Bool} (ht:redB a b c=t) :
  Rt 69 #[v] w fun v' w'=>v'=.bool t:=by
 by_cases hx:a<(Int.natAbs b:Int)
 ·exact zU6 h ha hb hc hx ht
 by_cases hy:a≤c
 ·by_cases k0:(Int.natAbs b:Int)<a
  ·by_cases k1:a<c
   ·exact zU5 h ha hb hc hx hy k0 k1 ht
   ·by_cases k2:0≤b
    ·exact zU4 h ha hb hc hx hy k0 k1 k2 ht
    ·exact zU3 h ha hb hc hx hy k0 k1 k2 ht
  ·by_cases k1:a<c
   ·by_cases k2:0≤b
    ·exact zU2 h ha hb hc hx hy k0 k1 k2 ht
    ·exact zU1 h ha hb hc hx hy k0 k1 k2 ht
   ·by_cases k2:0≤b
    ·exact zU0 h ha hb hc hx hy k0 k1 k2 ht
    ·exact zUz h ha hb hc hx hy k0 k1 k2 ht
 ·exact zU7 h ha hb hc hx hy ht

theorem zUp {w:World} {v:Value} {a b c:Int} (h:(f3 a b c).P v w) (ha:ab a<pw 40) (hb:ab b<pw 40) (hc:ab c<pw 40) (hD:ab (b*b-4*(a*c))<pw 40) {er:Int} (he:chkF a b c=er) (hn:¬ er=0) :
  Rt 68 #[v] w fun v' w'=>v'=.int .i64 er:=by
 replace ha:=hidd ha
 replace hb:=hidd hb
 replace hc:=hidd hc
 have HC:=hidd he
 have HDB:=hidd hD
 clear hD
 clear he
 have HN:=hidd hn
 clear hn
 obtain ⟨y0_p0,y0_q0,y0_p1,y0_q1,y0_p2,y0_q2,rfl,hF0⟩:=o3 h
 obtain ⟨w1,b1,hw1,hb1,hs1,E⟩:=gS w 38 hF0
 go_enter Tryz.func68,Tryz.ntmps68
 go_upto_region 1 with (fail)
 rw [← hw1,← hb1]
 clear hw1 hb1 hs1
 refine rz [.w (f3 a b c),.i er,.i er] [none] [] E (fun hp=>⟨lS 0 6 hp (mq 0 rfl) zAd zw,zc hp zF6 zi fun v w h=>zF8 h ha.out hb.out hc.out HDB.out HC.out,zS,tv⟩) ?_
 intro w2 E _ _
 simp only [Z1] at E ⊢
 go_upto_region 2 with (fail)
 refine rz [.i er,.t] [none] [] E (fun hp=>⟨zS,zO hp (sqi 0) HN.out,tv⟩) ?_
 intro w3 E _ _
 simp only [Z1] at E ⊢
 go_upto_region 3 with (fail)
 refine rz [.i er,.i er] [none] [] E (fun hp=>⟨zS,zS,tv⟩) ?_
 intro w4 E _ _
 simp only [Z1] at E ⊢
 clear HC HN
 clear ha hb hc HDB
 go_wp2
 exact zR (v:=.int .i64 er) (by simp [results,Tryz.results68,go_sem]) E.below rfl

theorem zUr {w:World} {v:Value} {a b c:Int} (h:(f3 a b c).P v w) (ha:ab a<pw 40) (hb:ab b<pw 40) (hc:ab c<pw 40) (hD:ab (b*b-4*(a*c))<pw 40) (he:chkF a b c=0) (hd:0<(b*b-4*(a*c))) :
  Rt 68 #[v] w fun v' w'=>v'=.int .i64 5:=by
 replace ha:=hidd ha
 replace hb:=hidd hb
 replace hc:=hidd hc
 have HC:=hidd he
 have HDB:=hidd hD
 clear hD
 clear he
 have T1:Hid (0<cmpI (b*b-4*(a*c)) 0):=cmpIqgt.2 hd
 clear hd
 obtain ⟨y0_p0,y0_q0,y0_p1,y0_q1,y0_p2,y0_q2,rfl,hF0⟩:=o3 h
 obtain ⟨w1,b1,hw1,hb1,hs1,E⟩:=gS w 38 hF0
 go_enter Tryz.func68,Tryz.ntmps68
 go_upto_region 1 with (fail)
 rw [← hw1,← hb1]
 clear hw1 hb1 hs1
 refine rz [.w (f3 a b c),.i 0,.i 0] [none] [] E (fun hp=>⟨lS 0 6 hp (mq 0 rfl) zAd zw,zc hp zF6 zi fun v w h=>zF8 h ha.out hb.out hc.out HDB.out HC.out,zS,tv⟩) ?_
 intro w2 E _ _
 simp only [Z1] at E ⊢
 go_upto_region 2 with (fail)
 refine rz [.i 0,.o] [none] [] E (fun hp=>⟨zS,zo hp (sqi 0),tv⟩) ?_
 intro w3 E _ _
 simp only [Z1] at E ⊢
 go_upto_region 4 with (fail)
 refine rz [.w (f3 a b c),.n (b*b-4*(a*c)),.i (cmpI (b*b-4*(a*c)) 0),.t] [none] [] E (fun hp=>⟨lS 0 6 hp (mq 0 rfl) zAd zw,zc hp zC6 zi fun v w h=>zC7 h (Int.lt_of_lt_of_le ha.out (zAa zm)) (Int.lt_of_lt_of_le hb.out (zAa zm)) (Int.lt_of_lt_of_le hc.out (zAa zm)),zc hp zAz zi fun v w h=>zA0 h,zO hp (sqi 2) T1.out,tv⟩) ?_
 intro w4 E _ _
 simp only [Z1] at E ⊢
 go_upto_region 5 with (fail)
 refine rz [.i 5] [none] [] E (fun hp=>⟨zS,tv⟩) ?_
 intro w5 E _ _
 simp only [Z1] at E ⊢
 clear HC T1
 clear ha hb hc HDB
 go_wp2
 exact zR (v:=.int .i64 5) (by simp [results,Tryz.results68,go_sem]) E.below rfl

theorem zUq {w:World} {v:Value} {a b c:Int} (h:(f3 a b c).P v w) (ha:ab a<pw 40) (hb:ab b<pw 40) (hc:ab c<pw 40) (hD:ab (b*b-4*(a*c))<pw 40) (he:chkF a b c=0) (hd:¬ 0<(b*b-4*(a*c))) :
  Rt 68 #[v] w fun v' w'=>v'=.int .i64 0:=by
 replace ha:=hidd ha
 replace hb:=hidd hb
 replace hc:=hidd hc
 have HC:=hidd he
 have HDB:=hidd hD
 clear hD
 clear he
 have T1:Hid (¬ 0<cmpI (b*b-4*(a*c)) 0):=fun e=>hd (cmpIqgt.1 e)
 clear hd
 obtain ⟨y0_p0,y0_q0,y0_p1,y0_q1,y0_p2,y0_q2,rfl,hF0⟩:=o3 h
 obtain ⟨w1,b1,hw1,hb1,hs1,E⟩:=gS w 38 hF0
 go_enter Tryz.func68,Tryz.ntmps68
 go_upto_region 1 with (fail)
 rw [← hw1,← hb1]
 clear hw1 hb1 hs1
 refine rz [.w (f3 a b c),.i 0,.i 0] [none] [] E (fun hp=>⟨lS 0 6 hp (mq 0 rfl) zAd zw,zc hp zF6 zi fun v w h=>zF8 h ha.out hb.out hc.out HDB.out HC.out,zS,tv⟩) ?_
 intro w2 E _ _
 simp only [Z1] at E ⊢
 go_upto_region 2 with (fail)
 refine rz [.i 0,.o] [none] [] E (fun hp=>⟨zS,zo hp (sqi 0),tv⟩) ?_
 intro w3 E _ _
 simp only [Z1] at E ⊢
 go_upto_region 4 with (fail)
 refine rz [.w (f3 a b c),.n (b*b-4*(a*c)),.i (cmpI (b*b-4*(a*c)) 0),.o] [none] [] E (fun hp=>⟨lS 0 6 hp (mq 0 rfl) zAd zw,zc hp zC6 zi fun v w h=>zC7 h (Int.lt_of_lt_of_le ha.out (zAa zm)) (Int.lt_of_lt_of_le hb.out (zAa zm)) (Int.lt_of_lt_of_le hc.out (zAa zm)),zc hp zAz zi fun v w h=>zA0 h,zO hp (sqi 2) T1.out,tv⟩) ?_
 intro w4 E _ _
 simp only [Z1] at E ⊢
 go_upto_region 6 with (fail)
 refine rz [.i 0] [none] [] E (fun hp=>⟨zS,tv⟩) ?_
 intro w5 E _ _
 simp only [Z1] at E ⊢
 clear HC T1
 clear ha hb hc HDB
 go_wp2
 exact zR (v:=.int .i64 0) (by simp [results,Tryz.results68,go_sem]) E.below rfl

theorem zLu {w:World} {v:Value} {a b c:Int} (h:(f3 a b c).P v w) (ha:ab a<pw 40) (hb:ab b<pw 40) (hc:ab c<pw 40) (hD:ab (b*b-4*(a*c))<pw 40) {er:Int} (he:redE a b c=er) :
  Rt 68 #[v] w fun v' w'=>v'=.int .i64 er:=by
 subst he
 unfold redE
 by_cases h1:chkF a b c=0∧0<b*b-4*(a*c)
 ·rw [if_pos h1];exact zUr h ha hb hc hD h1.1 h1.2
 ·rw [if_neg h1]
  by_cases h2:chkF a b c=0
  ·have hh:=zUq h ha hb hc hD h2 (fun x=>h1 ⟨h2,x⟩)
   rw [← h2] at hh
   exact hh
  ·exact zUp h ha hb hc hD rfl h2

theorem zPf {w:World} {v:Value} {a b c:Int} (h:(f3 a b c).P v w) (ha:ab a<pw 15) (hb:ab b<pw 15) (hc:ab c<pw 15) {er:Int} (he:redE a b c=er) :
  Rt 68 #[v] w fun v' w'=>v'=.int .i64 er:=
 zLu h (Int.lt_of_lt_of_le ha (zAa zm)) (Int.lt_of_lt_of_le hb (zAa zm)) (Int.lt_of_lt_of_le hc (zAa zm)) (disc_ab ha hb hc) he

structure Pt where
 x:Int
 y:Int
 i:Bool
def Pt.Ok (M:Int) (P:Pt):Prop:=0≤P.x∧P.x<M∧0≤P.y∧P.y<M
theorem Pt.Ok.ab {M:Int} {P:Pt} (h:P.Ok M) (hM:ab M<pw 5):Go.Proofs.YtjadciofpgjofaaGreatDoor.ab P.x<pw 5∧Go.Proofs.YtjadciofpgjofaaGreatDoor.ab P.y<pw 5:=by
 obtain ⟨h1,h2,h3,h4⟩:=h
 unfold Go.Proofs.YtjadciofpgjofaaGreatDoor.ab at hM ⊢
 generalize pw 5=k at hM
 constructor <;> omega
section
variable {os : List Oper} {Q : Exit → Act → World → Prop} {a : Act} {p : Pq} {B B0 : Nat} {w0 : World}
variable {i s : Nat} {d : Option Tmp} {ty : TypeId} {ps : String} {af : Array Edge} {gd : Option (Nat × Bool)}
end
def zBx (k n:Int):Int:=if k % 2=1∧(n % 8=3∨n % 8=5) then -1 else 1
def zC2 (a n:Int):Int:=if a % 4=3∧n % 4=3 then -1 else 1
theorem ofTwosZ (w:World) {k n:Int} (k0:0≤k) (k1:k<9223372036854775808) (n0:0≤n) (n1:n<4294967296) :
  Calls Tryz.prog 165 #[.int .i64 k,.int .u32 n] w fun e w'=>e=.returned (.int .i64 (zBx k n))∧w'=w:=by
 obtain ⟨k',rfl⟩:=Int.eq_ofNat_of_zero_le k0
 obtain ⟨n',rfl⟩:=Int.eq_ofNat_of_zero_le n0
 have e:zBx (k':Int) (n':Int)=twosI k' n':=by
  unfold zBx twosI
  by_cases h:k' % 2=1∧(n' % 8=3∨n' % 8=5)
  ·rw [if_pos h,if_pos zm]
  ·rw [if_neg h,if_neg zm]
 rw [e]
 exact zWe w k' n' zm zm
theorem turnedZ (w:World) {a n:Int} (k0:0≤a) (k1:a<4294967296) (n0:0≤n) (n1:n<4294967296) :
  Calls Tryz.prog 171 #[.int .u32 a,.int .u32 n] w fun e w'=>e=.returned (.int .i64 (zC2 a n))∧w'=w:=by
 obtain ⟨k',rfl⟩:=Int.eq_ofNat_of_zero_le k0
 obtain ⟨n',rfl⟩:=Int.eq_ofNat_of_zero_le n0
 have e:zC2 (k':Int) (n':Int)=turnI k' n':=by
  unfold zC2 turnI
  by_cases h:k' % 4=3∧n' % 4=3
  ·rw [if_pos h,if_pos zm]
  ·rw [if_neg h,if_neg zm]
 rw [e]
 exact zXo w k' n' zm zm
theorem zNq (k n:Int):zBx k n=1∨zBx k n=-1:=by unfold zBx;split <;> simp
theorem zSi (a n:Int):zC2 a n=1∨zC2 a n=-1:=by unfold zC2;split <;> simp

theorem J_pow2 {n:Nat} (ho:n % 2=1) (a:Int):∀ t:Nat,J (2^t*a) n=zBx t n*J a n
 | 0=>by
  have:zBx ((0:Nat):Int) n=1:=by unfold zBx;rw [if_neg zm]
  rw [this,Int.pow_zero,Int.one_mul,Int.one_mul]
 | t+1=>by
  have ih:=J_pow2 ho a t
  have e:(2:Int)^(t+1)*a=2*(2^t*a):=by rw [Int.pow_succ];ac_rfl
  rw [e,J_mul ho,ih,J_two ho,← Int.mul_assoc]
  congr 1
  unfold zBx
  by_cases h:n % 8=3∨n % 8=5
  ·rw [if_pos h]
   by_cases ht:t % 2=1
   ·rw [if_pos zm,if_neg zm];rfl
   ·rw [if_neg zm,if_pos zm];rfl
  ·rw [if_neg h,if_neg zm,if_neg zm];rfl
theorem J_swap {a n:Nat} (ha:a % 2=1) (hn:n % 2=1):J a n=zC2 a n*J ((n:Int) % a) a:=by
 rw [J_rec ha hn,J_mod]
 congr 1
 unfold zC2
 by_cases h:a % 4=3∧n % 4=3
 ·rw [if_pos h,if_pos zm]
 ·rw [if_neg h,if_neg zm]
theorem J_step {t o n:Nat} (ho:o % 2=1) (hn:n % 2=1):J ((2^t*o:Nat):Int) n=zBx t n*zC2 o n*J ((n:Int) % o) o:=by
 have:((2^t*o:Nat):Int)=2^t*(o:Int):=by simp
 rw [this,J_pow2 hn,J_swap ho hn,Int.mul_assoc]
theorem zSj (k n:Int):zBx k (n % 4294967296)=zBx k n:=by
 unfold zBx
 have:(n % 4294967296) % 8=n % 8:=by omega
 rw [this]
theorem zSh (a n:Int):zC2 (a % 4294967296) (n % 4294967296)=zC2 a n:=by
 unfold zC2
 have e1:(a % 4294967296) % 4=a % 4:=by omega
 have e2:(n % 4294967296) % 4=n % 4:=by omega
 rw [e1,e2]
theorem J_zero {n:Nat}:J 0 n=if n=1 then 1 else 0:=by
 by_cases h:n=1
 ·subst h
  rw [if_pos rfl]
  rfl
 ·rw [if_neg h,zFf]
  simpa using h

theorem measJ' {n o a:Nat} (h0:0<o) (h:o≤a):(intOf (.int .u64 ((n:Int) % (o:Int)))).toNat<(intOf (.int .u64 (a:Int))).toNat:=by
 have h1:=Int.emod_nonneg (n:Int) (show (o:Int)≠0 by omega)
 have h2:=Int.emod_lt_of_pos (n:Int) (show (0:Int)<o by omega)
 simp only [intOf]
 omega

theorem zV4 (w:World) (hT:Tabs w) (a0 n0:Nat) (ha:a0<18446744073709551616) (hn:n0<18446744073709551616) (ho:n0 % 2=1) :
  Calls Tryz.prog 172 #[.int .u64 (a0:Int),.int .u64 (n0:Int)] w fun e w'=>e=.returned (.int .i64 (J a0 n0))∧w'=w:=by
 go_enter Tryz.func172,Tryz.ntmps172
 go_wp2
 go_loopw [0,1,5] (fun va vn vs W=>∃ (a n:Nat) (s:Int),va=.int .u64 (a:Int)∧vn=.int .u64 (n:Int)∧vs=.int .i64 s∧W=w∧a<18446744073709551616∧n<18446744073709551616∧n % 2=1∧(s=1∨s=-1)∧J a0 n0=s*J a n) (fun va _ _ _=>(intOf va).toNat)
 case atStart=>exact ⟨a0,n0,1,rfl,rfl,rfl,rfl,ha,hn,ho,.inl rfl,by rw [Int.one_mul]⟩
 case round=>
  obtain ⟨a,n,s,rfl,rfl,rfl,rfl,h1,h2,h3,hs,hJ⟩:=hrel
  have HT:=hidd hT
  clear hT
  by_cases h0:a=0
  ·subst h0
   rw [show ((0:Nat):Int)=0 from rfl,J_zero] at hJ
   by_cases hn1:n=1
   ·subst hn1
    rw [if_pos rfl,Int.mul_one] at hJ
    have HJ:=hidd hJ
    clear hJ
    go_wp2
    go_ret
    exact ⟨by rw [HJ.out];rfl,rfl⟩
   ·have f1:((n:Int) != 1)=true:=by simp;omega
    rw [if_neg hn1,Int.mul_zero] at hJ
    have HJ:=hidd hJ
    clear hJ hn1
    go_wp2
    go_ret
    exact ⟨by rw [HJ.out];rfl,rfl⟩
  ·have f0:((a:Int) != 0)=true:=by simp;omega
   obtain ⟨m,hm,hk⟩:=Lib.ctzFrom_spec 64 a zm zm
   have hc:=tz64_any a h1 h0 wr HT.out
   have ec:Lib.ctz 64 a=Lib.ctzFrom 64 a:=by unfold Lib.ctz;rw [if_neg h0]
   rw [ec] at hc
   obtain ⟨t,ht⟩:∃ t,t=Lib.ctzFrom 64 a:=⟨_,rfl⟩
   rw [← ht] at hm hk hc
   obtain ⟨o,ho2⟩:∃ o,o=2*m+1:=⟨_,rfl⟩
   rw [← ho2] at hm
   have hoo:o % 2=1:=by omega
   have hp:0<2^t:=Nat.two_pow_pos t
   have hoa:o≤a:=by rw [hm];exact Nat.le_mul_of_pos_left o hp
   have hdiv:(a:Int)/2^min t 64=(o:Int):=by
    rw [Nat.min_eq_left zm]
    have:(a:Int)=2^t*(o:Int):=by rw [hm];simp
    rw [this]
    exact Int.mul_ediv_cancel_left _ (by have:=zA7 t;omega)
   have hstep:=J_step (t:=t) hoo h3
   rw [← hm] at hstep
   have cA:=ofTwosZ wr (k:=(t:Int)) (n:=(n:Int) % 4294967296) zm zm zm zm
   have cB:=turnedZ wr (a:=(o:Int) % 4294967296) (n:=(n:Int) % 4294967296) zm zm zm zm
   rw [zSj] at cA
   rw [zSh] at cB
   have hA:=zNq t n
   have hB:=zSi o n
   generalize zBx (t:Int) (n:Int)=A at *
   generalize zC2 (o:Int) (n:Int)=B at *
   have g1:IntKind.i64.wrap (A*B)=A*B:=IntWalk.i64_in _ (by rcases hA with rfl | rfl <;> rcases hB with rfl | rfl <;> decide)
   have g2:IntKind.i64.wrap (s*(A*B))=s*(A*B):=IntWalk.i64_in _ (by rcases hs with rfl | rfl <;> rcases hA with rfl | rfl <;> rcases hB with rfl | rfl <;> decide)
   have g3:((o:Int) == 0)=false:=by simp;omega
   have g4:¬ (o:Int)=0:=by omega
   have g5:¬ o=0:=by omega
   have HS:Hid ((s*(A*B)=1∨s*(A*B)=-1)∧J a0 n0=s*(A*B)*J ((n:Int) % o) o):=by
    refine ⟨by rcases hs with rfl | rfl <;> rcases hA with rfl | rfl <;> rcases hB with rfl | rfl <;> simp,?_⟩
    rw [hJ,hstep]
    ac_rfl
   have HC:=hidd hc
   have CA:=hidd cA
   have CB:=hidd cB
   have HO:=hidd (show 0<o∧o≤a∧o<18446744073709551616∧o % 2=1 by omega)
   clear hm hk ht hp hoo hoa ho2 hJ hstep hs hA hB hc cA cB ec h0
   go_wp2_with (first | (go_at_call 176;(with_reducible refine (Calls.mono HC.out ?_));rintro e w' ⟨rfl,rfl⟩) | (go_at_call 165;(with_reducible refine (Calls.mono CA.out ?_));rintro e w' ⟨rfl,rfl⟩) | (go_at_call 171;(with_reducible refine (Calls.mono CB.out ?_));rintro e w' ⟨rfl,rfl⟩))
   refine ⟨⟨n % o,o,_,rfl,rfl,rfl,trivial,?_,HO.out.2.2.1,HO.out.2.2.2,HS.out.1,by simpa using HS.out.2⟩,measJ' HO.out.1 HO.out.2.1⟩
   have:=Nat.mod_lt n HO.out.1
   have:=HO.out
   omega

theorem two_uniq {a b m n:Nat} (h:2^a*(2*m+1)=2^b*(2*n+1)):a=b:=by
 rcases Nat.lt_trichotomy a b with hl | hl | hl
 ·exfalso
  obtain ⟨d,rfl⟩:∃ d,b=a+(d+1):=⟨b-a-1,by omega⟩
  rw [Nat.pow_add,Nat.mul_assoc,Nat.pow_succ] at h
  have:=Nat.eq_of_mul_eq_mul_left (Nat.two_pow_pos a) h
  rw [Nat.mul_comm (2^d) 2,Nat.mul_assoc] at this
  omega
 ·exact hl
 ·exfalso
  obtain ⟨d,rfl⟩:∃ d,a=b+(d+1):=⟨a-b-1,by omega⟩
  rw [Nat.pow_add,Nat.mul_assoc,Nat.pow_succ] at h
  have:=Nat.eq_of_mul_eq_mul_left (Nat.two_pow_pos b) h
  rw [Nat.mul_comm (2^d) 2,Nat.mul_assoc] at this
  omega
def v2 (z:Int):Nat:=Lib.ctzFrom (zBb z) z.natAbs
theorem zNs {z:Int} (h:z≠0):∃ m:Nat,z.natAbs=2^v2 z*(2*m+1)∧v2 z<zBb z:=by
 refine Lib.ctzFrom_spec _ _ zm ?_
 rcases zH7 z with ⟨h1,_⟩ | ⟨_,_,h3⟩
 ·unfold ab at h1;omega
 ·unfold ab at h3;exact_mod_cast h3
theorem v2_eq {z:Int} (h:z≠0) {t m:Nat} (e:z.natAbs=2^t*(2*m+1)):v2 z=t:=by
 obtain ⟨n,h1,_⟩:=zNs h
 exact two_uniq (h1.symm.trans e)
theorem v2_div {z:Int} (h:z≠0):z=2^v2 z*(z/2^v2 z)∧(z/2^v2 z) % 2=1:=by
 obtain ⟨m,h1,_⟩:=zNs h
 generalize v2 z=t at *
 have hp:=zA7 t
 have e:z=2^t*(2*(m:Int)+1)∨z=2^t*(2*(-(m:Int)-1)+1):=by
  have h2:(z.natAbs:Int)=2^t*(2*(m:Int)+1):=by rw [h1];simp
  have h3:(2:Int)^t*(2*(-(m:Int)-1)+1)=-(2^t*(2*(m:Int)+1)):=by
   rw [← Int.mul_neg];congr 1;omega
  rw [h3]
  omega
 rcases e with e | e
 ·have:z/2^t=2*(m:Int)+1:=by rw [e];exact Int.mul_ediv_cancel_left _ zm
  rw [this];exact ⟨e,by omega⟩
 ·have:z/2^t=2*(-(m:Int)-1)+1:=by rw [e];exact Int.mul_ediv_cancel_left _ zm
  rw [this];exact ⟨e,by omega⟩
theorem zNu {xs:List Int}:∀ {j:Nat},j≤xs.length→(∀ i,i<j→xs.getD i 0=0)→val xs=pw j*val (xs.drop j)
 | 0,_,_=>by rw [zDk,List.drop_zero,Int.one_mul]
 | j+1,hj,h=>by
  rw [zNu (j:=j) zm (fun i hi=>h i zm),zDi xs zm,h j zm,Int.zero_add,zC0,Int.mul_assoc]
theorem val_twos {xs:List Int} {j:Nat} (hd:Digs xs) (hj:j<xs.length) (h:∀ i,i<j→xs.getD i 0=0) {x:Nat} (hx:xs.getD j 0=(x:Int)) (h0:x≠0) (h1:x<4294967296) :
  ∃ m:Nat,(val xs).natAbs=2^(32*j+Lib.ctz 32 x)*(2*m+1)∧Lib.ctz 32 x<32:=by
 obtain ⟨m,hm,hk⟩:=Lib.ctzFrom_spec 32 x zm h1
 have ec:Lib.ctz 32 x=Lib.ctzFrom 32 x:=by unfold Lib.ctz;rw [if_neg h0]
 rw [ec]
 generalize Lib.ctzFrom 32 x=c at *
 have hr:=zAl (hd.drop (j+1))
 obtain ⟨r,hr⟩:=Int.eq_ofNat_of_zero_le hr
 have e:=zNu (Nat.le_of_lt hj) h
 rw [zDi xs hj,hx,hr] at e
 refine ⟨m+2^(31-c)*r,?_,hk⟩
 have e2:val xs=((2^(32*j)*(x+4294967296*r):Nat):Int):=by rw [e,zCd];simp
 rw [e2,Int.natAbs_natCast,Nat.pow_add,Nat.mul_assoc]
 congr 1
 have e3:4294967296=2^c*(2*2^(31-c)):=by
  have:(4294967296:Nat)=2^(c+((31-c)+1)):=by rw [show c+((31-c)+1)=32 by omega]
  rw [this,Nat.pow_add,Nat.pow_succ,Nat.mul_comm (2^(31-c)) 2]
 rw [e3,hm,Nat.mul_assoc,← Nat.mul_add]
 congr 1
 rw [Nat.mul_add,Nat.mul_assoc]
 omega
theorem val_unit (j:Nat) (x:Int):val ((List.replicate (j+1) 0).set j x)=pw j*x:=by
 have h:=zAr ((List.replicate (j+1) (0:Int)).set j x) j
 rw [zA1 _ (by simp),zC4 _ _ _ _ (Nat.le_refl _),List.take_replicate,zGm,zB5 _ _ _ (by simp),Int.zero_add] at h
 exact h

theorem exTz32 {w:World} {x:Int} (hT:Tabs w) (h0:0<x) (h1:x<4294967296):Calls Tryz.prog 170 #[.int .u32 x] w fun e w'=>e=.returned (.int .i64 (Lib.ctz 32 x.toNat))∧w'=w:=by
 obtain ⟨n,rfl⟩:=Int.eq_ofNat_of_zero_le (show 0≤x by omega)
 exact tz32_any n zm zm w hT

theorem wrd_aux {t n:Nat} (h:t<32*n) (hn:n≤300):wrap64 ((t:Int)/32)=(t:Int)/32∧wrap64 ((t:Int)/32+1)=(t:Int)/32+1∧t/32+1≤1000:=by
 simp only [wrap64]
 omega
theorem zOa (t:Nat):(t:Int)/32+1=((t/32+1:Nat):Int):=by omega
theorem idx_aux (t:Nat):(0:Int)≤(t:Int)/32∧(t:Int)/32<((t/32+1:Nat):Int)∧(0:Int)≤(t:Int) % 32:=by omega
theorem zKf (t:Nat):Dig ((2:Int)^(t % 32) % 4294967296)∧(2:Int)^(t % 32) % 4294967296=2^(t % 32):=by
 have h:(2:Int)^(t % 32)≤2^31:=zCl zm
 have h0:=zA7 (t % 32)
 unfold Dig
 omega
theorem pow_num {w:World} {e:TypeId} {b t:Nat} (h:Row w e b ((List.replicate (t/32+1) 0).set (t/32) (2^(t % 32) % 4294967296))) (ht:t/32+1≤1000) :
  Num w (.agg #[.bool false,.slice (some ⟨b,0,none⟩) (t/32+1) (t/32+1)]) (2^t):=by
 have hl:((List.replicate (t/32+1) (0:Int)).set (t/32) (2^(t % 32) % 4294967296)).length=t/32+1:=by simp
 have hs:=h.sl hl
 have hv:=val_unit (t/32) ((2:Int)^(t % 32) % 4294967296)
 rw [(zKf t).2] at hv
 have e2:pw (t/32)*(2:Int)^(t % 32)=2^t:=by rw [zCd,← Int.pow_add];congr 1;omega
 rw [e2] at hv
 have hp:=zA7 (t % 32)
 refine ⟨false,_,_,_,_,rfl,hs,by omega,?_,⟨hs.digs,.inr ?_⟩,fun h=>by cases h⟩
 ·rw [(zKf t).2,hv];rfl
 ·rw [hl,Nat.add_sub_cancel,(zKf t).2,hv,← e2]
  have:=Int.mul_le_mul_of_nonneg_left (show 1≤(2:Int)^(t % 32) by omega) (show 0≤pw (t/32) by have:=zA4 (t/32);omega)
  omega
theorem zWk {t m:Nat} (h:t≤32*m):ab ((2:Int)^t)<pw (m+1):=by
 have h0:=zA7 t
 rw [zBe zm]
 have h1:(2:Int)^t≤2^(32*m):=zCl h
 rw [← zCd] at h1
 rw [zC0]
 have:=zA4 m
 omega
theorem pow_bound {t n:Nat} (h:t<32*n) (hn:n≤300):ab ((2:Int)^t)<pw 301:=zWk (m:=300) zm
def Fq.numAnd (z:Int) (v0:Value) (e:Int):Fq:=⟨fun v w=>Num w v z∧Num w v0 e,fun h hb=>⟨h.1.mono hb,h.2.mono hb⟩,fun h ha ht hl=>⟨h.1.putAt ha ht hl,h.2.putAt ha ht hl⟩⟩
theorem Fr.numAnd {w0 W:World} {b b':Nat} {z z' e:Int} {v0:Value} (h:Fr w0 [(b',2,Fq.num z'),(b,2,Fq.num z)] W) (hv:Num W v0 e):Fr w0 [(b',2,Fq.num z'),(b,2,Fq.numAnd z v0 e)] W:=by
 refine ⟨h.below,fun x hx=>?_,h.apart⟩
 rcases List.mem_cons.1 hx with rfl | hx
 ·exact h.boxes _ (List.mem_cons_self ..)
 ·rw [List.mem_singleton] at hx
  subst hx
  obtain ⟨h1,us,a1,a2,a3,a4,a5⟩:=h.boxes (b,2,Fq.num z) (by simp)
  exact ⟨h1,us,a1,a2,a3,a4,a5,hv⟩
section
variable {os : List Oper} {Q : Exit → Act → World → Prop} {a : Act} {p : Pq} {B B0 : Nat} {w0 : World}
variable {i s : Nat} {d : Option Tmp} {ty : TypeId} {ps : String} {af : Array Edge} {gd : Option (Nat × Bool)}
theorem zWs {o:Ob} {y:Operand} {ao:Option Addr} {k c:Nat} {z e:Int} (hp:p.Ok B B0) (hF:p.Free i) (hg:GdQ os a p B B0 w0 af gd) (ho:o∈p.old) (hk:o.F1=o.F0) (hf:o.F0=Fq.numAnd z (.agg #[.bool false,.slice ao k c]) e)
  (hy:SrcQ os a p B B0 w0 af y fun v _=>v=.slice ao k c) (hC:∀ v w,Num w v e→(p.c i).P v w) :
  zAg os Q a p B B0 w0 i { dst:=d,op:=.build 36 #[(1,y)],type:=ty,pos:=ps,after:=af,guard:=gd }:=by
 refine zBg hp hF hg fun L vs w hG hL hc hd=>?_
 have h2:=hy L vs w hG hd
 have hb:=hG.old o ho
 rw [hk,ite_self] at hb
 rw [hf] at hb
 obtain ⟨_,_,_,_,_,hv⟩:=hb
 refine ⟨.agg #[.bool false,.slice ao k c],?_,hC _ _ hv.2⟩
 generalize (lay os.toArray L vs os.toArray.size a).eval=ρ at h2
 simp [execOp,go_sem,h2]
end
theorem tlt_aux {k c n:Nat} (h:k % 32=0) (h1:k/32<n) (h2:c<32):k+c<32*n:=by omega
theorem measO {n k:Nat} (h:k/32+1<n):32*n-(intOf (.int .i64 ((k:Int)+32))).toNat<32*n-(intOf (.int .i64 (k:Int))).toNat:=by simp [intOf];omega

theorem zUm {w:World} {v:Value} {z:Int} {K:Nat} (h:Num w v z) (hT:Tabs w) (hz:z≠0) (hb:ab z<pw K) (hK:K≤300) :
  Rt 164 #[v] w fun v' w'=>(Fq.tup2 (Fq.num (z/2^v2 z)) (Fq.is (.int .i64 (v2 z:Int)))).P v' w':=by
 obtain ⟨n0,ao0,k0,cc0,rfl⟩:=h.parts
 obtain ⟨w1,b1,hw1,hb1,hs1,E⟩:=gN w 36 h
 obtain ⟨w2,b2,hw2,hb2,hs2,E⟩:=fZ E hs1 36
 have HT:=hidd (hT.mono E.below)
 clear hT
 go_enter Tryz.func164,Tryz.ntmps164
 go_upto_region 1 with (fail)
 rw [← hw1,← hw2]
 rw [← hb2,← hb1]
 clear hw1 hw2 hb1 hb2 hs2 hs1
 obtain ⟨p0,p1,c0,c1,hP⟩:=zCg (E.box 1 rfl)
 obtain ⟨q0,q1,d0,d1,hQ⟩:=zCg (E.box 0 rfl)
 have hP0:=hidd hP
 obtain ⟨neg,ax,n,cx,xs,eP,hX,hn,hzz,hc,_⟩:=hP
 obtain ⟨rfl,rfl⟩:p0=.bool neg∧p1=.slice ax n cx:=by
  injection eP with eP
  have:=congrArg Array.toList eP
  simpa using this
 have hv0:ab z=val xs:=by rw [hzz,zD3,zBe (zAl hX.digs)]
 have hvn:(val xs).natAbs=z.natAbs:=by unfold ab at hv0;omega
 have hvz:val xs≠0:=by unfold ab at hv0;omega
 have hn3:n≤300:=by
  have:=hc.length_le (by rw [← hv0];exact hb)
  rw [hX.len] at this
  omega
 have hn0:0<n:=by
  rcases Nat.eq_zero_or_pos n with h0 | h0
  ·exfalso;apply hvz;have:=hX.len;rw [h0] at this;rw [List.eq_nil_of_length_eq_zero this];rfl
  ·exact h0
 have HVN:=hidd hvn
 have HVZ:=hidd hvz
 have HN:=hidd (show 0<n∧n≤300 from ⟨hn0,hn3⟩)
 have HB:=hidd hb
 have HZ:=hidd hz
 have HKK:=hidd hK
 clear hzz hv0 hvn hvz hb hn3 hn hn0 eP hQ hz hK
 go_wp2
 go_loopw [4] (fun vk W=>∃ k:Nat,k % 32=0∧k/32<n∧vk=.int .i64 (k:Int)∧W=w2∧∀ i,i<k/32→xs.getD i 0=0) (fun vk _=>32*n-(intOf vk).toNat)
 case atStart=>exact ⟨0,rfl,by have:=HN.out;omega,rfl,rfl,fun i hi=>by omega⟩
 case round=>
  obtain ⟨k,hk32,hkn,rfl,rfl,hlow⟩:=hrel
  obtain ⟨b,off,rfl,hbl,x,hxc,hx0,hx1,HX⟩:=hX.cells.at (k:=k/32) (by rw [hX.len];exact hkn)
  have g1:(0:Int)≤(k:Int)/32∧(k:Int)/32<n:=by omega
  have hq:wrap64 ((k:Int)/32)=(k:Int)/32:=by have:=HN.out;simp only [wrap64];omega
  by_cases hxz:x=0
  ·subst hxz
   have hk2:k/32+1<n:=by
    rcases Nat.lt_or_ge (k/32+1) n with h0 | h0
    ·exact h0
    ·exfalso
     apply HVZ.out
     rw [zNu (j:=n) (by rw [hX.len];exact Nat.le_refl _) (fun i hi=>by
      rcases Nat.lt_or_ge i (k/32) with h1 | h1
      ·exact hlow i h1
      ·rw [show i=k/32 by omega];exact HX.out),List.drop_of_length_le (by rw [hX.len];exact Nat.le_refl _)]
     show pw n*0=0
     rw [Int.mul_zero]
   have hw:IntKind.i64.wrap ((k:Int)+32)=(k:Int)+32:=IntWalk.i64_in _ (by have:=HN.out;omega)
   have hw2:wrap64 ((k:Int)+32)=(k:Int)+32:=by have:=HN.out;simp only [wrap64];omega
   have HL:=hidd hlow
   have HK:=hidd (show k % 32=0∧k/32+1<n from ⟨hk32,hk2⟩)
   clear hlow hk32 hk2
   go_wp2
   go_roundw
   case rel=>
    refine ⟨k+32,by have:=HK.out;omega,by have:=HK.out;omega,by first | rfl | (rw [hw2];rfl),by trivial,fun i hi=>?_⟩
    rcases Nat.lt_or_ge i (k/32) with h1 | h1
    ·exact HL.out i h1
    ·rw [show i=k/32 by omega];exact HX.out
   case measure=>first | exact measO HK.out.2 | (rw [hw2];exact measO HK.out.2)
  ·have fx:(x == 0)=false:=by simp;exact hxz
   obtain ⟨y,rfl⟩:=Int.eq_ofNat_of_zero_le hx0
   have hy0:y≠0:=by omega
   have hy1:y<4294967296:=by omega
   obtain ⟨m,hm,hc32⟩:=val_twos hX.digs (by rw [hX.len];exact hkn) hlow HX.out hy0 hy1
   rw [show 32*(k/32)=k by omega,HVN.out] at hm
   have hv2:=v2_eq HZ.out hm
   have hy2:(0:Int)<(y:Int):=by omega
   have cT:=exTz32 (x:=(y:Int)) HT.out hy2 hx1
   rw [Int.toNat_natCast] at cT
   clear hy2
   obtain ⟨c,hcc⟩:∃ c,c=Lib.ctz 32 y:=⟨_,rfl⟩
   rw [← hcc] at hm hc32 hv2 cT
   replace cT:=hidd cT
   have hw:IntKind.i64.wrap ((k:Int)+(c:Int))=((k+c:Nat):Int):=by rw [IntWalk.i64_in _ (by have:=HN.out;omega)];rfl
   have hw2:wrap64 ((k:Int)+(c:Int))=((k+c:Nat):Int):=by have:=HN.out;simp only [wrap64];omega
   obtain ⟨t,ht⟩:∃ t,t=k+c:=⟨_,rfl⟩
   rw [← ht] at hw hw2 hm hv2
   have HT2:=hidd (show t=k+c∧t<32*n from ⟨ht,by rw [ht];exact tlt_aux hk32 hkn hc32⟩)
   have HV2:=hidd hv2
   clear hm hc32 hcc ht hlow hk32 hv2
   go_upto_region 5 with (first | (go_at_call 170;(with_reducible refine (Calls.mono cT.out ?_));rintro e w' ⟨rfl,rfl⟩))
   obtain ⟨us0,hl0,_,hat0,htm0,_⟩:=(E.boxes _ (List.mem_cons_self ..)).2
   have z0:=(hat0 0 (by rw [hl0];exact Nat.le_of_ble_eq_true rfl)).2
   have z1:=(hat0 1 (by rw [hl0];exact Nat.le_of_ble_eq_true rfl)).2
   by_cases ht0:t=0
   ·have f0:(((t:Nat):Int) == 0)=true:=by simp;exact ht0
    have HV3:Hid ((v2 z:Int)=0∧z/2^v2 z=z):=by
     rw [HV2.out,ht0]
     exact ⟨rfl,by rw [Int.pow_zero,Int.ediv_one]⟩
    clear hat0 htm0 hl0 ht0
    go_upto_region 6 with (fail)
    clear hw hw2 hX hxc cT fx g1 hq hy0 hy1 hx0 hx1 hxz hbl hkn f0
    have E2:=E.put (F':=Fq.num z) (us:=[.bool neg,.slice (some ⟨b,off,none⟩) n cx]) rfl (zB8 _ _ _ _) hP0.out
    obtain ⟨wZ,hwZ⟩:∃ wZ,wZ=putFrom w' b2 0 [.bool neg,.slice (some ⟨b,off,none⟩) n cx]:=⟨_,rfl⟩
    rw [← hwZ] at E2
    have hwZ2:wZ=(w'.setCell ⟨b2,0,none⟩ (.bool neg)).setCell ⟨b2,1,none⟩ (.slice (some ⟨b,off,none⟩) n cx):=hwZ
    obtain ⟨r0,r1,e0,e1,hR⟩:=zCg (E2.box 0 rfl)
    go_wp2
    rw [← hwZ2]
    refine bodyPost_ret (v:=.tuple #[.agg #[r0,r1],.int .i64 0]) ?_ rfl ⟨_,rfl,E2.below,_,_,rfl,by rw [HV3.out.2];exact hR,by rw [HV3.out.1];rfl⟩
    simp [results,Tryz.results164,go_sem,e0,e1]
   ·have f0:(((t:Nat):Int) == 0)=false:=by simp;exact ht0
    obtain ⟨g2,g3,htn⟩:=wrd_aux HT2.out.2 HN.out.2
    replace htn:=hidd htn
    clear ht0
    go_upto_region 7 with (fail)
    clear hw hw2 hX hxc cT fx g1 hq hy0 hy1 hx0 hx1 hxz hbl hkn f0 hat0 htm0 hl0
    go_upto_region 8 with (at_make;refine zEf _ rfl _ _ 27 rfl 104 Tryz.underlying27 (by kernel_rfl) _ _ _ _ rfl rfl (t/32+1) (g3.trans (zOa t)) (g3.trans (zOa t)) (Nat.le_trans htn.out (Nat.le_of_ble_eq_true rfl)) ?_;intro w3 hrow hb3 hs3)
    have hfr:=hrow.frozen (t/32)
    obtain ⟨z9,hzc9,_,_,_⟩:=hrow.at (j:=t/32) (by simp)
    obtain ⟨g4,g5,g6⟩:=idx_aux t
    replace hs3:=hidd hs3
    have hrow2:=hidd hrow
    clear hrow
    go_upto_region 9 with (fail)
    clear g2 g3 g4 g5 g6 hfr hzc9 z0 z1
    have hx:=zKf t
    obtain ⟨w4,hw4⟩:∃ w4,w4=w3.setCell ⟨w'.heap.size,t/32,none⟩ (.int .u32 (2^(t % 32) % 4294967296)):=⟨_,rfl⟩
    have hrow4:Row w4 104 w'.heap.size ((List.replicate (t/32+1) 0).set (t/32) (2^(t % 32) % 4294967296)):=by rw [hw4];exact hrow2.out.set hx.1
    have hb4:Below w'.heap.size w' w4:=by rw [hw4];exact hb3.setCell (Nat.le_refl _) _
    rw [← hw4]
    obtain ⟨bR,hbR⟩:∃ x,x=w'.heap.size:=⟨_,rfl⟩
    rw [← hbR] at hrow4
    rw [← hbR]
    have hPW:Num w4 (.agg #[.bool false,.slice (some ⟨bR,0,none⟩) (t/32+1) (t/32+1)]) (2^t):=pow_num hrow4 htn.out
    replace E:=E.mono hb4
    replace E:Fr w [(b2,2,Fq.num 0),(b1,2,Fq.numAnd z (.agg #[.bool false,.slice (some ⟨bR,0,none⟩) (t/32+1) (t/32+1)]) (2^t))] w4:=E.numAnd hPW
    have HV3:Hid ((v2 z:Int)=t∧z/2^v2 z=z/2^t):=by rw [HV2.out];exact ⟨rfl,rfl⟩
    have BZ:Hid (ab z<pw K):=HB.out
    have BP:Hid (ab ((2:Int)^t)<pw 301):=pow_bound HT2.out.2 HN.out.2
    have NZ:Hid ((2:Int)^t≠0):=by have:=zA7 t;show _≠_;omega
    have BQ:Hid (ab (z/2^t)<pw (K+1)):=zDp BZ.out zm
    have BR:Hid (ab (z % 2^t)<pw 301):=zB4 NZ.out BP.out
    clear hrow4 hb4 hb3 hw4 hx hPW hrow2 hs3 htn HV2 HB hP0 hbR d0 d1 c0 c1
    refine rz [.n z,.u (.slice (some ⟨bR,0,none⟩) (t/32+1) (t/32+1)),.n (2^t),.w (Fq.tup3 (Fq.num (z/2^t)) (Fq.num (z % 2^t)) (Fq.is (.int .i64 0))),.w (Fq.tup3 (Fq.num (z/2^t)) (Fq.num (z % 2^t)) (Fq.is (.int .i64 0))),.n (z/2^t),.n (z % 2^t),.i 0,.k,.k,.a,.a,.i 0] N2 [⟨8,10,2,Fq.num 0,Fq.num (z/2^t),none⟩,⟨9,11,2,Fq.num 0,Fq.num (z % 2^t),none⟩] E (fun hp=>⟨lI 0 hp (mq 1 rfl) zw (fun us w hl h=>zAw hl h.1),zS,zWs hp fo tv (mq 1 rfl) rfl rfl (sqi 1) (fun v w h=>h),zC hp zE7 zi zi fun v v' w h h'=>zE8 h h' NZ.out BQ.out BR.out (by have:=HKK.out;omega) zm,zS,zS,zS,zS,aN hp (mq 0 rfl),aN hp (mq 1 rfl),sN 5 hp (mq 0 rfl),sN 6 hp (mq 1 rfl),zS,tv⟩) ?_
    intro w1 b1_8 b1_9 E _ _
    simp only [Z1] at E ⊢
    go_upto_region 10 with (fail)
    refine rz [.n (z/2^t),.i (t:Int),.a,.i (t:Int)] [none,none,some (2,Fq.num (z/2^t)),none] [] E (fun hp=>⟨lI 0 hp (mq 0 rfl) zw,zS,zCj hp (mq 2 rfl) rfl rfl (zAq rfl rfl (fun _ _=>rfl)) (zBf 0 rfl rfl (by simp) rfl (fun v w h=>zCc h)) (fun _ _=>trivial) (zBl rfl),zS,tv⟩) ?_
    intro w2 E _ _
    simp only [Z1] at E ⊢
    obtain ⟨p0,p1,e0,e1,hP⟩:=zCg (E.box 2 rfl)
    clear BZ BP BQ BR NZ HN HT2 HVN HVZ HZ HKK HT
    go_wp2
    exact zR (v:=.tuple #[.agg #[p0,p1],.int .i64 (t:Int)]) (by simp [results,Tryz.results164,go_sem,e0,e1]) E.below ⟨_,_,rfl,by rw [HV3.out.2];exact hP,by rw [HV3.out.1];rfl⟩

section
variable {os : List Oper} {Q : Exit → Act → World → Prop} {a : Act} {p : Pq} {B B0 : Nat} {w0 : World}
variable {i s : Nat} {d : Option Tmp} {ty : TypeId} {ps : String} {af : Array Edge} {gd : Option (Nat × Bool)}
theorem zIh {x:Operand} {F:Value→World→Prop} {f:FuncId} {ts:Array TypeId} (hp:p.Ok B B0) (hF:p.Free i) (hg:GdQ os a p B B0 w0 af gd) (hen:∀ args w,(callFunc f args).run Tryz.prog w=.ok (.enter f args) w) (hB:B=w0.heap.size)
  (hx:SrcQ os a p B B0 w0 af x F) (hC:∀ v w,Below w0.heap.size w0 w→F v w→Calls Tryz.prog f #[v] w fun e w'=>∃ v',e=.returned v'∧Below w.heap.size w w'∧(p.c i).P v' w') :
  zAg os Q a p B B0 w0 i { dst:=d,op:=.call { callee:=.value (.func f),args:=#[x],argTypes:=ts },type:=ty,pos:=ps,after:=af,guard:=gd }:=by
 subst hB
 exact zFt hp hF hg hen fun L vs w hG hd=>⟨#[_],by simp,hC _ _ hG.below (hx L vs w hG hd)⟩
theorem zDz {x y:Operand} {F G:Value→World→Prop} {f:FuncId} {ts:Array TypeId} (hp:p.Ok B B0) (hF:p.Free i) (hg:GdQ os a p B B0 w0 af gd) (hen:∀ args w,(callFunc f args).run Tryz.prog w=.ok (.enter f args) w) (hB:B=w0.heap.size)
  (hx:SrcQ os a p B B0 w0 af x F) (hy:SrcQ os a p B B0 w0 af y G) (hC:∀ v v' w,Below w0.heap.size w0 w→F v w→G v' w→Calls Tryz.prog f #[v,v'] w fun e w'=>∃ v',e=.returned v'∧Below w.heap.size w w'∧(p.c i).P v' w') :
  zAg os Q a p B B0 w0 i { dst:=d,op:=.call { callee:=.value (.func f),args:=#[x,y],argTypes:=ts },type:=ty,pos:=ps,after:=af,guard:=gd }:=by
 subst hB
 exact zFt hp hF hg hen fun L vs w hG hd=>⟨#[_,_],by simp,hC _ _ _ hG.below (hx L vs w hG hd) (hy L vs w hG hd)⟩
theorem zFd (m f:Nat) {v:Value} (hp:p.Ok B B0) (hF:p.Free i) (hg:GdQ os a p B B0 w0 af gd) (ha:zBa (os.map (·.dst))=true) (hj:(os.map (·.dst))[m]?=some (some s)) (hl:zBs os f m i=true) (hx:a.eval (.tmp s)=v) (hv:∀ w,(p.c i).P v w) :
  zAg os Q a p B B0 w0 i { dst:=d,op:=.move (.tmp s),type:=ty,pos:=ps,after:=af,guard:=gd }:=by
 refine zBg hp hF hg fun L vs w hG hL hc hd=>⟨v,?_,hv _⟩
 have hm:=zGf hc hl hL
 have e:(lay os.toArray L vs os.toArray.size a).eval (.tmp s)=a.eval (.tmp s):=by
  refine zJ4 _ _ fun j _ hj2 hd2=>?_
  have hjm:j=m:=Classical.byContradiction fun hne=>zFy ha j m s hne hd2 (by
   unfold zBp
   simp at hj ⊢
   cases ho:os[m]? with
   | none=>simp [ho] at hj
   | some o=>simp [ho] at hj ⊢;exact hj)
  rw [hjm,hm] at hj2
  cases hj2
 rw [hx] at e
 have e2:(lay os.toArray L vs os.toArray.size a).tmps.getD s undef=v:=e
 simp only [execOp,go_sem]
 rw [e2]
 rfl
end
theorem zJr {w:World} {v:Value} {z:Int} (h:Num w v z) (hT:Tabs w) (hz:z≠0) (hb:ab z<pw 300) :
  Rt 164 #[v] w fun v' w'=>(Fq.tup2 (Fq.num (z/2^v2 z)) (Fq.is (.int .i64 (v2 z:Int)))).P v' w':=zUm h hT hz hb (Nat.le_refl _)
theorem zJs {w:World} {v v':Value} {k n r:Int} (h:v=.int .i64 k) (h':v'=.int .u32 n) (k0:0≤k∧k<9223372036854775808) (n0:0≤n∧n<4294967296) (hr:zBx k n=r) :
  Rt 165 #[v,v'] w fun v' w'=>v'=.int .i64 r:=by
 subst h h' hr
 exact (ofTwosZ w k0.1 k0.2 n0.1 n0.2).mono fun e w' ⟨he,hw⟩=>⟨_,he,by rw [hw];exact Below.refl _ _,rfl⟩
theorem exTurned {w:World} {v v':Value} {k n r:Int} (h:v=.int .u32 k) (h':v'=.int .u32 n) (k0:0≤k∧k<4294967296) (n0:0≤n∧n<4294967296) (hr:zC2 k n=r) :
  Rt 171 #[v,v'] w fun v' w'=>v'=.int .i64 r:=by
 subst h h' hr
 exact (turnedZ w k0.1 k0.2 n0.1 n0.2).mono fun e w' ⟨he,hw⟩=>⟨_,he,by rw [hw];exact Below.refl _ _,rfl⟩
theorem zUj {w:World} {v v':Value} {a n:Int} (hT:Tabs w) (h:v=.int .u64 a) (h':v'=.int .u64 n) (a0:0≤a∧a<18446744073709551616) (n0:0≤n∧n<18446744073709551616) (ho:n % 2=1) :
  Rt 172 #[v,v'] w fun v' w'=>v'=.int .i64 (J a n.toNat):=by
 subst h h'
 obtain ⟨a',rfl⟩:=Int.eq_ofNat_of_zero_le a0.1
 obtain ⟨n',rfl⟩:=Int.eq_ofNat_of_zero_le n0.1
 exact (zV4 w hT a' n' zm zm zm).mono fun e w' ⟨he,hw⟩=>⟨_,he,by rw [hw];exact Below.refl _ _,by rw [Int.toNat_natCast]⟩
theorem v2_lt {z:Int} (hz:z≠0) (h:ab z<pw 100):(v2 z:Int)<9223372036854775808:=by
 obtain ⟨m,_,h1⟩:=zNs hz
 have:=zMk h
 omega
theorem zHf (z:Int):0≤ab z % 4294967296∧ab z % 4294967296<4294967296:=by omega
theorem zIm {s t:Int} (hs:s=1∨s=-1) (ht:t=1∨t=-1):s*t=1∨s*t=-1:=by rcases hs with rfl | rfl <;> rcases ht with rfl | rfl <;> simp
theorem zNe {s t:Int} (hs:s=1∨s=-1) (ht:t=1∨t=-1):IntKind.i64.wrap (s*t)=s*t:=IntWalk.i64_in _ (by rcases zIm hs ht with h | h <;> rw [h] <;> decide)
theorem J_range (a:Int) (n:Nat):J a n=0∨J a n=1∨J a n=-1:=by
 by_cases h:Int.gcd a n=1
 ·exact .inr (J_or h)
 ·exact .inl (zFf h)
theorem zR2 {s t:Int} (hs:s=1∨s=-1) (ht:t=0∨t=1∨t=-1):IntKind.i64.wrap (s*t)=s*t:=IntWalk.i64_in _ (by rcases hs with rfl | rfl <;> rcases ht with rfl | rfl | rfl <;> decide)
theorem J_round {x y:Int} (hx:0<x) (hy:0<y) (ho:y % 2=1) :
  (0<x/2^v2 x∧(x/2^v2 x) % 2=1∧x/2^v2 x≤x) ∧
  J x y.toNat=(zBx (v2 x:Int) (ab y % 4294967296)*zC2 (ab (x/2^v2 x) % 4294967296) (ab y % 4294967296))*J (y % (x/2^v2 x)) (x/2^v2 x).toNat:=by
 obtain ⟨h1,h2⟩:=v2_div (z:=x) zm
 have hp:=zA7 (v2 x)
 rw [zSj,zSh]
 generalize hO:x/2^v2 x=o at *
 have ho0:0<o:=by
  rcases Int.lt_or_le 0 o with h | h
  ·exact h
  ·have:=Int.mul_le_mul_of_nonneg_left h (show (0:Int)≤2^v2 x by omega)
   omega
 have hle:o≤x:=by
  have:=Int.mul_le_mul_of_nonneg_right (show (1:Int)≤2^v2 x by omega) (show 0≤o by omega)
  omega
 refine ⟨⟨ho0,h2,hle⟩,?_⟩
 obtain ⟨O,rfl⟩:=Int.eq_ofNat_of_zero_le (show 0≤o by omega)
 obtain ⟨Y,rfl⟩:=Int.eq_ofNat_of_zero_le (show 0≤y by omega)
 have hs:=J_step (t:=v2 x) (o:=O) (n:=Y) zm zm
 have e:((2^v2 x*O:Nat):Int)=x:=by
  rw [Int.natCast_mul,Int.natCast_pow]
  exact h1.symm
 rw [e] at hs
 rw [Int.toNat_natCast,Int.toNat_natCast,zBe zm,zBe zm]
 exact hs
theorem nbits_gt {y:Int} (hy:0<y) (h:63<zBb y):y.toNat≠1:=by
 rcases zH7 y with ⟨h1,h2⟩ | ⟨_,h2,_⟩
 ·omega
 ·have h3:(2:Int)^63≤2^(zBb y-1):=zCl zm
  rw [zBe zm] at h2
  have:(2:Int)^63=9223372036854775808:=by decide
  omega
theorem zWd {y:Int} (hy:0<y) (h:¬ 63<zBb y):y≤9223372036854775807:=by
 rcases zH7 y with ⟨h1,h2⟩ | ⟨_,_,h2⟩
 ·rw [zBe zm] at h1;omega
 ·have h3:(2:Int)^zBb y≤2^63:=zCl zm
  rw [zBe zm] at h2
  have:(2:Int)^63=9223372036854775808:=by decide
  omega

theorem exJacobi {w:World} {v v':Value} {a n:Int} (h:Num w v a) (h':Num w v' n) (hT:Tabs w) (ha:ab a<pw 100) (hn:ab n<pw 100) (hi:0≤a∧a<n∧n % 2=1) :
  Rt 166 #[v,v'] w fun v' w'=>v'=.int .i64 (J a n.toNat):=by
 replace ha:=hidd ha
 replace hn:=hidd hn
 have HT:=hidd hT
 have HI0:=hidd hi
 clear hT hi
 obtain ⟨n0,ao0,k0,c0,rfl⟩:=h.parts
 obtain ⟨n1,ao1,k1,c1,rfl⟩:=h'.parts
 obtain ⟨w1,b1,hw1,hb1,hs1,E⟩:=gN w 36 h
 obtain ⟨w2,b2,hw2,hb2,hs2,E⟩:=fN E hs1 36 h'
 go_enter Tryz.func166,Tryz.ntmps166
 go_upto_region 1 with (fail)
 rw [← hw1,← hw2]
 rw [← hb2,← hb1]
 clear hw1 hw2 hb1 hb2 hs2 hs1
 refine rz [.i 1] N2 [] E (fun hp=>⟨zS,tv⟩) ?_
 intro w3 E _ _
 simp only [Z1] at E ⊢
 have HS:=hidd E
 go_upto_region 2 with (fail)
 go_loopw [5] (fun vs W=>∃ x y s:Int,vs=.int .i64 s∧Hid (ab x<pw 100∧ab y<pw 100)∧Hid (0≤x∧x<y∧y % 2=1∧(s=1∨s=-1)∧J a n.toNat=s*J x y.toNat)∧Fr w [(b2,2,Fq.num y),(b1,2,Fq.num x)] W) (fun _ W=>zFz W b1)
 case atStart=>exact ⟨a,n,1,rfl,⟨ha.out,hn.out⟩,⟨HI0.out.1,HI0.out.2.1,HI0.out.2.2,.inl rfl,by rw [Int.one_mul]⟩,HS.out⟩
 case round=>
  obtain ⟨x,y,s,rfl,HB,HI,E⟩:=hrel
  clear HS HI0 ha hn
  by_cases hb:63<zBb y
  ·have TB:Hid ((63:Int)<((zBb y:Nat):Int)):=by show _<_;omega
   by_cases hx:x=0
   ·subst hx
    have T0:Hid (cmpI (0:Int) 0=0):=cmpIq0.2 rfl
    have HJ:Hid (J a n.toNat=0):=by have:=HI.out;show _=_;rw [this.2.2.2.2,J_zero,if_neg (nbits_gt zm hb),Int.mul_zero]
    clear hb
    go_upto_region 2 with (fail)
    refine rz [.n y,.i ((zBb y:Nat):Int),.t] N2 [] E (fun hp=>⟨lI 0 hp (mq 0 rfl) zw,zc hp zF1 zi fun v w h=>zF7 h,zO hp (sqi 1) TB.out,tv⟩) ?_
    intro w4 E _ _
    simp only [Z1] at E ⊢
    go_upto_region 3 with (fail)
    refine rz [.n 0,.i (cmpI 0 0),.t] N2 [] E (fun hp=>⟨lI 0 hp (mq 1 rfl) zw,zc hp zAz zi fun v w h=>zA0 h,zO hp (sqi 1) T0.out,tv⟩) ?_
    intro w5 E _ _
    simp only [Z1] at E ⊢
    clear TB T0 HB HI HT
    go_wp2
    refine bodyPost_ret (v:=.int .i64 0) ?_ rfl (by first | exact ⟨_,rfl,E.below,by rw [HJ.out]⟩ | exact ⟨_,rfl,E.below⟩ | exact ⟨rfl,E.below⟩)
    simp [results,Tryz.results166,go_sem]
   ·have T0:Hid (¬ cmpI x 0=0):=fun e=>hx (cmpIq0.1 e)
    have HX:Hid (x≠0):=hx
    obtain ⟨⟨o1,o2,o3⟩,hJ⟩:=J_round (x:=x) (y:=y) (by have:=HI.out;omega) (by have:=HI.out;omega) HI.out.2.2.1
    have hA:=zNq (v2 x:Int) (ab y % 4294967296)
    have hC:=zSi (ab (x/2^v2 x) % 4294967296) (ab y % 4294967296)
    obtain ⟨A,eA⟩:∃ A,zBx (v2 x:Int) (ab y % 4294967296)=A:=⟨_,rfl⟩
    obtain ⟨C,eC⟩:∃ C,zC2 (ab (x/2^v2 x) % 4294967296) (ab y % 4294967296)=C:=⟨_,rfl⟩
    rw [eA] at hA hJ
    rw [eC] at hC hJ
    have HA:=hidd eA
    have HC:=hidd eC
    have G1:=hidd (zNe hA hC)
    have G2:=hidd (zNe HI.out.2.2.2.1 (zIm hA hC))
    have HO:Hid (0<x/2^v2 x∧(x/2^v2 x) % 2=1∧x/2^v2 x≤x):=⟨o1,o2,o3⟩
    have HOZ:Hid (x/2^v2 x≠0):=by show _≠_;omega
    have HJ:Hid ((s*(A*C)=1∨s*(A*C)=-1)∧J a n.toNat=s*(A*C)*J (y % (x/2^v2 x)) (x/2^v2 x).toNat):=⟨zIm HI.out.2.2.2.1 (zIm hA hC),by rw [HI.out.2.2.2.2,hJ];ac_rfl⟩
    have BO:Hid (ab (x/2^v2 x)<pw 100):=by have h1:=HB.out.1;have h2:=HI.out;show _<_;unfold ab at *;omega
    have HK:Hid ((v2 x:Int)<9223372036854775808):=v2_lt (by have:=HX.out;exact this) HB.out.1
    clear hx hb o1 o2 o3 hJ hA hC eA eC
    have HBV:=hidd (zFh (zHn (E.box 1 rfl)))
    go_upto_region 2 with (fail)
    refine rz [.n y,.i ((zBb y:Nat):Int),.t] N2 [] E (fun hp=>⟨lI 0 hp (mq 0 rfl) zw,zc hp zF1 zi fun v w h=>zF7 h,zO hp (sqi 1) TB.out,tv⟩) ?_
    intro w6 E _ _
    simp only [Z1] at E ⊢
    go_upto_region 3 with (fail)
    refine rz [.n x,.i (cmpI x 0),.o] N2 [] E (fun hp=>⟨lI 0 hp (mq 1 rfl) zw,zc hp zAz zi fun v w h=>zA0 h,zO hp (sqi 1) T0.out,tv⟩) ?_
    intro w7 E _ _
    simp only [Z1] at E ⊢
    clear TB T0
    go_upto_region 5 with (fail)
    refine rz [.n x,.w (Fq.tup2 (Fq.num (x/2^v2 x)) (Fq.is (.int .i64 (v2 x:Int)))),.w (Fq.tup2 (Fq.num (x/2^v2 x)) (Fq.is (.int .i64 (v2 x:Int)))),.n (x/2^v2 x),.i (v2 x:Int),.k,.a,.i (v2 x:Int)] N2 [⟨5,6,2,Fq.num 0,Fq.num (x/2^v2 x),none⟩] E (fun hp=>⟨lI 0 hp (mq 1 rfl) zw,zIh (F:=(Fq.num x).P) hp fo tv (zJf) rfl (sqi 0) (fun v w hbw h=>zJr h (HT.out.mono hbw) HX.out (Int.lt_of_lt_of_le HB.out.1 (zAa zm))),zS,zS,zS,aN hp (mq 0 rfl),sN 3 hp (mq 0 rfl),zS,tv⟩) ?_
    intro w8 b8_5 E _ _
    simp only [Z1] at E ⊢
    go_upto_region 6 with (fail)
    refine rz [.i s,.i (v2 x:Int),.n y,.u (.int .u32 (ab y % 4294967296)),.i A,.n (x/2^v2 x),.u (.int .u32 (ab (x/2^v2 x) % 4294967296)),.n y,.u (.int .u32 (ab y % 4294967296)),.i C,.i (A*C),.i (s*(A*C)),.i (s*(A*C))] N3 [] E (fun hp=>⟨zFd 12 3 hp fo tv rfl rfl rfl rfl (fun _=>rfl),zS,lI 0 hp (mq 1 rfl) zw,zc hp zD6 zi fun v w h=>zD8 h,zC hp zJg zi zi fun v v' w h h'=>zJs h h' ⟨by omega,HK.out⟩ (zHf _) HA.out,lI 0 hp (mq 0 rfl) zw,zc hp zD6 zi fun v w h=>zD8 h,lI 0 hp (mq 1 rfl) zw,zc hp zD6 zi fun v w h=>zD8 h,zC hp zTc zi zi fun v v' w h h'=>exTurned h h' (zHf _) (zHf _) HC.out,zT hp (sqi 4) (sqi 9) G1.out,zT hp (sqi 0) (sqi 10) G2.out,zS,tv⟩) ?_
    intro w9 E _ _
    simp only [Z1] at E ⊢
    clear G1 G2
    go_upto_region 7 with (fail)
    have B10:Hid (ab ((y % (x/2^v2 x)))<pw 100):=zB4 HOZ.out BO.out
    refine rz [.n (x/2^v2 x),.k,.n y,.n (y % (x/2^v2 x)),.n (x/2^v2 x),.a,.a] [none,some (6,Fq.num (x/2^v2 x)),some (5,Fq.num (y % (x/2^v2 x)))] [⟨1,1,2,Fq.num (x/2^v2 x),Fq.num (x/2^v2 x),(some (.clo 152))⟩] E (fun hp=>⟨lI 0 hp (mq 0 rfl) zw,zEy (F:=(Fq.num (x/2^v2 x)).P) hp zF2 (mq 0 rfl) rfl rfl rfl (sqi 0) (fun v w h=>zGb h) (fun _ _=>trivial) (zCr rfl) (zDx rfl),zAx (off:=0) hp fo tv (mq 1 rfl) (.inr rfl) (Nat.le_of_ble_eq_true rfl) (zAq rfl rfl (fun _ _=>rfl)) (fun us w hl h=>zAw hl h),zIi (F:=(Fq.num y).P) hp fo tv zF3 (mq 0 rfl) rfl (zEr rfl rfl (by simp) rfl) (sqi 2) (fun v b w h hb=>zGa h hb HOZ.out (Int.lt_of_lt_of_le HB.out.2 (zAa zm)) (Int.lt_of_lt_of_le BO.out (zAa zm))),lI 0 hp (mq 0 rfl) zw,zCj hp (mq 2 rfl) rfl rfl (zAq rfl rfl (fun _ _=>rfl)) (zBf 3 rfl rfl (by simp) rfl (fun v w h=>zCc h)) (fun _ _=>trivial) (zBl rfl),zCj hp (mq 1 rfl) rfl rfl (zAq rfl rfl (fun _ _=>rfl)) (zBf 4 rfl rfl (by simp) rfl (fun v w h=>zCc h)) (fun _ _=>trivial) (zBl rfl),tv⟩) ?_
    intro w11 b11_1 E _ _
    simp only [Z1] at E ⊢
    go_roundw
    case rel=>(repeat apply Exists.intro);exact ⟨⟨y % (x/2^v2 x),x/2^v2 x,s*(A*C),rfl,⟨zB4 HOZ.out BO.out,BO.out⟩,⟨Int.emod_nonneg _ HOZ.out,Int.emod_lt_of_pos _ HO.out.1,HO.out.2.1,HJ.out.1,HJ.out.2⟩,E.drop.drop⟩,rfl⟩
    case measure=>rw [zFh (zHn (E.box 3 rfl)),HBV.out];have h1:=HO.out;have h2:=Int.emod_lt_of_pos y h1.1;have h3:=Int.emod_nonneg y HOZ.out;have h4:=HI.out.1;omega
  ·have TB:Hid (¬ (63:Int)<((zBb y:Nat):Int)):=by show ¬ _;omega
   have hy:=zWd (y:=y) (by have:=HI.out;omega) hb
   have HL1:=hidd (zJ8 (z:=x) (by have:=HI.out;omega) (by have:=HI.out;omega))
   have HL2:=hidd (zJ8 (z:=y) (by have:=HI.out;omega) hy)
   have W1:Hid (IntKind.u64.wrap x=x):=by have:=HI.out;show _=_;rw [zB1];omega
   have W2:Hid (IntKind.u64.wrap y=y):=by have:=HI.out;show _=_;rw [zB1];omega
   have HR:Hid (0≤x∧x<18446744073709551616∧0≤y∧y<18446744073709551616):=by have:=HI.out;show _∧_;omega
   have G1:=hidd (zR2 HI.out.2.2.2.1 (J_range x y.toNat))
   clear hb hy
   go_upto_region 2 with (fail)
   refine rz [.n y,.i ((zBb y:Nat):Int),.o] N2 [] E (fun hp=>⟨lI 0 hp (mq 0 rfl) zw,zc hp zF1 zi fun v w h=>zF7 h,zO hp (sqi 1) TB.out,tv⟩) ?_
   intro w12 E _ _
   simp only [Z1] at E ⊢
   clear TB
   go_upto_region 8 with (fail)
   refine rz [.n x,.w (Fq.tup2 (Fq.is (.int .i64 x)) (yT)),.w (Fq.tup2 (Fq.is (.int .i64 x)) (yT)),.i x,.t,.i x,.t] N2 [] E (fun hp=>⟨lI 0 hp (mq 1 rfl) zw,zc hp zHq zi fun v w h=>zHy h HL1.out,zS,zS,zS,zS,zS,tv⟩) ?_
   intro w13 E _ _
   simp only [Z1] at E ⊢
   go_upto_region 9 with (fail)
   refine rz [.n y,.w (Fq.tup2 (Fq.is (.int .i64 y)) (yT)),.w (Fq.tup2 (Fq.is (.int .i64 y)) (yT)),.i y,.t,.i y,.t] N2 [] E (fun hp=>⟨lI 0 hp (mq 0 rfl) zw,zc hp zHq zi fun v w h=>zHy h HL2.out,zS,zS,zS,zS,zS,tv⟩) ?_
   intro w14 E _ _
   simp only [Z1] at E ⊢
   go_upto_region 10 with (fail)
   refine rz [.i s,.i x,.u (.int .u64 x),.i y,.u (.int .u64 y),.i (J x y.toNat),.i (s*J x y.toNat),.i (s*J x y.toNat)] N2 [] E (fun hp=>⟨zS,zS,zO hp (sqi 1) W1.out,zS,zO hp (sqi 3) W2.out,zDz (F:=(Fq.is (.int .u64 x)).P) (G:=(Fq.is (.int .u64 y)).P) hp fo tv (zTb) rfl (sqi 2) (sqi 4) (fun v v' w hbw h h'=>zUj (HT.out.mono hbw) h h' ⟨HR.out.1,HR.out.2.1⟩ HR.out.2.2 HI.out.2.2.1),zT hp (sqi 0) (sqi 5) G1.out,zS,tv⟩) ?_
   intro w15 E _ _
   simp only [Z1] at E ⊢
   have HJ:=hidd HI.out.2.2.2.2
   clear HL1 HL2 W1 W2 HR G1 HI HB HT
   go_wp2
   refine bodyPost_ret (v:=.int .i64 (s*J x y.toNat)) ?_ rfl (by first | exact ⟨_,rfl,E.below,by rw [HJ.out]⟩ | exact ⟨_,rfl,E.below⟩ | exact ⟨rfl,E.below⟩)
   simp [results,Tryz.results166,go_sem]

section
variable {U Y y1 y0 B u q r : Nat}
end
def Least (b p:Nat):Prop:=2≤p∧b % p=0∧∀ q,2≤q→q<p→b % q≠0
def ad (x y:Int × Int):Int × Int:=(x.1+y.1,x.2+y.2)
def sm (c:Int) (x:Int × Int):Int × Int:=(c*x.1,c*x.2)
def Eqp (p:Int) (x y:Int × Int):Prop:=x.1 % p=y.1 % p∧x.2 % p=y.2 % p
theorem Eqp.refl (p:Int) (x:Int × Int):Eqp p x x:=⟨rfl,rfl⟩
theorem Eqp.symm {p:Int} {x y:Int × Int} (h:Eqp p x y):Eqp p y x:=⟨h.1.symm,h.2.symm⟩
theorem Eqp.trans {p:Int} {x y z:Int × Int} (h:Eqp p x y) (h':Eqp p y z):Eqp p x z:=⟨h.1.trans h'.1,h.2.trans h'.2⟩
theorem zQi {p a b c d:Int} (h:a % p=c % p) (h':b % p=d % p):(a*b) % p=(c*d) % p:=by rw [Int.mul_emod,h,h',← Int.mul_emod]
theorem zN2 {p a b c d:Int} (h:a % p=c % p) (h':b % p=d % p):(a+b) % p=(c+d) % p:=by rw [Int.add_emod,h,h',← Int.add_emod]
theorem Eqp.ad {p:Int} {x y x' y':Int × Int} (h:Eqp p x x') (h':Eqp p y y'):Eqp p (ad x y) (ad x' y'):=⟨zN2 h.1 h'.1,zN2 h.2 h'.2⟩
theorem Eqp.sm {p:Int} {c d:Int} {x y:Int × Int} (hc:c % p=d % p) (h:Eqp p x y):Eqp p (sm c x) (sm d y):=⟨zQi hc h.1,zQi hc h.2⟩
def pm (m:Nat):Nat→Nat→Nat→Nat
 | 0,_,_=>1 % m
 | f+1,b,e=>if e=0 then 1 % m else if e % 2=1 then (b*pm m f (b*b % m) (e/2)) % m else pm m f (b*b % m) (e/2)
end Go.Proofs.YtjadciofpgjofaaGreatDoor
namespace Go.Proofs.YtjadciofpgjofaaGreatDoor
open Go Go.RowKit Go.Shelf

attribute [local go_sem] Oper.semAt_some

abbrev MulP (p n:Nat):={ x:Nat // p*p≤x∧x≤n∧x % p=0 }
def KpM (Bp Bn:Nat) (A B:World):Prop:=B.heap[Bp]?=A.heap[Bp]?∧B.heap[Bn]?=A.heap[Bn]?
theorem cell_same {A B:World} {b j:Nat} (h:B.heap[b]?=A.heap[b]?):B.cell? ⟨b,j,none⟩=A.cell? ⟨b,j,none⟩:=by
 unfold World.cell?
 simp only [h]
theorem zV1 {A B:World} {b j:Nat} (h:B.heap[b]?=A.heap[b]?):B.frozen? ⟨b,j,none⟩=A.frozen? ⟨b,j,none⟩:=by
 unfold World.frozen?
 simp only [h]
theorem KpM.trans {Bp Bn:Nat} {A B C:World} (h:KpM Bp Bn A B) (k:KpM Bp Bn B C):KpM Bp Bn A C:=⟨k.1.trans h.1,k.2.trans h.2⟩
attribute [local go_sem] Oper.semAt_some

def isP (q:Nat):Bool:=decide (2≤q) && (List.range q).all (fun d=>decide (d<2) || decide (q % d≠0))
def mkB (p m:Nat):Bool:=(List.range p).any (fun q=>isP q && decide (q*q≤m) && (m % q == 0))
def below (p:Nat):List Nat:=(List.range p).filter isP
def Ni (W:World) (B:Nat) (v:Value) (xs:List Nat):Prop:=W.ownsRow B 3 1 v xs.length (xs.map fun x:Nat=>Value.int .i64 (x:Int))
theorem Ni.shape {W:World} {B:Nat} {v:Value} {xs:List Nat} (h:Ni W B v xs):∃ ao cap,v=.slice ao xs.length cap:=by
 rcases h.2 with ⟨rfl,h0⟩ | ⟨g,cap,cur,rfl,_⟩
 ·exact ⟨none,0,by rw [h0]⟩
 ·exact ⟨_,_,rfl⟩
theorem Ni.nil (w:World) (B:Nat):Ni w B (.slice none 0 0) []:=World.ownsRow_nil w B _ _
theorem Ni.mono {w w':World} {B:Nat} {v:Value} {xs:List Nat} (h:Ni w B v xs) (hb:∀ g,(∃ cur t r,w.heap[g]?=some (.cells cur t r))→B≤g→v.ownBlock=some g→w'.heap[g]?=w.heap[g]?):Ni w' B v xs:=by
 refine ⟨h.1,?_⟩
 rcases h.2 with h2 | ⟨g,cap,cur,h1,h2,h3,h4⟩
 ·exact .inl h2
 ·exact .inr ⟨g,cap,cur,h1,h2,by rw [hb g ⟨_,_,_,h3⟩ h2 (by rw [h1];rfl)];exact h3,h4⟩
theorem Ni.below {w w':World} {B:Nat} {v:Value} {xs:List Nat} (h:Ni w B v xs) (hb:Below w.heap.size w w'):Ni w' B v xs:=
 h.mono fun g ⟨_,_,_,hg⟩ _ _=>hb.block g (Array.getElem?_eq_some_iff.1 hg).1
theorem Ni.cell {w:World} {B:Nat} {ao:Option Addr} {n c:Nat} {xs:List Nat} (h:Ni w B (.slice ao n c) xs) {i:Nat} (hi:i<xs.length):∃ g,ao=some ⟨g,0,none⟩∧w.cell? ⟨g,i,none⟩=some (.int .i64 ((xs.getD i 0:Nat):Int)):=by
 rcases h.2 with ⟨_,h0⟩ | ⟨g,cap,cur,e,_⟩
 ·omega
 ·injection e with e1 e2 e3
  subst e1
  have:=World.ownsRow.cells h (g:=g) rfl i (.int .i64 ((xs.getD i 0:Nat):Int)) (by simp [hi])
  rw [zK2] at this
  exact ⟨g,rfl,this⟩
def Bo (W:World) (C N:Nat) (f:Nat→Bool):Prop:=∀ m,m≤N→W.cell? ⟨C,m,none⟩=some (.bool (f m))∧W.frozen? ⟨C,m,none⟩=false
def Marks (B:Nat) (W:World) (ds:List Deferred):Prop:=∃ Ds:List Nat,ds=Ds.map (fun D=>{ target:=.collected D,args:=#[] })∧Ds.Nodup∧∀ D∈Ds,B≤D∧W.heap[D]?=some (Obj.deferred (some []))
theorem Marks.mono {B:Nat} {W W':World} {ds:List Deferred} (h:Marks B W ds) (hk:∀ D:Nat,W.heap[D]?=some (Obj.deferred (some []))→W'.heap[D]?=some (Obj.deferred (some []))):Marks B W' ds:=by
 obtain ⟨Ds,h1,h2,h3⟩:=h
 exact ⟨Ds,h1,h2,fun D hD=>⟨(h3 D hD).1,hk D (h3 D hD).2⟩⟩
theorem Marks.nil (B:Nat) (W:World):Marks B W []:=⟨[],rfl,List.nodup_nil,fun _ h=>by simp at h⟩
theorem Marks.cons {B:Nat} {W W1:World} {ds:List Deferred} (h:Marks B W1 ds) (hk:∀ E,E<W1.heap.size→W.heap[E]?=W1.heap[E]?∨W1.heap[E]?≠some (Obj.deferred (some []))) {D:Nat} (hB:B≤D) (hD1:W1.heap.size≤D) (hD:W.heap[D]?=some (Obj.deferred (some []))):Marks B W ({ target:=.collected D,args:=#[] } :: ds):=by
 obtain ⟨Ds,rfl,h2,h3⟩:=h
 have hlt:∀ E∈Ds,E<W1.heap.size:=fun E hE=>(Array.getElem?_eq_some_iff.1 (h3 E hE).2).1
 refine ⟨D::Ds,rfl,List.nodup_cons.2 ⟨fun hm=>?_,h2⟩,fun E hE=>?_⟩
 ·have:=hlt D hm;omega
 ·rcases List.mem_cons.1 hE with rfl | hE
  ·exact ⟨hB,hD⟩
  ·refine ⟨(h3 E hE).1,?_⟩
   rcases hk E (hlt E hE) with e | e
   ·exact e.trans (h3 E hE).2
   ·exact absurd (h3 E hE).2 e
attribute [local go_sem] Oper.semAt_some

def SvI (C N p:Nat) (S:World) (pre:List (MulP p N)) (W:World):Prop:=
 S.heap.size≤W.heap.size∧(∀ k,k<S.heap.size→k≠C→W.heap[k]?=S.heap[k]?)∧Bo W C N (fun m=>mkB p m || pre.any (fun x=>x.1 == m))∧Below C S W
theorem SvI.own {C N p:Nat} {S:World} (hC:C<S.heap.size):OwnFrom S.heap.size (SvI C N p S):=
 fun s A B row hs hg hr=>⟨Nat.le_trans hs.1 hg.size,fun k hk hkC=>(hg.block k (by have:=hs.1;omega) (fun e=>by have:=(hr k e.symm).1;omega)).trans (hs.2.1 k hk hkC),fun m hm=>by
  have hc:B.heap[C]?=A.heap[C]?:=hg.block C (by have:=hs.1;omega) (fun e=>by have:=(hr C e.symm).1;omega)
  rw [cell_same hc,zV1 hc]
  exact hs.2.2.1 m hm,hs.2.2.2.grown hg (by have:=hs.1;omega) (fun k e=>by have:=(hr k e).1;omega)⟩
theorem SvI.step {C N p:Nat} {S W:World} {pre:List (MulP p N)} {x:MulP p N} {y:Nat} (h:SvI C N p S pre W) (hy:y=x.1) (hyN:y≤N):SvI C N p S (pre ++ [x]) (W.setCell ⟨C,y,none⟩ (.bool true)):=by
 obtain ⟨h1,h2,h3,h4⟩:=h
 refine ⟨Nat.le_trans h1 (KeepsOthers.setCell _ _ _).size,fun k hk hkC=>(Below.heap_setCell _ _ _ k (fun e=>hkC e)).trans (h2 k hk hkC),fun m hm=>?_,h4.setCell (p:=⟨C,y,none⟩) (Nat.le_refl _) _⟩
 rw [World.frozen?_setCell]
 refine ⟨?_,(h3 m hm).2⟩
 show _=some (Value.bool (mkB p m || (pre ++ [x]).any (fun x=>x.1 == m)))
 have h3m:W.cell? ⟨C,m,none⟩=some (.bool (mkB p m || pre.any (fun x=>x.1 == m))):=(h3 m hm).1
 rw [List.any_append,List.any_cons,List.any_nil,Bool.or_false,← hy]
 by_cases e:m=y
 ·subst e
  rw [World.cell?_setCell_same' _ _ _ (by rw [h3m];rfl)]
  simp
 ·rw [World.cell?_setCell_other _ _ _ _ (by intro e2;injection e2 with e3 e4;omega),h3m]
  have:(y == m)=false:=by simp;omega
  rw [this,Bool.or_false]
end Go.Proofs.YtjadciofpgjofaaGreatDoor
namespace Go.Proofs.YtjadciofpgjofaaGreatDoor
open Go Go.RowKit

theorem neg_pow:∀ t:Nat,(-1:Int)^t=if t % 2=1 then -1 else 1
 | 0=>rfl
 | t+1=>by
  rw [Int.pow_succ,neg_pow t]
  by_cases h:t % 2=1
  ·rw [if_pos h,if_neg zm];rfl
  ·rw [if_neg h,if_pos zm];rfl
theorem zQr:∀ t:Nat,(1:Int)^t=1
 | 0=>rfl
 | t+1=>by rw [Int.pow_succ,zQr t];rfl
theorem zPz (a:Int) {N:Nat} (hN:N≠0):∀ t:Nat,kro a (2^t*N)=two a^t*kro a N
 | 0=>by rw [Nat.pow_zero,Nat.one_mul,Int.pow_zero,Int.one_mul]
 | t+1=>by
  have h:2^t*N≠0:=Nat.mul_ne_zero (by have:=Nat.two_pow_pos t;omega) hN
  rw [Nat.pow_succ,Nat.mul_comm (2^t) 2,Nat.mul_assoc,zPy h,zPz a hN t,Int.pow_succ]
  ac_rfl
theorem two_twosZ {a:Int} {t:Nat} (h:a % 2=1∨t=0):two a^t=zBx (t:Int) (ab a % 4294967296):=by
 rcases Nat.eq_zero_or_pos t with rfl | ht
 ·rw [Int.pow_zero];unfold zBx;rw [if_neg zm]
 ·have ha:a % 2=1:=by omega
  unfold zBx two ab
  rw [if_neg zm]
  by_cases h3:a % 8=3∨a % 8=5
  ·rw [if_pos h3,neg_pow]
   by_cases h2:t % 2=1
   ·rw [if_pos h2,if_pos zm]
   ·rw [if_neg h2,if_neg zm]
  ·rw [if_neg h3,if_neg zm,zQr]
def sg2 (a n:Int):Int:=if a<0∧n<0 then -1 else 1
theorem sg2_or (a n:Int):sg2 a n=1∨sg2 a n=-1:=by unfold sg2;split <;> simp
theorem zV5 {a n:Int} (hn:n≠0) (hp:¬ (a % 2=0∧n % 2=0)) :
  (0<(Int.natAbs (n/2^v2 n):Int)∧(Int.natAbs (n/2^v2 n):Int) % 2=1∧ab (n/2^v2 n)≤ab n) ∧
  kron a n=sg2 a n*zBx (v2 n:Int) (ab a % 4294967296)*J (a % (Int.natAbs (n/2^v2 n):Int)) (Int.natAbs (n/2^v2 n):Int).toNat:=by
 obtain ⟨h1,h2⟩:=v2_div (z:=n) hn
 generalize ht:v2 n=t at *
 generalize hO:n/2^t=o at *
 have hn2:n.natAbs=2^t*o.natAbs:=by
  have:=congrArg Int.natAbs h1
  rw [Int.natAbs_mul,Int.natAbs_pow] at this
  exact this
 have ho:o.natAbs % 2=1:=by omega
 have hle:o.natAbs≤n.natAbs:=by
  rw [hn2]
  exact Nat.le_mul_of_pos_left _ (Nat.two_pow_pos t)
 refine ⟨⟨by omega,by omega,by unfold ab;omega⟩,?_⟩
 have hodd:a % 2=1∨t=0:=by
  rcases Nat.eq_zero_or_pos t with h | h
  ·exact .inr h
  ·obtain ⟨s,rfl⟩:∃ s,t=s+1:=⟨t-1,by omega⟩
   rw [Nat.pow_succ,Nat.mul_comm (2^s) 2,Nat.mul_assoc] at hn2
   generalize 2^s*o.natAbs=q at hn2
   omega
 rw [Int.toNat_natCast,J_mod]
 unfold kron sg2
 rw [if_neg hn,hn2,zPz a zm,two_twosZ hodd,zL5 ho]
 ac_rfl
theorem kron_even {a n:Int} (hn:n≠0) (hp:a % 2=0∧n % 2=0):kron a n=0:=by
 have h:kro a n.natAbs=0:=by
  refine (kro_zero n.natAbs zm).2 fun e=>?_
  have h2:((2:Nat):Int) ∣ (Int.gcd a n.natAbs:Nat):=Int.ofNat_dvd.2 (Int.dvd_gcd (Int.dvd_of_emod_eq_zero hp.1) zm)
  rw [e] at h2
  omega
 unfold kron
 rw [if_neg hn,h,Int.mul_zero]
theorem zN4 {z:Int}:bits .and .u32 (ab z % 4294967296) 1=ab z % 2:=by
 obtain ⟨x,hx⟩:=Int.eq_ofNat_of_zero_le (show 0≤ab z by unfold ab;omega)
 have h:=zI2 (x % 4294967296) 1 zm zd
 have e:(x % 4294967296) &&& 1=x % 2:=by rw [Nat.and_one_is_mod];omega
 rw [e] at h
 rw [hx]
 have e2:((x % 4294967296:Nat):Int)=(x:Int) % 4294967296:=by omega
 rw [e2] at h
 exact h.trans zm
theorem zLt {w:World} {v v':Value} {a n r:Int} (h:Num w v a) (h':Num w v' n) (hT:Tabs w) (ha:ab a<pw 100) (hn:ab n<pw 100) (hi:0≤a∧a<n∧n % 2=1) (hr:J a n.toNat=r) :
  Rt 166 #[v,v'] w fun v' w'=>v'=.int .i64 r:=by
 subst hr
 exact exJacobi h h' hT ha hn hi
theorem zUk {w:World} {v v':Value} {a n:Int} (h:Num w v a) (h':Num w v' n) (hT:Tabs w) (ha:ab a<pw 100) (hn:ab n<pw 100) :
  Rt 159 #[v,v'] w fun v' w'=>v'=.int .i64 (kron a n):=by
 replace ha:=hidd ha
 replace hn:=hidd hn
 have HT:=hidd hT
 clear hT
 obtain ⟨n0,ao0,k0,c0,rfl⟩:=h.parts
 obtain ⟨n1,ao1,k1,c1,rfl⟩:=h'.parts
 obtain ⟨w1,b1,hw1,hb1,hs1,E⟩:=gN w 36 h
 obtain ⟨w2,b2,hw2,hb2,hs2,E⟩:=fN E hs1 36 h'
 go_enter Tryz.func159,Tryz.ntmps159
 go_upto_region 1 with (fail)
 rw [← hw1,← hw2]
 rw [← hb2,← hb1]
 clear hw1 hw2 hb1 hb2 hs2 hs1
 have HA1:=hidd (zN4 (z:=a))
 have HN1:=hidd (zN4 (z:=n))
 by_cases h0:n=0
 ·subst h0
  have T0:Hid (cmpI (0:Int) 0=0):=cmpIq0.2 rfl
  refine rz [.n 0,.i (cmpI 0 0),.t] N2 [] E (fun hp=>⟨lI 0 hp (mq 0 rfl) zw,zc hp zAz zi fun v w h=>zA0 h,zO hp (sqi 1) T0.out,tv⟩) ?_
  intro w3 E _ _
  simp only [Z1] at E ⊢
  clear T0
  by_cases h1:a.natAbs=1
  ·have T2:Hid (decide ((Int.natAbs a:Int)=1)=true):=decide_eq_true zm
   have HK:Hid (kron a 0=1):=by show _=_;unfold kron;rw [if_pos rfl,if_pos h1]
   clear h1
   go_upto_region 2 with (fail)
   have B4:Hid (ab ((Int.natAbs a:Int))<pw 100):=zBm ha.out
   refine rz [.n a,.n (Int.natAbs a:Int),.t] N2 [] E (fun hp=>⟨lI 0 hp (mq 1 rfl) zw,zc hp zDc zi fun v w h=>exK (AbsV h) B4.out zm,zc hp zOh zi fun v w h=>zPd h T2.out,tv⟩) ?_
   intro w5 E _ _
   simp only [Z1] at E ⊢
   clear T2 HT HA1 HN1
   go_upto_region 3 with (fail)
   refine rz [.i 1] N2 [] E (fun hp=>⟨zS,tv⟩) ?_
   intro w6 E _ _
   simp only [Z1] at E ⊢
   clear B4 ha hn
   go_wp2
   refine bodyPost_ret (v:=.int .i64 1) ?_ rfl (by first | exact ⟨_,rfl,E.below,by rw [HK.out]⟩ | exact ⟨_,rfl,E.below⟩ | exact ⟨rfl,E.below⟩)
   simp [results,Tryz.results159,go_sem]
  ·have T2:Hid (decide ((Int.natAbs a:Int)=1)=false):=decide_eq_false zm
   have HK:Hid (kron a 0=0):=by show _=_;unfold kron;rw [if_pos rfl,if_neg h1]
   clear h1
   go_upto_region 2 with (fail)
   have B7:Hid (ab ((Int.natAbs a:Int))<pw 100):=zBm ha.out
   refine rz [.n a,.n (Int.natAbs a:Int),.o] N2 [] E (fun hp=>⟨lI 0 hp (mq 1 rfl) zw,zc hp zDc zi fun v w h=>exK (AbsV h) B7.out zm,zc hp zOh zi fun v w h=>zPd h T2.out,tv⟩) ?_
   intro w8 E _ _
   simp only [Z1] at E ⊢
   clear T2 HT HA1 HN1
   go_upto_region 4 with (fail)
   refine rz [.i 0] N2 [] E (fun hp=>⟨zS,tv⟩) ?_
   intro w9 E _ _
   simp only [Z1] at E ⊢
   clear B7 ha hn
   go_wp2
   refine bodyPost_ret (v:=.int .i64 0) ?_ rfl (by first | exact ⟨_,rfl,E.below,by rw [HK.out]⟩ | exact ⟨_,rfl,E.below⟩ | exact ⟨rfl,E.below⟩)
   simp [results,Tryz.results159,go_sem]
 ·have HNZ:=hidd h0
  have T0:Hid (¬ cmpI n 0=0):=fun e=>h0 (cmpIq0.1 e)
  clear h0
  refine rz [.n n,.i (cmpI n 0),.o] N2 [] E (fun hp=>⟨lI 0 hp (mq 0 rfl) zw,zc hp zAz zi fun v w h=>zA0 h,zO hp (sqi 1) T0.out,tv⟩) ?_
  intro w10 E _ _
  simp only [Z1] at E ⊢
  clear T0
  by_cases hb:a % 2=0∧n % 2=0
  ·have HK:=hidd (kron_even HNZ.out hb)
   have P1:Hid (ab a % 2=0):=by show _=_;unfold ab;omega
   have P2:Hid (ab n % 2=0):=by show _=_;unfold ab;omega
   clear hb
   go_upto_region 5 with (fail)
   refine rz [.n a,.u (.int .u32 (ab a % 4294967296)),.u (.int .u32 (ab a % 2)),.t,.t,.n n,.u (.int .u32 (ab n % 4294967296)),.u (.int .u32 (ab n % 2)),.t,.t] N2 [] E (fun hp=>⟨lI 0 hp (mq 1 rfl) zw,zc hp zD6 zi fun v w h=>zD8 h,zO hp (sqi 1) HA1.out,zO hp (sqi 2) P1.out,zS,zAx (off:=0) hp fo gqi (mq 0 rfl) (.inl rfl) (Nat.le_of_ble_eq_true rfl) (zAq rfl rfl (fun _ _=>rfl)) (fun us w hl h=>zAw hl h),zc hp zD6 zi (fun v w h=>zD8 h),zO hp (sqi 6) HN1.out,zO hp (sqi 7) P2.out,zt hp (sqi 4) (sqi 8),tv⟩) ?_
   intro w11 E _ _
   simp only [Z1] at E ⊢
   clear P1 P2 HA1 HN1 HT
   go_upto_region 6 with (fail)
   refine rz [.i 0] N2 [] E (fun hp=>⟨zS,tv⟩) ?_
   intro w12 E _ _
   simp only [Z1] at E ⊢
   clear ha hn
   go_wp2
   refine bodyPost_ret (v:=.int .i64 0) ?_ rfl (by first | exact ⟨_,rfl,E.below,by rw [HK.out]⟩ | exact ⟨_,rfl,E.below⟩ | exact ⟨rfl,E.below⟩)
   simp [results,Tryz.results159,go_sem]
  ·go_upto_region 5 with (fail)
   go_cut [22] from 13 (fun s W=>s=.bool false∧Fr w [(b2,2,Fq.num n),(b1,2,Fq.num a)] W)
   case first=>
    by_cases ho:a % 2=1
    ·have P1:Hid (¬ ab a % 2=0):=by show ¬ _;unfold ab;omega
     clear ho hb
     refine rz [.n a,.u (.int .u32 (ab a % 4294967296)),.u (.int .u32 (ab a % 2)),.o,.o,.u (undef),.u (undef),.u (undef),.u (undef),.o] N2 [] E (fun hp=>⟨lI 0 hp (mq 1 rfl) zw,zc hp zD6 zi fun v w h=>zD8 h,zO hp (sqi 1) HA1.out,zO hp (sqi 2) P1.out,zS,zS,zS,zS,zS,zt hp (sqi 4) (zk (.bool false)),tv⟩) ?_
     intro w13 E _ _
     simp only [Z1] at E ⊢
     go_wp2_with (fail)
     go_meet
     case rel=>exact ⟨rfl,E⟩
    ·have P1:Hid (ab a % 2=0):=by show _=_;unfold ab;omega
     have P2:Hid (¬ ab n % 2=0):=by show ¬ _;unfold ab;omega
     clear ho hb
     refine rz [.n a,.u (.int .u32 (ab a % 4294967296)),.u (.int .u32 (ab a % 2)),.t,.t,.n n,.u (.int .u32 (ab n % 4294967296)),.u (.int .u32 (ab n % 2)),.o,.o] N2 [] E (fun hp=>⟨lI 0 hp (mq 1 rfl) zw,zc hp zD6 zi fun v w h=>zD8 h,zO hp (sqi 1) HA1.out,zO hp (sqi 2) P1.out,zS,zAx (off:=0) hp fo gqi (mq 0 rfl) (.inl rfl) (Nat.le_of_ble_eq_true rfl) (zAq rfl rfl (fun _ _=>rfl)) (fun us w hl h=>zAw hl h),zc hp zD6 zi (fun v w h=>zD8 h),zO hp (sqi 6) HN1.out,zO hp (sqi 7) P2.out,zt hp (sqi 4) (sqi 8),tv⟩) ?_
     intro w14 E _ _
     simp only [Z1] at E ⊢
     go_wp2_with (fail)
     go_meet
     case rel=>exact ⟨rfl,E⟩
   case rest=>
    clear E
    obtain ⟨rfl,E⟩:=hcut
    clear HA1 HN1
    obtain ⟨⟨k1,k2,k3⟩,hk⟩:=zV5 HNZ.out hb
    clear hb
    have hS:=sg2_or a n
    have hA:=zNq (v2 n:Int) (ab a % 4294967296)
    have hR:=J_range (a % (Int.natAbs (n/2^v2 n):Int)) (Int.natAbs (n/2^v2 n):Int).toNat
    obtain ⟨S,eS⟩:∃ S,sg2 a n=S:=⟨_,rfl⟩
    obtain ⟨A,eA⟩:∃ A,zBx (v2 n:Int) (ab a % 4294967296)=A:=⟨_,rfl⟩
    obtain ⟨R,eR⟩:∃ R,J (a % (Int.natAbs (n/2^v2 n):Int)) (Int.natAbs (n/2^v2 n):Int).toNat=R:=⟨_,rfl⟩
    rw [eS,eA,eR] at hk
    rw [eS] at hS
    rw [eA] at hA
    rw [eR] at hR
    have HS:=hidd eS
    have HA:=hidd eA
    have HR:=hidd eR
    have HK:=hidd hk
    have G1:=hidd (zNe hS hA)
    have G2:=hidd (zR2 (zIm hS hA) hR)
    clear hS hA hR eS eA eR hk
    have BO:Hid (ab (n/2^v2 n)<pw 100):=Int.lt_of_le_of_lt k3 hn.out
    have HM0:Hid ((Int.natAbs (n/2^v2 n):Int)≠0):=by show _≠_;omega
    have HI:Hid (0≤a % (Int.natAbs (n/2^v2 n):Int)∧a % (Int.natAbs (n/2^v2 n):Int)<(Int.natAbs (n/2^v2 n):Int)∧(Int.natAbs (n/2^v2 n):Int) % 2=1):=⟨Int.emod_nonneg _ zm,Int.emod_lt_of_pos _ k1,k2⟩
    have HK2:Hid ((v2 n:Int)<9223372036854775808):=v2_lt HNZ.out hn.out
    clear k1 k2 k3
    go_upto_region 7 with (fail)
    refine rz [.i 1] N2 [] E (fun hp=>⟨zS,tv⟩) ?_
    intro w15 E _ _
    simp only [Z1] at E ⊢
    by_cases h1:a<0
    ·have P1:Hid (cmpI a 0<0):=cmpIqlt.2 h1
     by_cases h2:n<0
     ·have P2:Hid (cmpI n 0<0):=cmpIqlt.2 h2
      have P3:Hid (S=-1):=by show _=_;rw [← HS.out];unfold sg2;rw [if_pos ⟨h1,h2⟩]
      clear h1 h2
      go_upto_region 8 with (fail)
      refine rz [.n a,.i (cmpI a 0),.t,.t,.n n,.i (cmpI n 0),.t,.t] N2 [] E (fun hp=>⟨lI 0 hp (mq 1 rfl) zw,zc hp zAz zi fun v w h=>zA0 h,zO hp (sqi 1) P1.out,zS,zAx (off:=0) hp fo gqi (mq 0 rfl) (.inl rfl) (Nat.le_of_ble_eq_true rfl) (zAq rfl rfl (fun _ _=>rfl)) (fun us w hl h=>zAw hl h),zc hp zAz zi (fun v w h=>zA0 h),zO hp (sqi 5) P2.out,zt hp (sqi 3) (sqi 6),tv⟩) ?_
      intro w16 E _ _
      simp only [Z1] at E ⊢
      clear P1 P2
      go_upto_region 9 with (fail)
      refine rz [.i (-1)] N2 [] E (fun hp=>⟨zS,tv⟩) ?_
      intro w17 E _ _
      simp only [Z1] at E ⊢
      replace G1:=hidd (show IntKind.i64.wrap (-A)=S*A by have:=G1.out;rw [P3.out] at this ⊢;rw [show -A=-1*A by omega];exact this)
      clear HS P3
      go_upto_region 10 with (fail)
      refine rz [.n n,.w (Fq.tup2 (Fq.num (n/2^v2 n)) (Fq.is (.int .i64 (v2 n:Int)))),.w (Fq.tup2 (Fq.num (n/2^v2 n)) (Fq.is (.int .i64 (v2 n:Int)))),.n (n/2^v2 n),.i (v2 n:Int),.a,.i (v2 n:Int)] [some (5,Fq.num (n/2^v2 n)),none] [] E (fun hp=>⟨zAx (off:=0) hp fo tv (mq 0 rfl) (.inr rfl) (Nat.le_of_ble_eq_true rfl) (zAq rfl rfl (fun _ _=>rfl)) (fun us w hl h=>zAw hl h),zIh (F:=(Fq.num n).P) hp fo tv (zJf) rfl (sqi 0) (fun v w hbw h=>zJr h (HT.out.mono hbw) HNZ.out (Int.lt_of_lt_of_le hn.out (zAa zm))),zS,zS,zS,zCj hp (mq 0 rfl) rfl rfl (zAq rfl rfl (fun _ _=>rfl)) (zBf 3 rfl rfl (by simp) rfl (fun v w h=>zCc h)) (fun _ _=>trivial) (zBl rfl),zS,tv⟩) ?_
      intro w18 E _ _
      simp only [Z1] at E ⊢
      go_upto_region 11 with (fail)
      refine rz [.i (-1),.i (v2 n:Int),.n a,.u (.int .u32 (ab a % 4294967296)),.i A,.i (S*A),.i (S*A)] N2 [] E (fun hp=>⟨zFd 6 3 hp fo tv rfl rfl rfl rfl (fun _=>rfl),zS,lI 0 hp (mq 1 rfl) zw,zc hp zD6 zi fun v w h=>zD8 h,zC hp zJg zi zi fun v v' w h h'=>zJs h h' ⟨by omega,HK2.out⟩ (zHf _) HA.out,zT hp (sqi 0) (sqi 4) G1.out,zS,tv⟩) ?_
      intro w19 E _ _
      simp only [Z1] at E ⊢
      go_upto_region 12 with (fail)
      have B20:Hid (ab ((Int.natAbs (n/2^v2 n):Int))<pw 100):=zBm BO.out
      refine rz [.n (n/2^v2 n),.n (Int.natAbs (n/2^v2 n):Int),.a] [some (2,Fq.num (Int.natAbs (n/2^v2 n):Int)),none] [] E (fun hp=>⟨zAx (off:=0) hp fo tv (mq 0 rfl) (.inr rfl) (Nat.le_of_ble_eq_true rfl) (zAq rfl rfl (fun _ _=>rfl)) (fun us w hl h=>zAw hl h),zc hp zDc zi fun v w h=>exK (AbsV h) B20.out zm,zCj hp (mq 0 rfl) rfl rfl (zAq rfl rfl (fun _ _=>rfl)) (zBf 1 rfl rfl (by simp) rfl (fun v w h=>zCc h)) (fun _ _=>trivial) (zBl rfl),tv⟩) ?_
      intro w21 E _ _
      simp only [Z1] at E ⊢
      go_upto_region 13 with (fail)
      have B22:Hid (ab ((a % (Int.natAbs (n/2^v2 n):Int)))<pw 100):=zB4 HM0.out B20.out
      refine rz [.i (S*A),.n (Int.natAbs (n/2^v2 n):Int),.k,.n a,.n (a % (Int.natAbs (n/2^v2 n):Int)),.n (Int.natAbs (n/2^v2 n):Int),.i R,.i (S*A*R),.i (S*A*R)] N2 [⟨2,2,2,Fq.num (Int.natAbs (n/2^v2 n):Int),Fq.num (Int.natAbs (n/2^v2 n):Int),(some (.clo 152))⟩] E (fun hp=>⟨zS,lI 0 hp (mq 0 rfl) zw,zEy (F:=(Fq.num (Int.natAbs (n/2^v2 n):Int)).P) hp zF2 (mq 0 rfl) rfl rfl rfl (sqi 1) (fun v w h=>zGb h) (fun _ _=>trivial) (zCr rfl) (zDx rfl),lI 0 hp (mq 1 rfl) zw,zIi (F:=(Fq.num a).P) hp fo tv zF3 (mq 0 rfl) rfl (zEr rfl rfl (by simp) rfl) (sqi 3) (fun v b w h hb=>zGa h hb HM0.out (Int.lt_of_lt_of_le ha.out (zAa zm)) (Int.lt_of_lt_of_le B20.out (zAa zm))),lI 0 hp (mq 0 rfl) zw,zDz (F:=(Fq.num (a % (Int.natAbs (n/2^v2 n):Int))).P) (G:=(Fq.num (Int.natAbs (n/2^v2 n):Int)).P) hp fo tv (zLd) rfl (sqi 4) (sqi 5) (fun v v' w hbw h h'=>zLt h h' (HT.out.mono hbw) (Int.lt_of_lt_of_le B22.out (zAa zm)) (Int.lt_of_lt_of_le B20.out (zAa zm)) HI.out HR.out),zT hp (sqi 0) (sqi 6) G2.out,zS,tv⟩) ?_
      intro w23 b23_2 E _ _
      simp only [Z1] at E ⊢
      clear HT HA HR G1 G2 HI HK2 HM0 HNZ BO
      clear B20 B22 ha hn
      go_wp2
      refine bodyPost_ret (v:=.int .i64 (S*A*R)) ?_ rfl (by first | exact ⟨_,rfl,E.below,by rw [HK.out]⟩ | exact ⟨_,rfl,E.below⟩ | exact ⟨rfl,E.below⟩)
      simp [results,Tryz.results159,go_sem]
     ·have P2:Hid (¬ cmpI n 0<0):=mt cmpIqlt.1 h2
      have P3:Hid (S=1):=by show _=_;rw [← HS.out];unfold sg2;rw [if_neg (fun h=>h2 h.2)]
      clear h1 h2
      go_upto_region 8 with (fail)
      refine rz [.n a,.i (cmpI a 0),.t,.t,.n n,.i (cmpI n 0),.o,.o] N2 [] E (fun hp=>⟨lI 0 hp (mq 1 rfl) zw,zc hp zAz zi fun v w h=>zA0 h,zO hp (sqi 1) P1.out,zS,zAx (off:=0) hp fo gqi (mq 0 rfl) (.inl rfl) (Nat.le_of_ble_eq_true rfl) (zAq rfl rfl (fun _ _=>rfl)) (fun us w hl h=>zAw hl h),zc hp zAz zi (fun v w h=>zA0 h),zO hp (sqi 5) P2.out,zt hp (sqi 3) (sqi 6),tv⟩) ?_
      intro w24 E _ _
      simp only [Z1] at E ⊢
      clear P1 P2
      replace G1:=hidd (show IntKind.i64.wrap A=S*A by have:=G1.out;rw [P3.out] at this ⊢;rw [Int.one_mul] at this ⊢;exact this)
      clear HS P3
      go_upto_region 10 with (fail)
      refine rz [.n n,.w (Fq.tup2 (Fq.num (n/2^v2 n)) (Fq.is (.int .i64 (v2 n:Int)))),.w (Fq.tup2 (Fq.num (n/2^v2 n)) (Fq.is (.int .i64 (v2 n:Int)))),.n (n/2^v2 n),.i (v2 n:Int),.a,.i (v2 n:Int)] [some (5,Fq.num (n/2^v2 n)),none] [] E (fun hp=>⟨zAx (off:=0) hp fo tv (mq 0 rfl) (.inr rfl) (Nat.le_of_ble_eq_true rfl) (zAq rfl rfl (fun _ _=>rfl)) (fun us w hl h=>zAw hl h),zIh (F:=(Fq.num n).P) hp fo tv (zJf) rfl (sqi 0) (fun v w hbw h=>zJr h (HT.out.mono hbw) HNZ.out (Int.lt_of_lt_of_le hn.out (zAa zm))),zS,zS,zS,zCj hp (mq 0 rfl) rfl rfl (zAq rfl rfl (fun _ _=>rfl)) (zBf 3 rfl rfl (by simp) rfl (fun v w h=>zCc h)) (fun _ _=>trivial) (zBl rfl),zS,tv⟩) ?_
      intro w25 E _ _
      simp only [Z1] at E ⊢
      go_upto_region 11 with (fail)
      refine rz [.i 1,.i (v2 n:Int),.n a,.u (.int .u32 (ab a % 4294967296)),.i A,.i (S*A),.i (S*A)] N2 [] E (fun hp=>⟨zFd 6 3 hp fo tv rfl rfl rfl rfl (fun _=>rfl),zS,lI 0 hp (mq 1 rfl) zw,zc hp zD6 zi fun v w h=>zD8 h,zC hp zJg zi zi fun v v' w h h'=>zJs h h' ⟨by omega,HK2.out⟩ (zHf _) HA.out,zT hp (sqi 0) (sqi 4) G1.out,zS,tv⟩) ?_
      intro w26 E _ _
      simp only [Z1] at E ⊢
      go_upto_region 12 with (fail)
      have B27:Hid (ab ((Int.natAbs (n/2^v2 n):Int))<pw 100):=zBm BO.out
      refine rz [.n (n/2^v2 n),.n (Int.natAbs (n/2^v2 n):Int),.a] [some (2,Fq.num (Int.natAbs (n/2^v2 n):Int)),none] [] E (fun hp=>⟨zAx (off:=0) hp fo tv (mq 0 rfl) (.inr rfl) (Nat.le_of_ble_eq_true rfl) (zAq rfl rfl (fun _ _=>rfl)) (fun us w hl h=>zAw hl h),zc hp zDc zi fun v w h=>exK (AbsV h) B27.out zm,zCj hp (mq 0 rfl) rfl rfl (zAq rfl rfl (fun _ _=>rfl)) (zBf 1 rfl rfl (by simp) rfl (fun v w h=>zCc h)) (fun _ _=>trivial) (zBl rfl),tv⟩) ?_
      intro w28 E _ _
      simp only [Z1] at E ⊢
      go_upto_region 13 with (fail)
      have B29:Hid (ab ((a % (Int.natAbs (n/2^v2 n):Int)))<pw 100):=zB4 HM0.out B27.out
      refine rz [.i (S*A),.n (Int.natAbs (n/2^v2 n):Int),.k,.n a,.n (a % (Int.natAbs (n/2^v2 n):Int)),.n (Int.natAbs (n/2^v2 n):Int),.i R,.i (S*A*R),.i (S*A*R)] N2 [⟨2,2,2,Fq.num (Int.natAbs (n/2^v2 n):Int),Fq.num (Int.natAbs (n/2^v2 n):Int),(some (.clo 152))⟩] E (fun hp=>⟨zS,lI 0 hp (mq 0 rfl) zw,zEy (F:=(Fq.num (Int.natAbs (n/2^v2 n):Int)).P) hp zF2 (mq 0 rfl) rfl rfl rfl (sqi 1) (fun v w h=>zGb h) (fun _ _=>trivial) (zCr rfl) (zDx rfl),lI 0 hp (mq 1 rfl) zw,zIi (F:=(Fq.num a).P) hp fo tv zF3 (mq 0 rfl) rfl (zEr rfl rfl (by simp) rfl) (sqi 3) (fun v b w h hb=>zGa h hb HM0.out (Int.lt_of_lt_of_le ha.out (zAa zm)) (Int.lt_of_lt_of_le B27.out (zAa zm))),lI 0 hp (mq 0 rfl) zw,zDz (F:=(Fq.num (a % (Int.natAbs (n/2^v2 n):Int))).P) (G:=(Fq.num (Int.natAbs (n/2^v2 n):Int)).P) hp fo tv (zLd) rfl (sqi 4) (sqi 5) (fun v v' w hbw h h'=>zLt h h' (HT.out.mono hbw) (Int.lt_of_lt_of_le B29.out (zAa zm)) (Int.lt_of_lt_of_le B27.out (zAa zm)) HI.out HR.out),zT hp (sqi 0) (sqi 6) G2.out,zS,tv⟩) ?_
      intro w30 b30_2 E _ _
      simp only [Z1] at E ⊢
      clear HT HA HR G1 G2 HI HK2 HM0 HNZ BO
      clear B27 B29 ha hn
      go_wp2
      refine bodyPost_ret (v:=.int .i64 (S*A*R)) ?_ rfl (by first | exact ⟨_,rfl,E.below,by rw [HK.out]⟩ | exact ⟨_,rfl,E.below⟩ | exact ⟨rfl,E.below⟩)
      simp [results,Tryz.results159,go_sem]
    ·have P1:Hid (¬ cmpI a 0<0):=mt cmpIqlt.1 h1
     have P3:Hid (S=1):=by show _=_;rw [← HS.out];unfold sg2;rw [if_neg (fun h=>h1 h.1)]
     clear h1
     go_upto_region 8 with (fail)
     refine rz [.n a,.i (cmpI a 0),.o,.o,.u (undef),.u (undef),.u (undef),.o] N2 [] E (fun hp=>⟨lI 0 hp (mq 1 rfl) zw,zc hp zAz zi fun v w h=>zA0 h,zO hp (sqi 1) P1.out,zS,zS,zS,zS,zt hp (sqi 3) (zk (.bool false)),tv⟩) ?_
     intro w31 E _ _
     simp only [Z1] at E ⊢
     clear P1
     replace G1:=hidd (show IntKind.i64.wrap A=S*A by have:=G1.out;rw [P3.out] at this ⊢;rw [Int.one_mul] at this ⊢;exact this)
     clear HS P3
     go_upto_region 10 with (fail)
     refine rz [.n n,.w (Fq.tup2 (Fq.num (n/2^v2 n)) (Fq.is (.int .i64 (v2 n:Int)))),.w (Fq.tup2 (Fq.num (n/2^v2 n)) (Fq.is (.int .i64 (v2 n:Int)))),.n (n/2^v2 n),.i (v2 n:Int),.a,.i (v2 n:Int)] [some (5,Fq.num (n/2^v2 n)),none] [] E (fun hp=>⟨zAx (off:=0) hp fo tv (mq 0 rfl) (.inr rfl) (Nat.le_of_ble_eq_true rfl) (zAq rfl rfl (fun _ _=>rfl)) (fun us w hl h=>zAw hl h),zIh (F:=(Fq.num n).P) hp fo tv (zJf) rfl (sqi 0) (fun v w hbw h=>zJr h (HT.out.mono hbw) HNZ.out (Int.lt_of_lt_of_le hn.out (zAa zm))),zS,zS,zS,zCj hp (mq 0 rfl) rfl rfl (zAq rfl rfl (fun _ _=>rfl)) (zBf 3 rfl rfl (by simp) rfl (fun v w h=>zCc h)) (fun _ _=>trivial) (zBl rfl),zS,tv⟩) ?_
     intro w32 E _ _
     simp only [Z1] at E ⊢
     go_upto_region 11 with (fail)
     refine rz [.i 1,.i (v2 n:Int),.n a,.u (.int .u32 (ab a % 4294967296)),.i A,.i (S*A),.i (S*A)] N2 [] E (fun hp=>⟨zFd 6 3 hp fo tv rfl rfl rfl rfl (fun _=>rfl),zS,lI 0 hp (mq 1 rfl) zw,zc hp zD6 zi fun v w h=>zD8 h,zC hp zJg zi zi fun v v' w h h'=>zJs h h' ⟨by omega,HK2.out⟩ (zHf _) HA.out,zT hp (sqi 0) (sqi 4) G1.out,zS,tv⟩) ?_
     intro w33 E _ _
     simp only [Z1] at E ⊢
     go_upto_region 12 with (fail)
     have B34:Hid (ab ((Int.natAbs (n/2^v2 n):Int))<pw 100):=zBm BO.out
     refine rz [.n (n/2^v2 n),.n (Int.natAbs (n/2^v2 n):Int),.a] [some (2,Fq.num (Int.natAbs (n/2^v2 n):Int)),none] [] E (fun hp=>⟨zAx (off:=0) hp fo tv (mq 0 rfl) (.inr rfl) (Nat.le_of_ble_eq_true rfl) (zAq rfl rfl (fun _ _=>rfl)) (fun us w hl h=>zAw hl h),zc hp zDc zi fun v w h=>exK (AbsV h) B34.out zm,zCj hp (mq 0 rfl) rfl rfl (zAq rfl rfl (fun _ _=>rfl)) (zBf 1 rfl rfl (by simp) rfl (fun v w h=>zCc h)) (fun _ _=>trivial) (zBl rfl),tv⟩) ?_
     intro w35 E _ _
     simp only [Z1] at E ⊢
     go_upto_region 13 with (fail)
     have B36:Hid (ab ((a % (Int.natAbs (n/2^v2 n):Int)))<pw 100):=zB4 HM0.out B34.out
     refine rz [.i (S*A),.n (Int.natAbs (n/2^v2 n):Int),.k,.n a,.n (a % (Int.natAbs (n/2^v2 n):Int)),.n (Int.natAbs (n/2^v2 n):Int),.i R,.i (S*A*R),.i (S*A*R)] N2 [⟨2,2,2,Fq.num (Int.natAbs (n/2^v2 n):Int),Fq.num (Int.natAbs (n/2^v2 n):Int),(some (.clo 152))⟩] E (fun hp=>⟨zS,lI 0 hp (mq 0 rfl) zw,zEy (F:=(Fq.num (Int.natAbs (n/2^v2 n):Int)).P) hp zF2 (mq 0 rfl) rfl rfl rfl (sqi 1) (fun v w h=>zGb h) (fun _ _=>trivial) (zCr rfl) (zDx rfl),lI 0 hp (mq 1 rfl) zw,zIi (F:=(Fq.num a).P) hp fo tv zF3 (mq 0 rfl) rfl (zEr rfl rfl (by simp) rfl) (sqi 3) (fun v b w h hb=>zGa h hb HM0.out (Int.lt_of_lt_of_le ha.out (zAa zm)) (Int.lt_of_lt_of_le B34.out (zAa zm))),lI 0 hp (mq 0 rfl) zw,zDz (F:=(Fq.num (a % (Int.natAbs (n/2^v2 n):Int))).P) (G:=(Fq.num (Int.natAbs (n/2^v2 n):Int)).P) hp fo tv (zLd) rfl (sqi 4) (sqi 5) (fun v v' w hbw h h'=>zLt h h' (HT.out.mono hbw) (Int.lt_of_lt_of_le B36.out (zAa zm)) (Int.lt_of_lt_of_le B34.out (zAa zm)) HI.out HR.out),zT hp (sqi 0) (sqi 6) G2.out,zS,tv⟩) ?_
     intro w37 b37_2 E _ _
     simp only [Z1] at E ⊢
     clear HT HA HR G1 G2 HI HK2 HM0 HNZ BO
     clear B34 B36 ha hn
     go_wp2
     refine bodyPost_ret (v:=.int .i64 (S*A*R)) ?_ rfl (by first | exact ⟨_,rfl,E.below,by rw [HK.out]⟩ | exact ⟨_,rfl,E.below⟩ | exact ⟨rfl,E.below⟩)
     simp [results,Tryz.results159,go_sem]

def Got (w:World) (v:Value) (z r:Int):Prop:=∃ n ao k c,v=.agg #[.bool n,.slice ao k c,.int .i64 r]∧Num w (.agg #[.bool n,.slice ao k c]) z
theorem Got.parts {w:World} {v:Value} {z r:Int} (h:Got w v z r):∃ n ao k c,v=.agg #[.bool n,.slice ao k c,.int .i64 r]∧Num w (.agg #[.bool n,.slice ao k c]) z:=h
def zeroGot:List Value:=[.bool false,.slice none 0 0,.int .i64 0]
theorem Got.zero (w:World):Got w (.agg zeroGot.toArray) 0 0:=⟨_,_,_,_,rfl,Num.zero w⟩
section
variable {os : List Oper} {Q : Exit → Act → World → Prop} {a : Act} {p : Pq} {B B0 : Nat} {w0 : World}
variable {i s : Nat} {d : Option Tmp} {ty : TypeId} {ps : String} {af : Array Edge} {gd : Option (Nat × Bool)}
end
section
variable {os : List Oper} {Q : Exit → Act → World → Prop} {a : Act} {p : Pq} {B B0 : Nat} {w0 : World}
variable {i s : Nat} {d : Option Tmp} {ty : TypeId} {ps : String} {af : Array Edge} {gd : Option (Nat × Bool)}
end
theorem exMSqrtS {w:World} {v v':Value} {a p:Int} (h:Num w v a) (h':Num w v' p) (ha:ab a<pw 90) (hm:ab p<pw 90) (h0:2≤p) (hb:zBb (a % p)≤1) :
  Rt 150 #[v,v'] w fun v' w'=>(Fq.tup2 (Fq.num (a % p)) (Fq.is (.int .i64 0))).P v' w':=by
 replace ha:=hidd ha
 replace hm:=hidd hm
 obtain ⟨n0,ao0,k0,c0,rfl⟩:=h.parts
 obtain ⟨n1,ao1,k1,c1,rfl⟩:=h'.parts
 obtain ⟨w1,b1,hw1,hb1,hs1,E⟩:=gN w 36 h
 obtain ⟨w2,b2,hw2,hb2,hs2,E⟩:=fN E hs1 36 h'
 obtain ⟨w3,b3,hw3,hb3,hs3,E⟩:=fZ E hs2 36
 go_enter Tryz.func150,Tryz.ntmps150
 go_upto_region 1 with (fail)
 rw [← hw1,← hw2]
 rw [← hw3,← hb3]
 rw [← hb2,← hb1]
 clear hw1 hw2 hw3 hb1 hb2 hb3 hs3 hs1 hs2
 have T1:Hid (¬ cmpI p (2)<0):=fun e=>by have:=cmpIqlt.1 e;omega
 have HN:Hid (p≠0):=by show _≠_;omega
 clear h0
 have B4:Hid (ab ((2))<pw 3):=zB3 zd
 refine rz [.n p,.n (2),.i (cmpI p (2)),.o] N3 [] E (fun hp=>⟨lI 0 hp (mq 1 rfl) zw,zBn (F:=(Fq.is (.int .i64 2)).P) hp fo tv (zBv) (zAk (fun _=>rfl)) (fun v w h=>(by subst h;exact OfK w (2) zm zm)),zC hp zA5 zi zi fun v v' w h h'=>zA6 h h',zO hp (sqi 2) T1.out,tv⟩) ?_
 intro w5 E _ _
 simp only [Z1] at E ⊢
 clear T1
 go_upto_region 3 with (fail)
 refine zKo (same:=[(2,1)]) (C:=[Fq.num p,Fq.any,Fq.any]) (ks:=[none,none,none]) (new:=[⟨1,1,2,Fq.num p,Fq.num p,(some (.clo 152))⟩]) E rfl (by kernel_rfl) rfl rfl (fun hp=>⟨?_,?_,?_,tv⟩) ?_
 ·exact zFe (zAx (off:=0) hp fo tv (mq 1 rfl) (.inl rfl) (Nat.le_of_ble_eq_true rfl) (zAq rfl rfl (fun _ _=>rfl)) (fun us w hl h=>zAw hl h)) rfl
 ·exact zFe (zEy (F:=(Fq.num p).P) hp zF2 (mq 0 rfl) rfl rfl rfl (sqi 0) (fun v w h=>zGb h) (fun _ _=>trivial) (zCr rfl) (zDx rfl)) rfl
 ·exact zKu hp fo rfl (j:=1) rfl (by simp) rfl (fun _ _=>trivial) rfl (Nat.ne_of_beq_eq_false rfl)
 intro L vs w6 nb hsm hL hC hn E6
 have e1:vs 1=cloV 152 (nb 1):=hn _ (mq 0 rfl)
 have e2:vs 2=cloV 152 (nb 1):=(hsm (2,1) (by simp) (Nat.lt_of_sub_eq_succ rfl)).trans e1
 have E:=E6;try simp only [LM,zAn] at E
 rw [zAp hL]
 simp only [zP,Nat.zero_add,Nat.reduceAdd]
 rw [e1,e2]
 generalize nb 1=b6_1 at E ⊢
 generalize vs 0=u6_0
 clear e1 e2 hsm hC hn E6 hL vs L nb
 go_upto_region 4 with (fail)
 have B7:Hid (ab ((a % p))<pw 90):=zB4 HN.out hm.out
 refine rz [.u (cloV 152 b6_1),.n a,.n (a % p),.k,.a] N4 [⟨3,4,2,Fq.num 0,Fq.num (a % p),none⟩] E (fun hp=>⟨zS,lI 0 hp (mq 3 rfl) zw,zRf (F:=(Fq.num a).P) hp fo tv zF3 (mq 0 rfl) rfl (sqi 0) (sqi 1) (fun v w h hb=>zGa h hb HN.out (Int.lt_of_lt_of_le ha.out (zAa zm)) (Int.lt_of_lt_of_le hm.out (zAa zm))),aN hp (mq 0 rfl),sN 2 hp (mq 0 rfl),tv⟩) ?_
 intro w8 b8_3 E _ _
 simp only [Z1] at E ⊢
 replace hb:=hidd hb
 have T2:Hid (((zBb (a % p):Nat):Int)≤1):=by have:=hb.out;show _≤_;omega
 go_upto_region 5 with (fail)
 refine rz [.n (a % p),.i ((zBb (a % p):Nat):Int),.t] N5 [] E (fun hp=>⟨lI 0 hp (mq 0 rfl) zw,zc hp zF1 zi fun v w h=>zF7 h,zO hp (sqi 1) T2.out,tv⟩) ?_
 intro w9 E _ _
 simp only [Z1] at E ⊢
 clear T2 hb
 go_upto_region 6 with (fail)
 refine rz [.n (a % p),.a,.i 0] [none,none,some (1,Fq.num (a % p)),none,none] [] E (fun hp=>⟨lI 0 hp (mq 0 rfl) zw,zCj hp (mq 2 rfl) rfl rfl (zAq rfl rfl (fun _ _=>rfl)) (zBf 0 rfl rfl (by simp) rfl (fun v w h=>zCc h)) (fun _ _=>trivial) (zBl rfl),zS,tv⟩) ?_
 intro w10 E _ _
 simp only [Z1] at E ⊢
 clear HN
 obtain ⟨p0,p1,c0,c1,hP⟩:=zCg (E.box 2 rfl)
 clear B4 B7 ha hm
 go_wp2
 exact zR (v:=.tuple #[.agg #[p0,p1],.int .i64 0]) (by simp [results,Tryz.results150,go_sem,c0,c1]) E.below ⟨_,_,rfl,hP,rfl⟩

theorem exMSqrtN {w:World} {v v':Value} {a p:Int} (h:Num w v a) (h':Num w v' p) (ha:ab a<pw 90) (hm:ab p<pw 90) (hT:Tabs w) (h0:2≤p) (hb:1<zBb (a % p)) (hk:kron (a % p) p≠1) :
  Rt 150 #[v,v'] w fun v' w'=>(Fq.tup2 (Fq.num 0) (Fq.is (.int .i64 6))).P v' w':=by
 replace ha:=hidd ha
 replace hm:=hidd hm
 replace hT:=hidd hT
 replace hk:=hidd hk
 obtain ⟨n0,ao0,k0,c0,rfl⟩:=h.parts
 obtain ⟨n1,ao1,k1,c1,rfl⟩:=h'.parts
 obtain ⟨w1,b1,hw1,hb1,hs1,E⟩:=gN w 36 h
 obtain ⟨w2,b2,hw2,hb2,hs2,E⟩:=fN E hs1 36 h'
 obtain ⟨w3,b3,hw3,hb3,hs3,E⟩:=fZ E hs2 36
 go_enter Tryz.func150,Tryz.ntmps150
 go_upto_region 1 with (fail)
 rw [← hw1,← hw2]
 rw [← hw3,← hb3]
 rw [← hb2,← hb1]
 clear hw1 hw2 hw3 hb1 hb2 hb3 hs3 hs1 hs2
 have T1:Hid (¬ cmpI p (2)<0):=fun e=>by have:=cmpIqlt.1 e;omega
 have HN:Hid (p≠0):=by show _≠_;omega
 clear h0
 have B4:Hid (ab ((2))<pw 3):=zB3 zd
 refine rz [.n p,.n (2),.i (cmpI p (2)),.o] N3 [] E (fun hp=>⟨lI 0 hp (mq 1 rfl) zw,zBn (F:=(Fq.is (.int .i64 2)).P) hp fo tv (zBv) (zAk (fun _=>rfl)) (fun v w h=>(by subst h;exact OfK w (2) zm zm)),zC hp zA5 zi zi fun v v' w h h'=>zA6 h h',zO hp (sqi 2) T1.out,tv⟩) ?_
 intro w5 E _ _
 simp only [Z1] at E ⊢
 clear T1
 go_upto_region 3 with (fail)
 refine zKo (same:=[(2,1)]) (C:=[Fq.num p,Fq.any,Fq.any]) (ks:=[none,none,none]) (new:=[⟨1,1,2,Fq.num p,Fq.num p,(some (.clo 152))⟩]) E rfl (by kernel_rfl) rfl rfl (fun hp=>⟨?_,?_,?_,tv⟩) ?_
 ·exact zFe (zAx (off:=0) hp fo tv (mq 1 rfl) (.inl rfl) (Nat.le_of_ble_eq_true rfl) (zAq rfl rfl (fun _ _=>rfl)) (fun us w hl h=>zAw hl h)) rfl
 ·exact zFe (zEy (F:=(Fq.num p).P) hp zF2 (mq 0 rfl) rfl rfl rfl (sqi 0) (fun v w h=>zGb h) (fun _ _=>trivial) (zCr rfl) (zDx rfl)) rfl
 ·exact zKu hp fo rfl (j:=1) rfl (by simp) rfl (fun _ _=>trivial) rfl (Nat.ne_of_beq_eq_false rfl)
 intro L vs w6 nb hsm hL hC hn E6
 have e1:vs 1=cloV 152 (nb 1):=hn _ (mq 0 rfl)
 have e2:vs 2=cloV 152 (nb 1):=(hsm (2,1) (by simp) (Nat.lt_of_sub_eq_succ rfl)).trans e1
 have E:=E6;try simp only [LM,zAn] at E
 rw [zAp hL]
 simp only [zP,Nat.zero_add,Nat.reduceAdd]
 rw [e1,e2]
 generalize nb 1=b6_1 at E ⊢
 generalize vs 0=u6_0
 clear e1 e2 hsm hC hn E6 hL vs L nb
 go_upto_region 4 with (fail)
 have B7:Hid (ab ((a % p))<pw 90):=zB4 HN.out hm.out
 refine rz [.u (cloV 152 b6_1),.n a,.n (a % p),.k,.a] N4 [⟨3,4,2,Fq.num 0,Fq.num (a % p),none⟩] E (fun hp=>⟨zS,lI 0 hp (mq 3 rfl) zw,zRf (F:=(Fq.num a).P) hp fo tv zF3 (mq 0 rfl) rfl (sqi 0) (sqi 1) (fun v w h hb=>zGa h hb HN.out (Int.lt_of_lt_of_le ha.out (zAa zm)) (Int.lt_of_lt_of_le hm.out (zAa zm))),aN hp (mq 0 rfl),sN 2 hp (mq 0 rfl),tv⟩) ?_
 intro w8 b8_3 E _ _
 simp only [Z1] at E ⊢
 replace hb:=hidd hb
 have T2:Hid (¬ ((zBb (a % p):Nat):Int)≤1):=by have:=hb.out;show ¬ _;omega
 go_upto_region 5 with (fail)
 refine rz [.n (a % p),.i ((zBb (a % p):Nat):Int),.o] N5 [] E (fun hp=>⟨lI 0 hp (mq 0 rfl) zw,zc hp zF1 zi fun v w h=>zF7 h,zO hp (sqi 1) T2.out,tv⟩) ?_
 intro w9 E _ _
 simp only [Z1] at E ⊢
 clear T2 hb
 go_upto_region 7 with (fail)
 refine rz [.n (a % p),.n p,.i (kron (a % p) p),.t] N5 [] E (fun hp=>⟨lI 0 hp (mq 0 rfl) zw,lI 0 hp (mq 3 rfl) zw,zDz (F:=(Fq.num (a % p)).P) (G:=(Fq.num p).P) hp fo tv (zTa) rfl (sqi 0) (sqi 1) (fun v v' w hbw h h'=>zUk h h' (hT.out.mono hbw) (Int.lt_of_lt_of_le B7.out (zAa zm)) (Int.lt_of_lt_of_le hm.out (zAa zm))),zO hp (sqi 2) hk.out,tv⟩) ?_
 intro w10 E _ _
 simp only [Z1] at E ⊢
 go_upto_region 8 with (fail)
 refine rz [.n 0,.a,.i 6] [none,none,some (1,Fq.num 0),none,none] [] E (fun hp=>⟨q_zeroInt hp fo tv (fun w=>Num.zero w),zCj hp (mq 2 rfl) rfl rfl (zAq rfl rfl (fun _ _=>rfl)) (zBf 0 rfl rfl (by simp) rfl (fun v w h=>zCc h)) (fun _ _=>trivial) (zBl rfl),zS,tv⟩) ?_
 intro w11 E _ _
 simp only [Z1] at E ⊢
 clear HN hT hk
 obtain ⟨p0,p1,c0,c1,hP⟩:=zCg (E.box 2 rfl)
 clear B4 B7 ha hm
 go_wp2
 exact zR (v:=.tuple #[.agg #[p0,p1],.int .i64 6]) (by simp [results,Tryz.results150,go_sem,c0,c1]) E.below ⟨_,_,rfl,hP,rfl⟩

def Li (W:World) (B:Nat) (v:Value) (xs:List Int):Prop:=W.ownsRow B 2 1 v xs.length (xs.map (Value.int .i64))
theorem Li.shape {W:World} {B:Nat} {v:Value} {xs:List Int} (h:Li W B v xs):∃ ao cap,v=.slice ao xs.length cap:=by
 rcases h.2 with ⟨rfl,h0⟩ | ⟨g,cap,cur,rfl,_⟩
 ·exact ⟨none,0,by rw [h0]⟩
 ·exact ⟨_,_,rfl⟩
theorem Li.nil (w:World) (B:Nat):Li w B (.slice none 0 0) []:=World.ownsRow_nil w B _ _
theorem Li.one (w:World) {B:Nat} (hB:B≤w.heap.size) (x:Int):Li (w.alloc (.cells #[.int .i64 x] 2)) B (.slice (some ⟨w.heap.size,0,none⟩) 1 1) [x]:=
 ⟨rfl,.inr ⟨w.heap.size,1,#[.int .i64 x],rfl,hB,heap_alloc_new _ _,Nat.le_refl _,by decide,rfl,rfl⟩⟩
theorem Li.mono {w w':World} {B:Nat} {v:Value} {xs:List Int} (h:Li w B v xs) (hb:Below w.heap.size w w'):Li w' B v xs:=by
 refine ⟨h.1,?_⟩
 rcases h.2 with h2 | ⟨g,cap,cur,h1,h2,h3,h4⟩
 ·exact .inl h2
 ·exact .inr ⟨g,cap,cur,h1,h2,by rw [hb.block g (Array.getElem?_eq_some_iff.1 h3).1];exact h3,h4⟩
theorem Li.cell {w:World} {B:Nat} {ao:Option Addr} {n c:Nat} {xs:List Int} (h:Li w B (.slice ao n c) xs) {i:Nat} (hi:i<xs.length):∃ g,ao=some ⟨g,0,none⟩∧w.cell? ⟨g,i,none⟩=some (.int .i64 (xs.getD i 0)):=by
 rcases h.2 with ⟨_,h0⟩ | ⟨g,cap,cur,e,_⟩
 ·omega
 ·injection e with e1 e2 e3
  subst e1
  have:=World.ownsRow.cells h (g:=g) rfl i (.int .i64 (xs.getD i 0)) (by simp [hi])
  rw [zK2] at this
  exact ⟨g,rfl,this⟩
theorem Li.step {B:Nat} {w wr w1:World} {v v':Value} {xs:List Int} {d:Int} {o:Obj} (h:Li wr B v xs) (hB:B≤wr.heap.size) (hnx:Below B w wr)
  (hown':w1.ownsRow B 2 1 v' (xs.length+1) (xs.map (Value.int .i64) ++ [.int .i64 d])) (hgrow:(wr.alloc o).grownBy w1 v.ownBlock) :
  Li w1 B v' (xs ++ [d])∧Below B w w1:=by
 refine ⟨?_,?_⟩
 ·unfold Li;simpa using hown'
 ·exact (hnx.alloc hB o).grown hgrow (by simp;omega) (fun j hj=>(World.ownsRow.lt h j hj).1)

end Go.Proofs.YtjadciofpgjofaaGreatDoor
