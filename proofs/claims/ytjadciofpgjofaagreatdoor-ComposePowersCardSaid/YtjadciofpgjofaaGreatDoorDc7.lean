/- Hb, Hc, Hd, He, Od, Ni, Nj, Oe, Og, Hf, Hg, Hh, Hi, Hj, Hk, Hl, Oa, Ob, Oc, Hm, Ul, Uo, Ux. -/
import Derived.Test.YtjadciofpgjofaaGreatDoorDc6
import Derived.WalkMore
set_option linter.unusedSimpArgs false
set_option linter.unusedVariables false
set_option maxRecDepth 100000
set_option maxHeartbeats 8000000
namespace Go.Proofs.YtjadciofpgjofaaGreatDoor
open Go Go.RowKit
def Sc (D:Int) (P:F3):Prop:=Sf D P.a P.b P.c
def Eqv (P Q:F3):Prop:=∃ p q r s,Und P.a P.b P.c p q r s Q.a Q.b Q.c
def Rd (P:F3):Prop:=Rdf P.a P.b P.c
theorem F3.ext' {P Q:F3} (h:Q.a=P.a∧Q.b=P.b∧Q.c=P.c):Q=P:=by
 cases P;cases Q;simp_all
theorem Eqv.rfl' (P:F3):Eqv P P:=⟨_,_,_,_,Und.one ..⟩
theorem Eqv.symm {P Q:F3}:Eqv P Q→Eqv Q P:=fun ⟨_,_,_,_,h⟩=>⟨_,_,_,_,h.back⟩
theorem Eqv.trans {P Q R:F3}:Eqv P Q→Eqv Q R→Eqv P R:=fun ⟨_,_,_,_,h⟩ ⟨_,_,_,_,g⟩=>⟨_,_,_,_,h.mul g⟩
theorem Und.dvd {a b c p q r s x y z d:Int} (h:Und a b c p q r s x y z) (h1:d ∣ a) (h2:d ∣ b) (h3:d ∣ c):d ∣ x∧d ∣ y∧d ∣ z:=by
 obtain ⟨u,rfl⟩:=h1
 obtain ⟨v,rfl⟩:=h2
 obtain ⟨w,rfl⟩:=h3
 refine ⟨⟨qv u v w p r,?_⟩,⟨qm u v w p q r s,?_⟩,⟨qv u v w q s,?_⟩⟩
 ·rw [h.ea];unfold qv;grind
 ·rw [h.eb];unfold qm;grind
 ·rw [h.ec];unfold qv;grind
theorem Eqv.sc {D:Int} {P Q:F3} (hD:D<0) (h:Eqv P Q) (hp:Sc D P):Sc D Q:=by
 obtain ⟨p,q,r,s,u⟩:=h
 refine ⟨u.disc.trans hp.disc,u.pos hp.pos (by rw [hp.disc];exact hD),fun d h1 h2 h3=>?_⟩
 obtain ⟨g1,g2,g3⟩:=u.back.dvd h1 h2 h3
 exact hp.prim d g1 g2 g3
theorem zRu {D:Int} (hD:D<0):∀ (n:Nat) (P:F3),P.a.natAbs≤n→Sc D P→∃ R,Eqv P R∧Rd R
 | 0,P,hn,hp=>by have:=hp.pos;omega
 | n+1,P,hn,hp=>by
  obtain ⟨h1,h2⟩:=zR6 (b:=P.b) hp.pos
  obtain ⟨k,hk⟩:∃ k,k=(P.a-P.b)/(2*P.a):=⟨_,rfl⟩
  rw [← hk] at h1 h2
  obtain ⟨Q,hQ⟩:∃ Q:F3,Q=⟨P.a,P.b+2*(P.a*k),P.a*(k*k)+P.b*k+P.c⟩:=⟨_,rfl⟩
  have hu:Eqv P Q:=by rw [hQ];exact ⟨_,_,_,_,Und.shift ..⟩
  have hq:=hu.sc hD hp
  have ha:Q.a=P.a:=by rw [hQ]
  have hb:-Q.a<Q.b∧Q.b≤Q.a:=by rw [hQ];exact ⟨h1,h2⟩
  by_cases hr:Rd Q
  ·exact ⟨Q,hu,hr⟩
  ·have hs:Eqv Q ⟨Q.c,-Q.b,Q.a⟩:=⟨_,_,_,_,Und.swap ..⟩
   have hsc:=hs.sc hD hq
   rcases zNp (c:=Q.c) hq.pos hb.1 hb.2 hr with h | ⟨_,_,h⟩
   ·obtain ⟨R,g1,g2⟩:=zRu hD n ⟨Q.c,-Q.b,Q.a⟩ (by have:=hsc.pos;simp only at this ⊢;omega) hsc
    exact ⟨R,hu.trans (hs.trans g1),g2⟩
   ·exact ⟨_,hu.trans hs,h⟩
theorem red_ex' {D:Int} (hD:D<0) {P:F3} (hp:Sc D P):∃ R,Eqv P R∧Rd R:=zRu hD _ P (Nat.le_refl _) hp
theorem zKn {P R R':F3} (h1:Eqv P R) (h2:Eqv P R') (g1:Rd R) (g2:Rd R'):R'=R:=by
 obtain ⟨_,_,_,_,u⟩:=h1
 obtain ⟨_,_,_,_,v⟩:=h2
 exact F3.ext' (Und.same u v g1 g2)
def CpF (D:Int) (P Q R:F3):Prop:=Cps D P.a P.b Q.a Q.b R.a R.b
theorem cp_ex {D:Int} {P Q:F3} (hp:Sc D P) (hq:Sc D Q):∃ R,Sc D R∧CpF D P Q R:=by
 obtain ⟨f1,f2,f3⟩:=zCa hp.disc
 obtain ⟨g1,g2,_⟩:=zCa hq.disc
 obtain ⟨x,hx⟩:∃ x,x=bD D P.b:=⟨_,rfl⟩
 obtain ⟨y,hy⟩:∃ y,y=bD D Q.b:=⟨_,rfl⟩
 rw [← hx] at f1 f2
 rw [← hy] at g1 g2
 have key:∃ e X Y Z,0<e∧X*P.a+Y*Q.a+Z*(x+y+tD D)=e∧e ∣ P.a∧e ∣ Q.a∧e ∣ x+y+tD D:=by
  obtain ⟨g,X,Y,Z,_,eg,d1,d2,d3,_⟩:=bezq4 P.a Q.a (x+y+tD D) 0
  have hg:g≠0:=by
   rintro rfl
   obtain ⟨q,hq⟩:=d1
   have:=hp.pos
   omega
  by_cases h0:0<g
  ·exact ⟨g,X,Y,Z,h0,by rw [eg];omega,d1,d2,d3⟩
  ·refine ⟨-g,-X,-Y,-Z,by omega,?_,Int.neg_dvd.2 d1,Int.neg_dvd.2 d2,Int.neg_dvd.2 d3⟩
   rw [eg]
   grind
 obtain ⟨e,X,Y,Z,he,hz,d1,d2,d3⟩:=key
 obtain ⟨N1,ha1⟩:=id d1
 obtain ⟨N2,ha2⟩:=id d2
 obtain ⟨S,hS⟩:=id d3
 have he0:e≠0:=by omega
 have hz1:X*N1+Y*N2+Z*S=1:=zBz he0 (fo1 (by rw [← ha1,← ha2,← hS];exact hz))
 have hB:2*(e*(2*(X*N1*y+Y*N2*x+Z*(x*S-N1*P.c))+tD D))=2*(X*P.a*Q.b+Y*Q.a*P.b)+Z*(P.b*Q.b+D):=by
  rw [← Int.mul_assoc,← fo3 hz1,← fo2 hS (by rw [← ha1];exact f2),← ha1,← ha2,← f1,← g1,← f3]
 obtain ⟨h1,h2⟩:=Cps.formula (A:=N1*N2) hp hq (s:=x+y+tD D) zm he hz d1 d2 d3 (by rw [ha1,ha2];grind) hB
 exact ⟨⟨_,_,_⟩,h2,h1⟩
def Pr3 (D:Int) (P Q T:F3):Prop:=Rd T∧∃ R,Sc D R∧CpF D P Q R∧Eqv R T
theorem Pr3.ex {D:Int} (hD:D<0) {P Q:F3} (hp:Sc D P) (hq:Sc D Q):∃ T,Pr3 D P Q T:=by
 obtain ⟨R,h1,h2⟩:=cp_ex hp hq
 obtain ⟨T,h3,h4⟩:=red_ex' hD h1
 exact ⟨T,h4,R,h1,h2,h3⟩
theorem Pr3.sc {D:Int} (hD:D<0) {P Q T:F3} (h:Pr3 D P Q T):Sc D T:=by
 obtain ⟨_,R,h1,_,h3⟩:=h
 exact h3.sc hD h1
theorem CpF.und {D:Int} (hD:D<0) {P Q R P' Q' R':F3} (hp:Sc D P) (hq:Sc D Q) (hr:Sc D R) (hr':Sc D R') (h:CpF D P Q R) (h':CpF D P' Q' R') (u:Eqv P P') (v:Eqv Q Q'):Eqv R R':=
 Cps.und hD hp hq hr (u.sc hD hp) (v.sc hD hq) hr' h h' u v
theorem Pr3.uniq {D:Int} (hD:D<0) {P Q T P' Q' T':F3} (hp:Sc D P) (hq:Sc D Q) (h:Pr3 D P Q T) (h':Pr3 D P' Q' T') (u:Eqv P P') (v:Eqv Q Q'):T'=T:=by
 obtain ⟨g1,R,g2,g3,g4⟩:=h
 obtain ⟨k1,R',k2,k3,k4⟩:=h'
 have:=CpF.und hD hp hq g2 k2 g3 k3 u v
 exact zKn g4 (this.trans k4) g1 k1
open Classical in
noncomputable def mulF (D:Int) (P Q:F3):F3:=if h:∃ T,Pr3 D P Q T then Classical.choose h else P
theorem zEp {D:Int} (hD:D<0) {P Q:F3} (hp:Sc D P) (hq:Sc D Q):Pr3 D P Q (mulF D P Q):=by
 have h:=Pr3.ex hD hp hq
 unfold mulF
 rw [dif_pos h]
 exact Classical.choose_spec h
theorem zH4 {D:Int} (hD:D<0) {P Q T:F3} (hp:Sc D P) (hq:Sc D Q) (h:Pr3 D P Q T):mulF D P Q=T:=Pr3.uniq hD hp hq h (zEp hD hp hq) (.rfl' _) (.rfl' _)
theorem zMh {D:Int} (hD:D<0) {P Q:F3} (hp:Sc D P) (hq:Sc D Q):Sc D (mulF D P Q):=(zEp hD hp hq).sc hD
theorem mulF_rd {D:Int} (hD:D<0) {P Q:F3} (hp:Sc D P) (hq:Sc D Q):Rd (mulF D P Q):=(zEp hD hp hq).1
theorem zMg {D:Int} (hD:D<0) {P Q P' Q':F3} (hp:Sc D P) (hq:Sc D Q) (u:Eqv P P') (v:Eqv Q Q'):mulF D P' Q'=mulF D P Q:=Pr3.uniq hD hp hq (zEp hD hp hq) (zEp hD (u.sc hD hp) (v.sc hD hq)) u v
theorem zMf {D:Int} (hD:D<0) {P Q:F3} (hp:Sc D P) (hq:Sc D Q):mulF D P Q=mulF D Q P:=by
 obtain ⟨h1,R,h2,h3,h4⟩:=zEp hD hq hp
 exact zH4 hD hp hq ⟨h1,R,h2,Cps.comm h3,h4⟩
theorem zEo {D:Int} (hD:D<0) {P Q R:F3} (hp:Sc D P) (hq:Sc D Q) (hr:Sc D R):mulF D (mulF D P Q) R=mulF D P (mulF D Q R):=by
 obtain ⟨_,A,a1,a2,a3⟩:=zEp hD hp hq
 obtain ⟨_,B,b1,b2,b3⟩:=zEp hD hq hr
 obtain ⟨c0,C,c1,c2,c3⟩:=zEp hD a1 hr
 obtain ⟨d0,E,d1,d2,d3⟩:=zEp hD hp b1
 rw [zMg hD a1 hr a3 (.rfl' _),zMg hD hp b1 (.rfl' _) b3]
 have:=Cps.assoc hD c1 d1 a2 c2 b2 d2
 exact (zKn c3 (Eqv.trans this d3) c0 d0).symm
theorem zQf {D:Int} (hD:D<0) {P U T:F3} (hp:Sc D P) (hu:Sc D U) (h1:U.a=1) (hr:Rd T) (he:Eqv P T):mulF D P U=T:=by
 refine zH4 hD hp hu ⟨hr,P,hp,?_,he⟩
 obtain ⟨a,b,c⟩:=U
 simp only at h1
 subst h1
 exact Cps.one hp hu
theorem mulF_inv {D:Int} (hD:D<0) {P U:F3} (hp:Sc D P) (hu:Sc D U) (h1:U.a=1) (hr:Rd U):mulF D P ⟨P.a,-P.b,P.c⟩=U:=by
 have hn:Sc D ⟨P.a,-P.b,P.c⟩:=⟨by simp only [Int.neg_mul_neg];exact hp.disc,hp.pos,fun d h1 h2 h3=>hp.prim d h1 (Int.dvd_neg.1 h2) h3⟩
 refine zH4 hD hp hn ⟨hr,U,hu,?_,.rfl' _⟩
 obtain ⟨a,b,c⟩:=U
 simp only at h1
 subst h1
 exact Cps.inv hp hu (sf_bez hp)
def Gm (D:Int) (P:F3):Prop:=Sc D P∧Rd P
def onF (D:Int):F3:=⟨1,D % 4,-(D/4)⟩
def opF (P:F3):F3:=⟨P.a,-P.b,P.c⟩
theorem zEd {D:Int} (hD:D<0) (h4:D % 4=0∨D % 4=1):Gm D (onF D):=by
 have e:D % 4*(D % 4)=D % 4:=by rcases h4 with h | h <;> rw [h] <;> rfl
 refine ⟨⟨?_,Int.one_pos,fun d h _ _=>h⟩,⟨Int.one_pos,?_,?_,?_,?_⟩⟩ <;> simp only [onF] <;> omega
theorem zFb {D:Int} {P:F3} (h:Sc D P):Sc D (opF P):=⟨by simp only [opF,Int.neg_mul_neg];exact h.disc,h.pos,fun d h1 h2 h3=>h.prim d h1 (Int.dvd_neg.1 h2) h3⟩
theorem mulF_gm {D:Int} (hD:D<0) {P Q:F3} (hp:Sc D P) (hq:Sc D Q):Gm D (mulF D P Q):=⟨zMh hD hp hq,mulF_rd hD hp hq⟩
section
variable {D : Int} (hD : D < 0) (h4 : D % 4 = 0 ∨ D % 4 = 1)
include hD h4
theorem zEq {P:F3} (hp:Gm D P):mulF D P (onF D)=P:=zQf hD hp.1 (zEd hD h4).1 rfl hp.2 (.rfl' _)
theorem zG7 {P:F3} (hp:Gm D P):mulF D (onF D) P=P:=by
 rw [zMf hD (zEd hD h4).1 hp.1]
 exact zEq hD h4 hp
theorem zMj {P:F3} (hp:Sc D P):mulF D P (opF P)=onF D:=mulF_inv hD hp (zEd hD h4).1 rfl (zEd hD h4).2
theorem mul_can_r {P Q R:F3} (hp:Sc D P) (hq:Gm D Q) (hr:Gm D R) (h:mulF D Q P=mulF D R P):Q=R:=by
 have g:=congrArg (fun T=>mulF D T (opF P)) h
 rw [zEo hD hq.1 hp (zFb hp),zEo hD hr.1 hp (zFb hp),zMj hD h4 hp,zEq hD h4 hq,zEq hD h4 hr] at g
 exact g
end
theorem zPp {D:Int} (hD:D<0) {P Q R S:F3} (hp:Sc D P) (hq:Sc D Q) (hr:Sc D R) (hs:Sc D S):mulF D (mulF D P Q) (mulF D R S)=mulF D (mulF D P R) (mulF D Q S):=by
 rw [zEo hD hp hq (zMh hD hr hs),zEo hD hp hr (zMh hD hq hs),← zEo hD hq hr hs,← zEo hD hr hq hs,zMf hD hq hr]
noncomputable def pwF (D:Int) (P:F3):Nat→F3
 | 0=>onF D
 | k+1=>mulF D (pwF D P k) P
section
variable {D : Int} (hD : D < 0) (h4 : D % 4 = 0 ∨ D % 4 = 1)
include hD h4
theorem zA3 {P:F3} (hp:Sc D P):∀ k,Gm D (pwF D P k)
 | 0=>zEd hD h4
 | k+1=>mulF_gm hD (zA3 hp k).1 hp
theorem zFc {P:F3} (hp:Sc D P) (m:Nat):∀ n,pwF D P (m+n)=mulF D (pwF D P m) (pwF D P n)
 | 0=>(zEq hD h4 (zA3 hD h4 hp m)).symm
 | n+1=>by
  show mulF D (pwF D P (m+n)) P=mulF D (pwF D P m) (mulF D (pwF D P n) P)
  rw [zFc hp m n,zEo hD (zA3 hD h4 hp m).1 (zA3 hD h4 hp n).1 hp]
theorem zKi {P:F3} (hp:Gm D P):pwF D P 1=P:=zG7 hD h4 hp
theorem zKh {P Q:F3} (hp:Sc D P) (u:Eqv P Q):∀ k,pwF D Q k=pwF D P k
 | 0=>rfl
 | k+1=>by
  show mulF D (pwF D Q k) Q=mulF D (pwF D P k) P
  rw [zKh hp u k]
  exact zMg hD (zA3 hD h4 hp k).1 hp (.rfl' _) u
theorem zIg {P:F3} (hp:Sc D P) (m:Nat):∀ n,pwF D P (m*n)=pwF D (pwF D P m) n
 | 0=>rfl
 | n+1=>by
  show pwF D P (m*n+m)=mulF D (pwF D (pwF D P m) n) (pwF D P m)
  rw [zFc hD h4 hp,zIg hp m n]
theorem onF_pw:∀ k,pwF D (onF D) k=onF D
 | 0=>rfl
 | k+1=>by
  show mulF D (pwF D (onF D) k) (onF D)=onF D
  rw [onF_pw k]
  exact zEq hD h4 (zEd hD h4)
theorem mul_pwF {P Q:F3} (hp:Sc D P) (hq:Sc D Q):∀ n,pwF D (mulF D P Q) n=mulF D (pwF D P n) (pwF D Q n)
 | 0=>(zEq hD h4 (zEd hD h4)).symm
 | n+1=>by
  show mulF D (pwF D (mulF D P Q) n) (mulF D P Q)=mulF D (mulF D (pwF D P n) P) (mulF D (pwF D Q n) Q)
  rw [mul_pwF hp hq n,zPp hD (zA3 hD h4 hp n).1 (zA3 hD h4 hq n).1 hp hq]
theorem pw_opF {P:F3} (hp:Sc D P) (n:Nat):mulF D (pwF D P n) (pwF D (opF P) n)=onF D:=by
 rw [← mul_pwF hD h4 hp (zFb hp),zMj hD h4 hp,onF_pw hD h4]
end
noncomputable def pzF (D:Int) (P:F3) (n:Int):F3:=if n<0 then pwF D (opF P) n.natAbs else pwF D P n.natAbs
theorem zGi {D:Int} {P:F3} (n:Nat):pzF D P n=pwF D P n:=by
 unfold pzF
 rw [if_neg zm,Int.natAbs_natCast]
section
variable {D : Int} (hD : D < 0) (h4 : D % 4 = 0 ∨ D % 4 = 1)
include hD h4
theorem zG8 {P:F3} (hp:Sc D P) (n:Int):Gm D (pzF D P n):=by
 unfold pzF
 split
 ·exact zA3 hD h4 (zFb hp) _
 ·exact zA3 hD h4 hp _
theorem zKj {P:F3} (hp:Sc D P) (m n:Nat):pzF D P (m-n)=mulF D (pwF D P m) (pwF D (opF P) n):=by
 have ho:=zFb hp
 unfold pzF
 split
 ·obtain ⟨j,hj⟩:∃ j,n=m+j:=⟨n-m,by omega⟩
  have e:((m:Int)-n).natAbs=j:=by omega
  rw [e,hj,zFc hD h4 ho,← zEo hD (zA3 hD h4 hp m).1 (zA3 hD h4 ho m).1 (zA3 hD h4 ho j).1,pw_opF hD h4 hp,zG7 hD h4 (zA3 hD h4 ho j)]
 ·obtain ⟨j,hj⟩:∃ j,m=j+n:=⟨m-n,by omega⟩
  have e:((m:Int)-n).natAbs=j:=by omega
  rw [e,hj,zFc hD h4 hp,zEo hD (zA3 hD h4 hp j).1 (zA3 hD h4 hp n).1 (zA3 hD h4 ho n).1,pw_opF hD h4 hp,zEq hD h4 (zA3 hD h4 hp j)]
theorem pzF_add {P:F3} (hp:Sc D P) (m n:Int):pzF D P (m+n)=mulF D (pzF D P m) (pzF D P n):=by
 have ho:=zFb hp
 obtain ⟨a,b,rfl⟩:∃ a b:Nat,m=a-b:=⟨m.toNat,(-m).toNat,by omega⟩
 obtain ⟨c,d,rfl⟩:∃ c d:Nat,n=c-d:=⟨n.toNat,(-n).toNat,by omega⟩
 rw [show ((a:Int)-b+(c-d))=((a+c:Nat):Int)-((b+d:Nat):Int) by omega,zKj hD h4 hp,zKj hD h4 hp,zKj hD h4 hp,zFc hD h4 hp,zFc hD h4 ho,zPp hD (zA3 hD h4 hp a).1 (zA3 hD h4 hp c).1 (zA3 hD h4 ho b).1 (zA3 hD h4 ho d).1]
theorem zQv {P:F3} (hp:Sc D P) {k:Nat} (hk:0<k) (h1:pwF D P k=onF D) (hmin:∀ j,0<j→j<k→pwF D P j≠onF D) (m:Int):pzF D P m=onF D ↔ m % k=0:=by
 have hkm:∀ q:Nat,pwF D P (k*q)=onF D:=fun q=>by rw [zIg hD h4 hp,h1,onF_pw hD h4]
 have key:pzF D P m=pwF D P (m % k).toNat:=by
  have h5:=Int.emod_nonneg m (show (k:Int)≠0 by omega)
  have h6:=Int.mul_ediv_add_emod m k
  obtain ⟨a,b,e⟩:∃ a b:Nat,m/k=a-b:=⟨(m/k).toNat,(-(m/k)).toNat,by omega⟩
  have hko:pwF D (opF P) (k*b)=onF D:=by
   have:=pw_opF hD h4 hp (k*b)
   rw [hkm,zG7 hD h4 (zA3 hD h4 (zFb hp) _)] at this
   exact this
  have e2:m=((k*a+(m % k).toNat:Nat):Int)-((k*b:Nat):Int):=by
   rw [e,Int.mul_sub] at h6
   have:((k*a:Nat):Int)=(k:Int)*a:=by simp
   have:((k*b:Nat):Int)=(k:Int)*b:=by simp
   omega
  have h7:pzF D P m=pzF D P (((k*a+(m % k).toNat:Nat):Int)-((k*b:Nat):Int)):=by rw [← e2]
  rw [h7,zKj hD h4 hp,hko,zFc hD h4 hp,hkm,zG7 hD h4 (zA3 hD h4 hp _),zEq hD h4 (zA3 hD h4 hp _)]
 have h5:=Int.emod_nonneg m (show (k:Int)≠0 by omega)
 have h6:=Int.emod_lt_of_pos m (show 0<(k:Int) by omega)
 rw [key]
 constructor
 ·intro h
  by_cases h0:(m % k).toNat=0
  ·omega
  ·exact absurd h (hmin _ zm zm)
 ·intro h
  rw [h]
  rfl
end
theorem gm_ok {n:Int} (hn:0<n) {P:F3}:Gm (-n) P ↔ FOk n P:=by
 constructor
 ·rintro ⟨h1,h2⟩
  refine ⟨h1.pos,?_,zQ5 h1.prim,h1.disc⟩
  rw [(zE0 h1.pos).2 h2,Bool.and_true]
  unfold dfB
  exact decide_eq_true ⟨by rw [h1.disc];omega,by have:=h1.pos;omega⟩
 ·rintro ⟨h1,h2,h3,h4⟩
  simp only [Bool.and_eq_true] at h2
  exact ⟨⟨h4,h1,zK8 h3⟩,(zE0 h1).1 h2.2⟩
theorem zV7 {n:Int} {P:F3} (h:FOk n P):P∈zBt n P.a P.b:=by
 obtain ⟨h1,h2,h3,h4⟩:=h
 have e:P.b*P.b+n=4*P.a*P.c:=by have:4*P.a*P.c=4*(P.a*P.c):=Int.mul_assoc ..;omega
 have e1:(P.b*P.b+n) % (4*P.a)=0:=by rw [e];exact Int.mul_emod_right ..
 have e2:(P.b*P.b+n)/(4*P.a)=P.c:=by rw [e];exact Int.mul_ediv_cancel_left _ zm
 unfold zBt
 rw [if_pos e1,e2,if_pos (by unfold zE9;rw [h2,decide_eq_true h3];rfl)]
 exact List.mem_singleton.2 rfl
theorem zQc {n a:Int} {P:F3}:∀ (k j:Nat),j<k→P∈zBt n a (-a+(j:Int))→P∈zB7 n a k
 | 0,_,h,_=>by omega
 | k+1,j,h,hP=>by
  rw [zB7]
  by_cases e:j=k
  ·exact List.mem_append_right _ (by rw [← e];exact hP)
  ·exact List.mem_append_left _ (zQc k j zm hP)
theorem zQb {n:Int} {P:F3}:∀ (A a:Nat),1≤a→a<A→P∈zB7 n (a:Int) (2*a+1)→P∈zBy n A
 | 0,_,_,h,_=>by omega
 | A+1,a,h0,h,hP=>by
  rw [zBy]
  by_cases e:a=A
  ·exact List.mem_append_right _ (by rw [if_neg zm,← e];exact hP)
  ·exact List.mem_append_left _ (zQb A a h0 zm hP)
theorem zP8 {n:Int} (h0:3≤n) (h1:n≤2004) {P:F3}:P∈zCh n ↔ Gm (-n) P:=by
 rw [gm_ok zm]
 refine ⟨zMc P,fun h=>?_⟩
 obtain ⟨A,hA⟩:=AEnd.ex h0 h1
 rw [zJ7 hA]
 have hr:=((gm_ok zm).2 h).2
 have hm:=zV7 h
 have hp:=hr.pos
 have h3:3*(P.a*P.a)≤n:=by
  have e1:P.b*P.b≤P.a*P.a:=by
   rw [← zD1 P.b]
   exact Int.mul_le_mul (by have:=hr.lo;have:=hr.hi;omega) (by have:=hr.lo;have:=hr.hi;omega) zm zm
  have e2:P.a*P.a≤P.a*P.c:=Int.mul_le_mul_of_nonneg_left hr.ac zm
  have:=h.2.2.2
  omega
 obtain ⟨a,ha⟩:∃ a:Nat,P.a=a:=⟨P.a.toNat,by omega⟩
 obtain ⟨j,hj⟩:∃ j:Nat,P.b=-P.a+j:=⟨(P.b+P.a).toNat,by have:=hr.lo;omega⟩
 have haA:a<A:=by
  rcases Nat.lt_or_ge a A with g | g
  ·exact g
  ·have e1:(A:Int)*A≤(a:Int)*a:=Int.mul_le_mul zm zm zm zm
   rw [ha] at h3
   exact absurd (show 3*((A:Int)*A)≤n by omega) hA.2.1
 refine zQb A a zm haA (zQc _ j (by have:=hr.hi;omega) ?_)
 rw [← ha,← hj]
 exact hm
open Classical in
theorem nd_len {α:Type}:∀ (L M:List α),L.Nodup→(∀ x∈L,x∈M)→L.length≤M.length
 | [],_,_,_=>Nat.zero_le _
 | x::L,M,hn,hs=>by
  have hx:=hs x (List.mem_cons_self ..)
  obtain ⟨h1,h2⟩:=List.nodup_cons.1 hn
  have:=nd_len L (M.erase x) h2 fun y hy=>(List.mem_erase_of_ne (fun (e:y=x)=>h1 (by rw [← e];exact hy))).2 (hs y (List.mem_cons_of_mem _ hy))
  have h3:=List.length_erase_of_mem hx
  have h4:=List.length_pos_of_mem hx
  rw [List.length_cons]
  omega
section
variable {D : Int} (hD : D < 0) (h4 : D % 4 = 0 ∨ D % 4 = 1) {L : List F3} (hL : ∀ P, P ∈ L ↔ Gm D P) (hn : L.Nodup)
include hD h4 hL hn
end
def cntB (a:Nat) (r:Nat):Nat→Nat
 | 0=>0
 | k+1=>cntB a r k+(if (((-(a:Int)+(k:Int))*(-(a:Int)+(k:Int))+(r:Int)) % (4*(a:Int))=0) then 1 else 0)
theorem cntB_few:∀ a<26,1≤a→∀ r<4*a,cntB a r (2*a+1)≤8:=by decide +kernel
theorem zP6 {n:Int} {a r:Nat} (hr:n % (4*(a:Int))=r):∀ k,(zB7 n (a:Int) k).length≤cntB a r k
 | 0=>by simp [zB7]
 | k+1=>by
  have h1:=zP6 hr k
  rw [zB7,List.length_append,cntB]
  have h2:(zBt n (a:Int) (-(a:Int)+(k:Int))).length≤(if (((-(a:Int)+(k:Int))*(-(a:Int)+(k:Int))+(r:Int)) % (4*(a:Int))=0) then 1 else 0):=by
   have e:((-(a:Int)+(k:Int))*(-(a:Int)+(k:Int))+(r:Int)) % (4*(a:Int))=((-(a:Int)+(k:Int))*(-(a:Int)+(k:Int))+n) % (4*(a:Int)):=by
    rw [← hr,Int.add_emod_emod]
   rw [e]
   unfold zBt
   split
   ·split <;> simp
   ·simp
  omega
theorem zP3 {n:Int}:∀ A:Nat,A≤25→(zBy n (A+1)).length≤8*A
 | 0,_=>by simp [zBy]
 | A+1,h=>by
  have h1:=zP3 (n:=n) A zm
  rw [zBy,List.length_append,if_neg zm]
  have e:((A+1:Nat):Int)=(A:Int)+1:=by omega
  have h2:=Int.emod_nonneg n (show (4*((A+1:Nat):Int))≠0 by omega)
  have h3:=Int.emod_lt_of_pos n (show (0:Int)<4*((A+1:Nat):Int) by omega)
  have h4:=zP6 (n:=n) (a:=A+1) (r:=(n % (4*((A+1:Nat):Int))).toNat) zm (2*(A+1)+1)
  have h5:=cntB_few (A+1) zm zm (n % (4*((A+1:Nat):Int))).toNat zm
  omega
theorem listF_few {n:Int} (h0:3≤n) (h1:n≤2004):(zCh n).length≤200:=by
 obtain ⟨a,h⟩:=AEnd.ex h0 h1
 rw [zJ7 h]
 have h2:a≤26:=by
  rcases Nat.lt_or_ge 26 a with g | g
  ·have:=h.2.2 26 zm g;omega
  ·exact g
 obtain ⟨A,rfl⟩:∃ A,a=A+1:=⟨a-1,by have:=h.1;omega⟩
 have:=zP3 (n:=n) A zm
 omega
theorem least {p:Nat→Prop}:∀ k,0<k→p k→∃ m,0<m∧m≤k∧p m∧∀ j,0<j→j<m→¬ p j:=by
 intro k
 induction k using Nat.strongRecOn with
 | _ k ih=>
  intro h0 hk
  by_cases h:∃ j,0<j∧j<k∧p j
  ·obtain ⟨j,h1,h2,h3⟩:=h
   obtain ⟨m,m1,m2,m3,m4⟩:=ih j h2 h1 h3
   exact ⟨m,m1,by omega,m3,m4⟩
  ·exact ⟨k,h0,Nat.le_refl _,hk,fun j h1 h2 h3=>h ⟨j,h1,h2,h3⟩⟩
theorem order_ex {D:Int} (hD:D<0) (h4:D % 4=0∨D % 4=1) {L:List F3} (hL:∀ P,P∈L ↔ Gm D P) {P:F3} (hp:Sc D P):∃ k,0<k∧k≤L.length∧pwF D P k=onF D∧∀ j,0<j→j<k→¬ pwF D P j=onF D:=by
 have key:∃ i j,i<j∧j≤L.length∧pwF D P i=pwF D P j:=by
  apply Classical.byContradiction
  intro hno
  have h1:((List.range (L.length+1)).map (pwF D P)).Nodup:=by
   rw [List.Nodup,List.pairwise_map]
   refine List.Pairwise.imp_of_mem ?_ (List.pairwise_lt_range (n:=L.length+1))
   intro a b ha hb hab e
   rw [List.mem_range] at ha hb
   exact hno ⟨a,b,hab,by omega,e⟩
  have h2:=nd_len _ L h1 fun x hx=>by
   obtain ⟨k,_,rfl⟩:=List.mem_map.1 hx
   exact (hL _).2 (zA3 hD h4 hp k)
  rw [List.length_map,List.length_range] at h2
  omega
 obtain ⟨i,j,hij,hj,e⟩:=key
 have h3:pwF D P (j-i)=onF D:=by
  have h5:pwF D P j=mulF D (pwF D P (j-i)) (pwF D P i):=by rw [← zFc hD h4 hp];congr 1;omega
  have h6:mulF D (onF D) (pwF D P i)=mulF D (pwF D P (j-i)) (pwF D P i):=by rw [← h5,← e,zG7 hD h4 (zA3 hD h4 hp i)]
  exact (mul_can_r hD h4 (zA3 hD h4 hp i).1 (zEd hD h4) (zA3 hD h4 hp _) h6).symm
 obtain ⟨m,m1,m2,m3,m4⟩:=least (p:=fun k=>pwF D P k=onF D) (j-i) zm h3
 exact ⟨m,m1,by omega,m3,m4⟩
theorem zQ9 {D a b c a' b' c' h x y e u z:Int} (hf:Sf D a b c) (hg:Sf D a' b' c') (e1:x*a+y*a'=h) (d1:h ∣ a) (d2:h ∣ a') (e2:u*h+z*((b+b')/2)=e) (d3:e ∣ h) (d4:e ∣ (b+b')/2) (he:0<e) :
  let A:=a*a'/(e*e)
  let B:=(u*x*a*b'+u*y*a'*b+z*((b*b'+D)/2))/e
  Cps D a b a' b' A B∧Sf D A B ((B*B-D)/(4*A)):=by
 intro A B
 obtain ⟨f1,f2,f3⟩:=zCa hf.disc
 obtain ⟨g1,g2,_⟩:=zCa hg.disc
 have he0:e≠0:=by omega
 have hs:2*((b+b')/2)=b+b':=by omega
 have hz:u*x*a+u*y*a'+z*((b+b')/2)=e:=by
  rw [← e2,← e1]
  grind
 have d5:=Int.dvd_trans d3 d1
 have d6:=Int.dvd_trans d3 d2
 have hA:e*e*A=a*a':=Int.mul_ediv_cancel' (Int.mul_dvd_mul d5 d6)
 obtain ⟨N1,ha1⟩:=id d5
 obtain ⟨N2,ha2⟩:=id d6
 obtain ⟨S,hS⟩:=id d4
 obtain ⟨p,hp⟩:∃ p,p=bD D b:=⟨_,rfl⟩
 obtain ⟨q,hq⟩:∃ q,q=bD D b':=⟨_,rfl⟩
 rw [← hp] at f1 f2
 rw [← hq] at g1 g2
 have hs':p+q+tD D=e*S:=by omega
 have hz1:u*x*N1+u*y*N2+z*S=1:=zBz he0 (fo1 (by rw [← ha1,← ha2,← hS];exact hz))
 have hBB:2*(e*(2*(u*x*N1*q+u*y*N2*p+z*(p*S-N1*c))+tD D))=2*(u*x*a*b'+u*y*a'*b)+z*(b*b'+D):=by
  rw [← Int.mul_assoc,← fo3 hz1,← fo2 hs' (by rw [← ha1];exact f2),← ha1,← ha2,← f1,← g1,← f3]
 have hev:b*b'+D=2*((b*b'+D)/2):=by
  have h2:=fo2 (N1:=N1) (c:=c) hs' (by rw [← ha1];exact f2)
  rw [← f1,← g1,← f3] at h2
  omega
 have hB:u*x*a*b'+u*y*a'*b+z*((b*b'+D)/2)=e*(2*(u*x*N1*q+u*y*N2*p+z*(p*S-N1*c))+tD D):=by
  rw [hev] at hBB
  have:z*(2*((b*b'+D)/2))=2*(z*((b*b'+D)/2)):=by grind
  omega
 have hBv:e*B=u*x*a*b'+u*y*a'*b+z*((b*b'+D)/2):=Int.mul_ediv_cancel' ⟨_,hB⟩
 refine Cps.formula hf hg hs he hz d5 d6 d4 hA ?_
 rw [hBv]
 have:z*(b*b'+D)=2*(z*((b*b'+D)/2)):=by
  rw [hev]
  have:2*((b*b'+D)/2)/2=(b*b'+D)/2:=by omega
  rw [this]
  grind
 omega
def rfE (a b c:Int):Int:=if redE a b c=0 then (if cont a b c=1 then 0 else 80) else redE a b c
theorem sf_of {a b c:Int} (h:rfE a b c=0):Sf (b*b-4*(a*c)) a b c∧b*b-4*(a*c)<0:=by
 unfold rfE at h
 split at h
 ·rename_i h1
  split at h
  ·rename_i h2
   have h3:=zRq a b c
   rw [h1] at h3
   have h4:=of_decide_eq_true (h3.trans (decide_eq_true rfl))
   have h5:=zLz h4.1
   exact ⟨⟨rfl,by omega,zK8 h2⟩,h4.1⟩
  ·exact absurd h zd
 ·rename_i h1
  exact absurd h h1
def Fm.lst (zs:List Int) (e:Int):Fm:=⟨fun v w=>∃ l,v=.tuple #[l,.int .i64 e]∧Nums w l zs,fun ⟨l,h1,h2⟩ hb=>⟨l,h1,h2.mono hb⟩⟩
def Fm.agg (zs:List Int) (e:Int):Fm:=⟨fun v w=>∃ l,v=.agg #[l,.int .i64 e]∧Nums w l zs,fun ⟨l,h1,h2⟩ hb=>⟨l,h1,h2.mono hb⟩⟩
section
variable {os : List Oper} {Q : Exit → Act → World → Prop} {a : Act} {p : Plan} {B B0 : Nat} {w0 : World}
end

section
variable {os : List Oper} {Q : Exit → Act → World → Prop} {a : Act} {p : Plan} {B B0 : Nat} {w0 : World}
variable {i s : Nat} {d : Option Tmp} {ty : TypeId} {ps : String} {af : Array Edge} {gd : Option (Nat × Bool)}
end

def Tri (x:Int):Prop:=x=-1∨x=0∨x=1
theorem Tri.mul {x y:Int} (h:Tri x) (h':Tri y):Tri (x*y):=by
 unfold Tri at *
 rcases h with rfl | rfl | rfl <;> rcases h' with rfl | rfl | rfl <;> decide
section
variable {os : List Oper} {Q : Exit → Act → World → Prop} {a : Act} {p : Pq} {B B0 : Nat} {w0 : World}
variable {i s : Nat} {d : Option Tmp} {ty : TypeId} {ps : String} {af : Array Edge} {gd : Option (Nat × Bool)}
end
theorem ld_rawS {n:Bool} {a:Option Addr} {k c:Nat} {xs:List Int} {us:List Value} {w:World} (hl:us.length=2) (h:(Fq.raw n a k c xs).P (.agg us.toArray) w):us.getD 1 undef=.slice a k c:=by
 match us,hl with
 | [p,q],_=>
  obtain ⟨e,h1⟩:=h
  injection e with e
  have e2:=congrArg Array.toList e
  simp at e2
  simp [e2]
theorem zTj:En 23:=zAe Tryz.func23 (by kernel_rfl) rfl

theorem ab_gcd {a b:Int} (hb:b≠0):(Int.gcd a b:Int)≤ab b:=by
 have h1:(Int.gcd a b:Int) ∣ ab b:=by unfold ab;exact Int.dvd_natAbs.2 (Int.gcd_dvd_right ..)
 exact Int.le_of_dvd (by unfold ab;omega) h1
noncomputable def bqU (a b:Int):Int:=if b=0 then cmpI a 0 else bezU a (ab b)
noncomputable def bqV (a b:Int):Int:=if b=0 then 0 else if 0<b then bezV a (ab b) else -bezV a (ab b)
theorem zJy (a b:Int):Int.gcd a (ab b)=Int.gcd a b:=by unfold ab;simp [Int.gcd]
theorem zK5 {a b:Int} (h:¬ (a=0∧b=0)):bqU a b*a+bqV a b*b=(Int.gcd a b:Int):=by
 unfold bqU bqV
 by_cases hb:b=0
 ·rw [if_pos hb,if_pos hb,hb]
  have ha:a≠0:=fun e=>h ⟨e,hb⟩
  rcases Int.lt_trichotomy a 0 with h1 | h1 | h1
  ·rw [cmp_lt h1];simp [Int.gcd];omega
  ·exact absurd h1 ha
  ·rw [cmp_gt h1];simp [Int.gcd];omega
 ·rw [if_neg hb,if_neg hb]
  have h0:0<ab b:=by unfold ab;omega
  have h1:=(zHk (a:=a) h0).2.2
  rw [zJy] at h1
  by_cases hp:0<b
  ·rw [if_pos hp]
   rw [show ab b=b by unfold ab;omega] at h1 ⊢
   exact h1
  ·rw [if_neg hp]
   rw [show ab b=-b by unfold ab;omega] at h1 ⊢
   rw [Int.mul_neg] at h1
   rw [Int.neg_mul]
   exact h1
theorem bqU_ab {a b:Int} {k:Nat} (hk:1≤k) (h:ab b<pw k):ab (bqU a b)<pw k:=by
 unfold bqU
 split
 ·exact Int.lt_of_lt_of_le (ab_cmp a 0) (zAa hk)
 ·rename_i hb
  have h0:0<ab b:=by unfold ab;omega
  refine bezU_ab h0 ?_
  rw [show ab (ab b)=ab b by unfold ab;omega]
  exact h
theorem bqV_ab {a b:Int} {k:Nat} (h:ab a<pw k):ab (bqV a b)<pw (k+1):=by
 have hp:=zA4 k
 have hs:=zC0 k
 by_cases hb:b=0
 ·unfold bqV
  rw [if_pos hb]
  unfold ab
  omega
 ·have h1:=zK5 (a:=a) (b:=b) (fun e=>hb e.2)
  have h2:0<ab b:=by unfold ab;omega
  have hu:ab (bqU a b)<ab b:=by
   unfold bqU
   rw [if_neg hb]
   have g0:=(zHk (a:=a) h2).1
   have g1:=bez_lt (a:=a) h2
   unfold ab at *
   omega
  have hg:=ab_gcd (a:=a) hb
  have hg0:(0:Int)≤(Int.gcd a b:Int):=by omega
  -- |v| |b| <= g+|u| |a| <= |b| (1+|a|)
  have e1:ab (bqV a b)*ab b=ab (bqV a b*b):=by unfold ab;rw [Int.natAbs_mul];simp
  have e2:bqV a b*b=(Int.gcd a b:Int)-bqU a b*a:=by omega
  have e3:ab (bqU a b*a)=ab (bqU a b)*ab a:=by unfold ab;rw [Int.natAbs_mul];simp
  have e4:ab (bqU a b)*ab a≤ab b*ab a:=Int.mul_le_mul_of_nonneg_right zm (by unfold ab;omega)
  have e5:ab (bqV a b*b)≤(Int.gcd a b:Int)+ab (bqU a b*a):=by rw [e2];unfold ab;omega
  have e6:ab b*ab (bqV a b)≤ab b*(1+ab a):=by
   rw [Int.mul_comm,e1,Int.mul_add,Int.mul_one]
   omega
  have e7:=Int.le_of_mul_le_mul_left e6 h2
  omega
theorem rfE_chk {a b c:Int} (h:¬ chkF a b c=0):rfE a b c=chkF a b c:=by
 have e:redE a b c=chkF a b c:=by unfold redE;rw [if_neg fun x=>h x.1]
 unfold rfE
 rw [e,if_neg h]
theorem rfE_pos {a b c:Int} (h:chkF a b c=0) (hd:0<b*b-4*(a*c)):rfE a b c=5:=by
 have e:redE a b c=5:=by unfold redE;rw [if_pos ⟨h,hd⟩]
 unfold rfE
 rw [e,if_neg zd]
theorem rfE_neg {a b c:Int} (h:chkF a b c=0) (hd:¬ 0<b*b-4*(a*c)):rfE a b c=if cont a b c=1 then 0 else 80:=by
 have e:redE a b c=0:=by unfold redE;rw [if_neg fun x=>hd x.2];exact h
 unfold rfE
 rw [e,if_pos rfl]
def cmE (a b c x y z:Int):Int:=if rfE a b c=0 then (if rfE x y z=0 then (if b*b-4*(a*c)=y*y-4*(x*z) then 0 else 5) else rfE x y z) else rfE a b c
theorem zCn {a b c:Int} (ha:ab a<pw 2) (hb:ab b<pw 2) (hc:ab c<pw 2):ab (b*b-4*(a*c))<pw 6:=
 zCm (zBu hb hb) (zBu (show ab (4:Int)<pw 1 by decide) (zBu ha hc)) zm zm
noncomputable def cmF (a b c x y z:Int):F3:=if cmE a b c x y z=0 then mulF (b*b-4*(a*c)) ⟨a,b,c⟩ ⟨x,y,z⟩ else ⟨0,0,0⟩
theorem zDm {D a b c:Int} (h:Sf D a b c):D % 4=0∨D % 4=1:=by
 have h1:=h.disc
 have h2:=zKr b
 omega
theorem pp1 {a b a' b' c' s δ e m n r q x y u z:Int} (hs:2*s=b+b') (hδ:2*δ=b-b') (hez:u*x*a+u*y*a'+z*s=e) (ha':a'=e*n) (hr:u*y*δ-z*c'=m*q+r) :
  u*x*a*b'+u*y*a'*b+z*(s*b'-2*(a'*c'))=e*(b'+2*n*(m*q+r)):=by
 rw [← hr]
 have h1:u*x*a=e-u*y*a'-z*s:=by omega
 rw [h1]
 have h2:b=b'+2*δ:=by omega
 rw [h2,ha']
 grind
theorem pp2 {D a' b' c' e n r:Int} (hD:b'*b'-4*(a'*c')=D) (ha':a'=e*n):(b'+r*n+r*n)*(b'+r*n+r*n)-D=4*n*(e*c'+r*(b'+r*n)):=by
 rw [← hD,ha']
 grind
theorem pp3 {A B C k:Int}:(B+2*A*k)*(B+2*A*k)-(B*B-4*(A*C))=4*A*(A*(k*k)+B*k+C):=by grind
theorem pp4 {b' n m q r:Int}:b'+r*n+r*n=b'+2*n*(m*q+r)+2*(m*n)*(-q):=by grind
theorem pp5 {b b' D c' a' s:Int} (hs:2*s=b+b') (hD:b'*b'-4*(a'*c')=D):(b*b'+D)=2*(s*b'-2*(a'*c')):=by
 rw [← hD]
 have:b=2*s-b':=by omega
 rw [this]
 grind
theorem pp6 {m n X C:Int} (h:4*n*X=4*(m*n)*C) (hn:n≠0):X=m*C:=by
 have:(4*n)*X=(4*n)*(m*C):=by rw [h];grind
 exact zBz zm this
theorem prod_prog {D a b c a' b' c' h x y e u z m n s δ r:Int} (hf:Sf D a b c) (hg:Sf D a' b' c') (e1:x*a+y*a'=h) (d1:h ∣ a) (d2:h ∣ a') (hs:s=(b+b')/2) (hδ:δ=(b-b')/2) (e2:u*h+z*s=e) (d3:e ∣ h) (d4:e ∣ s) (he:0<e) (hm:m=a/e) (hn:n=a'/e) (hr:r=(u*y*δ-z*c') % m) :
  0<m∧0<n∧∃ R:F3,Sc D R∧Cps D a b a' b' R.a R.b∧Und R.a R.b R.c 1 (-((u*y*δ-z*c')/m)) 0 1 (m*n) (b'+r*n+r*n) ((e*c'+r*(b'+r*n))/m):=by
 subst hs
 obtain ⟨c1,c2⟩:=zQ9 hf hg e1 d1 d2 e2 d3 d4 he
 have d5:=Int.dvd_trans d3 d1
 have d6:=Int.dvd_trans d3 d2
 have ha:a=e*m:=by rw [hm];exact (Int.mul_ediv_cancel' d5).symm
 have ha':a'=e*n:=by rw [hn];exact (Int.mul_ediv_cancel' d6).symm
 have m0:0<m:=zIe he (by rw [← ha];exact hf.pos)
 have n0:0<n:=zIe he (by rw [← ha'];exact hg.pos)
 have q1:=zKr b
 have q2:=zKr b'
 have q3:=hf.disc
 have q4:=hg.disc
 have hs2:2*((b+b')/2)=b+b':=by omega
 have hδ2:2*δ=b-b':=by omega
 have hez:u*x*a+u*y*a'+z*((b+b')/2)=e:=by
  rw [← e2,← e1]
  grind
 have hq:u*y*δ-z*c'=m*((u*y*δ-z*c')/m)+r:=by rw [hr];exact (Int.mul_ediv_add_emod _ _).symm
 obtain ⟨q,eq⟩:∃ q,q=(u*y*δ-z*c')/m:=⟨_,rfl⟩
 rw [← eq] at hq ⊢
 have eA:a*a'/(e*e)=m*n:=by
  rw [ha,ha',show e*m*(e*n)=(e*e)*(m*n) by grind]
  exact Int.mul_ediv_cancel_left _ (by have:=Int.mul_pos he he;omega)
 have eM:(b*b'+D)/2=(b+b')/2*b'-2*(a'*c'):=by
  have:=pp5 hs2 q4
  omega
 have eB:(u*x*a*b'+u*y*a'*b+z*((b*b'+D)/2))/e=b'+2*n*(m*q+r):=by
  rw [eM,pp1 hs2 hδ2 hez ha' hq]
  exact Int.mul_ediv_cancel_left _ zm
 rw [eA,eB] at c1 c2
 refine ⟨m0,n0,⟨m*n,b'+2*n*(m*q+r),_⟩,c2,c1,?_⟩
 obtain ⟨B0,hB0⟩:∃ B0,B0=b'+2*n*(m*q+r):=⟨_,rfl⟩
 obtain ⟨C0,hC0⟩:∃ C0,C0=(B0*B0-D)/(4*(m*n)):=⟨_,rfl⟩
 simp only
 rw [← hB0] at c2 ⊢
 rw [← hC0] at c2 ⊢
 have e4:b'+r*n+r*n=B0+2*(m*n)*(-q):=by rw [hB0];exact pp4
 have e5:=pp2 (r:=r) q4 ha'
 have e6:=pp3 (A:=m*n) (B:=B0) (C:=C0) (k:=-q)
 rw [← e4,c2.disc,e5] at e6
 have e7:=pp6 e6 zm
 refine ⟨by omega,?_,?_,?_⟩
 ·unfold qv;omega
 ·rw [e4]
  unfold qm
  grind
 ·rw [e7,Int.mul_ediv_cancel_left _ zm]
  unfold qv
  grind
theorem zTk:En 53:=zAe Tryz.func53 (by kernel_rfl) rfl
theorem zTl:En 54:=zAe Tryz.func54 (by kernel_rfl) rfl
theorem zJk:En 18:=zAe Tryz.func18 (by kernel_rfl) rfl
theorem zTm:En 93:=zAe Tryz.func93 (by kernel_rfl) rfl
theorem zDd:En 55:=zAe Tryz.func55 (by kernel_rfl) rfl
theorem zLi:En 56:=zAe Tryz.func56 (by kernel_rfl) rfl
theorem zGx:En 107:=zAe Tryz.func107 (by kernel_rfl) rfl
theorem zOs:En 108:=zAe Tryz.func108 (by kernel_rfl) rfl
theorem zGw:En 57:=zAe Tryz.func57 (by kernel_rfl) rfl
theorem zHu:En 59:=zAe Tryz.func59 (by kernel_rfl) rfl
theorem zLh:En 60:=zAe Tryz.func60 (by kernel_rfl) rfl
theorem zTn:En 61:=zAe Tryz.func61 (by kernel_rfl) rfl
theorem zOq:En 64:=zAe Tryz.func64 (by kernel_rfl) rfl
theorem zHt:En 65:=zAe Tryz.func65 (by kernel_rfl) rfl
theorem zLg:En 114:=zAe Tryz.func114 (by kernel_rfl) rfl
theorem zOp:En 110:=zAe Tryz.func110 (by kernel_rfl) rfl
theorem zJl:En 112:=zAe Tryz.func112 (by kernel_rfl) rfl
theorem zOr:En 129:=zAe Tryz.func129 (by kernel_rfl) rfl

theorem exPBezG {w:World} {v v':Value} {a b:Int} (h:Num w v a) (h':Num w v' b) (ha0:ab a<pw 40) (hb0:ab b<pw 40) :
  Rt 111 #[v,v'] w fun v' w'=>(Fq.tup3 (Fq.num (Int.gcd a b:Int)) (Fq.num (bqU a b)) (Fq.num (bqV a b))).P v' w':=by
 refine (BezoutV h h' ha0 hb0 zm).mono fun e w' hh=>?_
 obtain ⟨hb,v1,v2,v3,g,u,x,rfl,h1,h2,h3,rfl,⟨h4,h5,h6⟩ | ⟨h4,h5,h6,h7⟩⟩:=hh
 ·subst h4 h5 h6
  exact ⟨_,rfl,hb,_,_,_,rfl,h1,by unfold bqU;rw [if_pos rfl];exact h2,by unfold bqV;rw [if_pos rfl];exact h3⟩
 ·have h0:0<ab b:=by unfold ab;omega
  rw [← zJy a b] at h6
  by_cases hp:0<b
  ·obtain ⟨e1,e2⟩:=zN8 h0 h5 h6 (v:=x) (by rw [zJy,show ab b=b by unfold ab;omega];exact h7)
   exact ⟨_,rfl,hb,_,_,_,rfl,h1,by unfold bqU;rw [if_neg h4,← e1];exact h2,by unfold bqV;rw [if_neg h4,if_pos hp,← e2];exact h3⟩
  ·obtain ⟨e1,e2⟩:=zN8 h0 h5 h6 (v:=-x) (by rw [zJy,show ab b=-b by unfold ab;omega,Int.neg_mul_neg];exact h7)
   exact ⟨_,rfl,hb,_,_,_,rfl,h1,by unfold bqU;rw [if_neg h4,← e1];exact h2,by unfold bqV;rw [if_neg h4,if_neg hp,← e2,Int.neg_neg];exact h3⟩
theorem zTw {w:World} {v:Value} {a b c:Int} (h:(f3 a b c).P v w) (ha:ab a<pw 40) (hb:ab b<pw 40) (hc:ab c<pw 40) (hD:ab (b*b-4*(a*c))<pw 40) (hk:¬ chkF a b c=0) :
  Rt 55 #[v] w fun v' w'=>v'=.int .i64 (chkF a b c):=by
 replace ha:=hidd ha
 replace hb:=hidd hb
 replace hc:=hidd hc
 have HDB:=hidd hD
 clear hD
 obtain ⟨er,her⟩:∃ er,er=chkF a b c:=⟨_,rfl⟩
 rw [← her] at hk ⊢
 have HK:=hidd her.symm
 have HN:=hidd hk
 clear her hk
 obtain ⟨y0_p0,y0_q0,y0_p1,y0_q1,y0_p2,y0_q2,rfl,hF0⟩:=o3 h
 obtain ⟨w1,b1,hw1,hb1,hs1,E⟩:=gS w 38 hF0
 go_enter Tryz.func55,Tryz.ntmps55
 go_upto_region 1 with (fail)
 rw [← hw1,← hb1]
 clear hw1 hb1 hs1
 refine rz [.w (f3 a b c),.i er,.i er] [none] [] E (fun hp=>⟨lS 0 6 hp (mq 0 rfl) zAd zw,zc hp zF6 zi fun v w h=>zF8 h ha.out hb.out hc.out HDB.out HK.out,zS,tv⟩) ?_
 intro w2 E _ _
 simp only [Z1] at E ⊢
 go_upto_region 2 with (fail)
 refine rz [.i er,.t] [none] [] E (fun hp=>⟨zS,zO hp (sqi 0) HN.out,tv⟩) ?_
 intro w3 E _ _
 simp only [Z1] at E ⊢
 go_upto_region 3 with (fail)
 refine rz [.i er,.i er] [none] [] E (fun hp=>⟨zS,zS,tv⟩) ?_
 intro w4 E _ _
 simp only [Z1] at E ⊢
 clear HK HN
 clear ha hb hc HDB
 go_wp2
 exact zR (v:=.int .i64 er) (by simp [results,Tryz.results55,go_sem]) E.below rfl

theorem zTy {w:World} {v:Value} {a b c:Int} (h:(f3 a b c).P v w) (ha:ab a<pw 40) (hb:ab b<pw 40) (hc:ab c<pw 40) (hD:ab (b*b-4*(a*c))<pw 40) (hk:chkF a b c=0) (hd:0<(b*b-4*(a*c))) :
  Rt 55 #[v] w fun v' w'=>v'=.int .i64 5:=by
 replace ha:=hidd ha
 replace hb:=hidd hb
 replace hc:=hidd hc
 have HDB:=hidd hD
 clear hD
 have HK:=hidd hk
 clear hk
 have T1:Hid (0<cmpI (b*b-4*(a*c)) 0):=cmpIqgt.2 hd
 clear hd
 obtain ⟨y0_p0,y0_q0,y0_p1,y0_q1,y0_p2,y0_q2,rfl,hF0⟩:=o3 h
 obtain ⟨w1,b1,hw1,hb1,hs1,E⟩:=gS w 38 hF0
 go_enter Tryz.func55,Tryz.ntmps55
 go_upto_region 1 with (fail)
 rw [← hw1,← hb1]
 clear hw1 hb1 hs1
 refine rz [.w (f3 a b c),.i 0,.i 0] [none] [] E (fun hp=>⟨lS 0 6 hp (mq 0 rfl) zAd zw,zc hp zF6 zi fun v w h=>zF8 h ha.out hb.out hc.out HDB.out HK.out,zS,tv⟩) ?_
 intro w2 E _ _
 simp only [Z1] at E ⊢
 go_upto_region 2 with (fail)
 refine rz [.i 0,.o] [none] [] E (fun hp=>⟨zS,zo hp (sqi 0),tv⟩) ?_
 intro w3 E _ _
 simp only [Z1] at E ⊢
 go_upto_region 4 with (fail)
 refine rz [.w (f3 a b c),.n (b*b-4*(a*c)),.i (cmpI (b*b-4*(a*c)) 0),.t] [none] [] E (fun hp=>⟨lS 0 6 hp (mq 0 rfl) zAd zw,zc hp zC6 zi fun v w h=>zC7 h (Int.lt_of_lt_of_le ha.out (zAa zm)) (Int.lt_of_lt_of_le hb.out (zAa zm)) (Int.lt_of_lt_of_le hc.out (zAa zm)),zc hp zAz zi fun v w h=>zA0 h,zO hp (sqi 2) T1.out,tv⟩) ?_
 intro w4 E _ _
 simp only [Z1] at E ⊢
 go_upto_region 5 with (fail)
 refine rz [.i 5] [none] [] E (fun hp=>⟨zS,tv⟩) ?_
 intro w5 E _ _
 simp only [Z1] at E ⊢
 clear HK T1
 clear ha hb hc HDB
 go_wp2
 exact zR (v:=.int .i64 5) (by simp [results,Tryz.results55,go_sem]) E.below rfl

theorem zTz {w:World} {v:Value} {a b c:Int} (h:(f3 a b c).P v w) (ha:ab a<pw 40) (hb:ab b<pw 40) (hc:ab c<pw 40) (hD:ab (b*b-4*(a*c))<pw 40) (hk:chkF a b c=0) (hd:¬ 0<(b*b-4*(a*c))) (hc1:¬ cont a b c=1) :
  Rt 55 #[v] w fun v' w'=>v'=.int .i64 80:=by
 replace ha:=hidd ha
 replace hb:=hidd hb
 replace hc:=hidd hc
 have HDB:=hidd hD
 clear hD
 have HK:=hidd hk
 clear hk
 have T1:Hid (¬ 0<cmpI (b*b-4*(a*c)) 0):=fun e=>hd (cmpIqgt.1 e)
 have HT:Hid (decide (cont a b c=1)=false):=decide_eq_false hc1
 clear hd hc1
 obtain ⟨y0_p0,y0_q0,y0_p1,y0_q1,y0_p2,y0_q2,rfl,hF0⟩:=o3 h
 obtain ⟨w1,b1,hw1,hb1,hs1,E⟩:=gS w 38 hF0
 go_enter Tryz.func55,Tryz.ntmps55
 go_upto_region 1 with (fail)
 rw [← hw1,← hb1]
 clear hw1 hb1 hs1
 refine rz [.w (f3 a b c),.i 0,.i 0] [none] [] E (fun hp=>⟨lS 0 6 hp (mq 0 rfl) zAd zw,zc hp zF6 zi fun v w h=>zF8 h ha.out hb.out hc.out HDB.out HK.out,zS,tv⟩) ?_
 intro w2 E _ _
 simp only [Z1] at E ⊢
 go_upto_region 2 with (fail)
 refine rz [.i 0,.o] [none] [] E (fun hp=>⟨zS,zo hp (sqi 0),tv⟩) ?_
 intro w3 E _ _
 simp only [Z1] at E ⊢
 go_upto_region 4 with (fail)
 refine rz [.w (f3 a b c),.n (b*b-4*(a*c)),.i (cmpI (b*b-4*(a*c)) 0),.o] [none] [] E (fun hp=>⟨lS 0 6 hp (mq 0 rfl) zAd zw,zc hp zC6 zi fun v w h=>zC7 h (Int.lt_of_lt_of_le ha.out (zAa zm)) (Int.lt_of_lt_of_le hb.out (zAa zm)) (Int.lt_of_lt_of_le hc.out (zAa zm)),zc hp zAz zi fun v w h=>zA0 h,zO hp (sqi 2) T1.out,tv⟩) ?_
 intro w4 E _ _
 simp only [Z1] at E ⊢
 go_upto_region 6 with (fail)
 refine rz [.w (f3 a b c),.o,.t] [none] [] E (fun hp=>⟨lS 0 6 hp (mq 0 rfl) zAd zw,zc hp zLj zi fun v w h=>zLv h (Int.lt_of_lt_of_le ha.out (zAa zm)) (Int.lt_of_lt_of_le hb.out (zAa zm)) (Int.lt_of_lt_of_le hc.out (zAa zm)) HT.out,zo hp (sqi 1),tv⟩) ?_
 intro w5 E _ _
 simp only [Z1] at E ⊢
 go_upto_region 7 with (fail)
 refine rz [.i 80] [none] [] E (fun hp=>⟨zS,tv⟩) ?_
 intro w6 E _ _
 simp only [Z1] at E ⊢
 clear HK T1 HT
 clear ha hb hc HDB
 go_wp2
 exact zR (v:=.int .i64 80) (by simp [results,Tryz.results55,go_sem]) E.below rfl

theorem zTx {w:World} {v:Value} {a b c:Int} (h:(f3 a b c).P v w) (ha:ab a<pw 40) (hb:ab b<pw 40) (hc:ab c<pw 40) (hD:ab (b*b-4*(a*c))<pw 40) (hk:chkF a b c=0) (hd:¬ 0<(b*b-4*(a*c))) (hc1:cont a b c=1) :
  Rt 55 #[v] w fun v' w'=>v'=.int .i64 0:=by
 replace ha:=hidd ha
 replace hb:=hidd hb
 replace hc:=hidd hc
 have HDB:=hidd hD
 clear hD
 have HK:=hidd hk
 clear hk
 have T1:Hid (¬ 0<cmpI (b*b-4*(a*c)) 0):=fun e=>hd (cmpIqgt.1 e)
 have HT:Hid (decide (cont a b c=1)=true):=decide_eq_true hc1
 clear hd hc1
 obtain ⟨y0_p0,y0_q0,y0_p1,y0_q1,y0_p2,y0_q2,rfl,hF0⟩:=o3 h
 obtain ⟨w1,b1,hw1,hb1,hs1,E⟩:=gS w 38 hF0
 go_enter Tryz.func55,Tryz.ntmps55
 go_upto_region 1 with (fail)
 rw [← hw1,← hb1]
 clear hw1 hb1 hs1
 refine rz [.w (f3 a b c),.i 0,.i 0] [none] [] E (fun hp=>⟨lS 0 6 hp (mq 0 rfl) zAd zw,zc hp zF6 zi fun v w h=>zF8 h ha.out hb.out hc.out HDB.out HK.out,zS,tv⟩) ?_
 intro w2 E _ _
 simp only [Z1] at E ⊢
 go_upto_region 2 with (fail)
 refine rz [.i 0,.o] [none] [] E (fun hp=>⟨zS,zo hp (sqi 0),tv⟩) ?_
 intro w3 E _ _
 simp only [Z1] at E ⊢
 go_upto_region 4 with (fail)
 refine rz [.w (f3 a b c),.n (b*b-4*(a*c)),.i (cmpI (b*b-4*(a*c)) 0),.o] [none] [] E (fun hp=>⟨lS 0 6 hp (mq 0 rfl) zAd zw,zc hp zC6 zi fun v w h=>zC7 h (Int.lt_of_lt_of_le ha.out (zAa zm)) (Int.lt_of_lt_of_le hb.out (zAa zm)) (Int.lt_of_lt_of_le hc.out (zAa zm)),zc hp zAz zi fun v w h=>zA0 h,zO hp (sqi 2) T1.out,tv⟩) ?_
 intro w4 E _ _
 simp only [Z1] at E ⊢
 go_upto_region 6 with (fail)
 refine rz [.w (f3 a b c),.t,.o] [none] [] E (fun hp=>⟨lS 0 6 hp (mq 0 rfl) zAd zw,zc hp zLj zi fun v w h=>zLv h (Int.lt_of_lt_of_le ha.out (zAa zm)) (Int.lt_of_lt_of_le hb.out (zAa zm)) (Int.lt_of_lt_of_le hc.out (zAa zm)) HT.out,zo hp (sqi 1),tv⟩) ?_
 intro w5 E _ _
 simp only [Z1] at E ⊢
 go_upto_region 8 with (fail)
 refine rz [.i 0] [none] [] E (fun hp=>⟨zS,tv⟩) ?_
 intro w6 E _ _
 simp only [Z1] at E ⊢
 clear HK T1 HT
 clear ha hb hc HDB
 go_wp2
 exact zR (v:=.int .i64 0) (by simp [results,Tryz.results55,go_sem]) E.below rfl

theorem zDe {w:World} {v:Value} {a b c:Int} (h:(f3 a b c).P v w) (ha:ab a<pw 40) (hb:ab b<pw 40) (hc:ab c<pw 40) (hD:ab (b*b-4*(a*c))<pw 40) {er:Int} (he:rfE a b c=er) :
  Rt 55 #[v] w fun v' w'=>v'=.int .i64 er:=by
 subst he
 by_cases hk:chkF a b c=0
 ·by_cases hd:0<b*b-4*(a*c)
  ·rw [rfE_pos hk hd];exact zTy h ha hb hc hD hk hd
  ·rw [rfE_neg hk hd]
   by_cases h1:cont a b c=1
   ·rw [if_pos h1];exact zTx h ha hb hc hD hk hd h1
   ·rw [if_neg h1];exact zTz h ha hb hc hD hk hd h1
 ·rw [rfE_chk hk];exact zTw h ha hb hc hD hk

theorem zLs {w:World} {v:Value} {a b c:Int} (h:(f3 a b c).P v w) (ha:ab a<pw 5) (hb:ab b<pw 11) (hc:ab c<pw 24) (hD:ab (b*b-4*(a*c))<pw 20) :
  Rt 59 #[v] w fun v' w'=>(Fq.st [.n (redT a b c).fa,.n (redT a b c).fb,.n (redT a b c).fc]).P v' w':=by
 replace ha:=hidd ha
 replace hb:=hidd hb
 replace hc:=hidd hc
 obtain ⟨R,hR⟩:∃ R,R=redT a b c:=⟨_,rfl⟩
 rw [← hR]
 have BR:=hidd (zM9 ha.out hb.out hc.out hD)
 rw [← hR] at BR
 have HR:=hidd hR
 have HDB:=hidd hD
 clear hR hD
 obtain ⟨y0_p0,y0_q0,y0_p1,y0_q1,y0_p2,y0_q2,rfl,hF0⟩:=o3 h
 obtain ⟨w1,b1,hw1,hb1,hs1,E⟩:=gS w 38 hF0
 obtain ⟨w2,b2,hw2,hb2,hs2,E⟩:=fO E hs1 38 zAu
 go_enter Tryz.func59,Tryz.ntmps59
 go_upto_region 1 with (fail)
 rw [← hw1,← hw2]
 rw [← hb2,← hb1]
 clear hw1 hw2 hb1 hb2 hs2 hs1
 refine rz [.w (f3 a b c),.w (Fq.tup3 (f3 R.fa R.fb R.fc) (Fq.st [.n R.x1,.n R.x2,.n R.x3,.n R.x4]) (Fq.is (.int .i64 (redE a b c)))),.w (Fq.tup3 (f3 R.fa R.fb R.fc) (Fq.st [.n R.x1,.n R.x2,.n R.x3,.n R.x4]) (Fq.is (.int .i64 (redE a b c)))),.w (f3 R.fa R.fb R.fc),.w (Fq.st [.n R.x1,.n R.x2,.n R.x3,.n R.x4]),.i (redE a b c),.k,.k,.a,.a,.i (redE a b c)] N2 [⟨6,8,6,f3 0 0 0,f3 R.fa R.fb R.fc,none⟩,⟨7,9,8,Fq.st [.n 0,.n 0,.n 0,.n 0],Fq.st [.n R.x1,.n R.x2,.n R.x3,.n R.x4],none⟩] E (fun hp=>⟨lS 0 6 hp (mq 1 rfl) zAd zw,zc hp zOu zi fun v w h=>(by have hh:=zPi h ha.out hb.out hc.out HDB.out;rw [← HR.out] at hh;exact hh),zS,zS,zS,zS,aS hp (mq 0 rfl) zAu zB0,aS hp (mq 1 rfl) zEl zM7,sS 3 hp (mq 0 rfl) zAo,sS 4 hp (mq 1 rfl) zEe,zS,tv⟩) ?_
 intro w3 b3_6 b3_7 E _ _
 simp only [Z1] at E ⊢
 go_upto_region 2 with (fail)
 refine rz [.w (f3 R.fa R.fb R.fc),.a] [none,none,some (1,f3 R.fa R.fb R.fc),none] [] E (fun hp=>⟨lS 0 6 hp (mq 0 rfl) zAd zw,sO 0 0 hp (mq 2 rfl) zAo zw,tv⟩) ?_
 intro w4 E _ _
 simp only [Z1] at E ⊢
 clear HR
 obtain ⟨_,_,hc0,hf0⟩:=zAy (E.box 2 rfl)
 have hP0:=hf0
 obtain ⟨r0_p0,r0_q0,_,rfl,_r0_n0,r0_p1,r0_q1,_,rfl,_r0_n1,r0_p2,r0_q2,_,rfl,_r0_n2,rfl⟩:=hf0
 have c0_z:=c6 hc0
 simp only [List.getD_cons_zero,List.getD_cons_succ] at c0_z
 clear hc0
 clear ha hb hc BR HDB
 go_wp2
 exact zR (v:=.agg #[r0_p0,r0_q0,r0_p1,r0_q1,r0_p2,r0_q2]) (by simp [results,Tryz.results59,go_sem,c0_z]) E.below ⟨_,rfl,hP0⟩

theorem zJq {w:World} {v v':Value} {a b:Int} (h:Num w v a) (h':Num w v' b) (ha:ab a<pw 100) (hb:ab b<pw 100) (hn:b≠0) :
  Rt 112 #[v,v'] w fun v' w'=>Num w' v' (a/b):=by
 replace ha:=hidd ha
 replace hb:=hidd hb
 have HN:=hidd hn
 clear hn
 obtain ⟨n0,ao0,k0,c0,rfl⟩:=h.parts
 obtain ⟨n1,ao1,k1,c1,rfl⟩:=h'.parts
 obtain ⟨w1,b1,hw1,hb1,hs1,E⟩:=gN w 36 h
 obtain ⟨w2,b2,hw2,hb2,hs2,E⟩:=fN E hs1 36 h'
 obtain ⟨w3,b3,hw3,hb3,hs3,E⟩:=fZ E hs2 36
 go_enter Tryz.func112,Tryz.ntmps112
 go_upto_region 1 with (fail)
 rw [← hw1,← hw2]
 rw [← hw3,← hb3]
 rw [← hb2,← hb1]
 clear hw1 hw2 hw3 hb1 hb2 hb3 hs3 hs1 hs2
 have B4:Hid (ab ((a/b))<pw 101):=zDp ha.out zm
 have B5:Hid (ab ((a % b))<pw 100):=zB4 HN.out hb.out
 refine rz [.n a,.n b,.w (Fq.tup3 (Fq.num (a/b)) (Fq.num (a % b)) (Fq.is (.int .i64 0))),.w (Fq.tup3 (Fq.num (a/b)) (Fq.num (a % b)) (Fq.is (.int .i64 0))),.n (a/b),.n (a % b),.i 0,.k,.k,.a,.a,.i 0] N3 [⟨7,9,2,Fq.num 0,Fq.num (a/b),none⟩,⟨8,10,2,Fq.num 0,Fq.num (a % b),none⟩] E (fun hp=>⟨lI 0 hp (mq 2 rfl) zw,lI 0 hp (mq 1 rfl) zw,zC hp zE7 zi zi fun v v' w h h'=>zE8 h h' HN.out B4.out B5.out zm zm,zS,zS,zS,zS,aN hp (mq 0 rfl),aN hp (mq 1 rfl),sN 4 hp (mq 0 rfl),sN 5 hp (mq 1 rfl),zS,tv⟩) ?_
 intro w6 b6_7 b6_8 E _ _
 simp only [Z1] at E ⊢
 go_upto_region 2 with (fail)
 refine rz [.n (a/b),.a] [none,none,some (1,Fq.num (a/b)),none,none] [] E (fun hp=>⟨lI 0 hp (mq 0 rfl) zw,sP 0 hp (mq 2 rfl) zw,tv⟩) ?_
 intro w7 E _ _
 simp only [Z1] at E ⊢
 clear HN
 obtain ⟨p0_0,p0_1,c0_0,c0_1,hP0⟩:=zCg (E.box 2 rfl)
 clear B4 B5 ha hb
 go_wp2
 exact zR (v:=.agg #[p0_0,p0_1]) (by simp [results,Tryz.results112,go_sem,c0_0,c0_1]) E.below hP0

theorem zO7 {w:World} {v:Value} {a:Int} (h:Num w v a) (ha:ab a<pw 100) :
  Rt 110 #[v] w fun v' w'=>Num w' v' (a/2):=by
 replace ha:=hidd ha
 have H2:Hid ((2:Int)≠0):=by show _≠_;decide
 have BQ:Hid (ab (a/2)<pw 100):=zHp ha.out
 obtain ⟨n0,ao0,k0,c0,rfl⟩:=h.parts
 obtain ⟨w1,b1,hw1,hb1,hs1,E⟩:=gN w 36 h
 obtain ⟨w2,b2,hw2,hb2,hs2,E⟩:=fZ E hs1 36
 go_enter Tryz.func110,Tryz.ntmps110
 go_upto_region 1 with (fail)
 rw [← hw1,← hw2]
 rw [← hb2,← hb1]
 clear hw1 hw2 hb1 hb2 hs2 hs1
 refine rz [.n a,.n 2,.n (a/2),.a] [some (3,Fq.num (a/2)),none] [] E (fun hp=>⟨lI 0 hp (mq 1 rfl) zw,zBn (F:=(Fq.is (.int .i64 2)).P) hp fo tv (zBv) (zAk (fun _=>rfl)) (fun v w h=>(by subst h;exact OfK w 2 zm zm)),zC hp zJl zi zi fun v v' w h h'=>zJq h h' ha.out (Int.lt_of_lt_of_le (show ab (2:Int)<pw 3 from zAs zd zd) (zAa zm)) H2.out,sP 2 hp (mq 0 rfl) zw,tv⟩) ?_
 intro w3 E _ _
 simp only [Z1] at E ⊢
 clear H2
 obtain ⟨p0_0,p0_1,c0_0,c0_1,hP0⟩:=zCg (E.box 0 rfl)
 clear ha BQ
 go_wp2
 exact zR (v:=.agg #[p0_0,p0_1]) (by simp [results,Tryz.results110,go_sem,c0_0,c0_1]) E.below hP0

theorem exCmIsEq0 {w:World} {v v':Value} {a b c x y z:Int} (h:(f3 a b c).P v w) (h':(f3 x y z).P v' w) (e0:¬ a=x) {t:Bool} (ht:eqF a b c x y z=t) :
  Rt 64 #[v,v'] w fun v' w'=>v'=.bool t:=by
 have ht2:t=false:=ht.symm.trans (by unfold eqF;simp [e0])
 subst ht2
 clear ht
 have T0:Hid (¬ cmpI a x=0):=fun e=>e0 (cmpI_eq0.1 e)
 clear e0
 obtain ⟨y0_p0,y0_q0,y0_p1,y0_q1,y0_p2,y0_q2,rfl,hF0⟩:=o3 h
 obtain ⟨y1_p0,y1_q0,y1_p1,y1_q1,y1_p2,y1_q2,rfl,hF1⟩:=o3 h'
 obtain ⟨w1,b1,hw1,hb1,hs1,E⟩:=gS w 38 hF0
 obtain ⟨w2,b2,hw2,hb2,hs2,E⟩:=fS E hs1 38 hF1
 go_enter Tryz.func64,Tryz.ntmps64
 go_upto_region 1 with (fail)
 rw [← hw1,← hw2]
 rw [← hb2,← hb1]
 clear hw1 hw2 hb1 hb2 hs2 hs1
 refine rz [.p b1 0,.n a,.p b2 0,.n x,.i (cmpI a x),.o,.o,.u (undef),.u (undef),.u (undef),.u (undef),.u (undef),.u (undef),.o,.o,.u (undef),.u (undef),.u (undef),.u (undef),.u (undef),.u (undef),.o,.o] N2 [] E (fun hp=>⟨qa b1 0 0 hp zw,lN 0 2 hp (mq 1 rfl) zAb zi,qa b2 0 0 hp zw,lN 0 2 hp (mq 0 rfl) zAb zi,zC hp zA5 zi zi fun v v' w h h'=>zA6 h h',zO hp (sqi 4) T0.out,zS,zS,zS,zS,zS,zS,zS,zt hp (sqi 6) (zk (.bool false)),zS,zS,zS,zS,zS,zS,zS,zt hp (sqi 14) (zk (.bool false)),zS,tv⟩) ?_
 intro w3 E _ _
 simp only [Z1] at E ⊢
 clear T0
 go_wp2
 exact zR (v:=.bool false) (by simp [results,Tryz.results64,go_sem]) E.below rfl

theorem exCmIsEq1 {w:World} {v v':Value} {a b c x y z:Int} (h:(f3 a b c).P v w) (h':(f3 x y z).P v' w) (e0:a=x) (e1:¬ b=y) {t:Bool} (ht:eqF a b c x y z=t) :
  Rt 64 #[v,v'] w fun v' w'=>v'=.bool t:=by
 have ht2:t=false:=ht.symm.trans (by unfold eqF;simp [e0,e1])
 subst ht2
 clear ht
 have T0:Hid (cmpI a x=0):=cmpI_eq0.2 e0
 have T1:Hid (¬ cmpI b y=0):=fun e=>e1 (cmpI_eq0.1 e)
 clear e0 e1
 obtain ⟨y0_p0,y0_q0,y0_p1,y0_q1,y0_p2,y0_q2,rfl,hF0⟩:=o3 h
 obtain ⟨y1_p0,y1_q0,y1_p1,y1_q1,y1_p2,y1_q2,rfl,hF1⟩:=o3 h'
 obtain ⟨w1,b1,hw1,hb1,hs1,E⟩:=gS w 38 hF0
 obtain ⟨w2,b2,hw2,hb2,hs2,E⟩:=fS E hs1 38 hF1
 go_enter Tryz.func64,Tryz.ntmps64
 go_upto_region 1 with (fail)
 rw [← hw1,← hw2]
 rw [← hb2,← hb1]
 clear hw1 hw2 hb1 hb2 hs2 hs1
 refine rz [.p b1 0,.n a,.p b2 0,.n x,.i (cmpI a x),.t,.t,.p b1 2,.n b,.p b2 2,.n y,.i (cmpI b y),.o,.o,.o,.u (undef),.u (undef),.u (undef),.u (undef),.u (undef),.u (undef),.o,.o] N2 [] E (fun hp=>⟨qa b1 0 0 hp zw,lN 0 2 hp (mq 1 rfl) zAb zi,qa b2 0 0 hp zw,lN 0 2 hp (mq 0 rfl) zAb zi,zC hp zA5 zi zi fun v v' w h h'=>zA6 h h',zO hp (sqi 4) T0.out,zS,zg b1 0 2 hp zw,lG 2 2 hp gqi (mq 1 rfl) zAb zi fun v w h=>zAf h,zg b2 0 2 hp zw,lG 2 2 hp gqi (mq 0 rfl) zAb zi fun v w h=>zAf h,zC hp zA5 zi zi (fun v v' w h h'=>zA6 h h'),zO hp (sqi 11) T1.out,zt hp (sqi 6) (sqi 12),zS,zS,zS,zS,zS,zS,zS,zt hp (sqi 14) (zk (.bool false)),zS,tv⟩) ?_
 intro w3 E _ _
 simp only [Z1] at E ⊢
 clear T0 T1
 go_wp2
 exact zR (v:=.bool false) (by simp [results,Tryz.results64,go_sem]) E.below rfl

theorem exCmIsEq2 {w:World} {v v':Value} {a b c x y z:Int} (h:(f3 a b c).P v w) (h':(f3 x y z).P v' w) (e0:a=x) (e1:b=y) (e2:¬ c=z) {t:Bool} (ht:eqF a b c x y z=t) :
  Rt 64 #[v,v'] w fun v' w'=>v'=.bool t:=by
 have ht2:t=false:=ht.symm.trans (by unfold eqF;simp [e0,e1,e2])
 subst ht2
 clear ht
 have T0:Hid (cmpI a x=0):=cmpI_eq0.2 e0
 have T1:Hid (cmpI b y=0):=cmpI_eq0.2 e1
 have T2:Hid (¬ cmpI c z=0):=fun e=>e2 (cmpI_eq0.1 e)
 clear e0 e1 e2
 obtain ⟨y0_p0,y0_q0,y0_p1,y0_q1,y0_p2,y0_q2,rfl,hF0⟩:=o3 h
 obtain ⟨y1_p0,y1_q0,y1_p1,y1_q1,y1_p2,y1_q2,rfl,hF1⟩:=o3 h'
 obtain ⟨w1,b1,hw1,hb1,hs1,E⟩:=gS w 38 hF0
 obtain ⟨w2,b2,hw2,hb2,hs2,E⟩:=fS E hs1 38 hF1
 go_enter Tryz.func64,Tryz.ntmps64
 go_upto_region 1 with (fail)
 rw [← hw1,← hw2]
 rw [← hb2,← hb1]
 clear hw1 hw2 hb1 hb2 hs2 hs1
 refine rz [.p b1 0,.n a,.p b2 0,.n x,.i (cmpI a x),.t,.t,.p b1 2,.n b,.p b2 2,.n y,.i (cmpI b y),.t,.t,.t,.p b1 4,.n c,.p b2 4,.n z,.i (cmpI c z),.o,.o,.o] N2 [] E (fun hp=>⟨qa b1 0 0 hp zw,lN 0 2 hp (mq 1 rfl) zAb zi,qa b2 0 0 hp zw,lN 0 2 hp (mq 0 rfl) zAb zi,zC hp zA5 zi zi fun v v' w h h'=>zA6 h h',zO hp (sqi 4) T0.out,zS,zg b1 0 2 hp zw,lG 2 2 hp gqi (mq 1 rfl) zAb zi fun v w h=>zAf h,zg b2 0 2 hp zw,lG 2 2 hp gqi (mq 0 rfl) zAb zi fun v w h=>zAf h,zC hp zA5 zi zi (fun v v' w h h'=>zA6 h h'),zO hp (sqi 11) T1.out,zt hp (sqi 6) (sqi 12),zS,zg b1 0 4 hp zw,lG 4 2 hp gqi (mq 1 rfl) zAb zi fun v w h=>zAf h,zg b2 0 4 hp zw,lG 4 2 hp gqi (mq 0 rfl) zAb zi fun v w h=>zAf h,zC hp zA5 zi zi (fun v v' w h h'=>zA6 h h'),zO hp (sqi 19) T2.out,zt hp (sqi 14) (sqi 20),zS,tv⟩) ?_
 intro w3 E _ _
 simp only [Z1] at E ⊢
 clear T0 T1 T2
 go_wp2
 exact zR (v:=.bool false) (by simp [results,Tryz.results64,go_sem]) E.below rfl

theorem exCmIsEq3 {w:World} {v v':Value} {a b c x y z:Int} (h:(f3 a b c).P v w) (h':(f3 x y z).P v' w) (e0:a=x) (e1:b=y) (e2:c=z) {t:Bool} (ht:eqF a b c x y z=t) :
  Rt 64 #[v,v'] w fun v' w'=>v'=.bool t:=by
 have ht2:t=true:=ht.symm.trans (by unfold eqF;simp [e0,e1,e2])
 subst ht2
 clear ht
 have T0:Hid (cmpI a x=0):=cmpI_eq0.2 e0
 have T1:Hid (cmpI b y=0):=cmpI_eq0.2 e1
 have T2:Hid (cmpI c z=0):=cmpI_eq0.2 e2
 clear e0 e1 e2
 obtain ⟨y0_p0,y0_q0,y0_p1,y0_q1,y0_p2,y0_q2,rfl,hF0⟩:=o3 h
 obtain ⟨y1_p0,y1_q0,y1_p1,y1_q1,y1_p2,y1_q2,rfl,hF1⟩:=o3 h'
 obtain ⟨w1,b1,hw1,hb1,hs1,E⟩:=gS w 38 hF0
 obtain ⟨w2,b2,hw2,hb2,hs2,E⟩:=fS E hs1 38 hF1
 go_enter Tryz.func64,Tryz.ntmps64
 go_upto_region 1 with (fail)
 rw [← hw1,← hw2]
 rw [← hb2,← hb1]
 clear hw1 hw2 hb1 hb2 hs2 hs1
 refine rz [.p b1 0,.n a,.p b2 0,.n x,.i (cmpI a x),.t,.t,.p b1 2,.n b,.p b2 2,.n y,.i (cmpI b y),.t,.t,.t,.p b1 4,.n c,.p b2 4,.n z,.i (cmpI c z),.t,.t,.t] N2 [] E (fun hp=>⟨qa b1 0 0 hp zw,lN 0 2 hp (mq 1 rfl) zAb zi,qa b2 0 0 hp zw,lN 0 2 hp (mq 0 rfl) zAb zi,zC hp zA5 zi zi fun v v' w h h'=>zA6 h h',zO hp (sqi 4) T0.out,zS,zg b1 0 2 hp zw,lG 2 2 hp gqi (mq 1 rfl) zAb zi fun v w h=>zAf h,zg b2 0 2 hp zw,lG 2 2 hp gqi (mq 0 rfl) zAb zi fun v w h=>zAf h,zC hp zA5 zi zi (fun v v' w h h'=>zA6 h h'),zO hp (sqi 11) T1.out,zt hp (sqi 6) (sqi 12),zS,zg b1 0 4 hp zw,lG 4 2 hp gqi (mq 1 rfl) zAb zi fun v w h=>zAf h,zg b2 0 4 hp zw,lG 4 2 hp gqi (mq 0 rfl) zAb zi fun v w h=>zAf h,zC hp zA5 zi zi (fun v v' w h h'=>zA6 h h'),zO hp (sqi 19) T2.out,zt hp (sqi 14) (sqi 20),zS,tv⟩) ?_
 intro w3 E _ _
 simp only [Z1] at E ⊢
 clear T0 T1 T2
 go_wp2
 exact zR (v:=.bool true) (by simp [results,Tryz.results64,go_sem]) E.below rfl

theorem zO8 {w:World} {v v':Value} {a b c x y z:Int} (h:(f3 a b c).P v w) (h':(f3 x y z).P v' w) {t:Bool} (ht:eqF a b c x y z=t) :
  Rt 64 #[v,v'] w fun v' w'=>v'=.bool t:=by
 by_cases e0:a=x
 ·by_cases e1:b=y
  ·by_cases e2:c=z
   ·exact exCmIsEq3 h h' e0 e1 e2 ht
   ·exact exCmIsEq2 h h' e0 e1 e2 ht
  ·exact exCmIsEq1 h h' e0 e1 ht
 ·exact exCmIsEq0 h h' e0 ht

theorem exCmIsPr0 {w:World} {v:Value} {a b c:Int} (h:(f3 a b c).P v w) (e0:¬ a=1) {t:Bool} (ht:decide (a=1)=t) :
  Rt 57 #[v] w fun v' w'=>v'=.bool t:=by
 have ht2:t=false:=ht.symm.trans (by simp [e0])
 subst ht2
 clear ht
 have T0:Hid (¬ cmpI a 1=0):=fun e=>e0 (cmpI_eq0.1 e)
 clear e0
 obtain ⟨y0_p0,y0_q0,y0_p1,y0_q1,y0_p2,y0_q2,rfl,hF0⟩:=o3 h
 obtain ⟨w1,b1,hw1,hb1,hs1,E⟩:=gS w 38 hF0
 go_enter Tryz.func57,Tryz.ntmps57
 go_upto_region 1 with (fail)
 rw [← hw1,← hb1]
 clear hw1 hb1 hs1
 refine rz [.p b1 0,.n a,.n 1,.i (cmpI a 1),.o,.o] [none] [] E (fun hp=>⟨qa b1 0 0 hp zw,lN 0 2 hp (mq 0 rfl) zAb zi,zBn (F:=(Fq.is (.int .i64 1)).P) hp fo tv (zBv) (zAk (fun _=>rfl)) (fun v w h=>(by subst h;exact OfK w 1 zm zm)),zC hp zA5 zi zi fun v v' w h h'=>zA6 h h',zO hp (sqi 3) T0.out,zS,tv⟩) ?_
 intro w2 E _ _
 simp only [Z1] at E ⊢
 clear T0
 go_wp2
 exact zR (v:=.bool false) (by simp [results,Tryz.results57,go_sem]) E.below rfl

theorem exCmIsPr1 {w:World} {v:Value} {a b c:Int} (h:(f3 a b c).P v w) (e0:a=1) {t:Bool} (ht:decide (a=1)=t) :
  Rt 57 #[v] w fun v' w'=>v'=.bool t:=by
 have ht2:t=true:=ht.symm.trans (by simp [e0])
 subst ht2
 clear ht
 have T0:Hid (cmpI a 1=0):=cmpI_eq0.2 e0
 clear e0
 obtain ⟨y0_p0,y0_q0,y0_p1,y0_q1,y0_p2,y0_q2,rfl,hF0⟩:=o3 h
 obtain ⟨w1,b1,hw1,hb1,hs1,E⟩:=gS w 38 hF0
 go_enter Tryz.func57,Tryz.ntmps57
 go_upto_region 1 with (fail)
 rw [← hw1,← hb1]
 clear hw1 hb1 hs1
 refine rz [.p b1 0,.n a,.n 1,.i (cmpI a 1),.t,.t] [none] [] E (fun hp=>⟨qa b1 0 0 hp zw,lN 0 2 hp (mq 0 rfl) zAb zi,zBn (F:=(Fq.is (.int .i64 1)).P) hp fo tv (zBv) (zAk (fun _=>rfl)) (fun v w h=>(by subst h;exact OfK w 1 zm zm)),zC hp zA5 zi zi fun v v' w h h'=>zA6 h h',zO hp (sqi 3) T0.out,zS,tv⟩) ?_
 intro w2 E _ _
 simp only [Z1] at E ⊢
 clear T0
 go_wp2
 exact zR (v:=.bool true) (by simp [results,Tryz.results57,go_sem]) E.below rfl

theorem zGz {w:World} {v:Value} {a b c:Int} (h:(f3 a b c).P v w) {t:Bool} (ht:decide (a=1)=t) :
  Rt 57 #[v] w fun v' w'=>v'=.bool t:=by
 by_cases e0:a=1
 ·exact exCmIsPr1 h e0 ht
 ·exact exCmIsPr0 h e0 ht

theorem zUe {w:World} {v0 v':Value} {a b c x y z s hh p1 q1 e u t m n d r C:Int} {R:RS} (h:(f3 a b c).P v0 w) (h':(f3 x y z).P v' w) (ha:ab a<pw 2) (hb:ab b<pw 2) (hc:ab c<pw 2) (hx:ab x<pw 2) (hy:ab y<pw 2) (hz:ab z<pw 2) (hs:ab s<pw 2) (hhh:ab hh<pw 2) (hp1:ab p1<pw 2) (hq1:ab q1<pw 3) (he:ab e<pw 2) (hu:ab u<pw 2) (ht:ab t<pw 3) (hm:ab m<pw 2) (hn:ab n<pw 2) (hd:ab d<pw 2) (hr:ab r<pw 2) (hC:ab C<pw 9) (e1:s=(b+y)/2) (e2:hh=(Int.gcd a x:Int)) (e3:p1=bqU a x) (e4:q1=bqV a x) (e5:e=(Int.gcd hh s:Int)) (e6:u=bqU hh s) (e7:t=bqV hh s) (e8:m=a/e) (e9:n=x/e) (e10:d=(b-y)/2) (e11:r=(((u*q1)*d)-(t*z)) % m) (e12:C=((e*z)+(r*(y+(r*n))))/m) (e13:R=redT (m*n) ((y+(r*n))+(r*n)) C) (n0:e≠0) (n1:0<m) (n2:m≠0) (d20:ab (((y+(r*n))+(r*n))*((y+(r*n))+(r*n))-4*((m*n)*C))<pw 20) :
  Rt 65 #[v0,v'] w fun v' w'=>(f3 R.fa R.fb R.fc).P v' w':=by
 replace ha:=hidd ha
 replace hb:=hidd hb
 replace hc:=hidd hc
 replace hx:=hidd hx
 replace hy:=hidd hy
 replace hz:=hidd hz
 replace hs:=hidd hs
 replace hhh:=hidd hhh
 replace hp1:=hidd hp1
 replace hq1:=hidd hq1
 replace he:=hidd he
 replace hu:=hidd hu
 replace ht:=hidd ht
 replace hm:=hidd hm
 replace hn:=hidd hn
 replace hd:=hidd hd
 replace hr:=hidd hr
 replace hC:=hidd hC
 have Ee1:Hid (s=(b+y)/2):=e1
 have Ee2:Hid (hh=(Int.gcd a x:Int)):=e2
 have Ee3:Hid (p1=bqU a x):=e3
 have Ee4:Hid (q1=bqV a x):=e4
 have Ee5:Hid (e=(Int.gcd hh s:Int)):=e5
 have Ee6:Hid (u=bqU hh s):=e6
 have Ee7:Hid (t=bqV hh s):=e7
 have Ee8:Hid (m=a/e):=e8
 have Ee9:Hid (n=x/e):=e9
 have Ee10:Hid (d=(b-y)/2):=e10
 have Ee11:Hid (r=(((u*q1)*d)-(t*z)) % m):=e11
 have Ee12:Hid (C=((e*z)+(r*(y+(r*n))))/m):=e12
 have Ee13:Hid (R=redT (m*n) ((y+(r*n))+(r*n)) C):=e13
 have En0:Hid (e≠0):=n0
 have En1:Hid (0<m):=n1
 have En2:Hid (m≠0):=n2
 have Ed20:Hid (ab (((y+(r*n))+(r*n))*((y+(r*n))+(r*n))-4*((m*n)*C))<pw 20):=d20
 clear e1 e2 e3 e4 e5 e6 e7 e8 e9 e10 e11 e12 e13 n0 n1 n2 d20
 have B1:Hid (ab ((m*n))<pw 4):=zAm hm.out hn.out zm
 have B2:Hid (ab ((r*n))<pw 4):=zAm hr.out hn.out zm
 have B3:Hid (ab ((y+(r*n)))<pw 5):=zBd hy.out B2.out zm zm
 have B4:Hid (ab (((y+(r*n))+(r*n)))<pw 6):=zBd B3.out B2.out zm zm
 have HA5:Hid (ab (m*n)<pw 5):=(Int.lt_of_lt_of_le B1.out (zAa zm))
 have HB11:Hid (ab ((y+(r*n))+(r*n))<pw 11):=(Int.lt_of_lt_of_le B4.out (zAa zm))
 have HC24:Hid (ab C<pw 24):=(Int.lt_of_lt_of_le hC.out (zAa zm))
 have BR:=hidd (zM9 HA5.out HB11.out HC24.out Ed20.out)
 rw [← Ee13.out] at BR
 obtain ⟨y0_p0,y0_q0,y0_p1,y0_q1,y0_p2,y0_q2,rfl,hF0⟩:=o3 h
 obtain ⟨y1_p0,y1_q0,y1_p1,y1_q1,y1_p2,y1_q2,rfl,hF1⟩:=o3 h'
 obtain ⟨w5,b5,hw5,hb5,hs5,E⟩:=gS w 38 hF0
 obtain ⟨w6,b6,hw6,hb6,hs6,E⟩:=fS E hs5 38 hF1
 obtain ⟨w7,b7,hw7,hb7,hs7,E⟩:=fO E hs6 38 zAu
 go_enter Tryz.func65,Tryz.ntmps65
 go_upto_region 1 with (fail)
 rw [← hw5,← hw6]
 rw [← hw7,← hb7]
 rw [← hb6,← hb5]
 clear hw5 hw6 hw7 hb5 hb6 hb7 hs7 hs5 hs6
 have B8:Hid (ab ((b+y))<pw 3):=zBd hb.out hy.out zm zm
 refine rz [.p b5 2,.n b,.p b6 2,.n y,.n (b+y),.n s,.k,.a] N3 [⟨6,7,2,Fq.num 0,Fq.num s,none⟩] E (fun hp=>⟨qa b5 0 2 hp zw,lN 2 2 hp (mq 2 rfl) zAb zi,qa b6 0 2 hp zw,lN 2 2 hp (mq 1 rfl) zAb zi,zC hp zC5 zi zi fun v v' w h h'=>exK (AddV h h') B8.out zm,zc hp zOp zi fun v w h=>(by rw [Ee1.out];exact zO7 h (Int.lt_of_lt_of_le B8.out (zAa zm))),aN hp (mq 0 rfl),sN 5 hp (mq 0 rfl),tv⟩) ?_
 intro w9 b9_6 E _ _
 simp only [Z1] at E ⊢
 go_upto_region 2 with (fail)
 refine rz [.p b5 0,.n a,.p b6 0,.n x,.w (Fq.tup3 (Fq.num hh) (Fq.num p1) (Fq.num q1)),.w (Fq.tup3 (Fq.num hh) (Fq.num p1) (Fq.num q1)),.n hh,.n p1,.n q1,.k,.k,.k,.a,.a,.a] N4 [⟨9,12,2,Fq.num 0,Fq.num hh,none⟩,⟨10,13,2,Fq.num 0,Fq.num p1,none⟩,⟨11,14,2,Fq.num 0,Fq.num q1,none⟩] E (fun hp=>⟨qa b5 0 0 hp zw,lN 0 2 hp (mq 3 rfl) zAb zi,qa b6 0 0 hp zw,lN 0 2 hp (mq 2 rfl) zAb zi,zC hp zOf zi zi fun v v' w h h'=>(by rw [Ee2.out,Ee3.out,Ee4.out];exact exPBezG h h' (Int.lt_of_lt_of_le ha.out (zAa zm)) (Int.lt_of_lt_of_le hx.out (zAa zm))),zS,zS,zS,zS,aN hp (mq 0 rfl),aN hp (mq 1 rfl),aN hp (mq 2 rfl),sN 6 hp (mq 0 rfl),sN 7 hp (mq 1 rfl),sN 8 hp (mq 2 rfl),tv⟩) ?_
 intro w10 b10_9 b10_10 b10_11 E _ _
 simp only [Z1] at E ⊢
 go_upto_region 3 with (fail)
 refine rz [.n hh,.n s,.w (Fq.tup3 (Fq.num e) (Fq.num u) (Fq.num t)),.w (Fq.tup3 (Fq.num e) (Fq.num u) (Fq.num t)),.n e,.n u,.n t,.k,.k,.k,.a,.a,.a] N7 [⟨7,10,2,Fq.num 0,Fq.num e,none⟩,⟨8,11,2,Fq.num 0,Fq.num u,none⟩,⟨9,12,2,Fq.num 0,Fq.num t,none⟩] E (fun hp=>⟨lI 0 hp (mq 0 rfl) zw,lI 0 hp (mq 3 rfl) zw,zC hp zOf zi zi fun v v' w h h'=>(by rw [Ee5.out,Ee6.out,Ee7.out];exact exPBezG h h' (Int.lt_of_lt_of_le hhh.out (zAa zm)) (Int.lt_of_lt_of_le hs.out (zAa zm))),zS,zS,zS,zS,aN hp (mq 0 rfl),aN hp (mq 1 rfl),aN hp (mq 2 rfl),sN 4 hp (mq 0 rfl),sN 5 hp (mq 1 rfl),sN 6 hp (mq 2 rfl),tv⟩) ?_
 intro w11 b11_7 b11_8 b11_9 E _ _
 simp only [Z1] at E ⊢
 go_upto_region 4 with (fail)
 have B12:Hid (ab ((u*q1))<pw 5):=zAm hu.out hq1.out zm
 refine rz [.n u,.n q1,.n (u*q1),.a] [none,none,none,none,none,some (3,Fq.num (u*q1)),none,none,none,none] [] E (fun hp=>⟨lI 0 hp (mq 1 rfl) zw,zAx (off:=0) hp fo tv (mq 5 rfl) (.inr rfl) (Nat.le_of_ble_eq_true rfl) (sqo 8) (fun us w hl h=>zAw hl h),zC hp zBh zi zi fun v v' w h h'=>exK (MulV h h') B12.out zm,sP 2 hp (mq 5 rfl) zw,tv⟩) ?_
 intro w13 E _ _
 simp only [Z1] at E ⊢
 go_upto_region 5 with (fail)
 refine rz [.p b5 0,.n a,.n e,.n m,.p b6 0,.n x,.n e,.n n,.k,.k,.a,.a] N10 [⟨8,10,2,Fq.num 0,Fq.num m,none⟩,⟨9,11,2,Fq.num 0,Fq.num n,none⟩] E (fun hp=>⟨qa b5 0 0 hp zw,lN 0 2 hp (mq 9 rfl) zAb zi,lI 0 hp (mq 0 rfl) zw,zC hp zJl zi zi fun v v' w h h'=>(by rw [Ee8.out];exact zJq h h' (Int.lt_of_lt_of_le ha.out (zAa zm)) (Int.lt_of_lt_of_le he.out (zAa zm)) En0.out),qa b6 0 0 hp zw,lN 0 2 hp (mq 8 rfl) zAb zi,lI 0 hp (mq 0 rfl) zw,zC hp zJl zi zi fun v v' w h h'=>(by rw [Ee9.out];exact zJq h h' (Int.lt_of_lt_of_le hx.out (zAa zm)) (Int.lt_of_lt_of_le he.out (zAa zm)) En0.out),aN hp (mq 0 rfl),aN hp (mq 1 rfl),sN 3 hp (mq 0 rfl),sN 7 hp (mq 1 rfl),tv⟩) ?_
 intro w14 b14_8 b14_9 E _ _
 simp only [Z1] at E ⊢
 go_upto_region 6 with (fail)
 have B15:Hid (ab ((b-y))<pw 3):=zCm hb.out hy.out zm zm
 refine rz [.p b5 2,.n b,.p b6 2,.n y,.n (b-y),.n d,.k,.a] N12 [⟨6,7,2,Fq.num 0,Fq.num d,none⟩] E (fun hp=>⟨qa b5 0 2 hp zw,lN 2 2 hp (mq 11 rfl) zAb zi,qa b6 0 2 hp zw,lN 2 2 hp (mq 10 rfl) zAb zi,zC hp zF4 zi zi fun v v' w h h'=>exK (SubV h h') B15.out zm,zc hp zOp zi fun v w h=>(by rw [Ee10.out];exact zO7 h (Int.lt_of_lt_of_le B15.out (zAa zm))),aN hp (mq 0 rfl),sN 5 hp (mq 0 rfl),tv⟩) ?_
 intro w16 b16_6 E _ _
 simp only [Z1] at E ⊢
 go_upto_region 7 with (fail)
 have B17:Hid (ab (((u*q1)*d))<pw 7):=zAm B12.out hd.out zm
 have B18:Hid (ab ((t*z))<pw 5):=zAm ht.out hz.out zm
 have B19:Hid (ab ((((u*q1)*d)-(t*z)))<pw 8):=zCm B17.out B18.out zm zm
 refine rz [.n (u*q1),.n d,.n ((u*q1)*d),.n t,.p b6 4,.n z,.n (t*z),.n (((u*q1)*d)-(t*z)),.n m,.w (Fq.tup2 (Fq.num r) (Fq.is (.int .i64 0))),.w (Fq.tup2 (Fq.num r) (Fq.is (.int .i64 0))),.n r,.i 0,.k,.a,.i 0] N13 [⟨13,14,2,Fq.num 0,Fq.num r,none⟩] E (fun hp=>⟨lI 0 hp (mq 8 rfl) zw,lI 0 hp (mq 0 rfl) zw,zC hp zBh zi zi fun v v' w h h'=>exK (MulV h h') B17.out zm,lI 0 hp (mq 5 rfl) zw,qa b6 0 4 hp zw,lN 4 2 hp (mq 11 rfl) zAb zi,zC hp zBh zi zi fun v v' w h h'=>exK (MulV h h') B18.out zm,zC hp zF4 zi zi fun v v' w h h'=>exK (SubV h h') B19.out zm,lI 0 hp (mq 1 rfl) zw,zC hp enq_M_Mod zi zi fun v v' w h h'=>(by rw [Ee11.out];exact exModP h h' (Int.lt_of_lt_of_le B19.out (zAa zm)) (Int.lt_of_lt_of_le hm.out (zAa zm)) En1.out),zS,zS,zS,aN hp (mq 0 rfl),sN 11 hp (mq 0 rfl),zS,tv⟩) ?_
 intro w20 b20_13 E _ _
 simp only [Z1] at E ⊢
 go_upto_region 8 with (fail)
 refine rz [.n r,.n n,.n (r*n),.k,.a] N14 [⟨3,4,2,Fq.num 0,Fq.num (r*n),none⟩] E (fun hp=>⟨lI 0 hp (mq 0 rfl) zw,lI 0 hp (mq 3 rfl) zw,zC hp zBh zi zi fun v v' w h h'=>exK (MulV h h') B2.out zm,aN hp (mq 0 rfl),sN 2 hp (mq 0 rfl),tv⟩) ?_
 intro w21 b21_3 E _ _
 simp only [Z1] at E ⊢
 go_upto_region 9 with (fail)
 refine rz [.p b6 2,.n y,.n (r*n),.n (y+(r*n)),.k,.a] N15 [⟨4,5,2,Fq.num 0,Fq.num (y+(r*n)),none⟩] E (fun hp=>⟨qa b6 0 2 hp zw,lN 2 2 hp (mq 13 rfl) zAb zi,lI 0 hp (mq 0 rfl) zw,zC hp zC5 zi zi fun v v' w h h'=>exK (AddV h h') B3.out zm,aN hp (mq 0 rfl),sN 3 hp (mq 0 rfl),tv⟩) ?_
 intro w22 b22_4 E _ _
 simp only [Z1] at E ⊢
 go_upto_region 10 with (fail)
 have B23:Hid (ab ((e*z))<pw 4):=zAm he.out hz.out zm
 have B24:Hid (ab ((r*(y+(r*n))))<pw 7):=zAm hr.out B3.out zm
 have B25:Hid (ab (((e*z)+(r*(y+(r*n)))))<pw 8):=zBd B23.out B24.out zm zm
 refine rz [.n m,.n n,.n (m*n),.n (y+(r*n)),.n (r*n),.n ((y+(r*n))+(r*n)),.n e,.p b6 4,.n z,.n (e*z),.n r,.n (y+(r*n)),.n (r*(y+(r*n))),.n ((e*z)+(r*(y+(r*n)))),.n m,.n C,.w (f3 (m*n) ((y+(r*n))+(r*n)) C),.w (f3 R.fa R.fb R.fc),.a] [none,none,none,none,none,none,none,none,none,none,none,none,none,some (18,f3 R.fa R.fb R.fc),none,none] [] E (fun hp=>⟨lI 0 hp (mq 4 rfl) zw,lI 0 hp (mq 5 rfl) zw,zC hp zBh zi zi fun v v' w h h'=>exK (MulV h h') B1.out zm,lI 0 hp (mq 0 rfl) zw,lI 0 hp (mq 1 rfl) zw,zC hp zC5 zi zi fun v v' w h h'=>exK (AddV h h') B4.out zm,lI 0 hp (mq 6 rfl) zw,qa b6 0 4 hp zw,lN 4 2 hp (mq 14 rfl) zAb zi,zC hp zBh zi zi fun v v' w h h'=>exK (MulV h h') B23.out zm,lI 0 hp (mq 2 rfl) zw,lI 0 hp (mq 0 rfl) zw,zC hp zBh zi zi fun v v' w h h'=>exK (MulV h h') B24.out zm,zC hp zC5 zi zi fun v v' w h h'=>exK (AddV h h') B25.out zm,lI 0 hp (mq 4 rfl) zw,zC hp zJl zi zi fun v v' w h h'=>(by rw [Ee12.out];exact zJq h h' (Int.lt_of_lt_of_le B25.out (zAa zm)) (Int.lt_of_lt_of_le hm.out (zAa zm)) En2.out),zFo (z0:=(m*n)) (z1:=((y+(r*n))+(r*n))) (z2:=C) hp fo tv (sqi 2) (sqi 5) (sqi 15) (fun v w h=>h),zc hp zHu zi fun v w h=>(by have hh:=zLs h HA5.out HB11.out HC24.out Ed20.out;rw [← Ee13.out] at hh;exact hh),sO 0 17 hp (mq 13 rfl) zAo zw,tv⟩) ?_
 intro w26 E _ _
 simp only [Z1] at E ⊢
 clear Ee1 Ee2 Ee3 Ee4 Ee5 Ee6 Ee7 Ee8 Ee9 Ee10 Ee11 Ee12 Ee13 En0 En1 En2 Ed20
 obtain ⟨_,_,hc0,hf0⟩:=zAy (E.box 13 rfl)
 have hP0:=hf0
 obtain ⟨r0_p0,r0_q0,_,rfl,_r0_n0,r0_p1,r0_q1,_,rfl,_r0_n1,r0_p2,r0_q2,_,rfl,_r0_n2,rfl⟩:=hf0
 have c0_z:=c6 hc0
 simp only [List.getD_cons_zero,List.getD_cons_succ] at c0_z
 clear hc0
 clear B1 B2 B3 B4 B8 B12 B15 B17 B18 B19 B23 B24 B25 ha hb hc hx hy hz hs hhh hp1 hq1 he hu ht hm hn hd hr hC BR HA5 HB11 HC24
 go_wp2
 exact zR (v:=.agg #[r0_p0,r0_q0,r0_p1,r0_q1,r0_p2,r0_q2]) (by simp [results,Tryz.results65,go_sem,c0_z]) E.below ⟨_,rfl,hP0⟩

theorem zPa {w:World} {v v':Value} {a b c x y z:Int} (h:(f3 a b c).P v w) (h':(f3 x y z).P v' w) (ha:ab a<pw 2) (hb:ab b<pw 2) (hc:ab c<pw 2) (hx:ab x<pw 2) (hy:ab y<pw 2) (hz:ab z<pw 2) (hf:Sf (b*b-4*(a*c)) a b c) (hg:Sf (b*b-4*(a*c)) x y z) (hDn:(b*b-4*(a*c))<0) :
  Rt 65 #[v,v'] w fun v' w'=>(Fq.st [.n (mulF (b*b-4*(a*c)) ⟨a,b,c⟩ ⟨x,y,z⟩).a,.n (mulF (b*b-4*(a*c)) ⟨a,b,c⟩ ⟨x,y,z⟩).b,.n (mulF (b*b-4*(a*c)) ⟨a,b,c⟩ ⟨x,y,z⟩).c]).P v' w':=by
 have d6:ab (b*b-4*(a*c))<pw 6:=zCm (zBu hb hb) (zBu (show ab (4:Int)<pw 1 by decide) (zBu ha hc)) zm zm
 obtain ⟨s,e1⟩:∃ s,s=(b+y)/2:=⟨_,rfl⟩
 obtain ⟨hh,e2⟩:∃ s:Int,s=(Int.gcd a x:Int):=⟨_,rfl⟩
 obtain ⟨p1,e3⟩:∃ s,s=bqU a x:=⟨_,rfl⟩
 obtain ⟨q1,e4⟩:∃ s,s=bqV a x:=⟨_,rfl⟩
 obtain ⟨e,e5⟩:∃ t:Int,t=(Int.gcd hh s:Int):=⟨_,rfl⟩
 obtain ⟨u,e6⟩:∃ t,t=bqU hh s:=⟨_,rfl⟩
 obtain ⟨t,e7⟩:∃ t,t=bqV hh s:=⟨_,rfl⟩
 obtain ⟨m,e8⟩:∃ m,m=a/e:=⟨_,rfl⟩
 obtain ⟨n,e9⟩:∃ n,n=x/e:=⟨_,rfl⟩
 obtain ⟨d,e10⟩:∃ d,d=(b-y)/2:=⟨_,rfl⟩
 obtain ⟨r,e11⟩:∃ r,r=(((u*q1)*d)-(t*z)) % m:=⟨_,rfl⟩
 obtain ⟨C,e12⟩:∃ C,C=((e*z)+(r*(y+(r*n))))/m:=⟨_,rfl⟩
 have pa:=hf.pos
 have px:=hg.pos
 have g1:0<hh:=by have:=zJz (a:=a) (show x≠0 by omega);omega
 have g2:0<e:=by
  have:=Int.gcd_pos_iff (a:=hh) (b:=s)
  have:=this.2 (.inl zm)
  omega
 have k1:hh ∣ a:=by rw [e2];exact Int.gcd_dvd_left ..
 have k2:hh ∣ x:=by rw [e2];exact Int.gcd_dvd_right ..
 have k3:e ∣ hh:=by rw [e5];exact Int.gcd_dvd_left ..
 have k4:e ∣ s:=by rw [e5];exact Int.gcd_dvd_right ..
 have hhB:ab hh<pw 2:=by
  have:=Int.le_of_dvd pa k1
  unfold ab at ha ⊢
  generalize pw 2=K at ha ⊢
  omega
 have heB:ab e<pw 2:=by
  have:=Int.le_of_dvd g1 k3
  unfold ab at hhB ⊢
  generalize pw 2=K at hhB ⊢
  omega
 have hsB:ab s<pw 2:=by
  unfold ab at hb hy ⊢
  generalize pw 2=K at hb hy ⊢
  omega
 have hdB:ab d<pw 2:=by
  unfold ab at hb hy ⊢
  generalize pw 2=K at hb hy ⊢
  omega
 have z1:p1*a+q1*x=hh:=by rw [e2,e3,e4];exact zK5 (fun e=>by omega)
 have z2:u*hh+t*s=e:=by rw [e5,e6,e7];exact zK5 (fun e=>by omega)
 have hu:ab u<pw 2:=by rw [e6];exact bqU_ab zm hsB
 have ht:ab t<pw 3:=by rw [e7];exact bqV_ab hhB
 have hp:ab p1<pw 2:=by rw [e3];exact bqU_ab zm hx
 have hq:ab q1<pw 3:=by rw [e4];exact bqV_ab ha
 have hm:ab m<pw 2:=by rw [e8];exact zHp ha
 have hn:ab n<pw 2:=by rw [e9];exact zHp hx
 obtain ⟨m0,n0,Q,c1,c2,c3⟩:=prod_prog hf hg z1 k1 k2 e1 e10 z2 k3 k4 g2 e8 e9 e11
 have hr0:0≤r∧r<m:=by rw [e11];exact ⟨Int.emod_nonneg _ zm,Int.emod_lt_of_pos _ m0⟩
 have hr:ab r<pw 2:=by
  have h1:=hm
  unfold ab at h1 ⊢
  generalize pw 2=K at h1 ⊢
  omega
 have hS:ab (r*n)<pw 4:=Int.lt_of_lt_of_le (zBu hr hn) (zAa zm)
 have hM:ab (y+r*n)<pw 5:=zBd (m:=5) hy hS zm zm
 have hB:ab (y+r*n+r*n)<pw 11:=Int.lt_of_lt_of_le (zBd (m:=6) hM hS zm zm) (zAa zm)
 have hC:ab C<pw 9:=by rw [e12];exact zHp (zBd (m:=9) (zBu heB hz) (zBu hr hM) zm zm)
 have hA5:ab (m*n)<pw 5:=Int.lt_of_lt_of_le (zBu hm hn) (zAa zm)
 have hC24:ab C<pw 24:=Int.lt_of_lt_of_le hC (zAa zm)
 rw [← e12] at c3
 have c4:Sc (b*b-4*(a*c)) ⟨m*n,y+r*n+r*n,C⟩:=Eqv.sc hDn ⟨_,_,_,_,c3⟩ c1
 have d20:ab ((y+r*n+r*n)*(y+r*n+r*n)-4*((m*n)*C))<pw 20:=by rw [c4.disc];exact Int.lt_of_lt_of_le d6 (zAa zm)
 obtain ⟨r1,r2⟩:=zRs hA5 hB hC24 d20 (zFs (by rw [c4.disc];exact hDn) c4.pos)
 have hR:mulF (b*b-4*(a*c)) ⟨a,b,c⟩ ⟨x,y,z⟩=⟨(redT (m*n) (y+r*n+r*n) C).fa,(redT (m*n) (y+r*n+r*n) C).fb,(redT (m*n) (y+r*n+r*n) C).fc⟩:=zH4 hDn hf hg ⟨r2,Q,c1,c2,Eqv.trans (Q:=⟨m*n,y+r*n+r*n,C⟩) ⟨_,_,_,_,c3⟩ ⟨_,_,_,_,r1⟩⟩
 rw [hR]
 exact zUe h h' ha hb hc hx hy hz hsB hhB hp hq heB hu ht hm hn hdB hr hC e1 e2 e3 e4 e5 e6 e7 e8 e9 e10 e11 e12 rfl zm m0 zm d20

theorem zT2 {w:World} {v v':Value} {a b c x y z:Int} (h:(f3 a b c).P v w) (h':(f3 x y z).P v' w) (ha:ab a<pw 2) (hb:ab b<pw 2) (hc:ab c<pw 2) (hx:ab x<pw 2) (hy:ab y<pw 2) (hz:ab z<pw 2) (k1:¬ rfE a b c=0) :
  Rt 53 #[v,v'] w fun v' w'=>(Fq.tup2 (f3 0 0 0) (Fq.is (.int .i64 (rfE a b c)))).P v' w':=by
 replace ha:=hidd ha
 replace hb:=hidd hb
 replace hc:=hidd hc
 replace hx:=hidd hx
 replace hy:=hidd hy
 replace hz:=hidd hz
 obtain ⟨er1,he1⟩:∃ e,e=rfE a b c:=⟨_,rfl⟩
 obtain ⟨er2,he2⟩:∃ e,e=rfE x y z:=⟨_,rfl⟩
 have D1:=hidd (zCn ha.out hb.out hc.out)
 have D2:=hidd (zCn hx.out hy.out hz.out)
 rw [← he1] at k1 ⊢
 have T1:=hidd k1
 clear k1
 have HE1:=hidd he1.symm
 have HE2:=hidd he2.symm
 clear he1 he2
 obtain ⟨y0_p0,y0_q0,y0_p1,y0_q1,y0_p2,y0_q2,rfl,hF0⟩:=o3 h
 obtain ⟨y1_p0,y1_q0,y1_p1,y1_q1,y1_p2,y1_q2,rfl,hF1⟩:=o3 h'
 obtain ⟨w1,b1,hw1,hb1,hs1,E⟩:=gS w 38 hF0
 obtain ⟨w2,b2,hw2,hb2,hs2,E⟩:=fS E hs1 38 hF1
 obtain ⟨w3,b3,hw3,hb3,hs3,E⟩:=fO E hs2 38 zAu
 go_enter Tryz.func53,Tryz.ntmps53
 go_upto_region 1 with (fail)
 rw [← hw1,← hw2]
 rw [← hw3,← hb3]
 rw [← hb2,← hb1]
 clear hw1 hw2 hw3 hb1 hb2 hb3 hs3 hs1 hs2
 refine rz [.w (f3 a b c),.i er1,.i er1] N3 [] E (fun hp=>⟨lS 0 6 hp (mq 2 rfl) zAd zw,zc hp zDd zi fun v w h=>zDe h (Int.lt_of_lt_of_le ha.out (zAa zm)) (Int.lt_of_lt_of_le hb.out (zAa zm)) (Int.lt_of_lt_of_le hc.out (zAa zm)) (Int.lt_of_lt_of_le D1.out (zAa zm)) HE1.out,zS,tv⟩) ?_
 intro w4 E _ _
 simp only [Z1] at E ⊢
 go_upto_region 2 with (fail)
 refine rz [.i er1,.t] N3 [] E (fun hp=>⟨zS,zO hp (sqi 0) T1.out,tv⟩) ?_
 intro w5 E _ _
 simp only [Z1] at E ⊢
 go_upto_region 3 with (fail)
 refine rz [.w (f3 0 0 0),.i er1,.a,.i er1] [some (2,f3 0 0 0),none,none] [] E (fun hp=>⟨zFn hp fo tv (fun v w h=>h),zS,sO 0 0 hp (mq 0 rfl) zAo zw,zS,tv⟩) ?_
 intro w6 E _ _
 simp only [Z1] at E ⊢
 clear HE1 HE2 T1
 obtain ⟨_,_,hccr,hffr⟩:=zAy (E.box 0 rfl)
 have hPr:=hffr
 obtain ⟨r_p0,r_q0,_,rfl,_r_n0,r_p1,r_q1,_,rfl,_r_n1,r_p2,r_q2,_,rfl,_r_n2,rfl⟩:=hffr
 have crz:=c6 hccr
 simp only [List.getD_cons_zero,List.getD_cons_succ] at crz
 clear hccr
 clear ha hb hc hx hy hz D1 D2
 go_wp2
 exact zR (v:=.tuple #[.agg #[r_p0,r_q0,r_p1,r_q1,r_p2,r_q2],.int .i64 er1]) (by simp [results,Tryz.results53,go_sem,crz]) E.below ⟨_,_,rfl,⟨_,rfl,hPr⟩,rfl⟩

theorem zT3 {w:World} {v v':Value} {a b c x y z:Int} (h:(f3 a b c).P v w) (h':(f3 x y z).P v' w) (ha:ab a<pw 2) (hb:ab b<pw 2) (hc:ab c<pw 2) (hx:ab x<pw 2) (hy:ab y<pw 2) (hz:ab z<pw 2) (k1:rfE a b c=0) (k2:¬ rfE x y z=0) :
  Rt 53 #[v,v'] w fun v' w'=>(Fq.tup2 (f3 0 0 0) (Fq.is (.int .i64 (rfE x y z)))).P v' w':=by
 replace ha:=hidd ha
 replace hb:=hidd hb
 replace hc:=hidd hc
 replace hx:=hidd hx
 replace hy:=hidd hy
 replace hz:=hidd hz
 obtain ⟨er1,he1⟩:∃ e,e=rfE a b c:=⟨_,rfl⟩
 obtain ⟨er2,he2⟩:∃ e,e=rfE x y z:=⟨_,rfl⟩
 have D1:=hidd (zCn ha.out hb.out hc.out)
 have D2:=hidd (zCn hx.out hy.out hz.out)
 rw [← he2] at k2 ⊢
 rw [← he1] at k1
 have T1:=hidd k1
 clear k1
 have T2:=hidd k2
 clear k2
 have HE1:=hidd he1.symm
 have HE2:=hidd he2.symm
 clear he1 he2
 obtain ⟨y0_p0,y0_q0,y0_p1,y0_q1,y0_p2,y0_q2,rfl,hF0⟩:=o3 h
 obtain ⟨y1_p0,y1_q0,y1_p1,y1_q1,y1_p2,y1_q2,rfl,hF1⟩:=o3 h'
 obtain ⟨w1,b1,hw1,hb1,hs1,E⟩:=gS w 38 hF0
 obtain ⟨w2,b2,hw2,hb2,hs2,E⟩:=fS E hs1 38 hF1
 obtain ⟨w3,b3,hw3,hb3,hs3,E⟩:=fO E hs2 38 zAu
 go_enter Tryz.func53,Tryz.ntmps53
 go_upto_region 1 with (fail)
 rw [← hw1,← hw2]
 rw [← hw3,← hb3]
 rw [← hb2,← hb1]
 clear hw1 hw2 hw3 hb1 hb2 hb3 hs3 hs1 hs2
 refine rz [.w (f3 a b c),.i er1,.i er1] N3 [] E (fun hp=>⟨lS 0 6 hp (mq 2 rfl) zAd zw,zc hp zDd zi fun v w h=>zDe h (Int.lt_of_lt_of_le ha.out (zAa zm)) (Int.lt_of_lt_of_le hb.out (zAa zm)) (Int.lt_of_lt_of_le hc.out (zAa zm)) (Int.lt_of_lt_of_le D1.out (zAa zm)) HE1.out,zS,tv⟩) ?_
 intro w4 E _ _
 simp only [Z1] at E ⊢
 go_upto_region 2 with (fail)
 refine rz [.i er1,.o] N3 [] E (fun hp=>⟨zS,zO hp (sqi 0) T1.out,tv⟩) ?_
 intro w5 E _ _
 simp only [Z1] at E ⊢
 go_upto_region 4 with (fail)
 refine rz [.w (f3 x y z),.i er2,.i er2] N3 [] E (fun hp=>⟨lS 0 6 hp (mq 1 rfl) zAd zw,zc hp zDd zi fun v w h=>zDe h (Int.lt_of_lt_of_le hx.out (zAa zm)) (Int.lt_of_lt_of_le hy.out (zAa zm)) (Int.lt_of_lt_of_le hz.out (zAa zm)) (Int.lt_of_lt_of_le D2.out (zAa zm)) HE2.out,zS,tv⟩) ?_
 intro w6 E _ _
 simp only [Z1] at E ⊢
 go_upto_region 5 with (fail)
 refine rz [.i er2,.t] N3 [] E (fun hp=>⟨zS,zO hp (sqi 0) T2.out,tv⟩) ?_
 intro w7 E _ _
 simp only [Z1] at E ⊢
 go_upto_region 6 with (fail)
 refine rz [.w (f3 0 0 0),.i er2,.a,.i er2] [some (2,f3 0 0 0),none,none] [] E (fun hp=>⟨zFn hp fo tv (fun v w h=>h),zS,sO 0 0 hp (mq 0 rfl) zAo zw,zS,tv⟩) ?_
 intro w8 E _ _
 simp only [Z1] at E ⊢
 clear HE1 HE2 T1 T2
 obtain ⟨_,_,hccr,hffr⟩:=zAy (E.box 0 rfl)
 have hPr:=hffr
 obtain ⟨r_p0,r_q0,_,rfl,_r_n0,r_p1,r_q1,_,rfl,_r_n1,r_p2,r_q2,_,rfl,_r_n2,rfl⟩:=hffr
 have crz:=c6 hccr
 simp only [List.getD_cons_zero,List.getD_cons_succ] at crz
 clear hccr
 clear ha hb hc hx hy hz D1 D2
 go_wp2
 exact zR (v:=.tuple #[.agg #[r_p0,r_q0,r_p1,r_q1,r_p2,r_q2],.int .i64 er2]) (by simp [results,Tryz.results53,go_sem,crz]) E.below ⟨_,_,rfl,⟨_,rfl,hPr⟩,rfl⟩

theorem zT1 {w:World} {v v':Value} {a b c x y z:Int} (h:(f3 a b c).P v w) (h':(f3 x y z).P v' w) (ha:ab a<pw 2) (hb:ab b<pw 2) (hc:ab c<pw 2) (hx:ab x<pw 2) (hy:ab y<pw 2) (hz:ab z<pw 2) (k1:rfE a b c=0) (k2:rfE x y z=0) (k3:¬ (b*b-4*(a*c))=(y*y-4*(x*z))) :
  Rt 53 #[v,v'] w fun v' w'=>(Fq.tup2 (f3 0 0 0) (Fq.is (.int .i64 5))).P v' w':=by
 replace ha:=hidd ha
 replace hb:=hidd hb
 replace hc:=hidd hc
 replace hx:=hidd hx
 replace hy:=hidd hy
 replace hz:=hidd hz
 obtain ⟨er1,he1⟩:∃ e,e=rfE a b c:=⟨_,rfl⟩
 obtain ⟨er2,he2⟩:∃ e,e=rfE x y z:=⟨_,rfl⟩
 have D1:=hidd (zCn ha.out hb.out hc.out)
 have D2:=hidd (zCn hx.out hy.out hz.out)
 rw [← he1] at k1
 have T1:=hidd k1
 clear k1
 rw [← he2] at k2
 have T2:=hidd k2
 have T3:Hid (¬ cmpI (b*b-4*(a*c)) (y*y-4*(x*z))=0):=fun e=>k3 (cmpI_eq0.1 e)
 clear k2 k3
 have HE1:=hidd he1.symm
 have HE2:=hidd he2.symm
 clear he1 he2
 obtain ⟨y0_p0,y0_q0,y0_p1,y0_q1,y0_p2,y0_q2,rfl,hF0⟩:=o3 h
 obtain ⟨y1_p0,y1_q0,y1_p1,y1_q1,y1_p2,y1_q2,rfl,hF1⟩:=o3 h'
 obtain ⟨w1,b1,hw1,hb1,hs1,E⟩:=gS w 38 hF0
 obtain ⟨w2,b2,hw2,hb2,hs2,E⟩:=fS E hs1 38 hF1
 obtain ⟨w3,b3,hw3,hb3,hs3,E⟩:=fO E hs2 38 zAu
 go_enter Tryz.func53,Tryz.ntmps53
 go_upto_region 1 with (fail)
 rw [← hw1,← hw2]
 rw [← hw3,← hb3]
 rw [← hb2,← hb1]
 clear hw1 hw2 hw3 hb1 hb2 hb3 hs3 hs1 hs2
 refine rz [.w (f3 a b c),.i er1,.i er1] N3 [] E (fun hp=>⟨lS 0 6 hp (mq 2 rfl) zAd zw,zc hp zDd zi fun v w h=>zDe h (Int.lt_of_lt_of_le ha.out (zAa zm)) (Int.lt_of_lt_of_le hb.out (zAa zm)) (Int.lt_of_lt_of_le hc.out (zAa zm)) (Int.lt_of_lt_of_le D1.out (zAa zm)) HE1.out,zS,tv⟩) ?_
 intro w4 E _ _
 simp only [Z1] at E ⊢
 go_upto_region 2 with (fail)
 refine rz [.i er1,.o] N3 [] E (fun hp=>⟨zS,zO hp (sqi 0) T1.out,tv⟩) ?_
 intro w5 E _ _
 simp only [Z1] at E ⊢
 go_upto_region 4 with (fail)
 refine rz [.w (f3 x y z),.i er2,.i er2] N3 [] E (fun hp=>⟨lS 0 6 hp (mq 1 rfl) zAd zw,zc hp zDd zi fun v w h=>zDe h (Int.lt_of_lt_of_le hx.out (zAa zm)) (Int.lt_of_lt_of_le hy.out (zAa zm)) (Int.lt_of_lt_of_le hz.out (zAa zm)) (Int.lt_of_lt_of_le D2.out (zAa zm)) HE2.out,zS,tv⟩) ?_
 intro w6 E _ _
 simp only [Z1] at E ⊢
 go_upto_region 5 with (fail)
 refine rz [.i er2,.o] N3 [] E (fun hp=>⟨zS,zO hp (sqi 0) T2.out,tv⟩) ?_
 intro w7 E _ _
 simp only [Z1] at E ⊢
 go_upto_region 7 with (fail)
 refine rz [.w (f3 a b c),.n (b*b-4*(a*c)),.w (f3 x y z),.n (y*y-4*(x*z)),.i (cmpI (b*b-4*(a*c)) (y*y-4*(x*z))),.t] N3 [] E (fun hp=>⟨lS 0 6 hp (mq 2 rfl) zAd zw,zc hp zC6 zi fun v w h=>zC7 h (Int.lt_of_lt_of_le ha.out (zAa zm)) (Int.lt_of_lt_of_le hb.out (zAa zm)) (Int.lt_of_lt_of_le hc.out (zAa zm)),lS 0 6 hp (mq 1 rfl) zAd zw,zc hp zC6 zi fun v w h=>zC7 h (Int.lt_of_lt_of_le hx.out (zAa zm)) (Int.lt_of_lt_of_le hy.out (zAa zm)) (Int.lt_of_lt_of_le hz.out (zAa zm)),zC hp zA5 zi zi fun v v' w h h'=>zA6 h h',zO hp (sqi 4) T3.out,tv⟩) ?_
 intro w8 E _ _
 simp only [Z1] at E ⊢
 go_upto_region 8 with (fail)
 refine rz [.w (f3 0 0 0),.a,.i 5] [some (1,f3 0 0 0),none,none] [] E (fun hp=>⟨zFn hp fo tv (fun v w h=>h),sO 0 0 hp (mq 0 rfl) zAo zw,zS,tv⟩) ?_
 intro w9 E _ _
 simp only [Z1] at E ⊢
 clear HE1 HE2 T1 T2 T3
 obtain ⟨_,_,hccr,hffr⟩:=zAy (E.box 0 rfl)
 have hPr:=hffr
 obtain ⟨r_p0,r_q0,_,rfl,_r_n0,r_p1,r_q1,_,rfl,_r_n1,r_p2,r_q2,_,rfl,_r_n2,rfl⟩:=hffr
 have crz:=c6 hccr
 simp only [List.getD_cons_zero,List.getD_cons_succ] at crz
 clear hccr
 clear ha hb hc hx hy hz D1 D2
 go_wp2
 exact zR (v:=.tuple #[.agg #[r_p0,r_q0,r_p1,r_q1,r_p2,r_q2],.int .i64 5]) (by simp [results,Tryz.results53,go_sem,crz]) E.below ⟨_,_,rfl,⟨_,rfl,hPr⟩,rfl⟩

theorem zT4 {w:World} {v v':Value} {a b c x y z:Int} (h:(f3 a b c).P v w) (h':(f3 x y z).P v' w) (ha:ab a<pw 2) (hb:ab b<pw 2) (hc:ab c<pw 2) (hx:ab x<pw 2) (hy:ab y<pw 2) (hz:ab z<pw 2) (k1:rfE a b c=0) (k2:rfE x y z=0) (k3:(b*b-4*(a*c))=(y*y-4*(x*z))) :
  Rt 53 #[v,v'] w fun v' w'=>(Fq.tup2 (Fq.st [.n (mulF (b*b-4*(a*c)) ⟨a,b,c⟩ ⟨x,y,z⟩).a,.n (mulF (b*b-4*(a*c)) ⟨a,b,c⟩ ⟨x,y,z⟩).b,.n (mulF (b*b-4*(a*c)) ⟨a,b,c⟩ ⟨x,y,z⟩).c]) (Fq.is (.int .i64 0))).P v' w':=by
 replace ha:=hidd ha
 replace hb:=hidd hb
 replace hc:=hidd hc
 replace hx:=hidd hx
 replace hy:=hidd hy
 replace hz:=hidd hz
 obtain ⟨er1,he1⟩:∃ e,e=rfE a b c:=⟨_,rfl⟩
 obtain ⟨er2,he2⟩:∃ e,e=rfE x y z:=⟨_,rfl⟩
 have D1:=hidd (zCn ha.out hb.out hc.out)
 have D2:=hidd (zCn hx.out hy.out hz.out)
 have q1:=sf_of k1
 have q2:=sf_of k2
 have q3:=q2.1
 rw [← k3] at q3
 have S1:=hidd q1.1
 have S2:=hidd q3
 have S3:=hidd q1.2
 clear q1 q2 q3
 rw [← he1] at k1
 have T1:=hidd k1
 clear k1
 rw [← he2] at k2
 have T2:=hidd k2
 have T3:Hid (cmpI (b*b-4*(a*c)) (y*y-4*(x*z))=0):=cmpI_eq0.2 k3
 clear k2 k3
 have HE1:=hidd he1.symm
 have HE2:=hidd he2.symm
 clear he1 he2
 obtain ⟨y0_p0,y0_q0,y0_p1,y0_q1,y0_p2,y0_q2,rfl,hF0⟩:=o3 h
 obtain ⟨y1_p0,y1_q0,y1_p1,y1_q1,y1_p2,y1_q2,rfl,hF1⟩:=o3 h'
 obtain ⟨w1,b1,hw1,hb1,hs1,E⟩:=gS w 38 hF0
 obtain ⟨w2,b2,hw2,hb2,hs2,E⟩:=fS E hs1 38 hF1
 obtain ⟨w3,b3,hw3,hb3,hs3,E⟩:=fO E hs2 38 zAu
 go_enter Tryz.func53,Tryz.ntmps53
 go_upto_region 1 with (fail)
 rw [← hw1,← hw2]
 rw [← hw3,← hb3]
 rw [← hb2,← hb1]
 clear hw1 hw2 hw3 hb1 hb2 hb3 hs3 hs1 hs2
 refine rz [.w (f3 a b c),.i er1,.i er1] N3 [] E (fun hp=>⟨lS 0 6 hp (mq 2 rfl) zAd zw,zc hp zDd zi fun v w h=>zDe h (Int.lt_of_lt_of_le ha.out (zAa zm)) (Int.lt_of_lt_of_le hb.out (zAa zm)) (Int.lt_of_lt_of_le hc.out (zAa zm)) (Int.lt_of_lt_of_le D1.out (zAa zm)) HE1.out,zS,tv⟩) ?_
 intro w4 E _ _
 simp only [Z1] at E ⊢
 go_upto_region 2 with (fail)
 refine rz [.i er1,.o] N3 [] E (fun hp=>⟨zS,zO hp (sqi 0) T1.out,tv⟩) ?_
 intro w5 E _ _
 simp only [Z1] at E ⊢
 go_upto_region 4 with (fail)
 refine rz [.w (f3 x y z),.i er2,.i er2] N3 [] E (fun hp=>⟨lS 0 6 hp (mq 1 rfl) zAd zw,zc hp zDd zi fun v w h=>zDe h (Int.lt_of_lt_of_le hx.out (zAa zm)) (Int.lt_of_lt_of_le hy.out (zAa zm)) (Int.lt_of_lt_of_le hz.out (zAa zm)) (Int.lt_of_lt_of_le D2.out (zAa zm)) HE2.out,zS,tv⟩) ?_
 intro w6 E _ _
 simp only [Z1] at E ⊢
 go_upto_region 5 with (fail)
 refine rz [.i er2,.o] N3 [] E (fun hp=>⟨zS,zO hp (sqi 0) T2.out,tv⟩) ?_
 intro w7 E _ _
 simp only [Z1] at E ⊢
 go_upto_region 7 with (fail)
 refine rz [.w (f3 a b c),.n (b*b-4*(a*c)),.w (f3 x y z),.n (y*y-4*(x*z)),.i (cmpI (b*b-4*(a*c)) (y*y-4*(x*z))),.o] N3 [] E (fun hp=>⟨lS 0 6 hp (mq 2 rfl) zAd zw,zc hp zC6 zi fun v w h=>zC7 h (Int.lt_of_lt_of_le ha.out (zAa zm)) (Int.lt_of_lt_of_le hb.out (zAa zm)) (Int.lt_of_lt_of_le hc.out (zAa zm)),lS 0 6 hp (mq 1 rfl) zAd zw,zc hp zC6 zi fun v w h=>zC7 h (Int.lt_of_lt_of_le hx.out (zAa zm)) (Int.lt_of_lt_of_le hy.out (zAa zm)) (Int.lt_of_lt_of_le hz.out (zAa zm)),zC hp zA5 zi zi fun v v' w h h'=>zA6 h h',zO hp (sqi 4) T3.out,tv⟩) ?_
 intro w8 E _ _
 simp only [Z1] at E ⊢
 go_upto_region 9 with (fail)
 refine rz [.w (f3 a b c),.w (f3 x y z),.w (Fq.st [.n ((mulF (b*b-4*(a*c)) ⟨a,b,c⟩ ⟨x,y,z⟩).a),.n ((mulF (b*b-4*(a*c)) ⟨a,b,c⟩ ⟨x,y,z⟩).b),.n ((mulF (b*b-4*(a*c)) ⟨a,b,c⟩ ⟨x,y,z⟩).c)]),.a,.i 0] [some (3,Fq.st [.n ((mulF (b*b-4*(a*c)) ⟨a,b,c⟩ ⟨x,y,z⟩).a),.n ((mulF (b*b-4*(a*c)) ⟨a,b,c⟩ ⟨x,y,z⟩).b),.n ((mulF (b*b-4*(a*c)) ⟨a,b,c⟩ ⟨x,y,z⟩).c)]),none,none] [] E (fun hp=>⟨lS 0 6 hp (mq 2 rfl) zAd zw,lS 0 6 hp (mq 1 rfl) zAd zw,zC hp zHt zi zi fun v v' w h h'=>zPa h h' ha.out hb.out hc.out hx.out hy.out hz.out S1.out S2.out S3.out,sO 0 2 hp (mq 0 rfl) zAo zw,zS,tv⟩) ?_
 intro w9 E _ _
 simp only [Z1] at E ⊢
 clear HE1 HE2 S1 S2 S3 T3 T1 T2
 obtain ⟨_,_,hccr,hffr⟩:=zAy (E.box 0 rfl)
 have hPr:=hffr
 obtain ⟨r_p0,r_q0,_,rfl,_r_n0,r_p1,r_q1,_,rfl,_r_n1,r_p2,r_q2,_,rfl,_r_n2,rfl⟩:=hffr
 have crz:=c6 hccr
 simp only [List.getD_cons_zero,List.getD_cons_succ] at crz
 clear hccr
 clear ha hb hc hx hy hz D1 D2
 go_wp2
 exact zR (v:=.tuple #[.agg #[r_p0,r_q0,r_p1,r_q1,r_p2,r_q2],.int .i64 0]) (by simp [results,Tryz.results53,go_sem,crz]) E.below ⟨_,_,rfl,⟨_,rfl,hPr⟩,rfl⟩

theorem zT0 {w:World} {v v':Value} {a b c x y z:Int} (h:(f3 a b c).P v w) (h':(f3 x y z).P v' w) (ha:ab a<pw 2) (hb:ab b<pw 2) (hc:ab c<pw 2) (hx:ab x<pw 2) (hy:ab y<pw 2) (hz:ab z<pw 2) :
  Rt 53 #[v,v'] w fun v' w'=>(Fq.tup2 (Fq.st [.n (cmF a b c x y z).a,.n (cmF a b c x y z).b,.n (cmF a b c x y z).c]) (Fq.is (.int .i64 (cmE a b c x y z)))).P v' w':=by
 by_cases k1:rfE a b c=0
 ·by_cases k2:rfE x y z=0
  ·by_cases k3:(b*b-4*(a*c))=(y*y-4*(x*z))
   ·have e:cmE a b c x y z=0:=by unfold cmE;rw [if_pos k1,if_pos k2,if_pos k3]
    unfold cmF
    rw [if_pos e,e]
    exact zT4 h h' ha hb hc hx hy hz k1 k2 k3
   ·have e:cmE a b c x y z=5:=by unfold cmE;rw [if_pos k1,if_pos k2,if_neg k3]
    unfold cmF
    rw [if_neg (by rw [e];decide),e]
    exact zT1 h h' ha hb hc hx hy hz k1 k2 k3
  ·have e:cmE a b c x y z=rfE x y z:=by unfold cmE;rw [if_pos k1,if_neg k2]
   unfold cmF
   rw [if_neg (by rw [e];exact k2),e]
   exact zT3 h h' ha hb hc hx hy hz k1 k2
 ·have e:cmE a b c x y z=rfE a b c:=by unfold cmE;rw [if_neg k1]
  unfold cmF
  rw [if_neg (by rw [e];exact k1),e]
  exact zT2 h h' ha hb hc hx hy hz k1

section
variable {os : List Oper} {Q : Exit → Act → World → Prop} {a : Act} {p : Pq} {B B0 : Nat} {w0 : World}
variable {i s : Nat} {d : Option Tmp} {ty : TypeId} {ps : String} {af : Array Edge} {gd : Option (Nat × Bool)}
theorem zNk {f:FuncId} {F:Value→World→Prop} (hF:∀ w,F (.func (.func f) #[] #[]) w):SrcQ os a p B B0 w0 af (.func f) F:=fun _ _ _ _ _=>hF _
theorem zR9 {f0:Operand} {g:FuncId} {xs:Array Operand} {ts:Array TypeId} (hp:p.Ok B B0) (hF:p.Free i) (hg:GdQ os a p B B0 w0 af gd) (hen:∀ args w,(callFunc g args).run Tryz.prog w=.ok (.enter g args) w)
  (hr:∀ L vs w,p.G B B0 w0 L vs w→(∀ e∈af,Region.binds .any e=true→L e.on=true)→∃ args,xs.map (lay os.toArray L vs os.toArray.size a).eval=args∧(lay os.toArray L vs os.toArray.size a).eval f0=.func (.func g) #[] #[] ∧
   Calls Tryz.prog g args w fun e w'=>∃ v',e=.returned v'∧Below w.heap.size w w'∧(p.c i).P v' w') :
  zAg os Q a p B B0 w0 i { dst:=d,op:=.call { callee:=.value f0,args:=xs,argTypes:=ts },type:=ty,pos:=ps,after:=af,guard:=gd }:=by
 intro hio L vs w hG hL hd hc
 refine wpOp_step hio fun K' hK=>?_
 obtain ⟨args,hx,hf,hC⟩:=hr L vs w hG hd
 rw [if_pos (zGn (o:={ dst:=d,op:=.call { callee:=.value f0,args:=xs,argTypes:=ts },type:=ty,pos:=ps,after:=af,guard:=gd }) hg hG hd)]
 have e:(execOp (lay os.toArray L vs os.toArray.size a).eval ({ dst:=d,op:=.call { callee:=.value f0,args:=xs,argTypes:=ts },type:=ty,pos:=ps,after:=af,guard:=gd }:Oper)).run Tryz.prog w=(.ok (.enter g args) w):=by
  generalize (lay os.toArray L vs os.toArray.size a).eval=ρ at hx hf
  simp [execOp,go_sem,hx,hf,hen]
 unfold Oper.wp
 rw [e]
 refine hC.mono ?_
 rintro e' w' ⟨v',rfl,hb,h⟩
 exact hK _ _ ⟨_,rfl,hG.plain hp hF hb h⟩
theorem zRg {f0 x y:Operand} {F G:Value→World→Prop} {f:FuncId} {ts:Array TypeId} (hp:p.Ok B B0) (hF:p.Free i) (hg:GdQ os a p B B0 w0 af gd) (hen:∀ args w,(callFunc f args).run Tryz.prog w=.ok (.enter f args) w)
  (hf:SrcQ os a p B B0 w0 af f0 fun v _=>v=.func (.func f) #[] #[]) (hx:SrcQ os a p B B0 w0 af x F) (hy:SrcQ os a p B B0 w0 af y G) (hC:∀ v v' w,F v w→G v' w→Calls Tryz.prog f #[v,v'] w fun e w'=>∃ v',e=.returned v'∧Below w.heap.size w w'∧(p.c i).P v' w') :
  zAg os Q a p B B0 w0 i { dst:=d,op:=.call { callee:=.value f0,args:=#[x,y],argTypes:=ts },type:=ty,pos:=ps,after:=af,guard:=gd }:=
 zR9 hp hF hg hen fun L vs w hG hd=>⟨#[_,_],by simp,hf L vs w hG hd,hC _ _ _ (hx L vs w hG hd) (hy L vs w hG hd)⟩
theorem zM2 {f0 x:Operand} {F:Value→World→Prop} {f:FuncId} {ts:Array TypeId} (hp:p.Ok B B0) (hF:p.Free i) (hg:GdQ os a p B B0 w0 af gd) (hen:∀ args w,(callFunc f args).run Tryz.prog w=.ok (.enter f args) w)
  (hf:SrcQ os a p B B0 w0 af f0 fun v _=>v=.func (.func f) #[] #[]) (hx:SrcQ os a p B B0 w0 af x F) (hC:∀ v w,F v w→Calls Tryz.prog f #[v] w fun e w'=>∃ v',e=.returned v'∧Below w.heap.size w w'∧(p.c i).P v' w') :
  zAg os Q a p B B0 w0 i { dst:=d,op:=.call { callee:=.value f0,args:=#[x],argTypes:=ts },type:=ty,pos:=ps,after:=af,guard:=gd }:=
 zR9 hp hF hg hen fun L vs w hG hd=>⟨#[_],by simp,hf L vs w hG hd,hC _ _ (hx L vs w hG hd)⟩
theorem zW0 {n0:Nb} {f0 x y:Operand} {g:FuncId} {ts:Array TypeId} {F G:Value→World→Prop} (hp:p.Ok B B0) (hF:p.Free i) (hg:GdQ os a p B B0 w0 af gd) (hen:∀ args w,(callFunc g args).run Tryz.prog w=.ok (.enter g args) w) (hi:n0∈p.new) (hsl:n0.s=some (.clo g))
  (hf:∀ L vs w,p.G B B0 w0 L vs w→(∀ e∈af,Region.binds .any e=true→L e.on=true)→L n0.i=true∧(lay os.toArray L vs os.toArray.size a).eval f0=vs n0.i) (hx:SrcQ os a p B B0 w0 af x F) (hy:SrcQ os a p B B0 w0 af y G)
  (hC:∀ v v' b w,F v w→G v' w→Bq w b n0.m n0.F1→Calls Tryz.prog g #[v,v',.pointer (some ⟨b,0,none⟩)] w fun e w'=>∃ v',e=.returned v'∧Below w.heap.size w w'∧(p.c i).P v' w') :
  zAg os Q a p B B0 w0 i { dst:=d,op:=.call { callee:=.value f0,args:=#[x,y],argTypes:=ts },type:=ty,pos:=ps,after:=af,guard:=gd }:=
 zKv hp hF hg hen fun L vs w hG hd=>by
  obtain ⟨hLi,hye⟩:=hf L vs w hG hd
  obtain ⟨b,e1,_,hb⟩:=hG.new _ hi hLi
  have hptr:n0.ptr b=cloV g b:=by unfold Nb.ptr;rw [hsl]
  have hnow:n0.now L=n0.F1:=by
   unfold Nb.now
   rw [hsl]
   rfl
  rw [hnow] at hb
  exact ⟨_,b,rfl,by rw [hye,e1,hptr],by simpa using hC _ _ b w (hx L vs w hG hd) (hy L vs w hG hd) hb⟩
theorem zIj {o:Ob} {f0 x y:Operand} {g:FuncId} {ts:Array TypeId} {F G:Value→World→Prop} (hp:p.Ok B B0) (hF:p.Free i) (hg:GdQ os a p B B0 w0 af gd) (hen:∀ args w,(callFunc g args).run Tryz.prog w=.ok (.enter g args) w) (ho:o∈p.old) (hk:o.F1=o.F0)
  (hf:SrcQ os a p B B0 w0 af f0 fun v _=>v=cloV g o.b) (hx:SrcQ os a p B B0 w0 af x F) (hy:SrcQ os a p B B0 w0 af y G)
  (hC:∀ v v' w,F v w→G v' w→Bq w o.b o.m o.F0→Calls Tryz.prog g #[v,v',.pointer (some ⟨o.b,0,none⟩)] w fun e w'=>∃ v',e=.returned v'∧Below w.heap.size w w'∧(p.c i).P v' w') :
  zAg os Q a p B B0 w0 i { dst:=d,op:=.call { callee:=.value f0,args:=#[x,y],argTypes:=ts },type:=ty,pos:=ps,after:=af,guard:=gd }:=
 zKv hp hF hg hen fun L vs w hG hd=>by
  have hb:=hG.old o ho
  rw [hk] at hb
  exact ⟨_,o.b,rfl,hf L vs w hG hd,by simpa using hC _ _ w (hx L vs w hG hd) (hy L vs w hG hd) (by simpa using hb)⟩
end
theorem Bq.stAt {w w':World} {b m:Nat} {fs:List Fd} (h:Bq w b m (Fq.st fs)) (hb:Below w.heap.size w w'):StAt w' b 0 fs:=by
 obtain ⟨us,hl,h0,hat,ht,us2,e,hf⟩:=h.mono hb
 injection e with e
 have e2:us=us2:=by simpa using congrArg Array.toList e
 subst e2
 exact ⟨us,hf,fun j hj=>by rw [Nat.zero_add];exact (hat j hj).1⟩
def Sm (P:F3):Prop:=ab P.a<pw 2∧ab P.b<pw 2∧ab P.c<pw 2
structure GC (D:Int):Prop where
 neg:D<0
 ab6:ab D<pw 6
 sm:∀ P,Gm D P→Sm P
theorem gm_small {D:Int} (h:D<0) (h0:-2000000000≤D) {P:F3} (hP:Gm D P):P.a.natAbs≤2000000000∧P.b.natAbs≤2000000000∧P.c.natAbs≤2000000000:=by
 obtain ⟨h1,hr⟩:=hP
 have h2:=hr.lo
 have h3:=hr.hi
 have h4:=hr.ac
 have hd:=h1.disc
 have ha:=h1.pos
 have e1:P.b*P.b≤P.a*P.a:=by
  rw [← zD1 P.b]
  exact Int.mul_le_mul zm zm zm zm
 have e2:P.a*P.a≤P.a*P.c:=Int.mul_le_mul_of_nonneg_left h4 zm
 have e3:1*P.c≤P.a*P.c:=Int.mul_le_mul_of_nonneg_right ha zm
 omega
theorem zFx {x:Int} (h:x.natAbs≤4611686018427387904):ab x<pw 2:=by
 have e:pw 2=18446744073709551616:=by decide
 rw [e]
 unfold ab
 omega
theorem GC.of {D:Int} (h:D<0) (h0:-2000000000≤D):GC D:=
 ⟨h,Int.lt_of_lt_of_le (zFx zm) (zAa zm),fun P hP=>by have:=gm_small h h0 hP;exact ⟨zFx zm,zFx zm,zFx zm⟩⟩
theorem zJp {w:World} {v v':Value} {D:Int} {P Q:F3} (hC:D<0) (hP:Sc D P) (hQ:Sc D Q) (sP:Sm P) (sQ:Sm Q) (h:(f3 P.a P.b P.c).P v w) (h':(f3 Q.a Q.b Q.c).P v' w):Calls Tryz.prog 65 #[v,v'] w fun e w'=>∃ v',e=.returned v'∧Below w.heap.size w w'∧(Fq.st [.n (mulF D P Q).a,.n (mulF D P Q).b,.n (mulF D P Q).c]).P v' w':=by
 have hd:=hP.disc
 have hh:=zPa h h' sP.1 sP.2.1 sP.2.2 sQ.1 sQ.2.1 sQ.2.2 (by rw [hd];exact hP) (by rw [hd];exact hQ) (by rw [hd];exact hC)
 rw [hd] at hh
 exact hh
theorem zPw (N i:Nat):N/2^(i+1)=N/2^i/2:=by rw [Nat.pow_succ,Nat.div_div_eq_div_mul]
theorem top_bit {N k:Nat} (h1:2^k≤N) (h2:N<2^(k+1)):N/2^k=1:=by
 have hp:0<2^k:=Nat.pow_pos zm
 rw [Nat.pow_succ] at h2
 have a1:1≤N/2^k:=(Nat.le_div_iff_mul_le hp).2 zm
 have a2:N/2^k<2:=(Nat.div_lt_iff_lt_mul hp).2 zm
 omega
theorem nbits_log {z:Int} (h:z≠0):∃ k,zBb z=k+1∧z.natAbs/2^k=1:=by
 have h0:z.natAbs≠0:=by omega
 refine ⟨z.natAbs.log2,by unfold zBb;rw [if_neg h],top_bit (Nat.log2_self_le h0) Nat.lt_log2_self⟩
section
variable {D : Int} (hD : D < 0) (h4 : D % 4 = 0 ∨ D % 4 = 1)
include hD h4
theorem pw_dbl {X:F3} (hX:Sc D X) (q:Nat):mulF D (pwF D X q) (pwF D X q)=pwF D X (2*q):=by
 rw [show 2*q=q+q by omega]
 exact (zFc hD h4 hX q q).symm
end
noncomputable def rdF (P:F3):F3:=⟨(redT P.a P.b P.c).fa,(redT P.a P.b P.c).fb,(redT P.a P.b P.c).fc⟩
theorem zIk {D:Int} {P:F3} (hD:D<0) (hP:Sc D P) (sP:Sm P):Gm D (rdF P)∧Eqv P (rdF P):=by
 have h5:∀ {x:Int},ab x<pw 2→ab x<pw 5:=fun h=>Int.lt_of_lt_of_le h (zAa zm)
 obtain ⟨r1,r2⟩:=redT_in (h5 sP.1) (h5 sP.2.1) (h5 sP.2.2) (zFs (by rw [hP.disc];exact hD) hP.pos)
 have e:Eqv P (rdF P):=⟨_,_,_,_,r1⟩
 exact ⟨⟨e.sc hD hP,r2⟩,e⟩
theorem rdF_gm {D:Int} {P:F3} (hD:D<0) (hP:Gm D P) (sP:Sm P):rdF P=P:=by
 obtain ⟨h1,h2⟩:=zIk hD hP.1 sP
 exact zKn h2 (.rfl' P) h1.2 hP.2 |>.symm
theorem Sm.op {P:F3} (h:Sm P):Sm (opF P):=⟨h.1,(fun {x:Int} {k:Int} (h:ab x<k)=>show ab (-x)<k by unfold ab;rw [Int.natAbs_neg];exact h) h.2.1,h.2.2⟩
theorem zLr {w:World} {v:Value} {P:F3} {D:Int} (hD:D<0) (hP:Sc D P) (sP:Sm P) (h:(f3 P.a P.b P.c).P v w):Calls Tryz.prog 59 #[v] w fun e w'=>∃ v',e=.returned v'∧Below w.heap.size w w'∧(Fq.st [.n (rdF P).a,.n (rdF P).b,.n (rdF P).c]).P v' w':=by
 have hx:=Int.lt_of_lt_of_le (zCn sP.1 sP.2.1 sP.2.2) (zAa (show 6≤20 by omega))
 exact zLs h (Int.lt_of_lt_of_le sP.1 (zAa zm)) (Int.lt_of_lt_of_le sP.2.1 (zAa zm)) (Int.lt_of_lt_of_le sP.2.2 (zAa zm)) hx
theorem exPInvF {w:World} {v:Value} {P:F3} {D:Int} (hD:D<0) (hP:Sc D P) (sP:Sm P) (h:(f3 P.a P.b P.c).P v w):Calls Tryz.prog 29 #[v] w fun e w'=>∃ v',e=.returned v'∧Below w.heap.size w w'∧(Fq.tup2 (Fq.st [.n (rdF (opF P)).a,.n (rdF (opF P)).b,.n (rdF (opF P)).c]) (Fq.is (.int .i64 0))).P v' w':=by
 have h5:∀ {x:Int},ab x<pw 2→ab x<pw 5:=fun h=>Int.lt_of_lt_of_le h (zAa zm)
 have he:=zFs (by rw [hP.disc];exact hD) hP.pos
 have hh:=zUx h (h5 sP.1) (h5 sP.2.1) (h5 sP.2.2)
 have e:invT P.a P.b P.c=redT P.a (-P.b) P.c:=by unfold invT;rw [if_pos he]
 rw [he,e] at hh
 exact hh
theorem zJt {w:World} {v:Value} {D:Int} (h:Num w v D) (hd:ab D<pw 40) (hD:D<0) (h4:D % 4=0∨D % 4=1):Calls Tryz.prog 26 #[v] w fun e w'=>∃ v',e=.returned v'∧Below w.heap.size w w'∧(Fq.tup2 (Fq.st [.n (onF D).a,.n (onF D).b,.n (onF D).c]) (Fq.is (.int .i64 0))).P v' w':=
 zVa h hd zm (zIo hD)
theorem Fr.opnAt {w0 W:World} {bs:List (Nat × Nat × Fq)} (E:Fr w0 bs W) (k:Nat) {b:Nat} {z:Int} (hk:bs[k]?=some (b,2,Fq.num z)):∃ n a k' c xs,(z=sgn n (val xs)∧Canon xs∧xs.length=k'∧(n=true→k'≠0)∧Digs xs)∧(0<k'→∃ ab off,a=some ⟨ab,off,none⟩)∧Fr w0 (bs.set k (b,2,Fq.nraw n a k' c xs z)) W:=by
 obtain ⟨us,h1,h2,h3,h4,h5⟩:=(E.boxes _ (List.mem_of_getElem? hk)).2
 obtain ⟨neg,ao,k',c,xs,hv,hs,hn,hz,hc,hnn⟩:=id h5
 refine ⟨neg,ao,k',c,xs,⟨hz,hc,hs.len,hnn,hs.digs⟩,nraw_addr (v:=.agg us.toArray) (w:=W) (z:=z) ⟨hv,hs,h5⟩,E.below,fun x hx=>?_,?_⟩
 ·rcases List.mem_or_eq_of_mem_set hx with hx | rfl
  ·exact E.boxes x hx
  ·exact ⟨(E.boxes _ (List.mem_of_getElem? hk)).1,us,h1,h2,h3,h4,hv,hs,h5⟩
 ·have e:(bs.set k (b,2,Fq.nraw neg ao k' c xs z)).map (·.1)=bs.map (·.1):=by
   apply List.ext_getElem?
   intro i
   rw [List.getElem?_map,List.getElem?_map,List.getElem?_set]
   split
   ·rename_i hik
    subst hik
    rw [hk]
    split
    ·rfl
    ·rename_i hl
     exact absurd (List.getElem?_eq_some_iff.1 hk).1 hl
   ·rfl
  rw [e]
  exact E.apart
theorem zLb {D:Int} {P:F3} (s:Sm P) (h:Sc D P):ab D<pw 6:=by
 have hh:=zCn s.1 s.2.1 s.2.2
 rw [h.disc] at hh
 exact hh
theorem zGj {D:Int} {P:F3} (h:Sc D P) (hD:D<0):rfE P.a P.b P.c=0:=by
 have e:redE P.a P.b P.c=0:=zFs (by rw [h.disc];exact hD) h.pos
 have e2:cont P.a P.b P.c=1:=zQ5 h.prim
 unfold rfE
 rw [if_pos e,if_pos e2]
theorem zUb {w:World} {v v' u:Value} {O X:F3} (h:(f3 O.a O.b O.c).P v w) (h':(f3 X.a X.b X.c).P v' w) (g:Num w u 0) :
  Calls Tryz.prog 108 #[v,v',u,.func (.func 65) #[] #[]] w fun e w'=>∃ v',e=.returned v'∧Below w.heap.size w w'∧(f3 O.a O.b O.c).P v' w':=by
 have NB0:Hid (zBb 0=0):=by show _=_;decide
 have TWM:Hid (IntKind.i64.wrap (-1)=-1):=IntWalk.i64_in _ zm
 obtain ⟨y0_p0,y0_q0,y0_p1,y0_q1,y0_p2,y0_q2,rfl,hF0⟩:=o3 h
 obtain ⟨y1_p0,y1_q0,y1_p1,y1_q1,y1_p2,y1_q2,rfl,hF1⟩:=o3 h'
 obtain ⟨n2,ao2,k2,c2,rfl⟩:=g.parts
 obtain ⟨w1,b1,hw1,hb1,hs1,E⟩:=gS w 38 hF0
 obtain ⟨w2,b2,hw2,hb2,hs2,E⟩:=fS E hs1 38 hF1
 obtain ⟨w3,b3,hw3,hb3,hs3,E⟩:=zC8 E hs2 (F:=Fq.num 0) (us:=[.bool n2,.slice ao2 k2 c2]) 36 rfl (by simp) (zB8 _ _ _ _) (g.mono E.below)
 obtain ⟨w4,b4,hw4,hb4,hs4,E⟩:=fO E hs3 38 zAu
 go_enter Tryz.func108,Tryz.ntmps108
 go_upto_region 1 with (fail)
 rw [← hw1,← hw2]
 rw [← hw3,← hw4]
 rw [← hb4,← hb3]
 rw [← hb2,← hb1]
 clear hw1 hw2 hw3 hw4 hb1 hb2 hb3 hb4 hs4 hs1 hs2 hs3
 refine rz [.n 0,.i 0,.i (-1),.i (-1)] N4 [] E (fun hp=>⟨lI 0 hp (mq 1 rfl) zw,zc hp zF1 zi fun v w h=>(by have hh:=zF7 h;rw [NB0.out] at hh;exact hh),zO hp (sqi 1) TWM.out,zS,tv⟩) ?_
 intro w5 E _ _
 simp only [Z1] at E ⊢
 go_upto_region 2 with (fail)
 refine rz [.i (-1),.t] N4 [] E (fun hp=>⟨zS,zo hp (sqi 0),tv⟩) ?_
 intro w6 E _ _
 simp only [Z1] at E ⊢
 go_upto_region 3 with (fail)
 refine rz [.w (f3 O.a O.b O.c),.a] [some (1,f3 O.a O.b O.c),none,none,none] [] E (fun hp=>⟨lS 0 6 hp (mq 3 rfl) zAd zw,sO 0 0 hp (mq 0 rfl) zAo zw,tv⟩) ?_
 intro w7 E _ _
 simp only [Z1] at E ⊢
 clear NB0 TWM
 obtain ⟨_,_,hc0,hf0⟩:=zAy (E.box 0 rfl)
 have hP0:=hf0
 obtain ⟨r0_p0,r0_q0,_,rfl,_r0_n0,r0_p1,r0_q1,_,rfl,_r0_n1,r0_p2,r0_q2,_,rfl,_r0_n2,rfl⟩:=hf0
 have c0_z:=c6 hc0
 simp only [List.getD_cons_zero,List.getD_cons_succ] at c0_z
 clear hc0
 go_wp2
 exact zR (v:=.agg #[r0_p0,r0_q0,r0_p1,r0_q1,r0_p2,r0_q2]) (by simp [results,Tryz.results108,go_sem,c0_z]) E.below ⟨_,rfl,hP0⟩

theorem zUa {w:World} {v v' u:Value} {D n:Int} {O X:F3} (hC:GC D) (h4:D % 4=0∨D % 4=1) (hX:Gm D X) (h:(f3 O.a O.b O.c).P v w) (h':(f3 X.a X.b X.c).P v' w) (g:Num w u n) (hn:ab n<pw 20) (hn0:n≠0) :
  Calls Tryz.prog 108 #[v,v',u,.func (.func 65) #[] #[]] w fun e w'=>∃ v',e=.returned v'∧Below w.heap.size w w'∧(Fq.st [.n (pwF D X n.natAbs).a,.n (pwF D X n.natAbs).b,.n (pwF D X n.natAbs).c]).P v' w':=by
 replace hn:=hidd hn
 have HC:=hidd hC
 have H4:=hidd h4
 have HX:Hid (Sc D X∧Sm X):=⟨hX.1,hC.sm _ hX⟩
 have HG:=hidd hX
 obtain ⟨k,hk,htop⟩:=nbits_log hn0
 have HK:=hidd hk
 have HNB:Hid (zBb n≤640):=zMk hn.out
 have HTOP:=hidd htop
 obtain ⟨bb,hbb⟩:∃ bb:Int,bb=((zBb n:Nat):Int):=⟨_,rfl⟩
 have HBB:=hidd hbb
 have TW:Hid (IntKind.i64.wrap (bb-1)=(k:Int)):=by show _=_;rw [show bb-1=(k:Int) by omega];exact IntWalk.i64_in _ (by have:=HNB.out;omega)
 have TW2:Hid (IntKind.i64.wrap ((k:Int)-1)=(k:Int)-1):=IntWalk.i64_in _ (by have:=HNB.out;omega)
 have TL0:Hid (¬ (k:Int)<0):=by show ¬ _;omega
 clear hC h4 hX hk hn0 hbb htop
 obtain ⟨y0_p0,y0_q0,y0_p1,y0_q1,y0_p2,y0_q2,rfl,hF0⟩:=o3 h
 obtain ⟨y1_p0,y1_q0,y1_p1,y1_q1,y1_p2,y1_q2,rfl,hF1⟩:=o3 h'
 obtain ⟨n2,ao2,k2,c2,rfl⟩:=g.parts
 obtain ⟨w1,b1,hw1,hb1,hs1,E⟩:=gS w 38 hF0
 obtain ⟨w2,b2,hw2,hb2,hs2,E⟩:=fS E hs1 38 hF1
 obtain ⟨w3,b3,hw3,hb3,hs3,E⟩:=zC8 E hs2 (F:=Fq.num n) (us:=[.bool n2,.slice ao2 k2 c2]) 36 rfl (by simp) (zB8 _ _ _ _) (g.mono E.below)
 obtain ⟨w4,b4,hw4,hb4,hs4,E⟩:=fO E hs3 38 zAu
 go_enter Tryz.func108,Tryz.ntmps108
 go_upto_region 1 with (fail)
 rw [← hw1,← hw2]
 rw [← hw3,← hw4]
 rw [← hb4,← hb3]
 rw [← hb2,← hb1]
 clear hw1 hw2 hw3 hw4 hb1 hb2 hb3 hb4 hs4 hs1 hs2 hs3
 refine rz [.n n,.i bb,.i (k:Int),.i (k:Int)] N4 [] E (fun hp=>⟨lI 0 hp (mq 1 rfl) zw,zc hp zF1 zi fun v w h=>(by have hh:=zF7 h;rw [← HBB.out] at hh;exact hh),zO hp (sqi 1) TW.out,zS,tv⟩) ?_
 intro w5 E _ _
 simp only [Z1] at E ⊢
 go_upto_region 2 with (fail)
 refine rz [.i (k:Int),.o] N4 [] E (fun hp=>⟨zS,zO hp (sqi 0) TL0.out,tv⟩) ?_
 intro w6 E _ _
 simp only [Z1] at E ⊢
 go_upto_region 4 with (fail)
 refine rz [.w (f3 X.a X.b X.c),.k,.a] N4 [⟨1,2,6,f3 0 0 0,f3 X.a X.b X.c,none⟩] E (fun hp=>⟨lS 0 6 hp (mq 2 rfl) zAd zw,aS hp (mq 0 rfl) zAu zB0,sS 0 hp (mq 0 rfl) zAo,tv⟩) ?_
 intro w7 b7_1 E _ _
 simp only [Z1] at E ⊢
 go_upto_region 5 with (fail)
 refine rz [.i (k:Int),.i ((k:Int)-1),.i ((k:Int)-1)] N5 [] E (fun hp=>⟨zS,zO hp (sqi 0) TW2.out,zS,tv⟩) ?_
 intro w8 E _ _
 simp only [Z1] at E ⊢
 clear TW TW2 TL0 HBB
 obtain ⟨m1,d1,j1,cc1,ys,hop,hadr,E⟩:=Fr.opnAt E 2 rfl
 replace E:Fr w [(b7_1,6,f3 X.a X.b X.c),(b4,6,f3 0 0 0),(b3,2,Fq.nraw m1 d1 j1 cc1 ys n),(b2,6,f3 X.a X.b X.c),(b1,6,f3 O.a O.b O.c)] w8:=E
 have HA2:=hidd hadr
 have HOP:=hidd hop
 clear hop hadr
 have HS:=hidd E
 go_upto_region 6 with (fail)
 go_loopw [11] (fun vi W=>∃ (j:Nat) (R:F3),j≤k∧vi=.int .i64 ((j:Int)-1)∧R=pwF D X (n.natAbs/2^j)∧Fr w [(b7_1,6,f3 R.a R.b R.c),(b4,6,f3 0 0 0),(b3,2,Fq.nraw m1 d1 j1 cc1 ys n),(b2,6,f3 X.a X.b X.c),(b1,6,f3 O.a O.b O.c)] W) (fun vi _=>(intOf vi+1).toNat)
 case atStart=>exact ⟨k,_,Nat.le_refl _,by first | rfl | go_num,by rw [HTOP.out];exact (zKi HC.out.neg H4.out HG.out).symm,HS.out⟩
 case round=>
  obtain ⟨j,R,hj,rfl,hR,E⟩:=hrel
  clear HS
  by_cases h0:j=0
  ·subst h0
   rw [Nat.pow_zero,Nat.div_one] at hR
   have HR:=hidd hR
   clear hj hR
   go_upto_region 6 with (fail)
   refine rz [.i (((0:Nat):Int)-1),.o] N5 [] E (fun hp=>⟨zS,zo hp (sqi 0),tv⟩) ?_
   intro w9 E _ _
   simp only [Z1] at E ⊢
   go_upto_region 11 with (fail)
   refine rz [.w (f3 R.a R.b R.c),.a] [none,some (1,f3 R.a R.b R.c),none,none,none] [] E (fun hp=>⟨lS 0 6 hp (mq 0 rfl) zAd zw,sO 0 0 hp (mq 1 rfl) zAo zw,tv⟩) ?_
   intro w10 E _ _
   simp only [Z1] at E ⊢
   have hE:=HR.out
   clear HR HC H4 HX HK HA2 HOP HNB HTOP HG
   obtain ⟨_,_,hc0,hf0⟩:=zAy (E.box 1 rfl)
   have hP0:=hf0
   obtain ⟨r0_p0,r0_q0,_,rfl,_r0_n0,r0_p1,r0_q1,_,rfl,_r0_n1,r0_p2,r0_q2,_,rfl,_r0_n2,rfl⟩:=hf0
   have c0_z:=c6 hc0
   simp only [List.getD_cons_zero,List.getD_cons_succ] at c0_z
   clear hc0
   clear hn
   rw [hE] at hP0
   go_wp2
   exact zR (v:=.agg #[r0_p0,r0_q0,r0_p1,r0_q1,r0_p2,r0_q2]) (by simp [results,Tryz.results108,go_sem,c0_z]) E.below ⟨_,rfl,hP0⟩
  ·obtain ⟨i,rfl⟩:∃ i,j=i+1:=⟨j-1,by omega⟩
   have ei:(((i+1:Nat):Int)-1)=(i:Int):=by omega
   rw [ei]
   have HJ:=hidd hj
   have HGR:Hid (Gm D R):=by show Gm D R;rw [hR];exact zA3 HC.out.neg H4.out HX.out.1 _
   obtain ⟨S,hS⟩:∃ S,S=mulF D R R:=⟨_,rfl⟩
   have hS2:S=pwF D X (2*(n.natAbs/2^(i+1))):=by rw [hS,hR];exact pw_dbl HC.out.neg H4.out HX.out.1 _
   have HGS:Hid (Gm D S):=by show Gm D S;rw [hS2];exact zA3 HC.out.neg H4.out HX.out.1 _
   have HS:=hidd hS.symm
   have HS2:=hidd hS2
   have TL:Hid (0≤(i:Int)):=by show 0≤_;omega
   have hw:wrap64 ((i:Int)-1)=(i:Int)-1:=by have:=HJ.out;have:=HK.out;have:=HNB.out;simp only [wrap64];omega
   obtain ⟨hqk,x0,y,hx0,hy,hband⟩:=word_bit HOP.out (i:=i) (by have:=HK.out;omega)
   obtain ⟨ad,off,rfl⟩:=HA2.out zm
   obtain ⟨q,hq⟩:∃ q,q=i/32:=⟨_,rfl⟩
   obtain ⟨r,hr⟩:∃ r,r=i % 32:=⟨_,rfl⟩
   rw [← hq] at hqk hx0
   rw [← hr] at hy
   have HX0:=hidd hx0
   have HQK:=hidd hqk
   have HQI:Hid ((q:Int)<j1):=by show (q:Int)<j1;omega
   have HBA:=hidd hband
   have HR32:Hid (r<32):=by show r<32;omega
   have WQ:Hid (Int.tdiv (i:Int) 32=(q:Int)):=by show _=_;rw [Int.tdiv_eq_ediv_of_nonneg zm];omega
   have WQ3:Hid (IntKind.i64.wrap (q:Int)=q):=IntWalk.i64_in _ (by have:=HJ.out;have:=HK.out;have:=HNB.out;omega)
   have WR:Hid (Int.tmod (i:Int) 32=(r:Int)):=by show _=_;rw [Int.tmod_eq_emod_of_nonneg zm];omega
   have WR3:Hid (IntKind.i64.wrap (r:Int)=r):=IntWalk.i64_in _ zm
   have WC:Hid (IntKind.u64.wrap (r:Int)=r):=by show _=_;simp [IntKind.wrap,IntKind.bits,IntKind.signed];omega
   have WS:Hid (x0/2^r=y):=hy
   have WM:Hid (min r 32=r):=by show _=_;omega
   have WG:Hid ((0:Int)≤r):=by show (0:Int)≤_;omega
   clear ei hR hS hS2 h0 hj hq hr hqk hx0 hy hband
   go_upto_region 6 with (fail)
   refine rz [.i (i:Int),.t] N5 [] E (fun hp=>⟨zS,zO hp (sqi 0) TL.out,tv⟩) ?_
   intro w11 E _ _
   simp only [Z1] at E ⊢
   clear TL
   go_upto_region 8 with (fail)
   refine rz [.u (.func (.func 65) #[] #[]),.w (f3 R.a R.b R.c),.w (f3 R.a R.b R.c),.w (f3 S.a S.b S.c),.a] [some (4,f3 S.a S.b S.c),none,none,none,none] [] E (fun hp=>⟨zS,zCu (off:=0) (l:=6) hp fo tv (mq 0 rfl) (.inr rfl) rfl zAd rfl (sqo 10) (fun v w h=>h),zCu (off:=0) (l:=6) hp fo tv (mq 0 rfl) (.inr rfl) rfl zAd rfl (sqo 10) (fun v w h=>h),zRg (f:=65) (F:=(f3 R.a R.b R.c).P) (G:=(f3 R.a R.b R.c).P) hp fo tv (zHt) (sqi 0) (sqi 1) (sqi 2) (fun v v' w h h'=>(by have hh:=zJp HC.out.neg HGR.out.1 HGR.out.1 (HC.out.sm _ HGR.out) (HC.out.sm _ HGR.out) h h';rw [HS.out] at hh;exact hh)),sO 0 3 hp (mq 0 rfl) zAo zw,tv⟩) ?_
   intro w12 E _ _
   simp only [Z1] at E ⊢
   by_cases hb:n.natAbs/2^i % 2=1
   ·have TB:Hid (bits .and .u32 y 1=1):=by show _=_;rw [HBA.out,hb];rfl
    obtain ⟨U,hU⟩:∃ U,U=mulF D S X:=⟨_,rfl⟩
    have HU:=hidd hU.symm
    have HU2:Hid (U=pwF D X (n.natAbs/2^i)):=by show _=_;rw [hU,HS2.out,show n.natAbs/2^i=2*(n.natAbs/2^(i+1))+1 by have:=zPw n.natAbs i;omega];rfl
    clear hU hb
    go_upto_region 9 with (fail)
    refine rz [.p b3 1,.u (.slice (some ⟨ad,off,none⟩) j1 cc1),.i (i:Int),.i (q:Int),.u (.pointer (some ⟨ad,off+q,none⟩)),.u (.int .u32 x0),.i (i:Int),.i (r:Int),.u (.int .u32 y),.u (.int .u32 1),.t] N5 [] E (fun hp=>⟨qa b3 0 1 hp zw,zRk (off:=1) (v:=.slice (some ⟨ad,off,none⟩) j1 cc1) hp fo tv (mq 2 rfl) (.inl rfl) (Nat.le_of_ble_eq_true rfl) (sqi 0) (fun us w hl h=>⟨zP0 hl h,rfl⟩),zS,zO hp (sqi 2) (And.intro WQ.out WQ3.out),zAt (F:=fun v _=>v=.slice (some ⟨ad,off,none⟩) j1 cc1) (G:=fun v _=>v=.int .i64 (q:Int)) hp fo tv (sqi 1) (sqi 3) (fun ρ w hc h h'=>⟨.pointer (some ⟨ad,off+q,none⟩),by simp [execOp,go_sem,h,h',hc,HQI.out],rfl⟩),zRm (bx:=b3) (x0:=x0) hp fo tv (mq 2 rfl) (.inl rfl) (sqi 4) (fun us w hl h=>zQl HQK.out HX0.out h) (fun _=>rfl),zS,zO hp (sqi 6) WR.out,zAt (F:=fun v _=>v=.int .u32 x0) (G:=fun v _=>v=.int .i64 (r:Int)) hp fo tv (sqi 5) (sqi 7) (fun ρ w hc h h'=>⟨.int .u32 y,by simp [execOp,go_sem,h,h',WG.out,WS.out,WM.out],rfl⟩),zO hp (sqi 8) TB.out,zo hp (sqi 9),tv⟩) ?_
    intro w13 E _ _
    simp only [Z1] at E ⊢
    clear TB HX0 HQK HQI HBA HR32 WQ WQ3 WR WR3 WC WS WM WG
    go_upto_region 10 with (fail)
    refine rz [.u (.func (.func 65) #[] #[]),.w (f3 S.a S.b S.c),.w (f3 X.a X.b X.c),.w (f3 U.a U.b U.c),.a] [some (4,f3 U.a U.b U.c),none,none,none,none] [] E (fun hp=>⟨zS,zCu (off:=0) (l:=6) hp fo tv (mq 0 rfl) (.inr rfl) rfl zAd rfl (sqo 10) (fun v w h=>h),lS 0 6 hp (mq 3 rfl) zAd zw,zRg (f:=65) (F:=(f3 S.a S.b S.c).P) (G:=(f3 X.a X.b X.c).P) hp fo tv (zHt) (sqi 0) (sqi 1) (sqi 2) (fun v v' w h h'=>(by have hh:=zJp HC.out.neg HGS.out.1 HX.out.1 (HC.out.sm _ HGS.out) HX.out.2 h h';rw [HU.out] at hh;exact hh)),sO 0 3 hp (mq 0 rfl) zAo zw,tv⟩) ?_
    intro w14 E _ _
    simp only [Z1] at E ⊢
    clear HU
    go_wp2
    go_roundw
    case rel=>exact ⟨i,U,by have:=HJ.out;omega,by first | go_num | (rw [hw];go_num),HU2.out,E⟩
    case measure=>first | exact measP | (rw [hw];exact measP)
   ·have TB:Hid (bits .and .u32 y 1=0):=by show _=_;rw [HBA.out,show n.natAbs/2^i % 2=0 by omega];rfl
    have HU2:Hid (S=pwF D X (n.natAbs/2^i)):=by show _=_;rw [HS2.out,show n.natAbs/2^i=2*(n.natAbs/2^(i+1)) by have:=zPw n.natAbs i;omega]
    clear hb
    go_upto_region 9 with (fail)
    refine rz [.p b3 1,.u (.slice (some ⟨ad,off,none⟩) j1 cc1),.i (i:Int),.i (q:Int),.u (.pointer (some ⟨ad,off+q,none⟩)),.u (.int .u32 x0),.i (i:Int),.i (r:Int),.u (.int .u32 y),.u (.int .u32 0),.o] N5 [] E (fun hp=>⟨qa b3 0 1 hp zw,zRk (off:=1) (v:=.slice (some ⟨ad,off,none⟩) j1 cc1) hp fo tv (mq 2 rfl) (.inl rfl) (Nat.le_of_ble_eq_true rfl) (sqi 0) (fun us w hl h=>⟨zP0 hl h,rfl⟩),zS,zO hp (sqi 2) (And.intro WQ.out WQ3.out),zAt (F:=fun v _=>v=.slice (some ⟨ad,off,none⟩) j1 cc1) (G:=fun v _=>v=.int .i64 (q:Int)) hp fo tv (sqi 1) (sqi 3) (fun ρ w hc h h'=>⟨.pointer (some ⟨ad,off+q,none⟩),by simp [execOp,go_sem,h,h',hc,HQI.out],rfl⟩),zRm (bx:=b3) (x0:=x0) hp fo tv (mq 2 rfl) (.inl rfl) (sqi 4) (fun us w hl h=>zQl HQK.out HX0.out h) (fun _=>rfl),zS,zO hp (sqi 6) WR.out,zAt (F:=fun v _=>v=.int .u32 x0) (G:=fun v _=>v=.int .i64 (r:Int)) hp fo tv (sqi 5) (sqi 7) (fun ρ w hc h h'=>⟨.int .u32 y,by simp [execOp,go_sem,h,h',WG.out,WS.out,WM.out],rfl⟩),zO hp (sqi 8) TB.out,zo hp (sqi 9),tv⟩) ?_
    intro w15 E _ _
    simp only [Z1] at E ⊢
    clear TB HX0 HQK HQI HBA HR32 WQ WQ3 WR WR3 WC WS WM WG
    go_wp2
    go_roundw
    case rel=>exact ⟨i,S,by have:=HJ.out;omega,by first | go_num | (rw [hw];go_num),HU2.out,E⟩
    case measure=>first | exact measP | (rw [hw];exact measP)

theorem zO9 {w:World} {v v' u:Value} {D n:Int} {X:F3} (hC:GC D) (h4:D % 4=0∨D % 4=1) (hX:Gm D X) (h:(Fq.st [.n (onF D).a,.n (onF D).b,.n (onF D).c]).P v w) (h':(f3 X.a X.b X.c).P v' w) (g:Num w u n) (hn:ab n<pw 20) :
  Calls Tryz.prog 108 #[v,v',u,.func (.func 65) #[] #[]] w fun e w'=>∃ v',e=.returned v'∧Below w.heap.size w w'∧(Fq.st [.n (pwF D X n.natAbs).a,.n (pwF D X n.natAbs).b,.n (pwF D X n.natAbs).c]).P v' w':=by
 by_cases h0:n=0
 ·subst h0
  exact zUb h h' g
 ·exact zUa hC h4 hX h h' g hn h0

theorem zLq {w:World} {v:Value} {P:F3} {D:Int} (hC:ab D<pw 6) (hN:D<0) (hP:Sc D P) (sP:Sm P) (h:(f3 P.a P.b P.c).P v w) :
  Calls Tryz.prog 56 #[v] w fun e w'=>∃ b,e=.returned (cloV 107 b)∧w.heap.size≤b∧Below w.heap.size w w'∧Bq w' b 6 (Fq.st [.n (onF D).a,.n (onF D).b,.n (onF D).c]):=by
 have HC:=hidd hC
 have HP:=hidd hP
 have SP:=hidd sP
 have HDB:Hid (ab D<pw 40):=Int.lt_of_lt_of_le hC (zAa zm)
 have HN:=hidd hN
 clear hC hP sP hN
 obtain ⟨y0_p0,y0_q0,y0_p1,y0_q1,y0_p2,y0_q2,rfl,hF0⟩:=o3 h
 obtain ⟨w1,b1,hw1,hb1,hs1,E⟩:=gS w 38 hF0
 go_enter Tryz.func56,Tryz.ntmps56
 go_upto_region 1 with (fail)
 rw [← hw1,← hb1]
 clear hw1 hb1 hs1
 refine rz [.w (f3 P.a P.b P.c),.n D,.w (Fq.tup2 (f3 ((onF D).a) ((onF D).b) ((onF D).c)) (Fq.is (.int .i64 0))),.w (Fq.tup2 (f3 ((onF D).a) ((onF D).b) ((onF D).c)) (Fq.is (.int .i64 0))),.w (f3 ((onF D).a) ((onF D).b) ((onF D).c)),.i 0,.k,.a,.i 0] [none] [⟨6,7,6,f3 0 0 0,f3 ((onF D).a) ((onF D).b) ((onF D).c),none⟩] E (fun hp=>⟨lS 0 6 hp (mq 0 rfl) zAd zw,zc hp zC6 zi fun v w h=>(by have hh:=zC7 h (Int.lt_of_lt_of_le SP.out.1 (zAa zm)) (Int.lt_of_lt_of_le SP.out.2.1 (zAa zm)) (Int.lt_of_lt_of_le SP.out.2.2 (zAa zm));rw [HP.out.disc] at hh;exact hh),zc hp zJm zi fun v w h=>zJt h HDB.out HN.out (zDm HP.out),zS,zS,zS,aS hp (mq 0 rfl) zAu zB0,sS 4 hp (mq 0 rfl) zAo,zS,tv⟩) ?_
 intro w2 b2_6 E _ _
 simp only [Z1] at E ⊢
 have hbs:w.heap.size≤b2_6:=(E.boxes _ (mq 0 rfl)).1
 have hbx:=(E.boxes _ (mq 0 rfl)).2
 clear HC HP SP HDB HN
 go_wp2
 refine bodyPost_ret (v:=cloV 107 b2_6) ?_ rfl ⟨_,rfl,hbs,E.below,hbx⟩
 simp [results,Tryz.results56,go_sem,cloV]

theorem zUf {w:World} {v v':Value} {b:Nat} {D n:Int} {P:F3} (hb:Bq w b 6 (Fq.st [.n (onF D).a,.n (onF D).b,.n (onF D).c])) (h:(f3 P.a P.b P.c).P v w) (h':Num w v' n) (hC:GC D) (hP:Sc D P) (sP:Sm P) (hn:ab n<pw 20) (hs:n<0) :
  Rt 107 #[v,v',.pointer (some ⟨b,0,none⟩)] w fun v' w'=>(Fq.st [.n (pzF D P n).a,.n (pzF D P n).b,.n (pzF D P n).c]).P v' w':=by
 replace hn:=hidd hn
 have HC:=hidd hC
 have HP:=hidd hP
 have SP:=hidd sP
 have SG:Hid (cmpI n 0<0):=cmpIqlt.2 hs
 obtain ⟨X,hX⟩:∃ X,X=rdF (opF P):=⟨_,rfl⟩
 have hG:=zIk hC.neg (zFb hP) sP.op
 rw [← hX] at hG
 have HX:=hidd hX.symm
 have HG:=hidd hG.1
 have HE:Hid (pwF D X n.natAbs=pzF D P n):=by show _=_;unfold pzF;rw [if_pos hs];exact zKh hC.neg (zDm hP) (zFb hP) hG.2 _
 have HO:Hid (∀ w1,Below w.heap.size w w1→StAt w1 b 0 [.n (onF D).a,.n (onF D).b,.n (onF D).c]):=fun w1 hb1=>hb.stAt hb1
 clear hC hP sP hs hX hG hb
 obtain ⟨y0_p0,y0_q0,y0_p1,y0_q1,y0_p2,y0_q2,rfl,hF0⟩:=o3 h
 obtain ⟨n1,ao1,k1,c1,rfl⟩:=h'.parts
 obtain ⟨w1,b1,hw1,hb1,hs1,E⟩:=gS w 38 hF0
 obtain ⟨w2,b2,hw2,hb2,hs2,E⟩:=fN E hs1 36 h'
 obtain ⟨w3,b3,hw3,hb3,hs3,E⟩:=fO E hs2 38 zAu
 go_enter Tryz.func107,Tryz.ntmps107
 go_upto_region 1 with (fail)
 rw [← hw1,← hw2]
 rw [← hw3,← hb3]
 rw [← hb2,← hb1]
 clear hw1 hw2 hw3 hb1 hb2 hb3 hs3 hs1 hs2
 refine rz [.n n,.i (cmpI n 0),.t] N3 [] E (fun hp=>⟨lI 0 hp (mq 1 rfl) zw,zc hp zAz zi fun v w h=>zA0 h,zO hp (sqi 1) SG.out,tv⟩) ?_
 intro w4 E _ _
 simp only [Z1] at E ⊢
 go_upto_region 2 with (fail)
 refine rz [.w (f3 P.a P.b P.c),.w (Fq.tup2 (f3 X.a X.b X.c) (Fq.is (.int .i64 0))),.w (Fq.tup2 (f3 X.a X.b X.c) (Fq.is (.int .i64 0))),.w (f3 X.a X.b X.c),.i 0,.a] [none,none,some (5,f3 X.a X.b X.c)] [] E (fun hp=>⟨zCu (off:=0) (l:=6) hp fo tv (mq 2 rfl) (.inr rfl) rfl zAd rfl (sqo 3) (fun v w h=>h),zc hp zTo zi fun v w h=>(by have hh:=exPInvF HC.out.neg HP.out SP.out h;rw [HX.out] at hh;exact hh),zS,zS,zS,sO 0 3 hp (mq 2 rfl) zAo zw,tv⟩) ?_
 intro w5 E _ _
 simp only [Z1] at E ⊢
 go_upto_region 4 with (fail)
 refine rz [.w (f3 ((onF D).a) ((onF D).b) ((onF D).c)),.w (f3 X.a X.b X.c),.n n,.w (f3 ((pwF D X n.natAbs).a) ((pwF D X n.natAbs).b) ((pwF D X n.natAbs).c)),.a] [some (4,f3 ((pwF D X n.natAbs).a) ((pwF D X n.natAbs).b) ((pwF D X n.natAbs).c)),none,none] [] E (fun hp=>⟨zCi (off:=0) (l:=6) (fs:=[.n ((onF D).a),.n ((onF D).b),.n ((onF D).c)]) hp fo tv HO.out zAd rfl (sqo 2) (fun v w h=>h),lS 0 6 hp (mq 2 rfl) zAd zw,lI 0 hp (mq 1 rfl) zw,zD0 (F:=(f3 ((onF D).a) ((onF D).b) ((onF D).c)).P) (G:=(f3 X.a X.b X.c).P) (F3:=(Fq.num n).P) (F4:=(Fq.is (.func (.func 65) #[] #[])).P) hp fo tv (zOs) (sqi 0) (sqi 1) (sqi 2) (zNk (fun _=>rfl)) (fun v v' u u' w h h' g g'=>(by subst g';exact zO9 HC.out (zDm HP.out) HG.out h h' g hn.out)),sO 0 3 hp (mq 0 rfl) zAo zw,tv⟩) ?_
 intro w6 E _ _
 simp only [Z1] at E ⊢
 have hE:=HE.out
 clear HC HP SP SG HX HG HE HO
 obtain ⟨_,_,hc0,hf0⟩:=zAy (E.box 0 rfl)
 have hP0:=hf0
 obtain ⟨r0_p0,r0_q0,_,rfl,_r0_n0,r0_p1,r0_q1,_,rfl,_r0_n1,r0_p2,r0_q2,_,rfl,_r0_n2,rfl⟩:=hf0
 have c0_z:=c6 hc0
 simp only [List.getD_cons_zero,List.getD_cons_succ] at c0_z
 clear hc0
 clear hn
 rw [hE] at hP0
 go_wp2
 exact zR (v:=.agg #[r0_p0,r0_q0,r0_p1,r0_q1,r0_p2,r0_q2]) (by simp [results,Tryz.results107,go_sem,c0_z]) E.below ⟨_,rfl,hP0⟩

theorem zUg {w:World} {v v':Value} {b:Nat} {D n:Int} {P:F3} (hb:Bq w b 6 (Fq.st [.n (onF D).a,.n (onF D).b,.n (onF D).c])) (h:(f3 P.a P.b P.c).P v w) (h':Num w v' n) (hC:GC D) (hP:Sc D P) (sP:Sm P) (hn:ab n<pw 20) (hs:¬ n<0) :
  Rt 107 #[v,v',.pointer (some ⟨b,0,none⟩)] w fun v' w'=>(Fq.st [.n (pzF D P n).a,.n (pzF D P n).b,.n (pzF D P n).c]).P v' w':=by
 replace hn:=hidd hn
 have HC:=hidd hC
 have HP:=hidd hP
 have SP:=hidd sP
 have SG:Hid (¬ cmpI n 0<0):=fun e=>hs (cmpIqlt.1 e)
 obtain ⟨X,hX⟩:∃ X,X=rdF P:=⟨_,rfl⟩
 have hG:=zIk hC.neg hP sP
 rw [← hX] at hG
 have HX:=hidd hX.symm
 have HG:=hidd hG.1
 have HE:Hid (pwF D X n.natAbs=pzF D P n):=by show _=_;unfold pzF;rw [if_neg hs];exact zKh hC.neg (zDm hP) hP hG.2 _
 have HO:Hid (∀ w1,Below w.heap.size w w1→StAt w1 b 0 [.n (onF D).a,.n (onF D).b,.n (onF D).c]):=fun w1 hb1=>hb.stAt hb1
 clear hC hP sP hs hX hG hb
 obtain ⟨y0_p0,y0_q0,y0_p1,y0_q1,y0_p2,y0_q2,rfl,hF0⟩:=o3 h
 obtain ⟨n1,ao1,k1,c1,rfl⟩:=h'.parts
 obtain ⟨w1,b1,hw1,hb1,hs1,E⟩:=gS w 38 hF0
 obtain ⟨w2,b2,hw2,hb2,hs2,E⟩:=fN E hs1 36 h'
 obtain ⟨w3,b3,hw3,hb3,hs3,E⟩:=fO E hs2 38 zAu
 go_enter Tryz.func107,Tryz.ntmps107
 go_upto_region 1 with (fail)
 rw [← hw1,← hw2]
 rw [← hw3,← hb3]
 rw [← hb2,← hb1]
 clear hw1 hw2 hw3 hb1 hb2 hb3 hs3 hs1 hs2
 refine rz [.n n,.i (cmpI n 0),.o] N3 [] E (fun hp=>⟨lI 0 hp (mq 1 rfl) zw,zc hp zAz zi fun v w h=>zA0 h,zO hp (sqi 1) SG.out,tv⟩) ?_
 intro w4 E _ _
 simp only [Z1] at E ⊢
 go_upto_region 3 with (fail)
 refine rz [.w (f3 P.a P.b P.c),.w (f3 X.a X.b X.c),.a] [none,none,some (2,f3 X.a X.b X.c)] [] E (fun hp=>⟨zCu (off:=0) (l:=6) hp fo tv (mq 2 rfl) (.inr rfl) rfl zAd rfl (sqo 3) (fun v w h=>h),zc hp zHu zi fun v w h=>(by have hh:=zLr HC.out.neg HP.out SP.out h;rw [HX.out] at hh;exact hh),sO 0 1 hp (mq 2 rfl) zAo zw,tv⟩) ?_
 intro w5 E _ _
 simp only [Z1] at E ⊢
 go_upto_region 4 with (fail)
 refine rz [.w (f3 ((onF D).a) ((onF D).b) ((onF D).c)),.w (f3 X.a X.b X.c),.n n,.w (f3 ((pwF D X n.natAbs).a) ((pwF D X n.natAbs).b) ((pwF D X n.natAbs).c)),.a] [some (4,f3 ((pwF D X n.natAbs).a) ((pwF D X n.natAbs).b) ((pwF D X n.natAbs).c)),none,none] [] E (fun hp=>⟨zCi (off:=0) (l:=6) (fs:=[.n ((onF D).a),.n ((onF D).b),.n ((onF D).c)]) hp fo tv HO.out zAd rfl (sqo 2) (fun v w h=>h),lS 0 6 hp (mq 2 rfl) zAd zw,lI 0 hp (mq 1 rfl) zw,zD0 (F:=(f3 ((onF D).a) ((onF D).b) ((onF D).c)).P) (G:=(f3 X.a X.b X.c).P) (F3:=(Fq.num n).P) (F4:=(Fq.is (.func (.func 65) #[] #[])).P) hp fo tv (zOs) (sqi 0) (sqi 1) (sqi 2) (zNk (fun _=>rfl)) (fun v v' u u' w h h' g g'=>(by subst g';exact zO9 HC.out (zDm HP.out) HG.out h h' g hn.out)),sO 0 3 hp (mq 0 rfl) zAo zw,tv⟩) ?_
 intro w6 E _ _
 simp only [Z1] at E ⊢
 have hE:=HE.out
 clear HC HP SP SG HX HG HE HO
 obtain ⟨_,_,hc0,hf0⟩:=zAy (E.box 0 rfl)
 have hP0:=hf0
 obtain ⟨r0_p0,r0_q0,_,rfl,_r0_n0,r0_p1,r0_q1,_,rfl,_r0_n1,r0_p2,r0_q2,_,rfl,_r0_n2,rfl⟩:=hf0
 have c0_z:=c6 hc0
 simp only [List.getD_cons_zero,List.getD_cons_succ] at c0_z
 clear hc0
 clear hn
 rw [hE] at hP0
 go_wp2
 exact zR (v:=.agg #[r0_p0,r0_q0,r0_p1,r0_q1,r0_p2,r0_q2]) (by simp [results,Tryz.results107,go_sem,c0_z]) E.below ⟨_,rfl,hP0⟩

theorem zG0 {w:World} {v v':Value} {b:Nat} {D n:Int} {P:F3} (hb:Bq w b 6 (Fq.st [.n (onF D).a,.n (onF D).b,.n (onF D).c])) (h:(f3 P.a P.b P.c).P v w) (h':Num w v' n) (hC:GC D) (hP:Sc D P) (sP:Sm P) (hn:ab n<pw 20) :
  Rt 107 #[v,v',.pointer (some ⟨b,0,none⟩)] w fun v' w'=>(Fq.st [.n (pzF D P n).a,.n (pzF D P n).b,.n (pzF D P n).c]).P v' w':=by
 by_cases hs:n<0
 ·exact zUf hb h h' hC hP sP hn hs
 ·exact zUg hb h h' hC hP sP hn hs

theorem zT9 {w:World} {v v':Value} {P:F3} {D n:Int} (hC:GC D) (hP:Sc D P) (hn:ab n<pw 20) (h:(f3 P.a P.b P.c).P v w) (h':Num w v' n) (sP:Sm P) :
  Rt 54 #[v,v'] w fun v' w'=>(Fq.tup2 (Fq.st [.n (pzF D P n).a,.n (pzF D P n).b,.n (pzF D P n).c]) (Fq.is (.int .i64 0))).P v' w':=by
 replace hn:=hidd hn
 have SP:=hidd sP
 clear sP
 have HP:=hidd hP
 have HC:=hidd hC
 have HNG:=hidd hC.neg
 clear hC
 have HE:Hid (rfE P.a P.b P.c=0):=zGj hP HNG.out
 clear hP
 obtain ⟨y0_p0,y0_q0,y0_p1,y0_q1,y0_p2,y0_q2,rfl,hF0⟩:=o3 h
 obtain ⟨n1,ao1,k1,c1,rfl⟩:=h'.parts
 obtain ⟨w1,b1,hw1,hb1,hs1,E⟩:=gS w 38 hF0
 obtain ⟨w2,b2,hw2,hb2,hs2,E⟩:=fN E hs1 36 h'
 obtain ⟨w3,b3,hw3,hb3,hs3,E⟩:=fO E hs2 38 zAu
 go_enter Tryz.func54,Tryz.ntmps54
 go_upto_region 1 with (fail)
 rw [← hw1,← hw2]
 rw [← hw3,← hb3]
 rw [← hb2,← hb1]
 clear hw1 hw2 hw3 hb1 hb2 hb3 hs3 hs1 hs2
 refine rz [.w (f3 P.a P.b P.c),.i 0,.i 0] N3 [] E (fun hp=>⟨lS 0 6 hp (mq 2 rfl) zAd zw,zc hp zDd zi fun v w h=>zDe h (Int.lt_of_lt_of_le SP.out.1 (zAa zm)) (Int.lt_of_lt_of_le SP.out.2.1 (zAa zm)) (Int.lt_of_lt_of_le SP.out.2.2 (zAa zm)) (Int.lt_of_lt_of_le (zCn SP.out.1 SP.out.2.1 SP.out.2.2) (zAa zm)) HE.out,zS,tv⟩) ?_
 intro w4 E _ _
 simp only [Z1] at E ⊢
 go_upto_region 2 with (fail)
 refine rz [.i 0,.o] N3 [] E (fun hp=>⟨zS,zo hp (sqi 0),tv⟩) ?_
 intro w5 E _ _
 simp only [Z1] at E ⊢
 go_upto_region 4 with (fail)
 refine rz [.w (f3 P.a P.b P.c),.k,.w (f3 P.a P.b P.c),.n n,.w (f3 ((pzF D P n).a) ((pzF D P n).b) ((pzF D P n).c)),.a,.i 0] [some (5,f3 ((pzF D P n).a) ((pzF D P n).b) ((pzF D P n).c)),none,none] [⟨1,1,6,f3 ((onF D).a) ((onF D).b) ((onF D).c),f3 ((onF D).a) ((onF D).b) ((onF D).c),(some (.clo 107))⟩] E (fun hp=>⟨lS 0 6 hp (mq 2 rfl) zAd zw,zEy (F:=(f3 P.a P.b P.c).P) hp (zLi) (mq 0 rfl) rfl rfl rfl (sqi 0) (fun v w h=>zLq (Int.lt_of_lt_of_le (zLb SP.out HP.out) (zAa zm)) HNG.out HP.out SP.out h) (fun _ _=>trivial) (zCr rfl) (zDx rfl),lS 0 6 hp (mq 2 rfl) zAd zw,lI 0 hp (mq 1 rfl) zw,zW0 (F:=(f3 P.a P.b P.c).P) (G:=(Fq.num n).P) hp fo tv (zGx) (mq 0 rfl) rfl (zEr rfl rfl (by simp) rfl) (sqi 2) (sqi 3) (fun v v' b w h h' hb=>zG0 hb h h' HC.out HP.out SP.out hn.out),sO 0 4 hp (mq 0 rfl) zAo zw,zS,tv⟩) ?_
 intro w6 b6_1 E _ _
 simp only [Z1] at E ⊢
 clear HP HNG HE SP HC
 obtain ⟨_,_,hccr,hffr⟩:=zAy (E.box 1 rfl)
 have hPr:=hffr
 obtain ⟨r_p0,r_q0,_,rfl,_r_n0,r_p1,r_q1,_,rfl,_r_n1,r_p2,r_q2,_,rfl,_r_n2,rfl⟩:=hffr
 have crz:=c6 hccr
 simp only [List.getD_cons_zero,List.getD_cons_succ] at crz
 clear hccr
 clear hn
 go_wp2
 exact zR (v:=.tuple #[.agg #[r_p0,r_q0,r_p1,r_q1,r_p2,r_q2],.int .i64 0]) (by simp [results,Tryz.results54,go_sem,crz]) E.below ⟨_,_,rfl,⟨_,rfl,hPr⟩,rfl⟩

theorem Least.prime {n q:Nat} (h:Least n q) {d:Nat} (h2:2≤d) (hd:q % d=0):d=q:=by
 obtain ⟨h0,h1,h3⟩:=h
 have hle:d≤q:=Nat.le_of_dvd zm (Nat.dvd_of_mod_eq_zero hd)
 rcases Nat.lt_or_ge d q with h | h
 ·exact absurd (Nat.mod_eq_zero_of_dvd (Nat.dvd_trans (Nat.dvd_of_mod_eq_zero hd) (Nat.dvd_of_mod_eq_zero h1))) (h3 d h2 h)
 ·omega
theorem least_ex {n:Nat} (h:2≤n):∃ q,Least n q∧q≤n:=by
 have key:∀ k d,2≤d→n-d=k→(∀ e,2≤e→e<d→n % e≠0)→d≤n→∃ q,Least n q∧q≤n:=by
  intro k
  induction k with
  | zero=>
   intro d hd hk hno hle
   have:d=n:=by omega
   subst this
   exact ⟨d,⟨hd,Nat.mod_self d,hno⟩,Nat.le_refl _⟩
  | succ k ih=>
   intro d hd hk hno hle
   by_cases hm:n % d=0
   ·exact ⟨d,⟨hd,hm,hno⟩,hle⟩
   ·refine ih (d+1) zm zm (fun e h1 h2=>?_) zm
    rcases Nat.lt_or_ge e d with h | h
    ·exact hno e h1 h
    ·rw [show e=d by omega];exact hm
 exact key (n-2) 2 (Nat.le_refl _) rfl (fun e h1 h2=>by omega) h
theorem Least.next {n q d:Nat} (h:Least n q) (hd:2≤d) (ho:d=2∨d % 2=1) (hq:d≤q) (hm:¬ n % d=0):d+(1+d % 2)≤q∧(d+(1+d % 2)) % 2=1:=by
 obtain ⟨h0,h1,h3⟩:=h
 have hne:d≠q:=by rintro rfl;exact hm h1
 rcases ho with rfl | ho
 ·exact ⟨by omega,by omega⟩
 ·refine ⟨?_,by omega⟩
  rcases Nat.lt_or_ge (d+1) q with h | h
  ·omega
  ·have e:q=d+1:=by omega
   have h2:q % 2=0:=by omega
   have h4:n % 2=0:=Nat.mod_eq_zero_of_dvd (Nat.dvd_trans (Nat.dvd_of_mod_eq_zero h2) (Nat.dvd_of_mod_eq_zero h1))
   have:=h3 2 (Nat.le_refl _) zm
   exact absurd h4 this
theorem Least.found {n q d:Nat} (h:Least n q) (hd:2≤d) (hq:d≤q) (hm:n % d=0):d=q:=by
 rcases Nat.lt_or_ge d q with h9 | h9
 ·exact absurd hm (h.2.2 d hd h9)
 ·omega
theorem Least.last {n q d:Nat} (h:Least n q) (hn:0<n) (hd:2≤d) (hq:d≤q) (hm:¬ d≤n/d):n=q:=by
 obtain ⟨h0,h1,h3⟩:=h
 obtain ⟨m,hm2⟩:=Nat.dvd_of_mod_eq_zero h1
 have hlt:n<d*d:=by
  have:=(Nat.le_div_iff_mul_le (k:=d) (x:=d) (y:=n) zm)
  rw [this] at hm
  omega
 have hdd:d*d≤q*q:=Nat.mul_le_mul hq hq
 have hmq:m<q:=by
  rcases Nat.lt_or_ge m q with h | h
  ·exact h
  ·have:=Nat.mul_le_mul_left q h
   omega
 rcases Nat.lt_or_ge m 2 with h | h
 ·have:m=1:=by
   rcases Nat.eq_zero_or_pos m with e | e
   ·subst e;omega
   ·omega
  subst this
  omega
 ·exact absurd (Nat.mod_eq_zero_of_dvd ⟨q,by rw [hm2,Nat.mul_comm]⟩) (h3 m h hmq)
theorem zIt {c n:Nat} (h:c≤n) (hn:(n:Int)≤9223372036854775807):wrap64 (c:Int)=c:=by
 have h0:(0:Int)≤c:=by omega
 have h1:(c:Int)≤9223372036854775807:=by omega
 generalize (c:Int)=z at h0 h1 ⊢
 simp only [wrap64]
 omega
theorem zKy {z:Int} (h0:0≤z) (h1:z≤9223372036854775807):wrap64 z=z:=by
 simp only [wrap64]
 omega
theorem wrap_few {r:Nat} (h:r<2):wrap64 (r:Int)=r∧wrap64 (1+(r:Int))=1+(r:Int):=⟨zKy zm zm,zKy zm zm⟩
theorem meas_q {q d r:Nat} (h:d+(1+r)≤q):q-(intOf (.int .i64 ((d:Int)+(1+(r:Int))))).toNat<q-(intOf (.int .i64 (d:Int))).toNat:=by simp [intOf];omega
theorem meas_y {x y:Nat} (h:y<x):(intOf (.int .i64 (y:Int))).toNat<(intOf (.int .i64 (x:Int))).toNat:=by simp [intOf];omega
theorem zWb {d c:Nat} (h:d≤c):(d:Int)≤(c:Int):=by omega
theorem zWc {d c:Nat} (h:¬ d≤c):¬ (d:Int)≤(c:Int):=by omega
theorem zQk {m:Nat} (h:¬ m=0):((m:Int) == 0)=false∧¬ (m:Int)=0:=⟨by simp;omega,by omega⟩
theorem zV6 (w:World) {n q d0:Nat} (hl:Least n q) (hn0:0<n) (hn:(n:Int)≤9223372036854775807) (h2:2≤d0) (ho:d0=2∨d0 % 2=1) (hq:d0≤q) :
  Calls Tryz.prog 60 #[.int .i64 n,.int .i64 d0] w fun e w'=>e=.returned (.int .i64 q)∧w'=w:=by
 have HL:=hidd hl
 have HN:=hidd hn
 have HN0:=hidd hn0
 have H0:=hidd (show 2≤d0∧(d0=2∨d0 % 2=1)∧d0≤q from ⟨h2,ho,hq⟩)
 clear hl hn hn0 h2 ho hq
 go_enter Tryz.func60,Tryz.ntmps60
 go_wp2
 go_loop [5] (fun v=>∃ d:Nat,v=.int .i64 d∧2≤d∧(d=2∨d % 2=1)∧d≤q) (fun v=>q-(intOf v).toNat)
 case atStart=>exact ⟨d0,rfl,H0.out⟩
 case round=>
  obtain ⟨d,rfl,hd,hdo,hdq⟩:=hrel
  have hqn:q≤n:=Nat.le_of_dvd HN0.out (Nat.dvd_of_mod_eq_zero HL.out.2.1)
  have ht:Int.tdiv (n:Int) d=((n/d:Nat):Int):=by rw [Int.tdiv_eq_ediv_of_nonneg zm];exact (Int.natCast_ediv n d).symm
  have htm:Int.tmod (n:Int) d=((n % d:Nat):Int):=by rw [Int.tmod_eq_emod_of_nonneg zm];exact (Int.natCast_emod n d).symm
  have ht2:Int.tmod (d:Int) 2=((d % 2:Nat):Int):=by rw [Int.tmod_eq_emod_of_nonneg zm];exact (Int.natCast_emod d 2).symm
  have hp0:((d:Int) == 0)=false:=by simp;omega
  have hpz:¬ (d:Int)=0:=by omega
  have hcn:n/d≤n:=Nat.div_le_self n d
  have hmn:n % d≤n:=Nat.mod_le n d
  have HD:=hidd (show 2≤d∧(d=2∨d % 2=1)∧d≤q from ⟨hd,hdo,hdq⟩)
  have HQN:=hidd hqn
  have nx:=fun hm=>HL.out.next hd hdo hdq hm
  have fd:=fun hm=>HL.out.found hd hdq hm
  have ls:=fun hm=>HL.out.last HN0.out hd hdq hm
  obtain ⟨c,hc⟩:∃ c,c=n/d:=⟨_,rfl⟩
  obtain ⟨m,hm⟩:∃ m,m=n % d:=⟨_,rfl⟩
  obtain ⟨r,hr⟩:∃ r,r=d % 2:=⟨_,rfl⟩
  rw [← hc] at ht hcn ls
  rw [← hm] at htm hmn nx fd
  rw [← hr] at ht2 nx
  have hr2:r<2:=by rw [hr];exact Nat.mod_lt _ zd
  have hcw:=zIt hcn HN.out
  have hmw:=zIt hmn HN.out
  obtain ⟨hrw,hrw1⟩:=wrap_few hr2
  have NX:=hidd nx
  have FD:=hidd fd
  have LS:=hidd ls
  clear hc hm hr nx fd ls hd hdo hdq hqn hcn hmn hr2
  by_cases h1:d≤c
  ·have hle:=zWb h1
   clear h1
   by_cases h3:m=0
   ·subst h3
    have e:=FD.out rfl
    subst e
    clear NX FD LS
    go_wp2
    go_ret
    exact ⟨rfl,rfl⟩
   ·obtain ⟨hmb,hmz⟩:=zQk h3
    have n1:=hidd (NX.out h3)
    have hw:wrap64 ((d:Int)+(1+(r:Int)))=(d:Int)+(1+(r:Int)):=by have h7:=zIt (Nat.le_trans n1.out.1 HQN.out) HN.out;simpa using h7
    clear h3 NX FD LS
    go_wp2
    go_round
    case rel=>exact ⟨d+(1+r),by rw [hw];simp,Nat.le_trans HD.out.1 (Nat.le_add_right _ _),.inr n1.out.2,n1.out.1⟩
    case measure=>rw [hw];exact meas_q n1.out.1
  ·have hle:=zWc h1
   have e:=LS.out h1
   subst e
   clear NX FD LS h1
   go_wp2
   go_ret
   exact ⟨rfl,rfl⟩
theorem zXp (w:World) {q k m:Nat} (hq:2≤q) (hm:0<m) (hnd:¬ m % q=0) {n:Nat} (he:n=q^k*m) (hn:(n:Int)≤9223372036854775807) :
  Calls Tryz.prog 61 #[.int .i64 n,.int .i64 q] w fun e w'=>e=.returned (.int .i64 m)∧w'=w:=by
 have HQ:=hidd hq
 have HM:=hidd (show 0<m∧¬ m % q=0 from ⟨hm,hnd⟩)
 have HN:=hidd (show n=q^k*m∧(n:Int)≤9223372036854775807 from ⟨he,hn⟩)
 clear hq hm hnd hn he
 go_enter Tryz.func61,Tryz.ntmps61
 go_wp2
 go_loop [0] (fun v=>∃ x j:Nat,v=.int .i64 x∧x=q^j*m∧x≤n) (fun v=>(intOf v).toNat)
 case atStart=>exact ⟨n,k,rfl,HN.out.1,Nat.le_refl _⟩
 case round=>
  obtain ⟨x,j,rfl,hx,hxb⟩:=hrel
  have ht:Int.tdiv (x:Int) q=((x/q:Nat):Int):=by rw [Int.tdiv_eq_ediv_of_nonneg zm];exact (Int.natCast_ediv x q).symm
  have htm:Int.tmod (x:Int) q=((x % q:Nat):Int):=by rw [Int.tmod_eq_emod_of_nonneg zm];exact (Int.natCast_emod x q).symm
  have hp0:((q:Int) == 0)=false:=by have:=HQ.out;simp;omega
  have hpz:¬ (q:Int)=0:=by have:=HQ.out;omega
  by_cases hj:j=0
  ·subst hj
   have e:x=m:=by rw [hx,Nat.pow_zero,Nat.one_mul]
   subst e
   have hne:=HM.out.2
   have hlt:=Nat.mod_le x q
   obtain ⟨c,hc⟩:∃ c,c=x % q:=⟨_,rfl⟩
   rw [← hc] at htm hne hlt
   obtain ⟨hcb,hcz⟩:=zQk hne
   have hcw:=zIt (Nat.le_trans hlt hxb) HN.out.2
   clear hc hx hne hlt ht hxb
   go_wp2
   go_ret
   exact ⟨rfl,rfl⟩
  ·obtain ⟨i,rfl⟩:∃ i,j=i+1:=⟨j-1,by omega⟩
   have e1:x=q*(q^i*m):=by rw [hx,Nat.pow_succ,Nat.mul_comm (q^i) q,Nat.mul_assoc]
   have e2:x/q=q^i*m:=by rw [e1];exact Nat.mul_div_cancel_left _ (by have:=HQ.out;omega)
   have e3:x % q=0:=by rw [e1];exact Nat.mul_mod_right _ _
   have hpos:0<q^i*m:=Nat.mul_pos (Nat.pow_pos (by have:=HQ.out;omega)) HM.out.1
   obtain ⟨y,hy⟩:∃ y,y=q^i*m:=⟨_,rfl⟩
   rw [← hy] at e1 e2 hpos
   rw [e3] at htm
   rw [e2] at ht
   have hlt:y<x:=by
    have h2:=Nat.mul_le_mul_right y HQ.out
    omega
   have hyw:=zIt (Nat.le_trans (Nat.le_of_lt hlt) hxb) HN.out.2
   have HY:=hidd hy
   have HLT:=hidd hlt
   have HXB:=hidd hxb
   clear hx e1 e2 e3 hpos hy hj hlt hxb
   go_wp2
   go_round
   case rel=>exact ⟨y,i,by first | rfl | rw [hyw],HY.out,Nat.le_trans (Nat.le_of_lt HLT.out) HXB.out⟩
   case measure=>first | (rw [hyw];exact meas_y HLT.out) | exact meas_y HLT.out
theorem zLo (w:World) {n q d0:Nat} (hl:Least n q) (hn0:0<n) (hn:(n:Int)≤9223372036854775807) (h2:2≤d0) (ho:d0=2∨d0 % 2=1) (hq:d0≤q) :
  Rt 60 #[.int .i64 n,.int .i64 d0] w fun v' w'=>v'=.int .i64 q:=
 (zV6 w hl hn0 hn h2 ho hq).mono fun e w' ⟨he,hw⟩=>⟨_,he,by rw [hw];exact Below.refl _ _,rfl⟩
theorem zUi (w:World) {q k m:Nat} (hq:2≤q) (hm:0<m) (hnd:¬ m % q=0) {n:Nat} (he:n=q^k*m) (hn:(n:Int)≤9223372036854775807) :
  Rt 61 #[.int .i64 n,.int .i64 q] w fun v' w'=>v'=.int .i64 m:=
 (zXp w hq hm hnd he hn).mono fun e w' ⟨he,hw⟩=>⟨_,he,by rw [hw];exact Below.refl _ _,rfl⟩
theorem split_pow {q:Nat} (hq:2≤q):∀ n,0<n→∃ k m,n=q^k*m∧0<m∧¬ m % q=0:=by
 intro n
 induction n using Nat.strongRecOn with
 | _ n ih=>
  intro hn
  by_cases h:n % q=0
  ·obtain ⟨c,hc⟩:=Nat.dvd_of_mod_eq_zero h
   have c0:0<c:=by
    rcases Nat.eq_zero_or_pos c with e | e
    ·subst e;omega
    ·exact e
   have hlt:c<n:=by
    have:=Nat.mul_le_mul_right c hq
    omega
   obtain ⟨k,m,e,h1,h2⟩:=ih c hlt c0
   exact ⟨k+1,m,by rw [hc,e,Nat.pow_succ,Nat.mul_comm (q^k) q,Nat.mul_assoc],h1,h2⟩
  ·exact ⟨0,n,by rw [Nat.pow_zero,Nat.one_mul],hn,h⟩
theorem zWl {q o n m j:Nat} (hl:∀ d,2≤d→q % d=0→d=q) (ho:0<o) (hn:n ∣ o) (h1:o ∣ n*(q^j*m)) (h2:¬ o ∣ n*m):∃ i,j=i+1∧n*q ∣ o:=by
 obtain ⟨t,rfl⟩:=hn
 have n0:0<n:=Nat.pos_of_mul_pos_right ho
 have t1:t ∣ q^j*m:=Nat.dvd_of_mul_dvd_mul_left n0 h1
 have t2:¬ t ∣ m:=fun h=>h2 (Nat.mul_dvd_mul_left n h)
 by_cases hqt:q ∣ t
 ·cases j with
  | zero=>exact absurd (by simpa using t1) t2
  | succ i=>exact ⟨i,rfl,Nat.mul_dvd_mul_left n hqt⟩
 ·have hc:Nat.Coprime t q:=by
   have g1:=Nat.gcd_dvd_left t q
   have g2:=Nat.gcd_dvd_right t q
   rcases Nat.lt_or_ge (Nat.gcd t q) 2 with h | h
   ·have g0:0<Nat.gcd t q:=Nat.gcd_pos_of_pos_left _ (Nat.pos_of_mul_pos_left ho)
    show Nat.gcd t q=1
    omega
   ·exact absurd ((hl _ h (Nat.mod_eq_zero_of_dvd g2)) ▸ g1) hqt
  exact absurd ((hc.pow_right j).dvd_of_dvd_mul_left t1) t2
def Ord (D:Int) (P:F3) (o:Nat):Prop:=0<o∧pwF D P o=onF D∧∀ j,0<j→j<o→pwF D P j≠onF D
section
variable {D : Int} (hD : D < 0) (h4 : D % 4 = 0 ∨ D % 4 = 1)
include hD h4
theorem Ord.iff {P:F3} {o:Nat} (hp:Sc D P) (h:Ord D P o) (n:Nat):pwF D P n=onF D ↔ o ∣ n:=by
 have h1:=zQv hD h4 hp h.1 h.2.1 h.2.2 (n:Int)
 rw [zGi] at h1
 rw [h1]
 constructor
 ·intro e
  exact Nat.dvd_of_mod_eq_zero (by exact_mod_cast e)
 ·intro e
  have:=Nat.mod_eq_zero_of_dvd e
  exact_mod_cast this
theorem zG4 {X:F3} (hX:Gm D X):X.a=1 ↔ X=onF D:=by
 have hO:=zEd hD h4
 constructor
 ·intro h
  have e1:=zQf hD hO.1 hX.1 h hO.2 (.rfl' _)
  rw [zG7 hD h4 hX] at e1
  exact e1
 ·rintro rfl
  rfl
theorem rdF_pw {P:F3} (hP:Sc D P) (sP:Sm P):rdF P=pwF D P 1:=by
 obtain ⟨h1,h2⟩:=zIk hD hP sP
 rw [← zKh hD h4 hP h2 1,zKi hD h4 h1]
end
structure OI (D:Int) (P:F3) (o h n l q:Nat) (X:F3):Prop where
 x:X=pwF D P n
 n0:0<n
 no:n ∣ o
 l0:0<l
 lh:l≤h
 ol:o ∣ n*l
 q2:2≤q
 qo:q=2∨q % 2=1
 qd:∀ d,2≤d→d<q→l % d≠0
structure II (D:Int) (P:F3) (o m q n j:Nat) (X Y:F3):Prop where
 x:X=pwF D P n
 y:Y=pwF D P (n*m)
 n0:0<n
 no:n ∣ o
 oj:o ∣ n*(q^j*m)
structure QO (q m l:Nat):Prop where
 le:Least l q
 m0:0<m
 ml:m<l
 ql:q≤l
 qo:q=2∨q % 2=1
 qd:∀ d,2≤d→d<q→m % d≠0
section
variable {D : Int} (hD : D < 0) (h4 : D % 4 = 0 ∨ D % 4 = 1)
include hD h4
theorem OI.step {P X:F3} {o h n l q:Nat} (hP:Sc D P) (ho:Ord D P o) (H:OI D P o h n l q X) (hX:¬ X.a=1):∃ q1 k m,QO q1 m l∧q≤q1∧l=q1^k*m∧¬ m % q1=0∧II D P o m q1 n k X (pwF D P (n*m)):=by
 have hn:¬ o ∣ n:=fun e=>hX ((zG4 hD h4 (by rw [H.x];exact zA3 hD h4 hP n)).2 (by rw [H.x];exact (ho.iff hD h4 hP n).2 e))
 have l2:2≤l:=by
  have:=H.l0
  rcases Nat.lt_or_ge l 2 with h9 | h9
  ·have e:l=1:=by omega
   have:=H.ol
   rw [e,Nat.mul_one] at this
   exact absurd this hn
  ·exact h9
 obtain ⟨q1,hq1,hql⟩:=least_ex l2
 obtain ⟨k,m,hk,m0,hm⟩:=split_pow hq1.1 l H.l0
 have hmd:m ∣ l:=⟨q1^k,by rw [hk,Nat.mul_comm]⟩
 have hne:m≠l:=by rintro rfl;exact hm hq1.2.1
 have hle:q≤q1:=by
  rcases Nat.lt_or_ge q1 q with h9 | h9
  ·exact absurd hq1.2.1 (H.qd q1 hq1.1 h9)
  ·exact h9
 refine ⟨q1,k,m,⟨hq1,m0,?_,hql,?_,fun d h2 h3 e=>?_⟩,hle,hk,hm,H.x,rfl,H.n0,H.no,by rw [← hk];exact H.ol⟩
 ·have:=Nat.le_of_dvd H.l0 hmd
  omega
 ·rcases Nat.mod_two_eq_zero_or_one q1 with e | e
  ·exact .inl (hq1.prime (Nat.le_refl 2) e).symm
  ·exact .inr e
 ·exact hq1.2.2 d h2 h3 (Nat.mod_eq_zero_of_dvd (Nat.dvd_trans (Nat.dvd_of_mod_eq_zero e) hmd))
theorem II.step {P X Y:F3} {o m q n j l:Nat} (hP:Sc D P) (ho:Ord D P o) (hq:Least l q) (H:II D P o m q n j X Y) (hY:¬ Y.a=1):n*q≤o∧n<n*q∧∃ i,II D P o m q (n*q) i (pwF D X q) (pwF D Y q):=by
 have hn:¬ o ∣ n*m:=fun e=>hY ((zG4 hD h4 (by rw [H.y];exact zA3 hD h4 hP _)).2 (by rw [H.y];exact (ho.iff hD h4 hP _).2 e))
 obtain ⟨i,rfl,hno⟩:=zWl (fun d h2 h3=>hq.prime h2 h3) ho.1 H.no H.oj hn
 have h2:=hq.1
 refine ⟨Nat.le_of_dvd ho.1 hno,?_,i,by rw [H.x,← zIg hD h4 hP],by rw [H.y,← zIg hD h4 hP];congr 1;rw [Nat.mul_assoc,Nat.mul_assoc,Nat.mul_comm m q],Nat.mul_pos H.n0 zm,hno,?_⟩
 ·have:=Nat.mul_le_mul_left n h2
  have:=H.n0
  omega
 ·have:=H.oj
  rw [Nat.pow_succ,Nat.mul_comm (q^i) q,Nat.mul_assoc] at this
  rw [Nat.mul_assoc]
  exact this
theorem II.done {P X Y:F3} {o m q n j l h:Nat} (hP:Sc D P) (ho:Ord D P o) (hl:l≤h) (Q:QO q m l) (H:II D P o m q n j X Y) (hY:Y.a=1):OI D P o h n m q X:=by
 have e:=(zG4 hD h4 (by rw [H.y];exact zA3 hD h4 hP _)).1 hY
 rw [H.y] at e
 exact ⟨H.x,H.n0,H.no,Q.m0,by have:=Q.ml;omega,(ho.iff hD h4 hP _).1 e,Q.le.1,Q.qo,Q.qd⟩
theorem OI.done {P X:F3} {o h n l q:Nat} (hP:Sc D P) (ho:Ord D P o) (H:OI D P o h n l q X) (hX:X.a=1):n=o:=by
 have e:=(zG4 hD h4 (by rw [H.x];exact zA3 hD h4 hP _)).1 hX
 rw [H.x] at e
 exact Nat.dvd_antisymm H.no ((ho.iff hD h4 hP _).1 e)
end
theorem meas_o {o n n2:Nat} (h:n2≤o) (h1:n<n2):o-(intOf (.int .i64 (n2:Int))).toNat<o-(intOf (.int .i64 (n:Int))).toNat:=by simp [intOf];omega
theorem zH2 {c h:Nat} (h1:c≤h) (h2:(h:Int)≤9223372036854775807):-9223372036854775808≤(c:Int)∧(c:Int)≤9223372036854775807:=by omega
theorem ab_to {c h:Nat} (h1:c≤h) (h2:(h:Int)≤9223372036854775807):ab (c:Int)<pw 3:=zAs (zH2 h1 h2).1 (zH2 h1 h2).2
theorem mul_to {n q n2 o:Nat} (e:n2=n*q) (h:n2≤o) (h2:(o:Int)≤9223372036854775807):IntKind.i64.wrap ((n:Int)*(q:Int))=(n2:Int):=by
 rw [show (n:Int)*(q:Int)=(n2:Int) by rw [e];simp]
 exact IntWalk.i64_in _ (zH2 h h2)
theorem zT6 {w:World} {v:Value} {P:F3} {D:Int} (h:(f3 P.a P.b P.c).P v w) (sP:Sm P) (hP:Sc D P) (hC:GC D) {hh:Nat} (hk0:1≤hh) (hk1:(hh:Int)≤9223372036854775807) (hno:¬ pwF D P hh=onF D) :
  Rt 18 #[v,.int .i64 (hh:Int)] w fun v' w'=>(Fq.tup2 (Fq.is (.int .i64 0)) (Fq.is (.int .i64 1))).P v' w':=by
 have SP:=hidd sP
 have HP:=hidd hP
 have HC:=hidd hC
 have HNG:=hidd hC.neg
 have HE:Hid (rfE P.a P.b P.c=0):=zGj hP hC.neg
 have H4:=hidd (zDm hP)
 have TL:Hid (¬ (hh:Int)<1):=by show ¬ _;omega
 have RH:Hid (-9223372036854775808≤(hh:Int)∧(hh:Int)≤9223372036854775807):=by show _∧_;omega
 have BH:Hid (ab (hh:Int)<pw 3):=zAs RH.out.1 RH.out.2
 obtain ⟨Z,hZ⟩:∃ Z,Z=pzF D P (hh:Int):=⟨_,rfl⟩
 have HZ:=hidd hZ.symm
 have hGZ:=zG8 hC.neg (zDm hP) hP (hh:Int)
 rw [← hZ] at hGZ
 have TP:Hid (decide (Z.a=1)=false):=decide_eq_false fun e=>hno (by have e2:=(zG4 hC.neg (zDm hP) hGZ).1 e;rw [hZ,zGi] at e2;exact e2)
 clear hno
 clear hZ hGZ
 clear hk0 hk1
 clear sP hP hC
 obtain ⟨y0_p0,y0_q0,y0_p1,y0_q1,y0_p2,y0_q2,rfl,hF0⟩:=o3 h
 obtain ⟨w1,b1,hw1,hb1,hs1,E⟩:=gS w 38 hF0
 go_enter Tryz.func18,Tryz.ntmps18
 go_upto_region 1 with (fail)
 rw [← hw1,← hb1]
 clear hw1 hb1 hs1
 refine rz [.w (f3 P.a P.b P.c),.i 0,.i 0] [none] [] E (fun hp=>⟨lS 0 6 hp (mq 0 rfl) zAd zw,zc hp zDd zi fun v w h=>zDe h (Int.lt_of_lt_of_le SP.out.1 (zAa zm)) (Int.lt_of_lt_of_le SP.out.2.1 (zAa zm)) (Int.lt_of_lt_of_le SP.out.2.2 (zAa zm)) (Int.lt_of_lt_of_le (zCn SP.out.1 SP.out.2.1 SP.out.2.2) (zAa zm)) HE.out,zS,tv⟩) ?_
 intro w2 E _ _
 simp only [Z1] at E ⊢
 go_upto_region 2 with (fail)
 refine rz [.i 0,.o] [none] [] E (fun hp=>⟨zS,zo hp (sqi 0),tv⟩) ?_
 intro w3 E _ _
 simp only [Z1] at E ⊢
 go_upto_region 4 with (fail)
 refine zKo (same:=[(2,1)]) (C:=[f3 P.a P.b P.c,Fq.any,Fq.any]) (ks:=[none]) (new:=[⟨1,1,6,f3 ((onF D).a) ((onF D).b) ((onF D).c),f3 ((onF D).a) ((onF D).b) ((onF D).c),(some (.clo 107))⟩]) E rfl (by kernel_rfl) rfl rfl (fun hp=>⟨?_,?_,?_,tv⟩) ?_
 ·exact zFe (lS 0 6 hp (mq 0 rfl) zAd (sqo 2)) rfl
 ·exact zFe (zEy (F:=(f3 P.a P.b P.c).P) hp (zLi) (mq 0 rfl) rfl rfl rfl (sqi 0) (fun v w h=>zLq (Int.lt_of_lt_of_le (zLb SP.out HP.out) (zAa zm)) HNG.out HP.out SP.out h) (fun _ _=>trivial) (zCr rfl) (zDx rfl)) rfl
 ·exact zKu hp fo rfl (j:=1) rfl (by simp) rfl (fun _ _=>trivial) rfl (Nat.ne_of_beq_eq_false rfl)
 intro L vs w4 nb hsm hL hC hn E4
 have e1:vs 1=cloV 107 (nb 1):=hn _ (mq 0 rfl)
 have e2:vs 2=cloV 107 (nb 1):=(hsm (2,1) (by simp) (Nat.lt_of_sub_eq_succ rfl)).trans e1
 have E:=E4;try simp only [LM,zAn] at E
 rw [zAp hL]
 simp only [zP,Nat.zero_add,Nat.reduceAdd]
 rw [e1,e2]
 generalize nb 1=b4_1 at E ⊢
 generalize vs 0=u4_0
 clear e1 e2 hsm hC hn E4 hL vs L nb
 go_upto_region 5 with (fail)
 refine rz [.i (hh:Int),.o,.o,.u (cloV 107 b4_1),.w (f3 P.a P.b P.c),.i (hh:Int),.n (hh:Int),.w (f3 Z.a Z.b Z.c),.o,.t,.t] N2 [] E (fun hp=>⟨zS,zO hp (sqi 0) TL.out,zS,zAj hp fo gqi (sqo 7),lG 0 6 hp gqi (mq 1 rfl) zAd zw fun v w h=>h,zAj hp fo gqi (sqo 1),zBn (F:=(Fq.is (.int .i64 (hh:Int))).P) hp fo gqi (zBv) (sqi 5) (fun v w h=>(by subst h;exact OfK w (hh:Int) RH.out.1 RH.out.2)),zIj (F:=(f3 P.a P.b P.c).P) (G:=(Fq.num (hh:Int)).P) hp fo gqi (zGx) (mq 0 rfl) rfl (sqi 3) (sqi 4) (sqi 6) (fun v v' w h h' hb=>(by have hh9:=zG0 hb h h' HC.out HP.out SP.out (Int.lt_of_lt_of_le BH.out (zAa zm));rw [HZ.out] at hh9;exact hh9)),zc hp zGw zi (fun v w h=>zGz h TP.out),zo hp (sqi 8),zt hp (sqi 2) (sqi 9),tv⟩) ?_
 intro w5 E _ _
 simp only [Z1] at E ⊢
 go_upto_region 6 with (fail)
 refine rz [.i 0,.i 1] N2 [] E (fun hp=>⟨zS,zS,tv⟩) ?_
 intro w6 E _ _
 simp only [Z1] at E ⊢
 clear SP HP HC HNG HE H4 TL RH HZ TP
 clear BH
 go_wp2
 refine bodyPost_ret (v:=.tuple #[.int .i64 0,.int .i64 1]) ?_ rfl (by first | exact ⟨_,rfl,E.below,⟨_,_,rfl,rfl,rfl⟩⟩ | exact ⟨_,rfl,E.below⟩ | exact ⟨rfl,E.below⟩)
 simp [results,Tryz.results18,go_sem]

theorem zLp {w:World} {v:Value} {P:F3} {D:Int} (h:(f3 P.a P.b P.c).P v w) (sP:Sm P) (hP:Sc D P) (hC:GC D) {hh o:Nat} (hk0:1≤hh) (hk1:(hh:Int)≤9223372036854775807) (ho:Ord D P o) (hoh:o ∣ hh) :
  Rt 18 #[v,.int .i64 (hh:Int)] w fun v' w'=>(Fq.tup2 (Fq.is (.int .i64 (o:Int))) (Fq.is (.int .i64 0))).P v' w':=by
 have SP:=hidd sP
 have HP:=hidd hP
 have HC:=hidd hC
 have HNG:=hidd hC.neg
 have HE:Hid (rfE P.a P.b P.c=0):=zGj hP hC.neg
 have H4:=hidd (zDm hP)
 have TL:Hid (¬ (hh:Int)<1):=by show ¬ _;omega
 have RH:Hid (-9223372036854775808≤(hh:Int)∧(hh:Int)≤9223372036854775807):=by show _∧_;omega
 have BH:Hid (ab (hh:Int)<pw 3):=zAs RH.out.1 RH.out.2
 obtain ⟨Z,hZ⟩:∃ Z,Z=pzF D P (hh:Int):=⟨_,rfl⟩
 have HZ:=hidd hZ.symm
 have hGZ:=zG8 hC.neg (zDm hP) hP (hh:Int)
 rw [← hZ] at hGZ
 have TP:Hid (decide (Z.a=1)=true):=decide_eq_true ((zG4 hC.neg (zDm hP) hGZ).2 (by rw [hZ,zGi];exact (ho.iff hC.neg (zDm hP) hP hh).2 hoh))
 clear hZ hGZ
 have HO:=hidd ho
 have HHB:=hidd hk1
 obtain ⟨X0,hX0⟩:∃ X,X=rdF P:=⟨_,rfl⟩
 have HX0:=hidd hX0.symm
 have HS0:Hid (OI D P o hh 1 hh 2 X0):=⟨by rw [hX0];exact rdF_pw hC.neg (zDm hP) hP sP,by omega,Nat.one_dvd _,by omega,Nat.le_refl _,by rw [Nat.one_mul];exact hoh,Nat.le_refl _,.inl rfl,fun d h2 h3=>by omega⟩
 have HOB:Hid ((o:Int)≤9223372036854775807):=by have h9:=Nat.le_of_dvd zm hoh;show _≤_;omega
 clear ho hoh hX0
 clear hk0 hk1
 clear sP hP hC
 obtain ⟨y0_p0,y0_q0,y0_p1,y0_q1,y0_p2,y0_q2,rfl,hF0⟩:=o3 h
 obtain ⟨w1,b1,hw1,hb1,hs1,E⟩:=gS w 38 hF0
 go_enter Tryz.func18,Tryz.ntmps18
 go_upto_region 1 with (fail)
 rw [← hw1,← hb1]
 clear hw1 hb1 hs1
 refine rz [.w (f3 P.a P.b P.c),.i 0,.i 0] [none] [] E (fun hp=>⟨lS 0 6 hp (mq 0 rfl) zAd zw,zc hp zDd zi fun v w h=>zDe h (Int.lt_of_lt_of_le SP.out.1 (zAa zm)) (Int.lt_of_lt_of_le SP.out.2.1 (zAa zm)) (Int.lt_of_lt_of_le SP.out.2.2 (zAa zm)) (Int.lt_of_lt_of_le (zCn SP.out.1 SP.out.2.1 SP.out.2.2) (zAa zm)) HE.out,zS,tv⟩) ?_
 intro w2 E _ _
 simp only [Z1] at E ⊢
 go_upto_region 2 with (fail)
 refine rz [.i 0,.o] [none] [] E (fun hp=>⟨zS,zo hp (sqi 0),tv⟩) ?_
 intro w3 E _ _
 simp only [Z1] at E ⊢
 go_upto_region 4 with (fail)
 refine zKo (same:=[(2,1)]) (C:=[f3 P.a P.b P.c,Fq.any,Fq.any]) (ks:=[none]) (new:=[⟨1,1,6,f3 ((onF D).a) ((onF D).b) ((onF D).c),f3 ((onF D).a) ((onF D).b) ((onF D).c),(some (.clo 107))⟩]) E rfl (by kernel_rfl) rfl rfl (fun hp=>⟨?_,?_,?_,tv⟩) ?_
 ·exact zFe (lS 0 6 hp (mq 0 rfl) zAd (sqo 2)) rfl
 ·exact zFe (zEy (F:=(f3 P.a P.b P.c).P) hp (zLi) (mq 0 rfl) rfl rfl rfl (sqi 0) (fun v w h=>zLq (Int.lt_of_lt_of_le (zLb SP.out HP.out) (zAa zm)) HNG.out HP.out SP.out h) (fun _ _=>trivial) (zCr rfl) (zDx rfl)) rfl
 ·exact zKu hp fo rfl (j:=1) rfl (by simp) rfl (fun _ _=>trivial) rfl (Nat.ne_of_beq_eq_false rfl)
 intro L vs w4 nb hsm hL hC hn E4
 have e1:vs 1=cloV 107 (nb 1):=hn _ (mq 0 rfl)
 have e2:vs 2=cloV 107 (nb 1):=(hsm (2,1) (by simp) (Nat.lt_of_sub_eq_succ rfl)).trans e1
 have E:=E4;try simp only [LM,zAn] at E
 rw [zAp hL]
 simp only [zP,Nat.zero_add,Nat.reduceAdd]
 rw [e1,e2]
 generalize nb 1=b4_1 at E ⊢
 generalize vs 0=u4_0
 clear e1 e2 hsm hC hn E4 hL vs L nb
 go_upto_region 5 with (fail)
 refine rz [.i (hh:Int),.o,.o,.u (cloV 107 b4_1),.w (f3 P.a P.b P.c),.i (hh:Int),.n (hh:Int),.w (f3 Z.a Z.b Z.c),.t,.o,.o] N2 [] E (fun hp=>⟨zS,zO hp (sqi 0) TL.out,zS,zAj hp fo gqi (sqo 7),lG 0 6 hp gqi (mq 1 rfl) zAd zw fun v w h=>h,zAj hp fo gqi (sqo 1),zBn (F:=(Fq.is (.int .i64 (hh:Int))).P) hp fo gqi (zBv) (sqi 5) (fun v w h=>(by subst h;exact OfK w (hh:Int) RH.out.1 RH.out.2)),zIj (F:=(f3 P.a P.b P.c).P) (G:=(Fq.num (hh:Int)).P) hp fo gqi (zGx) (mq 0 rfl) rfl (sqi 3) (sqi 4) (sqi 6) (fun v v' w h h' hb=>(by have hh9:=zG0 hb h h' HC.out HP.out SP.out (Int.lt_of_lt_of_le BH.out (zAa zm));rw [HZ.out] at hh9;exact hh9)),zc hp zGw zi (fun v w h=>zGz h TP.out),zo hp (sqi 8),zt hp (sqi 2) (sqi 9),tv⟩) ?_
 intro w5 E _ _
 simp only [Z1] at E ⊢
 go_upto_region 7 with (fail)
 refine rz [.i (hh:Int),.i 1,.i (hh:Int)] N2 [] E (fun hp=>⟨zS,zS,zS,tv⟩) ?_
 intro w6 E _ _
 simp only [Z1] at E ⊢
 go_upto_region 8 with (fail)
 refine rz [.w (f3 P.a P.b P.c),.w (f3 X0.a X0.b X0.c),.k,.a] N2 [⟨2,3,6,f3 0 0 0,f3 X0.a X0.b X0.c,none⟩] E (fun hp=>⟨lS 0 6 hp (mq 1 rfl) zAd zw,zc hp zHu zi fun v w h=>(by have hh9:=zLr HC.out.neg HP.out SP.out h;rw [HX0.out] at hh9;exact hh9),aS hp (mq 0 rfl) zAu zB0,sS 1 hp (mq 0 rfl) zAo,tv⟩) ?_
 intro w7 b7_2 E _ _
 simp only [Z1] at E ⊢
 go_upto_region 9 with (fail)
 refine rz [.i 2] N3 [] E (fun hp=>⟨zS,tv⟩) ?_
 intro w8 E _ _
 simp only [Z1] at E ⊢
 clear HX0 HZ TP TL HE HNG RH
 have HS:=hidd E
 go_upto_region 10 with (fail)
 go_loopw [8,9,11] (fun vn vl vq W=>∃ (n l q:Nat) (X:F3),vn=.int .i64 (n:Int)∧vl=.int .i64 (l:Int)∧vq=.int .i64 (q:Int)∧OI D P o hh n l q X∧Fr w [(b7_2,6,f3 X.a X.b X.c),(b4_1,6,f3 ((onF D).a) ((onF D).b) ((onF D).c)),(b1,6,f3 P.a P.b P.c)] W) (fun _ vl _ _=>(intOf vl).toNat)
 case atStart=>exact ⟨1,hh,2,X0,by first | rfl | go_num,rfl,by first | rfl | go_num,HS0.out,HS.out⟩
 case round=>
  obtain ⟨n,l,q,X,rfl,rfl,rfl,hI,E⟩:=hrel
  clear HS HS0
  by_cases h0:X.a=1
  ·obtain rfl:=hI.done HC.out.neg H4.out HP.out HO.out h0
   have TX:=hidd (decide_eq_true h0)
   clear h0 hI
   go_upto_region 10 with (fail)
   refine rz [.w (f3 X.a X.b X.c),.t,.o] N3 [] E (fun hp=>⟨lS 0 6 hp (mq 0 rfl) zAd zw,zc hp zGw zi fun v w h=>zGz h TX.out,zo hp (sqi 1),tv⟩) ?_
   intro w9 E _ _
   simp only [Z1] at E ⊢
   go_upto_region 18 with (fail)
   refine rz [.i (n:Int),.i (n:Int),.i 0] N3 [] E (fun hp=>⟨zS,zS,zS,tv⟩) ?_
   intro w10 E _ _
   simp only [Z1] at E ⊢
   clear SP HP HC H4 HO HHB HOB TX
   clear BH
   go_wp2
   refine bodyPost_ret (v:=.tuple #[.int .i64 (n:Int),.int .i64 0]) ?_ rfl (by first | exact ⟨_,rfl,E.below,⟨_,_,rfl,rfl,rfl⟩⟩ | exact ⟨_,rfl,E.below⟩ | exact ⟨rfl,E.below⟩)
   simp [results,Tryz.results18,go_sem]
  ·have TX:=hidd (decide_eq_false h0)
   obtain ⟨q1,k1,m,hQ,hqq,hlk,hmq,hII⟩:=hI.step HC.out.neg H4.out HP.out HO.out h0
   have HGX:Hid (Gm D X):=by show Gm D X;rw [hI.x];exact zA3 HC.out.neg H4.out HP.out _
   have HLB:=hidd hI.lh
   have HL0:=hidd hI.l0
   have HQ:=hidd hQ
   have HLK:=hidd hlk
   have HMQ:=hidd hmq
   have HQQ:Hid (2≤q∧(q=2∨q % 2=1)∧q≤q1):=⟨hI.q2,hI.qo,hqq⟩
   obtain ⟨Y,hY⟩:∃ Y,Y=pwF D P (n*m):=⟨_,rfl⟩
   rw [← hY] at hII
   have HY:Hid (pzF D X (m:Int)=Y):=by show _=_;rw [zGi,hI.x,← zIg HC.out.neg H4.out HP.out,hY]
   have HI2:=hidd hII
   have HL9:Hid ((l:Int)≤9223372036854775807):=by have:=HLB.out;have:=HHB.out;show _≤_;omega
   have RQ1:=hidd (zH2 HQ.out.ql HL9.out)
   have BQ1:=hidd (ab_to HQ.out.ql HL9.out)
   have RM:=hidd (zH2 (Nat.le_of_lt HQ.out.ml) HL9.out)
   have BM:=hidd (ab_to (Nat.le_of_lt HQ.out.ml) HL9.out)
   clear h0 hI hQ hqq hlk hmq hII hY
   go_upto_region 10 with (fail)
   refine rz [.w (f3 X.a X.b X.c),.o,.t] N3 [] E (fun hp=>⟨lS 0 6 hp (mq 0 rfl) zAd zw,zc hp zGw zi fun v w h=>zGz h TX.out,zo hp (sqi 1),tv⟩) ?_
   intro w11 E _ _
   simp only [Z1] at E ⊢
   go_upto_region 11 with (fail)
   refine rz [.i (l:Int),.i (q:Int),.i (q1:Int),.i (q1:Int)] N3 [] E (fun hp=>⟨zS,zFd 3 3 hp fo tv rfl rfl rfl rfl (fun _=>rfl),wXb (Fq.is (.int .i64 (l:Int))) (Fq.is (.int .i64 (q:Int))) hp zLh (sqi 0) (sqi 1) fun v v' w h h'=>(by subst h h';exact zLo w HQ.out.le HL0.out HL9.out HQQ.out.1 HQQ.out.2.1 HQQ.out.2.2),zS,tv⟩) ?_
   intro w12 E _ _
   simp only [Z1] at E ⊢
   go_upto_region 12 with (fail)
   refine rz [.i (l:Int),.i (q1:Int),.i (m:Int),.i (m:Int)] N3 [] E (fun hp=>⟨zFd 3 3 hp fo tv rfl rfl rfl rfl (fun _=>rfl),zS,wXb (Fq.is (.int .i64 (l:Int))) (Fq.is (.int .i64 (q1:Int))) hp zTn (sqi 0) (sqi 1) fun v v' w h h'=>(by subst h h';exact zUi w HQ.out.le.1 HQ.out.m0 HMQ.out HLK.out HL9.out),zS,tv⟩) ?_
   intro w13 E _ _
   simp only [Z1] at E ⊢
   go_upto_region 13 with (fail)
   refine rz [.i (q1:Int),.n (q1:Int),.k,.a] N3 [⟨2,3,2,Fq.num 0,Fq.num (q1:Int),none⟩] E (fun hp=>⟨zS,wXa (Fq.is (.int .i64 (q1:Int))) hp zBv (sqi 0) fun v w h=>(by subst h;exact OfK w (q1:Int) RQ1.out.1 RQ1.out.2),aN hp (mq 0 rfl),sN 1 hp (mq 0 rfl),tv⟩) ?_
   intro w14 b14_2 E _ _
   simp only [Z1] at E ⊢
   go_upto_region 14 with (fail)
   refine rz [.u (cloV 107 b4_1),.w (f3 X.a X.b X.c),.i (m:Int),.n (m:Int),.w (f3 Y.a Y.b Y.c),.k,.a] N4 [⟨5,6,6,f3 0 0 0,f3 Y.a Y.b Y.c,none⟩] E (fun hp=>⟨zS,lS 0 6 hp (mq 1 rfl) zAd zw,zS,wXa (Fq.is (.int .i64 (m:Int))) hp zBv (sqi 2) fun v w h=>(by subst h;exact OfK w (m:Int) RM.out.1 RM.out.2),zIj (F:=(f3 X.a X.b X.c).P) (G:=(Fq.num (m:Int)).P) hp fo tv (zGx) (mq 2 rfl) rfl (sqi 0) (sqi 1) (sqi 3) (fun v v' w h h' hb=>(by have hh9:=zG0 hb h h' HC.out HGX.out.1 (HC.out.sm _ HGX.out) (Int.lt_of_lt_of_le BM.out (zAa zm));rw [HY.out] at hh9;exact hh9)),aS hp (mq 0 rfl) zAu zB0,sS 4 hp (mq 0 rfl) zAo,tv⟩) ?_
   intro w15 b15_5 E _ _
   simp only [Z1] at E ⊢
   clear TX HY HLK HMQ HQQ RM HGX HL0
   have HS:=hidd E
   go_upto_region 15 with (fail)
   go_loopw [8] (fun vn W=>∃ (n1 j:Nat) (X1 Y1:F3),vn=.int .i64 (n1:Int)∧II D P o m q1 n1 j X1 Y1∧Fr w [(b15_5,6,f3 Y1.a Y1.b Y1.c),(b14_2,2,Fq.num (q1:Int)),(b7_2,6,f3 X1.a X1.b X1.c),(b4_1,6,f3 ((onF D).a) ((onF D).b) ((onF D).c)),(b1,6,f3 P.a P.b P.c)] W) (fun vn _=>o-(intOf vn).toNat)
   case atStart=>exact ⟨n,k1,X,Y,rfl,HI2.out,HS.out⟩
   case round=>
    obtain ⟨n1,j,X1,Y1,rfl,hI,E⟩:=hrel
    clear HS HI2
    by_cases h1:Y1.a=1
    ·have hD:=hI.done HC.out.neg H4.out HP.out HO.out HLB.out HQ.out h1
     have HD:=hidd hD
     have TY:=hidd (decide_eq_true h1)
     clear hI hD h1
     go_upto_region 15 with (fail)
     refine rz [.w (f3 Y1.a Y1.b Y1.c),.t,.o] N5 [] E (fun hp=>⟨lS 0 6 hp (mq 0 rfl) zAd zw,zc hp zGw zi fun v w h=>zGz h TY.out,zo hp (sqi 1),tv⟩) ?_
     intro w16 E _ _
     simp only [Z1] at E ⊢
     go_wp2
     go_roundw
     case rel=>exact ⟨n1,m,q1,X1,rfl,rfl,rfl,HD.out,E.drop.drop⟩
     case measure=>exact meas_y HQ.out.ml
    ·have TY:=hidd (decide_eq_false h1)
     obtain ⟨hno,hnn,i,hJ⟩:=hI.step HC.out.neg H4.out HP.out HO.out HQ.out.le h1
     have HGX1:Hid (Gm D X1):=by show Gm D X1;rw [hI.x];exact zA3 HC.out.neg H4.out HP.out _
     have HGY1:Hid (Gm D Y1):=by show Gm D Y1;rw [hI.y];exact zA3 HC.out.neg H4.out HP.out _
     obtain ⟨X2,hX2⟩:∃ X,X=pwF D X1 q1:=⟨_,rfl⟩
     obtain ⟨Y2,hY2⟩:∃ X,X=pwF D Y1 q1:=⟨_,rfl⟩
     obtain ⟨n2,hn2⟩:∃ n2,n2=n1*q1:=⟨_,rfl⟩
     rw [← hX2,← hY2,← hn2] at hJ
     rw [← hn2] at hno hnn
     have HX2:Hid (pzF D X1 (q1:Int)=X2):=by show _=_;rw [zGi,hX2]
     have HY2:Hid (pzF D Y1 (q1:Int)=Y2):=by show _=_;rw [zGi,hY2]
     have TN:=hidd (mul_to hn2 hno HOB.out)
     have HNN:Hid (n2≤o∧n1<n2):=⟨hno,hnn⟩
     have HJ:=hidd hJ
     clear hI h1 hno hnn hJ hX2 hY2 hn2
     go_upto_region 15 with (fail)
     refine rz [.w (f3 Y1.a Y1.b Y1.c),.o,.t] N5 [] E (fun hp=>⟨lS 0 6 hp (mq 0 rfl) zAd zw,zc hp zGw zi fun v w h=>zGz h TY.out,zo hp (sqi 1),tv⟩) ?_
     intro w17 E _ _
     simp only [Z1] at E ⊢
     go_upto_region 16 with (fail)
     refine rz [.u (cloV 107 b4_1),.w (f3 X1.a X1.b X1.c),.n (q1:Int),.w (f3 X2.a X2.b X2.c),.u (cloV 107 b4_1),.w (f3 Y1.a Y1.b Y1.c),.n (q1:Int),.w (f3 Y2.a Y2.b Y2.c),.a,.a] [some (9,f3 Y2.a Y2.b Y2.c),none,some (8,f3 X2.a X2.b X2.c),none,none] [] E (fun hp=>⟨zS,zCu (off:=0) (l:=6) hp fo tv (mq 2 rfl) (.inr rfl) rfl zAd rfl (sqo 10) (fun v w h=>h),lI 0 hp (mq 1 rfl) zw,zIj (F:=(f3 X1.a X1.b X1.c).P) (G:=(Fq.num (q1:Int)).P) hp fo tv (zGx) (mq 3 rfl) rfl (sqi 0) (sqi 1) (sqi 2) (fun v v' w h h' hb=>(by have hh9:=zG0 hb h h' HC.out HGX1.out.1 (HC.out.sm _ HGX1.out) (Int.lt_of_lt_of_le BQ1.out (zAa zm));rw [HX2.out] at hh9;exact hh9)),zS,zCu (off:=0) (l:=6) hp fo tv (mq 0 rfl) (.inr rfl) rfl zAd rfl (sqo 13) (fun v w h=>h),lI 0 hp (mq 1 rfl) zw,zIj (F:=(f3 Y1.a Y1.b Y1.c).P) (G:=(Fq.num (q1:Int)).P) hp fo tv (zGx) (mq 3 rfl) rfl (sqi 4) (sqi 5) (sqi 6) (fun v v' w h h' hb=>(by have hh9:=zG0 hb h h' HC.out HGY1.out.1 (HC.out.sm _ HGY1.out) (Int.lt_of_lt_of_le BQ1.out (zAa zm));rw [HY2.out] at hh9;exact hh9)),sO 0 3 hp (mq 2 rfl) zAo zw,sO 0 7 hp (mq 0 rfl) zAo zw,tv⟩) ?_
     intro w18 E _ _
     simp only [Z1] at E ⊢
     go_upto_region 17 with (fail)
     refine rz [.i (n1:Int),.i (q1:Int),.i (n2:Int),.i (n2:Int)] N5 [] E (fun hp=>⟨zFd 3 3 hp fo tv rfl rfl rfl rfl (fun _=>rfl),zS,zT hp (sqi 0) (sqi 1) TN.out,zS,tv⟩) ?_
     intro w19 E _ _
     simp only [Z1] at E ⊢
     go_wp2
     go_roundw
     case rel=>exact ⟨n2,i,X2,Y2,rfl,HJ.out,E⟩
     case measure=>exact meas_o HNN.out.1 HNN.out.2

theorem ld_ints {us:List Value} {w:World} {zs:List Int} {i:Nat} {z:Int} (hz:zs[i]?=some z) (h:(Fq.ints zs).P (.agg us.toArray) w):Num w (.agg #[us.getD (i*2) undef,us.getD (i*2+1) undef]) z:=by
 obtain ⟨us2,e,_,h⟩:=h
 injection e with e
 have e2:=congrArg Array.toList e
 simp at e2
 subst e2
 obtain ⟨n,ao,k,c,g1,g2,g3⟩:=h i z hz
 rw [g1,g2]
 exact g3
theorem off_i {i:Nat} (h:i<2):i*2+2≤4:=by omega
section
variable {os : List Oper} {Q : Exit → Act → World → Prop} {a : Act} {p : Pq} {B B0 : Nat} {w0 : World}
variable {i s : Nat} {d : Option Tmp} {ty : TypeId} {ps : String} {af : Array Edge} {gd : Option (Nat × Bool)}
theorem q_lenNew {n0:Nb} {x:Operand} {l:Nat} (hp:p.Ok B B0) (hF:p.Free i) (hg:GdQ os a p B B0 w0 af gd) (hi:n0∈p.new) (hsl:n0.s=some (.sl l))
  (hf:∀ L vs w,p.G B B0 w0 L vs w→(∀ e∈af,Region.binds .any e=true→L e.on=true)→L n0.i=true∧(lay os.toArray L vs os.toArray.size a).eval x=vs n0.i)
  (hC:∀ w,(p.c i).P (.int .i64 (l:Int)) w) :
  zAg os Q a p B B0 w0 i { dst:=d,op:=.call { callee:=.builtin .len,args:=#[x],argTypes:=#[86] },type:=ty,pos:=ps,after:=af,guard:=gd }:=by
 refine zBg hp hF hg fun L vs w hG hL hc hd=>?_
 obtain ⟨hLi,hye⟩:=hf L vs w hG hd
 obtain ⟨b,e1,_,_⟩:=hG.new _ hi hLi
 have hptr:n0.ptr b=.slice (some ⟨b,0,none⟩) l l:=by unfold Nb.ptr;rw [hsl]
 rw [e1,hptr] at hye
 refine ⟨.int .i64 l,?_,hC w⟩
 generalize (lay os.toArray L vs os.toArray.size a).eval=ρ at hye
 simp [go_sem,hye]
end
def ovB (d p r:Int):Bool:=decide ((((r*r)-d) % (4*p))=0) || decide (((((p-r)*(p-r))-d) % (4*p))=0)
def ovF (d p r:Int):F3:=if (((r*r)-d) % (4*p))=0 then ⟨p,r,(((r*r)-d)/(4*p))⟩ else if ((((p-r)*(p-r))-d) % (4*p))=0 then ⟨p,p-r,((((p-r)*(p-r))-d)/(4*p))⟩ else ⟨0,0,0⟩
theorem zT7 {w:World} {v v':Value} {d p z e:Int} (h:Num w v d) (h':Num w v' p) (hd:ab d<pw 3) (hp:ab p<pw 3) (he:¬ e=0) (hS:∀ (w1:World) (x x':Value),Below w.heap.size w w1→Num w1 x d→Num w1 x' p→Calls Tryz.prog 150 #[x,x'] w1 fun e' w'=>∃ v',e'=.returned v'∧Below w1.heap.size w1 w'∧(Fq.tup2 (Fq.num z) (Fq.is (.int .i64 e))).P v' w') :
  Rt 129 #[v,v'] w fun v' w'=>(Fq.tup2 (f3 0 0 0) (Fq.is (.bool false))).P v' w':=by
 replace hd:=hidd hd
 replace hp:=hidd hp
 have HS0:=hidd hS
 clear hS
 have HN:=hidd he
 clear he
 obtain ⟨n0,ao0,k0,c0,rfl⟩:=h.parts
 obtain ⟨n1,ao1,k1,c1,rfl⟩:=h'.parts
 obtain ⟨w1,b1,hw1,hb1,hs1,E⟩:=gN w 36 h
 obtain ⟨w2,b2,hw2,hb2,hs2,E⟩:=fN E hs1 36 h'
 obtain ⟨w3,b3,hw3,hb3,hs3,E⟩:=fO E hs2 38 zAu
 go_enter Tryz.func129,Tryz.ntmps129
 go_upto_region 1 with (fail)
 rw [← hw1,← hw2]
 rw [← hw3,← hb3]
 rw [← hb2,← hb1]
 clear hw1 hw2 hw3 hb1 hb2 hb3 hs3 hs1 hs2
 refine rz [.n d,.n p,.w (Fq.tup2 (Fq.num z) (Fq.is (.int .i64 e))),.w (Fq.tup2 (Fq.num z) (Fq.is (.int .i64 e))),.n z,.i e,.k,.a,.i e] N3 [⟨6,7,2,Fq.num 0,Fq.num z,none⟩] E (fun hp=>⟨lI 0 hp (mq 2 rfl) zw,lI 0 hp (mq 1 rfl) zw,zDz (F:=(Fq.num d).P) (G:=(Fq.num p).P) hp fo tv (zOg) rfl (sqi 0) (sqi 1) (fun v v' w hbw h h'=>HS0.out _ _ _ hbw h h'),zS,zS,zS,aN hp (mq 0 rfl),sN 4 hp (mq 0 rfl),zS,tv⟩) ?_
 intro w4 b4_6 E _ _
 simp only [Z1] at E ⊢
 go_upto_region 2 with (fail)
 refine rz [.i e,.t] N4 [] E (fun hp=>⟨zS,zO hp (sqi 0) HN.out,tv⟩) ?_
 intro w5 E _ _
 simp only [Z1] at E ⊢
 go_upto_region 3 with (fail)
 refine rz [.w (f3 0 0 0),.a,.o] [none,some (1,f3 0 0 0),none,none] [] E (fun hp=>⟨zFn hp fo tv (fun v w h=>h),sO 0 0 hp (mq 1 rfl) zAo zw,zS,tv⟩) ?_
 intro w6 E _ _
 simp only [Z1] at E ⊢
 clear HN HS0
 obtain ⟨_,_,hccr,hffr⟩:=zAy (E.box 1 rfl)
 have hPr:=hffr
 obtain ⟨r_p0,r_q0,_,rfl,_r_n0,r_p1,r_q1,_,rfl,_r_n1,r_p2,r_q2,_,rfl,_r_n2,rfl⟩:=hffr
 have crz:=c6 hccr
 simp only [List.getD_cons_zero,List.getD_cons_succ] at crz
 clear hccr
 clear hd hp
 go_wp2
 exact zR (v:=.tuple #[.agg #[r_p0,r_q0,r_p1,r_q1,r_p2,r_q2],.bool false]) (by simp [results,Tryz.results129,go_sem,crz]) E.below ⟨_,_,rfl,⟨_,rfl,hPr⟩,rfl⟩

theorem zT8 {w:World} {v v':Value} {d p r:Int} (h:Num w v d) (h':Num w v' p) (hd:ab d<pw 3) (hp:ab p<pw 3) (hr:ab r<pw 3) (hp0:0<p) (hS:∀ (w1:World) (x x':Value),Below w.heap.size w w1→Num w1 x d→Num w1 x' p→Calls Tryz.prog 150 #[x,x'] w1 fun e' w'=>∃ v',e'=.returned v'∧Below w1.heap.size w1 w'∧(Fq.tup2 (Fq.num r) (Fq.is (.int .i64 0))).P v' w') :
  Rt 129 #[v,v'] w fun v' w'=>(Fq.tup2 (Fq.st [.n (ovF d p r).a,.n (ovF d p r).b,.n (ovF d p r).c]) (Fq.is (.bool (ovB d p r)))).P v' w':=by
 replace hd:=hidd hd
 replace hp:=hidd hp
 have HS0:=hidd hS
 clear hS
 replace hr:=hidd hr
 have HP0:=hidd hp0
 have B4:Hid (ab (4:Int)<pw 3):=zAs zd zd
 have HM0:Hid (4*p≠0):=by show _≠_;omega
 have HI:Hid ((0:Nat)<2):=by show _<_;decide
 have HI1:Hid ((1:Nat)<2):=by show _<_;decide
 clear hp0
 obtain ⟨n0,ao0,k0,c0,rfl⟩:=h.parts
 obtain ⟨n1,ao1,k1,c1,rfl⟩:=h'.parts
 obtain ⟨w1,b1,hw1,hb1,hs1,E⟩:=gN w 36 h
 obtain ⟨w2,b2,hw2,hb2,hs2,E⟩:=fN E hs1 36 h'
 obtain ⟨w3,b3,hw3,hb3,hs3,E⟩:=fO E hs2 38 zAu
 go_enter Tryz.func129,Tryz.ntmps129
 go_upto_region 1 with (fail)
 rw [← hw1,← hw2]
 rw [← hw3,← hb3]
 rw [← hb2,← hb1]
 clear hw1 hw2 hw3 hb1 hb2 hb3 hs3 hs1 hs2
 refine rz [.n d,.n p,.w (Fq.tup2 (Fq.num r) (Fq.is (.int .i64 0))),.w (Fq.tup2 (Fq.num r) (Fq.is (.int .i64 0))),.n r,.i 0,.k,.a,.i 0] N3 [⟨6,7,2,Fq.num 0,Fq.num r,none⟩] E (fun hp=>⟨lI 0 hp (mq 2 rfl) zw,lI 0 hp (mq 1 rfl) zw,zDz (F:=(Fq.num d).P) (G:=(Fq.num p).P) hp fo tv (zOg) rfl (sqi 0) (sqi 1) (fun v v' w hbw h h'=>HS0.out _ _ _ hbw h h'),zS,zS,zS,aN hp (mq 0 rfl),sN 4 hp (mq 0 rfl),zS,tv⟩) ?_
 intro w4 b4_6 E _ _
 simp only [Z1] at E ⊢
 go_upto_region 2 with (fail)
 refine rz [.i 0,.o] N4 [] E (fun hp=>⟨zS,zo hp (sqi 0),tv⟩) ?_
 intro w5 E _ _
 simp only [Z1] at E ⊢
 go_upto_region 4 with (fail)
 have B6:Hid (ab ((4*p))<pw 6):=zAm B4.out hp.out zm
 refine rz [.n 4,.n p,.n (4*p),.k,.a] N4 [⟨3,4,2,Fq.num 0,Fq.num (4*p),none⟩] E (fun hp=>⟨zBn (F:=(Fq.is (.int .i64 4)).P) hp fo tv (zBv) (zAk (fun _=>rfl)) (fun v w h=>(by subst h;exact OfK w 4 zm zm)),lI 0 hp (mq 2 rfl) zw,zC hp zBh zi zi fun v v' w h h'=>exK (MulV h h') B6.out zm,aN hp (mq 0 rfl),sN 2 hp (mq 0 rfl),tv⟩) ?_
 intro w7 b7_3 E _ _
 simp only [Z1] at E ⊢
 go_upto_region 5 with (fail)
 have B8:Hid (ab ((p-r))<pw 4):=zCm hp.out hr.out zm zm
 refine rz [.n r,.n p,.n r,.n (p-r),.k,.i ((2:Nat):Int),.i 0] N5 [⟨4,4,4,Fq.ints [r,(p-r)],Fq.ints [r,(p-r)],(some 2)⟩] E (fun hp=>⟨lI 0 hp (mq 1 rfl) zw,lI 0 hp (mq 3 rfl) zw,lI 0 hp (mq 1 rfl) zw,zC hp zF4 zi zi fun v v' w h h'=>exK (SubV h h') B8.out zm,zWr hp trivial (mq 0 rfl) rfl rfl rfl rfl rfl (sqi 0) (sqi 3) (fun _ _=>trivial) (zCr rfl) (zDx rfl),q_lenNew hp fo tv (mq 0 rfl) rfl (zEr rfl rfl (by simp) rfl) (fun _=>rfl),zAj hp fo tv (zAk (fun _=>rfl)),tv⟩) ?_
 intro w9 b9_4 E _ _
 simp only [Z1] at E ⊢
 clear HS0
 have HS:=hidd E
 go_upto_region 6 with (fail)
 go_loopw [32] (fun vi W=>∃ i:Nat,vi=.int .i64 (i:Int)∧(i=0∨i=1∧¬ (((r*r)-d) % (4*p))=0∨i=2∧¬ (((r*r)-d) % (4*p))=0∧¬ ((((p-r)*(p-r))-d) % (4*p))=0)∧Fr w [(b9_4,4,Fq.ints [r,(p-r)]),(b7_3,2,Fq.num (4*p)),(b4_6,2,Fq.num r),(b3,6,f3 0 0 0),(b2,2,Fq.num p),(b1,2,Fq.num d)] W) (fun vi _=>2-(intOf vi).toNat)
 case atStart=>exact ⟨0,rfl,.inl rfl,HS.out⟩
 case round=>
  obtain ⟨i,rfl,hi,E⟩:=hrel
  clear HS
  rcases hi with rfl | ⟨rfl,k1⟩ | ⟨rfl,k1,k2⟩
  ·have HQI:Hid (([r,(p-r)]:List Int)[0]?=some r):=rfl
   go_upto_region 6 with (fail)
   refine rz [.t] N6 [] E (fun hp=>⟨zt hp (sqo 32) (sqo 31),tv⟩) ?_
   intro w10 E _ _
   simp only [Z1] at E ⊢
   go_upto_region 7 with (fail)
   refine rz [.u (.pointer (some ⟨b9_4,0*2,none⟩)),.n r,.k,.a] N6 [⟨2,3,2,Fq.num 0,Fq.num r,none⟩] E (fun hp=>⟨zRh (b:=b9_4) (l:=2) (c:=2) (k:=0) hp fo tv (sqo 30) (sqo 32) zd (fun _=>rfl),zAx (off:=0*2) hp fo tv (mq 0 rfl) (.inl rfl) (off_i HI.out) (sqi 0) (fun us w hl h=>ld_ints HQI.out h),aN hp (mq 0 rfl),sN 1 hp (mq 0 rfl),tv⟩) ?_
   intro w11 b11_2 E _ _
   simp only [Z1] at E ⊢
   clear HQI
   go_upto_region 8 with (fail)
   have B12:Hid (ab ((r*r))<pw 6):=zAm hr.out hr.out zm
   have B13:Hid (ab (((r*r)-d))<pw 7):=zCm B12.out hd.out zm zm
   have B14:Hid (ab ((((r*r)-d)/(4*p)))<pw 8):=zDp B13.out zm
   have B15:Hid (ab ((((r*r)-d) % (4*p)))<pw 6):=zB4 HM0.out B6.out
   refine rz [.n r,.n r,.n (r*r),.n d,.n ((r*r)-d),.n (4*p),.w (Fq.tup3 (Fq.num (((r*r)-d)/(4*p))) (Fq.num (((r*r)-d) % (4*p))) (Fq.is (.int .i64 0))),.w (Fq.tup3 (Fq.num (((r*r)-d)/(4*p))) (Fq.num (((r*r)-d) % (4*p))) (Fq.is (.int .i64 0))),.n (((r*r)-d)/(4*p)),.n (((r*r)-d) % (4*p)),.i 0,.k,.k,.a,.a,.i 0] N7 [⟨11,13,2,Fq.num 0,Fq.num (((r*r)-d)/(4*p)),none⟩,⟨12,14,2,Fq.num 0,Fq.num (((r*r)-d) % (4*p)),none⟩] E (fun hp=>⟨lI 0 hp (mq 0 rfl) zw,lI 0 hp (mq 0 rfl) zw,zC hp zBh zi zi fun v v' w h h'=>exK (MulV h h') B12.out zm,lI 0 hp (mq 6 rfl) zw,zC hp zF4 zi zi fun v v' w h h'=>exK (SubV h h') B13.out zm,lI 0 hp (mq 2 rfl) zw,zC hp zE7 zi zi fun v v' w h h'=>zE8 h h' HM0.out B14.out B15.out zm zm,zS,zS,zS,zS,aN hp (mq 0 rfl),aN hp (mq 1 rfl),sN 8 hp (mq 0 rfl),sN 9 hp (mq 1 rfl),zS,tv⟩) ?_
   intro w16 b16_11 b16_12 E _ _
   simp only [Z1] at E ⊢
   by_cases kk:(((r*r)-d) % (4*p))=0
   ·have e1:ovB d p r=true∧ovF d p r=⟨p,r,(((r*r)-d)/(4*p))⟩:=⟨by unfold ovB;rw [decide_eq_true kk];rfl,by unfold ovF;rw [if_pos kk]⟩
    have HE1:=hidd e1
    have T1:Hid (cmpI (((r*r)-d) % (4*p)) 0=0):=cmpIq0.2 kk
    clear e1 kk
    go_upto_region 9 with (fail)
    refine rz [.n (((r*r)-d) % (4*p)),.i (cmpI (((r*r)-d) % (4*p)) 0),.t] N9 [] E (fun hp=>⟨lI 0 hp (mq 1 rfl) zw,zc hp zAz zi fun v w h=>zA0 h,zO hp (sqi 1) T1.out,tv⟩) ?_
    intro w17 E _ _
    simp only [Z1] at E ⊢
    go_upto_region 10 with (fail)
    refine rz [.n p,.n r,.n (((r*r)-d)/(4*p)),.w (f3 p r (((r*r)-d)/(4*p))),.a,.t] [none,none,none,none,none,none,some (4,f3 p r (((r*r)-d)/(4*p))),none,none] [] E (fun hp=>⟨lI 0 hp (mq 7 rfl) zw,lI 0 hp (mq 2 rfl) zw,lI 0 hp (mq 0 rfl) zw,zFo (z0:=p) (z1:=r) (z2:=(((r*r)-d)/(4*p))) hp fo tv (sqi 0) (sqi 1) (sqi 2) (fun v w h=>h),sO 0 3 hp (mq 6 rfl) zAo zw,zS,tv⟩) ?_
    intro w18 E _ _
    simp only [Z1] at E ⊢
    have e1:=HE1.out
    clear HE1 T1 HI HP0 HM0 HI1
    obtain ⟨_,_,hccr,hffr⟩:=zAy (E.box 6 rfl)
    have hPr:=hffr
    obtain ⟨r_p0,r_q0,_,rfl,_r_n0,r_p1,r_q1,_,rfl,_r_n1,r_p2,r_q2,_,rfl,_r_n2,rfl⟩:=hffr
    have crz:=c6 hccr
    simp only [List.getD_cons_zero,List.getD_cons_succ] at crz
    clear hccr
    clear B6 B8 B12 B13 B14 B15 hd hp hr B4
    go_wp2
    exact zR (v:=.tuple #[.agg #[r_p0,r_q0,r_p1,r_q1,r_p2,r_q2],.bool true]) (by simp [results,Tryz.results129,go_sem,crz]) E.below ⟨_,_,rfl,(by rw [e1.2];exact ⟨_,rfl,hPr⟩),congrArg Value.bool e1.1.symm⟩
   ·have T1:Hid (¬ cmpI (((r*r)-d) % (4*p)) 0=0):=fun e=>kk (cmpIq0.1 e)
    have KK:=hidd kk
    clear kk
    go_upto_region 9 with (fail)
    refine rz [.n (((r*r)-d) % (4*p)),.i (cmpI (((r*r)-d) % (4*p)) 0),.o] N9 [] E (fun hp=>⟨lI 0 hp (mq 1 rfl) zw,zc hp zAz zi fun v w h=>zA0 h,zO hp (sqi 1) T1.out,tv⟩) ?_
    intro w19 E _ _
    simp only [Z1] at E ⊢
    go_wp2
    go_roundw
    case rel=>exact ⟨1,by first | rfl | go_num,.inr (.inl ⟨rfl,KK.out⟩),E.drop.drop.drop⟩
    case measure=>first | decide | simp [intOf]
  ·have K1:=hidd k1
   clear k1
   have HQI:Hid (([r,(p-r)]:List Int)[1]?=some (p-r)):=rfl
   clear HI
   have HI:=HI1
   go_upto_region 6 with (fail)
   refine rz [.t] N6 [] E (fun hp=>⟨zt hp (sqo 32) (sqo 31),tv⟩) ?_
   intro w20 E _ _
   simp only [Z1] at E ⊢
   go_upto_region 7 with (fail)
   refine rz [.u (.pointer (some ⟨b9_4,1*2,none⟩)),.n (p-r),.k,.a] N6 [⟨2,3,2,Fq.num 0,Fq.num (p-r),none⟩] E (fun hp=>⟨zRh (b:=b9_4) (l:=2) (c:=2) (k:=1) hp fo tv (sqo 30) (sqo 32) zd (fun _=>rfl),zAx (off:=1*2) hp fo tv (mq 0 rfl) (.inl rfl) (off_i HI.out) (sqi 0) (fun us w hl h=>ld_ints HQI.out h),aN hp (mq 0 rfl),sN 1 hp (mq 0 rfl),tv⟩) ?_
   intro w21 b21_2 E _ _
   simp only [Z1] at E ⊢
   clear HQI
   go_upto_region 8 with (fail)
   have B22:Hid (ab (((p-r)*(p-r)))<pw 8):=zAm B8.out B8.out zm
   have B23:Hid (ab ((((p-r)*(p-r))-d))<pw 9):=zCm B22.out hd.out zm zm
   have B24:Hid (ab (((((p-r)*(p-r))-d)/(4*p)))<pw 10):=zDp B23.out zm
   have B25:Hid (ab (((((p-r)*(p-r))-d) % (4*p)))<pw 6):=zB4 HM0.out B6.out
   refine rz [.n (p-r),.n (p-r),.n ((p-r)*(p-r)),.n d,.n (((p-r)*(p-r))-d),.n (4*p),.w (Fq.tup3 (Fq.num ((((p-r)*(p-r))-d)/(4*p))) (Fq.num ((((p-r)*(p-r))-d) % (4*p))) (Fq.is (.int .i64 0))),.w (Fq.tup3 (Fq.num ((((p-r)*(p-r))-d)/(4*p))) (Fq.num ((((p-r)*(p-r))-d) % (4*p))) (Fq.is (.int .i64 0))),.n ((((p-r)*(p-r))-d)/(4*p)),.n ((((p-r)*(p-r))-d) % (4*p)),.i 0,.k,.k,.a,.a,.i 0] N7 [⟨11,13,2,Fq.num 0,Fq.num ((((p-r)*(p-r))-d)/(4*p)),none⟩,⟨12,14,2,Fq.num 0,Fq.num ((((p-r)*(p-r))-d) % (4*p)),none⟩] E (fun hp=>⟨lI 0 hp (mq 0 rfl) zw,lI 0 hp (mq 0 rfl) zw,zC hp zBh zi zi fun v v' w h h'=>exK (MulV h h') B22.out zm,lI 0 hp (mq 6 rfl) zw,zC hp zF4 zi zi fun v v' w h h'=>exK (SubV h h') B23.out zm,lI 0 hp (mq 2 rfl) zw,zC hp zE7 zi zi fun v v' w h h'=>zE8 h h' HM0.out B24.out B25.out zm zm,zS,zS,zS,zS,aN hp (mq 0 rfl),aN hp (mq 1 rfl),sN 8 hp (mq 0 rfl),sN 9 hp (mq 1 rfl),zS,tv⟩) ?_
   intro w26 b26_11 b26_12 E _ _
   simp only [Z1] at E ⊢
   by_cases kk:((((p-r)*(p-r))-d) % (4*p))=0
   ·have e1:ovB d p r=true∧ovF d p r=⟨p,p-r,((((p-r)*(p-r))-d)/(4*p))⟩:=⟨by unfold ovB;rw [decide_eq_true kk,Bool.or_true],by unfold ovF;rw [if_neg K1.out,if_pos kk]⟩
    have HE1:=hidd e1
    have T1:Hid (cmpI ((((p-r)*(p-r))-d) % (4*p)) 0=0):=cmpIq0.2 kk
    clear e1 kk
    go_upto_region 9 with (fail)
    refine rz [.n ((((p-r)*(p-r))-d) % (4*p)),.i (cmpI ((((p-r)*(p-r))-d) % (4*p)) 0),.t] N9 [] E (fun hp=>⟨lI 0 hp (mq 1 rfl) zw,zc hp zAz zi fun v w h=>zA0 h,zO hp (sqi 1) T1.out,tv⟩) ?_
    intro w27 E _ _
    simp only [Z1] at E ⊢
    go_upto_region 10 with (fail)
    refine rz [.n p,.n (p-r),.n ((((p-r)*(p-r))-d)/(4*p)),.w (Fq.st [.n p,.n (p-r),.n ((((p-r)*(p-r))-d)/(4*p))]),.a,.t] [none,none,none,none,none,none,some (4,Fq.st [.n p,.n (p-r),.n ((((p-r)*(p-r))-d)/(4*p))]),none,none] [] E (fun hp=>⟨lI 0 hp (mq 7 rfl) zw,lI 0 hp (mq 2 rfl) zw,lI 0 hp (mq 0 rfl) zw,zFo (z0:=p) (z1:=(p-r)) (z2:=((((p-r)*(p-r))-d)/(4*p))) hp fo tv (sqi 0) (sqi 1) (sqi 2) (fun v w h=>h),sO 0 3 hp (mq 6 rfl) zAo zw,zS,tv⟩) ?_
    intro w28 E _ _
    simp only [Z1] at E ⊢
    have e1:=HE1.out
    clear HE1 T1 HI HP0 HM0 K1
    obtain ⟨_,_,hccr,hffr⟩:=zAy (E.box 6 rfl)
    have hPr:=hffr
    obtain ⟨r_p0,r_q0,_,rfl,_r_n0,r_p1,r_q1,_,rfl,_r_n1,r_p2,r_q2,_,rfl,_r_n2,rfl⟩:=hffr
    have crz:=c6 hccr
    simp only [List.getD_cons_zero,List.getD_cons_succ] at crz
    clear hccr
    clear B6 B8 B22 B23 B24 B25 hd hp hr B4
    go_wp2
    exact zR (v:=.tuple #[.agg #[r_p0,r_q0,r_p1,r_q1,r_p2,r_q2],.bool true]) (by simp [results,Tryz.results129,go_sem,crz]) E.below ⟨_,_,rfl,(by rw [e1.2];exact ⟨_,rfl,hPr⟩),congrArg Value.bool e1.1.symm⟩
   ·have T1:Hid (¬ cmpI ((((p-r)*(p-r))-d) % (4*p)) 0=0):=fun e=>kk (cmpIq0.1 e)
    have KK:=hidd kk
    clear kk
    go_upto_region 9 with (fail)
    refine rz [.n ((((p-r)*(p-r))-d) % (4*p)),.i (cmpI ((((p-r)*(p-r))-d) % (4*p)) 0),.o] N9 [] E (fun hp=>⟨lI 0 hp (mq 1 rfl) zw,zc hp zAz zi fun v w h=>zA0 h,zO hp (sqi 1) T1.out,tv⟩) ?_
    intro w29 E _ _
    simp only [Z1] at E ⊢
    go_wp2
    go_roundw
    case rel=>exact ⟨2,by first | rfl | go_num,.inr (.inr ⟨rfl,K1.out,KK.out⟩),E.drop.drop.drop⟩
    case measure=>first | decide | simp [intOf]
  ·have e1:ovB d p r=false∧ovF d p r=⟨0,0,0⟩:=⟨by unfold ovB;rw [decide_eq_false k1,decide_eq_false k2];rfl,by unfold ovF;rw [if_neg k1,if_neg k2]⟩
   have HE1:=hidd e1
   clear e1 k1 k2
   go_upto_region 6 with (fail)
   refine rz [.o] N6 [] E (fun hp=>⟨zt hp (sqo 32) (sqo 31),tv⟩) ?_
   intro w30 E _ _
   simp only [Z1] at E ⊢
   go_upto_region 12 with (fail)
   refine rz [.w (f3 0 0 0),.a,.o] [none,none,none,some (1,f3 0 0 0),none,none] [] E (fun hp=>⟨zFn hp fo tv (fun v w h=>h),sO 0 0 hp (mq 3 rfl) zAo zw,zS,tv⟩) ?_
   intro w31 E _ _
   simp only [Z1] at E ⊢
   have e1:=HE1.out
   clear HE1 HI HI1 HP0 HM0
   obtain ⟨_,_,hccr,hffr⟩:=zAy (E.box 3 rfl)
   have hPr:=hffr
   obtain ⟨r_p0,r_q0,_,rfl,_r_n0,r_p1,r_q1,_,rfl,_r_n1,r_p2,r_q2,_,rfl,_r_n2,rfl⟩:=hffr
   have crz:=c6 hccr
   simp only [List.getD_cons_zero,List.getD_cons_succ] at crz
   clear hccr
   clear B6 B8 hd hp hr B4
   go_wp2
   exact zR (v:=.tuple #[.agg #[r_p0,r_q0,r_p1,r_q1,r_p2,r_q2],.bool false]) (by simp [results,Tryz.results129,go_sem,crz]) E.below ⟨_,_,rfl,(by rw [e1.2];exact ⟨_,rfl,hPr⟩),congrArg Value.bool e1.1.symm⟩

theorem zUc {w:World} {v:Value} {d:Int} (h:Num w v d) (hd:ab d<pw 3) (hd0:d<0) (h4:d % 4=0∨d % 4=1){pp:Nat} (hp2:2≤pp) (hp20:pp<1048576) (hl:Least pp pp) {F:F3} (hO:∀ (w1:World) (x x':Value),Below w.heap.size w w1→Num w1 x d→Num w1 x' (pp:Int)→Calls Tryz.prog 129 #[x,x'] w1 fun e' w'=>∃ v',e'=.returned v'∧Below w1.heap.size w1 w'∧(Fq.tup2 (f3 F.a F.b F.c) (Fq.is (.bool false))).P v' w') :
  Rt 93 #[v,.int .i64 (pp:Int)] w fun v' w'=>(Fq.tup2 (f3 0 0 0) (Fq.is (.int .i64 6))).P v' w':=by
 replace hd:=hidd hd
 have HD0:=hidd hd0
 have H4:=hidd h4
 have TP:Hid (¬ 0<cmpI d 0):=fun e=>by have:=cmpIqgt.1 e;have:=HD0.out;omega
 clear hd0 h4
 have T2:Hid (¬ (pp:Int)<2):=by show ¬ _;omega
 have T3:Hid (¬ 1048576≤(pp:Int)):=by show ¬ _;omega
 have HL:=hidd hl
 have HP1:Hid (0<pp∧(pp:Int)≤9223372036854775807):=⟨by omega,by omega⟩
 have HQ2:=hidd hl.1
 have T4:Hid (¬ (pp:Int)<(pp:Int)):=by show ¬ _;omega
 clear hl hp2 hp20
 have RP:Hid (-9223372036854775808≤(pp:Int)∧(pp:Int)≤9223372036854775807):=by have:=HP1.out;show _∧_;omega
 have BP:Hid (ab (pp:Int)<pw 3):=zAs RP.out.1 RP.out.2
 have HO:=hidd hO
 clear hO
 obtain ⟨n0,ao0,k0,c0,rfl⟩:=h.parts
 obtain ⟨w1,b1,hw1,hb1,hs1,E⟩:=gN w 36 h
 obtain ⟨w2,b2,hw2,hb2,hs2,E⟩:=fO E hs1 38 zAu
 go_enter Tryz.func93,Tryz.ntmps93
 go_upto_region 1 with (fail)
 rw [← hw1,← hw2]
 rw [← hb2,← hb1]
 clear hw1 hw2 hb1 hb2 hs2 hs1
 refine rz [.n d,.w (Fq.tup2 (f3 ((onF d).a) ((onF d).b) ((onF d).c)) (Fq.is (.int .i64 0))),.w (Fq.tup2 (f3 ((onF d).a) ((onF d).b) ((onF d).c)) (Fq.is (.int .i64 0))),.w (f3 ((onF d).a) ((onF d).b) ((onF d).c)),.i 0,.k,.a,.i 0] N2 [⟨5,6,6,f3 0 0 0,f3 ((onF d).a) ((onF d).b) ((onF d).c),none⟩] E (fun hp=>⟨lI 0 hp (mq 1 rfl) zw,zc hp zJm zi fun v w h=>zJt h (Int.lt_of_lt_of_le hd.out (zAa zm)) HD0.out H4.out,zS,zS,zS,aS hp (mq 0 rfl) zAu zB0,sS 3 hp (mq 0 rfl) zAo,zS,tv⟩) ?_
 intro w3 b3_5 E _ _
 simp only [Z1] at E ⊢
 go_upto_region 2 with (fail)
 refine rz [.i 0,.o,.o,.n d,.i (cmpI d 0),.o,.o] N3 [] E (fun hp=>⟨zS,zo hp (sqi 0),zS,zAx (off:=0) hp fo gqi (mq 2 rfl) (.inl rfl) (Nat.le_of_ble_eq_true rfl) (sqo 2) (fun us w hl h=>zAw hl h),zc hp zAz zi (fun v w h=>zA0 h),zO hp (sqi 4) TP.out,zt hp (sqi 2) (sqi 5),tv⟩) ?_
 intro w4 E _ _
 simp only [Z1] at E ⊢
 go_upto_region 4 with (fail)
 refine rz [.i (pp:Int),.o,.o,.i (pp:Int),.o,.o,.o,.i (pp:Int),.i (pp:Int),.i (pp:Int),.o,.o] N3 [] E (fun hp=>⟨zS,zO hp (sqi 0) T2.out,zS,zAj hp fo gqi (sqo 1),zO hp (sqi 3) T3.out,zt hp (sqi 2) (sqi 4),zS,zAj hp fo gqi (sqo 1),zDl (F:=(Fq.is (.int .i64 (pp:Int))).P) (G:=(Fq.is (.int .i64 2)).P) hp fo gqi (zLh) (sqi 7) (zAk (fun _=>rfl)) (fun v v' w h h'=>(by subst h h';exact zLo w HL.out HP1.out.1 HP1.out.2 (Nat.le_refl 2) (.inl rfl) HQ2.out)),zAj hp fo gqi (sqo 1),zAt (F:=fun v _=>v=.int .i64 (pp:Int)) (G:=fun v _=>v=.int .i64 (pp:Int)) hp fo gqi (sqi 8) (sqi 9) (fun ρ w hc h h'=>⟨.bool false,by simp [execOp,go_sem,h,h',T4.out],rfl⟩),zt hp (sqi 6) (sqi 10),tv⟩) ?_
 intro w5 E _ _
 simp only [Z1] at E ⊢
 go_upto_region 6 with (fail)
 refine rz [.n d,.i (pp:Int),.n (pp:Int),.w (Fq.tup2 (f3 F.a F.b F.c) (yF)),.w (Fq.tup2 (f3 F.a F.b F.c) (yF)),.w (f3 F.a F.b F.c),.o,.k,.a,.o] N3 [⟨7,8,6,f3 0 0 0,f3 F.a F.b F.c,none⟩] E (fun hp=>⟨lI 0 hp (mq 2 rfl) zw,zS,wXa (Fq.is (.int .i64 (pp:Int))) hp zBv (sqi 1) fun v w h=>(by subst h;exact OfK w (pp:Int) RP.out.1 RP.out.2),zDz (F:=(Fq.num d).P) (G:=(Fq.num (pp:Int)).P) hp fo tv (zOr) rfl (sqi 0) (sqi 2) (fun v v' w hbw h h'=>HO.out _ _ _ hbw h h'),zS,zS,zS,aS hp (mq 0 rfl) zAu zB0,sS 5 hp (mq 0 rfl) zAo,zS,tv⟩) ?_
 intro w6 b6_7 E _ _
 simp only [Z1] at E ⊢
 go_upto_region 7 with (fail)
 refine rz [.o,.t,.t,.u (undef),.u (undef),.u (undef),.t] N4 [] E (fun hp=>⟨zS,zo hp (sqi 0),zS,zS,zS,zS,zt hp (sqi 2) (zk (.bool true)),tv⟩) ?_
 intro w7 E _ _
 simp only [Z1] at E ⊢
 go_upto_region 8 with (fail)
 refine rz [.w (f3 0 0 0),.a,.i 6] [none,none,some (1,f3 0 0 0),none] [] E (fun hp=>⟨zFn hp fo tv (fun v w h=>h),sO 0 0 hp (mq 2 rfl) zAo zw,zS,tv⟩) ?_
 intro w8 E _ _
 simp only [Z1] at E ⊢
 clear HD0 H4 TP T2 T3 HL HP1 HQ2 T4 RP HO
 obtain ⟨_,_,hccr,hffr⟩:=zAy (E.box 2 rfl)
 have hPr:=hffr
 obtain ⟨r_p0,r_q0,_,rfl,_r_n0,r_p1,r_q1,_,rfl,_r_n1,r_p2,r_q2,_,rfl,_r_n2,rfl⟩:=hffr
 have crz:=c6 hccr
 simp only [List.getD_cons_zero,List.getD_cons_succ] at crz
 clear hccr
 clear hd BP
 go_wp2
 exact zR (v:=.tuple #[.agg #[r_p0,r_q0,r_p1,r_q1,r_p2,r_q2],.int .i64 6]) (by simp [results,Tryz.results93,go_sem,crz]) E.below ⟨_,_,rfl,⟨_,rfl,hPr⟩,rfl⟩

theorem zUd {w:World} {v:Value} {d:Int} (h:Num w v d) (hd:ab d<pw 3) (hd0:d<0) (h4:d % 4=0∨d % 4=1){pp:Nat} (hp2:2≤pp) (hp20:pp<1048576) (hl:Least pp pp) {F:F3} (hF:ab F.a<pw 4∧ab F.b<pw 6∧ab F.c<pw 12) (hpr:decide (cont F.a F.b F.c=1)=true) (hDF:ab (F.b*F.b-4*(F.a*F.c))<pw 20) (hO:∀ (w1:World) (x x':Value),Below w.heap.size w w1→Num w1 x d→Num w1 x' (pp:Int)→Calls Tryz.prog 129 #[x,x'] w1 fun e' w'=>∃ v',e'=.returned v'∧Below w1.heap.size w1 w'∧(Fq.tup2 (f3 F.a F.b F.c) (Fq.is (.bool true))).P v' w') :
  Rt 93 #[v,.int .i64 (pp:Int)] w fun v' w'=>(Fq.tup2 (Fq.st [.n (rdF F).a,.n (rdF F).b,.n (rdF F).c]) (Fq.is (.int .i64 0))).P v' w':=by
 replace hd:=hidd hd
 have HD0:=hidd hd0
 have H4:=hidd h4
 have TP:Hid (¬ 0<cmpI d 0):=fun e=>by have:=cmpIqgt.1 e;have:=HD0.out;omega
 clear hd0 h4
 have T2:Hid (¬ (pp:Int)<2):=by show ¬ _;omega
 have T3:Hid (¬ 1048576≤(pp:Int)):=by show ¬ _;omega
 have HL:=hidd hl
 have HP1:Hid (0<pp∧(pp:Int)≤9223372036854775807):=⟨by omega,by omega⟩
 have HQ2:=hidd hl.1
 have T4:Hid (¬ (pp:Int)<(pp:Int)):=by show ¬ _;omega
 clear hl hp2 hp20
 have RP:Hid (-9223372036854775808≤(pp:Int)∧(pp:Int)≤9223372036854775807):=by have:=HP1.out;show _∧_;omega
 have BP:Hid (ab (pp:Int)<pw 3):=zAs RP.out.1 RP.out.2
 have HO:=hidd hO
 clear hO
 have HF:=hidd hF
 have TI:Hid (decide (cont F.a F.b F.c=1)=true):=hpr
 have HDF:=hidd hDF
 clear hpr hDF
 clear hF
 obtain ⟨n0,ao0,k0,c0,rfl⟩:=h.parts
 obtain ⟨w1,b1,hw1,hb1,hs1,E⟩:=gN w 36 h
 obtain ⟨w2,b2,hw2,hb2,hs2,E⟩:=fO E hs1 38 zAu
 go_enter Tryz.func93,Tryz.ntmps93
 go_upto_region 1 with (fail)
 rw [← hw1,← hw2]
 rw [← hb2,← hb1]
 clear hw1 hw2 hb1 hb2 hs2 hs1
 refine rz [.n d,.w (Fq.tup2 (f3 ((onF d).a) ((onF d).b) ((onF d).c)) (Fq.is (.int .i64 0))),.w (Fq.tup2 (f3 ((onF d).a) ((onF d).b) ((onF d).c)) (Fq.is (.int .i64 0))),.w (f3 ((onF d).a) ((onF d).b) ((onF d).c)),.i 0,.k,.a,.i 0] N2 [⟨5,6,6,f3 0 0 0,f3 ((onF d).a) ((onF d).b) ((onF d).c),none⟩] E (fun hp=>⟨lI 0 hp (mq 1 rfl) zw,zc hp zJm zi fun v w h=>zJt h (Int.lt_of_lt_of_le hd.out (zAa zm)) HD0.out H4.out,zS,zS,zS,aS hp (mq 0 rfl) zAu zB0,sS 3 hp (mq 0 rfl) zAo,zS,tv⟩) ?_
 intro w3 b3_5 E _ _
 simp only [Z1] at E ⊢
 go_upto_region 2 with (fail)
 refine rz [.i 0,.o,.o,.n d,.i (cmpI d 0),.o,.o] N3 [] E (fun hp=>⟨zS,zo hp (sqi 0),zS,zAx (off:=0) hp fo gqi (mq 2 rfl) (.inl rfl) (Nat.le_of_ble_eq_true rfl) (sqo 2) (fun us w hl h=>zAw hl h),zc hp zAz zi (fun v w h=>zA0 h),zO hp (sqi 4) TP.out,zt hp (sqi 2) (sqi 5),tv⟩) ?_
 intro w4 E _ _
 simp only [Z1] at E ⊢
 go_upto_region 4 with (fail)
 refine rz [.i (pp:Int),.o,.o,.i (pp:Int),.o,.o,.o,.i (pp:Int),.i (pp:Int),.i (pp:Int),.o,.o] N3 [] E (fun hp=>⟨zS,zO hp (sqi 0) T2.out,zS,zAj hp fo gqi (sqo 1),zO hp (sqi 3) T3.out,zt hp (sqi 2) (sqi 4),zS,zAj hp fo gqi (sqo 1),zDl (F:=(Fq.is (.int .i64 (pp:Int))).P) (G:=(Fq.is (.int .i64 2)).P) hp fo gqi (zLh) (sqi 7) (zAk (fun _=>rfl)) (fun v v' w h h'=>(by subst h h';exact zLo w HL.out HP1.out.1 HP1.out.2 (Nat.le_refl 2) (.inl rfl) HQ2.out)),zAj hp fo gqi (sqo 1),zAt (F:=fun v _=>v=.int .i64 (pp:Int)) (G:=fun v _=>v=.int .i64 (pp:Int)) hp fo gqi (sqi 8) (sqi 9) (fun ρ w hc h h'=>⟨.bool false,by simp [execOp,go_sem,h,h',T4.out],rfl⟩),zt hp (sqi 6) (sqi 10),tv⟩) ?_
 intro w5 E _ _
 simp only [Z1] at E ⊢
 go_upto_region 6 with (fail)
 refine rz [.n d,.i (pp:Int),.n (pp:Int),.w (Fq.tup2 (f3 F.a F.b F.c) (yT)),.w (Fq.tup2 (f3 F.a F.b F.c) (yT)),.w (f3 F.a F.b F.c),.t,.k,.a,.t] N3 [⟨7,8,6,f3 0 0 0,f3 F.a F.b F.c,none⟩] E (fun hp=>⟨lI 0 hp (mq 2 rfl) zw,zS,wXa (Fq.is (.int .i64 (pp:Int))) hp zBv (sqi 1) fun v w h=>(by subst h;exact OfK w (pp:Int) RP.out.1 RP.out.2),zDz (F:=(Fq.num d).P) (G:=(Fq.num (pp:Int)).P) hp fo tv (zOr) rfl (sqi 0) (sqi 2) (fun v v' w hbw h h'=>HO.out _ _ _ hbw h h'),zS,zS,zS,aS hp (mq 0 rfl) zAu zB0,sS 5 hp (mq 0 rfl) zAo,zS,tv⟩) ?_
 intro w6 b6_7 E _ _
 simp only [Z1] at E ⊢
 go_upto_region 7 with (fail)
 refine rz [.t,.o,.o,.w (f3 F.a F.b F.c),.t,.o,.o] N4 [] E (fun hp=>⟨zS,zo hp (sqi 0),zS,lG 0 6 hp gqi (mq 0 rfl) zAd zw fun v w h=>h,zc hp zLj zi (fun v w h=>zLv h (Int.lt_of_lt_of_le HF.out.1 (zAa zm)) (Int.lt_of_lt_of_le HF.out.2.1 (zAa zm)) (Int.lt_of_lt_of_le HF.out.2.2 (zAa zm)) TI.out),zo hp (sqi 4),zt hp (sqi 2) (sqi 5),tv⟩) ?_
 intro w7 E _ _
 simp only [Z1] at E ⊢
 go_upto_region 9 with (fail)
 refine rz [.w (f3 F.a F.b F.c),.w (f3 ((rdF F).a) ((rdF F).b) ((rdF F).c)),.a,.i 0] [none,none,some (2,f3 ((rdF F).a) ((rdF F).b) ((rdF F).c)),none] [] E (fun hp=>⟨lS 0 6 hp (mq 0 rfl) zAd zw,zc hp zHu zi fun v w h=>zLs h (Int.lt_of_lt_of_le HF.out.1 (zAa zm)) (Int.lt_of_lt_of_le HF.out.2.1 (zAa zm)) (Int.lt_of_lt_of_le HF.out.2.2 (zAa zm)) HDF.out,sO 0 1 hp (mq 2 rfl) zAo zw,zS,tv⟩) ?_
 intro w8 E _ _
 simp only [Z1] at E ⊢
 clear HD0 H4 TP T2 T3 HL HP1 HQ2 T4 RP HO HF TI HDF
 obtain ⟨_,_,hccr,hffr⟩:=zAy (E.box 2 rfl)
 have hPr:=hffr
 obtain ⟨r_p0,r_q0,_,rfl,_r_n0,r_p1,r_q1,_,rfl,_r_n1,r_p2,r_q2,_,rfl,_r_n2,rfl⟩:=hffr
 have crz:=c6 hccr
 simp only [List.getD_cons_zero,List.getD_cons_succ] at crz
 clear hccr
 clear hd BP
 go_wp2
 exact zR (v:=.tuple #[.agg #[r_p0,r_q0,r_p1,r_q1,r_p2,r_q2],.int .i64 0]) (by simp [results,Tryz.results93,go_sem,crz]) E.below ⟨_,_,rfl,⟨_,rfl,hPr⟩,rfl⟩

theorem act_disc (a b c p q r s:Int):qm a b c p q r s*qm a b c p q r s-4*(qv a b c p r*qv a b c q s)=(b*b-4*(a*c))*((p*s-q*r)*(p*s-q*r)):=by
 unfold qv qm
 exact zM4 a b c p q r s
theorem zDh {x y:Int} {m n:Nat} (hx:x.natAbs≤m) (hy:y.natAbs≤n):(x*y).natAbs≤m*n:=by
 rw [Int.natAbs_mul]
 exact Nat.mul_le_mul hx hy
theorem turn_bd {z s t:Int} (es:s=z % 8-3) (et:t=z/8 % 8-4):s.natAbs≤4∧t.natAbs≤4∧(s*t-1).natAbs≤17:=by
 have h1:s.natAbs≤4:=by omega
 have h2:t.natAbs≤4:=by omega
 have h3:=zDh h1 h2
 exact ⟨h1,h2,by omega⟩
theorem ab_few {x:Int} (h:x.natAbs≤2000):ab x<pw 3:=zAs zm zm
theorem zS2 {a b c p q r s:Int} (hd:(p*s-q*r)*(p*s-q*r)=1):qm a b c p q r s*qm a b c p q r s-4*(qv a b c p r*qv a b c q s)=b*b-4*(a*c):=by
 rw [act_disc,hd,Int.mul_one]
section
variable {os : List Oper} {Q : Exit → Act → World → Prop} {a : Act} {p : Pq} {B B0 : Nat} {w0 : World}
variable {i s : Nat} {d : Option Tmp} {ty : TypeId} {ps : String} {af : Array Edge} {gd : Option (Nat × Bool)}
theorem zKl {x:Operand} {ad:Option Addr} {k c:Nat} (hp:p.Ok B B0) (hF:p.Free i) (hg:GdQ os a p B B0 w0 af gd) (hx:SrcQ os a p B B0 w0 af x fun v _=>v=.slice ad k c) (hC:∀ w,(p.c i).P (.int .i64 k) w) :
  zAg os Q a p B B0 w0 i { dst:=d,op:=.call { callee:=.builtin .len,args:=#[x],argTypes:=#[54] },type:=ty,pos:=ps,after:=af,guard:=gd }:=
 zAv hp hF hg hx fun ρ w _ h=>⟨.int .i64 k,by simp [go_sem,h],hC w⟩
theorem zKk {b l c k:Nat} {x y:Operand} (hp:p.Ok B B0) (hF:p.Free i) (hg:GdQ os a p B B0 w0 af gd) (hx:SrcQ os a p B B0 w0 af x fun v _=>v=.slice (some ⟨b,0,none⟩) l c) (hy:SrcQ os a p B B0 w0 af y fun v _=>v=.int .i64 k) (hk:k<l)
  (hC:∀ w,(p.c i).P (.pointer (some ⟨b,k*6,none⟩)) w) :
  zAg os Q a p B B0 w0 i { dst:=d,op:=.indexAddr 54 x y,type:=ty,pos:=ps,after:=af,guard:=gd }:=
 zAt hp hF hg hx hy fun ρ w _ h h'=>⟨_,by
  have h0:(k:Int)<(l:Int):=by omega
  have h1:(0:Int)≤(k:Int):=by omega
  simp [execOp,go_sem,h,h',h0,h1],hC w⟩
end
theorem exQSizeN {w:World} {v:Value} {D i0 i1 i2 i3 m0 m1 m2 m3 n:Int} (h:(Fq.st [.v (.int .u16 D),.v (.int .u16 i0),.v (.int .u16 i1),.v (.int .u16 i2),.v (.int .u16 i3),.v (.int .u8 m0),.v (.int .u8 m1),.v (.int .u8 m2),.v (.int .u8 m3)]).P v w) (hD:0≤D∧D≤65535) (hn:zCe D=n) :
  Rt 39 #[v] w fun v' w'=>v'=.int .i64 n:=by
 subst hn
 exact exQSize h hD
noncomputable def zCz (n i:Int):F3:=(zCh n).getD (i % ((zCh n).length:Int)).toNat ⟨0,0,0⟩
noncomputable def zFa (n i m:Int):F3:=if m % 4=0 then zCz n i else ⟨qv (zCz n i).a (zCz n i).b (zCz n i).c (m % 8-3) 1,qm (zCz n i).a (zCz n i).b (zCz n i).c (m % 8-3) ((m % 8-3)*(m/8 % 8-4)-1) 1 (m/8 % 8-4),qv (zCz n i).a (zCz n i).b (zCz n i).c ((m % 8-3)*(m/8 % 8-4)-1) (m/8 % 8-4)⟩
theorem zMq {n:Int} (i:Int) (h0:3≤n) (h1:n≤2004) (h4:n % 4=0∨n % 4=3):∃ j:Nat,j<(zCh n).length∧i % ((zCh n).length:Int)=j∧(zCh n)[j]?=some (zCz n i):=by
 have h:=listF_pos h0 h1 h4
 have h5:=Int.emod_nonneg i (show ((zCh n).length:Int)≠0 by omega)
 have h6:=Int.emod_lt_of_pos i (show (0:Int)<((zCh n).length:Int) by omega)
 refine ⟨(i % ((zCh n).length:Int)).toNat,by omega,by omega,?_⟩
 unfold zCz
 rw [List.getD,List.getElem?_eq_getElem zm]
 rfl
theorem FOk.bds {n:Int} {P:F3} (h:FOk n P) (h1:n≤2004):0<P.a∧P.a.natAbs≤668∧P.b.natAbs≤668∧P.c.natAbs≤668:=by
 obtain ⟨ha,hk,_,hd⟩:=h
 simp only [Bool.and_eq_true] at hk
 have hr:=(zE0 (show 0<P.a by omega)).1 hk.2
 have h2:=hr.lo
 have h3:=hr.hi
 have h4:=hr.ac
 have e1:P.b*P.b≤P.a*P.a:=by
  rw [← zD1 P.b]
  exact Int.mul_le_mul zm zm zm zm
 have e2:P.a*P.a≤P.a*P.c:=Int.mul_le_mul_of_nonneg_left h4 zm
 have e3:1*P.c≤P.a*P.c:=Int.mul_le_mul_of_nonneg_right ha zm
 omega
def MOk (n:Int) (P:F3):Prop:=redE P.a P.b P.c=0∧P.b*P.b-4*(P.a*P.c)=-n∧(ab P.a<pw 3∧ab P.b<pw 3∧ab P.c<pw 3)∧P.a.natAbs≤100000000∧P.b.natAbs≤100000000∧P.c.natAbs≤100000000
theorem zE5 {x:Int} (h:x.natAbs≤100000000):ab x<pw 3:=zAs zm zm
theorem zQa {n i m:Int} (h0:3≤n) (h1:n≤2004) (h4:n % 4=0∨n % 4=3):MOk n (zFa n i m):=by
 obtain ⟨j,_,_,hj⟩:=zMq i h0 h1 h4
 have hF:=zMc _ (List.mem_of_getElem? hj)
 obtain ⟨hp,b1,b2,b3⟩:=hF.bds h1
 have hd:=hF.2.2.2
 unfold zFa
 split
 ·exact ⟨zFs (by rw [hd];omega) hp,hd,⟨zE5 zm,zE5 zm,zE5 zm⟩,by omega,by omega,by omega⟩
 ·obtain ⟨s,es⟩:∃ s,s=m % 8-3:=⟨_,rfl⟩
  obtain ⟨t,et⟩:∃ t,t=m/8 % 8-4:=⟨_,rfl⟩
  rw [← es,← et]
  obtain ⟨t1,t2,t3⟩:=turn_bd es et
  generalize zCz n i=P at hp b1 b2 b3 hd ⊢
  have hdet:(s*t-(s*t-1)*1)*(s*t-(s*t-1)*1)=1:=by
   rw [show s*t-(s*t-1)*1=1 by omega]
   rfl
  have h5:=zS2 (a:=P.a) (b:=P.b) (c:=P.c) hdet
  have hpos:=qv_pos (x:=s) (y:=1) hp (by rw [hd];omega) zm
  have qb:∀ x y:Int,x.natAbs≤17→y.natAbs≤17→(qv P.a P.b P.c x y).natAbs≤100000000:=by
   intro x y hx hy
   have m1:=zDh b1 (zDh hx hx)
   have m2:=zDh b2 (zDh hx hy)
   have m3:=zDh b3 (zDh hy hy)
   unfold qv
   omega
  have qc:(qm P.a P.b P.c s (s*t-1) 1 t).natAbs≤100000000:=by
   have u1:(1:Int).natAbs≤17:=by decide
   have m1:=zDh b1 (zDh (show s.natAbs≤17 by omega) t3)
   have m2:=zDh b3 (zDh u1 (show t.natAbs≤17 by omega))
   have m3:=zDh (show s.natAbs≤17 by omega) (show t.natAbs≤17 by omega)
   have m4:=zDh t3 u1
   have m5:=zDh b2 (show (s*t+(s*t-1)*1).natAbs≤17*17+17*17 by omega)
   unfold qm
   omega
  refine ⟨zFs ?_ hpos,?_,⟨zE5 (qb _ _ zm zd),zE5 qc,zE5 (qb _ _ t3 zm)⟩,qb _ _ zm zd,qc,qb _ _ t3 zm⟩
  ·show qm _ _ _ _ _ _ _*qm _ _ _ _ _ _ _-4*(qv _ _ _ _ _*qv _ _ _ _ _)<0
   rw [h5,hd];omega
  ·show qm _ _ _ _ _ _ _*qm _ _ _ _ _ _ _-4*(qv _ _ _ _ _*qv _ _ _ _ _)=-n
   rw [h5];exact hd
theorem exQMade0 {w:World} {v:Value} {D i0 i1 i2 i3 m0 m1 m2 m3:Int} (h:(Fq.st [.v (.int .u16 D),.v (.int .u16 i0),.v (.int .u16 i1),.v (.int .u16 i2),.v (.int .u16 i3),.v (.int .u8 m0),.v (.int .u8 m1),.v (.int .u8 m2),.v (.int .u8 m3)]).P v w) (hD:0≤D∧D≤65535) (hi:0≤i0∧i0≤65535) (hm:0≤m0∧m0≤255) {n:Int} (hn:zCe D=n) {P:F3} (hP:zFa n i0 m0=P) :
  Rt 10 #[v,.int .i64 0] w fun v' w'=>(f3 P.a P.b P.c).P v' w':=by
 have hsz:=zNh D
 rw [hn] at hsz
 obtain ⟨j,hj,hQj,hPj⟩:=zMq i0 zm zm hsz.2.2
 have hFo:=(zMc _ (List.mem_of_getElem? hPj)).bds hsz.2.1
 obtain ⟨F,hF⟩:∃ F,F=zCz n i0:=⟨_,rfl⟩
 rw [← hF] at hPj hFo
 obtain ⟨ps,hps⟩:∃ ps,ps=zCh n:=⟨_,rfl⟩
 rw [← hps] at hj hQj hPj
 obtain ⟨nl,hnl⟩:∃ nl,nl=ps.length:=⟨_,rfl⟩
 rw [← hnl] at hj hQj
 have BF:Hid (ab F.a<pw 3∧ab F.b<pw 3∧ab F.c<pw 3):=⟨zE5 zm,zE5 zm,zE5 zm⟩
 have HSZ:=hidd hsz
 have HNE:=hidd hn
 have HFE:=hidd hF
 have HPS:=hidd hps
 have HNL:=hidd hnl
 have HJ:=hidd hj
 have HPJ:=hidd hPj
 have HDD:=hidd hD
 have HMM:=hidd hm
 have HPE:=hidd hP
 have I16:Hid (IntKind.i64.wrap i0=i0):=IntWalk.i64_in _ zm
 have HLN:Hid (¬ nl=0):=by show ¬ _;omega
 have HTJ:Hid (Int.tmod i0 (nl:Int)=(j:Int)):=by show _=_;rw [Int.tmod_eq_emod_of_nonneg zm,hQj]
 obtain ⟨r,hr⟩:∃ r,r=m0 % 4:=⟨_,rfl⟩
 have C4:Hid (Int.tmod m0 4=r):=by show _=_;rw [Int.tmod_eq_emod_of_nonneg zm,hr]
 have HR:=hidd hr
 obtain ⟨s,es⟩:∃ s,s=m0 % 8-3:=⟨_,rfl⟩
 obtain ⟨t,et⟩:∃ t,t=m0/8 % 8-4:=⟨_,rfl⟩
 have htb:=turn_bd es et
 have Bs:Hid (ab s<pw 3):=ab_few zm
 have Bt:Hid (ab t<pw 3):=ab_few zm
 have Bu:Hid (ab (s*t-1)<pw 3):=ab_few zm
 have Es:=hidd es
 have Et:=hidd et
 clear hsz hj hQj hPj hFo hF hps hnl hr htb es et hD hi hm hn hP
 obtain ⟨_,rfl,hf0⟩:=h
 have hF0:=hf0
 obtain ⟨_,rfl,_,_,rfl,_,_,rfl,_,_,rfl,_,_,rfl,_,_,rfl,_,_,rfl,_,_,rfl,_,_,rfl,_,rfl⟩:=hf0
 obtain ⟨w1,b1,hw1,hb1,hs1,E⟩:=gS w 26 hF0
 obtain ⟨w2,b2,hw2,hb2,hs2,E⟩:=fO E hs1 38 zAu
 go_enter Tryz.func10,Tryz.ntmps10
 go_upto_region 1 with (fail)
 rw [← hw1,← hw2]
 rw [← hb2,← hb1]
 clear hw1 hw2 hb1 hb2 hs2 hs1
 refine wp_region_list ?_
 refine zGo rfl 26 (.tmp 2) rfl zRz rfl rfl (StAt.of_boxQ (E.box 1 rfl)) fun vc hvc=>?_
 go_upto_region 2 with (first | (go_at_call 39;(with_reducible refine (exQSizeN hvc HDD.out HNE.out).mono ?_);rintro e w8 ⟨v8,rfl,hB8,rfl⟩) | (go_at_call 44;(with_reducible refine (exQList HSZ.out.1 HSZ.out.2.1).mono ?_);rintro e w9 ⟨vL,rfl,hB9,hLs⟩;obtain ⟨gg,cp,rfl,hgg,hbox⟩:=hLs.box6 (by rw [← HPS.out];have:=HJ.out;have:=HNL.out;omega)) | fail)
 rw [← HPS.out,← HNL.out] at hbox
 first | rw [← HPS.out,← HNL.out] | skip
 replace E:=Fr.addQ E (hB8.trans (hB9.mono hB8.size)) (Nat.le_trans hB8.size hgg) hbox
 clear hvc hB8 hB9 hLs hgg hbox
 refine rz [.u (.slice (some ⟨gg,0,none⟩) nl cp),.i 0,.i 0,.p b1 1,.p b1 1,.u (.int .u16 i0),.i i0,.u (.slice (some ⟨gg,0,none⟩) nl cp),.i ((nl:Nat):Int),.i (j:Int),.u (.pointer (some ⟨gg,j*6,none⟩)),.w (f3 F.a F.b F.c),.k,.a] N3 [⟨12,13,6,f3 0 0 0,f3 F.a F.b F.c,none⟩] E (fun hp=>⟨zS,zS,zo hp (sqi 1),qa b1 0 1 hp zw,zAt (F:=fun v _=>v=.pointer (some ⟨b1,1,none⟩)) (G:=fun v _=>v=.int .i64 0) hp fo tv (sqi 3) (sqi 2) (fun ρ w hc h h'=>⟨.pointer (some ⟨b1,1,none⟩),by simp [execOp,go_sem,h,h'],rfl⟩),wXc 1 hp (mq 2 rfl) zi,zO hp (sqi 5) I16.out,zS,zKl hp fo tv (sqi 7) (fun _=>rfl),zT hp (sqi 6) (sqi 8) (And.intro HLN.out HTJ.out),zKk (b:=gg) (l:=nl) (c:=cp) (k:=j) hp fo tv (sqi 0) (sqi 9) HJ.out (fun _=>rfl),zCu (off:=j*6) (l:=6) (fs:=rowQ ps) (gs:=[.n F.a,.n F.b,.n F.c]) hp fo tv (mq 0 rfl) (.inl rfl) rfl zAd (zRy HPJ.out) (sqi 10) (fun v w h=>h),aS hp (mq 0 rfl) zAu zB0,sS 11 hp (mq 0 rfl) zAo,tv⟩) ?_
 intro w3 b3_12 E _ _
 simp only [Z1] at E ⊢
 clear I16 HLN HTJ HJ HPJ HNL HPS HNE HSZ HDD
 go_upto_region 3 with (fail)
 by_cases hz:r=0
 ·have T6:=hidd hz
  have hQ:F=P:=by rw [HFE.out,← HPE.out];unfold zFa;rw [if_pos (HR.out.symm.trans hz)]
  have HQ:=hidd hQ
  clear hz hQ
  refine rz [.i 0,.i 0,.p b1 5,.p b1 5,.u (.int .u8 m0),.u (.int .u8 r),.t] N4 [] E (fun hp=>⟨zS,zo hp (sqi 0),qa b1 0 5 hp zw,zAt (F:=fun v _=>v=.pointer (some ⟨b1,5,none⟩)) (G:=fun v _=>v=.int .i64 0) hp fo tv (sqi 2) (sqi 1) (fun ρ w hc h h'=>⟨.pointer (some ⟨b1,5,none⟩),by simp [execOp,go_sem,h,h'],rfl⟩),wXc 5 hp (mq 3 rfl) zi,zO hp (sqi 4) C4.out,zO hp (sqi 5) T6.out,tv⟩) ?_
  intro w4 E _ _
  simp only [Z1] at E ⊢
  go_upto_region 4 with (fail)
  refine rz [.w (f3 F.a F.b F.c),.a] [none,none,some (1,f3 F.a F.b F.c),none] [] E (fun hp=>⟨lS 0 6 hp (mq 0 rfl) zAd zw,sO 0 0 hp (mq 2 rfl) zAo zw,tv⟩) ?_
  intro w5 E _ _
  simp only [Z1] at E ⊢
  obtain ⟨_,_,hccr,hffr⟩:=zAy (E.box 2 rfl)
  have hPr:=hffr
  obtain ⟨r_p0,r_q0,_,rfl,_r_n0,r_p1,r_q1,_,rfl,_r_n1,r_p2,r_q2,_,rfl,_r_n2,rfl⟩:=hffr
  have crz:=c6 hccr
  simp only [List.getD_cons_zero,List.getD_cons_succ] at crz
  clear hccr
  have hQ:=HQ.out
  clear T6 HQ C4 HR HFE HMM HPE Es Et
  rw [hQ] at hPr
  clear BF Bs Bt Bu
  go_wp2
  exact zR (v:=.agg #[r_p0,r_q0,r_p1,r_q1,r_p2,r_q2]) (by simp [results,Tryz.results10,go_sem,crz]) E.below ⟨_,rfl,hPr⟩
 ·have T6:=hidd hz
  have hQ:P=⟨qv F.a F.b F.c s 1,qm F.a F.b F.c s (s*t-1) 1 t,qv F.a F.b F.c (s*t-1) t⟩:=by rw [← HPE.out];unfold zFa;rw [if_neg (fun e=>hz (HR.out.trans e)),← HFE.out,← Es.out,← Et.out]
  have HQ:=hidd hQ
  clear hz hQ
  refine rz [.i 0,.i 0,.p b1 5,.p b1 5,.u (.int .u8 m0),.u (.int .u8 r),.o] N4 [] E (fun hp=>⟨zS,zo hp (sqi 0),qa b1 0 5 hp zw,zAt (F:=fun v _=>v=.pointer (some ⟨b1,5,none⟩)) (G:=fun v _=>v=.int .i64 0) hp fo tv (sqi 2) (sqi 1) (fun ρ w hc h h'=>⟨.pointer (some ⟨b1,5,none⟩),by simp [execOp,go_sem,h,h'],rfl⟩),wXc 5 hp (mq 3 rfl) zi,zO hp (sqi 4) C4.out,zO hp (sqi 5) T6.out,tv⟩) ?_
  intro w6 E _ _
  simp only [Z1] at E ⊢
  go_upto_region 5 with (fail)
  refine rz [.w (f3 F.a F.b F.c),.i 0,.i 0,.p b1 5,.p b1 5,.u (.int .u8 m0),.w (Fq.st [.n s,.n (s*t-1),.n 1,.n t]),.w (f3 (qv F.a F.b F.c s 1) (qm F.a F.b F.c s (s*t-1) 1 t) (qv F.a F.b F.c (s*t-1) t)),.a] [none,none,some (8,f3 (qv F.a F.b F.c s 1) (qm F.a F.b F.c s (s*t-1) 1 t) (qv F.a F.b F.c (s*t-1) t)),none] [] E (fun hp=>⟨lS 0 6 hp (mq 0 rfl) zAd zw,zS,zo hp (sqi 1),qa b1 0 5 hp zw,zAt (F:=fun v _=>v=.pointer (some ⟨b1,5,none⟩)) (G:=fun v _=>v=.int .i64 0) hp fo tv (sqi 3) (sqi 2) (fun ρ w hc h h'=>⟨.pointer (some ⟨b1,5,none⟩),by simp [execOp,go_sem,h,h'],rfl⟩),wXc 5 hp (mq 3 rfl) zi,wXa (Fq.is (.int .u8 m0)) hp zTi (sqi 5) fun v w h=>(by subst h;exact exQTurn HMM.out Es.out Et.out),zC hp zTf zi zi fun v v' w h h'=>exQApply h h' (Int.lt_of_lt_of_le BF.out.1 (zAa zm)) (Int.lt_of_lt_of_le BF.out.2.1 (zAa zm)) (Int.lt_of_lt_of_le BF.out.2.2 (zAa zm)) (Int.lt_of_lt_of_le Bs.out (zAa zm)) (Int.lt_of_lt_of_le Bu.out (zAa zm)) (Int.lt_of_lt_of_le (zAs zd zd) (zAa zm)) (Int.lt_of_lt_of_le Bt.out (zAa zm)),sO 0 7 hp (mq 2 rfl) zAo zw,tv⟩) ?_
  intro w7 E _ _
  simp only [Z1] at E ⊢
  obtain ⟨_,_,hccr,hffr⟩:=zAy (E.box 2 rfl)
  have hPr:=hffr
  obtain ⟨r_p0,r_q0,_,rfl,_r_n0,r_p1,r_q1,_,rfl,_r_n1,r_p2,r_q2,_,rfl,_r_n2,rfl⟩:=hffr
  have crz:=c6 hccr
  simp only [List.getD_cons_zero,List.getD_cons_succ] at crz
  clear hccr
  have hQ:=HQ.out
  clear T6 HQ C4 HR HFE HMM HPE Es Et
  rw [show qv F.a F.b F.c s 1=P.a by rw [hQ],show qm F.a F.b F.c s (s*t-1) 1 t=P.b by rw [hQ],show qv F.a F.b F.c (s*t-1) t=P.c by rw [hQ]] at hPr
  clear BF Bs Bt Bu
  go_wp2
  exact zR (v:=.agg #[r_p0,r_q0,r_p1,r_q1,r_p2,r_q2]) (by simp [results,Tryz.results10,go_sem,crz]) E.below ⟨_,rfl,hPr⟩

end Go.Proofs.YtjadciofpgjofaaGreatDoor
