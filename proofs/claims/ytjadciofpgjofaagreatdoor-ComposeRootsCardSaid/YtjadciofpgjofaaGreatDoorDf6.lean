/- Ui, Uj, Ha, Ue, Uf, Uk, Ov, Nd, Ng, Nf, Ow, Ox, Om, Oj, Uq, Hb, Hc, Hd, He, Od, Ni, Nj, Oe, Og, Hf, Hg, Hh. -/
import Derived.Test.YtjadciofpgjofaaGreatDoorDf5
set_option linter.unusedSimpArgs false
set_option linter.unusedVariables false
set_option maxRecDepth 100000
set_option maxHeartbeats 8000000
namespace Go.Proofs.YtjadciofpgjofaaGreatDoor
open Go Go.RowKit

theorem zOy:En 120:=zAd Tryz.func120 (by kernel_rfl) rfl
theorem zOz:En 73:=zAd Tryz.func73 (by kernel_rfl) rfl
theorem zTx:En 74:=zAd Tryz.func74 (by kernel_rfl) rfl
theorem zXu:zDa 109 14=true:=by kernel_rfl
theorem zV9 (w:World):Fits w [.n 0,.n 0,.n 0,.n 0,.n 0,.n 0,.n 0] [.bool false,.slice none 0 0,.bool false,.slice none 0 0,.bool false,.slice none 0 0,.bool false,.slice none 0 0,.bool false,.slice none 0 0,.bool false,.slice none 0 0,.bool false,.slice none 0 0]:=⟨_,_,_,rfl,Num.zero w,_,_,_,rfl,Num.zero w,_,_,_,rfl,Num.zero w,_,_,_,rfl,Num.zero w,_,_,_,rfl,Num.zero w,_,_,_,rfl,Num.zero w,_,_,_,rfl,Num.zero w,rfl⟩
theorem zXf {d:Option Tmp} {ty:TypeId} {ps:String} {af:Array Edge} (ρ:Operand→Value) (w:World):(execOp ρ { dst:=d,op:=.alloc 109,type:=ty,pos:=ps,after:=af,guard:=none }).run Tryz.prog w=.ok (.value (.pointer (some ⟨w.heap.size,0,none⟩))) (w.alloc (.cells [.bool false,.slice none 0 0,.bool false,.slice none 0 0,.bool false,.slice none 0 0,.bool false,.slice none 0 0,.bool false,.slice none 0 0,.bool false,.slice none 0 0,.bool false,.slice none 0 0].toArray 109)):=by
 simp [execOp,go_sem]
theorem bq_pre {w:World} {b:Nat} {x y z p q r s:Int} (h:Bq w b 14 (Fq.st [.n x,.n y,.n z,.n p,.n q,.n r,.n s])):Bq w b 6 (f3 x y z):=by
 obtain ⟨us,hl,_,hat,ht,us',e,hfit⟩:=h
 obtain rfl:us=us':=zFh e
 have hf:=hfit.first (k:=6) (gs:=[.n x,.n y,.n z]) rfl
 refine ⟨us.take 6,by rw [List.length_take];omega,zd,fun j hj=>?_,fun u hu=>ht u (List.mem_of_mem_take hu),us.take 6,rfl,hf⟩
 rw [List.length_take] at hj
 have:=hat j zm
 rw [List.getD_eq_getElem?_getD,List.getElem?_take_of_lt zm,← List.getD_eq_getElem?_getD]
 exact this
def RB (S:RS):Prop:=(ab S.fa<pw 5∧ab S.fb<pw 11∧ab S.fc<pw 24)∧ab S.x1<pw 52∧ab S.x2<pw 52∧ab S.x3<pw 52∧ab S.x4<pw 52
theorem rsh_a (S:RS):qv S.fa S.fb S.fc 1 0=(rsh S).fa:=(Und.shift S.fa S.fb S.fc S.kk).ea.symm
theorem rsh_b (S:RS):qm S.fa S.fb S.fc 1 ((S.fa-S.fb)/(2*S.fa)) 0 1=(rsh S).fb:=(Und.shift S.fa S.fb S.fc S.kk).eb.symm
theorem rsh_c (S:RS):qv S.fa S.fb S.fc ((S.fa-S.fb)/(2*S.fa)) 1=(rsh S).fc:=(Und.shift S.fa S.fb S.fc S.kk).ec.symm
theorem rsw_a (S:RS):qv S.fa S.fb S.fc 0 1=(rsw S).fa:=(Und.swap S.fa S.fb S.fc).ea.symm
theorem rsw_b (S:RS):qm S.fa S.fb S.fc 0 (-1) 1 0=(rsw S).fb:=(Und.swap S.fa S.fb S.fc).eb.symm
theorem rsw_c (S:RS):qv S.fa S.fb S.fc (-1) 0=(rsw S).fc:=(Und.swap S.fa S.fb S.fc).ec.symm
def PIn (a b c:Int) (P:RS):Prop:=∃ S,RAt a b c S∧P=rsh S∧RIn a b c S.x1 S.x2 S.x3 S.x4 S.fa S.fb S.fc
theorem zNd {S:RS} (h0:0<S.fa) (hr:S.red=true):rsh S=S:=by
 have h:=(zEx h0).1 hr
 have hk:S.kk=0:=by
  unfold RS.kk
  refine Int.ediv_eq_zero_of_lt ?_ ?_
  ·have:=h.hi;omega
  ·have:=h.lo;omega
 unfold rsh
 rw [hk]
 simp
theorem PIn.start {a b c:Int} (h0:0<a) (hb:ab b<pw 11) (hc:ab c<pw 24):PIn a b c (rsh ⟨1,0,0,1,a,b,c⟩):=⟨_,RAt.zero a b c,rfl,RIn.one h0 hb hc⟩
theorem PIn.red {a b c:Int} {P:RS} (h:PIn a b c P) (hr:P.red=true):zC0 a b c=P:=by
 obtain ⟨S,hA,rfl,hI⟩:=h
 cases hs:S.red with
 | true=>rw [zNd hI.p hs];exact zM8 hA hs
 | false=>
  have h2:=hA.next hs
  unfold zC9 at h2
  rw [if_pos hr] at h2
  exact zM8 h2 hr
theorem PIn.at {a b c:Int} {P:RS} (h:PIn a b c P) (ha:ab a<pw 5) (hb:ab b<pw 11) (hc:ab c<pw 24) (hd:b*b-4*(a*c)<0) (hD:ab (b*b-4*(a*c))<pw 20):RB P∧0<P.fa∧RIn a b c P.x1 P.x2 P.x3 P.x4 P.fa P.fb P.fc∧-P.fa<P.fb∧P.fb≤P.fa:=by
 obtain ⟨S,_,rfl,hI⟩:=h
 obtain ⟨h1,h2,h3⟩:=hI.shift ha hc hd hD (kk:=S.kk) rfl rfl rfl
 exact ⟨h1.bds ha hc hd,h1.p,h1,h2,h3⟩
theorem PIn.next {a b c:Int} {P:RS} (h:PIn a b c P) (ha:ab a<pw 5) (hb:ab b<pw 11) (hc:ab c<pw 24) (hd:b*b-4*(a*c)<0) (hD:ab (b*b-4*(a*c))<pw 20) (hr:P.red=false):PIn a b c (rsh (rsw P))∧RB (rsw P)∧0<(rsw P).fa∧2*(rsh (rsw P)).fa.natAbs+(if redB (rsh (rsw P)).fa (rsh (rsw P)).fb (rsh (rsw P)).fc=true then 0 else 1)<2*P.fa.natAbs+1:=by
 obtain ⟨_,hp,hI,hm1,hm2⟩:=h.at ha hb hc hd hD
 obtain ⟨S,hA,rfl,hIS⟩:=h
 have hs:S.red=false:=by
  cases hs:S.red with
  | false=>rfl
  | true=>rw [zNd hIS.p hs,hs] at hr;cases hr
 have h2:=hA.next hs
 unfold zC9 at h2
 rw [if_neg (by rw [hr];decide)] at h2
 have hsw:=zNo hp hm1 hm2 (fun e=>by rw [show (rsh S).red=true from (zEx hp).2 e] at hr;cases hr)
 have hle:(rsh S).fc≤(rsh S).fa:=by rcases hsw with h | h <;> omega
 have hI2:=RIn.swap (fa:=(rsh S).fa) (fb:=(rsh S).fb) (fc:=(rsh S).fc) hI ha hc hd hle
 have hp2:0<(rsw (rsh S)).fa:=hI2.p
 refine ⟨⟨_,h2,rfl,hI2⟩,hI2.bds ha hc hd,hp2,?_⟩
 have e:(rsh (rsw (rsh S))).fa=(rsh S).fc:=rfl
 rcases hsw with hl | ⟨he,_,hrd⟩
 ·rw [e]
  have:(rsw (rsh S)).fa=(rsh S).fc:=rfl
  split <;> omega
 ·have hr2:(rsw (rsh S)).red=true:=(zEx hp2).2 hrd
  have e2:rsh (rsw (rsh S))=rsw (rsh S):=zNd hp2 hr2
  rw [show redB (rsh (rsw (rsh S))).fa (rsh (rsw (rsh S))).fb (rsh (rsw (rsh S))).fc=true by rw [e2];exact hr2,if_pos rfl,e,he]
  omega
theorem zFs {a b c:Int} (hd:b*b-4*(a*c)<0) (h0:0<a):redE a b c=0:=by
 unfold redE
 rw [if_neg (fun x=>zm),zK5 hd zm]
theorem zKk {a b c:Int} (h:redE a b c=0):b*b-4*(a*c)<0∧0<a:=by
 have h1:=zRs a b c
 rw [h] at h1
 have h2:=of_decide_eq_true (h1.trans (decide_eq_true rfl))
 have h3:=zLx h2.1
 omega
section
variable {os : List Oper} {Q : Exit → Act → World → Prop} {a : Act} {p : Pq} {B B0 : Nat} {w0 : World}
variable {i s : Nat} {d : Option Tmp} {ty : TypeId} {ps : String} {af : Array Edge} {gd : Option (Nat × Bool)}
theorem zW5 {x0:Operand} {z0:Int} {x1:Operand} {z1:Int} {x3:Operand} {z3:Int} (hp:p.Ok B B0) (hF:p.Free i) (hg:GdQ os a p B B0 w0 af gd) (h0:SrcQ os a p B B0 w0 af x0 fun v w=>Num w v z0) (h1:SrcQ os a p B B0 w0 af x1 fun v w=>Num w v z1) (h3:SrcQ os a p B B0 w0 af x3 fun v w=>Num w v z3) (hC:∀ v w,(Fq.st [.n z0,.n z1,.n 0,.n z3]).P v w→(p.c i).P v w) :
  zAf os Q a p B B0 w0 i { dst:=d,op:=.build 67 #[(0,x0),(1,x1),(3,x3)],type:=ty,pos:=ps,after:=af,guard:=gd }:=by
 refine zBf hp hF hg fun L vs w hG hL hc hd=>?_
 have g0:=h0 L vs w hG hd
 obtain ⟨n0,ao0,k0,c0,e0⟩:=g0.parts
 have m0:Num w (.agg #[.bool n0,.slice ao0 k0 c0]) z0:=by rw [← e0];exact g0
 have g1:=h1 L vs w hG hd
 obtain ⟨n1,ao1,k1,c1,e1⟩:=g1.parts
 have m1:Num w (.agg #[.bool n1,.slice ao1 k1 c1]) z1:=by rw [← e1];exact g1
 have g3:=h3 L vs w hG hd
 obtain ⟨n3,ao3,k3,c3,e3⟩:=g3.parts
 have m3:Num w (.agg #[.bool n3,.slice ao3 k3 c3]) z3:=by rw [← e3];exact g3
 refine ⟨.agg #[.bool n0,.slice ao0 k0 c0,.bool n1,.slice ao1 k1 c1,.bool false,.slice none 0 0,.bool n3,.slice ao3 k3 c3],?_,hC _ _ ⟨_,rfl,_,_,_,rfl,m0,_,_,_,rfl,m1,_,_,_,rfl,Num.zero w,_,_,_,rfl,m3,rfl⟩⟩
 generalize (lay os.toArray L vs os.toArray.size a).eval=ρ at e0 e1 e3
 simp [execOp,go_sem,e0,e1,e3]
theorem zW6 {x0:Operand} {z0:Int} {x3:Operand} {z3:Int} (hp:p.Ok B B0) (hF:p.Free i) (hg:GdQ os a p B B0 w0 af gd) (h0:SrcQ os a p B B0 w0 af x0 fun v w=>Num w v z0) (h3:SrcQ os a p B B0 w0 af x3 fun v w=>Num w v z3) (hC:∀ v w,(Fq.st [.n z0,.n 0,.n 0,.n z3]).P v w→(p.c i).P v w) :
  zAf os Q a p B B0 w0 i { dst:=d,op:=.build 67 #[(0,x0),(3,x3)],type:=ty,pos:=ps,after:=af,guard:=gd }:=by
 refine zBf hp hF hg fun L vs w hG hL hc hd=>?_
 have g0:=h0 L vs w hG hd
 obtain ⟨n0,ao0,k0,c0,e0⟩:=g0.parts
 have m0:Num w (.agg #[.bool n0,.slice ao0 k0 c0]) z0:=by rw [← e0];exact g0
 have g3:=h3 L vs w hG hd
 obtain ⟨n3,ao3,k3,c3,e3⟩:=g3.parts
 have m3:Num w (.agg #[.bool n3,.slice ao3 k3 c3]) z3:=by rw [← e3];exact g3
 refine ⟨.agg #[.bool n0,.slice ao0 k0 c0,.bool false,.slice none 0 0,.bool false,.slice none 0 0,.bool n3,.slice ao3 k3 c3],?_,hC _ _ ⟨_,rfl,_,_,_,rfl,m0,_,_,_,rfl,Num.zero w,_,_,_,rfl,Num.zero w,_,_,_,rfl,m3,rfl⟩⟩
 generalize (lay os.toArray L vs os.toArray.size a).eval=ρ at e0 e3
 simp [execOp,go_sem,e0,e3]
theorem zW7 {x1:Operand} {z1:Int} {x2:Operand} {z2:Int} (hp:p.Ok B B0) (hF:p.Free i) (hg:GdQ os a p B B0 w0 af gd) (h1:SrcQ os a p B B0 w0 af x1 fun v w=>Num w v z1) (h2:SrcQ os a p B B0 w0 af x2 fun v w=>Num w v z2) (hC:∀ v w,(Fq.st [.n 0,.n z1,.n z2,.n 0]).P v w→(p.c i).P v w) :
  zAf os Q a p B B0 w0 i { dst:=d,op:=.build 67 #[(1,x1),(2,x2)],type:=ty,pos:=ps,after:=af,guard:=gd }:=by
 refine zBf hp hF hg fun L vs w hG hL hc hd=>?_
 have g1:=h1 L vs w hG hd
 obtain ⟨n1,ao1,k1,c1,e1⟩:=g1.parts
 have m1:Num w (.agg #[.bool n1,.slice ao1 k1 c1]) z1:=by rw [← e1];exact g1
 have g2:=h2 L vs w hG hd
 obtain ⟨n2,ao2,k2,c2,e2⟩:=g2.parts
 have m2:Num w (.agg #[.bool n2,.slice ao2 k2 c2]) z2:=by rw [← e2];exact g2
 refine ⟨.agg #[.bool false,.slice none 0 0,.bool n1,.slice ao1 k1 c1,.bool n2,.slice ao2 k2 c2,.bool false,.slice none 0 0],?_,hC _ _ ⟨_,rfl,_,_,_,rfl,Num.zero w,_,_,_,rfl,m1,_,_,_,rfl,m2,_,_,_,rfl,Num.zero w,rfl⟩⟩
 generalize (lay os.toArray L vs os.toArray.size a).eval=ρ at e1 e2
 simp [execOp,go_sem,e1,e2]
theorem zW8 {x0:Operand} {z0_0:Int} {z0_1:Int} {z0_2:Int} {x1:Operand} {z1_0:Int} {z1_1:Int} {z1_2:Int} {z1_3:Int} (hp:p.Ok B B0) (hF:p.Free i) (hg:GdQ os a p B B0 w0 af gd) (h0:SrcQ os a p B B0 w0 af x0 (f3 z0_0 z0_1 z0_2).P) (h1:SrcQ os a p B B0 w0 af x1 (Fq.st [.n z1_0,.n z1_1,.n z1_2,.n z1_3]).P) (hC:∀ v w,(Fq.st [.n z0_0,.n z0_1,.n z0_2,.n z1_0,.n z1_1,.n z1_2,.n z1_3]).P v w→(p.c i).P v w) :
  zAf os Q a p B B0 w0 i { dst:=d,op:=.build 109 #[(0,x0),(1,x1)],type:=ty,pos:=ps,after:=af,guard:=gd }:=by
 refine zBf hp hF hg fun L vs w hG hL hc hd=>?_
 have g0:=h0 L vs w hG hd
 obtain ⟨_,e0,_,_,_,rfl,a0_n0,_,_,_,rfl,a0_n1,_,_,_,rfl,a0_n2,rfl⟩:=g0
 obtain ⟨n0_0,ao0_0,k0_0,c0_0,e0_0⟩:=a0_n0.parts
 have m0_0:=a0_n0
 rw [e0_0] at m0_0
 obtain ⟨n0_1,ao0_1,k0_1,c0_1,e0_1⟩:=a0_n1.parts
 have m0_1:=a0_n1
 rw [e0_1] at m0_1
 obtain ⟨n0_2,ao0_2,k0_2,c0_2,e0_2⟩:=a0_n2.parts
 have m0_2:=a0_n2
 rw [e0_2] at m0_2
 injection e0_0 with f0_0
 have f0_0:=congrArg Array.toList f0_0
 simp at f0_0
 obtain ⟨rfl,rfl⟩:=f0_0
 injection e0_1 with f0_1
 have f0_1:=congrArg Array.toList f0_1
 simp at f0_1
 obtain ⟨rfl,rfl⟩:=f0_1
 injection e0_2 with f0_2
 have f0_2:=congrArg Array.toList f0_2
 simp at f0_2
 obtain ⟨rfl,rfl⟩:=f0_2
 have g1:=h1 L vs w hG hd
 obtain ⟨_,e1,_,_,_,rfl,a1_n0,_,_,_,rfl,a1_n1,_,_,_,rfl,a1_n2,_,_,_,rfl,a1_n3,rfl⟩:=g1
 obtain ⟨n1_0,ao1_0,k1_0,c1_0,e1_0⟩:=a1_n0.parts
 have m1_0:=a1_n0
 rw [e1_0] at m1_0
 obtain ⟨n1_1,ao1_1,k1_1,c1_1,e1_1⟩:=a1_n1.parts
 have m1_1:=a1_n1
 rw [e1_1] at m1_1
 obtain ⟨n1_2,ao1_2,k1_2,c1_2,e1_2⟩:=a1_n2.parts
 have m1_2:=a1_n2
 rw [e1_2] at m1_2
 obtain ⟨n1_3,ao1_3,k1_3,c1_3,e1_3⟩:=a1_n3.parts
 have m1_3:=a1_n3
 rw [e1_3] at m1_3
 injection e1_0 with f1_0
 have f1_0:=congrArg Array.toList f1_0
 simp at f1_0
 obtain ⟨rfl,rfl⟩:=f1_0
 injection e1_1 with f1_1
 have f1_1:=congrArg Array.toList f1_1
 simp at f1_1
 obtain ⟨rfl,rfl⟩:=f1_1
 injection e1_2 with f1_2
 have f1_2:=congrArg Array.toList f1_2
 simp at f1_2
 obtain ⟨rfl,rfl⟩:=f1_2
 injection e1_3 with f1_3
 have f1_3:=congrArg Array.toList f1_3
 simp at f1_3
 obtain ⟨rfl,rfl⟩:=f1_3
 refine ⟨.agg #[.bool n0_0,.slice ao0_0 k0_0 c0_0,.bool n0_1,.slice ao0_1 k0_1 c0_1,.bool n0_2,.slice ao0_2 k0_2 c0_2,.bool n1_0,.slice ao1_0 k1_0 c1_0,.bool n1_1,.slice ao1_1 k1_1 c1_1,.bool n1_2,.slice ao1_2 k1_2 c1_2,.bool n1_3,.slice ao1_3 k1_3 c1_3],?_,hC _ _ ⟨_,rfl,_,_,_,rfl,m0_0,_,_,_,rfl,m0_1,_,_,_,rfl,m0_2,_,_,_,rfl,m1_0,_,_,_,rfl,m1_1,_,_,_,rfl,m1_2,_,_,_,rfl,m1_3,rfl⟩⟩
 generalize (lay os.toArray L vs os.toArray.size a).eval=ρ at e0 e1
 simp [execOp,go_sem,e0,e1]
end
theorem zUv {wb w:World} {v:Value} {b:Nat} {bo1 mo1 bo2 mo2 bo3 mo3:Nat} {Fo1 Fo2 Fo3:Fq} {fa fb fc x1 x2 x3 x4 y1 y2 y3 y4:Int} (E:Fr wb [(b,14,Fq.st [.n fa,.n fb,.n fc,.n x1,.n x2,.n x3,.n x4]),(bo1,mo1,Fo1),(bo2,mo2,Fo2),(bo3,mo3,Fo3)] w) (h:(Fq.st [.n y1,.n y2,.n y3,.n y4]).P v w) (hS:ab fa<pw 60∧ab fb<pw 60∧ab fc<pw 60∧ab x1<pw 60∧ab x2<pw 60∧ab x3<pw 60∧ab x4<pw 60) (hY:ab y1<pw 60∧ab y2<pw 60∧ab y3<pw 60∧ab y4<pw 60) :
  Calls Tryz.prog 120 #[.pointer (some ⟨b,0,none⟩),v] w fun e w'=>∃ v',e=.returned v'∧Fr wb [(b,14,Fq.st [.n (qv fa fb fc y1 y3),.n (qm fa fb fc y1 y2 y3 y4),.n (qv fa fb fc y2 y4),.n ((x1*y1)+(x2*y3)),.n ((x1*y2)+(x2*y4)),.n ((x3*y1)+(x4*y3)),.n ((x3*y2)+(x4*y4))]),(bo1,mo1,Fo1),(bo2,mo2,Fo2),(bo3,mo3,Fo3)] w':=by
 replace hS:=hidd hS
 replace hY:=hidd hY
 obtain ⟨k0,hs0⟩:∃ k,w.heap.size=k:=⟨_,rfl⟩
 obtain ⟨_,rfl,hf1⟩:=h
 have hF1:=hf1
 obtain ⟨y1_p0,y1_q0,_,rfl,_y1_n0,y1_p1,y1_q1,_,rfl,_y1_n1,y1_p2,y1_q2,_,rfl,_y1_n2,y1_p3,y1_q3,_,rfl,_y1_n3,rfl⟩:=hf1
 obtain ⟨w1,b1,hw1,hb1,hs1,E⟩:=zDm E hs0 (F:=Fq.st [.n y1,.n y2,.n y3,.n y4]) (us:=[y1_p0,y1_q0,y1_p1,y1_q1,y1_p2,y1_q2,y1_p3,y1_q3]) 67 rfl (by simp) hF1.tame (show (Fq.st [.n y1,.n y2,.n y3,.n y4]).P _ w from ⟨_,rfl,hF1⟩)
 go_enter Tryz.func120,Tryz.ntmps120
 go_upto_region 1 with (fail)
 rw [← hw1,← hb1]
 clear hw1 hb1 hs1 hs0
 refine rz [.p b 0,.p b 0,.p b 0,.p b 0,.w (f3 fa fb fc),.w (Fq.st [.n y1,.n y2,.n y3,.n y4]),.w (f3 (qv fa fb fc y1 y3) (qm fa fb fc y1 y2 y3 y4) (qv fa fb fc y2 y4)),.p b 0,.p b 0,.a] [none,some (9,Fq.st [.n (qv fa fb fc y1 y3),.n (qm fa fb fc y1 y2 y3 y4),.n (qv fa fb fc y2 y4),.n x1,.n x2,.n x3,.n x4]),none,none,none] [] E (fun hp=>⟨zS,zS,zAu (F:=fun v _=>v=.pointer (some ⟨b,0,none⟩)) hp fo tv (sqi 1) (fun ρ w hc h=>⟨.pointer (some ⟨b,0,none⟩),by simp [execOp,go_sem,h],rfl⟩),qa b 0 0 hp zi,zCz (off:=0) (l:=6) hp fo tv J1 (.inr rfl) rfl zAc rfl (sqi 3) (fun v w h=>h),lS 0 8 hp J0 zEz zw,zC hp zOs zi zi fun v v' w h h'=>zPd h h' (zu hS.out.1) (zu hS.out.2.1) (zu hS.out.2.2.1) (zu hY.out.1) (zu hY.out.2.1) (zu hY.out.2.2.1) (zu hY.out.2.2.2),zAu (F:=fun v _=>v=.pointer (some ⟨b,0,none⟩)) hp fo tv (sqi 0) (fun ρ w hc h=>⟨.pointer (some ⟨b,0,none⟩),by simp [execOp,go_sem,h],rfl⟩),qa b 0 0 hp zi,zEw (off:=0) (fs:=[.n fa,.n fb,.n fc,.n x1,.n x2,.n x3,.n x4]) (gs:=[.n (qv fa fb fc y1 y3),.n (qm fa fb fc y1 y2 y3 y4),.n (qv fa fb fc y2 y4)]) (fs':=[.n (qv fa fb fc y1 y3),.n (qm fa fb fc y1 y2 y3 y4),.n (qv fa fb fc y2 y4),.n x1,.n x2,.n x3,.n x4]) hp J1 rfl rfl rfl zAn rfl (sqi 8) (zA9 6 rfl rfl (by simp) rfl (fun v w h=>zGg h)) (fun _ _=>trivial) (zBj rfl),tv⟩) ?_
 intro w2 E _ _
 simp only [rzE] at E ⊢
 go_upto_region 2 with (fail)
 refine rz [.p b 0,.p b 0,.p b 0,.p b 6,.w (Fq.st [.n x1,.n x2,.n x3,.n x4]),.w (Fq.st [.n y1,.n y2,.n y3,.n y4]),.w (Fq.st [.n ((x1*y1)+(x2*y3)),.n ((x1*y2)+(x2*y4)),.n ((x3*y1)+(x4*y3)),.n ((x3*y2)+(x4*y4))]),.p b 0,.p b 6,.a] [none,some (9,Fq.st [.n (qv fa fb fc y1 y3),.n (qm fa fb fc y1 y2 y3 y4),.n (qv fa fb fc y2 y4),.n ((x1*y1)+(x2*y3)),.n ((x1*y2)+(x2*y4)),.n ((x3*y1)+(x4*y3)),.n ((x3*y2)+(x4*y4))]),none,none,none] [] E (fun hp=>⟨zS,zS,zAu (F:=fun v _=>v=.pointer (some ⟨b,0,none⟩)) hp fo tv (sqi 1) (fun ρ w hc h=>⟨.pointer (some ⟨b,0,none⟩),by simp [execOp,go_sem,h],rfl⟩),qa b 0 6 hp zi,zCz (off:=6) (l:=8) hp fo tv J1 (.inr rfl) rfl zEz rfl (sqi 3) (fun v w h=>h),lS 0 8 hp J0 zEz zw,zC hp zOu zi zi fun v v' w h h'=>zPi h h' (zu hS.out.2.2.2.1) (zu hS.out.2.2.2.2.1) (zu hS.out.2.2.2.2.2.1) (zu hS.out.2.2.2.2.2.2) (zu hY.out.1) (zu hY.out.2.1) (zu hY.out.2.2.1) (zu hY.out.2.2.2),zAu (F:=fun v _=>v=.pointer (some ⟨b,0,none⟩)) hp fo tv (sqi 0) (fun ρ w hc h=>⟨.pointer (some ⟨b,0,none⟩),by simp [execOp,go_sem,h],rfl⟩),qa b 0 6 hp zi,zEw (off:=6) (fs:=[.n (qv fa fb fc y1 y3),.n (qm fa fb fc y1 y2 y3 y4),.n (qv fa fb fc y2 y4),.n x1,.n x2,.n x3,.n x4]) (gs:=[.n ((x1*y1)+(x2*y3)),.n ((x1*y2)+(x2*y4)),.n ((x3*y1)+(x4*y3)),.n ((x3*y2)+(x4*y4))]) (fs':=[.n (qv fa fb fc y1 y3),.n (qm fa fb fc y1 y2 y3 y4),.n (qv fa fb fc y2 y4),.n ((x1*y1)+(x2*y3)),.n ((x1*y2)+(x2*y4)),.n ((x3*y1)+(x4*y3)),.n ((x3*y2)+(x4*y4))]) hp J1 rfl rfl rfl zEh rfl (sqi 8) (zA9 6 rfl rfl (by simp) rfl (fun v w h=>zGg h)) (fun _ _=>trivial) (zBj rfl),tv⟩) ?_
 intro w3 E _ _
 simp only [rzE] at E ⊢
 clear hS hY
 exact bodyPost_end (results_none rfl _ _ _) rfl ⟨_,rfl,E.drop⟩

theorem zUw {wb w:World} {v:Value} {b:Nat} {p1 q1:Nat} {P1:Fq} {p2 q2:Nat} {P2:Fq} {bo1 mo1 bo2 mo2 bo3 mo3:Nat} {Fo1 Fo2 Fo3:Fq} {fa fb fc x1 x2 x3 x4 y1 y2 y3 y4:Int} (E:Fr wb [(p1,q1,P1),(p2,q2,P2),(b,14,Fq.st [.n fa,.n fb,.n fc,.n x1,.n x2,.n x3,.n x4]),(bo1,mo1,Fo1),(bo2,mo2,Fo2),(bo3,mo3,Fo3)] w) (h:(Fq.st [.n y1,.n y2,.n y3,.n y4]).P v w) (hS:ab fa<pw 60∧ab fb<pw 60∧ab fc<pw 60∧ab x1<pw 60∧ab x2<pw 60∧ab x3<pw 60∧ab x4<pw 60) (hY:ab y1<pw 60∧ab y2<pw 60∧ab y3<pw 60∧ab y4<pw 60) :
  Calls Tryz.prog 120 #[.pointer (some ⟨b,0,none⟩),v] w fun e w'=>∃ v',e=.returned v'∧Fr wb [(p1,q1,P1),(p2,q2,P2),(b,14,Fq.st [.n (qv fa fb fc y1 y3),.n (qm fa fb fc y1 y2 y3 y4),.n (qv fa fb fc y2 y4),.n ((x1*y1)+(x2*y3)),.n ((x1*y2)+(x2*y4)),.n ((x3*y1)+(x4*y3)),.n ((x3*y2)+(x4*y4))]),(bo1,mo1,Fo1),(bo2,mo2,Fo2),(bo3,mo3,Fo3)] w':=by
 replace hS:=hidd hS
 replace hY:=hidd hY
 obtain ⟨k0,hs0⟩:∃ k,w.heap.size=k:=⟨_,rfl⟩
 obtain ⟨_,rfl,hf1⟩:=h
 have hF1:=hf1
 obtain ⟨y1_p0,y1_q0,_,rfl,_y1_n0,y1_p1,y1_q1,_,rfl,_y1_n1,y1_p2,y1_q2,_,rfl,_y1_n2,y1_p3,y1_q3,_,rfl,_y1_n3,rfl⟩:=hf1
 obtain ⟨w1,b1,hw1,hb1,hs1,E⟩:=zDm E hs0 (F:=Fq.st [.n y1,.n y2,.n y3,.n y4]) (us:=[y1_p0,y1_q0,y1_p1,y1_q1,y1_p2,y1_q2,y1_p3,y1_q3]) 67 rfl (by simp) hF1.tame (show (Fq.st [.n y1,.n y2,.n y3,.n y4]).P _ w from ⟨_,rfl,hF1⟩)
 go_enter Tryz.func120,Tryz.ntmps120
 go_upto_region 1 with (fail)
 rw [← hw1,← hb1]
 clear hw1 hb1 hs1 hs0
 refine rz [.p b 0,.p b 0,.p b 0,.p b 0,.w (f3 fa fb fc),.w (Fq.st [.n y1,.n y2,.n y3,.n y4]),.w (f3 (qv fa fb fc y1 y3) (qm fa fb fc y1 y2 y3 y4) (qv fa fb fc y2 y4)),.p b 0,.p b 0,.a] [none,none,none,some (9,Fq.st [.n (qv fa fb fc y1 y3),.n (qm fa fb fc y1 y2 y3 y4),.n (qv fa fb fc y2 y4),.n x1,.n x2,.n x3,.n x4]),none,none,none] [] E (fun hp=>⟨zS,zS,zAu (F:=fun v _=>v=.pointer (some ⟨b,0,none⟩)) hp fo tv (sqi 1) (fun ρ w hc h=>⟨.pointer (some ⟨b,0,none⟩),by simp [execOp,go_sem,h],rfl⟩),qa b 0 0 hp zi,zCz (off:=0) (l:=6) hp fo tv J3 (.inr rfl) rfl zAc rfl (sqi 3) (fun v w h=>h),lS 0 8 hp J0 zEz zw,zC hp zOs zi zi fun v v' w h h'=>zPd h h' (zu hS.out.1) (zu hS.out.2.1) (zu hS.out.2.2.1) (zu hY.out.1) (zu hY.out.2.1) (zu hY.out.2.2.1) (zu hY.out.2.2.2),zAu (F:=fun v _=>v=.pointer (some ⟨b,0,none⟩)) hp fo tv (sqi 0) (fun ρ w hc h=>⟨.pointer (some ⟨b,0,none⟩),by simp [execOp,go_sem,h],rfl⟩),qa b 0 0 hp zi,zEw (off:=0) (fs:=[.n fa,.n fb,.n fc,.n x1,.n x2,.n x3,.n x4]) (gs:=[.n (qv fa fb fc y1 y3),.n (qm fa fb fc y1 y2 y3 y4),.n (qv fa fb fc y2 y4)]) (fs':=[.n (qv fa fb fc y1 y3),.n (qm fa fb fc y1 y2 y3 y4),.n (qv fa fb fc y2 y4),.n x1,.n x2,.n x3,.n x4]) hp J3 rfl rfl rfl zAn rfl (sqi 8) (zA9 6 rfl rfl (by simp) rfl (fun v w h=>zGg h)) (fun _ _=>trivial) (zBj rfl),tv⟩) ?_
 intro w2 E _ _
 simp only [rzE] at E ⊢
 go_upto_region 2 with (fail)
 refine rz [.p b 0,.p b 0,.p b 0,.p b 6,.w (Fq.st [.n x1,.n x2,.n x3,.n x4]),.w (Fq.st [.n y1,.n y2,.n y3,.n y4]),.w (Fq.st [.n ((x1*y1)+(x2*y3)),.n ((x1*y2)+(x2*y4)),.n ((x3*y1)+(x4*y3)),.n ((x3*y2)+(x4*y4))]),.p b 0,.p b 6,.a] [none,none,none,some (9,Fq.st [.n (qv fa fb fc y1 y3),.n (qm fa fb fc y1 y2 y3 y4),.n (qv fa fb fc y2 y4),.n ((x1*y1)+(x2*y3)),.n ((x1*y2)+(x2*y4)),.n ((x3*y1)+(x4*y3)),.n ((x3*y2)+(x4*y4))]),none,none,none] [] E (fun hp=>⟨zS,zS,zAu (F:=fun v _=>v=.pointer (some ⟨b,0,none⟩)) hp fo tv (sqi 1) (fun ρ w hc h=>⟨.pointer (some ⟨b,0,none⟩),by simp [execOp,go_sem,h],rfl⟩),qa b 0 6 hp zi,zCz (off:=6) (l:=8) hp fo tv J3 (.inr rfl) rfl zEz rfl (sqi 3) (fun v w h=>h),lS 0 8 hp J0 zEz zw,zC hp zOu zi zi fun v v' w h h'=>zPi h h' (zu hS.out.2.2.2.1) (zu hS.out.2.2.2.2.1) (zu hS.out.2.2.2.2.2.1) (zu hS.out.2.2.2.2.2.2) (zu hY.out.1) (zu hY.out.2.1) (zu hY.out.2.2.1) (zu hY.out.2.2.2),zAu (F:=fun v _=>v=.pointer (some ⟨b,0,none⟩)) hp fo tv (sqi 0) (fun ρ w hc h=>⟨.pointer (some ⟨b,0,none⟩),by simp [execOp,go_sem,h],rfl⟩),qa b 0 6 hp zi,zEw (off:=6) (fs:=[.n (qv fa fb fc y1 y3),.n (qm fa fb fc y1 y2 y3 y4),.n (qv fa fb fc y2 y4),.n x1,.n x2,.n x3,.n x4]) (gs:=[.n ((x1*y1)+(x2*y3)),.n ((x1*y2)+(x2*y4)),.n ((x3*y1)+(x4*y3)),.n ((x3*y2)+(x4*y4))]) (fs':=[.n (qv fa fb fc y1 y3),.n (qm fa fb fc y1 y2 y3 y4),.n (qv fa fb fc y2 y4),.n ((x1*y1)+(x2*y3)),.n ((x1*y2)+(x2*y4)),.n ((x3*y1)+(x4*y3)),.n ((x3*y2)+(x4*y4))]) hp J3 rfl rfl rfl zEh rfl (sqi 8) (zA9 6 rfl rfl (by simp) rfl (fun v w h=>zGg h)) (fun _ _=>trivial) (zBj rfl),tv⟩) ?_
 intro w3 E _ _
 simp only [rzE] at E ⊢
 clear hS hY
 exact bodyPost_end (results_none rfl _ _ _) rfl ⟨_,rfl,E.drop⟩

theorem exPSwap {wb w:World} {b:Nat} {bo1 mo1 bo2 mo2 bo3 mo3:Nat} {Fo1 Fo2 Fo3:Fq} {S:RS} (E:Fr wb [(b,14,Fq.st [.n S.fa,.n S.fb,.n S.fc,.n S.x1,.n S.x2,.n S.x3,.n S.x4]),(bo1,mo1,Fo1),(bo2,mo2,Fo2),(bo3,mo3,Fo3)] w) (hB:RB S) :
  Calls Tryz.prog 74 #[.pointer (some ⟨b,0,none⟩)] w fun e w'=>∃ v',e=.returned v'∧Fr wb [(b,14,Fq.st [.n ((rsw S).fa),.n ((rsw S).fb),.n ((rsw S).fc),.n ((rsw S).x1),.n ((rsw S).x2),.n ((rsw S).x3),.n ((rsw S).x4)]),(bo1,mo1,Fo1),(bo2,mo2,Fo2),(bo3,mo3,Fo3)] w':=by
 replace hB:=hidd hB
 go_enter Tryz.func74,Tryz.ntmps74
 go_upto_region 0 with (fail)
 have B1:Hid (ab ((-1))<pw 3):=zB5 zd
 have B2:Hid (ab ((1))<pw 3):=zB5 zd
 refine zIk (C:=[Fq.is (.pointer (some ⟨b,0,none⟩)),Fq.num (-1),Fq.num (1),Fq.st [.n 0,.n (-1),.n (1),.n 0],Fq.any]) (ks:=[none,none,none,none]) (bs':=[(b,14,Fq.st [.n ((rsw S).fa),.n ((rsw S).fb),.n ((rsw S).fc),.n ((rsw S).x1),.n ((rsw S).x2),.n ((rsw S).x3),.n ((rsw S).x4)]),(bo1,mo1,Fo1),(bo2,mo2,Fo2),(bo3,mo3,Fo3)]) 4 rfl rfl E rfl rfl (by kernel_rfl) rfl rfl rfl (fun hp=>⟨?_,?_,?_,?_,tv⟩) ?_ ?_
 ·exact zAi hp fo tv (sqo 0)
 ·exact zBp (F:=(Fq.is (.int .i64 (-1))).P) hp fo tv (zBw) (zAk (fun _=>rfl)) (fun v w h=>(by subst h;exact OfK w (-1) zm zm))
 ·exact zBp (F:=(Fq.is (.int .i64 1)).P) hp fo tv (zBw) (zAk (fun _=>rfl)) (fun v w h=>(by subst h;exact OfK w (1) zm zm))
 ·exact zW7 (z1:=(-1)) (z2:=(1)) hp fo tv (sqi 1) (sqi 2) (fun v w h=>h)
 ·intro hp;exact zRm (G:=(Fq.st [.n 0,.n (-1),.n (1),.n 0]).P) (zOy) (sqi 0) (sqi 3) trivial (fun v w E h=>(by have hh:=zUv E h ⟨(zu hB.out.1.1),(zu hB.out.1.2.1),(zu hB.out.1.2.2),(zu hB.out.2.1),(zu hB.out.2.2.1),(zu hB.out.2.2.2.1),(zu hB.out.2.2.2.2)⟩ ⟨(zu (zB5 zd)),(zu (zB5 zd)),(zu (zB5 zd)),(zu (zB5 zd))⟩;rw [rsw_a,rsw_b,rsw_c] at hh;exact hh))
 intro L vs w3 hL E3
 have E:=E3;try simp only [LM,zAj] at E
 rw [zAo hL]
 simp only [zP,Nat.zero_add,Nat.reduceAdd]
 generalize vs 0=u3_0
 generalize vs 1=u3_1
 generalize vs 2=u3_2
 generalize vs 3=u3_3
 generalize vs 4=u3_4
 clear E3 hL vs L
 clear B1 B2 hB
 exact bodyPost_end (results_none rfl _ _ _) rfl ⟨_,rfl,E⟩

theorem zPg {wb w:World} {b:Nat} {bo1 mo1 bo2 mo2 bo3 mo3:Nat} {Fo1 Fo2 Fo3:Fq} {S:RS} (E:Fr wb [(b,14,Fq.st [.n S.fa,.n S.fb,.n S.fc,.n S.x1,.n S.x2,.n S.x3,.n S.x4]),(bo1,mo1,Fo1),(bo2,mo2,Fo2),(bo3,mo3,Fo3)] w) (hB:RB S) (h0:0<S.fa) :
  Calls Tryz.prog 73 #[.pointer (some ⟨b,0,none⟩)] w fun e w'=>∃ v',e=.returned v'∧Fr wb [(b,14,Fq.st [.n ((rsh S).fa),.n ((rsh S).fb),.n ((rsh S).fc),.n ((rsh S).x1),.n ((rsh S).x2),.n ((rsh S).x3),.n ((rsh S).x4)]),(bo1,mo1,Fo1),(bo2,mo2,Fo2),(bo3,mo3,Fo3)] w':=by
 replace hB:=hidd hB
 have HNE:Hid (2*S.fa≠0):=by show _≠_;omega
 have BQ:Hid (ab ((S.fa-S.fb)/(2*S.fa))<pw 15):=zHp (zCm hB.out.1.1 hB.out.1.2.1 zm zm)
 clear h0
 go_enter Tryz.func73,Tryz.ntmps73
 go_upto_region 0 with (fail)
 have B1:Hid (ab ((S.fa-S.fb))<pw 12):=zCm hB.out.1.1 hB.out.1.2.1 zm zm
 have B2:Hid (ab ((2*S.fa))<pw 8):=zu (zBv (zAr (x:=2) zd zd) hB.out.1.1)
 have B3:Hid (ab (((S.fa-S.fb) % (2*S.fa)))<pw 8):=zCf HNE.out B2.out
 refine rz [.p b 0,.p b 0,.p b 0,.p b 0,.n S.fa,.p b 0,.p b 0,.p b 0,.p b 2,.n S.fb,.n (S.fa-S.fb),.p b 0,.p b 0,.p b 0,.p b 0,.n S.fa,.n (2*S.fa),.w (Fq.tup3 (Fq.num ((S.fa-S.fb)/(2*S.fa))) (Fq.num ((S.fa-S.fb) % (2*S.fa))) (Fq.is (.int .i64 0))),.w (Fq.tup3 (Fq.num ((S.fa-S.fb)/(2*S.fa))) (Fq.num ((S.fa-S.fb) % (2*S.fa))) (Fq.is (.int .i64 0))),.n ((S.fa-S.fb)/(2*S.fa)),.n ((S.fa-S.fb) % (2*S.fa)),.i 0,.k,.k,.a,.a,.i 0] N4 [⟨22,24,2,Fq.num 0,Fq.num ((S.fa-S.fb)/(2*S.fa)),none⟩,⟨23,25,2,Fq.num 0,Fq.num ((S.fa-S.fb) % (2*S.fa)),none⟩] E (fun hp=>⟨zS,zAu (F:=fun v _=>v=.pointer (some ⟨b,0,none⟩)) hp fo tv (sqi 0) (fun ρ w hc h=>⟨.pointer (some ⟨b,0,none⟩),by simp [execOp,go_sem,h],rfl⟩),qa b 0 0 hp zi,qa b 0 0 hp zi,lN 0 2 hp J0 zAa zi,zS,zAu (F:=fun v _=>v=.pointer (some ⟨b,0,none⟩)) hp fo tv (sqi 5) (fun ρ w hc h=>⟨.pointer (some ⟨b,0,none⟩),by simp [execOp,go_sem,h],rfl⟩),qa b 0 0 hp zi,qa b 0 2 hp zi,lN 2 2 hp J0 zAa zi,zC hp zF6 zi zi fun v v' w h h'=>exK (SubV h h') B1.out zm,zS,zAu (F:=fun v _=>v=.pointer (some ⟨b,0,none⟩)) hp fo tv (sqi 11) (fun ρ w hc h=>⟨.pointer (some ⟨b,0,none⟩),by simp [execOp,go_sem,h],rfl⟩),qa b 0 0 hp zi,qa b 0 0 hp zi,lN 0 2 hp J0 zAa zi,zc hp zLj zi fun v w h=>zLt h (zu hB.out.1.1),zC hp zF3 zi zi fun v v' w h h'=>zGa h h' HNE.out (Int.lt_of_lt_of_le BQ.out (zBu (by omega:15≤15))) B3.out zm zm,zS,zS,zS,zS,aN hp J0,aN hp J1,sN 19 hp J0,sN 20 hp J1,zS,tv⟩) ?_
 intro w4 b4_22 b4_23 E _ _
 simp only [rzE] at E ⊢
 go_upto_region 1 with (fail)
 have B5:Hid (ab ((1))<pw 3):=zB5 zd
 refine zIk (C:=[Fq.is (.pointer (some ⟨b,0,none⟩)),Fq.num (1),Fq.num ((S.fa-S.fb)/(2*S.fa)),Fq.num (1),Fq.st [.n (1),.n ((S.fa-S.fb)/(2*S.fa)),.n 0,.n (1)],Fq.any]) (ks:=[none,none,none,none,none,none]) (bs':=[(b4_22,2,Fq.num ((S.fa-S.fb)/(2*S.fa))),(b4_23,2,Fq.num ((S.fa-S.fb) % (2*S.fa))),(b,14,Fq.st [.n ((rsh S).fa),.n ((rsh S).fb),.n ((rsh S).fc),.n ((rsh S).x1),.n ((rsh S).x2),.n ((rsh S).x3),.n ((rsh S).x4)]),(bo1,mo1,Fo1),(bo2,mo2,Fo2),(bo3,mo3,Fo3)]) 5 rfl rfl E rfl rfl (by kernel_rfl) rfl rfl rfl (fun hp=>⟨?_,?_,?_,?_,?_,tv⟩) ?_ ?_
 ·exact zAi hp fo tv (sqo 0)
 ·exact zBp (F:=(Fq.is (.int .i64 1)).P) hp fo tv (zBw) (zAk (fun _=>rfl)) (fun v w h=>(by subst h;exact OfK w (1) zm zm))
 ·exact lI 0 hp J0 (sqo 2) fun us w hl h=>zAz hl h
 ·exact zBp (F:=(Fq.is (.int .i64 1)).P) hp fo tv (zBw) (zAk (fun _=>rfl)) (fun v w h=>(by subst h;exact OfK w (1) zm zm))
 ·exact zW5 (z0:=(1)) (z1:=((S.fa-S.fb)/(2*S.fa))) (z3:=(1)) hp fo tv (sqi 1) (sqi 2) (sqi 3) (fun v w h=>h)
 ·intro hp;exact zRm (G:=(Fq.st [.n (1),.n ((S.fa-S.fb)/(2*S.fa)),.n 0,.n (1)]).P) (zOy) (sqi 0) (sqi 4) trivial (fun v w E h=>(by have hh:=zUw E h ⟨(zu hB.out.1.1),(zu hB.out.1.2.1),(zu hB.out.1.2.2),(zu hB.out.2.1),(zu hB.out.2.2.1),(zu hB.out.2.2.2.1),(zu hB.out.2.2.2.2)⟩ ⟨(zu (zB5 zd)),(zu BQ.out),(zu (zB5 zd)),(zu (zB5 zd))⟩;rw [rsh_a,rsh_b,rsh_c] at hh;exact hh))
 intro L vs w6 hL E6
 have E:=E6;try simp only [LM,zAj] at E
 rw [zAo hL]
 simp only [zP,Nat.zero_add,Nat.reduceAdd]
 generalize vs 0=u6_0
 generalize vs 1=u6_1
 generalize vs 2=u6_2
 generalize vs 3=u6_3
 generalize vs 4=u6_4
 generalize vs 5=u6_5
 clear E6 hL vs L
 clear HNE
 clear B1 B2 B3 B5 hB BQ
 exact bodyPost_end (results_none rfl _ _ _) rfl ⟨_,rfl,E.drop.drop⟩

theorem zVj {w:World} {v:Value} {a b c:Int} (h:(f3 a b c).P v w) (ha:ab a<pw 5) (hb:ab b<pw 11) (hc:ab c<pw 24) (hD:ab (b*b-4*(a*c))<pw 20) (hd:(b*b-4*(a*c))<0) (h0:0<a) :
  Rt 28 #[v] w fun v' w'=>(Fq.red (zC0 a b c)).P v' w':=by
 replace ha:=hidd ha
 replace hb:=hidd hb
 replace hc:=hidd hc
 have HD:=hidd hd
 have HP:=hidd h0
 have HC:Hid (redE a b c=0):=zFs hd h0
 have HD20:=hidd hD
 have HDB:Hid (ab (b*b-4*(a*c))<pw 40):=zu hD
 have HS0:=hidd ((RIn.one h0 hb.out hc.out).bds ha.out hc.out hd:RB ⟨1,0,0,1,a,b,c⟩)
 clear hd h0 hD
 obtain ⟨y0_p0,y0_q0,y0_p1,y0_q1,y0_p2,y0_q2,rfl,hF0⟩:=o3 h
 obtain ⟨w1,b1,hw1,hb1,hs1,E⟩:=gS w 38 hF0
 obtain ⟨w2,b2,hw2,hb2,hs2,E⟩:=fO E hs1 38 zAt
 obtain ⟨w3,b3,hw3,hb3,hs3,E⟩:=fO E hs2 67 zEo
 go_enter Tryz.func28,Tryz.ntmps28
 go_upto_region 1 with (fail)
 rw [← hw1,← hw2]
 rw [← hw3,← hb3]
 rw [← hb2,← hb1]
 clear hw1 hw2 hw3 hb1 hb2 hb3 hs3 hs1 hs2
 refine rz [.w (f3 a b c),.i 0,.i 0] N3 [] E (fun hp=>⟨lS 0 6 hp J2 zAc zw,zc hp zJk zi fun v w h=>zLr h (zu ha.out) (zu hb.out) (zu hc.out) HDB.out HC.out,zS,tv⟩) ?_
 intro w4 E _ _
 simp only [rzE] at E ⊢
 go_upto_region 2 with (fail)
 refine rz [.i 0,.o] N3 [] E (fun hp=>⟨zS,zo hp (sqi 0),tv⟩) ?_
 intro w5 E _ _
 simp only [rzE] at E ⊢
 clear HC HDB
 go_upto_region 4 with (fail)
 have B6:Hid (ab ((1))<pw 3):=zB5 zd
 refine rz [.w (f3 a b c),.n (1),.n (1),.w (Fq.st [.n (1),.n 0,.n 0,.n (1)]),.w (Fq.st [.n a,.n b,.n c,.n (1),.n 0,.n 0,.n (1)]),.k,.a] N3 [⟨5,6,14,Fq.st [.n 0,.n 0,.n 0,.n 0,.n 0,.n 0,.n 0],Fq.st [.n a,.n b,.n c,.n (1),.n 0,.n 0,.n (1)],none⟩] E (fun hp=>⟨lS 0 6 hp J2 zAc zw,zBp (F:=(Fq.is (.int .i64 1)).P) hp fo tv (zBw) (zAk (fun _=>rfl)) (fun v w h=>(by subst h;exact OfK w (1) zm zm)),zBp (F:=(Fq.is (.int .i64 1)).P) hp fo tv (zBw) (zAk (fun _=>rfl)) (fun v w h=>(by subst h;exact OfK w (1) zm zm)),zW6 (z0:=(1)) (z3:=(1)) hp fo tv (sqi 1) (sqi 2) (fun v w h=>h),zW8 (z0_0:=a) (z0_1:=b) (z0_2:=c) (z1_0:=(1)) (z1_1:=0) (z1_2:=0) (z1_3:=(1)) hp fo tv (sqi 0) (sqi 3) (fun v w h=>h),aS hp J0 zV9 zXf,sS 4 hp J0 zXu,tv⟩) ?_
 intro w7 b7_5 E _ _
 simp only [rzE] at E ⊢
 go_upto_region 5 with (fail)
 refine zIk (C:=[Fq.any]) (ks:=[none,none,none,none]) (bs':=[(b7_5,14,Fq.st [.n ((rsh ⟨1,0,0,1,a,b,c⟩).fa),.n ((rsh ⟨1,0,0,1,a,b,c⟩).fb),.n ((rsh ⟨1,0,0,1,a,b,c⟩).fc),.n ((rsh ⟨1,0,0,1,a,b,c⟩).x1),.n ((rsh ⟨1,0,0,1,a,b,c⟩).x2),.n ((rsh ⟨1,0,0,1,a,b,c⟩).x3),.n ((rsh ⟨1,0,0,1,a,b,c⟩).x4)]),(b3,8,Fq.st [.n 0,.n 0,.n 0,.n 0]),(b2,6,f3 0 0 0),(b1,6,f3 a b c)]) 0 rfl rfl E rfl rfl (by kernel_rfl) rfl rfl rfl (fun hp=>trivial) ?_ ?_
 ·intro hp;exact zM2  (zOz) (sqo 6) trivial (fun w E=>zPg (S:=⟨1,0,0,1,a,b,c⟩) E HS0.out HP.out)
 intro L vs w8 hL E8
 have E:=E8;try simp only [LM,zAj] at E
 rw [zAo hL]
 simp only [zP,Nat.zero_add,Nat.reduceAdd]
 generalize vs 0=u8_0
 clear E8 hL vs L
 clear HS0
 have HE:=hidd E
 clear E
 obtain ⟨W0,rfl⟩:∃ W0,W0=w8:=⟨_,rfl⟩
 go_wp2_with (fail)
 go_loopw [20] (fun _ W=>∃ P:RS,PIn a b c P∧Fr w [(b7_5,14,Fq.st [.n P.fa,.n P.fb,.n P.fc,.n P.x1,.n P.x2,.n P.x3,.n P.x4]),(b3,8,Fq.st [.n 0,.n 0,.n 0,.n 0]),(b2,6,f3 0 0 0),(b1,6,f3 a b c)] W) (fun _ W=>frmMes W b7_5)
 case atStart=>exact ⟨_,PIn.start HP.out hb.out hc.out,HE.out⟩
 case round=>
  clear HE
  obtain ⟨V2,rfl⟩:∃ V2,V2=wr:=⟨_,rfl⟩
  obtain ⟨P,hI,E⟩:=hrel
  have HI:=hidd hI
  have HBS:=hidd (hI.at ha.out hb.out hc.out HD.out HD20.out).1
  have HME:=hidd (zPr (bq_pre (E.box 0 rfl)))
  clear hI
  go_upto_region 6 with (fail)
  by_cases hr:redB P.fa P.fb P.fc=true
  ·have HR:=hidd hr
   clear hr
   refine rz [.p b7_5 0,.w (f3 P.fa P.fb P.fc),.t,.o] N4 [] E (fun hp=>⟨qa b7_5 0 0 hp zw,lS 0 6 hp J0 zAc zi,zc hp zOw zi fun v w h=>zPf h (zu HBS.out.1.1) (zu HBS.out.1.2.1) (zu HBS.out.1.2.2) HR.out,zo hp (sqi 2),tv⟩) ?_
   intro w9 E _ _
   simp only [rzE] at E ⊢
   go_upto_region 9 with (fail)
   refine rz [.p b7_5 0,.w (f3 P.fa P.fb P.fc),.p b7_5 6,.w (Fq.st [.n P.x1,.n P.x2,.n P.x3,.n P.x4]),.a,.a,.i 0] [none,some (5,Fq.st [.n P.x1,.n P.x2,.n P.x3,.n P.x4]),some (4,f3 P.fa P.fb P.fc),none] [] E (fun hp=>⟨qa b7_5 0 0 hp zw,lS 0 6 hp J0 zAc zi,qa b7_5 0 6 hp zw,lS 6 8 hp J0 zEz zi,sO 0 1 hp J2 zAn zw,sO 0 3 hp J1 zEh zw,zS,tv⟩) ?_
   intro w10 E _ _
   simp only [rzE] at E ⊢
   obtain ⟨_,_,hccr,hffr⟩:=zAv (E.box 2 rfl)
   have hPr:=hffr
   obtain ⟨r_p0,r_q0,_,rfl,_r_n0,r_p1,r_q1,_,rfl,_r_n1,r_p2,r_q2,_,rfl,_r_n2,rfl⟩:=hffr
   have crz:=c6 hccr
   simp only [List.getD_cons_zero,List.getD_cons_succ] at crz
   clear hccr
   obtain ⟨_,_,hccq,hffq⟩:=zAv (E.box 1 rfl)
   have hPq:=hffq
   obtain ⟨q_p0,q_q0,_,rfl,_q_n0,q_p1,q_q1,_,rfl,_q_n1,q_p2,q_q2,_,rfl,_q_n2,q_p3,q_q3,_,rfl,_q_n3,rfl⟩:=hffq
   have cq0:=hccq 0 (by simp)
   have cq1:=hccq 1 (by simp)
   have cq2:=hccq 2 (by simp)
   have cq3:=hccq 3 (by simp)
   have cq4:=hccq 4 (by simp)
   have cq5:=hccq 5 (by simp)
   have cq6:=hccq 6 (by simp)
   have cq7:=hccq 7 (by simp)
   simp only [List.getD_cons_zero,List.getD_cons_succ] at cq0 cq1 cq2 cq3 cq4 cq5 cq6 cq7
   clear hccq
   have hEnd:=HI.out.red HR.out
   clear HI HME HR HD HP HD20
   clear B6 ha hb hc HBS
   go_wp2
   exact zR (v:=.tuple #[.agg #[r_p0,r_q0,r_p1,r_q1,r_p2,r_q2],.agg #[q_p0,q_q0,q_p1,q_q1,q_p2,q_q2,q_p3,q_q3],.int .i64 0]) (by simp [results,Tryz.results28,go_sem,crz,cq0,cq1,cq2,cq3,cq4,cq5,cq6,cq7]) E.below (by rw [hEnd];exact ⟨_,_,_,rfl,⟨_,rfl,hPr⟩,⟨_,rfl,hPq⟩,rfl⟩)
  ·have hr2:P.red=false:=Bool.eq_false_iff.2 hr
   obtain ⟨hN,hB2,hp2,hmm⟩:=HI.out.next ha.out hb.out hc.out HD.out HD20.out hr2
   have HR:=hidd (show redB P.fa P.fb P.fc=false from hr2)
   have HN:=hidd hN
   have HBT:=hidd hB2
   have HP2:=hidd hp2
   have HMM:=hidd hmm
   clear hr hr2 hN hB2 hp2 hmm
   refine rz [.p b7_5 0,.w (f3 P.fa P.fb P.fc),.o,.t] N4 [] E (fun hp=>⟨qa b7_5 0 0 hp zw,lS 0 6 hp J0 zAc zi,zc hp zOw zi fun v w h=>zPf h (zu HBS.out.1.1) (zu HBS.out.1.2.1) (zu HBS.out.1.2.2) HR.out,zo hp (sqi 2),tv⟩) ?_
   intro w11 E _ _
   simp only [rzE] at E ⊢
   go_upto_region 7 with (fail)
   refine zIk (C:=[Fq.any]) (ks:=[none,none,none,none]) (bs':=[(b7_5,14,Fq.st [.n ((rsw P).fa),.n ((rsw P).fb),.n ((rsw P).fc),.n ((rsw P).x1),.n ((rsw P).x2),.n ((rsw P).x3),.n ((rsw P).x4)]),(b3,8,Fq.st [.n 0,.n 0,.n 0,.n 0]),(b2,6,f3 0 0 0),(b1,6,f3 a b c)]) 0 rfl rfl E rfl rfl (by kernel_rfl) rfl rfl rfl (fun hp=>trivial) ?_ ?_
   ·intro hp;exact zM2  (zTx) (sqo 6) trivial (fun w E=>exPSwap (S:=P) E HBS.out)
   intro L vs w12 hL E12
   have E:=E12;try simp only [LM,zAj] at E
   rw [zAo hL]
   simp only [zP,Nat.zero_add,Nat.reduceAdd]
   generalize vs 0=u12_0
   clear E12 hL vs L
   go_upto_region 8 with (fail)
   refine zIk (C:=[Fq.any]) (ks:=[none,none,none,none]) (bs':=[(b7_5,14,Fq.st [.n ((rsh (rsw P)).fa),.n ((rsh (rsw P)).fb),.n ((rsh (rsw P)).fc),.n ((rsh (rsw P)).x1),.n ((rsh (rsw P)).x2),.n ((rsh (rsw P)).x3),.n ((rsh (rsw P)).x4)]),(b3,8,Fq.st [.n 0,.n 0,.n 0,.n 0]),(b2,6,f3 0 0 0),(b1,6,f3 a b c)]) 0 rfl rfl E rfl rfl (by kernel_rfl) rfl rfl rfl (fun hp=>trivial) ?_ ?_
   ·intro hp;exact zM2  (zOz) (sqo 6) trivial (fun w E=>zPg (S:=rsw P) E HBT.out HP2.out)
   intro L vs w13 hL E13
   have E:=E13;try simp only [LM,zAj] at E
   rw [zAo hL]
   simp only [zP,Nat.zero_add,Nat.reduceAdd]
   generalize vs 0=u13_0
   clear E13 hL vs L
   have hN:=HN.out
   have hME:=HME.out
   have hMM:=HMM.out
   have hRo:=HR.out
   have hM2:=zPr (bq_pre (E.box 0 rfl))
   rw [hRo] at hME
   clear HME HI HR HN HP2 HMM HD HP HD20
   clear B6 ha hb hc HBS HBT
   go_wp2
   go_roundw
   case rel=>exact ⟨_,hN,E⟩
   case measure=>
    rw [hM2,hME]
    simpa using hMM

theorem zVk {w:World} {v:Value} {a b c:Int} (h:(f3 a b c).P v w) (ha:ab a<pw 40) (hb:ab b<pw 40) (hc:ab c<pw 40) (hD:ab (b*b-4*(a*c))<pw 40) {er:Int} (he:redE a b c=er) (hn:¬ er=0) :
  Rt 28 #[v] w fun v' w'=>(Fq.tup3 (f3 0 0 0) (Fq.st [.n 0,.n 0,.n 0,.n 0]) (Fq.is (.int .i64 er))).P v' w':=by
 replace ha:=hidd ha
 replace hb:=hidd hb
 replace hc:=hidd hc
 have HC:=hidd he
 have HN:=hidd hn
 have HDB:=hidd hD
 clear he hn hD
 obtain ⟨y0_p0,y0_q0,y0_p1,y0_q1,y0_p2,y0_q2,rfl,hF0⟩:=o3 h
 obtain ⟨w1,b1,hw1,hb1,hs1,E⟩:=gS w 38 hF0
 obtain ⟨w2,b2,hw2,hb2,hs2,E⟩:=fO E hs1 38 zAt
 obtain ⟨w3,b3,hw3,hb3,hs3,E⟩:=fO E hs2 67 zEo
 go_enter Tryz.func28,Tryz.ntmps28
 go_upto_region 1 with (fail)
 rw [← hw1,← hw2]
 rw [← hw3,← hb3]
 rw [← hb2,← hb1]
 clear hw1 hw2 hw3 hb1 hb2 hb3 hs3 hs1 hs2
 refine rz [.w (f3 a b c),.i er,.i er] N3 [] E (fun hp=>⟨lS 0 6 hp J2 zAc zw,zc hp zJk zi fun v w h=>zLr h ha.out hb.out hc.out HDB.out HC.out,zS,tv⟩) ?_
 intro w4 E _ _
 simp only [rzE] at E ⊢
 go_upto_region 2 with (fail)
 refine rz [.i er,.t] N3 [] E (fun hp=>⟨zS,zO hp (sqi 0) HN.out,tv⟩) ?_
 intro w5 E _ _
 simp only [rzE] at E ⊢
 go_upto_region 3 with (fail)
 refine rz [.w (f3 0 0 0),.w (Fq.st [.n 0,.n 0,.n 0,.n 0]),.i er,.a,.a,.i er] [some (4,Fq.st [.n 0,.n 0,.n 0,.n 0]),some (3,f3 0 0 0),none] [] E (fun hp=>⟨zFn hp fo tv (fun v w h=>h),zW4 hp fo tv (fun v w h=>h),zS,sO 0 0 hp J1 zAn zw,sO 0 1 hp J0 zEh zw,zS,tv⟩) ?_
 intro w6 E _ _
 simp only [rzE] at E ⊢
 clear HC HN
 obtain ⟨_,_,hccr,hffr⟩:=zAv (E.box 1 rfl)
 have hPr:=hffr
 obtain ⟨r_p0,r_q0,_,rfl,_r_n0,r_p1,r_q1,_,rfl,_r_n1,r_p2,r_q2,_,rfl,_r_n2,rfl⟩:=hffr
 have crz:=c6 hccr
 simp only [List.getD_cons_zero,List.getD_cons_succ] at crz
 clear hccr
 obtain ⟨_,_,hccq,hffq⟩:=zAv (E.box 0 rfl)
 have hPq:=hffq
 obtain ⟨q_p0,q_q0,_,rfl,_q_n0,q_p1,q_q1,_,rfl,_q_n1,q_p2,q_q2,_,rfl,_q_n2,q_p3,q_q3,_,rfl,_q_n3,rfl⟩:=hffq
 have cq0:=hccq 0 (by simp)
 have cq1:=hccq 1 (by simp)
 have cq2:=hccq 2 (by simp)
 have cq3:=hccq 3 (by simp)
 have cq4:=hccq 4 (by simp)
 have cq5:=hccq 5 (by simp)
 have cq6:=hccq 6 (by simp)
 have cq7:=hccq 7 (by simp)
 simp only [List.getD_cons_zero,List.getD_cons_succ] at cq0 cq1 cq2 cq3 cq4 cq5 cq6 cq7
 clear hccq
 clear ha hb hc HDB
 go_wp2
 exact zR (v:=.tuple #[.agg #[r_p0,r_q0,r_p1,r_q1,r_p2,r_q2],.agg #[q_p0,q_q0,q_p1,q_q1,q_p2,q_q2,q_p3,q_q3],.int .i64 er]) (by simp [results,Tryz.results28,go_sem,crz,cq0,cq1,cq2,cq3,cq4,cq5,cq6,cq7]) E.below ⟨_,_,_,rfl,⟨_,rfl,hPr⟩,⟨_,rfl,hPq⟩,rfl⟩

open Classical in
noncomputable def redT (a b c:Int):RS:=if redE a b c=0 then zC0 a b c else ⟨0,0,0,0,0,0,0⟩
theorem zNa {a b c:Int} (h:redE a b c=0):redT a b c=zC0 a b c:=by unfold redT;rw [if_pos h]
theorem redT_no {a b c:Int} (h:¬ redE a b c=0):redT a b c=⟨0,0,0,0,0,0,0⟩:=by unfold redT;rw [if_neg h]
theorem zM9 {a b c:Int} (ha:ab a<pw 5) (hb:ab b<pw 11) (hc:ab c<pw 24) (hD:ab (b*b-4*(a*c))<pw 20):RB (redT a b c):=by
 by_cases h:redE a b c=0
 ·rw [zNa h]
  obtain ⟨hd,h0⟩:=zKk h
  exact (zRt ha hb hc hd hD h0).1.bds ha hc hd
 ·rw [redT_no h]
  have z:∀ k,1≤k→ab (0:Int)<pw k:=fun k hk=>Int.lt_of_lt_of_le (show ab (0:Int)<pw 1 by decide) (zBu hk)
  exact ⟨⟨z _ zm,z _ zm,z _ zm⟩,z _ zm,z _ zm,z _ zm,z _ zm⟩
theorem zRu {a b c:Int} (ha:ab a<pw 5) (hb:ab b<pw 11) (hc:ab c<pw 24) (hD:ab (b*b-4*(a*c))<pw 20) (h:redE a b c=0):Und a b c (redT a b c).x1 (redT a b c).x2 (redT a b c).x3 (redT a b c).x4 (redT a b c).fa (redT a b c).fb (redT a b c).fc∧Rdf (redT a b c).fa (redT a b c).fb (redT a b c).fc:=by
 rw [zNa h]
 obtain ⟨hd,h0⟩:=zKk h
 have h1:=zRt ha hb hc hd hD h0
 exact ⟨h1.1.u,h1.2⟩
theorem redT_RB {a b c:Int} (ha:ab a<pw 5) (hb:ab b<pw 5) (hc:ab c<pw 5):RB (redT a b c):=zM9 ha (zu hb) (zu hc) (zK9 ha hb hc)
theorem redT_in {a b c:Int} (ha:ab a<pw 5) (hb:ab b<pw 5) (hc:ab c<pw 5) (h:redE a b c=0):Und a b c (redT a b c).x1 (redT a b c).x2 (redT a b c).x3 (redT a b c).x4 (redT a b c).fa (redT a b c).fb (redT a b c).fc∧Rdf (redT a b c).fa (redT a b c).fb (redT a b c).fc:=zRu ha (zu hb) (zu hc) (zK9 ha hb hc) h
theorem disc_opp (a b c:Int):-b*-b-4*(a*c)=b*b-4*(a*c):=by rw [Int.neg_mul_neg]
theorem redE_opp {a b c:Int} (h:redE a b c=0):redE a (-b) c=0:=by
 obtain ⟨hd,h0⟩:=zKk h
 exact zFs (by rw [disc_opp];exact hd) h0
noncomputable def invT (a b c:Int):RS:=if redE a b c=0 then redT a (-b) c else ⟨0,0,0,0,0,0,0⟩
theorem zPh {w:World} {v:Value} {a b c:Int} (h:(f3 a b c).P v w) (ha:ab a<pw 5) (hb:ab b<pw 11) (hc:ab c<pw 24) (hD:ab (b*b-4*(a*c))<pw 20) :
  Rt 28 #[v] w fun v' w'=>(Fq.tup3 (Fq.st [.n (redT a b c).fa,.n (redT a b c).fb,.n (redT a b c).fc]) (Fq.st [.n (redT a b c).x1,.n (redT a b c).x2,.n (redT a b c).x3,.n (redT a b c).x4]) (Fq.is (.int .i64 (redE a b c)))).P v' w':=by
 by_cases he:redE a b c=0
 ·rw [zNa he,he]
  obtain ⟨hd,h0⟩:=zKk he
  exact zVj h ha hb hc hD hd h0
 ·rw [redT_no he]
  exact zVk h (zu ha) (zu hb) (zu hc) (zu hD) rfl he
theorem exPReduce {w:World} {v:Value} {a b c:Int} (h:(f3 a b c).P v w) (ha:ab a<pw 5) (hb:ab b<pw 5) (hc:ab c<pw 5) :
  Rt 28 #[v] w fun v' w'=>(Fq.tup3 (Fq.st [.n (redT a b c).fa,.n (redT a b c).fb,.n (redT a b c).fc]) (Fq.st [.n (redT a b c).x1,.n (redT a b c).x2,.n (redT a b c).x3,.n (redT a b c).x4]) (Fq.is (.int .i64 (redE a b c)))).P v' w':=zPh h ha (zu hb) (zu hc) (zK9 ha hb hc)

theorem zU4 {w:World} {v:Value} {a b c:Int} (h:(f3 a b c).P v w) (ha:ab a<pw 5) (hb:ab b<pw 5) (hc:ab c<pw 5) (hn:¬ redE a b c=0) :
  Rt 29 #[v] w fun v' w'=>(Fq.tup2 (f3 0 0 0) (Fq.is (.int .i64 (redE a b c)))).P v' w':=by
 replace ha:=hidd ha
 replace hb:=hidd hb
 replace hc:=hidd hc
 have HC:=hidd (rfl:redE a b c=redE a b c)
 have HN:=hidd hn
 clear hn
 obtain ⟨y0_p0,y0_q0,y0_p1,y0_q1,y0_p2,y0_q2,rfl,hF0⟩:=o3 h
 obtain ⟨w1,b1,hw1,hb1,hs1,E⟩:=gS w 38 hF0
 obtain ⟨w2,b2,hw2,hb2,hs2,E⟩:=fO E hs1 38 zAt
 go_enter Tryz.func29,Tryz.ntmps29
 go_upto_region 1 with (fail)
 rw [← hw1,← hw2]
 rw [← hb2,← hb1]
 clear hw1 hw2 hb1 hb2 hs2 hs1
 refine rz [.w (f3 a b c),.i (redE a b c),.i (redE a b c)] N2 [] E (fun hp=>⟨lS 0 6 hp J1 zAc zw,zc hp zJk zi fun v w h=>zPe h (zu ha.out) (zu hb.out) (zu hc.out) HC.out,zS,tv⟩) ?_
 intro w3 E _ _
 simp only [rzE] at E ⊢
 go_upto_region 2 with (fail)
 refine rz [.i (redE a b c),.t] N2 [] E (fun hp=>⟨zS,zO hp (sqi 0) HN.out,tv⟩) ?_
 intro w4 E _ _
 simp only [rzE] at E ⊢
 go_upto_region 3 with (fail)
 refine rz [.w (f3 0 0 0),.i (redE a b c),.a,.i (redE a b c)] [some (2,f3 0 0 0),none] [] E (fun hp=>⟨zFn hp fo tv (fun v w h=>h),zS,sO 0 0 hp J0 zAn zw,zS,tv⟩) ?_
 intro w5 E _ _
 simp only [rzE] at E ⊢
 clear HC HN
 obtain ⟨_,_,hccr,hffr⟩:=zAv (E.box 0 rfl)
 have hPr:=hffr
 obtain ⟨r_p0,r_q0,_,rfl,_r_n0,r_p1,r_q1,_,rfl,_r_n1,r_p2,r_q2,_,rfl,_r_n2,rfl⟩:=hffr
 have crz:=c6 hccr
 simp only [List.getD_cons_zero,List.getD_cons_succ] at crz
 clear hccr
 clear ha hb hc
 go_wp2
 exact zR (v:=.tuple #[.agg #[r_p0,r_q0,r_p1,r_q1,r_p2,r_q2],.int .i64 (redE a b c)]) (by simp [results,Tryz.results29,go_sem,crz]) E.below ⟨_,_,rfl,⟨_,rfl,hPr⟩,rfl⟩

theorem zU6 {w:World} {v:Value} {a b c:Int} (h:(f3 a b c).P v w) (ha:ab a<pw 5) (hb:ab b<pw 5) (hc:ab c<pw 5) (he:redE a b c=0) :
  Rt 29 #[v] w fun v' w'=>(Fq.tup2 (Fq.st [.n (redT a (-b) c).fa,.n (redT a (-b) c).fb,.n (redT a (-b) c).fc]) (Fq.is (.int .i64 0))).P v' w':=by
 replace ha:=hidd ha
 replace hb:=hidd hb
 replace hc:=hidd hc
 have HC:=hidd he
 clear he
 obtain ⟨ng,hng⟩:∃ ng,ng=-b:=⟨_,rfl⟩
 have hngb:ab ng<pw 5:=by rw [hng];unfold ab;rw [Int.natAbs_neg];exact hb.out
 have BN:=hidd hngb
 have HN:=hidd hng
 have HRE:Hid (redE a ng c=0):=by show _=_;rw [HN.out];exact redE_opp HC.out
 obtain ⟨S,hS⟩:∃ S,S=redT a ng c:=⟨_,rfl⟩
 have BS:=hidd (redT_RB ha.out hngb hc.out)
 rw [← hS] at BS
 have HS:=hidd hS
 clear hng hngb hS
 obtain ⟨y0_p0,y0_q0,y0_p1,y0_q1,y0_p2,y0_q2,rfl,hF0⟩:=o3 h
 obtain ⟨w1,b1,hw1,hb1,hs1,E⟩:=gS w 38 hF0
 obtain ⟨w2,b2,hw2,hb2,hs2,E⟩:=fO E hs1 38 zAt
 go_enter Tryz.func29,Tryz.ntmps29
 go_upto_region 1 with (fail)
 rw [← hw1,← hw2]
 rw [← hb2,← hb1]
 clear hw1 hw2 hb1 hb2 hs2 hs1
 refine rz [.w (f3 a b c),.i 0,.i 0] N2 [] E (fun hp=>⟨lS 0 6 hp J1 zAc zw,zc hp zJk zi fun v w h=>zPe h (zu ha.out) (zu hb.out) (zu hc.out) HC.out,zS,tv⟩) ?_
 intro w3 E _ _
 simp only [rzE] at E ⊢
 go_upto_region 2 with (fail)
 refine rz [.i 0,.o] N2 [] E (fun hp=>⟨zS,zo hp (sqi 0),tv⟩) ?_
 intro w4 E _ _
 simp only [rzE] at E ⊢
 go_upto_region 4 with (fail)
 refine rz [.p b1 2,.n b,.n ng,.p b1 2,.a] [none,some (4,f3 a ng c)] [] E (fun hp=>⟨qa b1 0 2 hp zw,zCz (off:=2) (l:=2) hp fo tv J1 (.inr rfl) rfl zAa rfl (sqi 0) (fun v w h=>zAe h),zc hp enq_Neg zi fun v w h=>(by rw [HN.out];exact exK (NegV h) (by rw [← HN.out];exact BN.out) zm),qa b1 0 2 hp zw,zEw (off:=2) (fs:=[.n a,.n b,.n c]) (gs:=[.n ng]) (fs':=[.n a,.n ng,.n c]) hp J1 rfl rfl rfl zIm rfl (sqi 3) (zA9 2 rfl rfl (by simp) rfl (fun v w h=>zH0 h)) (fun _ _=>trivial) (zBj rfl),tv⟩) ?_
 intro w5 E _ _
 simp only [rzE] at E ⊢
 go_upto_region 5 with (fail)
 refine rz [.w (f3 a ng c),.w (Fq.tup3 (f3 S.fa S.fb S.fc) (Fq.st [.n S.x1,.n S.x2,.n S.x3,.n S.x4]) (Fq.is (.int .i64 0))),.w (Fq.tup3 (f3 S.fa S.fb S.fc) (Fq.st [.n S.x1,.n S.x2,.n S.x3,.n S.x4]) (Fq.is (.int .i64 0))),.w (f3 S.fa S.fb S.fc),.w (Fq.st [.n S.x1,.n S.x2,.n S.x3,.n S.x4]),.i 0,.k,.k,.a,.a,.i 0] N2 [⟨6,8,6,f3 0 0 0,f3 S.fa S.fb S.fc,none⟩,⟨7,9,8,Fq.st [.n 0,.n 0,.n 0,.n 0],Fq.st [.n S.x1,.n S.x2,.n S.x3,.n S.x4],none⟩] E (fun hp=>⟨lS 0 6 hp J1 zAc zw,zc hp zOt zi fun v w h=>(by have hh:=exPReduce h ha.out BN.out hc.out;rw [← HS.out,HRE.out] at hh;exact hh),zS,zS,zS,zS,aS hp J0 zAt zB1,aS hp J1 zEo zM7,sS 3 hp J0 zAn,sS 4 hp J1 zEh,zS,tv⟩) ?_
 intro w6 b6_6 b6_7 E _ _
 simp only [rzE] at E ⊢
 go_upto_region 6 with (fail)
 refine rz [.w (f3 S.fa S.fb S.fc),.i 0,.a,.i 0] [none,none,some (2,f3 S.fa S.fb S.fc),none] [] E (fun hp=>⟨lS 0 6 hp J0 zAc zw,zS,sO 0 0 hp J2 zAn zw,zS,tv⟩) ?_
 intro w7 E _ _
 simp only [rzE] at E ⊢
 have hE:=HS.out
 have hN2:=HN.out
 clear HC HN HRE HS
 rw [hN2] at hE
 obtain ⟨_,_,hccr,hffr⟩:=zAv (E.box 2 rfl)
 have hPr:=hffr
 obtain ⟨r_p0,r_q0,_,rfl,_r_n0,r_p1,r_q1,_,rfl,_r_n1,r_p2,r_q2,_,rfl,_r_n2,rfl⟩:=hffr
 have crz:=c6 hccr
 simp only [List.getD_cons_zero,List.getD_cons_succ] at crz
 clear hccr
 clear ha hb hc BN BS
 rw [hE] at hPr
 go_wp2
 exact zR (v:=.tuple #[.agg #[r_p0,r_q0,r_p1,r_q1,r_p2,r_q2],.int .i64 0]) (by simp [results,Tryz.results29,go_sem,crz]) E.below ⟨_,_,rfl,⟨_,rfl,hPr⟩,rfl⟩

theorem zU5 {w:World} {v:Value} {a b c:Int} (h:(f3 a b c).P v w) (ha:ab a<pw 5) (hb:ab b<pw 5) (hc:ab c<pw 5) :
  Rt 29 #[v] w fun v' w'=>(Fq.tup2 (Fq.st [.n (invT a b c).fa,.n (invT a b c).fb,.n (invT a b c).fc]) (Fq.is (.int .i64 (redE a b c)))).P v' w':=by
 unfold invT
 by_cases he:redE a b c=0
 ·rw [if_pos he,he];exact zU6 h ha hb hc he
 ·rw [if_neg he];exact zU4 h ha hb hc he

structure El where
 x:Int
 y:Int
theorem El.ext' {a b:El} (h1:a.x=b.x) (h2:a.y=b.y):a=b:=by
 cases a;cases b;simp_all
def El.mul (t k:Int) (a b:El):El:=⟨a.x*b.x+k*(a.y*b.y),a.x*b.y+a.y*b.x+t*(a.y*b.y)⟩
def El.add (a b:El):El:=⟨a.x+b.x,a.y+b.y⟩
def El.nm (t k:Int) (a:El):Int:=a.x*a.x+t*(a.x*a.y)-k*(a.y*a.y)
variable {t k : Int}
theorem El.mul_comm (a b:El):a.mul t k b=b.mul t k a:=by
 apply El.ext' <;> simp only [El.mul] <;> grind
theorem El.mul_assoc (a b c:El):(a.mul t k b).mul t k c=a.mul t k (b.mul t k c):=by
 apply El.ext' <;> simp only [El.mul] <;> grind
theorem El.add_mul (a b c:El):(a.add b).mul t k c=(a.mul t k c).add (b.mul t k c):=by
 apply El.ext' <;> simp only [El.mul,El.add] <;> grind
theorem El.mul_add (a b c:El):a.mul t k (b.add c)=(a.mul t k b).add (a.mul t k c):=by
 apply El.ext' <;> simp only [El.mul,El.add] <;> grind
theorem El.nm_mul (a b:El):(a.mul t k b).nm t k=a.nm t k*b.nm t k:=by
 simp only [El.mul,El.nm];grind
inductive Sp (t k:Int) (S T:El→Prop):El→Prop
 | mul {a b:El}:S a→T b→Sp t k S T (a.mul t k b)
 | add {a b:El}:Sp t k S T a→Sp t k S T b→Sp t k S T (a.add b)
def Pm (t k:Int) (v:El) (S:El→Prop):El→Prop:=fun w=>∃ s,S s∧w=v.mul t k s
theorem Sp.swap {S T:El→Prop} {w:El} (h:Sp t k S T w):Sp t k T S w:=by
 induction h with
 | mul h1 h2=>rw [El.mul_comm];exact .mul h2 h1
 | add _ _ i1 i2=>exact .add i1 i2
theorem Sp.comm (S T:El→Prop):Sp t k S T=Sp t k T S:=funext fun _=>propext ⟨Sp.swap,Sp.swap⟩
theorem Sp.right {S T U:El→Prop} {w:El} (h:Sp t k (Sp t k S T) U w):Sp t k S (Sp t k T U) w:=by
 induction h with
 | mul h1 h2=>
  induction h1 with
  | mul g1 g2=>rw [El.mul_assoc];exact .mul g1 (.mul g2 h2)
  | add _ _ i1 i2=>rw [El.add_mul];exact .add i1 i2
 | add _ _ i1 i2=>exact .add i1 i2
theorem Sp.left {S T U:El→Prop} {w:El} (h:Sp t k S (Sp t k T U) w):Sp t k (Sp t k S T) U w:=by
 induction h with
 | mul h1 h2=>
  induction h2 with
  | mul g1 g2=>rw [← El.mul_assoc];exact .mul (.mul h1 g1) g2
  | add _ _ i1 i2=>rw [El.mul_add];exact .add i1 i2
 | add _ _ i1 i2=>exact .add i1 i2
theorem Sp.assoc (S T U:El→Prop):Sp t k (Sp t k S T) U=Sp t k S (Sp t k T U):=funext fun _=>propext ⟨Sp.right,Sp.left⟩
theorem Sp.pm (v:El) (S T:El→Prop):Sp t k (Pm t k v S) T=Pm t k v (Sp t k S T):=by
 funext w
 apply propext
 constructor
 ·intro h
  induction h with
  | mul h1 h2=>
   obtain ⟨s,hs,rfl⟩:=h1
   exact ⟨_,.mul hs h2,El.mul_assoc ..⟩
  | add _ _ i1 i2=>
   obtain ⟨s,hs,rfl⟩:=i1
   obtain ⟨u,hu,rfl⟩:=i2
   exact ⟨_,.add hs hu,(El.mul_add ..).symm⟩
 ·rintro ⟨s,hs,rfl⟩
  induction hs with
  | mul h1 h2=>rw [← El.mul_assoc];exact .mul ⟨_,h1,rfl⟩ h2
  | add _ _ i1 i2=>rw [El.mul_add];exact .add i1 i2
theorem Sp.pm2 (v:El) (S T:El→Prop):Sp t k S (Pm t k v T)=Pm t k v (Sp t k S T):=by
 rw [Sp.comm,Sp.pm,Sp.comm T S]
theorem Pm.pm (v u:El) (S:El→Prop):Pm t k v (Pm t k u S)=Pm t k (v.mul t k u) S:=by
 funext w
 apply propext
 constructor
 ·rintro ⟨_,⟨s,hs,rfl⟩,rfl⟩
  exact ⟨s,hs,(El.mul_assoc ..).symm⟩
 ·rintro ⟨s,hs,rfl⟩
  exact ⟨_,⟨s,hs,rfl⟩,El.mul_assoc ..⟩
def La (a b:Int):El→Prop:=fun w=>a ∣ w.x-b*w.y
theorem La.of (a b m n:Int):La a b ⟨m*a+n*b,n⟩:=⟨m,by simp only;grind⟩
theorem La.ex {a b:Int} {w:El} (h:La a b w):∃ m,w=⟨m*a+w.y*b,w.y⟩:=by
 obtain ⟨m,hm⟩:=h
 exact ⟨m,El.ext' (by simp only;grind) rfl⟩
theorem La.shift {a b b':Int} (h:a ∣ b-b'):La a b=La a b':=by
 obtain ⟨q,hq⟩:=h
 have hb:b=b'+a*q:=zm
 subst hb
 funext w
 apply propext
 constructor
 ·rintro ⟨m,hm⟩;exact ⟨m+q*w.y,by grind⟩
 ·rintro ⟨m,hm⟩;exact ⟨m-q*w.y,by grind⟩
theorem La.add {a b:Int} {v w:El} (h1:La a b v) (h2:La a b w):La a b (v.add w):=by
 obtain ⟨m,hm⟩:=h1
 obtain ⟨n,hn⟩:=h2
 exact ⟨m+n,by simp only [El.add];grind⟩
theorem La.mul {a b c:Int} (hc:b*b+t*b-k=a*c) {v:El} (u:El) (h:La a b v):La a b (u.mul t k v):=by
 obtain ⟨m,hm⟩:=h
 refine ⟨u.x*m-u.y*(v.y*c)-u.y*(b*m),?_⟩
 have hx:v.x=a*m+b*v.y:=zm
 have hk:k=b*b+t*b-a*c:=zm
 simp only [El.mul]
 rw [hx,hk]
 grind
theorem Sp.mulL {S T:El→Prop} (hS:∀ (u v:El),S v→S (u.mul t k v)) {w:El} (u:El) (h:Sp t k S T w):Sp t k S T (u.mul t k w):=by
 induction h with
 | mul h1 h2=>rw [← El.mul_assoc];exact .mul (hS _ _ h1) h2
 | add _ _ i1 i2=>rw [El.mul_add];exact .add i1 i2

theorem Und.lat {a b c p q r s a' b' c' β β':Int} (h:Und a b c p q r s a' b' c') (hb:b=2*β+t) (hb':b'=2*β'+t) (hc:β*β+t*β-k=a*c):Pm t k ⟨a',0⟩ (La a β)=Pm t k ⟨p*a+r*β,r⟩ (La a' β'):=by
 have hd:=h.d
 have hea:a'=a*(p*p)+b*(p*r)+c*(r*r):=h.ea
 have heb:b'=2*(a*(p*q)+c*(r*s))+b*(p*s+q*r):=h.eb
 have hk:k=β*β+t*β-a*c:=zm
 have hβ:β'=a*(p*q)+c*(r*s)+β*(p*s+q*r)+t*(q*r):=by
  have h2:2*β'=2*(a*(p*q)+c*(r*s)+β*(p*s+q*r)+t*(q*r)):=by
   have:2*β'=b'-t:=zm
   rw [this,heb,hb]
   grind
  omega
 have key:∀ m n:Int,El.mul t k ⟨p*a+r*β,r⟩ ⟨m*a'+n*β',n⟩=El.mul t k ⟨a',0⟩ ⟨(m*p+n*q)*a+(m*r+n*s)*β,m*r+n*s⟩:=by
  intro m n
  subst hk hb
  apply El.ext'
  ·simp only [El.mul]
   rw [hβ,hea]
   grind
  ·simp only [El.mul]
   rw [hβ,hea]
   grind
 funext w
 apply propext
 constructor
 ·rintro ⟨v,hv,rfl⟩
  obtain ⟨m,hm⟩:=hv.ex
  refine ⟨⟨(m*s-v.y*q)*a'+(v.y*p-m*r)*β',v.y*p-m*r⟩,La.of ..,?_⟩
  rw [key,hm]
  have e1:(m*s-v.y*q)*p+(v.y*p-m*r)*q=m:=by grind
  have e2:(m*s-v.y*q)*r+(v.y*p-m*r)*s=v.y:=by grind
  rw [e1,e2]
 ·rintro ⟨v,hv,rfl⟩
  obtain ⟨m,hm⟩:=hv.ex
  refine ⟨⟨(m*p+v.y*q)*a+(m*r+v.y*s)*β,m*r+v.y*s⟩,La.of ..,?_⟩
  rw [hm]
  exact key _ _
theorem zH7 {a b c p r:Int} (hc:b*b+t*b-k=a*c):El.nm t k ⟨p*a+r*b,r⟩=a*qv a (2*b+t) c p r:=by
 have hk:k=b*b+t*b-a*c:=zm
 subst hk
 simp only [El.nm,qv]
 grind
theorem El.cast_x {a b:El} (h:a=b):a.x=b.x:=by rw [h]
theorem El.cast_y {a b:El} (h:a=b):a.y=b.y:=by rw [h]
theorem zB0 {a b c:Int} (h0:a≠0) (h:a*b=a*c):b=c:=Int.eq_of_mul_eq_mul_left h0 h
theorem zIc {a b:Int} (ha:0<a) (h:0<a*b):0<b:=Int.lt_of_mul_lt_mul_left (a:=a) (by rw [Int.mul_zero];exact h) (Int.le_of_lt ha)
theorem li1 {m r s t vx vy A' b' p' r':Int} (y1:vy*A'=m*r) (y2:vx+vy*b'+t*vy=m*s) (y3:0=vx*r'+vy*(p'*A'+r'*b')+t*(vy*r')):m*(p'*r+r'*s)=m*0:=by
 have e1:=congrArg (p'*·) y1
 have e2:=congrArg (r'*·) y2
 grind
theorem li2 {m r s t vx vy A' b' p' r':Int} (y1:vy*A'=m*r) (y2:vx+vy*b'+t*vy=m*s) (y3:m=vx*r'+vy*(p'*A'+r'*b')+t*(vy*r')):m*(p'*r+r'*s)=m*1:=by
 have e1:=congrArg (p'*·) y1
 have e2:=congrArg (r'*·) y2
 grind
theorem li3 {m p q r s k vx vy A b A' b' p' r' z:Int} (x1:vx*A'=m*(p*A+r*b)) (x2:vx*b'+k*vy=m*(q*A+s*b)) (x3:m*z=vx*(p'*A'+r'*b')+k*(vy*r')):m*(p'*(p*A+r*b)+r'*(q*A+s*b))=m*z:=by
 have e1:=congrArg (p'*·) x1
 have e2:=congrArg (r'*·) x2
 grind
theorem li4 {p q r s A b p' r' z y:Int} (j:p'*(p*A+r*b)+r'*(q*A+s*b)=z*A+y*b) (i:p'*r+r'*s=y):A*(p'*p+r'*q)=A*z:=by
 have e:=congrArg (b*·) i
 grind
theorem li5 {p q r s p' q' r' s':Int} (i1:p'*r+r'*s=0) (i2:q'*r+s'*s=1) (i3:p'*p+r'*q=1) (i4:q'*p+s'*q=0):(p*s-q*r)*(p'*s'-q'*r')=1:=by
 have e:(p*s-q*r)*(p'*s'-q'*r')=(p'*p+r'*q)*(q'*r+s'*s)-(p'*r+r'*s)*(q'*p+s'*q):=by grind
 rw [e,i1,i2,i3,i4]
 rfl
theorem li6 {m p q r s t k vx vy A b A' b':Int} (x1:vx*A'=m*(p*A+r*b)) (y1:vy*A'=m*r) (x2:vx*b'+k*vy=m*(q*A+s*b)) (y2:vx+vy*b'+t*vy=m*s):m*m*(A*(p*s-q*r))=A'*(vx*vx+t*(vx*vy)-k*(vy*vy)):=by
 have e:m*m*(A*(p*s-q*r))=m*(p*A+r*b)*(m*s)-m*r*(m*(q*A+s*b)):=by grind
 rw [e,← x1,← y1,← x2,← y2]
 grind
theorem li7 {m p q r s t k vx vy A b C A' b':Int} (x1:vx*A'=m*(p*A+r*b)) (y1:vy*A'=m*r) (x2:vx*b'+k*vy=m*(q*A+s*b)) (y2:vx+vy*b'+t*vy=m*s) (hk:k=b*b+t*b-A*C) (hmm:m*m*A=A'*(vx*vx+t*(vx*vy)-k*(vy*vy))):m*m*A*b'=m*m*A*(p*q*A+p*s*b+r*q*b+t*(r*q)+r*s*C):=by
 have e:m*m*A*(p*q*A+p*s*b+r*q*b+t*(r*q)+r*s*C)=(m*(p*A+r*b)+t*(m*r))*(m*(q*A+s*b))-m*r*(m*s)*k:=by subst hk;grind
 rw [e,hmm,← x1,← y1,← x2,← y2]
 grind
theorem li8 {m x y n:Int} (hmm:m*m*x=y*n) {a z:Int} (h:n*(y*z)=m*m*(x*a)) (h0:m*m*x≠0):z=a:=by
 refine Int.eq_of_mul_eq_mul_left h0 ?_
 have e:n*(y*z)=y*n*z:=by grind
 rw [e,← hmm] at h
 rw [h]
 grind
theorem lat_und {A B C A' B' C' β β' m:Int} {v:El} (hB:B=2*β+t) (hB':B'=2*β'+t) (hc:β*β+t*β-k=A*C) (hc':β'*β'+t*β'-k=A'*C') (hA:0<A) (hA':0<A') (hm:0<m) (hv:0<v.nm t k) (h:Pm t k ⟨m,0⟩ (La A β)=Pm t k v (La A' β')):∃ p q r s,Und A B C p q r s A' B' C':=by
 have g1:∃ p r,v.mul t k ⟨A',0⟩=El.mul t k ⟨m,0⟩ ⟨p*A+r*β,r⟩:=by
  have:Pm t k v (La A' β') (v.mul t k ⟨A',0⟩):=⟨_,⟨1,by simp only;omega⟩,rfl⟩
  rw [← h] at this
  obtain ⟨w,hw,e⟩:=this
  obtain ⟨p,hp⟩:=hw.ex
  exact ⟨p,w.y,by rw [e];exact congrArg _ hp⟩
 have g2:∃ q s,v.mul t k ⟨β',1⟩=El.mul t k ⟨m,0⟩ ⟨q*A+s*β,s⟩:=by
  have:Pm t k v (La A' β') (v.mul t k ⟨β',1⟩):=⟨_,⟨0,by simp only;omega⟩,rfl⟩
  rw [← h] at this
  obtain ⟨w,hw,e⟩:=this
  obtain ⟨p,hp⟩:=hw.ex
  exact ⟨p,w.y,by rw [e];exact congrArg _ hp⟩
 have g3:∃ p r,El.mul t k ⟨m,0⟩ ⟨A,0⟩=v.mul t k ⟨p*A'+r*β',r⟩:=by
  have:Pm t k ⟨m,0⟩ (La A β) (El.mul t k ⟨m,0⟩ ⟨A,0⟩):=⟨_,⟨1,by simp only;omega⟩,rfl⟩
  rw [h] at this
  obtain ⟨w,hw,e⟩:=this
  obtain ⟨p,hp⟩:=hw.ex
  exact ⟨p,w.y,by rw [e];exact congrArg _ hp⟩
 have g4:∃ q s,El.mul t k ⟨m,0⟩ ⟨β,1⟩=v.mul t k ⟨q*A'+s*β',s⟩:=by
  have:Pm t k ⟨m,0⟩ (La A β) (El.mul t k ⟨m,0⟩ ⟨β,1⟩):=⟨_,⟨0,by simp only;omega⟩,rfl⟩
  rw [h] at this
  obtain ⟨w,hw,e⟩:=this
  obtain ⟨p,hp⟩:=hw.ex
  exact ⟨p,w.y,by rw [e];exact congrArg _ hp⟩
 obtain ⟨p,r,e1⟩:=g1
 obtain ⟨q,s,e2⟩:=g2
 obtain ⟨p',r',e3⟩:=g3
 obtain ⟨q',s',e4⟩:=g4
 have n1:=congrArg (El.nm t k) e1
 have n2:=congrArg (El.nm t k) e2
 rw [El.nm_mul,El.nm_mul,zH7 hc] at n1 n2
 have x1:=El.cast_x e1
 have y1:=El.cast_y e1
 have x2:=El.cast_x e2
 have y2:=El.cast_y e2
 have x3:=El.cast_x e3
 have y3:=El.cast_y e3
 have x4:=El.cast_x e4
 have y4:=El.cast_y e4
 simp only [El.mul,Int.mul_zero,Int.zero_mul,Int.add_zero,Int.zero_add,Int.mul_one] at x1 y1 x2 y2 x3 y3 x4 y4
 have hm0:m≠0:=zm
 have hA0:A≠0:=zm
 -- the matrices are inverse
 have i1:p'*r+r'*s=0:=zB0 hm0 (li1 y1 y2 y3)
 have i2:q'*r+s'*s=1:=zB0 hm0 ((li2 y1 y2 y4))
 have j1:p'*(p*A+r*β)+r'*(q*A+s*β)=1*A+0*β:=zB0 hm0 (li3 x1 x2 (by rw [← x3];congr 1;omega))
 have j2:q'*(p*A+r*β)+s'*(q*A+s*β)=0*A+1*β:=zB0 hm0 (li3 x1 x2 (by rw [← x4];congr 1;omega))
 have i3:p'*p+r'*q=1:=zB0 hA0 (li4 j1 i1)
 have i4:q'*p+s'*q=0:=zB0 hA0 (li4 j2 i2)
 have hdd:=li5 i1 i2 i3 i4
 have hmm:=li6 x1 y1 x2 y2
 have hmp:0<m*m:=Int.mul_pos hm hm
 have hpos:0<p*s-q*r:=by
  have h1:0<m*m*(A*(p*s-q*r)):=by rw [hmm];exact Int.mul_pos hA' hv
  have h2:0<A*(p*s-q*r):=zIc hmp h1
  exact zIc hA h2
 have hd:p*s-q*r=1:=Int.eq_one_of_dvd_one (Int.le_of_lt hpos) ⟨_,hdd.symm⟩
 rw [hd,Int.mul_one] at hmm
 have hmn:m*m*A=A'*v.nm t k:=hmm
 have hmA:m*m*A≠0:=by have:=Int.mul_pos hmp hA;omega
 have nmA:El.nm t k ⟨A',0⟩=A'*A':=by simp [El.nm]
 have nmm:El.nm t k ⟨m,0⟩=m*m:=by simp [El.nm]
 have nmB:El.nm t k ⟨β',1⟩=A'*C':=by simp only [El.nm,Int.mul_one];omega
 rw [nmA,nmm] at n1
 rw [nmB,nmm] at n2
 refine ⟨p,q,r,s,hd,?_,?_,?_⟩
 ·rw [hB]
  exact li8 hmn n1 hmA
 ·have hβ:β'=p*q*A+p*s*β+r*q*β+t*(r*q)+r*s*C:=zB0 hmA (li7 x1 y1 x2 y2 zm hmm)
  rw [hB',hβ,hB]
  have hps:p*s=1+q*r:=zm
  unfold qm
  rw [hps]
  grind
 ·rw [hB]
  exact li8 hmn n2 hmA
theorem bzt (n:Nat):∀ a b:Int,b.natAbs≤n→∃ d x y:Int,d=x*a+y*b∧d ∣ a∧d ∣ b:=by
 induction n with
 | zero=>
  intro a b h
  have hb:b=0:=zm
  exact ⟨a,1,0,zm,Int.dvd_refl a,⟨0,zm⟩⟩
 | succ n ih=>
  intro a b h
  by_cases hb:b=0
  ·exact ⟨a,1,0,zm,Int.dvd_refl a,⟨0,zm⟩⟩
  ·have h1:=Int.emod_nonneg a hb
   have h2:=Int.emod_lt a hb
   obtain ⟨d,x,y,e,⟨q1,e1⟩,⟨q2,e2⟩⟩:=ih b (a % b) zm
   have h3:=Int.mul_ediv_add_emod a b
   refine ⟨d,y,x-y*(a/b),?_,⟨q1*(a/b)+q2,?_⟩,⟨q1,e1⟩⟩
   ·rw [e]
    have:a % b=a-b*(a/b):=zm
    rw [this]
    grind
   ·rw [e2] at h3
    generalize a/b=Q at h3 ⊢
    rw [← h3,e1]
    grind
theorem bezq4 (a b c d:Int):∃ g x y z w:Int,g=x*a+y*b+z*c+w*d∧g ∣ a∧g ∣ b∧g ∣ c∧g ∣ d:=by
 obtain ⟨g1,x,y,e1,d1,d2⟩:=bzt _ a b (Nat.le_refl _)
 obtain ⟨g2,z,w,e2,d3,d4⟩:=bzt _ c d (Nat.le_refl _)
 obtain ⟨g,u,v,e,d5,d6⟩:=bzt _ g1 g2 (Nat.le_refl _)
 refine ⟨g,u*x,u*y,v*z,v*w,?_,Int.dvd_trans d5 d1,Int.dvd_trans d5 d2,Int.dvd_trans d6 d3,Int.dvd_trans d6 d4⟩
 rw [e,e1,e2]
 grind
theorem zMs {a1 a2 b1 b2 c1 c2 e N1 N2 S X Y Z w b3:Int} (he:e≠0) (h1:b1*b1+t*b1-k=a1*c1) (h2:b2*b2+t*b2-k=a2*c2) (ha1:a1=e*N1) (ha2:a2=e*N2) (hs:b1+b2+t=e*S) (hz:X*N1+Y*N2+Z*S=1) (hw:w=b1*S-N1*c1) (h3:b3=X*N1*b2+Y*N2*b1+Z*w)
  (hp:∃ i j l n:Int,i*e+j*(b2-b1)+l*c1+n*c2=1):Sp t k (La a1 b1) (La a2 b2)=Pm t k ⟨e,0⟩ (La (N1*N2) b3)∧N1*N2 ∣ b3*b3+t*b3-k:=by
 have hk:k=b1*b1+t*b1-a1*c1:=zm
 have hw2:w=b2*S-N2*c2:=by
  refine zB0 he ?_
  rw [hw]
  have e1:e*(b1*S-N1*c1)=b1*(e*S)-e*N1*c1:=by grind
  have e2:e*(b2*S-N2*c2)=b2*(e*S)-e*N2*c2:=by grind
  rw [e1,e2,← hs,← ha1,← ha2]
  grind
 have hew:e*w=b1*b2+k:=by
  have e1:e*w=b1*(e*S)-e*N1*c1:=by rw [hw];grind
  rw [e1,← hs,← ha1,hk]
  grind
 have g2:b2-b3=N2*(Y*(b2-b1)+Z*c2):=by
  have e1:b2=b2*(X*N1+Y*N2+Z*S):=by rw [hz,Int.mul_one]
  have e2:b2-b3=b2*(X*N1+Y*N2+Z*S)-b3:=by rw [← e1]
  rw [e2,h3,hw2]
  grind
 have g1:b1-b3=N1*(X*(b1-b2)+Z*c1):=by
  have e1:b1=b1*(X*N1+Y*N2+Z*S):=by rw [hz,Int.mul_one]
  have e2:b1-b3=b1*(X*N1+Y*N2+Z*S)-b3:=by rw [← e1]
  rw [e2,h3,hw]
  grind
 have g3:w-b3*S=N1*N2*(-(X*c2+Y*c1)):=by
  have e1:w=w*(X*N1+Y*N2+Z*S):=by rw [hz,Int.mul_one]
  have e2:w-b3*S=X*N1*(w-b2*S)+Y*N2*(w-b1*S):=by
   have:w-b3*S=w*(X*N1+Y*N2+Z*S)-b3*S:=by rw [← e1]
   rw [this,h3]
   grind
  have e3:w-b2*S=-(N2*c2):=zm
  have e4:w-b1*S=-(N1*c1):=zm
  rw [e2,e3,e4]
  grind
 have m1:∀ a b:Int,La a b ⟨a,0⟩:=fun a b=>⟨1,by simp only;omega⟩
 have m2:∀ a b:Int,La a b ⟨b,1⟩:=fun a b=>⟨0,by simp only;omega⟩
 have P1:Sp t k (La a1 b1) (La a2 b2) ⟨e*(e*(N1*N2)),0⟩:=by
  have:=Sp.mul (t:=t) (k:=k) (m1 a1 b1) (m1 a2 b2)
  have e1:El.mul t k ⟨a1,0⟩ ⟨a2,0⟩=⟨e*(e*(N1*N2)),0⟩:=by
   apply El.ext' <;> simp only [El.mul] <;> rw [ha1,ha2] <;> grind
  rw [e1] at this
  exact this
 have P2:Sp t k (La a1 b1) (La a2 b2) ⟨e*(N1*b2),e*N1⟩:=by
  have:=Sp.mul (t:=t) (k:=k) (m1 a1 b1) (m2 a2 b2)
  have e1:El.mul t k ⟨a1,0⟩ ⟨b2,1⟩=⟨e*(N1*b2),e*N1⟩:=by
   apply El.ext' <;> simp only [El.mul] <;> rw [ha1] <;> grind
  rw [e1] at this
  exact this
 have P3:Sp t k (La a1 b1) (La a2 b2) ⟨e*(N2*b1),e*N2⟩:=by
  have:=Sp.mul (t:=t) (k:=k) (m2 a1 b1) (m1 a2 b2)
  have e1:El.mul t k ⟨b1,1⟩ ⟨a2,0⟩=⟨e*(N2*b1),e*N2⟩:=by
   apply El.ext' <;> simp only [El.mul] <;> rw [ha2] <;> grind
  rw [e1] at this
  exact this
 have P4:Sp t k (La a1 b1) (La a2 b2) ⟨e*w,e*S⟩:=by
  have:=Sp.mul (t:=t) (k:=k) (m2 a1 b1) (m2 a2 b2)
  have e1:El.mul t k ⟨b1,1⟩ ⟨b2,1⟩=⟨e*w,e*S⟩:=by
   apply El.ext' <;> simp only [El.mul]
   ·rw [hew];omega
   ·rw [← hs];omega
  rw [e1] at this
  exact this
 have sc:∀ {v:El} (n:Int),Sp t k (La a1 b1) (La a2 b2) v→Sp t k (La a1 b1) (La a2 b2) ⟨n*v.x,n*v.y⟩:=by
  intro v n hv
  have:=Sp.mulL (t:=t) (k:=k) (fun u v h=>La.mul h1 u h) ⟨n,0⟩ hv
  have e1:El.mul t k ⟨n,0⟩ v=⟨n*v.x,n*v.y⟩:=by apply El.ext' <;> simp only [El.mul] <;> grind
  rw [e1] at this
  exact this
 have G2:Sp t k (La a1 b1) (La a2 b2) ⟨e*b3,e⟩:=by
  have:=Sp.add (Sp.add (sc X P2) (sc Y P3)) (sc Z P4)
  have e1:El.add (El.add ⟨X*(e*(N1*b2)),X*(e*N1)⟩ ⟨Y*(e*(N2*b1)),Y*(e*N2)⟩) ⟨Z*(e*w),Z*(e*S)⟩=⟨e*b3,e⟩:=by
   apply El.ext' <;> simp only [El.add]
   ·rw [h3];grind
   ·have:X*(e*N1)+Y*(e*N2)+Z*(e*S)=e*(X*N1+Y*N2+Z*S):=by grind
    rw [this,hz,Int.mul_one]
  rw [e1] at this
  exact this
 have G1:Sp t k (La a1 b1) (La a2 b2) ⟨e*(N1*N2),0⟩:=by
  obtain ⟨i,j,l,n,hp⟩:=hp
  have:=Sp.add (Sp.add (sc i P1) (sc (j*N2+n*S) P2)) (Sp.add (sc (l*S-j*N1) P3) (sc (-(l*N2+n*N1)) P4))
  have e1:El.add (El.add ⟨i*(e*(e*(N1*N2))),i*0⟩ ⟨(j*N2+n*S)*(e*(N1*b2)),(j*N2+n*S)*(e*N1)⟩) (El.add ⟨(l*S-j*N1)*(e*(N2*b1)),(l*S-j*N1)*(e*N2)⟩ ⟨-(l*N2+n*N1)*(e*w),-(l*N2+n*N1)*(e*S)⟩)=⟨e*(N1*N2),0⟩:=by
   apply El.ext' <;> simp only [El.add]
   ·have q:i*(e*(e*(N1*N2)))+(j*N2+n*S)*(e*(N1*b2))+((l*S-j*N1)*(e*(N2*b1))+-(l*N2+n*N1)*(e*w))=e*(N1*N2)*(i*e+j*(b2-b1))+e*(n*N1*(b2*S-w)+l*N2*(b1*S-w)):=by grind
    have q1:b2*S-w=N2*c2:=zm
    have q2:b1*S-w=N1*c1:=zm
    rw [q,q1,q2]
    have:e*(N1*N2)*(i*e+j*(b2-b1))+e*(n*N1*(N2*c2)+l*N2*(N1*c1))=e*(N1*N2)*(i*e+j*(b2-b1)+l*c1+n*c2):=by grind
    rw [this,hp,Int.mul_one]
   ·grind
  rw [e1] at this
  exact this
 have inc:∀ v,Sp t k (La a1 b1) (La a2 b2) v→Pm t k ⟨e,0⟩ (La (N1*N2) b3) v:=by
  intro v hv
  induction hv with
  | @mul u v hu hv=>
   obtain ⟨m,em⟩:=hu.ex
   obtain ⟨n,en⟩:=hv.ex
   generalize u.y=m' at em
   generalize v.y=n' at en
   refine ⟨⟨m*n*(e*(N1*N2))+m*n'*(N1*b2)+m'*n*(N2*b1)+m'*n'*w,m*n'*N1+m'*n*N2+m'*n'*S⟩,⟨m*n*e+m*n'*(Y*(b2-b1)+Z*c2)+m'*n*(X*(b1-b2)+Z*c1)+m'*n'*(-(X*c2+Y*c1)),?_⟩,?_⟩
   ·simp only
    have q:m*n*(e*(N1*N2))+m*n'*(N1*b2)+m'*n*(N2*b1)+m'*n'*w-b3*(m*n'*N1+m'*n*N2+m'*n'*S)=m*n*(e*(N1*N2))+m*n'*N1*(b2-b3)+m'*n*N2*(b1-b3)+m'*n'*(w-b3*S):=by grind
    rw [q,g1,g2,g3]
    grind
   ·rw [em,en]
    apply El.ext' <;> simp only [El.mul]
    ·have q:k*(m'*n')=m'*n'*(e*w-b1*b2):=by rw [hew];grind
     rw [q,ha1,ha2]
     grind
    ·have q:t=e*S-b1-b2:=zm
     rw [q,ha1,ha2]
     grind
  | add _ _ i1 i2=>
   obtain ⟨s,hs,rfl⟩:=i1
   obtain ⟨u,hu,rfl⟩:=i2
   exact ⟨_,hs.add hu,(El.mul_add ..).symm⟩
 refine ⟨funext fun v=>propext ⟨inc v,?_⟩,?_⟩
 ·rintro ⟨s,hs,rfl⟩
  obtain ⟨m,em⟩:=hs.ex
  have:=Sp.add (sc m G1) (sc s.y G2)
  have e1:El.add ⟨m*(e*(N1*N2)),m*0⟩ ⟨s.y*(e*b3),s.y*e⟩=El.mul t k ⟨e,0⟩ s:=by
   rw [em]
   apply El.ext' <;> simp only [El.add,El.mul] <;> grind
  rw [e1] at this
  exact this
 ·obtain ⟨s,⟨q,hq⟩,es⟩:=inc _ (Sp.mulL (t:=t) (k:=k) (fun u v h=>La.mul h1 u h) ⟨0,1⟩ G2)
  have ex:=El.cast_x es
  have ey:=El.cast_y es
  simp only [El.mul,Int.zero_mul,Int.mul_zero,Int.one_mul,Int.add_zero,Int.zero_add] at ex ey
  have x1:s.x=k:=zB0 he (by rw [Int.mul_comm e k];omega)
  have y1:s.y=b3+t:=zB0 he (by rw [Int.mul_add,Int.mul_comm e t];omega)
  rw [x1,y1] at hq
  exact ⟨-q,by grind⟩
theorem zMb {a b c:Int} (ha:a≠0) (hc:b*b+t*b-k=a*c) (hp:∃ i j l:Int,i*a+j*(2*b+t)+l*c=1):Sp t k (La a b) (La a (-b-t))=Pm t k ⟨a,0⟩ (La 1 (-b-t)):=by
 obtain ⟨i,j,l,hp⟩:=hp
 have h2:(-b-t)*(-b-t)+t*(-b-t)-k=a*c:=by grind
 have:=(zMs (t:=t) (k:=k) (a1:=a) (a2:=a) (b1:=b) (b2:=-b-t) (c1:=c) (c2:=c) (e:=a) (N1:=1) (N2:=1) (S:=0) (X:=1) (Y:=0) (Z:=0) (w:=-c) (b3:=-b-t) ha hc h2 zm zm zm zm zm zm ⟨i,-j,l,0,by grind⟩).1
 rw [Int.mul_one] at this
 exact this
theorem La.all (b:Int) (v:El):La 1 b v:=⟨_,(Int.one_mul _).symm⟩
theorem La.one_eq (b b':Int):La 1 b=La 1 b':=funext fun v=>propext ⟨fun _=>La.all _ v,fun _=>La.all _ v⟩
theorem prim_of {a b c d:Int} (ha:a≠0) (hc:b*b+t*b-k=a*c) (h:Sp t k (La a b) (La a (-b-t)) ⟨a,0⟩) (d1:d ∣ a) (d2:d ∣ 2*b+t) (d3:d ∣ c):d ∣ 1:=by
 obtain ⟨q1,e1⟩:=d1
 obtain ⟨q2,e2⟩:=d2
 obtain ⟨q3,e3⟩:=d3
 have key:∀ v,Sp t k (La a b) (La a (-b-t)) v→∃ y n,v.y=a*y∧v.x=a*(b*y+d*n):=by
  intro v hv
  induction hv with
  | @mul u v hu hv=>
   obtain ⟨m,em⟩:=hu.ex
   obtain ⟨n,en⟩:=hv.ex
   generalize u.y=m' at em
   generalize v.y=n' at en
   refine ⟨m*n'+m'*n,m*n*q1-m*n'*q2-m'*n'*q3,?_,?_⟩
   ·rw [em,en];simp only [El.mul];grind
   ·have q:b*(m*n'+m'*n)+d*(m*n*q1-m*n'*q2-m'*n'*q3)=b*(m*n'+m'*n)+(m*n*(d*q1)-m*n'*(d*q2)-m'*n'*(d*q3)):=by grind
    rw [q,← e1,← e2,← e3,em,en]
    have hk:k=b*b+t*b-a*c:=zm
    simp only [El.mul]
    rw [hk]
    grind
  | add _ _ i1 i2=>
   obtain ⟨y,n,f1,f2⟩:=i1
   obtain ⟨y',n',f3,f4⟩:=i2
   exact ⟨y+y',n+n',by simp only [El.add];rw [f1,f3];grind,by simp only [El.add];rw [f2,f4];grind⟩
 obtain ⟨y,n,f1,f2⟩:=key _ h
 simp only at f1 f2
 have hy:y=0:=zB0 ha zm
 rw [hy,Int.mul_zero,Int.zero_add] at f2
 exact ⟨n,zB0 ha zm⟩
def tD (D:Int):Int:=D % 2
def kD (D:Int):Int:=(D-D % 2)/4
def bD (D b:Int):Int:=(b-D % 2)/2
structure Sf (D a b c:Int):Prop where
 disc:b*b-4*(a*c)=D
 pos:0<a
 prim:∀ d:Int,d ∣ a→d ∣ b→d ∣ c→d ∣ 1
theorem zKp (b:Int):b*b % 4=b % 2:=by
 have h:=Int.emod_add_mul_ediv b 2
 have h2:b % 2=0∨b % 2=1:=zm
 generalize b/2=q at h
 rcases h2 with e | e
 ·rw [e] at h ⊢
  have:b*b=4*(q*q):=by rw [← h];grind
  omega
 ·rw [e] at h ⊢
  have:b*b=4*(q*q+q)+1:=by rw [← h];grind
  omega
theorem zB8 {D a b c:Int} (h:b*b-4*(a*c)=D):b=2*bD D b+tD D∧bD D b*bD D b+tD D*bD D b-kD D=a*c∧D=tD D*tD D+4*kD D:=by
 have h1:=zKp b
 have h2:D % 2=b % 2:=zm
 have h3:D % 4=D % 2:=zm
 have ht:tD D*tD D=tD D:=by
  unfold tD
  have:D % 2=0∨D % 2=1:=zm
  rcases this with e | e <;> rw [e] <;> rfl
 have hD:D=tD D+4*kD D:=by unfold tD kD;omega
 have hb:b=2*bD D b+tD D:=by unfold tD bD;omega
 refine ⟨hb,?_,zm⟩
 generalize bD D b=β at hb ⊢
 generalize tD D=t at *
 generalize kD D=k at *
 have e:b*b=4*(β*β+t*β)+t*t:=by rw [hb];grind
 omega
def LD (D a b:Int):El→Prop:=La a (bD D b)
def Cps (D a b a' b' A B:Int):Prop:=∃ e:Int,0<e∧e*e*A=a*a'∧Sp (tD D) (kD D) (LD D a b) (LD D a' b')=Pm (tD D) (kD D) ⟨e,0⟩ (LD D A B)
theorem Cps.comm {D a b a' b' A B:Int} (h:Cps D a b a' b' A B):Cps D a' b' a b A B:=by
 obtain ⟨e,he,hA,h⟩:=h
 exact ⟨e,he,by rw [hA,Int.mul_comm],by rw [Sp.comm];exact h⟩
theorem zKb (e:Int):El.nm t k ⟨e,0⟩=e*e:=by simp [El.nm]
theorem Cps.und {D a b c a' b' c' A B C a1 b1 c1 a1' b1' c1' A1 B1 C1:Int} (hD:D<0) (hf:Sf D a b c) (hg:Sf D a' b' c') (hF:Sf D A B C) (hf1:Sf D a1 b1 c1) (hg1:Sf D a1' b1' c1') (hF1:Sf D A1 B1 C1) (h:Cps D a b a' b' A B) (h1:Cps D a1 b1 a1' b1' A1 B1) (u:∃ p q r s,Und a b c p q r s a1 b1 c1) (v:∃ p q r s,Und a' b' c' p q r s a1' b1' c1'):∃ p q r s,Und A B C p q r s A1 B1 C1:=by
 obtain ⟨p,q,r,s,u⟩:=u
 obtain ⟨p',q',r',s',v⟩:=v
 obtain ⟨e,he,_,h⟩:=h
 obtain ⟨e1,he1,_,h1⟩:=h1
 obtain ⟨f1,f2,f3⟩:=zB8 hf.disc
 obtain ⟨g1,g2,_⟩:=zB8 hg.disc
 obtain ⟨k1,k2,_⟩:=zB8 hF.disc
 obtain ⟨l1,l2,_⟩:=zB8 hf1.disc
 obtain ⟨m1,m2,_⟩:=zB8 hg1.disc
 obtain ⟨n1,n2,_⟩:=zB8 hF1.disc
 have eu:=u.lat f1 l1 f2
 have ev:=v.lat g1 m1 g2
 have key2:Sp (tD D) (kD D) (Pm (tD D) (kD D) ⟨a1,0⟩ (LD D a b)) (Pm (tD D) (kD D) ⟨a1',0⟩ (LD D a' b'))=Sp (tD D) (kD D) (Pm (tD D) (kD D) ⟨p*a+r*bD D b,r⟩ (LD D a1 b1)) (Pm (tD D) (kD D) ⟨p'*a'+r'*bD D b',r'⟩ (LD D a1' b1')):=by
  rw [show Pm (tD D) (kD D) ⟨a1',0⟩ (LD D a' b')=_ from ev,show Pm (tD D) (kD D) ⟨a1,0⟩ (LD D a b)=_ from eu]
  rfl
 rw [Sp.pm,Sp.pm2,Sp.pm,Sp.pm2,h,h1,Pm.pm,Pm.pm,Pm.pm,Pm.pm] at key2
 have e2:El.mul (tD D) (kD D) ⟨a1,0⟩ (El.mul (tD D) (kD D) ⟨a1',0⟩ ⟨e,0⟩)=⟨a1*(a1'*e),0⟩:=by apply El.ext' <;> simp [El.mul]
 rw [El.mul_assoc,El.mul_assoc,e2] at key2
 have hDn:tD D*tD D+4*kD D<0:=zm
 have hpos:∀ {a b c p r:Int},0<a→bD D b*bD D b+tD D*bD D b-kD D=a*c→b=2*bD D b+tD D→b*b-4*(a*c)<0→¬ (p=0∧r=0)→0<El.nm (tD D) (kD D) ⟨p*a+r*bD D b,r⟩:=by
  intro a b c p r ha hc hb hd hn
  rw [zH7 hc,← hb]
  exact Int.mul_pos ha (qv_pos ha hd hn)
 refine lat_und k1 n1 k2 n2 hF.pos hF1.pos (Int.mul_pos hf1.pos (Int.mul_pos hg1.pos he)) ?_ key2
 rw [El.nm_mul,El.nm_mul,zKb]
 exact Int.mul_pos (hpos hf.pos f2 f1 (by rw [hf.disc];exact hD) (zI9 u.d)) (Int.mul_pos (hpos hg.pos g2 g1 (by rw [hg.disc];exact hD) (zI9 v.d)) (Int.mul_pos he1 he1))
theorem Cps.assoc {D a b a' b' a'' b'' A B A' B' K L M K' L' M':Int} (hD:D<0) (h3:Sf D K L M) (h4:Sf D K' L' M') (g1:Cps D a b a' b' A B) (g2:Cps D A B a'' b'' K L) (g3:Cps D a' b' a'' b'' A' B') (g4:Cps D a b A' B' K' L'):∃ p q r s,Und K L M p q r s K' L' M':=by
 obtain ⟨e1,p1,_,q1⟩:=g1
 obtain ⟨e2,p2,_,q2⟩:=g2
 obtain ⟨e3,p3,_,q3⟩:=g3
 obtain ⟨e4,p4,_,q4⟩:=g4
 obtain ⟨k1,k2,k3⟩:=zB8 h3.disc
 obtain ⟨l1,l2,_⟩:=zB8 h4.disc
 have h:=Sp.assoc (t:=tD D) (k:=kD D) (LD D a b) (LD D a' b') (LD D a'' b'')
 rw [q1,Sp.pm,q2,Pm.pm,q3,Sp.pm2,q4,Pm.pm] at h
 have e:El.mul (tD D) (kD D) ⟨e1,0⟩ ⟨e2,0⟩=⟨e1*e2,0⟩:=by apply El.ext' <;> simp [El.mul]
 rw [e] at h
 refine lat_und k1 l1 k2 l2 h3.pos h4.pos (Int.mul_pos p1 p2) ?_ h
 rw [El.nm_mul,zKb,zKb]
 exact Int.mul_pos (Int.mul_pos p3 p3) (Int.mul_pos p4 p4)
theorem Cps.one {D a b c b' c':Int} (hf:Sf D a b c) (_:Sf D 1 b' c'):Cps D a b 1 b' a b:=by
 obtain ⟨f1,f2,_⟩:=zB8 hf.disc
 refine ⟨1,zd,zm,?_⟩
 funext v
 apply propext
 have e1:∀ v:El,El.mul (tD D) (kD D) ⟨1,0⟩ v=v:=fun v=>by apply El.ext' <;> simp [El.mul]
 constructor
 ·intro h
  refine ⟨v,?_,(e1 v).symm⟩
  have h:=h.swap
  induction h with
  | mul _ h2=>exact La.mul f2 _ h2
  | add g1 g2 i1 i2=>exact (i1 g1.swap).add (i2 g2.swap)
 ·rintro ⟨s,hs,rfl⟩
  exact Sp.swap (.mul (La.all _ _) hs)
theorem Cps.inv {D a b c b' c':Int} (hf:Sf D a b c) (_:Sf D 1 b' c') (hp:∃ i j l:Int,i*a+j*b+l*c=1):Cps D a b a (-b) 1 b':=by
 obtain ⟨f1,f2,_⟩:=zB8 hf.disc
 have hd:(-b)*(-b)-4*(a*c)=D:=by rw [Int.neg_mul_neg];exact hf.disc
 obtain ⟨g1,g2,_⟩:=zB8 hd
 obtain ⟨i,j,l,hp⟩:=hp
 rw [f1] at hp
 have h:=zMb (by have:=hf.pos;omega) f2 ⟨i,j,l,hp⟩
 refine ⟨a,hf.pos,zm,?_⟩
 unfold LD
 rw [show bD D (-b)=-bD D b-tD D by omega,h,La.one_eq _ (bD D b')]
theorem sf_bez {D a b c:Int} (h:Sf D a b c):∃ i j l:Int,i*a+j*b+l*c=1:=by
 obtain ⟨g,x,y,z,w,e,d1,d2,d3,_⟩:=bezq4 a b c 0
 obtain ⟨q,hq⟩:=h.prim g d1 d2 d3
 exact ⟨q*x,q*y,q*z,by rw [hq,e];grind⟩
theorem zK7 {a b c:Int} (h:(Int.gcd (Int.gcd a b:Int) c:Int)=1) (d:Int) (h1:d ∣ a) (h2:d ∣ b) (h3:d ∣ c):d ∣ 1:=by
 rw [← h]
 exact Int.dvd_coe_gcd (Int.dvd_coe_gcd h1 h2) h3
theorem zQ8 {a b c:Int} (h:∀ d:Int,d ∣ a→d ∣ b→d ∣ c→d ∣ 1):(Int.gcd (Int.gcd a b:Int) c:Int)=1:=by
 have h1:((Int.gcd (Int.gcd a b:Int) c:Nat):Int) ∣ ((Int.gcd a b:Nat):Int):=Int.gcd_dvd_left ..
 have h2:((Int.gcd (Int.gcd a b:Int) c:Nat):Int) ∣ c:=Int.gcd_dvd_right ..
 exact Int.eq_one_of_dvd_one zm (h _ (Int.dvd_trans h1 (Int.gcd_dvd_left ..)) (Int.dvd_trans h1 (Int.gcd_dvd_right ..)) h2)
theorem fo1 {e N1 N2 S X Y Z:Int} (h:X*(e*N1)+Y*(e*N2)+Z*(e*S)=e):e*(X*N1+Y*N2+Z*S)=e*1:=by
 rw [Int.mul_one]
 exact Eq.trans (by grind) h
theorem fo2 {x y c e S N1:Int} (h:x+y+t=e*S) (f:x*x+t*x-k=e*N1*c):(2*x+t)*(2*y+t)+(t*t+4*k)=2*(e*S*t+2*(x*(e*S)-e*N1*c)):=by
 rw [← h,← f]
 grind
theorem fo3 {x y c e S N1 N2 X Y Z:Int} (h:X*N1+Y*N2+Z*S=1):2*(X*(e*N1)*(2*y+t)+Y*(e*N2)*(2*x+t))+Z*(2*(e*S*t+2*(x*(e*S)-e*N1*c)))=2*e*(2*(X*N1*y+Y*N2*x+Z*(x*S-N1*c))+t):=by
 have q:2*e*(2*(X*N1*y+Y*N2*x+Z*(x*S-N1*c))+t*1)=2*e*(2*(X*N1*y+Y*N2*x+Z*(x*S-N1*c))+t*(X*N1+Y*N2+Z*S)):=by rw [h]
 rw [Int.mul_one] at q
 rw [q]
 grind
theorem fo4 {x y c S N1 N2 X Y Z:Int} (h:X*N1+Y*N2+Z*S=1):-(X*N1*y+Y*N2*x+Z*(x*S-N1*c))-t=X*N1*(-y-t)+Y*N2*(-x-t)+-Z*((-x-t)*-S-N1*c):=by
 have q:t=t*(X*N1+Y*N2+Z*S):=by rw [h,Int.mul_one]
 have:-(X*N1*y+Y*N2*x+Z*(x*S-N1*c))-t=-(X*N1*y+Y*N2*x+Z*(x*S-N1*c))-t*(X*N1+Y*N2+Z*S):=by rw [← q]
 rw [this]
 grind
theorem Sp.four (S T U V:El→Prop):Sp t k (Sp t k S T) (Sp t k U V)=Sp t k (Sp t k S U) (Sp t k T V):=by
 rw [Sp.assoc,← Sp.assoc T U V,Sp.comm T U,Sp.assoc U T V,← Sp.assoc]
theorem Cps.formula {D a b c a' b' c' e X Y Z s A B:Int} (hf:Sf D a b c) (hg:Sf D a' b' c') (hs:2*s=b+b') (he:0<e) (hz:X*a+Y*a'+Z*s=e) (d1:e ∣ a) (d2:e ∣ a') (d3:e ∣ s) (hA:e*e*A=a*a') (hB:2*(e*B)=2*(X*a*b'+Y*a'*b)+Z*(b*b'+D)):Cps D a b a' b' A B∧Sf D A B ((B*B-D)/(4*A)):=by
 have he0:e≠0:=zm
 obtain ⟨N1,ha1⟩:=d1
 obtain ⟨N2,ha2⟩:=d2
 obtain ⟨S,hS⟩:=d3
 obtain ⟨f1,f2,f3⟩:=zB8 hf.disc
 obtain ⟨g1,g2,_⟩:=zB8 hg.disc
 have hN:A=N1*N2:=zB0 he0 (zB0 he0 (by rw [← Int.mul_assoc,hA,ha1,ha2];grind))
 have hz1:X*N1+Y*N2+Z*S=1:=zB0 he0 (fo1 (by rw [← ha1,← ha2,← hS];exact hz))
 obtain ⟨x,hx⟩:∃ x,x=bD D b:=⟨_,rfl⟩
 obtain ⟨y,hy⟩:∃ y,y=bD D b':=⟨_,rfl⟩
 rw [← hx] at f1 f2
 rw [← hy] at g1 g2
 have hp:∃ i j l n:Int,i*e+j*(y-x)+l*c+n*c'=1:=by
  obtain ⟨g,x',y',z,w,eg,⟨p1,r1⟩,⟨p2,r2⟩,⟨p3,r3⟩,⟨p4,r4⟩⟩:=bezq4 e (y-x) c c'
  obtain ⟨q,hq⟩:=hf.prim g ⟨p1*N1,by rw [ha1,r1];grind⟩ ⟨p1*S-p2,by
   have:b=s-(y-x):=zm
   rw [this,hS,r2]
   have:g*(p1*S-p2)=g*p1*S-g*p2:=by grind
   rw [this,← r1]⟩ ⟨p3,r3⟩
  exact ⟨q*x',q*y',q*z,q*w,by rw [hq,eg];grind⟩
 have hs':x+y+tD D=e*S:=zm
 obtain ⟨k1,k2⟩:=zMs (t:=tD D) (k:=kD D) he0 f2 g2 ha1 ha2 hs' hz1 rfl rfl hp
 have hfo4:=fo4 (t:=tD D) (x:=x) (y:=y) (c:=c) hz1
 obtain ⟨β3,hβ⟩:∃ z,z=X*N1*y+Y*N2*x+Z*(x*S-N1*c):=⟨_,rfl⟩
 rw [← hβ] at hfo4
 rw [← hβ,← hN] at k1 k2
 have hBt:B=2*β3+tD D:=by
  have h2:(2*e)*B=(2*e)*(2*β3+tD D):=by
   rw [Int.mul_assoc,hB,hβ,← fo3 hz1,← fo2 hs' (by rw [← ha1];exact f2),← ha1,← ha2,← f1,← g1,← f3]
  exact zB0 zm h2
 have hbD:bD D B=β3:=by unfold bD;unfold tD at hBt;omega
 have hcps:Sp (tD D) (kD D) (LD D a b) (LD D a' b')=Pm (tD D) (kD D) ⟨e,0⟩ (LD D A B):=by
  unfold LD
  rw [hbD,← hx,← hy]
  exact k1
 have hA0:0<A:=by
  have h1:0<e*e*A:=by rw [hA];exact Int.mul_pos hf.pos hg.pos
  exact zIc (Int.mul_pos he he) h1
 obtain ⟨C,hC⟩:=k2
 have hBB:B*B-D=4*A*C:=by
  have q:B*B-(tD D*tD D+4*kD D)=4*(β3*β3+tD D*β3-kD D):=by rw [hBt];grind
  rw [← f3] at q
  rw [q,hC,Int.mul_assoc]
 have hCe:(B*B-D)/(4*A)=C:=by rw [hBB];exact Int.mul_ediv_cancel_left _ zm
 refine ⟨⟨e,he,hA,hcps⟩,by rw [hCe];have:4*A*C=4*(A*C):=Int.mul_assoc .. ;omega,hA0,?_⟩
 rw [hCe]
 intro d h1 h2 h3
 rw [hBt] at h2
 -- the product of F and its mirror is the whole ring
 obtain ⟨i,j,l,hi⟩:=sf_bez hf
 obtain ⟨i',j',l',hi'⟩:=sf_bez hg
 have mf:=zMb (t:=tD D) (k:=kD D) (by have:=hf.pos;omega) f2 ⟨i,j,l,by rw [← f1];exact hi⟩
 have mg:=zMb (t:=tD D) (k:=kD D) (by have:=hg.pos;omega) g2 ⟨i',j',l',by rw [← g1];exact hi'⟩
 have f2':(-x-tD D)*(-x-tD D)+tD D*(-x-tD D)-kD D=a*c:=by rw [← f2];grind
 have g2':(-y-tD D)*(-y-tD D)+tD D*(-y-tD D)-kD D=a'*c':=by rw [← g2];grind
 have km:=(zMs (t:=tD D) (k:=kD D) (S:=-S) (X:=X) (Y:=Y) (Z:=-Z) (w:=(-x-tD D)*-S-N1*c) (b3:=-β3-tD D) he0 f2' g2' ha1 ha2 (by rw [Int.mul_neg,← hs'];omega) (by rw [Int.neg_mul_neg];exact hz1) rfl hfo4 (by
  obtain ⟨i,j,l,n,hp⟩:=hp
  exact ⟨i,-j,l,n,by rw [← hp];grind⟩)).1
 rw [← hN] at km
 have h4:=Sp.four (t:=tD D) (k:=kD D) (La a x) (La a' y) (La a (-x-tD D)) (La a' (-y-tD D))
 rw [k1,km,mf,mg,Sp.pm,Sp.pm2,Sp.pm,Sp.pm2,Pm.pm,Pm.pm] at h4
 have h5:Pm (tD D) (kD D) (El.mul (tD D) (kD D) ⟨a,0⟩ ⟨a',0⟩) (Sp (tD D) (kD D) (La 1 (-x-tD D)) (La 1 (-y-tD D))) ⟨a*a',0⟩:=⟨_,.mul (La.all _ ⟨1,0⟩) (La.all _ ⟨1,0⟩),by apply El.ext' <;> simp [El.mul]⟩
 rw [← h4] at h5
 obtain ⟨u,hu,eu⟩:=h5
 have e1:=El.cast_x eu
 have e2:=El.cast_y eu
 simp only [El.mul,Int.zero_mul,Int.mul_zero,Int.add_zero,Int.zero_add] at e1 e2
 have hee:e*e≠0:=by have:=Int.mul_pos he he;omega
 have hux:u.x=A:=zB0 hee (by rw [← e1,← hA])
 have huy:u.y=0:=zB0 hee (by rw [← e2,Int.mul_zero])
 have hue:u=⟨A,0⟩:=El.ext' hux huy
 rw [hue] at hu
 exact prim_of zm hC hu h1 h2 h3
theorem Cps.value {D a b c a' b' c' A B C:Int} (hf:Sf D a b c) (hg:Sf D a' b' c') (hF:Sf D A B C) (h:Cps D a b a' b' A B) (x y z w:Int):∃ m n,qv a b c x y*qv a' b' c' z w=qv A B C m n:=by
 obtain ⟨e,he,hA,h⟩:=h
 obtain ⟨f1,f2,_⟩:=zB8 hf.disc
 obtain ⟨g1,g2,_⟩:=zB8 hg.disc
 obtain ⟨k1,k2,_⟩:=zB8 hF.disc
 have hm:=Sp.mul (t:=tD D) (k:=kD D) (La.of a (bD D b) x y) (La.of a' (bD D b') z w)
 rw [show Sp (tD D) (kD D) (La a (bD D b)) (La a' (bD D b'))=_ from h] at hm
 obtain ⟨s,hs,es⟩:=hm
 obtain ⟨m,em⟩:=La.ex hs
 refine ⟨m,s.y,?_⟩
 have hn:=congrArg (El.nm (tD D) (kD D)) es
 rw [em,El.nm_mul,El.nm_mul,zKb,zH7 f2,zH7 g2,zH7 k2,← f1,← g1,← k1] at hn
 have h1:=Int.mul_pos hf.pos hg.pos
 refine zB0 (a:=a*a') zm ?_
 have q:a*qv a b c x y*(a'*qv a' b' c' z w)=a*a'*(qv a b c x y*qv a' b' c' z w):=by grind
 rw [← q,hn,← hA]
 grind
def zCc (D:Int):Int:=if (3+D % 2000) % 4=1 then 3+D % 2000+2 else if (3+D % 2000) % 4=2 then 3+D % 2000+1 else 3+D % 2000
theorem zNh (D:Int):3≤zCc D∧zCc D≤2004∧(zCc D % 4=0∨zCc D % 4=3):=by unfold zCc;split <;> (try split) <;> omega
theorem sizeF_at {D n:Int} (h0:3+D % 2000≤n) (h1:n≤zCc D):(n=zCc D∧(n % 4=0∨n % 4=3))∨(n<zCc D∧n % 4≠0∧n % 4≠3):=by
 unfold zCc at *
 split at h1
 ·rename_i h;rw [if_pos h];omega
 ·rename_i h
  rw [if_neg h]
  split at h1
  ·rename_i g;rw [if_pos g];omega
  ·rename_i g;rw [if_neg g];omega
theorem zNc:rowB 26 9=true:=by kernel_rfl
theorem exQTurn {w:World} {z s t:Int} (hz:0≤z∧z≤255) (es:s=z % 8-3) (et:t=z/8 % 8-4) :
  Rt 31 #[.int .u8 z] w fun v' w'=>(Fq.st [.n s,.n (s*t-1),.n 1,.n t]).P v' w':=by
 obtain ⟨r,hr⟩:∃ r,r=z % 8:=⟨_,rfl⟩
 obtain ⟨d,hd⟩:∃ d,d=z/8:=⟨_,rfl⟩
 obtain ⟨q,hq⟩:∃ q,q=d % 8:=⟨_,rfl⟩
 have hr0:0≤r∧r<8:=zm
 have hd0:0≤d∧d<32:=zm
 have hq0:0≤q∧q<8:=zm
 have es2:s=r-3:=by rw [es,hr]
 have et2:t=q-4:=by rw [et,hq,hd]
 have C0:Hid (Int.tmod z 8=r):=by show _=_;rw [Int.tmod_eq_emod_of_nonneg zm,hr]
 have C1:Hid (Int.tdiv z 8=d):=by show _=_;rw [Int.tdiv_eq_ediv_of_nonneg zm,hd]
 have C2:Hid (Int.tmod d 8=q):=by show _=_;rw [Int.tmod_eq_emod_of_nonneg zm,hq]
 have D0:Hid (IntKind.u8.wrap r=r):=by show _=_;simp [IntKind.wrap,IntKind.bits,IntKind.signed];omega
 have D1:Hid (IntKind.u8.wrap d=d):=by show _=_;simp [IntKind.wrap,IntKind.bits,IntKind.signed];omega
 have D2:Hid (IntKind.u8.wrap q=q):=by show _=_;simp [IntKind.wrap,IntKind.bits,IntKind.signed];omega
 have I0:Hid (IntKind.i64.wrap r=r):=IntWalk.i64_in _ zm
 have I1:Hid (IntKind.i64.wrap q=q):=IntWalk.i64_in _ zm
 have E0:Hid (IntKind.i64.wrap (r-3)=s):=by show _=_;rw [es2];exact IntWalk.i64_in _ zm
 have E1:Hid (IntKind.i64.wrap (q-4)=t):=by show _=_;rw [et2];exact IntWalk.i64_in _ zm
 have RS1:Hid (-9223372036854775808≤s∧s≤9223372036854775807):=by show _∧_;omega
 have RT1:Hid (-9223372036854775808≤t∧t≤9223372036854775807):=by show _∧_;omega
 have BS:Hid (ab s<pw 3):=zAr RS1.out.1 RS1.out.2
 have BT:Hid (ab t<pw 3):=zAr RT1.out.1 RT1.out.2
 have BV:Hid (ab (s*t-1)<pw 8):=zCm (zBv BS.out BT.out) (zAr (x:=1) zd zd) zm zm
 clear hr hd hq hr0 hd0 hq0 es2 et2 es et hz
 obtain ⟨w1,b1,hw1,hb1,hs1,E⟩:=zEb w (F:=Fq.st [.n 0,.n 0,.n 0,.n 0]) (us:=[.bool false,.slice none 0 0,.bool false,.slice none 0 0,.bool false,.slice none 0 0,.bool false,.slice none 0 0]) 67 rfl (by simp) ((Fits.tame (zEo w))) (zPp _)
 go_enter Tryz.func31,Tryz.ntmps31
 go_upto_region 1 with (fail)
 rw [← hw1,← hb1]
 clear hw1 hb1 hs1
 refine rz [.u (.int .u8 z),.u (.int .u8 r),.i r,.i s,.w (Fq.st [.n 1,.n s,.n 0,.n 1]),.k,.a] [none] [⟨5,6,8,Fq.st [.n 0,.n 0,.n 0,.n 0],Fq.st [.n 1,.n s,.n 0,.n 1],none⟩] E (fun hp=>⟨zS,zO hp (sqi 0) (And.intro C0.out D0.out),zO hp (sqi 1) I0.out,zO hp (sqi 2) E0.out,zD1 (F:=(Fq.is (.int .i64 1)).P) (G:=(Fq.is (.int .i64 s)).P) (F3:=(Fq.is (.int .i64 0)).P) (F4:=(Fq.is (.int .i64 1)).P) hp fo tv (zLd) (zAk (fun _=>rfl)) (sqi 3) (zAk (fun _=>rfl)) (zAk (fun _=>rfl)) (fun v v' u u' w h h' g g'=>(by subst h h' g g';exact zLu zd RS1.out zd zd)),aS hp J0 zEo zM7,sS 4 hp J0 zEh,tv⟩) ?_
 intro w2 b2_5 E _ _
 simp only [rzE] at E ⊢
 clear C0 I0 E0
 go_upto_region 2 with (fail)
 refine rz [.w (Fq.st [.n 1,.n s,.n 0,.n 1]),.w (Fq.st [.n 0,.n (-1),.n 1,.n 0]),.w (Fq.st [.n s,.n (-1),.n 1,.n 0]),.u (.int .u8 z),.u (.int .u8 d),.u (.int .u8 q),.i q,.i t,.w (Fq.st [.n 1,.n t,.n 0,.n 1]),.w (Fq.st [.n s,.n (s*t-1),.n 1,.n t]),.a] [none,some (10,Fq.st [.n s,.n (s*t-1),.n 1,.n t])] [] E (fun hp=>⟨lS 0 8 hp J0 zEz zw,zD1 (F:=(Fq.is (.int .i64 0)).P) (G:=(Fq.is (.int .i64 (-1))).P) (F3:=(Fq.is (.int .i64 1)).P) (F4:=(Fq.is (.int .i64 0)).P) hp fo tv (zLd) (zAk (fun _=>rfl)) (zAk (fun _=>rfl)) (zAk (fun _=>rfl)) (zAk (fun _=>rfl)) (fun v v' u u' w h h' g g'=>(by subst h h' g g';exact zLu zd zd zd zd)),zC hp zOl zi zi fun v v' w h h'=>(by have hh:=zPn h h' (zu (zAr zd zd)) (zu BS.out) (zu (zAr zd zd)) (zu (zAr zd zd)) (zu (zAr zd zd)) (zu (zAr zd zd)) (zu (zAr zd zd)) (zu (zAr zd zd));rw [show (((1*0)+(s*1)):Int)=s by omega,show (((1*(-1))+(s*0)):Int)=(-1) by omega,show (((0*0)+(1*1)):Int)=1 by omega,show (((0*(-1))+(1*0)):Int)=0 by omega] at hh;exact hh),zS,zO hp (sqi 3) (And.intro C1.out D1.out),zO hp (sqi 4) (And.intro C2.out D2.out),zO hp (sqi 5) I1.out,zO hp (sqi 6) E1.out,zD1 (F:=(Fq.is (.int .i64 1)).P) (G:=(Fq.is (.int .i64 t)).P) (F3:=(Fq.is (.int .i64 0)).P) (F4:=(Fq.is (.int .i64 1)).P) hp fo tv (zLd) (zAk (fun _=>rfl)) (sqi 7) (zAk (fun _=>rfl)) (zAk (fun _=>rfl)) (fun v v' u u' w h h' g g'=>(by subst h h' g g';exact zLu zd RT1.out zd zd)),zC hp zOl zi zi fun v v' w h h'=>(by have hh:=zPn h h' (zu BS.out) (zu (zAr zd zd)) (zu (zAr zd zd)) (zu (zAr zd zd)) (zu (zAr zd zd)) (zu BT.out) (zu (zAr zd zd)) (zu (zAr zd zd));rw [show (((s*1)+((-1)*0)):Int)=s by omega,show (((s*t)+((-1)*1)):Int)=(s*t-1) by omega,show (((1*1)+(0*0)):Int)=1 by omega,show (((1*t)+(0*1)):Int)=t by omega] at hh;exact hh),sO 0 9 hp J1 zEh zw,tv⟩) ?_
 intro w3 E _ _
 simp only [rzE] at E ⊢
 clear C1 D1 C2 D2 I1 E1 RS1 RT1
 obtain ⟨_,_,hc0,hf0⟩:=zAv (E.box 1 rfl)
 have hP0:=hf0
 obtain ⟨r0_p0,r0_q0,_,rfl,_r0_n0,r0_p1,r0_q1,_,rfl,_r0_n1,r0_p2,r0_q2,_,rfl,_r0_n2,r0_p3,r0_q3,_,rfl,_r0_n3,rfl⟩:=hf0
 have c0_0:=hc0 0 (by simp)
 have c0_1:=hc0 1 (by simp)
 have c0_2:=hc0 2 (by simp)
 have c0_3:=hc0 3 (by simp)
 have c0_4:=hc0 4 (by simp)
 have c0_5:=hc0 5 (by simp)
 have c0_6:=hc0 6 (by simp)
 have c0_7:=hc0 7 (by simp)
 simp only [List.getD_cons_zero,List.getD_cons_succ] at c0_0 c0_1 c0_2 c0_3 c0_4 c0_5 c0_6 c0_7
 clear hc0
 clear BS BT BV
 go_wp2
 exact zR (v:=.agg #[r0_p0,r0_q0,r0_p1,r0_q1,r0_p2,r0_q2,r0_p3,r0_q3]) (by simp [results,Tryz.results31,go_sem,c0_0,c0_1,c0_2,c0_3,c0_4,c0_5,c0_6,c0_7]) E.below ⟨_,rfl,hP0⟩

theorem exQSize {w:World} {v:Value} {D i0 i1 i2 i3 m0 m1 m2 m3:Int} (h:(Fq.st [.v (.int .u16 D),.v (.int .u16 i0),.v (.int .u16 i1),.v (.int .u16 i2),.v (.int .u16 i3),.v (.int .u8 m0),.v (.int .u8 m1),.v (.int .u8 m2),.v (.int .u8 m3)]).P v w) (hD:0≤D∧D≤65535) :
  Rt 39 #[v] w fun v' w'=>v'=.int .i64 (zCc D):=by
 obtain ⟨r,hr⟩:∃ r,r=D % 2000:=⟨_,rfl⟩
 have hr0:0≤r∧r<2000:=zm
 obtain ⟨k,hk⟩:∃ k,k=3+r:=⟨_,rfl⟩
 have hk1:3+D % 2000≤k:=zm
 have hk2:k≤zCc D:=by unfold zCc;rw [← hr];split <;> (try split) <;> omega
 have C0:Hid (Int.tmod D 2000=r):=by show _=_;rw [Int.tmod_eq_emod_of_nonneg zm,hr]
 have I0:Hid (IntKind.i64.wrap r=r):=IntWalk.i64_in _ zm
 have E0:Hid (IntKind.i64.wrap (3+r)=k):=by show _=_;rw [hk];exact IntWalk.i64_in _ zm
 have HK:=hidd (And.intro hk1 hk2)
 clear hr hr0 hk hk1 hk2 hD
 obtain ⟨_,rfl,hf0⟩:=h
 have hF0:=hf0
 obtain ⟨_,rfl,_,_,rfl,_,_,rfl,_,_,rfl,_,_,rfl,_,_,rfl,_,_,rfl,_,_,rfl,_,_,rfl,_,rfl⟩:=hf0
 obtain ⟨w1,b1,hw1,hb1,hs1,E⟩:=gS w 26 hF0
 go_enter Tryz.func39,Tryz.ntmps39
 go_upto_region 1 with (fail)
 rw [← hw1,← hb1]
 clear hw1 hb1 hs1
 refine rz [.p b1 0,.u (.int .u16 D),.u (.int .u16 r),.i r,.i k,.i k] [none] [] E (fun hp=>⟨qa b1 0 0 hp zw,wXc 0 hp J0 zi,zO hp (sqi 1) C0.out,zO hp (sqi 2) I0.out,zO hp (sqi 3) E0.out,zS,tv⟩) ?_
 intro w2 E _ _
 simp only [rzE] at E ⊢
 clear C0 I0 E0
 have HE:=hidd E
 clear E
 obtain ⟨W0,rfl⟩:∃ W0,W0=w2:=⟨_,rfl⟩
 go_wp2_with (fail)
 go_loopw [3] (fun vn W=>∃ n:Int,vn=.int .i64 n∧3+D % 2000≤n∧n≤zCc D∧Fr w [(b1,9,Fq.st [.v (.int .u16 D),.v (.int .u16 i0),.v (.int .u16 i1),.v (.int .u16 i2),.v (.int .u16 i3),.v (.int .u8 m0),.v (.int .u8 m1),.v (.int .u8 m2),.v (.int .u8 m3)])] W) (fun vn _=>(zCc D-intOf vn).toNat)
 case atStart=>exact ⟨k,rfl,HK.out.1,HK.out.2,HE.out⟩
 case round=>
  clear HE HK
  obtain ⟨V2,rfl⟩:∃ V2,V2=wr:=⟨_,rfl⟩
  obtain ⟨n,rfl,hn1,hn2,E⟩:=hrel
  have hc:=sizeF_at hn1 hn2
  have hsz:=zNh D
  obtain ⟨rm,hrm⟩:∃ rm,rm=n % 4:=⟨_,rfl⟩
  rw [← hrm] at hc
  have hn0:0≤n∧n≤2004:=zm
  have TM:Hid (Int.tmod n 4=rm):=by show _=_;rw [Int.tmod_eq_emod_of_nonneg zm,hrm]
  clear hrm hsz
  go_upto_region 2 with (fail)
  by_cases hr0:rm=0
  ·have T1:Hid (rm=0):=by show _=_;omega
   have hEq:n=zCc D:=zm
   have HEQ:=hidd hEq
   clear hc hn1 hn2 hn0 hEq hr0
   refine rz [.i n,.i rm,.o,.o,.u (undef),.u (undef),.u (undef),.o] [none] [] E (fun hp=>⟨zS,zO hp (sqi 0) TM.out,zO hp (sqi 1) T1.out,zS,zS,zS,zS,zt hp (sqi 3) (zk (.bool false)),tv⟩) ?_
   intro w3 E _ _
   simp only [rzE] at E ⊢
   go_upto_region 4 with (fail)
   refine rz [.i n,.i n] [none] [] E (fun hp=>⟨zS,zS,tv⟩) ?_
   intro w4 E _ _
   simp only [rzE] at E ⊢
   have hEq:=HEQ.out
   clear T1 TM HEQ
   go_wp2
   exact zR (v:=.int .i64 n) (by simp [results,Tryz.results39,go_sem]) E.below (by rw [hEq])
  ·by_cases hr3:rm=3
   ·have T1:Hid (¬ rm=0):=by show ¬ _;omega
    have T2:Hid (rm=3):=by show _=_;omega
    have hEq:n=zCc D:=zm
    have HEQ:=hidd hEq
    clear hc hn1 hn2 hn0 hEq hr3
    refine rz [.i n,.i rm,.t,.t,.i n,.i rm,.o,.o] [none] [] E (fun hp=>⟨zS,zO hp (sqi 0) TM.out,zO hp (sqi 1) T1.out,zS,zAi hp fo gqi (sqo 3),zO hp (sqi 4) TM.out,zO hp (sqi 5) T2.out,zt hp (sqi 3) (sqi 6),tv⟩) ?_
    intro w5 E _ _
    simp only [rzE] at E ⊢
    go_upto_region 4 with (fail)
    refine rz [.i n,.i n] [none] [] E (fun hp=>⟨zS,zS,tv⟩) ?_
    intro w6 E _ _
    simp only [rzE] at E ⊢
    have hEq:=HEQ.out
    clear T1 TM HEQ T2
    go_wp2
    exact zR (v:=.int .i64 n) (by simp [results,Tryz.results39,go_sem]) E.below (by rw [hEq])
   ·have T1:Hid (¬ rm=0):=by show ¬ _;omega
    have T2:Hid (¬ rm=3):=by show ¬ _=_;omega
    have HN:=hidd (show n<zCc D∧3+D % 2000≤n∧n≤2004 by omega)
    have W1:Hid (IntKind.i64.wrap (n+1)=n+1):=IntWalk.i64_in _ zm
    clear hc hn1 hn2 hn0 hr0 hr3
    refine rz [.i n,.i rm,.t,.t,.i n,.i rm,.t,.t] [none] [] E (fun hp=>⟨zS,zO hp (sqi 0) TM.out,zO hp (sqi 1) T1.out,zS,zAi hp fo gqi (sqo 3),zO hp (sqi 4) TM.out,zO hp (sqi 5) T2.out,zt hp (sqi 3) (sqi 6),tv⟩) ?_
    intro w7 E _ _
    simp only [rzE] at E ⊢
    go_upto_region 3 with (fail)
    refine rz [.i n,.i (n+1),.i (n+1)] [none] [] E (fun hp=>⟨zFq 2 3 hp fo tv rfl rfl rfl rfl (fun _=>rfl),zO hp (sqi 0) W1.out,zS,tv⟩) ?_
    intro w8 E _ _
    simp only [rzE] at E ⊢
    have hN:=HN.out
    clear T1 T2 TM HN W1
    go_wp2
    go_roundw
    case rel=>exact ⟨n+1,rfl,zm,zm,E⟩
    case measure=>first | (simp [intOf];omega) | simp [intOf]

section
variable {n1 n2 n3 n4 n5 n6 n7 : Bool} {a1 a2 a3 a4 a5 a6 a7 : Option Addr} {k1 c1 k2 c2 k3 c3 k4 c4 k5 c5 k6 c6 k7 c7 : Nat} {xs1 xs2 xs3 xs4 xs5 xs6 xs7 : List Int}
end
section
variable {os : List Oper} {Q : Exit → Act → World → Prop} {a : Act} {p : Pq} {B B0 : Nat} {w0 : World}
variable {i s : Nat} {d : Option Tmp} {ty : TypeId} {ps : String} {af : Array Edge} {gd : Option (Nat × Bool)}
end
section
variable {os : List Oper} {Q : Exit → Act → World → Prop} {a : Act} {p : Pq} {B B0 : Nat} {w0 : World}
variable {i s : Nat} {d : Option Tmp} {ty : TypeId} {ps : String} {af : Array Edge} {gd : Option (Nat × Bool)}
end
def Fq.sm (R:Pt × Int × Int):Fq:=Fq.st [.n R.1.x,.n R.1.y,.v (.bool R.1.i),.n R.2.1,.v (.int .i64 R.2.2)]
section
variable {os : List Oper} {Q : Exit → Act → World → Prop} {a : Act} {p : Pq} {B B0 : Nat} {w0 : World}
variable {i s : Nat} {d : Option Tmp} {ty : TypeId} {ps : String} {af : Array Edge} {gd : Option (Nat × Bool)}
end
section
variable {os : List Oper} {Q : Exit → Act → World → Prop} {a : Act} {p : Pq} {B B0 : Nat} {w0 : World}
variable {i s : Nat} {d : Option Tmp} {ty : TypeId} {ps : String} {af : Array Edge} {gd : Option (Nat × Bool)}
end
-- PART2
def red (a:Int) (P:Pt):Pt:=⟨P.x % a,P.y % a,P.i⟩
def noSl:List Fd→Bool
 | []=>true
 | .v (.slice _ _ _)::_=>false
 | _::r=>noSl r
def FarC (own:Option Nat) (es:List Value):Prop:=∀ a k c,Value.slice (some a) k c∈es→k≠0→some a.block≠own
theorem FarC.tail {own:Option Nat} {u:Value} {es:List Value} (h:FarC own (u::es)):FarC own es:=fun a k c hm hk=>h a k c (List.mem_cons_of_mem _ hm) hk
theorem Fits.grown {w w':World} {row:Option Nat} (hg:w.grownBy w' row):∀ {fs:List Fd} {es:List Value},Fits w fs es→FarC row es→Fits w' fs es
 | [],_,h,_=>h
 | .n z::fs,_,⟨a,b,r,e,h1,h2⟩,hf=>by
  subst e
  refine ⟨a,b,r,rfl,?_,Fits.grown hg h2 hf.tail.tail⟩
  obtain ⟨n,ao,k,c,e⟩:=h1.parts
  rw [e] at h1 ⊢
  injection e with e
  have e2:=congrArg Array.toList e
  simp at e2
  obtain ⟨rfl,rfl⟩:=e2
  exact h1.grown hg fun x hx hk=>hf x k c (by rw [hx];simp) hk
 | .v u::fs,_,⟨r,e,h1,h2⟩,hf=>by
  subst e
  exact ⟨r,rfl,h1,Fits.grown hg h2 hf.tail⟩
 | .r n ao k c xs z::fs,_,⟨r,e,h1,h2⟩,hf=>by
  subst e
  refine ⟨r,rfl,⟨?_,h1.2.grown hg fun x hx hk=>hf x k c (by rw [hx];simp) hk⟩,Fits.grown hg h2 hf.tail.tail⟩
  have hs:=h1.1
  refine ⟨hs.len,hs.cap,hs.cells.1,?_⟩
  rcases hs.cells.2 with h0 | ⟨b,off,rfl,hlt,hc⟩
  ·exact .inl h0
  ·rcases Nat.eq_zero_or_pos k with h0 | h0
   ·exact .inl (List.eq_nil_of_length_eq_zero (hs.len.trans h0))
   ·exact .inr ⟨b,off,rfl,Nat.lt_of_lt_of_le hlt hg.size,fun j hj=>hg.cell (hc j hj) (show some b≠row from hf ⟨b,off,none⟩ k c (by simp) zm)⟩
theorem Fits.blk {w:World}:∀ {fs:List Fd} {es:List Value},Fits w fs es→noSl fs=true→∀ {a:Addr} {k c:Nat},Value.slice (some a) k c∈es→k≠0→a.block<w.heap.size
 | [],_,h,_,_,_,_,hm,_=>by rw [show _=[] from h] at hm;simp at hm
 | .n z::fs,_,⟨x,y,r,e,h1,h2⟩,hn,a,k,c,hm,hk=>by
  subst e
  obtain ⟨n,ao,k',c',e⟩:=h1.parts
  have h3:=h1
  rw [e] at h3
  injection e with e
  have e2:=congrArg Array.toList e
  simp at e2
  obtain ⟨rfl,rfl⟩:=e2
  simp only [List.mem_cons,reduceCtorEq,false_or] at hm
  rcases hm with hm | hm
  ·injection hm with hm1 hm2 hm3
   subst hm1 hm2 hm3
   exact h3.blk hk
  ·exact Fits.blk h2 hn hm hk
 | .v u::fs,_,⟨r,e,h1,h2⟩,hn,a,k,c,hm,hk=>by
  subst e
  rcases List.mem_cons.1 hm with hm | hm
  ·subst hm;simp [noSl] at hn
  ·refine Fits.blk h2 ?_ hm hk
   cases u <;> first | exact hn | simp [noSl] at hn
 | .r n ao k' c' xs z::fs,_,⟨r,e,h1,h2⟩,hn,a,k,c,hm,hk=>by
  subst e
  simp only [List.mem_cons,reduceCtorEq,false_or] at hm
  rcases hm with hm | hm
  ·injection hm with hm1 hm2 hm3
   subst hm1 hm2 hm3
   exact h1.2.blk hk
  ·exact Fits.blk h2 hn hm hk
def StAt (w:World) (g o:Nat) (fs:List Fd):Prop:=∃ es,Fits w fs es∧∀ j,j<es.length→w.cell? ⟨g,o+j,none⟩=some (es.getD j undef)
theorem StAt.mono {w w':World} {g o:Nat} {fs:List Fd} (h:StAt w g o fs) (hl:g<w.heap.size) (hb:Below w.heap.size w w'):StAt w' g o fs:=by
 obtain ⟨es,h1,h2⟩:=h
 exact ⟨es,h1.mono hb,fun j hj=>(hb.cell (p:=⟨g,o+j,none⟩) hl).trans (h2 j hj)⟩
def Sts (m:Nat) (w:World) (v:Value) (fss:List (List Fd)):Prop:=∃ g cap,v=.slice (some ⟨g,0,none⟩) fss.length cap∧g<w.heap.size∧∀ i fs,fss[i]?=some fs→StAt w g (i*m) fs
theorem Sts.mono {m:Nat} {w w':World} {v:Value} {fss:List (List Fd)} (h:Sts m w v fss) (hb:Below w.heap.size w w'):Sts m w' v fss:=by
 obtain ⟨g,cap,e,h1,h2⟩:=h
 exact ⟨g,cap,e,Nat.lt_of_lt_of_le h1 hb.size,fun i fs hi=>(h2 i fs hi).mono h1 hb⟩
def StCell (m:Nat) (us:List Value) (w:World) (own:Option Nat) (i:Nat) (fs:List Fd):Prop:=∃ es,es.length=m∧(∀ j,j<m→us[i*m+j]?=es[j]?)∧FarC own es∧Fits w fs es∧noSl fs=true
def Ls (T m:Nat) (W:World) (B:Nat) (v:Value) (fss:List (List Fd)):Prop:=∃ us,W.ownsRow B T m v fss.length us∧∀ i fs,fss[i]?=some fs→StCell m us W v.ownBlock i fs
theorem Ls.shape {T m:Nat} {W:World} {B:Nat} {v:Value} {fss:List (List Fd)} (h:Ls T m W B v fss):∃ ao cap,v=.slice ao fss.length cap:=by
 obtain ⟨us,h,_⟩:=h
 rcases h.2 with ⟨rfl,h0⟩ | ⟨g,cap,cur,rfl,_⟩
 ·exact ⟨none,0,by rw [h0]⟩
 ·exact ⟨_,_,rfl⟩
theorem Ls.mono {T m:Nat} {w w':World} {B:Nat} {v:Value} {fss:List (List Fd)} (h:Ls T m w B v fss) (hb:Below w.heap.size w w'):Ls T m w' B v fss:=by
 obtain ⟨us,h,hE⟩:=h
 refine ⟨us,⟨h.1,?_⟩,fun i z hi=>?_⟩
 ·rcases h.2 with h2 | ⟨g,cap,cur,h1,h2,h3,h4⟩
  ·exact .inl h2
  ·exact .inr ⟨g,cap,cur,h1,h2,by rw [hb.block g (Array.getElem?_eq_some_iff.1 h3).1];exact h3,h4⟩
 ·obtain ⟨es,g1,g2,g3,g4,g5⟩:=hE i z hi
  exact ⟨es,g1,g2,g3,g4.mono hb,g5⟩
theorem Ls.sts {T m:Nat} {w:World} {B:Nat} {v:Value} {fss:List (List Fd)} (h:Ls T m w B v fss) (h0:0<fss.length):Sts m w v fss:=by
 obtain ⟨us,h,hE⟩:=h
 have h5:=h
 rcases h.2 with ⟨rfl,h1⟩ | ⟨g,cap,cur,rfl,h1,h2,h3⟩
 ·omega
 ·refine ⟨g,cap,rfl,(Array.getElem?_eq_some_iff.1 h2).1,fun i fs hi=>?_⟩
  obtain ⟨es,g1,g2,g3,g4,g5⟩:=hE i fs hi
  have hl:i<fss.length:=(List.getElem?_eq_some_iff.1 hi).1
  refine ⟨es,g4,fun j hj=>?_⟩
  have hul:=h5.1
  have hlt:i*m+j<us.length:=by
   have hm1:(i+1)*m≤fss.length*m:=Nat.mul_le_mul_right m zm
   rw [Nat.add_mul,Nat.one_mul] at hm1
   omega
  rw [World.ownsRow.cellAt h5 (i*m+j) zm,g2 j zm]
  simp [List.getD,List.getElem?_eq_getElem hj]
theorem Ls.one {T m:Nat} (w:World) {B:Nat} {fs:List Fd} {es:List Value} (hB:B≤w.heap.size) (hm:es.length=m) (hF:Fits w fs es) (hn:noSl fs=true):Ls T m (w.alloc (.cells es.toArray T)) B (.slice (some ⟨w.heap.size,0,none⟩) 1 1) [fs]:=by
 refine ⟨es,⟨by simp [hm],.inr ⟨w.heap.size,1,es.toArray,rfl,hB,?_,?_⟩⟩,fun i z hi=>?_⟩
 ·exact heap_alloc_new w _
 ·simp [hm]
  exact ⟨by unfold maxLen;omega,by rw [← hm,List.take_length]⟩
 ·match i,hi with
  | 0,hi=>
   simp at hi
   subst hi
   refine ⟨es,hm,fun j _=>by rw [Nat.zero_mul,Nat.zero_add],fun a k c hs hk e=>?_,hF.mono (zAh _ _),hn⟩
   have h1:=hF.blk hn hs hk
   simp [Value.ownBlock] at e
   omega
  | i+1,hi=>simp at hi
theorem Ls.step {T m B:Nat} {w wr w1 w2:World} {v:Value} {fss:List (List Fd)} {us es:List Value} {fs:List Fd} {o:Obj} {g cap H:Nat}
  (hO:wr.ownsRow B T m v fss.length us) (hE:∀ i z,fss[i]?=some z→StCell m us wr v.ownBlock i z) (hB:B≤wr.heap.size) (hnx:Below B w wr) (hb:Below wr.heap.size wr w1)
  (hnew:∀ a k c,Value.slice (some a) k c∈es→k≠0→wr.heap.size≤a.block) (hF:Fits w1 fs es) (hn:noSl fs=true) (hm:es.length=m)
  (hown':w2.ownsRow B T m (.slice (some ⟨g,0,none⟩) (fss.length+1) cap) (fss.length+1) (us++es)) (hgrow:(w1.alloc o).grownBy w2 v.ownBlock) (hat:v.ownBlock=some g∨g=H) (hH:(w1.alloc o).heap.size=H) :
  Ls T m w2 B (.slice (some ⟨g,0,none⟩) (fss.length+1) cap) (fss ++ [fs])∧Below B w w2:=by
 have hsz:=hb.size
 have hH2:w1.heap.size+1=H:=by rw [← hH];simp
 have hlt:=hO.lt
 have hul:=hO.1
 refine ⟨⟨us++es,by simpa using hown',fun i y hi=>?_⟩,?_⟩
 ·have hne:∀ {a:Addr} {k c:Nat} {xs:List Value} {gs:List Fd},Fits w1 gs xs→noSl gs=true→Value.slice (some a) k c∈xs→k≠0→some a.block≠v.ownBlock→a.block≠g:=by
   intro a k c xs gs hx hnx2 hmx hk hr e
   have h1:=hx.blk hnx2 hmx hk
   rcases hat with h | h
   ·rw [h,e] at hr;exact hr rfl
   ·omega
  by_cases hil:i<fss.length
  ·rw [List.getElem?_append_left hil] at hi
   obtain ⟨xs,g1,g2,g3,g4,g5⟩:=hE i y hi
   refine ⟨xs,g1,fun j hj=>?_,fun a k c hs hk e=>?_,((g4.mono hb).mono (zAh w1 o)).grown hgrow g3,g5⟩
   ·have hm1:(i+1)*m≤fss.length*m:=Nat.mul_le_mul_right m zm
    rw [Nat.add_mul,Nat.one_mul] at hm1
    rw [List.getElem?_append_left zm]
    exact g2 j hj
   ·exact hne (g4.mono hb) g5 hs hk (g3 a k c hs hk) (by simpa [Value.ownBlock] using e)
  ·have hi2:i=fss.length:=by
    rcases Nat.lt_or_ge i (fss ++ [fs]).length with h | h
    ·simp at h;omega
    ·rw [List.getElem?_eq_none h] at hi;cases hi
   subst hi2
   rw [List.getElem?_append_right (Nat.le_refl _),Nat.sub_self] at hi
   simp only [List.getElem?_cons_zero,Option.some.injEq] at hi
   subst hi
   have hfar:FarC v.ownBlock es:=fun a k c hs hk e=>by
    have h1:=hnew a k c hs hk
    have h2:=(hlt a.block e.symm).2
    omega
   refine ⟨es,hm,fun j hj=>?_,fun a k c hs hk e=>?_,(hF.mono (zAh w1 o)).grown hgrow hfar,hn⟩
   ·rw [List.getElem?_append_right zm,show fss.length*m+j-us.length=j by omega]
   ·exact hne hF hn hs hk (hfar a k c hs hk) (by simpa [Value.ownBlock] using e)
 ·exact ((hnx.trans (hb.mono hB)).alloc zm o).grown hgrow (by simp;omega) (fun j hj=>(hO.lt j hj).1)
section
variable {os : List Oper} {Q : Exit → Act → World → Prop} {a : Act} {p : Pq} {B B0 : Nat} {w0 : World}
variable {i s : Nat} {d : Option Tmp} {ty : TypeId} {ps : String} {af : Array Edge} {gd : Option (Nat × Bool)}
theorem zCi {b off l T:Nat} {fs:List Fd} {x:Operand} (hp:p.Ok B B0) (hF:p.Free i) (hg:GdQ os a p B B0 w0 af gd) (hn:∀ w,Below B w0 w→StAt w b off fs) (hT:rowB T l=true) (hl:sz fs=l)
  (hx:SrcQ os a p B B0 w0 af x fun u _=>u=.pointer (some ⟨b,off,none⟩)) (hC:∀ v w,(Fq.st fs).P v w→(p.c i).P v w) :
  zAf os Q a p B B0 w0 i { dst:=d,op:=.load T x,type:=ty,pos:=ps,after:=af,guard:=gd }:=by
 refine zBf hp hF hg fun L vs w hG hL hc hd=>?_
 obtain ⟨es,hfit,hat⟩:=hn w hG.below
 have e:=hx L vs w hG hd
 obtain ⟨⟨dd,hu,hd'⟩,hi⟩:=zKm hT
 refine ⟨.agg es.toArray,?_,hC _ _ ⟨_,rfl,hfit⟩⟩
 have hr:w.rangeAt b off es:=by
  intro j v hv
  have hj:=(List.getElem?_eq_some_iff.1 hv).1
  rw [hat j hj,List.getD,hv]
  rfl
 have:=run_loadVar_mid (P:=Tryz.prog) w b off T _ dd hr hu hd' (by rw [hfit.length,hl];exact hi)
 generalize (lay os.toArray L vs os.toArray.size a).eval=ρ at e
 simp only [execOp,e,Instr.loadAt,Instr.sureAddr,Sem.run_bind,Sem.run_pure,Result.andThen_ok,this]
end
def TameRow (w:World) (v:Value):Prop:=∃ g n cap cur e,v=.slice (some ⟨g,0,none⟩) n cap∧w.heap[g]?=some (.cells cur e (0,0))∧∀ u∈cur.toList,zCe u=true
theorem TameRow.mono {w w':World} {v:Value} (h:TameRow w v) (hb:Below w.heap.size w w'):TameRow w' v:=by
 obtain ⟨g,n,cap,cur,e,h1,h2,h3⟩:=h
 exact ⟨g,n,cap,cur,e,h1,by rw [hb.block g (Array.getElem?_eq_some_iff.1 h2).1];exact h2,h3⟩
theorem TameRow.num {w:World} {v:Value} (h:TameRow w v) {n:Bool} {ao:Option Addr} {k c:Nat} {z:Int} (hN:Num w (.agg #[.bool n,.slice ao k c]) z):∀ a,ao=some a→k≠0→some a.block≠v.ownBlock:=by
 intro a ha hk e
 obtain ⟨g,n',cap,cur,et,rfl,h2,h3⟩:=h
 obtain ⟨neg,ao',k',c',xs,hv,hs,hn,hz⟩:=hN
 injection hv with hv
 have hv2:=congrArg Array.toList hv
 simp at hv2
 obtain ⟨rfl,rfl,rfl,rfl⟩:=hv2
 subst ha
 rcases hs.cells.2 with h0 | ⟨b,off,e1,hlt,hc⟩
 ·have:=hs.len;rw [h0] at this;simp at this;omega
 ·injection e1 with e1
  subst e1
  simp [Value.ownBlock] at e
  subst e
  have h4:=hc 0 (by have:=hs.len;omega)
  rw [cell_of_row w b _ cur et _ h2] at h4
  have h5:=List.mem_of_getElem? (l:=cur.toList) (i:=off+0) (by rw [Array.getElem?_toList];exact h4)
  have h6:=h3 _ h5
  simp [zCe] at h6
theorem TameRow.far {w:World} {v:Value} (h:TameRow w v):∀ {fs:List Fd} {es:List Value},Fits w fs es→noSl fs=true→FarC v.ownBlock es
 | [],_,hf,_=>by rw [show _=[] from hf];intro a k c hm;simp at hm
 | .n z::fs,_,⟨x,y,r,e,h1,h2⟩,hn=>by
  subst e
  obtain ⟨n,ao,k',c',e⟩:=h1.parts
  have h3:=h1
  rw [e] at h3
  injection e with e
  have e2:=congrArg Array.toList e
  simp at e2
  obtain ⟨rfl,rfl⟩:=e2
  intro a k c hm hk
  simp only [List.mem_cons,reduceCtorEq,false_or] at hm
  rcases hm with hm | hm
  ·injection hm with hm1 hm2 hm3
   subst hm1 hm2 hm3
   exact h.num h3 _ rfl hk
  ·exact TameRow.far h h2 hn a k c hm hk
 | .v u::fs,_,⟨r,e,h1,h2⟩,hn=>by
  subst e
  intro a k c hm hk
  rcases List.mem_cons.1 hm with hm | hm
  ·subst hm;simp [noSl] at hn
  ·refine TameRow.far h h2 ?_ a k c hm hk
   cases u <;> first | exact hn | simp [noSl] at hn
 | .r n ao k' c' xs z::fs,_,⟨r,e,h1,h2⟩,hn=>by
  subst e
  intro a k c hm hk
  simp only [List.mem_cons,reduceCtorEq,false_or] at hm
  rcases hm with hm | hm
  ·injection hm with hm1 hm2 hm3
   subst hm1 hm2 hm3
   exact h.num h1.2 _ rfl hk
  ·exact TameRow.far h h2 hn a k c hm hk
theorem zR3 {w:World} (t ty:TypeId) (base:Nat) (e:TypeId) (i:TypeInfo) (z:Value) (size bytes:Nat) (ht:Tryz.prog.underlying t=some (.slice e)) (hi:Tryz.prog.info? e=some i) (hz:i.zero=some z)
  (hsize:i.size=size) (hby:i.bytes=bytes) (hzs:z.cells.size=size) (hsz:0<size)
  (v:Value) (n:Nat) (xs:List Value) (hown:w.ownsRow base e size v n xs) (htm:TameRow w v) (hzt:∀ u∈z.cells.toList,zCe u=true)
  (ad:Addr) (m c:Nat) (news:List Value) (hl:news.length=m*size) (hnews:∀ j u,news[j]?=some u→w.cell? (ad.add j)=some u) (h1:∀ u∈news,zCe u=true)
  (hm:0<m) (h63:n+m≤maxLen) (hbytes:(n+m)*bytes≤140737488355328) (hbase:base≤w.heap.size) (H:Nat) (hH:w.heap.size=H) :
  ∃ g cap w',(Builtin.append_ #[t,t] ty #[v,.slice (some ad) m c]).run Tryz.prog w=.ok (.slice (some ⟨g,0,none⟩) (n+m) cap) w' ∧
   w'.ownsRow base e size (.slice (some ⟨g,0,none⟩) (n+m) cap) (n+m) (xs++news)∧w.grownBy w' v.ownBlock∧(v.ownBlock=some g∨g=H)∧g<w'.heap.size∧TameRow w' (.slice (some ⟨g,0,none⟩) (n+m) cap):=by
 have hone:∀ u∈news,u.oneCell'=true:=fun u hu=>by
  have:=h1 u hu
  simp only [zCe,Bool.and_eq_true] at this
  exact this.1
 obtain ⟨g,cap,w',hr,h2,h3,h4,h5⟩:=run_append_lies (P:=Tryz.prog) w t ty base e i z size bytes ht hi hz hsize hby hzs hsz v n xs hown ad m c news hl hnews hone hm h63 hbytes hbase H hH
 refine ⟨g,cap,w',hr,h2,h3,h4,h5,?_⟩
 subst hsize
 subst hby
 obtain ⟨g0,n0,cap0,cur0,e0,rfl,hg0,ht0⟩:=htm
 rcases hown.2 with ⟨h6,_⟩ | ⟨g6,cap6,cur,h7,hbg,hg,hnc,hcm,hcs,htake⟩
 ·cases h6
 ·injection h7 with h7 h8 h9
  injection h7 with h7
  injection h7 with h7
  subst h7 h8 h9
  have hcur:cur=cur0:=by rw [hg0] at hg;injection hg with hg;injection hg with hg;exact hg.symm
  subst hcur
  by_cases hroom:n0+m≤cap0
  ·have hfit:n0*i.size+news.length≤cur.size:=by rw [hl,hcs,← Nat.add_mul];exact Nat.mul_le_mul_right _ hroom
   have hr2:=run_append_room (P:=Tryz.prog) w t ty e i ht hi g0 n0 cap0 cur hg ad m c news hl hnews hone hroom hfit
   rw [hr] at hr2
   injection hr2 with e1 e2
   injection e1 with e1 _ e3
   injection e1 with e1
   injection e1 with e1
   subst e1 e2 e3
   refine ⟨g,_,_,_,e,rfl,setRow_heap w g cur _ e _ hg,fun u hu=>?_⟩
   simp only [List.mem_append] at hu
   rcases hu with (hu | hu) | hu
   ·exact ht0 u (List.mem_of_mem_take hu)
   ·exact h1 u hu
   ·exact ht0 u (List.mem_of_mem_drop hu)
  ·have holds:∀ j u,xs[j]?=some u→w.cell? ((⟨g0,0,none⟩:Addr).add j)=some u:=hown.cells (g:=g0) rfl
   have hsmall:n0+m≤9223372036854775807:=by simp only [maxLen] at h63;omega
   have hr2:=run_append_grow (P:=Tryz.prog) w t ty e i z ht hi hz ⟨g0,0,none⟩ n0 cap0 xs hown.1 holds ad m c news hl hnews zm zm (growslice_fits zm hbytes)
   rw [hr] at hr2
   injection hr2 with e1 e2
   injection e1 with e1 _ e3
   injection e1 with e1
   injection e1 with e1
   subst e1 e2 e3
   refine ⟨_,_,_,_,e,rfl,heap_alloc_new w.drew _,fun u hu=>?_⟩
   simp only [Array.toList_append,List.mem_append] at hu
   rcases hu with (hu | hu) | hu
   ·rw [← htake] at hu
    exact ht0 u (List.mem_of_mem_take hu)
   ·exact h1 u hu
   ·simp only [Builtin.zeroCells,Array.toList_map,Array.toList_range,List.mem_map,List.mem_range] at hu
    obtain ⟨j,hj,rfl⟩:=hu
    have hlt:j % z.cells.size<z.cells.size:=Nat.mod_lt _ (by rw [hzs];exact hsz)
    rw [getElem!_pos z.cells (j % z.cells.size) hlt]
    exact hzt _ (by simp)
theorem zX4 {w:World} {ops:Array Oper} {rest:List Oper} {o:Oper} {a:Act} {Q:Exit→Act→World→Prop} (hgd:o.guard=none) (s x:Operand) (t:TypeId)
  (ho:o.op=.call { callee:=.builtin .append,args:=#[s,x],argTypes:=#[t,t] })
  (base:Nat) (e:TypeId) (i:TypeInfo) (z:Value) (size bytes:Nat) (ht:Tryz.prog.underlying t=some (.slice e)) (hi:Tryz.prog.info? e=some i) (hz:i.zero=some z)
  (hsize:i.size=size) (hby:i.bytes=bytes) (hzs:z.cells.size=size) (hsz:0<size)
  (v:Value) (n:Nat) (xs:List Value) (hs:a.eval s=v) (hown:w.ownsRow base e size v n xs) (htm:TameRow w v) (hzt:∀ u∈z.cells.toList,zCe u=true)
  (ad:Addr) (m c:Nat) (news:List Value) (hx:a.eval x=.slice (some ad) m c) (hl:news.length=m*size) (hnews:∀ j u,news[j]?=some u→w.cell? (ad.add j)=some u) (h1:∀ u∈news,zCe u=true)
  (hm:0<m) (h63:n+m≤maxLen) (hbytes:(n+m)*bytes≤140737488355328) (hbase:base≤w.heap.size) (H:Nat) (hH:w.heap.size=H)
  (h:∀ g cap w',w'.ownsRow base e size (.slice (some ⟨g,0,none⟩) (n+m) cap) (n+m) (xs++news)→w.grownBy w' v.ownBlock→(v.ownBlock=some g∨g=H)→g<w'.heap.size→TameRow w' (.slice (some ⟨g,0,none⟩) (n+m) cap)→wpList Tryz.prog ops Q rest (a.put o.dst (.slice (some ⟨g,0,none⟩) (n+m) cap)) w'):wpList Tryz.prog ops Q (o::rest) a w:=by
 refine wpList_plain hgd fun K hK=>?_
 obtain ⟨g,cap,w',hr,h2,h3,h4,h5,h6⟩:=zR3 (w:=w) t o.type base e i z size bytes ht hi hz hsize hby hzs hsz v n xs hown htm hzt ad m c news hl hnews h1 hm h63 hbytes hbase H hH
 unfold Oper.wp execOp
 simp only [ho,resolve,invoke,builtin,Sem.run_bind,Sem.run_pure,Result.andThen_ok,List.map_toArray,List.map_cons,List.map_nil,hs,hx,hr]
 exact hK _ _ (h g cap w' h2 h3 h4 h5 h6)
def RBox (W:World) (own:Option Nat) (br:Nat) (z:Int):Prop:=br<W.heap.size∧some br≠own∧∃ n ao k c,W.cell? ⟨br,0,none⟩=some (.bool n)∧W.cell? ⟨br,1,none⟩=some (.slice ao k c)∧Num W (.agg #[.bool n,.slice ao k c]) z
theorem RBox.mono {W W':World} {own:Option Nat} {br:Nat} {z:Int} (h:RBox W own br z) (hb:Below W.heap.size W W'):RBox W' own br z:=by
 obtain ⟨h1,h2,n,ao,k,c,g1,g2,g3⟩:=h
 exact ⟨Nat.lt_of_lt_of_le h1 hb.size,h2,n,ao,k,c,(hb.cell (p:=⟨br,0,none⟩) h1).trans g1,(hb.cell (p:=⟨br,1,none⟩) h1).trans g2,g3.mono hb⟩
theorem RBox.st {W:World} {own:Option Nat} {br:Nat} {z:Int} (h:RBox W own br z):StAt W br 0 [.n z]:=by
 obtain ⟨h1,h2,n,ao,k,c,g1,g2,g3⟩:=h
 refine ⟨[.bool n,.slice ao k c],⟨_,_,_,rfl,g3,rfl⟩,fun j hj=>?_⟩
 match j,hj with
 | 0,_=>exact g1
 | 1,_=>exact g2
theorem RBox.step {wr w1 w2:World} {v:Value} {br g H n cap:Nat} {z:Int} {o:Obj} (h:RBox wr v.ownBlock br z) (hb:Below wr.heap.size wr w1) (ht:TameRow (w1.alloc o) v) (hgrow:(w1.alloc o).grownBy w2 v.ownBlock) (hat:v.ownBlock=some g∨g=H) (hH:(w1.alloc o).heap.size=H):RBox w2 (Value.slice (some ⟨g,0,none⟩) n cap).ownBlock br z:=by
 obtain ⟨h1,h2,m,ao,k,c,g1,g2,g3⟩:=(h.mono hb).mono (zAh w1 o)
 have hlt:br<H:=by rw [← hH];exact h1
 refine ⟨Nat.lt_of_lt_of_le h1 hgrow.size,?_,m,ao,k,c,hgrow.cell g1 h2,hgrow.cell g2 h2,g3.grown hgrow (ht.num g3)⟩
 intro e
 simp [Value.ownBlock] at e
 rcases hat with h3 | h3
 ·rw [h3,e] at h2;exact h2 rfl
 ·omega
theorem TameRow.made {w:World} {es:List Value} {T:Nat} (h:∀ u∈es,zCe u=true):TameRow (w.alloc (.cells es.toArray T)) (.slice (some ⟨w.heap.size,0,none⟩) 1 1):=⟨_,_,_,es.toArray,T,rfl,heap_alloc_new w _,fun u hu=>h u (by simpa using hu)⟩
theorem zE3 {w:World} {ops:Array Oper} {rest:List Oper} {o:Oper} {a:Act} {Q:Exit→Act→World→Prop} (hgd:o.guard=none) (T:TypeId) (x:Operand) (ho:o.op=.load T x) {b off l:Nat} {fs:List Fd} (hT:rowB T l=true) (hl:sz fs=l)
  (hx:a.eval x=.pointer (some ⟨b,off,none⟩)) (hS:StAt w b off fs) (h:∀ v,(Fq.st fs).P v w→wpList Tryz.prog ops Q rest (a.put o.dst v) w):wpList Tryz.prog ops Q (o::rest) a w:=by
 refine wpList_plain hgd fun K hK=>?_
 obtain ⟨es,hfit,hat⟩:=hS
 obtain ⟨⟨dd,hu,hd'⟩,hi⟩:=zKm hT
 have hr:w.rangeAt b off es:=by
  intro j v hv
  have hj:=(List.getElem?_eq_some_iff.1 hv).1
  rw [hat j hj,List.getD,hv]
  rfl
 have:=run_loadVar_mid (P:=Tryz.prog) w b off T _ dd hr hu hd' (by rw [hfit.length,hl];exact hi)
 unfold Oper.wp
 have e:(execOp a.eval o).run Tryz.prog w=.ok (.value (.agg es.toArray)) w:=by
  unfold execOp
  simp only [ho,hx,Instr.loadAt,Instr.sureAddr,Sem.run_bind,Sem.run_pure,Result.andThen_ok,this]
 rw [e]
 exact hK _ _ (h _ ⟨_,rfl,hfit⟩)
theorem Fr.addQ {w0 W0 W:World} {bs:List (Nat × Nat × Fq)} (E:Fr w0 bs W0) (hb:Below W0.heap.size W0 W) {g m:Nat} {F:Fq} (hg:W0.heap.size≤g) (hB:Bq W g m F):Fr w0 ((g,m,F)::bs) W:=by
 have h2:=E.later hb
 refine ⟨h2.below,fun x hx=>?_,?_⟩
 ·rcases List.mem_cons.1 hx with rfl | hx
  ·exact ⟨Nat.le_trans E.below.size hg,hB⟩
  ·exact h2.boxes x hx
 ·rw [List.map_cons,List.nodup_cons]
  refine ⟨fun hm=>?_,E.apart⟩
  obtain ⟨x,hx,e⟩:=List.mem_map.1 hm
  have:=(E.boxes x hx).2.lt
  omega
theorem StAt.of_boxQ {w:World} {b m:Nat} {fs:List Fd} (h:Bq w b m (Fq.st fs)):StAt w b 0 fs:=by
 obtain ⟨us,_,h2,h3⟩:=zAv h
 exact ⟨us,h3,fun j hj=>by rw [Nat.zero_add];exact h2 j hj⟩
theorem sixQ {us:List Value} (h:us.length=6):∃ a b c d e f,us=[a,b,c,d,e,f]:=by
 match us,h with
 | [a,b,c,d,e,f],_=>exact ⟨a,b,c,d,e,f,rfl⟩
structure F3 where
 a:Int
 b:Int
 c:Int
def frF (P:F3):List Fd:=[.n P.a,.n P.b,.n P.c]
def keepB (a b c:Int):Bool:=(dfB a b c && redB a b c) && decide (cont a b c=1)
def zBi (n a b:Int):List F3:=if (b*b+n) % (4*a)=0 then (if keepB a b ((b*b+n)/(4*a))=true then [⟨a,b,(b*b+n)/(4*a)⟩] else []) else []
def zBt (n a:Int):Nat→List F3
 | 0=>[]
 | k+1=>zBt n a k++zBi n a (-a+(k:Int))
def zBs (n:Int):Nat→List F3
 | 0=>[]
 | a+1=>zBs n a++(if a=0 then [] else zBt n (a:Int) (2*a+1))
def AEnd (n:Int) (a:Nat):Prop:=1≤a∧¬ 3*((a:Int)*a)≤n∧∀ j:Nat,1≤j→j<a→3*((j:Int)*j)≤n
theorem AEnd.uniq {n:Int} {a b:Nat} (h:AEnd n a) (g:AEnd n b):a=b:=by
 rcases Nat.lt_trichotomy a b with e | e | e
 ·exact absurd (g.2.2 a h.1 e) h.2.1
 ·exact e
 ·exact absurd (h.2.2 b g.1 e) g.2.1
open Classical in
noncomputable def zBz (n:Int):List F3:=if h:∃ a,AEnd n a then zBs n (Classical.choose h) else []
theorem zJ5 {n:Int} {a:Nat} (h:AEnd n a):zBz n=zBs n a:=by
 have he:∃ a,AEnd n a:=⟨a,h⟩
 unfold zBz
 rw [dif_pos he,(Classical.choose_spec he).uniq h]
theorem AEnd.ex {n:Int} (h0:3≤n) (h1:n≤2004):∃ a,AEnd n a:=by
 have key:∀ k a:Nat,1≤a→a+k=26→(∀ j:Nat,1≤j→j<a→3*((j:Int)*j)≤n)→∃ a,AEnd n a:=by
  intro k
  induction k with
  | zero=>
   intro a h2 h3 h4
   obtain rfl:a=26:=zm
   exact ⟨26,zm,zm,h4⟩
  | succ k ih=>
   intro a h2 h3 h4
   by_cases h:3*((a:Int)*a)≤n
   ·refine ih (a+1) zm zm fun j hj1 hj2=>?_
    rcases Nat.lt_or_ge j a with g | g
    ·exact h4 j hj1 g
    ·rw [show j=a by omega];exact h
   ·exact ⟨a,h2,h,h4⟩
 exact key 25 1 zm zm fun j h2 h3=>zm
def FOk (n:Int) (P:F3):Prop:=1≤P.a∧(dfB P.a P.b P.c && redB P.a P.b P.c)=true∧cont P.a P.b P.c=1∧P.b*P.b-4*(P.a*P.c)=-n
theorem formAt_ok {n a b:Int} (ha:1≤a):∀ P∈zBi n a b,FOk n P:=by
 intro P hP
 unfold zBi at hP
 split at hP
 ·rename_i hm
  split at hP
  ·rename_i hk
   simp at hP
   subst hP
   unfold keepB at hk
   simp only [Bool.and_eq_true,decide_eq_true_eq] at hk
   refine ⟨ha,by simp only [Bool.and_eq_true];exact hk.1,hk.2,?_⟩
   have h2:=Int.mul_ediv_add_emod (b*b+n) (4*a)
   rw [hm,Int.mul_assoc] at h2
   show b*b-4*(a*((b*b+n)/(4*a)))=-n
   omega
  ·simp at hP
 ·simp at hP
theorem zQb {n a:Int} (ha:1≤a):∀ k,∀ P∈zBt n a k,FOk n P
 | 0=>fun P hP=>by simp [zBt] at hP
 | k+1=>fun P hP=>by
  rw [zBt] at hP
  rcases List.mem_append.1 hP with h | h
  ·exact zQb ha k P h
  ·exact formAt_ok ha P h
theorem zP8 {n:Int}:∀ a,∀ P∈zBs n a,FOk n P
 | 0=>fun P hP=>by simp [zBs] at hP
 | a+1=>fun P hP=>by
  rw [zBs] at hP
  rcases List.mem_append.1 hP with h | h
  ·exact zP8 a P h
  ·split at h
   ·simp at h
   ·exact zQb zm _ P h
theorem zL9 {n:Int}:∀ P∈zBz n,FOk n P:=by
 unfold zBz
 split
 ·exact zP8 _
 ·intro P hP;simp at hP
theorem zP6 {n:Int} {a:Nat}:∀ k,(zBs n a).length≤(zBs n (a+k)).length
 | 0=>Nat.le_refl _
 | k+1=>by
  rw [show a+(k+1)=(a+k)+1 by omega,zBs,List.length_append]
  have:=zP6 (n:=n) (a:=a) k
  omega
theorem form_len {n a b:Int}:(zBi n a b).length≤1:=by unfold zBi;split <;> (try split) <;> simp
theorem zL8 {n a:Int}:∀ k,(zBt n a k).length≤k
 | 0=>by simp [zBt]
 | k+1=>by rw [zBt,List.length_append];have:=zL8 (n:=n) (a:=a) k;have:=form_len (n:=n) (a:=a) (b:=-a+(k:Int));omega
theorem zL7 {n:Int}:∀ a,a≤26→(zBs n a).length≤a*60
 | 0,_=>by simp [zBs]
 | a+1,h=>by
  rw [zBs,List.length_append]
  have:=zL7 (n:=n) a zm
  split
  ·simp;omega
  ·have:=zL8 (n:=n) (a:=(a:Int)) (2*a+1);omega
theorem zQd {n:Int} (h0:3≤n) (h1:n≤2004) (h4:n % 4=0∨n % 4=3):0<(zBz n).length:=by
 obtain ⟨a,h⟩:=AEnd.ex h0 h1
 rw [zJ5 h]
 have h2:2≤a:=by
  rcases Nat.lt_or_ge a 2 with g | g
  ·have h5:a=1:=by have:=h.1;omega
   subst h5
   exact absurd (show (3*(((1:Nat):Int)*(1:Nat)):Int)≤n by omega) h.2.1
  ·exact g
 obtain ⟨k,rfl⟩:∃ k,a=2+k:=⟨a-2,zm⟩
 refine Nat.lt_of_lt_of_le ?_ (zP6 k)
 have e:zBs n 2=zBs n 1++zBt n ((1:Nat):Int) 3:=rfl
 rw [e,List.length_append]
 have key:∀ b c:Int,0≤b→b≤1→b*b+n=4*c→1≤c→0<(zBi n 1 b).length:=by
  intro b c hb0 hb1 hc hc1
  have hm:(b*b+n) % (4*1)=0:=by rw [hc];omega
  have hq:(b*b+n)/(4*1)=c:=by rw [hc];omega
  unfold zBi
  rw [if_pos hm,hq,if_pos]
  ·simp
  ·unfold keepB
   have hrd:Rdf 1 b c:=⟨zd,zm,zm,hc1,fun _=>hb0⟩
   rw [(zEx zd).2 hrd,Bool.and_true]
   have hd:dfB 1 b c=true:=by
    unfold dfB
    exact decide_eq_true ⟨zm,zd⟩
   rw [hd,Bool.true_and]
   refine decide_eq_true ?_
   unfold cont
   simp
 have e2:zBt n ((1:Nat):Int) 3=((([]:List F3)++zBi n ((1:Nat):Int) (-((1:Nat):Int)+((0:Nat):Int)))++zBi n ((1:Nat):Int) (-((1:Nat):Int)+((1:Nat):Int)))++zBi n ((1:Nat):Int) (-((1:Nat):Int)+((2:Nat):Int)):=rfl
 rw [e2,List.length_append,List.length_append]
 rcases h4 with h5 | h5
 ·have:=key 0 (n/4) zd zd zm zm
  have e3:zBi n ((1:Nat):Int) (-((1:Nat):Int)+((1:Nat):Int))=zBi n 1 0:=rfl
  rw [e3]
  omega
 ·have:=key 1 ((n+1)/4) zd zd zm zm
  have e3:zBi n ((1:Nat):Int) (-((1:Nat):Int)+((2:Nat):Int))=zBi n 1 1:=rfl
  rw [e3]
  omega
def rowQ:List F3→List Fd
 | []=>[]
 | P::ps=>frF P++rowQ ps
theorem zR1:∀ (ps qs:List F3),rowQ (ps++qs)=rowQ ps++rowQ qs
 | [],_=>rfl
 | P::ps,qs=>by
  show frF P++rowQ (ps++qs)=(frF P++rowQ ps)++rowQ qs
  rw [zR1 ps qs,List.append_assoc]
theorem zR2:∀ {ps:List F3} {i:Nat} {P:F3},ps[i]?=some P→subF (i*6) 6 (rowQ ps)=some (frF P)
 | [],_,_,h=>by simp at h
 | Q::ps,0,P,h=>by
  simp at h
  subst h
  rfl
 | Q::ps,i+1,P,h=>by
  have ih:=zR2 (ps:=ps) (i:=i) (P:=P) (by simpa using h)
  rw [show (i+1)*6=i*6+6 by omega]
  exact ih
theorem Ls.box6 {T:Nat} {w:World} {B:Nat} {v:Value} {Ps:List F3} (h:Ls T 6 w B v (Ps.map frF)) (h0:0<Ps.length):∃ g cap,v=.slice (some ⟨g,0,none⟩) Ps.length cap∧B≤g∧Bq w g (Ps.length*6) (Fq.st (rowQ Ps)):=by
 obtain ⟨us,h,hE⟩:=h
 have h5:=h
 have hul:=h5.1
 rw [List.length_map] at hul
 rcases h.2 with ⟨rfl,h1⟩ | ⟨g,cap,cur,rfl,h1,h2,h3⟩
 ·rw [List.length_map] at h1;omega
 ·rw [List.length_map] at h5 ⊢
  have hat:At w g us:=fun j hj=>⟨by rw [World.ownsRow.cellAt h5 j zm];simp [List.getD,List.getElem?_eq_getElem hj],by simp [World.frozen?,h2]⟩
  have all:∀ n,n≤Ps.length→Fits w (rowQ (Ps.take n)) (us.take (n*6)):=by
   intro n
   induction n with
   | zero=>exact fun _=>by rw [Nat.zero_mul,List.take_zero,List.take_zero];rfl
   | succ n ih=>
    intro hn
    obtain ⟨es,g1,g2,_,g4,_⟩:=hE n (frF (Ps[n]'zm)) (by simp [List.getElem?_map,List.getElem?_eq_getElem (show n<Ps.length by omega)])
    have e:us.take ((n+1)*6)=us.take (n*6)++es:=by
     rw [Nat.add_mul,Nat.one_mul,List.take_add]
     congr 1
     refine List.ext_getElem? fun j=>?_
     rcases Nat.lt_or_ge j 6 with hj | hj
     ·rw [List.getElem?_take_of_lt hj,List.getElem?_drop]
      exact g2 j hj
     ·rw [List.getElem?_eq_none (by rw [List.length_take];omega),List.getElem?_eq_none zm]
    rw [e,List.take_add_one,List.getElem?_eq_getElem zm,Option.toList_some,zR1]
    refine (ih zm).append ?_
    show Fits w (frF _ ++ []) es
    rw [List.append_nil]
    exact g4
  have hf:=all Ps.length (Nat.le_refl _)
  rw [List.take_length,← hul,List.take_length] at hf
  exact ⟨g,cap,rfl,h1,us,hul,zm,hat,hf.tame,us,rfl,hf⟩
theorem Ls.stepF {T m B:Nat} {w wr w1 w2:World} {v:Value} {fss:List (List Fd)} {us es:List Value} {fs:List Fd} {o:Obj} {g cap H:Nat}
  (hO:wr.ownsRow B T m v fss.length us) (hE:∀ i z,fss[i]?=some z→StCell m us wr v.ownBlock i z) (hB:B≤wr.heap.size) (hnx:Below B w wr) (hb:Below wr.heap.size wr w1)
  (hfar:FarC v.ownBlock es) (hF:Fits w1 fs es) (hn:noSl fs=true) (hm:es.length=m)
  (hown':w2.ownsRow B T m (.slice (some ⟨g,0,none⟩) (fss.length+1) cap) (fss.length+1) (us++es)) (hgrow:(w1.alloc o).grownBy w2 v.ownBlock) (hat:v.ownBlock=some g∨g=H) (hH:(w1.alloc o).heap.size=H) :
  Ls T m w2 B (.slice (some ⟨g,0,none⟩) (fss.length+1) cap) (fss ++ [fs])∧Below B w w2:=by
 have hsz:=hb.size
 have hH2:w1.heap.size+1=H:=by rw [← hH];simp
 have hul:=hO.1
 refine ⟨⟨us++es,by simpa using hown',fun i y hi=>?_⟩,?_⟩
 ·have hne:∀ {a:Addr} {k c:Nat} {xs:List Value} {gs:List Fd},Fits w1 gs xs→noSl gs=true→Value.slice (some a) k c∈xs→k≠0→some a.block≠v.ownBlock→a.block≠g:=by
   intro a k c xs gs hx hnx2 hmx hk hr e
   have h1:=hx.blk hnx2 hmx hk
   rcases hat with h | h
   ·rw [h,e] at hr;exact hr rfl
   ·omega
  by_cases hil:i<fss.length
  ·rw [List.getElem?_append_left hil] at hi
   obtain ⟨xs,g1,g2,g3,g4,g5⟩:=hE i y hi
   refine ⟨xs,g1,fun j hj=>?_,fun a k c hs hk e=>?_,((g4.mono hb).mono (zAh w1 o)).grown hgrow g3,g5⟩
   ·have hm1:(i+1)*m≤fss.length*m:=Nat.mul_le_mul_right m zm
    rw [Nat.add_mul,Nat.one_mul] at hm1
    rw [List.getElem?_append_left zm]
    exact g2 j hj
   ·exact hne (g4.mono hb) g5 hs hk (g3 a k c hs hk) (by simpa [Value.ownBlock] using e)
  ·have hi2:i=fss.length:=by
    rcases Nat.lt_or_ge i (fss ++ [fs]).length with h | h
    ·simp at h;omega
    ·rw [List.getElem?_eq_none h] at hi;cases hi
   subst hi2
   rw [List.getElem?_append_right (Nat.le_refl _),Nat.sub_self] at hi
   simp only [List.getElem?_cons_zero,Option.some.injEq] at hi
   subst hi
   refine ⟨es,hm,fun j hj=>?_,fun a k c hs hk e=>?_,(hF.mono (zAh w1 o)).grown hgrow hfar,hn⟩
   ·rw [List.getElem?_append_right zm,show fss.length*m+j-us.length=j by omega]
   ·exact hne hF hn hs hk (hfar a k c hs hk) (by simpa [Value.ownBlock] using e)
 ·exact ((hnx.trans (hb.mono hB)).alloc zm o).grown hgrow (by simp;omega) (fun j hj=>(hO.lt j hj).1)
theorem Ls.nil {T m:Nat} (w:World) {B:Nat} (hB:B≤w.heap.size):Ls T m (w.alloc (.cells #[] T)) B (.slice (some ⟨w.heap.size,0,none⟩) 0 0) []:=
 ⟨[],⟨by simp,.inr ⟨w.heap.size,0,#[],rfl,hB,heap_alloc_new w _,by simp,by unfold maxLen;omega,by simp,by simp⟩⟩,fun i z hi=>by simp at hi⟩
theorem TameRow.nil {w:World} {T:Nat}:TameRow (w.alloc (.cells #[] T)) (.slice (some ⟨w.heap.size,0,none⟩) 0 0):=⟨_,_,_,#[],T,rfl,heap_alloc_new w _,fun u hu=>by simp at hu⟩
theorem zSs {w:World} {ops:Array Oper} {rest:List Oper} {o:Oper} {a:Act} {Q:Exit→Act→World→Prop} (hgd:o.guard=none) (x:Operand) (ho:o.op=.move x) (h:wpList Tryz.prog ops Q rest (a.put o.dst (a.eval x)) w):wpList Tryz.prog ops Q (o::rest) a w:=by
 refine wpList_plain hgd fun K hK=>?_
 unfold Oper.wp
 have e:(execOp a.eval o).run Tryz.prog w=.ok (.value (a.eval x)) w:=by
  unfold execOp
  simp only [ho]
  simp [go_sem]
 rw [e]
 exact hK _ _ h
theorem zL1:(Tryz.prog.info? 38).map (fun i=>(i.zero,i.size,i.bytes))=some (some (.agg #[.bool false,.slice none 0 0,.bool false,.slice none 0 0,.bool false,.slice none 0 0]),6,96):=by kernel_rfl
theorem frF_snoc (Ps:List F3) (P:F3):(Ps ++ [P]).map frF=Ps.map frF ++ [frF P]:=by simp
theorem sq_bd {a:Nat} {n:Int} (h:3*((a:Int)*a)≤n) (hn:n≤2004):a≤25:=by
 rcases Nat.lt_or_ge 25 a with g | g
 ·have h1:=Nat.mul_le_mul (show 26≤a by omega) (show 26≤a by omega)
  have h2:((a*a:Nat):Int)=(a:Int)*a:=by rw [Int.natCast_mul]
  omega
 ·exact g
theorem zXv {x y:Int} {m n:Nat} (hx:x.natAbs≤m) (hy:y.natAbs≤n):(x*y).natAbs≤m*n:=by
 rw [Int.natAbs_mul]
 exact Nat.mul_le_mul hx hy
theorem sq_nn {b:Int} {m:Nat} (h:b.natAbs≤m):0≤b*b∧b*b≤m*m:=by
 have h1:=zXv h h
 have h2:=zE1 b
 have h3:((m*m:Nat):Int)=(m:Int)*m:=by rw [Int.natCast_mul]
 omega
theorem exQList {w:World} {n:Int} (h0:3≤n) (h1:n≤2004) :
  Rt 44 #[.int .i64 n] w fun v' w'=>Ls 38 6 w' w.heap.size v' ((zBz n).map frF):=by
 have HN:=hidd (And.intro h0 h1)
 clear h0 h1
 obtain ⟨i0,hi,hz0,hz1,hz2⟩:=info_parts zL1
 go_enter Tryz.func44,Tryz.ntmps44
 obtain ⟨W0,rfl⟩:∃ W0,W0=w:=⟨_,rfl⟩
 go_wp2
 go_loopw [3,4] (fun vl va W=>∃ (a:Nat) (A:Int) (Ps:List F3),va=.int .i64 A∧A=(a:Int)∧1≤a∧a≤26∧(∀ j:Nat,1≤j→j<a→3*((j:Int)*j)≤n)∧Ps=zBs n a∧Ls 38 6 W W0.heap.size vl (Ps.map frF)∧TameRow W vl∧Below W0.heap.size W0 W) (fun _ va _=>(27-intOf va).toNat)
 case atStart=>exact ⟨1,1,[],rfl,rfl,zm,zm,fun j h2 h3=>zm,rfl,Ls.nil W0 (Nat.le_refl _),TameRow.nil,zAh _ _⟩
 case round=>
  obtain ⟨V2,rfl⟩:∃ V2,V2=wr:=⟨_,rfl⟩
  obtain ⟨a,A,Ps,rfl,hA,ha1,ha2,hrun,hPE,HL,HT,HBW⟩:=hrel
  have HPE:=hidd hPE
  have HAA:=hidd hA
  have HRUN:=hidd hrun
  have hPl:Ps.length≤a*60:=by rw [hPE];exact zL7 a ha2
  clear hPE
  have hml:(Ps.map frF).length=Ps.length:=List.length_map ..
  obtain ⟨ao2,cap2,rfl⟩:=id HL.shape
  rw [hml] at HL HT ⊢
  by_cases hx:3*((a:Int)*a)≤n
  ·have hae:3*((a:Int)*a)≤n:=hx
   have ha25:=sq_bd hae (by have:=HN.out;omega)
   have HQ0:=hidd (And.intro ha1 (And.intro ha25 hPl))
   have HXE:=hidd hae
   have HLH:=hidd HL
   have HTH:=hidd HT
   have HBH:=hidd HBW
   have hV:=HBW.size
   have haa:A*A=(a:Int)*a:=by rw [hA]
   have hs:=sq_nn (b:=A) (m:=25) zm
   obtain ⟨t3,ht3⟩:∃ t3,t3=3*A:=⟨_,rfl⟩
   obtain ⟨t4,ht4⟩:∃ t4,t4=t3*A:=⟨_,rfl⟩
   have hq4:t4=3*((a:Int)*a):=by rw [ht4,ht3,Int.mul_assoc,haa]
   have W3:Hid (IntKind.i64.wrap (3*A)=t3):=by show _=_;rw [ht3];exact IntWalk.i64_in _ zm
   have W4:Hid (IntKind.i64.wrap (t3*A)=t4):=by show _=_;rw [← ht4];exact IntWalk.i64_in _ zm
   have T4:Hid (t4≤n):=by show _≤_;omega
   have WN:Hid (IntKind.i64.wrap (-A)=-A):=IntWalk.i64_in _ zm
   clear ha1 ha2 hPl HL HT HBW hx hae ha25 haa hs ht3 ht4 hq4 hA hrun hV hml
   have E:=Fr.start V2
   go_upto_region 3 with (fail)
   refine rz [.i A,.i t3,.i A,.i t4,.i n,.t] [] [] E (fun hp=>⟨zS,zO hp (sqi 0) W3.out,zS,zT hp (sqi 1) (sqi 2) W4.out,zS,zT hp (sqi 3) (sqi 4) T4.out,tv⟩) ?_
   intro w1 E _ _
   simp only [rzE] at E ⊢
   go_upto_region 5 with (fail)
   refine rz [.i A,.i (-A),.i (-A)] [] [] E (fun hp=>⟨zS,zO hp (sqi 0) WN.out,zS,tv⟩) ?_
   intro w2 E _ _
   simp only [rzE] at E ⊢
   clear W3 W4 T4 WN
   have HL3:=hidd (HLH.out.mono E.below)
   have HT3:=hidd (HTH.out.mono E.below)
   have HB3:=hidd (HBH.out.trans (E.below.mono HBH.out.size))
   clear E HLH HTH HBH
   obtain ⟨V3,rfl⟩:∃ V3,V3=w2:=⟨_,rfl⟩
   go_wp2
   go_loopw [3,5] (fun vl vb W=>∃ (k:Nat) (b:Int) (Qs:List F3),vb=.int .i64 b∧b=-A+(k:Int)∧k≤2*a+1∧Qs=zBs n a++zBt n A k∧Ls 38 6 W W0.heap.size vl (Qs.map frF)∧TameRow W vl∧Below W0.heap.size W0 W) (fun _ vb _=>(27-intOf vb).toNat)
   case atStart=>exact ⟨0,-A,Ps,rfl,zm,zm,by rw [HPE.out];exact (List.append_nil _).symm,HL3.out,HT3.out,HB3.out⟩
   case round=>
    clear HL3 HT3 HB3
    obtain ⟨V4,rfl⟩:∃ V4,V4=wr:=⟨_,rfl⟩
    obtain ⟨k,b,Qs,rfl,hb,hk,hQE,HL,HT,HBW⟩:=hrel
    have HQE2:=hidd hQE
    have hQl:Qs.length≤2000:=by have h8:=zL7 (n:=n) a (by have:=HQ0.out.2.1;omega);have h9:=zL8 (n:=n) (a:=A) k;have:=HQ0.out.2.1;rw [hQE,List.length_append];omega
    clear hQE
    have hml:(Qs.map frF).length=Qs.length:=List.length_map ..
    obtain ⟨ao4,cap4,rfl⟩:=id HL.shape
    rw [hml] at HL HT ⊢
    by_cases hy:b≤A
    ·have hb0:b.natAbs≤25:=by have:=HQ0.out.2.1;have:=HAA.out;omega
     have hs:=sq_nn hb0
     have TB:=hidd hy
     have HQL:=hidd hQl
     have HKE:=hidd (And.intro hb (show k<2*a+1 by have:=HAA.out;omega))
     have HLH:=hidd HL
     have HTH:=hidd HT
     have HBH:=hidd HBW
     have hn:=HN.out
     have hA:=HAA.out
     have ha:=HQ0.out
     obtain ⟨bb,hbb⟩:∃ x,x=b*b:=⟨_,rfl⟩
     obtain ⟨s,hs2⟩:∃ x,x=bb+n:=⟨_,rfl⟩
     obtain ⟨d4,hd4⟩:∃ x,x=4*A:=⟨_,rfl⟩
     obtain ⟨r,hr⟩:∃ x,x=s % d4:=⟨_,rfl⟩
     obtain ⟨c,hc⟩:∃ x,x=s/d4:=⟨_,rfl⟩
     rw [← hbb] at hs
     have hs0:3≤s∧s≤3000:=zm
     have hd0:4≤d4∧d4≤100:=zm
     have hc0:0≤c∧c≤3000:=by rw [hc];exact ⟨Int.ediv_nonneg zm zm,Int.le_trans (Int.ediv_le_self _ zm) hs0.2⟩
     have hr0:0≤r∧r<d4:=by rw [hr];exact ⟨Int.emod_nonneg _ zm,Int.emod_lt_of_pos _ zm⟩
     have W2:Hid (IntKind.i64.wrap (b*b)=bb):=by show _=_;rw [← hbb];exact IntWalk.i64_in _ zm
     have W5:Hid (IntKind.i64.wrap (bb+n)=s):=by show _=_;rw [← hs2];exact IntWalk.i64_in _ zm
     have W6:Hid (IntKind.i64.wrap (4*A)=d4):=by show _=_;rw [← hd4];exact IntWalk.i64_in _ zm
     have WR:Hid (Int.tmod s d4=r):=by show _=_;rw [Int.tmod_eq_emod_of_nonneg zm,hr]
     have WQ:Hid (Int.tdiv s d4=c):=by show _=_;rw [Int.tdiv_eq_ediv_of_nonneg zm,hc]
     have WC:Hid (IntKind.i64.wrap c=c):=IntWalk.i64_in _ zm
     have D0:Hid (¬ d4=0):=by show ¬ _;omega
     have FE:Hid (zBi n A b=if r=0 then (if keepB A b c=true then [⟨A,b,c⟩] else []) else []):=by show _=_;unfold zBi;rw [← hbb,← hs2,← hd4,← hr,← hc]
     have RA:Hid (-9223372036854775808≤A∧A≤9223372036854775807):=by show _∧_;omega
     have RB_:Hid (-9223372036854775808≤b∧b≤9223372036854775807):=by show _∧_;omega
     have RC:Hid (-9223372036854775808≤c∧c≤9223372036854775807):=by show _∧_;omega
     have BA:Hid (ab A<pw 3):=zAr RA.out.1 RA.out.2
     have BB:Hid (ab b<pw 3):=zAr RB_.out.1 RB_.out.2
     have BC:Hid (ab c<pw 3):=zAr RC.out.1 RC.out.2
     have HBB:=hidd hb0
     clear hb0 hs hn hA ha hbb hs2 hd4 hr hc hs0 hd0 hc0 hr0 hb hk hQl HL HT HBW hy hml
     have E:=Fr.start V4
     go_upto_region 6 with (fail)
     refine rz [.i b,.i A,.t] [] [] E (fun hp=>⟨zS,zS,zT hp (sqi 0) (sqi 1) TB.out,tv⟩) ?_
     intro w3 E _ _
     simp only [rzE] at E ⊢
     clear TB
     go_upto_region 8 with (fail)
     by_cases hr0:r=0
     ·have T8:Hid (¬ ¬ r=0):=fun e=>e hr0
      have FD:Hid (zBi n A b=if keepB A b c=true then [⟨A,b,c⟩] else []):=FE.out.trans (if_pos hr0)
      have T8b:=hidd hr0
      clear hr0 FE
      refine rz [.i b,.i b,.i bb,.i n,.i s,.i A,.i d4,.i r,.o] [] [] E (fun hp=>⟨zS,zS,zT hp (sqi 0) (sqi 1) W2.out,zS,zT hp (sqi 2) (sqi 3) W5.out,zS,zO hp (sqi 5) W6.out,zT hp (sqi 4) (sqi 6) (And.intro D0.out WR.out),zO hp (sqi 7) T8b.out,tv⟩) ?_
      intro w4 E _ _
      simp only [rzE] at E ⊢
      go_upto_region 9 with (fail)
      refine rz [.i A,.i b,.i b,.i b,.i bb,.i n,.i s,.i A,.i d4,.i c,.w (f3 A b c),.k,.a] [] [⟨11,12,6,f3 0 0 0,f3 A b c,none⟩] E (fun hp=>⟨zS,zS,zS,zS,zT hp (sqi 2) (sqi 3) W2.out,zS,zT hp (sqi 4) (sqi 5) W5.out,zS,zO hp (sqi 7) W6.out,zAs (F:=fun v _=>v=.int .i64 s) (G:=fun v _=>v=.int .i64 d4) hp fo tv (sqi 6) (sqi 8) (fun ρ w hc h h'=>⟨.int .i64 c,by simp [execOp,go_sem,h,h',D0.out,WQ.out,WC.out],rfl⟩),zEu (F:=(Fq.is (.int .i64 A)).P) (G:=(Fq.is (.int .i64 b)).P) (F3:=(Fq.is (.int .i64 c)).P) hp fo tv (zGv) (sqi 0) (sqi 1) (sqi 9) (fun v v' u w h h' g=>(by subst h h' g;exact zG2 RA.out RB_.out RC.out)),aS hp J0 zAt zB1,sS 10 hp J0 zAn,tv⟩) ?_
      intro w5 b5_11 E _ _
      simp only [rzE] at E ⊢
      clear W2 W5 W6 WR WQ WC D0 T8 T8b RA RB_ RC
      go_upto_region 10 with (fail)
      by_cases hk1:(dfB A b c && redB A b c)=true
      ·by_cases hk2:cont A b c=1
       ·have K1:=hidd hk1
        have K2:Hid (decide (cont A b c=1)=true):=decide_eq_true hk2
        have FN:Hid (zBi n A b=[⟨A,b,c⟩]):=FD.out.trans (if_pos (by unfold keepB;rw [K1.out,K2.out];simp))
        clear hk1 hk2
        refine rz [.w (f3 A b c),.t,.t,.w (f3 A b c),.t,.t] [none] [] E (fun hp=>⟨lS 0 6 hp J0 zAc zw,zc hp zLe zi fun v w h=>zLv h (zu BA.out) (zu BB.out) (zu BC.out) K1.out,zS,lG 0 6 hp gqi J0 zAc zw fun v w h=>h,zc hp zOk zi (fun v w h=>zPl h (zu BA.out) (zu BB.out) (zu BC.out) K2.out),zt hp (sqi 2) (sqi 4),tv⟩) ?_
        intro w6 E _ _
        simp only [rzE] at E ⊢
        clear K1 K2 HBB FD
        clear BA BB BC
        have HST:=hidd (StAt.of_boxQ (E.box 0 rfl))
        have HL5:=HLH.out.mono E.below
        have HT5:=hidd (HTH.out.mono E.below)
        have HB5:=hidd (HBH.out.trans (E.below.mono HBH.out.size))
        clear HLH HTH HBH E
        obtain ⟨V5,rfl⟩:∃ V5,V5=w6:=⟨_,rfl⟩
        obtain ⟨us,hO,hE⟩:=HL5
        have HO:=hidd hO
        have HE2:=hidd hE
        clear hO hE
        have hsz3:=HB5.out.size
        go_upto_region 11 with (fail)
        refine wp_region_list ?_
        refine zSs rfl (.tmp 3) rfl ?_
        refine zE3 rfl 38 (.tmp 6) rfl zAc rfl rfl HST.out fun vc hvc=>?_
        obtain ⟨es,rfl,hfit⟩:=hvc
        have hlen:=hfit.length
        obtain ⟨c0,c1,c2,c3,c4,c5,rfl⟩:=sixQ hlen
        have HFT:=hidd hfit
        clear hfit hlen
        have hQl:=HQL.out
        go_wp2_with (first | (at_builtin;(refine zX4 (n:=Qs.length) (xs:=us) rfl _ _ 54 rfl W0.heap.size 38 i0 (.agg #[.bool false,.slice none 0 0,.bool false,.slice none 0 0,.bool false,.slice none 0 0]) 6 96 Tryz.underlying54 hi hz0 hz1 hz2 rfl zd _ rfl (World.ownsRow.alloc (by have h9:=HO.out;rwa [List.length_map] at h9) _) (HT5.out.mono (zAh _ _)) (List.all_eq_true.1 rfl) ⟨_,0,none⟩ 1 1 [c0,c1,c2,c3,c4,c5] rfl rfl (World.news_of_block (heap_alloc_new _ _)) HFT.out.all zd (by unfold maxLen;omega) zm (Nat.le_trans hsz3 (by simp)) _ rfl ?_;intro g9 cap w8 hown' hgrow hat hlt htm)) | fail)
        have hS:=Ls.stepF (fs:=frF ⟨A,b,c⟩) (es:=[c0,c1,c2,c3,c4,c5]) HO.out HE2.out hsz3 HB5.out (Below.refl _ _) (HT5.out.far HFT.out rfl) HFT.out rfl rfl (by rw [List.length_map];exact hown') hgrow hat rfl
        rw [List.length_map] at hS
        have hS4:=hidd hS.1
        have hS5:=hidd hS.2
        have hS6:=hidd htm
        clear hown' hgrow hat hlt htm hS HO HE2 HT5 HST HFT
        have g9:IntKind.i64.wrap (b+1)=b+1:=IntWalk.i64_in _ (by have:=HKE.out;have:=HAA.out;have:=HQ0.out.2.1;omega)
        have hw:wrap64 (b+1)=b+1:=by have:=HKE.out;have:=HAA.out;have:=HQ0.out.2.1;simp only [wrap64];omega
        go_wp2
        go_roundw
        case rel=>exact ⟨k+1,b+1,Qs ++ [⟨A,b,c⟩],by first | go_num | (rw [hw];go_num),by have:=HKE.out.1;omega,by have:=HKE.out.2;omega,by rw [HQE2.out,zBt,← HKE.out.1,FN.out,List.append_assoc],by rw [frF_snoc];simpa using hS4.out,by simpa using hS6.out,hS5.out⟩
        case measure=>have:=HKE.out;have:=HAA.out;have:=HQ0.out.2.1;first | (rw [hw];simp [intOf];omega) | (simp [intOf];omega)
       ·have K1:=hidd hk1
        have K2:Hid (decide (cont A b c=1)=false):=decide_eq_false hk2
        have FN:Hid (zBi n A b=[]):=FD.out.trans (if_neg (by unfold keepB;rw [K1.out,K2.out];simp))
        clear hk1 hk2
        refine rz [.w (f3 A b c),.t,.t,.w (f3 A b c),.o,.o] [none] [] E (fun hp=>⟨lS 0 6 hp J0 zAc zw,zc hp zLe zi fun v w h=>zLv h (zu BA.out) (zu BB.out) (zu BC.out) K1.out,zS,lG 0 6 hp gqi J0 zAc zw fun v w h=>h,zc hp zOk zi (fun v w h=>zPl h (zu BA.out) (zu BB.out) (zu BC.out) K2.out),zt hp (sqi 2) (sqi 4),tv⟩) ?_
        intro w7 E _ _
        simp only [rzE] at E ⊢
        clear K1 HBB FD K2
        clear BA BB BC
        have HL6:=hidd (HLH.out.mono E.below)
        have HT6:=hidd (HTH.out.mono E.below)
        have HB6:=hidd (HBH.out.trans (E.below.mono HBH.out.size))
        clear HLH HTH HBH E
        have g9:IntKind.i64.wrap (b+1)=b+1:=IntWalk.i64_in _ (by have:=HKE.out;have:=HAA.out;have:=HQ0.out.2.1;omega)
        have hw:wrap64 (b+1)=b+1:=by have:=HKE.out;have:=HAA.out;have:=HQ0.out.2.1;simp only [wrap64];omega
        go_wp2
        go_roundw
        case rel=>exact ⟨k+1,b+1,Qs,by first | go_num | (rw [hw];go_num),by have:=HKE.out.1;omega,by have:=HKE.out.2;omega,by rw [HQE2.out,zBt,← HKE.out.1,FN.out,List.append_nil],HL6.out,HT6.out,HB6.out⟩
        case measure=>have:=HKE.out;have:=HAA.out;have:=HQ0.out.2.1;first | (rw [hw];simp [intOf];omega) | (simp [intOf];omega)
      ·have K1:=hidd (Bool.eq_false_iff.2 hk1)
       have FN:Hid (zBi n A b=[]):=FD.out.trans (if_neg (by unfold keepB;rw [K1.out];simp))
       clear hk1
       refine rz [.w (f3 A b c),.o,.o,.u (undef),.u (undef),.o] [none] [] E (fun hp=>⟨lS 0 6 hp J0 zAc zw,zc hp zLe zi fun v w h=>zLv h (zu BA.out) (zu BB.out) (zu BC.out) K1.out,zS,zS,zS,zt hp (sqi 2) (zk (.bool false)),tv⟩) ?_
       intro w8 E _ _
       simp only [rzE] at E ⊢
       clear K1 HBB FD
       clear BA BB BC
       have HL6:=hidd (HLH.out.mono E.below)
       have HT6:=hidd (HTH.out.mono E.below)
       have HB6:=hidd (HBH.out.trans (E.below.mono HBH.out.size))
       clear HLH HTH HBH E
       have g9:IntKind.i64.wrap (b+1)=b+1:=IntWalk.i64_in _ (by have:=HKE.out;have:=HAA.out;have:=HQ0.out.2.1;omega)
       have hw:wrap64 (b+1)=b+1:=by have:=HKE.out;have:=HAA.out;have:=HQ0.out.2.1;simp only [wrap64];omega
       go_wp2
       go_roundw
       case rel=>exact ⟨k+1,b+1,Qs,by first | go_num | (rw [hw];go_num),by have:=HKE.out.1;omega,by have:=HKE.out.2;omega,by rw [HQE2.out,zBt,← HKE.out.1,FN.out,List.append_nil],HL6.out,HT6.out,HB6.out⟩
       case measure=>have:=HKE.out;have:=HAA.out;have:=HQ0.out.2.1;first | (rw [hw];simp [intOf];omega) | (simp [intOf];omega)
     ·have T8:Hid (¬ r=0):=hr0
      have FN:Hid (zBi n A b=[]):=FE.out.trans (if_neg hr0)
      clear hr0 FE
      refine rz [.i b,.i b,.i bb,.i n,.i s,.i A,.i d4,.i r,.t] [] [] E (fun hp=>⟨zS,zS,zT hp (sqi 0) (sqi 1) W2.out,zS,zT hp (sqi 2) (sqi 3) W5.out,zS,zO hp (sqi 5) W6.out,zT hp (sqi 4) (sqi 6) (And.intro D0.out WR.out),zO hp (sqi 7) T8.out,tv⟩) ?_
      intro w9 E _ _
      simp only [rzE] at E ⊢
      clear W2 W5 W6 WR WQ WC D0 T8 RA RB_ RC HBB
      clear BA BB BC
      have HL6:=hidd (HLH.out.mono E.below)
      have HT6:=hidd (HTH.out.mono E.below)
      have HB6:=hidd (HBH.out.trans (E.below.mono HBH.out.size))
      clear HLH HTH HBH E
      have g9:IntKind.i64.wrap (b+1)=b+1:=IntWalk.i64_in _ (by have:=HKE.out;have:=HAA.out;have:=HQ0.out.2.1;omega)
      have hw:wrap64 (b+1)=b+1:=by have:=HKE.out;have:=HAA.out;have:=HQ0.out.2.1;simp only [wrap64];omega
      go_wp2
      go_roundw
      case rel=>exact ⟨k+1,b+1,Qs,by first | go_num | (rw [hw];go_num),by have:=HKE.out.1;omega,by have:=HKE.out.2;omega,by rw [HQE2.out,zBt,← HKE.out.1,FN.out,List.append_nil],HL6.out,HT6.out,HB6.out⟩
      case measure=>have:=HKE.out;have:=HAA.out;have:=HQ0.out.2.1;first | (rw [hw];simp [intOf];omega) | (simp [intOf];omega)
    ·have hA:=HAA.out
     have t0:decide (b≤A)=false:=by simp;omega
     have HKE:=hidd (show k=2*a+1 by omega)
     have HLH:=hidd HL
     have HTH:=hidd HT
     have HBH:=hidd HBW
     have ha9:=HQ0.out
     have hw:wrap64 (A+1)=A+1:=by simp only [wrap64];omega
     have g9:IntKind.i64.wrap (A+1)=A+1:=IntWalk.i64_in _ zm
     clear HL HT HBW hb hk hQl hml
     have hli:¬ b≤A:=hy
     clear hy
     go_wp2
     go_roundw
     case rel=>exact ⟨a+1,A+1,Qs,by first | go_num | (rw [hw];go_num),zm,zm,zm,fun j h2 h3=>(by rcases Nat.lt_or_ge j a with h4 | h4;exact HRUN.out j h2 h4;(rw [show j=a by omega];exact HXE.out)),by rw [HQE2.out,HKE.out,zBs,if_neg zm,hA],HLH.out,HTH.out,HBH.out⟩
     case measure=>first | (rw [hw];simp [intOf];omega) | (simp [intOf];omega)
  ·have hae:¬ 3*((a:Int)*a)≤n:=hx
   have hsq:=sq_nn (b:=A) (m:=26) zm
   have haa:A*A=(a:Int)*a:=by rw [hA]
   obtain ⟨t3,ht3⟩:∃ t3,t3=3*A:=⟨_,rfl⟩
   obtain ⟨t4,ht4⟩:∃ t4,t4=t3*A:=⟨_,rfl⟩
   have hq4:t4=3*((a:Int)*a):=by rw [ht4,ht3,Int.mul_assoc,haa]
   have W3:Hid (IntKind.i64.wrap (3*A)=t3):=by show _=_;rw [ht3];exact IntWalk.i64_in _ zm
   have W4:Hid (IntKind.i64.wrap (t3*A)=t4):=by show _=_;rw [← ht4];exact IntWalk.i64_in _ zm
   have T4:Hid (¬ t4≤n):=by show ¬ _;omega
   have hEq:Ps=zBz n:=by rw [HPE.out,zJ5 ⟨ha1,hae,HRUN.out⟩]
   have HEQ:=hidd hEq
   have HLH:=hidd HL
   have HBH:=hidd HBW
   clear ha1 ha2 hPl HL HT HBW hx hae haa hsq ht3 ht4 hq4 hA hrun hml hEq
   have E:=Fr.start V2
   go_upto_region 3 with (fail)
   refine rz [.i A,.i t3,.i A,.i t4,.i n,.o] [] [] E (fun hp=>⟨zS,zO hp (sqi 0) W3.out,zS,zT hp (sqi 1) (sqi 2) W4.out,zS,zT hp (sqi 3) (sqi 4) T4.out,tv⟩) ?_
   intro w10 E _ _
   simp only [rzE] at E ⊢
   go_upto_region 12 with (fail)
   refine rz [.u (.slice ao2 Ps.length cap2),.u (.slice ao2 Ps.length cap2)] [] [] E (fun hp=>⟨zS,zS,tv⟩) ?_
   intro w11 E _ _
   simp only [rzE] at E ⊢
   clear W3 W4 T4
   have HL3:=hidd (HLH.out.mono E.below)
   have HB3:=hidd (HBH.out.trans (E.below.mono HBH.out.size))
   clear E HLH HBH HPE HRUN HAA
   go_wp2
   refine bodyPost_ret (v:=.slice ao2 Ps.length cap2) ?_ rfl ⟨_,rfl,HB3.out,?_⟩
   ·simp [results,Tryz.results44,go_sem]
   ·rw [← HEQ.out]
    exact HL3.out

def Sc (D:Int) (P:F3):Prop:=Sf D P.a P.b P.c
def Eqv (P Q:F3):Prop:=∃ p q r s,Und P.a P.b P.c p q r s Q.a Q.b Q.c
def Rd (P:F3):Prop:=Rdf P.a P.b P.c
theorem F3.ext' {P Q:F3} (h:Q.a=P.a∧Q.b=P.b∧Q.c=P.c):Q=P:=by
 cases P;cases Q;simp_all
theorem Eqv.rfl' (P:F3):Eqv P P:=⟨_,_,_,_,Und.one ..⟩
theorem Eqv.symm {P Q:F3}:Eqv P Q→Eqv Q P:=fun ⟨_,_,_,_,h⟩=>⟨_,_,_,_,h.back⟩
theorem Eqv.trans {P Q R:F3}:Eqv P Q→Eqv Q R→Eqv P R:=fun ⟨_,_,_,_,h⟩ ⟨_,_,_,_,g⟩=>⟨_,_,_,_,h.mul g⟩
theorem Und.dvd {a b c p q r s x y z d:Int} (h:Und a b c p q r s x y z) (h1:d ∣ a) (h2:d ∣ b) (h3:d ∣ c):d ∣ x∧d ∣ y∧d ∣ z:=by
 obtain ⟨u,rfl⟩:=h1
 obtain ⟨v,rfl⟩:=h2
 obtain ⟨w,rfl⟩:=h3
 refine ⟨⟨qv u v w p r,?_⟩,⟨qm u v w p q r s,?_⟩,⟨qv u v w q s,?_⟩⟩
 ·rw [h.ea];unfold qv;grind
 ·rw [h.eb];unfold qm;grind
 ·rw [h.ec];unfold qv;grind
theorem Eqv.sc {D:Int} {P Q:F3} (hD:D<0) (h:Eqv P Q) (hp:Sc D P):Sc D Q:=by
 obtain ⟨p,q,r,s,u⟩:=h
 refine ⟨u.disc.trans hp.disc,u.pos hp.pos (by rw [hp.disc];exact hD),fun d h1 h2 h3=>?_⟩
 obtain ⟨g1,g2,g3⟩:=u.back.dvd h1 h2 h3
 exact hp.prim d g1 g2 g3
theorem zRw {D:Int} (hD:D<0):∀ (n:Nat) (P:F3),P.a.natAbs≤n→Sc D P→∃ R,Eqv P R∧Rd R
 | 0,P,hn,hp=>by have:=hp.pos;omega
 | n+1,P,hn,hp=>by
  obtain ⟨h1,h2⟩:=zR9 (b:=P.b) hp.pos
  obtain ⟨k,hk⟩:∃ k,k=(P.a-P.b)/(2*P.a):=⟨_,rfl⟩
  rw [← hk] at h1 h2
  obtain ⟨Q,hQ⟩:∃ Q:F3,Q=⟨P.a,P.b+2*(P.a*k),P.a*(k*k)+P.b*k+P.c⟩:=⟨_,rfl⟩
  have hu:Eqv P Q:=by rw [hQ];exact ⟨_,_,_,_,Und.shift ..⟩
  have hq:=hu.sc hD hp
  have ha:Q.a=P.a:=by rw [hQ]
  have hb:-Q.a<Q.b∧Q.b≤Q.a:=by rw [hQ];exact ⟨h1,h2⟩
  by_cases hr:Rd Q
  ·exact ⟨Q,hu,hr⟩
  ·have hs:Eqv Q ⟨Q.c,-Q.b,Q.a⟩:=⟨_,_,_,_,Und.swap ..⟩
   have hsc:=hs.sc hD hq
   rcases zNo (c:=Q.c) hq.pos hb.1 hb.2 hr with h | ⟨_,_,h⟩
   ·obtain ⟨R,g1,g2⟩:=zRw hD n ⟨Q.c,-Q.b,Q.a⟩ (by have:=hsc.pos;simp only at this ⊢;omega) hsc
    exact ⟨R,hu.trans (hs.trans g1),g2⟩
   ·exact ⟨_,hu.trans hs,h⟩
theorem red_ex' {D:Int} (hD:D<0) {P:F3} (hp:Sc D P):∃ R,Eqv P R∧Rd R:=zRw hD _ P (Nat.le_refl _) hp
theorem zIj {P R R':F3} (h1:Eqv P R) (h2:Eqv P R') (g1:Rd R) (g2:Rd R'):R'=R:=by
 obtain ⟨_,_,_,_,u⟩:=h1
 obtain ⟨_,_,_,_,v⟩:=h2
 exact F3.ext' (Und.same u v g1 g2)
def CpF (D:Int) (P Q R:F3):Prop:=Cps D P.a P.b Q.a Q.b R.a R.b
theorem cp_ex {D:Int} {P Q:F3} (hp:Sc D P) (hq:Sc D Q):∃ R,Sc D R∧CpF D P Q R:=by
 obtain ⟨f1,f2,f3⟩:=zB8 hp.disc
 obtain ⟨g1,g2,_⟩:=zB8 hq.disc
 obtain ⟨x,hx⟩:∃ x,x=bD D P.b:=⟨_,rfl⟩
 obtain ⟨y,hy⟩:∃ y,y=bD D Q.b:=⟨_,rfl⟩
 rw [← hx] at f1 f2
 rw [← hy] at g1 g2
 have key:∃ e X Y Z,0<e∧X*P.a+Y*Q.a+Z*(x+y+tD D)=e∧e ∣ P.a∧e ∣ Q.a∧e ∣ x+y+tD D:=by
  obtain ⟨g,X,Y,Z,_,eg,d1,d2,d3,_⟩:=bezq4 P.a Q.a (x+y+tD D) 0
  have hg:g≠0:=by
   rintro rfl
   obtain ⟨q,hq⟩:=d1
   have:=hp.pos
   omega
  by_cases h0:0<g
  ·exact ⟨g,X,Y,Z,h0,by rw [eg];omega,d1,d2,d3⟩
  ·refine ⟨-g,-X,-Y,-Z,zm,?_,Int.neg_dvd.2 d1,Int.neg_dvd.2 d2,Int.neg_dvd.2 d3⟩
   rw [eg]
   grind
 obtain ⟨e,X,Y,Z,he,hz,d1,d2,d3⟩:=key
 obtain ⟨N1,ha1⟩:=id d1
 obtain ⟨N2,ha2⟩:=id d2
 obtain ⟨S,hS⟩:=id d3
 have he0:e≠0:=zm
 have hz1:X*N1+Y*N2+Z*S=1:=zB0 he0 (fo1 (by rw [← ha1,← ha2,← hS];exact hz))
 have hB:2*(e*(2*(X*N1*y+Y*N2*x+Z*(x*S-N1*P.c))+tD D))=2*(X*P.a*Q.b+Y*Q.a*P.b)+Z*(P.b*Q.b+D):=by
  rw [← Int.mul_assoc,← fo3 hz1,← fo2 hS (by rw [← ha1];exact f2),← ha1,← ha2,← f1,← g1,← f3]
 obtain ⟨h1,h2⟩:=Cps.formula (A:=N1*N2) hp hq (s:=x+y+tD D) zm he hz d1 d2 d3 (by rw [ha1,ha2];grind) hB
 exact ⟨⟨_,_,_⟩,h2,h1⟩
def Pr3 (D:Int) (P Q T:F3):Prop:=Rd T∧∃ R,Sc D R∧CpF D P Q R∧Eqv R T
theorem Pr3.ex {D:Int} (hD:D<0) {P Q:F3} (hp:Sc D P) (hq:Sc D Q):∃ T,Pr3 D P Q T:=by
 obtain ⟨R,h1,h2⟩:=cp_ex hp hq
 obtain ⟨T,h3,h4⟩:=red_ex' hD h1
 exact ⟨T,h4,R,h1,h2,h3⟩
theorem Pr3.sc {D:Int} (hD:D<0) {P Q T:F3} (h:Pr3 D P Q T):Sc D T:=by
 obtain ⟨_,R,h1,_,h3⟩:=h
 exact h3.sc hD h1
theorem CpF.und {D:Int} (hD:D<0) {P Q R P' Q' R':F3} (hp:Sc D P) (hq:Sc D Q) (hr:Sc D R) (hr':Sc D R') (h:CpF D P Q R) (h':CpF D P' Q' R') (u:Eqv P P') (v:Eqv Q Q'):Eqv R R':=
 Cps.und hD hp hq hr (u.sc hD hp) (v.sc hD hq) hr' h h' u v
theorem Pr3.uniq {D:Int} (hD:D<0) {P Q T P' Q' T':F3} (hp:Sc D P) (hq:Sc D Q) (h:Pr3 D P Q T) (h':Pr3 D P' Q' T') (u:Eqv P P') (v:Eqv Q Q'):T'=T:=by
 obtain ⟨g1,R,g2,g3,g4⟩:=h
 obtain ⟨k1,R',k2,k3,k4⟩:=h'
 have:=CpF.und hD hp hq g2 k2 g3 k3 u v
 exact zIj g4 (this.trans k4) g1 k1
open Classical in
noncomputable def mulF (D:Int) (P Q:F3):F3:=if h:∃ T,Pr3 D P Q T then Classical.choose h else P
theorem zEp {D:Int} (hD:D<0) {P Q:F3} (hp:Sc D P) (hq:Sc D Q):Pr3 D P Q (mulF D P Q):=by
 have h:=Pr3.ex hD hp hq
 unfold mulF
 rw [dif_pos h]
 exact Classical.choose_spec h
theorem zH3 {D:Int} (hD:D<0) {P Q T:F3} (hp:Sc D P) (hq:Sc D Q) (h:Pr3 D P Q T):mulF D P Q=T:=Pr3.uniq hD hp hq h (zEp hD hp hq) (.rfl' _) (.rfl' _)
theorem zMd {D:Int} (hD:D<0) {P Q:F3} (hp:Sc D P) (hq:Sc D Q):Sc D (mulF D P Q):=(zEp hD hp hq).sc hD
theorem mulF_rd {D:Int} (hD:D<0) {P Q:F3} (hp:Sc D P) (hq:Sc D Q):Rd (mulF D P Q):=(zEp hD hp hq).1
theorem zJ7 {D:Int} (hD:D<0) {P Q P' Q':F3} (hp:Sc D P) (hq:Sc D Q) (u:Eqv P P') (v:Eqv Q Q'):mulF D P' Q'=mulF D P Q:=Pr3.uniq hD hp hq (zEp hD hp hq) (zEp hD (u.sc hD hp) (v.sc hD hq)) u v
theorem zMc {D:Int} (hD:D<0) {P Q:F3} (hp:Sc D P) (hq:Sc D Q):mulF D P Q=mulF D Q P:=by
 obtain ⟨h1,R,h2,h3,h4⟩:=zEp hD hq hp
 exact zH3 hD hp hq ⟨h1,R,h2,Cps.comm h3,h4⟩
theorem zEf {D:Int} (hD:D<0) {P Q R:F3} (hp:Sc D P) (hq:Sc D Q) (hr:Sc D R):mulF D (mulF D P Q) R=mulF D P (mulF D Q R):=by
 obtain ⟨_,A,a1,a2,a3⟩:=zEp hD hp hq
 obtain ⟨_,B,b1,b2,b3⟩:=zEp hD hq hr
 obtain ⟨c0,C,c1,c2,c3⟩:=zEp hD a1 hr
 obtain ⟨d0,E,d1,d2,d3⟩:=zEp hD hp b1
 rw [zJ7 hD a1 hr a3 (.rfl' _),zJ7 hD hp b1 (.rfl' _) b3]
 have:=Cps.assoc hD c1 d1 a2 c2 b2 d2
 exact (zIj c3 (Eqv.trans this d3) c0 d0).symm
theorem zQk {D:Int} (hD:D<0) {P U T:F3} (hp:Sc D P) (hu:Sc D U) (h1:U.a=1) (hr:Rd T) (he:Eqv P T):mulF D P U=T:=by
 refine zH3 hD hp hu ⟨hr,P,hp,?_,he⟩
 obtain ⟨a,b,c⟩:=U
 simp only at h1
 subst h1
 exact Cps.one hp hu
theorem mulF_inv {D:Int} (hD:D<0) {P U:F3} (hp:Sc D P) (hu:Sc D U) (h1:U.a=1) (hr:Rd U):mulF D P ⟨P.a,-P.b,P.c⟩=U:=by
 have hn:Sc D ⟨P.a,-P.b,P.c⟩:=⟨by simp only [Int.neg_mul_neg];exact hp.disc,hp.pos,fun d h1 h2 h3=>hp.prim d h1 (Int.dvd_neg.1 h2) h3⟩
 refine zH3 hD hp hn ⟨hr,U,hu,?_,.rfl' _⟩
 obtain ⟨a,b,c⟩:=U
 simp only at h1
 subst h1
 exact Cps.inv hp hu (sf_bez hp)
def Gm (D:Int) (P:F3):Prop:=Sc D P∧Rd P
def onF (D:Int):F3:=⟨1,D % 4,-(D/4)⟩
def opF (P:F3):F3:=⟨P.a,-P.b,P.c⟩
theorem zCr {D:Int} (hD:D<0) (h4:D % 4=0∨D % 4=1):Gm D (onF D):=by
 have e:D % 4*(D % 4)=D % 4:=by rcases h4 with h | h <;> rw [h] <;> rfl
 refine ⟨⟨?_,Int.one_pos,fun d h _ _=>h⟩,⟨Int.one_pos,?_,?_,?_,?_⟩⟩ <;> simp only [onF] <;> omega
theorem zFb {D:Int} {P:F3} (h:Sc D P):Sc D (opF P):=⟨by simp only [opF,Int.neg_mul_neg];exact h.disc,h.pos,fun d h1 h2 h3=>h.prim d h1 (Int.dvd_neg.1 h2) h3⟩
theorem zG7 {D:Int} (hD:D<0) {P Q:F3} (hp:Sc D P) (hq:Sc D Q):Gm D (mulF D P Q):=⟨zMd hD hp hq,mulF_rd hD hp hq⟩
section
variable {D : Int} (hD : D < 0) (h4 : D % 4 = 0 ∨ D % 4 = 1)
include hD h4
theorem zDn {P:F3} (hp:Gm D P):mulF D P (onF D)=P:=zQk hD hp.1 (zCr hD h4).1 rfl hp.2 (.rfl' _)
theorem zG8 {P:F3} (hp:Gm D P):mulF D (onF D) P=P:=by
 rw [zMc hD (zCr hD h4).1 hp.1]
 exact zDn hD h4 hp
theorem zJ8 {P:F3} (hp:Sc D P):mulF D P (opF P)=onF D:=mulF_inv hD hp (zCr hD h4).1 rfl (zCr hD h4).2
theorem mul_can_r {P Q R:F3} (hp:Sc D P) (hq:Gm D Q) (hr:Gm D R) (h:mulF D Q P=mulF D R P):Q=R:=by
 have g:=congrArg (fun T=>mulF D T (opF P)) h
 rw [zEf hD hq.1 hp (zFb hp),zEf hD hr.1 hp (zFb hp),zJ8 hD h4 hp,zDn hD h4 hq,zDn hD h4 hr] at g
 exact g
end
theorem zJt {D:Int} (hD:D<0) {P Q R S:F3} (hp:Sc D P) (hq:Sc D Q) (hr:Sc D R) (hs:Sc D S):mulF D (mulF D P Q) (mulF D R S)=mulF D (mulF D P R) (mulF D Q S):=by
 rw [zEf hD hp hq (zMd hD hr hs),zEf hD hp hr (zMd hD hq hs),← zEf hD hq hr hs,← zEf hD hr hq hs,zMc hD hq hr]
noncomputable def pwF (D:Int) (P:F3):Nat→F3
 | 0=>onF D
 | k+1=>mulF D (pwF D P k) P
section
variable {D : Int} (hD : D < 0) (h4 : D % 4 = 0 ∨ D % 4 = 1)
include hD h4
theorem zBl {P:F3} (hp:Sc D P):∀ k,Gm D (pwF D P k)
 | 0=>zCr hD h4
 | k+1=>zG7 hD (zBl hp k).1 hp
theorem zG9 {P:F3} (hp:Sc D P) (m:Nat):∀ n,pwF D P (m+n)=mulF D (pwF D P m) (pwF D P n)
 | 0=>(zDn hD h4 (zBl hD h4 hp m)).symm
 | n+1=>by
  show mulF D (pwF D P (m+n)) P=mulF D (pwF D P m) (mulF D (pwF D P n) P)
  rw [zG9 hp m n,zEf hD (zBl hD h4 hp m).1 (zBl hD h4 hp n).1 hp]
theorem zKi {P:F3} (hp:Gm D P):pwF D P 1=P:=zG8 hD h4 hp
theorem zKh {P Q:F3} (hp:Sc D P) (u:Eqv P Q):∀ k,pwF D Q k=pwF D P k
 | 0=>rfl
 | k+1=>by
  show mulF D (pwF D Q k) Q=mulF D (pwF D P k) P
  rw [zKh hp u k]
  exact zJ7 hD (zBl hD h4 hp k).1 hp (.rfl' _) u
theorem zIe {P:F3} (hp:Sc D P) (m:Nat):∀ n,pwF D P (m*n)=pwF D (pwF D P m) n
 | 0=>rfl
 | n+1=>by
  show pwF D P (m*n+m)=mulF D (pwF D (pwF D P m) n) (pwF D P m)
  rw [zG9 hD h4 hp,zIe hp m n]
theorem onF_pw:∀ k,pwF D (onF D) k=onF D
 | 0=>rfl
 | k+1=>by
  show mulF D (pwF D (onF D) k) (onF D)=onF D
  rw [onF_pw k]
  exact zDn hD h4 (zCr hD h4)
theorem mul_pwF {P Q:F3} (hp:Sc D P) (hq:Sc D Q):∀ n,pwF D (mulF D P Q) n=mulF D (pwF D P n) (pwF D Q n)
 | 0=>(zDn hD h4 (zCr hD h4)).symm
 | n+1=>by
  show mulF D (pwF D (mulF D P Q) n) (mulF D P Q)=mulF D (mulF D (pwF D P n) P) (mulF D (pwF D Q n) Q)
  rw [mul_pwF hp hq n,zJt hD (zBl hD h4 hp n).1 (zBl hD h4 hq n).1 hp hq]
theorem pw_opF {P:F3} (hp:Sc D P) (n:Nat):mulF D (pwF D P n) (pwF D (opF P) n)=onF D:=by
 rw [← mul_pwF hD h4 hp (zFb hp),zJ8 hD h4 hp,onF_pw hD h4]
end
noncomputable def pzF (D:Int) (P:F3) (n:Int):F3:=if n<0 then pwF D (opF P) n.natAbs else pwF D P n.natAbs
theorem zHa {D:Int} {P:F3} (n:Nat):pzF D P n=pwF D P n:=by
 unfold pzF
 rw [if_neg zm,Int.natAbs_natCast]
section
variable {D : Int} (hD : D < 0) (h4 : D % 4 = 0 ∨ D % 4 = 1)
include hD h4
theorem pzF_gm {P:F3} (hp:Sc D P) (n:Int):Gm D (pzF D P n):=by
 unfold pzF
 split
 ·exact zBl hD h4 (zFb hp) _
 ·exact zBl hD h4 hp _
theorem pzF_sub {P:F3} (hp:Sc D P) (m n:Nat):pzF D P (m-n)=mulF D (pwF D P m) (pwF D (opF P) n):=by
 have ho:=zFb hp
 unfold pzF
 split
 ·obtain ⟨j,hj⟩:∃ j,n=m+j:=⟨n-m,zm⟩
  have e:((m:Int)-n).natAbs=j:=zm
  rw [e,hj,zG9 hD h4 ho,← zEf hD (zBl hD h4 hp m).1 (zBl hD h4 ho m).1 (zBl hD h4 ho j).1,pw_opF hD h4 hp,zG8 hD h4 (zBl hD h4 ho j)]
 ·obtain ⟨j,hj⟩:∃ j,m=j+n:=⟨m-n,zm⟩
  have e:((m:Int)-n).natAbs=j:=zm
  rw [e,hj,zG9 hD h4 hp,zEf hD (zBl hD h4 hp j).1 (zBl hD h4 hp n).1 (zBl hD h4 ho n).1,pw_opF hD h4 hp,zDn hD h4 (zBl hD h4 hp j)]
theorem order_iff {P:F3} (hp:Sc D P) {k:Nat} (hk:0<k) (h1:pwF D P k=onF D) (hmin:∀ j,0<j→j<k→pwF D P j≠onF D) (m:Int):pzF D P m=onF D ↔ m % k=0:=by
 have hkm:∀ q:Nat,pwF D P (k*q)=onF D:=fun q=>by rw [zIe hD h4 hp,h1,onF_pw hD h4]
 have key:pzF D P m=pwF D P (m % k).toNat:=by
  have h5:=Int.emod_nonneg m (show (k:Int)≠0 by omega)
  have h6:=Int.mul_ediv_add_emod m k
  obtain ⟨a,b,e⟩:∃ a b:Nat,m/k=a-b:=⟨(m/k).toNat,(-(m/k)).toNat,zm⟩
  have hko:pwF D (opF P) (k*b)=onF D:=by
   have:=pw_opF hD h4 hp (k*b)
   rw [hkm,zG8 hD h4 (zBl hD h4 (zFb hp) _)] at this
   exact this
  have e2:m=((k*a+(m % k).toNat:Nat):Int)-((k*b:Nat):Int):=by
   rw [e,Int.mul_sub] at h6
   have:((k*a:Nat):Int)=(k:Int)*a:=by simp
   have:((k*b:Nat):Int)=(k:Int)*b:=by simp
   omega
  have h7:pzF D P m=pzF D P (((k*a+(m % k).toNat:Nat):Int)-((k*b:Nat):Int)):=by rw [← e2]
  rw [h7,pzF_sub hD h4 hp,hko,zG9 hD h4 hp,hkm,zG8 hD h4 (zBl hD h4 hp _),zDn hD h4 (zBl hD h4 hp _)]
 have h5:=Int.emod_nonneg m (show (k:Int)≠0 by omega)
 have h6:=Int.emod_lt_of_pos m (show 0<(k:Int) by omega)
 rw [key]
 constructor
 ·intro h
  by_cases h0:(m % k).toNat=0
  ·omega
  ·exact absurd h (hmin _ zm zm)
 ·intro h
  rw [h]
  rfl
end
theorem gm_ok {n:Int} (hn:0<n) {P:F3}:Gm (-n) P ↔ FOk n P:=by
 constructor
 ·rintro ⟨h1,h2⟩
  refine ⟨h1.pos,?_,zQ8 h1.prim,h1.disc⟩
  rw [(zEx h1.pos).2 h2,Bool.and_true]
  unfold dfB
  exact decide_eq_true ⟨by rw [h1.disc];omega,by have:=h1.pos;omega⟩
 ·rintro ⟨h1,h2,h3,h4⟩
  simp only [Bool.and_eq_true] at h2
  exact ⟨⟨h4,h1,zK7 h3⟩,(zEx h1).1 h2.2⟩
theorem zWg {n:Int} {P:F3} (h:FOk n P):P∈zBi n P.a P.b:=by
 obtain ⟨h1,h2,h3,h4⟩:=h
 have e:P.b*P.b+n=4*P.a*P.c:=by have:4*P.a*P.c=4*(P.a*P.c):=Int.mul_assoc ..;omega
 have e1:(P.b*P.b+n) % (4*P.a)=0:=by rw [e];exact Int.mul_emod_right ..
 have e2:(P.b*P.b+n)/(4*P.a)=P.c:=by rw [e];exact Int.mul_ediv_cancel_left _ zm
 unfold zBi
 rw [if_pos e1,e2,if_pos (by unfold keepB;rw [h2,decide_eq_true h3];rfl)]
 exact List.mem_singleton.2 rfl
theorem zQh {n a:Int} {P:F3}:∀ (k j:Nat),j<k→P∈zBi n a (-a+(j:Int))→P∈zBt n a k
 | 0,_,h,_=>zm
 | k+1,j,h,hP=>by
  rw [zBt]
  by_cases e:j=k
  ·exact List.mem_append_right _ (by rw [← e];exact hP)
  ·exact List.mem_append_left _ (zQh k j zm hP)
theorem zQg {n:Int} {P:F3}:∀ (A a:Nat),1≤a→a<A→P∈zBt n (a:Int) (2*a+1)→P∈zBs n A
 | 0,_,_,h,_=>zm
 | A+1,a,h0,h,hP=>by
  rw [zBs]
  by_cases e:a=A
  ·exact List.mem_append_right _ (by rw [if_neg zm,← e];exact hP)
  ·exact List.mem_append_left _ (zQg A a h0 zm hP)
theorem zQc {n:Int} (h0:3≤n) (h1:n≤2004) {P:F3}:P∈zBz n ↔ Gm (-n) P:=by
 rw [gm_ok zm]
 refine ⟨zL9 P,fun h=>?_⟩
 obtain ⟨A,hA⟩:=AEnd.ex h0 h1
 rw [zJ5 hA]
 have hr:=((gm_ok zm).2 h).2
 have hm:=zWg h
 have hp:=hr.pos
 have h3:3*(P.a*P.a)≤n:=by
  have e1:P.b*P.b≤P.a*P.a:=by
   rw [← zD2 P.b]
   exact Int.mul_le_mul (by have:=hr.lo;have:=hr.hi;omega) (by have:=hr.lo;have:=hr.hi;omega) zm zm
  have e2:P.a*P.a≤P.a*P.c:=Int.mul_le_mul_of_nonneg_left hr.ac zm
  have:=h.2.2.2
  omega
 obtain ⟨a,ha⟩:∃ a:Nat,P.a=a:=⟨P.a.toNat,zm⟩
 obtain ⟨j,hj⟩:∃ j:Nat,P.b=-P.a+j:=⟨(P.b+P.a).toNat,by have:=hr.lo;omega⟩
 have haA:a<A:=by
  rcases Nat.lt_or_ge a A with g | g
  ·exact g
  ·have e1:(A:Int)*A≤(a:Int)*a:=Int.mul_le_mul zm zm zm zm
   rw [ha] at h3
   exact absurd (show 3*((A:Int)*A)≤n by omega) hA.2.1
 refine zQg A a zm haA (zQh _ j (by have:=hr.hi;omega) ?_)
 rw [← ha,← hj]
 exact hm
theorem zPq {n a b:Int} {P:F3} (h:P∈zBi n a b):P.a=a∧P.b=b:=by
 unfold zBi at h
 split at h
 ·split at h
  ·rw [List.mem_singleton] at h
   subst h
   exact ⟨rfl,rfl⟩
  ·simp at h
 ·simp at h
theorem zJ4 {n a:Int} {P:F3}:∀ k:Nat,P∈zBt n a k→P.a=a∧P.b < -a+k
 | 0,h=>by simp [zBt] at h
 | k+1,h=>by
  rw [zBt] at h
  rcases List.mem_append.1 h with g | g
  ·have:=zJ4 k g;omega
  ·have:=zPq g;omega
theorem zP4 {n:Int} {P:F3}:∀ A:Nat,P∈zBs n A→P.a<A
 | 0,h=>by simp [zBs] at h
 | A+1,h=>by
  rw [zBs] at h
  rcases List.mem_append.1 h with g | g
  ·have:=zP4 A g;omega
  ·split at g
   ·simp at g
   ·have:=zJ4 _ g;omega
theorem formAt_nd {n a b:Int}:(zBi n a b).Nodup:=by
 unfold zBi
 split
 ·split
  ·exact List.pairwise_singleton _ _
  ·exact List.Pairwise.nil
 ·exact List.Pairwise.nil
theorem zQa {n a:Int}:∀ k:Nat,(zBt n a k).Nodup
 | 0=>List.Pairwise.nil
 | k+1=>by
  rw [zBt]
  refine List.nodup_append.2 ⟨zQa k,formAt_nd,fun x hx y hy e=>?_⟩
  subst e
  have:=zJ4 k hx
  have:=zPq hy
  omega
theorem zP7 {n:Int}:∀ A:Nat,(zBs n A).Nodup
 | 0=>List.Pairwise.nil
 | A+1=>by
  rw [zBs]
  refine List.nodup_append.2 ⟨zP7 A,?_,fun x hx y hy e=>?_⟩
  ·split
   ·exact List.Pairwise.nil
   ·exact zQa _
  ·subst e
   have:=zP4 A hx
   split at hy
   ·simp at hy
   ·have:=zJ4 _ hy;omega
theorem listF_nd {n:Int}:(zBz n).Nodup:=by
 unfold zBz
 split
 ·exact zP7 _
 ·exact List.Pairwise.nil
open Classical in
theorem nd_len {α:Type}:∀ (L M:List α),L.Nodup→(∀ x∈L,x∈M)→L.length≤M.length
 | [],_,_,_=>Nat.zero_le _
 | x::L,M,hn,hs=>by
  have hx:=hs x (List.mem_cons_self ..)
  obtain ⟨h1,h2⟩:=List.nodup_cons.1 hn
  have:=nd_len L (M.erase x) h2 fun y hy=>(List.mem_erase_of_ne (fun (e:y=x)=>h1 (by rw [← e];exact hy))).2 (hs y (List.mem_cons_of_mem _ hy))
  have h3:=List.length_erase_of_mem hx
  have h4:=List.length_pos_of_mem hx
  rw [List.length_cons]
  omega
theorem map_len {α:Type} {L M:List α} (f:α→α) (hn:L.Nodup) (hi:∀ x∈L,∀ y∈L,f x=f y→x=y) (hf:∀ x∈L,f x∈M):L.length≤M.length:=by
 have h1:(L.map f).Nodup:=by
  rw [List.Nodup,List.pairwise_map]
  exact List.Pairwise.imp_of_mem (fun ha hb hab e=>hab (hi _ ha _ hb e)) hn
 have:=nd_len (L.map f) M h1 (fun x hx=>by obtain ⟨y,hy,rfl⟩:=List.mem_map.1 hx;exact hf y hy)
 rw [List.length_map] at this
 exact this
open Classical in
noncomputable def zEy (D:Int) (L:List F3) (G:F3):List F3:=L.filter fun P=>decide (mulF D P P=G)
theorem zG6 {D:Int} {L:List F3} (hL:∀ P,P∈L ↔ Gm D P) {G P:F3}:P∈zEy D L G ↔ Gm D P∧mulF D P P=G:=by
 unfold zEy
 rw [List.mem_filter,hL]
 simp only [decide_eq_true_eq]
section
variable {D : Int} (hD : D < 0) (h4 : D % 4 = 0 ∨ D % 4 = 1) {L : List F3} (hL : ∀ P, P ∈ L ↔ Gm D P) (hn : L.Nodup)
include hD h4 hL hn
theorem zRz {G H R:F3} (hR:Gm D R) (h:∀ P,Gm D P→mulF D P P=G→mulF D (mulF D P R) (mulF D P R)=H):(zEy D L G).length≤(zEy D L H).length:=by
 refine map_len (fun P=>mulF D P R) (hn.filter _) (fun x hx y hy e=>?_) (fun x hx=>?_)
 ·have h1:=(zG6 hL).1 hx
  have h2:=(zG6 hL).1 hy
  exact mul_can_r hD h4 hR.1 h1.1 h2.1 e
 ·have h1:=(zG6 hL).1 hx
  exact (zG6 hL).2 ⟨zG7 hD h1.1.1 hR.1,h x h1.1 h1.2⟩
theorem zR0 {G R:F3} (hR:Gm D R) (hr:mulF D R R=G):(zEy D L G).length=(zEy D L (onF D)).length:=by
 have hG:Gm D G:=by rw [← hr];exact zG7 hD hR.1 hR.1
 have ho:=zFb hR.1
 -- the reduced form of the mirror
 have hI:Gm D (mulF D (opF R) (onF D)):=zG7 hD ho (zCr hD h4).1
 have hRI:mulF D R (mulF D (opF R) (onF D))=onF D:=by
  rw [← zEf hD hR.1 ho (zCr hD h4).1,zJ8 hD h4 hR.1,zDn hD h4 (zCr hD h4)]
 refine Nat.le_antisymm (zRz hD h4 hL hn hI fun P hP e=>?_) (zRz hD h4 hL hn hR fun P hP e=>?_)
 ·rw [zJt hD hP.1 hI.1 hP.1 hI.1,e,← hr,← zJt hD hR.1 hI.1 hR.1 hI.1,hRI,zDn hD h4 (zCr hD h4)]
 ·rw [zJt hD hP.1 hR.1 hP.1 hR.1,e,hr,zG8 hD h4 hG]
theorem zXm:0<(zEy D L (onF D)).length:=
 (fun _=>List.length_pos_of_mem ((zG6 hL).2 ⟨zCr hD h4,zDn hD h4 (zCr hD h4)⟩)) hn
end
def cntB (a:Nat) (r:Nat):Nat→Nat
 | 0=>0
 | k+1=>cntB a r k+(if (((-(a:Int)+(k:Int))*(-(a:Int)+(k:Int))+(r:Int)) % (4*(a:Int))=0) then 1 else 0)
theorem cntB_few:∀ a<26,1≤a→∀ r<4*a,cntB a r (2*a+1)≤8:=by decide +kernel
theorem zP9 {n:Int} {a r:Nat} (hr:n % (4*(a:Int))=r):∀ k,(zBt n (a:Int) k).length≤cntB a r k
 | 0=>by simp [zBt]
 | k+1=>by
  have h1:=zP9 hr k
  rw [zBt,List.length_append,cntB]
  have h2:(zBi n (a:Int) (-(a:Int)+(k:Int))).length≤(if (((-(a:Int)+(k:Int))*(-(a:Int)+(k:Int))+(r:Int)) % (4*(a:Int))=0) then 1 else 0):=by
   have e:((-(a:Int)+(k:Int))*(-(a:Int)+(k:Int))+(r:Int)) % (4*(a:Int))=((-(a:Int)+(k:Int))*(-(a:Int)+(k:Int))+n) % (4*(a:Int)):=by
    rw [← hr,Int.add_emod_emod]
   rw [e]
   unfold zBi
   split
   ·split <;> simp
   ·simp
  omega
theorem zP5 {n:Int}:∀ A:Nat,A≤25→(zBs n (A+1)).length≤8*A
 | 0,_=>by simp [zBs]
 | A+1,h=>by
  have h1:=zP5 (n:=n) A zm
  rw [zBs,List.length_append,if_neg zm]
  have e:((A+1:Nat):Int)=(A:Int)+1:=zm
  have h2:=Int.emod_nonneg n (show (4*((A+1:Nat):Int))≠0 by omega)
  have h3:=Int.emod_lt_of_pos n (show (0:Int)<4*((A+1:Nat):Int) by omega)
  have h4:=zP9 (n:=n) (a:=A+1) (r:=(n % (4*((A+1:Nat):Int))).toNat) zm (2*(A+1)+1)
  have h5:=cntB_few (A+1) zm zm (n % (4*((A+1:Nat):Int))).toNat zm
  omega
theorem listF_few {n:Int} (h0:3≤n) (h1:n≤2004):(zBz n).length≤200:=by
 obtain ⟨a,h⟩:=AEnd.ex h0 h1
 rw [zJ5 h]
 have h2:a≤26:=by
  rcases Nat.lt_or_ge 26 a with g | g
  ·have:=h.2.2 26 zm g;omega
  ·exact g
 obtain ⟨A,rfl⟩:∃ A,a=A+1:=⟨a-1,by have:=h.1;omega⟩
 have:=zP5 (n:=n) A zm
 omega
theorem zRc {D a b c a' b' c' h x y e u z:Int} (hf:Sf D a b c) (hg:Sf D a' b' c') (e1:x*a+y*a'=h) (d1:h ∣ a) (d2:h ∣ a') (e2:u*h+z*((b+b')/2)=e) (d3:e ∣ h) (d4:e ∣ (b+b')/2) (he:0<e) :
  let A:=a*a'/(e*e)
  let B:=(u*x*a*b'+u*y*a'*b+z*((b*b'+D)/2))/e
  Cps D a b a' b' A B∧Sf D A B ((B*B-D)/(4*A)):=by
 intro A B
 obtain ⟨f1,f2,f3⟩:=zB8 hf.disc
 obtain ⟨g1,g2,_⟩:=zB8 hg.disc
 have he0:e≠0:=zm
 have hs:2*((b+b')/2)=b+b':=zm
 have hz:u*x*a+u*y*a'+z*((b+b')/2)=e:=by
  rw [← e2,← e1]
  grind
 have d5:=Int.dvd_trans d3 d1
 have d6:=Int.dvd_trans d3 d2
 have hA:e*e*A=a*a':=Int.mul_ediv_cancel' (Int.mul_dvd_mul d5 d6)
 obtain ⟨N1,ha1⟩:=id d5
 obtain ⟨N2,ha2⟩:=id d6
 obtain ⟨S,hS⟩:=id d4
 obtain ⟨p,hp⟩:∃ p,p=bD D b:=⟨_,rfl⟩
 obtain ⟨q,hq⟩:∃ q,q=bD D b':=⟨_,rfl⟩
 rw [← hp] at f1 f2
 rw [← hq] at g1 g2
 have hs':p+q+tD D=e*S:=zm
 have hz1:u*x*N1+u*y*N2+z*S=1:=zB0 he0 (fo1 (by rw [← ha1,← ha2,← hS];exact hz))
 have hBB:2*(e*(2*(u*x*N1*q+u*y*N2*p+z*(p*S-N1*c))+tD D))=2*(u*x*a*b'+u*y*a'*b)+z*(b*b'+D):=by
  rw [← Int.mul_assoc,← fo3 hz1,← fo2 hs' (by rw [← ha1];exact f2),← ha1,← ha2,← f1,← g1,← f3]
 have hev:b*b'+D=2*((b*b'+D)/2):=by
  have h2:=fo2 (N1:=N1) (c:=c) hs' (by rw [← ha1];exact f2)
  rw [← f1,← g1,← f3] at h2
  omega
 have hB:u*x*a*b'+u*y*a'*b+z*((b*b'+D)/2)=e*(2*(u*x*N1*q+u*y*N2*p+z*(p*S-N1*c))+tD D):=by
  rw [hev] at hBB
  have:z*(2*((b*b'+D)/2))=2*(z*((b*b'+D)/2)):=by grind
  omega
 have hBv:e*B=u*x*a*b'+u*y*a'*b+z*((b*b'+D)/2):=Int.mul_ediv_cancel' ⟨_,hB⟩
 refine Cps.formula hf hg hs he hz d5 d6 d4 hA ?_
 rw [hBv]
 have:z*(b*b'+D)=2*(z*((b*b'+D)/2)):=by
  rw [hev]
  have:2*((b*b'+D)/2)/2=(b*b'+D)/2:=zm
  rw [this]
  grind
 omega
def rfE (a b c:Int):Int:=if redE a b c=0 then (if cont a b c=1 then 0 else 80) else redE a b c
theorem sf_of {a b c:Int} (h:rfE a b c=0):Sf (b*b-4*(a*c)) a b c∧b*b-4*(a*c)<0:=by
 unfold rfE at h
 split at h
 ·rename_i h1
  split at h
  ·rename_i h2
   have h3:=zRs a b c
   rw [h1] at h3
   have h4:=of_decide_eq_true (h3.trans (decide_eq_true rfl))
   have h5:=zLx h4.1
   exact ⟨⟨rfl,zm,zK7 h2⟩,h4.1⟩
  ·exact absurd h zd
 ·rename_i h1
  exact absurd h h1
def Fm.lst (zs:List Int) (e:Int):Fm:=⟨fun v w=>∃ l,v=.tuple #[l,.int .i64 e]∧Nums w l zs,fun ⟨l,h1,h2⟩ hb=>⟨l,h1,h2.mono hb⟩⟩
def Fm.agg (zs:List Int) (e:Int):Fm:=⟨fun v w=>∃ l,v=.agg #[l,.int .i64 e]∧Nums w l zs,fun ⟨l,h1,h2⟩ hb=>⟨l,h1,h2.mono hb⟩⟩
section
variable {os : List Oper} {Q : Exit → Act → World → Prop} {a : Act} {p : Plan} {B B0 : Nat} {w0 : World}
end

section
variable {os : List Oper} {Q : Exit → Act → World → Prop} {a : Act} {p : Plan} {B B0 : Nat} {w0 : World}
variable {i s : Nat} {d : Option Tmp} {ty : TypeId} {ps : String} {af : Array Edge} {gd : Option (Nat × Bool)}
end

def Tri (x:Int):Prop:=x=-1∨x=0∨x=1
theorem Tri.mul {x y:Int} (h:Tri x) (h':Tri y):Tri (x*y):=by
 unfold Tri at *
 rcases h with rfl | rfl | rfl <;> rcases h' with rfl | rfl | rfl <;> decide
section
variable {os : List Oper} {Q : Exit → Act → World → Prop} {a : Act} {p : Pq} {B B0 : Nat} {w0 : World}
variable {i s : Nat} {d : Option Tmp} {ty : TypeId} {ps : String} {af : Array Edge} {gd : Option (Nat × Bool)}
end
theorem ld_rawS {n:Bool} {a:Option Addr} {k c:Nat} {xs:List Int} {us:List Value} {w:World} (hl:us.length=2) (h:(Fq.raw n a k c xs).P (.agg us.toArray) w):us.getD 1 undef=.slice a k c:=by
 match us,hl with
 | [p,q],_=>
  obtain ⟨e,h1⟩:=h
  injection e with e
  have e2:=congrArg Array.toList e
  simp at e2
  simp [e2]
theorem zTr:En 23:=zAd Tryz.func23 (by kernel_rfl) rfl

theorem ab_gcd {a b:Int} (hb:b≠0):(Int.gcd a b:Int)≤ab b:=by
 have h1:(Int.gcd a b:Int) ∣ ab b:=by unfold ab;exact Int.dvd_natAbs.2 (Int.gcd_dvd_right ..)
 exact Int.le_of_dvd (by unfold ab;omega) h1
noncomputable def bqU (a b:Int):Int:=if b=0 then cmpI a 0 else bezU a (ab b)
noncomputable def bqV (a b:Int):Int:=if b=0 then 0 else if 0<b then bezV a (ab b) else -bezV a (ab b)
theorem zJv (a b:Int):Int.gcd a (ab b)=Int.gcd a b:=by unfold ab;simp [Int.gcd]
theorem zK4 {a b:Int} (h:¬ (a=0∧b=0)):bqU a b*a+bqV a b*b=(Int.gcd a b:Int):=by
 unfold bqU bqV
 by_cases hb:b=0
 ·rw [if_pos hb,if_pos hb,hb]
  have ha:a≠0:=fun e=>h ⟨e,hb⟩
  rcases Int.lt_trichotomy a 0 with h1 | h1 | h1
  ·rw [cmp_lt h1];simp [Int.gcd];omega
  ·exact absurd h1 ha
  ·rw [cmp_gt h1];simp [Int.gcd];omega
 ·rw [if_neg hb,if_neg hb]
  have h0:0<ab b:=by unfold ab;omega
  have h1:=(zHl (a:=a) h0).2.2
  rw [zJv] at h1
  by_cases hp:0<b
  ·rw [if_pos hp]
   rw [show ab b=b by unfold ab;omega] at h1 ⊢
   exact h1
  ·rw [if_neg hp]
   rw [show ab b=-b by unfold ab;omega] at h1 ⊢
   rw [Int.mul_neg] at h1
   rw [Int.neg_mul]
   exact h1
theorem bqU_ab {a b:Int} {k:Nat} (hk:1≤k) (h:ab b<pw k):ab (bqU a b)<pw k:=by
 unfold bqU
 split
 ·exact Int.lt_of_lt_of_le (ab_cmp a 0) (zBu hk)
 ·rename_i hb
  have h0:0<ab b:=by unfold ab;omega
  refine bezU_ab h0 ?_
  rw [show ab (ab b)=ab b by unfold ab;omega]
  exact h
theorem bqV_ab {a b:Int} {k:Nat} (h:ab a<pw k):ab (bqV a b)<pw (k+1):=by
 have hp:=zA0 k
 have hs:=zCy k
 by_cases hb:b=0
 ·unfold bqV
  rw [if_pos hb]
  unfold ab
  omega
 ·have h1:=zK4 (a:=a) (b:=b) (fun e=>hb e.2)
  have h2:0<ab b:=by unfold ab;omega
  have hu:ab (bqU a b)<ab b:=by
   unfold bqU
   rw [if_neg hb]
   have g0:=(zHl (a:=a) h2).1
   have g1:=bez_lt (a:=a) h2
   unfold ab at *
   omega
  have hg:=ab_gcd (a:=a) hb
  have hg0:(0:Int)≤(Int.gcd a b:Int):=zm
  -- |v| |b| <= g+|u| |a| <= |b| (1+|a|)
  have e1:ab (bqV a b)*ab b=ab (bqV a b*b):=by unfold ab;rw [Int.natAbs_mul];simp
  have e2:bqV a b*b=(Int.gcd a b:Int)-bqU a b*a:=zm
  have e3:ab (bqU a b*a)=ab (bqU a b)*ab a:=by unfold ab;rw [Int.natAbs_mul];simp
  have e4:ab (bqU a b)*ab a≤ab b*ab a:=Int.mul_le_mul_of_nonneg_right zm (by unfold ab;omega)
  have e5:ab (bqV a b*b)≤(Int.gcd a b:Int)+ab (bqU a b*a):=by rw [e2];unfold ab;omega
  have e6:ab b*ab (bqV a b)≤ab b*(1+ab a):=by
   rw [Int.mul_comm,e1,Int.mul_add,Int.mul_one]
   omega
  have e7:=Int.le_of_mul_le_mul_left e6 h2
  omega
theorem rfE_chk {a b c:Int} (h:¬ chkF a b c=0):rfE a b c=chkF a b c:=by
 have e:redE a b c=chkF a b c:=by unfold redE;rw [if_neg fun x=>h x.1]
 unfold rfE
 rw [e,if_neg h]
theorem rfE_pos {a b c:Int} (h:chkF a b c=0) (hd:0<b*b-4*(a*c)):rfE a b c=5:=by
 have e:redE a b c=5:=by unfold redE;rw [if_pos ⟨h,hd⟩]
 unfold rfE
 rw [e,if_neg zd]
theorem rfE_neg {a b c:Int} (h:chkF a b c=0) (hd:¬ 0<b*b-4*(a*c)):rfE a b c=if cont a b c=1 then 0 else 80:=by
 have e:redE a b c=0:=by unfold redE;rw [if_neg fun x=>hd x.2];exact h
 unfold rfE
 rw [e,if_pos rfl]
def cmE (a b c x y z:Int):Int:=if rfE a b c=0 then (if rfE x y z=0 then (if b*b-4*(a*c)=y*y-4*(x*z) then 0 else 5) else rfE x y z) else rfE a b c
theorem zCn {a b c:Int} (ha:ab a<pw 2) (hb:ab b<pw 2) (hc:ab c<pw 2):ab (b*b-4*(a*c))<pw 6:=
 zCm (zBv hb hb) (zBv (show ab (4:Int)<pw 1 by decide) (zBv ha hc)) zm zm
noncomputable def cmF (a b c x y z:Int):F3:=if cmE a b c x y z=0 then mulF (b*b-4*(a*c)) ⟨a,b,c⟩ ⟨x,y,z⟩ else ⟨0,0,0⟩
theorem zDp {D a b c:Int} (h:Sf D a b c):D % 4=0∨D % 4=1:=by
 have h1:=h.disc
 have h2:=zKp b
 omega
theorem pp1 {a b a' b' c' s δ e m n r q x y u z:Int} (hs:2*s=b+b') (hδ:2*δ=b-b') (hez:u*x*a+u*y*a'+z*s=e) (ha':a'=e*n) (hr:u*y*δ-z*c'=m*q+r) :
  u*x*a*b'+u*y*a'*b+z*(s*b'-2*(a'*c'))=e*(b'+2*n*(m*q+r)):=by
 rw [← hr]
 have h1:u*x*a=e-u*y*a'-z*s:=zm
 rw [h1]
 have h2:b=b'+2*δ:=zm
 rw [h2,ha']
 grind
theorem pp2 {D a' b' c' e n r:Int} (hD:b'*b'-4*(a'*c')=D) (ha':a'=e*n):(b'+r*n+r*n)*(b'+r*n+r*n)-D=4*n*(e*c'+r*(b'+r*n)):=by
 rw [← hD,ha']
 grind
theorem pp3 {A B C k:Int}:(B+2*A*k)*(B+2*A*k)-(B*B-4*(A*C))=4*A*(A*(k*k)+B*k+C):=by grind
theorem pp4 {b' n m q r:Int}:b'+r*n+r*n=b'+2*n*(m*q+r)+2*(m*n)*(-q):=by grind
theorem pp5 {b b' D c' a' s:Int} (hs:2*s=b+b') (hD:b'*b'-4*(a'*c')=D):(b*b'+D)=2*(s*b'-2*(a'*c')):=by
 rw [← hD]
 have:b=2*s-b':=zm
 rw [this]
 grind
theorem pp6 {m n X C:Int} (h:4*n*X=4*(m*n)*C) (hn:n≠0):X=m*C:=by
 have:(4*n)*X=(4*n)*(m*C):=by rw [h];grind
 exact zB0 zm this
theorem prod_prog {D a b c a' b' c' h x y e u z m n s δ r:Int} (hf:Sf D a b c) (hg:Sf D a' b' c') (e1:x*a+y*a'=h) (d1:h ∣ a) (d2:h ∣ a') (hs:s=(b+b')/2) (hδ:δ=(b-b')/2) (e2:u*h+z*s=e) (d3:e ∣ h) (d4:e ∣ s) (he:0<e) (hm:m=a/e) (hn:n=a'/e) (hr:r=(u*y*δ-z*c') % m) :
  0<m∧0<n∧∃ R:F3,Sc D R∧Cps D a b a' b' R.a R.b∧Und R.a R.b R.c 1 (-((u*y*δ-z*c')/m)) 0 1 (m*n) (b'+r*n+r*n) ((e*c'+r*(b'+r*n))/m):=by
 subst hs
 obtain ⟨c1,c2⟩:=zRc hf hg e1 d1 d2 e2 d3 d4 he
 have d5:=Int.dvd_trans d3 d1
 have d6:=Int.dvd_trans d3 d2
 have ha:a=e*m:=by rw [hm];exact (Int.mul_ediv_cancel' d5).symm
 have ha':a'=e*n:=by rw [hn];exact (Int.mul_ediv_cancel' d6).symm
 have m0:0<m:=zIc he (by rw [← ha];exact hf.pos)
 have n0:0<n:=zIc he (by rw [← ha'];exact hg.pos)
 have q1:=zKp b
 have q2:=zKp b'
 have q3:=hf.disc
 have q4:=hg.disc
 have hs2:2*((b+b')/2)=b+b':=zm
 have hδ2:2*δ=b-b':=zm
 have hez:u*x*a+u*y*a'+z*((b+b')/2)=e:=by
  rw [← e2,← e1]
  grind
 have hq:u*y*δ-z*c'=m*((u*y*δ-z*c')/m)+r:=by rw [hr];exact (Int.mul_ediv_add_emod _ _).symm
 obtain ⟨q,eq⟩:∃ q,q=(u*y*δ-z*c')/m:=⟨_,rfl⟩
 rw [← eq] at hq ⊢
 have eA:a*a'/(e*e)=m*n:=by
  rw [ha,ha',show e*m*(e*n)=(e*e)*(m*n) by grind]
  exact Int.mul_ediv_cancel_left _ (by have:=Int.mul_pos he he;omega)
 have eM:(b*b'+D)/2=(b+b')/2*b'-2*(a'*c'):=by
  have:=pp5 hs2 q4
  omega
 have eB:(u*x*a*b'+u*y*a'*b+z*((b*b'+D)/2))/e=b'+2*n*(m*q+r):=by
  rw [eM,pp1 hs2 hδ2 hez ha' hq]
  exact Int.mul_ediv_cancel_left _ zm
 rw [eA,eB] at c1 c2
 refine ⟨m0,n0,⟨m*n,b'+2*n*(m*q+r),_⟩,c2,c1,?_⟩
 obtain ⟨B0,hB0⟩:∃ B0,B0=b'+2*n*(m*q+r):=⟨_,rfl⟩
 obtain ⟨C0,hC0⟩:∃ C0,C0=(B0*B0-D)/(4*(m*n)):=⟨_,rfl⟩
 simp only
 rw [← hB0] at c2 ⊢
 rw [← hC0] at c2 ⊢
 have e4:b'+r*n+r*n=B0+2*(m*n)*(-q):=by rw [hB0];exact pp4
 have e5:=pp2 (r:=r) q4 ha'
 have e6:=pp3 (A:=m*n) (B:=B0) (C:=C0) (k:=-q)
 rw [← e4,c2.disc,e5] at e6
 have e7:=pp6 e6 zm
 refine ⟨zm,?_,?_,?_⟩
 ·unfold qv;omega
 ·rw [e4]
  unfold qm
  grind
 ·rw [e7,Int.mul_ediv_cancel_left _ zm]
  unfold qv
  grind
end Go.Proofs.YtjadciofpgjofaaGreatDoor
