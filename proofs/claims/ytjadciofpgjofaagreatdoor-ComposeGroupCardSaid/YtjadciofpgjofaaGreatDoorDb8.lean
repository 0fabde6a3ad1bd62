/- Ho, Hp, Ut, Hq, Hr. -/
import Derived.Test.YtjadciofpgjofaaGreatDoorDb7
set_option linter.unusedSimpArgs false
set_option linter.unusedVariables false
set_option maxRecDepth 100000
set_option maxHeartbeats 8000000
namespace Go.Proofs.YtjadciofpgjofaaGreatDoor
open Go Go.RowKit

theorem zTb:En 9:=zAe Tryz.func9 (by kernel_rfl) rfl
theorem zDu:En 16:=zAe Tryz.func16 (by kernel_rfl) rfl
theorem zTc:En 17:=zAe Tryz.func17 (by kernel_rfl) rfl
theorem zF6:En 32:=zAe Tryz.func32 (by kernel_rfl) rfl
theorem zOv:En 41:=zAe Tryz.func41 (by kernel_rfl) rfl
theorem zXc:rowB 48 7=true:=by kernel_rfl
theorem zEk:zDi 48 7=true:=by kernel_rfl
theorem zDx (w:World):Fits w [.n 0,.n 0,.n 0,.v (.int .i64 0)] [.bool false,.slice none 0 0,.bool false,.slice none 0 0,.bool false,.slice none 0 0,.int .i64 0]:=⟨_,_,_,rfl,Num.zero w,_,_,_,rfl,Num.zero w,_,_,_,rfl,Num.zero w,_,rfl,rfl,rfl⟩
theorem zXx (w:World):(Fq.st [.n 0,.n 0,.n 0,.v (.int .i64 0)]).P (.agg ([.bool false,.slice none 0 0,.bool false,.slice none 0 0,.bool false,.slice none 0 0,.int .i64 0]:List Value).toArray) w:=⟨_,rfl,zDx w⟩
theorem zFs {d:Option Tmp} {ty:TypeId} {ps:String} {af:Array Edge} (ρ:Operand→Value) (w:World):(execOp ρ { dst:=d,op:=.alloc 48,type:=ty,pos:=ps,after:=af,guard:=none }).run Tryz.prog w=.ok (.value (.pointer (some ⟨w.heap.size,0,none⟩))) (w.alloc (.cells [.bool false,.slice none 0 0,.bool false,.slice none 0 0,.bool false,.slice none 0 0,.int .i64 0].toArray 48)):=by
 simp [execOp,go_sem]
section
variable {os : List Oper} {Q : Exit → Act → World → Prop} {a : Act} {p : Pq} {B B0 : Nat} {w0 : World}
variable {i s : Nat} {d : Option Tmp} {ty : TypeId} {ps : String} {af : Array Edge} {gd : Option (Nat × Bool)}
theorem q_gotErr {x:Operand} {a0 b0 c0 e0:Int} (hp:p.Ok B B0) (hF:p.Free i) (hg:GdQ os a p B B0 w0 af gd) (hx:SrcQ os a p B B0 w0 af x (Fq.st [.n a0,.n b0,.n c0,.v (.int .i64 e0)]).P) (hC:∀ w,(p.c i).P (.int .i64 e0) w) :
  zAg os Q a p B B0 w0 i { dst:=d,op:=.field 48 x 1,type:=ty,pos:=ps,after:=af,guard:=gd }:=by
 refine zBg hp hF hg fun L vs w hG hL hc hd=>?_
 obtain ⟨_,e1,p0,q0,_,rfl,_,p1,q1,_,rfl,_,p2,q2,_,rfl,_,_,rfl,_,rfl⟩:=hx L vs w hG hd
 refine ⟨.int .i64 e0,?_,hC w⟩
 generalize (lay os.toArray L vs os.toArray.size a).eval=ρ at e1
 have hf:(Instr.field 48 (.agg #[p0,q0,p1,q1,p2,q2,.int .i64 e0]) 1).run Tryz.prog w=.ok (.int .i64 e0) w:=by kernel_rfl
 simp [execOp,go_sem,e1,hf]
end
theorem Fl.built {w:World} {Ps:List F3} {es:List Value} {n:Nat} (hn:n=Ps.length) (h:Fits w (rowQ Ps) es) (h0:0<Ps.length):Fl (w.alloc (.cells es.toArray 38)) (.slice (some ⟨w.heap.size,0,none⟩) n n) Ps:=by
 subst hn
 have h2:=h.mono (zAh w (.cells es.toArray 38))
 refine ⟨_,_,rfl,fun _=>⟨w.heap.size,rfl,by simp,fun i P hi=>?_⟩⟩
 have:=zNq h2 (b:=w.heap.size) (o:=0) (fun j hj=>by rw [Nat.zero_add];unfold World.cell?;rw [heap_alloc_new];simp [List.getD,List.getElem?_eq_getElem hj]) hi
 rw [Nat.zero_add] at this
 exact this
theorem zM7 {a b c:Int} (h:cont a b c=1) (d:Int) (h1:d ∣ a) (h2:d ∣ b) (h3:d ∣ c):d ∣ 1:=zLj h d h1 h2 h3
theorem und_e22:Und 4 (-11) 9 (-1) (2) (-1) (1) 2 (-1) 3:=⟨by decide,by decide,by decide,by decide⟩
section
variable {os : List Oper} {Q : Exit → Act → World → Prop} {a : Act} {p : Pq} {B B0 : Nat} {w0 : World}
variable {i s : Nat} {d : Option Tmp} {ty : TypeId} {ps : String} {af : Array Edge} {gd : Option (Nat × Bool)}
theorem zNf {x0:Operand} {z0_0:Int} {z0_1:Int} {z0_2:Int} {x1:Operand} {u1:Int} (hp:p.Ok B B0) (hF:p.Free i) (hg:GdQ os a p B B0 w0 af gd) (h0:SrcQ os a p B B0 w0 af x0 (f3 z0_0 z0_1 z0_2).P) (h1:SrcQ os a p B B0 w0 af x1 fun v _=>v=.int .i64 u1) (hC:∀ v w,(Fq.st [.n z0_0,.n z0_1,.n z0_2,.v (.int .i64 u1)]).P v w→(p.c i).P v w) :
  zAg os Q a p B B0 w0 i { dst:=d,op:=.build 48 #[(0,x0),(1,x1)],type:=ty,pos:=ps,after:=af,guard:=gd }:=by
 refine zBg hp hF hg fun L vs w hG hL hc hd=>?_
 have g0:=h0 L vs w hG hd
 obtain ⟨_,e0,_,_,_,rfl,a0_n0,_,_,_,rfl,a0_n1,_,_,_,rfl,a0_n2,rfl⟩:=g0
 obtain ⟨n0_0,ao0_0,k0_0,c0_0,e0_0⟩:=a0_n0.parts
 have m0_0:=a0_n0
 rw [e0_0] at m0_0
 obtain ⟨n0_1,ao0_1,k0_1,c0_1,e0_1⟩:=a0_n1.parts
 have m0_1:=a0_n1
 rw [e0_1] at m0_1
 obtain ⟨n0_2,ao0_2,k0_2,c0_2,e0_2⟩:=a0_n2.parts
 have m0_2:=a0_n2
 rw [e0_2] at m0_2
 injection e0_0 with f0_0
 have f0_0:=congrArg Array.toList f0_0
 simp at f0_0
 obtain ⟨rfl,rfl⟩:=f0_0
 injection e0_1 with f0_1
 have f0_1:=congrArg Array.toList f0_1
 simp at f0_1
 obtain ⟨rfl,rfl⟩:=f0_1
 injection e0_2 with f0_2
 have f0_2:=congrArg Array.toList f0_2
 simp at f0_2
 obtain ⟨rfl,rfl⟩:=f0_2
 have g1:=h1 L vs w hG hd
 refine ⟨.agg #[.bool n0_0,.slice ao0_0 k0_0 c0_0,.bool n0_1,.slice ao0_1 k0_1 c0_1,.bool n0_2,.slice ao0_2 k0_2 c0_2,.int .i64 u1],?_,hC _ _ ⟨_,rfl,_,_,_,rfl,m0_0,_,_,_,rfl,m0_1,_,_,_,rfl,m0_2,_,rfl,rfl,rfl⟩⟩
 generalize (lay os.toArray L vs os.toArray.size a).eval=ρ at e0 g1
 simp [execOp,go_sem,e0,g1]
end
theorem zHz {w:World} {v v':Value} {P Q R:F3} {er:Int} (h:(f3 P.a P.b P.c).P v w) (h':(f3 Q.a Q.b Q.c).P v' w) (sP:Sm P) (sQ:Sm Q) (hR:cmF P.a P.b P.c Q.a Q.b Q.c=R) (hE:cmE P.a P.b P.c Q.a Q.b Q.c=er) :
  Rt 16 #[v,v'] w fun v' w'=>(Fq.st [.n R.a,.n R.b,.n R.c,.v (.int .i64 er)]).P v' w':=by
 have HsP:=hidd sP
 have HsQ:=hidd sQ
 have HhR:=hidd hR
 have HhE:=hidd hE
 obtain ⟨y0_p0,y0_q0,y0_p1,y0_q1,y0_p2,y0_q2,rfl,hF0⟩:=o3 h
 obtain ⟨y1_p0,y1_q0,y1_p1,y1_q1,y1_p2,y1_q2,rfl,hF1⟩:=o3 h'
 obtain ⟨w1,b1,hw1,hb1,hs1,E⟩:=gS w 38 hF0
 obtain ⟨w2,b2,hw2,hb2,hs2,E⟩:=fS E hs1 38 hF1
 obtain ⟨w3,b3,hw3,hb3,hs3,E⟩:=fO E hs2 48 zDx
 go_enter Tryz.func16,Tryz.ntmps16
 go_upto_region 1 with (fail)
 rw [← hw1,← hw2]
 rw [← hw3,← hb3]
 rw [← hb2,← hb1]
 clear hw1 hw2 hw3 hb1 hb2 hb3 hs3 hs1 hs2
 refine rz [.w (f3 P.a P.b P.c),.w (f3 Q.a Q.b Q.c),.w (Fq.tup2 (f3 R.a R.b R.c) (Fq.is (.int .i64 er))),.w (Fq.tup2 (f3 R.a R.b R.c) (Fq.is (.int .i64 er))),.w (f3 R.a R.b R.c),.i er,.k,.a,.i er] N3 [⟨6,7,6,f3 0 0 0,f3 R.a R.b R.c,none⟩] E (fun hp=>⟨lS 0 6 hp (mq 2 rfl) zAd zw,lS 0 6 hp (mq 1 rfl) zAd zw,zC hp zTf zi zi fun v v' w h h'=>(by have hh9:=zTu h h' HsP.out.1 HsP.out.2.1 HsP.out.2.2 HsQ.out.1 HsQ.out.2.1 HsQ.out.2.2;rw [HhR.out,HhE.out] at hh9;exact hh9),zS,zS,zS,aS hp (mq 0 rfl) zAp zBp,sS 4 hp (mq 0 rfl) zAj,zS,tv⟩) ?_
 intro w4 b4_6 E _ _
 simp only [Z1] at E ⊢
 go_upto_region 2 with (fail)
 refine rz [.w (f3 R.a R.b R.c),.i er,.w (Fq.st [.n R.a,.n R.b,.n R.c,.v (.int .i64 er)]),.a] [none,some (3,Fq.st [.n R.a,.n R.b,.n R.c,.v (.int .i64 er)]),none,none] [] E (fun hp=>⟨lS 0 6 hp (mq 0 rfl) zAd zw,zS,zNf (u1:=er) (z0_0:=R.a) (z0_1:=R.b) (z0_2:=R.c) hp fo tv (sqi 0) (sqi 1) (fun v w h=>h),sO 0 2 hp (mq 1 rfl) zEk zw,tv⟩) ?_
 intro w5 E _ _
 simp only [Z1] at E ⊢
 clear HsP sP HsQ sQ HhR hR HhE hE
 obtain ⟨_,_,hc0,hf0⟩:=zAw (E.box 1 rfl)
 have hP0:=hf0
 obtain ⟨r0_p0,r0_q0,_,rfl,_r0_n0,r0_p1,r0_q1,_,rfl,_r0_n1,r0_p2,r0_q2,_,rfl,_r0_n2,_,rfl,_,rfl⟩:=hf0
 have c0_0:=hc0 0 (by simp)
 have c0_1:=hc0 1 (by simp)
 have c0_2:=hc0 2 (by simp)
 have c0_3:=hc0 3 (by simp)
 have c0_4:=hc0 4 (by simp)
 have c0_5:=hc0 5 (by simp)
 have c0_6:=hc0 6 (by simp)
 simp only [List.getD_cons_zero,List.getD_cons_succ] at c0_0 c0_1 c0_2 c0_3 c0_4 c0_5 c0_6
 clear hc0
 go_wp2
 exact zR (v:=.agg #[r0_p0,r0_q0,r0_p1,r0_q1,r0_p2,r0_q2,.int .i64 er]) (by simp [results,Tryz.results16,go_sem,c0_0,c0_1,c0_2,c0_3,c0_4,c0_5,c0_6]) E.below ⟨_,rfl,hP0⟩

theorem zUe {w:World} {v v':Value} {P:F3} {D n:Int} (hC:GC D) (hP:Sc D P) (hn:ab n<pw 20) (sP:Sm P) (h:(f3 P.a P.b P.c).P v w) (h':Num w v' n) :
  Rt 17 #[v,v'] w fun v' w'=>(Fq.st [.n (pzF D P n).a,.n (pzF D P n).b,.n (pzF D P n).c,.v (.int .i64 0)]).P v' w':=by
 have HhC:=hidd hC
 have HhP:=hidd hP
 have Hhn:=hidd hn
 have HsP:=hidd sP
 obtain ⟨y0_p0,y0_q0,y0_p1,y0_q1,y0_p2,y0_q2,rfl,hF0⟩:=o3 h
 obtain ⟨n1,ao1,k1,c1,rfl⟩:=h'.parts
 obtain ⟨w1,b1,hw1,hb1,hs1,E⟩:=gS w 38 hF0
 obtain ⟨w2,b2,hw2,hb2,hs2,E⟩:=fN E hs1 36 h'
 obtain ⟨w3,b3,hw3,hb3,hs3,E⟩:=fO E hs2 48 zDx
 go_enter Tryz.func17,Tryz.ntmps17
 go_upto_region 1 with (fail)
 rw [← hw1,← hw2]
 rw [← hw3,← hb3]
 rw [← hb2,← hb1]
 clear hw1 hw2 hw3 hb1 hb2 hb3 hs3 hs1 hs2
 refine rz [.w (f3 P.a P.b P.c),.n n,.w (Fq.tup2 (f3 ((pzF D P n).a) ((pzF D P n).b) ((pzF D P n).c)) (Fq.is (.int .i64 0))),.w (Fq.tup2 (f3 ((pzF D P n).a) ((pzF D P n).b) ((pzF D P n).c)) (Fq.is (.int .i64 0))),.w (f3 ((pzF D P n).a) ((pzF D P n).b) ((pzF D P n).c)),.i 0,.k,.a,.i 0] N3 [⟨6,7,6,f3 0 0 0,f3 ((pzF D P n).a) ((pzF D P n).b) ((pzF D P n).c),none⟩] E (fun hp=>⟨lS 0 6 hp (mq 2 rfl) zAd zw,lI 0 hp (mq 1 rfl) zw,zC hp zTg zi zi fun v v' w h h'=>zT4 HhC.out HhP.out Hhn.out h h' HsP.out,zS,zS,zS,aS hp (mq 0 rfl) zAp zBp,sS 4 hp (mq 0 rfl) zAj,zS,tv⟩) ?_
 intro w4 b4_6 E _ _
 simp only [Z1] at E ⊢
 go_upto_region 2 with (fail)
 refine rz [.w (f3 ((pzF D P n).a) ((pzF D P n).b) ((pzF D P n).c)),.i 0,.w (Fq.st [.n ((pzF D P n).a),.n ((pzF D P n).b),.n ((pzF D P n).c),.v (.int .i64 0)]),.a] [none,some (3,Fq.st [.n ((pzF D P n).a),.n ((pzF D P n).b),.n ((pzF D P n).c),.v (.int .i64 0)]),none,none] [] E (fun hp=>⟨lS 0 6 hp (mq 0 rfl) zAd zw,zS,zNf (u1:=0) (z0_0:=(pzF D P n).a) (z0_1:=(pzF D P n).b) (z0_2:=(pzF D P n).c) hp fo tv (sqi 0) (sqi 1) (fun v w h=>h),sO 0 2 hp (mq 1 rfl) zEk zw,tv⟩) ?_
 intro w5 E _ _
 simp only [Z1] at E ⊢
 clear HhC hC HhP hP Hhn hn HsP sP
 obtain ⟨_,_,hc0,hf0⟩:=zAw (E.box 1 rfl)
 have hP0:=hf0
 obtain ⟨r0_p0,r0_q0,_,rfl,_r0_n0,r0_p1,r0_q1,_,rfl,_r0_n1,r0_p2,r0_q2,_,rfl,_r0_n2,_,rfl,_,rfl⟩:=hf0
 have c0_0:=hc0 0 (by simp)
 have c0_1:=hc0 1 (by simp)
 have c0_2:=hc0 2 (by simp)
 have c0_3:=hc0 3 (by simp)
 have c0_4:=hc0 4 (by simp)
 have c0_5:=hc0 5 (by simp)
 have c0_6:=hc0 6 (by simp)
 simp only [List.getD_cons_zero,List.getD_cons_succ] at c0_0 c0_1 c0_2 c0_3 c0_4 c0_5 c0_6
 clear hc0
 go_wp2
 exact zR (v:=.agg #[r0_p0,r0_q0,r0_p1,r0_q1,r0_p2,r0_q2,.int .i64 0]) (by simp [results,Tryz.results17,go_sem,c0_0,c0_1,c0_2,c0_3,c0_4,c0_5,c0_6]) E.below ⟨_,rfl,hP0⟩

def F3.zero:F3:=⟨0,0,0⟩

theorem zPk {w:World} {v:Value} {d k er:Int} {R:F3} (h:Num w v d) (hO:∀ (w1:World) (x:Value),Below w.heap.size w w1→Num w1 x d→Calls Tryz.prog 93 #[x,.int .i64 k] w1 fun e' w'=>∃ v',e'=.returned v'∧Below w1.heap.size w1 w'∧(Fq.tup2 (f3 R.a R.b R.c) (Fq.is (.int .i64 er))).P v' w') :
  Rt 41 #[v,.int .i64 k] w fun v' w'=>(Fq.st [.n R.a,.n R.b,.n R.c,.v (.int .i64 er)]).P v' w':=by
 have HhO:=hidd hO
 obtain ⟨n0,ao0,k0,c0,rfl⟩:=h.parts
 obtain ⟨w1,b1,hw1,hb1,hs1,E⟩:=gN w 36 h
 obtain ⟨w2,b2,hw2,hb2,hs2,E⟩:=fO E hs1 48 zDx
 go_enter Tryz.func41,Tryz.ntmps41
 go_upto_region 1 with (fail)
 rw [← hw1,← hw2]
 rw [← hb2,← hb1]
 clear hw1 hw2 hb1 hb2 hs2 hs1
 refine rz [.n d,.i k,.w (Fq.tup2 (f3 R.a R.b R.c) (Fq.is (.int .i64 er))),.w (Fq.tup2 (f3 R.a R.b R.c) (Fq.is (.int .i64 er))),.w (f3 R.a R.b R.c),.i er,.k,.a,.i er] N2 [⟨6,7,6,f3 0 0 0,f3 R.a R.b R.c,none⟩] E (fun hp=>⟨lI 0 hp (mq 1 rfl) zw,zS,zD2 (F:=(Fq.num d).P) (G:=(Fq.is (.int .i64 k)).P) hp fo tv (zTh) rfl (sqi 0) (sqi 1) (fun v v' w hbw h h'=>(by subst h';exact HhO.out _ _ hbw h)),zS,zS,zS,aS hp (mq 0 rfl) zAp zBp,sS 4 hp (mq 0 rfl) zAj,zS,tv⟩) ?_
 intro w3 b3_6 E _ _
 simp only [Z1] at E ⊢
 go_upto_region 2 with (fail)
 refine rz [.w (f3 R.a R.b R.c),.i er,.w (Fq.st [.n R.a,.n R.b,.n R.c,.v (.int .i64 er)]),.a] [none,some (3,Fq.st [.n R.a,.n R.b,.n R.c,.v (.int .i64 er)]),none] [] E (fun hp=>⟨lS 0 6 hp (mq 0 rfl) zAd zw,zS,zNf (u1:=er) (z0_0:=R.a) (z0_1:=R.b) (z0_2:=R.c) hp fo tv (sqi 0) (sqi 1) (fun v w h=>h),sO 0 2 hp (mq 1 rfl) zEk zw,tv⟩) ?_
 intro w4 E _ _
 simp only [Z1] at E ⊢
 clear HhO hO
 obtain ⟨_,_,hc0,hf0⟩:=zAw (E.box 1 rfl)
 have hP0:=hf0
 obtain ⟨r0_p0,r0_q0,_,rfl,_r0_n0,r0_p1,r0_q1,_,rfl,_r0_n1,r0_p2,r0_q2,_,rfl,_r0_n2,_,rfl,_,rfl⟩:=hf0
 have c0_0:=hc0 0 (by simp)
 have c0_1:=hc0 1 (by simp)
 have c0_2:=hc0 2 (by simp)
 have c0_3:=hc0 3 (by simp)
 have c0_4:=hc0 4 (by simp)
 have c0_5:=hc0 5 (by simp)
 have c0_6:=hc0 6 (by simp)
 simp only [List.getD_cons_zero,List.getD_cons_succ] at c0_0 c0_1 c0_2 c0_3 c0_4 c0_5 c0_6
 clear hc0
 go_wp2
 exact zR (v:=.agg #[r0_p0,r0_q0,r0_p1,r0_q1,r0_p2,r0_q2,.int .i64 er]) (by simp [results,Tryz.results41,go_sem,c0_0,c0_1,c0_2,c0_3,c0_4,c0_5,c0_6]) E.below ⟨_,rfl,hP0⟩

theorem zGb {w:World} {v v':Value} {P Q:F3} (h:(Fq.st [.n P.a,.n P.b,.n P.c,.v (.int .i64 0)]).P v w) (h':(f3 Q.a Q.b Q.c).P v' w) (he:eqF P.a P.b P.c Q.a Q.b Q.c=true) :
  Rt 32 #[v,v'] w fun v' w'=>v'=.bool true:=by
 have HE:=hidd he
 clear he
 obtain ⟨_,rfl,hf0⟩:=h
 have hF0:=hf0
 obtain ⟨y0_p0,y0_q0,_,rfl,_y0_n0,y0_p1,y0_q1,_,rfl,_y0_n1,y0_p2,y0_q2,_,rfl,_y0_n2,_,rfl,_,rfl⟩:=hf0
 obtain ⟨y1_p0,y1_q0,y1_p1,y1_q1,y1_p2,y1_q2,rfl,hF1⟩:=o3 h'
 obtain ⟨w1,b1,hw1,hb1,hs1,E⟩:=gS w 48 hF0
 obtain ⟨w2,b2,hw2,hb2,hs2,E⟩:=fS E hs1 38 hF1
 go_enter Tryz.func32,Tryz.ntmps32
 go_upto_region 1 with (fail)
 rw [← hw1,← hw2]
 rw [← hb2,← hb1]
 clear hw1 hw2 hb1 hb2 hs2 hs1
 refine rz [.p b1 6,.i 0,.t,.t,.p b1 0,.w (f3 P.a P.b P.c),.w (f3 Q.a Q.b Q.c),.t,.t,.t] N2 [] E (fun hp=>⟨qa b1 0 6 hp zw,wXc 6 hp (mq 1 rfl) zi,zo hp (sqi 1),zS,zg b1 0 0 hp zw,lG 0 6 hp gqi (mq 1 rfl) zAd zi fun v w h=>h,lG 0 6 hp gqi (mq 0 rfl) zAd zw fun v w h=>h,zC hp zJq zi zi (fun v v' w h h'=>zJ3 h h' HE.out),zt hp (sqi 3) (sqi 7),zS,tv⟩) ?_
 intro w3 E _ _
 simp only [Z1] at E ⊢
 clear HE
 go_wp2
 exact zR (v:=.bool true) (by simp [results,Tryz.results32,go_sem]) E.below rfl

theorem zGt {D:Int} {P Q:F3} (hD:D<0) (hP:Sc D P) (hQ:Sc D Q):cmF P.a P.b P.c Q.a Q.b Q.c=mulF D P Q∧cmE P.a P.b P.c Q.a Q.b Q.c=0:=by
 have e1:=zGl hP hD
 have e2:=zGl hQ hD
 have e3:cmE P.a P.b P.c Q.a Q.b Q.c=0:=by unfold cmE;rw [if_pos e1,if_pos e2,if_pos (by rw [hP.disc,hQ.disc])]
 refine ⟨?_,e3⟩
 unfold cmF
 rw [if_pos e3,hP.disc]
theorem cm_no {P Q:F3} {er:Int} (h:cmE P.a P.b P.c Q.a Q.b Q.c=er) (h0:¬ er=0):cmF P.a P.b P.c Q.a Q.b Q.c=F3.zero:=by
 unfold cmF
 rw [if_neg (by rw [h];exact h0)]
 rfl
def e1F:F3:=⟨1,1,6⟩
def e2F:F3:=⟨2,1,3⟩
def e3F:F3:=⟨2,-1,3⟩
theorem e1_gm:Gm (-23) e1F:=zEs (D:=-23) zd zd
theorem e2_gm:Gm (-23) e2F:=⟨⟨by decide,by decide,zM7 (show cont 2 1 3=1 by decide)⟩,⟨by decide,by decide,by decide,by decide,by decide⟩⟩
theorem e3_gm:Gm (-23) e3F:=⟨⟨by decide,by decide,zM7 (show cont 2 (-1) 3=1 by decide)⟩,⟨by decide,by decide,by decide,by decide,by decide⟩⟩
theorem e_sm:Sm e1F∧Sm e2F∧Sm e3F:=⟨⟨by decide,by decide,by decide⟩,⟨by decide,by decide,by decide⟩,⟨by decide,by decide,by decide⟩⟩
theorem e_22:mulF (-23) e2F e2F=e3F:=by
 obtain ⟨c1,c2⟩:=zQ8 (D:=-23) (a:=2) (b:=1) (c:=3) (a':=2) (b':=1) (c':=3) (h:=2) (x:=0) (y:=1) (e:=1) (u:=0) (z:=1) e2_gm.1 e2_gm.1 zd zd zd zd zd zd zd
 have q1:((2:Int)*2/(1*1))=4:=by decide
 have q2:(((0:Int)*0*2*1+0*1*2*1+1*((1*1+-23)/2))/1)=-11:=by decide
 have q3:(((-11:Int)*-11 - -23)/(4*4))=9:=by decide
 rw [q1,q2] at c1 c2
 rw [q3] at c2
 exact zIa zd e2_gm.1 e2_gm.1 ⟨e3_gm.2,⟨4,-11,9⟩,c2,c1,⟨_,_,_,_,und_e22⟩⟩
theorem e_23:mulF (-23) e2F e3F=e1F:=zMz zd zd e2_gm.1
theorem e_33:mulF (-23) e3F e3F=e2F:=by
 have h1:=zE7 (D:=-23) zd e2_gm.1 e2_gm.1 e3_gm.1
 rw [e_22,e_23] at h1
 rw [h1]
 exact zFm zd zd e2_gm
theorem e_11:mulF (-23) e1F e1F=e1F:=zFm zd zd e1_gm
theorem e_ord:Ord (-23) e2F 3:=by
 have p1:pwF (-23) e2F 1=e2F:=zKt zd zd e2_gm
 have p2:pwF (-23) e2F 2=e3F:=by show mulF (-23) (pwF (-23) e2F 1) e2F=e3F;rw [p1,e_22]
 have p3:pwF (-23) e2F 3=e1F:=by show mulF (-23) (pwF (-23) e2F 2) e2F=e1F;rw [p2,zKi zd e3_gm.1 e2_gm.1,e_23]
 have n2:e2F≠onF (-23):=fun e=>by have:=congrArg F3.a e;revert this;decide
 have n3:e3F≠onF (-23):=fun e=>by have:=congrArg F3.a e;revert this;decide
 refine ⟨by decide,p3,fun j h1 h2=>?_⟩
 have:j=1∨j=2:=by omega
 rcases this with rfl | rfl
 ·rw [p1];exact n2
 ·rw [p2];exact n3
theorem e_four:¬ pwF (-23) e2F 4=onF (-23):=fun e=>by
 have:=(e_ord.iff zd zd e2_gm.1 4).1 e
 revert this
 decide
theorem e_inv:pzF (-23) e2F (-1)=e3F:=zKt (D:=-23) (P:=e3F) zd zd e3_gm
theorem e_roots:[e1F,e2F,e3F].filter (rtB (rdF e2F))=[e3F]:=by
 have h2:rdF e2F=e2F:=rdF_gm (D:=-23) zd e2_gm e_sm.2.1
 have r1:rtB e2F e1F=false:=by
  unfold rtB
  rw [show e1F.b*e1F.b-4*(e1F.a*e1F.c)=-23 from rfl,e_11]
  rfl
 have r2:rtB e2F e2F=false:=by
  unfold rtB
  rw [show e2F.b*e2F.b-4*(e2F.a*e2F.c)=-23 from rfl,e_22]
  simp [eqF,e3F,e2F]
 have r3:rtB e2F e3F=true:=by
  unfold rtB
  rw [show e3F.b*e3F.b-4*(e3F.a*e3F.c)=-23 from rfl,e_33,zGl e3_gm.1 zd]
  rfl
 rw [h2]
 simp [List.filter,r1,r2,r3]
theorem kron_2_5:kron 2 5=-1:=by
 unfold kron
 rw [if_neg zd,if_neg zd]
 show 1*kro 2 5=-1
 rw [zMm zd,J_two zd]
 decide
theorem nbits_two:zA9 2=2:=by
 unfold zA9
 rw [if_neg zd]
 decide
theorem least5:Least 5 5:=⟨by decide,by decide,fun q h1 h2=>by (have:q=2∨q=3∨q=4:=by omega);rcases this with rfl | rfl | rfl <;> decide⟩
theorem least3:Least 3 3:=⟨by decide,by decide,fun q h1 h2=>by (have:q=2:=by omega);subst this;decide⟩
theorem ab90 {x:Int} (h:-9223372036854775808≤x) (h':x≤9223372036854775807):ab x<pw 90:=Int.lt_of_lt_of_le (zAo h h') (zAa zm)
theorem exPrime5 {w:World} {v:Value} (hT:Tabs w) (h:Num w v (-23)):Calls Tryz.prog 93 #[v,.int .i64 5] w fun e w'=>∃ v',e=.returned v'∧Below w.heap.size w w'∧(Fq.tup2 (f3 F3.zero.a F3.zero.b F3.zero.c) (Fq.is (.int .i64 6))).P v' w':=
 zT7 (pp:=5) (F:=F3.zero) h (zAo zd zd) zd zd zd zd least5 fun w1 x x' hb hx hx'=>
  zT2 hx hx' (zAo zd zd) (zAo zd zd) (e:=6) (z:=0) zd fun w2 y y' hb2 hy hy'=>
   exMSqrtN hy hy' (ab90 zd zd) (ab90 zd zd) ((hT.mono hb).mono hb2) zd (by show 1<zA9 2;rw [nbits_two];decide) (by show kron 2 5≠1;rw [kron_2_5];decide)
theorem rd312:rdF ⟨3,1,2⟩=e3F:=by
 have s:Sm ⟨3,1,2⟩:=⟨by decide,by decide,by decide⟩
 have hs:Sc (-23) ⟨3,1,2⟩:=⟨by decide,by decide,zM7 (show cont 3 1 2=1 by decide)⟩
 obtain ⟨h1,h2⟩:=zFb zd hs s
 exact zKx (P:=⟨3,1,2⟩) ⟨0,-1,1,0,by decide,by decide,by decide,by decide⟩ h2 e3_gm.2 h1.2
theorem exPrime3 {w:World} {v:Value} (h:Num w v (-23)):Calls Tryz.prog 93 #[v,.int .i64 3] w fun e w'=>∃ v',e=.returned v'∧Below w.heap.size w w'∧(Fq.tup2 (f3 e3F.a e3F.b e3F.c) (Fq.is (.int .i64 0))).P v' w':=by
 have hh:=zT8 (pp:=3) (F:=⟨3,1,2⟩) h (zAo zd zd) zd zd zd zd least3 ⟨by decide,by decide,by decide⟩ zd zd fun w1 x x' hb hx hx'=>
  zT3 (r:=1) hx hx' (zAo zd zd) (zAo zd zd) (zAo zd zd) zd fun w2 y y' hb2 hy hy'=>
   exMSqrtS hy hy' (ab90 zd zd) (ab90 zd zd) zd (by show zA9 1≤1;decide)
 rw [rd312] at hh
 exact hh

section
variable {os : List Oper} {Q : Exit → Act → World → Prop} {a : Act} {p : Pq} {B B0 : Nat} {w0 : World}
variable {i s : Nat} {d : Option Tmp} {ty : TypeId} {ps : String} {af : Array Edge} {gd : Option (Nat × Bool)}
theorem zWq {n0:Nb} {o1:Operand} {f1:List Fd} (hp:p.Ok B B0) (hg:GdQ os a p B B0 w0 af gd) (hi:n0∈p.new) (hii:n0.i=i) (hki:n0.k=i) (hsl:n0.s=some 1) (hm:n0.m=6) (hF1:n0.F1=Fq.st f1) (l1:sz f1=6)
  (g1:SrcQ os a p B B0 w0 af o1 (Fq.st f1).P)
  (hC:∀ v w',(p.c i).P v w') (h1:∀ o∈p.old,o.k≠i) (h2:∀ n∈p.new,n.i≠i→n.k≠i) :
  zAg os Q a p B B0 w0 i { dst:=d,op:=.buildSlice 54 1 #[(0,o1)],type:=ty,pos:=ps,after:=af,guard:=gd }:=by
 intro hio L vs w hG hL hd hc
 obtain ⟨us1,E1,z1⟩:=g1 L vs w hG hd
 have y1:=z1.length
 rw [l1] at y1
 obtain ⟨c1a,c1b,c1c,c1d,c1e,c1f,rfl⟩:=sixQ y1
 obtain ⟨us,hus⟩:∃ us:List Value,us=[c1a,c1b,c1c,c1d,c1e,c1f]:=⟨_,rfl⟩
 refine wpOp_step hio fun K' hK=>?_
 rw [if_pos (zGp (o:={ dst:=d,op:=.buildSlice 54 1 #[(0,o1)],type:=ty,pos:=ps,after:=af,guard:=gd }) hg hG hd)]
 have e:(execOp (lay os.toArray L vs os.toArray.size a).eval ({ dst:=d,op:=.buildSlice 54 1 #[(0,o1)],type:=ty,pos:=ps,after:=af,guard:=gd }:Oper)).run Tryz.prog w=.ok (.value (.slice (some ⟨w.heap.size,0,none⟩) 1 1)) (w.alloc (.cells us.toArray 38)):=by
  generalize (lay os.toArray L vs os.toArray.size a).eval=ρ at E1
  simp [execOp,go_sem,E1,hus]
 unfold Oper.wp
 rw [e]
 have hb:=zAh w (.cells us.toArray 38)
 have hfit:Fits w f1 us:=by rw [hus];exact z1
 subst hii
 have hnow:n0.now (up L n0.i true)=n0.F1:=by
  unfold Nb.now
  rw [hsl]
  rfl
 have hlay:=hG.lay hp hi (F:=n0.F1) hnow hC h1 h2 38 (us:=us) (by rw [hus,hm];rfl) zm hfit.tame (by rw [hF1];exact ⟨us,rfl,hfit.mono hb⟩)
 have hptr:n0.ptr w.heap.size=.slice (some ⟨w.heap.size,0,none⟩) 1 1:=by unfold Nb.ptr;rw [hsl]
 rw [hptr] at hlay
 exact hK _ _ ⟨_,rfl,hlay⟩
end
def eDF:F3:=⟨1,0,1⟩
def ePF:F3:=⟨2,0,2⟩
theorem e_all:∀ Q ∈ [e1F,e2F,e3F],Sm Q:=by
 intro Q hQ
 simp at hQ
 rcases hQ with rfl | rfl | rfl
 ·exact e_sm.1
 ·exact e_sm.2.1
 ·exact e_sm.2.2
theorem exRoots23 {w:World} {v vl:Value} (h:(f3 e2F.a e2F.b e2F.c).P v w) (hl:Fl w vl [e1F,e2F,e3F]):Calls Tryz.prog 21 #[v,vl] w fun e w'=>∃ v1 B,e=.returned (.tuple #[v1,.int .i64 0])∧Below w.heap.size w w'∧w.heap.size≤B∧Ls 38 6 w' B v1 (([e1F,e2F,e3F].filter (rtB (rdF e2F))).map frF):=
 zUc h e_sm.2.1 e2_gm.1 zd hl zd e_all
theorem e_odd:cmE e2F.a e2F.b e2F.c eDF.a eDF.b eDF.c=5:=by decide
theorem e_prim:cmE ePF.a ePF.b ePF.c e2F.a e2F.b e2F.c=80:=by decide
theorem zUh (w:World) (hT:Tabs w) :
  Rt 9 #[] w fun v' w'=>v'=.bool true:=by
 have HT:=hidd hT
 obtain ⟨i0,hi,hz0,hz1,hz2⟩:=info_parts zMk
 clear hi hz0 hz1 hz2 i0
 go_enter Tryz.func9,Tryz.ntmps9
 go_upto_region 1 with (fail)
 have E:=Fr.start w
 refine rz [.w (f3 e1F.a e1F.b e1F.c),.w (f3 e2F.a e2F.b e2F.c),.w (f3 e3F.a e3F.b e3F.c),.k,.k,.k,.a,.a,.a] [] [⟨3,6,6,f3 0 0 0,f3 e1F.a e1F.b e1F.c,none⟩,⟨4,7,6,f3 0 0 0,f3 e2F.a e2F.b e2F.c,none⟩,⟨5,8,6,f3 0 0 0,f3 e3F.a e3F.b e3F.c,none⟩] E (fun hp=>⟨zEx (F:=(Fq.is (.int .i64 1)).P) (G:=(Fq.is (.int .i64 1)).P) (F3:=(Fq.is (.int .i64 6)).P) hp fo tv (zGv) (zAk (fun _=>rfl)) (zAk (fun _=>rfl)) (zAk (fun _=>rfl)) (fun v v' u w h h' g=>(by subst h h' g;exact zG3 zd zd zd)),zEx (F:=(Fq.is (.int .i64 2)).P) (G:=(Fq.is (.int .i64 1)).P) (F3:=(Fq.is (.int .i64 3)).P) hp fo tv (zGv) (zAk (fun _=>rfl)) (zAk (fun _=>rfl)) (zAk (fun _=>rfl)) (fun v v' u w h h' g=>(by subst h h' g;exact zG3 zd zd zd)),zEx (F:=(Fq.is (.int .i64 2)).P) (G:=(Fq.is (.int .i64 (-1))).P) (F3:=(Fq.is (.int .i64 3)).P) hp fo tv (zGv) (zAk (fun _=>rfl)) (zAk (fun _=>rfl)) (zAk (fun _=>rfl)) (fun v v' u w h h' g=>(by subst h h' g;exact zG3 zd zd zd)),aS hp (mq 0 rfl) zAp zBp,aS hp (mq 1 rfl) zAp zBp,aS hp (mq 2 rfl) zAp zBp,sS 0 hp (mq 0 rfl) zAj,sS 1 hp (mq 1 rfl) zAj,sS 2 hp (mq 2 rfl) zAj,tv⟩) ?_
 intro w1 b1_3 b1_4 b1_5 E _ _
 simp only [Z1] at E ⊢
 go_upto_region 2 with (fail)
 refine rz [.w (f3 e2F.a e2F.b e2F.c),.w (Fq.tup2 (Fq.is (.int .i64 ((3:Nat):Int))) (Fq.is (.int .i64 0))),.w (Fq.tup2 (Fq.is (.int .i64 ((3:Nat):Int))) (Fq.is (.int .i64 0))),.i ((3:Nat):Int),.i 0,.i ((3:Nat):Int),.i 0] N3 [] E (fun hp=>⟨lS 0 6 hp (mq 1 rfl) zAd zw,zDo (F:=(f3 e2F.a e2F.b e2F.c).P) (G:=(Fq.is (.int .i64 6)).P) hp fo tv (zOz) (sqi 0) (zAk (fun _=>rfl)) (fun v v' w h h'=>(by subst h';exact zT1 (hh:=6) (o:=3) h e_sm.2.1 e2_gm.1 (GC.of zd zd) zd zd e_ord zd)),zS,zS,zS,zS,zS,tv⟩) ?_
 intro w2 E _ _
 simp only [Z1] at E ⊢
 go_upto_region 3 with (fail)
 refine rz [.w (f3 e2F.a e2F.b e2F.c),.w (Fq.tup2 (Fq.is (.int .i64 0)) (Fq.is (.int .i64 1))),.w (Fq.tup2 (Fq.is (.int .i64 0)) (Fq.is (.int .i64 1))),.i 0,.i 1,.i 0,.i 1] N3 [] E (fun hp=>⟨lS 0 6 hp (mq 1 rfl) zAd zw,zDo (F:=(f3 e2F.a e2F.b e2F.c).P) (G:=(Fq.is (.int .i64 4)).P) hp fo tv (zOz) (sqi 0) (zAk (fun _=>rfl)) (fun v v' w h h'=>(by subst h';exact zT0 (hh:=4) h e_sm.2.1 e2_gm.1 (GC.of zd zd) zd zd e_four)),zS,zS,zS,zS,zS,tv⟩) ?_
 intro w3 E _ _
 simp only [Z1] at E ⊢
 go_upto_region 4 with (fail)
 refine wp_region_list ?_
 refine zFe rfl 38 (.tmp 2) rfl zAd rfl rfl (StAt.of_boxQ (E.box 1 rfl)) fun v0 hv0=>?_
 obtain ⟨es0,rfl,hf0⟩:=hv0
 have hl0:=hf0.length
 obtain ⟨p0a,p0b,p0c,p0d,p0e,p0f,rfl⟩:=sixQ hl0
 clear hl0
 refine zFe rfl 38 (.tmp 1) rfl zAd rfl rfl (StAt.of_boxQ (E.box 0 rfl)) fun v1 hv1=>?_
 obtain ⟨es1,rfl,hf1⟩:=hv1
 have hl1:=hf1.length
 obtain ⟨p1a,p1b,p1c,p1d,p1e,p1f,rfl⟩:=sixQ hl1
 clear hl1
 refine zFe rfl 38 (.tmp 2) rfl zAd rfl rfl (StAt.of_boxQ (E.box 1 rfl)) fun v2 hv2=>?_
 obtain ⟨es2,rfl,hf2⟩:=hv2
 have hl2:=hf2.length
 obtain ⟨p2a,p2b,p2c,p2d,p2e,p2f,rfl⟩:=sixQ hl2
 clear hl2
 refine zFe rfl 38 (.tmp 3) rfl zAd rfl rfl (StAt.of_boxQ (E.box 2 rfl)) fun v3 hv3=>?_
 obtain ⟨es3,rfl,hf3⟩:=hv3
 have hl3:=hf3.length
 obtain ⟨p3a,p3b,p3c,p3d,p3e,p3f,rfl⟩:=sixQ hl3
 clear hl3
 have hf5:Fits w3 (rowQ [e1F,e2F,e3F]) [p1a,p1b,p1c,p1d,p1e,p1f,p2a,p2b,p2c,p2d,p2e,p2f,p3a,p3b,p3c,p3d,p3e,p3f]:=hf1.append (hf2.append hf3)
 have HFV:Hid ((f3 e2F.a e2F.b e2F.c).P (.agg #[p0a,p0b,p0c,p0d,p0e,p0f]) w3):=⟨_,rfl,hf0⟩
 have HF5:=hidd hf5
 clear hf0 hf1 hf2 hf3 hf5
 go_upto_region 5 with (first | (go_at_call 21;(with_reducible refine (exRoots23 ((Fq.st _).mono HFV.out (zAh _ _)) (Fl.built (n:=3) (Ps:=[e1F,e2F,e3F]) rfl HF5.out zd)).mono ?_);rintro e w9 ⟨vL,BL,rfl,hBW,hBs,hLs⟩) | fail)
 have hfl:=hLs.fl
 rw [e_roots] at hfl
 have HFL:=hidd hfl
 have EE:=E.mono ((zAh _ _).trans (hBW.mono (zAh _ _).size))
 clear hLs hfl hBs hBW HFV HF5 E
 have HO1:Hid (∀ w1,Below w9.heap.size w9 w1→StAt w1 b1_3 0 [.n e1F.a,.n e1F.b,.n e1F.c]):=fun w1 hb1=>(EE.box 0 rfl).stAt hb1
 have HO2:Hid (∀ w1,Below w9.heap.size w9 w1→StAt w1 b1_4 0 [.n e2F.a,.n e2F.b,.n e2F.c]):=fun w1 hb1=>(EE.box 1 rfl).stAt hb1
 have HO3:Hid (∀ w1,Below w9.heap.size w9 w1→StAt w1 b1_5 0 [.n e3F.a,.n e3F.b,.n e3F.c]):=fun w1 hb1=>(EE.box 2 rfl).stAt hb1
 have HB0:=hidd EE.below
 have HT9:=hidd (HT.out.mono EE.below)
 clear HT EE
 have HT:=HT9
 clear HT9
 have E:=Fr.start w9
 refine rz [.n (-23),.w (Fq.st [.n F3.zero.a,.n F3.zero.b,.n F3.zero.c,.v (.int .i64 6)]),.k,.a] [] [⟨2,3,7,Fq.st [.n 0,.n 0,.n 0,.v (.int .i64 0)],Fq.st [.n F3.zero.a,.n F3.zero.b,.n F3.zero.c,.v (.int .i64 6)],none⟩] E (fun hp=>⟨zBo (F:=(Fq.is (.int .i64 (-23))).P) hp fo tv (zDl) (zAk (fun _=>rfl)) (fun v w h=>(by subst h;exact rOfK w (-23) zm zm)),zD2 (F:=(Fq.num (-23)).P) (G:=(Fq.is (.int .i64 5)).P) hp fo tv (zOv) rfl (sqi 0) (zAk (fun _=>rfl)) (fun v v' w hbw h h'=>(by subst h';exact zPk h fun w1 x hb1 hx=>exPrime5 ((HT.out.mono hbw).mono hb1) hx)),aS hp (mq 0 rfl) zDx zFs,sS 1 hp (mq 0 rfl) zEk,tv⟩) ?_
 intro w4 b4_2 E _ _
 simp only [Z1] at E ⊢
 go_upto_region 6 with (fail)
 refine rz [.w (f3 e2F.a e2F.b e2F.c),.w (f3 eDF.a eDF.b eDF.c),.w (Fq.st [.n F3.zero.a,.n F3.zero.b,.n F3.zero.c,.v (.int .i64 5)]),.k,.a] [none] [⟨3,4,7,Fq.st [.n 0,.n 0,.n 0,.v (.int .i64 0)],Fq.st [.n F3.zero.a,.n F3.zero.b,.n F3.zero.c,.v (.int .i64 5)],none⟩] E (fun hp=>⟨zCh (off:=0) (l:=6) (fs:=[.n e2F.a,.n e2F.b,.n e2F.c]) hp fo tv HO2.out zAd rfl (sqo 2) (fun v w h=>h),zEx (F:=(Fq.is (.int .i64 1)).P) (G:=(Fq.is (.int .i64 0)).P) (F3:=(Fq.is (.int .i64 1)).P) hp fo tv (zGv) (zAk (fun _=>rfl)) (zAk (fun _=>rfl)) (zAk (fun _=>rfl)) (fun v v' u w h h' g=>(by subst h h' g;exact zG3 zd zd zd)),zC hp zDu zi zi fun v v' w h h'=>zHz h h' e_sm.2.1 ⟨by decide,by decide,by decide⟩ (cm_no e_odd zd) e_odd,aS hp (mq 0 rfl) zDx zFs,sS 2 hp (mq 0 rfl) zEk,tv⟩) ?_
 intro w5 b5_3 E _ _
 simp only [Z1] at E ⊢
 go_upto_region 7 with (fail)
 refine rz [.i 0,.o,.o,.i ((3:Nat):Int),.o,.o,.o,.i 1,.o,.o,.o,.i 0,.o,.o,.o,.p b4_2 6,.i 6,.o,.o,.o,.p b5_3 6,.i 5,.o,.o,.o,.w (f3 ePF.a ePF.b ePF.c),.w (f3 e2F.a e2F.b e2F.c),.w (Fq.st [.n F3.zero.a,.n F3.zero.b,.n F3.zero.c,.v (.int .i64 80)]),.i 80,.o,.o] N2 [] E (fun hp=>⟨zS,zo hp (sqi 0),zS,zAq hp fo gqi (sqo 4),zo hp (sqi 3),zt hp (sqi 2) (sqi 4),zS,zAq hp fo gqi (sqo 7),zo hp (sqi 7),zt hp (sqi 6) (sqi 8),zS,zAq hp fo gqi (sqo 9),zo hp (sqi 11),zt hp (sqi 10) (sqi 12),zS,zg b4_2 0 6 hp zw,zHd (off:=6) (fs:=[.n F3.zero.a,.n F3.zero.b,.n F3.zero.c,.v (.int .i64 6)]) (u:=.int .i64 6) hp fo gqi (mq 1 rfl) (.inl rfl) rfl rfl (fun ρ w b h1 h2=>by simp [execOp,go_sem,h1,h2]) (sqi 15) (fun _=>rfl),zo hp (sqi 16),zt hp (sqi 14) (sqi 17),zS,zg b5_3 0 6 hp zw,zHd (off:=6) (fs:=[.n F3.zero.a,.n F3.zero.b,.n F3.zero.c,.v (.int .i64 5)]) (u:=.int .i64 5) hp fo gqi (mq 0 rfl) (.inl rfl) rfl rfl (fun ρ w b h1 h2=>by simp [execOp,go_sem,h1,h2]) (sqi 20) (fun _=>rfl),zo hp (sqi 21),zt hp (sqi 19) (sqi 22),zS,zEx (F:=(Fq.is (.int .i64 2)).P) (G:=(Fq.is (.int .i64 0)).P) (F3:=(Fq.is (.int .i64 2)).P) hp fo gqi (zGv) (zAk (fun _=>rfl)) (zAk (fun _=>rfl)) (zAk (fun _=>rfl)) (fun v v' u w h h' g=>(by subst h h' g;exact zG3 zd zd zd)),zCh (off:=0) (l:=6) (fs:=[.n e2F.a,.n e2F.b,.n e2F.c]) hp fo gqi HO2.out zAd rfl (sqo 2) (fun v w h=>h),zC hp zDu zi zi (fun v v' w h h'=>zHz h h' ⟨by decide,by decide,by decide⟩ e_sm.2.1 (cm_no e_prim zd) e_prim),q_gotErr (a0:=F3.zero.a) (b0:=F3.zero.b) (c0:=F3.zero.c) (e0:=80) hp fo gqi (sqi 27) (fun _=>rfl),zo hp (sqi 28),zt hp (sqi 24) (sqi 29),tv⟩) ?_
 intro w6 E _ _
 simp only [Z1] at E ⊢
 go_upto_region 9 with (fail)
 refine rz [.w (f3 e2F.a e2F.b e2F.c),.w (f3 e2F.a e2F.b e2F.c),.w (Fq.st [.n e3F.a,.n e3F.b,.n e3F.c,.v (.int .i64 0)]),.w (f3 e3F.a e3F.b e3F.c),.t,.t,.w (f3 e2F.a e2F.b e2F.c),.w (f3 e3F.a e3F.b e3F.c),.w (Fq.st [.n e1F.a,.n e1F.b,.n e1F.c,.v (.int .i64 0)]),.w (f3 e1F.a e1F.b e1F.c),.t,.t,.t,.w (f3 e2F.a e2F.b e2F.c),.n (-1),.w (Fq.st [.n e3F.a,.n e3F.b,.n e3F.c,.v (.int .i64 0)]),.w (f3 e3F.a e3F.b e3F.c),.t,.t,.t,.n (-23),.w (Fq.st [.n e3F.a,.n e3F.b,.n e3F.c,.v (.int .i64 0)]),.w (f3 e3F.a e3F.b e3F.c),.t,.t,.t,.u (vL),.w (f3 e3F.a e3F.b e3F.c),.k,.t,.t,.t] N2 [⟨28,28,6,f3 e3F.a e3F.b e3F.c,f3 e3F.a e3F.b e3F.c,(some 1)⟩] E (fun hp=>⟨zCh (off:=0) (l:=6) (fs:=[.n e2F.a,.n e2F.b,.n e2F.c]) hp fo tv HO2.out zAd rfl (sqo 2) (fun v w h=>h),zCh (off:=0) (l:=6) (fs:=[.n e2F.a,.n e2F.b,.n e2F.c]) hp fo tv HO2.out zAd rfl (sqo 2) (fun v w h=>h),zC hp zDu zi zi fun v v' w h h'=>zHz h h' e_sm.2.1 e_sm.2.1 ((zGt zd e2_gm.1 e2_gm.1).1.trans e_22) (zGt zd e2_gm.1 e2_gm.1).2,zCh (off:=0) (l:=6) (fs:=[.n e3F.a,.n e3F.b,.n e3F.c]) hp fo tv HO3.out zAd rfl (sqo 3) (fun v w h=>h),zC hp zF6 zi zi fun v v' w h h'=>zGb h h' zd,zS,zCh (off:=0) (l:=6) (fs:=[.n e2F.a,.n e2F.b,.n e2F.c]) hp fo gqi HO2.out zAd rfl (sqo 2) (fun v w h=>h),zCh (off:=0) (l:=6) (fs:=[.n e3F.a,.n e3F.b,.n e3F.c]) hp fo gqi HO3.out zAd rfl (sqo 3) (fun v w h=>h),zC hp zDu zi zi (fun v v' w h h'=>zHz h h' e_sm.2.1 e_sm.2.2 ((zGt zd e2_gm.1 e3_gm.1).1.trans e_23) (zGt zd e2_gm.1 e3_gm.1).2),zCh (off:=0) (l:=6) (fs:=[.n e1F.a,.n e1F.b,.n e1F.c]) hp fo gqi HO1.out zAd rfl (sqo 1) (fun v w h=>h),zC hp zF6 zi zi (fun v v' w h h'=>zGb h h' zd),zt hp (sqi 5) (sqi 10),zS,zCh (off:=0) (l:=6) (fs:=[.n e2F.a,.n e2F.b,.n e2F.c]) hp fo gqi HO2.out zAd rfl (sqo 2) (fun v w h=>h),zBo (F:=(Fq.is (.int .i64 (-1))).P) hp fo gqi (zDl) (zAk (fun _=>rfl)) (fun v w h=>(by subst h;exact rOfK w (-1) zm zm)),zC hp zTc zi zi (fun v v' w h h'=>(by have hh9:=zUe (GC.of (D:=-23) zd zd) e2_gm.1 (zAo zd zd |> fun h9=>Int.lt_of_lt_of_le h9 (zAa zm)) e_sm.2.1 h h';rw [e_inv] at hh9;exact hh9)),zCh (off:=0) (l:=6) (fs:=[.n e3F.a,.n e3F.b,.n e3F.c]) hp fo gqi HO3.out zAd rfl (sqo 3) (fun v w h=>h),zC hp zF6 zi zi (fun v v' w h h'=>zGb h h' zd),zt hp (sqi 12) (sqi 17),zS,zBo (F:=(Fq.is (.int .i64 (-23))).P) hp fo gqi (zDl) (zAk (fun _=>rfl)) (fun v w h=>(by subst h;exact rOfK w (-23) zm zm)),zD2 (F:=(Fq.num (-23)).P) (G:=(Fq.is (.int .i64 3)).P) hp fo gqi (zOv) rfl (sqi 20) (zAk (fun _=>rfl)) (fun v v' w hbw h h'=>(by subst h';exact zPk h fun w1 x hb1 hx=>exPrime3 hx)),zCh (off:=0) (l:=6) (fs:=[.n e3F.a,.n e3F.b,.n e3F.c]) hp fo gqi HO3.out zAd rfl (sqo 3) (fun v w h=>h),zC hp zF6 zi zi (fun v v' w h h'=>zGb h h' zd),zt hp (sqi 19) (sqi 23),zS,zAq hp fo gqi (sqo 8),zCh (off:=0) (l:=6) (fs:=[.n e3F.a,.n e3F.b,.n e3F.c]) hp fo gqi HO3.out zAd rfl (sqo 3) (fun v w h=>h),zWq (f1:=[.n e3F.a,.n e3F.b,.n e3F.c]) hp gqi (mq 0 rfl) rfl rfl rfl rfl rfl rfl (sqi 27) (fun _ _=>trivial) (zCu rfl) (zD0 rfl),q_callWSl (F:=(Fq.is (vL)).P) hp fo gqi zTe rfl (mq 0 rfl) rfl (sqi 26) (zEt rfl rfl (by simp) rfl) (fun v bx w hbw h hbx=>(by subst h;exact zTp (HFL.out.mono hbw) (Fl.ofBox (Ps:=[e3F]) rfl hbx) zd)),zt hp (sqi 25) (sqi 29),zS,tv⟩) ?_
 intro w7 b7_28 E _ _
 simp only [Z1] at E ⊢
 clear HO1 HO2 HO3 HFL HT
 have hB:=HB0.out.trans (E.below.mono HB0.out.size)
 clear HB0
 go_wp2
 refine bodyPost_ret (v:=.bool true) ?_ rfl (by first | exact ⟨_,rfl,hB,rfl⟩ | exact ⟨hB,rfl⟩ | exact ⟨rfl,hB⟩ | exact hB)
 simp [results,Tryz.results9,go_sem]

theorem lift5 {x:Int} (h:ab x<pw 3):ab x<pw 5:=Int.lt_of_lt_of_le h (zAa zm)
theorem MOk.b5 {n:Int} {P:F3} (h:MOk n P):ab P.a<pw 5∧ab P.b<pw 5∧ab P.c<pw 5:=⟨lift5 h.2.2.1.1,lift5 h.2.2.1.2.1,lift5 h.2.2.1.2.2⟩
theorem zMu {n i m:Int} (h0:3≤n) (h1:n≤2004) (h4:n % 4=0∨n % 4=3):Sc (-n) (zCs n i m)∧Sm (zCs n i m):=by
 obtain ⟨j,_,_,hj⟩:=zIl i h0 h1 h4
 have hg:Gm (-n) (zCl n i):=(listF_all h0 h1).1 (List.mem_of_getElem? hj)
 have ok:=zKh (i:=i) (m:=m) h0 h1 h4
 refine ⟨?_,zFh (by have:=ok.2.2.2.1;omega),zFh (by have:=ok.2.2.2.2.1;omega),zFh (by have:=ok.2.2.2.2.2;omega)⟩
 unfold zCs
 split
 ·exact hg.1
 ·exact Eqv.sc (P:=zCl n i) zm ⟨_,_,_,_,by omega,rfl,rfl,rfl⟩ hg.1
theorem zSe {n:Int} {P:F3} (h:MOk n P) {s t:Int} (t1:s.natAbs≤4) (t2:t.natAbs≤4) (t3:(s*t-1).natAbs≤17):Sm ⟨qv P.a P.b P.c s 1,qm P.a P.b P.c s (s*t-1) 1 t,qv P.a P.b P.c (s*t-1) t⟩∧Eqv P ⟨qv P.a P.b P.c s 1,qm P.a P.b P.c s (s*t-1) 1 t,qv P.a P.b P.c (s*t-1) t⟩:=by
 obtain ⟨hre,hd,_,b1,b2,b3⟩:=h
 have hdet:s*t-(s*t-1)*1=1:=by omega
 have qb:∀ x y:Int,x.natAbs≤17→y.natAbs≤17→(qv P.a P.b P.c x y).natAbs≤1000000000000000:=by
  intro x y hx hy
  have m1:=zBs b1 (zBs hx hx)
  have m2:=zBs b2 (zBs hx hy)
  have m3:=zBs b3 (zBs hy hy)
  unfold qv
  omega
 have qc:(qm P.a P.b P.c s (s*t-1) 1 t).natAbs≤1000000000000000:=by
  have u1:(1:Int).natAbs≤17:=by decide
  have m1:=zBs b1 (zBs (show s.natAbs≤17 by omega) t3)
  have m2:=zBs b3 (zBs u1 (show t.natAbs≤17 by omega))
  have m3:=zBs (show s.natAbs≤17 by omega) (show t.natAbs≤17 by omega)
  have m4:=zBs t3 u1
  have m5:=zBs b2 (show (s*t+(s*t-1)*1).natAbs≤17*17+17*17 by omega)
  unfold qm
  omega
 have up:∀ {x:Int},x.natAbs≤1000000000000000→ab x<pw 2:=fun h=>zFh zm
 exact ⟨⟨up (qb _ _ zm zd),up qc,up (qb _ _ t3 zm)⟩,_,_,_,_,hdet,rfl,rfl,rfl⟩
theorem exQMade2 {w:World} {v:Value} {D i0 i1 i2 i3 m0 m1 m2 m3:Int} (h:(Fq.st [.v (.int .u16 D),.v (.int .u16 i0),.v (.int .u16 i1),.v (.int .u16 i2),.v (.int .u16 i3),.v (.int .u8 m0),.v (.int .u8 m1),.v (.int .u8 m2),.v (.int .u8 m3)]).P v w) (hD:0≤D∧D≤65535) (hi:0≤i2∧i2≤65535) (hm:0≤m2∧m2≤255) {n:Int} (hn:zBz D=n) {P:F3} (hP:zCs n i2 m2=P) :
  Rt 10 #[v,.int .i64 2] w fun v' w'=>(f3 P.a P.b P.c).P v' w':=by
 have hsz:=zIu D
 rw [hn] at hsz
 obtain ⟨j,hj,hQj,hPj⟩:=zIl i2 zm zm hsz.2.2
 have hFo:=(zH8 _ (List.mem_of_getElem? hPj)).bds hsz.2.1
 obtain ⟨F,hF⟩:∃ F,F=zCl n i2:=⟨_,rfl⟩
 rw [← hF] at hPj hFo
 obtain ⟨ps,hps⟩:∃ ps,ps=zCg n:=⟨_,rfl⟩
 rw [← hps] at hj hQj hPj
 obtain ⟨nl,hnl⟩:∃ nl,nl=ps.length:=⟨_,rfl⟩
 rw [← hnl] at hj hQj
 have BF:Hid (ab F.a<pw 3∧ab F.b<pw 3∧ab F.c<pw 3):=⟨zC7 zm,zC7 zm,zC7 zm⟩
 have HSZ:=hidd hsz
 have HNE:=hidd hn
 have HFE:=hidd hF
 have HPS:=hidd hps
 have HNL:=hidd hnl
 have HJ:=hidd hj
 have HPJ:=hidd hPj
 have HDD:=hidd hD
 have HMM:=hidd hm
 have HPE:=hidd hP
 have I16:Hid (IntKind.i64.wrap i2=i2):=IntWalk.i64_in _ zm
 have HLN:Hid (¬ nl=0):=by show ¬ _;omega
 have HTJ:Hid (Int.tmod i2 (nl:Int)=(j:Int)):=by show _=_;rw [Int.tmod_eq_emod_of_nonneg zm,hQj]
 obtain ⟨r,hr⟩:∃ r,r=m2 % 4:=⟨_,rfl⟩
 have C4:Hid (Int.tmod m2 4=r):=by show _=_;rw [Int.tmod_eq_emod_of_nonneg zm,hr]
 have HR:=hidd hr
 obtain ⟨s,es⟩:∃ s,s=m2 % 8-3:=⟨_,rfl⟩
 obtain ⟨t,et⟩:∃ t,t=m2/8 % 8-4:=⟨_,rfl⟩
 have htb:=zHh es et
 have Bs:Hid (ab s<pw 3):=zC6 zm
 have Bt:Hid (ab t<pw 3):=zC6 zm
 have Bu:Hid (ab (s*t-1)<pw 3):=zC6 zm
 have Es:=hidd es
 have Et:=hidd et
 clear hsz hj hQj hPj hFo hF hps hnl hr htb es et hD hi hm hn hP
 obtain ⟨_,rfl,hf0⟩:=h
 have hF0:=hf0
 obtain ⟨_,rfl,_,_,rfl,_,_,rfl,_,_,rfl,_,_,rfl,_,_,rfl,_,_,rfl,_,_,rfl,_,_,rfl,_,rfl⟩:=hf0
 obtain ⟨w1,b1,hw1,hb1,hs1,E⟩:=gS w 26 hF0
 obtain ⟨w2,b2,hw2,hb2,hs2,E⟩:=fO E hs1 38 zAp
 go_enter Tryz.func10,Tryz.ntmps10
 go_upto_region 1 with (fail)
 rw [← hw1,← hw2]
 rw [← hb2,← hb1]
 clear hw1 hw2 hb1 hb2 hs2 hs1
 refine wp_region_list ?_
 refine zFe rfl 26 (.tmp 2) rfl zHe rfl rfl (StAt.of_boxQ (E.box 1 rfl)) fun vc hvc=>?_
 go_upto_region 2 with (first | (go_at_call 39;(with_reducible refine (zMf hvc HDD.out HNE.out).mono ?_);rintro e w8 ⟨v8,rfl,hB8,rfl⟩) | (go_at_call 44;(with_reducible refine (zMc HSZ.out.1 HSZ.out.2.1).mono ?_);rintro e w9 ⟨vL,rfl,hB9,hLs⟩;obtain ⟨gg,cp,rfl,hgg,hbox⟩:=hLs.box6 (by rw [← HPS.out];have:=HJ.out;have:=HNL.out;omega)) | fail)
 rw [← HPS.out,← HNL.out] at hbox
 first | rw [← HPS.out,← HNL.out] | skip
 replace E:=Fr.addQ E (hB8.trans (hB9.mono hB8.size)) (Nat.le_trans hB8.size hgg) hbox
 clear hvc hB8 hB9 hLs hgg hbox
 refine rz [.u (.slice (some ⟨gg,0,none⟩) nl cp),.i 2,.i 2,.p b1 1,.p b1 3,.u (.int .u16 i2),.i i2,.u (.slice (some ⟨gg,0,none⟩) nl cp),.i ((nl:Nat):Int),.i (j:Int),.u (.pointer (some ⟨gg,j*6,none⟩)),.w (f3 F.a F.b F.c),.k,.a] N3 [⟨12,13,6,f3 0 0 0,f3 F.a F.b F.c,none⟩] E (fun hp=>⟨zS,zS,zo hp (sqi 1),qa b1 0 1 hp zw,zAu (F:=fun v _=>v=.pointer (some ⟨b1,1,none⟩)) (G:=fun v _=>v=.int .i64 2) hp fo tv (sqi 3) (sqi 2) (fun ρ w hc h h'=>⟨.pointer (some ⟨b1,3,none⟩),by simp [execOp,go_sem,h,h'],rfl⟩),wXc 3 hp (mq 2 rfl) zi,zO hp (sqi 5) I16.out,zS,zHc hp fo tv (sqi 7) (fun _=>rfl),zT hp (sqi 6) (sqi 8) (And.intro HLN.out HTJ.out),zHb (b:=gg) (l:=nl) (c:=cp) (k:=j) hp fo tv (sqi 0) (sqi 9) HJ.out (fun _=>rfl),zCm (off:=j*6) (l:=6) (fs:=rowQ ps) (gs:=[.n F.a,.n F.b,.n F.c]) hp fo tv (mq 0 rfl) (.inl rfl) rfl zAd (zKz HPJ.out) (sqi 10) (fun v w h=>h),aS hp (mq 0 rfl) zAp zBp,sS 11 hp (mq 0 rfl) zAj,tv⟩) ?_
 intro w3 b3_12 E _ _
 simp only [Z1] at E ⊢
 clear I16 HLN HTJ HJ HPJ HNL HPS HNE HSZ HDD
 go_upto_region 3 with (fail)
 by_cases hz:r=0
 ·have T6:=hidd hz
  have hQ:F=P:=by rw [HFE.out,← HPE.out];unfold zCs;rw [if_pos (HR.out.symm.trans hz)]
  have HQ:=hidd hQ
  clear hz hQ
  refine rz [.i 2,.i 2,.p b1 5,.p b1 7,.u (.int .u8 m2),.u (.int .u8 r),.t] N4 [] E (fun hp=>⟨zS,zo hp (sqi 0),qa b1 0 5 hp zw,zAu (F:=fun v _=>v=.pointer (some ⟨b1,5,none⟩)) (G:=fun v _=>v=.int .i64 2) hp fo tv (sqi 2) (sqi 1) (fun ρ w hc h h'=>⟨.pointer (some ⟨b1,7,none⟩),by simp [execOp,go_sem,h,h'],rfl⟩),wXc 7 hp (mq 3 rfl) zi,zO hp (sqi 4) C4.out,zO hp (sqi 5) T6.out,tv⟩) ?_
  intro w4 E _ _
  simp only [Z1] at E ⊢
  go_upto_region 4 with (fail)
  refine rz [.w (f3 F.a F.b F.c),.a] [none,none,some (1,f3 F.a F.b F.c),none] [] E (fun hp=>⟨lS 0 6 hp (mq 0 rfl) zAd zw,sO 0 0 hp (mq 2 rfl) zAj zw,tv⟩) ?_
  intro w5 E _ _
  simp only [Z1] at E ⊢
  obtain ⟨_,_,hccr,hffr⟩:=zAw (E.box 2 rfl)
  have hPr:=hffr
  obtain ⟨r_p0,r_q0,_,rfl,_r_n0,r_p1,r_q1,_,rfl,_r_n1,r_p2,r_q2,_,rfl,_r_n2,rfl⟩:=hffr
  have crz:=c6 hccr
  simp only [List.getD_cons_zero,List.getD_cons_succ] at crz
  clear hccr
  have hQ:=HQ.out
  clear T6 HQ C4 HR HFE HMM HPE Es Et
  rw [hQ] at hPr
  clear BF Bs Bt Bu
  go_wp2
  exact zR (v:=.agg #[r_p0,r_q0,r_p1,r_q1,r_p2,r_q2]) (by simp [results,Tryz.results10,go_sem,crz]) E.below ⟨_,rfl,hPr⟩
 ·have T6:=hidd hz
  have hQ:P=⟨qv F.a F.b F.c s 1,qm F.a F.b F.c s (s*t-1) 1 t,qv F.a F.b F.c (s*t-1) t⟩:=by rw [← HPE.out];unfold zCs;rw [if_neg (fun e=>hz (HR.out.trans e)),← HFE.out,← Es.out,← Et.out]
  have HQ:=hidd hQ
  clear hz hQ
  refine rz [.i 2,.i 2,.p b1 5,.p b1 7,.u (.int .u8 m2),.u (.int .u8 r),.o] N4 [] E (fun hp=>⟨zS,zo hp (sqi 0),qa b1 0 5 hp zw,zAu (F:=fun v _=>v=.pointer (some ⟨b1,5,none⟩)) (G:=fun v _=>v=.int .i64 2) hp fo tv (sqi 2) (sqi 1) (fun ρ w hc h h'=>⟨.pointer (some ⟨b1,7,none⟩),by simp [execOp,go_sem,h,h'],rfl⟩),wXc 7 hp (mq 3 rfl) zi,zO hp (sqi 4) C4.out,zO hp (sqi 5) T6.out,tv⟩) ?_
  intro w6 E _ _
  simp only [Z1] at E ⊢
  go_upto_region 5 with (fail)
  refine rz [.w (f3 F.a F.b F.c),.i 2,.i 2,.p b1 5,.p b1 7,.u (.int .u8 m2),.w (Fq.st [.n s,.n (s*t-1),.n 1,.n t]),.w (f3 (qv F.a F.b F.c s 1) (qm F.a F.b F.c s (s*t-1) 1 t) (qv F.a F.b F.c (s*t-1) t)),.a] [none,none,some (8,f3 (qv F.a F.b F.c s 1) (qm F.a F.b F.c s (s*t-1) 1 t) (qv F.a F.b F.c (s*t-1) t)),none] [] E (fun hp=>⟨lS 0 6 hp (mq 0 rfl) zAd zw,zS,zo hp (sqi 1),qa b1 0 5 hp zw,zAu (F:=fun v _=>v=.pointer (some ⟨b1,5,none⟩)) (G:=fun v _=>v=.int .i64 2) hp fo tv (sqi 3) (sqi 2) (fun ρ w hc h h'=>⟨.pointer (some ⟨b1,7,none⟩),by simp [execOp,go_sem,h,h'],rfl⟩),wXc 7 hp (mq 3 rfl) zi,wXa (Fq.is (.int .u8 m2)) hp zHv (sqi 5) fun v w h=>(by subst h;exact zH3 HMM.out Es.out Et.out),zC hp zLq zi zi fun v v' w h h'=>zMb h h' (Int.lt_of_lt_of_le BF.out.1 (zAa zm)) (Int.lt_of_lt_of_le BF.out.2.1 (zAa zm)) (Int.lt_of_lt_of_le BF.out.2.2 (zAa zm)) (Int.lt_of_lt_of_le Bs.out (zAa zm)) (Int.lt_of_lt_of_le Bu.out (zAa zm)) (Int.lt_of_lt_of_le (zAo zd zd) (zAa zm)) (Int.lt_of_lt_of_le Bt.out (zAa zm)),sO 0 7 hp (mq 2 rfl) zAj zw,tv⟩) ?_
  intro w7 E _ _
  simp only [Z1] at E ⊢
  obtain ⟨_,_,hccr,hffr⟩:=zAw (E.box 2 rfl)
  have hPr:=hffr
  obtain ⟨r_p0,r_q0,_,rfl,_r_n0,r_p1,r_q1,_,rfl,_r_n1,r_p2,r_q2,_,rfl,_r_n2,rfl⟩:=hffr
  have crz:=c6 hccr
  simp only [List.getD_cons_zero,List.getD_cons_succ] at crz
  clear hccr
  have hQ:=HQ.out
  clear T6 HQ C4 HR HFE HMM HPE Es Et
  rw [show qv F.a F.b F.c s 1=P.a by rw [hQ],show qm F.a F.b F.c s (s*t-1) 1 t=P.b by rw [hQ],show qv F.a F.b F.c (s*t-1) t=P.c by rw [hQ]] at hPr
  clear BF Bs Bt Bu
  go_wp2
  exact zR (v:=.agg #[r_p0,r_q0,r_p1,r_q1,r_p2,r_q2]) (by simp [results,Tryz.results10,go_sem,crz]) E.below ⟨_,rfl,hPr⟩

theorem zFj {w:World} {v v':Value} {D:Int} {P Q R:F3} (hD:D<0) (hP:Sc D P) (hQ:Sc D Q) (sP:Sm P) (sQ:Sm Q) (hR:mulF D P Q=R) (h:(f3 P.a P.b P.c).P v w) (h':(f3 Q.a Q.b Q.c).P v' w):Calls Tryz.prog 16 #[v,v'] w fun e w'=>∃ v',e=.returned v'∧Below w.heap.size w w'∧(Fq.st [.n R.a,.n R.b,.n R.c,.v (.int .i64 0)]).P v' w':=
 zHz h h' sP sQ ((zGt hD hP hQ).1.trans hR) (zGt hD hP hQ).2
theorem gm_red {D:Int} {P:F3} (hD:D<0) (h:Gm D P):(dfB P.a P.b P.c && redB P.a P.b P.c)=true:=by
 have h1:redB P.a P.b P.c=true:=(zEj h.1.pos).2 h.2
 rw [h1,Bool.and_true]
 unfold dfB
 exact decide_eq_true ⟨by rw [h.1.disc];exact hD,Int.le_of_lt h.1.pos⟩
theorem zSm (w:World) (hT:Tabs w) (D i0 i1 i2 i3 m0 m1 m2 m3:Int) (hD:0≤D∧D≤65535) (hi0:0≤i0∧i0≤65535) (hi1:0≤i1∧i1≤65535) (hi2:0≤i2∧i2≤65535) (hi3:0≤i3∧i3≤65535) (hm0:0≤m0∧m0≤255) (hm1:0≤m1∧m1≤255) (hm2:0≤m2∧m2≤255) (hm3:0≤m3∧m3≤255) {v:Value} (h:(Fq.st [.v (.int .u16 D),.v (.int .u16 i0),.v (.int .u16 i1),.v (.int .u16 i2),.v (.int .u16 i3),.v (.int .u8 m0),.v (.int .u8 m1),.v (.int .u8 m2),.v (.int .u8 m3)]).P v w) :
  Rt 4 #[v] w fun v' w'=>v'=.bool true:=by
 have HT:=hidd hT
 clear hT
 obtain ⟨n,en⟩:∃ x,x=zBz D:=⟨_,rfl⟩
 have hszn:=zIu D
 rw [← en] at hszn
 have En:=hidd en.symm
 have Zn:=hidd hszn
 have HDn:=hidd hD
 obtain ⟨dd,hdd⟩:∃ x,x=-n:=⟨_,rfl⟩
 have HDD:=hidd hdd
 have HNG:Hid (dd<0):=by show _<_;omega
 have HGC:Hid (GC dd):=GC.of zm zm
 have HB40:Hid (ab dd<pw 40):=Int.lt_of_lt_of_le HGC.out.ab6 (zAa zm)
 have H4:Hid (dd % 4=0∨dd % 4=1):=by have:=hszn.2.2;show _∨_;omega
 clear en hD hdd hszn
 obtain ⟨P,eP⟩:∃ x,x=zCs n i0 m0:=⟨_,rfl⟩
 have hokP:=zKh (i:=i0) (m:=m0) Zn.out.1 Zn.out.2.1 Zn.out.2.2
 have hscP:=zMu (i:=i0) (m:=m0) Zn.out.1 Zn.out.2.1 Zn.out.2.2
 rw [← eP] at hokP hscP
 rw [← HDD.out] at hscP
 have EP:=hidd eP.symm
 have OKP:=hidd hokP
 have KP:=hidd hscP
 have IP:=hidd hi0
 have MP:=hidd hm0
 clear eP hokP hscP hi0 hm0
 obtain ⟨Q,eQ⟩:∃ x,x=zCs n i1 m1:=⟨_,rfl⟩
 have hokQ:=zKh (i:=i1) (m:=m1) Zn.out.1 Zn.out.2.1 Zn.out.2.2
 have hscQ:=zMu (i:=i1) (m:=m1) Zn.out.1 Zn.out.2.1 Zn.out.2.2
 rw [← eQ] at hokQ hscQ
 rw [← HDD.out] at hscQ
 have EQ:=hidd eQ.symm
 have OKQ:=hidd hokQ
 have KQ:=hidd hscQ
 have IQ:=hidd hi1
 have MQ:=hidd hm1
 clear eQ hokQ hscQ hi1 hm1
 obtain ⟨R,eR⟩:∃ x,x=zCs n i2 m2:=⟨_,rfl⟩
 have hokR:=zKh (i:=i2) (m:=m2) Zn.out.1 Zn.out.2.1 Zn.out.2.2
 have hscR:=zMu (i:=i2) (m:=m2) Zn.out.1 Zn.out.2.1 Zn.out.2.2
 rw [← eR] at hokR hscR
 rw [← HDD.out] at hscR
 have ER:=hidd eR.symm
 have OKR:=hidd hokR
 have KR:=hidd hscR
 have IR:=hidd hi2
 have MR:=hidd hm2
 clear eR hokR hscR hi2 hm2
 obtain ⟨S1,eS1⟩:∃ x,x=mulF dd P Q:=⟨_,rfl⟩
 have gS1:Gm dd S1:=by rw [eS1];exact zKj HNG.out KP.out.1 KQ.out.1
 have GS1:=hidd gS1
 have KS1:Hid (Sc dd S1∧Sm S1):=⟨gS1.1,HGC.out.sm _ gS1⟩
 have ES1:=hidd eS1
 clear eS1 gS1
 have WPQ:Hid (mulF dd P Q=S1):=ES1.out.symm
 have WQP:Hid (mulF dd Q P=S1):=(by rw [zKi HNG.out KQ.out.1 KP.out.1];exact WPQ.out)
 obtain ⟨S2,eS2⟩:∃ x,x=mulF dd Q R:=⟨_,rfl⟩
 have gS2:Gm dd S2:=by rw [eS2];exact zKj HNG.out KQ.out.1 KR.out.1
 have GS2:=hidd gS2
 have KS2:Hid (Sc dd S2∧Sm S2):=⟨gS2.1,HGC.out.sm _ gS2⟩
 have ES2:=hidd eS2
 clear eS2 gS2
 have WQR:Hid (mulF dd Q R=S2):=ES2.out.symm
 obtain ⟨T1,eT1⟩:∃ x,x=mulF dd S1 R:=⟨_,rfl⟩
 have gT1:Gm dd T1:=by rw [eT1];exact zKj HNG.out KS1.out.1 KR.out.1
 have GT1:=hidd gT1
 have KT1:Hid (Sc dd T1∧Sm T1):=⟨gT1.1,HGC.out.sm _ gT1⟩
 have ET1:=hidd eT1
 clear eT1 gT1
 have WS1R:Hid (mulF dd S1 R=T1):=ET1.out.symm
 have WPS2:Hid (mulF dd P S2=T1):=(by have h9:=zE7 HNG.out KP.out.1 KQ.out.1 KR.out.1;rw [WPQ.out,WQR.out,WS1R.out] at h9;exact h9.symm)
 obtain ⟨O,eO⟩:∃ x,x=onF dd:=⟨_,rfl⟩
 have gO:Gm dd O:=by rw [eO];exact zEs HNG.out H4.out
 have GO:=hidd gO
 have KO:Hid (Sc dd O∧Sm O):=⟨gO.1,HGC.out.sm _ gO⟩
 have EO:=hidd eO
 clear eO gO
 obtain ⟨X,eX⟩:∃ x,x=rdF P:=⟨_,rfl⟩
 have gX:Gm dd X:=by rw [eX];exact (zFb HNG.out KP.out.1 KP.out.2).1
 have GX:=hidd gX
 have KX:Hid (Sc dd X∧Sm X):=⟨gX.1,HGC.out.sm _ gX⟩
 have EX:=hidd eX
 clear eX gX
 have WPO:Hid (mulF dd P O=X):=(by have h8:=zFb HNG.out KP.out.1 KP.out.2;have h9:=zMw HNG.out KP.out.1 GO.out.1 (by rw [EO.out];rfl) h8.1.2 h8.2;rw [← EX.out] at h9;exact h9)
 obtain ⟨V,eV⟩:∃ x,x=rdF (opF P):=⟨_,rfl⟩
 have gV:Gm dd V:=by rw [eV];exact (zFb HNG.out (zE8 KP.out.1) KP.out.2.op).1
 have GV:=hidd gV
 have KV:Hid (Sc dd V∧Sm V):=⟨gV.1,HGC.out.sm _ gV⟩
 have EV:=hidd eV
 clear eV gV
 have WPV:Hid (mulF dd P V=O):=(by have h8:=zFb HNG.out (zE8 KP.out.1) KP.out.2.op;have h9:=zH9 HNG.out KP.out.1 (zE8 KP.out.1) (.rfl' P) h8.2;rw [zMz HNG.out H4.out KP.out.1,← EV.out,← EO.out] at h9;exact h9)
 obtain ⟨s,esG⟩:∃ x,x=m3 % 8-3:=⟨_,rfl⟩
 obtain ⟨t,etG⟩:∃ x,x=m3/8 % 8-4:=⟨_,rfl⟩
 have htbG:=zHh esG etG
 have EsG:=hidd esG
 have EtG:=hidd etG
 have Bs:Hid (ab s<pw 3):=zC6 zm
 have Bt:Hid (ab t<pw 3):=zC6 zm
 have BuG:Hid (ab (s*t-1)<pw 3):=zC6 zm
 obtain ⟨G,eG⟩:∃ x:F3,x=⟨qv P.a P.b P.c s 1,qm P.a P.b P.c s (s*t-1) 1 t,qv P.a P.b P.c (s*t-1) t⟩:=⟨_,rfl⟩
 have htG:=zSe OKP.out htbG.1 htbG.2.1 htbG.2.2
 rw [← eG] at htG
 have KG:Hid (Sc dd G∧Sm G):=⟨htG.2.sc HNG.out KP.out.1,htG.1⟩
 have QG:=hidd htG.2
 have EG:=hidd eG
 clear esG etG htbG htG eG
 obtain ⟨s1,esH⟩:∃ x,x=m2 % 8-3:=⟨_,rfl⟩
 obtain ⟨t1,etH⟩:∃ x,x=m2/8 % 8-4:=⟨_,rfl⟩
 have htbH:=zHh esH etH
 have EsH:=hidd esH
 have EtH:=hidd etH
 have Bs1:Hid (ab s1<pw 3):=zC6 zm
 have Bt1:Hid (ab t1<pw 3):=zC6 zm
 have BuH:Hid (ab (s1*t1-1)<pw 3):=zC6 zm
 obtain ⟨H,eH⟩:∃ x:F3,x=⟨qv Q.a Q.b Q.c s1 1,qm Q.a Q.b Q.c s1 (s1*t1-1) 1 t1,qv Q.a Q.b Q.c (s1*t1-1) t1⟩:=⟨_,rfl⟩
 have htH:=zSe OKQ.out htbH.1 htbH.2.1 htbH.2.2
 rw [← eH] at htH
 have KH:Hid (Sc dd H∧Sm H):=⟨htH.2.sc HNG.out KQ.out.1,htH.1⟩
 have QH:=hidd htH.2
 have EH:=hidd eH
 clear esH etH htbH htH eH
 have HM3:=hidd hm3
 clear hm3
 have WGH:Hid (mulF dd G H=S1):=(by rw [zH9 HNG.out KP.out.1 KQ.out.1 QG.out QH.out];exact WPQ.out)
 obtain ⟨_,rfl,hf0⟩:=h
 have hF0:=hf0
 obtain ⟨_,rfl,_,_,rfl,_,_,rfl,_,_,rfl,_,_,rfl,_,_,rfl,_,_,rfl,_,_,rfl,_,_,rfl,_,rfl⟩:=hf0
 obtain ⟨w1,b1,hw1,hb1,hs1,E⟩:=gS w 26 hF0
 go_enter Tryz.func4,Tryz.ntmps4
 go_upto_region 1 with (fail)
 rw [← hw1,← hb1]
 clear hw1 hb1 hs1
 refine rz [.t,.t] [none] [] E (fun hp=>⟨q_call0W hp fo tv (zTb) rfl (fun w hbw=>zUh w (HT.out.mono hbw)),zS,tv⟩) ?_
 intro w2 E _ _
 simp only [Z1] at E ⊢
 go_upto_region 2 with (fail)
 refine rz [.t,.o] [none] [] E (fun hp=>⟨zS,zo hp (sqi 0),tv⟩) ?_
 intro w3 E _ _
 simp only [Z1] at E ⊢
 go_upto_region 4 with (fail)
 refine rz [.w (Fq.st [.v (.int .u16 D),.v (.int .u16 i0),.v (.int .u16 i1),.v (.int .u16 i2),.v (.int .u16 i3),.v (.int .u8 m0),.v (.int .u8 m1),.v (.int .u8 m2),.v (.int .u8 m3)]),.w (f3 P.a P.b P.c),.w (Fq.st [.v (.int .u16 D),.v (.int .u16 i0),.v (.int .u16 i1),.v (.int .u16 i2),.v (.int .u16 i3),.v (.int .u8 m0),.v (.int .u8 m1),.v (.int .u8 m2),.v (.int .u8 m3)]),.w (f3 Q.a Q.b Q.c),.w (Fq.st [.v (.int .u16 D),.v (.int .u16 i0),.v (.int .u16 i1),.v (.int .u16 i2),.v (.int .u16 i3),.v (.int .u8 m0),.v (.int .u8 m1),.v (.int .u8 m2),.v (.int .u8 m3)]),.w (f3 R.a R.b R.c),.k,.k,.k,.a,.a,.a] [none] [⟨6,9,6,f3 0 0 0,f3 P.a P.b P.c,none⟩,⟨7,10,6,f3 0 0 0,f3 Q.a Q.b Q.c,none⟩,⟨8,11,6,f3 0 0 0,f3 R.a R.b R.c,none⟩] E (fun hp=>⟨lS 0 9 hp (mq 0 rfl) zHe zw,zDo (F:=(Fq.st [.v (.int .u16 D),.v (.int .u16 i0),.v (.int .u16 i1),.v (.int .u16 i2),.v (.int .u16 i3),.v (.int .u8 m0),.v (.int .u8 m1),.v (.int .u8 m2),.v (.int .u8 m3)]).P) (G:=(Fq.is (.int .i64 0)).P) hp fo tv (zLr) (sqi 0) (zAk (fun _=>rfl)) (fun v v' w h h'=>(by subst h';exact exQMade0 h HDn.out IP.out MP.out En.out EP.out)),lS 0 9 hp (mq 0 rfl) zHe zw,zDo (F:=(Fq.st [.v (.int .u16 D),.v (.int .u16 i0),.v (.int .u16 i1),.v (.int .u16 i2),.v (.int .u16 i3),.v (.int .u8 m0),.v (.int .u8 m1),.v (.int .u8 m2),.v (.int .u8 m3)]).P) (G:=(Fq.is (.int .i64 1)).P) hp fo tv (zLr) (sqi 2) (zAk (fun _=>rfl)) (fun v v' w h h'=>(by subst h';exact exQMade1 h HDn.out IQ.out MQ.out En.out EQ.out)),lS 0 9 hp (mq 0 rfl) zHe zw,zDo (F:=(Fq.st [.v (.int .u16 D),.v (.int .u16 i0),.v (.int .u16 i1),.v (.int .u16 i2),.v (.int .u16 i3),.v (.int .u8 m0),.v (.int .u8 m1),.v (.int .u8 m2),.v (.int .u8 m3)]).P) (G:=(Fq.is (.int .i64 2)).P) hp fo tv (zLr) (sqi 4) (zAk (fun _=>rfl)) (fun v v' w h h'=>(by subst h';exact exQMade2 h HDn.out IR.out MR.out En.out ER.out)),aS hp (mq 0 rfl) zAp zBp,aS hp (mq 1 rfl) zAp zBp,aS hp (mq 2 rfl) zAp zBp,sS 1 hp (mq 0 rfl) zAj,sS 3 hp (mq 1 rfl) zAj,sS 5 hp (mq 2 rfl) zAj,tv⟩) ?_
 intro w4 b4_6 b4_7 b4_8 E _ _
 simp only [Z1] at E ⊢
 go_upto_region 5 with (fail)
 refine rz [.w (f3 P.a P.b P.c),.w (f3 Q.a Q.b Q.c),.w (Fq.st [.n S1.a,.n S1.b,.n S1.c,.v (.int .i64 0)]),.w (f3 Q.a Q.b Q.c),.w (f3 P.a P.b P.c),.w (Fq.st [.n S1.a,.n S1.b,.n S1.c,.v (.int .i64 0)]),.w (f3 Q.a Q.b Q.c),.w (f3 R.a R.b R.c),.w (Fq.st [.n S2.a,.n S2.b,.n S2.c,.v (.int .i64 0)]),.k,.k,.k,.a,.a,.a] N4 [⟨9,12,7,Fq.st [.n 0,.n 0,.n 0,.v (.int .i64 0)],Fq.st [.n S1.a,.n S1.b,.n S1.c,.v (.int .i64 0)],none⟩,⟨10,13,7,Fq.st [.n 0,.n 0,.n 0,.v (.int .i64 0)],Fq.st [.n S1.a,.n S1.b,.n S1.c,.v (.int .i64 0)],none⟩,⟨11,14,7,Fq.st [.n 0,.n 0,.n 0,.v (.int .i64 0)],Fq.st [.n S2.a,.n S2.b,.n S2.c,.v (.int .i64 0)],none⟩] E (fun hp=>⟨lS 0 6 hp (mq 0 rfl) zAd zw,lS 0 6 hp (mq 1 rfl) zAd zw,zC hp zDu zi zi fun v v' w h h'=>zFj HNG.out KP.out.1 KQ.out.1 KP.out.2 KQ.out.2 WPQ.out h h',lS 0 6 hp (mq 1 rfl) zAd zw,lS 0 6 hp (mq 0 rfl) zAd zw,zC hp zDu zi zi fun v v' w h h'=>zFj HNG.out KQ.out.1 KP.out.1 KQ.out.2 KP.out.2 WQP.out h h',lS 0 6 hp (mq 1 rfl) zAd zw,lS 0 6 hp (mq 2 rfl) zAd zw,zC hp zDu zi zi fun v v' w h h'=>zFj HNG.out KQ.out.1 KR.out.1 KQ.out.2 KR.out.2 WQR.out h h',aS hp (mq 0 rfl) zDx zFs,aS hp (mq 1 rfl) zDx zFs,aS hp (mq 2 rfl) zDx zFs,sS 2 hp (mq 0 rfl) zEk,sS 5 hp (mq 1 rfl) zEk,sS 8 hp (mq 2 rfl) zEk,tv⟩) ?_
 intro w5 b5_9 b5_10 b5_11 E _ _
 simp only [Z1] at E ⊢
 go_upto_region 6 with (fail)
 refine rz [.p b5_9 6,.i 0,.o,.o,.p b5_10 6,.i 0,.o,.o,.o,.p b5_11 6,.i 0,.o,.o,.o,.p b5_9 0,.w (f3 S1.a S1.b S1.c),.t,.o,.o,.o,.p b5_9 0,.w (f3 S1.a S1.b S1.c),.p b5_10 0,.w (f3 S1.a S1.b S1.c),.t,.o,.o] N7 [] E (fun hp=>⟨qa b5_9 0 6 hp zw,wXc 6 hp (mq 0 rfl) zi,zo hp (sqi 1),zS,zg b5_10 0 6 hp zw,zHd (off:=6) (fs:=[.n S1.a,.n S1.b,.n S1.c,.v (.int .i64 0)]) (u:=.int .i64 0) hp fo gqi (mq 1 rfl) (.inl rfl) rfl rfl (fun ρ w b h1 h2=>by simp [execOp,go_sem,h1,h2]) (sqi 4) (fun _=>rfl),zo hp (sqi 5),zt hp (sqi 3) (sqi 6),zS,zg b5_11 0 6 hp zw,zHd (off:=6) (fs:=[.n S2.a,.n S2.b,.n S2.c,.v (.int .i64 0)]) (u:=.int .i64 0) hp fo gqi (mq 2 rfl) (.inl rfl) rfl rfl (fun ρ w b h1 h2=>by simp [execOp,go_sem,h1,h2]) (sqi 9) (fun _=>rfl),zo hp (sqi 10),zt hp (sqi 8) (sqi 11),zS,zg b5_9 0 0 hp zw,lG 0 6 hp gqi (mq 0 rfl) zAd zi fun v w h=>h,zc hp zTj zi (fun v w h=>zU9 h (Int.lt_of_lt_of_le KS1.out.2.1 (zAa zm)) (Int.lt_of_lt_of_le KS1.out.2.2.1 (zAa zm)) (Int.lt_of_lt_of_le KS1.out.2.2.2 (zAa zm)) (gm_red HNG.out GS1.out)),zo hp (sqi 16),zt hp (sqi 13) (sqi 17),zS,zg b5_9 0 0 hp zw,lG 0 6 hp gqi (mq 0 rfl) zAd zi fun v w h=>h,zg b5_10 0 0 hp zw,lG 0 6 hp gqi (mq 1 rfl) zAd zi fun v w h=>h,zC hp zJq zi zi (fun v v' w h h'=>zJ3 h h' (eqF_iff.2 ⟨rfl,rfl,rfl⟩)),zo hp (sqi 24),zt hp (sqi 19) (sqi 25),tv⟩) ?_
 intro w6 E _ _
 simp only [Z1] at E ⊢
 go_upto_region 8 with (fail)
 refine rz [.p b5_9 0,.w (f3 S1.a S1.b S1.c),.w (f3 R.a R.b R.c),.w (Fq.st [.n T1.a,.n T1.b,.n T1.c,.v (.int .i64 0)]),.w (f3 P.a P.b P.c),.p b5_11 0,.w (f3 S2.a S2.b S2.c),.w (Fq.st [.n T1.a,.n T1.b,.n T1.c,.v (.int .i64 0)]),.k,.k,.a,.a] N7 [⟨8,10,7,Fq.st [.n 0,.n 0,.n 0,.v (.int .i64 0)],Fq.st [.n T1.a,.n T1.b,.n T1.c,.v (.int .i64 0)],none⟩,⟨9,11,7,Fq.st [.n 0,.n 0,.n 0,.v (.int .i64 0)],Fq.st [.n T1.a,.n T1.b,.n T1.c,.v (.int .i64 0)],none⟩] E (fun hp=>⟨qa b5_9 0 0 hp zw,lS 0 6 hp (mq 0 rfl) zAd zi,lS 0 6 hp (mq 5 rfl) zAd zw,zC hp zDu zi zi fun v v' w h h'=>zFj HNG.out KS1.out.1 KR.out.1 KS1.out.2 KR.out.2 WS1R.out h h',lS 0 6 hp (mq 3 rfl) zAd zw,qa b5_11 0 0 hp zw,lS 0 6 hp (mq 2 rfl) zAd zi,zC hp zDu zi zi fun v v' w h h'=>zFj HNG.out KP.out.1 KS2.out.1 KP.out.2 KS2.out.2 WPS2.out h h',aS hp (mq 0 rfl) zDx zFs,aS hp (mq 1 rfl) zDx zFs,sS 3 hp (mq 0 rfl) zEk,sS 7 hp (mq 1 rfl) zEk,tv⟩) ?_
 intro w7 b7_8 b7_9 E _ _
 simp only [Z1] at E ⊢
 go_upto_region 9 with (fail)
 refine rz [.w (f3 P.a P.b P.c),.n dd,.w (Fq.tup2 (f3 O.a O.b O.c) (Fq.is (.int .i64 0))),.w (Fq.tup2 (f3 O.a O.b O.c) (Fq.is (.int .i64 0))),.w (f3 O.a O.b O.c),.i 0,.k,.a,.i 0] N9 [⟨6,7,6,f3 0 0 0,f3 O.a O.b O.c,none⟩] E (fun hp=>⟨lS 0 6 hp (mq 5 rfl) zAd zw,zc hp zC8 zi fun v w h=>(by have hh9:=zC9 h (Int.lt_of_lt_of_le KP.out.2.1 (zAa zm)) (Int.lt_of_lt_of_le KP.out.2.2.1 (zAa zm)) (Int.lt_of_lt_of_le KP.out.2.2.2 (zAa zm));rw [KP.out.1.disc] at hh9;exact hh9),zc hp zJu zi fun v w h=>(by have hh9:=zJ1 h HB40.out HNG.out H4.out;rw [← EO.out] at hh9;exact hh9),zS,zS,zS,aS hp (mq 0 rfl) zAp zBp,sS 4 hp (mq 0 rfl) zAj,zS,tv⟩) ?_
 intro w8 b8_6 E _ _
 simp only [Z1] at E ⊢
 go_upto_region 10 with (fail)
 refine rz [.w (f3 P.a P.b P.c),.w (Fq.tup3 (f3 X.a X.b X.c) (Fq.st [.n ((redT P.a P.b P.c).x1),.n ((redT P.a P.b P.c).x2),.n ((redT P.a P.b P.c).x3),.n ((redT P.a P.b P.c).x4)]) (Fq.is (.int .i64 0))),.w (Fq.tup3 (f3 X.a X.b X.c) (Fq.st [.n ((redT P.a P.b P.c).x1),.n ((redT P.a P.b P.c).x2),.n ((redT P.a P.b P.c).x3),.n ((redT P.a P.b P.c).x4)]) (Fq.is (.int .i64 0))),.w (f3 X.a X.b X.c),.w (Fq.st [.n ((redT P.a P.b P.c).x1),.n ((redT P.a P.b P.c).x2),.n ((redT P.a P.b P.c).x3),.n ((redT P.a P.b P.c).x4)]),.i 0,.k,.k,.a,.a,.i 0] N10 [⟨6,8,6,f3 0 0 0,f3 X.a X.b X.c,none⟩,⟨7,9,8,Fq.st [.n 0,.n 0,.n 0,.n 0],Fq.st [.n ((redT P.a P.b P.c).x1),.n ((redT P.a P.b P.c).x2),.n ((redT P.a P.b P.c).x3),.n ((redT P.a P.b P.c).x4)],none⟩] E (fun hp=>⟨lS 0 6 hp (mq 6 rfl) zAd zw,zc hp zLy zi fun v w h=>(by have hh9:=exPRedF HNG.out KP.out.1 KP.out.2 h;rw [← EX.out] at hh9;exact hh9),zS,zS,zS,zS,aS hp (mq 0 rfl) zAp zBp,aS hp (mq 1 rfl) zEe zKu,sS 3 hp (mq 0 rfl) zAj,sS 4 hp (mq 1 rfl) zD4,zS,tv⟩) ?_
 intro w9 b9_6 b9_7 E _ _
 simp only [Z1] at E ⊢
 go_upto_region 11 with (fail)
 refine rz [.w (f3 P.a P.b P.c),.w (Fq.tup2 (f3 V.a V.b V.c) (Fq.is (.int .i64 0))),.w (Fq.tup2 (f3 V.a V.b V.c) (Fq.is (.int .i64 0))),.w (f3 V.a V.b V.c),.i 0,.k,.a,.i 0] N12 [⟨5,6,6,f3 0 0 0,f3 V.a V.b V.c,none⟩] E (fun hp=>⟨lS 0 6 hp (mq 8 rfl) zAd zw,zc hp zO4 zi fun v w h=>(by have hh9:=exPInvF HNG.out KP.out.1 KP.out.2 h;rw [← EV.out] at hh9;exact hh9),zS,zS,zS,aS hp (mq 0 rfl) zAp zBp,sS 3 hp (mq 0 rfl) zAj,zS,tv⟩) ?_
 intro w10 b10_5 E _ _
 simp only [Z1] at E ⊢
 go_upto_region 12 with (fail)
 refine rz [.w (f3 P.a P.b P.c),.p b1 5,.p b1 8,.u (.int .u8 m3),.w (Fq.st [.n s,.n (s*t-1),.n 1,.n t]),.w (f3 G.a G.b G.c),.w (f3 Q.a Q.b Q.c),.p b1 5,.p b1 7,.u (.int .u8 m2),.w (Fq.st [.n s1,.n (s1*t1-1),.n 1,.n t1]),.w (f3 H.a H.b H.c),.w (Fq.st [.n S1.a,.n S1.b,.n S1.c,.v (.int .i64 0)]),.k,.a] N13 [⟨13,14,7,Fq.st [.n 0,.n 0,.n 0,.v (.int .i64 0)],Fq.st [.n S1.a,.n S1.b,.n S1.c,.v (.int .i64 0)],none⟩] E (fun hp=>⟨lS 0 6 hp (mq 9 rfl) zAd zw,qa b1 0 5 hp zw,zAv (F:=fun v _=>v=.pointer (some ⟨b1,5,none⟩)) hp fo tv (sqi 1) (fun ρ w hc h=>⟨.pointer (some ⟨b1,8,none⟩),by simp [execOp,go_sem,h,hc],rfl⟩),wXc 8 hp (mq 12 rfl) zi,wXa (Fq.is (.int .u8 m3)) hp zHv (sqi 3) fun v w h=>(by subst h;exact zH3 HM3.out EsG.out EtG.out),zC hp zJt zi zi fun v v' w h h'=>(by have hh9:=zJ0 h h' (Int.lt_of_lt_of_le KP.out.2.1 (zAa zm)) (Int.lt_of_lt_of_le KP.out.2.2.1 (zAa zm)) (Int.lt_of_lt_of_le KP.out.2.2.2 (zAa zm)) (Int.lt_of_lt_of_le Bs.out (zAa zm)) (Int.lt_of_lt_of_le BuG.out (zAa zm)) (Int.lt_of_lt_of_le (zAo zd zd) (zAa zm)) (Int.lt_of_lt_of_le Bt.out (zAa zm));rw [EG.out];exact hh9),lS 0 6 hp (mq 10 rfl) zAd zw,qa b1 0 5 hp zw,zAv (F:=fun v _=>v=.pointer (some ⟨b1,5,none⟩)) hp fo tv (sqi 7) (fun ρ w hc h=>⟨.pointer (some ⟨b1,7,none⟩),by simp [execOp,go_sem,h,hc],rfl⟩),wXc 7 hp (mq 12 rfl) zi,wXa (Fq.is (.int .u8 m2)) hp zHv (sqi 9) fun v w h=>(by subst h;exact zH3 MR.out EsH.out EtH.out),zC hp zJt zi zi fun v v' w h h'=>(by have hh9:=zJ0 h h' (Int.lt_of_lt_of_le KQ.out.2.1 (zAa zm)) (Int.lt_of_lt_of_le KQ.out.2.2.1 (zAa zm)) (Int.lt_of_lt_of_le KQ.out.2.2.2 (zAa zm)) (Int.lt_of_lt_of_le Bs1.out (zAa zm)) (Int.lt_of_lt_of_le BuH.out (zAa zm)) (Int.lt_of_lt_of_le (zAo zd zd) (zAa zm)) (Int.lt_of_lt_of_le Bt1.out (zAa zm));rw [EH.out];exact hh9),zC hp zDu zi zi fun v v' w h h'=>zFj HNG.out KG.out.1 KH.out.1 KG.out.2 KH.out.2 WGH.out h h',aS hp (mq 0 rfl) zDx zFs,sS 12 hp (mq 0 rfl) zEk,tv⟩) ?_
 intro w11 b11_13 E _ _
 simp only [Z1] at E ⊢
 go_upto_region 13 with (fail)
 refine rz [.p b7_8 6,.i 0,.t,.t,.p b7_9 6,.i 0,.t,.t,.t,.p b7_8 0,.w (f3 T1.a T1.b T1.c),.p b7_9 0,.w (f3 T1.a T1.b T1.c),.t,.t,.t,.i 0,.t,.t,.t,.i 0,.t,.t,.t,.i 0,.t,.t,.t,.w (f3 P.a P.b P.c),.w (f3 O.a O.b O.c),.w (Fq.st [.n X.a,.n X.b,.n X.c,.v (.int .i64 0)]),.w (f3 X.a X.b X.c),.t,.t,.t,.w (f3 P.a P.b P.c),.w (f3 V.a V.b V.c),.w (Fq.st [.n O.a,.n O.b,.n O.c,.v (.int .i64 0)]),.w (f3 O.a O.b O.c),.t,.t,.t,.w (Fq.st [.n S1.a,.n S1.b,.n S1.c,.v (.int .i64 0)]),.p b5_9 0,.w (f3 S1.a S1.b S1.c),.t,.t,.t,.t,.t,.t] N14 [] E (fun hp=>⟨?_,?_,?_,?_,?_,?_,?_,?_,?_,?_,?_,?_,?_,?_,?_,?_,?_,?_,?_,?_,?_,?_,?_,?_,?_,?_,?_,?_,?_,?_,?_,?_,?_,?_,?_,?_,?_,?_,?_,?_,?_,?_,?_,?_,?_,?_,?_,?_,?_,?_,?_,tv⟩) ?_
 ·exact qa b7_8 0 6 hp zw
 ·exact wXc 6 hp (mq 5 rfl) zi
 ·exact zo hp (sqi 1)
 ·exact zS
 ·exact zg b7_9 0 6 hp zw
 ·exact zHd (off:=6) (fs:=[.n T1.a,.n T1.b,.n T1.c,.v (.int .i64 0)]) (u:=.int .i64 0) hp fo gqi (mq 6 rfl) (.inl rfl) rfl rfl (fun ρ w b h1 h2=>by simp [execOp,go_sem,h1,h2]) (sqi 4) (fun _=>rfl)
 ·exact zo hp (sqi 5)
 ·exact zt hp (sqi 3) (sqi 6)
 ·exact zS
 ·exact zg b7_8 0 0 hp zw
 ·exact lG 0 6 hp gqi (mq 5 rfl) zAd zi fun v w h=>h
 ·exact zg b7_9 0 0 hp zw
 ·exact lG 0 6 hp gqi (mq 6 rfl) zAd zi fun v w h=>h
 ·exact zC hp zJq zi zi (fun v v' w h h'=>zJ3 h h' (eqF_iff.2 ⟨rfl,rfl,rfl⟩))
 ·exact zt hp (sqi 8) (sqi 13)
 ·exact zS
 ·exact zAq hp fo gqi (sqo 13)
 ·exact zo hp (sqi 16)
 ·exact zt hp (sqi 15) (sqi 17)
 ·exact zS
 ·exact zAq hp fo gqi (sqo 16)
 ·exact zo hp (sqi 20)
 ·exact zt hp (sqi 19) (sqi 21)
 ·exact zS
 ·exact zAq hp fo gqi (sqo 18)
 ·exact zo hp (sqi 24)
 ·exact zt hp (sqi 23) (sqi 25)
 ·exact zS
 ·exact lG 0 6 hp gqi (mq 10 rfl) zAd zw fun v w h=>h
 ·exact lG 0 6 hp gqi (mq 4 rfl) zAd zw fun v w h=>h
 ·exact zC hp zDu zi zi (fun v v' w h h'=>zFj HNG.out KP.out.1 KO.out.1 KP.out.2 KO.out.2 WPO.out h h')
 ·exact lG 0 6 hp gqi (mq 2 rfl) zAd zw fun v w h=>h
 ·exact zC hp zF6 zi zi (fun v v' w h h'=>zGb h h' (eqF_iff.2 ⟨rfl,rfl,rfl⟩))
 ·exact zt hp (sqi 27) (sqi 32)
 ·exact zS
 ·exact lG 0 6 hp gqi (mq 10 rfl) zAd zw fun v w h=>h
 ·exact lG 0 6 hp gqi (mq 1 rfl) zAd zw fun v w h=>h
 ·exact zC hp zDu zi zi (fun v v' w h h'=>zFj HNG.out KP.out.1 KV.out.1 KP.out.2 KV.out.2 WPV.out h h')
 ·exact lG 0 6 hp gqi (mq 4 rfl) zAd zw fun v w h=>h
 ·exact zC hp zF6 zi zi (fun v v' w h h'=>zGb h h' (eqF_iff.2 ⟨rfl,rfl,rfl⟩))
 ·exact zt hp (sqi 34) (sqi 39)
 ·exact zS
 ·exact lG 0 7 hp gqi (mq 0 rfl) zXc zw fun v w h=>h
 ·exact zg b5_9 0 0 hp zw
 ·exact lG 0 6 hp gqi (mq 7 rfl) zAd zi fun v w h=>h
 ·exact zC hp zF6 zi zi (fun v v' w h h'=>zGb h h' (eqF_iff.2 ⟨rfl,rfl,rfl⟩))
 ·exact zt hp (sqi 41) (sqi 45)
 ·exact zS
 ·exact zAq hp fo gqi (sqo 3)
 ·exact zt hp (sqi 47) (sqi 48)
 ·exact zS
 intro w12 E _ _
 simp only [Z1] at E ⊢
 clear HT En Zn HDn HDD HNG HGC HB40 H4 EP OKP KP IP MP EQ OKQ KQ IQ MQ ER OKR KR IR MR GS1 KS1 ES1 WPQ WQP GS2 KS2 ES2 WQR GT1 KT1 ET1 WS1R WPS2 GO KO EO GX KX EX WPO GV KV EV WPV EsG EtG KG QG EG EsH EtH KH QH EH HM3 WGH
 clear Bs Bt BuG Bs1 Bt1 BuH
 go_wp2
 exact zR (v:=.bool true) (by simp [results,Tryz.results4,go_sem]) E.below rfl

theorem zSn (w:World) (hT:Tabs w) (D i0 i1 i2 i3 m0 m1 m2 m3:Int) (hD:0≤D∧D≤65535) (hi0:0≤i0∧i0≤65535) (hi1:0≤i1∧i1≤65535) (hi2:0≤i2∧i2≤65535) (hi3:0≤i3∧i3≤65535) (hm0:0≤m0∧m0≤255) (hm1:0≤m1∧m1≤255) (hm2:0≤m2∧m2≤255) (hm3:0≤m3∧m3≤255):Calls Tryz.prog 4 #[.agg #[.int .u16 D,.int .u16 i0,.int .u16 i1,.int .u16 i2,.int .u16 i3,.int .u8 m0,.int .u8 m1,.int .u8 m2,.int .u8 m3]] w fun e w'=>e=.returned (.bool true)∧Below w.heap.size w w':=by
 refine (zSm w hT D i0 i1 i2 i3 m0 m1 m2 m3 hD hi0 hi1 hi2 hi3 hm0 hm1 hm2 hm3 ⟨[.int .u16 D,.int .u16 i0,.int .u16 i1,.int .u16 i2,.int .u16 i3,.int .u8 m0,.int .u8 m1,.int .u8 m2,.int .u8 m3],rfl,_,rfl,rfl,_,rfl,rfl,_,rfl,rfl,_,rfl,rfl,_,rfl,rfl,_,rfl,rfl,_,rfl,rfl,_,rfl,rfl,_,rfl,rfl,rfl⟩).mono ?_
 rintro e w' ⟨v',rfl,hb,rfl⟩
 exact ⟨rfl,hb⟩

end Go.Proofs.YtjadciofpgjofaaGreatDoor
