/- Ho, Hp, Ut, Hq, Hr, Ht, Lq. -/
import Derived.Test.YtjadciofpgjofaaGreatDoorDd7
set_option linter.unusedSimpArgs false
set_option linter.unusedVariables false
set_option maxRecDepth 100000
set_option maxHeartbeats 8000000
namespace Go.Proofs.YtjadciofpgjofaaGreatDoor
open Go Go.RowKit

theorem zS4:En 9:=zAe Tryz.func9 (by kernel_rfl) rfl
theorem zHo:En 16:=zAe Tryz.func16 (by kernel_rfl) rfl
theorem zS5:En 17:=zAe Tryz.func17 (by kernel_rfl) rfl
theorem zJf:En 32:=zAe Tryz.func32 (by kernel_rfl) rfl
theorem zOf:En 41:=zAe Tryz.func41 (by kernel_rfl) rfl
theorem zG8:zDi 48 7=true:=by kernel_rfl
theorem zF7 (w:World):Fits w [.n 0,.n 0,.n 0,.v (.int .i64 0)] [.bool false,.slice none 0 0,.bool false,.slice none 0 0,.bool false,.slice none 0 0,.int .i64 0]:=⟨_,_,_,rfl,Num.zero w,_,_,_,rfl,Num.zero w,_,_,_,rfl,Num.zero w,_,rfl,rfl,rfl⟩
theorem zXm (w:World):(Fq.st [.n 0,.n 0,.n 0,.v (.int .i64 0)]).P (.agg ([.bool false,.slice none 0 0,.bool false,.slice none 0 0,.bool false,.slice none 0 0,.int .i64 0]:List Value).toArray) w:=⟨_,rfl,zF7 w⟩
theorem zM2 {d:Option Tmp} {ty:TypeId} {ps:String} {af:Array Edge} (ρ:Operand→Value) (w:World):(execOp ρ { dst:=d,op:=.alloc 48,type:=ty,pos:=ps,after:=af,guard:=none }).run Tryz.prog w=.ok (.value (.pointer (some ⟨w.heap.size,0,none⟩))) (w.alloc (.cells [.bool false,.slice none 0 0,.bool false,.slice none 0 0,.bool false,.slice none 0 0,.int .i64 0].toArray 48)):=by
 simp [execOp,go_sem]
section
variable {os : List Oper} {Q : Exit → Act → World → Prop} {a : Act} {p : Pq} {B B0 : Nat} {w0 : World}
variable {i s : Nat} {d : Option Tmp} {ty : TypeId} {ps : String} {af : Array Edge} {gd : Option (Nat × Bool)}
theorem q_gotErr {x:Operand} {a0 b0 c0 e0:Int} (hp:p.Ok B B0) (hF:p.Free i) (hg:GdQ os a p B B0 w0 af gd) (hx:SrcQ os a p B B0 w0 af x (Fq.st [.n a0,.n b0,.n c0,.v (.int .i64 e0)]).P) (hC:∀ w,(p.c i).P (.int .i64 e0) w) :
  zAg os Q a p B B0 w0 i { dst:=d,op:=.field 48 x 1,type:=ty,pos:=ps,after:=af,guard:=gd }:=by
 refine zBg hp hF hg fun L vs w hG hL hc hd=>?_
 obtain ⟨_,e1,p0,q0,_,rfl,_,p1,q1,_,rfl,_,p2,q2,_,rfl,_,_,rfl,_,rfl⟩:=hx L vs w hG hd
 refine ⟨.int .i64 e0,?_,hC w⟩
 generalize (lay os.toArray L vs os.toArray.size a).eval=ρ at e1
 have hf:(Instr.field 48 (.agg #[p0,q0,p1,q1,p2,q2,.int .i64 e0]) 1).run Tryz.prog w=.ok (.int .i64 e0) w:=by kernel_rfl
 simp [execOp,go_sem,e1,hf]
end
theorem Fl.built {w:World} {Ps:List F3} {es:List Value} {n:Nat} (hn:n=Ps.length) (h:Fits w (rowQ Ps) es) (h0:0<Ps.length):Fl (w.alloc (.cells es.toArray 38)) (.slice (some ⟨w.heap.size,0,none⟩) n n) Ps:=by
 subst hn
 have h2:=h.mono (zAh w (.cells es.toArray 38))
 refine ⟨_,_,rfl,fun _=>⟨w.heap.size,rfl,by simp,fun i P hi=>?_⟩⟩
 have:=zM7 h2 (b:=w.heap.size) (o:=0) (fun j hj=>by rw [Nat.zero_add];unfold World.cell?;rw [heap_alloc_new];simp [List.getD,List.getElem?_eq_getElem hj]) hi
 rw [Nat.zero_add] at this
 exact this
theorem zMn {a b c:Int} (h:cont a b c=1) (d:Int) (h1:d ∣ a) (h2:d ∣ b) (h3:d ∣ c):d ∣ 1:=zK7 h d h1 h2 h3
theorem und_e22:Und 4 (-11) 9 (-1) (2) (-1) (1) 2 (-1) 3:=⟨by decide,by decide,by decide,by decide⟩
section
variable {os : List Oper} {Q : Exit → Act → World → Prop} {a : Act} {p : Pq} {B B0 : Nat} {w0 : World}
variable {i s : Nat} {d : Option Tmp} {ty : TypeId} {ps : String} {af : Array Edge} {gd : Option (Nat × Bool)}
theorem zMv {x0:Operand} {z0_0:Int} {z0_1:Int} {z0_2:Int} {x1:Operand} {u1:Int} (hp:p.Ok B B0) (hF:p.Free i) (hg:GdQ os a p B B0 w0 af gd) (h0:SrcQ os a p B B0 w0 af x0 (f3 z0_0 z0_1 z0_2).P) (h1:SrcQ os a p B B0 w0 af x1 fun v _=>v=.int .i64 u1) (hC:∀ v w,(Fq.st [.n z0_0,.n z0_1,.n z0_2,.v (.int .i64 u1)]).P v w→(p.c i).P v w) :
  zAg os Q a p B B0 w0 i { dst:=d,op:=.build 48 #[(0,x0),(1,x1)],type:=ty,pos:=ps,after:=af,guard:=gd }:=by
 refine zBg hp hF hg fun L vs w hG hL hc hd=>?_
 have g0:=h0 L vs w hG hd
 obtain ⟨_,e0,_,_,_,rfl,a0_n0,_,_,_,rfl,a0_n1,_,_,_,rfl,a0_n2,rfl⟩:=g0
 obtain ⟨n0_0,ao0_0,k0_0,c0_0,e0_0⟩:=a0_n0.parts
 have m0_0:=a0_n0
 rw [e0_0] at m0_0
 obtain ⟨n0_1,ao0_1,k0_1,c0_1,e0_1⟩:=a0_n1.parts
 have m0_1:=a0_n1
 rw [e0_1] at m0_1
 obtain ⟨n0_2,ao0_2,k0_2,c0_2,e0_2⟩:=a0_n2.parts
 have m0_2:=a0_n2
 rw [e0_2] at m0_2
 injection e0_0 with f0_0
 have f0_0:=congrArg Array.toList f0_0
 simp at f0_0
 obtain ⟨rfl,rfl⟩:=f0_0
 injection e0_1 with f0_1
 have f0_1:=congrArg Array.toList f0_1
 simp at f0_1
 obtain ⟨rfl,rfl⟩:=f0_1
 injection e0_2 with f0_2
 have f0_2:=congrArg Array.toList f0_2
 simp at f0_2
 obtain ⟨rfl,rfl⟩:=f0_2
 have g1:=h1 L vs w hG hd
 refine ⟨.agg #[.bool n0_0,.slice ao0_0 k0_0 c0_0,.bool n0_1,.slice ao0_1 k0_1 c0_1,.bool n0_2,.slice ao0_2 k0_2 c0_2,.int .i64 u1],?_,hC _ _ ⟨_,rfl,_,_,_,rfl,m0_0,_,_,_,rfl,m0_1,_,_,_,rfl,m0_2,_,rfl,rfl,rfl⟩⟩
 generalize (lay os.toArray L vs os.toArray.size a).eval=ρ at e0 g1
 simp [execOp,go_sem,e0,g1]
end
theorem zHs {w:World} {v v':Value} {P Q R:F3} {er:Int} (h:(f3 P.a P.b P.c).P v w) (h':(f3 Q.a Q.b Q.c).P v' w) (sP:Sm P) (sQ:Sm Q) (hR:cmF P.a P.b P.c Q.a Q.b Q.c=R) (hE:cmE P.a P.b P.c Q.a Q.b Q.c=er) :
  Rt 16 #[v,v'] w fun v' w'=>(Fq.st [.n R.a,.n R.b,.n R.c,.v (.int .i64 er)]).P v' w':=by
 have HsP:=hidd sP
 have HsQ:=hidd sQ
 have HhR:=hidd hR
 have HhE:=hidd hE
 obtain ⟨y0_p0,y0_q0,y0_p1,y0_q1,y0_p2,y0_q2,rfl,hF0⟩:=o3 h
 obtain ⟨y1_p0,y1_q0,y1_p1,y1_q1,y1_p2,y1_q2,rfl,hF1⟩:=o3 h'
 obtain ⟨w1,b1,hw1,hb1,hs1,E⟩:=gS w 38 hF0
 obtain ⟨w2,b2,hw2,hb2,hs2,E⟩:=fS E hs1 38 hF1
 obtain ⟨w3,b3,hw3,hb3,hs3,E⟩:=fO E hs2 48 zF7
 go_enter Tryz.func16,Tryz.ntmps16
 go_upto_region 1 with (fail)
 rw [← hw1,← hw2]
 rw [← hw3,← hb3]
 rw [← hb2,← hb1]
 clear hw1 hw2 hw3 hb1 hb2 hb3 hs3 hs1 hs2
 refine rz [.w (f3 P.a P.b P.c),.w (f3 Q.a Q.b Q.c),.w (Fq.tup2 (f3 R.a R.b R.c) (Fq.is (.int .i64 er))),.w (Fq.tup2 (f3 R.a R.b R.c) (Fq.is (.int .i64 er))),.w (f3 R.a R.b R.c),.i er,.k,.a,.i er] N3 [⟨6,7,6,f3 0 0 0,f3 R.a R.b R.c,none⟩] E (fun hp=>⟨lS 0 6 hp (mq 2 rfl) zAd zw,lS 0 6 hp (mq 1 rfl) zAd zw,zC hp zS8 zi zi fun v v' w h h'=>(by have hh9:=zTn h h' HsP.out.1 HsP.out.2.1 HsP.out.2.2 HsQ.out.1 HsQ.out.2.1 HsQ.out.2.2;rw [HhR.out,HhE.out] at hh9;exact hh9),zS,zS,zS,aS hp (mq 0 rfl) zAu zBw,sS 4 hp (mq 0 rfl) zAl,zS,tv⟩) ?_
 intro w4 b4_6 E _ _
 simp only [Z1] at E ⊢
 go_upto_region 2 with (fail)
 refine rz [.w (f3 R.a R.b R.c),.i er,.w (Fq.st [.n R.a,.n R.b,.n R.c,.v (.int .i64 er)]),.a] [none,some (3,Fq.st [.n R.a,.n R.b,.n R.c,.v (.int .i64 er)]),none,none] [] E (fun hp=>⟨lS 0 6 hp (mq 0 rfl) zAd zw,zS,zMv (u1:=er) (z0_0:=R.a) (z0_1:=R.b) (z0_2:=R.c) hp fo tv (sqi 0) (sqi 1) (fun v w h=>h),sO 0 2 hp (mq 1 rfl) zG8 zw,tv⟩) ?_
 intro w5 E _ _
 simp only [Z1] at E ⊢
 clear HsP sP HsQ sQ HhR hR HhE hE
 obtain ⟨_,_,hc0,hf0⟩:=zAw (E.box 1 rfl)
 have hP0:=hf0
 obtain ⟨r0_p0,r0_q0,_,rfl,_r0_n0,r0_p1,r0_q1,_,rfl,_r0_n1,r0_p2,r0_q2,_,rfl,_r0_n2,_,rfl,_,rfl⟩:=hf0
 have c0_0:=hc0 0 (by simp)
 have c0_1:=hc0 1 (by simp)
 have c0_2:=hc0 2 (by simp)
 have c0_3:=hc0 3 (by simp)
 have c0_4:=hc0 4 (by simp)
 have c0_5:=hc0 5 (by simp)
 have c0_6:=hc0 6 (by simp)
 simp only [List.getD_cons_zero,List.getD_cons_succ] at c0_0 c0_1 c0_2 c0_3 c0_4 c0_5 c0_6
 clear hc0
 go_wp2
 exact zR (v:=.agg #[r0_p0,r0_q0,r0_p1,r0_q1,r0_p2,r0_q2,.int .i64 er]) (by simp [results,Tryz.results16,go_sem,c0_0,c0_1,c0_2,c0_3,c0_4,c0_5,c0_6]) E.below ⟨_,rfl,hP0⟩

theorem zT7 {w:World} {v v':Value} {P:F3} {D n:Int} (hC:GC D) (hP:Sc D P) (hn:ab n<pw 20) (sP:Sm P) (h:(f3 P.a P.b P.c).P v w) (h':Num w v' n) :
  Rt 17 #[v,v'] w fun v' w'=>(Fq.st [.n (pzF D P n).a,.n (pzF D P n).b,.n (pzF D P n).c,.v (.int .i64 0)]).P v' w':=by
 have HhC:=hidd hC
 have HhP:=hidd hP
 have Hhn:=hidd hn
 have HsP:=hidd sP
 obtain ⟨y0_p0,y0_q0,y0_p1,y0_q1,y0_p2,y0_q2,rfl,hF0⟩:=o3 h
 obtain ⟨n1,ao1,k1,c1,rfl⟩:=h'.parts
 obtain ⟨w1,b1,hw1,hb1,hs1,E⟩:=gS w 38 hF0
 obtain ⟨w2,b2,hw2,hb2,hs2,E⟩:=fN E hs1 36 h'
 obtain ⟨w3,b3,hw3,hb3,hs3,E⟩:=fO E hs2 48 zF7
 go_enter Tryz.func17,Tryz.ntmps17
 go_upto_region 1 with (fail)
 rw [← hw1,← hw2]
 rw [← hw3,← hb3]
 rw [← hb2,← hb1]
 clear hw1 hw2 hw3 hb1 hb2 hb3 hs3 hs1 hs2
 refine rz [.w (f3 P.a P.b P.c),.n n,.w (Fq.tup2 (f3 ((pzF D P n).a) ((pzF D P n).b) ((pzF D P n).c)) (Fq.is (.int .i64 0))),.w (Fq.tup2 (f3 ((pzF D P n).a) ((pzF D P n).b) ((pzF D P n).c)) (Fq.is (.int .i64 0))),.w (f3 ((pzF D P n).a) ((pzF D P n).b) ((pzF D P n).c)),.i 0,.k,.a,.i 0] N3 [⟨6,7,6,f3 0 0 0,f3 ((pzF D P n).a) ((pzF D P n).b) ((pzF D P n).c),none⟩] E (fun hp=>⟨lS 0 6 hp (mq 2 rfl) zAd zw,lI 0 hp (mq 1 rfl) zw,zC hp zS9 zi zi fun v v' w h h'=>zTx HhC.out HhP.out Hhn.out h h' HsP.out,zS,zS,zS,aS hp (mq 0 rfl) zAu zBw,sS 4 hp (mq 0 rfl) zAl,zS,tv⟩) ?_
 intro w4 b4_6 E _ _
 simp only [Z1] at E ⊢
 go_upto_region 2 with (fail)
 refine rz [.w (f3 ((pzF D P n).a) ((pzF D P n).b) ((pzF D P n).c)),.i 0,.w (Fq.st [.n ((pzF D P n).a),.n ((pzF D P n).b),.n ((pzF D P n).c),.v (.int .i64 0)]),.a] [none,some (3,Fq.st [.n ((pzF D P n).a),.n ((pzF D P n).b),.n ((pzF D P n).c),.v (.int .i64 0)]),none,none] [] E (fun hp=>⟨lS 0 6 hp (mq 0 rfl) zAd zw,zS,zMv (u1:=0) (z0_0:=(pzF D P n).a) (z0_1:=(pzF D P n).b) (z0_2:=(pzF D P n).c) hp fo tv (sqi 0) (sqi 1) (fun v w h=>h),sO 0 2 hp (mq 1 rfl) zG8 zw,tv⟩) ?_
 intro w5 E _ _
 simp only [Z1] at E ⊢
 clear HhC hC HhP hP Hhn hn HsP sP
 obtain ⟨_,_,hc0,hf0⟩:=zAw (E.box 1 rfl)
 have hP0:=hf0
 obtain ⟨r0_p0,r0_q0,_,rfl,_r0_n0,r0_p1,r0_q1,_,rfl,_r0_n1,r0_p2,r0_q2,_,rfl,_r0_n2,_,rfl,_,rfl⟩:=hf0
 have c0_0:=hc0 0 (by simp)
 have c0_1:=hc0 1 (by simp)
 have c0_2:=hc0 2 (by simp)
 have c0_3:=hc0 3 (by simp)
 have c0_4:=hc0 4 (by simp)
 have c0_5:=hc0 5 (by simp)
 have c0_6:=hc0 6 (by simp)
 simp only [List.getD_cons_zero,List.getD_cons_succ] at c0_0 c0_1 c0_2 c0_3 c0_4 c0_5 c0_6
 clear hc0
 go_wp2
 exact zR (v:=.agg #[r0_p0,r0_q0,r0_p1,r0_q1,r0_p2,r0_q2,.int .i64 0]) (by simp [results,Tryz.results17,go_sem,c0_0,c0_1,c0_2,c0_3,c0_4,c0_5,c0_6]) E.below ⟨_,rfl,hP0⟩

def F3.zero:F3:=⟨0,0,0⟩

theorem zO8 {w:World} {v:Value} {d k er:Int} {R:F3} (h:Num w v d) (hO:∀ (w1:World) (x:Value),Below w.heap.size w w1→Num w1 x d→Calls Tryz.prog 93 #[x,.int .i64 k] w1 fun e' w'=>∃ v',e'=.returned v'∧Below w1.heap.size w1 w'∧(Fq.tup2 (f3 R.a R.b R.c) (Fq.is (.int .i64 er))).P v' w') :
  Rt 41 #[v,.int .i64 k] w fun v' w'=>(Fq.st [.n R.a,.n R.b,.n R.c,.v (.int .i64 er)]).P v' w':=by
 have HhO:=hidd hO
 obtain ⟨n0,ao0,k0,c0,rfl⟩:=h.parts
 obtain ⟨w1,b1,hw1,hb1,hs1,E⟩:=gN w 36 h
 obtain ⟨w2,b2,hw2,hb2,hs2,E⟩:=fO E hs1 48 zF7
 go_enter Tryz.func41,Tryz.ntmps41
 go_upto_region 1 with (fail)
 rw [← hw1,← hw2]
 rw [← hb2,← hb1]
 clear hw1 hw2 hb1 hb2 hs2 hs1
 refine rz [.n d,.i k,.w (Fq.tup2 (f3 R.a R.b R.c) (Fq.is (.int .i64 er))),.w (Fq.tup2 (f3 R.a R.b R.c) (Fq.is (.int .i64 er))),.w (f3 R.a R.b R.c),.i er,.k,.a,.i er] N2 [⟨6,7,6,f3 0 0 0,f3 R.a R.b R.c,none⟩] E (fun hp=>⟨lI 0 hp (mq 1 rfl) zw,zS,zD4 (F:=(Fq.num d).P) (G:=(Fq.is (.int .i64 k)).P) hp fo tv (zTa) rfl (sqi 0) (sqi 1) (fun v v' w hbw h h'=>(by subst h';exact HhO.out _ _ hbw h)),zS,zS,zS,aS hp (mq 0 rfl) zAu zBw,sS 4 hp (mq 0 rfl) zAl,zS,tv⟩) ?_
 intro w3 b3_6 E _ _
 simp only [Z1] at E ⊢
 go_upto_region 2 with (fail)
 refine rz [.w (f3 R.a R.b R.c),.i er,.w (Fq.st [.n R.a,.n R.b,.n R.c,.v (.int .i64 er)]),.a] [none,some (3,Fq.st [.n R.a,.n R.b,.n R.c,.v (.int .i64 er)]),none] [] E (fun hp=>⟨lS 0 6 hp (mq 0 rfl) zAd zw,zS,zMv (u1:=er) (z0_0:=R.a) (z0_1:=R.b) (z0_2:=R.c) hp fo tv (sqi 0) (sqi 1) (fun v w h=>h),sO 0 2 hp (mq 1 rfl) zG8 zw,tv⟩) ?_
 intro w4 E _ _
 simp only [Z1] at E ⊢
 clear HhO hO
 obtain ⟨_,_,hc0,hf0⟩:=zAw (E.box 1 rfl)
 have hP0:=hf0
 obtain ⟨r0_p0,r0_q0,_,rfl,_r0_n0,r0_p1,r0_q1,_,rfl,_r0_n1,r0_p2,r0_q2,_,rfl,_r0_n2,_,rfl,_,rfl⟩:=hf0
 have c0_0:=hc0 0 (by simp)
 have c0_1:=hc0 1 (by simp)
 have c0_2:=hc0 2 (by simp)
 have c0_3:=hc0 3 (by simp)
 have c0_4:=hc0 4 (by simp)
 have c0_5:=hc0 5 (by simp)
 have c0_6:=hc0 6 (by simp)
 simp only [List.getD_cons_zero,List.getD_cons_succ] at c0_0 c0_1 c0_2 c0_3 c0_4 c0_5 c0_6
 clear hc0
 go_wp2
 exact zR (v:=.agg #[r0_p0,r0_q0,r0_p1,r0_q1,r0_p2,r0_q2,.int .i64 er]) (by simp [results,Tryz.results41,go_sem,c0_0,c0_1,c0_2,c0_3,c0_4,c0_5,c0_6]) E.below ⟨_,rfl,hP0⟩

theorem exGIs {w:World} {v v':Value} {P Q:F3} (h:(Fq.st [.n P.a,.n P.b,.n P.c,.v (.int .i64 0)]).P v w) (h':(f3 Q.a Q.b Q.c).P v' w) (he:eqF P.a P.b P.c Q.a Q.b Q.c=true) :
  Rt 32 #[v,v'] w fun v' w'=>v'=.bool true:=by
 have HE:=hidd he
 clear he
 obtain ⟨_,rfl,hf0⟩:=h
 have hF0:=hf0
 obtain ⟨y0_p0,y0_q0,_,rfl,_y0_n0,y0_p1,y0_q1,_,rfl,_y0_n1,y0_p2,y0_q2,_,rfl,_y0_n2,_,rfl,_,rfl⟩:=hf0
 obtain ⟨y1_p0,y1_q0,y1_p1,y1_q1,y1_p2,y1_q2,rfl,hF1⟩:=o3 h'
 obtain ⟨w1,b1,hw1,hb1,hs1,E⟩:=gS w 48 hF0
 obtain ⟨w2,b2,hw2,hb2,hs2,E⟩:=fS E hs1 38 hF1
 go_enter Tryz.func32,Tryz.ntmps32
 go_upto_region 1 with (fail)
 rw [← hw1,← hw2]
 rw [← hb2,← hb1]
 clear hw1 hw2 hb1 hb2 hs2 hs1
 refine rz [.p b1 6,.i 0,.t,.t,.p b1 0,.w (f3 P.a P.b P.c),.w (f3 Q.a Q.b Q.c),.t,.t,.t] N2 [] E (fun hp=>⟨qa b1 0 6 hp zw,wXc 6 hp (mq 1 rfl) zi,zo hp (sqi 1),zS,zg b1 0 0 hp zw,lG 0 6 hp gqi (mq 1 rfl) zAd zi fun v w h=>h,lG 0 6 hp gqi (mq 0 rfl) zAd zw fun v w h=>h,zC hp zOh zi zi (fun v v' w h h'=>zPi h h' HE.out),zt hp (sqi 3) (sqi 7),zS,tv⟩) ?_
 intro w3 E _ _
 simp only [Z1] at E ⊢
 clear HE
 go_wp2
 exact zR (v:=.bool true) (by simp [results,Tryz.results32,go_sem]) E.below rfl

theorem zGn {D:Int} {P Q:F3} (hD:D<0) (hP:Sc D P) (hQ:Sc D Q):cmF P.a P.b P.c Q.a Q.b Q.c=mulF D P Q∧cmE P.a P.b P.c Q.a Q.b Q.c=0:=by
 have e1:=zGe hP hD
 have e2:=zGe hQ hD
 have e3:cmE P.a P.b P.c Q.a Q.b Q.c=0:=by unfold cmE;rw [if_pos e1,if_pos e2,if_pos (by rw [hP.disc,hQ.disc])]
 refine ⟨?_,e3⟩
 unfold cmF
 rw [if_pos e3,hP.disc]
theorem cm_no {P Q:F3} {er:Int} (h:cmE P.a P.b P.c Q.a Q.b Q.c=er) (h0:¬ er=0):cmF P.a P.b P.c Q.a Q.b Q.c=F3.zero:=by
 unfold cmF
 rw [if_neg (by rw [h];exact h0)]
 rfl
def e1F:F3:=⟨1,1,6⟩
def e2F:F3:=⟨2,1,3⟩
def e3F:F3:=⟨2,-1,3⟩
theorem e1_gm:Gm (-23) e1F:=zE4 (D:=-23) zd zd
theorem e2_gm:Gm (-23) e2F:=⟨⟨by decide,by decide,zMn (show cont 2 1 3=1 by decide)⟩,⟨by decide,by decide,by decide,by decide,by decide⟩⟩
theorem e3_gm:Gm (-23) e3F:=⟨⟨by decide,by decide,zMn (show cont 2 (-1) 3=1 by decide)⟩,⟨by decide,by decide,by decide,by decide,by decide⟩⟩
theorem e_sm:Sm e1F∧Sm e2F∧Sm e3F:=⟨⟨by decide,by decide,by decide⟩,⟨by decide,by decide,by decide⟩,⟨by decide,by decide,by decide⟩⟩
theorem e_22:mulF (-23) e2F e2F=e3F:=by
 obtain ⟨c1,c2⟩:=zQ2 (D:=-23) (a:=2) (b:=1) (c:=3) (a':=2) (b':=1) (c':=3) (h:=2) (x:=0) (y:=1) (e:=1) (u:=0) (z:=1) e2_gm.1 e2_gm.1 zd zd zd zd zd zd zd
 have q1:((2:Int)*2/(1*1))=4:=by decide
 have q2:(((0:Int)*0*2*1+0*1*2*1+1*((1*1+-23)/2))/1)=-11:=by decide
 have q3:(((-11:Int)*-11 - -23)/(4*4))=9:=by decide
 rw [q1,q2] at c1 c2
 rw [q3] at c2
 exact zHz zd e2_gm.1 e2_gm.1 ⟨e3_gm.2,⟨4,-11,9⟩,c2,c1,⟨_,_,_,_,und_e22⟩⟩
theorem e_23:mulF (-23) e2F e3F=e1F:=mul_opF zd zd e2_gm.1
theorem e_33:mulF (-23) e3F e3F=e2F:=by
 have h1:=zFe (D:=-23) zd e2_gm.1 e2_gm.1 e3_gm.1
 rw [e_22,e_23] at h1
 rw [h1]
 exact zFf zd zd e2_gm
theorem e_11:mulF (-23) e1F e1F=e1F:=zFf zd zd e1_gm
theorem e_ord:Ord (-23) e2F 3:=by
 have p1:pwF (-23) e2F 1=e2F:=zKg zd zd e2_gm
 have p2:pwF (-23) e2F 2=e3F:=by show mulF (-23) (pwF (-23) e2F 1) e2F=e3F;rw [p1,e_22]
 have p3:pwF (-23) e2F 3=e1F:=by show mulF (-23) (pwF (-23) e2F 2) e2F=e1F;rw [p2,zMd zd e3_gm.1 e2_gm.1,e_23]
 have n2:e2F≠onF (-23):=fun e=>by have:=congrArg F3.a e;revert this;decide
 have n3:e3F≠onF (-23):=fun e=>by have:=congrArg F3.a e;revert this;decide
 refine ⟨by decide,p3,fun j h1 h2=>?_⟩
 have:j=1∨j=2:=by omega
 rcases this with rfl | rfl
 ·rw [p1];exact n2
 ·rw [p2];exact n3
theorem e_four:¬ pwF (-23) e2F 4=onF (-23):=fun e=>by
 have:=(e_ord.iff zd zd e2_gm.1 4).1 e
 revert this
 decide
theorem e_inv:pzF (-23) e2F (-1)=e3F:=zKg (D:=-23) (P:=e3F) zd zd e3_gm
theorem e_roots:[e1F,e2F,e3F].filter (rtB (rdF e2F))=[e3F]:=by
 have h2:rdF e2F=e2F:=rdF_gm (D:=-23) zd e2_gm e_sm.2.1
 have r1:rtB e2F e1F=false:=by
  unfold rtB
  rw [show e1F.b*e1F.b-4*(e1F.a*e1F.c)=-23 from rfl,e_11]
  rfl
 have r2:rtB e2F e2F=false:=by
  unfold rtB
  rw [show e2F.b*e2F.b-4*(e2F.a*e2F.c)=-23 from rfl,e_22]
  simp [eqF,e3F,e2F]
 have r3:rtB e2F e3F=true:=by
  unfold rtB
  rw [show e3F.b*e3F.b-4*(e3F.a*e3F.c)=-23 from rfl,e_33,zGe e3_gm.1 zd]
  rfl
 rw [h2]
 simp [List.filter,r1,r2,r3]
theorem kron_2_5:kron 2 5=-1:=by
 unfold kron
 rw [if_neg zd,if_neg zd]
 show 1*kro 2 5=-1
 rw [zL3 zd,J_two zd]
 decide
theorem nbits_two:zBa 2=2:=by
 unfold zBa
 rw [if_neg zd]
 decide
theorem least5:Least 5 5:=⟨by decide,by decide,fun q h1 h2=>by (have:q=2∨q=3∨q=4:=by omega);rcases this with rfl | rfl | rfl <;> decide⟩
theorem least3:Least 3 3:=⟨by decide,by decide,fun q h1 h2=>by (have:q=2:=by omega);subst this;decide⟩
theorem ab90 {x:Int} (h:-9223372036854775808≤x) (h':x≤9223372036854775807):ab x<pw 90:=Int.lt_of_lt_of_le (zAq h h') (zAa zm)
theorem exPrime5 {w:World} {v:Value} (hT:Tabs w) (h:Num w v (-23)):Calls Tryz.prog 93 #[v,.int .i64 5] w fun e w'=>∃ v',e=.returned v'∧Below w.heap.size w w'∧(Fq.tup2 (f3 F3.zero.a F3.zero.b F3.zero.c) (Fq.is (.int .i64 6))).P v' w':=
 zT0 (pp:=5) (F:=F3.zero) h (zAq zd zd) zd zd zd zd least5 fun w1 x x' hb hx hx'=>
  zTv hx hx' (zAq zd zd) (zAq zd zd) (e:=6) (z:=0) zd fun w2 y y' hb2 hy hy'=>
   exMSqrtN hy hy' (ab90 zd zd) (ab90 zd zd) ((hT.mono hb).mono hb2) zd (by show 1<zBa 2;rw [nbits_two];decide) (by show kron 2 5≠1;rw [kron_2_5];decide)
theorem rd312:rdF ⟨3,1,2⟩=e3F:=by
 have s:Sm ⟨3,1,2⟩:=⟨by decide,by decide,by decide⟩
 have hs:Sc (-23) ⟨3,1,2⟩:=⟨by decide,by decide,zMn (show cont 3 1 2=1 by decide)⟩
 obtain ⟨h1,h2⟩:=zGd zd hs s
 exact zKj (P:=⟨3,1,2⟩) ⟨0,-1,1,0,by decide,by decide,by decide,by decide⟩ h2 e3_gm.2 h1.2
theorem exPrime3 {w:World} {v:Value} (h:Num w v (-23)):Calls Tryz.prog 93 #[v,.int .i64 3] w fun e w'=>∃ v',e=.returned v'∧Below w.heap.size w w'∧(Fq.tup2 (f3 e3F.a e3F.b e3F.c) (Fq.is (.int .i64 0))).P v' w':=by
 have hh:=zT1 (pp:=3) (F:=⟨3,1,2⟩) h (zAq zd zd) zd zd zd zd least3 ⟨by decide,by decide,by decide⟩ zd zd fun w1 x x' hb hx hx'=>
  zTw (r:=1) hx hx' (zAq zd zd) (zAq zd zd) (zAq zd zd) zd fun w2 y y' hb2 hy hy'=>
   exMSqrtS hy hy' (ab90 zd zd) (ab90 zd zd) zd (by show zBa 1≤1;decide)
 rw [rd312] at hh
 exact hh

section
variable {os : List Oper} {Q : Exit → Act → World → Prop} {a : Act} {p : Pq} {B B0 : Nat} {w0 : World}
variable {i s : Nat} {d : Option Tmp} {ty : TypeId} {ps : String} {af : Array Edge} {gd : Option (Nat × Bool)}
theorem zWg {n0:Nb} {o1:Operand} {f1:List Fd} (hp:p.Ok B B0) (hg:GdQ os a p B B0 w0 af gd) (hi:n0∈p.new) (hii:n0.i=i) (hki:n0.k=i) (hsl:n0.s=some 1) (hm:n0.m=6) (hF1:n0.F1=Fq.st f1) (l1:sz f1=6)
  (g1:SrcQ os a p B B0 w0 af o1 (Fq.st f1).P)
  (hC:∀ v w',(p.c i).P v w') (h1:∀ o∈p.old,o.k≠i) (h2:∀ n∈p.new,n.i≠i→n.k≠i) :
  zAg os Q a p B B0 w0 i { dst:=d,op:=.buildSlice 54 1 #[(0,o1)],type:=ty,pos:=ps,after:=af,guard:=gd }:=by
 intro hio L vs w hG hL hd hc
 obtain ⟨us1,E1,z1⟩:=g1 L vs w hG hd
 have y1:=z1.length
 rw [l1] at y1
 obtain ⟨c1a,c1b,c1c,c1d,c1e,c1f,rfl⟩:=sixQ y1
 obtain ⟨us,hus⟩:∃ us:List Value,us=[c1a,c1b,c1c,c1d,c1e,c1f]:=⟨_,rfl⟩
 refine wpOp_step hio fun K' hK=>?_
 rw [if_pos (zGi (o:={ dst:=d,op:=.buildSlice 54 1 #[(0,o1)],type:=ty,pos:=ps,after:=af,guard:=gd }) hg hG hd)]
 have e:(execOp (lay os.toArray L vs os.toArray.size a).eval ({ dst:=d,op:=.buildSlice 54 1 #[(0,o1)],type:=ty,pos:=ps,after:=af,guard:=gd }:Oper)).run Tryz.prog w=.ok (.value (.slice (some ⟨w.heap.size,0,none⟩) 1 1)) (w.alloc (.cells us.toArray 38)):=by
  generalize (lay os.toArray L vs os.toArray.size a).eval=ρ at E1
  simp [execOp,go_sem,E1,hus]
 unfold Oper.wp
 rw [e]
 have hb:=zAh w (.cells us.toArray 38)
 have hfit:Fits w f1 us:=by rw [hus];exact z1
 subst hii
 have hnow:n0.now (up L n0.i true)=n0.F1:=by
  unfold Nb.now
  rw [hsl]
  rfl
 have hlay:=hG.lay hp hi (F:=n0.F1) hnow hC h1 h2 38 (us:=us) (by rw [hus,hm];rfl) zm hfit.tame (by rw [hF1];exact ⟨us,rfl,hfit.mono hb⟩)
 have hptr:n0.ptr w.heap.size=.slice (some ⟨w.heap.size,0,none⟩) 1 1:=by unfold Nb.ptr;rw [hsl]
 rw [hptr] at hlay
 exact hK _ _ ⟨_,rfl,hlay⟩
end
def eDF:F3:=⟨1,0,1⟩
def ePF:F3:=⟨2,0,2⟩
theorem e_all:∀ Q ∈ [e1F,e2F,e3F],Sm Q:=by
 intro Q hQ
 simp at hQ
 rcases hQ with rfl | rfl | rfl
 ·exact e_sm.1
 ·exact e_sm.2.1
 ·exact e_sm.2.2
theorem exRoots23 {w:World} {v vl:Value} (h:(f3 e2F.a e2F.b e2F.c).P v w) (hl:Fl w vl [e1F,e2F,e3F]):Calls Tryz.prog 21 #[v,vl] w fun e w'=>∃ v1 B,e=.returned (.tuple #[v1,.int .i64 0])∧Below w.heap.size w w'∧w.heap.size≤B∧Ls 38 6 w' B v1 (([e1F,e2F,e3F].filter (rtB (rdF e2F))).map frF):=
 zT5 h e_sm.2.1 e2_gm.1 zd hl zd e_all
theorem e_odd:cmE e2F.a e2F.b e2F.c eDF.a eDF.b eDF.c=5:=by decide
theorem e_prim:cmE ePF.a ePF.b ePF.c e2F.a e2F.b e2F.c=80:=by decide
theorem zUa (w:World) (hT:Tabs w) :
  Rt 9 #[] w fun v' w'=>v'=.bool true:=by
 have HT:=hidd hT
 obtain ⟨i0,hi,hz0,hz1,hz2⟩:=info_parts zL1
 clear hi hz0 hz1 hz2 i0
 go_enter Tryz.func9,Tryz.ntmps9
 go_upto_region 1 with (fail)
 have E:=Fr.start w
 refine rz [.w (f3 e1F.a e1F.b e1F.c),.w (f3 e2F.a e2F.b e2F.c),.w (f3 e3F.a e3F.b e3F.c),.k,.k,.k,.a,.a,.a] [] [⟨3,6,6,f3 0 0 0,f3 e1F.a e1F.b e1F.c,none⟩,⟨4,7,6,f3 0 0 0,f3 e2F.a e2F.b e2F.c,none⟩,⟨5,8,6,f3 0 0 0,f3 e3F.a e3F.b e3F.c,none⟩] E (fun hp=>⟨zDh (F:=(Fq.is (.int .i64 1)).P) (G:=(Fq.is (.int .i64 1)).P) (F3:=(Fq.is (.int .i64 6)).P) hp fo tv (zGp) (zAj (fun _=>rfl)) (zAj (fun _=>rfl)) (zAj (fun _=>rfl)) (fun v v' u w h h' g=>(by subst h h' g;exact zGy zd zd zd)),zDh (F:=(Fq.is (.int .i64 2)).P) (G:=(Fq.is (.int .i64 1)).P) (F3:=(Fq.is (.int .i64 3)).P) hp fo tv (zGp) (zAj (fun _=>rfl)) (zAj (fun _=>rfl)) (zAj (fun _=>rfl)) (fun v v' u w h h' g=>(by subst h h' g;exact zGy zd zd zd)),zDh (F:=(Fq.is (.int .i64 2)).P) (G:=(Fq.is (.int .i64 (-1))).P) (F3:=(Fq.is (.int .i64 3)).P) hp fo tv (zGp) (zAj (fun _=>rfl)) (zAj (fun _=>rfl)) (zAj (fun _=>rfl)) (fun v v' u w h h' g=>(by subst h h' g;exact zGy zd zd zd)),aS hp (mq 0 rfl) zAu zBw,aS hp (mq 1 rfl) zAu zBw,aS hp (mq 2 rfl) zAu zBw,sS 0 hp (mq 0 rfl) zAl,sS 1 hp (mq 1 rfl) zAl,sS 2 hp (mq 2 rfl) zAl,tv⟩) ?_
 intro w1 b1_3 b1_4 b1_5 E _ _
 simp only [Z1] at E ⊢
 go_upto_region 2 with (fail)
 refine rz [.w (f3 e2F.a e2F.b e2F.c),.w (Fq.tup2 (Fq.is (.int .i64 ((3:Nat):Int))) (Fq.is (.int .i64 0))),.w (Fq.tup2 (Fq.is (.int .i64 ((3:Nat):Int))) (Fq.is (.int .i64 0))),.i ((3:Nat):Int),.i 0,.i ((3:Nat):Int),.i 0] N3 [] E (fun hp=>⟨lS 0 6 hp (mq 1 rfl) zAd zw,zD3 (F:=(f3 e2F.a e2F.b e2F.c).P) (G:=(Fq.is (.int .i64 6)).P) hp fo tv (zOn) (sqi 0) (zAj (fun _=>rfl)) (fun v v' w h h'=>(by subst h';exact zTu (hh:=6) (o:=3) h e_sm.2.1 e2_gm.1 (GC.of zd zd) zd zd e_ord zd)),zS,zS,zS,zS,zS,tv⟩) ?_
 intro w2 E _ _
 simp only [Z1] at E ⊢
 go_upto_region 3 with (fail)
 refine rz [.w (f3 e2F.a e2F.b e2F.c),.w (Fq.tup2 (Fq.is (.int .i64 0)) (Fq.is (.int .i64 1))),.w (Fq.tup2 (Fq.is (.int .i64 0)) (Fq.is (.int .i64 1))),.i 0,.i 1,.i 0,.i 1] N3 [] E (fun hp=>⟨lS 0 6 hp (mq 1 rfl) zAd zw,zD3 (F:=(f3 e2F.a e2F.b e2F.c).P) (G:=(Fq.is (.int .i64 4)).P) hp fo tv (zOn) (sqi 0) (zAj (fun _=>rfl)) (fun v v' w h h'=>(by subst h';exact zTt (hh:=4) h e_sm.2.1 e2_gm.1 (GC.of zd zd) zd zd e_four)),zS,zS,zS,zS,zS,tv⟩) ?_
 intro w3 E _ _
 simp only [Z1] at E ⊢
 go_upto_region 4 with (fail)
 refine wp_region_list ?_
 refine zFo rfl 38 (.tmp 2) rfl zAd rfl rfl (StAt.of_boxQ (E.box 1 rfl)) fun v0 hv0=>?_
 obtain ⟨es0,rfl,hf0⟩:=hv0
 have hl0:=hf0.length
 obtain ⟨p0a,p0b,p0c,p0d,p0e,p0f,rfl⟩:=sixQ hl0
 clear hl0
 refine zFo rfl 38 (.tmp 1) rfl zAd rfl rfl (StAt.of_boxQ (E.box 0 rfl)) fun v1 hv1=>?_
 obtain ⟨es1,rfl,hf1⟩:=hv1
 have hl1:=hf1.length
 obtain ⟨p1a,p1b,p1c,p1d,p1e,p1f,rfl⟩:=sixQ hl1
 clear hl1
 refine zFo rfl 38 (.tmp 2) rfl zAd rfl rfl (StAt.of_boxQ (E.box 1 rfl)) fun v2 hv2=>?_
 obtain ⟨es2,rfl,hf2⟩:=hv2
 have hl2:=hf2.length
 obtain ⟨p2a,p2b,p2c,p2d,p2e,p2f,rfl⟩:=sixQ hl2
 clear hl2
 refine zFo rfl 38 (.tmp 3) rfl zAd rfl rfl (StAt.of_boxQ (E.box 2 rfl)) fun v3 hv3=>?_
 obtain ⟨es3,rfl,hf3⟩:=hv3
 have hl3:=hf3.length
 obtain ⟨p3a,p3b,p3c,p3d,p3e,p3f,rfl⟩:=sixQ hl3
 clear hl3
 have hf5:Fits w3 (rowQ [e1F,e2F,e3F]) [p1a,p1b,p1c,p1d,p1e,p1f,p2a,p2b,p2c,p2d,p2e,p2f,p3a,p3b,p3c,p3d,p3e,p3f]:=hf1.append (hf2.append hf3)
 have HFV:Hid ((f3 e2F.a e2F.b e2F.c).P (.agg #[p0a,p0b,p0c,p0d,p0e,p0f]) w3):=⟨_,rfl,hf0⟩
 have HF5:=hidd hf5
 clear hf0 hf1 hf2 hf3 hf5
 go_upto_region 5 with (first | (go_at_call 21;(with_reducible refine (exRoots23 ((Fq.st _).mono HFV.out (zAh _ _)) (Fl.built (n:=3) (Ps:=[e1F,e2F,e3F]) rfl HF5.out zd)).mono ?_);rintro e w9 ⟨vL,BL,rfl,hBW,hBs,hLs⟩) | fail)
 have hfl:=hLs.fl
 rw [e_roots] at hfl
 have HFL:=hidd hfl
 have EE:=E.mono ((zAh _ _).trans (hBW.mono (zAh _ _).size))
 clear hLs hfl hBs hBW HFV HF5 E
 have HO1:Hid (∀ w1,Below w9.heap.size w9 w1→StAt w1 b1_3 0 [.n e1F.a,.n e1F.b,.n e1F.c]):=fun w1 hb1=>(EE.box 0 rfl).stAt hb1
 have HO2:Hid (∀ w1,Below w9.heap.size w9 w1→StAt w1 b1_4 0 [.n e2F.a,.n e2F.b,.n e2F.c]):=fun w1 hb1=>(EE.box 1 rfl).stAt hb1
 have HO3:Hid (∀ w1,Below w9.heap.size w9 w1→StAt w1 b1_5 0 [.n e3F.a,.n e3F.b,.n e3F.c]):=fun w1 hb1=>(EE.box 2 rfl).stAt hb1
 have HB0:=hidd EE.below
 have HT9:=hidd (HT.out.mono EE.below)
 clear HT EE
 have HT:=HT9
 clear HT9
 have E:=Fr.start w9
 refine rz [.n (-23),.w (Fq.st [.n F3.zero.a,.n F3.zero.b,.n F3.zero.c,.v (.int .i64 6)]),.k,.a] [] [⟨2,3,7,Fq.st [.n 0,.n 0,.n 0,.v (.int .i64 0)],Fq.st [.n F3.zero.a,.n F3.zero.b,.n F3.zero.c,.v (.int .i64 6)],none⟩] E (fun hp=>⟨zBl (F:=(Fq.is (.int .i64 (-23))).P) hp fo tv (zBv) (zAj (fun _=>rfl)) (fun v w h=>(by subst h;exact rOfK w (-23) zm zm)),zD4 (F:=(Fq.num (-23)).P) (G:=(Fq.is (.int .i64 5)).P) hp fo tv (zOf) rfl (sqi 0) (zAj (fun _=>rfl)) (fun v v' w hbw h h'=>(by subst h';exact zO8 h fun w1 x hb1 hx=>exPrime5 ((HT.out.mono hbw).mono hb1) hx)),aS hp (mq 0 rfl) zF7 zM2,sS 1 hp (mq 0 rfl) zG8,tv⟩) ?_
 intro w4 b4_2 E _ _
 simp only [Z1] at E ⊢
 go_upto_region 6 with (fail)
 refine rz [.w (f3 e2F.a e2F.b e2F.c),.w (f3 eDF.a eDF.b eDF.c),.w (Fq.st [.n F3.zero.a,.n F3.zero.b,.n F3.zero.c,.v (.int .i64 5)]),.k,.a] [none] [⟨3,4,7,Fq.st [.n 0,.n 0,.n 0,.v (.int .i64 0)],Fq.st [.n F3.zero.a,.n F3.zero.b,.n F3.zero.c,.v (.int .i64 5)],none⟩] E (fun hp=>⟨zCg (off:=0) (l:=6) (fs:=[.n e2F.a,.n e2F.b,.n e2F.c]) hp fo tv HO2.out zAd rfl (sqo 2) (fun v w h=>h),zDh (F:=(Fq.is (.int .i64 1)).P) (G:=(Fq.is (.int .i64 0)).P) (F3:=(Fq.is (.int .i64 1)).P) hp fo tv (zGp) (zAj (fun _=>rfl)) (zAj (fun _=>rfl)) (zAj (fun _=>rfl)) (fun v v' u w h h' g=>(by subst h h' g;exact zGy zd zd zd)),zC hp zHo zi zi fun v v' w h h'=>zHs h h' e_sm.2.1 ⟨by decide,by decide,by decide⟩ (cm_no e_odd zd) e_odd,aS hp (mq 0 rfl) zF7 zM2,sS 2 hp (mq 0 rfl) zG8,tv⟩) ?_
 intro w5 b5_3 E _ _
 simp only [Z1] at E ⊢
 go_upto_region 7 with (fail)
 refine rz [.i 0,.o,.o,.i ((3:Nat):Int),.o,.o,.o,.i 1,.o,.o,.o,.i 0,.o,.o,.o,.p b4_2 6,.i 6,.o,.o,.o,.p b5_3 6,.i 5,.o,.o,.o,.w (f3 ePF.a ePF.b ePF.c),.w (f3 e2F.a e2F.b e2F.c),.w (Fq.st [.n F3.zero.a,.n F3.zero.b,.n F3.zero.c,.v (.int .i64 80)]),.i 80,.o,.o] N2 [] E (fun hp=>⟨zS,zo hp (sqi 0),zS,zAs hp fo gqi (sqo 4),zo hp (sqi 3),zt hp (sqi 2) (sqi 4),zS,zAs hp fo gqi (sqo 7),zo hp (sqi 7),zt hp (sqi 6) (sqi 8),zS,zAs hp fo gqi (sqo 9),zo hp (sqi 11),zt hp (sqi 10) (sqi 12),zS,zg b4_2 0 6 hp zw,zKh (off:=6) (fs:=[.n F3.zero.a,.n F3.zero.b,.n F3.zero.c,.v (.int .i64 6)]) (u:=.int .i64 6) hp fo gqi (mq 1 rfl) (.inl rfl) rfl rfl (fun ρ w b h1 h2=>by simp [execOp,go_sem,h1,h2]) (sqi 15) (fun _=>rfl),zo hp (sqi 16),zt hp (sqi 14) (sqi 17),zS,zg b5_3 0 6 hp zw,zKh (off:=6) (fs:=[.n F3.zero.a,.n F3.zero.b,.n F3.zero.c,.v (.int .i64 5)]) (u:=.int .i64 5) hp fo gqi (mq 0 rfl) (.inl rfl) rfl rfl (fun ρ w b h1 h2=>by simp [execOp,go_sem,h1,h2]) (sqi 20) (fun _=>rfl),zo hp (sqi 21),zt hp (sqi 19) (sqi 22),zS,zDh (F:=(Fq.is (.int .i64 2)).P) (G:=(Fq.is (.int .i64 0)).P) (F3:=(Fq.is (.int .i64 2)).P) hp fo gqi (zGp) (zAj (fun _=>rfl)) (zAj (fun _=>rfl)) (zAj (fun _=>rfl)) (fun v v' u w h h' g=>(by subst h h' g;exact zGy zd zd zd)),zCg (off:=0) (l:=6) (fs:=[.n e2F.a,.n e2F.b,.n e2F.c]) hp fo gqi HO2.out zAd rfl (sqo 2) (fun v w h=>h),zC hp zHo zi zi (fun v v' w h h'=>zHs h h' ⟨by decide,by decide,by decide⟩ e_sm.2.1 (cm_no e_prim zd) e_prim),q_gotErr (a0:=F3.zero.a) (b0:=F3.zero.b) (c0:=F3.zero.c) (e0:=80) hp fo gqi (sqi 27) (fun _=>rfl),zo hp (sqi 28),zt hp (sqi 24) (sqi 29),tv⟩) ?_
 intro w6 E _ _
 simp only [Z1] at E ⊢
 go_upto_region 9 with (fail)
 refine rz [.w (f3 e2F.a e2F.b e2F.c),.w (f3 e2F.a e2F.b e2F.c),.w (Fq.st [.n e3F.a,.n e3F.b,.n e3F.c,.v (.int .i64 0)]),.w (f3 e3F.a e3F.b e3F.c),.t,.t,.w (f3 e2F.a e2F.b e2F.c),.w (f3 e3F.a e3F.b e3F.c),.w (Fq.st [.n e1F.a,.n e1F.b,.n e1F.c,.v (.int .i64 0)]),.w (f3 e1F.a e1F.b e1F.c),.t,.t,.t,.w (f3 e2F.a e2F.b e2F.c),.n (-1),.w (Fq.st [.n e3F.a,.n e3F.b,.n e3F.c,.v (.int .i64 0)]),.w (f3 e3F.a e3F.b e3F.c),.t,.t,.t,.n (-23),.w (Fq.st [.n e3F.a,.n e3F.b,.n e3F.c,.v (.int .i64 0)]),.w (f3 e3F.a e3F.b e3F.c),.t,.t,.t,.u (vL),.w (f3 e3F.a e3F.b e3F.c),.k,.t,.t,.t] N2 [⟨28,28,6,f3 e3F.a e3F.b e3F.c,f3 e3F.a e3F.b e3F.c,(some 1)⟩] E (fun hp=>⟨zCg (off:=0) (l:=6) (fs:=[.n e2F.a,.n e2F.b,.n e2F.c]) hp fo tv HO2.out zAd rfl (sqo 2) (fun v w h=>h),zCg (off:=0) (l:=6) (fs:=[.n e2F.a,.n e2F.b,.n e2F.c]) hp fo tv HO2.out zAd rfl (sqo 2) (fun v w h=>h),zC hp zHo zi zi fun v v' w h h'=>zHs h h' e_sm.2.1 e_sm.2.1 ((zGn zd e2_gm.1 e2_gm.1).1.trans e_22) (zGn zd e2_gm.1 e2_gm.1).2,zCg (off:=0) (l:=6) (fs:=[.n e3F.a,.n e3F.b,.n e3F.c]) hp fo tv HO3.out zAd rfl (sqo 3) (fun v w h=>h),zC hp zJf zi zi fun v v' w h h'=>exGIs h h' zd,zS,zCg (off:=0) (l:=6) (fs:=[.n e2F.a,.n e2F.b,.n e2F.c]) hp fo gqi HO2.out zAd rfl (sqo 2) (fun v w h=>h),zCg (off:=0) (l:=6) (fs:=[.n e3F.a,.n e3F.b,.n e3F.c]) hp fo gqi HO3.out zAd rfl (sqo 3) (fun v w h=>h),zC hp zHo zi zi (fun v v' w h h'=>zHs h h' e_sm.2.1 e_sm.2.2 ((zGn zd e2_gm.1 e3_gm.1).1.trans e_23) (zGn zd e2_gm.1 e3_gm.1).2),zCg (off:=0) (l:=6) (fs:=[.n e1F.a,.n e1F.b,.n e1F.c]) hp fo gqi HO1.out zAd rfl (sqo 1) (fun v w h=>h),zC hp zJf zi zi (fun v v' w h h'=>exGIs h h' zd),zt hp (sqi 5) (sqi 10),zS,zCg (off:=0) (l:=6) (fs:=[.n e2F.a,.n e2F.b,.n e2F.c]) hp fo gqi HO2.out zAd rfl (sqo 2) (fun v w h=>h),zBl (F:=(Fq.is (.int .i64 (-1))).P) hp fo gqi (zBv) (zAj (fun _=>rfl)) (fun v w h=>(by subst h;exact rOfK w (-1) zm zm)),zC hp zS5 zi zi (fun v v' w h h'=>(by have hh9:=zT7 (GC.of (D:=-23) zd zd) e2_gm.1 (zAq zd zd |> fun h9=>Int.lt_of_lt_of_le h9 (zAa zm)) e_sm.2.1 h h';rw [e_inv] at hh9;exact hh9)),zCg (off:=0) (l:=6) (fs:=[.n e3F.a,.n e3F.b,.n e3F.c]) hp fo gqi HO3.out zAd rfl (sqo 3) (fun v w h=>h),zC hp zJf zi zi (fun v v' w h h'=>exGIs h h' zd),zt hp (sqi 12) (sqi 17),zS,zBl (F:=(Fq.is (.int .i64 (-23))).P) hp fo gqi (zBv) (zAj (fun _=>rfl)) (fun v w h=>(by subst h;exact rOfK w (-23) zm zm)),zD4 (F:=(Fq.num (-23)).P) (G:=(Fq.is (.int .i64 3)).P) hp fo gqi (zOf) rfl (sqi 20) (zAj (fun _=>rfl)) (fun v v' w hbw h h'=>(by subst h';exact zO8 h fun w1 x hb1 hx=>exPrime3 hx)),zCg (off:=0) (l:=6) (fs:=[.n e3F.a,.n e3F.b,.n e3F.c]) hp fo gqi HO3.out zAd rfl (sqo 3) (fun v w h=>h),zC hp zJf zi zi (fun v v' w h h'=>exGIs h h' zd),zt hp (sqi 19) (sqi 23),zS,zAs hp fo gqi (sqo 8),zCg (off:=0) (l:=6) (fs:=[.n e3F.a,.n e3F.b,.n e3F.c]) hp fo gqi HO3.out zAd rfl (sqo 3) (fun v w h=>h),zWg (f1:=[.n e3F.a,.n e3F.b,.n e3F.c]) hp gqi (mq 0 rfl) rfl rfl rfl rfl rfl rfl (sqi 27) (fun _ _=>trivial) (zCr rfl) (zD1 rfl),q_callWSl (F:=(Fq.is (vL)).P) hp fo gqi zS7 rfl (mq 0 rfl) rfl (sqi 26) (zEp rfl rfl (by simp) rfl) (fun v bx w hbw h hbx=>(by subst h;exact zTi (HFL.out.mono hbw) (Fl.ofBox (Ps:=[e3F]) rfl hbx) zd)),zt hp (sqi 25) (sqi 29),zS,tv⟩) ?_
 intro w7 b7_28 E _ _
 simp only [Z1] at E ⊢
 clear HO1 HO2 HO3 HFL HT
 have hB:=HB0.out.trans (E.below.mono HB0.out.size)
 clear HB0
 go_wp2
 refine bodyPost_ret (v:=.bool true) ?_ rfl (by first | exact ⟨_,rfl,hB,rfl⟩ | exact ⟨hB,rfl⟩ | exact ⟨rfl,hB⟩ | exact hB)
 simp [results,Tryz.results9,go_sem]

theorem lift5 {x:Int} (h:ab x<pw 3):ab x<pw 5:=Int.lt_of_lt_of_le h (zAa zm)
theorem MOk.b5 {n:Int} {P:F3} (h:MOk n P):ab P.a<pw 5∧ab P.b<pw 5∧ab P.c<pw 5:=⟨lift5 h.2.2.1.1,lift5 h.2.2.1.2.1,lift5 h.2.2.1.2.2⟩
theorem zP5 {n i m:Int} (h0:3≤n) (h1:n≤2004) (h4:n % 4=0∨n % 4=3):Sc (-n) (zDn n i m)∧Sm (zDn n i m):=by
 obtain ⟨j,_,_,hj⟩:=zKb i h0 h1 h4
 have hg:Gm (-n) (zCs n i):=(listF_all h0 h1).1 (List.mem_of_getElem? hj)
 have ok:=zMb (i:=i) (m:=m) h0 h1 h4
 refine ⟨?_,zFp (by have:=ok.2.2.2.1;omega),zFp (by have:=ok.2.2.2.2.1;omega),zFp (by have:=ok.2.2.2.2.2;omega)⟩
 unfold zDn
 split
 ·exact hg.1
 ·exact Eqv.sc (P:=zCs n i) zm ⟨_,_,_,_,by omega,rfl,rfl,rfl⟩ hg.1
theorem exGProd0 {w:World} {v v':Value} {D:Int} {P Q R:F3} (hD:D<0) (hP:Sc D P) (hQ:Sc D Q) (sP:Sm P) (sQ:Sm Q) (hR:mulF D P Q=R) (h:(f3 P.a P.b P.c).P v w) (h':(f3 Q.a Q.b Q.c).P v' w):Calls Tryz.prog 16 #[v,v'] w fun e w'=>∃ v',e=.returned v'∧Below w.heap.size w w'∧(Fq.st [.n R.a,.n R.b,.n R.c,.v (.int .i64 0)]).P v' w':=
 zHs h h' sP sQ ((zGn hD hP hQ).1.trans hR) (zGn hD hP hQ).2
theorem tmod4 (y:Int):-3≤Int.tmod y 4∧Int.tmod y 4≤3:=by
 have h1:=Int.tmod_lt_of_pos y (show (0:Int)<4 by decide)
 have h2:=Int.tmod_lt_of_pos (-y) (show (0:Int)<4 by decide)
 rw [Int.neg_tmod] at h2
 generalize Int.tmod y 4=z at h1 h2
 omega
theorem und_val {a b c p q r s x y z:Int} (h:Und a b c p q r s x y z) (t v:Int):qv x y z t v=qv a b c (p*t+q*v) (r*t+s*v):=by
 rw [h.ea,h.eb,h.ec]
 exact act_a ..
theorem zG2 {z:Int} (h:-200≤z∧z≤200):IntKind.i64.wrap z=z:=IntWalk.i64_in _ zm
theorem zC9 {z:Int} (h:-200≤z∧z≤200):ab z<pw 3:=zAq zm zm
theorem place_of {D:Int} (hD:D<0) (hD2:-2004≤D) (hD3:D≤-3) {P Q:F3} (hp:Sc D P) (hq:Sc D Q) (x y z t:Int) (hv:qv P.a P.b P.c x y*qv Q.a Q.b Q.c z t≤4000):∃ u v,qv (mulF D P Q).a (mulF D P Q).b (mulF D P Q).c u v=qv P.a P.b P.c x y*qv Q.a Q.b Q.c z t∧-80≤u∧u≤80∧0≤v∧v≤80:=by
 obtain ⟨hr,R,hR,hc,p,q,r,s,hu⟩:=zEi hD hp hq
 obtain ⟨m,n,e⟩:=Cps.value hp hq hR hc x y z t
 have hsc:=zJ5 hD hp hq
 have hex:∃ u v,qv (mulF D P Q).a (mulF D P Q).b (mulF D P Q).c u v=qv P.a P.b P.c x y*qv Q.a Q.b Q.c z t:=⟨_,_,(und_val hu.back m n).symm.trans e.symm⟩
 obtain ⟨u,v,h1,h2,h3,h4⟩:=val_place (n:=-D) zm hr (by rw [hsc.disc,Int.neg_neg]) hex 4000 74 hv zd
 exact ⟨u,v,h1,by omega,by omega,h3,by omega⟩
theorem meas_v {c:Nat} {a:Int} (h:0≤a) (h1:a<c):((c:Int)-intOf (.int .i64 (a+1))).toNat<((c:Int)-intOf (.int .i64 a)).toNat:=by simp [intOf];omega
theorem meas_u {b:Int} (h:-80≤b) (h1:b≤80):((81:Int)-intOf (.int .i64 (b+1))).toNat<((81:Int)-intOf (.int .i64 b)).toNat:=by simp [intOf];omega
theorem zSf (w:World) (hT:Tabs w) (D i0 i1 i2 i3 m0 m1 m2 m3:Int) (hD:0≤D∧D≤65535) (hi0:0≤i0∧i0≤65535) (hi1:0≤i1∧i1≤65535) (hi2:0≤i2∧i2≤65535) (hi3:0≤i3∧i3≤65535) (hm0:0≤m0∧m0≤255) (hm1:0≤m1∧m1≤255) (hm2:0≤m2∧m2≤255) (hm3:0≤m3∧m3≤255) (y0:Int) (y1:Int) (y2:Int) (y3:Int) (hy0:-128≤y0∧y0≤127) (hy1:-128≤y1∧y1≤127) (hy2:-128≤y2∧y2≤127) (hy3:-128≤y3∧y3≤127) {v v':Value} (h:(Fq.st [.v (.int .u16 D),.v (.int .u16 i0),.v (.int .u16 i1),.v (.int .u16 i2),.v (.int .u16 i3),.v (.int .u8 m0),.v (.int .u8 m1),.v (.int .u8 m2),.v (.int .u8 m3)]).P v w) (h':(Fq.st [.v (.int .i8 y0),.v (.int .i8 y1),.v (.int .i8 y2),.v (.int .i8 y3)]).P v' w) :
  Rt 5 #[v,v'] w fun v' w'=>v'=.bool true:=by
 have HT:=hidd hT
 clear hT
 obtain ⟨n,en⟩:∃ x,x=zB5 D:=⟨_,rfl⟩
 have hszn:=zKn D
 rw [← en] at hszn
 have En:=hidd en.symm
 have Zn:=hidd hszn
 have HDn:=hidd hD
 obtain ⟨dd,hdd⟩:∃ x,x=-n:=⟨_,rfl⟩
 have HDD:=hidd hdd
 have HNG:Hid (dd<0):=by show _<_;omega
 have HGC:Hid (GC dd):=GC.of zm zm
 have HB40:Hid (ab dd<pw 40):=Int.lt_of_lt_of_le HGC.out.ab6 (zAa zm)
 have H4:Hid (dd % 4=0∨dd % 4=1):=by have:=hszn.2.2;show _∨_;omega
 clear en hD hdd hszn
 obtain ⟨P,eP⟩:∃ x,x=zDn n i0 m0:=⟨_,rfl⟩
 have hokP:=zMb (i:=i0) (m:=m0) Zn.out.1 Zn.out.2.1 Zn.out.2.2
 have hscP:=zP5 (i:=i0) (m:=m0) Zn.out.1 Zn.out.2.1 Zn.out.2.2
 rw [← eP] at hokP hscP
 rw [← HDD.out] at hscP
 have EP:=hidd eP.symm
 have OKP:=hidd hokP
 have KP:=hidd hscP
 have IP:=hidd hi0
 have MP:=hidd hm0
 clear eP hokP hscP hi0 hm0
 obtain ⟨Q,eQ⟩:∃ x,x=zDn n i1 m1:=⟨_,rfl⟩
 have hokQ:=zMb (i:=i1) (m:=m1) Zn.out.1 Zn.out.2.1 Zn.out.2.2
 have hscQ:=zP5 (i:=i1) (m:=m1) Zn.out.1 Zn.out.2.1 Zn.out.2.2
 rw [← eQ] at hokQ hscQ
 rw [← HDD.out] at hscQ
 have EQ:=hidd eQ.symm
 have OKQ:=hidd hokQ
 have KQ:=hidd hscQ
 have IQ:=hidd hi1
 have MQ:=hidd hm1
 clear eQ hokQ hscQ hi1 hm1
 obtain ⟨X,eX⟩:∃ x,x=rdF P:=⟨_,rfl⟩
 have gX:Gm dd X:=by rw [eX];exact (zGd HNG.out KP.out.1 KP.out.2).1
 have GX:=hidd gX
 have KX:Hid (Sc dd X∧Sm X):=⟨gX.1,HGC.out.sm _ gX⟩
 have EX:=hidd eX
 clear eX gX
 obtain ⟨Y,eY⟩:∃ x,x=rdF Q:=⟨_,rfl⟩
 have gY:Gm dd Y:=by rw [eY];exact (zGd HNG.out KQ.out.1 KQ.out.2).1
 have GY:=hidd gY
 have KY:Hid (Sc dd Y∧Sm Y):=⟨gY.1,HGC.out.sm _ gY⟩
 have EY:=hidd eY
 clear eY gY
 obtain ⟨Zf,eZ1⟩:∃ x,x=mulF dd X Y:=⟨_,rfl⟩
 have gZ1:Gm dd Zf:=by rw [eZ1];exact mulF_gm HNG.out KX.out.1 KY.out.1
 have GZ1:=hidd gZ1
 have KZ1:Hid (Sc dd Zf∧Sm Zf):=⟨gZ1.1,HGC.out.sm _ gZ1⟩
 have EZ1:=hidd eZ1
 clear eZ1 gZ1
 have WXY:Hid (mulF dd X Y=Zf):=EZ1.out.symm
 obtain ⟨s0,es0⟩:∃ x,x=Int.tmod y0 4:=⟨_,rfl⟩
 have hb0:=tmod4 y0
 rw [← es0] at hb0
 have TR0:Hid (Int.tmod y0 4=s0):=es0.symm
 have TC0:Hid (IntKind.i64.wrap s0=s0):=zG2 zm
 have RS0:Hid (-200≤s0∧s0≤200):=by show _∧_;omega
 have Bs0:Hid (ab s0<pw 3):=zC9 RS0.out
 clear es0 hb0 hy0
 obtain ⟨s1,es1⟩:∃ x,x=Int.tmod y1 4:=⟨_,rfl⟩
 have hb1:=tmod4 y1
 rw [← es1] at hb1
 have TR1:Hid (Int.tmod y1 4=s1):=es1.symm
 have TC1:Hid (IntKind.i64.wrap s1=s1):=zG2 zm
 have RS1:Hid (-200≤s1∧s1≤200):=by show _∧_;omega
 have Bs1:Hid (ab s1<pw 3):=zC9 RS1.out
 clear es1 hb1 hy1
 obtain ⟨s2,es2⟩:∃ x,x=Int.tmod y2 4:=⟨_,rfl⟩
 have hb2:=tmod4 y2
 rw [← es2] at hb2
 have TR2:Hid (Int.tmod y2 4=s2):=es2.symm
 have TC2:Hid (IntKind.i64.wrap s2=s2):=zG2 zm
 have RS2:Hid (-200≤s2∧s2≤200):=by show _∧_;omega
 have Bs2:Hid (ab s2<pw 3):=zC9 RS2.out
 clear es2 hb2 hy2
 obtain ⟨s3,es3⟩:∃ x,x=Int.tmod y3 4:=⟨_,rfl⟩
 have hb3:=tmod4 y3
 rw [← es3] at hb3
 have TR3:Hid (Int.tmod y3 4=s3):=es3.symm
 have TC3:Hid (IntKind.i64.wrap s3=s3):=zG2 zm
 have RS3:Hid (-200≤s3∧s3≤200):=by show _∧_;omega
 have Bs3:Hid (ab s3<pw 3):=zC9 RS3.out
 clear es3 hb3 hy3
 obtain ⟨V1,eV1⟩:∃ V,V=qv X.a X.b X.c s0 s1:=⟨_,rfl⟩
 have BV1:Hid (ab V1<pw 20):=by show _<_;rw [eV1];exact qv_abK (k:=3) (j:=3) (Int.lt_of_lt_of_le KX.out.2.1 (zAa zm)) (Int.lt_of_lt_of_le KX.out.2.2.1 (zAa zm)) (Int.lt_of_lt_of_le KX.out.2.2.2 (zAa zm)) Bs0.out Bs1.out zm
 have EV1:=hidd eV1
 clear eV1
 obtain ⟨V2,eV2⟩:∃ V,V=qv Y.a Y.b Y.c s2 s3:=⟨_,rfl⟩
 have BV2:Hid (ab V2<pw 20):=by show _<_;rw [eV2];exact qv_abK (k:=3) (j:=3) (Int.lt_of_lt_of_le KY.out.2.1 (zAa zm)) (Int.lt_of_lt_of_le KY.out.2.2.1 (zAa zm)) (Int.lt_of_lt_of_le KY.out.2.2.2 (zAa zm)) Bs2.out Bs3.out zm
 have EV2:=hidd eV2
 clear eV2
 obtain ⟨mn,emn⟩:∃ x,x=V1*V2:=⟨_,rfl⟩
 have Bmn:Hid (ab mn<pw 40):=by show _<_;rw [emn];exact Int.lt_of_lt_of_le (zBh BV1.out BV2.out) (zAa zm)
 have Emn:=hidd emn
 have HDB:Hid (-2004≤dd∧dd≤-3):=by have:=Zn.out;have:=HDD.out;show _∧_;omega
 clear emn
 obtain ⟨_,rfl,hf0⟩:=h
 have hF0:=hf0
 obtain ⟨_,rfl,_,_,rfl,_,_,rfl,_,_,rfl,_,_,rfl,_,_,rfl,_,_,rfl,_,_,rfl,_,_,rfl,_,rfl⟩:=hf0
 obtain ⟨_,rfl,hf1⟩:=h'
 have hF1:=hf1
 obtain ⟨_,rfl,_,_,rfl,_,_,rfl,_,_,rfl,_,rfl⟩:=hf1
 obtain ⟨w1,b1,hw1,hb1,hs1,E⟩:=gS w 26 hF0
 obtain ⟨w2,b2,hw2,hb2,hs2,E⟩:=fS E hs1 76 hF1
 go_enter Tryz.func5,Tryz.ntmps5
 go_upto_region 1 with (fail)
 rw [← hw1,← hw2]
 rw [← hb2,← hb1]
 clear hw1 hw2 hb1 hb2 hs2 hs1
 refine rz [.t,.t] N2 [] E (fun hp=>⟨q_call0W hp fo tv (zS4) rfl (fun w hbw=>zUa w (HT.out.mono hbw)),zS,tv⟩) ?_
 intro w3 E _ _
 simp only [Z1] at E ⊢
 go_upto_region 2 with (fail)
 refine rz [.t,.o] N2 [] E (fun hp=>⟨zS,zo hp (sqi 0),tv⟩) ?_
 intro w4 E _ _
 simp only [Z1] at E ⊢
 go_upto_region 4 with (fail)
 refine rz [.w (Fq.st [.v (.int .u16 D),.v (.int .u16 i0),.v (.int .u16 i1),.v (.int .u16 i2),.v (.int .u16 i3),.v (.int .u8 m0),.v (.int .u8 m1),.v (.int .u8 m2),.v (.int .u8 m3)]),.w (f3 P.a P.b P.c),.w (Fq.tup3 (f3 X.a X.b X.c) (Fq.st [.n ((redT P.a P.b P.c).x1),.n ((redT P.a P.b P.c).x2),.n ((redT P.a P.b P.c).x3),.n ((redT P.a P.b P.c).x4)]) (Fq.is (.int .i64 0))),.w (Fq.tup3 (f3 X.a X.b X.c) (Fq.st [.n ((redT P.a P.b P.c).x1),.n ((redT P.a P.b P.c).x2),.n ((redT P.a P.b P.c).x3),.n ((redT P.a P.b P.c).x4)]) (Fq.is (.int .i64 0))),.w (f3 X.a X.b X.c),.w (Fq.st [.n ((redT P.a P.b P.c).x1),.n ((redT P.a P.b P.c).x2),.n ((redT P.a P.b P.c).x3),.n ((redT P.a P.b P.c).x4)]),.i 0,.k,.k,.a,.a,.i 0] N2 [⟨7,9,6,f3 0 0 0,f3 X.a X.b X.c,none⟩,⟨8,10,8,Fq.st [.n 0,.n 0,.n 0,.n 0],Fq.st [.n ((redT P.a P.b P.c).x1),.n ((redT P.a P.b P.c).x2),.n ((redT P.a P.b P.c).x3),.n ((redT P.a P.b P.c).x4)],none⟩] E (fun hp=>⟨lS 0 9 hp (mq 1 rfl) zKl zw,zD3 (F:=(Fq.st [.v (.int .u16 D),.v (.int .u16 i0),.v (.int .u16 i1),.v (.int .u16 i2),.v (.int .u16 i3),.v (.int .u8 m0),.v (.int .u8 m1),.v (.int .u8 m2),.v (.int .u8 m3)]).P) (G:=(Fq.is (.int .i64 0)).P) hp fo tv (zOi) (sqi 0) (zAj (fun _=>rfl)) (fun v v' w h h'=>(by subst h';exact exQMade0 h HDn.out IP.out MP.out En.out EP.out)),zc hp zJj zi fun v w h=>(by have hh9:=exPRedF HNG.out KP.out.1 KP.out.2 h;rw [← EX.out] at hh9;exact hh9),zS,zS,zS,zS,aS hp (mq 0 rfl) zAu zBw,aS hp (mq 1 rfl) zDy zIi,sS 4 hp (mq 0 rfl) zAl,sS 5 hp (mq 1 rfl) zDq,zS,tv⟩) ?_
 intro w5 b5_7 b5_8 E _ _
 simp only [Z1] at E ⊢
 go_upto_region 5 with (fail)
 refine rz [.w (Fq.st [.v (.int .u16 D),.v (.int .u16 i0),.v (.int .u16 i1),.v (.int .u16 i2),.v (.int .u16 i3),.v (.int .u8 m0),.v (.int .u8 m1),.v (.int .u8 m2),.v (.int .u8 m3)]),.w (f3 Q.a Q.b Q.c),.w (Fq.tup3 (f3 Y.a Y.b Y.c) (Fq.st [.n ((redT Q.a Q.b Q.c).x1),.n ((redT Q.a Q.b Q.c).x2),.n ((redT Q.a Q.b Q.c).x3),.n ((redT Q.a Q.b Q.c).x4)]) (Fq.is (.int .i64 0))),.w (Fq.tup3 (f3 Y.a Y.b Y.c) (Fq.st [.n ((redT Q.a Q.b Q.c).x1),.n ((redT Q.a Q.b Q.c).x2),.n ((redT Q.a Q.b Q.c).x3),.n ((redT Q.a Q.b Q.c).x4)]) (Fq.is (.int .i64 0))),.w (f3 Y.a Y.b Y.c),.w (Fq.st [.n ((redT Q.a Q.b Q.c).x1),.n ((redT Q.a Q.b Q.c).x2),.n ((redT Q.a Q.b Q.c).x3),.n ((redT Q.a Q.b Q.c).x4)]),.i 0,.k,.k,.a,.a,.i 0] N4 [⟨7,9,6,f3 0 0 0,f3 Y.a Y.b Y.c,none⟩,⟨8,10,8,Fq.st [.n 0,.n 0,.n 0,.n 0],Fq.st [.n ((redT Q.a Q.b Q.c).x1),.n ((redT Q.a Q.b Q.c).x2),.n ((redT Q.a Q.b Q.c).x3),.n ((redT Q.a Q.b Q.c).x4)],none⟩] E (fun hp=>⟨lS 0 9 hp (mq 3 rfl) zKl zw,zD3 (F:=(Fq.st [.v (.int .u16 D),.v (.int .u16 i0),.v (.int .u16 i1),.v (.int .u16 i2),.v (.int .u16 i3),.v (.int .u8 m0),.v (.int .u8 m1),.v (.int .u8 m2),.v (.int .u8 m3)]).P) (G:=(Fq.is (.int .i64 1)).P) hp fo tv (zOi) (sqi 0) (zAj (fun _=>rfl)) (fun v v' w h h'=>(by subst h';exact exQMade1 h HDn.out IQ.out MQ.out En.out EQ.out)),zc hp zJj zi fun v w h=>(by have hh9:=exPRedF HNG.out KQ.out.1 KQ.out.2 h;rw [← EY.out] at hh9;exact hh9),zS,zS,zS,zS,aS hp (mq 0 rfl) zAu zBw,aS hp (mq 1 rfl) zDy zIi,sS 4 hp (mq 0 rfl) zAl,sS 5 hp (mq 1 rfl) zDq,zS,tv⟩) ?_
 intro w6 b6_7 b6_8 E _ _
 simp only [Z1] at E ⊢
 go_upto_region 6 with (fail)
 refine rz [.w (f3 X.a X.b X.c),.w (f3 Y.a Y.b Y.c),.w (Fq.st [.n Zf.a,.n Zf.b,.n Zf.c,.v (.int .i64 0)]),.k,.a] N6 [⟨3,4,7,Fq.st [.n 0,.n 0,.n 0,.v (.int .i64 0)],Fq.st [.n Zf.a,.n Zf.b,.n Zf.c,.v (.int .i64 0)],none⟩] E (fun hp=>⟨lS 0 6 hp (mq 2 rfl) zAd zw,lS 0 6 hp (mq 0 rfl) zAd zw,zC hp zHo zi zi fun v v' w h h'=>exGProd0 HNG.out KX.out.1 KY.out.1 KX.out.2 KY.out.2 WXY.out h h',aS hp (mq 0 rfl) zF7 zM2,sS 2 hp (mq 0 rfl) zG8,tv⟩) ?_
 intro w7 b7_3 E _ _
 simp only [Z1] at E ⊢
 go_upto_region 7 with (fail)
 refine rz [.i 0,.o,.o,.i 0,.o,.o,.o,.p b7_3 6,.i 0,.o,.o] N7 [] E (fun hp=>⟨zS,zo hp (sqi 0),zS,zAs hp fo gqi (sqo 11),zo hp (sqi 3),zt hp (sqi 2) (sqi 4),zS,zg b7_3 0 6 hp zw,zKh (off:=6) (fs:=[.n Zf.a,.n Zf.b,.n Zf.c,.v (.int .i64 0)]) (u:=.int .i64 0) hp fo gqi (mq 0 rfl) (.inl rfl) rfl rfl (fun ρ w b h1 h2=>by simp [execOp,go_sem,h1,h2]) (sqi 7) (fun _=>rfl),zo hp (sqi 8),zt hp (sqi 6) (sqi 9),tv⟩) ?_
 intro w8 E _ _
 simp only [Z1] at E ⊢
 go_upto_region 9 with (fail)
 refine rz [.w (f3 X.a X.b X.c),.p b2 0,.u (.int .i8 y0),.u (.int .i8 s0),.i s0,.n s0,.p b2 1,.u (.int .i8 y1),.u (.int .i8 s1),.i s1,.n s1,.n V1,.k,.a] N7 [⟨12,13,2,Fq.num 0,Fq.num V1,none⟩] E (fun hp=>⟨lS 0 6 hp (mq 3 rfl) zAd zw,zAt (F:=fun v _=>v=.pointer (some ⟨b2,0,none⟩)) hp fo tv (sqo 3) (fun ρ w hc h=>⟨.pointer (some ⟨b2,0,none⟩),by simp [execOp,go_sem,h,hc],rfl⟩),wXc 0 hp (mq 5 rfl) zi,zO hp (sqi 2) TR0.out,zO hp (sqi 3) TC0.out,wXa (Fq.is (.int .i64 s0)) hp zBv (sqi 4) fun v w h=>(by subst h;exact rOfK w s0 (by have:=RS0.out;omega) (by have:=RS0.out;omega)),zAt (F:=fun v _=>v=.pointer (some ⟨b2,0,none⟩)) hp fo tv (sqo 3) (fun ρ w hc h=>⟨.pointer (some ⟨b2,1,none⟩),by simp [execOp,go_sem,h,hc],rfl⟩),wXc 1 hp (mq 5 rfl) zi,zO hp (sqi 7) TR1.out,zO hp (sqi 8) TC1.out,wXa (Fq.is (.int .i64 s1)) hp zBv (sqi 9) fun v w h=>(by subst h;exact rOfK w s1 (by have:=RS1.out;omega) (by have:=RS1.out;omega)),zDh (F:=(f3 X.a X.b X.c).P) (G:=(Fq.num s0).P) (F3:=(Fq.num s1).P) hp fo tv (zGs) (sqi 0) (sqi 5) (sqi 10) (fun v v' u w h h' g=>(by have hh9:=zGw h h' g (Int.lt_of_lt_of_le KX.out.2.1 (zAa zm)) (Int.lt_of_lt_of_le KX.out.2.2.1 (zAa zm)) (Int.lt_of_lt_of_le KX.out.2.2.2 (zAa zm)) (Int.lt_of_lt_of_le (zC9 RS0.out) (zAa zm)) (Int.lt_of_lt_of_le (zC9 RS1.out) (zAa zm));rw [← EV1.out] at hh9;exact hh9)),aN hp (mq 0 rfl),sN 11 hp (mq 0 rfl),tv⟩) ?_
 intro w9 b9_12 E _ _
 simp only [Z1] at E ⊢
 go_upto_region 10 with (fail)
 refine rz [.w (f3 Y.a Y.b Y.c),.p b2 2,.u (.int .i8 y2),.u (.int .i8 s2),.i s2,.n s2,.p b2 3,.u (.int .i8 y3),.u (.int .i8 s3),.i s3,.n s3,.n V2,.k,.a] N8 [⟨12,13,2,Fq.num 0,Fq.num V2,none⟩] E (fun hp=>⟨lS 0 6 hp (mq 2 rfl) zAd zw,zAt (F:=fun v _=>v=.pointer (some ⟨b2,0,none⟩)) hp fo tv (sqo 3) (fun ρ w hc h=>⟨.pointer (some ⟨b2,2,none⟩),by simp [execOp,go_sem,h,hc],rfl⟩),wXc 2 hp (mq 6 rfl) zi,zO hp (sqi 2) TR2.out,zO hp (sqi 3) TC2.out,wXa (Fq.is (.int .i64 s2)) hp zBv (sqi 4) fun v w h=>(by subst h;exact rOfK w s2 (by have:=RS2.out;omega) (by have:=RS2.out;omega)),zAt (F:=fun v _=>v=.pointer (some ⟨b2,0,none⟩)) hp fo tv (sqo 3) (fun ρ w hc h=>⟨.pointer (some ⟨b2,3,none⟩),by simp [execOp,go_sem,h,hc],rfl⟩),wXc 3 hp (mq 6 rfl) zi,zO hp (sqi 7) TR3.out,zO hp (sqi 8) TC3.out,wXa (Fq.is (.int .i64 s3)) hp zBv (sqi 9) fun v w h=>(by subst h;exact rOfK w s3 (by have:=RS3.out;omega) (by have:=RS3.out;omega)),zDh (F:=(f3 Y.a Y.b Y.c).P) (G:=(Fq.num s2).P) (F3:=(Fq.num s3).P) hp fo tv (zGs) (sqi 0) (sqi 5) (sqi 10) (fun v v' u w h h' g=>(by have hh9:=zGw h h' g (Int.lt_of_lt_of_le KY.out.2.1 (zAa zm)) (Int.lt_of_lt_of_le KY.out.2.2.1 (zAa zm)) (Int.lt_of_lt_of_le KY.out.2.2.2 (zAa zm)) (Int.lt_of_lt_of_le (zC9 RS2.out) (zAa zm)) (Int.lt_of_lt_of_le (zC9 RS3.out) (zAa zm));rw [← EV2.out] at hh9;exact hh9)),aN hp (mq 0 rfl),sN 11 hp (mq 0 rfl),tv⟩) ?_
 intro w10 b10_12 E _ _
 simp only [Z1] at E ⊢
 go_upto_region 11 with (fail)
 have B11:Hid (ab ((V1*V2))<pw 40):=zAk BV1.out BV2.out zm
 refine rz [.n V1,.n V2,.n mn,.k,.a] N9 [⟨3,4,2,Fq.num 0,Fq.num mn,none⟩] E (fun hp=>⟨lI 0 hp (mq 1 rfl) zw,lI 0 hp (mq 0 rfl) zw,zC hp zBd zi zi fun v v' w h h'=>(by have hh9:=exK (MulV h h') B11.out zm;rw [← Emn.out] at hh9;exact hh9),aN hp (mq 0 rfl),sN 2 hp (mq 0 rfl),tv⟩) ?_
 intro w12 b12_3 E _ _
 simp only [Z1] at E ⊢
 by_cases h0:4000<mn
 ·have TB:Hid (0<cmpI mn 4000):=cmpIqgt.2 h0
  clear h0
  go_upto_region 12 with (fail)
  refine rz [.n mn,.n 4000,.i (cmpI mn 4000),.t] N10 [] E (fun hp=>⟨lI 0 hp (mq 0 rfl) zw,zBl (F:=(Fq.is (.int .i64 4000)).P) hp fo tv (zBv) (zAj (fun _=>rfl)) (fun v w h=>(by subst h;exact rOfK w 4000 zm zm)),zC hp zAx zi zi fun v v' w h h'=>zAy h h',zO hp (sqi 2) TB.out,tv⟩) ?_
  intro w13 E _ _
  simp only [Z1] at E ⊢
  go_upto_region 13 with (fail)
  refine rz [.t,.t] N10 [] E (fun hp=>⟨zS,zS,tv⟩) ?_
  intro w14 E _ _
  simp only [Z1] at E ⊢
  clear HT En Zn HDn HDD HNG HGC HB40 H4 EP OKP KP IP MP EQ OKQ KQ IQ MQ GX KX EX GY KY EY GZ1 KZ1 EZ1 WXY TR0 TC0 RS0 TR1 TC1 RS1 TR2 TC2 RS2 TR3 TC3 RS3 EV1 EV2 Emn HDB TB
  clear B11 Bs0 Bs1 Bs2 Bs3 BV1 BV2 Bmn
  go_wp2
  exact zR (v:=.bool true) (by simp [results,Tryz.results5,go_sem]) E.below rfl
 ·have TB:Hid (¬ 0<cmpI mn 4000):=fun e=>h0 (cmpIqgt.1 e)
  obtain ⟨u0,v0,hq,hu1,hu2,hv1,hv2⟩:=place_of HNG.out HDB.out.1 HDB.out.2 KX.out.1 KY.out.1 s0 s1 s2 s3 (by rw [← EV1.out,← EV2.out,← Emn.out];omega)
  rw [WXY.out,← EV1.out,← EV2.out,← Emn.out] at hq
  have HQ:=hidd hq
  have HU:Hid (-80≤u0∧u0≤80∧0≤v0∧v0≤80):=⟨hu1,hu2,hv1,hv2⟩
  clear h0 hq hu1 hu2 hv1 hv2
  go_upto_region 12 with (fail)
  refine rz [.n mn,.n 4000,.i (cmpI mn 4000),.o] N10 [] E (fun hp=>⟨lI 0 hp (mq 0 rfl) zw,zBl (F:=(Fq.is (.int .i64 4000)).P) hp fo tv (zBv) (zAj (fun _=>rfl)) (fun v w h=>(by subst h;exact rOfK w 4000 zm zm)),zC hp zAx zi zi fun v v' w h h'=>zAy h h',zO hp (sqi 2) TB.out,tv⟩) ?_
  intro w15 E _ _
  simp only [Z1] at E ⊢
  go_upto_region 14 with (fail)
  refine rz [.i 0] N10 [] E (fun hp=>⟨zS,tv⟩) ?_
  intro w16 E _ _
  simp only [Z1] at E ⊢
  have HS:=hidd E
  go_upto_region 15 with (fail)
  go_loopw [16] (fun va W=>∃ a:Int,va=.int .i64 a∧(0≤a∧a≤v0)∧Fr w [(b12_3,2,Fq.num mn),(b10_12,2,Fq.num V2),(b9_12,2,Fq.num V1),(b7_3,7,Fq.st [.n Zf.a,.n Zf.b,.n Zf.c,.v (.int .i64 0)]),(b6_7,6,f3 Y.a Y.b Y.c),(b6_8,8,Fq.st [.n ((redT Q.a Q.b Q.c).x1),.n ((redT Q.a Q.b Q.c).x2),.n ((redT Q.a Q.b Q.c).x3),.n ((redT Q.a Q.b Q.c).x4)]),(b5_7,6,f3 X.a X.b X.c),(b5_8,8,Fq.st [.n ((redT P.a P.b P.c).x1),.n ((redT P.a P.b P.c).x2),.n ((redT P.a P.b P.c).x3),.n ((redT P.a P.b P.c).x4)]),(b2,4,Fq.st [.v (.int .i8 y0),.v (.int .i8 y1),.v (.int .i8 y2),.v (.int .i8 y3)]),(b1,9,Fq.st [.v (.int .u16 D),.v (.int .u16 i0),.v (.int .u16 i1),.v (.int .u16 i2),.v (.int .u16 i3),.v (.int .u8 m0),.v (.int .u8 m1),.v (.int .u8 m2),.v (.int .u8 m3)])] W) (fun va _=>(((80:Nat):Int)-intOf va).toNat)
  case atStart=>exact ⟨0,rfl,⟨by omega,HU.out.2.2.1⟩,HS.out⟩
  case round=>
   obtain ⟨a,rfl,hI,E⟩:=hrel
   clear HS
   have HA:=hidd hI
   have RA:Hid (-200≤a∧a≤200):=by have:=HU.out;show _∧_;omega
   have TA:Hid (a≤80):=by have:=HU.out;show _≤_;omega
   have TA1:Hid (IntKind.i64.wrap (a+1)=a+1):=zG2 (by have:=HU.out;omega)
   clear hI
   go_upto_region 15 with (fail)
   refine rz [.i a,.t] N10 [] E (fun hp=>⟨zS,zO hp (sqi 0) TA.out,tv⟩) ?_
   intro w17 E _ _
   simp only [Z1] at E ⊢
   go_upto_region 17 with (fail)
   refine rz [.i (-80)] N10 [] E (fun hp=>⟨zS,tv⟩) ?_
   intro w18 E _ _
   simp only [Z1] at E ⊢
   have HS:=hidd E
   go_upto_region 18 with (fail)
   go_loopw [17] (fun vb W=>∃ b:Int,vb=.int .i64 b∧(-80≤b∧b≤81∧(a=v0→b≤u0))∧Fr w [(b12_3,2,Fq.num mn),(b10_12,2,Fq.num V2),(b9_12,2,Fq.num V1),(b7_3,7,Fq.st [.n Zf.a,.n Zf.b,.n Zf.c,.v (.int .i64 0)]),(b6_7,6,f3 Y.a Y.b Y.c),(b6_8,8,Fq.st [.n ((redT Q.a Q.b Q.c).x1),.n ((redT Q.a Q.b Q.c).x2),.n ((redT Q.a Q.b Q.c).x3),.n ((redT Q.a Q.b Q.c).x4)]),(b5_7,6,f3 X.a X.b X.c),(b5_8,8,Fq.st [.n ((redT P.a P.b P.c).x1),.n ((redT P.a P.b P.c).x2),.n ((redT P.a P.b P.c).x3),.n ((redT P.a P.b P.c).x4)]),(b2,4,Fq.st [.v (.int .i8 y0),.v (.int .i8 y1),.v (.int .i8 y2),.v (.int .i8 y3)]),(b1,9,Fq.st [.v (.int .u16 D),.v (.int .u16 i0),.v (.int .u16 i1),.v (.int .u16 i2),.v (.int .u16 i3),.v (.int .u8 m0),.v (.int .u8 m1),.v (.int .u8 m2),.v (.int .u8 m3)])] W) (fun vb _=>((81:Int)-intOf vb).toNat)
   case atStart=>exact ⟨-80,rfl,⟨by omega,by omega,fun _=>HU.out.1⟩,HS.out⟩
   case round=>
    obtain ⟨b,rfl,hI,E⟩:=hrel
    clear HS
    by_cases h1:80<b
    ·have TO:Hid (¬ b≤80):=by show ¬ _;omega
     have HN1:Hid (0≤a+1∧a+1≤v0):=by have:=HU.out;have:=HA.out;show _∧_;omega
     clear h1 hI
     go_upto_region 18 with (fail)
     refine rz [.i b,.o] N10 [] E (fun hp=>⟨zS,zO hp (sqi 0) TO.out,tv⟩) ?_
     intro w19 E _ _
     simp only [Z1] at E ⊢
     go_upto_region 16 with (fail)
     refine rz [.i a,.i (a+1),.i (a+1)] N10 [] E (fun hp=>⟨zEu 2 3 hp fo tv rfl rfl rfl rfl (fun _=>rfl),zO hp (sqi 0) TA1.out,zS,tv⟩) ?_
     intro w20 E _ _
     simp only [Z1] at E ⊢
     go_wp2
     go_roundw
     case rel=>exact ⟨a+1,rfl,HN1.out,E⟩
     case measure=>exact meas_v HA.out.1 (by have:=HN1.out;have:=HU.out;omega)
    ·replace h1:b≤80:=by omega
     have TO:Hid (b≤80):=h1
     have RB:Hid (-200≤b∧b≤200):=by show _∧_;omega
     have Bb:=hidd (zC9 RB.out)
     have Ba:=hidd (zC9 RA.out)
     obtain ⟨VZ,eVZ⟩:∃ V,V=qv Zf.a Zf.b Zf.c b a:=⟨_,rfl⟩
     have BVZ:Hid (ab VZ<pw 40):=by show _<_;rw [eVZ];exact qv_abK (k:=3) (j:=3) (Int.lt_of_lt_of_le KZ1.out.2.1 (zAa zm)) (Int.lt_of_lt_of_le KZ1.out.2.2.1 (zAa zm)) (Int.lt_of_lt_of_le KZ1.out.2.2.2 (zAa zm)) Bb.out Ba.out zm
     have EVZ:=hidd eVZ
     have HB:=hidd hI
     have TB1:Hid (IntKind.i64.wrap (b+1)=b+1):=zG2 zm
     clear eVZ h1 hI
     go_upto_region 18 with (fail)
     refine rz [.i b,.t] N10 [] E (fun hp=>⟨zS,zO hp (sqi 0) TO.out,tv⟩) ?_
     intro w21 E _ _
     simp only [Z1] at E ⊢
     by_cases h2:VZ=mn
     ·have TH:Hid (cmpI VZ mn=0):=cmpIq0.2 h2
      clear h2
      go_upto_region 20 with (fail)
      refine rz [.p b7_3 0,.w (f3 Zf.a Zf.b Zf.c),.i b,.n b,.i a,.n a,.n VZ,.n mn,.i (cmpI VZ mn),.t] N10 [] E (fun hp=>⟨qa b7_3 0 0 hp zw,lS 0 6 hp (mq 3 rfl) zAd zi,zS,wXa (Fq.is (.int .i64 b)) hp zBv (sqi 2) fun v w h=>(by subst h;exact rOfK w b (by have:=RB.out;omega) (by have:=RB.out;omega)),zS,wXa (Fq.is (.int .i64 a)) hp zBv (sqi 4) fun v w h=>(by subst h;exact rOfK w a (by have:=RA.out;omega) (by have:=RA.out;omega)),zDh (F:=(f3 Zf.a Zf.b Zf.c).P) (G:=(Fq.num b).P) (F3:=(Fq.num a).P) hp fo tv (zGs) (sqi 1) (sqi 3) (sqi 5) (fun v v' u w h h' g=>(by have hh9:=zGw h h' g (Int.lt_of_lt_of_le KZ1.out.2.1 (zAa zm)) (Int.lt_of_lt_of_le KZ1.out.2.2.1 (zAa zm)) (Int.lt_of_lt_of_le KZ1.out.2.2.2 (zAa zm)) (Int.lt_of_lt_of_le (zC9 RB.out) (zAa zm)) (Int.lt_of_lt_of_le (zC9 RA.out) (zAa zm));rw [← EVZ.out] at hh9;exact hh9)),lI 0 hp (mq 0 rfl) zw,zC hp zAx zi zi fun v v' w h h'=>zAy h h',zO hp (sqi 8) TH.out,tv⟩) ?_
      intro w22 E _ _
      simp only [Z1] at E ⊢
      go_upto_region 21 with (fail)
      refine rz [.t,.t] N10 [] E (fun hp=>⟨zS,zS,tv⟩) ?_
      intro w23 E _ _
      simp only [Z1] at E ⊢
      clear HT En Zn HDn HDD HNG HGC HB40 H4 EP OKP KP IP MP EQ OKQ KQ IQ MQ GX KX EX GY KY EY GZ1 KZ1 EZ1 WXY TR0 TC0 RS0 TR1 TC1 RS1 TR2 TC2 RS2 TR3 TC3 RS3 EV1 EV2 Emn HDB TB HQ HU HA RA TA TA1 TO RB Bb Ba EVZ HB TB1 TH
      clear B11 Bs0 Bs1 Bs2 Bs3 BV1 BV2 Bmn BVZ
      go_wp2
      exact zR (v:=.bool true) (by simp [results,Tryz.results5,go_sem]) E.below rfl
     ·have TH:Hid (¬ cmpI VZ mn=0):=fun e=>h2 (cmpIq0.1 e)
      have HB2:Hid (-80≤b+1∧b+1≤81∧(a=v0→b+1≤u0)):=by
       have h5:=HB.out
       have h6:=TO.out
       refine ⟨by omega,by omega,fun e=>?_⟩
       have h7:=h5.2.2 e
       rcases Int.lt_or_eq_of_le h7 with h8 | h8
       ·omega
       ·exact absurd (by rw [EVZ.out,e,h8];exact HQ.out) h2
      clear h2
      go_upto_region 20 with (fail)
      refine rz [.p b7_3 0,.w (f3 Zf.a Zf.b Zf.c),.i b,.n b,.i a,.n a,.n VZ,.n mn,.i (cmpI VZ mn),.o] N10 [] E (fun hp=>⟨qa b7_3 0 0 hp zw,lS 0 6 hp (mq 3 rfl) zAd zi,zS,wXa (Fq.is (.int .i64 b)) hp zBv (sqi 2) fun v w h=>(by subst h;exact rOfK w b (by have:=RB.out;omega) (by have:=RB.out;omega)),zS,wXa (Fq.is (.int .i64 a)) hp zBv (sqi 4) fun v w h=>(by subst h;exact rOfK w a (by have:=RA.out;omega) (by have:=RA.out;omega)),zDh (F:=(f3 Zf.a Zf.b Zf.c).P) (G:=(Fq.num b).P) (F3:=(Fq.num a).P) hp fo tv (zGs) (sqi 1) (sqi 3) (sqi 5) (fun v v' u w h h' g=>(by have hh9:=zGw h h' g (Int.lt_of_lt_of_le KZ1.out.2.1 (zAa zm)) (Int.lt_of_lt_of_le KZ1.out.2.2.1 (zAa zm)) (Int.lt_of_lt_of_le KZ1.out.2.2.2 (zAa zm)) (Int.lt_of_lt_of_le (zC9 RB.out) (zAa zm)) (Int.lt_of_lt_of_le (zC9 RA.out) (zAa zm));rw [← EVZ.out] at hh9;exact hh9)),lI 0 hp (mq 0 rfl) zw,zC hp zAx zi zi fun v v' w h h'=>zAy h h',zO hp (sqi 8) TH.out,tv⟩) ?_
      intro w24 E _ _
      simp only [Z1] at E ⊢
      go_upto_region 19 with (fail)
      refine rz [.i b,.i (b+1),.i (b+1)] N10 [] E (fun hp=>⟨zEu 2 3 hp fo tv rfl rfl rfl rfl (fun _=>rfl),zO hp (sqi 0) TB1.out,zS,tv⟩) ?_
      intro w25 E _ _
      simp only [Z1] at E ⊢
      go_wp2
      go_roundw
      case rel=>exact ⟨b+1,rfl,HB2.out,E⟩
      case measure=>exact meas_u HB.out.1 TO.out

theorem zSg (w:World) (hT:Tabs w) (D i0 i1 i2 i3 m0 m1 m2 m3:Int) (hD:0≤D∧D≤65535) (hi0:0≤i0∧i0≤65535) (hi1:0≤i1∧i1≤65535) (hi2:0≤i2∧i2≤65535) (hi3:0≤i3∧i3≤65535) (hm0:0≤m0∧m0≤255) (hm1:0≤m1∧m1≤255) (hm2:0≤m2∧m2≤255) (hm3:0≤m3∧m3≤255) (y0:Int) (y1:Int) (y2:Int) (y3:Int) (hy0:-128≤y0∧y0≤127) (hy1:-128≤y1∧y1≤127) (hy2:-128≤y2∧y2≤127) (hy3:-128≤y3∧y3≤127):Calls Tryz.prog 5 #[.agg #[.int .u16 D,.int .u16 i0,.int .u16 i1,.int .u16 i2,.int .u16 i3,.int .u8 m0,.int .u8 m1,.int .u8 m2,.int .u8 m3],.agg #[.int .i8 y0,.int .i8 y1,.int .i8 y2,.int .i8 y3]] w fun e w'=>e=.returned (.bool true)∧Below w.heap.size w w':=by
 refine (zSf w hT D i0 i1 i2 i3 m0 m1 m2 m3 hD hi0 hi1 hi2 hi3 hm0 hm1 hm2 hm3 y0 y1 y2 y3 hy0 hy1 hy2 hy3 ⟨[.int .u16 D,.int .u16 i0,.int .u16 i1,.int .u16 i2,.int .u16 i3,.int .u8 m0,.int .u8 m1,.int .u8 m2,.int .u8 m3],rfl,_,rfl,rfl,_,rfl,rfl,_,rfl,rfl,_,rfl,rfl,_,rfl,rfl,_,rfl,rfl,_,rfl,rfl,_,rfl,rfl,_,rfl,rfl,rfl⟩ ⟨[.int .i8 y0,.int .i8 y1,.int .i8 y2,.int .i8 y3],rfl,_,rfl,rfl,_,rfl,rfl,_,rfl,rfl,_,rfl,rfl,rfl⟩).mono ?_
 rintro e w' ⟨v',rfl,hb,rfl⟩
 exact ⟨rfl,hb⟩

end Go.Proofs.YtjadciofpgjofaaGreatDoor
namespace Go.Proofs.YtjadciofpgjofaaGreatDoor
open Go Go.ChangeShapes Go.WideShapes Go.ChangeAt Go.RowKit Go.Joins Go.Deep

theorem array4 {cs:Array Value} (h:cs.size=4):∃ e0 e1 e2 e3,cs=#[e0,e1,e2,e3]:=by
 obtain ⟨l⟩:=cs
 match l,h with
 | [e0,e1,e2,e3],_=>exact ⟨e0,e1,e2,e3,rfl⟩
theorem open_i8s4 {H:Type} {enc:TypeId × Value→H} {W:World} {r:Reach} {b0:Nat} {a t:TypeId} (ha:Tryz.prog.underlying a=some (.array 4 t)) (hct:Tryz.prog.cellsOf t=1) (hca:Tryz.prog.cellsOf a=4) (hu:Tryz.prog.underlying t=some (.int .i8))
  {v:Value} {d:DataW H} {p:List MemPlace} (hv:Value.okWide Tryz.prog W r b0 a v) (h:DataW.Trod enc Tryz.prog W 0 (fun _=>true) true a v d p) :
  ∃ x0 x1 x2 x3:Int,v=.agg #[.int .i8 x0,.int .i8 x1,.int .i8 x2,.int .i8 x3]∧(-128≤x0∧x0≤127)∧(-128≤x1∧x1≤127)∧(-128≤x2∧x2≤127)∧(-128≤x3∧x3≤127):=by
 obtain ⟨cs,rfl,hsz⟩:=zV4 ha hv
 obtain ⟨e0,e1,e2,e3,rfl⟩:=array4 (hsz.trans hca)
 obtain ⟨fuel,hf⟩:=h
 obtain ⟨y0,y1,y2,y3,n,_,t0,t1,t2,t3⟩:=zNk ha hf
 rw [hct] at t0 t1 t2 t3
 simp only [Value.cells] at t0 t1 t2 t3
 have s0:DataW.trod enc Tryz.prog W 0 (fun _=>true) true n t [e0]=some y0:=by simpa using t0
 have s1:DataW.trod enc Tryz.prog W 0 (fun _=>true) true n t [e1]=some y1:=by simpa using t1
 have s2:DataW.trod enc Tryz.prog W 0 (fun _=>true) true n t [e2]=some y2:=by simpa using t2
 have s3:DataW.trod enc Tryz.prog W 0 (fun _=>true) true n t [e3]=some y3:=by simpa using t3
 obtain ⟨x0,f0,rfl,w0⟩:=DataW.trod_int hu s0
 obtain ⟨x1,f1,rfl,w1⟩:=DataW.trod_int hu s1
 obtain ⟨x2,f2,rfl,w2⟩:=DataW.trod_int hu s2
 obtain ⟨x3,f3,rfl,w3⟩:=DataW.trod_int hu s3
 simp at f0 f1 f2 f3
 subst f0 f1 f2 f3
 refine ⟨x0,x1,x2,x3,rfl,?_,?_,?_,?_⟩
 ·simpa [Lit.wf,IntKind.min,IntKind.max,IntKind.signed,IntKind.bits] using w0
 ·simpa [Lit.wf,IntKind.min,IntKind.max,IntKind.signed,IntKind.bits] using w1
 ·simpa [Lit.wf,IntKind.min,IntKind.max,IntKind.signed,IntKind.bits] using w2
 ·simpa [Lit.wf,IntKind.min,IntKind.max,IntKind.signed,IntKind.bits] using w3
end Go.Proofs.YtjadciofpgjofaaGreatDoor
