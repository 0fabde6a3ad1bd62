/- Hp, Ut, Hq, Hr, Ht, Hu, Hs, Hv. -/
import Derived.Test.YtjadciofpgjofaaGreatDoorDf7
set_option linter.unusedSimpArgs false
set_option linter.unusedVariables false
set_option maxRecDepth 100000
set_option maxHeartbeats 8000000
namespace Go.Proofs.YtjadciofpgjofaaGreatDoor
open Go Go.RowKit

section
variable {os : List Oper} {Q : Exit → Act → World → Prop} {a : Act} {p : Pq} {B B0 : Nat} {w0 : World}
variable {i s : Nat} {d : Option Tmp} {ty : TypeId} {ps : String} {af : Array Edge} {gd : Option (Nat × Bool)}
theorem zWz {n0:Nb} {o1:Operand} {f1:List Fd} (hp:p.Ok B B0) (hg:GdQ os a p B B0 w0 af gd) (hi:n0∈p.new) (hii:n0.i=i) (hki:n0.k=i) (hsl:n0.s=some 1) (hm:n0.m=6) (hF1:n0.F1=Fq.st f1) (l1:sz f1=6)
  (g1:SrcQ os a p B B0 w0 af o1 (Fq.st f1).P)
  (hC:∀ v w',(p.c i).P v w') (h1:∀ o∈p.old,o.k≠i) (h2:∀ n∈p.new,n.i≠i→n.k≠i) :
  zAf os Q a p B B0 w0 i { dst:=d,op:=.buildSlice 54 1 #[(0,o1)],type:=ty,pos:=ps,after:=af,guard:=gd }:=by
 intro hio L vs w hG hL hd hc
 obtain ⟨us1,E1,z1⟩:=g1 L vs w hG hd
 have y1:=z1.length
 rw [l1] at y1
 obtain ⟨c1a,c1b,c1c,c1d,c1e,c1f,rfl⟩:=sixQ y1
 obtain ⟨us,hus⟩:∃ us:List Value,us=[c1a,c1b,c1c,c1d,c1e,c1f]:=⟨_,rfl⟩
 refine wpOp_step hio fun K' hK=>?_
 rw [if_pos (zE2 (o:={ dst:=d,op:=.buildSlice 54 1 #[(0,o1)],type:=ty,pos:=ps,after:=af,guard:=gd }) hg hG hd)]
 have e:(execOp (lay os.toArray L vs os.toArray.size a).eval ({ dst:=d,op:=.buildSlice 54 1 #[(0,o1)],type:=ty,pos:=ps,after:=af,guard:=gd }:Oper)).run Tryz.prog w=.ok (.value (.slice (some ⟨w.heap.size,0,none⟩) 1 1)) (w.alloc (.cells us.toArray 38)):=by
  generalize (lay os.toArray L vs os.toArray.size a).eval=ρ at E1
  simp [execOp,go_sem,E1,hus]
 unfold Oper.wp
 rw [e]
 have hb:=zAh w (.cells us.toArray 38)
 have hfit:Fits w f1 us:=by rw [hus];exact z1
 subst hii
 have hnow:n0.now (up L n0.i true)=n0.F1:=by
  unfold Nb.now
  rw [hsl]
  rfl
 have hlay:=hG.lay hp hi (F:=n0.F1) hnow hC h1 h2 38 (us:=us) (by rw [hus,hm];rfl) zm hfit.tame (by rw [hF1];exact ⟨us,rfl,hfit.mono hb⟩)
 have hptr:n0.ptr w.heap.size=.slice (some ⟨w.heap.size,0,none⟩) 1 1:=by unfold Nb.ptr;rw [hsl]
 rw [hptr] at hlay
 exact hK _ _ ⟨_,rfl,hlay⟩
end
def eDF:F3:=⟨1,0,1⟩
def ePF:F3:=⟨2,0,2⟩
theorem e_all:∀ Q ∈ [e1F,e2F,e3F],Sm Q:=by
 intro Q hQ
 simp at hQ
 rcases hQ with rfl | rfl | rfl
 ·exact e_sm.1
 ·exact e_sm.2.1
 ·exact e_sm.2.2
theorem exRoots23 {w:World} {v vl:Value} (h:(f3 e2F.a e2F.b e2F.c).P v w) (hl:Fl w vl [e1F,e2F,e3F]):Calls Tryz.prog 21 #[v,vl] w fun e w'=>∃ v1 B,e=.returned (.tuple #[v1,.int .i64 0])∧Below w.heap.size w w'∧w.heap.size≤B∧Ls 38 6 w' B v1 (([e1F,e2F,e3F].filter (rtB (rdF e2F))).map frF):=
 zPa h e_sm.2.1 e2_gm.1 zd hl zd e_all
theorem e_odd:cmE e2F.a e2F.b e2F.c eDF.a eDF.b eDF.c=5:=by decide
theorem e_prim:cmE ePF.a ePF.b ePF.c e2F.a e2F.b e2F.c=80:=by decide
theorem zUt (w:World) (hT:Tabs w) :
  Rt 9 #[] w fun v' w'=>v'=.bool true:=by
 have HT:=hidd hT
 obtain ⟨i0,hi,hz0,hz1,hz2⟩:=info_parts zL1
 clear hi hz0 hz1 hz2 i0
 go_enter Tryz.func9,Tryz.ntmps9
 go_upto_region 1 with (fail)
 have E:=Fr.start w
 refine rz [.w (f3 e1F.a e1F.b e1F.c),.w (f3 e2F.a e2F.b e2F.c),.w (f3 e3F.a e3F.b e3F.c),.k,.k,.k,.a,.a,.a] [] [⟨3,6,6,f3 0 0 0,f3 e1F.a e1F.b e1F.c,none⟩,⟨4,7,6,f3 0 0 0,f3 e2F.a e2F.b e2F.c,none⟩,⟨5,8,6,f3 0 0 0,f3 e3F.a e3F.b e3F.c,none⟩] E (fun hp=>⟨zEu (F:=(Fq.is (.int .i64 1)).P) (G:=(Fq.is (.int .i64 1)).P) (F3:=(Fq.is (.int .i64 6)).P) hp fo tv (zGv) (zAk (fun _=>rfl)) (zAk (fun _=>rfl)) (zAk (fun _=>rfl)) (fun v v' u w h h' g=>(by subst h h' g;exact zG2 zd zd zd)),zEu (F:=(Fq.is (.int .i64 2)).P) (G:=(Fq.is (.int .i64 1)).P) (F3:=(Fq.is (.int .i64 3)).P) hp fo tv (zGv) (zAk (fun _=>rfl)) (zAk (fun _=>rfl)) (zAk (fun _=>rfl)) (fun v v' u w h h' g=>(by subst h h' g;exact zG2 zd zd zd)),zEu (F:=(Fq.is (.int .i64 2)).P) (G:=(Fq.is (.int .i64 (-1))).P) (F3:=(Fq.is (.int .i64 3)).P) hp fo tv (zGv) (zAk (fun _=>rfl)) (zAk (fun _=>rfl)) (zAk (fun _=>rfl)) (fun v v' u w h h' g=>(by subst h h' g;exact zG2 zd zd zd)),aS hp J0 zAt zB1,aS hp J1 zAt zB1,aS hp J2 zAt zB1,sS 0 hp J0 zAn,sS 1 hp J1 zAn,sS 2 hp J2 zAn,tv⟩) ?_
 intro w1 b1_3 b1_4 b1_5 E _ _
 simp only [rzE] at E ⊢
 go_upto_region 2 with (fail)
 refine rz [.w (f3 e2F.a e2F.b e2F.c),.w (Fq.tup2 (Fq.is (.int .i64 ((3:Nat):Int))) (Fq.is (.int .i64 0))),.w (Fq.tup2 (Fq.is (.int .i64 ((3:Nat):Int))) (Fq.is (.int .i64 0))),.i ((3:Nat):Int),.i 0,.i ((3:Nat):Int),.i 0] N3 [] E (fun hp=>⟨lS 0 6 hp J1 zAc zw,zEt (F:=(f3 e2F.a e2F.b e2F.c).P) (G:=(Fq.is (.int .i64 6)).P) hp fo tv (zOn) (sqi 0) (zAk (fun _=>rfl)) (fun v v' w h h'=>(by subst h';exact zUe (hh:=6) (o:=3) h e_sm.2.1 e2_gm.1 (GC.of zd zd) zd zd e_ord zd)),zS,zS,zS,zS,zS,tv⟩) ?_
 intro w2 E _ _
 simp only [rzE] at E ⊢
 go_upto_region 3 with (fail)
 refine rz [.w (f3 e2F.a e2F.b e2F.c),.w (Fq.tup2 (Fq.is (.int .i64 0)) (Fq.is (.int .i64 1))),.w (Fq.tup2 (Fq.is (.int .i64 0)) (Fq.is (.int .i64 1))),.i 0,.i 1,.i 0,.i 1] N3 [] E (fun hp=>⟨lS 0 6 hp J1 zAc zw,zEt (F:=(f3 e2F.a e2F.b e2F.c).P) (G:=(Fq.is (.int .i64 4)).P) hp fo tv (zOn) (sqi 0) (zAk (fun _=>rfl)) (fun v v' w h h'=>(by subst h';exact zUd (hh:=4) h e_sm.2.1 e2_gm.1 (GC.of zd zd) zd zd e_four)),zS,zS,zS,zS,zS,tv⟩) ?_
 intro w3 E _ _
 simp only [rzE] at E ⊢
 go_upto_region 4 with (fail)
 refine wp_region_list ?_
 refine zE3 rfl 38 (.tmp 2) rfl zAc rfl rfl (StAt.of_boxQ (E.box 1 rfl)) fun v0 hv0=>?_
 obtain ⟨es0,rfl,hf0⟩:=hv0
 have hl0:=hf0.length
 obtain ⟨p0a,p0b,p0c,p0d,p0e,p0f,rfl⟩:=sixQ hl0
 clear hl0
 refine zE3 rfl 38 (.tmp 1) rfl zAc rfl rfl (StAt.of_boxQ (E.box 0 rfl)) fun v1 hv1=>?_
 obtain ⟨es1,rfl,hf1⟩:=hv1
 have hl1:=hf1.length
 obtain ⟨p1a,p1b,p1c,p1d,p1e,p1f,rfl⟩:=sixQ hl1
 clear hl1
 refine zE3 rfl 38 (.tmp 2) rfl zAc rfl rfl (StAt.of_boxQ (E.box 1 rfl)) fun v2 hv2=>?_
 obtain ⟨es2,rfl,hf2⟩:=hv2
 have hl2:=hf2.length
 obtain ⟨p2a,p2b,p2c,p2d,p2e,p2f,rfl⟩:=sixQ hl2
 clear hl2
 refine zE3 rfl 38 (.tmp 3) rfl zAc rfl rfl (StAt.of_boxQ (E.box 2 rfl)) fun v3 hv3=>?_
 obtain ⟨es3,rfl,hf3⟩:=hv3
 have hl3:=hf3.length
 obtain ⟨p3a,p3b,p3c,p3d,p3e,p3f,rfl⟩:=sixQ hl3
 clear hl3
 have hf5:Fits w3 (rowQ [e1F,e2F,e3F]) [p1a,p1b,p1c,p1d,p1e,p1f,p2a,p2b,p2c,p2d,p2e,p2f,p3a,p3b,p3c,p3d,p3e,p3f]:=hf1.append (hf2.append hf3)
 have HFV:Hid ((f3 e2F.a e2F.b e2F.c).P (.agg #[p0a,p0b,p0c,p0d,p0e,p0f]) w3):=⟨_,rfl,hf0⟩
 have HF5:=hidd hf5
 clear hf0 hf1 hf2 hf3 hf5
 go_upto_region 5 with (first | (go_at_call 21;(with_reducible refine (exRoots23 ((Fq.st _).mono HFV.out (zAh _ _)) (Fl.built (n:=3) (Ps:=[e1F,e2F,e3F]) rfl HF5.out zd)).mono ?_);rintro e w9 ⟨vL,BL,rfl,hBW,hBs,hLs⟩) | fail)
 have hfl:=hLs.fl
 rw [e_roots] at hfl
 have HFL:=hidd hfl
 have EE:=E.mono ((zAh _ _).trans (hBW.mono (zAh _ _).size))
 clear hLs hfl hBs hBW HFV HF5 E
 have HO1:Hid (∀ w1,Below w9.heap.size w9 w1→StAt w1 b1_3 0 [.n e1F.a,.n e1F.b,.n e1F.c]):=fun w1 hb1=>(EE.box 0 rfl).stAt hb1
 have HO2:Hid (∀ w1,Below w9.heap.size w9 w1→StAt w1 b1_4 0 [.n e2F.a,.n e2F.b,.n e2F.c]):=fun w1 hb1=>(EE.box 1 rfl).stAt hb1
 have HO3:Hid (∀ w1,Below w9.heap.size w9 w1→StAt w1 b1_5 0 [.n e3F.a,.n e3F.b,.n e3F.c]):=fun w1 hb1=>(EE.box 2 rfl).stAt hb1
 have HB0:=hidd EE.below
 have HT9:=hidd (HT.out.mono EE.below)
 clear HT EE
 have HT:=HT9
 clear HT9
 have E:=Fr.start w9
 refine rz [.n (-23),.w (Fq.st [.n F3.zero.a,.n F3.zero.b,.n F3.zero.c,.v (.int .i64 6)]),.k,.a] [] [⟨2,3,7,Fq.st [.n 0,.n 0,.n 0,.v (.int .i64 0)],Fq.st [.n F3.zero.a,.n F3.zero.b,.n F3.zero.c,.v (.int .i64 6)],none⟩] E (fun hp=>⟨zBp (F:=(Fq.is (.int .i64 (-23))).P) hp fo tv (zDl) (zAk (fun _=>rfl)) (fun v w h=>(by subst h;exact rOfK w (-23) zm zm)),zD0 (F:=(Fq.num (-23)).P) (G:=(Fq.is (.int .i64 5)).P) hp fo tv (zOi) rfl (sqi 0) (zAk (fun _=>rfl)) (fun v v' w hbw h h'=>(by subst h';exact zPb h fun w1 x hb1 hx=>exPrime5 ((HT.out.mono hbw).mono hb1) hx)),aS hp J0 zGf zM6,sS 1 hp J0 zHc,tv⟩) ?_
 intro w4 b4_2 E _ _
 simp only [rzE] at E ⊢
 go_upto_region 6 with (fail)
 refine rz [.w (f3 e2F.a e2F.b e2F.c),.w (f3 eDF.a eDF.b eDF.c),.w (Fq.st [.n F3.zero.a,.n F3.zero.b,.n F3.zero.c,.v (.int .i64 5)]),.k,.a] [none] [⟨3,4,7,Fq.st [.n 0,.n 0,.n 0,.v (.int .i64 0)],Fq.st [.n F3.zero.a,.n F3.zero.b,.n F3.zero.c,.v (.int .i64 5)],none⟩] E (fun hp=>⟨zCi (off:=0) (l:=6) (fs:=[.n e2F.a,.n e2F.b,.n e2F.c]) hp fo tv HO2.out zAc rfl (sqo 2) (fun v w h=>h),zEu (F:=(Fq.is (.int .i64 1)).P) (G:=(Fq.is (.int .i64 0)).P) (F3:=(Fq.is (.int .i64 1)).P) hp fo tv (zGv) (zAk (fun _=>rfl)) (zAk (fun _=>rfl)) (zAk (fun _=>rfl)) (fun v v' u w h h' g=>(by subst h h' g;exact zG2 zd zd zd)),zC hp zHr zi zi fun v v' w h h'=>zHv h h' e_sm.2.1 ⟨zd,zd,zd⟩ (cm_no e_odd zd) e_odd,aS hp J0 zGf zM6,sS 2 hp J0 zHc,tv⟩) ?_
 intro w5 b5_3 E _ _
 simp only [rzE] at E ⊢
 go_upto_region 7 with (fail)
 refine rz [.i 0,.o,.o,.i ((3:Nat):Int),.o,.o,.o,.i 1,.o,.o,.o,.i 0,.o,.o,.o,.p b4_2 6,.i 6,.o,.o,.o,.p b5_3 6,.i 5,.o,.o,.o,.w (f3 ePF.a ePF.b ePF.c),.w (f3 e2F.a e2F.b e2F.c),.w (Fq.st [.n F3.zero.a,.n F3.zero.b,.n F3.zero.c,.v (.int .i64 80)]),.i 80,.o,.o] N2 [] E (fun hp=>⟨zS,zo hp (sqi 0),zS,zAi hp fo gqi (sqo 4),zo hp (sqi 3),zt hp (sqi 2) (sqi 4),zS,zAi hp fo gqi (sqo 7),zo hp (sqi 7),zt hp (sqi 6) (sqi 8),zS,zAi hp fo gqi (sqo 9),zo hp (sqi 11),zt hp (sqi 10) (sqi 12),zS,zg b4_2 0 6 hp zw,zIi (off:=6) (fs:=[.n F3.zero.a,.n F3.zero.b,.n F3.zero.c,.v (.int .i64 6)]) (u:=.int .i64 6) hp fo gqi J1 (.inl rfl) rfl rfl (fun ρ w b h1 h2=>by simp [execOp,go_sem,h1,h2]) (sqi 15) (fun _=>rfl),zo hp (sqi 16),zt hp (sqi 14) (sqi 17),zS,zg b5_3 0 6 hp zw,zIi (off:=6) (fs:=[.n F3.zero.a,.n F3.zero.b,.n F3.zero.c,.v (.int .i64 5)]) (u:=.int .i64 5) hp fo gqi J0 (.inl rfl) rfl rfl (fun ρ w b h1 h2=>by simp [execOp,go_sem,h1,h2]) (sqi 20) (fun _=>rfl),zo hp (sqi 21),zt hp (sqi 19) (sqi 22),zS,zEu (F:=(Fq.is (.int .i64 2)).P) (G:=(Fq.is (.int .i64 0)).P) (F3:=(Fq.is (.int .i64 2)).P) hp fo gqi (zGv) (zAk (fun _=>rfl)) (zAk (fun _=>rfl)) (zAk (fun _=>rfl)) (fun v v' u w h h' g=>(by subst h h' g;exact zG2 zd zd zd)),zCi (off:=0) (l:=6) (fs:=[.n e2F.a,.n e2F.b,.n e2F.c]) hp fo gqi HO2.out zAc rfl (sqo 2) (fun v w h=>h),zC hp zHr zi zi (fun v v' w h h'=>zHv h h' ⟨zd,zd,zd⟩ e_sm.2.1 (cm_no e_prim zd) e_prim),q_gotErr (a0:=F3.zero.a) (b0:=F3.zero.b) (c0:=F3.zero.c) (e0:=80) hp fo gqi (sqi 27) (fun _=>rfl),zo hp (sqi 28),zt hp (sqi 24) (sqi 29),tv⟩) ?_
 intro w6 E _ _
 simp only [rzE] at E ⊢
 go_upto_region 9 with (fail)
 refine rz [.w (f3 e2F.a e2F.b e2F.c),.w (f3 e2F.a e2F.b e2F.c),.w (Fq.st [.n e3F.a,.n e3F.b,.n e3F.c,.v (.int .i64 0)]),.w (f3 e3F.a e3F.b e3F.c),.t,.t,.w (f3 e2F.a e2F.b e2F.c),.w (f3 e3F.a e3F.b e3F.c),.w (Fq.st [.n e1F.a,.n e1F.b,.n e1F.c,.v (.int .i64 0)]),.w (f3 e1F.a e1F.b e1F.c),.t,.t,.t,.w (f3 e2F.a e2F.b e2F.c),.n (-1),.w (Fq.st [.n e3F.a,.n e3F.b,.n e3F.c,.v (.int .i64 0)]),.w (f3 e3F.a e3F.b e3F.c),.t,.t,.t,.n (-23),.w (Fq.st [.n e3F.a,.n e3F.b,.n e3F.c,.v (.int .i64 0)]),.w (f3 e3F.a e3F.b e3F.c),.t,.t,.t,.u (vL),.w (f3 e3F.a e3F.b e3F.c),.k,.t,.t,.t] N2 [⟨28,28,6,f3 e3F.a e3F.b e3F.c,f3 e3F.a e3F.b e3F.c,(some 1)⟩] E (fun hp=>⟨zCi (off:=0) (l:=6) (fs:=[.n e2F.a,.n e2F.b,.n e2F.c]) hp fo tv HO2.out zAc rfl (sqo 2) (fun v w h=>h),zCi (off:=0) (l:=6) (fs:=[.n e2F.a,.n e2F.b,.n e2F.c]) hp fo tv HO2.out zAc rfl (sqo 2) (fun v w h=>h),zC hp zHr zi zi fun v v' w h h'=>zHv h h' e_sm.2.1 e_sm.2.1 ((zGs zd e2_gm.1 e2_gm.1).1.trans e_22) (zGs zd e2_gm.1 e2_gm.1).2,zCi (off:=0) (l:=6) (fs:=[.n e3F.a,.n e3F.b,.n e3F.c]) hp fo tv HO3.out zAc rfl (sqo 3) (fun v w h=>h),zC hp zJf zi zi fun v v' w h h'=>exGIs h h' zd,zS,zCi (off:=0) (l:=6) (fs:=[.n e2F.a,.n e2F.b,.n e2F.c]) hp fo gqi HO2.out zAc rfl (sqo 2) (fun v w h=>h),zCi (off:=0) (l:=6) (fs:=[.n e3F.a,.n e3F.b,.n e3F.c]) hp fo gqi HO3.out zAc rfl (sqo 3) (fun v w h=>h),zC hp zHr zi zi (fun v v' w h h'=>zHv h h' e_sm.2.1 e_sm.2.2 ((zGs zd e2_gm.1 e3_gm.1).1.trans e_23) (zGs zd e2_gm.1 e3_gm.1).2),zCi (off:=0) (l:=6) (fs:=[.n e1F.a,.n e1F.b,.n e1F.c]) hp fo gqi HO1.out zAc rfl (sqo 1) (fun v w h=>h),zC hp zJf zi zi (fun v v' w h h'=>exGIs h h' zd),zt hp (sqi 5) (sqi 10),zS,zCi (off:=0) (l:=6) (fs:=[.n e2F.a,.n e2F.b,.n e2F.c]) hp fo gqi HO2.out zAc rfl (sqo 2) (fun v w h=>h),zBp (F:=(Fq.is (.int .i64 (-1))).P) hp fo gqi (zDl) (zAk (fun _=>rfl)) (fun v w h=>(by subst h;exact rOfK w (-1) zm zm)),zC hp zTk zi zi (fun v v' w h h'=>(by have hh9:=zUq (GC.of (D:=-23) zd zd) e2_gm.1 (zAr zd zd |> fun h9=>zu h9) e_sm.2.1 h h';rw [e_inv] at hh9;exact hh9)),zCi (off:=0) (l:=6) (fs:=[.n e3F.a,.n e3F.b,.n e3F.c]) hp fo gqi HO3.out zAc rfl (sqo 3) (fun v w h=>h),zC hp zJf zi zi (fun v v' w h h'=>exGIs h h' zd),zt hp (sqi 12) (sqi 17),zS,zBp (F:=(Fq.is (.int .i64 (-23))).P) hp fo gqi (zDl) (zAk (fun _=>rfl)) (fun v w h=>(by subst h;exact rOfK w (-23) zm zm)),zD0 (F:=(Fq.num (-23)).P) (G:=(Fq.is (.int .i64 3)).P) hp fo gqi (zOi) rfl (sqi 20) (zAk (fun _=>rfl)) (fun v v' w hbw h h'=>(by subst h';exact zPb h fun w1 x hb1 hx=>exPrime3 hx)),zCi (off:=0) (l:=6) (fs:=[.n e3F.a,.n e3F.b,.n e3F.c]) hp fo gqi HO3.out zAc rfl (sqo 3) (fun v w h=>h),zC hp zJf zi zi (fun v v' w h h'=>exGIs h h' zd),zt hp (sqi 19) (sqi 23),zS,zAi hp fo gqi (sqo 8),zCi (off:=0) (l:=6) (fs:=[.n e3F.a,.n e3F.b,.n e3F.c]) hp fo gqi HO3.out zAc rfl (sqo 3) (fun v w h=>h),zWz (f1:=[.n e3F.a,.n e3F.b,.n e3F.c]) hp gqi J0 rfl rfl rfl rfl rfl rfl (sqi 27) (fun _ _=>trivial) (zCh rfl) (zDy rfl),q_callWSl (F:=(Fq.is (vL)).P) hp fo gqi zTr rfl J0 rfl (sqi 26) (zEg rfl rfl (by simp) rfl) (fun v bx w hbw h hbx=>(by subst h;exact zT2 (HFL.out.mono hbw) (Fl.ofBox (Ps:=[e3F]) rfl hbx) zd)),zt hp (sqi 25) (sqi 29),zS,tv⟩) ?_
 intro w7 b7_28 E _ _
 simp only [rzE] at E ⊢
 clear HO1 HO2 HO3 HFL HT
 have hB:=HB0.out.trans (E.below.mono HB0.out.size)
 clear HB0
 go_wp2
 refine bodyPost_ret (v:=.bool true) ?_ rfl (by first | exact ⟨_,rfl,hB,rfl⟩ | exact ⟨hB,rfl⟩ | exact ⟨rfl,hB⟩ | exact hB)
 simp [results,Tryz.results9,go_sem]

theorem lift5 {x:Int} (h:ab x<pw 3):ab x<pw 5:=zu h
theorem MOk.b5 {n:Int} {P:F3} (h:MOk n P):ab P.a<pw 5∧ab P.b<pw 5∧ab P.c<pw 5:=⟨lift5 h.2.2.1.1,lift5 h.2.2.1.2.1,lift5 h.2.2.1.2.2⟩
theorem madeF_sc {n i m:Int} (h0:3≤n) (h1:n≤2004) (h4:n % 4=0∨n % 4=3):Sc (-n) (zFa n i m)∧Sm (zFa n i m):=by
 obtain ⟨j,_,_,hj⟩:=zMp i h0 h1 h4
 have hg:Gm (-n) (zCx n i):=(zQc h0 h1).1 (List.mem_of_getElem? hj)
 have ok:=zQf (i:=i) (m:=m) h0 h1 h4
 refine ⟨?_,zFy (by have:=ok.2.2.2.1;omega),zFy (by have:=ok.2.2.2.2.1;omega),zFy (by have:=ok.2.2.2.2.2;omega)⟩
 unfold zFa
 split
 ·exact hg.1
 ·exact Eqv.sc (P:=zCx n i) zm ⟨_,_,_,_,zm,rfl,rfl,rfl⟩ hg.1
theorem exGProd0 {w:World} {v v':Value} {D:Int} {P Q R:F3} (hD:D<0) (hP:Sc D P) (hQ:Sc D Q) (sP:Sm P) (sQ:Sm Q) (hR:mulF D P Q=R) (h:(f3 P.a P.b P.c).P v w) (h':(f3 Q.a Q.b Q.c).P v' w):Calls Tryz.prog 16 #[v,v'] w fun e w'=>∃ v',e=.returned v'∧Below w.heap.size w w'∧(Fq.st [.n R.a,.n R.b,.n R.c,.v (.int .i64 0)]).P v' w':=
 zHv h h' sP sQ ((zGs hD hP hQ).1.trans hR) (zGs hD hP hQ).2
structure XB where
 j:Nat
 k:Nat
 l:Nat
 m:Nat
 F:Fq
def XB.okA (x:XB) (p:Pq) (B0:Nat) (L:Nat→Bool) (vs:Nat→Value) (w:World):Prop:=
 L x.j=true→∃ g cap,vs x.j=.slice (some ⟨g,0,none⟩) x.l cap∧B0≤g∧Bq w g x.m x.F∧∀ n∈p.new,L n.i=true→zE6 (vs n.i)≠g
def XB.okB (x:XB) (L:Nat→Bool) (vs:Nat→Value):Prop:=L x.k=true→L x.j=true∧vs x.k=vs x.j
def GX (p:Pq) (B B0:Nat) (w0:World) (x:XB) (L:Nat→Bool) (vs:Nat→Value) (w:World):Prop:=p.G B B0 w0 L vs w∧x.okA p B0 L vs w∧x.okB L vs
theorem XB.keepA {x:XB} {p:Pq} {B0:Nat} {L:Nat→Bool} {vs:Nat→Value} {w w':World} (h:x.okA p B0 L vs w) (hb:Below w.heap.size w w') {i:Nat} {v:Value} (hi:x.j≠i) (hF:p.Free i):x.okA p B0 (up L i true) (up vs i v) w':=by
 intro hL
 rw [zAg _ _ hi] at hL ⊢
 obtain ⟨g,cap,e1,e2,e3,e4⟩:=h hL
 refine ⟨g,cap,e1,e2,e3.mono hb,fun n hn hj=>?_⟩
 rw [zAg _ _ (hF.2 n hn).1] at hj ⊢
 exact e4 n hn hj
theorem XB.keepB {x:XB} {L:Nat→Bool} {vs:Nat→Value} (h:x.okB L vs) {i:Nat} {v:Value} (hi:x.j≠i) (hk:x.k≠i):x.okB (up L i true) (up vs i v):=by
 intro hL
 rw [zAg _ _ hk] at hL
 rw [zAg _ _ hk,zAg _ _ hi,zAg _ _ hi]
 exact h hL
section
variable {os : List Oper} {Q : Exit → Act → World → Prop} {a : Act} {p : Pq} {B B0 : Nat} {w0 : World} {x : XB}
variable {i s : Nat} {d : Option Tmp} {ty : TypeId} {ps : String} {af : Array Edge} {gd : Option (Nat × Bool)}
def zD4 (os:List Oper) (Q:Exit→Act→World→Prop) (a:Act) (p:Pq) (B B0:Nat) (w0:World) (x:XB) (i:Nat) (o:Oper):Prop:=
 os.toArray[i]?=some o→∀ L vs w,GX p B B0 w0 x L vs w→L i=false→(∀ e∈o.after,Region.binds .any e=true→L e.on=true)→zDb os.toArray L →
  wpOp Tryz.prog os.toArray Q i (fun a' w'=>∃ v,a'=(lay os.toArray L vs os.toArray.size a).put o.dst v∧GX p B B0 w0 x (up L i true) (up vs i v) w') (lay os.toArray L vs os.toArray.size a) w
theorem stx_val {o:Oper} (hij:x.j≠i) (hik:x.k≠i) (hp:p.Ok B B0) (hF:p.Free i) (hg:GdQ os a p B B0 w0 o.after o.guard) (hr:∀ L vs w,p.G B B0 w0 L vs w→L i=false→zDb os.toArray L→(∀ e∈o.after,Region.binds .any e=true→L e.on=true) →
   ∃ v,(execOp (lay os.toArray L vs os.toArray.size a).eval o).run Tryz.prog w=.ok (.value v) w∧(p.c i).P v w):zD4 os Q a p B B0 w0 x i o:=by
 intro hio L vs w hG hL hd hc
 refine wpOp_step hio fun K' hK=>?_
 obtain ⟨v,hv,hCv⟩:=hr L vs w hG.1 hL hc hd
 rw [if_pos (zE2 hg hG.1 hd)]
 unfold Oper.wp
 rw [hv]
 exact hK _ _ ⟨_,rfl,hG.1.plain hp hF (Below.refl _ _) hCv,XB.keepA hG.2.1 (Below.refl _ _) hij hF,XB.keepB hG.2.2 hij hik⟩
theorem zSd {f:FuncId} {xs:Array Operand} {ts:Array TypeId} (hij:x.j≠i) (hik:x.k≠i) (hp:p.Ok B B0) (hF:p.Free i) (hg:GdQ os a p B B0 w0 af gd) (hen:∀ args w,(callFunc f args).run Tryz.prog w=.ok (.enter f args) w)
  (hr:∀ L vs w,p.G B B0 w0 L vs w→(∀ e∈af,Region.binds .any e=true→L e.on=true)→∃ args,xs.map (lay os.toArray L vs os.toArray.size a).eval=args ∧
   Calls Tryz.prog f args w fun e w'=>∃ v',e=.returned v'∧Below w.heap.size w w'∧(p.c i).P v' w') :
  zD4 os Q a p B B0 w0 x i { dst:=d,op:=.call { callee:=.value (.func f),args:=xs,argTypes:=ts },type:=ty,pos:=ps,after:=af,guard:=gd }:=by
 intro hio L vs w hG hL hd hc
 refine wpOp_step hio fun K' hK=>?_
 obtain ⟨args,hx,hC⟩:=hr L vs w hG.1 hd
 rw [if_pos (zE2 (o:={ dst:=d,op:=.call { callee:=.value (.func f),args:=xs,argTypes:=ts },type:=ty,pos:=ps,after:=af,guard:=gd }) hg hG.1 hd)]
 have e:(execOp (lay os.toArray L vs os.toArray.size a).eval ({ dst:=d,op:=.call { callee:=.value (.func f),args:=xs,argTypes:=ts },type:=ty,pos:=ps,after:=af,guard:=gd }:Oper)).run Tryz.prog w=(.ok (.enter f args) w):=by
  have hf:(lay os.toArray L vs os.toArray.size a).eval (.func f)=.func (.func f) #[] #[]:=rfl
  generalize (lay os.toArray L vs os.toArray.size a).eval=ρ at hx hf
  simp [execOp,go_sem,hx,hf,hen]
 unfold Oper.wp
 rw [e]
 refine hC.mono ?_
 rintro e' w' ⟨v',rfl,hb,h⟩
 exact hK _ _ ⟨_,rfl,hG.1.plain hp hF hb h,XB.keepA hG.2.1 hb hij hF,XB.keepB hG.2.2 hij hik⟩
theorem stx_list {f:FuncId} {xs:Array Operand} {ts:Array TypeId} (hij:x.j=i) (hik:x.k≠i) (hp:p.Ok B B0) (hF:p.Free i) (hg:GdQ os a p B B0 w0 af gd) (hen:∀ args w,(callFunc f args).run Tryz.prog w=.ok (.enter f args) w) (hC0:∀ v w,(p.c i).P v w)
  (hr:∀ L vs w,p.G B B0 w0 L vs w→(∀ e∈af,Region.binds .any e=true→L e.on=true)→∃ args,xs.map (lay os.toArray L vs os.toArray.size a).eval=args ∧
   Calls Tryz.prog f args w fun e w'=>∃ v',e=.returned v'∧Below w.heap.size w w'∧∃ g cap,v'=.slice (some ⟨g,0,none⟩) x.l cap∧w.heap.size≤g∧Bq w' g x.m x.F) :
  zD4 os Q a p B B0 w0 x i { dst:=d,op:=.call { callee:=.value (.func f),args:=xs,argTypes:=ts },type:=ty,pos:=ps,after:=af,guard:=gd }:=by
 intro hio L vs w hG hL hd hc
 refine wpOp_step hio fun K' hK=>?_
 obtain ⟨args,hx,hC⟩:=hr L vs w hG.1 hd
 rw [if_pos (zE2 (o:={ dst:=d,op:=.call { callee:=.value (.func f),args:=xs,argTypes:=ts },type:=ty,pos:=ps,after:=af,guard:=gd }) hg hG.1 hd)]
 have e:(execOp (lay os.toArray L vs os.toArray.size a).eval ({ dst:=d,op:=.call { callee:=.value (.func f),args:=xs,argTypes:=ts },type:=ty,pos:=ps,after:=af,guard:=gd }:Oper)).run Tryz.prog w=(.ok (.enter f args) w):=by
  have hf:(lay os.toArray L vs os.toArray.size a).eval (.func f)=.func (.func f) #[] #[]:=rfl
  generalize (lay os.toArray L vs os.toArray.size a).eval=ρ at hx hf
  simp [execOp,go_sem,hx,hf,hen]
 unfold Oper.wp
 rw [e]
 refine hC.mono ?_
 rintro e' w' ⟨v',rfl,hb,g,cap,hv,hgg,hB⟩
 refine hK _ _ ⟨_,rfl,hG.1.plain hp hF hb (hC0 _ _),fun _=>⟨g,cap,by rw [hij,zBx];exact hv,Nat.le_trans hG.1.size hgg,hB,fun n hn hj=>?_⟩,fun hLk=>by rw [zAg _ _ hik] at hLk;have:=(hG.2.2 hLk).1;rw [hij,hL] at this;cases this⟩
 rw [zAg _ _ (hF.2 n hn).1] at hj ⊢
 obtain ⟨b,e1,_,e3⟩:=hG.1.new n hn hj
 rw [e1,Nb.block_ptr]
 have:=e3.lt
 omega
theorem stx_copy (hik:x.k=i) (hij:x.j≠i) (hp:p.Ok B B0) (hF:p.Free i) (ha:zAy (os.map (·.dst))=true) (hj:(os.map (·.dst))[x.j]?=some (some s)) (hs:s<a.tmps.size) (hdep:depA af x.j=true) (hC0:∀ v w,(p.c i).P v w) :
  zD4 os Q a p B B0 w0 x i { dst:=d,op:=.assign (.tmp s),type:=ty,pos:=ps,after:=af,guard:=none }:=by
 intro hio L vs w hG hL hd hc
 refine wpOp_step hio fun K' hK=>?_
 have hLj:=zGt hdep hd
 have hwn:Region.wanted ({ dst:=d,op:=.assign (.tmp s),type:=ty,pos:=ps,after:=af,guard:=none }:Oper) (yielded os.toArray (lay os.toArray L vs os.toArray.size a).tmps)=true:=rfl
 have hev:=zC8 (vs:=vs) ha hLj hj hs
 rw [if_pos hwn]
 unfold Oper.wp
 have e:(execOp (lay os.toArray L vs os.toArray.size a).eval ({ dst:=d,op:=.assign (.tmp s),type:=ty,pos:=ps,after:=af,guard:=none }:Oper)).run Tryz.prog w=.ok (.value (vs x.j)) w:=by
  generalize (lay os.toArray L vs os.toArray.size a).eval=ρ at hev
  simp [execOp,go_sem,hev]
 rw [e]
 refine hK _ _ ⟨_,rfl,hG.1.plain hp hF (Below.refl _ _) (hC0 _ _),XB.keepA hG.2.1 (Below.refl _ _) hij hF,fun _=>?_⟩
 rw [hik,zBx,zAg _ _ hij,zAg _ _ hij]
 exact ⟨hLj,rfl⟩
theorem zXx {n0:Nb} {T:Nat} {us:List Value} {fs:List Fd} (hij:x.j≠i) (hik:x.k≠i) (hp:p.Ok B B0) (hi:n0∈p.new) (hii:n0.i=i) (hsl:n0.s=none) (hm:n0.m=us.length) (h0:0<us.length) (hf0:n0.F0=Fq.st fs) (hz:∀ w,Fits w fs us)
  (hT:∀ (ρ:Operand→Value) (w:World),(execOp ρ { dst:=d,op:=.alloc T,type:=ty,pos:=ps,after:=af,guard:=none }).run Tryz.prog w=.ok (.value (.pointer (some ⟨w.heap.size,0,none⟩))) (w.alloc (.cells us.toArray T)))
  (hk:zBo os 9 n0.k i=true) (hki:n0.k≠i) (hC:∀ v w',(p.c i).P v w') (h1:∀ o∈p.old,o.k≠i) (h2:∀ n∈p.new,n.k≠i) :
  zD4 os Q a p B B0 w0 x i { dst:=d,op:=.alloc T,type:=ty,pos:=ps,after:=af,guard:=none }:=by
 subst hii
 intro hio L vs w hG hL hd hc
 refine wpOp_step hio fun K' hK=>?_
 have hwn:Region.wanted ({ dst:=d,op:=.alloc T,type:=ty,pos:=ps,after:=af,guard:=none }:Oper) (yielded os.toArray (lay os.toArray L vs os.toArray.size a).tmps)=true:=rfl
 rw [if_pos hwn]
 unfold Oper.wp
 rw [hT]
 refine hK _ _ ⟨_,rfl,hG.1.alloc hp hi hsl (zFm hc hk hL) hki hC h1 h2 _ (us:=us) hm.symm zm (hz w).tame (fun w'=>by rw [hf0];exact ⟨_,rfl,hz w'⟩),fun hLj=>?_,XB.keepB hG.2.2 hij hik⟩
 rw [zAg _ _ hij] at hLj ⊢
 obtain ⟨g,cap,e1,e2,e3,e4⟩:=hG.2.1 hLj
 refine ⟨g,cap,e1,e2,e3.mono (zAh _ _),fun n hn hj=>?_⟩
 by_cases hni:n.i=n0.i
 ·rw [hni,zBx]
  have:=e3.lt
  show w.heap.size≠g
  omega
 ·rw [zAg _ _ hni] at hj ⊢
  exact e4 n hn hj
theorem zXy {n0:Nb} {T:Nat} {y z:Operand} {fs gs:List Fd} (hij:x.j≠i) (hik:x.k≠i) (hp:p.Ok B B0) (hi:n0∈p.new) (hki:n0.k=i) (hsl:n0.s=none) (hf0:n0.F0=Fq.st fs) (hf1:n0.F1=Fq.st gs) (hT:zDa T (sz gs)=true) (hput:putF 0 gs fs=some gs)
  (hx:∀ L vs w,p.G B B0 w0 L vs w→(∀ e∈af,Region.binds .any e=true→L e.on=true)→L n0.i=true∧(lay os.toArray L vs os.toArray.size a).eval y=vs n0.i) (hy:SrcQ os a p B B0 w0 af z (FitV gs))
  (hC:∀ v w',(p.c i).P v w') (h1:∀ o∈p.old,o.k≠i) (h2:∀ n∈p.new,n.i≠i):zD4 os Q a p B B0 w0 x i { dst:=none,op:=.store T y z,type:=ty,pos:=ps,after:=af,guard:=none }:=by
 subst hki
 intro hio L vs w hG hL hd hc
 obtain ⟨hLi,hxe⟩:=hx L vs w hG.1 hd
 have hv:=hy L vs w hG.1 hd
 obtain ⟨b,e1',e2,hbq⟩:=hG.1.new _ hi hLi
 obtain ⟨us,g1,g2,g3,g4,g5⟩:=id hbq
 rw [Nb.now_off hsl hL,hf0] at g5
 obtain ⟨us2,e4,hfit⟩:=g5
 have e3:us=us2:=zFh e4
 subst e3
 have e1:vs n0.i=.pointer (some ⟨b,0,none⟩):=by rw [e1'];unfold Nb.ptr;rw [hsl]
 obtain ⟨us',hl',hfit',hrun⟩:=st_run (d:=none) (ty:=ty) (ps:=ps) (af:=af) (hxe.trans e1) hv g3 hfit hT hput
 refine wpOp_step hio fun K' hK=>?_
 have hwn:Region.wanted ({ dst:=none,op:=.store T y z,type:=ty,pos:=ps,after:=af,guard:=none }:Oper) (yielded os.toArray (lay os.toArray L vs os.toArray.size a).tmps)=true:=rfl
 rw [if_pos hwn]
 unfold Oper.wp
 rw [hrun]
 refine hK _ _ ⟨undef,rfl,hG.1.storeNew hp hi hLi (us:=us') zm hfit'.tame (by rw [hf1];exact ⟨_,rfl,hfit'⟩) hC h1 h2 e1' _,fun hLj=>?_,XB.keepB hG.2.2 hij hik⟩
 rw [zAg _ _ hij] at hLj ⊢
 obtain ⟨g,cap,k1,k2,k3,k4⟩:=hG.2.1 hLj
 have hne:g≠b:=fun e=>k4 _ hi hLi (by rw [e1',Nb.block_ptr,e])
 refine ⟨g,cap,k1,k2,k3.other hbq hne zm,fun n hn hj=>?_⟩
 rw [zAg _ _ (h2 n hn)] at hj ⊢
 exact k4 n hn hj
theorem zXj {x:XB} (hxj:x.j<os.length) (hxk:x.k<os.length) {id:Nat} {dr:Bool} {C:List Fq} {bs:List (Nat × Nat × Fq)} {ks:List (Option (Nat × Fq))} {new:List Nb} {W:World} (E:Fr w0 bs W) (hok:okB os.length bs.length ks new=true) (hm:Tryz.prog.follows .mixedOrders=true) (ha:zAy (os.map (·.dst))=true) (hb:zDr os 0=true)
  (hs:(plq C bs ks new os.length).Ok w0.heap.size W.heap.size→∀ i o,os.toArray[i]?=some o→zD4 os Q a (plq C bs ks new os.length) w0.heap.size W.heap.size w0 x i o)
  (hf:∀ L vs W' (nb:Nat→Nat),(∃ g cap,vs x.j=.slice (some ⟨g,0,none⟩) x.l cap∧vs x.k=.slice (some ⟨g,0,none⟩) x.l cap∧Fr w0 ((g,x.m,x.F)::(new.map (fun n=>(nb n.i,n.m,n.F1))++zAj bs ks)) W')→(∀ j,j<os.length→L j=true)→(∀ j,j<os.length→((C[j]?).getD Fq.any).P (vs j) W')→(∀ n∈new,vs n.i=n.ptr (nb n.i))  →
   Q .normal (lay os.toArray L vs os.length a) W'):(Code.region id os.toArray dr).wp Tryz.prog Q a W:=by
 simp only [okB,Bool.and_eq_true,beq_iff_eq] at hok
 obtain ⟨⟨⟨⟨⟨k1,k2⟩,k3⟩,k4⟩,k5⟩,k6⟩:=hok
 have n2:=zGj k2
 have n4:=zGj k4
 have n5:=zGj k5
 have hp:(plq C bs ks new os.length).Ok w0.heap.size W.heap.size:=by
  refine ⟨fun o ho=>?_,zMm E.apart,zMl n2,zJ9 n4,zJ9 n5,E.below.size⟩
  have h:=E.boxes _ (zGk ho)
  exact ⟨h.1,h.2.lt⟩
 have h0:∀ W',Below W.heap.size W W'→W'.heap.size=W.heap.size→GX (plq C bs ks new os.length) w0.heap.size W.heap.size w0 x (fun _=>false) (fun _=>undef) W':=fun W' hW hsz=>
  ⟨⟨E.below.trans (hW.mono E.below.size),zm,fun _ h=>(by cases h),fun o ho=>by simpa using (E.boxes _ (zGk ho)).2.mono hW,fun _ _ h=>(by cases h),fun _ _ _ _ _ h=>(by cases h)⟩,fun h=>(by cases h),fun h=>(by cases h)⟩
 have hs':=hs hp
 have hend:∀ L vs w,(∀ j,j<os.toArray.size→L j=true)→GX (plq C bs ks new os.length) w0.heap.size W.heap.size w0 x L vs w→Q .normal (lay os.toArray L vs os.toArray.size a) w:=by
  intro L vs w hL hGS
  have hG:=hGS.1
  have hL':∀ j,j<os.length→L j=true:=by simpa using hL
  have hk3:∀ k F,some (k,F)∈ks→k<os.length:=fun k F hm=>by
   have:=List.all_eq_true.1 k3 _ hm
   simpa using this
  have hk6:∀ n∈new,n.i<os.length∧n.k<os.length:=fun n hn=>by
   have:=List.all_eq_true.1 k6 _ hn
   simpa using this
  have hnb:∀ n∈new,∃ b,vs n.i=n.ptr b∧W.heap.size≤b∧Bq w b n.m n.F1:=fun n hn=>by
   obtain ⟨b,e1,e2,e3⟩:=hG.new n hn (hL' _ (hk6 n hn).1)
   rw [Nb.now_on (hL' _ (hk6 n hn).2)] at e3
   exact ⟨b,e1,e2,e3⟩
  let nb:Nat→Nat:=fun i=>zE6 (vs i)
  have hv:∀ n∈new,vs n.i=n.ptr (nb n.i)∧W.heap.size≤nb n.i∧Bq w (nb n.i) n.m n.F1:=fun n hn=>by
   obtain ⟨b,e1,e2,e3⟩:=hnb n hn
   have e4:nb n.i=b:=by show zE6 (vs n.i)=b;rw [e1,Nb.block_ptr]
   rw [e4]
   exact ⟨e1,e2,e3⟩
  have hold:=zQv hL' hk3 hG.old
  have hfst:=zQu (bs:=bs) (ks:=ks) k1
  have hlt:∀ x∈zAj bs ks,w0.heap.size≤x.1∧x.1<W.heap.size:=fun x hx=>by
   have hm:x.1∈bs.map (·.1):=by rw [← hfst];exact List.mem_map.2 ⟨x,hx,rfl⟩
   obtain ⟨y,hy,e⟩:=List.mem_map.1 hm
   have:=E.boxes y hy
   have h2:=this.2.lt
   rw [← e]
   exact ⟨this.1,h2⟩
  have hE:Fr w0 (new.map (fun n=>(nb n.i,n.m,n.F1))++zAj bs ks) w:=by
   refine ⟨hG.below,fun x hx=>?_,?_⟩
   ·rcases List.mem_append.1 hx with hx | hx
    ·obtain ⟨n,hn,rfl⟩:=List.mem_map.1 hx
     have:=hv n hn
     exact ⟨Nat.le_trans E.below.size this.2.1,this.2.2⟩
    ·exact ⟨(hlt x hx).1,hold x hx⟩
   ·rw [List.map_append,hfst,List.map_map]
    refine List.nodup_append.2 ⟨?_,E.apart,fun x hx y hy e=>?_⟩
    ·rw [List.nodup_iff_pairwise_ne,List.pairwise_map]
     have hpw:List.Pairwise (fun n m:Nb=>n.i≠m.i) new:=by
      have:=List.nodup_iff_pairwise_ne.1 n4
      rwa [List.pairwise_map] at this
     refine hpw.imp_of_mem ?_
     intro n m hn hm hne e
     refine hG.apart n hn m hm hne (hL' _ (hk6 n hn).1) (hL' _ (hk6 m hm).1) ?_
     have e':nb n.i=nb m.i:=e
     rw [(hv n hn).1,(hv m hm).1,Nb.block_ptr,Nb.block_ptr,e']
    ·obtain ⟨n,hn,rfl⟩:=List.mem_map.1 hx
     obtain ⟨z,hz,rfl⟩:=List.mem_map.1 hy
     have h1:=(hv n hn).2.1
     have h2:=(E.boxes z hz).2.lt
     have e':nb n.i=z.1:=e
     omega
  obtain ⟨g,cap,e1,e2,e3,e4⟩:=hGS.2.1 (hL' _ hxj)
  have hE2:Fr w0 ((g,x.m,x.F)::(new.map (fun n=>(nb n.i,n.m,n.F1))++zAj bs ks)) w:=by
   refine ⟨hE.below,fun y hy=>?_,?_⟩
   ·rcases List.mem_cons.1 hy with rfl | hy
    ·exact ⟨Nat.le_trans E.below.size e2,e3⟩
    ·exact hE.boxes y hy
   ·rw [List.map_cons,List.nodup_cons]
    refine ⟨fun hm=>?_,hE.apart⟩
    obtain ⟨y,hy,e⟩:=List.mem_map.1 hm
    rcases List.mem_append.1 hy with hy | hy
    ·obtain ⟨n,hn,rfl⟩:=List.mem_map.1 hy
     exact e4 n hn (hL' _ (hk6 n hn).1) e
    ·have:=(hlt y hy).2
     have e':y.1=g:=e
     omega
  have:=hf L vs w nb ⟨g,cap,e1,(hGS.2.2 (hL' _ hxk)).2.trans e1,hE2⟩ hL' (fun j hj=>hG.val j (hL' j hj)) (fun n hn=>(hv n hn).1)
  simpa using this
 cases dr with
 | true=>exact zKw hm (zE5 ha) (zFz hb) (GX (plq C bs ks new os.length) w0.heap.size W.heap.size w0 x) (h0 W.drew (Below.refl _ _).drew rfl) (fun i o ho=>hs' i o ho ho) hend
 | false=>exact zNu (zE5 ha) (zFz hb) (GX (plq C bs ks new os.length) w0.heap.size W.heap.size w0 x) (h0 W (Below.refl _ _) rfl) (fun i o ho=>hs' i o ho ho) hend
end
theorem eqF_no {P Q:F3} (h:¬ P=Q):eqF P.a P.b P.c Q.a Q.b Q.c=false:=Bool.eq_false_iff.2 fun e=>h (F3.ext' (eqF_iff.1 e))
section
variable {os : List Oper} {Q : Exit → Act → World → Prop} {a : Act} {p : Pq} {B B0 : Nat} {w0 : World}
variable {i s : Nat} {d : Option Tmp} {ty : TypeId} {ps : String} {af : Array Edge} {gd : Option (Nat × Bool)}
theorem zSe {y:XB} {o:Ob} {off l T:Nat} {fs gs:List Fd} {x:Operand} (hij:y.j≠i) (hik:y.k≠i) (hp:p.Ok B B0) (hF:p.Free i) (hg:GdQ os a p B B0 w0 af gd) (ho:o∈p.old) (hk:o.F1=o.F0∨zBo os 9 o.k i=true) (hf:o.F0=Fq.st fs) (hT:rowB T l=true) (hs:subF off l fs=some gs)
  (hx:SrcQ os a p B B0 w0 af x fun u _=>u=.pointer (some ⟨o.b,off,none⟩)) (hC:∀ v w,(Fq.st gs).P v w→(p.c i).P v w) :
  zD4 os Q a p B B0 w0 y i { dst:=d,op:=.load T x,type:=ty,pos:=ps,after:=af,guard:=gd }:=by
 refine stx_val hij hik hp hF hg fun L vs w hG hL hc hd=>?_
 obtain ⟨us,hl,h0,hat,ht,hP⟩:=zFj ho hk hG hL hc
 rw [hf] at hP
 obtain ⟨us',e',hfit⟩:=hP
 have e2:us=us':=zFh e'
 subst e2
 have e:=hx L vs w hG hd
 have hsub:=hfit.sub hs
 obtain ⟨⟨dd,hu,hd'⟩,hi⟩:=zKm hT
 have hlen:((us.drop off).take l).length=l:=by
  rw [hsub.length]
  unfold subF at hs
  cases hq:cutF off fs with
  | none=>simp [hq] at hs
  | some a=>rw [hq] at hs;exact zHy hs
 refine ⟨.agg ((us.drop off).take l).toArray,?_,hC _ _ ⟨_,rfl,hsub⟩⟩
 have hr:w.rangeAt o.b off ((us.drop off).take l):=by
  intro j v hv
  rw [List.getElem?_take] at hv
  split at hv
  ·rw [List.getElem?_drop] at hv
   have hj:=(List.getElem?_eq_some_iff.1 hv).1
   rw [(hat _ hj).1,List.getD,hv]
   rfl
  ·cases hv
 have:=run_loadVar_mid (P:=Tryz.prog) w o.b off T _ dd hr hu hd' (by rw [hlen];exact hi)
 generalize (lay os.toArray L vs os.toArray.size a).eval=ρ at e
 simp only [execOp,e,Instr.loadAt,Instr.sureAddr,Sem.run_bind,Sem.run_pure,Result.andThen_ok,this]

theorem stx_call1 {y:XB} {x:Operand} {F:Value→World→Prop} {f:FuncId} {ts:Array TypeId} (hij:y.j≠i) (hik:y.k≠i) (hp:p.Ok B B0) (hF:p.Free i) (hg:GdQ os a p B B0 w0 af gd) (hen:∀ args w,(callFunc f args).run Tryz.prog w=.ok (.enter f args) w)
  (hx:SrcQ os a p B B0 w0 af x F) (hC:∀ v w,F v w→Calls Tryz.prog f #[v] w fun e w'=>∃ v',e=.returned v'∧Below w.heap.size w w'∧(p.c i).P v' w') :
  zD4 os Q a p B B0 w0 y i { dst:=d,op:=.call { callee:=.value (.func f),args:=#[x],argTypes:=ts },type:=ty,pos:=ps,after:=af,guard:=gd }:=
 zSd hij hik hp hF hg hen fun L vs w hG hd=>⟨#[_],by simp,hC _ _ (hx L vs w hG hd)⟩
theorem stx_call2 {y:XB} {x z:Operand} {F G:Value→World→Prop} {f:FuncId} {ts:Array TypeId} (hij:y.j≠i) (hik:y.k≠i) (hp:p.Ok B B0) (hF:p.Free i) (hg:GdQ os a p B B0 w0 af gd) (hen:∀ args w,(callFunc f args).run Tryz.prog w=.ok (.enter f args) w)
  (hx:SrcQ os a p B B0 w0 af x F) (hz:SrcQ os a p B B0 w0 af z G) (hC:∀ v v' w,F v w→G v' w→Calls Tryz.prog f #[v,v'] w fun e w'=>∃ v',e=.returned v'∧Below w.heap.size w w'∧(p.c i).P v' w') :
  zD4 os Q a p B B0 w0 y i { dst:=d,op:=.call { callee:=.value (.func f),args:=#[x,z],argTypes:=ts },type:=ty,pos:=ps,after:=af,guard:=gd }:=
 zSd hij hik hp hF hg hen fun L vs w hG hd=>⟨#[_,_],by simp,hC _ _ _ (hx L vs w hG hd) (hz L vs w hG hd)⟩
theorem stx_list1 {y:XB} {x:Operand} {F:Value→World→Prop} {f:FuncId} {ts:Array TypeId} (hij:y.j=i) (hik:y.k≠i) (hp:p.Ok B B0) (hF:p.Free i) (hg:GdQ os a p B B0 w0 af gd) (hen:∀ args w,(callFunc f args).run Tryz.prog w=.ok (.enter f args) w) (hC0:∀ v w,(p.c i).P v w)
  (hx:SrcQ os a p B B0 w0 af x F) (hC:∀ v w,F v w→Calls Tryz.prog f #[v] w fun e w'=>∃ v',e=.returned v'∧Below w.heap.size w w'∧∃ g cap,v'=.slice (some ⟨g,0,none⟩) y.l cap∧w.heap.size≤g∧Bq w' g y.m y.F) :
  zD4 os Q a p B B0 w0 y i { dst:=d,op:=.call { callee:=.value (.func f),args:=#[x],argTypes:=ts },type:=ty,pos:=ps,after:=af,guard:=gd }:=
 stx_list hij hik hp hF hg hen hC0 fun L vs w hG hd=>⟨#[_],by simp,hC _ _ (hx L vs w hG hd)⟩
end
theorem exQListB {w:World} {v:Value} {n:Int} {Ps:List F3} {N:Nat} (hv:v=.int .i64 n) (h0:3≤n) (h1:n≤2004) (h4:n % 4=0∨n % 4=3) (hP:Ps=zBz n) (hN:N=Ps.length) :
  Rt 44 #[v] w fun v' w'=>∃ g cap,v'=.slice (some ⟨g,0,none⟩) N cap∧w.heap.size≤g∧Bq w' g (N*6) (Fq.st (rowQ Ps)):=by
 subst hv hN hP
 refine (exQList h0 h1).mono ?_
 rintro e w' ⟨v',rfl,hb,hl⟩
 obtain ⟨g,cap,e1,e2,e3⟩:=hl.box6 (zQd h0 h1 h4)
 exact ⟨v',rfl,hb,g,cap,e1,e2,e3⟩
theorem zLw {w:World} {v:Value} {P:F3} {D:Int} {Ps:List F3} {N M g cap:Nat} (h:(f3 P.a P.b P.c).P v w) (sP:Sm P) (hP:Sc D P) (hD:D<0) (hS:∀ Q∈Ps,Sm Q) (hk:Ps.length≤400) (hN:N=Ps.length) (hB:Bq w g (N*6) (Fq.st (rowQ Ps))) (hM:(Ps.filter (rtB (rdF P))).length=M) :
  Calls Tryz.prog 21 #[v,.slice (some ⟨g,0,none⟩) N cap] w fun e w'=>∃ ao cap',e=.returned (.tuple #[.slice ao M cap',.int .i64 0])∧Below w.heap.size w w':=by
 subst hN hM
 have hF:Fl w (.slice (some ⟨g,0,none⟩) Ps.length cap) Ps:=by
  obtain ⟨ao,c2,e,h2⟩:=Fl.ofBox rfl hB
  refine ⟨_,_,rfl,fun h0=>?_⟩
  obtain ⟨g2,e2,h3⟩:=h2 h0
  injection e with e3
  rw [← e3] at e2
  exact ⟨g2,e2,h3⟩
 refine (zPa h sP hP hD hF hk hS).mono ?_
 rintro e w' ⟨v1,B,rfl,hb,_,hl⟩
 obtain ⟨ao,c2,e2⟩:=hl.shape
 rw [List.length_map] at e2
 exact ⟨ao,c2,by rw [e2],hb⟩
theorem zV5 {D:Int} (hD:D<0) {Ps:List F3} (hPs:∀ P,P∈Ps ↔ Gm D P) (G:F3):Ps.filter (rtB G)=zEy D Ps G:=by
 unfold zEy
 refine List.filter_congr fun Q hQ=>?_
 have hg:=((hPs Q).1 hQ).1
 unfold rtB
 rw [zFt hg hD,hg.disc,decide_eq_true rfl,Bool.true_and]
 by_cases h:mulF D Q Q=G
 ·rw [h,eqF_iff.2 ⟨rfl,rfl,rfl⟩];simp
 ·rw [eqF_no h];simp [h]
theorem rdF_gm9 {D:Int} (hD:D<0) {P:F3} (h:Gm D P) (sP:Sm P):rdF P=P:=by
 have h2:=zGn hD h.1 sP
 exact zIj (.rfl' P) h2.2 h.2 h2.1.2
theorem root_nums {D:Int} (hD:D<0) (h4:D % 4=0∨D % 4=1) {Ps:List F3} (hn:Ps.Nodup) (hPs:∀ P,P∈Ps ↔ Gm D P) {P S:F3} (hP:Sc D P) (sP:Sm P) (hS:mulF D P P=S) (sS:Sm S) (sO:Sm (onF D)) {a b c:Nat} (ha:(Ps.filter (rtB (rdF P))).length=a) (hb:(Ps.filter (rtB (rdF (onF D)))).length=b) (hc:(Ps.filter (rtB (rdF S))).length=c):0<b∧(a=0∨a=b)∧c=b:=by
 have hO:=zCr hD h4
 have hSg:Gm D S:=by rw [← hS];exact zG7 hD hP hP
 rw [zV5 hD hPs] at ha hb hc
 rw [rdF_gm9 hD hO sO] at hb
 rw [rdF_gm9 hD hSg sS] at hc
 have hR:=zGn hD hP sP
 refine ⟨by rw [← hb];exact zXm hD h4 hPs hn,?_,?_⟩
 ·by_cases h0:zEy D Ps (rdF P)=[]
  ·left;rw [← ha,h0];rfl
  ·right
   obtain ⟨R,hR2⟩:=List.exists_mem_of_ne_nil _ h0
   have h3:=(zG6 hPs).1 hR2
   rw [← ha,← hb]
   exact zR0 hD h4 hPs hn h3.1 h3.2
 ·rw [← hc,← hb]
  exact zR0 hD h4 hPs hn hR.1 (by rw [zJ7 hD hP hP hR.2 hR.2];exact hS)
theorem StAt.of_got {w:World} {b m:Nat} {x y z:Int} {u:Value} (h:Bq w b m (Fq.st [.n x,.n y,.n z,.v u])):StAt w b 0 [.n x,.n y,.n z]:=by
 obtain ⟨us,_,h2,h3⟩:=zAv h
 obtain ⟨p0,q0,r0,rfl,n0,p1,q1,r1,rfl,n1,p2,q2,r2,rfl,n2,h4⟩:=h3
 refine ⟨[p0,q0,p1,q1,p2,q2],⟨_,_,_,rfl,n0,_,_,_,rfl,n1,_,_,_,rfl,n2,rfl⟩,fun j hj=>?_⟩
 have hj6:j<6:=hj
 rw [Nat.zero_add,h2 j (by simp;omega)]
 have:j=0∨j=1∨j=2∨j=3∨j=4∨j=5:=zm
 rcases this with rfl | rfl | rfl | rfl | rfl | rfl <;> rfl
theorem zX8 {w:World} {ops:Array Oper} {rest:List Oper} {o:Oper} {a:Act} {Q:Exit→Act→World→Prop} (hgd:o.guard=none) {v:Value} (he:(execOp a.eval o).run Tryz.prog w=.ok (.value v) w) (h:wpList Tryz.prog ops Q rest (a.put o.dst v) w):wpList Tryz.prog ops Q (o::rest) a w:=by
 refine wpList_plain hgd fun K hK=>?_
 unfold Oper.wp
 rw [he]
 exact hK _ _ h
theorem zSu (w:World) (hT:Tabs w) (D i0 i1 i2 i3 m0 m1 m2 m3:Int) (hD:0≤D∧D≤65535) (hi0:0≤i0∧i0≤65535) (hi1:0≤i1∧i1≤65535) (hi2:0≤i2∧i2≤65535) (hi3:0≤i3∧i3≤65535) (hm0:0≤m0∧m0≤255) (hm1:0≤m1∧m1≤255) (hm2:0≤m2∧m2≤255) (hm3:0≤m3∧m3≤255) {v:Value} (h:(Fq.st [.v (.int .u16 D),.v (.int .u16 i0),.v (.int .u16 i1),.v (.int .u16 i2),.v (.int .u16 i3),.v (.int .u8 m0),.v (.int .u8 m1),.v (.int .u8 m2),.v (.int .u8 m3)]).P v w) :
  Rt 8 #[v] w fun v' w'=>v'=.bool true:=by
 have HT:=hidd hT
 clear hT
 obtain ⟨n,en⟩:∃ x,x=zCc D:=⟨_,rfl⟩
 have hszn:=zNh D
 rw [← en] at hszn
 have En:=hidd en.symm
 have Zn:=hidd hszn
 have HDn:=hidd hD
 obtain ⟨dd,hdd⟩:∃ x,x=-n:=⟨_,rfl⟩
 have HDD:=hidd hdd
 have HNG:Hid (dd<0):=by show _<_;omega
 have HGC:Hid (GC dd):=GC.of zm zm
 have HB40:Hid (ab dd<pw 40):=zu HGC.out.ab6
 have H4:Hid (dd % 4=0∨dd % 4=1):=by have:=hszn.2.2;show _∨_;omega
 clear en hD hdd hszn
 obtain ⟨P,eP⟩:∃ x,x=zFa n i0 m0:=⟨_,rfl⟩
 have hokP:=zQf (i:=i0) (m:=m0) Zn.out.1 Zn.out.2.1 Zn.out.2.2
 have hscP:=madeF_sc (i:=i0) (m:=m0) Zn.out.1 Zn.out.2.1 Zn.out.2.2
 rw [← eP] at hokP hscP
 rw [← HDD.out] at hscP
 have EP:=hidd eP.symm
 have OKP:=hidd hokP
 have KP:=hidd hscP
 have IP:=hidd hi0
 have MP:=hidd hm0
 clear eP hokP hscP hi0 hm0
 obtain ⟨O,eO⟩:∃ x,x=onF dd:=⟨_,rfl⟩
 have gO:Gm dd O:=by rw [eO];exact zCr HNG.out H4.out
 have GO:=hidd gO
 have KO:Hid (Sc dd O∧Sm O):=⟨gO.1,HGC.out.sm _ gO⟩
 have EO:=hidd eO
 clear eO gO
 obtain ⟨S1,eS1⟩:∃ x,x=mulF dd P P:=⟨_,rfl⟩
 have gS1:Gm dd S1:=by rw [eS1];exact zG7 HNG.out KP.out.1 KP.out.1
 have GS1:=hidd gS1
 have KS1:Hid (Sc dd S1∧Sm S1):=⟨gS1.1,HGC.out.sm _ gS1⟩
 have ES1:=hidd eS1
 clear eS1 gS1
 have WPP:Hid (mulF dd P P=S1):=ES1.out.symm
 obtain ⟨Ps,hPs⟩:∃ x,x=zBz n:=⟨_,rfl⟩
 obtain ⟨N,hN⟩:∃ x,x=Ps.length:=⟨_,rfl⟩
 have hall:∀ Q,Q∈Ps ↔ Gm dd Q:=fun Q=>by rw [hPs,HDD.out];exact zQc Zn.out.1 Zn.out.2.1
 have hnd:Ps.Nodup:=by rw [hPs];exact listF_nd
 have HL4:Hid (Ps.length≤400):=by have:=listF_few Zn.out.1 Zn.out.2.1;rw [← hPs] at this;show _≤_;omega
 have HSM:Hid (∀ Q∈Ps,Sm Q):=fun Q hQ=>HGC.out.sm _ ((hall Q).1 hQ)
 obtain ⟨r1,h1⟩:∃ x,(Ps.filter (rtB (rdF P))).length=x:=⟨_,rfl⟩
 obtain ⟨r2,h2⟩:∃ x,(Ps.filter (rtB (rdF O))).length=x:=⟨_,rfl⟩
 obtain ⟨r3,h3⟩:∃ x,(Ps.filter (rtB (rdF S1))).length=x:=⟨_,rfl⟩
 have hr:=root_nums (a:=r1) (b:=r2) (c:=r3) HNG.out H4.out hnd hall KP.out.1 KP.out.2 WPP.out KS1.out.2 (by rw [← EO.out];exact KO.out.2) h1 (by rw [← EO.out];exact h2) h3
 have HR:=hidd hr
 have HA1:=hidd h1
 have HA2:=hidd h2
 have HA3:=hidd h3
 have HPS:=hidd hPs
 have HNN:=hidd hN
 clear hPs hN hall hnd hr h1 h2 h3
 obtain ⟨_,rfl,hf0⟩:=h
 have hF0:=hf0
 obtain ⟨_,rfl,_,_,rfl,_,_,rfl,_,_,rfl,_,_,rfl,_,_,rfl,_,_,rfl,_,_,rfl,_,_,rfl,_,rfl⟩:=hf0
 obtain ⟨w1,b1,hw1,hb1,hs1,E⟩:=gS w 26 hF0
 go_enter Tryz.func8,Tryz.ntmps8
 go_upto_region 1 with (fail)
 rw [← hw1,← hb1]
 clear hw1 hb1 hs1
 refine rz [.t,.t] [none] [] E (fun hp=>⟨q_call0W hp fo tv (zTj) rfl (fun w hbw=>zUt w (HT.out.mono hbw)),zS,tv⟩) ?_
 intro w2 E _ _
 simp only [rzE] at E ⊢
 go_upto_region 2 with (fail)
 refine rz [.t,.o] [none] [] E (fun hp=>⟨zS,zo hp (sqi 0),tv⟩) ?_
 intro w3 E _ _
 simp only [rzE] at E ⊢
 go_upto_region 4 with (fail)
 refine zXj (x:=⟨2,6,N,N*6,Fq.st (rowQ Ps)⟩) (by simp) (by simp) (C:=[Fq.st [.v (.int .u16 D),.v (.int .u16 i0),.v (.int .u16 i1),.v (.int .u16 i2),.v (.int .u16 i3),.v (.int .u8 m0),.v (.int .u8 m1),.v (.int .u8 m2),.v (.int .u8 m3)],Fq.is (.int .i64 n),Fq.any,Fq.st [.v (.int .u16 D),.v (.int .u16 i0),.v (.int .u16 i1),.v (.int .u16 i2),.v (.int .u16 i3),.v (.int .u8 m0),.v (.int .u8 m1),.v (.int .u8 m2),.v (.int .u8 m3)],f3 P.a P.b P.c,Fq.any,Fq.any,Fq.any]) (ks:=[none]) (new:=[⟨5,7,6,f3 0 0 0,f3 P.a P.b P.c,none⟩]) E rfl (by kernel_rfl) rfl rfl (fun hp=>zHk ⟨?_,?_,?_,?_,?_,?_,?_,?_,tv⟩) ?_
 ·exact zSe (off:=0) (l:=9) (Nat.ne_of_beq_eq_false rfl) (Nat.ne_of_beq_eq_false rfl) hp fo tv J0 (.inl rfl) rfl zNc rfl (sqo 1) (fun v w h=>h)
 ·exact stx_call1 (F:=(Fq.st [.v (.int .u16 D),.v (.int .u16 i0),.v (.int .u16 i1),.v (.int .u16 i2),.v (.int .u16 i3),.v (.int .u8 m0),.v (.int .u8 m1),.v (.int .u8 m2),.v (.int .u8 m3)]).P) (Nat.ne_of_beq_eq_false rfl) (Nat.ne_of_beq_eq_false rfl) hp fo tv zTp (sqi 0) (fun v w h=>zPm h HDn.out En.out)
 ·exact stx_list1 (F:=(Fq.is (.int .i64 n)).P) rfl (Nat.ne_of_beq_eq_false rfl) hp fo tv zTn (fun _ _=>trivial) (sqi 1) (fun v w h=>exQListB h Zn.out.1 Zn.out.2.1 Zn.out.2.2 HPS.out HNN.out)
 ·exact zSe (off:=0) (l:=9) (Nat.ne_of_beq_eq_false rfl) (Nat.ne_of_beq_eq_false rfl) hp fo tv J0 (.inl rfl) rfl zNc rfl (sqo 1) (fun v w h=>h)
 ·exact stx_call2 (F:=(Fq.st [.v (.int .u16 D),.v (.int .u16 i0),.v (.int .u16 i1),.v (.int .u16 i2),.v (.int .u16 i3),.v (.int .u8 m0),.v (.int .u8 m1),.v (.int .u8 m2),.v (.int .u8 m3)]).P) (G:=(Fq.is (.int .i64 0)).P) (Nat.ne_of_beq_eq_false rfl) (Nat.ne_of_beq_eq_false rfl) hp fo tv zTo (sqi 3) (zAk (fun _=>rfl)) (fun v v' w h h'=>(by subst h';exact exQMade0 h HDn.out IP.out MP.out En.out EP.out))
 ·exact zXx (us:=[.bool false,.slice none 0 0,.bool false,.slice none 0 0,.bool false,.slice none 0 0]) (fs:=[.n 0,.n 0,.n 0]) (Nat.ne_of_beq_eq_false rfl) (Nat.ne_of_beq_eq_false rfl) hp J0 rfl rfl rfl (Nat.lt_of_sub_eq_succ rfl) rfl zAt (fun ρ w=>zB1 ρ w) rfl (Nat.ne_of_beq_eq_false rfl) (fun _ _=>trivial) (zCh rfl) (zMh rfl)
 ·exact stx_copy rfl (Nat.ne_of_beq_eq_false rfl) hp fo rfl rfl (by simp) rfl (fun _ _=>trivial)
 ·exact zXy (fs:=[.n 0,.n 0,.n 0]) (gs:=[.n P.a,.n P.b,.n P.c]) (Nat.ne_of_beq_eq_false rfl) (Nat.ne_of_beq_eq_false rfl) hp J0 rfl rfl rfl rfl zAn rfl (zEg rfl rfl (by simp) rfl) (zA9 4 rfl rfl (by simp) rfl (fun v w h=>zGg h)) (fun _ _=>trivial) (zCh rfl) (zMg rfl)
 intro L vs w4 nb hx hL hC hn
 obtain ⟨gg,cp,f2,f6,E4⟩:=hx
 have e1:=wXi hC 1
 have e5:vs 5=.pointer (some ⟨nb 5,0,none⟩):=hn _ J0
 have e2:vs 2=.slice (some ⟨gg,0,none⟩) N cp:=f2
 have e6:vs 6=.slice (some ⟨gg,0,none⟩) N cp:=f6
 have E:=E4;try simp only [LM,zAj] at E
 rw [zAo hL]
 simp only [zP,Nat.zero_add,Nat.reduceAdd]
 rw [e1,e2,e6,e5]
 generalize nb 5=b4_5 at E ⊢
 generalize vs 0=u4_0
 generalize vs 3=u4_3
 generalize vs 4=u4_4
 clear e1 e2 e5 e6 f2 f6 hC hn E4 hL vs L nb
 go_upto_region 5 with (fail)
 refine rz [.w (f3 P.a P.b P.c),.n dd,.w (Fq.tup2 (f3 O.a O.b O.c) (Fq.is (.int .i64 0))),.w (Fq.tup2 (f3 O.a O.b O.c) (Fq.is (.int .i64 0))),.w (f3 O.a O.b O.c),.i 0,.k,.a,.i 0] N3 [⟨6,7,6,f3 0 0 0,f3 O.a O.b O.c,none⟩] E (fun hp=>⟨lS 0 6 hp J1 zAc zw,zc hp zC5 zi fun v w h=>(by have hh9:=zC6 h (zu KP.out.2.1) (zu KP.out.2.2.1) (zu KP.out.2.2.2);rw [KP.out.1.disc] at hh9;exact hh9),zc hp zJj zi fun v w h=>(by have hh9:=zJq h HB40.out HNG.out H4.out;rw [← EO.out] at hh9;exact hh9),zS,zS,zS,aS hp J0 zAt zB1,sS 4 hp J0 zAn,zS,tv⟩) ?_
 intro w4 b4_6 E _ _
 simp only [rzE] at E ⊢
 go_upto_region 6 with (fail)
 refine rz [.w (f3 P.a P.b P.c),.w (f3 P.a P.b P.c),.w (Fq.st [.n S1.a,.n S1.b,.n S1.c,.v (.int .i64 0)]),.k,.a] N4 [⟨3,4,7,Fq.st [.n 0,.n 0,.n 0,.v (.int .i64 0)],Fq.st [.n S1.a,.n S1.b,.n S1.c,.v (.int .i64 0)],none⟩] E (fun hp=>⟨lS 0 6 hp J2 zAc zw,lS 0 6 hp J2 zAc zw,zC hp zHr zi zi fun v v' w h h'=>exGProd0 HNG.out KP.out.1 KP.out.1 KP.out.2 KP.out.2 WPP.out h h',aS hp J0 zGf zM6,sS 2 hp J0 zHc,tv⟩) ?_
 intro w5 b5_3 E _ _
 simp only [rzE] at E ⊢
 go_upto_region 7 with (fail)
 refine wp_region_list ?_
 refine zE3 rfl 38 (.tmp 5) rfl zAc rfl rfl (StAt.of_boxQ (E.box 3 rfl)) fun v7 hv7=>?_
 go_upto_region 8 with (first | (go_at_call 21;(with_reducible refine (zLw hv7 KP.out.2 KP.out.1 HNG.out HSM.out HL4.out HNN.out (E.box 2 rfl) HA1.out).mono ?_);rintro e w70 ⟨ao7,cp7,rfl,hB7⟩) | fail)
 replace E:=E.later hB7
 clear hB7 hv7
 go_upto_region 8 with (fail)
 refine wp_region_list ?_
 refine zE3 rfl 38 (.tmp 6) rfl zAc rfl rfl (StAt.of_boxQ (E.box 1 rfl)) fun v8 hv8=>?_
 go_upto_region 9 with (first | (go_at_call 21;(with_reducible refine (zLw hv8 KO.out.2 KO.out.1 HNG.out HSM.out HL4.out HNN.out (E.box 2 rfl) HA2.out).mono ?_);rintro e w80 ⟨ao8,cp8,rfl,hB8⟩) | fail)
 replace E:=E.later hB8
 clear hB8 hv8
 go_upto_region 9 with (fail)
 refine wp_region_list ?_
 refine zX8 rfl (v:=.pointer (some ⟨b5_3,0,none⟩)) (by simp [execOp,go_sem]) ?_
 refine zE3 rfl 38 (.tmp 45) rfl zAc rfl rfl (StAt.of_got (E.box 0 rfl)) fun v9 hv9=>?_
 go_upto_region 10 with (first | (go_at_call 21;(with_reducible refine (zLw hv9 KS1.out.2 KS1.out.1 HNG.out HSM.out HL4.out HNN.out (E.box 2 rfl) HA3.out).mono ?_);rintro e w90 ⟨ao9,cp9,rfl,hB9⟩) | fail)
 replace E:=E.later hB9
 clear hB9 hv9
 by_cases h0:r1=0
 ·have TB:Hid (0<r2):=HR.out.1
  have TC:Hid (r3=r2):=HR.out.2.2
  have TA:Hid (r1=0):=h0
  clear h0
  go_upto_region 10 with (fail)
  refine rz [.i 0,.t,.t,.p b5_3 6,.i 0,.t,.t,.t,.i 0,.t,.t,.t,.i 0,.t,.t,.t,.i 0,.t,.t,.t,.u (.slice ao8 r2 cp8),.i ((r2:Nat):Int),.t,.t,.t,.u (.slice ao7 r1 cp7),.i ((r1:Nat):Int),.t,.t,.u (undef),.u (undef),.u (undef),.u (undef),.u (undef),.t,.t,.t,.u (.slice ao9 r3 cp9),.i ((r3:Nat):Int),.u (.slice ao8 r2 cp8),.i ((r2:Nat):Int),.t,.t,.t,.t,.t,.t] N5 [] E (fun hp=>⟨?_,?_,?_,?_,?_,?_,?_,?_,?_,?_,?_,?_,?_,?_,?_,?_,?_,?_,?_,?_,?_,?_,?_,?_,?_,?_,?_,?_,?_,?_,?_,?_,?_,?_,?_,?_,?_,?_,?_,?_,?_,?_,?_,?_,?_,?_,?_,tv⟩) ?_
  ·exact zS
  ·exact zo hp (sqi 0)
  ·exact zS
  ·exact zg b5_3 0 6 hp zw
  ·exact zIi (off:=6) (fs:=[.n S1.a,.n S1.b,.n S1.c,.v (.int .i64 0)]) (u:=.int .i64 0) hp fo gqi J0 (.inl rfl) rfl rfl (fun ρ w b h1 h2=>by simp [execOp,go_sem,h1,h2]) (sqi 3) (fun _=>rfl)
  ·exact zo hp (sqi 4)
  ·exact zt hp (sqi 2) (sqi 5)
  ·exact zS
  ·exact zAi hp fo gqi (sqo 10)
  ·exact zo hp (sqi 8)
  ·exact zt hp (sqi 7) (sqi 9)
  ·exact zS
  ·exact zAi hp fo gqi (sqo 12)
  ·exact zo hp (sqi 12)
  ·exact zt hp (sqi 11) (sqi 13)
  ·exact zS
  ·exact zAi hp fo gqi (sqo 14)
  ·exact zo hp (sqi 16)
  ·exact zt hp (sqi 15) (sqi 17)
  ·exact zS
  ·exact zAi hp fo gqi (sqo 11)
  ·exact zDh hp fo gqi (sqi 20) (fun _=>rfl)
  ·exact zO hp (sqi 21) TB.out
  ·exact zt hp (sqi 19) (sqi 22)
  ·exact zS
  ·exact zAi hp fo gqi (sqo 9)
  ·exact zDh hp fo gqi (sqi 25) (fun _=>rfl)
  ·exact zO hp (sqi 26) TA.out
  ·exact zS
  ·exact zS
  ·exact zS
  ·exact zS
  ·exact zS
  ·exact zS
  ·exact zAs (F:=fun v _=>v=.bool true) (G:=fun v _=>v=.bool true) hp fo gqi (sqi 28) (zAk (fun _=>rfl)) (fun ρ w hc h h'=>⟨_,by simp [execOp,go_sem,h,h'],rfl⟩)
  ·exact zt hp (sqi 24) (sqi 34)
  ·exact zS
  ·exact zAi hp fo gqi (sqo 13)
  ·exact zDh hp fo gqi (sqi 37) (fun _=>rfl)
  ·exact zAi hp fo gqi (sqo 11)
  ·exact zDh hp fo gqi (sqi 39) (fun _=>rfl)
  ·exact zAs (F:=fun v _=>v=.int .i64 ((r3:Nat):Int)) (G:=fun v _=>v=.int .i64 ((r2:Nat):Int)) hp fo gqi (sqi 38) (sqi 40) (fun ρ w hc h h'=>⟨.bool true,by simp [execOp,go_sem,h,h',TC.out],rfl⟩)
  ·exact zt hp (sqi 36) (sqi 41)
  ·exact zS
  ·exact zAi hp fo gqi (sqo 3)
  ·exact zt hp (sqi 43) (sqi 44)
  ·exact zS
  intro w6 E _ _
  simp only [rzE] at E ⊢
  clear HT En Zn HDn HDD HNG HGC HB40 H4 EP OKP KP IP MP GO KO EO GS1 KS1 ES1 WPP HL4 HSM HR HA1 HA2 HA3 HPS HNN TA TB TC
  go_wp2
  exact zR (v:=.bool true) (by simp [results,Tryz.results8,go_sem]) E.below rfl
 ·have TB:Hid (0<r2):=HR.out.1
  have TC:Hid (r3=r2):=HR.out.2.2
  have TA:Hid (¬ r1=0):=h0
  have TD:Hid (r1=r2):=HR.out.2.1.resolve_left h0
  clear h0
  go_upto_region 10 with (fail)
  refine rz [.i 0,.t,.t,.p b5_3 6,.i 0,.t,.t,.t,.i 0,.t,.t,.t,.i 0,.t,.t,.t,.i 0,.t,.t,.t,.u (.slice ao8 r2 cp8),.i ((r2:Nat):Int),.t,.t,.t,.u (.slice ao7 r1 cp7),.i ((r1:Nat):Int),.o,.o,.u (.slice ao7 r1 cp7),.i ((r1:Nat):Int),.u (.slice ao8 r2 cp8),.i ((r2:Nat):Int),.t,.t,.t,.t,.u (.slice ao9 r3 cp9),.i ((r3:Nat):Int),.u (.slice ao8 r2 cp8),.i ((r2:Nat):Int),.t,.t,.t,.t,.t,.t] N5 [] E (fun hp=>⟨?_,?_,?_,?_,?_,?_,?_,?_,?_,?_,?_,?_,?_,?_,?_,?_,?_,?_,?_,?_,?_,?_,?_,?_,?_,?_,?_,?_,?_,?_,?_,?_,?_,?_,?_,?_,?_,?_,?_,?_,?_,?_,?_,?_,?_,?_,?_,tv⟩) ?_
  ·exact zS
  ·exact zo hp (sqi 0)
  ·exact zS
  ·exact zg b5_3 0 6 hp zw
  ·exact zIi (off:=6) (fs:=[.n S1.a,.n S1.b,.n S1.c,.v (.int .i64 0)]) (u:=.int .i64 0) hp fo gqi J0 (.inl rfl) rfl rfl (fun ρ w b h1 h2=>by simp [execOp,go_sem,h1,h2]) (sqi 3) (fun _=>rfl)
  ·exact zo hp (sqi 4)
  ·exact zt hp (sqi 2) (sqi 5)
  ·exact zS
  ·exact zAi hp fo gqi (sqo 10)
  ·exact zo hp (sqi 8)
  ·exact zt hp (sqi 7) (sqi 9)
  ·exact zS
  ·exact zAi hp fo gqi (sqo 12)
  ·exact zo hp (sqi 12)
  ·exact zt hp (sqi 11) (sqi 13)
  ·exact zS
  ·exact zAi hp fo gqi (sqo 14)
  ·exact zo hp (sqi 16)
  ·exact zt hp (sqi 15) (sqi 17)
  ·exact zS
  ·exact zAi hp fo gqi (sqo 11)
  ·exact zDh hp fo gqi (sqi 20) (fun _=>rfl)
  ·exact zO hp (sqi 21) TB.out
  ·exact zt hp (sqi 19) (sqi 22)
  ·exact zS
  ·exact zAi hp fo gqi (sqo 9)
  ·exact zDh hp fo gqi (sqi 25) (fun _=>rfl)
  ·exact zO hp (sqi 26) TA.out
  ·exact zS
  ·exact zAi hp fo gqi (sqo 9)
  ·exact zDh hp fo gqi (sqi 29) (fun _=>rfl)
  ·exact zAi hp fo gqi (sqo 11)
  ·exact zDh hp fo gqi (sqi 31) (fun _=>rfl)
  ·exact zAs (F:=fun v _=>v=.int .i64 ((r1:Nat):Int)) (G:=fun v _=>v=.int .i64 ((r2:Nat):Int)) hp fo gqi (sqi 30) (sqi 32) (fun ρ w hc h h'=>⟨.bool true,by simp [execOp,go_sem,h,h',TD.out],rfl⟩)
  ·exact zAs (F:=fun v _=>v=.bool false) (G:=fun v _=>v=.bool true) hp fo gqi (sqi 28) (sqi 33) (fun ρ w hc h h'=>⟨_,by simp [execOp,go_sem,h,h'],rfl⟩)
  ·exact zt hp (sqi 24) (sqi 34)
  ·exact zS
  ·exact zAi hp fo gqi (sqo 13)
  ·exact zDh hp fo gqi (sqi 37) (fun _=>rfl)
  ·exact zAi hp fo gqi (sqo 11)
  ·exact zDh hp fo gqi (sqi 39) (fun _=>rfl)
  ·exact zAs (F:=fun v _=>v=.int .i64 ((r3:Nat):Int)) (G:=fun v _=>v=.int .i64 ((r2:Nat):Int)) hp fo gqi (sqi 38) (sqi 40) (fun ρ w hc h h'=>⟨.bool true,by simp [execOp,go_sem,h,h',TC.out],rfl⟩)
  ·exact zt hp (sqi 36) (sqi 41)
  ·exact zS
  ·exact zAi hp fo gqi (sqo 3)
  ·exact zt hp (sqi 43) (sqi 44)
  ·exact zS
  intro w7 E _ _
  simp only [rzE] at E ⊢
  clear HT En Zn HDn HDD HNG HGC HB40 H4 EP OKP KP IP MP GO KO EO GS1 KS1 ES1 WPP HL4 HSM HR HA1 HA2 HA3 HPS HNN TA TB TC TD
  go_wp2
  exact zR (v:=.bool true) (by simp [results,Tryz.results8,go_sem]) E.below rfl

theorem zSv (w:World) (hT:Tabs w) (D i0 i1 i2 i3 m0 m1 m2 m3:Int) (hD:0≤D∧D≤65535) (hi0:0≤i0∧i0≤65535) (hi1:0≤i1∧i1≤65535) (hi2:0≤i2∧i2≤65535) (hi3:0≤i3∧i3≤65535) (hm0:0≤m0∧m0≤255) (hm1:0≤m1∧m1≤255) (hm2:0≤m2∧m2≤255) (hm3:0≤m3∧m3≤255):Calls Tryz.prog 8 #[.agg #[.int .u16 D,.int .u16 i0,.int .u16 i1,.int .u16 i2,.int .u16 i3,.int .u8 m0,.int .u8 m1,.int .u8 m2,.int .u8 m3]] w fun e w'=>e=.returned (.bool true)∧Below w.heap.size w w':=by
 refine (zSu w hT D i0 i1 i2 i3 m0 m1 m2 m3 hD hi0 hi1 hi2 hi3 hm0 hm1 hm2 hm3 ⟨[.int .u16 D,.int .u16 i0,.int .u16 i1,.int .u16 i2,.int .u16 i3,.int .u8 m0,.int .u8 m1,.int .u8 m2,.int .u8 m3],rfl,_,rfl,rfl,_,rfl,rfl,_,rfl,rfl,_,rfl,rfl,_,rfl,rfl,_,rfl,rfl,_,rfl,rfl,_,rfl,rfl,_,rfl,rfl,rfl⟩).mono ?_
 rintro e w' ⟨v',rfl,hb,rfl⟩
 exact ⟨rfl,hb⟩

end Go.Proofs.YtjadciofpgjofaaGreatDoor
