/- Hn, Ho, Hp, Ut, Hq, Hr, Hs. -/
import Derived.Test.YtjadciofpgjofaaGreatDoorDc7
import Derived.Lib.LazyBuf
import Derived.Deep.AppendSrc
set_option linter.unusedSimpArgs false
set_option linter.unusedVariables false
set_option maxRecDepth 100000
set_option maxHeartbeats 8000000
namespace Go.Proofs.YtjadciofpgjofaaGreatDoor
open Go Go.RowKit

def TameN (w:World) (v:Value):Prop:=v=.slice none 0 0∨TameRow w v
theorem TameN.mono {w w':World} {v:Value} (h:TameN w v) (hb:Below w.heap.size w w'):TameN w' v:=by
 rcases h with h | h
 ·exact .inl h
 ·exact .inr (h.mono hb)
theorem TameN.far {w:World} {v:Value} (h:TameN w v) {fs:List Fd} {es:List Value} (hF:Fits w fs es) (hn:noSl fs=true):FarC v.ownBlock es:=by
 rcases h with rfl | h
 ·intro a k c _ _ e
  cases e
 ·exact h.far hF hn
theorem Ls.none {T m:Nat} (w:World) {B:Nat}:Ls T m w B (.slice none 0 0) []:=
 ⟨[],⟨by simp,.inl ⟨rfl,rfl⟩⟩,fun i z hi=>by simp at hi⟩
def Fl (w:World) (v:Value) (Ps:List F3):Prop:=∃ ao cap,v=.slice ao Ps.length cap∧(0<Ps.length→∃ g,ao=some ⟨g,0,none⟩∧g<w.heap.size∧∀ i P,Ps[i]?=some P→StAt w g (i*6) (frF P))
theorem Fl.mono {w w':World} {v:Value} {Ps:List F3} (h:Fl w v Ps) (hb:Below w.heap.size w w'):Fl w' v Ps:=by
 obtain ⟨ao,cap,e,h1⟩:=h
 refine ⟨ao,cap,e,fun h0=>?_⟩
 obtain ⟨g,e2,hg,h2⟩:=h1 h0
 exact ⟨g,e2,Nat.lt_of_lt_of_le hg hb.size,fun i P hi=>(h2 i P hi).mono hg hb⟩
theorem Ls.fl {T B:Nat} {w:World} {v:Value} {Ps:List F3} (h:Ls T 6 w B v (Ps.map frF)):Fl w v Ps:=by
 obtain ⟨ao,cap,e⟩:=h.shape
 rw [List.length_map] at e
 refine ⟨ao,cap,e,fun h0=>?_⟩
 obtain ⟨g,cap2,e2,hg,h2⟩:=h.sts (by rw [List.length_map];exact h0)
 rw [List.length_map] at e2
 rw [e] at e2
 injection e2 with e3 e4 e5
 exact ⟨g,e3,hg,fun i P hi=>h2 i _ (by rw [List.getElem?_map,hi];rfl)⟩
theorem Fits.split6 {w:World} {Q:F3} {Ps:List F3} {us:List Value} (h:Fits w (rowQ (Q::Ps)) us):∃ es us2,us=es++us2∧Fits w (frF Q) es∧Fits w (rowQ Ps) us2:=by
 obtain ⟨p0,q0,r0,rfl,n0,p1,q1,r1,rfl,n1,p2,q2,r2,rfl,n2,h2⟩:=h
 exact ⟨[p0,q0,p1,q1,p2,q2],r2,rfl,⟨_,_,_,rfl,n0,_,_,_,rfl,n1,_,_,_,rfl,n2,rfl⟩,h2⟩
theorem zNc {w:World} {b:Nat}:∀ {Ps:List F3} {us:List Value},Fits w (rowQ Ps) us→∀ {o:Nat},(∀ j,j<us.length→w.cell? ⟨b,o+j,none⟩=some (us.getD j undef))→∀ {i:Nat} {P:F3},Ps[i]?=some P→StAt w b (o+i*6) (frF P)
 | [],_,_,_,_,i,P,hi=>by simp at hi
 | Q::Ps,us,h,o,hc,i,P,hi=>by
  obtain ⟨es,us2,rfl,h1,h2⟩:=Fits.split6 h
  have hl:=h1.length
  have hl6:es.length=6:=hl
  match i,hi with
  | 0,hi=>
   simp at hi
   subst hi
   refine ⟨es,h1,fun j hj=>?_⟩
   rw [Nat.zero_mul,Nat.add_zero,hc j (by rw [List.length_append];omega)]
   simp [List.getD,List.getElem?_append_left hj]
  | i+1,hi=>
   have:=zNc h2 (o:=o+6) (fun j hj=>by
    have h3:=hc (6+j) (by rw [List.length_append];omega)
    rw [show o+6+j=o+(6+j) by omega,h3]
    simp only [List.getD]
    rw [List.getElem?_append_right zm,show 6+j-es.length=j by omega]) (i:=i) (P:=P) (by simpa using hi)
   rw [show o+(i+1)*6=o+6+i*6 by omega]
   exact this
theorem Fl.ofBox {w:World} {b n:Nat} {Ps:List F3} (hn:n=Ps.length*6) (h:Bq w b n (Fq.st (rowQ Ps))):Fl w (.slice (some ⟨b,0,none⟩) Ps.length Ps.length) Ps:=by
 subst hn
 refine ⟨_,_,rfl,fun h0=>⟨b,rfl,h.lt,fun i P hi=>?_⟩⟩
 obtain ⟨us,_,h2,h3⟩:=zAy h
 have:=zNc h3 (o:=0) (fun j hj=>by rw [Nat.zero_add];exact h2 j hj) hi
 rw [Nat.zero_add] at this
 exact this
theorem zXd {w:World} (t ty:TypeId) (base:Nat) (e:TypeId) (i:TypeInfo) (z:Value) (size bytes:Nat) (ht:Tryz.prog.underlying t=some (.slice e)) (hi:Tryz.prog.info? e=some i) (hz:i.zero=some z)
  (hsize:i.size=size) (hby:i.bytes=bytes) (hzs:z.cells.size=size) (hsz:0<size)
  (v:Value) (n:Nat) (xs:List Value) (hown:w.ownsRow base e size v n xs) (htm:TameN w v) (hzt:∀ u∈z.cells.toList,zCf u=true)
  (ad:Addr) (m c:Nat) (news:List Value) (hl:news.length=m*size) (hnews:∀ j u,news[j]?=some u→w.cell? (ad.add j)=some u) (h1:∀ u∈news,zCf u=true)
  (hm:0<m) (h63:n+m≤maxLen) (hbytes:(n+m)*bytes≤140737488355328) (hbase:base≤w.heap.size) (H:Nat) (hH:w.heap.size=H) :
  ∃ g cap w',(Builtin.append_ #[t,t] ty #[v,.slice (some ad) m c]).run Tryz.prog w=.ok (.slice (some ⟨g,0,none⟩) (n+m) cap) w' ∧
   w'.ownsRow base e size (.slice (some ⟨g,0,none⟩) (n+m) cap) (n+m) (xs++news)∧w.grownBy w' v.ownBlock∧(v.ownBlock=some g∨g=H)∧g<w'.heap.size∧TameRow w' (.slice (some ⟨g,0,none⟩) (n+m) cap):=by
 rcases htm with rfl | htm
 ·have hone:∀ u∈news,u.oneCell'=true:=fun u hu=>by
   have:=h1 u hu
   simp only [zCf,Bool.and_eq_true] at this
   exact this.1
  obtain ⟨g,cap,w',hr,h2,h3,h4,h5⟩:=run_append_lies (P:=Tryz.prog) w t ty base e i z size bytes ht hi hz hsize hby hzs hsz _ n xs hown ad m c news hl hnews hone hm h63 hbytes hbase H hH
  refine ⟨g,cap,w',hr,h2,h3,h4,h5,?_⟩
  have hn:n=0:=by
   rcases hown.2 with ⟨_,h6⟩ | ⟨g6,cap6,cur,h7,_⟩
   ·exact h6
   ·cases h7
  subst hn
  subst hsize
  subst hby
  have hr2:=run_append_grow_src (P:=Tryz.prog) w t t ty e i z ht hi hz none 0 0 [] (run_firstCells_none w.drew i.size 0 0 0) (.slice (some ad) m c) m news (Src.ofSlice w ht ad m c news hl hnews hone) zm (by simp only [maxLen] at h63;omega) (growslice_fits zm hbytes)
  rw [hr] at hr2
  injection hr2 with e1 e2
  injection e1 with e1 _ e3
  injection e1 with e1
  injection e1 with e1
  subst e1 e2 e3
  refine ⟨_,_,_,_,e,rfl,heap_alloc_new w.drew _,fun u hu=>?_⟩
  simp only [List.nil_append,Array.toList_append,List.mem_append] at hu
  rcases hu with hu | hu
  ·exact h1 u hu
  ·simp only [Builtin.zeroCells,Array.toList_map,Array.toList_range,List.mem_map,List.mem_range] at hu
   obtain ⟨j,hj,rfl⟩:=hu
   have hlt:j % z.cells.size<z.cells.size:=Nat.mod_lt _ (by rw [hzs];exact hsz)
   rw [getElem!_pos z.cells (j % z.cells.size) hlt]
   exact hzt _ (by simp)
 ·exact zR0 t ty base e i z size bytes ht hi hz hsize hby hzs hsz v n xs hown htm hzt ad m c news hl hnews h1 hm h63 hbytes hbase H hH
theorem zXs {w:World} {ops:Array Oper} {rest:List Oper} {o:Oper} {a:Act} {Q:Exit→Act→World→Prop} (hgd:o.guard=none) (s x:Operand) (t:TypeId)
  (ho:o.op=.call { callee:=.builtin .append,args:=#[s,x],argTypes:=#[t,t] })
  (base:Nat) (e:TypeId) (i:TypeInfo) (z:Value) (size bytes:Nat) (ht:Tryz.prog.underlying t=some (.slice e)) (hi:Tryz.prog.info? e=some i) (hz:i.zero=some z)
  (hsize:i.size=size) (hby:i.bytes=bytes) (hzs:z.cells.size=size) (hsz:0<size)
  (v:Value) (n:Nat) (xs:List Value) (hs:a.eval s=v) (hown:w.ownsRow base e size v n xs) (htm:TameN w v) (hzt:∀ u∈z.cells.toList,zCf u=true)
  (ad:Addr) (m c:Nat) (news:List Value) (hx:a.eval x=.slice (some ad) m c) (hl:news.length=m*size) (hnews:∀ j u,news[j]?=some u→w.cell? (ad.add j)=some u) (h1:∀ u∈news,zCf u=true)
  (hm:0<m) (h63:n+m≤maxLen) (hbytes:(n+m)*bytes≤140737488355328) (hbase:base≤w.heap.size) (H:Nat) (hH:w.heap.size=H)
  (h:∀ g cap w',w'.ownsRow base e size (.slice (some ⟨g,0,none⟩) (n+m) cap) (n+m) (xs++news)→w.grownBy w' v.ownBlock→(v.ownBlock=some g∨g=H)→g<w'.heap.size→TameRow w' (.slice (some ⟨g,0,none⟩) (n+m) cap)→wpList Tryz.prog ops Q rest (a.put o.dst (.slice (some ⟨g,0,none⟩) (n+m) cap)) w'):wpList Tryz.prog ops Q (o::rest) a w:=by
 refine wpList_plain hgd fun K hK=>?_
 obtain ⟨g,cap,w',hr,h2,h3,h4,h5,h6⟩:=zXd (w:=w) t o.type base e i z size bytes ht hi hz hsize hby hzs hsz v n xs hown htm hzt ad m c news hl hnews h1 hm h63 hbytes hbase H hH
 unfold Oper.wp execOp
 simp only [ho,resolve,invoke,builtin,Sem.run_bind,Sem.run_pure,Result.andThen_ok,List.map_toArray,List.map_cons,List.map_nil,hs,hx,hr]
 exact hK _ _ (h g cap w' h2 h3 h4 h5 h6)
def Fq.slo (k:Nat) (xs:List Int):Fq:=⟨fun v w=>∃ a c,v=.slice a k c∧Sl w a k c xs,fun ⟨a,c,e,h⟩ hb=>⟨a,c,e,h.mono hb⟩,fun ⟨a,c,e,h⟩ ha ht hl=>⟨a,c,e,h.putAt ha ht hl⟩⟩
theorem enq_clone:En 115:=zAe Tryz.func115 (by kernel_rfl) rfl
theorem exCloneW (w:World) (ao:Option Addr) (k c:Nat) (xs:List Int) (hS:Sl w ao k c xs) (hk:k≤900000):Calls Tryz.prog 115 #[.slice ao k c] w fun e w'=>∃ ao' c',e=.returned (.slice ao' k c')∧Below w.heap.size w w'∧Sl w' ao' k c' xs:=by
 have hk':k≤1000000:=by omega
 have hx:=run_eql_slice_nil (P:=Tryz.prog) w 27 104 ao k c Tryz.underlying27
 cases ao with
 | none=>
  have h0:k=0∧xs=[]:=by
   have h1:=hS.len
   rcases hS with ⟨_,_,_,h | ⟨b,off,h,_⟩⟩
   ·rw [h] at h1
    exact ⟨by simpa using h1.symm,h⟩
   ·cases h
  obtain ⟨rfl,rfl⟩:=h0
  simp only [Option.isNone_none] at hx
  go_enter Tryz.func115,Tryz.ntmps115
  go_wp2
  go_ret
  exact ⟨none,0,rfl,Below.refl _ _,Sl.nil w⟩
 | some a=>
  simp only [Option.isNone_some] at hx
  go_enter Tryz.func115,Tryz.ntmps115
  go_wp2_with (at_builtin;refine zSm _ rfl _ _ rfl _ (some a) k c xs rfl rfl (hS.mono (zAh _ _)) hk' ?_;intro ar cr w1 hb1 hS1 hM1)
  have hb:=(zAh w (.cells #[] 104)).trans (hb1.mono (zAh w (.cells #[] 104)).size)
  go_wp2
  go_ret
  exact ⟨ar,cr,rfl,hb,hS1⟩

theorem exCloneF {w:World} {ao:Option Addr} {k c:Nat} {xs:List Int} (hS:Sl w ao k c xs) (hk:k≤900000):Calls Tryz.prog 115 #[.slice ao k c] w fun e w'=>∃ v',e=.returned v'∧Below w.heap.size w w'∧(Fq.slo k xs).P v' w':=
 (exCloneW w ao k c xs hS hk).mono fun e w' ⟨a,c',e1,hb,h⟩=>⟨_,e1,hb,a,c',rfl,h⟩
theorem ld_rawB {n:Bool} {a:Option Addr} {k c:Nat} {xs:List Int} {us:List Value} {w:World} (hl:us.length=2) (h:(Fq.raw n a k c xs).P (.agg us.toArray) w):us.getD 0 undef=.bool n:=by
 match us,hl with
 | [p,q],_=>
  obtain ⟨e,h1⟩:=h
  injection e with e
  have e2:=congrArg Array.toList e
  simp at e2
  simp [e2.1]
section
variable {os : List Oper} {Q : Exit → Act → World → Prop} {a : Act} {p : Pq} {B B0 : Nat} {w0 : World}
variable {i s : Nat} {d : Option Tmp} {ty : TypeId} {ps : String} {af : Array Edge} {gd : Option (Nat × Bool)}
theorem zW1 {o:Ob} {off:Nat} {x:Operand} {v:Value} (hp:p.Ok B B0) (hF:p.Free i) (hg:GdQ os a p B B0 w0 af gd) (ho:o∈p.old) (hk:o.F1=o.F0∨zBs os 9 o.k i=true) (hoff:off+1≤o.m)
  (hx:SrcQ os a p B B0 w0 af x fun u _=>u=.pointer (some ⟨o.b,off,none⟩)) (hC:∀ (us:List Value) (w:World),us.length=o.m→o.F0.P (.agg us.toArray) w→us.getD off undef=v∧(p.c i).P v w) :
  zAg os Q a p B B0 w0 i { dst:=d,op:=.load 4 x,type:=ty,pos:=ps,after:=af,guard:=gd }:=by
 refine zBg hp hF hg fun L vs w hG hL hc hd=>?_
 obtain ⟨us,hl,h0,hat,ht,hP⟩:=zFi ho hk hG hL hc
 have e:=hx L vs w hG hd
 have c0:=(hat off zm).1
 obtain ⟨e2,hP2⟩:=hC us w hl hP
 refine ⟨_,?_,hP2⟩
 rw [e2] at c0
 generalize (lay os.toArray L vs os.toArray.size a).eval=ρ at e
 simp [execOp,go_sem,e,c0]
theorem zWt {x y:Operand} {n:Bool} {k:Nat} {xs:List Int} {z:Int} (hp:p.Ok B B0) (hF:p.Free i) (hg:GdQ os a p B B0 w0 af gd) (hx:SrcQ os a p B B0 w0 af x fun v _=>v=.bool n) (hy:SrcQ os a p B B0 w0 af y (Fq.slo k xs).P)
  (hz:k≤900000∧z=sgn n (val xs)∧Canon xs∧(n=true→k≠0)) (hC:∀ v w,Num w v z→(p.c i).P v w) :
  zAg os Q a p B B0 w0 i { dst:=d,op:=.build 36 #[(0,x),(1,y)],type:=ty,pos:=ps,after:=af,guard:=gd }:=by
 refine zBg hp hF hg fun L vs w hG hL hc hd=>?_
 have e0:=hx L vs w hG hd
 obtain ⟨a',c',e1,hs⟩:=hy L vs w hG hd
 refine ⟨.agg #[.bool n,.slice a' k c'],?_,hC _ _ ⟨n,a',k,c',xs,rfl,hs,hz.1,hz.2.1,hz.2.2.1,hz.2.2.2⟩⟩
 generalize (lay os.toArray L vs os.toArray.size a).eval=ρ at e0 e1
 simp [execOp,go_sem,e0,e1]
end
noncomputable def rtB (G Q:F3):Bool:=decide (rfE Q.a Q.b Q.c=0) && eqF (mulF (Q.b*Q.b-4*(Q.a*Q.c)) Q Q).a (mulF (Q.b*Q.b-4*(Q.a*Q.c)) Q Q).b (mulF (Q.b*Q.b-4*(Q.a*Q.c)) Q Q).c G.a G.b G.c
theorem rtB_snoc (G:F3) (Ps:List F3) {i:Nat} {P:F3} (h:Ps[i]?=some P):(Ps.take (i+1)).filter (rtB G)=(Ps.take i).filter (rtB G)++(if rtB G P=true then [P] else []):=by
 rw [List.take_add_one,h,Option.toList_some,List.filter_append]
 congr 1
 cases h9:rtB G P <;> simp [h9]
theorem zVx (Qs:List F3) (P:F3):(Qs ++ [P]).map frF=Qs.map frF ++ [frF P]:=by simp
theorem zFm {n i:Nat} (h:i<n):n-(intOf (.int .i64 ((i:Int)+1))).toNat<n-(intOf (.int .i64 (i:Int))).toNat:=by simp [intOf];omega
theorem fl_at {w:World} {ao:Option Addr} {n cap:Nat} {Ps:List F3} (h:Fl w (.slice ao n cap) Ps) {i:Nat} {P:F3} (hi:Ps[i]?=some P):∃ g,ao=some ⟨g,0,none⟩∧∀ w',Below w.heap.size w w'→StAt w' g (i*6) (frF P):=by
 obtain ⟨ao2,cap2,e,h1⟩:=h
 injection e with e1 e2 e3
 have hl:=(List.getElem?_eq_some_iff.1 hi).1
 obtain ⟨g,e4,hg,h2⟩:=h1 zm
 exact ⟨g,by rw [e1,e4],fun w' hb=>(h2 i P hi).mono hg hb⟩
theorem eqF_iff {a b c x y z:Int}:eqF a b c x y z=true ↔ a=x∧b=y∧c=z:=by
 unfold eqF
 simp [Bool.and_eq_true,decide_eq_true_eq]
theorem zLn {w:World} {v:Value} {z:Int} (h:Num w v z) :
  Rt 114 #[v] w fun v' w'=>Num w' v' z:=by
 obtain ⟨n1,a1,k1,c1,xs1,rfl,hS,hn,hz⟩:=h
 have HS1:=hidd hS
 have HZ1:=hidd (And.intro hn hz)
 clear hn hz
 obtain ⟨w1,b1,hw1,hb1,hs1,E⟩:=zEa w (F:=Fq.raw n1 a1 k1 c1 xs1) (us:=[.bool n1,.slice a1 k1 c1]) 36 rfl (by simp) (zB8 _ _ _ _) (show (Fq.raw n1 a1 k1 c1 xs1).P _ w from ⟨rfl,hS⟩)
 obtain ⟨w2,b2,hw2,hb2,hs2,E⟩:=fZ E hs1 36
 go_enter Tryz.func114,Tryz.ntmps114
 go_upto_region 1 with (fail)
 rw [← hw1,← hw2]
 rw [← hb2,← hb1]
 clear hw1 hw2 hb1 hb2 hs2 hs1
 refine rz [.p b1 0,.u (.bool n1),.p b1 1,.u (.slice a1 k1 c1),.w (Fq.slo k1 xs1),.n z,.a] [some (6,Fq.num z),none] [] E (fun hp=>⟨qa b1 0 0 hp zw,zW1 (off:=0) (v:=.bool n1) hp fo tv (mq 1 rfl) (.inl rfl) (Nat.le_of_ble_eq_true rfl) (sqi 0) (fun us w hl h=>⟨ld_rawB hl h,rfl⟩),qa b1 0 1 hp zw,q_loadSl (off:=1) (v:=.slice a1 k1 c1) hp fo tv (mq 1 rfl) (.inl rfl) (Nat.le_of_ble_eq_true rfl) (sqi 2) (fun us w hl h=>⟨ld_rawS hl h,rfl⟩),zIh (F:=(Fq.is (.slice a1 k1 c1)).P) hp fo tv (enq_clone) rfl (sqi 3) (fun v w hbw h=>(by subst h;exact exCloneF (HS1.out.mono hbw) HZ1.out.1)),zWt hp fo tv (sqi 1) (sqi 4) HZ1.out (fun v w h=>h),sP 5 hp (mq 0 rfl) zw,tv⟩) ?_
 intro w3 E _ _
 simp only [Z1] at E ⊢
 clear HS1 HZ1 hS
 obtain ⟨p0_0,p0_1,c0_0,c0_1,hP0⟩:=zCg (E.box 0 rfl)
 go_wp2
 exact zR (v:=.agg #[p0_0,p0_1]) (by simp [results,Tryz.results114,go_sem,c0_0,c0_1]) E.below hP0

theorem zT5 {w:World} {v:Value} {P:F3} (h:(f3 P.a P.b P.c).P v w) :
  Rt 66 #[v] w fun v' w'=>(f3 P.a P.b P.c).P v' w':=by
 obtain ⟨y0_p0,y0_q0,y0_p1,y0_q1,y0_p2,y0_q2,rfl,hF0⟩:=o3 h
 obtain ⟨w1,b1,hw1,hb1,hs1,E⟩:=gS w 38 hF0
 obtain ⟨w2,b2,hw2,hb2,hs2,E⟩:=fO E hs1 38 zAu
 go_enter Tryz.func66,Tryz.ntmps66
 go_upto_region 1 with (fail)
 rw [← hw1,← hw2]
 rw [← hb2,← hb1]
 clear hw1 hw2 hb1 hb2 hs2 hs1
 refine rz [.u (.func (.func 114) #[] #[])] N2 [] E (fun hp=>⟨zCt hp fo tv (zNk (fun _=>rfl)),tv⟩) ?_
 intro w3 E _ _
 simp only [Z1] at E ⊢
 go_upto_region 2 with (fail)
 refine rz [.u (.func (.func 114) #[] #[]),.p b1 0,.n P.a,.n P.a,.u (.func (.func 114) #[] #[]),.p b1 2,.n P.b,.n P.b,.u (.func (.func 114) #[] #[]),.p b1 4,.n P.c,.n P.c,.w (f3 P.a P.b P.c),.a] [some (13,f3 P.a P.b P.c),none] [] E (fun hp=>⟨zS,qa b1 0 0 hp zw,lN 0 2 hp (mq 1 rfl) zAb zi,zM2 (f:=114) (F:=(Fq.num P.a).P) hp fo tv (zLg) (sqi 0) (sqi 2) (fun v w h=>zLn h),zS,qa b1 0 2 hp zw,lN 2 2 hp (mq 1 rfl) zAb zi,zM2 (f:=114) (F:=(Fq.num P.b).P) hp fo tv (zLg) (sqi 4) (sqi 6) (fun v w h=>zLn h),zS,qa b1 0 4 hp zw,lN 4 2 hp (mq 1 rfl) zAb zi,zM2 (f:=114) (F:=(Fq.num P.c).P) hp fo tv (zLg) (sqi 8) (sqi 10) (fun v w h=>zLn h),zFo (z0:=P.a) (z1:=P.b) (z2:=P.c) hp fo tv (sqi 3) (sqi 7) (sqi 11) (fun v w h=>h),sO 0 12 hp (mq 0 rfl) zAo zw,tv⟩) ?_
 intro w4 E _ _
 simp only [Z1] at E ⊢
 obtain ⟨_,_,hc0,hf0⟩:=zAy (E.box 0 rfl)
 have hP0:=hf0
 obtain ⟨r0_p0,r0_q0,_,rfl,_r0_n0,r0_p1,r0_q1,_,rfl,_r0_n1,r0_p2,r0_q2,_,rfl,_r0_n2,rfl⟩:=hf0
 have c0_z:=c6 hc0
 simp only [List.getD_cons_zero,List.getD_cons_succ] at c0_z
 clear hc0
 go_wp2
 exact zR (v:=.agg #[r0_p0,r0_q0,r0_p1,r0_q1,r0_p2,r0_q2]) (by simp [results,Tryz.results66,go_sem,c0_z]) E.below ⟨_,rfl,hP0⟩

theorem zUh {w:World} {v vl:Value} {Ps:List F3} {P:F3} {D:Int} (h:(f3 P.a P.b P.c).P v w) (sP:Sm P) (hP:Sc D P) (hD:D<0) (hl:Fl w vl Ps) (hk:Ps.length≤400) (hS:∀ Q∈Ps,Sm Q) :
  Calls Tryz.prog 21 #[v,vl] w fun e w'=>∃ v1 B,e=.returned (.tuple #[v1,.int .i64 0])∧Below w.heap.size w w'∧w.heap.size≤B∧Ls 38 6 w' B v1 ((Ps.filter (rtB (rdF P))).map frF):=by
 have SP:=hidd sP
 have HP:=hidd hP
 have HNG:=hidd hD
 have HE:Hid (rfE P.a P.b P.c=0):=zGj hP hD
 obtain ⟨ao,cap,rfl,hfl⟩:=id hl
 have HFL:=hidd hl
 have TL:Hid (¬ (400:Int)<((Ps.length:Nat):Int)):=by show ¬ _;omega
 have HK:Hid (Ps.length≤400):=hk
 have HSM:=hidd hS
 obtain ⟨G,hG⟩:∃ G,G=rdF P:=⟨_,rfl⟩
 have HG:=hidd hG.symm
 rw [← hG]
 obtain ⟨i0,hi,hz0,hz1,hz2⟩:=info_parts zL3
 have HI0:=hidd (And.intro hi (And.intro hz0 (And.intro hz1 hz2)))
 clear hl hfl hk hS hP hD hG hi hz0 hz1 hz2
 clear sP
 obtain ⟨y0_p0,y0_q0,y0_p1,y0_q1,y0_p2,y0_q2,rfl,hF0⟩:=o3 h
 obtain ⟨w1,b1,hw1,hb1,hs1,E⟩:=gS w 38 hF0
 go_enter Tryz.func21,Tryz.ntmps21
 go_upto_region 1 with (fail)
 rw [← hw1,← hb1]
 clear hw1 hb1 hs1
 refine rg [f3 P.a P.b P.c,Fq.is (.int .i64 0),Fq.is (.int .i64 0)] [none] [] E (fun hp=>⟨?_,?_,?_,tv⟩) ?_
 ·exact lS 0 6 hp (mq 0 rfl) zAd (sqo 2)
 ·exact wXa (f3 P.a P.b P.c) hp zDd (sqi 0) fun v w h=>zDe h (Int.lt_of_lt_of_le SP.out.1 (zAa zm)) (Int.lt_of_lt_of_le SP.out.2.1 (zAa zm)) (Int.lt_of_lt_of_le SP.out.2.2 (zAa zm)) (Int.lt_of_lt_of_le (zCn SP.out.1 SP.out.2.1 SP.out.2.2) (zAa zm)) HE.out
 ·exact zCt hp fo tv (sqi 1)
 intro L vs w2 nb hL hC hn E2
 have e1:=wXi hC 1
 have e2:=wXi hC 2
 have E:=E2;try simp only [LM,zAn] at E
 rw [zAp hL]
 simp only [zP,Nat.zero_add,Nat.reduceAdd]
 rw [e1,e2]
 generalize vs 0=u2_0
 clear e1 e2 hC hn E2 hL vs L nb
 go_upto_region 2 with (fail)
 refine rg [Fq.is (.int .i64 0),yF] [none] [] E (fun hp=>⟨?_,?_,tv⟩) ?_
 ·exact zAj hp fo tv (sqo 6)
 ·exact zAv (F:=fun v _=>v=.int .i64 0) hp fo tv (sqi 0) (fun ρ w hc h=>⟨.bool false,by simp [execOp,go_sem,h,hc],rfl⟩)
 intro L vs w3 nb hL hC hn E3
 have e0:=wXi hC 0
 have e1:=wXi hC 1
 have E:=E3;try simp only [LM,zAn] at E
 rw [zAp hL]
 simp only [zP,Nat.zero_add,Nat.reduceAdd]
 rw [e0,e1]
 clear e0 e1 hC hn E3 hL vs L nb
 go_upto_region 4 with (fail)
 refine rg [Fq.is (.slice ao Ps.length cap),Fq.is (.int .i64 ((Ps.length:Nat):Int)),yF] [none] [] E (fun hp=>⟨?_,?_,?_,tv⟩) ?_
 ·exact zAj hp fo tv (sqo 1)
 ·exact zKl hp fo tv (sqi 0) (fun _=>rfl)
 ·exact zAv (F:=fun v _=>v=.int .i64 ((Ps.length:Nat):Int)) hp fo tv (sqi 1) (fun ρ w hc h=>⟨.bool false,by simp [execOp,go_sem,h,hc,TL.out],rfl⟩)
 intro L vs w4 nb hL hC hn E4
 have e0:=wXi hC 0
 have e1:=wXi hC 1
 have e2:=wXi hC 2
 have E:=E4;try simp only [LM,zAn] at E
 rw [zAp hL]
 simp only [zP,Nat.zero_add,Nat.reduceAdd]
 rw [e0,e1,e2]
 clear e0 e1 e2 hC hn E4 hL vs L nb
 go_upto_region 6 with (fail)
 refine rg [f3 P.a P.b P.c,f3 G.a G.b G.c,Fq.any,Fq.any] [none] [⟨2,3,6,f3 0 0 0,f3 G.a G.b G.c,none⟩] E (fun hp=>⟨?_,?_,?_,?_,tv⟩) ?_
 ·exact lS 0 6 hp (mq 0 rfl) zAd (sqo 2)
 ·exact wXa (f3 P.a P.b P.c) hp zHu (sqi 0) fun v w h=>(by have hh9:=zLr HNG.out HP.out SP.out h;rw [HG.out] at hh9;exact hh9)
 ·exact aS hp (mq 0 rfl) zAu zB0
 ·exact sS 1 hp (mq 0 rfl) zAo
 intro L vs w5 nb hL hC hn E5
 have e2:vs 2=.pointer (some ⟨nb 2,0,none⟩):=hn _ (mq 0 rfl)
 have E:=E5;try simp only [LM,zAn] at E
 rw [zAp hL]
 simp only [zP,Nat.zero_add,Nat.reduceAdd]
 rw [e2]
 generalize nb 2=b5_2 at E ⊢
 generalize vs 0=u5_0
 generalize vs 1=u5_1
 clear e2 hC hn E5 hL vs L nb
 go_upto_region 7 with (fail)
 refine rg [Fq.is (.slice none 0 0)] N2 [] E (fun hp=>⟨?_,tv⟩) ?_
 ·exact zCt hp fo tv (zAk (fun _=>rfl))
 intro L vs w6 nb hL hC hn E6
 have e0:=wXi hC 0
 have E:=E6;try simp only [LM,zAn] at E
 rw [zAp hL]
 simp only [zP,Nat.zero_add,Nat.reduceAdd]
 rw [e0]
 clear e0 hC hn E6 hL vs L nb
 go_upto_region 8 with (fail)
 refine rg [Fq.is (.slice ao Ps.length cap),Fq.is (.int .i64 ((Ps.length:Nat):Int)),Fq.is (.int .i64 0)] N2 [] E (fun hp=>⟨?_,?_,?_,tv⟩) ?_
 ·exact zAj hp fo tv (sqo 1)
 ·exact zKl hp fo tv (sqi 0) (fun _=>rfl)
 ·exact zAj hp fo tv (zAk (fun _=>rfl))
 intro L vs w7 nb hL hC hn E7
 have e0:=wXi hC 0
 have e1:=wXi hC 1
 have e2:=wXi hC 2
 have E:=E7;try simp only [LM,zAn] at E
 rw [zAp hL]
 simp only [zP,Nat.zero_add,Nat.reduceAdd]
 rw [e0,e1,e2]
 clear e0 e1 e2 hC hn E7 hL vs L nb
 clear HE SP HP HNG TL HG
 obtain ⟨V0,rfl⟩:∃ V0,V0=w7:=⟨_,rfl⟩
 have HF0:=hidd E
 clear E
 go_upto_region 9 with (fail)
 go_loopw [8,23] (fun vl vi W=>∃ i:Nat,vi=.int .i64 (i:Int)∧i≤Ps.length∧Ls 38 6 W V0.heap.size vl (((Ps.take i).filter (rtB G)).map frF)∧TameN W vl∧Below V0.heap.size V0 W) (fun _ vi _=>Ps.length-(intOf vi).toNat)
 case atStart=>exact ⟨0,rfl,Nat.zero_le _,Ls.none _,.inl rfl,Below.refl _ _⟩
 case round=>
  obtain ⟨V2,rfl⟩:∃ V2,V2=wr:=⟨_,rfl⟩
  obtain ⟨i,rfl,hi,HL,HT,HBW⟩:=hrel
  have E0:=HF0.out.mono HBW
  have hV:=E0.below.size
  by_cases h0:¬ i<Ps.length
  ·obtain rfl:i=Ps.length:=by omega
   rw [List.take_length] at HL
   have HLH:=hidd HL
   have HBH:=hidd E0.below
   have HBB:=hidd HF0.out.below.size
   obtain ⟨ao2,cap2,rfl⟩:=id HL.shape
   clear HL HT E0 hi h0 hV HBW
   have E:=Fr.start V2
   have t0:¬ ((Ps.length:Nat):Int)<((Ps.length:Nat):Int):=by omega
   go_wp2
   refine bodyPost_ret (v:=.tuple #[.slice ao2 (((Ps.filter (rtB G)).map frF).length) cap2,.int .i64 0]) ?_ rfl (by first | exact ⟨_,rfl,HBH.out,_,HBB.out,HLH.out⟩ | exact ⟨_,_,rfl,HBH.out,HBB.out,HLH.out⟩)
   simp [results,Tryz.results21,go_sem]
  ·have hil:i<Ps.length:=by omega
   obtain ⟨P1,hP1⟩:∃ P,Ps[i]?=some P:=⟨_,List.getElem?_eq_getElem hil⟩
   obtain ⟨bl,rfl,hat⟩:=fl_at HFL.out hP1
   have HSN:=hidd (rtB_snoc G Ps hP1)
   have SQ:=hidd (HSM.out P1 (List.mem_of_getElem? hP1))
   have HIL:=hidd hil
   have HLH:=hidd HL
   have HTH:=hidd HT
   have HBH:=hidd HBW
   have TIL:Hid ((i:Int)<((Ps.length:Nat):Int)):=by show _<_;omega
   have HO1:Hid (∀ w1,Below V2.heap.size V2 w1→StAt w1 bl (i*6) (frF P1)):=fun w1 hb1=>hat w1 (E0.below.trans (hb1.mono hV))
   have HOG:Hid (∀ w1,Below V2.heap.size V2 w1→StAt w1 b5_2 0 [.n G.a,.n G.b,.n G.c]):=fun w1 hb1=>(E0.box 0 rfl).stAt hb1
   have hw:wrap64 ((i:Int)+1)=(i:Int)+1:=by have:=HK.out;exact zKy zm zm
   obtain ⟨e1,he1⟩:∃ e,e=rfE P1.a P1.b P1.c:=⟨_,rfl⟩
   have HE1:=hidd he1.symm
   clear HL HT E0 hi h0 hat hP1 hil hV HBW
   have E:=Fr.start V2
   go_upto_region 9 with (fail)
   refine rg [yT] [] [] E (fun hp=>⟨?_,tv⟩) ?_
   ·exact zAt (F:=fun v _=>v=.int .i64 (i:Int)) (G:=fun v _=>v=.int .i64 ((Ps.length:Nat):Int)) hp fo tv (sqo 23) (sqo 22) (fun ρ w hc h h'=>⟨.bool true,by simp [execOp,go_sem,h,h',TIL.out],rfl⟩)
   intro L vs w8 nb hL hC hn E8
   have e0:=wXi hC 0
   have E:=E8;try simp only [LM,zAn] at E
   rw [zAp hL]
   simp only [zP,Nat.zero_add,Nat.reduceAdd]
   rw [e0]
   clear e0 hC hn E8 hL vs L nb
   clear TIL
   go_upto_region 10 with (fail)
   refine rg [Fq.is (.pointer (some ⟨bl,i*6,none⟩)),f3 P1.a P1.b P1.c,Fq.any,Fq.any] [] [⟨2,3,6,f3 0 0 0,f3 P1.a P1.b P1.c,none⟩] E (fun hp=>⟨?_,?_,?_,?_,tv⟩) ?_
   ·exact zKk (b:=bl) (l:=Ps.length) (c:=cap) (k:=i) hp fo tv (sqo 21) (sqo 23) HIL.out (fun _=>rfl)
   ·exact zCi (off:=i*6) (l:=6) (fs:=[.n P1.a,.n P1.b,.n P1.c]) hp fo tv HO1.out zAd rfl (sqi 0) (fun v w h=>h)
   ·exact aS hp (mq 0 rfl) zAu zB0
   ·exact sS 1 hp (mq 0 rfl) zAo
   intro L vs w9 nb hL hC hn E9
   have e0:=wXi hC 0
   have e2:vs 2=.pointer (some ⟨nb 2,0,none⟩):=hn _ (mq 0 rfl)
   have E:=E9;try simp only [LM,zAn] at E
   rw [zAp hL]
   simp only [zP,Nat.zero_add,Nat.reduceAdd]
   rw [e0,e2]
   generalize nb 2=b9_2 at E ⊢
   generalize vs 1=u9_1
   clear e0 e2 hC hn E9 hL vs L nb
   clear HO1
   go_upto_region 11 with (fail)
   by_cases hne:¬ e1=0
   ·have T1:Hid (¬ e1=0):=hne
    have HF:Hid (rtB G P1=false):=by show _=_;unfold rtB;rw [HE1.out,decide_eq_false hne];rfl
    clear hne
    refine rg [f3 P1.a P1.b P1.c,Fq.is (.int .i64 e1),yF,yF,Fq.is (undef),Fq.is (undef),Fq.is (undef),Fq.is (undef),Fq.is (undef),yF] [none] [] E (fun hp=>⟨?_,?_,?_,?_,?_,?_,?_,?_,?_,?_,tv⟩) ?_
    ·exact lS 0 6 hp (mq 0 rfl) zAd (sqo 10)
    ·exact wXa (f3 P1.a P1.b P1.c) hp zDd (sqi 0) fun v w h=>zDe h (Int.lt_of_lt_of_le SQ.out.1 (zAa zm)) (Int.lt_of_lt_of_le SQ.out.2.1 (zAa zm)) (Int.lt_of_lt_of_le SQ.out.2.2 (zAa zm)) (Int.lt_of_lt_of_le (zCn SQ.out.1 SQ.out.2.1 SQ.out.2.2) (zAa zm)) HE1.out
    ·exact zAv (F:=fun v _=>v=.int .i64 e1) hp fo tv (sqi 1) (fun ρ w hc h=>⟨.bool false,by simp [execOp,go_sem,h,hc,T1.out],rfl⟩)
    ·exact zAj hp fo tv (sqi 2)
    ·exact zFr hp fo rfl gqi (fun _=>rfl)
    ·exact zFr hp fo rfl gqi (fun _=>rfl)
    ·exact zFr hp fo rfl gqi (fun _=>rfl)
    ·exact zFr hp fo rfl gqi (fun _=>rfl)
    ·exact zFr hp fo rfl gqi (fun _=>rfl)
    ·exact zAt (F:=fun v _=>v=.bool false) (G:=fun v _=>v=.bool false) hp fo tv (sqi 3) (zAk (fun _=>rfl)) (fun ρ w hc h h'=>⟨_,by simp [execOp,go_sem,h,h'],rfl⟩)
    intro L vs w10 nb hL hC hn E10
    have e1:=wXi hC 1
    have e2:=wXi hC 2
    have e3:=wXi hC 3
    have e4:=wXi hC 4
    have e5:=wXi hC 5
    have e6:=wXi hC 6
    have e7:=wXi hC 7
    have e8:=wXi hC 8
    have e9:=wXi hC 9
    have E:=E10;try simp only [LM,zAn] at E
    rw [zAp hL]
    simp only [zP,Nat.zero_add,Nat.reduceAdd]
    rw [e1,e2,e3,e4,e5,e6,e7,e8,e9]
    generalize vs 0=u10_0
    clear e1 e2 e3 e4 e5 e6 e7 e8 e9 hC hn E10 hL vs L nb
    clear T1 HE1
    have HL6:=hidd (HLH.out.mono E.below)
    have HT6:=hidd (HTH.out.mono E.below)
    have HE6:=hidd (HBH.out.trans (E.below.mono HBH.out.size))
    clear HLH HTH HBH E HSM HFL HK HI0 SQ HOG
    go_wp2
    go_roundw
    case rel=>exact ⟨i+1,by first | go_num | (rw [hw];go_num),by have:=HIL.out;omega,(by rw [HSN.out,HF.out,if_neg zd,List.append_nil];exact HL6.out),HT6.out,HE6.out⟩
    case measure=>first | exact zFm HIL.out | (rw [hw];exact zFm HIL.out)
   ·have T1:Hid (e1=0):=by show _=_;omega
    have hsf:=sf_of (HE1.out.trans T1.out)
    have HSF:=hidd hsf.1
    have HSD:=hidd hsf.2
    obtain ⟨D1,hD1⟩:∃ D,D=P1.b*P1.b-4*(P1.a*P1.c):=⟨_,rfl⟩
    rw [← hD1] at HSF HSD
    obtain ⟨S,hS⟩:∃ S,S=mulF D1 P1 P1:=⟨_,rfl⟩
    have HS:=hidd hS.symm
    have HR:Hid (rtB G P1=eqF S.a S.b S.c G.a G.b G.c):=by show _=_;unfold rtB;rw [HE1.out,T1.out,← hD1,← hS];rfl
    clear hsf hD1 hS hne
    by_cases hq:eqF S.a S.b S.c G.a G.b G.c=true
    ·have HF:Hid (rtB G P1=true):=by show _=_;rw [HR.out];exact hq
     have HQ:Hid (eqF S.a S.b S.c G.a G.b G.c=true):=hq
     clear hq
     refine rg [f3 P1.a P1.b P1.c,Fq.is (.int .i64 e1),yT,yT,f3 P1.a P1.b P1.c,f3 P1.a P1.b P1.c,f3 S.a S.b S.c,f3 G.a G.b G.c,yT,yT] [none] [] E (fun hp=>⟨?_,?_,?_,?_,?_,?_,?_,?_,?_,?_,tv⟩) ?_
     ·exact lS 0 6 hp (mq 0 rfl) zAd (sqo 10)
     ·exact wXa (f3 P1.a P1.b P1.c) hp zDd (sqi 0) fun v w h=>zDe h (Int.lt_of_lt_of_le SQ.out.1 (zAa zm)) (Int.lt_of_lt_of_le SQ.out.2.1 (zAa zm)) (Int.lt_of_lt_of_le SQ.out.2.2 (zAa zm)) (Int.lt_of_lt_of_le (zCn SQ.out.1 SQ.out.2.1 SQ.out.2.2) (zAa zm)) HE1.out
     ·exact zAv (F:=fun v _=>v=.int .i64 e1) hp fo tv (sqi 1) (fun ρ w hc h=>⟨.bool true,by simp [execOp,go_sem,h,hc,T1.out],rfl⟩)
     ·exact zAj hp fo tv (sqi 2)
     ·exact lG 0 6 hp gqi (mq 0 rfl) zAd (sqo 10) fun v w h=>h
     ·exact lG 0 6 hp gqi (mq 0 rfl) zAd (sqo 10) fun v w h=>h
     ·exact zDl (F:=(f3 P1.a P1.b P1.c).P) (G:=(f3 P1.a P1.b P1.c).P) hp fo gqi (zHt) (sqi 4) (sqi 5) (fun v v' w h h'=>(by have hh9:=zJp HSD.out HSF.out HSF.out SQ.out SQ.out h h';rw [HS.out] at hh9;exact hh9))
     ·exact zCi (off:=0) (l:=6) (fs:=[.n G.a,.n G.b,.n G.c]) hp fo gqi HOG.out zAd rfl (sqo 7) (fun v w h=>h)
     ·exact zDl (F:=(f3 S.a S.b S.c).P) (G:=(f3 G.a G.b G.c).P) hp fo gqi (zOq) (sqi 6) (sqi 7) (fun v v' w h h'=>zO8 h h' HQ.out)
     ·exact zAt (F:=fun v _=>v=.bool true) (G:=fun v _=>v=.bool true) hp fo tv (sqi 3) (sqi 8) (fun ρ w hc h h'=>⟨_,by simp [execOp,go_sem,h,h'],rfl⟩)
     intro L vs w11 nb hL hC hn E11
     have e1:=wXi hC 1
     have e2:=wXi hC 2
     have e3:=wXi hC 3
     have e8:=wXi hC 8
     have e9:=wXi hC 9
     have E:=E11;try simp only [LM,zAn] at E
     rw [zAp hL]
     simp only [zP,Nat.zero_add,Nat.reduceAdd]
     rw [e1,e2,e3,e8,e9]
     generalize vs 0=u11_0
     generalize vs 4=u11_4
     generalize vs 5=u11_5
     generalize vs 6=u11_6
     generalize vs 7=u11_7
     clear e1 e2 e3 e8 e9 hC hn E11 hL vs L nb
     clear T1 HE1 HSF HSD HS HR HQ SQ HOG HSM HFL
     have HST:=hidd (StAt.of_boxQ (E.box 0 rfl))
     have hHL:=HLH.out
     have hHT:=HTH.out
     obtain ⟨Qs,hQs⟩:∃ Qs,Qs=(Ps.take i).filter (rtB G):=⟨_,rfl⟩
     have HSN2:Hid ((Ps.take (i+1)).filter (rtB G)=Qs ++ [P1]):=by show _=_;rw [HSN.out,HF.out,if_pos rfl,hQs]
     have hQl:Qs.length≤400:=by have h8:=List.length_filter_le (rtB G) (Ps.take i);have h9:=List.length_take_le i Ps;have:=HK.out;have:=HIL.out;rw [hQs];omega
     have HQL:=hidd hQl
     rw [← hQs] at hHL
     have hml:(Qs.map frF).length=Qs.length:=List.length_map ..
     have HL5:=hidd (hHL.mono E.below)
     have HT5:=hidd (hHT.mono E.below)
     have HB5:=hidd (HBH.out.trans (E.below.mono HBH.out.size))
     clear hHL hHT hQs hQl HLH HTH HBH HSN HF E hml
     obtain ⟨V5,rfl⟩:∃ V5,V5=w11:=⟨_,rfl⟩
     go_upto_region 12 with (fail)
     refine wp_region_list ?_
     refine zSn rfl (.tmp 8) rfl ?_
     refine zGo rfl 38 (.tmp 10) rfl zAd rfl rfl HST.out fun vc hvc=>?_
     go_wp2_with (first | (go_at_call 66;(with_reducible refine (zT5 hvc).mono ?_);rintro e w9 ⟨_,rfl,hb9,es,rfl,hfit⟩;have hlen:=hfit.length;obtain ⟨c0,c1,c2,c3,c4,c5,rfl⟩:=sixQ hlen;have HFT:=hidd hfit;have HL9:=hidd (HL5.out.mono hb9);have HT9:=hidd (HT5.out.mono hb9);have HB9:=hidd (HB5.out.trans (hb9.mono HB5.out.size));clear hfit hlen hb9 hvc) | (at_builtin;obtain ⟨us,hO,hE⟩:=HL9.out;have hsz3:=HB9.out.size;have hQl:=HQL.out;refine zXs (n:=Qs.length) (xs:=us) rfl _ _ 54 rfl V0.heap.size 38 i0 (.agg #[.bool false,.slice none 0 0,.bool false,.slice none 0 0,.bool false,.slice none 0 0]) 6 96 Tryz.underlying54 HI0.out.1 HI0.out.2.1 HI0.out.2.2.1 HI0.out.2.2.2 zd zd _ rfl (World.ownsRow.alloc (by have h9:=hO;rwa [List.length_map] at h9) _) (HT9.out.mono (zAh _ _)) (List.all_eq_true.1 rfl) ⟨_,0,none⟩ 1 1 [c0,c1,c2,c3,c4,c5] rfl rfl (World.news_of_block (heap_alloc_new _ _)) HFT.out.all zd (by unfold maxLen;omega) zm (Nat.le_trans hsz3 (by simp)) _ rfl ?_;intro g9 cap w8 hown' hgrow hat hlt htm) | fail)
     have hS:=Ls.stepF (fs:=frF P1) (es:=[c0,c1,c2,c3,c4,c5]) hO hE hsz3 HB9.out (Below.refl _ _) (HT9.out.far HFT.out rfl) HFT.out rfl rfl (by rw [List.length_map];exact hown') hgrow hat rfl
     rw [List.length_map] at hS
     have hS4:=hidd hS.1
     have hS5:=hidd hS.2
     have hS6:=hidd htm
     clear hown' hgrow hat hlt htm hS hO hE HT9 HL9 HB9 HL5 HT5 HB5 HST HFT HK HI0 HQL
     go_wp2
     go_roundw
     case rel=>exact ⟨i+1,by first | go_num | (rw [hw];go_num),by have:=HIL.out;omega,(by rw [HSN2.out,zVx];simpa using hS4.out),(.inr (by simpa using hS6.out)),hS5.out⟩
     case measure=>first | exact zFm HIL.out | (rw [hw];exact zFm HIL.out)
    ·have HF:Hid (rtB G P1=false):=by show _=_;rw [HR.out];exact Bool.eq_false_iff.2 hq
     have HQ:Hid (eqF S.a S.b S.c G.a G.b G.c=false):=Bool.eq_false_iff.2 hq
     clear hq
     refine rg [f3 P1.a P1.b P1.c,Fq.is (.int .i64 e1),yT,yT,f3 P1.a P1.b P1.c,f3 P1.a P1.b P1.c,f3 S.a S.b S.c,f3 G.a G.b G.c,yF,yF] [none] [] E (fun hp=>⟨?_,?_,?_,?_,?_,?_,?_,?_,?_,?_,tv⟩) ?_
     ·exact lS 0 6 hp (mq 0 rfl) zAd (sqo 10)
     ·exact wXa (f3 P1.a P1.b P1.c) hp zDd (sqi 0) fun v w h=>zDe h (Int.lt_of_lt_of_le SQ.out.1 (zAa zm)) (Int.lt_of_lt_of_le SQ.out.2.1 (zAa zm)) (Int.lt_of_lt_of_le SQ.out.2.2 (zAa zm)) (Int.lt_of_lt_of_le (zCn SQ.out.1 SQ.out.2.1 SQ.out.2.2) (zAa zm)) HE1.out
     ·exact zAv (F:=fun v _=>v=.int .i64 e1) hp fo tv (sqi 1) (fun ρ w hc h=>⟨.bool true,by simp [execOp,go_sem,h,hc,T1.out],rfl⟩)
     ·exact zAj hp fo tv (sqi 2)
     ·exact lG 0 6 hp gqi (mq 0 rfl) zAd (sqo 10) fun v w h=>h
     ·exact lG 0 6 hp gqi (mq 0 rfl) zAd (sqo 10) fun v w h=>h
     ·exact zDl (F:=(f3 P1.a P1.b P1.c).P) (G:=(f3 P1.a P1.b P1.c).P) hp fo gqi (zHt) (sqi 4) (sqi 5) (fun v v' w h h'=>(by have hh9:=zJp HSD.out HSF.out HSF.out SQ.out SQ.out h h';rw [HS.out] at hh9;exact hh9))
     ·exact zCi (off:=0) (l:=6) (fs:=[.n G.a,.n G.b,.n G.c]) hp fo gqi HOG.out zAd rfl (sqo 7) (fun v w h=>h)
     ·exact zDl (F:=(f3 S.a S.b S.c).P) (G:=(f3 G.a G.b G.c).P) hp fo gqi (zOq) (sqi 6) (sqi 7) (fun v v' w h h'=>zO8 h h' HQ.out)
     ·exact zAt (F:=fun v _=>v=.bool true) (G:=fun v _=>v=.bool false) hp fo tv (sqi 3) (sqi 8) (fun ρ w hc h h'=>⟨_,by simp [execOp,go_sem,h,h'],rfl⟩)
     intro L vs w12 nb hL hC hn E12
     have e1:=wXi hC 1
     have e2:=wXi hC 2
     have e3:=wXi hC 3
     have e8:=wXi hC 8
     have e9:=wXi hC 9
     have E:=E12;try simp only [LM,zAn] at E
     rw [zAp hL]
     simp only [zP,Nat.zero_add,Nat.reduceAdd]
     rw [e1,e2,e3,e8,e9]
     generalize vs 0=u12_0
     generalize vs 4=u12_4
     generalize vs 5=u12_5
     generalize vs 6=u12_6
     generalize vs 7=u12_7
     clear e1 e2 e3 e8 e9 hC hn E12 hL vs L nb
     clear T1 HE1 HSF HSD HS HR HQ
     have HL6:=hidd (HLH.out.mono E.below)
     have HT6:=hidd (HTH.out.mono E.below)
     have HE6:=hidd (HBH.out.trans (E.below.mono HBH.out.size))
     clear HLH HTH HBH E HSM HFL HK HI0 SQ HOG
     go_wp2
     go_roundw
     case rel=>exact ⟨i+1,by first | go_num | (rw [hw];go_num),by have:=HIL.out;omega,(by rw [HSN.out,HF.out,if_neg zd,List.append_nil];exact HL6.out),HT6.out,HE6.out⟩
     case measure=>first | exact zFm HIL.out | (rw [hw];exact zFm HIL.out)

theorem zTv {w:World} {v v':Value} {Ps:List F3} (h:Fl w v Ps) (h':Fl w v' Ps) (hk:Ps.length≤400) :
  Rt 23 #[v,v'] w fun v' w'=>v'=.bool true:=by
 obtain ⟨ao,cap,rfl,_⟩:=id h
 obtain ⟨ao2,cap2,rfl,_⟩:=id h'
 have HFL:=hidd h
 have HFQ:=hidd h'
 have HK:=hidd hk
 clear h h'
 obtain ⟨n,hn⟩:∃ n,n=Ps.length:=⟨_,rfl⟩
 rw [← hn]
 rw [← hn] at hk
 have HN:=hidd hn
 have HKN:=hidd hk
 have T0:Hid (¬ ¬ ((n:Nat):Int)=((n:Nat):Int)):=fun e=>e rfl
 clear hn hk
 go_enter Tryz.func23,Tryz.ntmps23
 go_wp2
 go_loopw [5] (fun vi W=>∃ i:Nat,vi=.int .i64 (i:Int)∧i≤n∧Below w.heap.size w W) (fun vi _=>n-(intOf vi).toNat)
 case atStart=>exact ⟨0,rfl,Nat.zero_le _,Below.refl _ _⟩
 case round=>
  obtain ⟨V2,rfl⟩:∃ V2,V2=wr:=⟨_,rfl⟩
  obtain ⟨i,rfl,hi,HBW⟩:=hrel
  by_cases h0:¬ i<n
  ·obtain rfl:i=n:=by omega
   have HB2:=hidd HBW
   clear HBW hi h0
   have t0:¬ ((i:Nat):Int)<((i:Nat):Int):=by omega
   go_wp2
   refine bodyPost_ret (v:=.bool true) ?_ rfl (by first | exact ⟨_,rfl,HB2.out,rfl⟩ | exact ⟨HB2.out,rfl⟩ | exact ⟨rfl,HB2.out⟩ | exact HB2.out)
   simp [results,Tryz.results23,go_sem]
  ·have hil:i<n:=by omega
   have hi1:i<Ps.length:=by rw [← HN.out];exact hil
   obtain ⟨P1,hP1⟩:∃ P,Ps[i]?=some P:=⟨_,List.getElem?_eq_getElem hi1⟩
   obtain ⟨bl,rfl,hat⟩:=fl_at HFL.out hP1
   obtain ⟨bq,rfl,haq⟩:=fl_at HFQ.out hP1
   have hV:=HBW.size
   have HIL:=hidd hil
   have HEQ:Hid (eqF P1.a P1.b P1.c P1.a P1.b P1.c=true):=eqF_iff.2 ⟨rfl,rfl,rfl⟩
   have TIL:Hid ((i:Int)<((n:Nat):Int)):=by show _<_;omega
   have HO1:Hid (∀ w1,Below V2.heap.size V2 w1→StAt w1 bl (i*6) (frF P1)):=fun w1 hb1=>hat w1 (HBW.trans (hb1.mono hV))
   have HO2:Hid (∀ w1,Below V2.heap.size V2 w1→StAt w1 bq (i*6) (frF P1)):=fun w1 hb1=>haq w1 (HBW.trans (hb1.mono hV))
   have hw:wrap64 ((i:Int)+1)=(i:Int)+1:=by have:=HKN.out;exact zKy zm zm
   have HB2:=hidd HBW
   clear HBW hi h0 hat haq hP1 hil hi1 hV
   have E:=Fr.start V2
   go_upto_region 4 with (fail)
   refine rz [.i (i:Int),.u (.slice (some ⟨bl,0,none⟩) n cap),.i ((n:Nat):Int),.t] [] [] E (fun hp=>⟨zS,zS,zKl hp fo tv (sqi 1) (fun _=>rfl),zT hp (sqi 0) (sqi 2) TIL.out,tv⟩) ?_
   intro w1 E _ _
   simp only [Z1] at E ⊢
   clear TIL
   go_upto_region 6 with (fail)
   refine rz [.u (.slice (some ⟨bl,0,none⟩) n cap),.i (i:Int),.u (.pointer (some ⟨bl,i*6,none⟩)),.w (f3 P1.a P1.b P1.c),.u (.slice (some ⟨bq,0,none⟩) n cap2),.i (i:Int),.u (.pointer (some ⟨bq,i*6,none⟩)),.w (f3 P1.a P1.b P1.c),.t,.o] [] [] E (fun hp=>⟨zS,zS,zKk (b:=bl) (l:=n) (c:=cap) (k:=i) hp fo tv (sqi 0) (sqi 1) HIL.out (fun _=>rfl),zCi (off:=i*6) (l:=6) (fs:=[.n P1.a,.n P1.b,.n P1.c]) hp fo tv HO1.out zAd rfl (sqi 2) (fun v w h=>h),zS,zS,zKk (b:=bq) (l:=n) (c:=cap2) (k:=i) hp fo tv (sqi 4) (sqi 5) HIL.out (fun _=>rfl),zCi (off:=i*6) (l:=6) (fs:=[.n P1.a,.n P1.b,.n P1.c]) hp fo tv HO2.out zAd rfl (sqi 6) (fun v w h=>h),zC hp zFj zi zi fun v v' w h h'=>zFk h h' HEQ.out,zo hp (sqi 8),tv⟩) ?_
   intro w2 E _ _
   simp only [Z1] at E ⊢
   have HB3:=hidd (HB2.out.trans (E.below.mono HB2.out.size))
   clear HO1 HO2 HEQ E HB2
   go_wp2
   go_roundw
   case rel=>exact ⟨i+1,by first | go_num | (rw [hw];go_num),by have:=HIL.out;omega,HB3.out⟩
   case measure=>first | exact zFm HIL.out | (rw [hw];exact zFm HIL.out)

theorem zTe:En 9:=zAe Tryz.func9 (by kernel_rfl) rfl
theorem zGt:En 16:=zAe Tryz.func16 (by kernel_rfl) rfl
theorem zHs:En 17:=zAe Tryz.func17 (by kernel_rfl) rfl
theorem zHr:En 32:=zAe Tryz.func32 (by kernel_rfl) rfl
theorem zOl:En 41:=zAe Tryz.func41 (by kernel_rfl) rfl
theorem zE2:zDg 48 7=true:=by kernel_rfl
theorem zEk (w:World):Fits w [.n 0,.n 0,.n 0,.v (.int .i64 0)] [.bool false,.slice none 0 0,.bool false,.slice none 0 0,.bool false,.slice none 0 0,.int .i64 0]:=⟨_,_,_,rfl,Num.zero w,_,_,_,rfl,Num.zero w,_,_,_,rfl,Num.zero w,_,rfl,rfl,rfl⟩
theorem zXw (w:World):(Fq.st [.n 0,.n 0,.n 0,.v (.int .i64 0)]).P (.agg ([.bool false,.slice none 0 0,.bool false,.slice none 0 0,.bool false,.slice none 0 0,.int .i64 0]:List Value).toArray) w:=⟨_,rfl,zEk w⟩
theorem zHa {d:Option Tmp} {ty:TypeId} {ps:String} {af:Array Edge} (ρ:Operand→Value) (w:World):(execOp ρ { dst:=d,op:=.alloc 48,type:=ty,pos:=ps,after:=af,guard:=none }).run Tryz.prog w=.ok (.value (.pointer (some ⟨w.heap.size,0,none⟩))) (w.alloc (.cells [.bool false,.slice none 0 0,.bool false,.slice none 0 0,.bool false,.slice none 0 0,.int .i64 0].toArray 48)):=by
 simp [execOp,go_sem]
section
variable {os : List Oper} {Q : Exit → Act → World → Prop} {a : Act} {p : Pq} {B B0 : Nat} {w0 : World}
variable {i s : Nat} {d : Option Tmp} {ty : TypeId} {ps : String} {af : Array Edge} {gd : Option (Nat × Bool)}
theorem q_gotErr {x:Operand} {a0 b0 c0 e0:Int} (hp:p.Ok B B0) (hF:p.Free i) (hg:GdQ os a p B B0 w0 af gd) (hx:SrcQ os a p B B0 w0 af x (Fq.st [.n a0,.n b0,.n c0,.v (.int .i64 e0)]).P) (hC:∀ w,(p.c i).P (.int .i64 e0) w) :
  zAg os Q a p B B0 w0 i { dst:=d,op:=.field 48 x 1,type:=ty,pos:=ps,after:=af,guard:=gd }:=by
 refine zBg hp hF hg fun L vs w hG hL hc hd=>?_
 obtain ⟨_,e1,p0,q0,_,rfl,_,p1,q1,_,rfl,_,p2,q2,_,rfl,_,_,rfl,_,rfl⟩:=hx L vs w hG hd
 refine ⟨.int .i64 e0,?_,hC w⟩
 generalize (lay os.toArray L vs os.toArray.size a).eval=ρ at e1
 have hf:(Instr.field 48 (.agg #[p0,q0,p1,q1,p2,q2,.int .i64 e0]) 1).run Tryz.prog w=.ok (.int .i64 e0) w:=by kernel_rfl
 simp [execOp,go_sem,e1,hf]
end
theorem Fl.built {w:World} {Ps:List F3} {es:List Value} {n:Nat} (hn:n=Ps.length) (h:Fits w (rowQ Ps) es) (h0:0<Ps.length):Fl (w.alloc (.cells es.toArray 38)) (.slice (some ⟨w.heap.size,0,none⟩) n n) Ps:=by
 subst hn
 have h2:=h.mono (zAh w (.cells es.toArray 38))
 refine ⟨_,_,rfl,fun _=>⟨w.heap.size,rfl,by simp,fun i P hi=>?_⟩⟩
 have:=zNc h2 (b:=w.heap.size) (o:=0) (fun j hj=>by rw [Nat.zero_add];unfold World.cell?;rw [heap_alloc_new];simp [List.getD,List.getElem?_eq_getElem hj]) hi
 rw [Nat.zero_add] at this
 exact this
theorem zMs {a b c:Int} (h:cont a b c=1) (d:Int) (h1:d ∣ a) (h2:d ∣ b) (h3:d ∣ c):d ∣ 1:=zK8 h d h1 h2 h3
theorem und_e22:Und 4 (-11) 9 (-1) (2) (-1) (1) 2 (-1) 3:=⟨by decide,by decide,by decide,by decide⟩
section
variable {os : List Oper} {Q : Exit → Act → World → Prop} {a : Act} {p : Pq} {B B0 : Nat} {w0 : World}
variable {i s : Nat} {d : Option Tmp} {ty : TypeId} {ps : String} {af : Array Edge} {gd : Option (Nat × Bool)}
theorem zM0 {x0:Operand} {z0_0:Int} {z0_1:Int} {z0_2:Int} {x1:Operand} {u1:Int} (hp:p.Ok B B0) (hF:p.Free i) (hg:GdQ os a p B B0 w0 af gd) (h0:SrcQ os a p B B0 w0 af x0 (f3 z0_0 z0_1 z0_2).P) (h1:SrcQ os a p B B0 w0 af x1 fun v _=>v=.int .i64 u1) (hC:∀ v w,(Fq.st [.n z0_0,.n z0_1,.n z0_2,.v (.int .i64 u1)]).P v w→(p.c i).P v w) :
  zAg os Q a p B B0 w0 i { dst:=d,op:=.build 48 #[(0,x0),(1,x1)],type:=ty,pos:=ps,after:=af,guard:=gd }:=by
 refine zBg hp hF hg fun L vs w hG hL hc hd=>?_
 have g0:=h0 L vs w hG hd
 obtain ⟨_,e0,_,_,_,rfl,a0_n0,_,_,_,rfl,a0_n1,_,_,_,rfl,a0_n2,rfl⟩:=g0
 obtain ⟨n0_0,ao0_0,k0_0,c0_0,e0_0⟩:=a0_n0.parts
 have m0_0:=a0_n0
 rw [e0_0] at m0_0
 obtain ⟨n0_1,ao0_1,k0_1,c0_1,e0_1⟩:=a0_n1.parts
 have m0_1:=a0_n1
 rw [e0_1] at m0_1
 obtain ⟨n0_2,ao0_2,k0_2,c0_2,e0_2⟩:=a0_n2.parts
 have m0_2:=a0_n2
 rw [e0_2] at m0_2
 injection e0_0 with f0_0
 have f0_0:=congrArg Array.toList f0_0
 simp at f0_0
 obtain ⟨rfl,rfl⟩:=f0_0
 injection e0_1 with f0_1
 have f0_1:=congrArg Array.toList f0_1
 simp at f0_1
 obtain ⟨rfl,rfl⟩:=f0_1
 injection e0_2 with f0_2
 have f0_2:=congrArg Array.toList f0_2
 simp at f0_2
 obtain ⟨rfl,rfl⟩:=f0_2
 have g1:=h1 L vs w hG hd
 refine ⟨.agg #[.bool n0_0,.slice ao0_0 k0_0 c0_0,.bool n0_1,.slice ao0_1 k0_1 c0_1,.bool n0_2,.slice ao0_2 k0_2 c0_2,.int .i64 u1],?_,hC _ _ ⟨_,rfl,_,_,_,rfl,m0_0,_,_,_,rfl,m0_1,_,_,_,rfl,m0_2,_,rfl,rfl,rfl⟩⟩
 generalize (lay os.toArray L vs os.toArray.size a).eval=ρ at e0 g1
 simp [execOp,go_sem,e0,g1]
end
theorem zHx {w:World} {v v':Value} {P Q R:F3} {er:Int} (h:(f3 P.a P.b P.c).P v w) (h':(f3 Q.a Q.b Q.c).P v' w) (sP:Sm P) (sQ:Sm Q) (hR:cmF P.a P.b P.c Q.a Q.b Q.c=R) (hE:cmE P.a P.b P.c Q.a Q.b Q.c=er) :
  Rt 16 #[v,v'] w fun v' w'=>(Fq.st [.n R.a,.n R.b,.n R.c,.v (.int .i64 er)]).P v' w':=by
 have HsP:=hidd sP
 have HsQ:=hidd sQ
 have HhR:=hidd hR
 have HhE:=hidd hE
 obtain ⟨y0_p0,y0_q0,y0_p1,y0_q1,y0_p2,y0_q2,rfl,hF0⟩:=o3 h
 obtain ⟨y1_p0,y1_q0,y1_p1,y1_q1,y1_p2,y1_q2,rfl,hF1⟩:=o3 h'
 obtain ⟨w1,b1,hw1,hb1,hs1,E⟩:=gS w 38 hF0
 obtain ⟨w2,b2,hw2,hb2,hs2,E⟩:=fS E hs1 38 hF1
 obtain ⟨w3,b3,hw3,hb3,hs3,E⟩:=fO E hs2 48 zEk
 go_enter Tryz.func16,Tryz.ntmps16
 go_upto_region 1 with (fail)
 rw [← hw1,← hw2]
 rw [← hw3,← hb3]
 rw [← hb2,← hb1]
 clear hw1 hw2 hw3 hb1 hb2 hb3 hs3 hs1 hs2
 refine rz [.w (f3 P.a P.b P.c),.w (f3 Q.a Q.b Q.c),.w (Fq.tup2 (f3 R.a R.b R.c) (Fq.is (.int .i64 er))),.w (Fq.tup2 (f3 R.a R.b R.c) (Fq.is (.int .i64 er))),.w (f3 R.a R.b R.c),.i er,.k,.a,.i er] N3 [⟨6,7,6,f3 0 0 0,f3 R.a R.b R.c,none⟩] E (fun hp=>⟨lS 0 6 hp (mq 2 rfl) zAd zw,lS 0 6 hp (mq 1 rfl) zAd zw,zC hp zTk zi zi fun v v' w h h'=>(by have hh9:=zT0 h h' HsP.out.1 HsP.out.2.1 HsP.out.2.2 HsQ.out.1 HsQ.out.2.1 HsQ.out.2.2;rw [HhR.out,HhE.out] at hh9;exact hh9),zS,zS,zS,aS hp (mq 0 rfl) zAu zB0,sS 4 hp (mq 0 rfl) zAo,zS,tv⟩) ?_
 intro w4 b4_6 E _ _
 simp only [Z1] at E ⊢
 go_upto_region 2 with (fail)
 refine rz [.w (f3 R.a R.b R.c),.i er,.w (Fq.st [.n R.a,.n R.b,.n R.c,.v (.int .i64 er)]),.a] [none,some (3,Fq.st [.n R.a,.n R.b,.n R.c,.v (.int .i64 er)]),none,none] [] E (fun hp=>⟨lS 0 6 hp (mq 0 rfl) zAd zw,zS,zM0 (u1:=er) (z0_0:=R.a) (z0_1:=R.b) (z0_2:=R.c) hp fo tv (sqi 0) (sqi 1) (fun v w h=>h),sO 0 2 hp (mq 1 rfl) zE2 zw,tv⟩) ?_
 intro w5 E _ _
 simp only [Z1] at E ⊢
 clear HsP sP HsQ sQ HhR hR HhE hE
 obtain ⟨_,_,hc0,hf0⟩:=zAy (E.box 1 rfl)
 have hP0:=hf0
 obtain ⟨r0_p0,r0_q0,_,rfl,_r0_n0,r0_p1,r0_q1,_,rfl,_r0_n1,r0_p2,r0_q2,_,rfl,_r0_n2,_,rfl,_,rfl⟩:=hf0
 have c0_0:=hc0 0 (by simp)
 have c0_1:=hc0 1 (by simp)
 have c0_2:=hc0 2 (by simp)
 have c0_3:=hc0 3 (by simp)
 have c0_4:=hc0 4 (by simp)
 have c0_5:=hc0 5 (by simp)
 have c0_6:=hc0 6 (by simp)
 simp only [List.getD_cons_zero,List.getD_cons_succ] at c0_0 c0_1 c0_2 c0_3 c0_4 c0_5 c0_6
 clear hc0
 go_wp2
 exact zR (v:=.agg #[r0_p0,r0_q0,r0_p1,r0_q1,r0_p2,r0_q2,.int .i64 er]) (by simp [results,Tryz.results16,go_sem,c0_0,c0_1,c0_2,c0_3,c0_4,c0_5,c0_6]) E.below ⟨_,rfl,hP0⟩

theorem zHw {w:World} {v v':Value} {P:F3} {D n:Int} (hC:GC D) (hP:Sc D P) (hn:ab n<pw 20) (sP:Sm P) (h:(f3 P.a P.b P.c).P v w) (h':Num w v' n) :
  Rt 17 #[v,v'] w fun v' w'=>(Fq.st [.n (pzF D P n).a,.n (pzF D P n).b,.n (pzF D P n).c,.v (.int .i64 0)]).P v' w':=by
 have HhC:=hidd hC
 have HhP:=hidd hP
 have Hhn:=hidd hn
 have HsP:=hidd sP
 obtain ⟨y0_p0,y0_q0,y0_p1,y0_q1,y0_p2,y0_q2,rfl,hF0⟩:=o3 h
 obtain ⟨n1,ao1,k1,c1,rfl⟩:=h'.parts
 obtain ⟨w1,b1,hw1,hb1,hs1,E⟩:=gS w 38 hF0
 obtain ⟨w2,b2,hw2,hb2,hs2,E⟩:=fN E hs1 36 h'
 obtain ⟨w3,b3,hw3,hb3,hs3,E⟩:=fO E hs2 48 zEk
 go_enter Tryz.func17,Tryz.ntmps17
 go_upto_region 1 with (fail)
 rw [← hw1,← hw2]
 rw [← hw3,← hb3]
 rw [← hb2,← hb1]
 clear hw1 hw2 hw3 hb1 hb2 hb3 hs3 hs1 hs2
 refine rz [.w (f3 P.a P.b P.c),.n n,.w (Fq.tup2 (f3 ((pzF D P n).a) ((pzF D P n).b) ((pzF D P n).c)) (Fq.is (.int .i64 0))),.w (Fq.tup2 (f3 ((pzF D P n).a) ((pzF D P n).b) ((pzF D P n).c)) (Fq.is (.int .i64 0))),.w (f3 ((pzF D P n).a) ((pzF D P n).b) ((pzF D P n).c)),.i 0,.k,.a,.i 0] N3 [⟨6,7,6,f3 0 0 0,f3 ((pzF D P n).a) ((pzF D P n).b) ((pzF D P n).c),none⟩] E (fun hp=>⟨lS 0 6 hp (mq 2 rfl) zAd zw,lI 0 hp (mq 1 rfl) zw,zC hp zTl zi zi fun v v' w h h'=>zT9 HhC.out HhP.out Hhn.out h h' HsP.out,zS,zS,zS,aS hp (mq 0 rfl) zAu zB0,sS 4 hp (mq 0 rfl) zAo,zS,tv⟩) ?_
 intro w4 b4_6 E _ _
 simp only [Z1] at E ⊢
 go_upto_region 2 with (fail)
 refine rz [.w (f3 ((pzF D P n).a) ((pzF D P n).b) ((pzF D P n).c)),.i 0,.w (Fq.st [.n ((pzF D P n).a),.n ((pzF D P n).b),.n ((pzF D P n).c),.v (.int .i64 0)]),.a] [none,some (3,Fq.st [.n ((pzF D P n).a),.n ((pzF D P n).b),.n ((pzF D P n).c),.v (.int .i64 0)]),none,none] [] E (fun hp=>⟨lS 0 6 hp (mq 0 rfl) zAd zw,zS,zM0 (u1:=0) (z0_0:=(pzF D P n).a) (z0_1:=(pzF D P n).b) (z0_2:=(pzF D P n).c) hp fo tv (sqi 0) (sqi 1) (fun v w h=>h),sO 0 2 hp (mq 1 rfl) zE2 zw,tv⟩) ?_
 intro w5 E _ _
 simp only [Z1] at E ⊢
 clear HhC hC HhP hP Hhn hn HsP sP
 obtain ⟨_,_,hc0,hf0⟩:=zAy (E.box 1 rfl)
 have hP0:=hf0
 obtain ⟨r0_p0,r0_q0,_,rfl,_r0_n0,r0_p1,r0_q1,_,rfl,_r0_n1,r0_p2,r0_q2,_,rfl,_r0_n2,_,rfl,_,rfl⟩:=hf0
 have c0_0:=hc0 0 (by simp)
 have c0_1:=hc0 1 (by simp)
 have c0_2:=hc0 2 (by simp)
 have c0_3:=hc0 3 (by simp)
 have c0_4:=hc0 4 (by simp)
 have c0_5:=hc0 5 (by simp)
 have c0_6:=hc0 6 (by simp)
 simp only [List.getD_cons_zero,List.getD_cons_succ] at c0_0 c0_1 c0_2 c0_3 c0_4 c0_5 c0_6
 clear hc0
 go_wp2
 exact zR (v:=.agg #[r0_p0,r0_q0,r0_p1,r0_q1,r0_p2,r0_q2,.int .i64 0]) (by simp [results,Tryz.results17,go_sem,c0_0,c0_1,c0_2,c0_3,c0_4,c0_5,c0_6]) E.below ⟨_,rfl,hP0⟩

def F3.zero:F3:=⟨0,0,0⟩

theorem zPb {w:World} {v:Value} {d k er:Int} {R:F3} (h:Num w v d) (hO:∀ (w1:World) (x:Value),Below w.heap.size w w1→Num w1 x d→Calls Tryz.prog 93 #[x,.int .i64 k] w1 fun e' w'=>∃ v',e'=.returned v'∧Below w1.heap.size w1 w'∧(Fq.tup2 (f3 R.a R.b R.c) (Fq.is (.int .i64 er))).P v' w') :
  Rt 41 #[v,.int .i64 k] w fun v' w'=>(Fq.st [.n R.a,.n R.b,.n R.c,.v (.int .i64 er)]).P v' w':=by
 have HhO:=hidd hO
 obtain ⟨n0,ao0,k0,c0,rfl⟩:=h.parts
 obtain ⟨w1,b1,hw1,hb1,hs1,E⟩:=gN w 36 h
 obtain ⟨w2,b2,hw2,hb2,hs2,E⟩:=fO E hs1 48 zEk
 go_enter Tryz.func41,Tryz.ntmps41
 go_upto_region 1 with (fail)
 rw [← hw1,← hw2]
 rw [← hb2,← hb1]
 clear hw1 hw2 hb1 hb2 hs2 hs1
 refine rz [.n d,.i k,.w (Fq.tup2 (f3 R.a R.b R.c) (Fq.is (.int .i64 er))),.w (Fq.tup2 (f3 R.a R.b R.c) (Fq.is (.int .i64 er))),.w (f3 R.a R.b R.c),.i er,.k,.a,.i er] N2 [⟨6,7,6,f3 0 0 0,f3 R.a R.b R.c,none⟩] E (fun hp=>⟨lI 0 hp (mq 1 rfl) zw,zS,zDz (F:=(Fq.num d).P) (G:=(Fq.is (.int .i64 k)).P) hp fo tv (zTm) rfl (sqi 0) (sqi 1) (fun v v' w hbw h h'=>(by subst h';exact HhO.out _ _ hbw h)),zS,zS,zS,aS hp (mq 0 rfl) zAu zB0,sS 4 hp (mq 0 rfl) zAo,zS,tv⟩) ?_
 intro w3 b3_6 E _ _
 simp only [Z1] at E ⊢
 go_upto_region 2 with (fail)
 refine rz [.w (f3 R.a R.b R.c),.i er,.w (Fq.st [.n R.a,.n R.b,.n R.c,.v (.int .i64 er)]),.a] [none,some (3,Fq.st [.n R.a,.n R.b,.n R.c,.v (.int .i64 er)]),none] [] E (fun hp=>⟨lS 0 6 hp (mq 0 rfl) zAd zw,zS,zM0 (u1:=er) (z0_0:=R.a) (z0_1:=R.b) (z0_2:=R.c) hp fo tv (sqi 0) (sqi 1) (fun v w h=>h),sO 0 2 hp (mq 1 rfl) zE2 zw,tv⟩) ?_
 intro w4 E _ _
 simp only [Z1] at E ⊢
 clear HhO hO
 obtain ⟨_,_,hc0,hf0⟩:=zAy (E.box 1 rfl)
 have hP0:=hf0
 obtain ⟨r0_p0,r0_q0,_,rfl,_r0_n0,r0_p1,r0_q1,_,rfl,_r0_n1,r0_p2,r0_q2,_,rfl,_r0_n2,_,rfl,_,rfl⟩:=hf0
 have c0_0:=hc0 0 (by simp)
 have c0_1:=hc0 1 (by simp)
 have c0_2:=hc0 2 (by simp)
 have c0_3:=hc0 3 (by simp)
 have c0_4:=hc0 4 (by simp)
 have c0_5:=hc0 5 (by simp)
 have c0_6:=hc0 6 (by simp)
 simp only [List.getD_cons_zero,List.getD_cons_succ] at c0_0 c0_1 c0_2 c0_3 c0_4 c0_5 c0_6
 clear hc0
 go_wp2
 exact zR (v:=.agg #[r0_p0,r0_q0,r0_p1,r0_q1,r0_p2,r0_q2,.int .i64 er]) (by simp [results,Tryz.results41,go_sem,c0_0,c0_1,c0_2,c0_3,c0_4,c0_5,c0_6]) E.below ⟨_,rfl,hP0⟩

theorem exGIs {w:World} {v v':Value} {P Q:F3} (h:(Fq.st [.n P.a,.n P.b,.n P.c,.v (.int .i64 0)]).P v w) (h':(f3 Q.a Q.b Q.c).P v' w) (he:eqF P.a P.b P.c Q.a Q.b Q.c=true) :
  Rt 32 #[v,v'] w fun v' w'=>v'=.bool true:=by
 have HE:=hidd he
 clear he
 obtain ⟨_,rfl,hf0⟩:=h
 have hF0:=hf0
 obtain ⟨y0_p0,y0_q0,_,rfl,_y0_n0,y0_p1,y0_q1,_,rfl,_y0_n1,y0_p2,y0_q2,_,rfl,_y0_n2,_,rfl,_,rfl⟩:=hf0
 obtain ⟨y1_p0,y1_q0,y1_p1,y1_q1,y1_p2,y1_q2,rfl,hF1⟩:=o3 h'
 obtain ⟨w1,b1,hw1,hb1,hs1,E⟩:=gS w 48 hF0
 obtain ⟨w2,b2,hw2,hb2,hs2,E⟩:=fS E hs1 38 hF1
 go_enter Tryz.func32,Tryz.ntmps32
 go_upto_region 1 with (fail)
 rw [← hw1,← hw2]
 rw [← hb2,← hb1]
 clear hw1 hw2 hb1 hb2 hs2 hs1
 refine rz [.p b1 6,.i 0,.t,.t,.p b1 0,.w (f3 P.a P.b P.c),.w (f3 Q.a Q.b Q.c),.t,.t,.t] N2 [] E (fun hp=>⟨qa b1 0 6 hp zw,wXc 6 hp (mq 1 rfl) zi,zo hp (sqi 1),zS,zg b1 0 0 hp zw,lG 0 6 hp gqi (mq 1 rfl) zAd zi fun v w h=>h,lG 0 6 hp gqi (mq 0 rfl) zAd zw fun v w h=>h,zC hp zFj zi zi (fun v v' w h h'=>zFk h h' HE.out),zt hp (sqi 3) (sqi 7),zS,tv⟩) ?_
 intro w3 E _ _
 simp only [Z1] at E ⊢
 clear HE
 go_wp2
 exact zR (v:=.bool true) (by simp [results,Tryz.results32,go_sem]) E.below rfl

theorem zGs {D:Int} {P Q:F3} (hD:D<0) (hP:Sc D P) (hQ:Sc D Q):cmF P.a P.b P.c Q.a Q.b Q.c=mulF D P Q∧cmE P.a P.b P.c Q.a Q.b Q.c=0:=by
 have e1:=zGj hP hD
 have e2:=zGj hQ hD
 have e3:cmE P.a P.b P.c Q.a Q.b Q.c=0:=by unfold cmE;rw [if_pos e1,if_pos e2,if_pos (by rw [hP.disc,hQ.disc])]
 refine ⟨?_,e3⟩
 unfold cmF
 rw [if_pos e3,hP.disc]
theorem cm_no {P Q:F3} {er:Int} (h:cmE P.a P.b P.c Q.a Q.b Q.c=er) (h0:¬ er=0):cmF P.a P.b P.c Q.a Q.b Q.c=F3.zero:=by
 unfold cmF
 rw [if_neg (by rw [h];exact h0)]
 rfl
def e1F:F3:=⟨1,1,6⟩
def e2F:F3:=⟨2,1,3⟩
def e3F:F3:=⟨2,-1,3⟩
theorem e1_gm:Gm (-23) e1F:=zEd (D:=-23) zd zd
theorem e2_gm:Gm (-23) e2F:=⟨⟨by decide,by decide,zMs (show cont 2 1 3=1 by decide)⟩,⟨by decide,by decide,by decide,by decide,by decide⟩⟩
theorem e3_gm:Gm (-23) e3F:=⟨⟨by decide,by decide,zMs (show cont 2 (-1) 3=1 by decide)⟩,⟨by decide,by decide,by decide,by decide,by decide⟩⟩
theorem e_sm:Sm e1F∧Sm e2F∧Sm e3F:=⟨⟨by decide,by decide,by decide⟩,⟨by decide,by decide,by decide⟩,⟨by decide,by decide,by decide⟩⟩
theorem e_22:mulF (-23) e2F e2F=e3F:=by
 obtain ⟨c1,c2⟩:=zQ9 (D:=-23) (a:=2) (b:=1) (c:=3) (a':=2) (b':=1) (c':=3) (h:=2) (x:=0) (y:=1) (e:=1) (u:=0) (z:=1) e2_gm.1 e2_gm.1 zd zd zd zd zd zd zd
 have q1:((2:Int)*2/(1*1))=4:=by decide
 have q2:(((0:Int)*0*2*1+0*1*2*1+1*((1*1+-23)/2))/1)=-11:=by decide
 have q3:(((-11:Int)*-11 - -23)/(4*4))=9:=by decide
 rw [q1,q2] at c1 c2
 rw [q3] at c2
 exact zH4 zd e2_gm.1 e2_gm.1 ⟨e3_gm.2,⟨4,-11,9⟩,c2,c1,⟨_,_,_,_,und_e22⟩⟩
theorem e_23:mulF (-23) e2F e3F=e1F:=zMj zd zd e2_gm.1
theorem e_33:mulF (-23) e3F e3F=e2F:=by
 have h1:=zEo (D:=-23) zd e2_gm.1 e2_gm.1 e3_gm.1
 rw [e_22,e_23] at h1
 rw [h1]
 exact zEq zd zd e2_gm
theorem e_11:mulF (-23) e1F e1F=e1F:=zEq zd zd e1_gm
theorem e_ord:Ord (-23) e2F 3:=by
 have p1:pwF (-23) e2F 1=e2F:=zKi zd zd e2_gm
 have p2:pwF (-23) e2F 2=e3F:=by show mulF (-23) (pwF (-23) e2F 1) e2F=e3F;rw [p1,e_22]
 have p3:pwF (-23) e2F 3=e1F:=by show mulF (-23) (pwF (-23) e2F 2) e2F=e1F;rw [p2,zMf zd e3_gm.1 e2_gm.1,e_23]
 have n2:e2F≠onF (-23):=fun e=>by have:=congrArg F3.a e;revert this;decide
 have n3:e3F≠onF (-23):=fun e=>by have:=congrArg F3.a e;revert this;decide
 refine ⟨by decide,p3,fun j h1 h2=>?_⟩
 have:j=1∨j=2:=by omega
 rcases this with rfl | rfl
 ·rw [p1];exact n2
 ·rw [p2];exact n3
theorem e_four:¬ pwF (-23) e2F 4=onF (-23):=fun e=>by
 have:=(e_ord.iff zd zd e2_gm.1 4).1 e
 revert this
 decide
theorem e_inv:pzF (-23) e2F (-1)=e3F:=zKi (D:=-23) (P:=e3F) zd zd e3_gm
theorem e_roots:[e1F,e2F,e3F].filter (rtB (rdF e2F))=[e3F]:=by
 have h2:rdF e2F=e2F:=rdF_gm (D:=-23) zd e2_gm e_sm.2.1
 have r1:rtB e2F e1F=false:=by
  unfold rtB
  rw [show e1F.b*e1F.b-4*(e1F.a*e1F.c)=-23 from rfl,e_11]
  rfl
 have r2:rtB e2F e2F=false:=by
  unfold rtB
  rw [show e2F.b*e2F.b-4*(e2F.a*e2F.c)=-23 from rfl,e_22]
  simp [eqF,e3F,e2F]
 have r3:rtB e2F e3F=true:=by
  unfold rtB
  rw [show e3F.b*e3F.b-4*(e3F.a*e3F.c)=-23 from rfl,e_33,zGj e3_gm.1 zd]
  rfl
 rw [h2]
 simp [List.filter,r1,r2,r3]
theorem kron_2_5:kron 2 5=-1:=by
 unfold kron
 rw [if_neg zd,if_neg zd]
 show 1*kro 2 5=-1
 rw [zL5 zd,J_two zd]
 decide
theorem nbits_two:zBb 2=2:=by
 unfold zBb
 rw [if_neg zd]
 decide
theorem least5:Least 5 5:=⟨by decide,by decide,fun q h1 h2=>by (have:q=2∨q=3∨q=4:=by omega);rcases this with rfl | rfl | rfl <;> decide⟩
theorem least3:Least 3 3:=⟨by decide,by decide,fun q h1 h2=>by (have:q=2:=by omega);subst this;decide⟩
theorem ab90 {x:Int} (h:-9223372036854775808≤x) (h':x≤9223372036854775807):ab x<pw 90:=Int.lt_of_lt_of_le (zAs h h') (zAa zm)
theorem exPrime5 {w:World} {v:Value} (hT:Tabs w) (h:Num w v (-23)):Calls Tryz.prog 93 #[v,.int .i64 5] w fun e w'=>∃ v',e=.returned v'∧Below w.heap.size w w'∧(Fq.tup2 (f3 F3.zero.a F3.zero.b F3.zero.c) (Fq.is (.int .i64 6))).P v' w':=
 zUc (pp:=5) (F:=F3.zero) h (zAs zd zd) zd zd zd zd least5 fun w1 x x' hb hx hx'=>
  zT7 hx hx' (zAs zd zd) (zAs zd zd) (e:=6) (z:=0) zd fun w2 y y' hb2 hy hy'=>
   exMSqrtN hy hy' (ab90 zd zd) (ab90 zd zd) ((hT.mono hb).mono hb2) zd (by show 1<zBb 2;rw [nbits_two];decide) (by show kron 2 5≠1;rw [kron_2_5];decide)
theorem rd312:rdF ⟨3,1,2⟩=e3F:=by
 have s:Sm ⟨3,1,2⟩:=⟨by decide,by decide,by decide⟩
 have hs:Sc (-23) ⟨3,1,2⟩:=⟨by decide,by decide,zMs (show cont 3 1 2=1 by decide)⟩
 obtain ⟨h1,h2⟩:=zIk zd hs s
 exact zKn (P:=⟨3,1,2⟩) ⟨0,-1,1,0,by decide,by decide,by decide,by decide⟩ h2 e3_gm.2 h1.2
theorem exPrime3 {w:World} {v:Value} (h:Num w v (-23)):Calls Tryz.prog 93 #[v,.int .i64 3] w fun e w'=>∃ v',e=.returned v'∧Below w.heap.size w w'∧(Fq.tup2 (f3 e3F.a e3F.b e3F.c) (Fq.is (.int .i64 0))).P v' w':=by
 have hh:=zUd (pp:=3) (F:=⟨3,1,2⟩) h (zAs zd zd) zd zd zd zd least3 ⟨by decide,by decide,by decide⟩ zd zd fun w1 x x' hb hx hx'=>
  zT8 (r:=1) hx hx' (zAs zd zd) (zAs zd zd) (zAs zd zd) zd fun w2 y y' hb2 hy hy'=>
   exMSqrtS hy hy' (ab90 zd zd) (ab90 zd zd) zd (by show zBb 1≤1;decide)
 rw [rd312] at hh
 exact hh

section
variable {os : List Oper} {Q : Exit → Act → World → Prop} {a : Act} {p : Pq} {B B0 : Nat} {w0 : World}
variable {i s : Nat} {d : Option Tmp} {ty : TypeId} {ps : String} {af : Array Edge} {gd : Option (Nat × Bool)}
theorem zWq {n0:Nb} {o1:Operand} {f1:List Fd} (hp:p.Ok B B0) (hg:GdQ os a p B B0 w0 af gd) (hi:n0∈p.new) (hii:n0.i=i) (hki:n0.k=i) (hsl:n0.s=some 1) (hm:n0.m=6) (hF1:n0.F1=Fq.st f1) (l1:sz f1=6)
  (g1:SrcQ os a p B B0 w0 af o1 (Fq.st f1).P)
  (hC:∀ v w',(p.c i).P v w') (h1:∀ o∈p.old,o.k≠i) (h2:∀ n∈p.new,n.i≠i→n.k≠i) :
  zAg os Q a p B B0 w0 i { dst:=d,op:=.buildSlice 54 1 #[(0,o1)],type:=ty,pos:=ps,after:=af,guard:=gd }:=by
 intro hio L vs w hG hL hd hc
 obtain ⟨us1,E1,z1⟩:=g1 L vs w hG hd
 have y1:=z1.length
 rw [l1] at y1
 obtain ⟨c1a,c1b,c1c,c1d,c1e,c1f,rfl⟩:=sixQ y1
 obtain ⟨us,hus⟩:∃ us:List Value,us=[c1a,c1b,c1c,c1d,c1e,c1f]:=⟨_,rfl⟩
 refine wpOp_step hio fun K' hK=>?_
 rw [if_pos (zGn (o:={ dst:=d,op:=.buildSlice 54 1 #[(0,o1)],type:=ty,pos:=ps,after:=af,guard:=gd }) hg hG hd)]
 have e:(execOp (lay os.toArray L vs os.toArray.size a).eval ({ dst:=d,op:=.buildSlice 54 1 #[(0,o1)],type:=ty,pos:=ps,after:=af,guard:=gd }:Oper)).run Tryz.prog w=.ok (.value (.slice (some ⟨w.heap.size,0,none⟩) 1 1)) (w.alloc (.cells us.toArray 38)):=by
  generalize (lay os.toArray L vs os.toArray.size a).eval=ρ at E1
  simp [execOp,go_sem,E1,hus]
 unfold Oper.wp
 rw [e]
 have hb:=zAh w (.cells us.toArray 38)
 have hfit:Fits w f1 us:=by rw [hus];exact z1
 subst hii
 have hnow:n0.now (up L n0.i true)=n0.F1:=by
  unfold Nb.now
  rw [hsl]
  rfl
 have hlay:=hG.lay hp hi (F:=n0.F1) hnow hC h1 h2 38 (us:=us) (by rw [hus,hm];rfl) zm hfit.tame (by rw [hF1];exact ⟨us,rfl,hfit.mono hb⟩)
 have hptr:n0.ptr w.heap.size=.slice (some ⟨w.heap.size,0,none⟩) 1 1:=by unfold Nb.ptr;rw [hsl]
 rw [hptr] at hlay
 exact hK _ _ ⟨_,rfl,hlay⟩
end
def eDF:F3:=⟨1,0,1⟩
def ePF:F3:=⟨2,0,2⟩
theorem e_all:∀ Q ∈ [e1F,e2F,e3F],Sm Q:=by
 intro Q hQ
 simp at hQ
 rcases hQ with rfl | rfl | rfl
 ·exact e_sm.1
 ·exact e_sm.2.1
 ·exact e_sm.2.2
theorem exRoots23 {w:World} {v vl:Value} (h:(f3 e2F.a e2F.b e2F.c).P v w) (hl:Fl w vl [e1F,e2F,e3F]):Calls Tryz.prog 21 #[v,vl] w fun e w'=>∃ v1 B,e=.returned (.tuple #[v1,.int .i64 0])∧Below w.heap.size w w'∧w.heap.size≤B∧Ls 38 6 w' B v1 (([e1F,e2F,e3F].filter (rtB (rdF e2F))).map frF):=
 zUh h e_sm.2.1 e2_gm.1 zd hl zd e_all
theorem e_odd:cmE e2F.a e2F.b e2F.c eDF.a eDF.b eDF.c=5:=by decide
theorem e_prim:cmE ePF.a ePF.b ePF.c e2F.a e2F.b e2F.c=80:=by decide
theorem zUl (w:World) (hT:Tabs w) :
  Rt 9 #[] w fun v' w'=>v'=.bool true:=by
 have HT:=hidd hT
 obtain ⟨i0,hi,hz0,hz1,hz2⟩:=info_parts zL3
 clear hi hz0 hz1 hz2 i0
 go_enter Tryz.func9,Tryz.ntmps9
 go_upto_region 1 with (fail)
 have E:=Fr.start w
 refine rz [.w (f3 e1F.a e1F.b e1F.c),.w (f3 e2F.a e2F.b e2F.c),.w (f3 e3F.a e3F.b e3F.c),.k,.k,.k,.a,.a,.a] [] [⟨3,6,6,f3 0 0 0,f3 e1F.a e1F.b e1F.c,none⟩,⟨4,7,6,f3 0 0 0,f3 e2F.a e2F.b e2F.c,none⟩,⟨5,8,6,f3 0 0 0,f3 e3F.a e3F.b e3F.c,none⟩] E (fun hp=>⟨zEx (F:=(Fq.is (.int .i64 1)).P) (G:=(Fq.is (.int .i64 1)).P) (F3:=(Fq.is (.int .i64 6)).P) hp fo tv (zGv) (zAk (fun _=>rfl)) (zAk (fun _=>rfl)) (zAk (fun _=>rfl)) (fun v v' u w h h' g=>(by subst h h' g;exact zG2 zd zd zd)),zEx (F:=(Fq.is (.int .i64 2)).P) (G:=(Fq.is (.int .i64 1)).P) (F3:=(Fq.is (.int .i64 3)).P) hp fo tv (zGv) (zAk (fun _=>rfl)) (zAk (fun _=>rfl)) (zAk (fun _=>rfl)) (fun v v' u w h h' g=>(by subst h h' g;exact zG2 zd zd zd)),zEx (F:=(Fq.is (.int .i64 2)).P) (G:=(Fq.is (.int .i64 (-1))).P) (F3:=(Fq.is (.int .i64 3)).P) hp fo tv (zGv) (zAk (fun _=>rfl)) (zAk (fun _=>rfl)) (zAk (fun _=>rfl)) (fun v v' u w h h' g=>(by subst h h' g;exact zG2 zd zd zd)),aS hp (mq 0 rfl) zAu zB0,aS hp (mq 1 rfl) zAu zB0,aS hp (mq 2 rfl) zAu zB0,sS 0 hp (mq 0 rfl) zAo,sS 1 hp (mq 1 rfl) zAo,sS 2 hp (mq 2 rfl) zAo,tv⟩) ?_
 intro w1 b1_3 b1_4 b1_5 E _ _
 simp only [Z1] at E ⊢
 go_upto_region 2 with (fail)
 refine rz [.w (f3 e2F.a e2F.b e2F.c),.w (Fq.tup2 (Fq.is (.int .i64 ((3:Nat):Int))) (Fq.is (.int .i64 0))),.w (Fq.tup2 (Fq.is (.int .i64 ((3:Nat):Int))) (Fq.is (.int .i64 0))),.i ((3:Nat):Int),.i 0,.i ((3:Nat):Int),.i 0] N3 [] E (fun hp=>⟨lS 0 6 hp (mq 1 rfl) zAd zw,zDl (F:=(f3 e2F.a e2F.b e2F.c).P) (G:=(Fq.is (.int .i64 6)).P) hp fo tv (zJk) (sqi 0) (zAk (fun _=>rfl)) (fun v v' w h h'=>(by subst h';exact zLp (hh:=6) (o:=3) h e_sm.2.1 e2_gm.1 (GC.of zd zd) zd zd e_ord zd)),zS,zS,zS,zS,zS,tv⟩) ?_
 intro w2 E _ _
 simp only [Z1] at E ⊢
 go_upto_region 3 with (fail)
 refine rz [.w (f3 e2F.a e2F.b e2F.c),.w (Fq.tup2 (Fq.is (.int .i64 0)) (Fq.is (.int .i64 1))),.w (Fq.tup2 (Fq.is (.int .i64 0)) (Fq.is (.int .i64 1))),.i 0,.i 1,.i 0,.i 1] N3 [] E (fun hp=>⟨lS 0 6 hp (mq 1 rfl) zAd zw,zDl (F:=(f3 e2F.a e2F.b e2F.c).P) (G:=(Fq.is (.int .i64 4)).P) hp fo tv (zJk) (sqi 0) (zAk (fun _=>rfl)) (fun v v' w h h'=>(by subst h';exact zT6 (hh:=4) h e_sm.2.1 e2_gm.1 (GC.of zd zd) zd zd e_four)),zS,zS,zS,zS,zS,tv⟩) ?_
 intro w3 E _ _
 simp only [Z1] at E ⊢
 go_upto_region 4 with (fail)
 refine wp_region_list ?_
 refine zGo rfl 38 (.tmp 2) rfl zAd rfl rfl (StAt.of_boxQ (E.box 1 rfl)) fun v0 hv0=>?_
 obtain ⟨es0,rfl,hf0⟩:=hv0
 have hl0:=hf0.length
 obtain ⟨p0a,p0b,p0c,p0d,p0e,p0f,rfl⟩:=sixQ hl0
 clear hl0
 refine zGo rfl 38 (.tmp 1) rfl zAd rfl rfl (StAt.of_boxQ (E.box 0 rfl)) fun v1 hv1=>?_
 obtain ⟨es1,rfl,hf1⟩:=hv1
 have hl1:=hf1.length
 obtain ⟨p1a,p1b,p1c,p1d,p1e,p1f,rfl⟩:=sixQ hl1
 clear hl1
 refine zGo rfl 38 (.tmp 2) rfl zAd rfl rfl (StAt.of_boxQ (E.box 1 rfl)) fun v2 hv2=>?_
 obtain ⟨es2,rfl,hf2⟩:=hv2
 have hl2:=hf2.length
 obtain ⟨p2a,p2b,p2c,p2d,p2e,p2f,rfl⟩:=sixQ hl2
 clear hl2
 refine zGo rfl 38 (.tmp 3) rfl zAd rfl rfl (StAt.of_boxQ (E.box 2 rfl)) fun v3 hv3=>?_
 obtain ⟨es3,rfl,hf3⟩:=hv3
 have hl3:=hf3.length
 obtain ⟨p3a,p3b,p3c,p3d,p3e,p3f,rfl⟩:=sixQ hl3
 clear hl3
 have hf5:Fits w3 (rowQ [e1F,e2F,e3F]) [p1a,p1b,p1c,p1d,p1e,p1f,p2a,p2b,p2c,p2d,p2e,p2f,p3a,p3b,p3c,p3d,p3e,p3f]:=hf1.append (hf2.append hf3)
 have HFV:Hid ((f3 e2F.a e2F.b e2F.c).P (.agg #[p0a,p0b,p0c,p0d,p0e,p0f]) w3):=⟨_,rfl,hf0⟩
 have HF5:=hidd hf5
 clear hf0 hf1 hf2 hf3 hf5
 go_upto_region 5 with (first | (go_at_call 21;(with_reducible refine (exRoots23 ((Fq.st _).mono HFV.out (zAh _ _)) (Fl.built (n:=3) (Ps:=[e1F,e2F,e3F]) rfl HF5.out zd)).mono ?_);rintro e w9 ⟨vL,BL,rfl,hBW,hBs,hLs⟩) | fail)
 have hfl:=hLs.fl
 rw [e_roots] at hfl
 have HFL:=hidd hfl
 have EE:=E.mono ((zAh _ _).trans (hBW.mono (zAh _ _).size))
 clear hLs hfl hBs hBW HFV HF5 E
 have HO1:Hid (∀ w1,Below w9.heap.size w9 w1→StAt w1 b1_3 0 [.n e1F.a,.n e1F.b,.n e1F.c]):=fun w1 hb1=>(EE.box 0 rfl).stAt hb1
 have HO2:Hid (∀ w1,Below w9.heap.size w9 w1→StAt w1 b1_4 0 [.n e2F.a,.n e2F.b,.n e2F.c]):=fun w1 hb1=>(EE.box 1 rfl).stAt hb1
 have HO3:Hid (∀ w1,Below w9.heap.size w9 w1→StAt w1 b1_5 0 [.n e3F.a,.n e3F.b,.n e3F.c]):=fun w1 hb1=>(EE.box 2 rfl).stAt hb1
 have HB0:=hidd EE.below
 have HT9:=hidd (HT.out.mono EE.below)
 clear HT EE
 have HT:=HT9
 clear HT9
 have E:=Fr.start w9
 refine rz [.n (-23),.w (Fq.st [.n F3.zero.a,.n F3.zero.b,.n F3.zero.c,.v (.int .i64 6)]),.k,.a] [] [⟨2,3,7,Fq.st [.n 0,.n 0,.n 0,.v (.int .i64 0)],Fq.st [.n F3.zero.a,.n F3.zero.b,.n F3.zero.c,.v (.int .i64 6)],none⟩] E (fun hp=>⟨zBn (F:=(Fq.is (.int .i64 (-23))).P) hp fo tv (zCy) (zAk (fun _=>rfl)) (fun v w h=>(by subst h;exact rOfK w (-23) zm zm)),zDz (F:=(Fq.num (-23)).P) (G:=(Fq.is (.int .i64 5)).P) hp fo tv (zOl) rfl (sqi 0) (zAk (fun _=>rfl)) (fun v v' w hbw h h'=>(by subst h';exact zPb h fun w1 x hb1 hx=>exPrime5 ((HT.out.mono hbw).mono hb1) hx)),aS hp (mq 0 rfl) zEk zHa,sS 1 hp (mq 0 rfl) zE2,tv⟩) ?_
 intro w4 b4_2 E _ _
 simp only [Z1] at E ⊢
 go_upto_region 6 with (fail)
 refine rz [.w (f3 e2F.a e2F.b e2F.c),.w (f3 eDF.a eDF.b eDF.c),.w (Fq.st [.n F3.zero.a,.n F3.zero.b,.n F3.zero.c,.v (.int .i64 5)]),.k,.a] [none] [⟨3,4,7,Fq.st [.n 0,.n 0,.n 0,.v (.int .i64 0)],Fq.st [.n F3.zero.a,.n F3.zero.b,.n F3.zero.c,.v (.int .i64 5)],none⟩] E (fun hp=>⟨zCi (off:=0) (l:=6) (fs:=[.n e2F.a,.n e2F.b,.n e2F.c]) hp fo tv HO2.out zAd rfl (sqo 2) (fun v w h=>h),zEx (F:=(Fq.is (.int .i64 1)).P) (G:=(Fq.is (.int .i64 0)).P) (F3:=(Fq.is (.int .i64 1)).P) hp fo tv (zGv) (zAk (fun _=>rfl)) (zAk (fun _=>rfl)) (zAk (fun _=>rfl)) (fun v v' u w h h' g=>(by subst h h' g;exact zG2 zd zd zd)),zC hp zGt zi zi fun v v' w h h'=>zHx h h' e_sm.2.1 ⟨by decide,by decide,by decide⟩ (cm_no e_odd zd) e_odd,aS hp (mq 0 rfl) zEk zHa,sS 2 hp (mq 0 rfl) zE2,tv⟩) ?_
 intro w5 b5_3 E _ _
 simp only [Z1] at E ⊢
 go_upto_region 7 with (fail)
 refine rz [.i 0,.o,.o,.i ((3:Nat):Int),.o,.o,.o,.i 1,.o,.o,.o,.i 0,.o,.o,.o,.p b4_2 6,.i 6,.o,.o,.o,.p b5_3 6,.i 5,.o,.o,.o,.w (f3 ePF.a ePF.b ePF.c),.w (f3 e2F.a e2F.b e2F.c),.w (Fq.st [.n F3.zero.a,.n F3.zero.b,.n F3.zero.c,.v (.int .i64 80)]),.i 80,.o,.o] N2 [] E (fun hp=>⟨zS,zo hp (sqi 0),zS,zAj hp fo gqi (sqo 4),zo hp (sqi 3),zt hp (sqi 2) (sqi 4),zS,zAj hp fo gqi (sqo 7),zo hp (sqi 7),zt hp (sqi 6) (sqi 8),zS,zAj hp fo gqi (sqo 9),zo hp (sqi 11),zt hp (sqi 10) (sqi 12),zS,zg b4_2 0 6 hp zw,zFq (off:=6) (fs:=[.n F3.zero.a,.n F3.zero.b,.n F3.zero.c,.v (.int .i64 6)]) (u:=.int .i64 6) hp fo gqi (mq 1 rfl) (.inl rfl) rfl rfl (fun ρ w b h1 h2=>by simp [execOp,go_sem,h1,h2]) (sqi 15) (fun _=>rfl),zo hp (sqi 16),zt hp (sqi 14) (sqi 17),zS,zg b5_3 0 6 hp zw,zFq (off:=6) (fs:=[.n F3.zero.a,.n F3.zero.b,.n F3.zero.c,.v (.int .i64 5)]) (u:=.int .i64 5) hp fo gqi (mq 0 rfl) (.inl rfl) rfl rfl (fun ρ w b h1 h2=>by simp [execOp,go_sem,h1,h2]) (sqi 20) (fun _=>rfl),zo hp (sqi 21),zt hp (sqi 19) (sqi 22),zS,zEx (F:=(Fq.is (.int .i64 2)).P) (G:=(Fq.is (.int .i64 0)).P) (F3:=(Fq.is (.int .i64 2)).P) hp fo gqi (zGv) (zAk (fun _=>rfl)) (zAk (fun _=>rfl)) (zAk (fun _=>rfl)) (fun v v' u w h h' g=>(by subst h h' g;exact zG2 zd zd zd)),zCi (off:=0) (l:=6) (fs:=[.n e2F.a,.n e2F.b,.n e2F.c]) hp fo gqi HO2.out zAd rfl (sqo 2) (fun v w h=>h),zC hp zGt zi zi (fun v v' w h h'=>zHx h h' ⟨by decide,by decide,by decide⟩ e_sm.2.1 (cm_no e_prim zd) e_prim),q_gotErr (a0:=F3.zero.a) (b0:=F3.zero.b) (c0:=F3.zero.c) (e0:=80) hp fo gqi (sqi 27) (fun _=>rfl),zo hp (sqi 28),zt hp (sqi 24) (sqi 29),tv⟩) ?_
 intro w6 E _ _
 simp only [Z1] at E ⊢
 go_upto_region 9 with (fail)
 refine rz [.w (f3 e2F.a e2F.b e2F.c),.w (f3 e2F.a e2F.b e2F.c),.w (Fq.st [.n e3F.a,.n e3F.b,.n e3F.c,.v (.int .i64 0)]),.w (f3 e3F.a e3F.b e3F.c),.t,.t,.w (f3 e2F.a e2F.b e2F.c),.w (f3 e3F.a e3F.b e3F.c),.w (Fq.st [.n e1F.a,.n e1F.b,.n e1F.c,.v (.int .i64 0)]),.w (f3 e1F.a e1F.b e1F.c),.t,.t,.t,.w (f3 e2F.a e2F.b e2F.c),.n (-1),.w (Fq.st [.n e3F.a,.n e3F.b,.n e3F.c,.v (.int .i64 0)]),.w (f3 e3F.a e3F.b e3F.c),.t,.t,.t,.n (-23),.w (Fq.st [.n e3F.a,.n e3F.b,.n e3F.c,.v (.int .i64 0)]),.w (f3 e3F.a e3F.b e3F.c),.t,.t,.t,.u (vL),.w (f3 e3F.a e3F.b e3F.c),.k,.t,.t,.t] N2 [⟨28,28,6,f3 e3F.a e3F.b e3F.c,f3 e3F.a e3F.b e3F.c,(some 1)⟩] E (fun hp=>⟨zCi (off:=0) (l:=6) (fs:=[.n e2F.a,.n e2F.b,.n e2F.c]) hp fo tv HO2.out zAd rfl (sqo 2) (fun v w h=>h),zCi (off:=0) (l:=6) (fs:=[.n e2F.a,.n e2F.b,.n e2F.c]) hp fo tv HO2.out zAd rfl (sqo 2) (fun v w h=>h),zC hp zGt zi zi fun v v' w h h'=>zHx h h' e_sm.2.1 e_sm.2.1 ((zGs zd e2_gm.1 e2_gm.1).1.trans e_22) (zGs zd e2_gm.1 e2_gm.1).2,zCi (off:=0) (l:=6) (fs:=[.n e3F.a,.n e3F.b,.n e3F.c]) hp fo tv HO3.out zAd rfl (sqo 3) (fun v w h=>h),zC hp zHr zi zi fun v v' w h h'=>exGIs h h' zd,zS,zCi (off:=0) (l:=6) (fs:=[.n e2F.a,.n e2F.b,.n e2F.c]) hp fo gqi HO2.out zAd rfl (sqo 2) (fun v w h=>h),zCi (off:=0) (l:=6) (fs:=[.n e3F.a,.n e3F.b,.n e3F.c]) hp fo gqi HO3.out zAd rfl (sqo 3) (fun v w h=>h),zC hp zGt zi zi (fun v v' w h h'=>zHx h h' e_sm.2.1 e_sm.2.2 ((zGs zd e2_gm.1 e3_gm.1).1.trans e_23) (zGs zd e2_gm.1 e3_gm.1).2),zCi (off:=0) (l:=6) (fs:=[.n e1F.a,.n e1F.b,.n e1F.c]) hp fo gqi HO1.out zAd rfl (sqo 1) (fun v w h=>h),zC hp zHr zi zi (fun v v' w h h'=>exGIs h h' zd),zt hp (sqi 5) (sqi 10),zS,zCi (off:=0) (l:=6) (fs:=[.n e2F.a,.n e2F.b,.n e2F.c]) hp fo gqi HO2.out zAd rfl (sqo 2) (fun v w h=>h),zBn (F:=(Fq.is (.int .i64 (-1))).P) hp fo gqi (zCy) (zAk (fun _=>rfl)) (fun v w h=>(by subst h;exact rOfK w (-1) zm zm)),zC hp zHs zi zi (fun v v' w h h'=>(by have hh9:=zHw (GC.of (D:=-23) zd zd) e2_gm.1 (zAs zd zd |> fun h9=>Int.lt_of_lt_of_le h9 (zAa zm)) e_sm.2.1 h h';rw [e_inv] at hh9;exact hh9)),zCi (off:=0) (l:=6) (fs:=[.n e3F.a,.n e3F.b,.n e3F.c]) hp fo gqi HO3.out zAd rfl (sqo 3) (fun v w h=>h),zC hp zHr zi zi (fun v v' w h h'=>exGIs h h' zd),zt hp (sqi 12) (sqi 17),zS,zBn (F:=(Fq.is (.int .i64 (-23))).P) hp fo gqi (zCy) (zAk (fun _=>rfl)) (fun v w h=>(by subst h;exact rOfK w (-23) zm zm)),zDz (F:=(Fq.num (-23)).P) (G:=(Fq.is (.int .i64 3)).P) hp fo gqi (zOl) rfl (sqi 20) (zAk (fun _=>rfl)) (fun v v' w hbw h h'=>(by subst h';exact zPb h fun w1 x hb1 hx=>exPrime3 hx)),zCi (off:=0) (l:=6) (fs:=[.n e3F.a,.n e3F.b,.n e3F.c]) hp fo gqi HO3.out zAd rfl (sqo 3) (fun v w h=>h),zC hp zHr zi zi (fun v v' w h h'=>exGIs h h' zd),zt hp (sqi 19) (sqi 23),zS,zAj hp fo gqi (sqo 8),zCi (off:=0) (l:=6) (fs:=[.n e3F.a,.n e3F.b,.n e3F.c]) hp fo gqi HO3.out zAd rfl (sqo 3) (fun v w h=>h),zWq (f1:=[.n e3F.a,.n e3F.b,.n e3F.c]) hp gqi (mq 0 rfl) rfl rfl rfl rfl rfl rfl (sqi 27) (fun _ _=>trivial) (zCr rfl) (zDx rfl),q_callWSl (F:=(Fq.is (vL)).P) hp fo gqi zTj rfl (mq 0 rfl) rfl (sqi 26) (zEr rfl rfl (by simp) rfl) (fun v bx w hbw h hbx=>(by subst h;exact zTv (HFL.out.mono hbw) (Fl.ofBox (Ps:=[e3F]) rfl hbx) zd)),zt hp (sqi 25) (sqi 29),zS,tv⟩) ?_
 intro w7 b7_28 E _ _
 simp only [Z1] at E ⊢
 clear HO1 HO2 HO3 HFL HT
 have hB:=HB0.out.trans (E.below.mono HB0.out.size)
 clear HB0
 go_wp2
 refine bodyPost_ret (v:=.bool true) ?_ rfl (by first | exact ⟨_,rfl,hB,rfl⟩ | exact ⟨hB,rfl⟩ | exact ⟨rfl,hB⟩ | exact hB)
 simp [results,Tryz.results9,go_sem]

theorem lift5 {x:Int} (h:ab x<pw 3):ab x<pw 5:=Int.lt_of_lt_of_le h (zAa zm)
theorem MOk.b5 {n:Int} {P:F3} (h:MOk n P):ab P.a<pw 5∧ab P.b<pw 5∧ab P.c<pw 5:=⟨lift5 h.2.2.1.1,lift5 h.2.2.1.2.1,lift5 h.2.2.1.2.2⟩
theorem madeF_sc {n i m:Int} (h0:3≤n) (h1:n≤2004) (h4:n % 4=0∨n % 4=3):Sc (-n) (zFa n i m)∧Sm (zFa n i m):=by
 obtain ⟨j,_,_,hj⟩:=zMq i h0 h1 h4
 have hg:Gm (-n) (zCz n i):=(zP8 h0 h1).1 (List.mem_of_getElem? hj)
 have ok:=zQa (i:=i) (m:=m) h0 h1 h4
 refine ⟨?_,zFx (by have:=ok.2.2.2.1;omega),zFx (by have:=ok.2.2.2.2.1;omega),zFx (by have:=ok.2.2.2.2.2;omega)⟩
 unfold zFa
 split
 ·exact hg.1
 ·exact Eqv.sc (P:=zCz n i) zm ⟨_,_,_,_,by omega,rfl,rfl,rfl⟩ hg.1
theorem zPc {w:World} {v v':Value} {D:Int} {P Q R:F3} (hD:D<0) (hP:Sc D P) (hQ:Sc D Q) (sP:Sm P) (sQ:Sm Q) (hR:mulF D P Q=R) (h:(f3 P.a P.b P.c).P v w) (h':(f3 Q.a Q.b Q.c).P v' w):Calls Tryz.prog 16 #[v,v'] w fun e w'=>∃ v',e=.returned v'∧Below w.heap.size w w'∧(Fq.st [.n R.a,.n R.b,.n R.c,.v (.int .i64 0)]).P v' w':=
 zHx h h' sP sQ ((zGs hD hP hQ).1.trans hR) (zGs hD hP hQ).2
theorem eqF_no {P Q:F3} (h:¬ P=Q):eqF P.a P.b P.c Q.a Q.b Q.c=false:=Bool.eq_false_iff.2 fun e=>h (F3.ext' (eqF_iff.1 e))
theorem zLm {P Q:F3} (h:P=Q):eqF P.a P.b P.c Q.a Q.b Q.c=true:=by rw [h];exact eqF_iff.2 ⟨rfl,rfl,rfl⟩
theorem meas_k {o k k2:Nat} (h:k2=k+1) (h1:k<o):o-(intOf (.int .i64 (k2:Int))).toNat<o-(intOf (.int .i64 (k:Int))).toNat:=by simp [intOf];omega
theorem step_k {k k2:Nat} (h:k2=k+1) (h1:k2≤200):IntKind.i64.wrap ((k:Int)+1)=(k2:Int):=by
 rw [show (k:Int)+1=(k2:Int) by omega]
 exact IntWalk.i64_in _ zm
theorem six_k {o:Nat} (h:o≤200):IntKind.i64.wrap (6*(o:Int))=((6*o:Nat):Int):=by
 rw [show 6*(o:Int)=((6*o:Nat):Int) by omega]
 exact IntWalk.i64_in _ zm
theorem zSq (w:World) (hT:Tabs w) (D i0 i1 i2 i3 m0 m1 m2 m3:Int) (hD:0≤D∧D≤65535) (hi0:0≤i0∧i0≤65535) (hi1:0≤i1∧i1≤65535) (hi2:0≤i2∧i2≤65535) (hi3:0≤i3∧i3≤65535) (hm0:0≤m0∧m0≤255) (hm1:0≤m1∧m1≤255) (hm2:0≤m2∧m2≤255) (hm3:0≤m3∧m3≤255) (n1:Bool) (a1:Option Addr) (k1 c1:Nat) (xs1:List Int) (h1:Sl w a1 k1 c1 xs1) (hk1:k1≤9223372036854775807) (n2:Bool) (a2:Option Addr) (k2 c2:Nat) (xs2:List Int) (h2:Sl w a2 k2 c2 xs2) (hk2:k2≤9223372036854775807) {v:Value} (h:(Fq.st [.v (.int .u16 D),.v (.int .u16 i0),.v (.int .u16 i1),.v (.int .u16 i2),.v (.int .u16 i3),.v (.int .u8 m0),.v (.int .u8 m1),.v (.int .u8 m2),.v (.int .u8 m3)]).P v w) :
  Calls Tryz.prog 6 #[v,.agg #[.bool n1,.slice a1 k1 c1],.agg #[.bool n2,.slice a2 k2 c2]] w fun e w'=>∃ v',e=.returned v'∧Below w.heap.size w w'∧v'=.bool true:=by
 have HT:=hidd hT
 clear hT
 obtain ⟨n,en⟩:∃ x,x=zCe D:=⟨_,rfl⟩
 have hszn:=zNh D
 rw [← en] at hszn
 have En:=hidd en.symm
 have Zn:=hidd hszn
 have HDn:=hidd hD
 obtain ⟨dd,hdd⟩:∃ x,x=-n:=⟨_,rfl⟩
 have HDD:=hidd hdd
 have HNG:Hid (dd<0):=by show _<_;omega
 have HGC:Hid (GC dd):=GC.of zm zm
 have HB40:Hid (ab dd<pw 40):=Int.lt_of_lt_of_le HGC.out.ab6 (zAa zm)
 have H4:Hid (dd % 4=0∨dd % 4=1):=by have:=hszn.2.2;show _∨_;omega
 clear en hD hdd hszn
 obtain ⟨P,eP⟩:∃ x,x=zFa n i0 m0:=⟨_,rfl⟩
 have hokP:=zQa (i:=i0) (m:=m0) Zn.out.1 Zn.out.2.1 Zn.out.2.2
 have hscP:=madeF_sc (i:=i0) (m:=m0) Zn.out.1 Zn.out.2.1 Zn.out.2.2
 rw [← eP] at hokP hscP
 rw [← HDD.out] at hscP
 have EP:=hidd eP.symm
 have OKP:=hidd hokP
 have KP:=hidd hscP
 have IP:=hidd hi0
 have MP:=hidd hm0
 clear eP hokP hscP hi0 hm0
 obtain ⟨z1,ez1⟩:∃ z,z=sgn n1 (val (xs1.take 2)):=⟨_,rfl⟩
 have Bz1:Hid (ab z1<pw 2):=by show _<_;rw [ez1];exact Int.lt_of_lt_of_le (Num.ofMade h1.digs) (zAa zm)
 have Ez1:=hidd ez1
 have HK1:=hidd hk1
 clear ez1 hk1
 obtain ⟨z2,ez2⟩:∃ z,z=sgn n2 (val (xs2.take 2)):=⟨_,rfl⟩
 have Bz2:Hid (ab z2<pw 2):=by show _<_;rw [ez2];exact Int.lt_of_lt_of_le (Num.ofMade h2.digs) (zAa zm)
 have Ez2:=hidd ez2
 have HK2:=hidd hk2
 clear ez2 hk2
 obtain ⟨X1,eX1⟩:∃ x,x=pzF dd P z1:=⟨_,rfl⟩
 have gX1:Gm dd X1:=by rw [eX1];exact zG8 HNG.out H4.out KP.out.1 z1
 have GX1:=hidd gX1
 have KX1:Hid (Sc dd X1∧Sm X1):=⟨gX1.1,HGC.out.sm _ gX1⟩
 have EX1:=hidd eX1
 clear eX1 gX1
 obtain ⟨X2,eX2⟩:∃ x,x=pzF dd P z2:=⟨_,rfl⟩
 have gX2:Gm dd X2:=by rw [eX2];exact zG8 HNG.out H4.out KP.out.1 z2
 have GX2:=hidd gX2
 have KX2:Hid (Sc dd X2∧Sm X2):=⟨gX2.1,HGC.out.sm _ gX2⟩
 have EX2:=hidd eX2
 clear eX2 gX2
 obtain ⟨X3,eX3⟩:∃ x,x=pzF dd P (z1+z2):=⟨_,rfl⟩
 have gX3:Gm dd X3:=by rw [eX3];exact zG8 HNG.out H4.out KP.out.1 (z1+z2)
 have GX3:=hidd gX3
 have KX3:Hid (Sc dd X3∧Sm X3):=⟨gX3.1,HGC.out.sm _ gX3⟩
 have EX3:=hidd eX3
 clear eX3 gX3
 obtain ⟨G1,eG1⟩:∃ x,x=pzF dd P 1:=⟨_,rfl⟩
 have gG1:Gm dd G1:=by rw [eG1];exact zG8 HNG.out H4.out KP.out.1 1
 have GG1:=hidd gG1
 have KG1:Hid (Sc dd G1∧Sm G1):=⟨gG1.1,HGC.out.sm _ gG1⟩
 have EG1:=hidd eG1
 clear eG1 gG1
 have WX1X2:Hid (mulF dd X1 X2=X3):=(by have h9:=pzF_add HNG.out H4.out KP.out.1 z1 z2;rw [← EX1.out,← EX2.out,← EX3.out] at h9;exact h9.symm)
 obtain ⟨O,eO⟩:∃ x,x=onF dd:=⟨_,rfl⟩
 have gO:Gm dd O:=by rw [eO];exact zEd HNG.out H4.out
 have GO:=hidd gO
 have KO:Hid (Sc dd O∧Sm O):=⟨gO.1,HGC.out.sm _ gO⟩
 have EO:=hidd eO
 clear eO gO
 obtain ⟨o,ho0,hoL,ho1,hom⟩:=order_ex HNG.out H4.out (L:=zCh n) (fun P=>by rw [HDD.out];exact zP8 Zn.out.1 Zn.out.2.1) KP.out.1
 have hof:=listF_few Zn.out.1 Zn.out.2.1
 have HO:Hid (Ord dd P o):=⟨ho0,ho1,hom⟩
 have HO2:Hid (o≤200):=by show _≤_;omega
 have HON:Hid ((o:Int)≠0):=by show _≠_;omega
 have RO:Hid (-9223372036854775808≤(o:Int)∧(o:Int)≤9223372036854775807):=by show _∧_;omega
 have BO:Hid (ab (o:Int)<pw 3):=zAs RO.out.1 RO.out.2
 have HX:Hid (X1=O ↔ z1 % (o:Int)=0):=by show _ ↔ _;rw [EX1.out,EO.out];exact zQv HNG.out H4.out KP.out.1 ho0 ho1 hom z1
 have HG1:Hid (G1=pwF dd P 1):=EG1.out.trans (zGi 1)
 have T6:=hidd (six_k HO2.out)
 clear ho0 hoL ho1 hom hof
 obtain ⟨_,rfl,hf0⟩:=h
 have hF0:=hf0
 obtain ⟨_,rfl,_,_,rfl,_,_,rfl,_,_,rfl,_,_,rfl,_,_,rfl,_,_,rfl,_,_,rfl,_,_,rfl,_,rfl⟩:=hf0
 obtain ⟨w1,b1,hw1,hb1,hs1,E⟩:=gS w 26 hF0
 obtain ⟨w2,b2,hw2,hb2,hs2,E⟩:=zC8 E hs1 (F:=Fq.raw n1 a1 k1 c1 xs1) (us:=[.bool n1,.slice a1 k1 c1]) 29 rfl (by simp) (zB8 _ _ _ _) ((Fq.raw n1 a1 k1 c1 xs1).mono (show (Fq.raw n1 a1 k1 c1 xs1).P _ w from ⟨rfl,h1⟩) E.below)
 obtain ⟨w3,b3,hw3,hb3,hs3,E⟩:=zC8 E hs2 (F:=Fq.raw n2 a2 k2 c2 xs2) (us:=[.bool n2,.slice a2 k2 c2]) 29 rfl (by simp) (zB8 _ _ _ _) ((Fq.raw n2 a2 k2 c2 xs2).mono (show (Fq.raw n2 a2 k2 c2 xs2).P _ w from ⟨rfl,h2⟩) E.below)
 go_enter Tryz.func6,Tryz.ntmps6
 go_upto_region 1 with (fail)
 rw [← hw1,← hw2]
 rw [← hw3,← hb3]
 rw [← hb2,← hb1]
 clear hw1 hw2 hw3 hb1 hb2 hb3 hs3 hs1 hs2
 refine rz [.t,.t] N3 [] E (fun hp=>⟨q_call0W hp fo tv (zTe) rfl (fun w hbw=>zUl w (HT.out.mono hbw)),zS,tv⟩) ?_
 intro w4 E _ _
 simp only [Z1] at E ⊢
 go_upto_region 2 with (fail)
 refine rz [.t,.o] N3 [] E (fun hp=>⟨zS,zo hp (sqi 0),tv⟩) ?_
 intro w5 E _ _
 simp only [Z1] at E ⊢
 go_upto_region 4 with (fail)
 refine rz [.w (Fq.st [.v (.int .u16 D),.v (.int .u16 i0),.v (.int .u16 i1),.v (.int .u16 i2),.v (.int .u16 i3),.v (.int .u8 m0),.v (.int .u8 m1),.v (.int .u8 m2),.v (.int .u8 m3)]),.w (f3 P.a P.b P.c),.w (Fq.raw n1 a1 k1 c1 xs1),.n z1,.w (Fq.raw n2 a2 k2 c2 xs2),.n z2,.k,.k,.k,.a,.a,.a] N3 [⟨6,9,6,f3 0 0 0,f3 P.a P.b P.c,none⟩,⟨7,10,2,Fq.num 0,Fq.num z1,none⟩,⟨8,11,2,Fq.num 0,Fq.num z2,none⟩] E (fun hp=>⟨lS 0 9 hp (mq 2 rfl) zRz zw,zDl (F:=(Fq.st [.v (.int .u16 D),.v (.int .u16 i0),.v (.int .u16 i1),.v (.int .u16 i2),.v (.int .u16 i3),.v (.int .u8 m0),.v (.int .u8 m1),.v (.int .u8 m2),.v (.int .u8 m3)]).P) (G:=(Fq.is (.int .i64 0)).P) hp fo tv (zTh) (sqi 0) (zAk (fun _=>rfl)) (fun v v' w h h'=>(by subst h';exact exQMade0 h HDn.out IP.out MP.out En.out EP.out)),zRl (off:=0) hp fo tv (mq 1 rfl) (.inl rfl) (Nat.le_of_ble_eq_true rfl) (sqo 4) (fun us w hl h=>ld_raw hl h),zDl (F:=(Fq.raw n1 a1 k1 c1 xs1).P) (G:=(Fq.is (.int .i64 2)).P) hp fo tv (zOj) (sqi 2) (zAk (fun _=>rfl)) (fun v v' w h h'=>(by rw [Ez1.out];exact exRMade (j:=2) h h' HK1.out zm)),zRl (off:=0) hp fo tv (mq 0 rfl) (.inl rfl) (Nat.le_of_ble_eq_true rfl) (sqo 5) (fun us w hl h=>ld_raw hl h),zDl (F:=(Fq.raw n2 a2 k2 c2 xs2).P) (G:=(Fq.is (.int .i64 2)).P) hp fo tv (zOj) (sqi 4) (zAk (fun _=>rfl)) (fun v v' w h h'=>(by rw [Ez2.out];exact exRMade (j:=2) h h' HK2.out zm)),aS hp (mq 0 rfl) zAu zB0,aN hp (mq 1 rfl),aN hp (mq 2 rfl),sS 1 hp (mq 0 rfl) zAo,sN 3 hp (mq 1 rfl),sN 5 hp (mq 2 rfl),tv⟩) ?_
 intro w6 b6_6 b6_7 b6_8 E _ _
 simp only [Z1] at E ⊢
 go_upto_region 5 with (fail)
 refine rz [.w (f3 P.a P.b P.c),.n dd,.w (Fq.tup2 (f3 O.a O.b O.c) (Fq.is (.int .i64 0))),.w (Fq.tup2 (f3 O.a O.b O.c) (Fq.is (.int .i64 0))),.w (f3 O.a O.b O.c),.i 0,.k,.a,.i 0] N6 [⟨6,7,6,f3 0 0 0,f3 O.a O.b O.c,none⟩] E (fun hp=>⟨lS 0 6 hp (mq 0 rfl) zAd zw,zc hp zC6 zi fun v w h=>(by have hh9:=zC7 h (Int.lt_of_lt_of_le KP.out.2.1 (zAa zm)) (Int.lt_of_lt_of_le KP.out.2.2.1 (zAa zm)) (Int.lt_of_lt_of_le KP.out.2.2.2 (zAa zm));rw [KP.out.1.disc] at hh9;exact hh9),zc hp zJm zi fun v w h=>(by have hh9:=zJt h HB40.out HNG.out H4.out;rw [← EO.out] at hh9;exact hh9),zS,zS,zS,aS hp (mq 0 rfl) zAu zB0,sS 4 hp (mq 0 rfl) zAo,zS,tv⟩) ?_
 intro w7 b7_6 E _ _
 simp only [Z1] at E ⊢
 go_upto_region 6 with (fail)
 have B8:Hid (ab ((z1+z2))<pw 3):=zBd Bz1.out Bz2.out zm zm
 refine rz [.w (f3 P.a P.b P.c),.n z1,.w (Fq.st [.n X1.a,.n X1.b,.n X1.c,.v (.int .i64 0)]),.w (f3 P.a P.b P.c),.n z2,.w (Fq.st [.n X2.a,.n X2.b,.n X2.c,.v (.int .i64 0)]),.w (f3 P.a P.b P.c),.n z1,.n z2,.n (z1+z2),.w (Fq.st [.n X3.a,.n X3.b,.n X3.c,.v (.int .i64 0)]),.k,.k,.k,.a,.a,.a] N7 [⟨11,14,7,Fq.st [.n 0,.n 0,.n 0,.v (.int .i64 0)],Fq.st [.n X1.a,.n X1.b,.n X1.c,.v (.int .i64 0)],none⟩,⟨12,15,7,Fq.st [.n 0,.n 0,.n 0,.v (.int .i64 0)],Fq.st [.n X2.a,.n X2.b,.n X2.c,.v (.int .i64 0)],none⟩,⟨13,16,7,Fq.st [.n 0,.n 0,.n 0,.v (.int .i64 0)],Fq.st [.n X3.a,.n X3.b,.n X3.c,.v (.int .i64 0)],none⟩] E (fun hp=>⟨lS 0 6 hp (mq 1 rfl) zAd zw,lI 0 hp (mq 2 rfl) zw,zC hp zHs zi zi fun v v' w h h'=>(by have hh9:=zHw HGC.out KP.out.1 (Int.lt_of_lt_of_le Bz1.out (zAa zm)) KP.out.2 h h';rw [← EX1.out] at hh9;exact hh9),lS 0 6 hp (mq 1 rfl) zAd zw,lI 0 hp (mq 3 rfl) zw,zC hp zHs zi zi fun v v' w h h'=>(by have hh9:=zHw HGC.out KP.out.1 (Int.lt_of_lt_of_le Bz2.out (zAa zm)) KP.out.2 h h';rw [← EX2.out] at hh9;exact hh9),lS 0 6 hp (mq 1 rfl) zAd zw,lI 0 hp (mq 2 rfl) zw,lI 0 hp (mq 3 rfl) zw,zC hp zC5 zi zi fun v v' w h h'=>exK (AddV h h') B8.out zm,zC hp zHs zi zi fun v v' w h h'=>(by have hh9:=zHw HGC.out KP.out.1 (Int.lt_of_lt_of_le B8.out (zAa zm)) KP.out.2 h h';rw [← EX3.out] at hh9;exact hh9),aS hp (mq 0 rfl) zEk zHa,aS hp (mq 1 rfl) zEk zHa,aS hp (mq 2 rfl) zEk zHa,sS 2 hp (mq 0 rfl) zE2,sS 5 hp (mq 1 rfl) zE2,sS 10 hp (mq 2 rfl) zE2,tv⟩) ?_
 intro w9 b9_11 b9_12 b9_13 E _ _
 simp only [Z1] at E ⊢
 go_upto_region 7 with (fail)
 refine rz [.i 0,.o,.o,.p b9_11 6,.i 0,.o,.o,.o,.p b9_12 6,.i 0,.o,.o,.o,.p b9_13 6,.i 0,.o,.o,.o,.p b9_11 0,.w (f3 X1.a X1.b X1.c),.p b9_12 0,.w (f3 X2.a X2.b X2.c),.w (Fq.st [.n X3.a,.n X3.b,.n X3.c,.v (.int .i64 0)]),.p b9_13 0,.w (f3 X3.a X3.b X3.c),.t,.o,.o] N10 [] E (fun hp=>⟨zS,zo hp (sqi 0),zS,zg b9_11 0 6 hp zw,zFq (off:=6) (fs:=[.n X1.a,.n X1.b,.n X1.c,.v (.int .i64 0)]) (u:=.int .i64 0) hp fo gqi (mq 0 rfl) (.inl rfl) rfl rfl (fun ρ w b h1 h2=>by simp [execOp,go_sem,h1,h2]) (sqi 3) (fun _=>rfl),zo hp (sqi 4),zt hp (sqi 2) (sqi 5),zS,zg b9_12 0 6 hp zw,zFq (off:=6) (fs:=[.n X2.a,.n X2.b,.n X2.c,.v (.int .i64 0)]) (u:=.int .i64 0) hp fo gqi (mq 1 rfl) (.inl rfl) rfl rfl (fun ρ w b h1 h2=>by simp [execOp,go_sem,h1,h2]) (sqi 8) (fun _=>rfl),zo hp (sqi 9),zt hp (sqi 7) (sqi 10),zS,zg b9_13 0 6 hp zw,zFq (off:=6) (fs:=[.n X3.a,.n X3.b,.n X3.c,.v (.int .i64 0)]) (u:=.int .i64 0) hp fo gqi (mq 2 rfl) (.inl rfl) rfl rfl (fun ρ w b h1 h2=>by simp [execOp,go_sem,h1,h2]) (sqi 13) (fun _=>rfl),zo hp (sqi 14),zt hp (sqi 12) (sqi 15),zS,zg b9_11 0 0 hp zw,lG 0 6 hp gqi (mq 0 rfl) zAd zi fun v w h=>h,zg b9_12 0 0 hp zw,lG 0 6 hp gqi (mq 1 rfl) zAd zi fun v w h=>h,zC hp zGt zi zi (fun v v' w h h'=>zPc HNG.out KX1.out.1 KX2.out.1 KX1.out.2 KX2.out.2 WX1X2.out h h'),zg b9_13 0 0 hp zw,lG 0 6 hp gqi (mq 2 rfl) zAd zi fun v w h=>h,zC hp zHr zi zi (fun v v' w h h'=>exGIs h h' (eqF_iff.2 ⟨rfl,rfl,rfl⟩)),zo hp (sqi 25),zt hp (sqi 17) (sqi 26),tv⟩) ?_
 intro w10 E _ _
 simp only [Z1] at E ⊢
 go_upto_region 9 with (fail)
 refine rz [.w (f3 P.a P.b P.c),.n 1,.w (Fq.st [.n G1.a,.n G1.b,.n G1.c,.v (.int .i64 0)]),.k,.i 1,.a] N10 [⟨3,5,7,Fq.st [.n 0,.n 0,.n 0,.v (.int .i64 0)],Fq.st [.n G1.a,.n G1.b,.n G1.c,.v (.int .i64 0)],none⟩] E (fun hp=>⟨lS 0 6 hp (mq 4 rfl) zAd zw,zBn (F:=(Fq.is (.int .i64 1)).P) hp fo tv (zCy) (zAk (fun _=>rfl)) (fun v w h=>(by subst h;exact rOfK w 1 zm zm)),zC hp zHs zi zi fun v v' w h h'=>(by have hh9:=zHw HGC.out KP.out.1 (Int.lt_of_lt_of_le (zAs zd zd) (zAa zm)) KP.out.2 h h';rw [← EG1.out] at hh9;exact hh9),aS hp (mq 0 rfl) zEk zHa,zS,sS 2 hp (mq 0 rfl) zE2,tv⟩) ?_
 intro w11 b11_3 E _ _
 simp only [Z1] at E ⊢
 have HS:=hidd E
 go_upto_region 10 with (fail)
 go_loopw [16] (fun vk W=>∃ (k:Nat) (G:F3),vk=.int .i64 (k:Int)∧(1≤k∧k≤o∧G=pwF dd P k)∧Fr w [(b11_3,7,Fq.st [.n G.a,.n G.b,.n G.c,.v (.int .i64 0)]),(b9_11,7,Fq.st [.n X1.a,.n X1.b,.n X1.c,.v (.int .i64 0)]),(b9_12,7,Fq.st [.n X2.a,.n X2.b,.n X2.c,.v (.int .i64 0)]),(b9_13,7,Fq.st [.n X3.a,.n X3.b,.n X3.c,.v (.int .i64 0)]),(b7_6,6,f3 O.a O.b O.c),(b6_6,6,f3 P.a P.b P.c),(b6_7,2,Fq.num z1),(b6_8,2,Fq.num z2),(b3,2,Fq.raw n2 a2 k2 c2 xs2),(b2,2,Fq.raw n1 a1 k1 c1 xs1),(b1,9,Fq.st [.v (.int .u16 D),.v (.int .u16 i0),.v (.int .u16 i1),.v (.int .u16 i2),.v (.int .u16 i3),.v (.int .u8 m0),.v (.int .u8 m1),.v (.int .u8 m2),.v (.int .u8 m3)])] W) (fun vk _=>o-(intOf vk).toNat)
 case atStart=>exact ⟨1,G1,by first | rfl | go_num,⟨by omega,HO.out.1,HG1.out⟩,HS.out⟩
 case round=>
  obtain ⟨k,G,rfl,hI,E⟩:=hrel
  clear HS
  by_cases h0:k<o
  ·obtain ⟨G2,hG2⟩:∃ X,X=mulF dd G P:=⟨_,rfl⟩
   obtain ⟨kk,hkk⟩:∃ kk,kk=k+1:=⟨_,rfl⟩
   have hGm:Gm dd G:=by rw [hI.2.2];exact zA3 HNG.out H4.out KP.out.1 k
   have KG:Hid (Sc dd G∧Sm G):=⟨hGm.1,HGC.out.sm _ hGm⟩
   have WGP:Hid (mulF dd G P=G2):=hG2.symm
   have HK9:Hid (1≤kk∧kk≤o∧G2=pwF dd P kk):=⟨by omega,by omega,by rw [hG2,hkk,hI.2.2];rfl⟩
   have HKO:=hidd h0
   have HKE:=hidd hkk
   have TN:=hidd (step_k hkk (by have:=HO2.out;omega))
   have TK:Hid ((k:Int)<200):=by have:=HO2.out;show _<_;omega
   have TG:Hid (¬ G=O):=fun e=>HO.out.2.2 k (by have:=hI.1;omega) h0 (by rw [← hI.2.2,e,EO.out])
   clear hG2 hkk hGm h0 hI
   go_upto_region 10 with (fail)
   refine rz [.i (k:Int),.t,.t,.p b11_3 6,.i 0,.t,.t,.t,.p b11_3 0,.w (f3 G.a G.b G.c),.w (f3 O.a O.b O.c),.o,.t,.t] N11 [] E (fun hp=>⟨zS,zO hp (sqi 0) TK.out,zS,zg b11_3 0 6 hp zw,zFq (off:=6) (fs:=[.n G.a,.n G.b,.n G.c,.v (.int .i64 0)]) (u:=.int .i64 0) hp fo gqi (mq 0 rfl) (.inl rfl) rfl rfl (fun ρ w b h1 h2=>by simp [execOp,go_sem,h1,h2]) (sqi 3) (fun _=>rfl),zo hp (sqi 4),zt hp (sqi 2) (sqi 5),zS,zg b11_3 0 0 hp zw,lG 0 6 hp gqi (mq 0 rfl) zAd zi fun v w h=>h,lG 0 6 hp gqi (mq 4 rfl) zAd zw fun v w h=>h,zC hp zFj zi zi (fun v v' w h h'=>zFk h h' (eqF_no TG.out)),zo hp (sqi 11),zt hp (sqi 7) (sqi 12),tv⟩) ?_
   intro w12 E _ _
   simp only [Z1] at E ⊢
   go_upto_region 11 with (fail)
   refine rz [.p b11_3 0,.w (f3 G.a G.b G.c),.w (f3 P.a P.b P.c),.w (Fq.st [.n G2.a,.n G2.b,.n G2.c,.v (.int .i64 0)]),.a] [some (4,Fq.st [.n G2.a,.n G2.b,.n G2.c,.v (.int .i64 0)]),none,none,none,none,none,none,none,none,none,none] [] E (fun hp=>⟨qa b11_3 0 0 hp zw,zCu (off:=0) (l:=6) hp fo tv (mq 0 rfl) (.inr rfl) rfl zAd rfl (sqi 0) (fun v w h=>h),lS 0 6 hp (mq 5 rfl) zAd zw,zC hp zGt zi zi fun v v' w h h'=>zPc HNG.out KG.out.1 KP.out.1 KG.out.2 KP.out.2 WGP.out h h',sO 0 3 hp (mq 0 rfl) zE2 zw,tv⟩) ?_
   intro w13 E _ _
   simp only [Z1] at E ⊢
   go_upto_region 12 with (fail)
   refine rz [.i (k:Int),.i (kk:Int),.i (kk:Int)] N11 [] E (fun hp=>⟨zFd 2 3 hp fo tv rfl rfl rfl rfl (fun _=>rfl),zO hp (sqi 0) TN.out,zS,tv⟩) ?_
   intro w14 E _ _
   simp only [Z1] at E ⊢
   go_wp2
   go_roundw
   case rel=>exact ⟨kk,G2,rfl,HK9.out,E⟩
   case measure=>exact meas_k HKE.out HKO.out
  ·by_cases h2:o<200
   ·obtain rfl:o=k:=by have:=hI.2.1;omega
    have HGO:Hid (G=O):=by show _=_;rw [hI.2.2,EO.out];exact HO.out.2.1
    have HI:=hidd hI
    clear hI h0
    have TK:Hid ((o:Int)<200):=by show _<_;omega
    clear h2
    go_upto_region 10 with (fail)
    refine rz [.i (o:Int),.t,.t,.p b11_3 6,.i 0,.t,.t,.t,.p b11_3 0,.w (f3 G.a G.b G.c),.w (f3 O.a O.b O.c),.t,.o,.o] N11 [] E (fun hp=>⟨zS,zO hp (sqi 0) TK.out,zS,zg b11_3 0 6 hp zw,zFq (off:=6) (fs:=[.n G.a,.n G.b,.n G.c,.v (.int .i64 0)]) (u:=.int .i64 0) hp fo gqi (mq 0 rfl) (.inl rfl) rfl rfl (fun ρ w b h1 h2=>by simp [execOp,go_sem,h1,h2]) (sqi 3) (fun _=>rfl),zo hp (sqi 4),zt hp (sqi 2) (sqi 5),zS,zg b11_3 0 0 hp zw,lG 0 6 hp gqi (mq 0 rfl) zAd zi fun v w h=>h,lG 0 6 hp gqi (mq 4 rfl) zAd zw fun v w h=>h,zC hp zFj zi zi (fun v v' w h h'=>zFk h h' (zLm HGO.out)),zo hp (sqi 11),zt hp (sqi 7) (sqi 12),tv⟩) ?_
    intro w15 E _ _
    simp only [Z1] at E ⊢
    go_upto_region 13 with (fail)
    refine rz [.w (f3 P.a P.b P.c),.i (o:Int),.i ((6*o:Nat):Int),.w (Fq.tup2 (Fq.is (.int .i64 (o:Int))) (Fq.is (.int .i64 0))),.w (Fq.tup2 (Fq.is (.int .i64 (o:Int))) (Fq.is (.int .i64 0))),.i (o:Int),.i 0,.i (o:Int),.i 0] N11 [] E (fun hp=>⟨lS 0 6 hp (mq 5 rfl) zAd zw,zS,zO hp (sqi 1) T6.out,wXb (f3 P.a P.b P.c) (Fq.is (.int .i64 ((6*o:Nat):Int))) hp zJk (sqi 0) (sqi 2) fun v v' w h h'=>(by subst h';exact zLp (hh:=6*o) (o:=o) h KP.out.2 KP.out.1 HGC.out (by have:=HO.out.1;omega) (by have:=HO2.out;omega) HO.out ⟨6,Nat.mul_comm ..⟩),zS,zS,zS,zS,zS,tv⟩) ?_
    intro w16 E _ _
    simp only [Z1] at E ⊢
    go_upto_region 14 with (fail)
    have B17:Hid (ab ((z1/(o:Int)))<pw 3):=zDp Bz1.out zm
    have B18:Hid (ab ((z1 % (o:Int)))<pw 3):=zB4 HON.out BO.out
    refine rz [.n z1,.i (o:Int),.n (o:Int),.w (Fq.tup3 (Fq.num (z1/(o:Int))) (Fq.num (z1 % (o:Int))) (Fq.is (.int .i64 0))),.w (Fq.tup3 (Fq.num (z1/(o:Int))) (Fq.num (z1 % (o:Int))) (Fq.is (.int .i64 0))),.n (z1/(o:Int)),.n (z1 % (o:Int)),.i 0,.k,.k,.a,.a,.i 0] N11 [⟨8,10,2,Fq.num 0,Fq.num (z1/(o:Int)),none⟩,⟨9,11,2,Fq.num 0,Fq.num (z1 % (o:Int)),none⟩] E (fun hp=>⟨lI 0 hp (mq 6 rfl) zw,zS,wXa (Fq.is (.int .i64 (o:Int))) hp zCy (sqi 1) fun v w h=>(by subst h;exact rOfK w (o:Int) RO.out.1 RO.out.2),zC hp zE7 zi zi fun v v' w h h'=>zE8 h h' HON.out B17.out B18.out zm zm,zS,zS,zS,zS,aN hp (mq 0 rfl),aN hp (mq 1 rfl),sN 5 hp (mq 0 rfl),sN 6 hp (mq 1 rfl),zS,tv⟩) ?_
    intro w19 b19_8 b19_9 E _ _
    simp only [Z1] at E ⊢
    by_cases h1:z1 % (o:Int)=0
    ·have TS:Hid (cmpI (z1 % (o:Int)) 0=0):=cmpIq0.2 h1
     have TE:Hid (X1=O):=HX.out.2 h1
     clear h1
     go_upto_region 15 with (fail)
     refine rz [.p b11_3 6,.i 0,.t,.t,.i 0,.t,.t,.t,.i (o:Int),.i (o:Int),.t,.t,.t,.i 0,.t,.t,.t,.p b9_11 0,.w (f3 X1.a X1.b X1.c),.w (f3 O.a O.b O.c),.t,.n (z1 % (o:Int)),.i (cmpI (z1 % (o:Int)) 0),.t,.t,.t,.t,.t,.t,.t] N13 [] E (fun hp=>⟨qa b11_3 0 6 hp zw,wXc 6 hp (mq 2 rfl) zi,zo hp (sqi 1),zS,zAj hp fo gqi (sqo 19),zo hp (sqi 4),zt hp (sqi 3) (sqi 5),zS,zAj hp fo gqi (sqo 18),zAj hp fo gqi (sqo 16),zAt (F:=fun v _=>v=.int .i64 (o:Int)) (G:=fun v _=>v=.int .i64 (o:Int)) hp fo gqi (sqi 8) (sqi 9) (fun ρ w hc h h'=>⟨.bool true,by simp [execOp,go_sem,h,h'],rfl⟩),zt hp (sqi 7) (sqi 10),zS,zAj hp fo gqi (sqo 22),zo hp (sqi 13),zt hp (sqi 12) (sqi 14),zS,zg b9_11 0 0 hp zw,lG 0 6 hp gqi (mq 3 rfl) zAd zi fun v w h=>h,lG 0 6 hp gqi (mq 6 rfl) zAd zw fun v w h=>h,zC hp zFj zi zi (fun v v' w h h'=>zFk h h' (zLm TE.out)),zAx (off:=0) hp fo gqi (mq 1 rfl) (.inl rfl) (Nat.le_of_ble_eq_true rfl) (sqo 21) (fun us w hl h=>zAw hl h),zc hp zAz zi (fun v w h=>zA0 h),zO hp (sqi 22) TS.out,zAt (F:=fun v _=>v=.bool true) (G:=fun v _=>v=.bool true) hp fo gqi (sqi 20) (sqi 23) (fun ρ w hc h h'=>⟨.bool true,by simp [execOp,go_sem,h,h'],rfl⟩),zt hp (sqi 16) (sqi 24),zS,zAj hp fo gqi (sqo 7),zt hp (sqi 26) (sqi 27),zS,tv⟩) ?_
     intro w20 E _ _
     simp only [Z1] at E ⊢
     clear HT En Zn HDn HDD HNG HGC HB40 H4 EP OKP KP IP MP Ez1 HK1 Ez2 HK2 GX1 KX1 EX1 GX2 KX2 EX2 GX3 KX3 EX3 GG1 KG1 EG1 WX1X2 GO KO EO HO HO2 HON RO BO HX HG1 T6 HGO HI TK TS TE
     clear B8 B17 B18 Bz1 Bz2
     go_wp2
     exact zR (v:=.bool true) (by simp [results,Tryz.results6,go_sem]) E.below rfl
    ·have TS:Hid (¬ cmpI (z1 % (o:Int)) 0=0):=fun e=>h1 (cmpIq0.1 e)
     have TE:Hid (¬ X1=O):=fun e=>h1 (HX.out.1 e)
     clear h1
     go_upto_region 15 with (fail)
     refine rz [.p b11_3 6,.i 0,.t,.t,.i 0,.t,.t,.t,.i (o:Int),.i (o:Int),.t,.t,.t,.i 0,.t,.t,.t,.p b9_11 0,.w (f3 X1.a X1.b X1.c),.w (f3 O.a O.b O.c),.o,.n (z1 % (o:Int)),.i (cmpI (z1 % (o:Int)) 0),.o,.t,.t,.t,.t,.t,.t] N13 [] E (fun hp=>⟨qa b11_3 0 6 hp zw,wXc 6 hp (mq 2 rfl) zi,zo hp (sqi 1),zS,zAj hp fo gqi (sqo 19),zo hp (sqi 4),zt hp (sqi 3) (sqi 5),zS,zAj hp fo gqi (sqo 18),zAj hp fo gqi (sqo 16),zAt (F:=fun v _=>v=.int .i64 (o:Int)) (G:=fun v _=>v=.int .i64 (o:Int)) hp fo gqi (sqi 8) (sqi 9) (fun ρ w hc h h'=>⟨.bool true,by simp [execOp,go_sem,h,h'],rfl⟩),zt hp (sqi 7) (sqi 10),zS,zAj hp fo gqi (sqo 22),zo hp (sqi 13),zt hp (sqi 12) (sqi 14),zS,zg b9_11 0 0 hp zw,lG 0 6 hp gqi (mq 3 rfl) zAd zi fun v w h=>h,lG 0 6 hp gqi (mq 6 rfl) zAd zw fun v w h=>h,zC hp zFj zi zi (fun v v' w h h'=>zFk h h' (eqF_no TE.out)),zAx (off:=0) hp fo gqi (mq 1 rfl) (.inl rfl) (Nat.le_of_ble_eq_true rfl) (sqo 21) (fun us w hl h=>zAw hl h),zc hp zAz zi (fun v w h=>zA0 h),zO hp (sqi 22) TS.out,zAt (F:=fun v _=>v=.bool false) (G:=fun v _=>v=.bool false) hp fo gqi (sqi 20) (sqi 23) (fun ρ w hc h h'=>⟨.bool true,by simp [execOp,go_sem,h,h'],rfl⟩),zt hp (sqi 16) (sqi 24),zS,zAj hp fo gqi (sqo 7),zt hp (sqi 26) (sqi 27),zS,tv⟩) ?_
     intro w21 E _ _
     simp only [Z1] at E ⊢
     clear HT En Zn HDn HDD HNG HGC HB40 H4 EP OKP KP IP MP Ez1 HK1 Ez2 HK2 GX1 KX1 EX1 GX2 KX2 EX2 GX3 KX3 EX3 GG1 KG1 EG1 WX1X2 GO KO EO HO HO2 HON RO BO HX HG1 T6 HGO HI TK TS TE
     clear B8 B17 B18 Bz1 Bz2
     go_wp2
     exact zR (v:=.bool true) (by simp [results,Tryz.results6,go_sem]) E.below rfl
   ·obtain rfl:o=k:=by have:=hI.2.1;omega
    have HGO:Hid (G=O):=by show _=_;rw [hI.2.2,EO.out];exact HO.out.2.1
    have HI:=hidd hI
    clear hI h0
    have TK:Hid (¬ (o:Int)<200):=by show ¬ _;omega
    clear h2
    go_upto_region 10 with (fail)
    refine rz [.i (o:Int),.o,.o,.u (undef),.u (undef),.u (undef),.o,.o,.u (undef),.u (undef),.u (undef),.u (undef),.u (undef),.o] N11 [] E (fun hp=>⟨zS,zO hp (sqi 0) TK.out,zS,zS,zS,zS,zt hp (sqi 2) (zk (.bool false)),zS,zS,zS,zS,zS,zS,zt hp (sqi 7) (zk (.bool false)),tv⟩) ?_
    intro w22 E _ _
    simp only [Z1] at E ⊢
    go_upto_region 13 with (fail)
    refine rz [.w (f3 P.a P.b P.c),.i (o:Int),.i ((6*o:Nat):Int),.w (Fq.tup2 (Fq.is (.int .i64 (o:Int))) (Fq.is (.int .i64 0))),.w (Fq.tup2 (Fq.is (.int .i64 (o:Int))) (Fq.is (.int .i64 0))),.i (o:Int),.i 0,.i (o:Int),.i 0] N11 [] E (fun hp=>⟨lS 0 6 hp (mq 5 rfl) zAd zw,zS,zO hp (sqi 1) T6.out,wXb (f3 P.a P.b P.c) (Fq.is (.int .i64 ((6*o:Nat):Int))) hp zJk (sqi 0) (sqi 2) fun v v' w h h'=>(by subst h';exact zLp (hh:=6*o) (o:=o) h KP.out.2 KP.out.1 HGC.out (by have:=HO.out.1;omega) (by have:=HO2.out;omega) HO.out ⟨6,Nat.mul_comm ..⟩),zS,zS,zS,zS,zS,tv⟩) ?_
    intro w23 E _ _
    simp only [Z1] at E ⊢
    go_upto_region 14 with (fail)
    have B24:Hid (ab ((z1/(o:Int)))<pw 3):=zDp Bz1.out zm
    have B25:Hid (ab ((z1 % (o:Int)))<pw 3):=zB4 HON.out BO.out
    refine rz [.n z1,.i (o:Int),.n (o:Int),.w (Fq.tup3 (Fq.num (z1/(o:Int))) (Fq.num (z1 % (o:Int))) (Fq.is (.int .i64 0))),.w (Fq.tup3 (Fq.num (z1/(o:Int))) (Fq.num (z1 % (o:Int))) (Fq.is (.int .i64 0))),.n (z1/(o:Int)),.n (z1 % (o:Int)),.i 0,.k,.k,.a,.a,.i 0] N11 [⟨8,10,2,Fq.num 0,Fq.num (z1/(o:Int)),none⟩,⟨9,11,2,Fq.num 0,Fq.num (z1 % (o:Int)),none⟩] E (fun hp=>⟨lI 0 hp (mq 6 rfl) zw,zS,wXa (Fq.is (.int .i64 (o:Int))) hp zCy (sqi 1) fun v w h=>(by subst h;exact rOfK w (o:Int) RO.out.1 RO.out.2),zC hp zE7 zi zi fun v v' w h h'=>zE8 h h' HON.out B24.out B25.out zm zm,zS,zS,zS,zS,aN hp (mq 0 rfl),aN hp (mq 1 rfl),sN 5 hp (mq 0 rfl),sN 6 hp (mq 1 rfl),zS,tv⟩) ?_
    intro w26 b26_8 b26_9 E _ _
    simp only [Z1] at E ⊢
    by_cases h1:z1 % (o:Int)=0
    ·have TS:Hid (cmpI (z1 % (o:Int)) 0=0):=cmpIq0.2 h1
     have TE:Hid (X1=O):=HX.out.2 h1
     clear h1
     go_upto_region 15 with (fail)
     refine rz [.p b11_3 6,.i 0,.t,.t,.i 0,.t,.t,.t,.i (o:Int),.i (o:Int),.t,.t,.t,.i 0,.t,.t,.t,.p b9_11 0,.w (f3 X1.a X1.b X1.c),.w (f3 O.a O.b O.c),.t,.n (z1 % (o:Int)),.i (cmpI (z1 % (o:Int)) 0),.t,.t,.t,.t,.t,.t,.t] N13 [] E (fun hp=>⟨qa b11_3 0 6 hp zw,wXc 6 hp (mq 2 rfl) zi,zo hp (sqi 1),zS,zAj hp fo gqi (sqo 19),zo hp (sqi 4),zt hp (sqi 3) (sqi 5),zS,zAj hp fo gqi (sqo 18),zAj hp fo gqi (sqo 16),zAt (F:=fun v _=>v=.int .i64 (o:Int)) (G:=fun v _=>v=.int .i64 (o:Int)) hp fo gqi (sqi 8) (sqi 9) (fun ρ w hc h h'=>⟨.bool true,by simp [execOp,go_sem,h,h'],rfl⟩),zt hp (sqi 7) (sqi 10),zS,zAj hp fo gqi (sqo 22),zo hp (sqi 13),zt hp (sqi 12) (sqi 14),zS,zg b9_11 0 0 hp zw,lG 0 6 hp gqi (mq 3 rfl) zAd zi fun v w h=>h,lG 0 6 hp gqi (mq 6 rfl) zAd zw fun v w h=>h,zC hp zFj zi zi (fun v v' w h h'=>zFk h h' (zLm TE.out)),zAx (off:=0) hp fo gqi (mq 1 rfl) (.inl rfl) (Nat.le_of_ble_eq_true rfl) (sqo 21) (fun us w hl h=>zAw hl h),zc hp zAz zi (fun v w h=>zA0 h),zO hp (sqi 22) TS.out,zAt (F:=fun v _=>v=.bool true) (G:=fun v _=>v=.bool true) hp fo gqi (sqi 20) (sqi 23) (fun ρ w hc h h'=>⟨.bool true,by simp [execOp,go_sem,h,h'],rfl⟩),zt hp (sqi 16) (sqi 24),zS,zAj hp fo gqi (sqo 7),zt hp (sqi 26) (sqi 27),zS,tv⟩) ?_
     intro w27 E _ _
     simp only [Z1] at E ⊢
     clear HT En Zn HDn HDD HNG HGC HB40 H4 EP OKP KP IP MP Ez1 HK1 Ez2 HK2 GX1 KX1 EX1 GX2 KX2 EX2 GX3 KX3 EX3 GG1 KG1 EG1 WX1X2 GO KO EO HO HO2 HON RO BO HX HG1 T6 HGO HI TK TS TE
     clear B8 B24 B25 Bz1 Bz2
     go_wp2
     exact zR (v:=.bool true) (by simp [results,Tryz.results6,go_sem]) E.below rfl
    ·have TS:Hid (¬ cmpI (z1 % (o:Int)) 0=0):=fun e=>h1 (cmpIq0.1 e)
     have TE:Hid (¬ X1=O):=fun e=>h1 (HX.out.1 e)
     clear h1
     go_upto_region 15 with (fail)
     refine rz [.p b11_3 6,.i 0,.t,.t,.i 0,.t,.t,.t,.i (o:Int),.i (o:Int),.t,.t,.t,.i 0,.t,.t,.t,.p b9_11 0,.w (f3 X1.a X1.b X1.c),.w (f3 O.a O.b O.c),.o,.n (z1 % (o:Int)),.i (cmpI (z1 % (o:Int)) 0),.o,.t,.t,.t,.t,.t,.t] N13 [] E (fun hp=>⟨qa b11_3 0 6 hp zw,wXc 6 hp (mq 2 rfl) zi,zo hp (sqi 1),zS,zAj hp fo gqi (sqo 19),zo hp (sqi 4),zt hp (sqi 3) (sqi 5),zS,zAj hp fo gqi (sqo 18),zAj hp fo gqi (sqo 16),zAt (F:=fun v _=>v=.int .i64 (o:Int)) (G:=fun v _=>v=.int .i64 (o:Int)) hp fo gqi (sqi 8) (sqi 9) (fun ρ w hc h h'=>⟨.bool true,by simp [execOp,go_sem,h,h'],rfl⟩),zt hp (sqi 7) (sqi 10),zS,zAj hp fo gqi (sqo 22),zo hp (sqi 13),zt hp (sqi 12) (sqi 14),zS,zg b9_11 0 0 hp zw,lG 0 6 hp gqi (mq 3 rfl) zAd zi fun v w h=>h,lG 0 6 hp gqi (mq 6 rfl) zAd zw fun v w h=>h,zC hp zFj zi zi (fun v v' w h h'=>zFk h h' (eqF_no TE.out)),zAx (off:=0) hp fo gqi (mq 1 rfl) (.inl rfl) (Nat.le_of_ble_eq_true rfl) (sqo 21) (fun us w hl h=>zAw hl h),zc hp zAz zi (fun v w h=>zA0 h),zO hp (sqi 22) TS.out,zAt (F:=fun v _=>v=.bool false) (G:=fun v _=>v=.bool false) hp fo gqi (sqi 20) (sqi 23) (fun ρ w hc h h'=>⟨.bool true,by simp [execOp,go_sem,h,h'],rfl⟩),zt hp (sqi 16) (sqi 24),zS,zAj hp fo gqi (sqo 7),zt hp (sqi 26) (sqi 27),zS,tv⟩) ?_
     intro w28 E _ _
     simp only [Z1] at E ⊢
     clear HT En Zn HDn HDD HNG HGC HB40 H4 EP OKP KP IP MP Ez1 HK1 Ez2 HK2 GX1 KX1 EX1 GX2 KX2 EX2 GX3 KX3 EX3 GG1 KG1 EG1 WX1X2 GO KO EO HO HO2 HON RO BO HX HG1 T6 HGO HI TK TS TE
     clear B8 B24 B25 Bz1 Bz2
     go_wp2
     exact zR (v:=.bool true) (by simp [results,Tryz.results6,go_sem]) E.below rfl

theorem zSr (w:World) (hT:Tabs w) (D i0 i1 i2 i3 m0 m1 m2 m3:Int) (hD:0≤D∧D≤65535) (hi0:0≤i0∧i0≤65535) (hi1:0≤i1∧i1≤65535) (hi2:0≤i2∧i2≤65535) (hi3:0≤i3∧i3≤65535) (hm0:0≤m0∧m0≤255) (hm1:0≤m1∧m1≤255) (hm2:0≤m2∧m2≤255) (hm3:0≤m3∧m3≤255) (n1:Bool) (a1:Option Addr) (k1 c1:Nat) (xs1:List Int) (h1:Sl w a1 k1 c1 xs1) (hk1:k1≤9223372036854775807) (n2:Bool) (a2:Option Addr) (k2 c2:Nat) (xs2:List Int) (h2:Sl w a2 k2 c2 xs2) (hk2:k2≤9223372036854775807):Calls Tryz.prog 6 #[.agg #[.int .u16 D,.int .u16 i0,.int .u16 i1,.int .u16 i2,.int .u16 i3,.int .u8 m0,.int .u8 m1,.int .u8 m2,.int .u8 m3],.agg #[.bool n1,.slice a1 k1 c1],.agg #[.bool n2,.slice a2 k2 c2]] w fun e w'=>e=.returned (.bool true)∧Below w.heap.size w w':=by
 refine (zSq w hT D i0 i1 i2 i3 m0 m1 m2 m3 hD hi0 hi1 hi2 hi3 hm0 hm1 hm2 hm3 n1 a1 k1 c1 xs1 h1 hk1 n2 a2 k2 c2 xs2 h2 hk2 ⟨[.int .u16 D,.int .u16 i0,.int .u16 i1,.int .u16 i2,.int .u16 i3,.int .u8 m0,.int .u8 m1,.int .u8 m2,.int .u8 m3],rfl,_,rfl,rfl,_,rfl,rfl,_,rfl,rfl,_,rfl,rfl,_,rfl,rfl,_,rfl,rfl,_,rfl,rfl,_,rfl,rfl,_,rfl,rfl,rfl⟩).mono ?_
 rintro e w' ⟨v',rfl,hb,rfl⟩
 exact ⟨rfl,hb⟩

end Go.Proofs.YtjadciofpgjofaaGreatDoor
