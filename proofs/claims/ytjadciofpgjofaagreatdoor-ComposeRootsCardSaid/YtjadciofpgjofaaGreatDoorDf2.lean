/- Rb, Fa, Gs, Ya, P, Nw, Rt, Rs, U, X, Bz, Be, Md, Li, V, W, Cv, Dg, Tx, Tt, Ex, Sk, Lw, Yb, Fr. -/
import Derived.Test.YtjadciofpgjofaaGreatDoorDf1
import Derived.Deep.Cut
import Derived.ArgAppend
import Derived.Laws.RangeString
import Derived.Laws.RangeAny
set_option linter.unusedSimpArgs false
set_option linter.unusedVariables false
set_option maxRecDepth 100000
set_option maxHeartbeats 8000000
namespace Go.Proofs.YtjadciofpgjofaaGreatDoor
open Go.RowKit

theorem zKo (w:World) (ax ay:Option Addr) (n m cx cy:Nat) (xs ys:List Int) (hX:Sl w ax n cx xs) (hY:Sl w ay m cy ys) (hcx:Canon xs) (hcy:Canon ys) (hb1:n≤4000000) (hb2:m≤4000000) :
  Calls Tryz.prog 101 #[.slice ax n cx,.slice ay m cy] w fun e w'=>e=.returned (.int .i64 (cmpI (val xs) (val ys)))∧Drawn w w':=by
 have hn:=hidd hX.len
 have hm:=hidd hY.len
 have hx:=hX.cells
 have hy:=hY.cells
 by_cases hnm:n=m
 ·subst hnm
  go_enter Tryz.func101,Tryz.ntmps101
  go_wp2
  go_loopw [5] (fun i wr=>∃ (k:Nat),k≤n∧i=.int .i64 ((k:Int)-1)∧Drawn w wr∧xs.drop k=ys.drop k) (fun i _=>(intOf i+1).toNat)
  case atStart=>exact ⟨n,Nat.le_refl _,rfl,⟨0,rfl⟩,by rw [List.drop_of_length_le (by rw [hn.out];omega),List.drop_of_length_le (by rw [hm.out];omega)]⟩
  case round=>
   obtain ⟨k,hk,rfl,hd,hv⟩:=hrel
   have HV:=hidd hv
   clear hv
   by_cases h0:0<k
   ·obtain ⟨b,off,rfl,hbl,x,hxc,hx0,hx1,HX⟩:=hx.at (k:=k-1) (by rw [hn.out];omega)
    obtain ⟨b2,off2,rfl,hbl2,y,hyc,hy0,hy1,HY⟩:=hy.at (k:=k-1) (by rw [hm.out];omega)
    have hxr:=(hd.cell _).trans hxc
    have hyr:=(hd.cell _).trans hyc
    have hkx:k-1<xs.length:=by rw [hn.out];omega
    have hln:xs.length=ys.length:=by rw [hn.out,hm.out]
    have HLN:=hidd hln
    clear hxc hyc hln
    by_cases he:x<y
    ·have hk1:k-1+1=k:=zm
     have HA:Hid (cmpI (val xs) (val ys)=-1):=by
      have:=zI5 hX.digs hY.digs hkx HLN.out (by rw [hk1];exact HV.out) (by rw [HX.out,HY.out];exact he)
      exact if_pos this
     clear hk1
     go_wp2
     go_quiet (fail)
     go_wp2
     go_ret
     refine ⟨?_,hd.drewN _⟩
     rw [HA.out];try rfl
    ·have hle:decide (x<y)=false:=by simp;omega
     by_cases hg:y<x
     ·have hk1:k-1+1=k:=zm
      have HA:Hid (cmpI (val xs) (val ys)=1):=by
       have hky:k-1<ys.length:=by have:=HLN.out;omega
       have:=zI5 hY.digs hX.digs hky HLN.out.symm (by rw [hk1];exact HV.out.symm) (by rw [HX.out,HY.out];exact hg)
       exact (if_neg zm).trans (if_neg zm)
      clear hk1
      go_wp2
      go_quiet (fail)
      go_wp2
      obtain ⟨w2,hw2⟩:∃ w2,w2=wr.drewN nq:=⟨_,rfl⟩
      rw [← hw2]
      have hd2:Drawn w w2:=by rw [hw2];exact hd.drewN _
      have hxr2:=(hd2.cell _).trans ((hd.cell _).symm.trans hxr)
      have hyr2:=(hd2.cell _).trans ((hd.cell _).symm.trans hyr)
      clear hw2 hxr hyr
      go_quiet (fail)
      go_wp2
      go_ret
      refine ⟨?_,hd2.drewN _⟩
      rw [HA.out];try rfl
     ·have hge:decide (y<x)=false:=by simp;omega
      have HE:Hid (x=y):=by show _=_;omega
      go_wp2
      go_quiet (fail)
      go_wp2
      obtain ⟨w2,hw2⟩:∃ w2,w2=wr.drewN nq:=⟨_,rfl⟩
      rw [← hw2]
      have hd2:Drawn w w2:=by rw [hw2];exact hd.drewN _
      have hxr2:=(hd2.cell _).trans ((hd.cell _).symm.trans hxr)
      have hyr2:=(hd2.cell _).trans ((hd.cell _).symm.trans hyr)
      clear hw2 hxr hyr
      go_quiet (fail)
      go_wp2
      go_roundw
      case rel=>
       refine ⟨k-1,zm,by go_num,hd2.drewN _,?_⟩
       exact zOc hkx HLN.out (by rw [show k-1+1=k from by omega];exact HV.out) (by rw [HX.out,HY.out];exact HE.out)
      case measure=>simp [intOf];omega
   ·go_wp2
    go_ret
    obtain rfl:k=0:=zm
    refine ⟨?_,hd⟩
    have e:xs=ys:=by simpa using HV.out
    subst e
    simp [cmpI]
 ·have h1:((n:Int) == m)=false:=by simp;omega
  have h2:((n:Int) != m)=true:=by simp;omega
  by_cases hlt:n<m
  ·have hli:((n:Int)<(m:Int)):=zm
   go_enter Tryz.func101,Tryz.ntmps101
   go_wp2
   go_ret
   refine ⟨?_,0,rfl⟩
   have:=Canon.lt_of_length hX.digs hcy (by rw [hn.out,hm.out];exact hlt)
   simp [cmpI,this]
  ·have hli:¬ ((n:Int)<(m:Int)):=zm
   go_enter Tryz.func101,Tryz.ntmps101
   go_wp2
   go_ret
   refine ⟨?_,0,rfl⟩
   have:=Canon.lt_of_length hY.digs hcx (by rw [hn.out,hm.out];omega)
   simp [cmpI,show ¬ val xs<val ys by omega,show ¬ val xs=val ys by omega]

theorem sgn_inj {a b:Bool} {xs ys:List Int} {n m:Nat} (hdx:Canon xs) (hdy:Canon ys) (hx:0≤val xs) (hy:0≤val ys) (hn:xs.length=n) (hm:ys.length=m) (ha:a=true→n≠0) (hb:b=true→m≠0) :
  (sgn a (val xs)=sgn b (val ys)) ↔ (a=b∧val xs=val ys):=by
 have hzx:=hdx.zero
 have hzy:=hdy.zero
 rw [hn] at hzx
 rw [hm] at hzy
 constructor
 ·intro h
  cases a <;> cases b <;> simp [sgn] at h ⊢
  ·exact h
  ·have:=hb rfl
   have:val ys≠0:=fun h=>this (hzy.2 h)
   omega
  ·have:=ha rfl
   have:val xs≠0:=fun h=>this (hzx.2 h)
   omega
  ·omega
 ·rintro ⟨rfl,h⟩
  rw [h]

theorem cmpI_zero {x y:Int}:cmpI x y=0 ↔ x=y:=by
 unfold cmpI
 split
 ·constructor <;> intro h <;> omega
 ·split
  ·constructor <;> intro h <;> omega
  ·constructor <;> intro h <;> omega

theorem Same_any (w:World) (na nb:Bool) (ax ay:Option Addr) (n m cx cy:Nat) (xs ys:List Int) (hX:Sl w ax n cx xs) (hY:Sl w ay m cy ys) (hcx:Canon xs) (hcy:Canon ys) (hna:na=true→n≠0) (hnb:nb=true→m≠0) (hb1:n≤4000000) (hb2:m≤4000000) :
  Calls Tryz.prog 49 #[.agg #[.bool na,.slice ax n cx],.agg #[.bool nb,.slice ay m cy]] w fun e w'=>e=.returned (.bool (decide (sgn na (val xs)=sgn nb (val ys))))∧Below w.heap.size w w':=by
 have hinj:=sgn_inj hcx hcy (zAm hX.digs) (zAm hY.digs) hX.len hY.len hna hnb
 obtain ⟨w0,hw0,hA,hB,hbl⟩:∃ w0,w0=(w.alloc (.cells #[.bool na,.slice ax n cx] 36)).alloc (.cells #[.bool nb,.slice ay m cy] 36)∧IntBox w0 w.heap.size (.bool na) (.slice ax n cx)∧IntBox w0 (w.heap.size+1) (.bool nb) (.slice ay m cy)∧Below w.heap.size w w0:=by
  refine ⟨_,rfl,?_,?_,?_⟩
  ·exact (IntBox.new w _ _ _).mono (zAh (w.alloc (.cells #[.bool na,.slice ax n cx] 36)) _) (by simp)
  ·have:=IntBox.new (w.alloc (.cells #[.bool na,.slice ax n cx] 36)) (.bool nb) (.slice ay m cy) 36
   rw [World.size_alloc] at this
   exact this
  ·exact ((Below.refl _ _).alloc (Nat.le_refl _) _).alloc (by simp) _
 have hX0:=hX.mono hbl
 have hY0:=hY.mono hbl
 obtain ⟨a0,a1,_,_⟩:=hA
 obtain ⟨b0,b1,_,_⟩:=hB
 by_cases hs:na=nb
 ·subst hs
  have hi:Hid (decide (sgn na (val xs)=sgn na (val ys))=decide (val xs=val ys)):=by
   show _=_
   rw [decide_eq_decide,hinj];simp
  clear hinj
  go_enter Tryz.func49,Tryz.ntmps49
  go_upto_region 1 with (fail)
  rw [← hw0]
  clear hw0
  have hbb:(na == na)=true:=by cases na <;> rfl
  go_wp2_with fail
  refine (zKo _ _ _ _ _ _ _ _ _ hX0 hY0 hcx hcy zm zm).mono ?_
  rintro e w1 ⟨rfl,hd⟩
  have hbl1:=hbl.trans (hd.below _)
  by_cases he:val xs=val ys
  ·have hc:cmpI (val xs) (val ys)=0:=cmpI_zero.2 he
   have hI:Hid (decide (sgn na (val xs)=sgn na (val ys))=true):=hi.out.trans (by simp [he])
   rw [hc]
   clear hc he hi
   go_wp2
   go_ret
   exact ⟨by rw [hI.out];try rfl,hbl1⟩
  ·have hc:cmpI (val xs) (val ys)≠0:=fun h=>he (cmpI_zero.1 h)
   have hI:Hid (decide (sgn na (val xs)=sgn na (val ys))=false):=hi.out.trans (by simp [he])
   generalize cmpI (val xs) (val ys)=t at *
   have hcb:(t == 0)=false:=by simp [hc]
   clear he hi hc
   go_wp2
   go_ret
   exact ⟨by rw [hI.out];try rfl,hbl1⟩
 ·have hi:Hid (decide (sgn na (val xs)=sgn nb (val ys))=false):=by
   show _=_
   simp only [decide_eq_false_iff_not]
   intro h;exact hs (hinj.1 h).1
  have hbb:(na == nb)=false:=by simp [hs]
  clear hinj hs
  go_enter Tryz.func49,Tryz.ntmps49
  go_upto_region 1 with (fail)
  rw [← hw0]
  clear hw0
  go_wp2
  go_ret
  exact ⟨by rw [hi.out];try rfl,hbl⟩

end Go.Proofs.YtjadciofpgjofaaGreatDoor
namespace Go.Proofs.YtjadciofpgjofaaGreatDoor
open Go Go.RowKit

inductive Fact where
 | num (z:Int)
 | tup (z z':Int)
 | int (z:Int)
 | is (u:Value)
 | any

def Fact.holds:Fact→Value→World→Prop
 | .num z,v,w=>Num w v z
 | .tup z z',v,w=>∃ v1 v2 v3,v=.tuple #[v1,v2,v3]∧Num w v1 z∧Num w v2 z'
 | .int z,v,_=>v=.int .i64 z
 | .is u,v,_=>v=u
 | .any,_,_=>True

theorem Fact.mono {f:Fact} {v:Value} {w w':World} (h:f.holds v w) (hb:Below w.heap.size w w'):f.holds v w':=by
 cases f with
 | num z=>exact Num.mono h hb
 | tup z z'=>
  obtain ⟨v1,v2,v3,e,h1,h2⟩:=h
  exact ⟨v1,v2,v3,e,h1.mono hb,h2.mono hb⟩
 | int z=>exact h
 | is u=>exact h
 | any=>trivial

theorem Fact.put {f:Fact} {v:Value} {w:World} {b:Nat} {y:Int} (h:f.holds v w) (hb:BoxNum w b y) (n':Bool) (a':Option Addr) (k' c':Nat):f.holds v (putBox w b n' a' k' c'):=by
 cases f with
 | num z=>exact Num.putBox h hb _ _ _ _
 | tup z z'=>
  obtain ⟨v1,v2,v3,e,h1,h2⟩:=h
  exact ⟨v1,v2,v3,e,h1.putBox hb _ _ _ _,h2.putBox hb _ _ _ _⟩
 | int z=>exact h
 | is u=>exact h
 | any=>trivial

def zAb (fs:List Fact) (old:List (Nat × Nat × Int × Int)) (new:List (Nat × Nat × Int)):Plan:=⟨fun j v w=>((fs[j]?).getD .any).holds v w,old,new⟩

theorem zGh {fs:List Fact} {old:List (Nat × Nat × Int × Int)} {new:List (Nat × Nat × Int)} {B B0:Nat} (h1:∀ o∈old,B≤o.1∧o.1<B0) (h2:∀ o∈old,∀ q∈old,o.2.1≠q.2.1→o.1≠q.1) (h3:∀ n∈new,∀ m∈new,n.1=m.1→n=m) (h4:B≤B0):(zAb fs old new).Ok B B0:=
 ⟨fun _ _ _ _ h hb=>Fact.mono h hb,fun _ _ _ _ _ n' a' k' c' h hb=>Fact.put h hb n' a' k' c',h1,h2,h3,h4⟩

theorem zGi {fs:List Fact} {old:List (Nat × Nat × Int × Int)} {new:List (Nat × Nat × Int)} {B:Nat} {w w1:World} (h:∀ o∈old,BoxNum w1 o.1 o.2.2.1) (hb:Below B w w1):(zAb fs old new).G B w1.heap.size w (fun _=>false) (fun _=>undef) w1.drew:=
 ⟨hb.drew,Nat.le_refl _,fun _ h=>(by cases h),fun o ho=>(by
  have h1:=h o ho
  have h2:BoxNum w1.drew o.1 o.2.2.1:=h1.mono (Below.refl _ _).drew
  simpa using h2),fun _ _ h=>(by cases h),fun _ _ _ _ _ h=>(by cases h)⟩

section
variable {os : List Oper} {Q : Exit → Act → World → Prop} {a : Act} {p : Plan} {B B0 : Nat} {w0 : World} {i s : Nat} {d : Option Tmp} {ty : TypeId} {ps : String} {af : Array Edge}

theorem st_zero (hp:p.Ok B B0) (hC:∀ w,p.C i (.agg #[.bool false,.slice none 0 0]) w) (hF:p.Free i):Step os Q a p B B0 w0 i { dst:=d,op:=.build 36 #[],type:=ty,pos:=ps,after:=af,guard:=none }:=by
 intro hio L vs w hG hL hd hc
 refine wpOp_step hio fun K' hK=>?_
 have h:=hK ((lay os.toArray L vs os.toArray.size a).put d (.agg #[.bool false,.slice none 0 0])) w ⟨_,rfl,hG.plain hp hL (Below.refl _ _) (hC _) hF.1 hF.2⟩
 have e:(execOp (lay os.toArray L vs os.toArray.size a).eval ({ dst:=d,op:=.build 36 #[],type:=ty,pos:=ps,after:=af,guard:=none }:Oper)).run Tryz.prog w=.ok (.value (.agg #[.bool false,.slice none 0 0])) w:=by
  generalize (lay os.toArray L vs os.toArray.size a).eval=ρ
  simp [execOp,go_sem]
 have hwn:Region.wanted ({ dst:=d,op:=.build 36 #[],type:=ty,pos:=ps,after:=af,guard:=none }:Oper) (yielded os.toArray (lay os.toArray L vs os.toArray.size a).tmps)=true:=rfl
 rw [if_pos hwn]
 unfold Oper.wp
 rw [e]
 exact h

end

structure Fc where
 P:Value→World→Prop
 mono:∀ {v:Value} {w w':World},P v w→Below w.heap.size w w'→P v w'
 put:∀ {v:Value} {w:World} {b:Nat} {y:Int},P v w→BoxNum w b y→∀ (n':Bool) (a':Option Addr) (k' c':Nat),P v (putBox w b n' a' k' c')

def Fc.num (z:Int):Fc:=⟨fun v w=>Num w v z,fun h hb=>h.mono hb,fun h hb _ _ _ _=>h.putBox hb _ _ _ _⟩
def Fc.pre (P:Value→Prop):Fc:=⟨fun v _=>P v,fun h _=>h,fun h _ _ _ _ _=>h⟩
def Fc.is (u:Value):Fc:=Fc.pre fun v=>v=u
def Fc.any:Fc:=Fc.pre fun _=>True
def Fc.tup (z z':Int):Fc:=⟨fun v w=>∃ v1 v2,v=.tuple #[v1,v2,.int .i64 0]∧Num w v1 z∧Num w v2 z',
 fun ⟨v1,v2,e,h1,h2⟩ hb=>⟨v1,v2,e,h1.mono hb,h2.mono hb⟩,fun ⟨v1,v2,e,h1,h2⟩ hb _ _ _ _=>⟨v1,v2,e,h1.putBox hb _ _ _ _,h2.putBox hb _ _ _ _⟩⟩
def Fc.sl (m:Nat) (ys:List Int):Fc:=⟨fun v w=>∃ ao c,v=.slice ao m c∧Sl w ao m c ys,fun ⟨ao,c,e,h⟩ hb=>⟨ao,c,e,h.mono hb⟩,fun ⟨ao,c,e,h⟩ hb n' a' k' c'=>by
 obtain ⟨p,q,r,t,hI,_⟩:=hb
 exact ⟨ao,c,e,h.putBox hI n' a' k' c'⟩⟩

def plan (fs:List Fc) (old:List (Nat × Nat × Int × Int)) (new:List (Nat × Nat × Int)):Plan:=⟨fun j v w=>((fs[j]?).getD Fc.any).P v w,old,new⟩

theorem zFc {fs:List Fc} {old:List (Nat × Nat × Int × Int)} {new:List (Nat × Nat × Int)} {B B0:Nat} (h1:∀ o∈old,B≤o.1∧o.1<B0) (h2:∀ o∈old,∀ q∈old,o.2.1≠q.2.1→o.1≠q.1) (h3:∀ n∈new,∀ m∈new,n.1=m.1→n=m) (h4:B≤B0):(plan fs old new).Ok B B0:=
 ⟨fun j _ _ _ h hb=>((fs[j]?).getD Fc.any).mono h hb,fun j _ _ _ _ n' a' k' c' h hb=>((fs[j]?).getD Fc.any).put h hb n' a' k' c',h1,h2,h3,h4⟩

theorem zFd {fs:List Fc} {old:List (Nat × Nat × Int × Int)} {new:List (Nat × Nat × Int)} {B:Nat} {w w1:World} (h:∀ o∈old,BoxNum w1 o.1 o.2.2.1) (hb:Below B w w1):(plan fs old new).G B w1.heap.size w (fun _=>false) (fun _=>undef) w1.drew:=
 ⟨hb.drew,Nat.le_refl _,fun _ h=>(by cases h),fun o ho=>(by
  have h1:=h o ho
  have h2:BoxNum w1.drew o.1 o.2.2.1:=h1.mono (Below.refl _ _).drew
  simpa using h2),fun _ _ h=>(by cases h),fun _ _ _ _ _ h=>(by cases h)⟩

section
variable {os : List Oper} {Q : Exit → Act → World → Prop} {a : Act} {p : Plan} {B B0 : Nat} {w0 : World}
variable {i s : Nat} {d : Option Tmp} {ty : TypeId} {ps : String} {af : Array Edge} {gd : Option (Nat × Bool)}

structure PMono (p:Plan) (B B0:Nat):Prop where
 mono:∀ j v w w',p.C j v w→Below w.heap.size w w'→p.C j v w'
 le:B≤B0

theorem PMono.of {p:Plan} {B B0:Nat} (h:p.Ok B B0):PMono p B B0:=⟨h.mono,h.le⟩

theorem Plan.G.plainM {p:Plan} {B B0:Nat} {w0 w w':World} {L:Nat→Bool} {vs:Nat→Value} (h:p.G B B0 w0 L vs w) (hp:PMono p B B0) {i:Nat} {v:Value} (hL:L i=false) (hb:Below w.heap.size w w') (hC:p.C i v w')
  (h1:∀ o∈p.old,o.2.1≠i) (h2:∀ n∈p.new,n.1≠i∧n.2.1≠i):p.G B B0 w0 (up L i true) (up vs i v) w' where
 below:=h.below.trans (hb.mono (Nat.le_trans hp.le h.size))
 size:=Nat.le_trans h.size hb.size
 val:=fun j hj=>by
  by_cases hji:j=i
  ·subst hji;rw [zBx];exact hC
  ·rw [zAg _ _ hji] at hj ⊢;exact hp.mono _ _ _ _ (h.val j hj) hb
 old:=fun o ho=>by rw [zAg _ _ (h1 o ho)];exact (h.old o ho).mono hb
 new:=fun n hn hj=>by
  rw [zAg _ _ (h2 n hn).1] at hj ⊢
  rw [zAg _ _ (h2 n hn).2]
  obtain ⟨b,e1,e2,e3⟩:=h.new n hn hj
  exact ⟨b,e1,e2,e3.mono hb⟩
 apart:=fun n hn m hm hne hj hk=>by
  rw [zAg _ _ (h2 n hn).1] at hj ⊢
  rw [zAg _ _ (h2 m hm).1] at hk ⊢
  exact h.apart n hn m hm hne hj hk

structure Fm where
 P:Value→World→Prop
 mono:∀ {v:Value} {w w':World},P v w→Below w.heap.size w w'→P v w'
def Fm.of (f:Fc):Fm:=⟨f.P,f.mono⟩
def Fm.any:Fm:=⟨fun _ _=>True,fun h _=>h⟩
def Src (os:List Oper) (a:Act) (p:Plan) (B B0:Nat) (w0:World) (af:Array Edge) (x:Operand) (F:Value→World→Prop):Prop:=
 ∀ L vs w,p.G B B0 w0 L vs w→(∀ e∈af,Region.binds .any e=true→L e.on=true)→F ((lay os.toArray L vs os.toArray.size a).eval x) w

def depA (af:Array Edge) (j:Nat):Bool:=af.toList.any fun e=>Region.binds .any e && e.on == j

theorem zGt {j:Nat} {L:Nat→Bool} (h:depA af j=true) (hd:∀ e∈af,Region.binds .any e=true→L e.on=true):L j=true:=by
 obtain ⟨e,he,h1⟩:=List.any_eq_true.1 h
 simp only [Bool.and_eq_true,beq_iff_eq] at h1
 rw [← h1.2]
 exact hd e (by simpa using he) h1.1

theorem zCd (j:Nat) {F:Value→World→Prop} (ha:zAy (os.map (·.dst))=true) (hj:(os.map (·.dst))[j]?=some (some s)) (hs:s<a.tmps.size) (hdep:depA af j=true) (hF:∀ v w,p.C j v w→F v w):Src os a p B B0 w0 af (.tmp s) F:=by
 intro L vs w hG hd
 have hLj:=zGt hdep hd
 rw [zC8 ha hLj hj hs]
 exact hF _ _ (hG.val j hLj)

theorem src_out {v:Value} {F:Value→World→Prop} (ho:(os.map (·.dst)).contains (some s)=false) (hx:a.eval (.tmp s)=v) (hF:∀ w,Below B w0 w→F v w):Src os a p B B0 w0 af (.tmp s) F:=by
 intro L vs w hG hd
 rw [(zJ2 ho _).trans hx]
 exact hF _ hG.below

theorem zKq {v:Value} {F:Value→World→Prop} (hF:∀ w,F v w):Src os a p B B0 w0 af (.const v) F:=fun _ _ _ _ _=>hF _

def Gd (os:List Oper) (a:Act) (p:Plan) (B B0:Nat) (w0:World) (af:Array Edge):Option (Nat × Bool)→Prop
 | none=>True
 | some (j,b)=>∀ L vs w,p.G B B0 w0 L vs w→(∀ e∈af,Region.binds .any e=true→L e.on=true)→yielded os.toArray (lay os.toArray L vs os.toArray.size a).tmps j=some b

theorem stg_run {o:Oper} (hp:PMono p B B0) (hF:p.Free i) (hg:Gd os a p B B0 w0 o.after o.guard) (hr:∀ L vs w,p.G B B0 w0 L vs w→(∀ e∈o.after,Region.binds .any e=true→L e.on=true) →
   ∃ v w',(execOp (lay os.toArray L vs os.toArray.size a).eval o).run Tryz.prog w=.ok (.value v) w'∧Below w.heap.size w w'∧p.C i v w'):Step os Q a p B B0 w0 i o:=by
 intro hio L vs w hG hL hd hc
 refine wpOp_step hio fun K' hK=>?_
 obtain ⟨v,w',hv,hb,hCv⟩:=hr L vs w hG hd
 have hwn:Region.wanted o (yielded os.toArray (lay os.toArray L vs os.toArray.size a).tmps)=true:=by
  unfold Region.wanted
  cases hgd:o.guard with
  | none=>rfl
  | some jb=>
   obtain ⟨j,b⟩:=jb
   rw [hgd] at hg
   have:=hg L vs w hG hd
   show (yielded os.toArray (lay os.toArray L vs os.toArray.size a).tmps j == some b)=true
   rw [this]
   cases b <;> rfl
 rw [if_pos hwn]
 unfold Oper.wp
 rw [hv]
 exact hK _ _ ⟨_,rfl,hG.plainM hp hL hb hCv hF.1 hF.2⟩

theorem stg_val {o:Oper} (hp:PMono p B B0) (hF:p.Free i) (hg:Gd os a p B B0 w0 o.after o.guard) (hr:∀ L vs w,p.G B B0 w0 L vs w→(∀ e∈o.after,Region.binds .any e=true→L e.on=true) →
   ∃ v,(execOp (lay os.toArray L vs os.toArray.size a).eval o).run Tryz.prog w=.ok (.value v) w∧p.C i v w):Step os Q a p B B0 w0 i o:=
 stg_run hp hF hg fun L vs w hG hd=>by
  obtain ⟨v,h1,h2⟩:=hr L vs w hG hd
  exact ⟨v,w,h1,Below.refl _ _,h2⟩

theorem zNl {f:FuncId} {xs:Array Operand} {ts:Array TypeId} (hp:PMono p B B0) (hF:p.Free i) (hg:Gd os a p B B0 w0 af gd) (hen:∀ args w,(callFunc f args).run Tryz.prog w=.ok (.enter f args) w)
  (hr:∀ L vs w,p.G B B0 w0 L vs w→(∀ e∈af,Region.binds .any e=true→L e.on=true)→∃ args,xs.map (lay os.toArray L vs os.toArray.size a).eval=args ∧
   Calls Tryz.prog f args w fun e w'=>∃ v',e=.returned v'∧Below w.heap.size w w'∧p.C i v' w') :
  Step os Q a p B B0 w0 i { dst:=d,op:=.call { callee:=.value (.func f),args:=xs,argTypes:=ts },type:=ty,pos:=ps,after:=af,guard:=gd }:=by
 intro hio L vs w hG hL hd hc
 refine wpOp_step hio fun K' hK=>?_
 obtain ⟨args,hx,hC⟩:=hr L vs w hG hd
 have hwn:Region.wanted ({ dst:=d,op:=.call { callee:=.value (.func f),args:=xs,argTypes:=ts },type:=ty,pos:=ps,after:=af,guard:=gd }:Oper) (yielded os.toArray (lay os.toArray L vs os.toArray.size a).tmps)=true:=by
  unfold Region.wanted
  cases gd with
  | none=>rfl
  | some jb=>
   obtain ⟨j,b⟩:=jb
   have:=hg L vs w hG hd
   show (yielded os.toArray (lay os.toArray L vs os.toArray.size a).tmps j == some b)=true
   rw [this]
   cases b <;> rfl
 rw [if_pos hwn]
 have e:(execOp (lay os.toArray L vs os.toArray.size a).eval ({ dst:=d,op:=.call { callee:=.value (.func f),args:=xs,argTypes:=ts },type:=ty,pos:=ps,after:=af,guard:=gd }:Oper)).run Tryz.prog w=(.ok (.enter f args) w):=by
  have hf:(lay os.toArray L vs os.toArray.size a).eval (.func f)=.func (.func f) #[] #[]:=rfl
  generalize (lay os.toArray L vs os.toArray.size a).eval=ρ at hx hf
  simp [execOp,go_sem,hx,hf,hen]
 unfold Oper.wp
 rw [e]
 refine hC.mono ?_
 rintro e' w' ⟨v',rfl,hb,h⟩
 exact hK _ _ ⟨_,rfl,hG.plainM hp hL hb h hF.1 hF.2⟩

theorem g_load {b:Nat} {z:Int} {x:Operand} (hp:PMono p B B0) (hF:p.Free i) (hg:Gd os a p B B0 w0 af gd) (hx:Src os a p B B0 w0 af x fun v w=>v=.pointer (some ⟨b,0,none⟩)∧BoxNum w b z)
  (hC:∀ v w,Num w v z→p.C i v w):Step os Q a p B B0 w0 i { dst:=d,op:=.load 36 x,type:=ty,pos:=ps,after:=af,guard:=gd }:=by
 refine stg_val hp hF hg fun L vs w hG hd=>?_
 obtain ⟨e,n,ao,kk,c,⟨c0,c1,_,_⟩,hN⟩:=hx L vs w hG hd
 refine ⟨_,?_,hC _ _ hN⟩
 generalize (lay os.toArray L vs os.toArray.size a).eval=ρ at e
 simp [execOp,go_sem,e,c0,c1]

theorem zJu {x:Operand} (hp:PMono p B B0) (hF:p.Free i) (hg:Gd os a p B B0 w0 af gd) (hx:Src os a p B B0 w0 af x (p.C i)):Step os Q a p B B0 w0 i { dst:=d,op:=.assign x,type:=ty,pos:=ps,after:=af,guard:=gd }:=by
 refine stg_val hp hF hg fun L vs w hG hd=>⟨_,?_,hx L vs w hG hd⟩
 simp [execOp,go_sem]

theorem g_call1 {x:Operand} {F:Value→World→Prop} {f:FuncId} {ts:Array TypeId} (hp:PMono p B B0) (hF:p.Free i) (hg:Gd os a p B B0 w0 af gd) (hen:∀ args w,(callFunc f args).run Tryz.prog w=.ok (.enter f args) w)
  (hx:Src os a p B B0 w0 af x F) (hC:∀ v w,F v w→Calls Tryz.prog f #[v] w fun e w'=>∃ v',e=.returned v'∧Below w.heap.size w w'∧p.C i v' w') :
  Step os Q a p B B0 w0 i { dst:=d,op:=.call { callee:=.value (.func f),args:=#[x],argTypes:=ts },type:=ty,pos:=ps,after:=af,guard:=gd }:=
 zNl hp hF hg hen fun L vs w hG hd=>⟨#[_],by simp,hC _ _ (hx L vs w hG hd)⟩

theorem zE8 {x y:Operand} {F G:Value→World→Prop} {f:FuncId} {ts:Array TypeId} (hp:PMono p B B0) (hF:p.Free i) (hg:Gd os a p B B0 w0 af gd) (hen:∀ args w,(callFunc f args).run Tryz.prog w=.ok (.enter f args) w)
  (hx:Src os a p B B0 w0 af x F) (hy:Src os a p B B0 w0 af y G) (hC:∀ v v' w,F v w→G v' w→Calls Tryz.prog f #[v,v'] w fun e w'=>∃ v',e=.returned v'∧Below w.heap.size w w'∧p.C i v' w') :
  Step os Q a p B B0 w0 i { dst:=d,op:=.call { callee:=.value (.func f),args:=#[x,y],argTypes:=ts },type:=ty,pos:=ps,after:=af,guard:=gd }:=
 zNl hp hF hg hen fun L vs w hG hd=>⟨#[_,_],by simp,hC _ _ _ (hx L vs w hG hd) (hy L vs w hG hd)⟩

end

def Tame (us:List Value):Prop:=∀ u∈us,∀ q,u≠.int .u32 q

def At (w:World) (b:Nat) (us:List Value):Prop:=∀ j,j<us.length→w.cell? ⟨b,j,none⟩=some (us.getD j undef)∧w.frozen? ⟨b,j,none⟩=false

def putFrom (w:World) (b:Nat):Nat→List Value→World
 | _,[]=>w
 | j,u::us=>putFrom (w.setCell ⟨b,j,none⟩ u) b (j+1) us

theorem zMy (b:Nat):∀ (us:List Value) (j:Nat) (w:World),(putFrom w b j us).heap.size=w.heap.size
 | [],_,_=>rfl
 | u::us,j,w=>by
  show (putFrom (w.setCell ⟨b,j,none⟩ u) b (j+1) us).heap.size=_
  rw [zMy b us,World.size_setCell]

theorem zId {B b:Nat} (hb:B≤b):∀ (us:List Value) (j:Nat) (w w':World),Below B w w'→Below B w (putFrom w' b j us)
 | [],_,_,_,h=>h
 | u::us,j,w,_,h=>zId hb us (j+1) w _ (h.setCell hb u)

theorem zMw (b:Nat) (x:Addr):∀ (us:List Value) (j:Nat) (w:World),(putFrom w b j us).frozen? x=w.frozen? x
 | [],_,_=>rfl
 | u::us,j,w=>by
  show (putFrom (w.setCell ⟨b,j,none⟩ u) b (j+1) us).frozen? x=_
  rw [zMw b x us,World.frozen?_setCell]

theorem zRf {b:Nat} {x:Addr} (h:x.block≠b):∀ (us:List Value) (j:Nat) (w:World),(putFrom w b j us).cell? x=w.cell? x
 | [],_,_=>rfl
 | u::us,j,w=>by
  show (putFrom (w.setCell ⟨b,j,none⟩ u) b (j+1) us).cell? x=_
  rw [zRf h us,World.cell?_setCell_other _ _ _ _ (by intro e;exact h (congrArg Addr.block e).symm)]

theorem zRd {b i:Nat}:∀ (us:List Value) (j:Nat) (w:World),i<j→(putFrom w b j us).cell? ⟨b,i,none⟩=w.cell? ⟨b,i,none⟩
 | [],_,_,_=>rfl
 | u::us,j,w,h=>by
  show (putFrom (w.setCell ⟨b,j,none⟩ u) b (j+1) us).cell? _=_
  rw [zRd us (j+1) _ zm,World.cell?_setCell_other _ _ _ _ (by intro e;injection e with e1 e2;omega)]

theorem zRe {b:Nat}:∀ (us:List Value) (j:Nat) (w:World),(∀ i,i<us.length→(w.cell? ⟨b,j+i,none⟩).isSome)→∀ i,i<us.length→(putFrom w b j us).cell? ⟨b,j+i,none⟩=some (us.getD i undef)
 | [],_,_,_,i,h=>by simp at h
 | u::us,j,w,hs,i,h=>by
  show (putFrom (w.setCell ⟨b,j,none⟩ u) b (j+1) us).cell? _=_
  match i,h with
  | 0,_=>
   rw [Nat.add_zero,zRd us (j+1) _ zm]
   refine World.cell?_setCell_same' _ _ _ ?_
   have:=hs 0 (by simp)
   simpa using this
  | i+1,h=>
   rw [show j+(i+1)=j+1+i by omega]
   have hl:i<us.length:=by simpa using h
   rw [zRe us (j+1) _ (fun k hk=>?_) i hl]
   ·simp
   ·rw [World.cell?_setCell_other _ _ _ _ (by intro e;injection e with e1 e2;omega)]
    have:=hs (k+1) (by simp;omega)
    rw [show j+1+k=j+(k+1) by omega]
    exact this

theorem At.put {w:World} {b:Nat} {us us':List Value} (h:At w b us) (hl:us'.length=us.length):At (putFrom w b 0 us') b us':=by
 intro j hj
 refine ⟨?_,by rw [zMw];exact (h j zm).2⟩
 have:=zRe (b:=b) us' 0 w (fun i hi=>by rw [Nat.zero_add,(h i zm).1];rfl) j hj
 rwa [Nat.zero_add] at this

theorem At.other {w:World} {b b':Nat} {us us':List Value} (h:At w b us) (hne:b≠b'):At (putFrom w b' 0 us') b us:=by
 intro j hj
 rw [zMw,zRf (by exact hne)]
 exact h j hj

theorem At.lt {w:World} {b:Nat} {us:List Value} (h:At w b us) (h0:0<us.length):b<w.heap.size:=World.block_lt_of_cell? w ⟨b,0,none⟩ (h 0 h0).1

theorem At.mono {w w':World} {b B:Nat} {us:List Value} (h:At w b us) (hb:Below B w w') (hlt:b<B):At w' b us:=by
 intro j hj
 obtain ⟨h1,h2⟩:=h j hj
 refine ⟨(hb.cell (p:=⟨b,j,none⟩) hlt).trans h1,?_⟩
 have:=hb.block b hlt
 unfold World.frozen? at h2 ⊢
 simp only [this]
 exact h2

theorem At.new (w:World) (us:List Value) (t:TypeId):At (w.alloc (.cells us.toArray t)) w.heap.size us:=by
 intro j hj
 have h:=heap_alloc_new w (.cells us.toArray t)
 refine ⟨?_,?_⟩
 ·rw [cell_of_row _ _ _ _ _ (0,0) h]
  simp [hj]
 ·simp only [World.frozen?]
  rw [h]
  simp

theorem Sl.putFrom {b:Nat} {ao:Option Addr} {n c:Nat} {xs:List Int}:∀ (us:List Value) (j:Nat) (w:World),(∀ i,i<us.length→∃ v,w.cell? ⟨b,j+i,none⟩=some v∧∀ q,v≠.int .u32 q)→Sl w ao n c xs→Sl (putFrom w b j us) ao n c xs
 | [],_,_,_,h=>h
 | u::us,j,w,hs,h=>by
  show Sl (Go.Proofs.YtjadciofpgjofaaGreatDoor.putFrom (w.setCell ⟨b,j,none⟩ u) b (j+1) us) ao n c xs
  obtain ⟨v,hv,hq⟩:=hs 0 (by simp)
  refine Sl.putFrom us (j+1) _ (fun i hi=>?_) (h.setOther (a:=⟨b,j,none⟩) hv hq u)
  obtain ⟨v2,hv2,hq2⟩:=hs (i+1) (by simp;omega)
  refine ⟨v2,?_,hq2⟩
  rw [World.cell?_setCell_other _ _ _ _ (by intro e;injection e with e1 e2;omega),show j+1+i=j+(i+1) by omega]
  exact hv2

theorem Sl.putAt {w:World} {b:Nat} {us us':List Value} {ao:Option Addr} {n c:Nat} {xs:List Int} (h:Sl w ao n c xs) (ha:At w b us) (ht:Tame us) (hl:us'.length=us.length):Sl (Go.Proofs.YtjadciofpgjofaaGreatDoor.putFrom w b 0 us') ao n c xs:=
 Sl.putFrom us' 0 w (fun i hi=>⟨us.getD i undef,by rw [Nat.zero_add];exact (ha i zm).1,ht _ (by
  have:i<us.length:=zm
  have e:us.getD i undef=us[i]:=by simp [List.getD,this]
  rw [e];exact List.getElem_mem _)⟩) h

theorem Num.putAt {w:World} {b:Nat} {us us':List Value} {v:Value} {z:Int} (h:Num w v z) (ha:At w b us) (ht:Tame us) (hl:us'.length=us.length):Num (putFrom w b 0 us') v z:=by
 obtain ⟨neg,ao,n,c,xs,hv,hs,hn,hz⟩:=h
 exact ⟨neg,ao,n,c,xs,hv,hs.putAt ha ht hl,hn,hz⟩

structure Fq where
 P:Value→World→Prop
 mono:∀ {v:Value} {w w':World},P v w→Below w.heap.size w w'→P v w'
 put:∀ {v:Value} {w:World} {b:Nat} {us us':List Value},P v w→At w b us→Tame us→us'.length=us.length→P v (putFrom w b 0 us')

def Fq.num (z:Int):Fq:=⟨fun v w=>Num w v z,fun h hb=>h.mono hb,fun h ha ht hl=>h.putAt ha ht hl⟩
def Fq.pre (P:Value→Prop):Fq:=⟨fun v _=>P v,fun h _=>h,fun h _ _ _=>h⟩
def Fq.is (u:Value):Fq:=Fq.pre fun v=>v=u
def Fq.any:Fq:=Fq.pre fun _=>True
def Fq.tup2 (F G:Fq):Fq:=⟨fun v w=>∃ v1 v2,v=.tuple #[v1,v2]∧F.P v1 w∧G.P v2 w,fun ⟨v1,v2,e,h1,h2⟩ hb=>⟨v1,v2,e,F.mono h1 hb,G.mono h2 hb⟩,fun ⟨v1,v2,e,h1,h2⟩ ha ht hl=>⟨v1,v2,e,F.put h1 ha ht hl,G.put h2 ha ht hl⟩⟩
def Fq.tup3 (F G H:Fq):Fq:=⟨fun v w=>∃ v1 v2 v3,v=.tuple #[v1,v2,v3]∧F.P v1 w∧G.P v2 w∧H.P v3 w,fun ⟨v1,v2,v3,e,h1,h2,h3⟩ hb=>⟨v1,v2,v3,e,F.mono h1 hb,G.mono h2 hb,H.mono h3 hb⟩,
 fun ⟨v1,v2,v3,e,h1,h2,h3⟩ ha ht hl=>⟨v1,v2,v3,e,F.put h1 ha ht hl,G.put h2 ha ht hl,H.put h3 ha ht hl⟩⟩
def Pair (w:World) (v:Value) (n d:Int):Prop:=∃ p q r s,v=.agg #[p,q,r,s]∧Num w (.agg #[p,q]) n∧Num w (.agg #[r,s]) d
def Fq.pair (n d:Int):Fq:=⟨fun v w=>Pair w v n d,fun ⟨p,q,r,s,e,h1,h2⟩ hb=>⟨p,q,r,s,e,h1.mono hb,h2.mono hb⟩,fun ⟨p,q,r,s,e,h1,h2⟩ ha ht hl=>⟨p,q,r,s,e,h1.putAt ha ht hl,h2.putAt ha ht hl⟩⟩

theorem Pair.mono {w w':World} {v:Value} {n d:Int} (h:Pair w v n d) (hb:Below w.heap.size w w'):Pair w' v n d:=(Fq.pair n d).mono h hb

def Bq (w:World) (b m:Nat) (F:Fq):Prop:=∃ us:List Value,us.length=m∧0<m∧At w b us∧Tame us∧F.P (.agg us.toArray) w

theorem Bq.lt {w:World} {b m:Nat} {F:Fq} (h:Bq w b m F):b<w.heap.size:=by
 obtain ⟨us,h1,h2,h3,_⟩:=h
 exact h3.lt zm
theorem Bq.mono {w w':World} {b m:Nat} {F:Fq} (h:Bq w b m F) (hb:Below w.heap.size w w'):Bq w' b m F:=by
 have hl:=h.lt
 obtain ⟨us,h1,h2,h3,h4,h5⟩:=h
 exact ⟨us,h1,h2,h3.mono hb hl,h4,F.mono h5 hb⟩
theorem Bq.other {w:World} {b b' m m':Nat} {F F':Fq} (h:Bq w b m F) (h':Bq w b' m' F') (hne:b≠b') {us':List Value} (hl:us'.length=m'):Bq (putFrom w b' 0 us') b m F:=by
 obtain ⟨us,h1,h2,h3,h4,h5⟩:=h
 obtain ⟨vs,g1,g2,g3,g4,g5⟩:=h'
 exact ⟨us,h1,h2,h3.other hne,h4,F.put h5 g3 g4 zm⟩
theorem Bq.same {w:World} {b m:Nat} {F F':Fq} (h:Bq w b m F) {us':List Value} (hl:us'.length=m) (ht:Tame us') (hF:F'.P (.agg us'.toArray) w):Bq (putFrom w b 0 us') b m F':=by
 obtain ⟨us,h1,h2,h3,h4,h5⟩:=h
 exact ⟨us',hl,h2,h3.put zm,ht,F'.put hF h3 h4 zm⟩

structure Ob where
 b:Nat
 k:Nat
 m:Nat
 F0:Fq
 F1:Fq
inductive Knd where
 | sl (l:Nat)
 | clo (f:FuncId)
@[reducible] instance (l : Nat) : OfNat Knd l := ⟨.sl l⟩
instance:Coe Nat Knd:=⟨.sl⟩
def cloV (f:FuncId) (b:Nat):Value:=.func (.func f) #[] #[.pointer (some ⟨b,0,none⟩)]
structure Nb where
 i:Nat
 k:Nat
 m:Nat
 F0:Fq
 F1:Fq
 /-- A slice,a function,or nothing for a pointer. -/
 s:Option Knd
def zE6:Value→Nat
 | .pointer (some x)=>x.block
 | .slice (some x) _ _=>x.block
 | .func _ _ ⟨.pointer (some x)::_⟩=>x.block
 | _=>0
def Nb.ptr (n:Nb) (b:Nat):Value:=match n.s with
 | none=>.pointer (some ⟨b,0,none⟩)
 | some (.sl l)=>.slice (some ⟨b,0,none⟩) l l
 | some (.clo f)=>cloV f b
theorem Nb.block_ptr (n:Nb) (b:Nat):zE6 (n.ptr b)=b:=by
 unfold Nb.ptr
 split <;> rfl
def Nb.now (n:Nb) (L:Nat→Bool):Fq:=if (n.s.isSome || L n.k)=true then n.F1 else n.F0
theorem Nb.now_up {n:Nb} {L:Nat→Bool} {i:Nat} {t:Bool} (h:n.k≠i):n.now (up L i t)=n.now L:=by
 unfold Nb.now
 rw [zAg _ _ h]
theorem Nb.now_same (n:Nb) (L:Nat→Bool):n.now (up L n.k true)=n.F1:=by
 unfold Nb.now
 rw [zBx,Bool.or_true,if_pos rfl]
theorem Nb.now_on {n:Nb} {L:Nat→Bool} (h:L n.k=true):n.now L=n.F1:=by
 unfold Nb.now
 rw [h,Bool.or_true,if_pos rfl]
theorem Nb.now_off {n:Nb} {L:Nat→Bool} (hs:n.s=none) (h:L n.k=false):n.now L=n.F0:=by
 unfold Nb.now
 rw [h,hs]
 rfl
structure Pq where
 C:List Fq
 old:List Ob
 new:List Nb
def Pq.c (p:Pq) (j:Nat):Fq:=(p.C[j]?).getD Fq.any

structure Pq.G (p:Pq) (B B0:Nat) (w0:World) (L:Nat→Bool) (vs:Nat→Value) (w:World):Prop where
 below:Below B w0 w
 size:B0≤w.heap.size
 val:∀ j,L j=true→(p.c j).P (vs j) w
 old:∀ o∈p.old,Bq w o.b o.m (if L o.k then o.F1 else o.F0)
 new:∀ n∈p.new,L n.i=true→∃ b,vs n.i=n.ptr b∧B0≤b∧Bq w b n.m (n.now L)
 apart:∀ n∈p.new,∀ m∈p.new,n.i≠m.i→L n.i=true→L m.i=true→zE6 (vs n.i)≠zE6 (vs m.i)

structure Pq.Ok (p:Pq) (B B0:Nat):Prop where
 oldlt:∀ o∈p.old,B≤o.b∧o.b<B0
 oldne:∀ o∈p.old,∀ q∈p.old,o.k≠q.k→o.b≠q.b
 oldinj:∀ o∈p.old,∀ q∈p.old,o.k=q.k→o=q
 newinj:∀ n∈p.new,∀ m∈p.new,n.i=m.i→n=m
 newink:∀ n∈p.new,∀ m∈p.new,n.k=m.k→n=m
 le:B≤B0

def Pq.Free (p:Pq) (i:Nat):Prop:=(∀ o∈p.old,o.k≠i)∧∀ n∈p.new,n.i≠i∧n.k≠i

theorem Pq.G.plain {p:Pq} {B B0:Nat} {w0 w w':World} {L:Nat→Bool} {vs:Nat→Value} (h:p.G B B0 w0 L vs w) (hp:p.Ok B B0) {i:Nat} {v:Value} (hF:p.Free i) (hb:Below w.heap.size w w') (hC:(p.c i).P v w') :
  p.G B B0 w0 (up L i true) (up vs i v) w' where
 below:=h.below.trans (hb.mono (Nat.le_trans hp.le h.size))
 size:=Nat.le_trans h.size hb.size
 val:=fun j hj=>by
  by_cases hji:j=i
  ·subst hji;rw [zBx];exact hC
  ·rw [zAg _ _ hji] at hj ⊢;exact (p.c j).mono (h.val j hj) hb
 old:=fun o ho=>by rw [zAg _ _ (hF.1 o ho)];exact (h.old o ho).mono hb
 new:=fun n hn hj=>by
  rw [zAg _ _ (hF.2 n hn).1] at hj ⊢
  rw [Nb.now_up (hF.2 n hn).2]
  obtain ⟨b,e1,e2,e3⟩:=h.new n hn hj
  exact ⟨b,e1,e2,e3.mono hb⟩
 apart:=fun n hn m hm hne hj hk=>by
  rw [zAg _ _ (hF.2 n hn).1] at hj ⊢
  rw [zAg _ _ (hF.2 m hm).1] at hk ⊢
  exact h.apart n hn m hm hne hj hk

theorem Pq.G.lay {p:Pq} {B B0:Nat} {w0 w:World} {L:Nat→Bool} {vs:Nat→Value} (h:p.G B B0 w0 L vs w) (hp:p.Ok B B0) {n0:Nb} (hi:n0∈p.new) {F:Fq} (hk:n0.now (up L n0.i true)=F)
  (hC:∀ v w',(p.c n0.i).P v w') (h1:∀ o∈p.old,o.k≠n0.i) (h2:∀ n∈p.new,n.i≠n0.i→n.k≠n0.i) (t:TypeId) {us:List Value} (hl:us.length=n0.m) (h0:0<n0.m) (ht:Tame us) (hF:F.P (.agg us.toArray) (w.alloc (.cells us.toArray t))) :
  p.G B B0 w0 (up L n0.i true) (up vs n0.i (n0.ptr w.heap.size)) (w.alloc (.cells us.toArray t)):=by
 have hb:=zAh w (.cells us.toArray t)
 have hbx:Bq (w.alloc (.cells us.toArray t)) w.heap.size n0.m F:=⟨us,hl,h0,At.new w us t,ht,hF⟩
 refine ⟨h.below.trans (hb.mono (Nat.le_trans hp.le h.size)),Nat.le_trans h.size hb.size,fun j hj=>?_,fun o ho=>?_,fun n hn hj=>?_,fun n hn m hm hne hj hk'=>?_⟩
 ·by_cases hji:j=n0.i
  ·subst hji;exact hC _ _
  ·rw [zAg _ _ hji] at hj ⊢;exact (p.c j).mono (h.val j hj) hb
 ·rw [zAg _ _ (h1 o ho)];exact (h.old o ho).mono hb
 ·by_cases hni:n.i=n0.i
  ·have e:=hp.newinj n hn _ hi hni
   subst e
   rw [zBx,hk]
   exact ⟨_,rfl,h.size,hbx⟩
  ·rw [Nb.now_up (h2 n hn hni)]
   rw [zAg _ _ hni] at hj ⊢
   obtain ⟨b,e1,e2,e3⟩:=h.new n hn hj
   exact ⟨b,e1,e2,e3.mono hb⟩
 ·by_cases hni:n.i=n0.i
  ·have hmi:m.i≠n0.i:=fun e=>hne (hni.trans e.symm)
   rw [hni,zBx]
   rw [zAg _ _ hmi] at hk' ⊢
   obtain ⟨b,e1,e2,e3⟩:=h.new m hm hk'
   rw [e1,Nb.block_ptr,Nb.block_ptr]
   have:=e3.lt
   omega
  ·rw [zAg _ _ hni] at hj ⊢
   by_cases hmi:m.i=n0.i
   ·rw [hmi,zBx]
    obtain ⟨b,e1,e2,e3⟩:=h.new n hn hj
    rw [e1,Nb.block_ptr,Nb.block_ptr]
    have:=e3.lt
    omega
   ·rw [zAg _ _ hmi] at hk' ⊢
    exact h.apart n hn m hm hne hj hk'

theorem Pq.G.alloc {p:Pq} {B B0:Nat} {w0 w:World} {L:Nat→Bool} {vs:Nat→Value} (h:p.G B B0 w0 L vs w) (hp:p.Ok B B0) {n0:Nb} (hi:n0∈p.new) (hsl:n0.s=none) (hk:L n0.k=false) (hki:n0.k≠n0.i)
  (hC:∀ v w',(p.c n0.i).P v w') (h1:∀ o∈p.old,o.k≠n0.i) (h2:∀ n∈p.new,n.k≠n0.i) (t:TypeId) {us:List Value} (hl:us.length=n0.m) (h0:0<n0.m) (ht:Tame us) (hF:∀ w',n0.F0.P (.agg us.toArray) w') :
  p.G B B0 w0 (up L n0.i true) (up vs n0.i (.pointer (some ⟨w.heap.size,0,none⟩))) (w.alloc (.cells us.toArray t)):=by
 have:=h.lay hp hi (F:=n0.F0) (by rw [Nb.now_up hki];exact Nb.now_off hsl hk) hC h1 (fun n hn _=>h2 n hn) t hl h0 ht (hF _)
 have e:n0.ptr w.heap.size=.pointer (some ⟨w.heap.size,0,none⟩):=by unfold Nb.ptr;rw [hsl]
 rwa [e] at this

theorem Pq.G.storeNew {p:Pq} {B B0:Nat} {w0 w:World} {L:Nat→Bool} {vs:Nat→Value} (h:p.G B B0 w0 L vs w) (hp:p.Ok B B0) {n0:Nb} (hi:n0∈p.new) (hLi:L n0.i=true)
  {us:List Value} (hl:us.length=n0.m) (ht:Tame us) (hF:n0.F1.P (.agg us.toArray) w) (hC:∀ v w',(p.c n0.k).P v w') (h1:∀ o∈p.old,o.k≠n0.k) (h2:∀ n∈p.new,n.i≠n0.k) {b:Nat} (hb:vs n0.i=n0.ptr b) (v:Value) :
  p.G B B0 w0 (up L n0.k true) (up vs n0.k v) (putFrom w b 0 us):=by
 obtain ⟨b',hb',hB0,hbox⟩:=h.new _ hi hLi
 have hbb:b'=b:=by
  have:=congrArg zE6 (hb'.symm.trans hb)
  rwa [Nb.block_ptr,Nb.block_ptr] at this
 subst hbb
 have hsz:B0≤(putFrom w b' 0 us).heap.size:=by rw [zMy];exact h.size
 have hbox0:=hbox
 obtain ⟨us0,g1,g2,g3,g4,g5⟩:=hbox0
 refine ⟨zId (Nat.le_trans hp.le hB0) us 0 _ _ h.below,hsz,fun j hj=>?_,fun o ho=>?_,fun n hn hj=>?_,fun n hn m hm hne hj hk'=>?_⟩
 ·by_cases hji:j=n0.k
  ·subst hji;exact hC _ _
  ·rw [zAg _ _ hji] at hj ⊢;exact (p.c j).put (h.val j hj) g3 g4 zm
 ·rw [zAg _ _ (h1 o ho)]
  exact (h.old o ho).other hbox (by have:=(hp.oldlt o ho).2;omega) hl
 ·rw [zAg _ _ (h2 n hn)] at hj ⊢
  by_cases hnk:n.k=n0.k
  ·have e:=hp.newink n hn _ hi hnk
   subst e
   refine ⟨b',hb',hB0,?_⟩
   rw [Nb.now_same]
   exact hbox.same hl ht hF
  ·rw [Nb.now_up hnk]
   obtain ⟨b2,e1,e2,e3⟩:=h.new n hn hj
   refine ⟨b2,e1,e2,e3.other hbox (fun e=>?_) hl⟩
   have hni:n.i≠n0.i:=fun e'=>by
    have e2:=hp.newinj n hn _ hi e'
    exact hnk (by rw [e2])
   exact h.apart n hn _ hi hni hj hLi (by rw [e1,hb',Nb.block_ptr,Nb.block_ptr,e])
 ·rw [zAg _ _ (h2 n hn)] at hj ⊢
  rw [zAg _ _ (h2 m hm)] at hk' ⊢
  exact h.apart n hn m hm hne hj hk'

theorem Pq.G.storeOld {p:Pq} {B B0:Nat} {w0 w:World} {L:Nat→Bool} {vs:Nat→Value} (h:p.G B B0 w0 L vs w) (hp:p.Ok B B0) {o0:Ob} (hi:o0∈p.old)
  {us:List Value} (hl:us.length=o0.m) (ht:Tame us) (hF:o0.F1.P (.agg us.toArray) w) (hC:∀ v w',(p.c o0.k).P v w') (h2:∀ n∈p.new,n.i≠o0.k∧n.k≠o0.k) (v:Value) :
  p.G B B0 w0 (up L o0.k true) (up vs o0.k v) (putFrom w o0.b 0 us):=by
 have hbox:=h.old _ hi
 have hblt:=hp.oldlt _ hi
 have hsz:B0≤(putFrom w o0.b 0 us).heap.size:=by rw [zMy];exact h.size
 have hbox0:=hbox
 obtain ⟨us0,g1,g2,g3,g4,g5⟩:=hbox0
 refine ⟨zId hblt.1 us 0 _ _ h.below,hsz,fun j hj=>?_,fun o ho=>?_,fun n hn hj=>?_,fun n hn m hm hne hj hk'=>?_⟩
 ·by_cases hji:j=o0.k
  ·subst hji;exact hC _ _
  ·rw [zAg _ _ hji] at hj ⊢;exact (p.c j).put (h.val j hj) g3 g4 zm
 ·by_cases hok:o.k=o0.k
  ·have e:=hp.oldinj o ho _ hi hok
   subst e
   rw [zBx]
   exact hbox.same hl ht hF
  ·rw [zAg _ _ hok]
   exact (h.old o ho).other hbox (hp.oldne o ho _ hi hok) hl
 ·rw [zAg _ _ (h2 n hn).1] at hj ⊢
  rw [Nb.now_up (h2 n hn).2]
  obtain ⟨b2,e1,e2,e3⟩:=h.new n hn hj
  exact ⟨b2,e1,e2,e3.other hbox (by have:=hblt.2;omega) hl⟩
 ·rw [zAg _ _ (h2 n hn).1] at hj ⊢
  rw [zAg _ _ (h2 m hm).1] at hk' ⊢
  exact h.apart n hn m hm hne hj hk'

theorem zNu {P:Program} {ops:Array Oper} {Q:Exit→Act→World→Prop} {id:Nat} {a:Act} {w:World} (hA:zHh ops)
  (hB:∀ i o,ops[i]?=some o→∀ e∈o.after,Region.binds .any e=true→e.on<i) (G:(Nat→Bool)→(Nat→Value)→World→Prop)
  (h0:G (fun _=>false) (fun _=>undef) w)
  (hs:∀ i o,ops[i]?=some o→∀ L vs w,G L vs w→L i=false→(∀ e∈o.after,Region.binds .any e=true→L e.on=true)→zDb ops L →
   wpOp P ops Q i (fun a' w'=>∃ v,a'=(lay ops L vs ops.size a).put o.dst v∧G (up L i true) (up vs i v) w') (lay ops L vs ops.size a) w)
  (hf:∀ L vs w,(∀ j,j<ops.size→L j=true)→G L vs w→Q .normal (lay ops L vs ops.size a) w):(Code.region id ops false).wp P Q a w:=by
 refine wp_region ?_
 have hL1:∀ i,up (fun j=>decide (j<i)) i true=fun j=>decide (j<i+1):=fun i=>by
  funext j
  unfold up
  split
  ·rename_i h;subst h;simp
  ·rename_i h;simp;omega
 have key:∀ (k i:Nat) (vs:Nat→Value) (w':World),i+k=ops.size→G (fun j=>decide (j<i)) vs w'→wpOps P ops Q (List.range' i k) (lay ops (fun j=>decide (j<i)) vs ops.size a) w':=by
  intro k
  induction k with
  | zero=>
   intro i vs w' hi hG
   show Q .normal _ _
   exact hf _ vs w' (fun j hj=>by simp;omega) hG
  | succ k ih=>
   intro i vs w' hi hG
   rw [List.range'_succ,wpOps_cons]
   have hlt:i<ops.size:=zm
   have ho:ops[i]?=some ops[i]:=by simp [hlt]
   refine wpOp_mono ?_ (hs i _ ho _ vs w' hG (by simp) (fun e he hb=>by have:=hB i _ ho e he hb;simpa using this) (fun j o hj hl e he hb=>by have h1:=hB j o hj e he hb;simp at hl ⊢;omega))
   rintro a2 w2 ⟨v,rfl,hG2⟩
   have hdst:zBq ops i=ops[i].dst:=by simp [zBq,hlt]
   have h3:=zL6 (L:=fun j=>decide (j<i)) (vs:=vs) (i:=i) (v:=v) hA (by simp) ops.size a hlt
   rw [hL1] at hG2 h3
   rw [← hdst,← h3]
   exact ih (i+1) (up vs i v) w2 zm hG2
 have h:=key ops.size 0 (fun _=>undef) w zm (by simpa using h0)
 rw [List.range_eq_range']
 have e:∀ k,lay ops (fun j=>decide (j<0)) (fun _=>undef) k a=a:=fun k=>by
  induction k with
  | zero=>rfl
  | succ k ih=>simp only [lay,ih];simp
 rw [e] at h
 exact h

structure Fr (w0:World) (bs:List (Nat × Nat × Fq)) (W:World):Prop where
 below:Below w0.heap.size w0 W
 boxes:∀ x∈bs,w0.heap.size≤x.1∧Bq W x.1 x.2.1 x.2.2
 apart:(bs.map (·.1)).Nodup

theorem Fr.mono {w0 W W':World} {bs:List (Nat × Nat × Fq)} (h:Fr w0 bs W) (hb:Below W.heap.size W W'):Fr w0 bs W':=
 ⟨h.below.trans (hb.mono h.below.size),fun x hx=>⟨(h.boxes x hx).1,(h.boxes x hx).2.mono hb⟩,h.apart⟩

theorem Fr.start (w0:World):Fr w0 [] w0:=⟨Below.refl _ _,fun _ h=>by simp at h,by simp⟩

theorem Fr.push {w0 W:World} {bs:List (Nat × Nat × Fq)} (h:Fr w0 bs W) {m:Nat} {F:Fq} {us:List Value} (t:TypeId) (hl:us.length=m) (h0:0<m) (ht:Tame us) (hF:F.P (.agg us.toArray) W) :
  Fr w0 ((W.heap.size,m,F)::bs) (W.alloc (.cells us.toArray t)):=by
 have hb:=zAh W (.cells us.toArray t)
 have h2:=h.mono hb
 refine ⟨h2.below,fun x hx=>?_,?_⟩
 ·rcases List.mem_cons.1 hx with rfl | hx
  ·exact ⟨h.below.size,us,hl,h0,At.new W us t,ht,F.mono hF hb⟩
  ·exact h2.boxes x hx
 ·rw [List.map_cons,List.nodup_cons]
  refine ⟨fun hm=>?_,h.apart⟩
  obtain ⟨x,hx,e⟩:=List.mem_map.1 hm
  have:=(h.boxes x hx).2.lt
  omega

def zAx:List (Nat × Nat × Fq)→List (Option (Nat × Fq))→Nat→List Ob
 | (b,m,F)::r,none::ks,d=>⟨b,d,m,F,F⟩ :: zAx r ks (d+1)
 | (b,m,F)::r,some (k,F1)::ks,d=>⟨b,k,m,F,F1⟩ :: zAx r ks (d+1)
 | _,_,_=>[]
def zAj:List (Nat × Nat × Fq)→List (Option (Nat × Fq))→List (Nat × Nat × Fq)
 | (b,m,F)::r,none::ks=>(b,m,F)::zAj r ks
 | (b,m,_)::r,some (_,F1)::ks=>(b,m,F1)::zAj r ks
 | _,_=>[]

def zDw:List (Option (Nat × Fq))→Nat→List Nat
 | none::ks,d=>d::zDw ks (d+1)
 | some (k,_)::ks,d=>k::zDw ks (d+1)
 | [],_=>[]

theorem zGk {bs:List (Nat × Nat × Fq)} {ks:List (Option (Nat × Fq))} {d:Nat} {o:Ob} (h:o∈zAx bs ks d):(o.b,o.m,o.F0)∈bs:=by
 induction bs generalizing ks d with
 | nil=>simp [zAx] at h
 | cons x r ih=>
  obtain ⟨b,m,F⟩:=x
  cases ks with
  | nil=>simp [zAx] at h
  | cons k ks=>
   cases k with
   | none=>
    simp only [zAx,List.mem_cons] at h
    rcases h with rfl | h
    ·simp
    ·exact List.mem_cons_of_mem _ (ih h)
   | some kk=>
    obtain ⟨k,F1⟩:=kk
    simp only [zAx,List.mem_cons] at h
    rcases h with rfl | h
    ·simp
    ·exact List.mem_cons_of_mem _ (ih h)

theorem zH8 {bs:List (Nat × Nat × Fq)} {ks:List (Option (Nat × Fq))} {d:Nat} {o:Ob} (h:o∈zAx bs ks d):o.k∈zDw ks d:=by
 induction bs generalizing ks d with
 | nil=>simp [zAx] at h
 | cons x r ih=>
  obtain ⟨b,m,F⟩:=x
  cases ks with
  | nil=>simp [zAx] at h
  | cons k ks=>
   cases k with
   | none=>
    simp only [zAx,List.mem_cons] at h
    rcases h with rfl | h
    ·simp [zDw]
    ·exact List.mem_cons_of_mem _ (ih h)
   | some kk=>
    obtain ⟨k,F1⟩:=kk
    simp only [zAx,List.mem_cons] at h
    rcases h with rfl | h
    ·simp [zDw]
    ·exact List.mem_cons_of_mem _ (ih h)

theorem zMl {bs:List (Nat × Nat × Fq)} {ks:List (Option (Nat × Fq))} {d:Nat} (hk:(zDw ks d).Nodup):∀ o∈zAx bs ks d,∀ q∈zAx bs ks d,o.k=q.k→o=q:=by
 induction bs generalizing ks d with
 | nil=>intro o ho;simp [zAx] at ho
 | cons x r ih=>
  obtain ⟨b,m,F⟩:=x
  cases ks with
  | nil=>intro o ho;simp [zAx] at ho
  | cons k ks=>
   cases k with
   | none=>
    simp only [zDw,List.nodup_cons] at hk
    intro o ho q hq he
    simp only [zAx,List.mem_cons] at ho hq
    rcases ho with rfl | ho
    ·rcases hq with rfl | hq
     ·rfl
     ·exact absurd (by have h:=zH8 hq;rwa [← show d=q.k from he] at h) hk.1
    ·rcases hq with rfl | hq
     ·exact absurd (by have h:=zH8 ho;rwa [← show d=o.k from he.symm] at h) hk.1
     ·exact ih hk.2 o ho q hq he
   | some kk=>
    obtain ⟨k,F1⟩:=kk
    simp only [zDw,List.nodup_cons] at hk
    intro o ho q hq he
    simp only [zAx,List.mem_cons] at ho hq
    rcases ho with rfl | ho
    ·rcases hq with rfl | hq
     ·rfl
     ·exact absurd (by have h:=zH8 hq;rwa [← show k=q.k from he] at h) hk.1
    ·rcases hq with rfl | hq
     ·exact absurd (by have h:=zH8 ho;rwa [← show k=o.k from he.symm] at h) hk.1
     ·exact ih hk.2 o ho q hq he

theorem zMm {bs:List (Nat × Nat × Fq)} {ks:List (Option (Nat × Fq))} {d:Nat} (hb:(bs.map (·.1)).Nodup):∀ o∈zAx bs ks d,∀ q∈zAx bs ks d,o.k≠q.k→o.b≠q.b:=by
 induction bs generalizing ks d with
 | nil=>intro o ho;simp [zAx] at ho
 | cons x r ih=>
  obtain ⟨b,m,F⟩:=x
  simp only [List.map_cons,List.nodup_cons] at hb
  have hne:∀ {ks d} {q:Ob},q∈zAx r ks d→q.b≠b:=fun hq e=>hb.1 (by rw [← e];exact List.mem_map.2 ⟨_,zGk hq,rfl⟩)
  cases ks with
  | nil=>intro o ho;simp [zAx] at ho
  | cons k ks=>
   cases k with
   | none=>
    intro o ho q hq he
    simp only [zAx,List.mem_cons] at ho hq
    rcases ho with rfl | ho
    ·rcases hq with rfl | hq
     ·exact absurd rfl he
     ·exact Ne.symm (hne hq)
    ·rcases hq with rfl | hq
     ·exact hne ho
     ·exact ih hb.2 o ho q hq he
   | some kk=>
    obtain ⟨k,F1⟩:=kk
    intro o ho q hq he
    simp only [zAx,List.mem_cons] at ho hq
    rcases ho with rfl | ho
    ·rcases hq with rfl | hq
     ·exact absurd rfl he
     ·exact Ne.symm (hne hq)
    ·rcases hq with rfl | hq
     ·exact hne ho
     ·exact ih hb.2 o ho q hq he

theorem zQv {bs:List (Nat × Nat × Fq)} {ks:List (Option (Nat × Fq))} {d len:Nat} {W:World} {L:Nat→Bool} (hL:∀ j,j<len→L j=true) (hk:∀ k F,some (k,F)∈ks→k<len)
  (h:∀ o∈zAx bs ks d,Bq W o.b o.m (if L o.k then o.F1 else o.F0)):∀ x∈zAj bs ks,Bq W x.1 x.2.1 x.2.2:=by
 induction bs generalizing ks d with
 | nil=>intro x hx;simp [zAj] at hx
 | cons y r ih=>
  obtain ⟨b,m,F⟩:=y
  cases ks with
  | nil=>intro x hx;simp [zAj] at hx
  | cons k ks=>
   have hk':∀ k F,some (k,F)∈ks→k<len:=fun k F hm=>hk k F (List.mem_cons_of_mem _ hm)
   cases k with
   | none=>
    intro x hx
    simp only [zAj,List.mem_cons] at hx
    simp only [zAx,List.mem_cons,forall_eq_or_imp] at h
    rcases hx with rfl | hx
    ·have:=h.1;split at this <;> exact this
    ·exact ih hk' h.2 x hx
   | some kk=>
    obtain ⟨k,F1⟩:=kk
    intro x hx
    simp only [zAj,List.mem_cons] at hx
    simp only [zAx,List.mem_cons,forall_eq_or_imp] at h
    rcases hx with rfl | hx
    ·have h1:=h.1
     rw [hL k (hk k F1 (by simp))] at h1
     exact h1
    ·exact ih hk' h.2 x hx

theorem zQu {bs:List (Nat × Nat × Fq)} {ks:List (Option (Nat × Fq))} (hl:ks.length=bs.length):(zAj bs ks).map (·.1)=bs.map (·.1):=by
 induction bs generalizing ks with
 | nil=>simp [zAj]
 | cons y r ih=>
  obtain ⟨b,m,F⟩:=y
  cases ks with
  | nil=>simp at hl
  | cons k ks=>
   have hl':ks.length=r.length:=by simpa using hl
   cases k with
   | none=>simp [zAj,ih hl']
   | some kk=>obtain ⟨k,F1⟩:=kk;simp [zAj,ih hl']

def okB (len nold:Nat) (ks:List (Option (Nat × Fq))) (new:List Nb):Bool:=
 ks.length == nold && (zDw ks len).all (fun k=>(zDw ks len).count k == 1) && ks.all (fun x=>match x with | none=>true | some (k,_)=>decide (k<len)) &&
 (new.map (·.i)).all (fun k=>(new.map (·.i)).count k == 1) && (new.map (·.k)).all (fun k=>(new.map (·.k)).count k == 1) && new.all (fun n=>decide (n.i<len) && decide (n.k<len))

theorem zGj {l:List Nat} (h:l.all (fun k=>l.count k == 1)=true):l.Nodup:=by
 rw [List.nodup_iff_count]
 intro a
 by_cases ha:a∈l
 ·have:=List.all_eq_true.1 h a ha
  simp at this
  omega
 ·rw [List.count_eq_zero.2 ha];omega

theorem zJ9 {α:Type} {f:α→Nat} {l:List α} (h:(l.map f).Nodup):∀ n∈l,∀ m∈l,f n=f m→n=m:=by
 induction l with
 | nil=>intro n hn;simp at hn
 | cons x r ih=>
  simp only [List.map_cons,List.nodup_cons] at h
  intro n hn m hm he
  rcases List.mem_cons.1 hn with h1 | h1
  ·rcases List.mem_cons.1 hm with h2 | h2
   ·rw [h1,h2]
   ·exact absurd (List.mem_map.2 ⟨m,h2,by rw [← he,h1]⟩) h.1
  ·rcases List.mem_cons.1 hm with h2 | h2
   ·exact absurd (List.mem_map.2 ⟨n,h1,by rw [he,h2]⟩) h.1
   ·exact ih h.2 n h1 m h2 he

def plq (C:List Fq) (bs:List (Nat × Nat × Fq)) (ks:List (Option (Nat × Fq))) (new:List Nb) (len:Nat):Pq:=⟨C,zAx bs ks len,new⟩

section
variable {os : List Oper} {Q : Exit → Act → World → Prop} {a : Act} {p : Pq} {B B0 : Nat} {w0 : World}

def zAf (os:List Oper) (Q:Exit→Act→World→Prop) (a:Act) (p:Pq) (B B0:Nat) (w0:World) (i:Nat) (o:Oper):Prop:=
 os.toArray[i]?=some o→∀ L vs w,p.G B B0 w0 L vs w→L i=false→(∀ e∈o.after,Region.binds .any e=true→L e.on=true)→zDb os.toArray L →
  wpOp Tryz.prog os.toArray Q i (fun a' w'=>∃ v,a'=(lay os.toArray L vs os.toArray.size a).put o.dst v∧p.G B B0 w0 (up L i true) (up vs i v) w') (lay os.toArray L vs os.toArray.size a) w

def GS (p:Pq) (B B0:Nat) (w0:World) (same:List (Nat × Nat)) (L:Nat→Bool) (vs:Nat→Value) (w:World):Prop:=p.G B B0 w0 L vs w∧∀ x∈same,L x.1=true→L x.2=true∧vs x.1=vs x.2

def StepS (os:List Oper) (Q:Exit→Act→World→Prop) (a:Act) (p:Pq) (B B0:Nat) (w0:World) (same:List (Nat × Nat)) (i:Nat) (o:Oper):Prop:=
 os.toArray[i]?=some o→∀ L vs w,GS p B B0 w0 same L vs w→L i=false→(∀ e∈o.after,Region.binds .any e=true→L e.on=true)→zDb os.toArray L →
  wpOp Tryz.prog os.toArray Q i (fun a' w'=>∃ v,a'=(lay os.toArray L vs os.toArray.size a).put o.dst v∧GS p B B0 w0 same (up L i true) (up vs i v) w') (lay os.toArray L vs os.toArray.size a) w

theorem zFe {same:List (Nat × Nat)} {i:Nat} {o:Oper} (h:zAf os Q a p B B0 w0 i o) (hn:same.all (fun x=>x.1 != i)=true):StepS os Q a p B B0 w0 same i o:=by
 intro hio L vs w hG hL hd hc
 refine wpOp_mono ?_ (h hio L vs w hG.1 hL hd hc)
 rintro a2 w2 ⟨v,rfl,hG2⟩
 refine ⟨v,rfl,hG2,fun x hx h1=>?_⟩
 have hx1:x.1≠i:=by
  have:=List.all_eq_true.1 hn x hx
  simpa using this
 rw [zAg _ _ hx1] at h1
 obtain ⟨h2,h3⟩:=hG.2 x hx h1
 have hx2:x.2≠i:=fun e=>by rw [e,hL] at h2;cases h2
 rw [zAg _ _ hx1,zAg _ _ hx2,zAg _ _ hx2]
 exact ⟨h2,h3⟩

theorem zRy {same:List (Nat × Nat)} {id:Nat} {dr:Bool} {C:List Fq} {bs:List (Nat × Nat × Fq)} {ks:List (Option (Nat × Fq))} {new:List Nb} {W:World} (E:Fr w0 bs W) (hok:okB os.length bs.length ks new=true) (hm:Tryz.prog.follows .mixedOrders=true) (ha:zAy (os.map (·.dst))=true) (hb:zDr os 0=true)
  (hs:(plq C bs ks new os.length).Ok w0.heap.size W.heap.size→∀ i o,os.toArray[i]?=some o→StepS os Q a (plq C bs ks new os.length) w0.heap.size W.heap.size w0 same i o)
  (hf:∀ L vs W' (nb:Nat→Nat),(∀ x∈same,x.1<os.length→vs x.1=vs x.2)→(∀ j,j<os.length→L j=true)→(∀ j,j<os.length→((C[j]?).getD Fq.any).P (vs j) W')→(∀ n∈new,vs n.i=n.ptr (nb n.i))→Fr w0 (new.map (fun n=>(nb n.i,n.m,n.F1))++zAj bs ks) W' →
   Q .normal (lay os.toArray L vs os.length a) W'):(Code.region id os.toArray dr).wp Tryz.prog Q a W:=by
 simp only [okB,Bool.and_eq_true,beq_iff_eq] at hok
 obtain ⟨⟨⟨⟨⟨k1,k2⟩,k3⟩,k4⟩,k5⟩,k6⟩:=hok
 have n2:=zGj k2
 have n4:=zGj k4
 have n5:=zGj k5
 have hp:(plq C bs ks new os.length).Ok w0.heap.size W.heap.size:=by
  refine ⟨fun o ho=>?_,zMm E.apart,zMl n2,zJ9 n4,zJ9 n5,E.below.size⟩
  have h:=E.boxes _ (zGk ho)
  exact ⟨h.1,h.2.lt⟩
 have h0:∀ W',Below W.heap.size W W'→W'.heap.size=W.heap.size→GS (plq C bs ks new os.length) w0.heap.size W.heap.size w0 same (fun _=>false) (fun _=>undef) W':=fun W' hW hsz=>
  ⟨⟨E.below.trans (hW.mono E.below.size),zm,fun _ h=>(by cases h),fun o ho=>by simpa using (E.boxes _ (zGk ho)).2.mono hW,fun _ _ h=>(by cases h),fun _ _ _ _ _ h=>(by cases h)⟩,fun _ _ h=>(by cases h)⟩
 have hs':=hs hp
 have hend:∀ L vs w,(∀ j,j<os.toArray.size→L j=true)→GS (plq C bs ks new os.length) w0.heap.size W.heap.size w0 same L vs w→Q .normal (lay os.toArray L vs os.toArray.size a) w:=by
  intro L vs w hL hGS
  have hG:=hGS.1
  have hL':∀ j,j<os.length→L j=true:=by simpa using hL
  have hk3:∀ k F,some (k,F)∈ks→k<os.length:=fun k F hm=>by
   have:=List.all_eq_true.1 k3 _ hm
   simpa using this
  have hk6:∀ n∈new,n.i<os.length∧n.k<os.length:=fun n hn=>by
   have:=List.all_eq_true.1 k6 _ hn
   simpa using this
  have hnb:∀ n∈new,∃ b,vs n.i=n.ptr b∧W.heap.size≤b∧Bq w b n.m n.F1:=fun n hn=>by
   obtain ⟨b,e1,e2,e3⟩:=hG.new n hn (hL' _ (hk6 n hn).1)
   rw [Nb.now_on (hL' _ (hk6 n hn).2)] at e3
   exact ⟨b,e1,e2,e3⟩
  let nb:Nat→Nat:=fun i=>zE6 (vs i)
  have hv:∀ n∈new,vs n.i=n.ptr (nb n.i)∧W.heap.size≤nb n.i∧Bq w (nb n.i) n.m n.F1:=fun n hn=>by
   obtain ⟨b,e1,e2,e3⟩:=hnb n hn
   have e4:nb n.i=b:=by show zE6 (vs n.i)=b;rw [e1,Nb.block_ptr]
   rw [e4]
   exact ⟨e1,e2,e3⟩
  have hold:=zQv hL' hk3 hG.old
  have hfst:=zQu (bs:=bs) (ks:=ks) k1
  have hlt:∀ x∈zAj bs ks,w0.heap.size≤x.1∧x.1<W.heap.size:=fun x hx=>by
   have hm:x.1∈bs.map (·.1):=by rw [← hfst];exact List.mem_map.2 ⟨x,hx,rfl⟩
   obtain ⟨y,hy,e⟩:=List.mem_map.1 hm
   have:=E.boxes y hy
   have h2:=this.2.lt
   rw [← e]
   exact ⟨this.1,h2⟩
  have hE:Fr w0 (new.map (fun n=>(nb n.i,n.m,n.F1))++zAj bs ks) w:=by
   refine ⟨hG.below,fun x hx=>?_,?_⟩
   ·rcases List.mem_append.1 hx with hx | hx
    ·obtain ⟨n,hn,rfl⟩:=List.mem_map.1 hx
     have:=hv n hn
     exact ⟨Nat.le_trans E.below.size this.2.1,this.2.2⟩
    ·exact ⟨(hlt x hx).1,hold x hx⟩
   ·rw [List.map_append,hfst,List.map_map]
    refine List.nodup_append.2 ⟨?_,E.apart,fun x hx y hy e=>?_⟩
    ·rw [List.nodup_iff_pairwise_ne,List.pairwise_map]
     have hpw:List.Pairwise (fun n m:Nb=>n.i≠m.i) new:=by
      have:=List.nodup_iff_pairwise_ne.1 n4
      rwa [List.pairwise_map] at this
     refine hpw.imp_of_mem ?_
     intro n m hn hm hne e
     refine hG.apart n hn m hm hne (hL' _ (hk6 n hn).1) (hL' _ (hk6 m hm).1) ?_
     have e':nb n.i=nb m.i:=e
     rw [(hv n hn).1,(hv m hm).1,Nb.block_ptr,Nb.block_ptr,e']
    ·obtain ⟨n,hn,rfl⟩:=List.mem_map.1 hx
     obtain ⟨z,hz,rfl⟩:=List.mem_map.1 hy
     have h1:=(hv n hn).2.1
     have h2:=(E.boxes z hz).2.lt
     have e':nb n.i=z.1:=e
     omega
  have:=hf L vs w nb (fun x hx h=>(hGS.2 x hx (hL' _ h)).2) hL' (fun j hj=>hG.val j (hL' j hj)) (fun n hn=>(hv n hn).1) hE
  simpa using this
 cases dr with
 | true=>exact zKw hm (zE5 ha) (zFz hb) (GS (plq C bs ks new os.length) w0.heap.size W.heap.size w0 same) (h0 W.drew (Below.refl _ _).drew rfl) (fun i o ho=>hs' i o ho ho) hend
 | false=>exact zNu (zE5 ha) (zFz hb) (GS (plq C bs ks new os.length) w0.heap.size W.heap.size w0 same) (h0 W (Below.refl _ _) rfl) (fun i o ho=>hs' i o ho ho) hend

theorem zRx {id:Nat} {dr:Bool} {C:List Fq} {bs:List (Nat × Nat × Fq)} {ks:List (Option (Nat × Fq))} {new:List Nb} {W:World} (E:Fr w0 bs W) (hok:okB os.length bs.length ks new=true) (hm:Tryz.prog.follows .mixedOrders=true) (ha:zAy (os.map (·.dst))=true) (hb:zDr os 0=true)
  (hs:(plq C bs ks new os.length).Ok w0.heap.size W.heap.size→AllOps (zAf os Q a (plq C bs ks new os.length) w0.heap.size W.heap.size w0) os 0)
  (hf:∀ L vs W' (nb:Nat→Nat),(∀ j,j<os.length→L j=true)→(∀ j,j<os.length→((C[j]?).getD Fq.any).P (vs j) W')→(∀ n∈new,vs n.i=n.ptr (nb n.i))→Fr w0 (new.map (fun n=>(nb n.i,n.m,n.F1))++zAj bs ks) W' →
   Q .normal (lay os.toArray L vs os.length a) W'):(Code.region id os.toArray dr).wp Tryz.prog Q a W:=
 zRy (same:=[]) E hok hm ha hb (fun hp i o ho=>zFe (zHk (hs hp) i o ho) rfl) (fun L vs W' nb _=>hf L vs W' nb)

theorem zKl {same:List (Nat × Nat)} {id:Nat} {dr:Bool} {C:List Fq} {bs:List (Nat × Nat × Fq)} {ks:List (Option (Nat × Fq))} {new:List Nb} {W:World} (E:Fr w0 bs W) (hok:okB os.length bs.length ks new=true) (hm:Tryz.prog.follows .mixedOrders=true) (ha:zAy (os.map (·.dst))=true) (hb:zDr os 0=true)
  (hs:(plq C bs ks new os.length).Ok w0.heap.size W.heap.size→AllOps (StepS os Q a (plq C bs ks new os.length) w0.heap.size W.heap.size w0 same) os 0)
  (hf:∀ L vs W' (nb:Nat→Nat),(∀ x∈same,x.1<os.length→vs x.1=vs x.2)→(∀ j,j<os.length→L j=true)→(∀ j,j<os.length→((C[j]?).getD Fq.any).P (vs j) W')→(∀ n∈new,vs n.i=n.ptr (nb n.i))→Fr w0 (new.map (fun n=>(nb n.i,n.m,n.F1))++zAj bs ks) W' →
   Q .normal (lay os.toArray L vs os.length a) W'):(Code.region id os.toArray dr).wp Tryz.prog Q a W:=
 zRy (same:=same) E hok hm ha hb (fun hp i o ho=>zHk (hs hp) i o ho) hf

end

end Go.Proofs.YtjadciofpgjofaaGreatDoor
namespace Go.Proofs.YtjadciofpgjofaaGreatDoor
open Go.RowKit

theorem zN4 (n:Int):bits .and .i64 n 1=n % 2:=by
 have h1:(BitVec.ofInt 64 1).toNat=2^1-1:=by decide
 have key:(BitVec.ofInt 64 n &&& BitVec.ofInt 64 1).toNat=(n % ((2^64:Nat):Int)).toNat % 2^1:=by
  rw [BitVec.toNat_and,BitVec.toNat_ofInt,h1,Nat.and_two_pow_sub_one_eq_mod]
 show IntKind.i64.wrap ((BitVec.ofInt 64 n &&& BitVec.ofInt 64 1).toNat:Nat)=n % 2
 rw [key,IntKind.wrap_i64]
 omega

theorem zQ5 (x:Int) (j:Nat):(x*x)^j=x^(2*j):=by
 rw [Int.pow_mul];congr 1;rw [Int.pow_succ,Int.pow_succ,Int.pow_zero,Int.one_mul]

theorem pow_odd {z x:Int} {k:Nat} (h:k % 2=1):z*x*(x*x)^(k/2)=z*x^k:=by
 rw [zQ5,Int.mul_assoc,Int.mul_comm x,← Int.pow_succ]
 congr 2;omega

theorem pow_even {z x:Int} {k:Nat} (h:k % 2=0):z*(x*x)^(k/2)=z*x^k:=by
 rw [zQ5];congr 2;omega

def PowInv (L:Nat) (X0:Int) (K:Nat) (w:World) (vx vk vz:Value) (wr:World):Prop:=
 ∃ ax cx nx xs k az cz nz zs,vx=.slice ax nx cx∧vk=.int .i64 ((k:Nat):Int)∧vz=.slice az nz cz∧Sl wr ax nx cx xs∧Sl wr az nz cz zs∧Canon xs∧Canon zs∧Below w.heap.size w wr ∧
  val zs*val xs^k=X0^K∧k≤K∧(1≤k→nx≤L)∧nz≤L∧(1≤X0→1≤val xs∧1≤val zs)∧(X0=0→val xs=0)

theorem zMq {z x:Int} {k:Nat} (hz:1≤z) (hx:1≤x) (hk:1≤k):z*x≤z*x^k:=by
 refine Int.mul_le_mul_of_nonneg_left ?_ zm
 obtain ⟨j,rfl⟩:∃ j,k=j+1:=⟨k-1,zm⟩
 rw [Int.pow_succ]
 have:=Int.mul_le_mul_of_nonneg_right (show 1≤x^j from Int.pow_pos zm) (show 0≤x by omega)
 omega

theorem sq_le_of {z x:Int} {k:Nat} (hz:1≤z) (hx:1≤x) (hk:2≤k):x*x≤z*x^k:=by
 obtain ⟨j,rfl⟩:∃ j,k=j+1:=⟨k-1,zm⟩
 have h1:=zMq (z:=x) (x:=x) (k:=j) hx hx zm
 have h2:x*x^j=x^(j+1):=by rw [Int.pow_succ,Int.mul_comm]
 have h3:=Int.mul_le_mul_of_nonneg_right hz (show 0≤x^(j+1) from Int.le_of_lt (Int.pow_pos zm))
 omega

theorem step_lt {z x X0:Int} {k K L:Nat} (hsum:z*x^k=X0^K) (hM:X0^K<pw L) (hX0:0≤X0) (h1:1≤X0→1≤x∧1≤z) (h2:X0=0→x=0) (hk:1≤k):z*x<pw L:=by
 have hp:=zA0 L
 rcases (by omega:X0=0∨1≤X0) with h | h
 ·rw [h2 h,Int.mul_zero];exact hp
 ·have:=zMq (h1 h).2 (h1 h).1 hk;omega

theorem step_sq {z x X0:Int} {k K L:Nat} (hsum:z*x^k=X0^K) (hM:X0^K<pw L) (hX0:0≤X0) (h1:1≤X0→1≤x∧1≤z) (h2:X0=0→x=0) (hk:2≤k):x*x<pw L:=by
 have hp:=zA0 L
 rcases (by omega:X0=0∨1≤X0) with h | h
 ·rw [h2 h,Int.mul_zero];exact hp
 ·have:=sq_le_of (h1 h).2 (h1 h).1 hk;omega

theorem zH9 {a b:Int} (ha:1≤a) (hb:1≤b):1≤a*b:=Int.mul_pos zm zm

theorem zWs (w:World) (ax:Option Addr) (n c:Nat) (xs:List Int) (hX:Sl w ax n c xs) (hcx:Canon xs) (K L:Nat) (hK:K≤9000000) (hL:1≤L) (hL2:L≤900000) (hM:val xs^K<pw L) :
  Calls Tryz.prog 161 #[.slice ax n c,.int .i64 K] w fun e w'=>∃ az nz cz zs,e=.returned (.slice az nz cz)∧Sl w' az nz cz zs∧Canon zs∧val zs=val xs^K∧Below w.heap.size w w':=by
 have hnn:=zAm hX.digs
 go_enter Tryz.func161,Tryz.ntmps161
 go_wp2
 have hone:Row (w.alloc (.cells #[.int .u32 1] 104)) 104 w.heap.size [1]:=by
  refine ⟨fun x hx=>?_,?_⟩
  ·simp at hx;subst hx;exact ⟨zm,zm⟩
  ·rw [heap_alloc_new];rfl
 have hbl:Below w.heap.size w (w.alloc (.cells #[.int .u32 1] 104)):=(Below.refl _ _).alloc (Nat.le_refl _) _
 go_loopw [0,1,5] (fun vx vk vz wr=>PowInv L (val xs) K w vx vk vz wr) (fun _ vk _ _=>(intOf vk).toNat)
 case atStart=>
  refine ⟨ax,c,n,xs,K,_,_,1,[1],rfl,rfl,rfl,hX.mono hbl,hone.sl rfl,hcx,⟨hone.1,.inr (by simp [val,zDo])⟩,hbl,by simp [val],Nat.le_refl _,fun hk=>?_,zm,fun h=>⟨h,by simp [val]⟩,id⟩
  have:=step_lt (z:=1) (x:=val xs) (X0:=val xs) (k:=K) (K:=K) (L:=L) (by rw [Int.one_mul]) hM hnn (fun h=>⟨h,zm⟩) id hk
  rw [Int.one_mul] at this
  have:=hcx.length_le this
  rw [hX.len] at this;exact this
 case round=>
  obtain ⟨ax,cx,nx,xs',k,az,cz,nz,zs,rfl,rfl,rfl,hsx,hsz,hcx',hcz,hB,hsum,hk,hnx,hnz,h1,h2⟩:=hrel
  have HSUM:=hidd hsum
  clear hsum hone hbl
  by_cases hk0:0<k
  ·have hk0':(0:Int)<(k:Int):=zm
   have hnxL:=hnx hk0
   by_cases hodd:k % 2=1
   ·have hand:(bits .and .i64 (k:Int) 1 == 1)=true:=by rw [zN4];simp;omega
    go_wp2_with fail
    refine (zH4 _ _ _ _ _ _ _ _ _ hsz hsx zm zm).mono ?_
    rintro e w2 ⟨a2,c2,zs2,rfl,hs2,hv2,hB2⟩
    go_wp2_with fail
    refine (zBm _ _ _ _ _ hs2 zm).mono ?_
    rintro e w3 ⟨m2,rfl,hm2,hs3,hv3,hc3,rfl⟩
    have hv4:=hv3.trans hv2
    have hlt2:=step_lt HSUM.out hM hnn h1 h2 hk0
    have hm2L:m2≤L:=by
     have:=hc3.length_le (k:=L) (by rw [hv4];exact hlt2)
     rw [hs3.len] at this;exact this
    have hsx2:=hsx.mono hB2
    have hB3:=hB.trans (hB2.mono hB.size)
    have HV4:=hidd hv4
    clear hs2 hv2 hv3 hv4 hlt2 hB2 hsz hsx hB
    by_cases hk1:1<k
    ·have hk1':(1:Int)<(k:Int):=zm
     go_wp2_with fail
     refine (zH4 _ _ _ _ _ _ _ _ _ hsx2 hsx2 zm zm).mono ?_
     rintro e w4 ⟨a5,c5,zs5,rfl,hs5,hv5,hB5⟩
     go_wp2_with fail
     refine (zBm _ _ _ _ _ hs5 zm).mono ?_
     rintro e w6 ⟨m6,rfl,hm6,hs6,hv6,hc6,rfl⟩
     have hv7:=hv6.trans hv5
     have hm6L:m6≤L:=by
      have:=hc6.length_le (k:=L) (by rw [hv7];exact step_sq HSUM.out hM hnn h1 h2 hk1)
      rw [hs6.len] at this;exact this
     have HV7:=hidd hv7
     clear hs5 hv5 hv6 hv7
     go_wp2
     go_roundw
     case rel=>
      refine ⟨_,_,_,_,k/2,_,_,_,_,rfl,by congr 1,rfl,hs6,hs3.mono hB5,hc6,hc3,hB3.trans (hB5.mono hB3.size),?_,zm,fun _=>hm6L,hm2L,fun h=>?_,fun h=>?_⟩
      ·rw [HV7.out,HV4.out,pow_odd hodd];exact HSUM.out
      ·rw [HV7.out,HV4.out];exact ⟨zH9 (h1 h).1 (h1 h).1,zH9 (h1 h).2 (h1 h).1⟩
      ·rw [HV7.out,h2 h,Int.mul_zero]
     case measure=>simp [intOf];omega
    ·obtain rfl:k=1:=zm
     go_wp2
     go_roundw
     case rel=>
      refine ⟨_,_,_,_,0,_,_,_,_,rfl,rfl,rfl,hsx2,hs3,hcx',hc3,hB3,?_,zm,fun h=>zm,hm2L,fun h=>?_,h2⟩
      ·rw [HV4.out,Int.pow_zero,Int.mul_one,← HSUM.out,Int.pow_succ,Int.pow_zero,Int.one_mul]
      ·rw [HV4.out];exact ⟨(h1 h).1,zH9 (h1 h).2 (h1 h).1⟩
     case measure=>simp [intOf]
   ·have hand:(bits .and .i64 (k:Int) 1 == 1)=false:=by rw [zN4];simp;omega
    have hk1':(1:Int)<(k:Int):=zm
    go_wp2_with fail
    refine (zH4 _ _ _ _ _ _ _ _ _ hsx hsx zm zm).mono ?_
    rintro e w4 ⟨a5,c5,zs5,rfl,hs5,hv5,hB5⟩
    go_wp2_with fail
    refine (zBm _ _ _ _ _ hs5 zm).mono ?_
    rintro e w6 ⟨m6,rfl,hm6,hs6,hv6,hc6,rfl⟩
    have hv7:=hv6.trans hv5
    have hm6L:m6≤L:=by
     have:=hc6.length_le (k:=L) (by rw [hv7];exact step_sq HSUM.out hM hnn h1 h2 zm)
     rw [hs6.len] at this;exact this
    have HV7:=hidd hv7
    clear hs5 hv5 hv6 hv7
    go_wp2
    go_roundw
    case rel=>
     refine ⟨_,_,_,_,k/2,_,_,_,_,rfl,by congr 1,rfl,hs6,hsz.mono hB5,hc6,hcz,hB.trans (hB5.mono hB.size),?_,zm,fun _=>hm6L,hnz,fun h=>?_,fun h=>?_⟩
     ·rw [HV7.out,pow_even zm];exact HSUM.out
     ·rw [HV7.out];exact ⟨zH9 (h1 h).1 (h1 h).1,(h1 h).2⟩
     ·rw [HV7.out,h2 h,Int.mul_zero]
    case measure=>simp [intOf];omega
  ·obtain rfl:k=0:=zm
   go_wp2
   go_ret
   refine ⟨_,_,_,zs,rfl,hsz,hcz,?_,hB⟩
   have:=HSUM.out
   rw [Int.pow_zero,Int.mul_one] at this
   exact this

def newt (X S:Int) (K:Nat):Int:=(((K:Int)-1)*S+X/S^(K-1))/K

theorem zQr (w:World) (ax az:Option Addr) (n m cx cs:Nat) (xs ss:List Int) (hX:Sl w ax n cx xs) (hS:Sl w az m cs ss) (hcx:Canon xs) (hcs:Canon ss) (hs1:1≤val ss) (K L:Nat) (hK1:1≤K) (hK:K≤9000000)
  (hL1:1≤L) (hL:L≤400000) (hn:n≤L) (hm:m≤L) (hp:val ss^(K-1)<pw L) :
  Calls Tryz.prog 153 #[.slice ax n cx,.slice az m cs,.int .i64 K] w fun e w'=>∃ at' nt ct ts,e=.returned (.slice at' nt ct)∧Sl w' at' nt ct ts∧Canon ts∧val ts=newt (val xs) (val ss) K∧Below w.heap.size w w':=by
 have hKm:((K:Int)-1)=((K-1:Nat):Int):=zm
 have hpp:0<val ss^(K-1):=Int.pow_pos zm
 go_enter Tryz.func153,Tryz.ntmps153
 go_wp2_with fail
 refine (zWs _ _ _ _ _ hS hcs (K-1) L zm hL1 zm hp).mono ?_
 rintro e w2 ⟨a2,n2,c2,zs2,rfl,hs2,hc2,hv2,hB2⟩
 have hn2:n2≤L:=by
  have:=hc2.length_le (k:=L) (by rw [hv2];exact hp)
  rw [hs2.len] at this;exact this
 have hX2:=hX.mono hB2
 have hS2:=hS.mono hB2
 have HV2:=hidd hv2
 clear hv2 hX hS
 go_wp2_with fail
 refine (zJa _ _ _ _ _ _ _ _ _ hX2 hs2 hcx hc2 (by rw [HV2.out];exact hpp) zm zm).mono ?_
 rintro e w3 ⟨aq,ar,nq,nr,cq,cr,qs,rs,rfl,hsq,_,hcq,_,hvq,_,hB3⟩
 have hnq:nq≤n:=by
  refine zDx hcq hsq (hX2.mono hB3) ?_
  rw [hvq]
  exact Int.ediv_le_self _ (zAm hX2.digs)
 have hS3:=hS2.mono hB3
 have HVQ:=hidd hvq
 have hB23:=hB2.trans (hB3.mono hB2.size)
 clear hvq hX2 hS2 hB2 hB3 hs2 hc2
 go_wp2_with fail
 refine (zFk _ ((K-1:Nat):Int) zm zm).mono ?_
 rintro e w4 ⟨a4,n4,c4,zs4,rfl,hn4,hs4,hc4,hv4,hB4⟩
 have hS4:=hS3.mono hB4
 have hq4:=hsq.mono hB4
 have hB24:=hB23.trans (hB4.mono hB23.size)
 have HV4:=hidd hv4
 clear hv4 hS3 hsq hB23 hB4
 go_wp2_with fail
 refine (zH4 _ _ _ _ _ _ _ _ _ hS4 hs4 zm zm).mono ?_
 rintro e w5 ⟨a5,c5,zs5,rfl,hs5,hv5,hB5⟩
 go_wp2_with fail
 refine (zBm _ _ _ _ _ hs5 zm).mono ?_
 rintro e w6 ⟨m6,rfl,hm6,hs6,hv6,hc6,rfl⟩
 have hq5:=hq4.mono hB5
 have hB25:=hB24.trans (hB5.mono hB24.size)
 have hv56:=hv6.trans hv5
 have HV5:=hidd hv56
 clear hv56 hv5 hv6 hs5 hq4 hS4 hs4 hB24 hB5
 go_wp2_with fail
 refine (zIw _ _ _ _ _ _ _ _ _ hs6 hq5 zm zm).mono ?_
 rintro e w7 ⟨a7,n7,c7,zs7,rfl,hn7,hs7,hv7,hB7⟩
 have hB27:=hB25.trans (hB7.mono hB25.size)
 go_wp2_with fail
 refine (zBm _ _ _ _ _ hs7 zm).mono ?_
 rintro e w8 ⟨m8,rfl,hm8,hs8,hv8,hc8,rfl⟩
 have hv78:=hv8.trans hv7
 have HV7:=hidd hv78
 clear hv78 hv7 hv8 hs7 hB25 hB7 hs6 hq5
 go_wp2_with fail
 refine (zFk _ (K:Int) zm zm).mono ?_
 rintro e w9 ⟨a9,n9,c9,zs9,rfl,hn9,hs9,hc9,hv9,hB9⟩
 have hs89:=hs8.mono hB9
 have hB29:=hB27.trans (hB9.mono hB27.size)
 have HV9:=hidd hv9
 clear hv9 hs8 hB27 hB9
 go_wp2_with fail
 refine (zJa _ _ _ _ _ _ _ _ _ hs89 hs9 hc8 hc9 (by rw [HV9.out];omega) zm zm).mono ?_
 rintro e w10 ⟨b1,b2,k1,k2,d1,d2,q1,r1,rfl,hsq1,_,hcq1,_,hvq1,_,hB10⟩
 have hz:val q1=newt (val xs) (val ss) K:=by
  rw [hvq1,HV7.out,HV5.out,HV9.out,HV4.out,HVQ.out,HV2.out]
  unfold newt
  rw [hKm,Int.mul_comm]
 have HZ:=hidd hz
 clear hz hvq1
 go_wp2
 go_ret
 exact ⟨_,_,_,q1,rfl,hsq1,hcq1,HZ.out,hB29.trans (hB10.mono hB29.size)⟩

end Go.Proofs.YtjadciofpgjofaaGreatDoor
set_option linter.unusedSimpArgs false
namespace Go.Proofs.YtjadciofpgjofaaGreatDoor
open Go.RowKit

theorem bern (r s:Int) (hr:0≤r) (hs:0≤s):∀ k:Nat,(((k+1:Nat):Int)*r-(k:Int)*s)*s^k≤r^(k+1)
 | 0=>by simp [Int.pow_succ]
 | k+1=>by
  have ih:=Int.mul_le_mul_of_nonneg_left (bern r s hr hs k) hr
  have hp:0≤s^k:=Int.pow_nonneg hs
  have hsq:0≤s^k*(((k:Int)+1)*((r-s)*(r-s))):=Int.mul_nonneg hp (Int.mul_nonneg zm (by
   rcases Int.le_total 0 (r-s) with h | h
   ·exact Int.mul_nonneg h h
   ·have:=Int.mul_nonneg (show 0≤-(r-s) by omega) (show 0≤-(r-s) by omega)
    rwa [Int.neg_mul_neg] at this))
  rw [Int.pow_succ r (k+1),Int.pow_succ s k]
  have e1:((k+1:Nat):Int)=(k:Int)+1:=rfl
  have e2:((k+1+1:Nat):Int)=(k:Int)+1+1:=rfl
  rw [e1] at ih ⊢
  rw [e2]
  generalize (k:Int)=c at *
  generalize s^k=p at *
  generalize r^(k+1)=q at *
  simp only [Int.mul_add,Int.add_mul,Int.mul_sub,Int.sub_mul,Int.mul_one,Int.one_mul,Int.mul_comm,Int.mul_left_comm,Int.mul_assoc] at *
  omega

theorem zKa {X S r:Int} {K:Nat} (hK:1≤K) (hS:1≤S) (hr:0≤r) (h:r^K≤X):r≤newt X S K:=by
 obtain ⟨k,rfl⟩:∃ k,K=k+1:=⟨K-1,zm⟩
 unfold newt
 rw [Nat.add_sub_cancel]
 have hb:=bern r S hr zm k
 have hp:0<S^k:=Int.pow_pos zm
 have h1:((k+1:Nat):Int)*r-(k:Int)*S≤X/S^k:=by
  refine (Int.le_ediv_iff_mul_le hp).2 ?_
  omega
 refine (Int.le_ediv_iff_mul_le zm).2 ?_
 rw [Int.mul_comm r]
 have e:((k+1:Nat):Int)-1=k:=zm
 rw [e]
 omega

theorem newt_lt {X S:Int} {K:Nat} (hK:1≤K) (hS:1≤S) (h:X<S^K):newt X S K<S:=by
 obtain ⟨k,rfl⟩:∃ k,K=k+1:=⟨K-1,zm⟩
 unfold newt
 rw [Nat.add_sub_cancel]
 have hp:0<S^k:=Int.pow_pos zm
 have h1:X/S^k<S:=Int.ediv_lt_of_lt_mul hp (by rw [Int.mul_comm,← Int.pow_succ];exact h)
 refine Int.ediv_lt_of_lt_mul zm ?_
 rw [Int.mul_comm S]
 have e:((k+1:Nat):Int)-1=k:=zm
 have e2:((k+1:Nat):Int)=(k:Int)+1:=rfl
 rw [e,e2,Int.add_mul]
 omega

def IsRoot (X:Int) (K:Nat) (r:Int):Prop:=0≤r∧r^K≤X∧X<(r+1)^K

theorem zGl {a b:Int} (ha:0≤a) (h:a≤b):∀ k:Nat,a^k≤b^k
 | 0=>by simp
 | k+1=>by
  rw [Int.pow_succ,Int.pow_succ]
  have h1:=Int.mul_le_mul_of_nonneg_right (zGl ha h k) ha
  have h2:=Int.mul_le_mul_of_nonneg_left h (show 0≤b^k from Int.pow_nonneg zm)
  omega

theorem zQ6 {a b:Int} {k:Nat} (hb:0≤b) (h:a^k<b^k):a<b:=
 Int.not_le.1 fun hle=>absurd (zGl hb hle k) zm

theorem IsRoot.unique {X r r':Int} {K:Nat} (h:IsRoot X K r) (h':IsRoot X K r'):r=r':=by
 have h1:=zQ6 (k:=K) (show 0≤r'+1 by have:=h'.1;omega) (Int.lt_of_le_of_lt h.2.1 h'.2.2)
 have h2:=zQ6 (k:=K) (show 0≤r+1 by have:=h.1;omega) (Int.lt_of_le_of_lt h'.2.1 h.2.2)
 omega

theorem zMi {X S:Int} {K:Nat} (hK:1≤K) (hS:1≤S) (hup:X<(S+1)^K) (h:S≤newt X S K):IsRoot X K S:=
 ⟨zm,Int.not_lt.1 fun hn=>absurd (newt_lt hK hS hn) zm,hup⟩

theorem zMj {X S:Int} {K:Nat} (hK:1≤K) (hS:1≤S):X<(newt X S K+1)^K∨newt X S K+1<0:=by
 rcases Int.lt_or_le (newt X S K+1) 0 with h | h
 ·exact .inr h
 ·refine .inl (Int.not_le.1 fun hn=>?_)
  have:=zKa hK hS h hn
  omega

theorem half_up {X X' F p:Int} {K:Nat} (hp:0<p) (hX':X'=X/p^K) (hF:IsRoot X' K F):X<((F+1)*p)^K:=by
 have hpk:0<p^K:=Int.pow_pos hp
 rw [Int.mul_pow]
 have h1:=hF.2.2
 have h2:=Int.mul_ediv_add_emod X (p^K)
 have h3:=Int.emod_lt_of_pos X hpk
 have h4:=Int.mul_le_mul_of_nonneg_right (show X'+1≤(F+1)^K by omega) (Int.le_of_lt hpk)
 rw [Int.add_mul,Int.one_mul,hX',Int.mul_comm] at h4
 omega

theorem half_bd {X X' F p:Int} {K:Nat} (hp:0<p) (hX:0≤X) (hX':X'=X/p^K) (hF:IsRoot X' K F):((F+1)*p)^K≤2^K*X+p^K:=by
 have hpk:0<p^K:=Int.pow_pos hp
 have h2k:(0:Int)<2^K:=zA6 K
 rw [Int.mul_pow]
 rcases (by have:=hF.1;omega:F=0∨1≤F) with h | h
 ·subst h
  simp only [Int.zero_add,Int.one_pow,Int.one_mul]
  have:=Int.mul_nonneg (Int.le_of_lt h2k) hX
  omega
 ·have h1:=zGl (show 0≤F+1 by omega) (show F+1≤2*F by omega) K
  rw [Int.mul_pow] at h1
  have h3:=Int.mul_le_mul_of_nonneg_left hF.2.1 (Int.le_of_lt h2k)
  have h4:=Int.mul_le_mul_of_nonneg_right (Int.le_trans h1 h3) (Int.le_of_lt hpk)
  have h5:=Int.mul_ediv_add_emod X (p^K)
  have h6:=Int.emod_nonneg X (Int.ne_of_gt hpk)
  have h7:2^K*X'*p^K≤2^K*X:=by
   rw [Int.mul_assoc]
   refine Int.mul_le_mul_of_nonneg_left ?_ (Int.le_of_lt h2k)
   rw [hX',Int.mul_comm];omega
  omega

end Go.Proofs.YtjadciofpgjofaaGreatDoor
namespace Go.Proofs.YtjadciofpgjofaaGreatDoor
open Go.RowKit

theorem Sl.unique {w:World} {ao:Option Addr} {n c:Nat} {xs ys:List Int} (h:Sl w ao n c xs) (h':Sl w ao n c ys):xs=ys:=by
 apply List.ext_getElem (h.len.trans h'.len.symm)
 intro j hj hj'
 obtain ⟨b,off,hao,_,x,hc,_,_,hx⟩:=h.cells.at hj
 obtain ⟨b',off',hao',_,y,hc',_,_,hy⟩:=h'.cells.at hj'
 rw [hao] at hao'
 cases hao'
 rw [hc] at hc'
 cases hc'
 have e1:=hx.out
 have e2:=hy.out
 have f1:xs.getD j 0=xs[j]:=by simp [hj]
 have f2:ys.getD j 0=ys[j]:=by simp [hj']
 omega

open Classical in
noncomputable def slVal (w:World) (v:Value):Nat:=
 if h:∃ x:Nat,∃ ao n c xs,v=.slice ao n c∧Sl w ao n c xs∧x=(val xs).toNat then Classical.choose h else 0

theorem zE0 {w:World} {ao:Option Addr} {n c:Nat} {xs:List Int} (h:Sl w ao n c xs):slVal w (.slice ao n c)=(val xs).toNat:=by
 have he:∃ x:Nat,∃ ao' n' c' xs',Value.slice ao n c=.slice ao' n' c'∧Sl w ao' n' c' xs'∧x=(val xs').toNat:=⟨_,ao,n,c,xs,rfl,h,rfl⟩
 unfold slVal
 rw [dif_pos he]
 obtain ⟨ao',n',c',xs',e,h',hx⟩:=Classical.choose_spec he
 cases e
 rw [hx,h.unique h']

theorem zQ7 {x:Int} {K:Nat} (hx:1≤x) (hK:1≤K):x^(K-1)≤x^K:=by
 obtain ⟨k,rfl⟩:∃ k,K=k+1:=⟨K-1,zm⟩
 rw [Nat.add_sub_cancel,Int.pow_succ]
 have:=Int.mul_le_mul_of_nonneg_left hx (show 0≤x^k from Int.pow_nonneg zm)
 omega

theorem zKe {x:Int} {K:Nat} (hx:1≤x) (hK:1≤K):x≤x^K:=by
 have:=zMq (z:=1) zm hx hK
 omega

theorem newt_le {X S:Int} {K:Nat} (hK:1≤K) (hS:1≤S) (hX:0≤X):newt X S K≤S+X:=by
 unfold newt
 have hp:0<S^(K-1):=Int.pow_pos zm
 have h1:X/S^(K-1)≤X:=Int.ediv_le_self _ hX
 refine Int.le_of_lt_add_one (Int.ediv_lt_of_lt_mul zm ?_)
 have h2:=Int.mul_le_mul_of_nonneg_left (show (1:Int)≤K by omega) (show 0≤S+X+1 by omega)
 have h3:((K:Int)-1)*S=K*S-S:=by rw [Int.sub_mul,Int.one_mul]
 have h4:(S+X+1)*(K:Int)=K*S+(X+1)*K:=by rw [Int.add_assoc,Int.add_mul,Int.mul_comm S]
 have h5:=Int.mul_le_mul_of_nonneg_left (show (1:Int)≤K by omega) (show 0≤X+1 by omega)
 omega

theorem zCl {a b:Nat} (h:a≤b):(2:Int)^a≤2^b:=by
 have e:=Nat.pow_le_pow_right (n:=2) zd h
 have e1:((2^a:Nat):Int)=2^a:=by simp
 have e2:((2^b:Nat):Int)=2^b:=by simp
 rw [← e1,← e2];omega

theorem zXs (w:World) (ax:Option Addr) (n c:Nat) (xs:List Int) (hX:Sl w ax n c xs) (hb:n≤1000000) (s:Nat) (hs:s≤32*n) :
  Calls Tryz.prog 146 #[.slice ax n c,.int .i64 s] w fun e w'=>∃ a m co zs,e=.returned (.slice a m co)∧m≤n∧Sl w' a m co zs∧val zs=val xs/2^s∧Below w.heap.size w w':=
 (zR6 w ax n c xs hX hb s hs).mono fun _ _ ⟨zs,he,hl,hr,hv,hb⟩=>⟨_,_,_,zs,he,Nat.sub_le _ _,hr.sl hl,hv,hb⟩

theorem zXt (w:World) (ax:Option Addr) (n c:Nat) (xs:List Int) (hX:Sl w ax n c xs) (hb:n≤1000000) (s:Nat) (hs:s≤1000000) :
  Calls Tryz.prog 142 #[.slice ax n c,.int .i64 s] w fun e w'=>∃ a m co zs,e=.returned (.slice a m co)∧m≤n+s/32+1∧Sl w' a m co zs∧val zs=val xs*2^s∧Below w.heap.size w w':=
 (zR7 w ax n c xs hX hb s hs).mono fun _ _ ⟨zs,he,hl,hr,hv,hb⟩=>⟨_,_,_,zs,he,Nat.le_refl _,hr.sl hl,hv,hb⟩

def zNy (w:World) (X:Int) (K:Nat) (e:Ending) (w':World):Prop:=
 ∃ a n c rs,e=.returned (.slice a n c)∧Sl w' a n c rs∧Canon rs∧IsRoot X K (val rs)∧Below w.heap.size w w'

theorem zXl (N:Nat):∀ (w:World) (ax:Option Addr) (n c:Nat) (xs:List Int) (_:Sl w ax n c xs) (_:Canon xs) (_:val xs<N) (_:n≤60000) (K:Nat) (_:1≤K) (_:(K:Int)≤9223372036854775807),
  Calls Tryz.prog 139 #[.slice ax n c,.int .i64 K] w (zNy w (val xs) K):=by
 induction N with
 | zero=>
  intro w ax n c xs hX _ hN
  have:=zAm hX.digs
  omega
 | succ N ih=>
  intro w ax n c xs hX hcx hN hn K hK hKb
  have hnn:=zAm hX.digs
  have hKb2:(0:Int)≤K:=zm
  have hIH:=hidd ih
  clear ih
  by_cases hX0:val xs=0
  ·go_enter Tryz.func139,Tryz.ntmps139
   go_wp2_with fail
   refine (zHm _ _ _ _ _ hX hcx zm).mono ?_
   rintro e w' ⟨b,rfl,hb,hbn,rfl⟩
   have hb0:b=0:=by
    rcases hb with h | h
    ·exact h.2
    ·have:=zA6 (b-1);omega
   subst hb0
   clear hb
   have HX0:=hidd hX0
   clear hX0
   go_wp2_with (go_at_call 119;(with_reducible refine (zF1 _ _ _ _ _ hX zm).mono ?_);rintro e w3 ⟨az,cz,rfl,hsz,hB2⟩)
   go_ret
   refine ⟨_,_,_,xs,rfl,hsz,hcx,?_,hB2⟩
   rw [HX0.out]
   refine ⟨Int.le_refl _,?_,?_⟩
   ·rw [Int.zero_pow zm];exact Int.le_refl _
   ·rw [Int.zero_add,Int.one_pow];decide
  have hXpos:1≤val xs:=zm
  by_cases hK1:K=1
  ·subst hK1
   go_enter Tryz.func139,Tryz.ntmps139
   go_wp2_with fail
   refine (zHm _ _ _ _ _ hX hcx zm).mono ?_
   rintro e w' ⟨b,rfl,hb,hbn,rfl⟩
   have hb0:0<b:=by
    rcases hb with h | h
    ·omega
    ·exact h.1
   have hbb:((b:Int) == 0)=false:=by simp;omega
   clear hb hX0
   go_wp2_with (go_at_call 119;(with_reducible refine (zF1 _ _ _ _ _ hX zm).mono ?_);rintro e w3 ⟨az,cz,rfl,hsz,hB2⟩)
   go_ret
   refine ⟨_,_,_,xs,rfl,hsz,hcx,⟨hnn,?_,?_⟩,hB2⟩
   ·simp [Int.pow_succ]
   ·simp [Int.pow_succ];omega
  go_enter Tryz.func139,Tryz.ntmps139
  go_wp2_with fail
  refine (zHm _ _ _ _ _ hX hcx zm).mono ?_
  rintro e w' ⟨b,rfl,hb,hbn,rfl⟩
  have hb3:0<b∧2^(b-1)≤val xs∧val xs<2^b:=by
   rcases hb with h | h
   ·omega
   ·exact h
  obtain ⟨hb0,hblo,hbhi⟩:=hb3
  have hbb:((b:Int) == 0)=false:=by simp;omega
  have hKb1:((K:Int) == 1)=false:=by simp;omega
  have HLO:=hidd hblo
  have HHI:=hidd hbhi
  clear hb hX0 hK1 hblo hbhi
  by_cases hbK:b≤K
  ·have hbKi:(b:Int)≤K:=zm
   have hone:Row (w.alloc (.cells #[.int .u32 1] 104)) 104 w.heap.size [1]:=by
    refine ⟨fun x hx=>?_,?_⟩
    ·simp at hx;subst hx;exact ⟨zm,zm⟩
    ·rw [heap_alloc_new];rfl
   have hbl:Below w.heap.size w (w.alloc (.cells #[.int .u32 1] 104)):=(Below.refl _ _).alloc (Nat.le_refl _) _
   go_wp2
   go_ret
   refine ⟨_,_,_,[1],rfl,hone.sl rfl,⟨hone.1,.inr (by simp [val,zDo])⟩,?_,hbl⟩
   refine ⟨by simp [val],?_,?_⟩
   ·simp only [val,Int.mul_zero,Int.add_zero,Int.one_pow];exact hXpos
   ·have:=zCl hbK
    have h2:=HHI.out
    simp only [val,Int.mul_zero,Int.add_zero]
    show _<(2:Int)^K
    omega
  have hKbi:(K:Int)<b:=zm
  obtain ⟨hf,hhf⟩:∃ hf:Nat,(b:Int)/(2*(K:Int))=(hf:Int):=⟨b/(2*K),by simp⟩
  have hfv:hf=b/(2*K):=by
   have:((b/(2*K):Nat):Int)=(b:Int)/(2*(K:Int)):=by simp
   omega
  have hfK:2*(hf*K)≤b:=by
   have:=Nat.div_mul_le_self b (2*K)
   rw [← hfv] at this
   have e:hf*(2*K)=2*(hf*K):=by rw [Nat.mul_left_comm]
   omega
  have hfb:(hf:Int)≤b:=by
   have:=Nat.le_mul_of_pos_right hf (show 0<K by omega)
   omega
  have hfle:hf≤hf*K:=Nat.le_mul_of_pos_right hf zm
  have hfm:(hf:Int)*K=((hf*K:Nat):Int):=by simp
  have hfm0:0≤(hf:Int)*K:=zm
  have hfm1:(hf:Int)*K≤960000:=zm
  have HFV:=hidd hfv
  have HFM:=hidd hfm
  have hb64:(2:Int)^(2*b)≤pw (2*n):=by rw [zCb];exact zCl zm
  have hpws:=zCy (2*n)
  have hpwp:=zA0 (2*n)
  clear hfv hfm
  by_cases hf0:hf=0
  ·have hfour:Row (w.alloc (.cells #[.int .u32 4] 104)) 104 w.heap.size [4]:=by
    refine ⟨fun x hx=>?_,?_⟩
    ·simp at hx;subst hx;exact ⟨zm,zm⟩
    ·rw [heap_alloc_new];rfl
   have hbl:Below w.heap.size w (w.alloc (.cells #[.int .u32 4] 104)):=(Below.refl _ _).alloc (Nat.le_refl _) _
   have hb2K:b≤2*K:=by
    have h1:=HFV.out
    rw [hf0] at h1
    have:=Nat.lt_mul_of_div_lt (show b/(2*K)<1 by omega) (show 0<2*K by omega)
    omega
   obtain ⟨S0,hS0⟩:∃ S0:Int,S0=4:=⟨_,rfl⟩
   have hp4:(4:Int)^K=2^(2*K):=by rw [Int.pow_mul];rfl
   have hup4:val xs<4^K:=by
    have h1:=HHI.out
    have h2:=zCl hb2K
    omega
   have hup5:val xs<(val [4]+1)^K:=by
    have:=zGl (show (0:Int)≤4 by decide) (show (4:Int)≤val [4]+1 by simp [val]) K
    omega
   have hS0b:S0^K<pw (2*n+1):=by
    rw [hS0,hp4]
    have h1:=zCl (show 2*K≤2*b by omega)
    omega
   have HS0:=hidd hS0
   have HUP5:=hidd hup5
   have HP4:=hidd hp4
   subst hf0
   clear hS0 hp4 hup4 hup5
   go_wp2
   have hSL:=hidd hS0b
   go_loopw [6] (fun vs wr=>∃ aS ns cs ss,vs=.slice aS ns cs∧Sl wr aS ns cs ss∧Canon ss∧Below w.heap.size w wr∧1≤val ss∧val ss≤S0∧val xs<(val ss+1)^K) (fun vs wr=>slVal wr vs)
   case atStart=>exact ⟨_,_,_,[4],rfl,hfour.sl rfl,⟨hfour.1,.inr (by simp [val,zDo])⟩,hbl,by simp [val],by rw [HS0.out];simp [val],HUP5.out⟩
   case round=>
    obtain ⟨aS,ns,cs,ss,rfl,hss,hcs,hB,hs1,hs2,hup⟩:=hrel
    have hXr:=hX.mono hB
    have hpw:val ss^K≤S0^K:=zGl zm hs2 K
    have hK1:=zQ7 hs1 (show 1≤K by omega)
    have hss1:=zKe hs1 (show 1≤K by omega)
    have hb1:=hSL.out
    have hns:ns≤2*n+1:=by
     have:=hcs.length_le (k:=2*n+1) zm
     rw [hss.len] at this;exact this
    have HUP:=hidd hup
    clear hup
    go_wp2_with fail
    refine (zQr _ _ _ _ _ _ _ _ _ hXr hss hcx hcs hs1 K (2*n+1) zm zm zm zm zm hns zm).mono ?_
    rintro e w2 ⟨at2,nt,ct,ts,rfl,hst,hct,hvt,hB2⟩
    have hss2:=hss.mono hB2
    have hB3:=hB.trans (hB2.mono hB.size)
    have hnt:nt≤2*n+1∨val ss≤val ts:=by
     rcases Int.lt_or_le (val ts) (val ss) with h | h
     ·refine .inl (Nat.le_trans (zDx hct hst hss2 zm) hns)
     ·exact .inr h
    have hge1:1≤newt (val xs) (val ss) K:=zKa zm hs1 zm (by rw [Int.one_pow];exact hXpos)
    have hntb:nt≤4000000:=by
     have h1:newt (val xs) (val ss) K≤val ss+val xs:=newt_le zm hs1 zm
     have h2:=hct.length_le (k:=2*n+1+1) (by rw [hvt];have:=zBa hX.digs;rw [hX.len] at this;have h3:=zBu (show n≤2*n+1 by omega);have h4:=zCy (2*n+1);have:=zA0 (2*n+1);omega)
     rw [hst.len] at h2;omega
    have HVT:=hidd hvt
    clear hvt
    by_cases hlt:val ts<val ss
    ·have hcm:cmpI (val ts) (val ss)=-1:=if_pos hlt
     go_wp2_with (go_at_call 82;(with_reducible refine (zD6 _ _ _ _ _ _ _ _ _ hst hss2 hct hcs zm zm).mono ?_);rintro e w3 ⟨rfl,hd⟩)
     go_roundw
     case rel=>
      refine ⟨_,_,_,ts,rfl,hst.drawn' hd,hct,hB3.trans (hd.below _),by rw [HVT.out];exact hge1,zm,?_⟩
      rw [HVT.out]
      rcases zMj (X:=val xs) (S:=val ss) (K:=K) zm hs1 with h | h
      ·exact h
      ·omega
     case measure=>
      rw [zE0 (hst.drawn' hd),zE0 hss]
      omega
    ·have hcm:0≤cmpI (val ts) (val ss):=by
      have:=(not_congr (zI4 (x:=val ts) (y:=val ss))).2 hlt;omega
     go_wp2_with (go_at_call 82;(with_reducible refine (zD6 _ _ _ _ _ _ _ _ _ hst hss2 hct hcs zm zm).mono ?_);rintro e w3 ⟨rfl,hd⟩)
     go_ret
     exact ⟨_,_,_,ss,rfl,hss2.drawn' hd,hcs,zMi zm hs1 HUP.out (by rw [← HVT.out];omega),hB3.trans (hd.below _)⟩

  ·have hfi:(0:Int)<(hf:Int):=zm
   have hbl:Below w.heap.size w (w.alloc (.cells #[.int .u32 4] 104)):=(Below.refl _ _).alloc (Nat.le_refl _) _
   have hX1:=hX.mono hbl
   go_wp2_with fail
   rw [HFM.out]
   refine (zXs _ _ _ _ _ hX1 zm (hf*K) zm).mono ?_
   rintro e w2 ⟨a2,n2,c2,zs2,rfl,hn2,hs2,hv2,hB2⟩
   go_wp2_with fail
   refine (zBm _ _ _ _ _ hs2 zm).mono ?_
   rintro e w3 ⟨m3,rfl,hm3,hs3,hv3,hc3,rfl⟩
   have hB2':=hbl.trans (hB2.mono hbl.size)
   have hv23:=hv3.trans hv2
   have hKp:1≤hf*K:=Nat.mul_pos zm zm
   have hsmall:val (zs2.take m3)<N:=by
    rw [hv23]
    have h1:=Int.mul_ediv_add_emod (val xs) (2^(hf*K))
    have h2:=Int.emod_nonneg (val xs) (Int.ne_of_gt (zA6 (hf*K)))
    have h3:=zCl hKp
    have h4:=Int.ediv_nonneg hnn (Int.le_of_lt (zA6 (hf*K)))
    have h5:=Int.mul_le_mul_of_nonneg_right (show 2≤(2:Int)^(hf*K) by simpa using h3) h4
    omega
   have HV23:=hidd hv23
   clear hs2 hv2 hv3 hv23 hB2 hX1
   go_wp2_with fail
   refine (hIH.out _ _ _ _ _ hs3 hc3 hsmall zm K hK hKb).mono ?_
   rintro e w4 ⟨a4,n4,c4,rs4,rfl,hs4,hc4,hroot,hB4⟩
   have hX'0:=zAm hs3.digs
   rw [HV23.out] at hroot
   have hn4:n4≤n:=by
    have h1:val rs4≤val xs:=by
     rcases (by have:=hroot.1;omega:val rs4=0∨1≤val rs4) with h | h
     ·omega
     ·have h2:=zKe h hK
      have h3:=hroot.2.1
      have h4:val xs/2^(hf*K)≤val xs:=Int.ediv_le_self _ hnn
      omega
    have h2:=hc4.length_le (k:=n) (by have:=zBa hX.digs;rw [hX.len] at this;omega)
    rw [hs4.len] at h2;exact h2
   have hB24:=hB2'.trans (hB4.mono hB2'.size)
   have HROOT:=hidd hroot
   clear hroot hB2' hB4 hs3 hc3 hsmall
   go_wp2_with fail
   refine (zBm _ _ _ _ _ hs4 zm).mono ?_
   rintro e w5 ⟨m5,rfl,hm5,hs5,hv5,hc5,rfl⟩
   have HV5:=hidd hv5
   clear hv5
   have hone:Row (w4.alloc (.cells #[.int .u32 1] 104)) 104 w4.heap.size [1]:=by
    refine ⟨fun x hx=>?_,?_⟩
    ·simp at hx;subst hx;exact ⟨zm,zm⟩
    ·rw [heap_alloc_new];rfl
   have hbl5:Below w4.heap.size w4 (w4.alloc (.cells #[.int .u32 1] 104)):=(Below.refl _ _).alloc (Nat.le_refl _) _
   have hs51:=hs5.mono hbl5
   have h1s:=hone.sl (n:=1) rfl
   go_wp2_with fail
   refine (zIw _ _ _ _ _ _ _ _ _ hs51 h1s zm zm).mono ?_
   rintro e w6 ⟨a6,n6,c6,zs6,rfl,hn6,hs6,hv6,hB6⟩
   have hB26:=(hB24.trans (hbl5.mono hB24.size)).trans (hB6.mono (Nat.le_trans hB24.size hbl5.size))
   go_wp2_with fail
   refine (zBm _ _ _ _ _ hs6 zm).mono ?_
   rintro e w7 ⟨m7,rfl,hm7,hs7,hv7,hc7,rfl⟩
   have hv67:val (zs6.take m7)=val rs4+1:=by rw [hv7,hv6,HV5.out];simp [val]
   have HV67:=hidd hv67
   clear hv67 hv7 hv6 hs6 hs51 h1s hone hbl5 hs5 hs4 hB24
   go_wp2_with fail
   refine (zXt _ _ _ _ _ hs7 zm hf zm).mono ?_
   rintro e w8 ⟨a8,n8,c8,zs8,rfl,hn8,hs8,hv8,hB8⟩
   go_wp2_with fail
   refine (zBm _ _ _ _ _ hs8 zm).mono ?_
   rintro e w9 ⟨m9,rfl,hm9,hs9,hv9,hc9,rfl⟩
   have hB28:=hB26.trans (hB8.mono hB26.size)
   have hv89:val (zs8.take m9)=(val rs4+1)*2^hf:=by rw [hv9,hv8,HV67.out]
   obtain ⟨S0,hS0⟩:∃ S0:Int,S0=(val rs4+1)*2^hf:=⟨_,rfl⟩
   have hS89:val (zs8.take m9)=S0:=hv89.trans hS0.symm
   have hX':val xs/2^(hf*K)=val xs/(2^hf)^K:=by rw [← Int.pow_mul]
   have hup:=half_up (K:=K) (zA6 hf) hX' HROOT.out
   have hbd:=half_bd (K:=K) (zA6 hf) hnn hX' HROOT.out
   rw [← hS0] at hup hbd
   have hS1:1≤S0:=by
    rw [hS0]
    have:=HROOT.out.1
    exact zH9 zm (zA6 hf)
   have hup9:val xs<(val (zs8.take m9)+1)^K:=by
    rw [hS89]
    have:=zGl (show 0≤S0 by omega) (show S0≤S0+1 by omega) K
    omega
   have hS0b:S0^K<pw (2*n+1):=by
    have h1:(2:Int)^K*val xs≤2^K*2^b:=Int.mul_le_mul_of_nonneg_left (by have:=HHI.out;omega) (Int.le_of_lt (zA6 K))
    rw [← Int.pow_add] at h1
    have h2:=zCl (show K+b≤2*b by omega)
    have h3:=zCl (show hf*K≤2*b by omega)
    rw [Int.pow_mul] at h3
    omega
   have HS89:=hidd hS89
   have HUP9:=hidd hup9
   clear hv89 hS0 hS89 hX' hup hbd hup9 hv8 hv9 hs8 hB8 hB26 hs7 hc7
   go_wp2
   have hSL:=hidd hS0b
   go_loopw [6] (fun vs wr=>∃ aS ns cs ss,vs=.slice aS ns cs∧Sl wr aS ns cs ss∧Canon ss∧Below w.heap.size w wr∧1≤val ss∧val ss≤S0∧val xs<(val ss+1)^K) (fun vs wr=>slVal wr vs)
   case atStart=>exact ⟨_,_,_,_,rfl,hs9,hc9,hB28,by rw [HS89.out];exact hS1,by rw [HS89.out];exact Int.le_refl _,HUP9.out⟩
   case round=>
    obtain ⟨aS,ns,cs,ss,rfl,hss,hcs,hB,hs1,hs2,hup⟩:=hrel
    have hXr:=hX.mono hB
    have hpw:val ss^K≤S0^K:=zGl zm hs2 K
    have hK1:=zQ7 hs1 (show 1≤K by omega)
    have hss1:=zKe hs1 (show 1≤K by omega)
    have hb1:=hSL.out
    have hns:ns≤2*n+1:=by
     have:=hcs.length_le (k:=2*n+1) zm
     rw [hss.len] at this;exact this
    have HUP:=hidd hup
    clear hup
    go_wp2_with fail
    refine (zQr _ _ _ _ _ _ _ _ _ hXr hss hcx hcs hs1 K (2*n+1) zm zm zm zm zm hns zm).mono ?_
    rintro e w2 ⟨at2,nt,ct,ts,rfl,hst,hct,hvt,hB2⟩
    have hss2:=hss.mono hB2
    have hB3:=hB.trans (hB2.mono hB.size)
    have hnt:nt≤2*n+1∨val ss≤val ts:=by
     rcases Int.lt_or_le (val ts) (val ss) with h | h
     ·refine .inl (Nat.le_trans (zDx hct hst hss2 zm) hns)
     ·exact .inr h
    have hge1:1≤newt (val xs) (val ss) K:=zKa zm hs1 zm (by rw [Int.one_pow];exact hXpos)
    have hntb:nt≤4000000:=by
     have h1:newt (val xs) (val ss) K≤val ss+val xs:=newt_le zm hs1 zm
     have h2:=hct.length_le (k:=2*n+1+1) (by rw [hvt];have:=zBa hX.digs;rw [hX.len] at this;have h3:=zBu (show n≤2*n+1 by omega);have h4:=zCy (2*n+1);have:=zA0 (2*n+1);omega)
     rw [hst.len] at h2;omega
    have HVT:=hidd hvt
    clear hvt
    by_cases hlt:val ts<val ss
    ·have hcm:cmpI (val ts) (val ss)=-1:=if_pos hlt
     go_wp2_with (go_at_call 82;(with_reducible refine (zD6 _ _ _ _ _ _ _ _ _ hst hss2 hct hcs zm zm).mono ?_);rintro e w3 ⟨rfl,hd⟩)
     go_roundw
     case rel=>
      refine ⟨_,_,_,ts,rfl,hst.drawn' hd,hct,hB3.trans (hd.below _),by rw [HVT.out];exact hge1,zm,?_⟩
      rw [HVT.out]
      rcases zMj (X:=val xs) (S:=val ss) (K:=K) zm hs1 with h | h
      ·exact h
      ·omega
     case measure=>
      rw [zE0 (hst.drawn' hd),zE0 hss]
      omega
    ·have hcm:0≤cmpI (val ts) (val ss):=by
      have:=(not_congr (zI4 (x:=val ts) (y:=val ss))).2 hlt;omega
     go_wp2_with (go_at_call 82;(with_reducible refine (zD6 _ _ _ _ _ _ _ _ _ hst hss2 hct hcs zm zm).mono ?_);rintro e w3 ⟨rfl,hd⟩)
     go_ret
     exact ⟨_,_,_,ss,rfl,hss2.drawn' hd,hcs,zMi zm hs1 HUP.out (by rw [← HVT.out];omega),hB3.trans (hd.below _)⟩



theorem zXk (w:World) (ax:Option Addr) (n c:Nat) (xs:List Int) (hX:Sl w ax n c xs) (hcx:Canon xs) (hn:n≤60000) (K:Nat) (hK:1≤K) (hKb:(K:Int)≤9223372036854775807) :
  Calls Tryz.prog 139 #[.slice ax n c,.int .i64 K] w (zNy w (val xs) K):=
 zXl ((val xs).toNat+1) w ax n c xs hX hcx (by have:=zAm hX.digs;omega) hn K hK hKb

def zeroV:Value:=.agg #[.bool false,.slice none 0 0]

theorem zOa {z:Int}:cmpI z 0<0 ↔ z<0:=zI4

theorem zXr {b:Bool} {v:Int} (hv:0≤v) (h:0≤sgn b v):sgn b v=v:=by
 cases b
 ·rfl
 ·simp [sgn] at h ⊢;omega

theorem zJx {x y:Int} (hx:0≤x) (hy:0≤y):Int.gcd y (x % y)=Int.gcd x y:=by
 obtain ⟨a,rfl⟩:=Int.eq_ofNat_of_zero_le hx
 obtain ⟨b,rfl⟩:=Int.eq_ofNat_of_zero_le hy
 show Nat.gcd b (((a:Int) % b).natAbs)=Nat.gcd a b
 have e:((a:Int) % (b:Int)).natAbs=a % b:=by
  rw [← Int.natCast_emod];rfl
 rw [e,Nat.gcd_comm a b,Nat.gcd_rec b a,Nat.gcd_comm]

theorem gcd_zero {x:Int} (hx:0≤x):(Int.gcd x 0:Int)=x:=by
 rw [Int.gcd_zero_right];omega

theorem gcd_sgn (a b:Bool) (x y:Int):Int.gcd (sgn a x) (sgn b y)=Int.gcd x y:=by
 cases a <;> cases b <;> simp [sgn]

def GcdInv (w:World) (L:Nat) (g:Nat) (vx vy:Value) (wr:World):Prop:=
 ∃ ax nx cx xs ay ny cy ys,vx=.slice ax nx cx∧vy=.slice ay ny cy∧Sl wr ax nx cx xs∧Sl wr ay ny cy ys∧Canon xs∧Canon ys∧nx≤L∧ny≤L∧Int.gcd (val xs) (val ys)=g∧Below w.heap.size w wr

theorem Gcd_any (w:World) (na nb:Bool) (ax ay:Option Addr) (n m cx cy:Nat) (xs ys:List Int) (hX:Sl w ax n cx xs) (hY:Sl w ay m cy ys) (hb1:n≤900000) (hb2:m≤900000) :
  Calls Tryz.prog 136 #[.agg #[.bool na,.slice ax n cx],.agg #[.bool nb,.slice ay m cy]] w (zBc w (Int.gcd (sgn na (val xs)) (sgn nb (val ys)))):=by
 rw [gcd_sgn]
 obtain ⟨g,hg⟩:∃ g,g=Int.gcd (val xs) (val ys):=⟨_,rfl⟩
 have HG:=hidd hg
 rw [← hg]
 clear hg
 go_enter Tryz.func136,Tryz.ntmps136
 go_wp2
 obtain ⟨w0,hw0,hA,hB,hC,hbl,HS⟩:=zEl w (.bool na) (.slice ax n cx) (.bool nb) (.slice ay m cy) 36
 rw [← hw0]
 clear hw0
 have hXd:=(hX.mono hbl).drew
 have hYd:=(hY.mono hbl).drew
 have hcut:w.heap.size+2≤w0.heap.size:=by have:=HS.out;omega
 obtain ⟨ca0,ca1,_,_⟩:=hA
 obtain ⟨cb0,cb1,_,_⟩:=hB
 go_region_held3 (fun W=>w.heap.size+2≤W.heap.size∧(∀ b o,b<w.heap.size+2→W.cell? ⟨b,o,none⟩=w0.cell? ⟨b,o,none⟩)∧∀ b o,b<w.heap.size+2→W.frozen? ⟨b,o,none⟩=w0.frozen? ⟨b,o,none⟩)
  (first | exact Kept.start hcut | assumption | exact Kept.call (by assumption) (by assumption))
  (first | (go_at_call 80;(with_reducible refine (zBm _ _ _ _ _ hXd zm).mono ?_);rintro e w' ⟨m1,rfl,hm1,hs1,hv1,hc1,rfl⟩) | (go_at_call 119;(with_reducible refine (zF1 _ _ _ _ _ hs1 zm).mono ?_);rintro e w1 ⟨a1,k1,rfl,ht1,hB1⟩;have hY1:=hYd.mono hB1) | (go_at_call 80;(with_reducible refine (zBm _ _ _ _ _ hY1 zm).mono ?_);rintro e w' ⟨m2,rfl,hm2,hs2,hv2,hc2,rfl⟩) | (go_at_call 119;(with_reducible refine (zF1 _ _ _ _ _ hs2 zm).mono ?_);rintro e w2 ⟨a2,k2,rfl,ht2,hB2⟩))
 have hbl2:Below w.heap.size w w2:=(hbl.drew.trans (hB1.mono hbl.size)).trans (hB2.mono (Nat.le_trans hbl.size hB1.size))
 have ht1':=ht1.mono hB2
 have hC2:IntBox w2 (w.heap.size+1+1) (.bool false) (.slice none 0 0):=by
  have hCd:IntBox w0.drew (w.heap.size+1+1) (.bool false) (.slice none 0 0):=hC
  exact (hCd.mono hB1 hCd.lt).mono hB2 (Nat.lt_of_lt_of_le hCd.lt hB1.size)
 have hgcd:Int.gcd (val (xs.take m1)) (val (ys.take m2))=g:=by rw [hv1,hv2];exact HG.out.symm
 have HGC:=hidd hgcd
 have hr2:w.heap.size+1+1<w2.heap.size:=hC2.lt
 clear hXd hYd hcut hbl hC ca0 ca1 cb0 cb1 hB1 hB2 hY1 hs1 hs2 hv1 hv2 ht1 hgcd hX hY
 go_wp2
 go_loopw [5,6] (fun vx vy wr=>GcdInv w2 900000 g vx vy wr) (fun _ vy wr=>slVal wr vy)
 case atStart=>exact ⟨_,_,_,_,_,_,_,_,rfl,rfl,ht1',ht2,hc1,hc2,zm,zm,HGC.out,Below.refl _ _⟩
 case round=>
  obtain ⟨px,nx,qx,xs',py,ny,qy,ys',rfl,rfl,hsx,hsy,hcx,hcy,hnx,hny,hgc,hB⟩:=hrel
  have HGC':=hidd hgc
  have hx0:=zAm hsx.digs
  have hy0:=zAm hsy.digs
  have hyz:=hcy.zero
  rw [hsy.len] at hyz
  have hbl3:=hbl2.trans (hB.mono hbl2.size)
  have hC3:=hC2.mono hB hr2
  clear hgc ht1' ht2 hc1 hc2 HGC
  by_cases hny0:ny=0
  ·have hv0:val ys'=0:=hyz.1 hny0
   have HGX:Hid ((g:Int)=val xs'):=by
    show _=_
    rw [← HGC'.out,hv0,gcd_zero hx0]
   clear hyz hv0
   subst hny0
   go_wp2_with fail
   refine (zCv _ _ _ _ _ _ hsx zm).mono ?_
   rintro e w3 ⟨v,rfl,⟨ng,ao,nn,cc,rs,rfl,hrs,hrc,hrn,hrz⟩,hb3⟩
   have hC4:=hC3.mono hb3 hC3.lt
   have hbl4:=hbl3.trans (hb3.mono hbl3.size)
   have HRZ:Hid ((g:Int)=sgn ng (val rs)):=by show _=_;rw [← hrz];exact HGX.out
   have HC4:=hidd hC4
   obtain ⟨e0,e1,e2,e3⟩:=hC4
   clear hrz hC3 hb3
   go_wp2
   refine bodyPost_ret (v:=.agg #[.bool ng,.slice ao nn cc]) ?_ rfl ?_
   ·simp [results,Tryz.results136,go_sem,e0,e1]
   ·exact zB7 HC4.out hrs hrc hrn HRZ.out hbl4 zm
  ·have hyp:0<val ys':=by
    have:val ys'≠0:=fun h=>hny0 (hyz.2 h)
    omega
   have hnyi:(0:Int)<(ny:Int):=zm
   have hnyb:((ny:Int) == 0)=false:=by simp;omega
   clear hyz
   by_cases hbig:2<nx∨2<ny
   ·have hdv:∀ W,W=wr→Calls Tryz.prog 85 #[.slice px nx qx,.slice py ny qy] W (DivDone W (val xs') (val ys')):=fun W h=>by
     subst h;exact zJa _ _ _ _ _ _ _ _ _ hsx hsy hcx hcy hyp zm zm
    have HDV:=hidd hdv
    clear hdv
    rcases hbig with hbig | hbig
    ·have hnx2:(2:Int)<(nx:Int):=zm
     go_wp2_with fail
     refine (HDV.out _ rfl).mono ?_
     rintro e w3 ⟨aq,ar,nq,nr,cq,cr,qs,rs,rfl,hsq,hsr,hcq,hcr,hvq,hvr,hB3⟩
     have hsy3:=hsy.mono hB3
     have hlt:=Int.emod_lt_of_pos (val xs') hyp
     have hnr:nr≤ny:=zDx hcr hsr hsy3 zm
     have HVR:=hidd hvr
     clear hvr hvq
     go_wp2
     go_roundw
     case rel=>exact ⟨_,_,_,_,_,_,_,_,rfl,rfl,hsy3,hsr,hcy,hcr,hny,zm,by rw [HVR.out,zJx hx0 hy0];exact HGC'.out,hB.trans (hB3.mono hB.size)⟩
     case measure=>
      rw [zE0 hsr,zE0 hsy,HVR.out]
      have:=Int.emod_nonneg (val xs') (Int.ne_of_gt hyp)
      omega
    ·have hny2:(2:Int)<(ny:Int):=zm
     by_cases hnx2:(2:Int)<(nx:Int)
     ·go_wp2_with fail
      refine (HDV.out _ rfl).mono ?_
      rintro e w3 ⟨aq,ar,nq,nr,cq,cr,qs,rs,rfl,hsq,hsr,hcq,hcr,hvq,hvr,hB3⟩
      have hsy3:=hsy.mono hB3
      have hlt:=Int.emod_lt_of_pos (val xs') hyp
      have hnr:nr≤ny:=zDx hcr hsr hsy3 zm
      have HVR:=hidd hvr
      clear hvr hvq
      go_wp2
      go_roundw
      case rel=>exact ⟨_,_,_,_,_,_,_,_,rfl,rfl,hsy3,hsr,hcy,hcr,hny,zm,by rw [HVR.out,zJx hx0 hy0];exact HGC'.out,hB.trans (hB3.mono hB.size)⟩
      case measure=>
       rw [zE0 hsr,zE0 hsy,HVR.out]
       have:=Int.emod_nonneg (val xs') (Int.ne_of_gt hyp)
       omega
     ·go_wp2_with fail
      refine (HDV.out _ rfl).mono ?_
      rintro e w3 ⟨aq,ar,nq,nr,cq,cr,qs,rs,rfl,hsq,hsr,hcq,hcr,hvq,hvr,hB3⟩
      have hsy3:=hsy.mono hB3
      have hlt:=Int.emod_lt_of_pos (val xs') hyp
      have hnr:nr≤ny:=zDx hcr hsr hsy3 zm
      have HVR:=hidd hvr
      clear hvr hvq
      go_wp2
      go_roundw
      case rel=>exact ⟨_,_,_,_,_,_,_,_,rfl,rfl,hsy3,hsr,hcy,hcr,hny,zm,by rw [HVR.out,zJx hx0 hy0];exact HGC'.out,hB.trans (hB3.mono hB.size)⟩
      case measure=>
       rw [zE0 hsr,zE0 hsy,HVR.out]
       have:=Int.emod_nonneg (val xs') (Int.ne_of_gt hyp)
       omega
   ·have hnx2:¬ (2:Int)<(nx:Int):=zm
    have hny2:¬ (2:Int)<(ny:Int):=zm
    have hX64:val xs'<18446744073709551616:=by
     have h1:=zBa hsx.digs
     have h2:=zBu (show xs'.length≤2 by rw [hsx.len];omega)
     have e:pw 2=18446744073709551616:=rfl
     omega
    have hY64:val ys'<18446744073709551616:=by
     have h1:=zBa hsy.digs
     have h2:=zBu (show ys'.length≤2 by rw [hsy.len];omega)
     have e:pw 2=18446744073709551616:=rfl
     omega
    clear hbig hyp
    go_wp2_with (first | (go_at_call 122;(with_reducible refine (zIp _ _ _ _ _ hsx zm).mono ?_);rintro e w3 ⟨rfl,rfl⟩) | (go_at_call 122;(with_reducible refine (zIp _ _ _ _ _ hsy zm).mono ?_);rintro e w3 ⟨rfl,rfl⟩))
    generalize val xs'=X at *
    generalize val ys'=Y at *
    clear hsx hsy hcx hcy
    go_loopw [9,10] (fun vu vv w'=>∃ u v:Int,vu=.int .u64 u∧vv=.int .u64 v∧0≤u∧u<18446744073709551616∧0≤v∧v<18446744073709551616∧Int.gcd u v=g∧Drawn wr w') (fun _ vv _=>(intOf vv).toNat)
    case atStart=>exact ⟨X,Y,rfl,rfl,hx0,hX64,hy0,hY64,HGC'.out,Drawn.refl _⟩
    case round=>
     obtain ⟨u,v,rfl,rfl,hu0,hu1,hv0,hv1,hgu,hd⟩:=hrel
     have HGU:=hidd hgu
     clear hgu
     by_cases hv:0<v
     ·have hvne:¬ v=0:=zm
      have hvb:(v == 0)=false:=by simp;omega
      have hm0:0≤u % v:=Int.emod_nonneg _ zm
      have hm1:u % v<v:=Int.emod_lt_of_pos _ hv
      have hmv:u.tmod v=u % v:=IntWalk.rem_in _ _ hu0
      have hmw:IntKind.u64.wrap (u % v)=u % v:=IntWalk.u64_in _ ⟨hm0,zm⟩
      go_wp2
      go_quiet (fail)
      go_wp2
      go_roundw
      case rel=>exact ⟨v,u % v,rfl,rfl,hv0,hv1,hm0,zm,by rw [zJx hu0 hv0];exact HGU.out,hd.drewN _⟩
      case measure=>simp [intOf];omega
     ·have hvz:v=0:=zm
      have HGX:Hid ((g:Int)=u):=by
       show _=_
       rw [← HGU.out,hvz,gcd_zero hu0]
      have hC4:IntBox _ _ _ _:=hC3.mono (hd.below _) (Nat.lt_succ_self _)
      have hbl4:=hbl3.trans (hd.below _)
      clear hvz hC3
      go_wp2_with fail
      refine (zFk _ u hu0 hu1).mono ?_
      rintro e w5 ⟨a5,n5,c5,zs5,rfl,hn5,hs5,hc5,hv5,hB5⟩
      have hC5:=hC4.mono hB5 hC4.lt
      have hbl5:=hbl4.trans (hB5.mono hbl4.size)
      have HV5:=hidd hv5
      clear hv5 hC4 hbl4 hB5
      go_wp2_with fail
      refine (zCv _ _ _ _ _ _ hs5 zm).mono ?_
      rintro e w6 ⟨v6,rfl,⟨ng,ao,nn,cc,rs,rfl,hrs,hrc,hrn,hrz⟩,hb6⟩
      have hC6:=hC5.mono hb6 hC5.lt
      have hbl6:=hbl5.trans (hb6.mono hbl5.size)
      have HRZ:Hid ((g:Int)=sgn ng (val rs)):=by show _=_;rw [← hrz,HV5.out];exact HGX.out
      have HC6:=hidd hC6
      obtain ⟨e0,e1,e2,e3⟩:=hC6
      clear hrz hC5 hb6
      go_wp2
      refine bodyPost_ret (v:=.agg #[.bool ng,.slice ao nn cc]) ?_ rfl ?_
      ·simp [results,Tryz.results136,go_sem,e0,e1]
      ·exact zB7 HC6.out hrs hrc hrn HRZ.out hbl6 zm

end Go.Proofs.YtjadciofpgjofaaGreatDoor
namespace Go.Proofs.YtjadciofpgjofaaGreatDoor

def ab (z:Int):Int:=(z.natAbs:Int)

theorem zEk (z:Int):0≤ab z:=by unfold ab;omega
theorem zIv (x y:Int):ab (x*y)=ab x*ab y:=by unfold ab;rw [Int.natAbs_mul];rfl
theorem ab_sub (x y:Int):ab (x-y)≤ab x+ab y:=by unfold ab;omega
theorem ab_pos {z:Int} (h:z≠0):1≤ab z:=by unfold ab;omega
theorem zBb {z:Int} (h:0≤z):ab z=z:=by unfold ab;omega

def zHi (a b r rr u uu:Int):Prop:=
 (∃ k,r=u*a+k*b)∧(∃ k,rr=uu*a+k*b)∧Int.gcd r rr=Int.gcd a b∧ab u≤3*ab b∧ab uu≤3*ab b∧(ab r≤ab a∨ab r≤ab b)∧ab rr≤ab b ∧
  ((u=1∧uu=0∧r=a∧rr=b)∨(u=0∧uu=1∧r=b∧0≤rr)∨(0<r∧0≤rr∧ab uu*r+ab u*rr≤3*ab b))

theorem bez_start {a b:Int} (hb:b≠0):zHi a b a b 1 0:=by
 have:=ab_pos hb
 exact ⟨⟨0,zm⟩,⟨1,zm⟩,rfl,by unfold ab at *;omega,by unfold ab at *;omega,.inl (Int.le_refl _),Int.le_refl _,.inl ⟨rfl,rfl,rfl,rfl⟩⟩

theorem gcd_step' (x y:Int):Int.gcd y (x % y)=Int.gcd x y:=by
 have h:=Int.mul_ediv_add_emod x y
 rw [Int.gcd_comm x y]
 have e:x % y=x-y*(x/y):=zm
 rw [e,Int.sub_eq_add_neg,← Int.mul_neg,Int.gcd_add_mul_left_right]

theorem bez_step {a b r rr u uu:Int} (hb:b≠0) (h:zHi a b r rr u uu) (h0:rr≠0) :
  zHi a b rr (r % rr) uu (u-r/rr*uu)∧ab (r % rr)<ab rr∧ab (r/rr*uu)≤6*ab b∧ab (r/rr)≤ab r:=by
 obtain ⟨⟨k,hk⟩,⟨k',hk'⟩,hg,hu,huu,hr,hrr,hph⟩:=h
 have hdm:=Int.mul_ediv_add_emod r rr
 have hm0:=Int.emod_nonneg r h0
 have hm1:r % rr<ab rr:=by unfold ab;exact Int.emod_lt r h0
 have hq:ab (r/rr)≤ab r:=by
  unfold ab
  have:=Int.natAbs_ediv_le_natAbs r rr
  omega
 have hab:=ab_pos hb
 obtain ⟨q,hqe⟩:∃ q,q=r/rr:=⟨_,rfl⟩
 obtain ⟨s,hse⟩:∃ s,s=r % rr:=⟨_,rfl⟩
 have hgs:Int.gcd rr s=Int.gcd a b:=by rw [hse,gcd_step',hg]
 rw [← hqe] at hdm hq ⊢
 rw [← hse] at hdm hm0 hm1 ⊢
 have hs:ab s=s:=zBb hm0
 have hk2:∃ k,s=(u-q*uu)*a+k*b:=by
  refine ⟨k-q*k',?_⟩
  have e1:(u-q*uu)*a+(k-q*k')*b=(u*a+k*b)-q*(uu*a+k'*b):=by
   simp only [Int.sub_mul,Int.mul_add,Int.mul_assoc];omega
  rw [e1,← hk,← hk',Int.mul_comm q rr]
  omega
 have hW:=ab_sub u (q*uu)
 rw [zIv] at hW
 have hu0:=zEk u
 have hv0:=zEk uu
 have hw0:=zEk (u-q*uu)
 have hq0:=zEk q
 suffices hc:ab (u-q*uu)≤3*ab b∧((uu=0∧u-q*uu=1∧rr=b∧0≤s)∨(0<rr∧0≤s∧ab (u-q*uu)*rr+ab uu*s≤3*ab b)) by
  refine ⟨⟨⟨k',hk'⟩,hk2,hgs,huu,hc.1,.inr hrr,zm,.inr ?_⟩,zm,?_,hq⟩
  ·rcases hc.2 with ⟨h1,h2,h3,h4⟩ | h1
   ·exact .inl ⟨h1,h2,h3,h4⟩
   ·exact .inr h1
  ·have h1:=ab_sub u (u-q*uu)
   rw [show u-(u-q*uu)=q*uu from by omega] at h1
   omega
 rcases hph with ⟨rfl,rfl,rfl,rfl⟩ | ⟨rfl,rfl,rfl,h4⟩ | ⟨h1,h2,h3⟩
 ·simp only [Int.mul_zero,Int.sub_zero]
  have e1:ab 1=1:=rfl
  refine ⟨zm,.inl ⟨trivial,trivial,trivial,hm0⟩⟩
 ·have hrp:0<rr:=zm
  have hrra:ab rr=rr:=zBb zm
  have e1:ab (0-q*1)=ab q:=by unfold ab;omega
  have e2:ab 1=1:=rfl
  rw [e1,e2]
  have key:ab q*rr+s≤3*ab r:=by
   rcases (by omega:0≤q∨q<0) with hq | hq
   ·rw [zBb hq]
    have:ab r=r:=by
     apply zBb
     have:=Int.mul_nonneg (show 0≤rr by omega) hq
     omega
    rw [Int.mul_comm q rr];omega
   ·have e3:ab q=-q:=by unfold ab;omega
    rw [e3,Int.neg_mul,Int.mul_comm q rr]
    have:-r≤ab r:=by unfold ab;omega
    omega
  have h5:ab q≤ab q*rr:=by
   have:=Int.mul_le_mul_of_nonneg_left (show 1≤rr by omega) hq0
   omega
  exact ⟨zm,.inr ⟨hrp,hm0,zm⟩⟩
 ·have hrp:0<rr:=zm
  have hqn:0≤q:=by rw [hqe];exact Int.ediv_nonneg zm zm
  rw [zBb hqn] at hW
  have p1:=Int.mul_nonneg (show 0≤ab u+q*ab uu-ab (u-q*uu) by omega) (show 0≤rr by omega)
  generalize ab (u-q*uu)=W at *
  generalize ab u=U at *
  generalize ab uu=V at *
  have e4:V*r=V*(rr*q)+V*s:=by rw [← Int.mul_add,hdm]
  have e5:(U+q*V-W)*rr=U*rr+V*(rr*q)-W*rr:=by
   rw [Int.sub_mul,Int.add_mul]
   congr 2
   rw [Int.mul_comm q V,Int.mul_assoc,Int.mul_comm q rr]
  have key:W*rr+V*s≤3*ab b:=zm
  have p2:=Int.mul_nonneg hv0 hm0
  have p3:=Int.mul_le_mul_of_nonneg_left (show 1≤rr by omega) hw0
  exact ⟨zm,.inr ⟨hrp,hm0,key⟩⟩

theorem bez_end {a b r u uu:Int} (hb:b≠0) (h:zHi a b r 0 u uu):ab r=(Int.gcd a b:Int)∧0<ab r∧(∃ k,ab r=u*a+k*b)∧ab u≤3*ab b:=by
 obtain ⟨⟨k,hk⟩,⟨k',hk'⟩,hg,hu,huu,hr,hrr,hph⟩:=h
 have hga:ab r=(Int.gcd a b:Int):=by
  rw [← hg,Int.gcd_zero_right];rfl
 have hgp:0<Int.gcd a b:=Int.gcd_pos_of_ne_zero_right _ hb
 refine ⟨hga,zm,?_,hu⟩
 rcases (by omega:0≤r∨r<0) with h0 | h0
 ·exact ⟨k,by rw [zBb h0];exact hk⟩
 ·rcases hph with ⟨_,_,_,h4⟩ | ⟨h1,h2,h3,h4⟩ | ⟨h1,_,_⟩
  ·exact absurd h4.symm hb
  ·refine ⟨-1,?_⟩
   have:ab r=-r:=by unfold ab;omega
   rw [this,h1,h3];omega
  ·omega

theorem bez_last {a b g u:Int} (hb:b≠0) (hg:g=(Int.gcd a b:Int)) (hu:∃ k,g=u*a+k*b) :
  0<ab b/g∧0≤u % (ab b/g)∧u % (ab b/g)<ab b/g∧(g-u % (ab b/g)*a)/b*b=g-u % (ab b/g)*a:=by
 have hgp:0<Int.gcd a b:=Int.gcd_pos_of_ne_zero_right _ hb
 have hg0:0<g:=zm
 have hgb:g ∣ b:=by rw [hg];exact Int.gcd_dvd_right ..
 have hga:g ∣ a:=by rw [hg];exact Int.gcd_dvd_left ..
 obtain ⟨c,hc⟩:=hgb
 obtain ⟨d,hd⟩:=hga
 have hcab:ab b/g=ab c:=by
  rw [hc,zIv,zBb (show 0≤g by omega),Int.mul_ediv_cancel_left _ zm]
 have hc0:c≠0:=by intro e;rw [e,Int.mul_zero] at hc;exact hb hc
 have hcp:=ab_pos hc0
 rw [hcab]
 refine ⟨zm,Int.emod_nonneg _ zm,Int.emod_lt_of_pos _ zm,?_⟩
 apply Int.ediv_mul_cancel
 obtain ⟨k,hk⟩:=hu
 have hdm:=Int.mul_ediv_add_emod u (ab c)
 obtain ⟨sg,hsg⟩:∃ sg,ab c=sg*c:=by
  rcases (by omega:0≤c∨c<0) with h | h
  ·exact ⟨1,by rw [zBb h];omega⟩
  ·exact ⟨-1,by unfold ab;omega⟩
 refine ⟨k+sg*(u/ab c)*d,?_⟩
 have e1:u % ab c=u-ab c*(u/ab c):=zm
 rw [e1,hk,Int.sub_mul]
 have e2:ab c*(u/ab c)*a=b*(sg*(u/ab c)*d):=by
  rw [hd,hc]
  generalize u/ab c=t
  rw [hsg]
  simp only [Int.mul_comm,Int.mul_left_comm]
 rw [e2,Int.mul_add,Int.mul_comm b k]
 omega

end Go.Proofs.YtjadciofpgjofaaGreatDoor
namespace Go.Proofs.YtjadciofpgjofaaGreatDoor
open Go Go.RowKit

def zCt (ops:Array Oper) (vs:Nat→Value):Nat→Act→Act
 | 0,a=>a
 | k+1,a=>(zCt ops vs k a).put (zBq ops k) (vs k)

theorem zAo {ops:Array Oper} {L:Nat→Bool} {vs:Nat→Value}:∀ {k:Nat} {a:Act},(∀ j,j<k→L j=true)→lay ops L vs k a=zCt ops vs k a
 | 0,_,_=>rfl
 | k+1,a,h=>by simp only [lay,zCt];rw [if_pos (h k zm),zAo fun j hj=>h j zm]

theorem pw_six (k:Nat):6*pw k≤pw (k+1):=by
 rw [zEs]
 have e:pw 1=4294967296:=rfl
 have:=zA0 k
 rw [e];omega

theorem zCq {w:World} {v:Value} {z:Int} (h:IsInt w v z) {k:Nat} (hz:ab z<pw k) (hk:k≤900000):Num w v z:=h.num hk hz

theorem BoxNum.made {w:World} {n:Bool} {ao:Option Addr} {k c:Nat} {z:Int} (h:Num w (.agg #[.bool n,.slice ao k c]) z) (t:TypeId):BoxNum (w.alloc (.cells #[.bool n,.slice ao k c] t)) w.heap.size z:=
 ⟨n,ao,k,c,IntBox.new w _ _ t,h.mono (zAh w _)⟩

theorem BoxNum.made0 (w:World) (t:TypeId):BoxNum (w.alloc (.cells #[.bool false,.slice none 0 0] t)) w.heap.size 0:=BoxNum.zero (IntBox.new w _ _ t)

theorem boxes5 (w:World) {na nb:Bool} {ax ay:Option Addr} {n m cx cy:Nat} {a b:Int} (hA:Num w (.agg #[.bool na,.slice ax n cx]) a) (hB:Num w (.agg #[.bool nb,.slice ay m cy]) b) (t:TypeId) :
  ∃ w0,w0=((((w.alloc (.cells #[.bool na,.slice ax n cx] t)).alloc (.cells #[.bool nb,.slice ay m cy] t)).alloc (.cells #[.bool false,.slice none 0 0] t)).alloc (.cells #[.bool false,.slice none 0 0] t)).alloc (.cells #[.bool false,.slice none 0 0] t) ∧
   BoxNum w0 w.heap.size a∧BoxNum w0 (w.heap.size+1) b∧BoxNum w0 (w.heap.size+1+1) 0∧BoxNum w0 (w.heap.size+1+1+1) 0∧BoxNum w0 (w.heap.size+1+1+1+1) 0∧Below w.heap.size w w0∧Hid (w0.heap.size=w.heap.size+5):=by
 obtain ⟨w1,h1⟩:∃ w1,w1=w.alloc (.cells #[.bool na,.slice ax n cx] t):=⟨_,rfl⟩
 have s1:w1.heap.size=w.heap.size+1:=by rw [h1,World.size_alloc]
 have b1:Below w.heap.size w w1:=by rw [h1];exact zAh _ _
 have x1:BoxNum w1 w.heap.size a:=by rw [h1];exact BoxNum.made hA t
 have hB1:=hB.mono b1
 rw [← h1]
 obtain ⟨w2,h2⟩:∃ w2,w2=w1.alloc (.cells #[.bool nb,.slice ay m cy] t):=⟨_,rfl⟩
 have s2:w2.heap.size=w.heap.size+1+1:=by rw [h2,World.size_alloc,s1]
 have b2:Below w1.heap.size w1 w2:=by rw [h2];exact zAh _ _
 have x2:BoxNum w2 (w.heap.size+1) b:=by rw [h2,← s1];exact BoxNum.made hB1 t
 rw [← h2]
 obtain ⟨w3,h3⟩:∃ w3,w3=w2.alloc (.cells #[.bool false,.slice none 0 0] t):=⟨_,rfl⟩
 have s3:w3.heap.size=w.heap.size+1+1+1:=by rw [h3,World.size_alloc,s2]
 have b3:Below w2.heap.size w2 w3:=by rw [h3];exact zAh _ _
 have x3:BoxNum w3 (w.heap.size+1+1) 0:=by rw [h3,← s2];exact BoxNum.made0 _ t
 rw [← h3]
 obtain ⟨w4,h4⟩:∃ w4,w4=w3.alloc (.cells #[.bool false,.slice none 0 0] t):=⟨_,rfl⟩
 have s4:w4.heap.size=w.heap.size+1+1+1+1:=by rw [h4,World.size_alloc,s3]
 have b4:Below w3.heap.size w3 w4:=by rw [h4];exact zAh _ _
 have x4:BoxNum w4 (w.heap.size+1+1+1) 0:=by rw [h4,← s3];exact BoxNum.made0 _ t
 rw [← h4]
 obtain ⟨w5,h5⟩:∃ w5,w5=w4.alloc (.cells #[.bool false,.slice none 0 0] t):=⟨_,rfl⟩
 have s5:w5.heap.size=w.heap.size+5:=by rw [h5,World.size_alloc,s4]
 have b5:Below w4.heap.size w4 w5:=by rw [h5];exact zAh _ _
 have x5:BoxNum w5 (w.heap.size+1+1+1+1) 0:=by rw [h5,← s4];exact BoxNum.made0 _ t
 refine ⟨w5,h5,(((x1.mono b2).mono b3).mono b4).mono b5,((x2.mono b3).mono b4).mono b5,(x3.mono b4).mono b5,x4.mono b5,x5,?_,s5⟩
 exact (((b1.trans (b2.mono b1.size)).trans (b3.mono (Nat.le_trans b1.size b2.size))).trans (b4.mono (Nat.le_trans (Nat.le_trans b1.size b2.size) b3.size))).trans (b5.mono (Nat.le_trans (Nat.le_trans (Nat.le_trans b1.size b2.size) b3.size) b4.size))

theorem Num.zero (w:World):Num w (.agg #[.bool false,.slice none 0 0]) 0:=⟨false,none,0,0,[],rfl,Sl.nil _,zm,by simp [sgn,val],⟨fun _ hx=>by simp at hx,.inl rfl⟩,by simp⟩

theorem zE9 {w w':World} {z:Int} {e:Ending} (h:zBc w z e w') {k:Nat} (hz:ab z<pw k) (hk:k≤900000):∃ v',e=.returned v'∧Below w.heap.size w w'∧Num w' v' z:=by
 obtain ⟨v,rfl,hi,hb⟩:=h
 exact ⟨v,rfl,hb,zCq hi hz hk⟩

theorem OfV (w:World) (z:Int) (h0:-9223372036854775808≤z) (h1:z≤9223372036854775807):Calls Tryz.prog 58 #[.int .i64 z] w fun e w'=>∃ v',e=.returned v'∧Below w.heap.size w w'∧Num w' v' z:=
 (Of_any w z h0 h1).mono fun _ _ h=>zE9 h (k:=2) (by have e:pw 2=18446744073709551616:=rfl;rw [e];unfold ab;omega) zm

theorem zO0:En 117:=zAd Tryz.func117 (by kernel_rfl) rfl
theorem zTy:En 38:=zAd Tryz.func38 (by kernel_rfl) rfl
theorem enter_Of:En 58:=zAd Tryz.func58 (by kernel_rfl) rfl
theorem zO2:En 34:=zAd Tryz.func34 (by kernel_rfl) rfl
theorem zO3:En 72:=zAd Tryz.func72 (by kernel_rfl) rfl

theorem ab_ab (z:Int):ab (ab z)=ab z:=zBb (zEk z)

theorem zS6 (z:Int):-1≤cmpI z 0∧cmpI z 0≤1:=by
 unfold cmpI
 split
 ·omega
 ·split <;> omega

def zNv (w:World) (a b:Int) (e:Ending) (w':World):Prop:=
 Below w.heap.size w w'∧∃ v1 v2 v3 g u v,e=.returned (.tuple #[v1,v2,v3])∧Num w' v1 g∧Num w' v2 u∧Num w' v3 v∧g=(Int.gcd a b:Int) ∧
  ((b=0∧u=cmpI a 0∧v=0)∨(b≠0∧0≤u∧u<ab b/g∧u*a+v*b=g))

theorem div_tup {w w':World} {z z':Int} {e:Ending} (h:zIs w z z' e w') (h0:z'≠0) {k:Nat} (hq:ab (z/z')<pw k) (hr:ab (z % z')<pw k) (hk:k≤900000) :
  ∃ v',e=.returned v'∧Below w.heap.size w w'∧(Fact.tup (z/z') (z % z')).holds v' w':=by
 obtain ⟨hb,⟨h1,_⟩ | ⟨_,vq,vr,rfl,h1,h2⟩⟩:=h
 ·exact absurd h1 h0
 ·exact ⟨_,rfl,hb,vq,vr,_,rfl,zCq h1 hq hk,zCq h2 hr hk⟩

theorem Num.unique {w:World} {v:Value} {z z':Int} (h:Num w v z) (h':Num w v z'):z=z':=by
 obtain ⟨neg,ao,n,c,xs,rfl,hs,_,hz,_⟩:=h
 obtain ⟨neg',ao',n',c',xs',hv,hs',_,hz',_⟩:=h'
 cases hv
 rw [hz,hz',hs.unique hs']

theorem BoxNum.unique {w:World} {b:Nat} {z z':Int} (h:BoxNum w b z) (h':BoxNum w b z'):z=z':=by
 obtain ⟨n,ao,k,c,⟨e0,e1,_,_⟩,hN⟩:=h
 obtain ⟨n',ao',k',c',⟨f0,f1,_,_⟩,hN'⟩:=h'
 have h0:=e0.symm.trans f0
 have h1:=e1.symm.trans f1
 cases h0
 cases h1
 exact hN.unique hN'

open Classical in
noncomputable def zF0 (w:World) (b:Nat):Nat:=
 if h:∃ x:Nat,∃ z,BoxNum w b z∧x=z.natAbs then Classical.choose h else 0

theorem zFi {w:World} {b:Nat} {z:Int} (h:BoxNum w b z):zF0 w b=z.natAbs:=by
 have he:∃ x:Nat,∃ z,BoxNum w b z∧x=z.natAbs:=⟨_,z,h,rfl⟩
 unfold zF0
 rw [dif_pos he]
 obtain ⟨z',h',hx⟩:=Classical.choose_spec he
 rw [hx,h.unique h']

structure Bx (s:Nat) (a b:Int) (w W:World):Prop where
 xA:BoxNum W s a
 xB:BoxNum W (s+1) b
 x4:BoxNum W (s+1+1) 0
 x5:BoxNum W (s+1+1+1) 0
 x6:BoxNum W (s+1+1+1+1) 0
 below:Below s w W
 lt:s+5≤W.heap.size

theorem Bx.mono {s:Nat} {a b:Int} {w W W':World} (h:Bx s a b w W) (hb:Below W.heap.size W W'):Bx s a b w W':=
 ⟨h.xA.mono hb,h.xB.mono hb,h.x4.mono hb,h.x5.mono hb,h.x6.mono hb,h.below.trans (hb.mono (by have:=h.lt;omega)),Nat.le_trans h.lt hb.size⟩

theorem Bx.put {s:Nat} {a b y:Int} {w W:World} {c:Nat} (h:Bx s a b w W) (hb:BoxNum W c y) (hc:s+5≤c) (n':Bool) (a':Option Addr) (k' c':Nat):Bx s a b w (putBox W c n' a' k' c'):=
 ⟨h.xA.putOther hb zm _ _ _ _,h.xB.putOther hb zm _ _ _ _,h.x4.putOther hb zm _ _ _ _,h.x5.putOther hb zm _ _ _ _,h.x6.putOther hb zm _ _ _ _,zI1 h.below zm _ _ _ _,by rw [zMt];exact h.lt⟩

structure Bl (b7 b8 b9 b10:Nat) (r rr u uu:Int) (W:World):Prop where
 x7:BoxNum W b7 r
 x8:BoxNum W b8 rr
 x9:BoxNum W b9 u
 x10:BoxNum W b10 uu

theorem Bl.mono {b7 b8 b9 b10:Nat} {r rr u uu:Int} {W W':World} (h:Bl b7 b8 b9 b10 r rr u uu W) (hb:Below W.heap.size W W'):Bl b7 b8 b9 b10 r rr u uu W':=
 ⟨h.x7.mono hb,h.x8.mono hb,h.x9.mono hb,h.x10.mono hb⟩

theorem zSt (w:World) {na nb:Bool} {ax ay:Option Addr} {n m cx cy:Nat} {a b:Int} (hA:Num w (.agg #[.bool na,.slice ax n cx]) a) (hB:Num w (.agg #[.bool nb,.slice ay m cy]) b) {K:Nat} (hKa:ab a<pw K) (hKb:ab b<pw K) (hK:K≤400000) :
  Calls Tryz.prog 111 #[.agg #[.bool na,.slice ax n cx],.agg #[.bool nb,.slice ay m cy]] w (zNv w a b):=by
 have hal:=hA.lt
 go_enter Tryz.func111,Tryz.ntmps111
 go_upto_region 1 with (fail)
 obtain ⟨w0,hw0,xA,xB,r4,r5,r6,hbl,HS⟩:=boxes5 w hA hB 36
 rw [← hw0]
 clear hw0
 have hN:=xB
 obtain ⟨nb',ay',m',cy',⟨c0,c1,_,_⟩,hN⟩:=hN
 go_wp2_with fail
 refine (SignV hN).mono ?_
 rintro e w1 ⟨rfl,hb1⟩
 have xA1:=xA.mono hb1
 have xB1:=xB.mono hb1
 have x41:=r4.mono hb1
 have x51:=r5.mono hb1
 have x61:=r6.mono hb1
 have hbl1:=hbl.trans (hb1.mono hbl.size)
 have HS1:Hid (w.heap.size+5≤w1.heap.size):=by show _≤_;have:=HS.out;have:=hb1.size;omega
 clear xA xB r4 r5 r6 hbl hb1 c0 c1 hN HS hA hB
 by_cases hb0:b=0
 ·have hc:cmpI b 0=0:=cmpI_zero.2 hb0
  rw [hc]
  clear hc
  go_wp2
  have hp:(zAb [.num a,.num (ab a),.num a,.int (cmpI a 0),.num (cmpI a 0),.num 0] [(w.heap.size,1000,a,a),(w.heap.size+1+1,6,0,ab a),(w.heap.size+1+1+1,7,0,cmpI a 0),(w.heap.size+1+1+1+1,8,0,0)] []).Ok w.heap.size w1.heap.size:=
   zGh (by have:=HS1.out;simp;omega) (by simp;omega) (by simp) (by have:=HS1.out;omega)
  refine zC1 (p:=zAb [.num a,.num (ab a),.num a,.int (cmpI a 0),.num (cmpI a 0),.num 0] [(w.heap.size,1000,a,a),(w.heap.size+1+1,6,0,ab a),(w.heap.size+1+1+1,7,0,cmpI a 0),(w.heap.size+1+1+1+1,8,0,0)] []) (B:=w.heap.size) (B0:=w1.heap.size) (w0:=w) (by kernel_rfl) rfl rfl
   (zGi (by simp;exact ⟨xA1,x41,x51,x61⟩) hbl1) ⟨?_,?_,?_,?_,?_,?_,?_,?_,?_,trivial⟩ ?_
  ·exact zA7 hp (.head _) (.inl rfl) rfl rfl (fun v w h=>h) ⟨by simp [zAb],by simp [zAb]⟩
  ·exact zKr (j:=0) hp rfl rfl (by simp) rfl zO0 (fun v w h=>(AbsV h).mono fun e w' h'=>zE9 h' (by show ab (ab a)<_;rw [ab_ab];exact hal) (Nat.le_refl _)) ⟨by simp [zAb],by simp [zAb]⟩
  ·exact zA7 hp (.head _) (.inl rfl) rfl rfl (fun v w h=>h) ⟨by simp [zAb],by simp [zAb]⟩
  ·exact zKr (j:=2) hp rfl rfl (by simp) rfl zTy (fun v w h=>(SignV h).mono fun e w' h'=>⟨_,h'.1,h'.2,rfl⟩) ⟨by simp [zAb],by simp [zAb]⟩
  ·exact zKr (j:=3) hp rfl rfl (by simp) rfl enter_Of (fun v w h=>by have h':v=.int .i64 (cmpI a 0):=h;subst h';have:=zS6 a;exact OfV _ _ zm zm) ⟨by simp [zAb],by simp [zAb]⟩
  ·exact st_zero hp (fun w=>Num.zero w) ⟨by simp [zAb],by simp [zAb]⟩
  ·exact zB2 (j:=1) hp rfl (.tail _ (.head _)) rfl rfl rfl (by simp) rfl (fun v w h=>h) (fun _ _=>trivial) (by simp [zAb]) (by simp [zAb])
  ·exact zB2 (j:=4) hp rfl (.tail _ (.tail _ (.head _))) rfl rfl rfl (by simp) rfl (fun v w h=>h) (fun _ _=>trivial) (by simp [zAb]) (by simp [zAb])
  ·exact zB2 (j:=5) hp rfl (.tail _ (.tail _ (.tail _ (.head _)))) rfl rfl rfl (by simp) rfl (fun v w h=>h) (fun _ _=>trivial) (by simp [zAb]) (by simp [zAb])
  ·intro L vs w2 hL hG
   have y4:BoxNum w2 (w.heap.size+1+1) (ab a):=by have:=hG.old _ (.tail _ (.head _));simpa [hL 6 (by simp)] using this
   have y5:BoxNum w2 (w.heap.size+1+1+1) (cmpI a 0):=by have:=hG.old _ (.tail _ (.tail _ (.head _)));simpa [hL 7 (by simp)] using this
   have y6:BoxNum w2 (w.heap.size+1+1+1+1) 0:=by have:=hG.old _ (.tail _ (.tail _ (.tail _ (.head _))));simpa [hL 8 (by simp)] using this
   have hbl2:=hG.below
   have hl:∀ j,j<9→L j=true:=hL
   rw [zAo hL]
   clear hL hG hl hp xA1 xB1 x41 x51 x61 hbl1
   simp only [zCt,zBq,List.length_cons,List.length_nil,Nat.zero_add,Nat.reduceAdd,List.getElem?_toArray,List.getElem?_cons_zero,List.getElem?_cons_succ,Option.bind_some,Act.put,List.setIfInBounds_toArray,List.set_cons_succ,List.set_cons_zero]
   obtain ⟨n4,a4,k4,c4,⟨e0,e1,_,_⟩,N4⟩:=y4
   obtain ⟨n5,a5,k5,c5,⟨f0,f1,_,_⟩,N5⟩:=y5
   obtain ⟨n6,a6,k6,c6,⟨g0,g1,_,_⟩,N6⟩:=y6
   go_wp2
   refine bodyPost_ret (v:=.tuple #[.agg #[.bool n4,.slice a4 k4 c4],.agg #[.bool n5,.slice a5 k5 c5],.agg #[.bool n6,.slice a6 k6 c6]]) ?_ rfl ⟨hbl2,_,_,_,ab a,cmpI a 0,0,rfl,N4,N5,N6,?_,.inl ⟨hb0,rfl,rfl⟩⟩
   ·simp [results,Tryz.results111,go_sem,e0,e1,f0,f1,g0,g1]
   ·rw [hb0,Int.gcd_zero_right];rfl
 ·have hc:cmpI b 0≠0:=fun h=>hb0 (cmpI_zero.1 h)
  generalize cmpI b 0=t at *
  have hcb:(t == 0)=false:=by simp [hc]
  clear hc
  go_wp2
  have hp:(zAb [.num a,.num b] [(w.heap.size,1000,a,a),(w.heap.size+1,1001,b,b),(w.heap.size+1+1,1002,0,0),(w.heap.size+1+1+1,1003,0,0),(w.heap.size+1+1+1+1,1004,0,0)] [(2,4,a),(3,5,b)]).Ok w.heap.size w1.heap.size:=
   zGh (by have:=HS1.out;simp;omega) (by simp;omega) (by simp) (by have:=HS1.out;omega)
  refine zC1 (p:=zAb [.num a,.num b] [(w.heap.size,1000,a,a),(w.heap.size+1,1001,b,b),(w.heap.size+1+1,1002,0,0),(w.heap.size+1+1+1,1003,0,0),(w.heap.size+1+1+1+1,1004,0,0)] [(2,4,a),(3,5,b)]) (B:=w.heap.size) (B0:=w1.heap.size) (w0:=w) (by kernel_rfl) rfl rfl
   (zGi (by simp;exact ⟨xA1,xB1,x41,x51,x61⟩) hbl1) ⟨?_,?_,?_,?_,?_,?_,trivial⟩ ?_
  ·exact zA7 hp (.head _) (.inl rfl) rfl rfl (fun v w h=>h) ⟨by simp [zAb],by simp [zAb]⟩
  ·exact zA7 hp (.tail _ (.head _)) (.inl rfl) rfl rfl (fun v w h=>h) ⟨by simp [zAb],by simp [zAb]⟩
  ·exact zGo (k:=4) hp (.head _) rfl (fun _ _=>trivial) (by simp [zAb]) (by simp [zAb])
  ·exact zGo (k:=5) hp (.tail _ (.head _)) rfl (fun _ _=>trivial) (by simp [zAb]) (by simp [zAb])
  ·exact zGp (i0:=2) (j:=0) hp rfl (.head _) rfl (by simp) rfl rfl (by simp) rfl (fun v w h=>h) (fun _ _=>trivial) (by simp [zAb]) (by simp [zAb])
  ·exact zGp (i0:=3) (j:=1) hp rfl (.tail _ (.head _)) rfl (by simp) rfl rfl (by simp) rfl (fun v w h=>h) (fun _ _=>trivial) (by simp [zAb]) (by simp [zAb])
  intro L vs w2 hL hG
  have hl:∀ j,j<6→L j=true:=hL
  have xA2:BoxNum w2 w.heap.size a:=by have:=hG.old _ (.head _);simpa using this
  have xB2:BoxNum w2 (w.heap.size+1) b:=by have:=hG.old _ (.tail _ (.head _));simpa using this
  have x42:BoxNum w2 (w.heap.size+1+1) 0:=by have:=hG.old _ (.tail _ (.tail _ (.head _)));simpa using this
  have x52:BoxNum w2 (w.heap.size+1+1+1) 0:=by have:=hG.old _ (.tail _ (.tail _ (.tail _ (.head _))));simpa using this
  have x62:BoxNum w2 (w.heap.size+1+1+1+1) 0:=by have:=hG.old _ (.tail _ (.tail _ (.tail _ (.tail _ (.head _)))));simpa using this
  obtain ⟨p7,q7,hp7,x72⟩:=hG.new _ (.head _) (hl 2 zm)
  obtain ⟨p8,q8,hp8,x82⟩:=hG.new _ (.tail _ (.head _)) (hl 3 zm)
  have h78:=hG.apart _ (.head _) _ (.tail _ (.head _)) (by simp) (hl 2 zm) (hl 3 zm)
  replace q7:vs 2=.pointer (some ⟨p7,0,none⟩):=q7
  replace q8:vs 3=.pointer (some ⟨p8,0,none⟩):=q8
  replace x72:BoxNum w2 p7 a:=by simpa [hl 4 zm] using x72
  replace x82:BoxNum w2 p8 b:=by simpa [hl 5 zm] using x82
  replace h78:p7≠p8:=fun e=>h78 (by show vs 2=vs 3;rw [q7,q8,e])
  have hbl2:=hG.below
  rw [zAo hL]
  clear hL hG hl hp xA1 xB1 x41 x51 x61 hbl1
  simp only [zCt,zBq,List.length_cons,List.length_nil,Nat.zero_add,Nat.reduceAdd,List.getElem?_toArray,List.getElem?_cons_zero,List.getElem?_cons_succ,Option.bind_some,Act.put,List.setIfInBounds_toArray,List.set_cons_succ,List.set_cons_zero]
  rw [q7,q8]
  generalize vs 0=u30
  generalize vs 1=u31
  clear q7 q8 vs L
  go_wp2_with fail
  refine (OfV w2 1 zm zm).mono ?_
  rintro e w3 ⟨v1,rfl,hb3,N1⟩
  go_wp2_with fail
  refine (OfV w3 0 zm zm).mono ?_
  rintro e w4 ⟨v2,rfl,hb4,N2⟩
  obtain ⟨d1,a1,k1,c1,rfl⟩:=N1.parts
  obtain ⟨d2,a2,k2,c2,rfl⟩:=N2.parts
  have N1':=N1.mono hb4
  have hb24:=hb3.trans (hb4.mono hb3.size)
  have xA4:=xA2.mono hb24
  have xB4:=xB2.mono hb24
  have x44:=x42.mono hb24
  have x54:=x52.mono hb24
  have x64:=x62.mono hb24
  have x74:=x72.mono hb24
  have x84:=x82.mono hb24
  have hbl4:=hbl2.trans (hb24.mono hbl2.size)
  have HS4:Hid (p7<w4.heap.size∧p8<w4.heap.size):=⟨x74.lt,x84.lt⟩
  clear xA2 xB2 x42 x52 x62 x72 x82 hb24 hb3 hb4 N1 hbl2
  have hs5:w.heap.size+5≤w1.heap.size:=HS1.out
  have hw14:w1.heap.size≤w4.heap.size:=by have:=HS4.out;omega
  have hX4:Bx w.heap.size a b w w4:=⟨xA4,xB4,x44,x54,x64,hbl4,zm⟩
  clear xA4 xB4 x44 x54 x64 hbl4 HS1
  obtain ⟨w5,b9,b10,hw5,h9e,h10e⟩:∃ w5 b9 b10,w5=(w4.alloc (.cells #[.bool d1,.slice a1 k1 c1] 36)).alloc (.cells #[.bool d2,.slice a2 k2 c2] 36)∧b9=w4.heap.size∧b10=w4.heap.size+1:=⟨_,_,_,rfl,rfl,rfl⟩
  go_wp2
  rw [← hw5,← h10e,← h9e]
  have hBx:Bx w.heap.size a b w w5:=by rw [hw5];exact (hX4.mono (zAh _ _)).mono (zAh _ _)
  have hBl:Bl p7 p8 b9 b10 a b 1 0 w5:=by
   have x1:=(BoxNum.made N1' 36).mono (zAh _ (.cells #[.bool d2,.slice a2 k2 c2] 36))
   have x2:=BoxNum.made (N2.mono (zAh w4 (.cells #[.bool d1,.slice a1 k1 c1] 36))) 36
   rw [World.size_alloc] at x2
   rw [hw5,h9e,h10e]
   exact ⟨(x74.mono (zAh _ _)).mono (zAh _ _),(x84.mono (zAh _ _)).mono (zAh _ _),x1,x2⟩
  have H910:Hid (w.heap.size+5≤p7∧w.heap.size+5≤p8∧w.heap.size+5≤b9∧w.heap.size+5≤b10∧p7≠p8∧p7≠b9∧p7≠b10∧p8≠b9∧p8≠b10∧b9≠b10):=by
   show _∧_
   have:=HS4.out
   omega
  have hI0:=bez_start (a:=a) hb0
  clear hX4 x74 x84 N1' N2 hw5 h9e h10e HS4 hs5 hw14 hp7 hp8 h78
  go_loopw [13] (fun _ W=>∃ r rr u uu,zHi a b r rr u uu∧Bx w.heap.size a b w W∧Bl p7 p8 b9 b10 r rr u uu W) (fun _ W=>zF0 W p8)
  case atStart=>exact ⟨a,b,1,0,hI0,hBx,hBl⟩
  case round=>
   obtain ⟨r,rr,u,uu,hI,hx,hl⟩:=hrel
   clear hBx hBl hI0
   have h8:=hl.x8
   obtain ⟨n8,a8,k8,c8,⟨e0,e1,_,_⟩,N8⟩:=h8
   go_wp2_with fail
   refine (SignV N8).mono ?_
   rintro e w6 ⟨rfl,hb6⟩
   have hx6:=hx.mono hb6
   have hl6:=hl.mono hb6
   have hbv:zF0 wr p8=rr.natAbs:=zFi hl.x8
   have HBV:=hidd hbv
   clear hx hl e0 e1 N8 hb6 hbv
   by_cases h0:rr=0
   ·subst h0
    have hc:cmpI 0 0=0:=rfl
    rw [hc]
    clear hc
    have h7:=hl6.x7
    obtain ⟨n7,a7,k7,c7,⟨f0,f1,_,_⟩,N7⟩:=h7
    obtain ⟨g,hge⟩:∃ g,g=ab r:=⟨_,rfl⟩
    obtain ⟨hgg,hgp,hgk,hgu⟩:=bez_end hb0 hI
    have hKr:ab r<pw K:=by rcases hI.2.2.2.2.2.1 with h | h <;> omega
    rw [← hge] at hgg hgp hgk hKr
    obtain ⟨lm0,lu0,lu1,lv⟩:=bez_last hb0 hgg hgk
    obtain ⟨u',hu'⟩:∃ u',u'=u % (ab b/g):=⟨_,rfl⟩
    rw [← hu'] at lu0 lu1 lv
    have hbb:=zEk b
    have hdm:=Int.mul_ediv_add_emod (ab b) g
    have hm0:=Int.emod_nonneg (ab b) (show g≠0 by omega)
    have hmq:ab b/g≤ab b:=by
     have h1:=Int.mul_le_mul_of_nonneg_right (show 1≤g by omega) (show 0≤ab b/g by omega)
     omega
    have hmr:ab b % g≤ab b:=by
     have h1:=Int.mul_nonneg (show 0≤g by omega) (show 0≤ab b/g by omega)
     omega
    have hp6:=pw_six K
    have hp2:pw (K+K)=pw K*pw K:=zEs K K
    have hp7:=pw_six (K+K)
    have hpk:=zA0 K
    have hKm:ab (ab b/g)<pw K:=by rw [zBb zm];omega
    have hKn:ab (ab b % g)<pw K:=by rw [zBb hm0];omega
    have hKu':ab u'<pw K:=by rw [zBb lu0];omega
    have hKua:ab (u'*a)<pw (K+K):=by
     rw [zIv,hp2]
     have h1:=Int.mul_le_mul_of_nonneg_left (show ab a≤pw K by omega) (zEk u')
     have h2:=Int.mul_lt_mul_of_pos_right hKu' hpk
     omega
    have hpkk:pw K≤pw (K+K):=zBu zm
    have hKs:ab (g-u'*a)<pw (K+K+1):=by
     have h1:=ab_sub g (u'*a)
     have h2:ab g=g:=zBb zm
     omega
    have hKv:ab ((g-u'*a)/b)<pw (K+K+1):=by
     have h1:=Int.natAbs_ediv_le_natAbs (g-u'*a) b
     have h2:ab ((g-u'*a)/b)≤ab (g-u'*a):=by unfold ab;omega
     omega
    have hKw:ab ((g-u'*a) % b)<pw (K+K+1):=by
     have h1:=Int.emod_nonneg (g-u'*a) hb0
     have h2:=Int.emod_lt (g-u'*a) hb0
     have h3:ab ((g-u'*a) % b)<ab b:=by rw [zBb h1];unfold ab;exact h2
     omega
    have hfin:u'*a+(g-u'*a)/b*b=g:=by rw [lv];omega
    have hgcd:Hid (g=(Int.gcd a b:Int)):=hgg
    have HG:=hidd hge
    clear hgg hge lv hdm hp6 hp2 hp7 hpk hpkk hgk hgu hI
    go_wp2_with fail
    refine (AbsV N7).mono ?_
    rintro e w7 ⟨vg,rfl,hg,hb7⟩
    have Ng:Num w7 vg g:=by rw [HG.out];exact zCq hg (k:=K) (by show ab (ab r)<_;rw [ab_ab,← HG.out];exact hKr) zm
    obtain ⟨m1,q1,j1,o1,rfl⟩:=Ng.parts
    have hx7:=hx6.mono hb7
    have hl7:=hl6.mono hb7
    clear hx6 hl6 hb7 f0 f1 N7 hg
    obtain ⟨w8,b14,hw8,h14e⟩:∃ w8 b14,w8=w7.alloc (.cells #[.bool m1,.slice q1 j1 o1] 36)∧b14=w7.heap.size:=⟨_,_,rfl,rfl⟩
    go_wp2
    rw [← hw8,← h14e]
    have hx8:Bx w.heap.size a b w w8:=by rw [hw8];exact hx7.mono (zAh _ _)
    have hl8:BoxNum w8 b9 u:=by rw [hw8];exact hl7.x9.mono (zAh _ _)
    have x14:BoxNum w8 b14 g:=by rw [hw8,h14e];exact BoxNum.made Ng 36
    have H14:Hid (w.heap.size+5≤b14∧b9<b14):=by
     have h1:=hl7.x9.lt
     have h2:=hx7.lt
     show _∧_
     omega
    clear hw8 h14e hx7 hl7 Ng
    have hp:(zAb [.num b,.num (ab b),.num g,.tup (ab b/g) (ab b % g),.tup (ab b/g) (ab b % g),.num (ab b/g),.num (ab b % g)] [(b9,1001,u,u),(b14,1002,g,g),(w.heap.size,1010,a,a),(w.heap.size+1,1011,b,b),(w.heap.size+1+1,1012,0,0),(w.heap.size+1+1+1,1013,0,0),(w.heap.size+1+1+1+1,1014,0,0)] [(8,10,ab b/g),(9,11,ab b % g)]).Ok w.heap.size w8.heap.size:=
     zGh (by have h1:=H14.out;have h2:=H910.out;have h3:=hx8.lt;have h4:=x14.lt;simp;omega) (by have h1:=H14.out;have h2:=H910.out;simp;omega) (by simp) (by have:=hx8.lt;omega)
    refine zC1 (p:=zAb [.num b,.num (ab b),.num g,.tup (ab b/g) (ab b % g),.tup (ab b/g) (ab b % g),.num (ab b/g),.num (ab b % g)] [(b9,1001,u,u),(b14,1002,g,g),(w.heap.size,1010,a,a),(w.heap.size+1,1011,b,b),(w.heap.size+1+1,1012,0,0),(w.heap.size+1+1+1,1013,0,0),(w.heap.size+1+1+1+1,1014,0,0)] [(8,10,ab b/g),(9,11,ab b % g)]) (B:=w.heap.size) (B0:=w8.heap.size) (w0:=w) (by kernel_rfl) rfl rfl
     (zGi (by simp;exact ⟨hl8,x14,hx8.xA,hx8.xB,hx8.x4,hx8.x5,hx8.x6⟩) hx8.below) ⟨?_,?_,?_,?_,?_,?_,?_,?_,?_,?_,?_,?_,?_,trivial⟩ ?_
    ·exact zA7 (b:=w.heap.size+1) (k:=1011) (z:=b) (z':=b) hp (by simp [zAb]) (.inl rfl) rfl rfl (fun v w h=>h) ⟨by simp [zAb],by simp [zAb]⟩
    ·exact zKr (j:=0) hp rfl rfl (by simp) rfl zO0 (fun v w h=>(AbsV h).mono fun e w' h'=>zE9 h' (k:=K) (by show ab (ab b)<_;rw [ab_ab];exact hKb) zm) ⟨by simp [zAb],by simp [zAb]⟩
    ·exact zA7 (b:=b14) (k:=1002) (z:=g) (z':=g) hp (by simp [zAb]) (.inl rfl) rfl rfl (fun v w h=>h) ⟨by simp [zAb],by simp [zAb]⟩
    ·exact zHd (j:=1) (j':=2) hp rfl rfl (by simp) rfl rfl (by simp) rfl zO1 (fun v v' w h h'=>(zHj h h').mono fun e w' h'=>div_tup h' zm hKm hKn zm) ⟨by simp [zAb],by simp [zAb]⟩
    ·exact st_move (j:=3) hp rfl rfl (by simp) rfl (fun v w h=>h) ⟨by simp [zAb],by simp [zAb]⟩
    ·exact zHe (j:=4) hp rfl rfl (by simp) rfl (fun v w h=>by obtain ⟨v1,v2,v3,h0,h1,h2⟩:=h;exact ⟨_,v1,h0,rfl,h1⟩) ⟨by simp [zAb],by simp [zAb]⟩
    ·exact zHe (j:=4) hp rfl rfl (by simp) rfl (fun v w h=>by obtain ⟨v1,v2,v3,h0,h1,h2⟩:=h;exact ⟨_,v2,h0,rfl,h2⟩) ⟨by simp [zAb],by simp [zAb]⟩
    ·exact zHe (j:=4) hp rfl rfl (by simp) rfl (fun v w h=>by obtain ⟨v1,v2,v3,h0,h1,h2⟩:=h;exact ⟨_,v3,h0,rfl,trivial⟩) ⟨by simp [zAb],by simp [zAb]⟩
    ·exact zGo (k:=10) (z:=ab b/g) hp (by simp [zAb]) rfl (fun _ _=>trivial) (by simp [zAb]) (by simp [zAb])
    ·exact zGo (k:=11) (z:=ab b % g) hp (by simp [zAb]) rfl (fun _ _=>trivial) (by simp [zAb]) (by simp [zAb])
    ·exact zGp (i0:=8) (j:=5) (z:=ab b/g) hp rfl (by simp [zAb]) rfl (by simp) rfl rfl (by simp) rfl (fun v w h=>h) (fun _ _=>trivial) (by simp [zAb]) (by simp [zAb])
    ·exact zGp (i0:=9) (j:=6) (z:=ab b % g) hp rfl (by simp [zAb]) rfl (by simp) rfl rfl (by simp) rfl (fun v w h=>h) (fun _ _=>trivial) (by simp [zAb]) (by simp [zAb])
    ·exact zSb (j:=7) hp rfl rfl (by simp) rfl (fun v w h=>trivial) ⟨by simp [zAb],by simp [zAb]⟩
    intro L vs w9 hL hG
    have hls:∀ j,j<13→L j=true:=hL
    have y9:BoxNum w9 (b9) (u):=by have:=hG.old (b9,1001,u,u) (by simp [zAb]);simpa using this
    have y14:BoxNum w9 (b14) (g):=by have:=hG.old (b14,1002,g,g) (by simp [zAb]);simpa using this
    have yA:BoxNum w9 (w.heap.size) (a):=by have:=hG.old (w.heap.size,1010,a,a) (by simp [zAb]);simpa using this
    have yB:BoxNum w9 (w.heap.size+1) (b):=by have:=hG.old (w.heap.size+1,1011,b,b) (by simp [zAb]);simpa using this
    have y4:BoxNum w9 (w.heap.size+1+1) (0):=by have:=hG.old (w.heap.size+1+1,1012,0,0) (by simp [zAb]);simpa using this
    have y5:BoxNum w9 (w.heap.size+1+1+1) (0):=by have:=hG.old (w.heap.size+1+1+1,1013,0,0) (by simp [zAb]);simpa using this
    have y6:BoxNum w9 (w.heap.size+1+1+1+1) (0):=by have:=hG.old (w.heap.size+1+1+1+1,1014,0,0) (by simp [zAb]);simpa using this
    obtain ⟨p15,q15,hp15,y15⟩:=hG.new (8,10,ab b/g) (by simp [zAb]) (hls 8 zm)
    obtain ⟨p16,q16,hp16,y16⟩:=hG.new (9,11,ab b % g) (by simp [zAb]) (hls 9 zm)
    replace q15:vs 8=.pointer (some ⟨p15,0,none⟩):=q15
    replace q16:vs 9=.pointer (some ⟨p16,0,none⟩):=q16
    replace y15:BoxNum w9 p15 (ab b/g):=by simpa [hls 10 zm] using y15
    have hbl9:=hG.below
    have hx9:Bx w.heap.size a b w w9:=⟨yA,yB,y4,y5,y6,hbl9,by have:=hG.size;have:=hx8.lt;omega⟩
    rw [zAo hL]
    clear hL hG hls hp hx8 hl8 x14 yA yB y4 y5 y6 y16 hbl9
    simp only [zCt,zBq,List.length_cons,List.length_nil,Nat.zero_add,Nat.reduceAdd,List.getElem?_toArray,List.getElem?_cons_zero,List.getElem?_cons_succ,Option.bind_some,Act.put,List.setIfInBounds_toArray,List.set_cons_succ,List.set_cons_zero]
    rw [q15,q16]
    generalize vs 0=u55
    generalize vs 1=u56
    generalize vs 2=u57
    generalize vs 3=u58
    generalize vs 4=u54
    generalize vs 5=u59
    generalize vs 6=u60
    generalize vs 7=u61
    generalize vs 12=u17
    clear q15 q16 vs L
    have h9:=y9
    have h15:=y15
    obtain ⟨n9,a9,k9,c9,⟨e0,e1,e2,e3⟩,N9⟩:=h9
    obtain ⟨n15,a15,k15,c15,⟨f0,f1,_,_⟩,N15⟩:=h15
    go_wp2_with fail
    refine (zHj N9 N15).mono ?_
    rintro e wb ⟨hb,⟨h0',_⟩ | ⟨_,vq,vr,rfl,hq2,hr2⟩⟩
    ·exact absurd h0' zm
    have N':Num wb vr u':=by rw [hu'];exact zCq hr2 (k:=K) (by rw [← hu'];exact hKu') zm
    obtain ⟨m2,q2,j2,o2,rfl⟩:=N'.parts
    have hxb:=hx9.mono hb
    have y9b:=y9.mono hb
    have y14b:=y14.mono hb
    have HU:=hidd hu'
    have HN:Hid (p15<p15+1):=Nat.lt_succ_self _
    clear hx9 y9 y14 y15 e0 e1 e2 e3 f0 f1 N9 N15 hb hq2 hr2 hu' hp15 hp16
    have h9:=y9b
    obtain ⟨n9,a9,k9,c9,⟨e0,e1,e2,e3⟩,N9⟩:=h9
    obtain ⟨wc,hwc⟩:∃ wc,wc=putBox wb b9 m2 q2 j2 o2:=⟨_,rfl⟩
    have hwc':wc=(wb.setCell ⟨b9,0,none⟩ (.bool m2)).setCell ⟨b9,1,none⟩ (.slice q2 j2 o2):=hwc
    go_wp2
    rw [← hwc']
    have hlb9:w.heap.size+5≤b9:=H910.out.2.2.1
    have hxc:Bx w.heap.size a b w wc:=by rw [hwc];exact hxb.put y9b hlb9 _ _ _ _
    have y9c:BoxNum wc b9 u':=by rw [hwc];exact y9b.putSame N'
    have y14c:BoxNum wc b14 g:=by rw [hwc];exact y14b.putOther y9b (by have:=H14.out;omega) _ _ _ _
    clear hwc hwc' hxb y9b y14b e0 e1 e2 e3 N9 N'
    have hp:(zAb [.num g,.num u',.num a,.num (u'*a),.num (g-u'*a),.num b,.tup ((g-u'*a)/b) ((g-u'*a) % b),.tup ((g-u'*a)/b) ((g-u'*a) % b),.num ((g-u'*a)/b),.num ((g-u'*a) % b)] [(b9,1001,u',u'),(b14,1002,g,g),(w.heap.size,1010,a,a),(w.heap.size+1,1011,b,b),(w.heap.size+1+1,1012,0,0),(w.heap.size+1+1+1,1013,0,0),(w.heap.size+1+1+1+1,1014,0,0)] [(11,13,(g-u'*a)/b),(12,14,(g-u'*a) % b)]).Ok w.heap.size wc.heap.size:=
     zGh (by have h1:=H14.out;have h2:=H910.out;have h3:=hxc.lt;have h4:=y14c.lt;simp;omega) (by have h1:=H14.out;have h2:=H910.out;simp;omega) (by simp) (by have:=hxc.lt;omega)
    refine zC1 (p:=zAb [.num g,.num u',.num a,.num (u'*a),.num (g-u'*a),.num b,.tup ((g-u'*a)/b) ((g-u'*a) % b),.tup ((g-u'*a)/b) ((g-u'*a) % b),.num ((g-u'*a)/b),.num ((g-u'*a) % b)] [(b9,1001,u',u'),(b14,1002,g,g),(w.heap.size,1010,a,a),(w.heap.size+1,1011,b,b),(w.heap.size+1+1,1012,0,0),(w.heap.size+1+1+1,1013,0,0),(w.heap.size+1+1+1+1,1014,0,0)] [(11,13,(g-u'*a)/b),(12,14,(g-u'*a) % b)]) (B:=w.heap.size) (B0:=wc.heap.size) (w0:=w) (by kernel_rfl) rfl rfl
     (zGi (by simp;exact ⟨y9c,y14c,hxc.xA,hxc.xB,hxc.x4,hxc.x5,hxc.x6⟩) hxc.below) ⟨?_,?_,?_,?_,?_,?_,?_,?_,?_,?_,?_,?_,?_,?_,?_,?_,trivial⟩ ?_
    ·exact zA7 (b:=b14) (k:=1002) (z:=g) (z':=g) hp (by simp [zAb]) (.inl rfl) rfl rfl (fun v w h=>h) ⟨by simp [zAb],by simp [zAb]⟩
    ·exact zA7 (b:=b9) (k:=1001) (z:=u') (z':=u') hp (by simp [zAb]) (.inl rfl) rfl rfl (fun v w h=>h) ⟨by simp [zAb],by simp [zAb]⟩
    ·exact zA7 (b:=w.heap.size) (k:=1010) (z:=a) (z':=a) hp (by simp [zAb]) (.inl rfl) rfl rfl (fun v w h=>h) ⟨by simp [zAb],by simp [zAb]⟩
    ·exact zHd (j:=1) (j':=2) hp rfl rfl (by simp) rfl rfl (by simp) rfl zO2 (fun v v' w h h'=>(MulV h h').mono fun e w' h'=>zE9 h' hKua zm) ⟨by simp [zAb],by simp [zAb]⟩
    ·exact zHd (j:=0) (j':=3) hp rfl rfl (by simp) rfl rfl (by simp) rfl zO3 (fun v v' w h h'=>(SubV h h').mono fun e w' h'=>zE9 h' hKs zm) ⟨by simp [zAb],by simp [zAb]⟩
    ·exact zA7 (b:=w.heap.size+1) (k:=1011) (z:=b) (z':=b) hp (by simp [zAb]) (.inl rfl) rfl rfl (fun v w h=>h) ⟨by simp [zAb],by simp [zAb]⟩
    ·exact zHd (j:=4) (j':=5) hp rfl rfl (by simp) rfl rfl (by simp) rfl zO1 (fun v v' w h h'=>(zHj h h').mono fun e w' h'=>div_tup h' hb0 hKv hKw zm) ⟨by simp [zAb],by simp [zAb]⟩
    ·exact st_move (j:=6) hp rfl rfl (by simp) rfl (fun v w h=>h) ⟨by simp [zAb],by simp [zAb]⟩
    ·exact zHe (j:=7) hp rfl rfl (by simp) rfl (fun v w h=>by obtain ⟨v1,v2,v3,h0,h1,h2⟩:=h;exact ⟨_,v1,h0,rfl,h1⟩) ⟨by simp [zAb],by simp [zAb]⟩
    ·exact zHe (j:=7) hp rfl rfl (by simp) rfl (fun v w h=>by obtain ⟨v1,v2,v3,h0,h1,h2⟩:=h;exact ⟨_,v2,h0,rfl,h2⟩) ⟨by simp [zAb],by simp [zAb]⟩
    ·exact zHe (j:=7) hp rfl rfl (by simp) rfl (fun v w h=>by obtain ⟨v1,v2,v3,h0,h1,h2⟩:=h;exact ⟨_,v3,h0,rfl,trivial⟩) ⟨by simp [zAb],by simp [zAb]⟩
    ·exact zGo (k:=13) (z:=(g-u'*a)/b) hp (by simp [zAb]) rfl (fun _ _=>trivial) (by simp [zAb]) (by simp [zAb])
    ·exact zGo (k:=14) (z:=(g-u'*a) % b) hp (by simp [zAb]) rfl (fun _ _=>trivial) (by simp [zAb]) (by simp [zAb])
    ·exact zGp (i0:=11) (j:=8) (z:=(g-u'*a)/b) hp rfl (by simp [zAb]) rfl (by simp) rfl rfl (by simp) rfl (fun v w h=>h) (fun _ _=>trivial) (by simp [zAb]) (by simp [zAb])
    ·exact zGp (i0:=12) (j:=9) (z:=(g-u'*a) % b) hp rfl (by simp [zAb]) rfl (by simp) rfl rfl (by simp) rfl (fun v w h=>h) (fun _ _=>trivial) (by simp [zAb]) (by simp [zAb])
    ·exact zSb (j:=10) hp rfl rfl (by simp) rfl (fun v w h=>trivial) ⟨by simp [zAb],by simp [zAb]⟩
    intro L vs wd hL hG
    have hls:∀ j,j<16→L j=true:=hL
    have z9:BoxNum wd (b9) (u'):=by have:=hG.old (b9,1001,u',u') (by simp [zAb]);simpa using this
    have z14:BoxNum wd (b14) (g):=by have:=hG.old (b14,1002,g,g) (by simp [zAb]);simpa using this
    have zA:BoxNum wd (w.heap.size) (a):=by have:=hG.old (w.heap.size,1010,a,a) (by simp [zAb]);simpa using this
    have zB:BoxNum wd (w.heap.size+1) (b):=by have:=hG.old (w.heap.size+1,1011,b,b) (by simp [zAb]);simpa using this
    have z4:BoxNum wd (w.heap.size+1+1) (0):=by have:=hG.old (w.heap.size+1+1,1012,0,0) (by simp [zAb]);simpa using this
    have z5:BoxNum wd (w.heap.size+1+1+1) (0):=by have:=hG.old (w.heap.size+1+1+1,1013,0,0) (by simp [zAb]);simpa using this
    have z6:BoxNum wd (w.heap.size+1+1+1+1) (0):=by have:=hG.old (w.heap.size+1+1+1+1,1014,0,0) (by simp [zAb]);simpa using this
    obtain ⟨p18,q18,hp18,z18⟩:=hG.new (11,13,(g-u'*a)/b) (by simp [zAb]) (hls 11 zm)
    obtain ⟨p19,q19,hp19,z19⟩:=hG.new (12,14,(g-u'*a) % b) (by simp [zAb]) (hls 12 zm)
    replace q18:vs 11=.pointer (some ⟨p18,0,none⟩):=q18
    replace q19:vs 12=.pointer (some ⟨p19,0,none⟩):=q19
    replace z18:BoxNum wd p18 ((g-u'*a)/b):=by simpa [hls 13 zm] using z18
    have hbld:=hG.below
    have hpw:w.heap.size+5≤p18∧b14<p18∧b9<p18:=by have h1:=hxc.lt;have h2:=y9c.lt;have h3:=y14c.lt;omega
    rw [zAo hL]
    clear hL hG hls hp hxc y9c y14c z19 hp18 hp19
    simp only [zCt,zBq,List.length_cons,List.length_nil,Nat.zero_add,Nat.reduceAdd,List.getElem?_toArray,List.getElem?_cons_zero,List.getElem?_cons_succ,Option.bind_some,Act.put,List.setIfInBounds_toArray,List.set_cons_succ,List.set_cons_zero]
    rw [q18,q19]
    generalize vs 0=u70
    generalize vs 1=u71
    generalize vs 2=u72
    generalize vs 3=u73
    generalize vs 4=u74
    generalize vs 5=u75
    generalize vs 6=u76
    generalize vs 7=u69
    generalize vs 8=u77
    generalize vs 9=u78
    generalize vs 10=u79
    generalize vs 15=u20
    clear q18 q19 vs L
    go_wp2
    have hp:(zAb [.num g,.num u',.num ((g-u'*a)/b)] [(w.heap.size+1+1,3,0,g),(w.heap.size+1+1+1,4,0,u'),(w.heap.size+1+1+1+1,5,0,(g-u'*a)/b),(b14,1000,g,g),(b9,1001,u',u'),(p18,1002,(g-u'*a)/b,(g-u'*a)/b)] []).Ok w.heap.size wd.heap.size:=
     zGh (by have h1:=H14.out;have h2:=z18.lt;have h3:=z9.lt;have h4:=z14.lt;have h5:=z6.lt;simp;omega) (by have h1:=H14.out;simp;omega) (by simp) (by have:=z6.lt;omega)
    refine zC1 (p:=zAb [.num g,.num u',.num ((g-u'*a)/b)] [(w.heap.size+1+1,3,0,g),(w.heap.size+1+1+1,4,0,u'),(w.heap.size+1+1+1+1,5,0,(g-u'*a)/b),(b14,1000,g,g),(b9,1001,u',u'),(p18,1002,(g-u'*a)/b,(g-u'*a)/b)] []) (B:=w.heap.size) (B0:=wd.heap.size) (w0:=w) (by kernel_rfl) rfl rfl
     (zGi (by simp;exact ⟨z4,z5,z6,z14,z9,z18⟩) hbld) ⟨?_,?_,?_,?_,?_,?_,trivial⟩ ?_
    ·exact zA7 (b:=b14) (k:=1000) (z:=g) (z':=g) hp (by simp [zAb]) (.inl rfl) rfl rfl (fun v w h=>h) ⟨by simp [zAb],by simp [zAb]⟩
    ·exact zA7 (b:=b9) (k:=1001) (z:=u') (z':=u') hp (by simp [zAb]) (.inl rfl) rfl rfl (fun v w h=>h) ⟨by simp [zAb],by simp [zAb]⟩
    ·exact zA7 (b:=p18) (k:=1002) (z:=(g-u'*a)/b) (z':=(g-u'*a)/b) hp (by simp [zAb]) (.inl rfl) rfl rfl (fun v w h=>h) ⟨by simp [zAb],by simp [zAb]⟩
    ·exact zB2 (b:=w.heap.size+1+1) (z:=0) (z':=g) (j:=0) hp rfl (by simp [zAb]) rfl rfl rfl (by simp) rfl (fun v w h=>h) (fun _ _=>trivial) (by simp [zAb]) (by simp [zAb])
    ·exact zB2 (b:=w.heap.size+1+1+1) (z:=0) (z':=u') (j:=1) hp rfl (by simp [zAb]) rfl rfl rfl (by simp) rfl (fun v w h=>h) (fun _ _=>trivial) (by simp [zAb]) (by simp [zAb])
    ·exact zB2 (b:=w.heap.size+1+1+1+1) (z:=0) (z':=(g-u'*a)/b) (j:=2) hp rfl (by simp [zAb]) rfl rfl rfl (by simp) rfl (fun v w h=>h) (fun _ _=>trivial) (by simp [zAb]) (by simp [zAb])
    intro L vs we hL hG
    have hls:∀ j,j<6→L j=true:=hL
    have x4:BoxNum we (w.heap.size+1+1) (g):=by have:=hG.old (w.heap.size+1+1,3,0,g) (by simp [zAb]);simpa [hls 3 zm] using this
    have x5:BoxNum we (w.heap.size+1+1+1) (u'):=by have:=hG.old (w.heap.size+1+1+1,4,0,u') (by simp [zAb]);simpa [hls 4 zm] using this
    have x6:BoxNum we (w.heap.size+1+1+1+1) ((g-u'*a)/b):=by have:=hG.old (w.heap.size+1+1+1+1,5,0,(g-u'*a)/b) (by simp [zAb]);simpa [hls 5 zm] using this
    have hble:=hG.below
    rw [zAo hL]
    clear hL hG hls hp z9 z14 zA zB z4 z5 z6 z18
    simp only [zCt,zBq,List.length_cons,List.length_nil,Nat.zero_add,Nat.reduceAdd,List.getElem?_toArray,List.getElem?_cons_zero,List.getElem?_cons_succ,Option.bind_some,Act.put,List.setIfInBounds_toArray,List.set_cons_succ,List.set_cons_zero]
    obtain ⟨n4,a4,k4,c4,⟨e0,e1,_,_⟩,N4⟩:=x4
    obtain ⟨n5,a5,k5,c5,⟨f0,f1,_,_⟩,N5⟩:=x5
    obtain ⟨n6,a6,k6,c6,⟨g0,g1,_,_⟩,N6⟩:=x6
    go_wp2
    refine bodyPost_ret (v:=.tuple #[.agg #[.bool n4,.slice a4 k4 c4],.agg #[.bool n5,.slice a5 k5 c5],.agg #[.bool n6,.slice a6 k6 c6]]) ?_ rfl ⟨hble,_,_,_,g,u',(g-u'*a)/b,rfl,N4,N5,N6,hgcd.out,.inr ⟨hb0,lu0,lu1,hfin⟩⟩
    ·simp [results,Tryz.results111,go_sem,e0,e1,f0,f1,g0,g1]
   ·have hc:cmpI rr 0≠0:=fun h=>h0 (cmpI_zero.1 h)
    generalize cmpI rr 0=t2 at *
    have hcb2:(t2 == 0)=false:=by simp [hc]
    have hcb3:(t2 != 0)=true:=by simp [hc]
    clear hc
    have h7:=hl6.x7
    have h8:=hl6.x8
    obtain ⟨n7,a7,k7,c7,⟨f0,f1,_,_⟩,N7⟩:=h7
    obtain ⟨n8,a8,k8,c8,⟨e0,e1,_,_⟩,N8⟩:=h8
    go_wp2_with fail
    refine (zHj N7 N8).mono ?_
    rintro e w7 ⟨hb7,⟨h0',_⟩ | ⟨_,vq,vr,rfl,hq,hr⟩⟩
    ·exact absurd h0' h0
    obtain ⟨hI2,hlt2,hqu,hqr⟩:=bez_step hb0 hI h0
    have hp6:=pw_six K
    have hp9:pw (K+1)≤pw 900000:=zBu zm
    have hbb:=zEk b
    have hKr:ab r<pw K:=by rcases hI.2.2.2.2.2.1 with h | h <;> omega
    have hKrr:ab rr<pw K:=by have:=hI.2.2.2.2.2.2.1;omega
    have Nq:Num w7 vq (r/rr):=zCq hq (k:=K) zm zm
    have Nr:Num w7 vr (r % rr):=zCq hr (k:=K) zm zm
    have hKuu:ab (r/rr*uu)<pw (K+1):=zm
    have hKu:ab (u-r/rr*uu)<pw (K+1):=by have:=hI2.2.2.2.2.1;omega
    obtain ⟨m1,q1,j1,o1,rfl⟩:=Nq.parts
    obtain ⟨m2,q2,j2,o2,rfl⟩:=Nr.parts
    have hx7:=hx6.mono hb7
    have hl7:=hl6.mono hb7
    clear hx6 hl6 hb7 e0 e1 f0 f1 N7 N8 hq hr hp6 hp9 hbb hKr hKrr hqu hqr
    obtain ⟨w8,b11,b12,hw8,h11e,h12e⟩:∃ w8 b11 b12,w8=(w7.alloc (.cells #[.bool m1,.slice q1 j1 o1] 36)).alloc (.cells #[.bool m2,.slice q2 j2 o2] 36)∧b11=w7.heap.size∧b12=w7.heap.size+1:=⟨_,_,_,rfl,rfl,rfl⟩
    go_wp2
    rw [← hw8,← h12e,← h11e]
    have hx8:Bx w.heap.size a b w w8:=by rw [hw8];exact (hx7.mono (zAh _ _)).mono (zAh _ _)
    have hl8:Bl p7 p8 b9 b10 r rr u uu w8:=by rw [hw8];exact (hl7.mono (zAh _ _)).mono (zAh _ _)
    have x11:BoxNum w8 b11 (r/rr):=by
     rw [hw8,h11e];exact (BoxNum.made Nq 36).mono (zAh _ (.cells #[.bool m2,.slice q2 j2 o2] 36))
    have x12:BoxNum w8 b12 (r % rr):=by
     have x2:=BoxNum.made (Nr.mono (zAh w7 (.cells #[.bool m1,.slice q1 j1 o1] 36))) 36
     rw [World.size_alloc] at x2
     rw [hw8,h12e];exact x2
    have HL8:Hid (p7<w8.heap.size∧p8<w8.heap.size∧b9<w8.heap.size∧b10<w8.heap.size∧b11<w8.heap.size∧b12<w8.heap.size∧w.heap.size+5≤b11∧w.heap.size+5≤b12∧b11≠b12∧p7<b11∧p8<b11∧b9<b11∧b10<b11∧p7<b12∧p8<b12∧b9<b12∧b10<b12):=by
     have h1:=hl7.x7.lt
     have h2:=hl7.x8.lt
     have h3:=hl7.x9.lt
     have h4:=hl7.x10.lt
     have h5:=hx7.lt
     have h6:=x12.lt
     show _∧_
     omega
    clear hw8 h11e h12e hx7 hl7 Nq Nr
    have hp:(zAb [.num rr,.num (r % rr)] [(p7,2,r,rr),(p8,3,rr,r % rr),(b12,1000,r % rr,r % rr),(b11,1001,r/rr,r/rr),(b9,1002,u,u),(b10,1003,uu,uu),(w.heap.size,1010,a,a),(w.heap.size+1,1011,b,b),(w.heap.size+1+1,1012,0,0),(w.heap.size+1+1+1,1013,0,0),(w.heap.size+1+1+1+1,1014,0,0)] []).Ok w.heap.size w8.heap.size:=
     zGh (by have h1:=HL8.out;have h2:=H910.out;have h3:=hx8.lt;simp;omega) (by have h1:=HL8.out;have h2:=H910.out;simp;omega) (by simp) (by have:=hx8.lt;omega)
    refine zC1 (p:=zAb [.num rr,.num (r % rr)] [(p7,2,r,rr),(p8,3,rr,r % rr),(b12,1000,r % rr,r % rr),(b11,1001,r/rr,r/rr),(b9,1002,u,u),(b10,1003,uu,uu),(w.heap.size,1010,a,a),(w.heap.size+1,1011,b,b),(w.heap.size+1+1,1012,0,0),(w.heap.size+1+1+1,1013,0,0),(w.heap.size+1+1+1+1,1014,0,0)] []) (B:=w.heap.size) (B0:=w8.heap.size) (w0:=w) (by kernel_rfl) rfl rfl
     (zGi (by simp;exact ⟨hl8.x7,hl8.x8,x12,x11,hl8.x9,hl8.x10,hx8.xA,hx8.xB,hx8.x4,hx8.x5,hx8.x6⟩) hx8.below) ⟨?_,?_,?_,?_,trivial⟩ ?_
    ·exact zA7 (b:=p8) (k:=3) (z:=rr) (z':=r % rr) hp (by simp [zAb]) (.inr rfl) rfl rfl (fun v w h=>h) ⟨by simp [zAb],by simp [zAb]⟩
    ·exact zA7 (b:=b12) (k:=1000) (z:=r % rr) (z':=r % rr) hp (by simp [zAb]) (.inl rfl) rfl rfl (fun v w h=>h) ⟨by simp [zAb],by simp [zAb]⟩
    ·exact zB2 (b:=p7) (z:=r) (z':=rr) (j:=0) hp rfl (by simp [zAb]) rfl rfl rfl (by simp) rfl (fun v w h=>h) (fun _ _=>trivial) (by simp [zAb]) (by simp [zAb])
    ·exact zB2 (b:=p8) (z:=rr) (z':=r % rr) (j:=1) hp rfl (by simp [zAb]) rfl rfl rfl (by simp) rfl (fun v w h=>h) (fun _ _=>trivial) (by simp [zAb]) (by simp [zAb])
    intro L vs w9 hL hG
    have hls:∀ j,j<4→L j=true:=hL
    have y7:BoxNum w9 (p7) (rr):=by have:=hG.old (p7,2,r,rr) (by simp [zAb]);simpa [hls 2 zm] using this
    have y8:BoxNum w9 (p8) (r % rr):=by have:=hG.old (p8,3,rr,r % rr) (by simp [zAb]);simpa [hls 3 zm] using this
    have y11:BoxNum w9 (b11) (r/rr):=by have:=hG.old (b11,1001,r/rr,r/rr) (by simp [zAb]);simpa using this
    have y9:BoxNum w9 (b9) (u):=by have:=hG.old (b9,1002,u,u) (by simp [zAb]);simpa using this
    have y10:BoxNum w9 (b10) (uu):=by have:=hG.old (b10,1003,uu,uu) (by simp [zAb]);simpa using this
    have yA:BoxNum w9 (w.heap.size) (a):=by have:=hG.old (w.heap.size,1010,a,a) (by simp [zAb]);simpa using this
    have yB:BoxNum w9 (w.heap.size+1) (b):=by have:=hG.old (w.heap.size+1,1011,b,b) (by simp [zAb]);simpa using this
    have y4:BoxNum w9 (w.heap.size+1+1) (0):=by have:=hG.old (w.heap.size+1+1,1012,0,0) (by simp [zAb]);simpa using this
    have y5:BoxNum w9 (w.heap.size+1+1+1) (0):=by have:=hG.old (w.heap.size+1+1+1,1013,0,0) (by simp [zAb]);simpa using this
    have y6:BoxNum w9 (w.heap.size+1+1+1+1) (0):=by have:=hG.old (w.heap.size+1+1+1+1,1014,0,0) (by simp [zAb]);simpa using this
    have hblw:=hG.below
    have hszw:=hG.size
    rw [zAo hL]
    clear hL hG hls hp hx8 hl8 x11 x12
    simp only [zCt,zBq,List.length_cons,List.length_nil,Nat.zero_add,Nat.reduceAdd,List.getElem?_toArray,List.getElem?_cons_zero,List.getElem?_cons_succ,Option.bind_some,Act.put,List.setIfInBounds_toArray,List.set_cons_succ,List.set_cons_zero]
    generalize vs 0=u44
    generalize vs 1=u45
    clear vs L
    go_wp2
    have hlt9:w.heap.size+5≤w9.heap.size:=by have:=y10.lt;have:=H910.out;omega
    have hp:(zAb [.num uu,.num u,.num (r/rr),.num uu,.num (r/rr*uu),.num (u-r/rr*uu)] [(b9,6,u,uu),(b10,7,uu,u-r/rr*uu),(b11,1001,r/rr,r/rr),(p7,1002,rr,rr),(p8,1003,r % rr,r % rr),(w.heap.size,1010,a,a),(w.heap.size+1,1011,b,b),(w.heap.size+1+1,1012,0,0),(w.heap.size+1+1+1,1013,0,0),(w.heap.size+1+1+1+1,1014,0,0)] []).Ok w.heap.size w9.heap.size:=
     zGh (by have h1:=y7.lt;have h2:=H910.out;have h3:=y8.lt;have h4:=y9.lt;have h5:=y10.lt;have h6:=y11.lt;have h7:=HL8.out;simp;omega) (by have h1:=HL8.out;have h2:=H910.out;simp;omega) (by simp) zm
    refine zC1 (p:=zAb [.num uu,.num u,.num (r/rr),.num uu,.num (r/rr*uu),.num (u-r/rr*uu)] [(b9,6,u,uu),(b10,7,uu,u-r/rr*uu),(b11,1001,r/rr,r/rr),(p7,1002,rr,rr),(p8,1003,r % rr,r % rr),(w.heap.size,1010,a,a),(w.heap.size+1,1011,b,b),(w.heap.size+1+1,1012,0,0),(w.heap.size+1+1+1,1013,0,0),(w.heap.size+1+1+1+1,1014,0,0)] []) (B:=w.heap.size) (B0:=w9.heap.size) (w0:=w) (by kernel_rfl) rfl rfl
     (zGi (by simp;exact ⟨y9,y10,y11,y7,y8,yA,yB,y4,y5,y6⟩) hblw) ⟨?_,?_,?_,?_,?_,?_,?_,?_,trivial⟩ ?_
    ·exact zA7 (b:=b10) (k:=7) (z:=uu) (z':=u-r/rr*uu) hp (by simp [zAb]) (.inr rfl) rfl rfl (fun v w h=>h) ⟨by simp [zAb],by simp [zAb]⟩
    ·exact zA7 (b:=b9) (k:=6) (z:=u) (z':=uu) hp (by simp [zAb]) (.inr rfl) rfl rfl (fun v w h=>h) ⟨by simp [zAb],by simp [zAb]⟩
    ·exact zA7 (b:=b11) (k:=1001) (z:=r/rr) (z':=r/rr) hp (by simp [zAb]) (.inl rfl) rfl rfl (fun v w h=>h) ⟨by simp [zAb],by simp [zAb]⟩
    ·exact zA7 (b:=b10) (k:=7) (z:=uu) (z':=u-r/rr*uu) hp (by simp [zAb]) (.inr rfl) rfl rfl (fun v w h=>h) ⟨by simp [zAb],by simp [zAb]⟩
    ·exact zHd (j:=2) (j':=3) hp rfl rfl (by simp) rfl rfl (by simp) rfl zO2 (fun v v' w h h'=>(MulV h h').mono fun e w' h'=>zE9 h' hKuu zm) ⟨by simp [zAb],by simp [zAb]⟩
    ·exact zHd (j:=1) (j':=4) hp rfl rfl (by simp) rfl rfl (by simp) rfl zO3 (fun v v' w h h'=>(SubV h h').mono fun e w' h'=>zE9 h' hKu zm) ⟨by simp [zAb],by simp [zAb]⟩
    ·exact zB2 (b:=b9) (z:=u) (z':=uu) (j:=0) hp rfl (by simp [zAb]) rfl rfl rfl (by simp) rfl (fun v w h=>h) (fun _ _=>trivial) (by simp [zAb]) (by simp [zAb])
    ·exact zB2 (b:=b10) (z:=uu) (z':=u-r/rr*uu) (j:=5) hp rfl (by simp [zAb]) rfl rfl rfl (by simp) rfl (fun v w h=>h) (fun _ _=>trivial) (by simp [zAb]) (by simp [zAb])
    intro L vs wa hL hG
    have hls:∀ j,j<8→L j=true:=hL
    have z7:BoxNum wa (p7) (rr):=by have:=hG.old (p7,1002,rr,rr) (by simp [zAb]);simpa using this
    have z8:BoxNum wa (p8) (r % rr):=by have:=hG.old (p8,1003,r % rr,r % rr) (by simp [zAb]);simpa using this
    have z9:BoxNum wa (b9) (uu):=by have:=hG.old (b9,6,u,uu) (by simp [zAb]);simpa [hls 6 zm] using this
    have z10:BoxNum wa (b10) (u-r/rr*uu):=by have:=hG.old (b10,7,uu,u-r/rr*uu) (by simp [zAb]);simpa [hls 7 zm] using this
    have zA:BoxNum wa (w.heap.size) (a):=by have:=hG.old (w.heap.size,1010,a,a) (by simp [zAb]);simpa using this
    have zB:BoxNum wa (w.heap.size+1) (b):=by have:=hG.old (w.heap.size+1,1011,b,b) (by simp [zAb]);simpa using this
    have z4:BoxNum wa (w.heap.size+1+1) (0):=by have:=hG.old (w.heap.size+1+1,1012,0,0) (by simp [zAb]);simpa using this
    have z5:BoxNum wa (w.heap.size+1+1+1) (0):=by have:=hG.old (w.heap.size+1+1+1,1013,0,0) (by simp [zAb]);simpa using this
    have z6:BoxNum wa (w.heap.size+1+1+1+1) (0):=by have:=hG.old (w.heap.size+1+1+1+1,1014,0,0) (by simp [zAb]);simpa using this
    have hbla:=hG.below
    have hsza:=hG.size
    rw [zAo hL]
    clear hL hG hls hp yA yB y4 y5 y6 y7 y8 y9 y10 y11
    simp only [zCt,zBq,List.length_cons,List.length_nil,Nat.zero_add,Nat.reduceAdd,List.getElem?_toArray,List.getElem?_cons_zero,List.getElem?_cons_succ,Option.bind_some,Act.put,List.setIfInBounds_toArray,List.set_cons_succ,List.set_cons_zero]
    generalize vs 0=u46
    generalize vs 1=u47
    generalize vs 2=u48
    generalize vs 3=u49
    generalize vs 4=u50
    generalize vs 5=u51
    clear vs L
    go_wp2
    go_roundw
    case rel=>exact ⟨rr,r % rr,uu,u-r/rr*uu,hI2,⟨zA,zB,z4,z5,z6,hbla,zm⟩,⟨z7,z8,z9,z10⟩⟩
    case measure=>
     rw [HBV.out,zFi z8]
     unfold ab at hlt2
     omega

theorem zK1 (b j:Nat):(⟨b,0,none⟩:Addr).add j=⟨b,j,none⟩:=by rw [Go.WideShapes.add_plain,Nat.zero_add]

theorem zH2:(Tryz.prog.info? 104).map (fun i=>(i.zero,i.size,i.bytes))=some (some (.int .u32 0),1,4):=by kernel_rfl

theorem own_sl {w:World} {base m:Nat} {v:Value} {ys:List Int} (h:w.ownsRow base 104 1 v m (ys.map (Value.int .u32))) (hd:Digs ys):∃ ao c,v=.slice ao m c∧Sl w ao m c ys:=by
 have hl:ys.length=m:=by have:=h.1;simpa using this
 rcases h.2 with ⟨rfl,h0⟩ | ⟨g,cap,cur,rfl,hb,hg,hn,_⟩
 ·subst h0
  obtain rfl:ys=[]:=List.eq_nil_of_length_eq_zero hl
  exact ⟨none,0,rfl,Sl.nil w⟩
 ·refine ⟨_,_,rfl,hl,hn,hd,.inr ⟨g,0,rfl,(Array.getElem?_eq_some_iff.1 hg).1,fun j hj=>?_⟩⟩
  have:=World.ownsRow.cells h (g:=g) rfl j (.int .u32 (ys.getD j 0)) (by simp [hj])
  rw [zK1] at this
  rw [Nat.zero_add]
  exact this

theorem zS2 (w:World) (ty:TypeId) (g:Nat) (ao:Option Addr) (m c:Nat) (ys:List Int) (hS:Sl w ao m c ys) (hb:m≤1000000) :
  ∃ v' w',(Builtin.append_ #[27,27] ty #[.slice (some ⟨g,0,none⟩) 0 0,.slice ao m c]).run Tryz.prog w=.ok v' w'∧Below w.heap.size w w'∧∃ ao' c',v'=.slice ao' m c'∧Sl w' ao' m c' ys:=by
 obtain ⟨i0,hi,hz0,hz1,hz2⟩:=info_parts zH2
 by_cases h0:m=0
 ·subst h0
  obtain rfl:ys=[]:=List.eq_nil_of_length_eq_zero hS.len
  refine ⟨.slice (some ⟨g,0,none⟩) 0 0,w,?_,Below.refl _ _,_,_,rfl,rfl,Nat.le_refl _,fun x hx=>by simp at hx,.inl rfl⟩
  cases ao with
  | none=>simp [Builtin.append_,run_underlying Tryz.underlying27,sizeOf,typeInfo,hi,Builtin.lenOf,Builtin.firstCells,storeCells]
  | some x=>
   have:=run_append_room_cells (P:=Tryz.prog) w 27 ty 104 i0 Tryz.underlying27 hi g 0 0 0 x 0 c [] (by simp) (by simp) (by simp) zm (by simp) (by simp)
   simpa [World.setCells] using this
 ·rcases hS.cells.2 with h1 | ⟨b,off,rfl,hlt,hc⟩
  ·subst h1;have:=hS.len;simp at this;omega
  ·obtain ⟨v',w',hrun,hown,hg⟩:=run_append_arg_grows (P:=Tryz.prog) w 27 ty 104 i0 (.int .u32 0) 1 4 Tryz.underlying27 hi hz0 hz1 hz2 rfl zd
    ⟨g,0,none⟩ 0 0 [] (by simp) (by simp) ⟨b,off,none⟩ m c (ys.map (Value.int .u32)) (by simp [hS.len]) (fun j u hu=>by
     have hj:j<ys.length:=by have:=(List.getElem?_eq_some_iff.1 hu).1;simpa using this
     rw [Go.WideShapes.add_plain,hc j hj,← hu]
     simp [hj]) zm (by unfold maxLen;omega) zm
   rw [Nat.zero_add,List.nil_append] at hown
   exact ⟨v',w',hrun,⟨hg.os,hg.tape,hg.output,hg.size,fun k hk=>hg.block k hk (by simp)⟩,own_sl hown hS.digs⟩

theorem rOfV (w:World) (z:Int) (h0:-9223372036854775808≤z) (h1:z≤9223372036854775807):Calls Tryz.prog 20 #[.int .i64 z] w fun e w'=>∃ v',e=.returned v'∧Below w.heap.size w w'∧Num w' v' z:=
 (rOf_any w z h0 h1).mono fun _ _ h=>zE9 h (k:=2) (by have e:pw 2=18446744073709551616:=rfl;rw [e];unfold ab;omega) zm

theorem SameV {w:World} {v v':Value} {z z':Int} (h:Num w v z) (h':Num w v' z'):Calls Tryz.prog 49 #[v,v'] w fun e w'=>e=.returned (.bool (decide (z=z')))∧Below w.heap.size w w':=by
 obtain ⟨neg,ao,n,c,xs,rfl,hs,hn,rfl,hc,hnn⟩:=h
 obtain ⟨neg',ao',n',c',xs',rfl,hs',hn',rfl,hc',hnn'⟩:=h'
 exact Same_any _ _ _ _ _ _ _ _ _ _ _ hs hs' hc hc' hnn hnn' zm zm

theorem zLk:En 20:=zAd Tryz.func20 (by kernel_rfl) rfl
end Go.Proofs.YtjadciofpgjofaaGreatDoor
namespace Go.Proofs.YtjadciofpgjofaaGreatDoor
open Go.RowKit

def Two (n a b:Nat) (p q p' q':Value) (W:World):Prop:=
 n≤W.heap.size∧W.cell? ⟨a,0,none⟩=some p∧W.cell? ⟨a,1,none⟩=some q∧W.cell? ⟨b,0,none⟩=some p'∧W.cell? ⟨b,1,none⟩=some q'

theorem Two.call {n a b:Nat} {p q p' q':Value} {W W':World} (h:Two n a b p q p' q' W) (hb:Below W.heap.size W W') (ha:a<n) (hb':b<n):Two n a b p q p' q' W':=
 ⟨Nat.le_trans h.1 hb.size,(hb.cell (p:=⟨a,0,none⟩) (Nat.lt_of_lt_of_le ha h.1)).trans h.2.1,(hb.cell (p:=⟨a,1,none⟩) (Nat.lt_of_lt_of_le ha h.1)).trans h.2.2.1,
  (hb.cell (p:=⟨b,0,none⟩) (Nat.lt_of_lt_of_le hb' h.1)).trans h.2.2.2.1,(hb.cell (p:=⟨b,1,none⟩) (Nat.lt_of_lt_of_le hb' h.1)).trans h.2.2.2.2⟩

theorem Two.set {n a b c o:Nat} {p q p' q':Value} {W:World} (h:Two n a b p q p' q' W) (ha:c≠a) (hb:c≠b) (v:Value):Two n a b p q p' q' (W.setCell ⟨c,o,none⟩ v):=by
 refine ⟨by rw [World.size_setCell];exact h.1,?_,?_,?_,?_⟩
 ·rw [World.cell?_setCell_other _ _ _ _ (by intro e;cases e;exact ha rfl)];exact h.2.1
 ·rw [World.cell?_setCell_other _ _ _ _ (by intro e;cases e;exact ha rfl)];exact h.2.2.1
 ·rw [World.cell?_setCell_other _ _ _ _ (by intro e;cases e;exact hb rfl)];exact h.2.2.2.1
 ·rw [World.cell?_setCell_other _ _ _ _ (by intro e;cases e;exact hb rfl)];exact h.2.2.2.2

theorem boxes12 (w:World) (a1 a2:Value) (t:TypeId) :
  ∃ w0,w0=((w.alloc (.cells #[a1,a2] t)).alloc (.cells #[.bool false,.slice none 0 0] t)).alloc (.cells #[.bool false,.slice none 0 0] t)∧IntBox w0 w.heap.size a1 a2∧IntBox w0 (w.heap.size+1) (.bool false) (.slice none 0 0) ∧
   IntBox w0 (w.heap.size+1+1) (.bool false) (.slice none 0 0)∧Below w.heap.size w w0∧Hid (w0.heap.size=w.heap.size+3):=
 zEl w a1 a2 (.bool false) (.slice none 0 0) t

theorem mul_len {w w':World} {a a':Option Addr} {n c n' c':Nat} {xs ys:List Int} {b b':Bool} (h:Sl w a n c xs) (h':Sl w' a' n' c' ys) (hc:Canon ys) (hz:sgn b (val xs)*sgn b (val xs)=sgn b' (val ys)):n'≤n+n:=by
 have h0:=zAm h.digs
 have h1:=zBa h.digs
 have h2:=zAm h'.digs
 have e1:sgn b (val xs)*sgn b (val xs)=val xs*val xs:=by cases b <;> simp [sgn,Int.neg_mul_neg]
 rw [e1] at hz
 have h3:=Int.mul_nonneg h0 h0
 have h4:val ys=val xs*val xs:=by
  cases b'
  ·exact hz.symm
  ·simp [sgn] at hz;omega
 have h5:val xs*val xs<pw n*pw n:=by
  rw [h.len] at h1
  have i1:=Int.mul_le_mul_of_nonneg_left (show val xs≤pw n by omega) h0
  have i2:=Int.mul_lt_mul_of_pos_right h1 (zA0 n)
  omega
 have:=hc.length_le (k:=n+n) (by rw [h4,zEs];exact h5)
 rw [h'.len] at this;exact this

def zKy (w:World) (z:Int) (e:Ending) (w':World):Prop:=
 Below w.heap.size w w'∧((z<0∧e=.returned (.tuple #[zeroV,zeroV,.int .i64 1]))∨(0≤z∧∃ v v' r,e=.returned (.tuple #[v,v',.int .i64 0])∧IsInt w' v r∧IsInt w' v' (z-r*r)∧IsRoot z 2 r))

theorem Sqrt_any (w:World) (na:Bool) (ax:Option Addr) (n cx:Nat) (xs:List Int) (hX:Sl w ax n cx xs) (hb1:n≤60000) :
  Calls Tryz.prog 118 #[.agg #[.bool na,.slice ax n cx]] w (zKy w (sgn na (val xs))):=by
 have hx0:=zAm hX.digs
 obtain ⟨s,hs⟩:∃ s,s=cmpI (sgn na (val xs)) 0:=⟨_,rfl⟩
 have HS':=hidd hs
 clear hs
 go_enter Tryz.func118,Tryz.ntmps118
 go_wp2_with fail
 obtain ⟨w0,hw0,hA,hC,hD,hbl,HSZ⟩:=boxes12 w (.bool na) (.slice ax n cx) 36
 rw [← hw0]
 clear hw0
 refine (zIt _ _ _ _ _ _ (hX.mono hbl) zm).mono ?_
 rw [← HS'.out]
 rintro e w2 ⟨rfl,hB2⟩
 have hA2:=hA.mono hB2 hA.lt
 have hC2:=hC.mono hB2 hC.lt
 have hD2:=hD.mono hB2 hD.lt
 have hbl2:=hbl.trans (hB2.mono hbl.size)
 have hX2:=(hX.mono hbl).mono hB2
 have HA2:=hidd hA2
 have HC2:=hidd hC2
 have HD2:=hidd hD2
 obtain ⟨a0,a1,_,_⟩:=hA2
 obtain ⟨c0,c1,c2,c3⟩:=hC2
 obtain ⟨d0,d1,d2,d3⟩:=hD2
 clear hA hC hD hbl hB2
 by_cases hs0:s<0
 ·have hneg:sgn na (val xs)<0:=by rw [← zOa,← HS'.out];exact hs0
  have HN:=hidd hneg
  clear hneg
  go_wp2
  refine bodyPost_ret (v:=.tuple #[zeroV,zeroV,.int .i64 1]) ?_ rfl ⟨?_,.inl ⟨HN.out,rfl⟩⟩
  ·simp [results,Tryz.results118,go_sem,c0,c1,d0,d1,zeroV]
  ·exact (((hbl2.setCell (by show w.heap.size≤w.heap.size+1;omega) _).setCell (by show w.heap.size≤w.heap.size+1;omega) _).setCell (by show w.heap.size≤w.heap.size+1+1;omega) _).setCell (by show w.heap.size≤w.heap.size+1+1;omega) _
 ·have hz0:0≤sgn na (val xs):=by
   have:=(not_congr (zOa (z:=sgn na (val xs)))).1 (by rw [← HS'.out];exact hs0)
   omega
  have HZ:Hid (sgn na (val xs)=val xs):=zXr hx0 hz0
  go_wp2_with fail
  refine (zBm _ _ _ _ _ hX2 zm).mono ?_
  rintro e w' ⟨m,rfl,hm,hsm,hvm,hcm,rfl⟩
  have HVM:=hidd hvm
  clear hvm
  go_wp2_with fail
  refine (zXk _ _ _ _ _ hsm hcm zm 2 zm zm).mono ?_
  rintro e w4 ⟨a4,n4,k4,rs4,rfl,hs4,hc4,hroot,hB4⟩
  rw [HVM.out] at hroot
  have hn4:n4≤m:=by
   have h1:val rs4≤val xs:=by
    rcases (by have:=hroot.1;omega:val rs4=0∨1≤val rs4) with h | h
    ·omega
    ·have h2:=zKe h (show 1≤2 by omega)
     have h3:=hroot.2.1
     omega
   exact zDx hc4 hs4 (hsm.mono hB4) (by rw [HVM.out];exact h1)
  have HR:=hidd hroot
  have hA4:=HA2.out.mono hB4 HA2.out.lt
  have hC4:=HC2.out.mono hB4 HC2.out.lt
  have hD4:=HD2.out.mono hB4 HD2.out.lt
  have hbl4:=hbl2.trans (hB4.mono hbl2.size)
  have hX4:=hX2.mono hB4
  clear hroot a0 a1 c0 c1 c2 c3 d0 d1 d2 d3 hbl2 hB4 HC2 HD2 HA2 hX2 hsm
  go_wp2_with fail
  refine (zCv _ _ _ _ _ _ hs4 zm).mono ?_
  rintro e w5 ⟨v,rfl,⟨ng,ao,nn,cc,rs,rfl,hrs,hrc,hrn,hrz⟩,hb5⟩
  have hnn:nn≤n4:=by
   have h1:val rs=val rs4:=by
    have h0:=zAm hrs.digs
    have h1:=zAm hs4.digs
    have h2:val rs4=sgn ng (val rs):=hrz
    cases ng
    ·exact h2.symm
    ·simp [sgn] at h2;omega
   exact zDx hrc hrs (hs4.mono hb5) zm
  have hA5:=hA4.mono hb5 hA4.lt
  have hC5:=hC4.mono hb5 hC4.lt
  have hD5:=hD4.mono hb5 hD4.lt
  have hbl5:=hbl4.trans (hb5.mono hbl4.size)
  have hX5:=hX4.mono hb5
  have HRZ:Hid (val rs4=sgn ng (val rs)):=hrz
  clear hrz hA4 hC4 hD4 hbl4 hX4 hb5 hs4
  go_wp2_with fail
  obtain ⟨w6,hw6⟩:∃ w6,w6=w5.alloc (.cells #[.bool ng,.slice ao nn cc] 36):=⟨_,rfl⟩
  obtain ⟨b5,hb5⟩:∃ b5,b5=w5.heap.size:=⟨_,rfl⟩
  rw [← hw6,← hb5]
  have hE:IntBox w6 b5 (.bool ng) (.slice ao nn cc):=by rw [hw6,hb5];exact IntBox.new w5 _ _ _
  have hba:Below w5.heap.size w5 w6:=by rw [hw6];exact zAh _ _
  have hA6:=hA5.mono hba hA5.lt
  have hC6:=hC5.mono hba hC5.lt
  have hD6:=hD5.mono hba hD5.lt
  have hbl6:=hbl5.trans (hba.mono hbl5.size)
  have hX6d:=(hX5.mono hba).drew
  have hs6:=hrs.mono hba
  have hs6d:=hs6.drew
  have hDlt:=hD5.lt
  have hb5a:w.heap.size+1+1<b5:=by rw [hb5];exact hDlt
  have hb5n:b5<w6.heap.size:=hE.lt
  clear hw6 hb5 hA5 hC5 hD5 hbl5 hX5 hba hrs
  have hTwo:Two w6.heap.size w.heap.size b5 (.bool na) (.slice ax n cx) (.bool ng) (.slice ao nn cc) w6.drew:=⟨Nat.le_refl _,hA6.1,hA6.2.1,hE.1,hE.2.1⟩
  have hC6d:IntBox w6.drew (w.heap.size+1) (.bool false) (.slice none 0 0):=hC6
  have hD6d:IntBox w6.drew (w.heap.size+1+1) (.bool false) (.slice none 0 0):=hD6
  go_region_held3 (fun W=>w6.heap.size≤W.heap.size∧W.cell? ⟨w.heap.size,0,none⟩=some (.bool na)∧W.cell? ⟨w.heap.size,1,none⟩=some (.slice ax n cx)∧W.cell? ⟨b5,0,none⟩=some (.bool ng)∧W.cell? ⟨b5,1,none⟩=some (.slice ao nn cc))
   (first | exact hTwo | assumption | exact Two.call (by assumption) hB7 zm zm | exact Two.call (by assumption) hB8 zm zm | exact Two.set (Two.set (by assumption) zm zm _) zm zm _)
   (first | (go_at_call 34;(with_reducible refine (Mul_any _ _ _ _ _ _ _ _ _ _ _ hs6d hs6d zm zm).mono ?_);rintro e w7 ⟨v7,rfl,⟨n7,a7,k7,c7,s7,rfl,hs7,hc7,hn7,hz7⟩,hB7⟩;have hX7:=hX6d.mono hB7;have hk7:=mul_len hs6d hs7 hc7 hz7) | (go_at_call 72;(with_reducible refine (Sub_any _ _ _ _ _ _ _ _ _ _ _ hX7 hs7 zm zm).mono ?_);rintro e w8 ⟨v8,rfl,⟨n8,a8,k8,c8,s8,rfl,hs8,hc8,hn8,hz8⟩,hB8⟩;obtain ⟨e0,e1,e2,e3⟩:=(hC6d.mono hB7 hC6d.lt).mono hB8 (Nat.lt_of_lt_of_le hC6d.lt hB7.size);obtain ⟨g0,g1,g2,g3⟩:=(hD6d.mono hB7 hD6d.lt).mono hB8 (Nat.lt_of_lt_of_le hD6d.lt hB7.size)))
  go_wp2
  have hbl8:Below w.heap.size w w8:=(hbl6.drew.trans (hB7.mono hbl6.size)).trans (hB8.mono (Nat.le_trans hbl6.size hB7.size))
  have hs68:=(hs6d.mono hB7).mono hB8
  have hfin:=zJz (n1:=ng) (n2:=n8) ⟨e0,e1,e2,e3⟩ ⟨g0,g1,g2,g3⟩ zm hs68 hs8 hbl8 zm zm
  have hr2:val rs4=sgn ng (val rs):=HRZ.out
  refine bodyPost_ret (v:=.tuple #[.agg #[.bool ng,.slice ao nn cc],.agg #[.bool n8,.slice a8 k8 c8],.int .i64 0]) ?_ rfl ⟨hfin.2.2,.inr ⟨hz0,_,_,val rs4,rfl,⟨ng,ao,nn,cc,rs,rfl,hfin.1,hrc,hrn,hr2⟩,⟨n8,a8,k8,c8,s8,rfl,hfin.2.1,hc8,hn8,?_⟩,?_⟩⟩
  ·simp [results,Tryz.results118,go_sem,e0,e1,g0,g1]
  ·rw [← hz8,← hz7,hr2]
  ·rw [HZ.out];exact HR.out

end Go.Proofs.YtjadciofpgjofaaGreatDoor
namespace Go.Proofs.YtjadciofpgjofaaGreatDoor
open Go Go.RowKit

theorem Num.len {w:World} {v:Value} {z:Int} (h:Num w v z) {k:Nat} (hz:ab z<pw k):∃ (neg:Bool) (ao:Option Addr) (n c:Nat) (xs:List Int),v=.agg #[.bool neg,.slice ao n c]∧Sl w ao n c xs∧n≤k∧z=sgn neg (val xs):=by
 obtain ⟨neg,ao,n,c,xs,hv,hs,hn,hz',hc,hnn⟩:=h
 have h0:=zAm hs.digs
 have h1:val xs<pw k:=by
  subst hz'
  unfold ab at hz
  cases neg <;> simp [sgn] at hz <;> omega
 have h2:=hc.length_le h1
 rw [hs.len] at h2
 exact ⟨neg,ao,n,c,xs,hv,hs,h2,hz'⟩

theorem AddV {w:World} {v v':Value} {z z':Int} (h:Num w v z) (h':Num w v' z'):Calls Tryz.prog 36 #[v,v'] w (zBc w (z+z')):=by
 obtain ⟨neg,ao,n,c,xs,rfl,hs,hn,rfl,_⟩:=h
 obtain ⟨neg',ao',n',c',xs',rfl,hs',hn',rfl,_⟩:=h'
 exact Add_any _ _ _ _ _ _ _ _ _ _ _ hs hs' zm zm

theorem NegV {w:World} {v:Value} {z:Int} (h:Num w v z):Calls Tryz.prog 71 #[v] w (zBc w (-z)):=by
 obtain ⟨neg,ao,n,c,xs,rfl,hs,hn,rfl,_⟩:=h
 exact Neg_any _ _ _ _ _ _ hs zm

theorem CmpV {w:World} {v v':Value} {z z':Int} (h:Num w v z) (h':Num w v' z'):Calls Tryz.prog 35 #[v,v'] w fun e w'=>e=.returned (.int .i64 (cmpI z z'))∧Below w.heap.size w w':=by
 obtain ⟨neg,ao,n,c,xs,rfl,hs,hn,rfl,_⟩:=h
 obtain ⟨neg',ao',n',c',xs',rfl,hs',hn',rfl,_⟩:=h'
 exact Cmp_any _ _ _ _ _ _ _ _ _ _ _ hs hs' zm zm

theorem LowV {w:World} {v:Value} {z:Int} (h:Num w v z):Calls Tryz.prog 169 #[v] w fun e w'=>e=.returned (lowV z)∧Below w.heap.size w w':=by
 obtain ⟨neg,ao,n,c,xs,rfl,hs,hn,rfl,_⟩:=h
 exact Low_any _ _ _ _ _ _ hs zm

theorem GcdV {w:World} {v v':Value} {z z':Int} (h:Num w v z) (h':Num w v' z'):Calls Tryz.prog 136 #[v,v'] w (zBc w (Int.gcd z z')):=by
 obtain ⟨neg,ao,n,c,xs,rfl,hs,hn,rfl,_⟩:=h
 obtain ⟨neg',ao',n',c',xs',rfl,hs',hn',rfl,_⟩:=h'
 exact Gcd_any _ _ _ _ _ _ _ _ _ _ _ hs hs' zm zm

theorem SqrtV {w:World} {v:Value} {z:Int} (h:Num w v z) (hz:ab z<pw 60000):Calls Tryz.prog 118 #[v] w (zKy w z):=by
 obtain ⟨neg,ao,n,c,xs,rfl,hs,hn,rfl⟩:=h.len hz
 exact Sqrt_any _ _ _ _ _ _ hs hn

theorem BezoutV {w:World} {v v':Value} {z z':Int} (h:Num w v z) (h':Num w v' z') {K:Nat} (hz:ab z<pw K) (hz':ab z'<pw K) (hK:K≤400000):Calls Tryz.prog 111 #[v,v'] w (zNv w z z'):=by
 obtain ⟨n,ao,k,c,rfl⟩:=h.parts
 obtain ⟨n',ao',k',c',rfl⟩:=h'.parts
 exact zSt w h h' hz hz' hK

def RowB (w:World) (e:TypeId) (b:Nat) (zs:List Int):Prop:=w.heap[b]?=some (.cells (zs.map (Value.int .u8)).toArray e (0,0))

theorem RowB.lt {w:World} {e:TypeId} {b:Nat} {zs:List Int} (h:RowB w e b zs):b<w.heap.size:=(Array.getElem?_eq_some_iff.1 h).1

theorem RowB.cell {w:World} {e:TypeId} {b:Nat} {zs:List Int} (h:RowB w e b zs) {j:Nat} (hj:j<zs.length):w.cell? ⟨b,j,none⟩=some (.int .u8 (zs.getD j 0)):=by
 rw [cell_of_row w b j _ e (0,0) h]
 simp [hj]

theorem RowB.frozen {w:World} {e:TypeId} {b:Nat} {zs:List Int} (h:RowB w e b zs) (j:Nat):w.frozen? ⟨b,j,none⟩=false:=by
 have h2:w.heap[b]?=some (.cells (zs.map (Value.int .u8)).toArray e (0,0)):=h
 simp [World.frozen?,h2]

theorem RowB.set {w:World} {e:TypeId} {b:Nat} {zs:List Int} (h:RowB w e b zs) {j:Nat} (x:Int):RowB (w.setCell ⟨b,j,none⟩ (.int .u8 x)) e b (zs.set j x):=by
 have hb:=h.lt
 have h2:w.heap[b]?=some (.cells (zs.map (Value.int .u8)).toArray e (0,0)):=h
 unfold RowB
 simp only [World.setCell,Array.getElem?_modify,if_true,h2,Option.map_some,Option.isSome_none]
 simp

def Back (w:World) (B:Nat) (v:Value) (ds:List Int):Prop:=w.ownsRow B 5 1 v ds.length (ds.map (Value.int .u8))

theorem Back.shape {w:World} {B:Nat} {v:Value} {ds:List Int} (h:Back w B v ds):∃ ao cap,v=.slice ao ds.length cap:=by
 rcases h.2 with ⟨rfl,h0⟩ | ⟨g,cap,cur,rfl,_⟩
 ·exact ⟨none,0,by rw [h0]⟩
 ·exact ⟨_,_,rfl⟩

theorem Back.cells {w:World} {B:Nat} {v:Value} {ds:List Int} (h:Back w B v ds) (h0:0<ds.length) :
  ∃ g cap,v=.slice (some ⟨g,0,none⟩) ds.length cap∧g<w.heap.size∧∀ j,j<ds.length→w.cell? ⟨g,j,none⟩=some (.int .u8 (ds.getD j 0)):=by
 rcases h.2 with ⟨rfl,h1⟩ | ⟨g,cap,cur,rfl,hb,hg,_⟩
 ·omega
 ·refine ⟨g,cap,rfl,(Array.getElem?_eq_some_iff.1 hg).1,fun j hj=>?_⟩
  have:=World.ownsRow.cells h (g:=g) rfl j (.int .u8 (ds.getD j 0)) (by simp [hj])
  have hadd:(⟨g,0,none⟩:Addr).add j=⟨g,j,none⟩:=by unfold Addr.add;split <;> simp_all
  rw [hadd] at this
  exact this

theorem zKc (w:World) (x:Value) (e:TypeId):∀ (j:Nat) (u:Value),[x][j]?=some u→(w.alloc (.cells #[x] e)).cell? ((⟨w.heap.size,0,none⟩:Addr).add j)=some u:=by
 intro j u hj
 match j,hj with
 | 0,hj=>simp at hj;subst hj;simp [Addr.add]

def RTwo (w:World) (z1 z2:Int) (e:Ending) (w':World):Prop:=
 ∃ (n:Bool) (ao:Option Addr) (k c:Nat) (n':Bool) (ao':Option Addr) (k' c':Nat),e=.returned (.tuple #[.agg #[.bool n,.slice ao k c],.agg #[.bool n',.slice ao' k' c'],.int .i64 0])∧Below w.heap.size w w' ∧
  Num w' (.agg #[.bool n,.slice ao k c]) z1∧Num w' (.agg #[.bool n',.slice ao' k' c']) z2

theorem zHn {w:World} {n:Bool} {ao:Option Addr} {k c:Nat} {z:Int} (h:Num w (.agg #[.bool n,.slice ao k c]) z) (t:TypeId) :
  ∃ w1,w1=w.alloc (.cells #[.bool n,.slice ao k c] t)∧Below w.heap.size w w1∧BoxNum w1 w.heap.size z:=⟨_,rfl,zAh _ _,BoxNum.made h t⟩

theorem boxTwo {w:World} {n n':Bool} {ao ao':Option Addr} {k c k' c':Nat} {z z':Int} (h:Num w (.agg #[.bool n,.slice ao k c]) z) (h':Num w (.agg #[.bool n',.slice ao' k' c']) z') (t:TypeId) :
  ∃ w1,w1=(w.alloc (.cells #[.bool n,.slice ao k c] t)).alloc (.cells #[.bool n',.slice ao' k' c'] t)∧Below w.heap.size w w1∧BoxNum w1 w.heap.size z∧BoxNum w1 (w.heap.size+1) z':=by
 obtain ⟨w1,h1,b1,x1⟩:=zHn h t
 have h2:=h'.mono b1
 have s1:w1.heap.size=w.heap.size+1:=by rw [h1,World.size_alloc]
 obtain ⟨w2,h3,b2,x2⟩:=zHn h2 t
 rw [s1] at x2
 exact ⟨w2,by rw [h3,h1],b1.trans (b2.mono zm),x1.mono b2,x2⟩

def Bs (w:World):List (Nat × Int)→Prop
 | []=>True
 | p::r=>BoxNum w p.1 p.2∧Bs w r

theorem Bs.mono {w w':World} (hb:Below w.heap.size w w'):∀ {l:List (Nat × Int)},Bs w l→Bs w' l
 | [],_=>trivial
 | _::_,h=>⟨h.1.mono hb,Bs.mono hb h.2⟩

section
variable {os : List Oper} {Q : Exit → Act → World → Prop} {a : Act} {p : Plan} {B B0 : Nat} {w0 : World}
variable {i s : Nat} {d : Option Tmp} {ty : TypeId} {ps : String} {af : Array Edge}

end

theorem zBd {x y:Int} {j k m:Nat} (hx:ab x<pw j) (hy:ab y<pw k) (hj:j<m) (hk:k<m):ab (x+y)<pw m:=by
 have h1:=zBu (show j≤m-1 by omega)
 have h2:=zBu (show k≤m-1 by omega)
 have h3:=zCy (m-1)
 rw [show m-1+1=m by omega] at h3
 have h4:=zA0 (m-1)
 unfold ab at *
 omega

theorem zKz {x:Int} {k:Nat} (hx:ab x<pw k):ab (-x)<pw k:=by
 unfold ab at *
 omega

theorem zCm {x y:Int} {j k m:Nat} (hx:ab x<pw j) (hy:ab y<pw k) (hj:j<m) (hk:k<m):ab (x-y)<pw m:=by
 have:=zBd hx (zKz hy) hj hk
 rw [Int.sub_eq_add_neg]
 exact this

theorem zBv {x y:Int} {j k:Nat} (hx:ab x<pw j) (hy:ab y<pw k):ab (x*y)<pw (j+k):=by
 rw [zIv,zEs]
 have h1:=zEk x
 have h2:=zEk y
 exact Int.mul_lt_mul' (Int.le_of_lt hx) hy h2 (zA0 _)

theorem zAl {x y:Int} {j k m:Nat} (hx:ab x<pw j) (hy:ab y<pw k) (hm:j+k=m):ab (x*y)<pw m:=by
 subst hm
 exact zBv hx hy

theorem zBk {x:Int} {k:Nat} (hx:ab x<pw k):ab (x.natAbs:Int)<pw k:=by
 unfold ab at *
 omega

theorem zCf {x y:Int} {k:Nat} (hy0:y≠0) (hy:ab y<pw k):ab (x % y)<pw k:=by
 have h1:=Int.emod_nonneg x hy0
 have h2:=Int.emod_lt x hy0
 unfold ab at *
 omega

theorem zEj {x y:Int} {k m:Nat} (hx:ab x<pw k) (hk:k<m):ab (x/y)<pw m:=by
 have h1:(x/y).natAbs≤x.natAbs+1:=by
  have h0:=Int.natAbs_ediv_le_natAbs x y
  omega
 have h2:=zBu (show k+1≤m by omega)
 have h3:=zCy k
 have h4:=zA0 k
 unfold ab at *
 omega

theorem exK {w:World} {z:Int} {f:FuncId} {args:Array Value} (h:Calls Tryz.prog f args w (zBc w z)) {k:Nat} (hz:ab z<pw k) (hk:k≤900000) :
  Calls Tryz.prog f args w fun e w'=>∃ v',e=.returned v'∧Below w.heap.size w w'∧Num w' v' z:=
 h.mono fun _ _ hh=>zE9 hh hz hk

theorem exKP {w:World} {z:Int} {f:FuncId} {args:Array Value} (h:Calls Tryz.prog f args w (zBc w z)) {k:Nat} (hz:ab z<pw k) (hk:k≤900000) :
  Calls Tryz.prog f args w fun e w'=>∃ (n:Bool) (ao:Option Addr) (k c:Nat),e=.returned (.agg #[.bool n,.slice ao k c])∧Below w.heap.size w w'∧Num w' (.agg #[.bool n,.slice ao k c]) z:=
 (exK h hz hk).mono fun _ _ hh=>by
  obtain ⟨v,rfl,hb,hn⟩:=hh
  obtain ⟨n,ao,k,c,rfl⟩:=hn.parts
  exact ⟨_,_,_,_,rfl,hb,hn⟩

theorem exDK {w:World} {v v':Value} {a b:Int} (h:Num w v a) (h':Num w v' b) (hb:b≠0) {j k:Nat} (hq:ab (a/b)<pw j) (hr:ab (a % b)<pw k) (hj:j≤900000) (hk:k≤900000):Calls Tryz.prog 37 #[v,v'] w (RTwo w (a/b) (a % b)):=
 (zHj h h').mono fun e w' hg=>by
  obtain ⟨hbl,⟨h0,_⟩ | ⟨_,vq,vr,rfl,i1,i2⟩⟩:=hg
  ·exact absurd h0 hb
  ·have n1:=zCq i1 hq hj
   have n2:=zCq i2 hr hk
   obtain ⟨n,ao,k,c,rfl⟩:=n1.parts
   obtain ⟨n',ao',k',c',rfl⟩:=n2.parts
   exact ⟨_,_,_,_,_,_,_,_,rfl,hbl,n1,n2⟩

theorem exDT {w:World} {v v':Value} {a b:Int} (h:Num w v a) (h':Num w v' b) (hb:b≠0) {j k:Nat} (hq:ab (a/b)<pw j) (hr:ab (a % b)<pw k) (hj:j≤900000) (hk:k≤900000) :
  Calls Tryz.prog 37 #[v,v'] w fun e w'=>∃ v',e=.returned v'∧Below w.heap.size w w'∧(Fc.tup (a/b) (a % b)).P v' w':=
 (exDK h h' hb hq hr hj hk).mono fun e w' hg=>by
  obtain ⟨_,_,_,_,_,_,_,_,rfl,hbl,n1,n2⟩:=hg
  exact ⟨_,rfl,hbl,_,_,rfl,n1,n2⟩

theorem zA5 {w:World} {v:Value} {z:Int} (h:Num w v z):Calls Tryz.prog 38 #[v] w fun e w'=>∃ v',e=.returned v'∧Below w.heap.size w w'∧v'=.int .i64 (cmpI z 0):=
 (SignV h).mono fun _ _ hh=>⟨_,hh.1,hh.2,rfl⟩

theorem zA4 {w:World} {v v':Value} {z z':Int} (h:Num w v z) (h':Num w v' z'):Calls Tryz.prog 35 #[v,v'] w fun e w'=>∃ v',e=.returned v'∧Below w.heap.size w w'∧v'=.int .i64 (cmpI z z'):=
 (CmpV h h').mono fun _ _ hh=>⟨_,hh.1,hh.2,rfl⟩

theorem Num.len_zero {w:World} {n:Bool} {ao:Option Addr} {k c:Nat} {z:Int} (h:Num w (.agg #[.bool n,.slice ao k c]) z):(k=0 ↔ z=0)∧k≤900000:=by
 obtain ⟨neg,ao',k',c',xs,hv,hs,hn,hz,hc,hnn⟩:=h
 obtain ⟨rfl,rfl,rfl,rfl⟩:n=neg∧ao=ao'∧k=k'∧c=c':=by
  simp at hv;exact ⟨hv.1,hv.2.1,hv.2.2.1,hv.2.2.2⟩
 refine ⟨?_,hn⟩
 have h1:=hc.zero
 rw [hs.len] at h1
 rw [h1,hz]
 cases n <;> simp [sgn]

def Rw (w:World):List (Nat × Bool × Option Addr × Nat × Nat × List Int)→Prop
 | []=>True
 | (b,neg,ao,n,c,xs)::r=>(IntBox w b (.bool neg) (.slice ao n c)∧Sl w ao n c xs)∧Rw w r

theorem Rw.mono {w w':World} (hb:Below w.heap.size w w'):∀ {l:List (Nat × Bool × Option Addr × Nat × Nat × List Int)},Rw w l→Rw w' l
 | [],_=>trivial
 | (_,_,_,_,_,_)::_,h=>⟨⟨h.1.1.mono hb h.1.1.lt,h.1.2.mono hb⟩,Rw.mono hb h.2⟩

structure Ev (w0:World) (rs:List (Nat × Bool × Option Addr × Nat × Nat × List Int)) (l:List (Nat × Int)) (W:World):Prop where
 below:Below w0.heap.size w0 W
 raws:Rw W rs
 bs:Bs W l

theorem Ev.mono {w0 W W':World} {rs:List (Nat × Bool × Option Addr × Nat × Nat × List Int)} {l:List (Nat × Int)} (h:Ev w0 rs l W) (hb:Below W.heap.size W W'):Ev w0 rs l W':=
 ⟨h.below.trans (hb.mono h.below.size),h.raws.mono hb,h.bs.mono hb⟩

theorem Ev.push {w0 W:World} {rs:List (Nat × Bool × Option Addr × Nat × Nat × List Int)} {l:List (Nat × Int)} (h:Ev w0 rs l W) {b:Nat} {z:Int} (hb:BoxNum W b z):Ev w0 rs ((b,z)::l) W:=
 ⟨h.below,h.raws,hb,h.bs⟩

section
variable {os : List Oper} {Q : Exit → Act → World → Prop} {a : Act} {p : Plan} {B B0 : Nat} {w0 : World}
variable {i s : Nat} {d : Option Tmp} {ty : TypeId} {ps : String} {af : Array Edge} {gd : Option (Nat × Bool)}

theorem zLy {x:Value} {f:FuncId} {ts:Array TypeId} (hp:PMono p B B0) (hF:p.Free i) (hg:Gd os a p B B0 w0 af gd) (hen:∀ args w,(callFunc f args).run Tryz.prog w=.ok (.enter f args) w)
  (hC:∀ w,Calls Tryz.prog f #[x] w fun e w'=>∃ v',e=.returned v'∧Below w.heap.size w w'∧p.C i v' w') :
  Step os Q a p B B0 w0 i { dst:=d,op:=.call { callee:=.value (.func f),args:=#[.const x],argTypes:=ts },type:=ty,pos:=ps,after:=af,guard:=gd }:=
 zNl hp hF hg hen fun L vs w _ _=>⟨#[x],by simp [Act.eval],hC w⟩

end

section
variable {os : List Oper} {Q : Exit → Act → World → Prop} {a : Act} {p : Pq} {B B0 : Nat} {w0 : World}
variable {i s : Nat} {d : Option Tmp} {ty : TypeId} {ps : String} {af : Array Edge} {gd : Option (Nat × Bool)}

def SrcQ (os:List Oper) (a:Act) (p:Pq) (B B0:Nat) (w0:World) (af:Array Edge) (x:Operand) (F:Value→World→Prop):Prop:=
 ∀ L vs w,p.G B B0 w0 L vs w→(∀ e∈af,Region.binds .any e=true→L e.on=true)→F ((lay os.toArray L vs os.toArray.size a).eval x) w

theorem zA9 (j:Nat) {F:Value→World→Prop} (ha:zAy (os.map (·.dst))=true) (hj:(os.map (·.dst))[j]?=some (some s)) (hs:s<a.tmps.size) (hdep:depA af j=true) (hF:∀ v w,(p.c j).P v w→F v w):SrcQ os a p B B0 w0 af (.tmp s) F:=by
 intro L vs w hG hd
 have hLj:=zGt hdep hd
 rw [zC8 ha hLj hj hs]
 exact hF _ _ (hG.val j hLj)

theorem zAp {v:Value} {F:Value→World→Prop} (ho:(os.map (·.dst)).contains (some s)=false) (hx:a.eval (.tmp s)=v) (hF:∀ w,Below B w0 w→F v w):SrcQ os a p B B0 w0 af (.tmp s) F:=by
 intro L vs w hG hd
 rw [(zJ2 ho _).trans hx]
 exact hF _ hG.below

theorem zAk {v:Value} {F:Value→World→Prop} (hF:∀ w,F v w):SrcQ os a p B B0 w0 af (.const v) F:=fun _ _ _ _ _=>hF _

def GdQ (os:List Oper) (a:Act) (p:Pq) (B B0:Nat) (w0:World) (af:Array Edge):Option (Nat × Bool)→Prop
 | none=>True
 | some (j,b)=>∀ L vs w,p.G B B0 w0 L vs w→(∀ e∈af,Region.binds .any e=true→L e.on=true)→yielded os.toArray (lay os.toArray L vs os.toArray.size a).tmps j=some b

theorem gq_some {j:Nat} {b:Bool} (ha:zAy (os.map (·.dst))=true) (hj:(os.map (·.dst))[j]?=some (some s)) (hs:s<a.tmps.size) (hdep:depA af j=true) (hC:∀ v w,(p.c j).P v w→v=.bool b):GdQ os a p B B0 w0 af (some (j,b)):=by
 intro L vs w hG hd
 have hLj:=zGt hdep hd
 have hv:=hC _ _ (hG.val j hLj)
 have he:=zC8 (vs:=vs) ha hLj hj hs
 rw [hv] at he
 have hsz:s<(lay os.toArray L vs os.toArray.size a).tmps.size:=by rw [zJ3];exact hs
 have ht:(lay os.toArray L vs os.toArray.size a).tmps[s]?=some (.bool b):=by
  have h2:(lay os.toArray L vs os.toArray.size a).eval (.tmp s)=((lay os.toArray L vs os.toArray.size a).tmps[s]?).getD undef:=by simp [Act.eval]
  rw [Array.getElem?_eq_getElem hsz] at h2 ⊢
  rw [he] at h2
  exact congrArg some h2.symm
 have hdst:(os.toArray[j]?).bind (·.dst)=some s:=by
  simp at hj ⊢
  cases ho:os[j]? with
  | none=>simp [ho] at hj
  | some o=>simp [ho] at hj ⊢;exact hj
 unfold yielded
 rw [hdst]
 simp only [Option.bind_some,ht]

theorem sqi (j:Nat) {F:Value→World→Prop} (ha:zAy (os.map (·.dst))=true:=by exact rfl) (hj:(os.map (·.dst))[j]?=some (some s):=by exact rfl) (hs:s<a.tmps.size:=by simp) (hdep:depA af j=true:=by exact rfl) (hF:∀ v w,(p.c j).P v w→F v w:=by exact fun v w h=>h):SrcQ os a p B B0 w0 af (.tmp s) F:=zA9 j ha hj hs hdep hF
theorem sqo (s:Nat) {u:Value} (ho:(os.map (·.dst)).contains (some s)=false:=by exact rfl) (hx:a.eval (.tmp s)=u:=by exact rfl):SrcQ os a p B B0 w0 af (.tmp s) fun v _=>v=u:=zAp ho hx fun _ _=>rfl
theorem gqi {j:Nat} {b:Bool} (ha:zAy (os.map (·.dst))=true:=by exact rfl) (hj:(os.map (·.dst))[j]?=some (some s):=by exact rfl) (hs:s<a.tmps.size:=by simp) (hdep:depA af j=true:=by exact rfl) (hC:∀ v w,(p.c j).P v w→v=.bool b:=by exact fun v w h=>h):GdQ os a p B B0 w0 af (some (j,b)):=gq_some ha hj hs hdep hC
theorem mq {α:Type} {l:List α} {x:α} (k:Nat) (h:l[k]?=some x):x∈l:=List.mem_iff_getElem?.2 ⟨k,h⟩
theorem zP:(∀ (ops:Array Oper) (vs:Nat→Value) (a:Act),zCt ops vs 0 a=a)∧(∀ (ops:Array Oper) (vs:Nat→Value) (k:Nat) (a:Act),zCt ops vs (k+1) a=(zCt ops vs k a).put (zBq ops k) (vs k))∧(∀ (l:List Oper) (i:Nat),zBq l.toArray i=(l[i]?).bind (·.dst))∧(∀ (a:Act) (d:Tmp) (v:Value),a.put (some d) v={ a with tmps:=a.tmps.setIfInBounds d v })∧(∀ (a:Act) (v:Value),a.put none v=a)∧(∀ (x:Oper) (l:List Oper),(x::l).length=l.length+1)∧([]:List Oper).length=0∧(∀ (x:Oper) (l:List Oper),(x::l)[0]?=some x)∧(∀ (x:Oper) (l:List Oper) (i:Nat),(x::l)[i+1]?=l[i]?)∧(∀ (x:Oper) (f:Oper→Option Tmp),(some x).bind f=f x)∧(∀ (l:List Value) (i:Nat) (v:Value),l.toArray.setIfInBounds i v=(l.set i v).toArray)∧(∀ (x v:Value) (l:List Value) (i:Nat),(x::l).set (i+1) v=x::l.set i v)∧(∀ (x v:Value) (l:List Value),(x::l).set 0 v=v::l):=⟨fun _ _ _=>rfl,fun _ _ _ _=>rfl,fun _ _=>by simp [zBq],fun _ _ _=>rfl,fun _ _=>rfl,fun _ _=>rfl,rfl,fun _ _=>rfl,fun _ _ _=>rfl,fun _ _=>rfl,fun _ _ _=>by simp,fun _ _ _ _=>rfl,fun _ _ _=>rfl⟩
theorem wXi {C:List Fq} {n:Nat} {vs:Nat→Value} {W:World} (hC:∀ j,j<n→((C[j]?).getD Fq.any).P (vs j) W) (j:Nat) {u:Value} (hj:j<n:=by simp) (h:C[j]?=some (Fq.is u):=by exact rfl):vs j=u:=by
 have:=hC j hj
 rw [h] at this
 exact this
theorem zE2 {o:Oper} {L:Nat→Bool} {vs:Nat→Value} {w:World} (hg:GdQ os a p B B0 w0 o.after o.guard) (hG:p.G B B0 w0 L vs w) (hd:∀ e∈o.after,Region.binds .any e=true→L e.on=true):Region.wanted o (yielded os.toArray (lay os.toArray L vs os.toArray.size a).tmps)=true:=by
 unfold Region.wanted
 cases hgd:o.guard with
 | none=>rfl
 | some jb=>
  obtain ⟨j,b⟩:=jb
  rw [hgd] at hg
  have:=hg L vs w hG hd
  show (yielded os.toArray (lay os.toArray L vs os.toArray.size a).tmps j == some b)=true
  rw [this]
  cases b <;> rfl

theorem zFr {o:Oper} {j:Nat} {b:Bool} (hp:p.Ok B B0) (hF:p.Free i) (hgd:o.guard=some (j,b)) (hg:GdQ os a p B B0 w0 o.after (some (j,!b))) (hC:∀ w,(p.c i).P undef w):zAf os Q a p B B0 w0 i o:=by
 intro hio L vs w hG hL hd hc
 refine wpOp_step hio fun K' hK=>?_
 have h1:=hg L vs w hG hd
 have hwn:¬ Region.wanted o (yielded os.toArray (lay os.toArray L vs os.toArray.size a).tmps)=true:=by
  unfold Region.wanted
  rw [hgd]
  show ¬ (yielded os.toArray (lay os.toArray L vs os.toArray.size a).tmps j == some b)=true
  rw [h1]
  cases b <;> simp
 rw [if_neg hwn]
 exact hK _ _ ⟨_,rfl,hG.plain hp hF (Below.refl _ _) (hC _)⟩

theorem stq_run {o:Oper} (hp:p.Ok B B0) (hF:p.Free i) (hg:GdQ os a p B B0 w0 o.after o.guard) (hr:∀ L vs w,p.G B B0 w0 L vs w→L i=false→zDb os.toArray L→(∀ e∈o.after,Region.binds .any e=true→L e.on=true) →
   ∃ v w',(execOp (lay os.toArray L vs os.toArray.size a).eval o).run Tryz.prog w=.ok (.value v) w'∧Below w.heap.size w w'∧(p.c i).P v w'):zAf os Q a p B B0 w0 i o:=by
 intro hio L vs w hG hL hd hc
 refine wpOp_step hio fun K' hK=>?_
 obtain ⟨v,w',hv,hb,hCv⟩:=hr L vs w hG hL hc hd
 rw [if_pos (zE2 hg hG hd)]
 unfold Oper.wp
 rw [hv]
 exact hK _ _ ⟨_,rfl,hG.plain hp hF hb hCv⟩

theorem zBf {o:Oper} (hp:p.Ok B B0) (hF:p.Free i) (hg:GdQ os a p B B0 w0 o.after o.guard) (hr:∀ L vs w,p.G B B0 w0 L vs w→L i=false→zDb os.toArray L→(∀ e∈o.after,Region.binds .any e=true→L e.on=true) →
   ∃ v,(execOp (lay os.toArray L vs os.toArray.size a).eval o).run Tryz.prog w=.ok (.value v) w∧(p.c i).P v w):zAf os Q a p B B0 w0 i o:=
 stq_run hp hF hg fun L vs w hG hL hc hd=>by
  obtain ⟨v,h1,h2⟩:=hr L vs w hG hL hc hd
  exact ⟨v,w,h1,Below.refl _ _,h2⟩

theorem zFu {f:FuncId} {xs:Array Operand} {ts:Array TypeId} (hp:p.Ok B B0) (hF:p.Free i) (hg:GdQ os a p B B0 w0 af gd) (hen:∀ args w,(callFunc f args).run Tryz.prog w=.ok (.enter f args) w)
  (hr:∀ L vs w,p.G B B0 w0 L vs w→(∀ e∈af,Region.binds .any e=true→L e.on=true)→∃ args,xs.map (lay os.toArray L vs os.toArray.size a).eval=args ∧
   Calls Tryz.prog f args w fun e w'=>∃ v',e=.returned v'∧Below w.heap.size w w'∧(p.c i).P v' w') :
  zAf os Q a p B B0 w0 i { dst:=d,op:=.call { callee:=.value (.func f),args:=xs,argTypes:=ts },type:=ty,pos:=ps,after:=af,guard:=gd }:=by
 intro hio L vs w hG hL hd hc
 refine wpOp_step hio fun K' hK=>?_
 obtain ⟨args,hx,hC⟩:=hr L vs w hG hd
 rw [if_pos (zE2 (o:={ dst:=d,op:=.call { callee:=.value (.func f),args:=xs,argTypes:=ts },type:=ty,pos:=ps,after:=af,guard:=gd }) hg hG hd)]
 have e:(execOp (lay os.toArray L vs os.toArray.size a).eval ({ dst:=d,op:=.call { callee:=.value (.func f),args:=xs,argTypes:=ts },type:=ty,pos:=ps,after:=af,guard:=gd }:Oper)).run Tryz.prog w=(.ok (.enter f args) w):=by
  have hf:(lay os.toArray L vs os.toArray.size a).eval (.func f)=.func (.func f) #[] #[]:=rfl
  generalize (lay os.toArray L vs os.toArray.size a).eval=ρ at hx hf
  simp [execOp,go_sem,hx,hf,hen]
 unfold Oper.wp
 rw [e]
 refine hC.mono ?_
 rintro e' w' ⟨v',rfl,hb,h⟩
 exact hK _ _ ⟨_,rfl,hG.plain hp hF hb h⟩

theorem zBp {x:Operand} {F:Value→World→Prop} {f:FuncId} {ts:Array TypeId} (hp:p.Ok B B0) (hF:p.Free i) (hg:GdQ os a p B B0 w0 af gd) (hen:∀ args w,(callFunc f args).run Tryz.prog w=.ok (.enter f args) w)
  (hx:SrcQ os a p B B0 w0 af x F) (hC:∀ v w,F v w→Calls Tryz.prog f #[v] w fun e w'=>∃ v',e=.returned v'∧Below w.heap.size w w'∧(p.c i).P v' w') :
  zAf os Q a p B B0 w0 i { dst:=d,op:=.call { callee:=.value (.func f),args:=#[x],argTypes:=ts },type:=ty,pos:=ps,after:=af,guard:=gd }:=
 zFu hp hF hg hen fun L vs w hG hd=>⟨#[_],by simp,hC _ _ (hx L vs w hG hd)⟩

theorem zEt {x y:Operand} {F G:Value→World→Prop} {f:FuncId} {ts:Array TypeId} (hp:p.Ok B B0) (hF:p.Free i) (hg:GdQ os a p B B0 w0 af gd) (hen:∀ args w,(callFunc f args).run Tryz.prog w=.ok (.enter f args) w)
  (hx:SrcQ os a p B B0 w0 af x F) (hy:SrcQ os a p B B0 w0 af y G) (hC:∀ v v' w,F v w→G v' w→Calls Tryz.prog f #[v,v'] w fun e w'=>∃ v',e=.returned v'∧Below w.heap.size w w'∧(p.c i).P v' w') :
  zAf os Q a p B B0 w0 i { dst:=d,op:=.call { callee:=.value (.func f),args:=#[x,y],argTypes:=ts },type:=ty,pos:=ps,after:=af,guard:=gd }:=
 zFu hp hF hg hen fun L vs w hG hd=>⟨#[_,_],by simp,hC _ _ _ (hx L vs w hG hd) (hy L vs w hG hd)⟩

theorem zAu {o:Oper} {x:Operand} {F:Value→World→Prop} (hp:p.Ok B B0) (hF:p.Free i) (hg:GdQ os a p B B0 w0 o.after o.guard) (hx:SrcQ os a p B B0 w0 o.after x F)
  (hr:∀ (ρ:Operand→Value) (w:World),(∀ c,ρ (.const c)=c)→F (ρ x) w→∃ r,(execOp ρ o).run Tryz.prog w=.ok (.value r) w∧(p.c i).P r w):zAf os Q a p B B0 w0 i o:=
 zBf hp hF hg fun L vs w hG _ _ hd=>hr _ _ (fun _=>rfl) (hx L vs w hG hd)

theorem zAs {o:Oper} {x y:Operand} {F G:Value→World→Prop} (hp:p.Ok B B0) (hF:p.Free i) (hg:GdQ os a p B B0 w0 o.after o.guard) (hx:SrcQ os a p B B0 w0 o.after x F) (hy:SrcQ os a p B B0 w0 o.after y G)
  (hr:∀ (ρ:Operand→Value) (w:World),(∀ c,ρ (.const c)=c)→F (ρ x) w→G (ρ y) w→∃ r,(execOp ρ o).run Tryz.prog w=.ok (.value r) w∧(p.c i).P r w):zAf os Q a p B B0 w0 i o:=
 zBf hp hF hg fun L vs w hG _ _ hd=>hr _ _ (fun _=>rfl) (hx L vs w hG hd) (hy L vs w hG hd)

theorem zAi {x:Operand} (hp:p.Ok B B0) (hF:p.Free i) (hg:GdQ os a p B B0 w0 af gd) (hx:SrcQ os a p B B0 w0 af x (p.c i).P):zAf os Q a p B B0 w0 i { dst:=d,op:=.move x,type:=ty,pos:=ps,after:=af,guard:=gd }:=by
 refine zBf hp hF hg fun L vs w hG _ _ hd=>⟨_,?_,hx L vs w hG hd⟩
 simp [execOp,go_sem]

theorem zCu {x:Operand} (hp:p.Ok B B0) (hF:p.Free i) (hg:GdQ os a p B B0 w0 af gd) (hx:SrcQ os a p B B0 w0 af x (p.c i).P):zAf os Q a p B B0 w0 i { dst:=d,op:=.assign x,type:=ty,pos:=ps,after:=af,guard:=gd }:=by
 refine zBf hp hF hg fun L vs w hG _ _ hd=>⟨_,?_,hx L vs w hG hd⟩
 simp [execOp,go_sem]

theorem zFp {x:Operand} {k:Nat} {F G:Fq} (hp:p.Ok B B0) (hF:p.Free i) (hg:GdQ os a p B B0 w0 af gd) (hx:SrcQ os a p B B0 w0 af x (Fq.tup2 F G).P) (hC:∀ v1 v2 w,F.P v1 w→G.P v2 w→∃ u,#[v1,v2][k]?=some u∧(p.c i).P u w):zAf os Q a p B B0 w0 i { dst:=d,op:=.extract x k,type:=ty,pos:=ps,after:=af,guard:=gd }:=by
 refine zBf hp hF hg fun L vs w hG _ _ hd=>?_
 obtain ⟨v1,v2,e,h1,h2⟩:=hx L vs w hG hd
 obtain ⟨u,hu,h⟩:=hC v1 v2 w h1 h2
 refine ⟨_,?_,h⟩
 generalize (lay os.toArray L vs os.toArray.size a).eval=ρ at e
 simp only [execOp,go_sem,e]
 simp [go_sem,hu]

theorem zHb {x:Operand} {k:Nat} {F G H:Fq} (hp:p.Ok B B0) (hF:p.Free i) (hg:GdQ os a p B B0 w0 af gd) (hx:SrcQ os a p B B0 w0 af x (Fq.tup3 F G H).P) (hC:∀ v1 v2 v3 w,F.P v1 w→G.P v2 w→H.P v3 w→∃ u,#[v1,v2,v3][k]?=some u∧(p.c i).P u w):zAf os Q a p B B0 w0 i { dst:=d,op:=.extract x k,type:=ty,pos:=ps,after:=af,guard:=gd }:=by
 refine zBf hp hF hg fun L vs w hG _ _ hd=>?_
 obtain ⟨v1,v2,v3,e,h1,h2,h3⟩:=hx L vs w hG hd
 obtain ⟨u,hu,h⟩:=hC v1 v2 v3 w h1 h2 h3
 refine ⟨_,?_,h⟩
 generalize (lay os.toArray L vs os.toArray.size a).eval=ρ at e
 simp only [execOp,go_sem,e]
 simp [go_sem,hu]

theorem zFj {o:Ob} (ho:o∈p.old) (hk:o.F1=o.F0∨zBo os 9 o.k i=true) {L:Nat→Bool} {vs:Nat→Value} {w:World} (hG:p.G B B0 w0 L vs w) (hL:L i=false) (hc:zDb os.toArray L):Bq w o.b o.m o.F0:=by
 have:=hG.old _ ho
 rcases hk with hk | hk
 ·rw [hk] at this;simpa using this
 ·rw [zFm hc hk hL] at this;exact this

theorem zA1 {o:Ob} {off:Nat} {x:Operand} (hp:p.Ok B B0) (hF:p.Free i) (hg:GdQ os a p B B0 w0 af gd) (ho:o∈p.old) (hk:o.F1=o.F0∨zBo os 9 o.k i=true) (hoff:off+2≤o.m)
  (hx:SrcQ os a p B B0 w0 af x fun u _=>u=.pointer (some ⟨o.b,off,none⟩)) (hC:∀ (us:List Value) (w:World),us.length=o.m→o.F0.P (.agg us.toArray) w→(p.c i).P (.agg #[us.getD off undef,us.getD (off+1) undef]) w) :
  zAf os Q a p B B0 w0 i { dst:=d,op:=.load 36 x,type:=ty,pos:=ps,after:=af,guard:=gd }:=by
 refine zBf hp hF hg fun L vs w hG hL hc hd=>?_
 obtain ⟨us,hl,h0,hat,ht,hP⟩:=zFj ho hk hG hL hc
 have e:=hx L vs w hG hd
 have c0:=(hat off zm).1
 have c1:=(hat (off+1) zm).1
 refine ⟨_,?_,hC us w hl hP⟩
 generalize (lay os.toArray L vs os.toArray.size a).eval=ρ at e
 generalize us.getD off undef=u0 at c0 ⊢
 generalize us.getD (off+1) undef=u1 at c1 ⊢
 simp [execOp,go_sem,e,c0,c1]

theorem zAz {us:List Value} {w:World} {z:Int} (hl:us.length=2) (h:(Fq.num z).P (.agg us.toArray) w):Num w (.agg #[us.getD 0 undef,us.getD (0+1) undef]) z:=by
 match us,hl with
 | [p,q],_=>exact h
def zeroInt:List Value:=[.bool false,.slice none 0 0]
def zeroRat:List Value:=[.bool false,.slice none 0 0,.bool false,.slice none 0 0]
theorem zCk (n:Bool) (ao:Option Addr) (k c:Nat):Tame [.bool n,.slice ao k c]:=by
 intro u hu q e
 simp at hu
 rcases hu with rfl | rfl <;> cases e
theorem zWy {n0:Nb} (hp:p.Ok B B0) (hi:n0∈p.new) (hii:n0.i=i) (hsl:n0.s=none) (hm:n0.m=2) (hk:zBo os 9 n0.k i=true) (hki:n0.k≠i) (hC:∀ v w',(p.c i).P v w') (h1:∀ o∈p.old,o.k≠i) (h2:∀ n∈p.new,n.k≠i) (hF:∀ w',n0.F0.P (.agg zeroInt.toArray) w') :
  zAf os Q a p B B0 w0 i { dst:=d,op:=.alloc 36,type:=ty,pos:=ps,after:=af,guard:=none }:=by
 subst hii
 intro hio L vs w hG hL hd hc
 exact zQx hio ⟨_,rfl,hG.alloc hp hi hsl (zFm hc hk hL) hki hC h1 h2 _ (us:=zeroInt) hm.symm zm (zCk _ _ _ _) hF⟩

def IntV (F:Fq) (v:Value) (w:World):Prop:=∃ n ao k c,v=.agg #[.bool n,.slice ao k c]∧F.P v w
theorem zCa {v:Value} {w:World} {z:Int} (h:Num w v z):IntV (Fq.num z) v w:=by
 obtain ⟨n,ao,k,c,e⟩:=h.parts
 exact ⟨n,ao,k,c,e,h⟩
theorem zQy {ops:Array Oper} {K:Act→World→Prop} {w:World} {x y:Operand} {b:Nat} {us:List Value} {n':Bool} {a':Option Addr} {k' c':Nat} (ho:ops[i]?=some { dst:=d,op:=.store 36 x y,type:=ty,pos:=ps,after:=af,guard:=none }) (hx:a.eval x=.pointer (some ⟨b,0,none⟩)) (hy:a.eval y=.agg #[.bool n',.slice a' k' c']) (hat:At w b us) (hl:us.length=2)
  (h:K (a.put d undef) (putFrom w b 0 [.bool n',.slice a' k' c'])):wpOp Tryz.prog ops Q i K a w:=
 zMn (p:=us.getD 0 undef) (q:=us.getD 1 undef) ho hx hy ⟨(hat 0 zm).1,(hat 1 zm).1,(hat 0 zm).2,(hat 1 zm).2⟩ h

theorem zXc {n0:Nb} {x y:Operand} (hp:p.Ok B B0) (hi:n0∈p.new) (hki:n0.k=i) (hsl:n0.s=none) (hm:n0.m=2) (hx:∀ L vs w,p.G B B0 w0 L vs w→(∀ e∈af,Region.binds .any e=true→L e.on=true)→L n0.i=true∧(lay os.toArray L vs os.toArray.size a).eval x=vs n0.i) (hy:SrcQ os a p B B0 w0 af y (IntV n0.F1))
  (hC:∀ v w',(p.c i).P v w') (h1:∀ o∈p.old,o.k≠i) (h2:∀ n∈p.new,n.i≠i):zAf os Q a p B B0 w0 i { dst:=none,op:=.store 36 x y,type:=ty,pos:=ps,after:=af,guard:=none }:=by
 subst hki
 intro hio L vs w hG hL hd hc
 obtain ⟨hLi,hxe⟩:=hx L vs w hG hd
 obtain ⟨n,ao,k,c,e,hP⟩:=hy L vs w hG hd
 obtain ⟨b,e1',e2,us,g1,g2,g3,g4,g5⟩:=hG.new _ hi hLi
 have e1:vs n0.i=.pointer (some ⟨b,0,none⟩):=by rw [e1'];unfold Nb.ptr;rw [hsl]
 rw [e] at hP
 exact zQy hio (hxe.trans e1) e g3 zm ⟨undef,rfl,hG.storeNew hp hi hLi (us:=[.bool n,.slice ao k c]) hm.symm (zCk _ _ _ _) hP hC h1 h2 e1' _⟩

theorem zEg {i0:Nat} (ha:zAy (os.map (·.dst))=true) (hj:(os.map (·.dst))[i0]?=some (some s)) (hs:s<a.tmps.size) (hdep:depA af i0=true):∀ L vs w,p.G B B0 w0 L vs w→(∀ e∈af,Region.binds .any e=true→L e.on=true)→L i0=true∧(lay os.toArray L vs os.toArray.size a).eval (.tmp s)=vs i0:=by
 intro L vs w hG hd
 have hLj:=zGt hdep hd
 exact ⟨hLj,zC8 ha hLj hj hs⟩

theorem zCj {o0:Ob} {x y:Operand} (hp:p.Ok B B0) (hi:o0∈p.old) (hki:o0.k=i) (hm:o0.m=2) (hx:SrcQ os a p B B0 w0 af x fun u _=>u=.pointer (some ⟨o0.b,0,none⟩)) (hy:SrcQ os a p B B0 w0 af y (IntV o0.F1))
  (hC:∀ v w',(p.c i).P v w') (h2:∀ n∈p.new,n.i≠i∧n.k≠i):zAf os Q a p B B0 w0 i { dst:=none,op:=.store 36 x y,type:=ty,pos:=ps,after:=af,guard:=none }:=by
 subst hki
 intro hio L vs w hG hL hd hc
 obtain ⟨n,ao,k,c,e,hP⟩:=hy L vs w hG hd
 obtain ⟨us,g1,g2,g3,g4,g5⟩:=hG.old _ hi
 rw [e] at hP
 exact zQy hio (hx L vs w hG hd) e g3 zm ⟨undef,rfl,hG.storeOld hp hi (us:=[.bool n,.slice ao k c]) hm.symm (zCk _ _ _ _) hP hC h2 _⟩

theorem q_addr {T k b off off':Nat} {x:Operand} (hp:p.Ok B B0) (hF:p.Free i) (hg:GdQ os a p B B0 w0 af gd) (hx:SrcQ os a p B B0 w0 af x fun u _=>u=.pointer (some ⟨b,off,none⟩))
  (hr:∀ (ρ:Operand→Value) (w:World),ρ x=.pointer (some ⟨b,off,none⟩)→(execOp ρ { dst:=d,op:=.fieldAddr T x k,type:=ty,pos:=ps,after:=af,guard:=gd }).run Tryz.prog w=.ok (.value (.pointer (some ⟨b,off',none⟩))) w) (hC:∀ w,(p.c i).P (.pointer (some ⟨b,off',none⟩)) w) :
  zAf os Q a p B B0 w0 i { dst:=d,op:=.fieldAddr T x k,type:=ty,pos:=ps,after:=af,guard:=gd }:=
 zAu hp hF hg hx fun ρ w _ h=>⟨_,hr ρ w h,hC w⟩

end

def freeB (len:Nat) (ks:List (Option (Nat × Fq))) (new:List Nb) (i:Nat):Bool:=!(zDw ks len).contains i && new.all (fun n=>n.i != i && n.k != i)

theorem zCh {C:List Fq} {bs:List (Nat × Nat × Fq)} {ks:List (Option (Nat × Fq))} {new:List Nb} {len i:Nat} (h:(zDw ks len).contains i=false):∀ o∈(plq C bs ks new len).old,o.k≠i:=fun o ho e=>by
 have h1:=zH8 ho
 rw [e] at h1
 have h2:=List.contains_iff_mem.2 h1
 rw [h] at h2
 cases h2

theorem zMh {C:List Fq} {bs:List (Nat × Nat × Fq)} {ks:List (Option (Nat × Fq))} {new:List Nb} {len i:Nat} (h:new.all (fun n=>n.k != i)=true):∀ n∈(plq C bs ks new len).new,n.k≠i:=fun n hn e=>by
 have:=List.all_eq_true.1 h n hn
 simp [e] at this

theorem zMg {C:List Fq} {bs:List (Nat × Nat × Fq)} {ks:List (Option (Nat × Fq))} {new:List Nb} {len i:Nat} (h:new.all (fun n=>n.i != i)=true):∀ n∈(plq C bs ks new len).new,n.i≠i:=fun n hn e=>by
 have:=List.all_eq_true.1 h n hn
 simp [e] at this

theorem zBj {C:List Fq} {bs:List (Nat × Nat × Fq)} {ks:List (Option (Nat × Fq))} {new:List Nb} {len i:Nat} (h:new.all (fun n=>n.i != i && n.k != i)=true):∀ n∈(plq C bs ks new len).new,n.i≠i∧n.k≠i:=fun n hn=>by
 have:=List.all_eq_true.1 h n hn
 simpa using this

theorem zBn {C:List Fq} {bs:List (Nat × Nat × Fq)} {ks:List (Option (Nat × Fq))} {new:List Nb} {len i:Nat} (h:freeB len ks new i=true):(plq C bs ks new len).Free i:=by
 simp only [freeB,Bool.and_eq_true,Bool.not_eq_true'] at h
 exact ⟨zCh h.1,zBj h.2⟩

theorem Fr.box {w0 W:World} {bs:List (Nat × Nat × Fq)} (h:Fr w0 bs W) (k:Nat) {b m:Nat} {F:Fq} (hk:bs[k]?=some (b,m,F)):Bq W b m F:=(h.boxes _ (List.mem_of_getElem? hk)).2

theorem zCg {w:World} {b:Nat} {z:Int} (h:Bq w b 2 (Fq.num z)):∃ p q,w.cell? ⟨b,0,none⟩=some p∧w.cell? ⟨b,1,none⟩=some q∧Num w (.agg #[p,q]) z:=by
 obtain ⟨us,hl,_,hat,_,hP⟩:=h
 match us,hl,hat with
 | [p,q],_,hat=>exact ⟨p,q,(hat 0 (by simp)).1,(hat 1 (by simp)).1,hP⟩

theorem Pair.zero (w:World):Pair w (.agg zeroRat.toArray) 0 0:=⟨_,_,_,_,rfl,Num.zero w,Num.zero w⟩

theorem zEb (w:World) {m:Nat} {F:Fq} {us:List Value} (t:TypeId) (hl:us.length=m) (h0:0<m) (ht:Tame us) (hF:F.P (.agg us.toArray) w):∃ w' b,w'=w.alloc (.cells us.toArray t)∧b=w.heap.size∧w'.heap.size=w.heap.size+1∧Fr w [(b,m,F)] w':=
 ⟨_,_,rfl,rfl,World.size_alloc _ _,(Fr.start w).push t hl h0 ht hF⟩
theorem zDm {w W:World} {bs:List (Nat × Nat × Fq)} (E:Fr w bs W) {k:Nat} (hk:W.heap.size=k) {m:Nat} {F:Fq} {us:List Value} (t:TypeId) (hl:us.length=m) (h0:0<m) (ht:Tame us) (hF:F.P (.agg us.toArray) W):∃ w' b,w'=W.alloc (.cells us.toArray t)∧b=k∧w'.heap.size=k+1∧Fr w ((b,m,F)::bs) w':=
 ⟨_,_,rfl,rfl,by rw [World.size_alloc,hk],by rw [← hk];exact E.push t hl h0 ht hF⟩

section
variable {os : List Oper} {Q : Exit → Act → World → Prop} {a : Act} {p : Pq} {B B0 : Nat} {w0 : World}
variable {i s : Nat} {d : Option Tmp} {ty : TypeId} {ps : String} {af : Array Edge} {gd : Option (Nat × Bool)}
theorem fo {C:List Fq} {bs:List (Nat × Nat × Fq)} {ks:List (Option (Nat × Fq))} {new:List Nb} {len i:Nat} (h:freeB len ks new i=true:=by exact rfl):(plq C bs ks new len).Free i:=zBn h
theorem tv:True:=⟨⟩
theorem qa (b off off':Nat) {T k:Nat} {x:Operand} (hp:p.Ok B B0) (hx:SrcQ os a p B B0 w0 af x fun u _=>u=.pointer (some ⟨b,off,none⟩)) (hF:p.Free i:=by exact zBn rfl)
  (hr:∀ (ρ:Operand→Value) (w:World),ρ x=.pointer (some ⟨b,off,none⟩)→(execOp ρ { dst:=d,op:=.fieldAddr T x k,type:=ty,pos:=ps,after:=af,guard:=none }).run Tryz.prog w=.ok (.value (.pointer (some ⟨b,off',none⟩))) w:=by intro ρ w h;simp [execOp,go_sem,h])
  (hC:∀ w,(p.c i).P (.pointer (some ⟨b,off',none⟩)) w:=by exact fun _=>rfl):zAf os Q a p B B0 w0 i { dst:=d,op:=.fieldAddr T x k,type:=ty,pos:=ps,after:=af,guard:=none }:=q_addr hp hF trivial hx hr hC
theorem lI (off:Nat) {o:Ob} {x:Operand} (hp:p.Ok B B0) (ho:o∈p.old) (hx:SrcQ os a p B B0 w0 af x fun u _=>u=.pointer (some ⟨o.b,off,none⟩)) (hC:∀ (us:List Value) (w:World),us.length=o.m→o.F0.P (.agg us.toArray) w→(p.c i).P (.agg #[us.getD off undef,us.getD (off+1) undef]) w:=by exact fun us w hl h=>zAz hl h)
  (hk:o.F1=o.F0∨zBo os 9 o.k i=true:=by exact .inl rfl) (hoff:off+2≤o.m:=by exact Nat.le_of_ble_eq_true rfl) (hF:p.Free i:=by exact zBn rfl):zAf os Q a p B B0 w0 i { dst:=d,op:=.load 36 x,type:=ty,pos:=ps,after:=af,guard:=none }:=zA1 hp hF trivial ho hk hoff hx hC
theorem sN (j:Nat) {n0:Nb} {s':Nat} (hp:p.Ok B B0) (hi:n0∈p.new) (hki:n0.k=i:=by exact rfl) (hsl:n0.s=none:=by exact rfl) (hm:n0.m=2:=by exact rfl) (ha:zAy (os.map (·.dst))=true:=by exact rfl) (hj0:(os.map (·.dst))[n0.i]?=some (some s'):=by exact rfl) (hs0:s'<a.tmps.size:=by simp) (hd0:depA af n0.i=true:=by exact rfl) (hj:(os.map (·.dst))[j]?=some (some s):=by exact rfl) (hs:s<a.tmps.size:=by simp) (hdep:depA af j=true:=by exact rfl) (hV:∀ v w,(p.c j).P v w→IntV n0.F1 v w:=by exact fun v w h=>zCa h)
  (hC:∀ v w',(p.c i).P v w':=by exact fun _ _=>trivial) (h1:∀ o∈p.old,o.k≠i:=by exact zCh rfl) (h2:∀ n∈p.new,n.i≠i:=by exact zMg rfl):zAf os Q a p B B0 w0 i { dst:=none,op:=.store 36 (.tmp s') (.tmp s),type:=ty,pos:=ps,after:=af,guard:=none }:=zXc hp hi hki hsl hm (zEg ha hj0 hs0 hd0) (zA9 j ha hj hs hdep hV) hC h1 h2
theorem aN {n0:Nb} (hp:p.Ok B B0) (hi:n0∈p.new) (hii:n0.i=i:=by exact rfl) (hsl:n0.s=none:=by exact rfl) (hm:n0.m=2:=by exact rfl) (hk:zBo os 9 n0.k i=true:=by exact rfl) (hki:n0.k≠i:=by exact Nat.ne_of_beq_eq_false rfl) (hC:∀ v w',(p.c i).P v w':=by exact fun _ _=>trivial) (h1:∀ o∈p.old,o.k≠i:=by exact zCh rfl) (h2:∀ n∈p.new,n.k≠i:=by exact zMh rfl) (hF:∀ w',n0.F0.P (.agg zeroInt.toArray) w':=by exact fun w=>Num.zero w) :
  zAf os Q a p B B0 w0 i { dst:=d,op:=.alloc 36,type:=ty,pos:=ps,after:=af,guard:=none }:=zWy hp hi hii hsl hm hk hki hC h1 h2 hF
theorem sP (j:Nat) {o0:Ob} {x:Operand} (hp:p.Ok B B0) (hi:o0∈p.old) (hx:SrcQ os a p B B0 w0 af x fun u _=>u=.pointer (some ⟨o0.b,0,none⟩)) (hki:o0.k=i:=by exact rfl) (hm:o0.m=2:=by exact rfl) (ha:zAy (os.map (·.dst))=true:=by exact rfl) (hj:(os.map (·.dst))[j]?=some (some s):=by exact rfl) (hs:s<a.tmps.size:=by simp) (hdep:depA af j=true:=by exact rfl) (hV:∀ v w,(p.c j).P v w→IntV o0.F1 v w:=by exact fun v w h=>zCa h)
  (hC:∀ v w',(p.c i).P v w':=by exact fun _ _=>trivial) (h2:∀ n∈p.new,n.i≠i∧n.k≠i:=by exact zBj rfl):zAf os Q a p B B0 w0 i { dst:=none,op:=.store 36 x (.tmp s),type:=ty,pos:=ps,after:=af,guard:=none }:=zCj hp hi hki hm hx (zA9 j ha hj hs hdep hV) hC h2
theorem wXa (F:Fq) {x:Operand} {f:FuncId} {ts:Array TypeId} (hp:p.Ok B B0) (hen:∀ args w,(callFunc f args).run Tryz.prog w=.ok (.enter f args) w)
  (hx:SrcQ os a p B B0 w0 af x F.P) (hC:∀ v w,F.P v w→Calls Tryz.prog f #[v] w fun e w'=>∃ v',e=.returned v'∧Below w.heap.size w w'∧(p.c i).P v' w') (hF:p.Free i:=by exact zBn rfl) :
  zAf os Q a p B B0 w0 i { dst:=d,op:=.call { callee:=.value (.func f),args:=#[x],argTypes:=ts },type:=ty,pos:=ps,after:=af,guard:=none }:=zBp hp hF trivial hen hx hC
theorem wXb (F G:Fq) {x y:Operand} {f:FuncId} {ts:Array TypeId} (hp:p.Ok B B0) (hen:∀ args w,(callFunc f args).run Tryz.prog w=.ok (.enter f args) w)
  (hx:SrcQ os a p B B0 w0 af x F.P) (hy:SrcQ os a p B B0 w0 af y G.P) (hC:∀ v v' w,F.P v w→G.P v' w→Calls Tryz.prog f #[v,v'] w fun e w'=>∃ v',e=.returned v'∧Below w.heap.size w w'∧(p.c i).P v' w') (hF:p.Free i:=by exact zBn rfl) :
  zAf os Q a p B B0 w0 i { dst:=d,op:=.call { callee:=.value (.func f),args:=#[x,y],argTypes:=ts },type:=ty,pos:=ps,after:=af,guard:=none }:=zEt hp hF trivial hen hx hy hC
theorem rg {id:Nat} {dr:Bool} (C:List Fq) {bs:List (Nat × Nat × Fq)} (ks:List (Option (Nat × Fq))) (new:List Nb) {W:World} (E:Fr w0 bs W)
  (hs:(plq C bs ks new os.length).Ok w0.heap.size W.heap.size→AllOps (zAf os Q a (plq C bs ks new os.length) w0.heap.size W.heap.size w0) os 0)
  (hf:∀ L vs W' (nb:Nat→Nat),(∀ j,j<os.length→L j=true)→(∀ j,j<os.length→((C[j]?).getD Fq.any).P (vs j) W')→(∀ n∈new,vs n.i=n.ptr (nb n.i))→Fr w0 (new.map (fun n=>(nb n.i,n.m,n.F1))++zAj bs ks) W' →
   Q .normal (lay os.toArray L vs os.length a) W') (hok:okB os.length bs.length ks new=true:=by exact rfl) (hm:Tryz.prog.follows .mixedOrders=true:=by kernel_rfl) (ha:zAy (os.map (·.dst))=true:=by exact rfl) (hb:zDr os 0=true:=by exact rfl):(Code.region id os.toArray dr).wp Tryz.prog Q a W:=zRx E hok hm ha hb hs hf
end
theorem LM:(∀ (f:Nb→Nat × Nat × Fq) (x:Nb) (l:List Nb),(x::l).map f=f x::l.map f)∧(∀ f:Nb→Nat × Nat × Fq,[].map f=[])∧(∀ l:List (Nat × Nat × Fq),[] ++ l=l)∧(∀ (x:Nat × Nat × Fq) (l m:List (Nat × Nat × Fq)),x::l++m=x::(l++m)):=⟨fun _ _ _=>rfl,fun _=>rfl,fun _=>rfl,fun _ _ _=>rfl⟩
theorem fN {w W:World} {bs:List (Nat × Nat × Fq)} (E:Fr w bs W) {k:Nat} (hk:W.heap.size=k) (t:TypeId) {n:Bool} {ao:Option Addr} {l c:Nat} {z:Int} (h:Num w (.agg #[.bool n,.slice ao l c]) z):∃ w' b,w'=W.alloc (.cells ([.bool n,.slice ao l c]:List Value).toArray t)∧b=k∧w'.heap.size=k+1∧Fr w ((b,([.bool n,.slice ao l c]:List Value).length,Fq.num z)::bs) w':=zDm E hk (F:=Fq.num z) (us:=[.bool n,.slice ao l c]) t rfl (by simp) (zCk _ _ _ _) (h.mono E.below)
theorem fZ {w W:World} {bs:List (Nat × Nat × Fq)} (E:Fr w bs W) {k:Nat} (hk:W.heap.size=k) (t:TypeId):∃ w' b,w'=W.alloc (.cells ([.bool false,.slice none 0 0]:List Value).toArray t)∧b=k∧w'.heap.size=k+1∧Fr w ((b,([.bool false,.slice none 0 0]:List Value).length,Fq.num 0)::bs) w':=zDm E hk (F:=Fq.num 0) (us:=[.bool false,.slice none 0 0]) t rfl (by simp) (zCk _ _ _ _) (Num.zero _)
abbrev ip (b k:Nat):Fq:=Fq.is (.pointer (some ⟨b,k,none⟩))
abbrev yT:Fq:=Fq.is (.bool true)
abbrev yF:Fq:=Fq.is (.bool false)
abbrev N1:List (Option (Nat × Fq)):=[none]
abbrev N2:List (Option (Nat × Fq)):=none::N1
abbrev N3:List (Option (Nat × Fq)):=none::N2
abbrev N4:List (Option (Nat × Fq)):=none::N3
abbrev N5:List (Option (Nat × Fq)):=none::N4
abbrev N6:List (Option (Nat × Fq)):=none::N5
abbrev N7:List (Option (Nat × Fq)):=none::N6
abbrev N8:List (Option (Nat × Fq)):=none::N7
abbrev N9:List (Option (Nat × Fq)):=none::N8
abbrev N10:List (Option (Nat × Fq)):=none::N9
abbrev N11:List (Option (Nat × Fq)):=none::N10
abbrev N12:List (Option (Nat × Fq)):=none::N11
abbrev N13:List (Option (Nat × Fq)):=none::N12
abbrev N14:List (Option (Nat × Fq)):=none::N13
abbrev N15:List (Option (Nat × Fq)):=none::N14
abbrev N16:List (Option (Nat × Fq)):=none::N15
abbrev N17:List (Option (Nat × Fq)):=none::N16
abbrev N18:List (Option (Nat × Fq)):=none::N17
abbrev N19:List (Option (Nat × Fq)):=none::N18
abbrev N20:List (Option (Nat × Fq)):=none::N19
abbrev N21:List (Option (Nat × Fq)):=none::N20
abbrev N22:List (Option (Nat × Fq)):=none::N21
abbrev N23:List (Option (Nat × Fq)):=none::N22
abbrev N24:List (Option (Nat × Fq)):=none::N23
abbrev N25:List (Option (Nat × Fq)):=none::N24
abbrev N26:List (Option (Nat × Fq)):=none::N25
abbrev N27:List (Option (Nat × Fq)):=none::N26
abbrev N28:List (Option (Nat × Fq)):=none::N27
abbrev N29:List (Option (Nat × Fq)):=none::N28
abbrev N30:List (Option (Nat × Fq)):=none::N29

end Go.Proofs.YtjadciofpgjofaaGreatDoor
namespace Go.Proofs.YtjadciofpgjofaaGreatDoor
open Go

end Go.Proofs.YtjadciofpgjofaaGreatDoor
