/- Rc, Rh, Rk, Yc, Ye, Yf, Pa, Yg, Yh, Yi, Yj, Yr, Ma, Nt, Mb, Mc, Rm, Me, Mg. -/
import Derived.Test.YtjadciofpgjofaaGreatDoorDf2
import Derived.BigRegion
import Derived.Laws.RangeAny
import Derived.Lib.OthersKept
import Derived.Laws.RangeString
import Derived.BigQuiet
import Derived.Laws.StandIn
import Derived.Laws.EntriesVeiled
set_option linter.unusedSimpArgs false
set_option linter.unusedVariables false
set_option maxRecDepth 100000
set_option maxHeartbeats 8000000
namespace Go.Proofs.YtjadciofpgjofaaGreatDoor
open Go Go.RowKit

theorem rNeg_any (w:World) (na:Bool) (ax:Option Addr) (n cx:Nat) (xs:List Int) (hX:Sl w ax n cx xs) (hb1:n≤4000000) :
  Calls Tryz.prog 103 #[.agg #[.bool na,.slice ax n cx]] w (zBc w (-sgn na (val xs))):=by
 go_enter Tryz.func103,Tryz.ntmps103
 obtain ⟨w0,hw0,hA,hC,hbl,HS⟩:=zI2 w (.bool na) (.slice ax n cx) 36
 have hX0:=hX.mono hbl
 obtain ⟨ca0,ca1,_,_⟩:=hA
 go_wp2_with fail
 rw [← hw0]
 clear hw0
 refine (zEe _ _ _ _ _ _ hX0 zm).mono ?_
 rintro e w3 ⟨v,rfl,⟨ng,ao,nn,cc,rs,rfl,hrs,hrc,hrn,hrz⟩,hb3⟩
 obtain ⟨e0,e1,e2,e3⟩:=hC.mono hb3 hC.lt
 have hb4:Below w.heap.size w w3:=hbl.trans (hb3.mono hbl.size)
 have hz:-sgn na (val xs)=sgn ng (val rs):=by rw [← hrz,sgn_not]
 have HZ:=hidd hz
 clear hrz hz
 go_wp2
 refine bodyPost_ret (v:=.agg #[.bool ng,.slice ao nn cc]) ?_ rfl ?_
 ·simp [results,Tryz.results103,go_sem,e0,e1]
 ·exact zB7 ⟨e0,e1,e2,e3⟩ hrs hrc hrn HZ.out hb4 zm

theorem rAbs_any (w:World) (na:Bool) (ax:Option Addr) (n cx:Nat) (xs:List Int) (hX:Sl w ax n cx xs) (hb1:n≤4000000) :
  Calls Tryz.prog 131 #[.agg #[.bool na,.slice ax n cx]] w (zBc w (val xs)):=by
 go_enter Tryz.func131,Tryz.ntmps131
 obtain ⟨w0,hw0,hA,hC,hbl,HS⟩:=zI2 w (.bool na) (.slice ax n cx) 36
 have hX0:=hX.mono hbl
 obtain ⟨ca0,ca1,_,_⟩:=hA
 go_wp2_with fail
 rw [← hw0]
 clear hw0
 refine (zEe _ _ _ _ _ _ hX0 zm).mono ?_
 rintro e w3 ⟨v,rfl,⟨ng,ao,nn,cc,rs,rfl,hrs,hrc,hrn,hrz⟩,hb3⟩
 obtain ⟨e0,e1,e2,e3⟩:=hC.mono hb3 hC.lt
 have hb4:Below w.heap.size w w3:=hbl.trans (hb3.mono hbl.size)
 have hz:val xs=sgn ng (val rs):=by rw [← hrz];rfl
 have HZ:=hidd hz
 clear hrz hz
 go_wp2
 refine bodyPost_ret (v:=.agg #[.bool ng,.slice ao nn cc]) ?_ rfl ?_
 ·simp [results,Tryz.results131,go_sem,e0,e1]
 ·exact zB7 ⟨e0,e1,e2,e3⟩ hrs hrc hrn HZ.out hb4 zm

theorem RNegV {w:World} {v:Value} {z:Int} (h:Num w v z):Calls Tryz.prog 103 #[v] w (zBc w (-z)):=by
 obtain ⟨neg,ao,n,c,xs,rfl,hs,hn,rfl,_⟩:=h
 exact rNeg_any _ _ _ _ _ _ hs zm

theorem sgn_absR (b:Bool) {v:Int} (h:0≤v):((sgn b v).natAbs:Int)=v:=by cases b <;> simp [sgn] <;> omega

theorem zB4 {w:World} {v:Value} {z:Int} (h:Num w v z):Calls Tryz.prog 131 #[v] w (zBc w (z.natAbs:Int)):=by
 obtain ⟨neg,ao,n,c,xs,rfl,hs,hn,rfl,_⟩:=h
 rw [sgn_absR _ (zAm hs.digs)]
 exact rAbs_any _ _ _ _ _ _ hs zm

theorem Num.sign {w:World} {n:Bool} {ao:Option Addr} {k c:Nat} {z:Int} (h:Num w (.agg #[.bool n,.slice ao k c]) z):∃ xs,Sl w ao k c xs∧Canon xs∧k≤900000∧z=sgn n (val xs)∧0≤val xs∧(k=0 ↔ z=0)∧(n=true→z<0)∧(n=false→0≤z):=by
 obtain ⟨neg,ao',k',c',xs,hv,hs,hn,hz,hc,hnn⟩:=h
 obtain ⟨rfl,rfl,rfl,rfl⟩:n=neg∧ao=ao'∧k=k'∧c=c':=by
  simp at hv;exact ⟨hv.1,hv.2.1,hv.2.2.1,hv.2.2.2⟩
 have h0:=zAm hs.digs
 have h1:=hc.zero
 rw [hs.len] at h1
 refine ⟨xs,hs,hc,hn,hz,h0,?_,?_,?_⟩
 ·rw [h1,hz];cases n <;> simp [sgn]
 ·rintro rfl
  have h2:val xs≠0:=fun h=>hnn rfl (h1.2 h)
  rw [hz];simp [sgn];omega
 ·rintro rfl
  rw [hz];simp [sgn];exact h0

theorem RSignV {w:World} {v:Value} {z:Int} (h:Num w v z):Calls Tryz.prog 87 #[v] w fun e w'=>e=.returned (.int .i64 (cmpI z 0))∧Below w.heap.size w w':=by
 obtain ⟨n,ao,k,c,rfl⟩:=h.parts
 obtain ⟨xs,hs,hc,hk,hz,h0,hkz,hneg,hpos⟩:=h.sign
 by_cases hk0:k=0
 ·have HV:Hid (cmpI z 0=0):=by
   have:=hkz.1 hk0
   show cmpI z 0=0
   rw [this];rfl
  subst hk0
  clear hkz hneg hpos hz h
  go_enter Tryz.func87,Tryz.ntmps87
  go_wp2
  go_ret
  exact ⟨by rw [HV.out];rfl,zAh _ _⟩
 ·have hk1:((k:Int) == 0)=false:=by simp;omega
  have hz0:z≠0:=fun h=>hk0 (hkz.2 h)
  cases n
  ·have HV:Hid (cmpI z 0=1):=by
    have:=hpos rfl
    show cmpI z 0=1
    unfold cmpI;rw [if_neg zm,if_neg hz0]
   clear hkz hneg hpos hz h hz0 hk0
   go_enter Tryz.func87,Tryz.ntmps87
   go_wp2
   go_ret
   exact ⟨by rw [HV.out];rfl,zAh _ _⟩
  ·have HV:Hid (cmpI z 0=-1):=by
    have:=hneg rfl
    show cmpI z 0=-1
    unfold cmpI;rw [if_pos this]
   clear hkz hneg hpos hz h hz0 hk0
   go_enter Tryz.func87,Tryz.ntmps87
   go_wp2
   go_ret
   exact ⟨by rw [HV.out];rfl,zAh _ _⟩

theorem RCmpV {w:World} {v v':Value} {z z':Int} (h:Num w v z) (h':Num w v' z'):Calls Tryz.prog 125 #[v,v'] w fun e w'=>e=.returned (.int .i64 (cmpI z z'))∧Below w.heap.size w w':=by
 obtain ⟨n,ao,k,c,rfl⟩:=h.parts
 obtain ⟨n',ao',k',c',rfl⟩:=h'.parts
 obtain ⟨xs,hs,hc,hk,hz,h0,hkz,hneg,hpos⟩:=h.sign
 obtain ⟨ys,hs',hc',hk',hz',h0',hkz',hneg',hpos'⟩:=h'.sign
 obtain ⟨w0,hw0,hbl,hsz⟩:∃ w0,w0=(w.alloc (.cells #[.bool n,.slice ao k c] 36)).alloc (.cells #[.bool n',.slice ao' k' c'] 36)∧Below w.heap.size w w0∧w0.heap.size=w.heap.size+2:=
  ⟨_,rfl,(zAh _ _).trans ((zAh _ _).mono (by simp)),by simp⟩
 have hX:=hs.mono hbl
 have hY:=hs'.mono hbl
 cases n <;> cases n'
 ·have HV:Hid (cmpI (val xs) (val ys)=cmpI z z'):=by
   show _=_
   rw [hz,hz'];rfl
  clear hkz hneg hpos hz h hkz' hneg' hpos' hz' h'
  go_enter Tryz.func125,Tryz.ntmps125
  go_wp2_with fail
  rw [← hw0]
  clear hw0
  refine (zKo _ _ _ _ _ _ _ _ _ hX hY hc hc' zm zm).mono ?_
  rintro e w2 ⟨rfl,hd⟩
  go_wp2
  go_ret
  exact ⟨by rw [HV.out];rfl,hbl.trans (hd.below _)⟩
 ·have HV:Hid (cmpI z z'=1):=by
   have h1:=hpos rfl
   have h2:=hneg' rfl
   show _=_
   unfold cmpI;rw [if_neg zm,if_neg zm]
  clear hkz hneg hpos hz h hkz' hneg' hpos' hz' h'
  go_enter Tryz.func125,Tryz.ntmps125
  go_wp2
  rw [← hw0]
  go_ret
  exact ⟨by rw [HV.out];rfl,hbl⟩
 ·have HV:Hid (cmpI z z'=-1):=by
   have h1:=hneg rfl
   have h2:=hpos' rfl
   show _=_
   unfold cmpI;rw [if_pos zm]
  clear hkz hneg hpos hz h hkz' hneg' hpos' hz' h'
  go_enter Tryz.func125,Tryz.ntmps125
  go_wp2
  rw [← hw0]
  go_ret
  exact ⟨by rw [HV.out];rfl,hbl⟩
 ·have HV:Hid (cmpI (val ys) (val xs)=cmpI z z'):=by
   show _=_
   rw [hz,hz']
   simp only [sgn,if_true]
   unfold cmpI
   split <;> split <;> (try split) <;> omega
  clear hkz hneg hpos hz h hkz' hneg' hpos' hz' h'
  go_enter Tryz.func125,Tryz.ntmps125
  go_wp2_with fail
  rw [← hw0]
  clear hw0
  refine (zKo _ _ _ _ _ _ _ _ _ hY hX hc' hc zm zm).mono ?_
  rintro e w2 ⟨rfl,hd⟩
  go_wp2
  go_ret
  exact ⟨by rw [HV.out];rfl,hbl.trans (hd.below _)⟩

end Go.Proofs.YtjadciofpgjofaaGreatDoor

namespace Go.Proofs.YtjadciofpgjofaaGreatDoor
open Go Go.RowKit

theorem zFx (w:World) (ax:Option Addr) (n c:Nat) (xs:List Int) (hX:Sl w ax n c xs) (_:n≤4000000) (k:Nat) (_:k≤9000000) (x:Int) (hx:xs.getD k 0=x) :
  Calls Tryz.prog 151 #[.slice ax n c,.int .i64 k] w fun e w'=>e=.returned (.int .u64 x)∧w=w':=by
 have hl:=hX.len
 by_cases h:k<n
 ·obtain ⟨b,off,rfl,hbl,x',hxc,hx0,hx1,HX⟩:=hX.cells.at (k:=k) zm
  rw [HX.out] at hx
  subst hx
  have h1:decide ((k:Int) ≥ (n:Int))=false:=by simp;omega
  have h2:¬ ((k:Int)<0):=zm
  clear hl
  go_enter Tryz.func151,Tryz.ntmps151
  go_wp2
  go_ret
  exact ⟨rfl,rfl⟩
 ·have h0:x=0:=by rw [← hx];exact zEc zm
  subst h0
  have h1:decide ((k:Int) ≥ (n:Int))=true:=by simp;omega
  clear hl hx hX
  go_enter Tryz.func151,Tryz.ntmps151
  go_wp2
  go_ret
  exact ⟨rfl,rfl⟩

theorem zX3 (w:World) (ax:Option Addr) (n c:Nat) (k:Int) (_:k<0) (_:-9000000≤k) :
  Calls Tryz.prog 151 #[.slice ax n c,.int .i64 k] w fun e w'=>e=.returned (.int .u64 0)∧w=w':=by
 go_enter Tryz.func151,Tryz.ntmps151
 go_wp2
 go_ret
 exact ⟨rfl,rfl⟩

def Ow (W:World) (B:Nat) (v:Value) (zs:List Int):Prop:=W.ownsRow B 104 1 v zs.length (zs.map (Value.int .u32))∧Digs zs

theorem Ow.shape {W:World} {B:Nat} {v:Value} {zs:List Int} (h:Ow W B v zs):∃ ao cap,v=.slice ao zs.length cap:=by
 rcases h.1.2 with ⟨rfl,h0⟩ | ⟨g,cap,cur,rfl,_⟩
 ·exact ⟨none,0,by rw [h0]⟩
 ·exact ⟨_,_,rfl⟩

theorem Ow.start (w:World):Ow (w.alloc (.cells #[] 104)) w.heap.size (.slice (some ⟨w.heap.size,0,none⟩) 0 0) []:=
 ⟨⟨rfl,.inr ⟨w.heap.size,0,#[],rfl,Nat.le_refl _,heap_alloc_new _ _,Nat.le_refl _,Nat.zero_le _,rfl,rfl⟩⟩,fun _ h=>by simp at h⟩

theorem Ow.sl {W:World} {B:Nat} {v:Value} {zs:List Int} (h:Ow W B v zs):∃ ao c,v=.slice ao zs.length c∧Sl W ao zs.length c zs:=own_sl h.1 h.2

theorem Ow.step {w wr w1:World} {v v':Value} {zs:List Int} {d:Int} {o:Obj} (h:Ow wr w.heap.size v zs) (hnx:Below w.heap.size w wr) (hd0:0≤d) (hd1:d<4294967296)
  (hown':w1.ownsRow w.heap.size 104 1 v' (zs.length+1) (zs.map (Value.int .u32) ++ [.int .u32 d])) (hgrow:(wr.alloc o).grownBy w1 v.ownBlock) :
  Ow w1 w.heap.size v' (zs ++ [d])∧Below w.heap.size w w1:=by
 refine ⟨⟨by simpa using hown',fun y hy=>?_⟩,?_⟩
 ·rcases List.mem_append.1 hy with h1 | h1
  ·exact h.2 y h1
  ·simp at h1;subst h1;exact ⟨hd0,hd1⟩
 ·have hs:=hnx.size
  exact (hnx.alloc hs o).grown hgrow (by simp;omega) (fun j hj=>(World.ownsRow.lt h.1 j hj).1)

theorem zKv (zs:List Int) (d:Int):val (zs ++ [d])=val zs+pw zs.length*d:=by
 rw [zNs]
 show _+_*(d+4294967296*0)=_
 rw [Int.mul_zero,Int.add_zero]

theorem plus_step {k:Nat} {zs xs ys:List Int} {q x y:Int} (hk:zs.length=k) (h:val zs+pw k*q=val (xs.take k)+val (ys.take k)) (hx:xs.getD k 0=x) (hy:ys.getD k 0=y) :
  val (zs ++ [(q+(x+y)) % 4294967296])+pw (k+1)*((q+(x+y))/4294967296)=val (xs.take (k+1))+val (ys.take (k+1)):=by
 rw [zKv,hk,zAq,zAq,hx,hy]
 have h1:=zDz k (q+(x+y))
 rw [Int.mul_add,Int.mul_add] at h1
 omega

theorem plus_any (w:World) (ax ay:Option Addr) (n m cx cy:Nat) (xs ys:List Int) (hX:Sl w ax n cx xs) (hY:Sl w ay m cy ys) (hb1:n≤2000000) (hb2:m≤2000000) :
  Calls Tryz.prog 132 #[.slice ax n cx,.slice ay m cy] w fun e w'=>∃ ao c l zs,e=.returned (.slice ao l c)∧Sl w' ao l c zs∧l≤max n m+1∧val zs=val xs+val ys∧Below w.heap.size w w':=by
 obtain ⟨i0,hi,hz0,hz1,hz2⟩:=info_parts zH2
 obtain ⟨L,hL⟩:∃ L:Nat,L=max n m:=⟨_,rfl⟩
 have hL2:(if n<m then (m:Int) else (n:Int))=(L:Int):=by split <;> omega
 have hLb:L≤2000000:=zm
 have HL:=hidd hL
 clear hL
 go_enter Tryz.func132,Tryz.ntmps132
 go_wp2
 go_loopw [5,6,7] (fun vo vc vi wr=>∃ (k:Nat) (q:Int) (zs:List Int),k≤L∧vi=.int .i64 k∧vc=.int .u64 q∧0≤q∧q≤1∧Ow wr w.heap.size vo zs∧zs.length=k∧val zs+pw k*q=val (xs.take k)+val (ys.take k)∧Below w.heap.size w wr) (fun _ _ vi _=>L-(intOf vi).toNat)
 case atStart=>exact ⟨0,0,[],Nat.zero_le _,rfl,rfl,zm,zm,Ow.start w,rfl,by simp [val],zAh _ _⟩
 case round=>
  obtain ⟨k,q,zs,hk,rfl,rfl,hq0,hq1,hO,hzl,hv,hB⟩:=hrel
  subst hzl
  have HV:=hidd hv
  clear hv
  obtain ⟨ao,cap,rfl⟩:=hO.shape
  have HO:=hO.1
  have hsz:=hB.size
  by_cases hkL:zs.length<L
  ·obtain ⟨x,hx⟩:∃ x,xs.getD zs.length 0=x:=⟨_,rfl⟩
   obtain ⟨y,hy⟩:∃ y,ys.getD zs.length 0=y:=⟨_,rfl⟩
   have hxd:=hX.digs.getD zs.length
   have hyd:=hY.digs.getD zs.length
   rw [hx] at hxd
   rw [hy] at hyd
   have Hx:=hidd hx
   have Hy:=hidd hy
   clear hx hy
   go_wp2_with fail
   refine (zFx _ _ _ _ _ (hX.mono hB) zm zs.length zm x Hx.out).mono ?_
   rintro e w' ⟨rfl,rfl⟩
   go_wp2_with fail
   refine (zFx _ _ _ _ _ (hY.mono hB) zm zs.length zm y Hy.out).mono ?_
   rintro e w' ⟨rfl,rfl⟩
   go_wp2_with (first | (at_builtin;refine wpList_append_own _ rfl _ _ 27 rfl w.heap.size 104 i0 (.int .u32 0) 1 4 Tryz.underlying27 hi hz0 hz1 hz2 rfl zd _ _ _ rfl (World.ownsRow.alloc HO _) ⟨_,0,none⟩ 1 1 [.int .u32 ((q+(x+y)) % 4294967296)] rfl rfl (zKc _ _ _) (by intro u hu;simp at hu;subst hu;rfl) (by unfold maxLen;omega) zm (by simp;omega) ?_;intro v' w5 hown' hgrow _) | go_in)
   obtain ⟨hO2,hB2⟩:=hO.step hB zm zm hown' hgrow
   clear hown' hgrow hO hB HO hsz
   go_wp2
   go_roundw
   case rel=>exact ⟨zs.length+1,(q+(x+y))/4294967296,zs ++ [(q+(x+y)) % 4294967296],zm,by go_num,by go_num,zm,zm,hO2,by simp,plus_step rfl HV.out Hx.out Hy.out,hB2⟩
   case measure=>simp [intOf];omega
  ·have hkl:zs.length=L:=zm
   have hqm:q % 4294967296=q:=zm
   go_wp2_with (first | (at_builtin;refine wpList_append_own _ rfl _ _ 27 rfl w.heap.size 104 i0 (.int .u32 0) 1 4 Tryz.underlying27 hi hz0 hz1 hz2 rfl zd _ _ _ rfl (World.ownsRow.alloc HO _) ⟨_,0,none⟩ 1 1 [.int .u32 (q)] rfl rfl (zKc _ _ _) (by intro u hu;simp at hu;subst hu;rfl) (by unfold maxLen;omega) zm (by simp;omega) ?_;intro v' w5 hown' hgrow _) | go_in)
   obtain ⟨hO2,hB2⟩:=hO.step hB hq0 zm hown' hgrow
   clear hown' hgrow hO hB HO hsz
   obtain ⟨ao2,c2,rfl,hS2⟩:=hO2.sl
   go_wp2
   go_ret
   refine ⟨_,_,_,_,rfl,hS2,by have:=HL.out;simp;omega,?_,hB2⟩
   have h1:=HV.out
   rw [zAw xs (by rw [hX.len];have:=HL.out;omega),zAw ys (by rw [hY.len];have:=HL.out;omega)] at h1
   rw [zKv]
   exact h1

theorem zWh {k:Nat} {zs xs ys:List Int} {q x y:Int} (hk:zs.length=k) (h:val zs=val (xs.take k)-val (ys.take k)+pw k*q) (hx:xs.getD k 0=x) (hy:ys.getD k 0=y) :
  val (zs ++ [(4294967296+x-y-q) % 4294967296])=val (xs.take (k+1))-val (ys.take (k+1))+pw (k+1)*(1-(4294967296+x-y-q)/4294967296):=by
 rw [zKv,hk,zAq,zAq,hx,hy]
 have h1:=zDz k (4294967296+x-y-q)
 have h2:pw k*(4294967296+x-y-q)=pw (k+1)+pw k*x-pw k*y-pw k*q:=by
  rw [zCy,Int.mul_sub,Int.mul_sub,Int.mul_add]
 rw [Int.mul_sub,Int.mul_one]
 omega

theorem zQi (w:World) (ax ay:Option Addr) (n m cx cy:Nat) (xs ys:List Int) (hX:Sl w ax n cx xs) (hY:Sl w ay m cy ys) (hcy:Canon ys) (hle:val ys≤val xs) (hb1:n≤2000000) (hb2:m≤2000000) :
  Calls Tryz.prog 133 #[.slice ax n cx,.slice ay m cy] w fun e w'=>∃ ao c zs,e=.returned (.slice ao n c)∧Sl w' ao n c zs∧val zs=val xs-val ys∧Below w.heap.size w w':=by
 obtain ⟨i0,hi,hz0,hz1,hz2⟩:=info_parts zH2
 have HCY:=hidd hcy
 have HLE:=hidd hle
 clear hcy hle
 go_enter Tryz.func133,Tryz.ntmps133
 go_wp2
 go_loopw [5,6,7] (fun vo vc vi wr=>∃ (k:Nat) (q:Int) (zs:List Int),k≤n∧vi=.int .i64 k∧vc=.int .u64 q∧0≤q∧q≤1∧Ow wr w.heap.size vo zs∧zs.length=k∧val zs=val (xs.take k)-val (ys.take k)+pw k*q∧Below w.heap.size w wr) (fun _ _ vi _=>n-(intOf vi).toNat)
 case atStart=>exact ⟨0,0,[],Nat.zero_le _,rfl,rfl,zm,zm,Ow.start w,rfl,by simp [val],zAh _ _⟩
 case round=>
  obtain ⟨k,q,zs,hk,rfl,rfl,hq0,hq1,hO,hzl,hv,hB⟩:=hrel
  subst hzl
  have HV:=hidd hv
  clear hv
  obtain ⟨ao,cap,rfl⟩:=hO.shape
  have HO:=hO.1
  have hsz:=hB.size
  by_cases hkL:zs.length<n
  ·obtain ⟨x,hx⟩:∃ x,xs.getD zs.length 0=x:=⟨_,rfl⟩
   obtain ⟨y,hy⟩:∃ y,ys.getD zs.length 0=y:=⟨_,rfl⟩
   have hxd:=hX.digs.getD zs.length
   have hyd:=hY.digs.getD zs.length
   rw [hx] at hxd
   rw [hy] at hyd
   have Hx:=hidd hx
   have Hy:=hidd hy
   clear hx hy
   go_wp2_with fail
   refine (zFx _ _ _ _ _ (hX.mono hB) zm zs.length zm x Hx.out).mono ?_
   rintro e w' ⟨rfl,rfl⟩
   go_wp2_with fail
   refine (zFx _ _ _ _ _ (hY.mono hB) zm zs.length zm y Hy.out).mono ?_
   rintro e w' ⟨rfl,rfl⟩
   go_wp2_with (first | (at_builtin;refine wpList_append_own _ rfl _ _ 27 rfl w.heap.size 104 i0 (.int .u32 0) 1 4 Tryz.underlying27 hi hz0 hz1 hz2 rfl zd _ _ _ rfl (World.ownsRow.alloc HO _) ⟨_,0,none⟩ 1 1 [.int .u32 ((4294967296+x-y-q) % 4294967296)] rfl rfl (zKc _ _ _) (by intro u hu;simp at hu;subst hu;rfl) (by unfold maxLen;omega) zm (by simp;omega) ?_;intro v' w5 hown' hgrow _) | go_in)
   obtain ⟨hO2,hB2⟩:=hO.step hB zm zm hown' hgrow
   clear hown' hgrow hO hB HO hsz
   go_wp2
   go_roundw
   case rel=>exact ⟨zs.length+1,1-(4294967296+x-y-q)/4294967296,zs ++ [(4294967296+x-y-q) % 4294967296],zm,by go_num,by go_num,zm,zm,hO2,by simp,zWh rfl HV.out Hx.out Hy.out,hB2⟩
   case measure=>simp [intOf];omega
  ·have hkl:zs.length=n:=zm
   obtain ⟨ao2,c2,he,hS2⟩:=hO.sl
   cases he
   rw [hkl] at hS2
   have HE:Hid (val zs=val xs-val ys):=by
    have h1:=HV.out
    have h2:=zAm hX.digs
    have h3:=zBa hX.digs
    rw [hX.len] at h3
    have h4:=HCY.out.length_le (Int.lt_of_le_of_lt HLE.out h3)
    rw [hkl,zAw xs (by rw [hX.len];omega),zAw ys h4] at h1
    have h5:=zBa hS2.digs
    rw [hS2.len] at h5
    have h6:=HLE.out
    show val zs=_
    rcases (by omega:q=0∨q=1) with rfl | rfl
    ·omega
    ·omega
   clear hO HO
   go_wp2
   go_ret
   exact ⟨ao,cap,zs,by show Ending.returned (.slice ao zs.length cap)=_;rw [hkl],hS2,HE.out,hB⟩

end Go.Proofs.YtjadciofpgjofaaGreatDoor

namespace Go.Proofs.YtjadciofpgjofaaGreatDoor
open Go Go.RowKit

def Mine (w:World) (b n:Nat) (zs:List Int):Prop:=
 ∃ cur:Array Value,w.heap[b]?=some (.cells cur 104 (0,0))∧zs.length=n∧Digs zs∧n≤cur.size∧∀ j,j<n→cur[j]?=some (.int .u32 (zs.getD j 0))

theorem Mine.lt {w:World} {b n:Nat} {zs:List Int} (h:Mine w b n zs):b<w.heap.size:=by
 obtain ⟨cur,h1,_⟩:=h
 exact (Array.getElem?_eq_some_iff.1 h1).1
theorem Mine.len {w:World} {b n:Nat} {zs:List Int} (h:Mine w b n zs):zs.length=n:=by
 obtain ⟨cur,_,h1,_⟩:=h
 exact h1
theorem Mine.digs {w:World} {b n:Nat} {zs:List Int} (h:Mine w b n zs):Digs zs:=by
 obtain ⟨cur,_,_,h1,_⟩:=h
 exact h1
theorem Mine.cell {w:World} {b n:Nat} {zs:List Int} (h:Mine w b n zs) {j:Nat} (hj:j<n):w.cell? ⟨b,j,none⟩=some (.int .u32 (zs.getD j 0)):=by
 obtain ⟨cur,h1,h2,h3,h4,h5⟩:=h
 rw [cell_of_row w b j _ _ (0,0) h1]
 exact h5 j hj
theorem Mine.frozen {w:World} {b n:Nat} {zs:List Int} (h:Mine w b n zs) (j:Nat):w.frozen? ⟨b,j,none⟩=false:=by
 obtain ⟨cur,h1,_⟩:=h
 simp [World.frozen?,h1]
theorem Mine.mono {w w':World} {b n:Nat} {zs:List Int} (h:Mine w b n zs) {B:Nat} (hb:Below B w w') (hB:b<B):Mine w' b n zs:=by
 obtain ⟨cur,h1,h2⟩:=h
 exact ⟨cur,by rw [hb.block b hB];exact h1,h2⟩
theorem Mine.drewN {w:World} {b n:Nat} {zs:List Int} (h:Mine w b n zs) (d:Nat):Mine (w.drewN d) b n zs:=h
theorem Mine.set {w:World} {b n:Nat} {zs:List Int} (h:Mine w b n zs) {j:Nat} (hj:j<n) {x:Int} (hx0:0≤x) (hx1:x<4294967296):Mine (w.setCell ⟨b,j,none⟩ (.int .u32 x)) b n (zs.set j x):=by
 obtain ⟨cur,h1,h2,h3,h4,h5⟩:=h
 refine ⟨cur.setIfInBounds j (.int .u32 x),?_,by rw [List.length_set];exact h2,h3.set j ⟨hx0,hx1⟩,by simpa using h4,fun k hk=>?_⟩
 ·simp only [World.setCell,Array.getElem?_modify,if_true,h1,Option.map_some,Option.isSome_none]
  simp
 ·by_cases hjk:j=k
  ·subst hjk
   rw [zB6 _ _ _ zm,Array.getElem?_setIfInBounds_self_of_lt zm]
  ·rw [getD_set_ne _ _ _ _ hjk]
   rw [Array.getElem?_setIfInBounds_ne hjk]
   exact h5 k hk
theorem Mine.sl {w:World} {b n:Nat} {zs:List Int} (h:Mine w b n zs) {c:Nat} (hc:n≤c):Sl w (some ⟨b,0,none⟩) n c zs:=
 ⟨h.len,hc,h.digs,.inr ⟨b,0,rfl,h.lt,fun j hj=>by rw [Nat.zero_add];exact h.cell (by have:=h.len;omega)⟩⟩
theorem Mine.other {w:World} {b n:Nat} {zs:List Int} (h:Mine w b n zs) {w':World} {b':Nat} (hg:w.grownBy w' (some b')) (hne:b≠b'):Mine w' b n zs:=by
 have hl:=h.lt
 obtain ⟨cur,h1,h2⟩:=h
 exact ⟨cur,by rw [hg.block b hl (by simpa using hne)];exact h1,h2⟩
theorem Row.mine {w:World} {b:Nat} {zs:List Int} (h:Row w 104 b zs):Mine w b zs.length zs:=
 ⟨_,h.2,rfl,h.1,by simp,fun j hj=>by simp [hj]⟩
theorem Ow.mine {w:World} {B b n c:Nat} {zs:List Int} (h:Ow w B (.slice (some ⟨b,0,none⟩) n c) zs):Mine w b n zs∧B≤b∧n≤c:=by
 obtain ⟨⟨h1,h2⟩,h3⟩:=h
 rcases h2 with ⟨h4,_⟩ | ⟨g,cap,cur,h4,h5,h6,h7,h8,h9,h10⟩
 ·cases h4
 ·cases h4
  refine ⟨⟨cur,h6,rfl,h3,zm,fun j hj=>?_⟩,h5,h7⟩
  have e:(cur.toList.take (zs.length*1))[j]?=(zs.map (Value.int .u32))[j]?:=by rw [h10]
  rw [List.getElem?_take_of_lt zm] at e
  simp at e
  rw [e]
  simp [hj]
theorem Row.ow {w:World} {B b:Nat} {zs:List Int} (h:Row w 104 b zs) (hB:B≤b) (hn:zs.length≤maxLen):Ow w B (.slice (some ⟨b,0,none⟩) zs.length zs.length) zs:=
 ⟨⟨by simp,.inr ⟨b,zs.length,_,rfl,hB,h.2,Nat.le_refl _,hn,by simp,by rw [Nat.mul_one];exact List.take_of_length_le (by simp)⟩⟩,h.1⟩

theorem zM5 (w:World) (na:Bool) (ax:Option Addr) (n c:Nat) (xs:List Int) (hX:Sl w ax n c xs) (hc:Canon xs) (hb:n≤4000000) :
  Calls Tryz.prog 104 #[.agg #[.bool na,.slice ax n c]] w fun e w'=>∃ m:Nat,e=.returned (.int .i64 m)∧zCw (val xs) m∧m≤32*n∧Below w.heap.size w w':=by
 have hn:=hidd hX.len
 obtain ⟨w0,hw0,hA,hbl0,HS⟩:=boxes1 w (.bool na) (.slice ax n c) 36
 by_cases h0:n=0
 ·obtain rfl:=h0
  have e:xs=[]:=List.eq_nil_of_length_eq_zero hn.out
  clear hA hw0
  go_enter Tryz.func104,Tryz.ntmps104
  go_wp2
  go_ret
  exact ⟨0,rfl,.inl ⟨by subst e;rfl,rfl⟩,zm,zAh _ _⟩
 ·have h1:((n:Int) == 0)=false:=by simp;omega
  have hx:=(hX.mono hbl0).cells
  obtain ⟨b,off,rfl,hbl,x,hxc,hx0,hx1,HX⟩:=hx.at (k:=n-1) (by rw [hn.out];omega)
  have hxp:0<x:=by
   rcases hc.2 with h | h
   ·have:=hn.out;omega
   ·rcases (by omega:x=0∨0<x) with h2 | h2
    ·exfalso
     have e:=zAq xs (n-1)
     rw [show n-1+1=n from by omega,HX.out,h2,zAw xs (by rw [hn.out];omega)] at e
     have l1:=zBa (hX.take (show n-1≤n by omega)).digs
     rw [(hX.take (show n-1≤n by omega)).len] at l1
     rw [hn.out] at h
     omega
    ·exact h2
  obtain ⟨ca0,ca1,_,_⟩:=hA
  go_enter Tryz.func104,Tryz.ntmps104
  go_upto_region 1 with (fail)
  rw [← hw0]
  clear hw0
  go_wp2
  go_loop [3,4] (fun i u=>∃ (k:Nat) (q:Int),k≤32∧0≤q∧q<4294967296∧i=.int .i64 (32*((n:Int)-1)+k)∧u=.int .u32 q∧q*2^k≤x∧x<(q+1)*2^k∧(k=0∨2^(k-1)≤x)) (fun _ u=>(intOf u).toNat)
  case atStart=>exact ⟨0,x,zm,hx0,hx1,by simp,rfl,by simp,by simp;omega,.inl rfl⟩
  case round=>
   obtain ⟨k,q,hk,hq0,hq1,rfl,rfl,hv⟩:=hrel
   have HV:=hidd hv
   clear hv
   by_cases hq:0<q
   ·go_wp2
    go_round
    case rel=>
     obtain ⟨v1,v2,_⟩:=HV.out
     have hp:=zA6 k
     have h5:(2:Int)^k≤x:=by
      have:=Int.mul_le_mul_of_nonneg_right (show 1≤q by omega) (Int.le_of_lt hp)
      omega
     have hk2:k<32:=by
      rcases Nat.lt_or_ge k 32 with h | h
      ·exact h
      ·have:k=32:=zm
       subst this;simp at h5;omega
     refine ⟨k+1,q/2,zm,zm,zm,by rw [show ((k+1:Nat):Int)=(k:Int)+1 from rfl];congr 1;omega,rfl,?_,?_,.inr h5⟩
     ·rw [zGm]
      have:q/2*(2^k*2)=(q/2*2)*2^k:=by rw [Int.mul_comm (2^k),Int.mul_assoc]
      have h6:=Int.mul_le_mul_of_nonneg_right (show q/2*2≤q by omega) (Int.le_of_lt hp)
      omega
     ·rw [zGm]
      have:(q/2+1)*(2^k*2)=((q/2+1)*2)*2^k:=by rw [Int.mul_comm (2^k),Int.mul_assoc]
      have h6:=Int.mul_le_mul_of_nonneg_right (show q+1≤(q/2+1)*2 by omega) (Int.le_of_lt hp)
      omega
    case measure=>simp [intOf];omega
   ·go_wp2
    go_ret
    obtain ⟨v1,v2,v3⟩:=HV.out
    refine ⟨32*(n-1)+k,?_,zN7 hX.digs hn.out zm HX.out hxp hx1 zm v1 v2 v3,zm,hbl0⟩
    have:((32*(n-1)+k:Nat):Int)=32*((n:Int)-1)+k:=zm
    rw [this];rfl

def zEq (xs:List Int) (i:Nat):Int:=if i=0 then 0 else xs.getD (i-1) 0

theorem word_prev (w:World) (ax:Option Addr) (n c:Nat) (xs:List Int) (hX:Sl w ax n c xs) (hb:n≤4000000) (i:Nat) (hi:i≤9000000) (y:Int) (hy:zEq xs i=y) (j:Int) (hj:j=(i:Int)-1) :
  Calls Tryz.prog 151 #[.slice ax n c,.int .i64 j] w fun e w'=>e=.returned (.int .u64 y)∧w=w':=by
 unfold zEq at hy
 subst hj
 by_cases h:i=0
 ·subst h
  rw [if_pos rfl] at hy
  subst hy
  exact zX3 w ax n c _ zm zm
 ·rw [if_neg h] at hy
  rw [show (i:Int)-1=((i-1:Nat):Int) by omega]
  exact zFx w ax n c xs hX hb (i-1) zm y hy

theorem left_step {m:Nat} {zs xs:List Int} {i wd:Nat} {p x c:Int} (hm:zs.length=i+wd) (h:val zs+pw (i+wd)*c=val (xs.take i)*p*pw wd) (hx:xs.getD i 0=x) (hd:m=i+wd+1) :
  val (zs ++ [x*p % 4294967296+c])+pw m*(x*p/4294967296)=val (xs.take (i+1))*p*pw wd:=by
 subst hd
 rw [zKv,hm,zAq,hx,Int.add_mul,Int.add_mul,← h]
 have h1:=zDz (i+wd) (x*p)
 have h2:pw i*x*p*pw wd=pw (i+wd)*(x*p):=by rw [zEs];ac_rfl
 rw [Int.mul_add]
 omega

theorem add_mod {T cc P:Int} (h1:T % 4294967296 % P=0) (h2:(4294967296:Int) % P=0) (_:0<P) (hc0:0≤cc) (hc:cc<P):(T+cc) % 4294967296=T % 4294967296+cc:=by
 have h4:(4294967296-T % 4294967296) % P=0:=by rw [Int.sub_emod,h1,h2];simp
 have h5:0<4294967296-T % 4294967296:=zm
 have h6:=Int.le_of_dvd h5 (Int.dvd_of_emod_eq_zero h4)
 omega

theorem zP3 (w:World) (ax:Option Addr) (n c:Nat) (xs:List Int) (hX:Sl w ax n c xs) (hb:n≤1000000) (s:Nat) (hs:s≤100000000) :
  Calls Tryz.prog 155 #[.slice ax n c,.int .i64 s] w fun e w'=>∃ g l cap zs,e=.returned (.slice (some ⟨g,0,none⟩) l cap)∧w.heap.size≤g∧Mine w' g l zs∧l≤cap∧l=s/32+n+1∧val zs=val xs*2^s∧Below w.heap.size w w':=by
 obtain ⟨i0,hi,hz0,hz1,hz2⟩:=info_parts zH2
 have hn:=hidd hX.len
 have hrs:s % 32<32:=Nat.mod_lt _ zd
 obtain ⟨hp0,hp1⟩:=zIq _ hrs
 go_enter Tryz.func155,Tryz.ntmps155
 go_wp2_with (at_make;refine zEi _ rfl _ _ 27 rfl 104 Tryz.underlying27 (by kernel_rfl) _ _ _ _ rfl rfl (s/32) zm zm zm ?_;intro w1 hrow hb1 hs1)
 go_loopw [5,7] (fun vo vi wr=>∃ (i:Nat) (zs:List Int),i≤n+1∧vi=.int .i64 i∧Ow wr w.heap.size vo zs∧zs.length=i+s/32∧val zs+pw (i+s/32)*(zEq xs i*2^(s % 32)/4294967296)=val (xs.take i)*2^(s % 32)*pw (s/32)∧Below w.heap.size w wr) (fun _ vi _=>n+1-(intOf vi).toNat)
 case atStart=>
  have ho:=hrow.ow (Nat.le_refl _) (by rw [List.length_replicate];unfold maxLen;omega)
  rw [List.length_replicate] at ho
  exact ⟨0,_,zm,rfl,ho,by simp,by rw [zGq];simp [zEq,val],hb1⟩
 case round=>
  obtain ⟨i,zs,hk,rfl,hO,hzl,hv,hB⟩:=hrel
  have HV:=hidd hv
  clear hv hrow hb1 hs1
  obtain ⟨ao,cap,rfl⟩:=hO.shape
  have HO:=hO.1
  have hsz:=hB.size
  have HZL:=hidd hzl
  have hzb:zs.length≤10000000:=zm
  clear hzl
  by_cases hin:i≤n
  ·obtain ⟨x,hx⟩:∃ x,xs.getD i 0=x:=⟨_,rfl⟩
   obtain ⟨y,hy⟩:∃ y,zEq xs i=y:=⟨_,rfl⟩
   have hxd:=hX.digs.getD i
   rw [hx] at hxd
   obtain ⟨hx0,hx1⟩:=hxd
   have hyd:0≤y∧y<4294967296:=by
    rw [← hy];unfold zEq;split
    ·omega
    ·exact hX.digs.getD _
   obtain ⟨hy0,hy1⟩:=hyd
   have Hx:=hidd hx
   have Hy:=hidd hy
   clear hx hy
   have hxp0:0≤x*2^(s % 32):=Int.mul_nonneg hx0 zm
   have hxp2:x*2^(s % 32)≤4294967295*2^(s % 32):=Int.mul_le_mul_of_nonneg_right zm zm
   have hxp1:x*2^(s % 32)≤9223372036854775807:=zm
   have hyp0:0≤y*2^(s % 32):=Int.mul_nonneg hy0 zm
   have hyp2:y*2^(s % 32)≤4294967295*2^(s % 32):=Int.mul_le_mul_of_nonneg_right zm zm
   have hyp1:y*2^(s % 32)≤9223372036854775807:=zm
   have hc0:y*2^(s % 32)/4294967296<2^(s % 32):=Int.ediv_lt_of_lt_mul zd zm
   obtain ⟨u,hor⟩:∃ u,bits .or .u64 (x*2^(s % 32)) (y*2^(s % 32)/4294967296)=u:=⟨_,rfl⟩
   have hu:u=x*2^(s % 32)+y*2^(s % 32)/4294967296:=by
    rw [← hor]
    exact (zKd (s % 32) _ _ hxp0 zm zm zm hc0 (Int.mul_emod_left _ _)).1
   have hu0:0≤u:=zm
   have hu1:u<18446744073709551616:=zm
   have HD:Hid (u % 4294967296=x*2^(s % 32) % 4294967296+y*2^(s % 32)/4294967296):=by
    have h1:=zQo x (s % 32) zm
    have h2:(4294967296:Int) % 2^(s % 32)=0:=by
     have e:(4294967296:Int)=2^(s % 32)*2^(32-s % 32):=by rw [← Int.pow_add,show s % 32+(32-s % 32)=32 from by omega];rfl
     rw [e];exact Int.mul_emod_right _ _
    show u % 4294967296=_
    rw [hu]
    exact add_mod h1 h2 zm zm hc0
   clear hu
   go_wp2_with fail
   refine (zFx _ _ _ _ _ (hX.mono hB) zm i zm x Hx.out).mono ?_
   rintro e w' ⟨rfl,rfl⟩
   go_wp2_with fail
   refine (word_prev _ _ _ _ _ (hX.mono hB) zm i zm y Hy.out _ zm).mono ?_
   rintro e w' ⟨rfl,rfl⟩
   go_wp2_with (first | (at_builtin;refine wpList_append_own _ rfl _ _ 27 rfl w.heap.size 104 i0 (.int .u32 0) 1 4 Tryz.underlying27 hi hz0 hz1 hz2 rfl zd _ _ _ rfl (World.ownsRow.alloc HO _) ⟨_,0,none⟩ 1 1 [.int .u32 (u % 4294967296)] rfl rfl (zKc _ _ _) (by intro u hu;simp at hu;subst hu;rfl) (by unfold maxLen;omega) zm (by simp;omega) ?_;intro v' w5 hown' hgrow _) | go_in)
   obtain ⟨hO2,hB2⟩:=hO.step hB zm zm hown' hgrow
   clear hown' hgrow hO hB HO hsz
   go_wp2
   go_roundw
   case rel=>
    refine ⟨i+1,zs ++ [u % 4294967296],zm,by go_num,hO2,by rw [List.length_append,HZL.out];simp;omega,?_,hB2⟩
    have h1:=HV.out
    rw [Hy.out] at h1
    have h2:zEq xs (i+1)=x:=by unfold zEq;rw [if_neg zm];exact Hx.out
    rw [h2,HD.out]
    exact left_step HZL.out h1 Hx.out zm
   case measure=>simp [intOf];omega
  ·obtain rfl:i=n+1:=zm
   have HE:Hid (val zs=val xs*2^s):=by
    have h1:=HV.out
    have h2:zEq xs (n+1)=0:=by unfold zEq;rw [if_neg zm];exact zEc (by rw [hn.out];omega)
    rw [h2,Int.zero_mul,Int.zero_ediv,Int.mul_zero,Int.add_zero,zAw xs (by rw [hn.out];omega)] at h1
    show val zs=_
    rw [h1,zCb,Int.mul_assoc,← Int.pow_add]
    congr 2
    omega
   have hl2:0<zs.length:=by have:=HZL.out;omega
   obtain ⟨g,rfl⟩:∃ g,ao=some ⟨g,0,none⟩:=by
    rcases hO.1.2 with ⟨_,h0⟩ | ⟨g,cap',cur,h1,_⟩
    ·omega
    ·cases h1;exact ⟨g,rfl⟩
   obtain ⟨hM,hgB,hcap⟩:=hO.mine
   clear hO HO
   go_wp2
   go_ret
   exact ⟨g,zs.length,cap,zs,rfl,hgB,hM,hcap,by have:=HZL.out;omega,HE.out,hB⟩

end Go.Proofs.YtjadciofpgjofaaGreatDoor

namespace Go.Proofs.YtjadciofpgjofaaGreatDoor
open Go Go.RowKit

theorem zFv (xs:List Int) (k:Nat):val (xs.drop k)=xs.getD k 0+4294967296*val (xs.drop (k+1)):=by
 by_cases h:k<xs.length
 ·exact zDj xs h
 ·rw [List.drop_of_length_le zm,List.drop_of_length_le zm,zEc zm];rfl

theorem zHf (xs:List Int) (k:Nat):val xs=val (xs.take k)+pw k*val (xs.drop k):=by
 by_cases h:k≤xs.length
 ·exact zC3 xs h
 ·rw [List.take_of_length_le zm,List.drop_of_length_le zm]
  show _=_+_*0
  rw [Int.mul_zero,Int.add_zero]

theorem zSp {xs:List Int} (h:Digs xs) (k:Nat):val (xs.take k)<pw k:=by
 have h1:=zBa (h.take k)
 have h2:=zBu (show (xs.take k).length≤k by rw [List.length_take];omega)
 omega

theorem lt_at {xs ys:List Int} {k:Nat} (hx:Digs xs) (h:val (xs.drop (k+1))=val (ys.drop (k+1))) (hlt:xs.getD k 0<ys.getD k 0) (hy:Digs ys):val xs<val ys:=by
 have e1:=zHf xs k
 have e2:=zHf ys k
 have d1:=zFv xs k
 have d2:=zFv ys k
 have h1:=zSp hx k
 have h2:=zAm (hy.take k)
 have h3:=Int.mul_le_mul_of_nonneg_left (show val (xs.drop k)+1≤val (ys.drop k) by omega) (Int.le_of_lt (zA0 k))
 rw [Int.mul_add,Int.mul_one] at h3
 omega

theorem zD3 (w:World) (ax:Option Addr) (n c:Nat) (xs:List Int) (hX:Sl w ax n c xs) (hb:n≤4000000) (i:Nat) (hi:i≤9000000) (y:Int) (hy:xs.getD i 0=y) (j:Int) (hj:j=(i:Int)) :
  Calls Tryz.prog 151 #[.slice ax n c,.int .i64 j] w fun e w'=>e=.returned (.int .u64 y)∧w=w':=by
 subst hj
 exact zFx w ax n c xs hX hb i hi y hy

theorem word_same (w:World) (ax:Option Addr) (n c:Nat) (xs:List Int) (hX:Sl w ax n c xs) (hb:n≤4000000) (i:Nat) (hi:i≤9000000) (y:Int) (hy:xs.getD i 0=y) :
  Calls Tryz.prog 151 #[.slice ax n c,.int .i64 i] w fun e w'=>e=.returned (.int .u64 y)∧w'=w:=
 (zFx w ax n c xs hX hb i hi y hy).mono fun _ _ h=>⟨h.1,h.2.symm⟩

theorem zXh (w:World) (ax ay:Option Addr) (n m cx cy:Nat) (xs ys:List Int) (hX:Sl w ax n cx xs) (hY:Sl w ay m cy ys) (hb1:n≤4000000) (hb2:m≤4000000) :
  Calls Tryz.prog 156 #[.slice ax n cx,.slice ay m cy] w fun e w'=>e=.returned (.bool (decide (val ys≤val xs)))∧w=w':=by
 obtain ⟨L,hL⟩:∃ L:Nat,L=max n m:=⟨_,rfl⟩
 have hL2:(if n<m then (m:Int) else (n:Int))=(L:Int):=by split <;> omega
 have hLb:L≤4000000:=zm
 have HL:=hidd hL
 clear hL
 go_enter Tryz.func156,Tryz.ntmps156
 go_wp2
 go_loop [5] (fun vi=>∃ k:Nat,k≤L∧vi=.int .i64 ((k:Int)-1)∧val (xs.drop k)=val (ys.drop k)) (fun vi=>(intOf vi+1).toNat)
 case atStart=>exact ⟨L,Nat.le_refl _,rfl,by rw [List.drop_of_length_le (by rw [hX.len];have:=HL.out;omega),List.drop_of_length_le (by rw [hY.len];have:=HL.out;omega)]⟩
 case round=>
  obtain ⟨k,hk,rfl,hv⟩:=hrel
  have HV:=hidd hv
  clear hv
  by_cases h0:0<k
  ·obtain ⟨j,rfl⟩:∃ j,k=j+1:=⟨k-1,zm⟩
   obtain ⟨x,hx⟩:∃ x,xs.getD j 0=x:=⟨_,rfl⟩
   obtain ⟨y,hy⟩:∃ y,ys.getD j 0=y:=⟨_,rfl⟩
   have Hx:=hidd hx
   have Hy:=hidd hy
   clear hx hy
   have hj1:((j+1:Nat):Int)-1=(j:Int):=zm
   by_cases he:x=y
   ·have he2:(x != y)=false:=by simp [he]
    have HE:=hidd he
    clear he
    go_wp2_with fail
    refine (zD3 _ _ _ _ _ hX zm j zm x Hx.out _ zm).mono ?_
    rintro e w' ⟨rfl,rfl⟩
    go_wp2_with fail
    refine (zD3 _ _ _ _ _ hY zm j zm y Hy.out _ zm).mono ?_
    rintro e w' ⟨rfl,rfl⟩
    go_wp2
    go_round
    case rel=>
     refine ⟨j,zm,by go_num,?_⟩
     rw [zFv xs j,zFv ys j,HV.out,Hx.out,Hy.out,HE.out]
    case measure=>simp [intOf]
   ·have he2:(x != y)=true:=by simp [he]
    have HR:Hid (decide (x > y)=decide (val ys≤val xs)):=by
     rcases Int.lt_or_gt_of_ne he with h | h
     ·have h2:=lt_at hX.digs HV.out (by rw [Hx.out,Hy.out];exact h) hY.digs
      show _=_
      rw [decide_eq_false (show ¬ x > y by omega),decide_eq_false (show ¬ val ys≤val xs by omega)]
     ·have h2:=lt_at hY.digs HV.out.symm (by rw [Hx.out,Hy.out];exact h) hX.digs
      show _=_
      rw [decide_eq_true (show x > y by omega),decide_eq_true (show val ys≤val xs by omega)]
    clear he
    go_wp2_with fail
    refine (zD3 _ _ _ _ _ hX zm j zm x Hx.out _ zm).mono ?_
    rintro e w' ⟨rfl,rfl⟩
    go_wp2_with fail
    refine (zD3 _ _ _ _ _ hY zm j zm y Hy.out _ zm).mono ?_
    rintro e w' ⟨rfl,rfl⟩
    go_wp2_with fail
    refine (zD3 _ _ _ _ _ hX zm j zm x Hx.out _ zm).mono ?_
    rintro e w' ⟨rfl,rfl⟩
    go_wp2_with fail
    refine (zD3 _ _ _ _ _ hY zm j zm y Hy.out _ zm).mono ?_
    rintro e w' ⟨rfl,rfl⟩
    go_wp2
    go_ret
    exact ⟨by rw [← HR.out];simp,rfl⟩
  ·obtain rfl:k=0:=zm
   have HR:Hid (decide (val ys≤val xs)=true):=by
    have:=HV.out
    simp only [List.drop_zero] at this
    exact decide_eq_true zm
   go_wp2
   go_ret
   exact ⟨by rw [HR.out];rfl,rfl⟩

theorem zWc {w wr:World} {b:Option Nat} (h:w.grownBy wr b) (d:Nat):w.grownBy (wr.drewN d) b:=⟨h.os,h.tape,h.output,h.size,h.block⟩

theorem zPv {w wr:World} {b:Nat} (h:w.grownBy wr (some b)) (j:Nat) (u:Value):w.grownBy (wr.setCell ⟨b,j,none⟩ u) (some b):=zG4 h (zEd _ _ _ _)

theorem half_dig {x y:Int} (hx0:0≤x) (hx1:x<4294967296) (hy0:0≤y) (hy1:y<4294967296) :
  ∃ u,bits .or .u64 (x/2) (y*2147483648)=u∧0≤u∧u<18446744073709551616∧Hid (2*(u % 4294967296)=x-x % 2+4294967296*(y % 2)):=by
 have h:=(zKd 31 (y*2147483648) (x/2) zm zm zm zm (by show x/2<2147483648;omega) (by show y*2147483648 % 2147483648=0;omega)).2
 refine ⟨_,h,zm,zm,?_⟩
 show _=_
 omega

theorem zPw (w:World) (b n c:Nat) (zs:List Int) (hM:Mine w b n zs) (hc:n≤c) (hb1:n≤4000000) :
  Calls Tryz.prog 158 #[.slice (some ⟨b,0,none⟩) n c] w fun e w'=>∃ zs',e=.returned (.tuple #[])∧Mine w' b n zs'∧val zs'=val zs/2∧w.grownBy w' (some b)∧w'.heap.size=w.heap.size:=by
 have hzl:=hidd hM.len
 have hdz:=hM.digs
 go_enter Tryz.func158,Tryz.ntmps158
 go_wp2
 go_loopw [2] (fun vi wr=>∃ (k:Nat) (us:List Int),k≤n∧vi=.int .i64 k∧Mine wr b n us∧us.drop k=zs.drop k∧2*val (us.take k)=val (zs.take k)-zs.getD 0 0 % 2+pw k*(zs.getD k 0 % 2)∧w.grownBy wr (some b)∧wr.heap.size=w.heap.size) (fun vi _=>n-(intOf vi).toNat)
 case atStart=>exact ⟨0,zs,Nat.zero_le _,rfl,hM,rfl,by simp [val,zDo];omega,World.grownBy.refl _ _,rfl⟩
 case round=>
  obtain ⟨k,us,hk,rfl,hU,hdr,hv,hg,hsz⟩:=hrel
  have HDR:=hidd hdr
  have HV:=hidd hv
  have HSZ:=hidd hsz
  clear hdr hv hsz
  by_cases hkn:k<n
  ·obtain ⟨x,hx⟩:∃ x,us.getD k 0=x:=⟨_,rfl⟩
   obtain ⟨y,hy⟩:∃ y,us.getD (k+1) 0=y:=⟨_,rfl⟩
   have hxd:=hU.digs.getD k
   have hyd:=hU.digs.getD (k+1)
   rw [hx] at hxd
   rw [hy] at hyd
   have Hx:=hidd hx
   have Hy:=hidd hy
   clear hx hy
   obtain ⟨u,hor,hu0,hu1,HU⟩:=half_dig hxd.1 hxd.2 hyd.1 hyd.2
   have hfr:=hU.frozen k
   have hcell:=hU.cell hkn
   go_wp2_with fail
   refine (zD3 _ _ _ _ _ (hU.sl hc) zm k zm x Hx.out _ zm).mono ?_
   rintro e w' ⟨rfl,rfl⟩
   go_wp2_with fail
   refine (zD3 _ _ _ _ _ (hU.sl hc) zm (k+1) zm y Hy.out _ zm).mono ?_
   rintro e w' ⟨rfl,rfl⟩
   go_wp2
   go_roundw
   case rel=>
    have hlen:=hU.len
    have e1:zs.getD k 0=x:=by
     have:=congrArg (fun l=>l.getD 0 0) HDR.out
     simp only [zC7,Nat.add_zero] at this
     rw [← this];exact Hx.out
    have e2:zs.getD (k+1) 0=y:=by
     have:=congrArg (fun l=>l.getD 1 0) HDR.out
     simp only [zC7] at this
     rw [← this];exact Hy.out
    refine ⟨k+1,us.set k (u % 4294967296),zm,by go_num,hU.set hkn zm zm,?_,zNg zm HV.out e1 e2 HU.out,zPv hg _ _,by rw [World.size_setCell];exact HSZ.out⟩
    rw [List.drop_set_of_lt zm,← List.drop_drop,HDR.out,List.drop_drop]
   case measure=>simp [intOf];omega
  ·obtain rfl:k=n:=zm
   have HE:Hid (val us=val zs/2):=by
    have h1:=HV.out
    rw [zAw us (by rw [hU.len];omega),zAw zs (by rw [hzl.out];omega),zEc (xs:=zs) (k:=k) (by rw [hzl.out];omega)] at h1
    have h2:=zFv zs 0
    rw [List.drop_zero] at h2
    show val us=_
    omega
   go_wp2
   (try simp only [Exit.inBlock,Exit.then])
   exact bodyPost_end (results_none rfl _ _ _) rfl ⟨us,rfl,hU,HE.out,hg,HSZ.out⟩

theorem take_step {k:Nat} {us xs ys:List Int} {q x y:Int} (hk:k<us.length) (h:val (us.take k)=val (xs.take k)-val (ys.take k)+pw k*q) (hx:xs.getD k 0=x) (hy:ys.getD k 0=y) :
  val ((us.set k ((4294967296+x-y-q) % 4294967296)).take (k+1))=val (xs.take (k+1))-val (ys.take (k+1))+pw (k+1)*(1-(4294967296+x-y-q)/4294967296):=by
 rw [zAq,zC4 _ _ _ _ (Nat.le_refl _),zB6 _ _ _ hk,zAq,zAq,hx,hy]
 have h1:=zDz k (4294967296+x-y-q)
 have h2:pw k*(4294967296+x-y-q)=pw (k+1)+pw k*x-pw k*y-pw k*q:=by
  rw [zCy,Int.mul_sub,Int.mul_sub,Int.mul_add]
 rw [Int.mul_sub,Int.mul_one]
 omega

theorem Sl.other {w w':World} {ay:Option Addr} {m cy b:Nat} {ys:List Int} (h:Sl w ay m cy ys) (hg:w.grownBy w' (some b)) (hne:∀ b' o,ay=some ⟨b',o,none⟩→b'≠b):Sl w' ay m cy ys:=by
 refine ⟨h.len,h.cap,h.digs,?_⟩
 rcases h.cells.2 with h1 | ⟨b',off,h1,h2,h3⟩
 ·exact .inl h1
 ·refine .inr ⟨b',off,h1,Nat.lt_of_lt_of_le h2 hg.size,fun j hj=>?_⟩
  have:=hg.block b' h2 (by simpa using hne b' off h1)
  have h4:=h3 j hj
  unfold World.cell? at h4 ⊢
  rw [this]
  exact h4

theorem take_any (w:World) (b n c:Nat) (zs:List Int) (hM:Mine w b n zs) (hc:n≤c) (hb1:n≤4000000) (ay:Option Addr) (m cy:Nat) (ys:List Int) (hY:Sl w ay m cy ys) (hb2:m≤4000000) (hne:∀ b' o,ay=some ⟨b',o,none⟩→b'≠b) (hle:val ys≤val zs) :
  Calls Tryz.prog 157 #[.slice (some ⟨b,0,none⟩) n c,.slice ay m cy] w fun e w'=>∃ zs',e=.returned (.tuple #[])∧Mine w' b n zs'∧val zs'=val zs-val ys∧w.grownBy w' (some b)∧w'.heap.size=w.heap.size:=by
 have hzl:=hidd hM.len
 have hdz:=hidd hM.digs
 have HLE:=hidd hle
 have HNE:=hidd hne
 clear hle hne
 go_enter Tryz.func157,Tryz.ntmps157
 go_wp2
 go_loopw [4,5] (fun vc vi wr=>∃ (k:Nat) (q:Int) (us:List Int),k≤n∧vi=.int .i64 k∧vc=.int .u64 q∧0≤q∧q≤1∧Mine wr b n us∧us.drop k=zs.drop k∧val (us.take k)=val (zs.take k)-val (ys.take k)+pw k*q∧w.grownBy wr (some b)∧wr.heap.size=w.heap.size) (fun _ vi _=>n-(intOf vi).toNat)
 case atStart=>exact ⟨0,0,zs,Nat.zero_le _,rfl,rfl,zm,zm,hM,rfl,by simp [val],World.grownBy.refl _ _,rfl⟩
 case round=>
  obtain ⟨k,q,us,hk,rfl,rfl,hq0,hq1,hU,hdr,hv,hg,hsz⟩:=hrel
  have HDR:=hidd hdr
  have HV:=hidd hv
  have HSZ:=hidd hsz
  clear hdr hv hsz
  by_cases hkn:k<n
  ·obtain ⟨x,hx⟩:∃ x,us.getD k 0=x:=⟨_,rfl⟩
   obtain ⟨y,hy⟩:∃ y,ys.getD k 0=y:=⟨_,rfl⟩
   have hxd:=hU.digs.getD k
   have hyd:=hY.digs.getD k
   rw [hx] at hxd
   rw [hy] at hyd
   obtain ⟨hx0,hx1⟩:=hxd
   obtain ⟨hy0,hy1⟩:=hyd
   have hcell:=hU.cell hkn
   rw [hx] at hcell
   have Hx:=hidd hx
   have Hy:=hidd hy
   clear hx hy
   have hYr:=hY.other hg HNE.out
   go_wp2
   go_quiet ((go_at_call 151;exact Calls.quiet_of_same (word_same _ _ _ _ _ (Sl.drewN hYr _) zm k zm y Hy.out)))
   obtain ⟨w2,hw2⟩:∃ w2,w2=wr.drewN nq:=⟨_,rfl⟩
   rw [← hw2]
   have hU2:Mine w2 b n us:=by rw [hw2];exact hU.drewN _
   have hg2:w.grownBy w2 (some b):=by rw [hw2];exact zWc hg _
   have HS2:Hid (w2.heap.size=w.heap.size):=by show _=_;rw [hw2];exact HSZ.out
   clear hw2 hcell hYr hU hg HSZ
   have hfr:=hU2.frozen k
   have hcell:=hU2.cell hkn
   go_wp2
   go_roundw
   case rel=>
    have hlen:=hU2.len
    have e1:zs.getD k 0=x:=by
     have:=congrArg (fun l=>l.getD 0 0) HDR.out
     simp only [zC7,Nat.add_zero] at this
     rw [← this];exact Hx.out
    refine ⟨k+1,1-(4294967296+x-y-q)/4294967296,us.set k ((4294967296+x-y-q) % 4294967296),zm,by go_num,by go_num,zm,zm,hU2.set hkn zm zm,?_,take_step zm HV.out e1 Hy.out,zPv hg2 _ _,by rw [World.size_setCell];exact HS2.out⟩
    rw [List.drop_set_of_lt zm,← List.drop_drop,HDR.out,List.drop_drop]
   case measure=>simp [intOf];omega
  ·obtain rfl:k=n:=zm
   have HE:Hid (val us=val zs-val ys):=by
    have h1:=HV.out
    rw [zAw us (by rw [hU.len];omega),zAw zs (by rw [hzl.out];omega)] at h1
    have h2:=zHf ys k
    have h3:=zBa hdz.out
    rw [hzl.out] at h3
    have h4:=zAm (hY.digs.drop k)
    have h5:=zBa hU.digs
    rw [hU.len] at h5
    have h6:=zAm (hY.digs.take k)
    have h7:=zAm hU.digs
    have h8:=HLE.out
    have h9:=zA0 k
    show val us=_
    have h10:val (ys.drop k)=0:=by
     rcases (by omega:val (ys.drop k)=0∨1≤val (ys.drop k)) with h | h
     ·exact h
     ·have:=Int.mul_le_mul_of_nonneg_left h (Int.le_of_lt h9)
      omega
    rw [h10,Int.mul_zero] at h2
    rcases (by omega:q=0∨q=1) with rfl | rfl
    ·omega
    ·omega
   go_wp2
   (try simp only [Exit.inBlock,Exit.then])
   exact bodyPost_end (results_none rfl _ _ _) rfl ⟨us,rfl,hU,HE.out,hg,HSZ.out⟩

theorem sgn_same (b:Bool) (x y:Int):sgn b (x+y)=sgn b x+sgn b y:=by cases b <;> simp [sgn];omega

theorem rAdd_any (w:World) (na nb:Bool) (ax ay:Option Addr) (n m cx cy:Nat) (xs ys:List Int) (hX:Sl w ax n cx xs) (hY:Sl w ay m cy ys) (hcx:Canon xs) (hcy:Canon ys) (hb1:n≤1000000) (hb2:m≤1000000) :
  Calls Tryz.prog 95 #[.agg #[.bool na,.slice ax n cx],.agg #[.bool nb,.slice ay m cy]] w (zBc w (sgn na (val xs)+sgn nb (val ys))):=by
 obtain ⟨w0,hw0,hA,hB,hC,hbl,HS⟩:=zEl w (.bool na) (.slice ax n cx) (.bool nb) (.slice ay m cy) 36
 have HCX:=hidd hcx
 have HCY:=hidd hcy
 clear hcx hcy
 by_cases hab:na=nb
 ·subst hab
  have HE:Hid (sgn na (val xs+val ys)=sgn na (val xs)+sgn na (val ys)):=sgn_same _ _ _
  have hnn:(na == na)=true:=by simp
  go_enter Tryz.func95,Tryz.ntmps95
  go_wp2
  rw [← hw0]
  clear hw0
  have hXd:=(hX.mono hbl).drew
  have hYd:=(hY.mono hbl).drew
  have hCd:IntBox w0.drew (w.heap.size+1+1) (.bool false) (.slice none 0 0):=hC
  have hcut:w.heap.size+2≤w0.heap.size:=by have:=HS.out;omega
  obtain ⟨ca0,ca1,_,_⟩:=hA
  obtain ⟨cb0,cb1,_,_⟩:=hB
  go_region_held3 (fun W=>w.heap.size+2≤W.heap.size∧(∀ b o,b<w.heap.size+2→W.cell? ⟨b,o,none⟩=w0.cell? ⟨b,o,none⟩)∧∀ b o,b<w.heap.size+2→W.frozen? ⟨b,o,none⟩=w0.frozen? ⟨b,o,none⟩)
   (first | exact Kept.start hcut | assumption | exact Kept.call (by assumption) (by assumption) | exact Kept.set (Kept.set (by assumption) zm _) zm _)
   (first | (go_at_call 132;(with_reducible refine (plus_any _ _ _ _ _ _ _ _ _ hXd hYd zm zm).mono ?_);rintro e w2 ⟨az,cz,lz,zs,rfl,hsz,hlz,hvz,hB2⟩) | (go_at_call 47;(with_reducible refine (zEe _ _ _ _ _ _ hsz zm).mono ?_);rintro e w3 ⟨v,rfl,⟨ng,ao,nn,cc,rs,rfl,hrs,hrc,hrn,hrz⟩,hb3⟩;obtain ⟨e0,e1,e2,e3⟩:=(hCd.mono hB2 hCd.lt).mono hb3 (Nat.lt_of_lt_of_le hCd.lt hB2.size)))
  go_wp2
  refine bodyPost_ret (v:=.agg #[.bool ng,.slice ao nn cc]) ?_ rfl ?_
  ·simp [results,Tryz.results95,go_sem,e0,e1]
  ·have hb4:Below w.heap.size w w3:=(hbl.drew.trans (hB2.mono (by have:=HS.out;simp;omega))).trans (hb3.mono (by have:=HS.out;have:=hB2.size;simp at this;omega))
   exact zB7 ⟨e0,e1,e2,e3⟩ hrs hrc hrn (by rw [← hrz,hvz];exact HE.out.symm) hb4 zm
 ·have hnn:(na == nb)=false:=by simpa using hab
  go_enter Tryz.func95,Tryz.ntmps95
  go_wp2_with fail
  rw [← hw0]
  clear hw0
  refine (zKo _ _ _ _ _ _ _ _ _ (hX.mono hbl) (hY.mono hbl) HCX.out HCY.out zm zm).mono ?_
  rintro e w1 ⟨rfl,hd⟩
  have hbl1:Below w.heap.size w w1:=hbl.trans (hd.below _)
  obtain ⟨d,hw1⟩:=hd
  have hA1:IntBox w1 w.heap.size (.bool na) (.slice ax n cx):=by rw [hw1];exact hA
  have hB1:IntBox w1 (w.heap.size+1) (.bool nb) (.slice ay m cy):=by rw [hw1];exact hB
  have hC1:IntBox w1 (w.heap.size+1+1) (.bool false) (.slice none 0 0):=by rw [hw1];exact hC
  have HS1:Hid (w1.heap.size=w.heap.size+3):=by show _=_;rw [hw1];exact HS.out
  clear hw1 hA hB hC hbl HS
  rename Below w.heap.size w w1=>hbl
  rename IntBox w1 w.heap.size (.bool na) (.slice ax n cx)=>hA
  rename IntBox w1 (w.heap.size+1) (.bool nb) (.slice ay m cy)=>hB
  rename IntBox w1 (w.heap.size+1+1) (.bool false) (.slice none 0 0)=>hC
  rename Hid (w1.heap.size=w.heap.size+3)=>HS
  have hx0:=zAm hX.digs
  have hy0:=zAm hY.digs
  by_cases hle:val ys≤val xs
  ·have HL:=hidd hle
   have hge:decide (cmpI (val xs) (val ys) ≥ 0)=true:=by
    rw [decide_eq_true_eq];unfold cmpI;rw [if_neg zm];split <;> omega
   have HE:Hid (sgn na (val xs-val ys)=sgn na (val xs)+sgn nb (val ys)):=by
    show _=_
    cases na <;> cases nb <;> simp [sgn] at hab ⊢ <;> omega
   clear hle hx0 hy0
   generalize cmpI (val xs) (val ys)=cc0 at *
   go_wp2
   have hXd:=(hX.mono hbl).drew
   have hYd:=(hY.mono hbl).drew
   have hCd:IntBox w1.drew (w.heap.size+1+1) (.bool false) (.slice none 0 0):=hC
   have hcut:w.heap.size+2≤w1.heap.size:=by have:=HS.out;omega
   obtain ⟨ca0,ca1,_,_⟩:=hA
   obtain ⟨cb0,cb1,_,_⟩:=hB
   go_region_held3 (fun W=>w.heap.size+2≤W.heap.size∧(∀ b o,b<w.heap.size+2→W.cell? ⟨b,o,none⟩=w1.cell? ⟨b,o,none⟩)∧∀ b o,b<w.heap.size+2→W.frozen? ⟨b,o,none⟩=w1.frozen? ⟨b,o,none⟩)
    (first | exact Kept.start hcut | assumption | exact Kept.call (by assumption) (by assumption) | exact Kept.set (Kept.set (by assumption) zm _) zm _)
    (first | (go_at_call 133;(with_reducible refine (zQi _ _ _ _ _ _ _ _ _ hXd hYd HCY.out HL.out zm zm).mono ?_);rintro e w2 ⟨az,cz,zs,rfl,hsz,hvz,hB2⟩) | (go_at_call 47;(with_reducible refine (zEe _ _ _ _ _ _ hsz zm).mono ?_);rintro e w3 ⟨v,rfl,⟨ng,ao,nn,cc,rs,rfl,hrs,hrc,hrn,hrz⟩,hb3⟩;obtain ⟨e0,e1,e2,e3⟩:=(hCd.mono hB2 hCd.lt).mono hb3 (Nat.lt_of_lt_of_le hCd.lt hB2.size)))
   go_wp2
   refine bodyPost_ret (v:=.agg #[.bool ng,.slice ao nn cc]) ?_ rfl ?_
   ·simp [results,Tryz.results95,go_sem,e0,e1]
   ·have hb4:Below w.heap.size w w3:=(hbl.drew.trans (hB2.mono (by have:=HS.out;simp;omega))).trans (hb3.mono (by have:=HS.out;have:=hB2.size;simp at this;omega))
    exact zB7 ⟨e0,e1,e2,e3⟩ hrs hrc hrn (by rw [← hrz,hvz];exact HE.out.symm) hb4 zm
  ·have HL:Hid (val xs≤val ys):=by show _≤_;omega
   have hge:decide (cmpI (val xs) (val ys) ≥ 0)=false:=by
    rw [decide_eq_false_iff_not];unfold cmpI;rw [if_pos zm];omega
   have HE:Hid (sgn nb (val ys-val xs)=sgn na (val xs)+sgn nb (val ys)):=by
    show _=_
    cases na <;> cases nb <;> simp [sgn] at hab ⊢ <;> omega
   clear hle hx0 hy0
   generalize cmpI (val xs) (val ys)=cc0 at *
   go_wp2
   have hXd:=(hX.mono hbl).drew
   have hYd:=(hY.mono hbl).drew
   have hCd:IntBox w1.drew (w.heap.size+1+1) (.bool false) (.slice none 0 0):=hC
   have hcut:w.heap.size+2≤w1.heap.size:=by have:=HS.out;omega
   obtain ⟨ca0,ca1,_,_⟩:=hA
   obtain ⟨cb0,cb1,_,_⟩:=hB
   go_region_held3 (fun W=>w.heap.size+2≤W.heap.size∧(∀ b o,b<w.heap.size+2→W.cell? ⟨b,o,none⟩=w1.cell? ⟨b,o,none⟩)∧∀ b o,b<w.heap.size+2→W.frozen? ⟨b,o,none⟩=w1.frozen? ⟨b,o,none⟩)
    (first | exact Kept.start hcut | assumption | exact Kept.call (by assumption) (by assumption) | exact Kept.set (Kept.set (by assumption) zm _) zm _)
    (first | (go_at_call 133;(with_reducible refine (zQi _ _ _ _ _ _ _ _ _ hYd hXd HCX.out HL.out zm zm).mono ?_);rintro e w2 ⟨az,cz,zs,rfl,hsz,hvz,hB2⟩) | (go_at_call 47;(with_reducible refine (zEe _ _ _ _ _ _ hsz zm).mono ?_);rintro e w3 ⟨v,rfl,⟨ng,ao,nn,cc,rs,rfl,hrs,hrc,hrn,hrz⟩,hb3⟩;obtain ⟨e0,e1,e2,e3⟩:=(hCd.mono hB2 hCd.lt).mono hb3 (Nat.lt_of_lt_of_le hCd.lt hB2.size)))
   go_wp2
   refine bodyPost_ret (v:=.agg #[.bool ng,.slice ao nn cc]) ?_ rfl ?_
   ·simp [results,Tryz.results95,go_sem,e0,e1]
   ·have hb4:Below w.heap.size w w3:=(hbl.drew.trans (hB2.mono (by have:=HS.out;simp;omega))).trans (hb3.mono (by have:=HS.out;have:=hB2.size;simp at this;omega))
    exact zB7 ⟨e0,e1,e2,e3⟩ hrs hrc hrn (by rw [← hrz,hvz];exact HE.out.symm) hb4 zm
theorem zFg {w:World} {v v':Value} {z z':Int} (h:Num w v z) (h':Num w v' z'):Calls Tryz.prog 95 #[v,v'] w (zBc w (z+z')):=by
 obtain ⟨neg,ao,n,c,xs,rfl,hs,hn,rfl,hc,_⟩:=h
 obtain ⟨neg',ao',n',c',xs',rfl,hs',hn',rfl,hc',_⟩:=h'
 exact rAdd_any _ _ _ _ _ _ _ _ _ _ _ hs hs' hc hc' zm zm

theorem zK3 (w:World) {n n':Bool} {ao ao':Option Addr} {k c k' c':Nat} {z z':Int} (h:Num w (.agg #[.bool n,.slice ao k c]) z) (h':Num w (.agg #[.bool n',.slice ao' k' c']) z') (t:TypeId) :
  ∃ w0,w0=((w.alloc (.cells #[.bool n,.slice ao k c] t)).alloc (.cells #[.bool n',.slice ao' k' c'] t)).alloc (.cells #[.bool false,.slice none 0 0] t) ∧
   (∀ W,Below (w.heap.size+2) w0 W→BoxNum W w.heap.size z∧BoxNum W (w.heap.size+1) z'∧Below w.heap.size w W)∧BoxNum w0 (w.heap.size+1+1) 0∧Below w.heap.size w w0∧w0.heap.size=w.heap.size+3:=by
 obtain ⟨w0,hw0,hA,hB,hC,hbl,HS⟩:=zEl w (.bool n) (.slice ao k c) (.bool n') (.slice ao' k' c') t
 refine ⟨w0,hw0,fun W hb=>?_,⟨_,_,_,_,hC,Num.zero _⟩,hbl,HS.out⟩
 have hbW:Below w.heap.size w W:=hbl.trans (hb.mono zm)
 exact ⟨⟨_,_,_,_,hA.mono hb zm,h.mono hbW⟩,⟨_,_,_,_,hB.mono hb zm,h'.mono hbW⟩,hbW⟩

theorem zT1:En 103:=zAd Tryz.func103 (by kernel_rfl) rfl
theorem zJl:En 95:=zAd Tryz.func95 (by kernel_rfl) rfl

theorem RSubV {w:World} {v v':Value} {z z':Int} (h:Num w v z) (h':Num w v' z') {K:Nat} (hz:ab z<pw K) (hz':ab z'<pw K) (hK:K≤800000):Calls Tryz.prog 89 #[v,v'] w (zBc w (z-z')):=by
 obtain ⟨n,ao,k,c,rfl⟩:=h.parts
 obtain ⟨n',ao',k',c',rfl⟩:=h'.parts
 obtain ⟨w0,hw0,hXW,hR,hbl,hsz⟩:=zK3 w h h' 36
 have Bn:Hid (ab (-z')<pw K):=zKz hz'
 have Bs:Hid (ab (z-z')<pw (K+1)):=zCm hz hz' zm zm
 go_enter Tryz.func89,Tryz.ntmps89
 go_upto_region 1 with (fail)
 rw [← hw0]
 clear hw0
 go_wp2
 have hp:(plan [Fc.num z,Fc.num z',Fc.num (-z'),Fc.num (z-z'),Fc.any] [(w.heap.size+1+1,4,0,z-z')] []).Ok (w.heap.size+2) w0.heap.size:=zFc (by simp;omega) (by simp) (by simp) zm
 have hm:=PMono.of hp
 refine zC1 (p:=plan [Fc.num z,Fc.num z',Fc.num (-z'),Fc.num (z-z'),Fc.any] [(w.heap.size+1+1,4,0,z-z')] []) (B:=w.heap.size+2) (B0:=w0.heap.size) (w0:=w0) (by kernel_rfl) rfl rfl (zFd (by simp;exact hR) (Below.refl _ _))
  ⟨?_,?_,?_,?_,?_,trivial⟩ ?_
 ·exact g_load (b:=w.heap.size) (z:=z) hm ⟨by simp [plan],by simp [plan]⟩ trivial (src_out rfl rfl (fun W hb=>⟨rfl,(hXW W hb).1⟩)) (fun v w h=>h)
 ·exact g_load (b:=w.heap.size+1) (z:=z') hm ⟨by simp [plan],by simp [plan]⟩ trivial (src_out rfl rfl (fun W hb=>⟨rfl,(hXW W hb).2.1⟩)) (fun v w h=>h)
 ·exact g_call1 (F:=(Fc.num z').P) hm ⟨by simp [plan],by simp [plan]⟩ trivial zT1 (zCd 1 rfl rfl (by simp) rfl (fun v w h=>h)) (fun v w h=>exK (RNegV h) Bn.out zm)
 ·exact zE8 (F:=(Fc.num z).P) (G:=(Fc.num (-z')).P) hm ⟨by simp [plan],by simp [plan]⟩ trivial zJl (zCd 0 rfl rfl (by simp) rfl (fun v w h=>h)) (zCd 2 rfl rfl (by simp) rfl (fun v w h=>h)) (fun v v' w h h'=>by
   have:=zFg h h'
   rw [show z+-z'=z-z' by omega] at this
   exact exK this Bs.out zm)
 ·exact zB2 (b:=w.heap.size+1+1) (j:=3) (z:=0) (z':=z-z') hp rfl (by simp [plan]) rfl rfl rfl (by simp) rfl (fun v w h=>h) (fun _ _=>trivial) (by simp [plan]) (by simp [plan])
 ·intro L vs w2 hL hG
  obtain ⟨ng,ao2,k2,c2,⟨e0,e1,e2,e3⟩,hN⟩:BoxNum w2 (w.heap.size+1+1) (z-z'):=by
   have:=hG.old (w.heap.size+1+1,4,0,z-z') (by simp [plan])
   simpa [hL 4 (by simp)] using this
  have hb:Below w.heap.size w w2:=(hXW w2 hG.below).2.2
  rw [zAo hL]
  simp only [zP,Nat.zero_add,Nat.reduceAdd]
  clear hL hG hp
  go_wp2
  refine bodyPost_ret (v:=.agg #[.bool ng,.slice ao2 k2 c2]) ?_ rfl ⟨_,rfl,hN.isInt,hb⟩
  simp [results,Tryz.results89,go_sem,e0,e1]

theorem rmac {i k:Nat} {us zs ys:List Int} {q x y z:Int} (hk:i+k<us.length) (h:val (us.take (i+k))+pw (i+k)*q=val (zs.take (i+k))+pw i*(x*val (ys.take k))) (hz:zs.getD (i+k) 0=z) (hy:ys.getD k 0=y) :
  val ((us.set (i+k) ((q+(x*y+z)) % 4294967296)).take (i+(k+1)))+pw (i+(k+1))*((q+(x*y+z))/4294967296)=val (zs.take (i+(k+1)))+pw i*(x*val (ys.take (k+1))):=by
 rw [show i+(k+1)=(i+k)+1 by omega,zAq,zC4 _ _ _ _ (Nat.le_refl _),zB6 _ _ _ hk,zAq zs,zAq ys,hz,hy]
 have h1:=zDz (i+k) (q+(x*y+z))
 rw [Int.mul_add,Int.mul_add] at h1
 rw [Int.mul_add,Int.mul_add]
 have h2:pw i*(x*(pw k*y))=pw (i+k)*(x*y):=by rw [zEs];ac_rfl
 rw [h2]
 omega

theorem rMul_any (w:World) (na nb:Bool) (ax ay:Option Addr) (n m cx cy:Nat) (xs ys:List Int) (hX:Sl w ax n cx xs) (hY:Sl w ay m cy ys) (hb1:n≤1000000) (hb2:m≤1000000) :
  Calls Tryz.prog 96 #[.agg #[.bool na,.slice ax n cx],.agg #[.bool nb,.slice ay m cy]] w (zBc w (sgn na (val xs)*sgn nb (val ys))):=by
 obtain ⟨w0,hw0,hA,hB,hC,hbl,HS⟩:=zEl w (.bool na) (.slice ax n cx) (.bool nb) (.slice ay m cy) 36
 have hn:=hidd hX.len
 have hm:=hidd hY.len
 obtain ⟨ca0,ca1,_,_⟩:=hA
 obtain ⟨cb0,cb1,_,_⟩:=hB
 go_enter Tryz.func96,Tryz.ntmps96
 go_upto_region 1 with (fail)
 rw [← hw0]
 clear hw0
 go_wp2_with (at_make;refine zEi _ rfl _ _ 27 rfl 104 Tryz.underlying27 (by kernel_rfl) _ _ _ _ rfl rfl (n+m) rfl rfl zm ?_;intro w1 hrow hb1' hs1)
 obtain ⟨B,hB3⟩:∃ B,B=w0.heap.size:=⟨_,rfl⟩
 rw [← hB3] at hrow hb1' hs1
 rw [← hB3]
 have HB4:Hid (B=w.heap.size+3):=by show B=_;rw [hB3];exact HS.out
 have hBlt:w.heap.size+2<B:=by have:=HB4.out;omega
 clear hB3 HS HB4
 go_loopw [6] (fun vi wr=>∃ (i:Nat) (zs:List Int),i≤n∧vi=.int .i64 i∧zs.length=n+m∧Row wr 104 B zs∧Below B w0 wr∧val (zs.take (i+m))=val (xs.take i)*val ys) (fun vi _=>n-(intOf vi).toNat)
 case atStart=>exact ⟨0,_,Nat.zero_le _,rfl,by simp,hrow,hb1',by rw [List.take_replicate,zGq];simp [val]⟩
 case round=>
  obtain ⟨i,zs,hi,rfl,hzl,hr,hbr,hv⟩:=hrel
  have HZL:=hidd hzl
  have HV:=hidd hv
  clear hzl hv hrow hb1' hs1
  have da0:=(hbr.cell (p:=⟨w.heap.size,0,none⟩) (by show w.heap.size<_;omega)).trans ca0
  have da1:=(hbr.cell (p:=⟨w.heap.size,1,none⟩) (by show w.heap.size<_;omega)).trans ca1
  have db0:=(hbr.cell (p:=⟨w.heap.size+1,0,none⟩) (by show w.heap.size+1<_;omega)).trans cb0
  have db1:=(hbr.cell (p:=⟨w.heap.size+1,1,none⟩) (by show w.heap.size+1<_;omega)).trans cb1
  have hbw:Below w.heap.size w wr:=hbl.trans (hbr.mono zm)
  by_cases hin:i<n
  ·obtain ⟨b1,off1,rfl,hbl1,x,hxc0,hx0,hx1,HX⟩:=hX.cells.at (k:=i) (by rw [hn.out];exact hin)
   go_wp2
   go_loopw [7,8] (fun vc vk wq=>∃ (k:Nat) (q:Int) (us:List Int),k≤m∧vk=.int .i64 k∧vc=.int .u64 q∧0≤q∧q<4294967296∧us.length=n+m∧Row wq 104 B us∧Below B w0 wq∧us.drop (i+k)=zs.drop (i+k) ∧
    val (us.take (i+k))+pw (i+k)*q=val (zs.take (i+k))+pw i*(x*val (ys.take k))) (fun _ vk _=>m-(intOf vk).toNat)
   case atStart=>exact ⟨0,0,zs,Nat.zero_le _,rfl,rfl,zm,zm,HZL.out,hr,hbr,rfl,by simp [val]⟩
   case round=>
    obtain ⟨k,q,us,hk,rfl,rfl,hq0,hq1,hul,hr2,hbr2,hdr,hv2⟩:=hrel
    have HUL:=hidd hul
    have HDR:=hidd hdr
    have HV2:=hidd hv2
    clear hul hdr hv2 da0 da1 db0 db1 hr hbr hbw
    have da0:=(hbr2.cell (p:=⟨w.heap.size,0,none⟩) (by show w.heap.size<_;omega)).trans ca0
    have da1:=(hbr2.cell (p:=⟨w.heap.size,1,none⟩) (by show w.heap.size<_;omega)).trans ca1
    have db0:=(hbr2.cell (p:=⟨w.heap.size+1,0,none⟩) (by show w.heap.size+1<_;omega)).trans cb0
    have db1:=(hbr2.cell (p:=⟨w.heap.size+1,1,none⟩) (by show w.heap.size+1<_;omega)).trans cb1
    have hbw2:Below w.heap.size w wr:=hbl.trans (hbr2.mono zm)
    have hul:=HUL.out
    by_cases hkm:k<m
    ·obtain ⟨b2,off2,rfl,hbl2,y,hyc0,hy0,hy1,HY⟩:=hY.cells.at (k:=k) (by rw [hm.out];exact hkm)
     have hku:i+k<us.length:=zm
     obtain ⟨z,hzc,hz0,hz1,HZ⟩:=hr2.at hku
     have hfr:=hr2.frozen (i+k)
     have hxc:=(hbw2.cell (p:=⟨b1,off1+i,none⟩) hbl1).trans hxc0
     have hyc:=(hbw2.cell (p:=⟨b2,off2+k,none⟩) hbl2).trans hyc0
     obtain ⟨hp0,hp1⟩:=zH5 hx0 hx1 hy0 hy1
     have hw1:IntKind.u64.wrap x=x:=IntWalk.u64_in _ zm
     have hw2:IntKind.u64.wrap y=y:=IntWalk.u64_in _ zm
     have hw3:IntKind.u64.wrap (x*y)=x*y:=IntWalk.u64_in _ zm
     have hw4:IntKind.u64.wrap z=z:=IntWalk.u64_in _ zm
     have hw5:IntKind.u64.wrap (x*y+z)=x*y+z:=IntWalk.u64_in _ zm
     have hw6:IntKind.u64.wrap (q+(x*y+z))=q+(x*y+z):=IntWalk.u64_in _ zm
     have hik:IntKind.i64.wrap ((i:Int)+(k:Int))=((i+k:Nat):Int):=by rw [Int.natCast_add];exact IntWalk.i64_in _ zm
     have hiknm:i+k<n+m:=zm
     clear hul
     go_wp2
     go_quiet (fail)
     obtain ⟨w2,hW2⟩:∃ w2,w2=wr.drewN nq:=⟨_,rfl⟩
     rw [← hW2]
     have hrw:Row w2 104 B us:=by rw [hW2];exact hr2
     have hbw:Below B w0 w2:=by rw [hW2];exact hbr2.trans ((Drawn.refl wr).drewN nq |>.below _)
     clear hW2 hr2 hbr2 hbw2 hzc hfr hxc hyc da0 da1 db0 db1 hw1 hw2 hw3 hw4 hw5 hw6
     have hfr:=hrw.frozen (i+k)
     have hzc:=hrw.cell hku
     go_wp2
     go_roundw
     case rel=>
      refine ⟨k+1,(q+(x*y+z))/4294967296,us.set (i+k) ((q+(x*y+z)) % 4294967296),zm,by go_num,by go_num,zm,zm,by rw [List.length_set];exact HUL.out,hrw.set ⟨zm,zm⟩,hbw.setCell (Nat.le_refl _) _,?_,?_⟩
      ·rw [List.drop_set_of_lt zm]
       have:=congrArg (List.drop 1) HDR.out
       simpa [List.drop_drop,Nat.add_assoc] using this
      ·have hzz:zs.getD (i+k) 0=z:=by
        have:=congrArg (fun l:List Int=>l.getD 0 0) HDR.out
        simp only [zC7,Nat.add_zero] at this
        rw [← this];exact HZ.out
       exact rmac hku HV2.out hzz HY.out
     case measure=>simp [intOf];omega
    ·obtain rfl:k=m:=zm
     have hzc:=hr2.cell (j:=i+k) zm
     have hfr:=hr2.frozen (i+k)
     have hik:IntKind.i64.wrap ((i:Int)+(k:Int))=((i+k:Nat):Int):=by rw [Int.natCast_add];exact IntWalk.i64_in _ zm
     have hqm:q % 4294967296=q:=zm
     clear hul
     go_wp2
     go_roundw
     case rel=>
      refine ⟨i+1,us.set (i+k) q,zm,by go_num,by rw [List.length_set];exact HUL.out,hr2.set ⟨zm,zm⟩,hbr2.setCell (Nat.le_refl _) _,?_⟩
      rw [show i+1+k=(i+k)+1 by omega,zAq,zC4 _ _ _ _ (Nat.le_refl _),zB6 _ _ _ (by rw [HUL.out];omega),zAq,HX.out]
      have h1:=HV2.out
      rw [HV.out,zAw ys (by rw [hm.out];omega)] at h1
      rw [Int.add_mul,h1]
      congr 1
      ac_rfl
     case measure=>simp [intOf];omega
  ·obtain rfl:i=n:=zm
   have HE:Hid (val zs=val xs*val ys):=by
    have h1:=HV.out
    rw [zAw zs (by rw [HZL.out];omega),zAw xs (by rw [hn.out];omega)] at h1
    exact h1
   have hS:=hr.sl HZL.out
   have hCr:=hC.mono hbr zm
   go_wp2_with fail
   refine (zEe _ _ _ _ _ _ hS zm).mono ?_
   rintro e w3 ⟨v,rfl,⟨ng,ao,nn,cc,rs,rfl,hrs,hrc,hrn,hrz⟩,hb3⟩
   obtain ⟨e0,e1,e2,e3⟩:=hCr.mono hb3 hCr.lt
   have hb4:Below w.heap.size w w3:=hbw.trans (hb3.mono hbw.size)
   have hz:sgn na (val xs)*sgn nb (val ys)=sgn ng (val rs):=by
    rw [← hrz,HE.out]
    cases na <;> cases nb <;> simp [sgn,Int.mul_neg,Int.neg_mul]
   have HZ:=hidd hz
   clear hrz hz
   go_wp2
   refine bodyPost_ret (v:=.agg #[.bool ng,.slice ao nn cc]) ?_ rfl ?_
   ·simp [results,Tryz.results96,go_sem,e0,e1]
   ·exact zB7 ⟨e0,e1,e2,e3⟩ hrs hrc hrn HZ.out hb4 zm

theorem zDc {w:World} {v v':Value} {z z':Int} (h:Num w v z) (h':Num w v' z'):Calls Tryz.prog 96 #[v,v'] w (zBc w (z*z')):=by
 obtain ⟨neg,ao,n,c,xs,rfl,hs,hn,rfl,hc,_⟩:=h
 obtain ⟨neg',ao',n',c',xs',rfl,hs',hn',rfl,hc',_⟩:=h'
 exact rMul_any _ _ _ _ _ _ _ _ _ _ _ hs hs' zm zm

end Go.Proofs.YtjadciofpgjofaaGreatDoor

namespace Go.Proofs.YtjadciofpgjofaaGreatDoor
open Go Go.RowKit

def DivR (w:World) (X Y:Int) (e:Ending) (w':World):Prop:=
 ∃ aq lq cq qs ar lr cr rs,e=.returned (.agg #[.slice aq lq cq,.slice ar lr cr])∧Sl w' aq lq cq qs∧Sl w' ar lr cr rs∧lq≤3000000∧lr≤3000000∧val qs=X/Y∧val rs=X % Y∧Below w.heap.size w w'

theorem val_two {xs:List Int} (h:xs.length≤2):val xs=xs.getD 0 0+xs.getD 1 0*4294967296:=by
 have h1:=zFv xs 0
 have h2:=zFv xs 1
 rw [List.drop_of_length_le (show xs.length≤1+1 by omega)] at h2
 rw [List.drop_zero,h2] at h1
 rw [h1]
 show _+4294967296*(_+4294967296*0)=_
 omega

theorem or_pair {x y:Int} (hx0:0≤x) (hx1:x<4294967296) (hy0:0≤y) (hy1:y<4294967296):bits .or .u64 x (y*4294967296)=x+y*4294967296:=(zIa x y hx0 hx1 hy0 hy1).1

theorem zQ0 {w S:World} {N:Nat} (hS:S.heap.size=N) (hb:Below w.heap.size w S) (T U:Int) (hT0:0≤T) (hT1:T<18446744073709551616) (hU0:0≤U) (hU1:U<18446744073709551616) :
  Sl (((S.alloc (.cells #[.int .u32 (T % 4294967296),.int .u32 (T/4294967296)] 104)).alloc (.cells #[.int .u32 (U % 4294967296),.int .u32 (U/4294967296)] 104)).drew) (some ⟨N,0,none⟩) 2 2 [T % 4294967296,T/4294967296] ∧
  Sl (((S.alloc (.cells #[.int .u32 (T % 4294967296),.int .u32 (T/4294967296)] 104)).alloc (.cells #[.int .u32 (U % 4294967296),.int .u32 (U/4294967296)] 104)).drew) (some ⟨N+1,0,none⟩) 2 2 [U % 4294967296,U/4294967296] ∧
  Below w.heap.size w (((S.alloc (.cells #[.int .u32 (T % 4294967296),.int .u32 (T/4294967296)] 104)).alloc (.cells #[.int .u32 (U % 4294967296),.int .u32 (U/4294967296)] 104)).drew) ∧
  val [T % 4294967296,T/4294967296]=T∧val [U % 4294967296,U/4294967296]=U:=by
 subst hS
 obtain ⟨s1,v1⟩:=zL0 S 104 rfl T hT0 hT1
 obtain ⟨s2,v2⟩:=zL0 (S.alloc (.cells #[.int .u32 (T % 4294967296),.int .u32 (T/4294967296)] 104)) 104 rfl U hU0 hU1
 rw [World.size_alloc] at s2
 have h1:=hb.alloc hb.size (.cells #[.int .u32 (T % 4294967296),.int .u32 (T/4294967296)] 104)
 have h2:=h1.alloc h1.size (.cells #[.int .u32 (U % 4294967296),.int .u32 (U/4294967296)] 104)
 exact ⟨(s1.mono (zAh _ _)).drew,s2.drew,h2.drew,v1.out,v2.out⟩

theorem zKn {w w0:World} {p q:Value} (hbl:Below w.heap.size w w0) (hI:IntBox w0 w.heap.size p q) (u v:Value) :
  ∃ S,S=(w0.setCell ⟨w.heap.size,0,none⟩ u).setCell ⟨w.heap.size,1,none⟩ v∧S.heap.size=w0.heap.size∧Below w.heap.size w S∧S.cell? ⟨w.heap.size,0,none⟩=some u∧S.cell? ⟨w.heap.size,1,none⟩=some v:=by
 obtain ⟨e0,e1,_,_⟩:=hI
 have h1:(w0.setCell ⟨w.heap.size,0,none⟩ u).cell? ⟨w.heap.size,1,none⟩=some q:=by
  rw [World.cell?_setCell_other _ _ _ _ (by intro e;cases e)];exact e1
 refine ⟨_,rfl,by rw [World.size_setCell,World.size_setCell],(hbl.setCell (Nat.le_refl _) _).setCell (Nat.le_refl _) _,?_,?_⟩
 ·rw [World.cell?_setCell_other _ _ _ _ (by intro e;cases e)]
  exact World.cell?_setCell_same _ _ _ e0
 ·exact World.cell?_setCell_same _ _ _ h1

theorem zTb (w:World) (ax ay:Option Addr) (n m cx cy:Nat) (xs ys:List Int) (hX:Sl w ax n cx xs) (hY:Sl w ay m cy ys) (hy0:0<val ys) (hn:n≤2) (hm:m≤2) :
  Calls Tryz.prog 148 #[.slice ax n cx,.slice ay m cy] w (DivR w (val xs) (val ys)):=by
 obtain ⟨x0,hx0⟩:∃ x,xs.getD 0 0=x:=⟨_,rfl⟩
 obtain ⟨x1,hx1⟩:∃ x,xs.getD 1 0=x:=⟨_,rfl⟩
 obtain ⟨y0,hy0'⟩:∃ x,ys.getD 0 0=x:=⟨_,rfl⟩
 obtain ⟨y1,hy1⟩:∃ x,ys.getD 1 0=x:=⟨_,rfl⟩
 have dx0:=hX.digs.getD 0
 have dx1:=hX.digs.getD 1
 have dy0:=hY.digs.getD 0
 have dy1:=hY.digs.getD 1
 have vx:=val_two (show xs.length≤2 by rw [hX.len];exact hn)
 have vy:=val_two (show ys.length≤2 by rw [hY.len];exact hm)
 rw [hx0] at dx0 vx
 rw [hx1] at dx1 vx
 rw [hy0'] at dy0 vy
 rw [hy1] at dy1 vy
 have ox:=or_pair dx0.1 dx0.2 dx1.1 dx1.2
 have oy:=or_pair dy0.1 dy0.2 dy1.1 dy1.2
 obtain ⟨X,hXe⟩:∃ X,X=x0+x1*4294967296:=⟨_,rfl⟩
 obtain ⟨Y,hYe⟩:∃ Y,Y=y0+y1*4294967296:=⟨_,rfl⟩
 rw [← hXe] at ox vx
 rw [← hYe] at oy vy
 rw [vx,vy]
 rw [vy] at hy0
 have hX0:0≤X:=zm
 have hX1:X<18446744073709551616:=zm
 have hY1:Y<18446744073709551616:=zm
 have hx1m:x1*4294967296<18446744073709551616:=zm
 have hx1n:0≤x1*4294967296:=zm
 have hy1m:y1*4294967296<18446744073709551616:=zm
 have hy1n:0≤y1*4294967296:=zm
 have Hx0:=hidd hx0
 have Hx1:=hidd hx1
 have Hy0:=hidd hy0'
 have Hy1:=hidd hy1
 clear hx0 hx1 hy0' hy1 hXe hYe vx vy dx0 dx1 dy0 dy1
 obtain ⟨w0,hw0⟩:∃ w0,w0=w.alloc (.cells #[.slice none 0 0,.slice none 0 0] 141):=⟨_,rfl⟩
 have hbl:Below w.heap.size w w0:=by rw [hw0];exact zAh _ _
 have hX0w:=hX.mono hbl
 have hY0w:=hY.mono hbl
 have hI:IntBox w0 w.heap.size (.slice none 0 0) (.slice none 0 0):=by rw [hw0];exact IntBox.new _ _ _ _
 have hsz:w0.heap.size=w.heap.size+1:=by rw [hw0];simp
 have HSZ:=hidd hsz
 clear hsz
 go_enter Tryz.func148,Tryz.ntmps148
 go_upto_region 1 with (fail)
 rw [← hw0]
 clear hw0
 go_wp2_with fail
 refine (zD3 _ _ _ _ _ hX0w zm 0 zm x0 Hx0.out _ rfl).mono ?_
 rintro e w' ⟨rfl,rfl⟩
 go_wp2_with fail
 refine (zD3 _ _ _ _ _ hX0w zm 1 zm x1 Hx1.out _ rfl).mono ?_
 rintro e w' ⟨rfl,rfl⟩
 go_wp2_with fail
 refine (zD3 _ _ _ _ _ hY0w zm 0 zm y0 Hy0.out _ rfl).mono ?_
 rintro e w' ⟨rfl,rfl⟩
 go_wp2_with fail
 refine (zD3 _ _ _ _ _ hY0w zm 1 zm y1 Hy1.out _ rfl).mono ?_
 rintro e w' ⟨rfl,rfl⟩
 have hq0:0≤X/Y:=Int.ediv_nonneg hX0 zm
 have hq1:X/Y<18446744073709551616:=Int.lt_of_le_of_lt (Int.ediv_le_self _ hX0) hX1
 have hr0:0≤X % Y:=Int.emod_nonneg _ zm
 have hr1:X % Y<18446744073709551616:=Int.lt_trans (Int.emod_lt_of_pos _ hy0) hY1
 have hYz:(Y == 0)=false:=by simp;omega
 have hYn:Y≠0:=zm
 have hI2:=hI
 obtain ⟨e0,e1,e2,e3⟩:=hI
 have hlt:w.heap.size<w0.heap.size:=by have:=HSZ.out;omega
 have hne:¬ w.heap.size=w0.heap.size:=zm
 have hne2:¬ w.heap.size=w0.heap.size+1:=zm
 go_wp2
 go_region
 ·obtain ⟨S,hS,hsz,hbS,c0,c1⟩:=zKn hbl hI2 (.slice (some ⟨w0.heap.size,0,none⟩) 2 2) (.slice (some ⟨w0.heap.size+1,0,none⟩) 2 2)
  rw [← hS]
  obtain ⟨s1,s2,hbW,v1,v2⟩:=zQ0 hsz hbS (X/Y) (X % Y) hq0 hq1 hr0 hr1
  clear hS
  have hltS:w.heap.size<S.heap.size:=zm
  go_wp2
  refine bodyPost_ret (v:=.agg #[.slice (some ⟨w0.heap.size,0,none⟩) 2 2,.slice (some ⟨w0.heap.size+1,0,none⟩) 2 2]) ?_ rfl ⟨_,_,_,_,_,_,_,_,rfl,s1,s2,zm,zm,v1,v2,hbW⟩
  simp [results,Tryz.results148,go_sem,c0,c1,hltS]
 ·obtain ⟨S,hS,hsz,hbS,c0,c1⟩:=zKn hbl hI2 (.slice (some ⟨w0.heap.size+1,0,none⟩) 2 2) (.slice (some ⟨w0.heap.size,0,none⟩) 2 2)
  rw [← hS]
  obtain ⟨s1,s2,hbW,v1,v2⟩:=zQ0 hsz hbS (X % Y) (X/Y) hr0 hr1 hq0 hq1
  clear hS
  have hltS:w.heap.size<S.heap.size:=zm
  go_wp2
  refine bodyPost_ret (v:=.agg #[.slice (some ⟨w0.heap.size+1,0,none⟩) 2 2,.slice (some ⟨w0.heap.size,0,none⟩) 2 2]) ?_ rfl ⟨_,_,_,_,_,_,_,_,rfl,s2,s1,zm,zm,v2,v1,hbW⟩
  simp [results,Tryz.results148,go_sem,c0,c1,hltS]

theorem zS1 (w:World) (ty:TypeId) (g:Nat) (ao:Option Addr) (m c:Nat) (ys:List Int) (hS:Sl w ao m c ys) (hb:m≤1000000) :
  ∃ ao' c' w',(Builtin.append_ #[27,27] ty #[.slice (some ⟨g,0,none⟩) 0 0,.slice ao m c]).run Tryz.prog w=.ok (.slice ao' m c') w'∧Below w.heap.size w w'∧Sl w' ao' m c' ys ∧
   (0<m→∃ g',ao'=some ⟨g',0,none⟩∧w.heap.size≤g'∧Mine w' g' m ys):=by
 obtain ⟨i0,hi,hz0,hz1,hz2⟩:=info_parts zH2
 by_cases h0:m=0
 ·obtain ⟨v',w',h1,h2,ao',c',rfl,h3⟩:=zS2 w ty g ao m c ys hS hb
  exact ⟨ao',c',w',h1,h2,h3,fun h=>absurd h0 zm⟩
 ·rcases hS.cells.2 with h1 | ⟨b,off,rfl,hlt,hc⟩
  ·subst h1;have:=hS.len;simp at this;omega
  ·obtain ⟨v',w',hrun,hown,hg⟩:=run_append_arg_grows (P:=Tryz.prog) w 27 ty 104 i0 (.int .u32 0) 1 4 Tryz.underlying27 hi hz0 hz1 hz2 rfl zd
    ⟨g,0,none⟩ 0 0 [] (by simp) (by simp) ⟨b,off,none⟩ m c (ys.map (Value.int .u32)) (by simp [hS.len]) (fun j u hu=>by
     have hj:j<ys.length:=by have:=(List.getElem?_eq_some_iff.1 hu).1;simpa using this
     rw [Go.WideShapes.add_plain,hc j hj,← hu]
     simp [hj]) zm (by unfold maxLen;omega) zm
   rw [Nat.zero_add,List.nil_append,← hS.len] at hown
   have hO:Ow w' w.heap.size v' ys:=⟨hown,hS.digs⟩
   obtain ⟨ao',c',rfl,hS'⟩:=hO.sl
   rw [hS.len] at hS' hrun hO
   refine ⟨ao',c',w',hrun,⟨hg.os,hg.tape,hg.output,hg.size,fun k hk=>hg.block k hk (by simp)⟩,hS',fun _=>?_⟩
   rcases hO.1.2 with ⟨_,h2⟩ | ⟨g',cap',cur,h2,_⟩
   ·rw [hS.len] at h2;omega
   ·cases h2
    have:=hO.mine
    exact ⟨g',rfl,this.2.1,this.1⟩

theorem zSr (w:World) {ops:Array Oper} {rest:List Oper} {o:Oper} {a:Act} {Q:Exit→Act→World→Prop} (hgd:o.guard=none) (s x:Operand)
  (hop:o.op=Op.call { callee:=Callee.builtin Builtin.append,args:=#[s,x],argTypes:=#[27,27] }) (g:Nat) (ao:Option Addr) (m c:Nat) (ys:List Int)
  (hs:a.eval s=.slice (some ⟨g,0,none⟩) 0 0) (hx:a.eval x=.slice ao m c) (hS:Sl w ao m c ys) (hb:m≤1000000)
  (hK:∀ ao' c' w',Below w.heap.size w w'→Sl w' ao' m c' ys→(0<m→∃ g',ao'=some ⟨g',0,none⟩∧w.heap.size≤g'∧Mine w' g' m ys)→wpList Tryz.prog ops Q rest (a.put o.dst (.slice ao' m c')) w') :
  wpList Tryz.prog ops Q (o::rest) a w:=by
 refine wpList_plain hgd fun K hK'=>?_
 obtain ⟨ao',c',w',hrun,h1,h2,h3⟩:=zS1 w o.type g ao m c ys hS hb
 unfold Oper.wp
 simp [execOp,hop,resolve,invoke,builtin,hs,hx,hrun,Result.andThen]
 exact hK' _ _ (hK ao' c' w' h1 h2 h3)

theorem val_set {zs:List Int} {j:Nat} {x:Int} (hj:j<zs.length):val (zs.set j x)=val zs+pw j*(x-zs.getD j 0):=by
 have e1:=zHf (zs.set j x) (j+1)
 have e2:=zHf zs (j+1)
 rw [zAq,zC4 _ _ _ _ (Nat.le_refl _),zB6 _ _ _ hj,List.drop_set_of_lt zm] at e1
 rw [zAq] at e2
 rw [Int.mul_sub]
 omega

theorem bit_word {qs:List Int} {j:Nat} {c:Int} (hq:Digs qs) (h:val qs=2^(j+1)*c):qs.getD (j/32) 0 % 2^(j % 32+1)=0:=by
 have e:(2:Int)^(j+1)=pw (j/32)*2^(j % 32+1):=by rw [zCb,← Int.pow_add];congr 1;omega
 have e32:(4294967296:Int)=2^(j % 32+1)*2^(31-j % 32):=by rw [← Int.pow_add,show j % 32+1+(31-j % 32)=32 by omega];rfl
 have e1:=zHf qs (j/32)
 have e2:=zFv qs (j/32)
 have h0:=zAm (hq.take (j/32))
 have h1:=zSp hq (j/32)
 have hp:=zA0 (j/32)
 rw [h,e,Int.mul_assoc] at e1
 generalize val (qs.take (j/32))=T at *
 generalize val (qs.drop (j/32))=D at *
 generalize val (qs.drop (j/32+1))=H at *
 generalize qs.getD (j/32) 0=x at *
 generalize pw (j/32)=P at *
 rw [e32] at e2
 generalize (2:Int)^(j % 32+1)=S at *
 generalize (2:Int)^(31-j % 32)=V at *
 have hT:T=P*(S*c-D):=by rw [Int.mul_sub];omega
 have hz:S*c-D=0:=by
  rcases Int.lt_trichotomy (S*c-D) 0 with h2 | h2 | h2
  ·have:=Int.mul_le_mul_of_nonneg_left (show S*c-D≤-1 by omega) (Int.le_of_lt hp)
   omega
  ·exact h2
  ·have:=Int.mul_le_mul_of_nonneg_left (show 1≤S*c-D by omega) (Int.le_of_lt hp)
   omega
 have hx:x=S*(c-V*H):=by rw [Int.mul_sub,← Int.mul_assoc];omega
 rw [hx]
 exact Int.mul_emod_right _ _

theorem or_bit {x:Int} {r:Nat} (hr:r<32) (hx0:0≤x) (hx1:x<4294967296) (h:x % 2^(r+1)=0):bits .or .u32 x (2^r)=x+2^r∧x+2^r<4294967296:=by
 obtain ⟨h1,h2⟩:=zIq r hr
 have h3:=zGm r
 refine ⟨(or_u32 (r+1) x (2^r) hx0 hx1 zm zm zm h).1,?_⟩
 have e32:(4294967296:Int)=2^(r+1)*2^(31-r):=by rw [← Int.pow_add,show r+1+(31-r)=32 by omega];rfl
 have h4:(4294967296-x) % 2^(r+1)=0:=by
  rw [Int.sub_emod,h,e32,Int.mul_emod_right];simp
 have h5:=Int.le_of_dvd (show 0<4294967296-x by omega) (Int.dvd_of_emod_eq_zero h4)
 omega

theorem bits_lt {X Y:Int} {a b:Nat} (hX:zCw X a) (hY:zCw Y b) (h:a<b):X<Y:=by
 have hY2:(2:Int)^(b-1)≤Y:=by
  rcases hY with ⟨_,h0⟩ | ⟨_,h1,_⟩
  ·omega
  ·exact h1
 have hX2:X<2^a:=by
  rcases hX with ⟨h1,h0⟩ | ⟨_,_,h1⟩
  ·subst h0;rw [h1];decide
  ·exact h1
 have h3:=zCl (show a≤b-1 by omega)
 omega

theorem bits_room {X Y:Int} {a b N:Nat} (hX:zCw X a) (hY:zCw Y b) (hY0:0<Y) (h:a=b+N):X<Y*2^(N+1):=by
 have hX2:X<2^a:=by
  rcases hX with ⟨h1,h0⟩ | ⟨_,_,h1⟩
  ·subst h0;rw [h1];decide
  ·exact h1
 rcases hY with ⟨h1,_⟩ | ⟨h0,h1,_⟩
 ·omega
 ·have h3:=Int.mul_le_mul_of_nonneg_right h1 (Int.le_of_lt (zA6 (N+1)))
  rw [← Int.pow_add,show b-1+(N+1)=a by omega] at h3
  omega

end Go.Proofs.YtjadciofpgjofaaGreatDoor

namespace Go.Proofs.YtjadciofpgjofaaGreatDoor
open Go Go.RowKit

structure DivInv (w0:World) (B gr gq gd n lq ld:Nat) (X Y:Int) (k:Nat) (wr:World) where
 below:Below B w0 wr
 some:∃ rs qs ds:List Int,Mine wr gr n rs∧Mine wr gq lq qs∧Mine wr gd ld ds∧X=val qs*Y+val rs∧val rs<Y*2^k∧(∃ c,val qs=2^k*c)∧(0<k→val ds=Y*2^(k-1))

theorem zTa (w:World) (ax ay:Option Addr) (n m cx cy:Nat) (xs ys:List Int) (hX:Sl w ax n cx xs) (hY:Sl w ay m cy ys) (hcx:Canon xs) (hcy:Canon ys) (hy0:0<val ys) (hn:n≤1000000) (hm:m≤1000000) (hlong:¬ (n≤2∧m≤2)) :
  Calls Tryz.prog 148 #[.slice ax n cx,.slice ay m cy] w (DivR w (val xs) (val ys)):=by
 have HCX:=hidd hcx
 have HCY:=hidd hcy
 have HY0:=hidd hy0
 clear hcx hcy hy0
 obtain ⟨w0,hw0⟩:∃ w0,w0=w.alloc (.cells #[.slice none 0 0,.slice none 0 0] 141):=⟨_,rfl⟩
 have hbl:Below w.heap.size w w0:=by rw [hw0];exact zAh _ _
 have hI:IntBox w0 w.heap.size (.slice none 0 0) (.slice none 0 0):=by rw [hw0];exact IntBox.new _ _ _ _
 have hlt:w.heap.size<w0.heap.size:=by rw [hw0];simp
 have hI2:=hidd hI
 obtain ⟨e0,e1,e2,e3⟩:=hI
 go_enter Tryz.func148,Tryz.ntmps148
 go_upto_region 1 with (fail)
 rw [← hw0]
 clear hw0
 rcases (by omega:2<n∨(n≤2∧2<m)) with hn2 | ⟨hn2,hm2⟩
 all_goals
  go_upto_region 5 with (fail)
 all_goals
  go_wp2_with (at_builtin;refine zSr _ rfl _ _ rfl _ ax n cx xs rfl rfl ((hX.mono hbl).mono (zAh _ _)) hn ?_;intro ar cr w1 hb1 hS1 hM1)
 all_goals
  have hbw1:Below w0.heap.size w0 w1:=(zAh w0 _).trans (hb1.mono (by simp))
  clear hb1
  refine (zM5 _ _ _ _ _ _ ((hX.mono hbl).mono hbw1) HCX.out zm).mono ?_
  rintro e w2 ⟨b1,rfl,hB1,hb1n,hb2⟩
  have hbw2:=hbw1.trans (hb2.mono hbw1.size)
  go_wp2_with fail
  refine (zM5 _ _ _ _ _ _ ((hY.mono hbl).mono hbw2) HCY.out zm).mono ?_
  rintro e w3 ⟨b2,rfl,hB2,hb2m,hb3⟩
  have hbw3:=hbw2.trans (hb3.mono hbw2.size)
  have hS3:=(hS1.mono hb2).mono hb3
  have hM3:0<n→∃ g',ar=some ⟨g',0,none⟩∧w0.heap.size≤g'∧g'<w3.heap.size∧Mine w3 g' n xs:=fun h=>by
   obtain ⟨g',h1,h2,h3⟩:=hM1 h
   have h4:=(h3.mono hb2 h3.lt)
   exact ⟨g',h1,by simp at h2;omega,(h4.mono hb3 h4.lt).lt,h4.mono hb3 h4.lt⟩
  have f0:=(hbw3.cell (p:=⟨w.heap.size,0,none⟩) hlt).trans e0
  have f1:=(hbw3.cell (p:=⟨w.heap.size,1,none⟩) hlt).trans e1
  have f2:=(hbw3.frozen (p:=⟨w.heap.size,0,none⟩) hlt).trans e2
  have f3:=(hbw3.frozen (p:=⟨w.heap.size,1,none⟩) hlt).trans e3
  clear hM1 hS1 hbw1 hbw2 hb2 hb3 e0 e1 e2 e3
  have hbw:Below w.heap.size w w3:=hbl.trans (hbw3.mono hbl.size)
  by_cases hlt2:b1<b2
  ·have HXY:=hidd (bits_lt hB1 hB2 hlt2)
   have hX0:=zAm hX.digs
   go_wp2
   obtain ⟨S,hS,hsz,hbS,c0,c1⟩:=zKn hbw ⟨f0,f1,f2,f3⟩ (.slice none 0 0) (.slice ar n cr)
   rw [← hS]
   have hSS:Sl S ar n cr xs:=by rw [hS];exact (hS3.setOther f0 (by intro q h;cases h) _).setOther (by rw [World.cell?_setCell_other _ _ _ _ (by intro e;cases e)];exact f1) (by intro q h;cases h) _
   clear hS
   refine bodyPost_ret (v:=.agg #[.slice none 0 0,.slice ar n cr]) ?_ rfl ⟨_,_,_,_,_,_,_,_,rfl,Sl.nil _,hSS,zm,zm,?_,?_,hbS⟩
   ·simp [results,Tryz.results148,go_sem,c0,c1]
   ·rw [Int.ediv_eq_zero_of_lt hX0 HXY.out];rfl
   ·rw [Int.emod_eq_of_lt hX0 HXY.out]
  ·obtain ⟨N,hN⟩:∃ N,b1=b2+N:=⟨b1-b2,zm⟩
   have HR:=hidd (bits_room hB1 hB2 HY0.out hN)
   have hb20:0<b2:=by
    rcases hB2 with ⟨h1,_⟩ | ⟨h1,_⟩
    ·have:=HY0.out;omega
    ·exact h1
   obtain ⟨gr,rfl,hgr,hgr2,hMr⟩:=hM3 zm
   have hNi:(b1:Int)-(b2:Int)=(N:Int):=zm
   have hNb:N≤32000000:=zm
   have hcr:=hS3.cap
   clear hN hlt2 hb1n hb2m hB1 hB2
   go_wp2_with (at_make;refine zEi _ rfl _ _ 27 rfl 104 Tryz.underlying27 (by kernel_rfl) _ _ _ _ rfl rfl (N/32+1) zm zm zm ?_;intro w4 hrow hb4 hs4)
   have hbw4:Below w0.heap.size w0 w4:=hbw3.trans (hb4.mono hbw3.size)
   refine (zP3 _ _ _ _ _ ((hY.mono hbl).mono hbw4) zm N zm).mono ?_
   rintro e w5 ⟨gd,ld,cd,ds0,rfl,hgd,hMd,hcd,hld,hvd,hb5⟩
   have hbw5:=hbw4.trans (hb5.mono hbw4.size)
   have hq5:Mine w5 w3.heap.size (N/32+1) (List.replicate (N/32+1) 0):=by
    have:=hrow.mine
    rw [List.length_replicate] at this
    exact this.mono hb5 this.lt
   have hr5:=(hMr.mono hb4 hMr.lt).mono hb5 (hMr.mono hb4 hMr.lt).lt
   obtain ⟨gq,hgq⟩:∃ gq,gq=w3.heap.size:=⟨_,rfl⟩
   rw [← hgq] at hq5 hgr2 hs4
   rw [← hgq]
   have hgq0:w0.heap.size≤gq:=by rw [hgq];exact hbw3.size
   have hne1:gr≠gq:=zm
   have hne2:gq≠gd:=zm
   have hne3:gr≠gd:=zm
   have hgd0:w0.heap.size≤gd:=zm
   have hld2:ld≤3000000:=zm
   have HVD:=hidd hvd
   clear hvd hld hrow hb4 hb5 hbw3 hbw4 hMr hM3 hS3 hgq hs4 hgd f0 f1 f2 f3 hbw
   go_wp2
   go_loopw [11] (fun vi wr=>∃ k:Nat,k≤N+1∧vi=.int .i64 ((k:Int)-1)∧DivInv w0 w0.heap.size gr gq gd n (N/32+1) ld (val xs) (val ys) k wr) (fun vi _=>(intOf vi+1).toNat)
   case atStart=>
    refine ⟨N+1,Nat.le_refl _,by go_num,hbw5,xs,_,ds0,hr5,hq5,hMd,?_,HR.out,⟨0,?_⟩,fun _=>HVD.out⟩
    ·rw [zGq,Int.zero_mul,Int.zero_add]
    ·rw [zGq,Int.mul_zero]
   case round=>
    obtain ⟨k,hk,rfl,⟨hb,rs,qs,dd,hr,hq,hd,hXe,hrl,⟨c,hqc⟩,hdv⟩⟩:=hrel
    have HXE:=hidd hXe
    have HRL:=hidd hrl
    have HQC:=hidd hqc
    have HDV:=hidd hdv
    clear hXe hrl hqc hdv hr5 hq5 hMd hbw5
    by_cases hk0:0<k
    ·obtain ⟨j,rfl⟩:∃ j,k=j+1:=⟨k-1,zm⟩
     have hj1:((j+1:Nat):Int)-1=(j:Int):=zm
     have HDJ:Hid (val dd=val ys*2^j):=HDV.out zm
     clear HDV
     go_wp2_with fail
     refine (zXh _ _ _ _ _ _ _ rs dd (hr.sl hcr) (hd.sl hcd) zm zm).mono ?_
     rintro e w' ⟨rfl,rfl⟩
     by_cases hge:val dd≤val rs
     ·have hged:decide (val dd≤val rs)=true:=decide_eq_true hge
      rw [hged]
      have HGE:=hidd hge
      clear hge hged
      go_wp2_with fail
      refine (take_any _ gr n cr rs hr hcr zm (some ⟨gd,0,none⟩) ld cd dd (hd.sl hcd) zm (fun b' o h=>by cases h;exact fun h=>hne3 h.symm) HGE.out).mono ?_
      rintro e w6 ⟨rs',rfl,hr6,hv6,hg6,hs6⟩
      have hq6:=hq.other hg6 (fun h=>hne1 h.symm)
      have hd6:=hd.other hg6 (fun h=>hne3 h.symm)
      have hb6:Below w0.heap.size w0 w6:=hb.grown hg6 hb.size (fun j hj=>by cases hj;exact hgr)
      have HV6:=hidd hv6
      clear hv6 hr hq hd hb hg6 hs6
      have hjq:j/32<N/32+1:=zm
      obtain ⟨x,hx⟩:∃ x,qs.getD (j/32) 0=x:=⟨_,rfl⟩
      have hxd:=hq6.digs.getD (j/32)
      have hcell:=hq6.cell hjq
      rw [hx] at hxd hcell
      have hfr:=hq6.frozen (j/32)
      have hbit:=bit_word hq6.digs HQC.out
      rw [hx] at hbit
      obtain ⟨hor,hxb⟩:=or_bit (Nat.mod_lt j zd) hxd.1 hxd.2 hbit
      obtain ⟨u,hu⟩:∃ u,u=x+2^(j % 32):=⟨_,rfl⟩
      rw [← hu] at hor hxb
      have hp2:=zIq (j % 32) (Nat.mod_lt j zd)
      have Hx:=hidd hx
      have Hu:=hidd hu
      have Hbit:=hidd hbit
      have hj32:j % 32<32:=Nat.mod_lt j zd
      have hu0:0≤u:=zm
      clear hx hu hbit
      go_wp2_with fail
      have hg7:=zEd w6 gq (j/32) (.int .u32 u)
      have hq7:=hq6.set hjq hu0 hxb
      have hd7:=hd6.other hg7 (fun h=>hne2 h.symm)
      have hr7:=hr6.other hg7 hne1
      have hb7:Below w0.heap.size w0 (w6.setCell ⟨gq,j/32,none⟩ (.int .u32 u)):=hb6.setCell hgq0 _
      generalize w6.setCell ⟨gq,j/32,none⟩ (.int .u32 u)=w7 at *
      refine (zPw _ gd ld cd dd hd7 hcd zm).mono ?_
      rintro e w8 ⟨dd',rfl,hd8,hv8,hg8,hs8⟩
      have hb8:Below w0.heap.size w0 w8:=hb7.grown hg8 hb7.size (fun j hj=>by cases hj;exact hgd0)
      have hq8:=hq7.other hg8 hne2
      have hr8:=hr7.other hg8 hne3
      have HV8:=hidd hv8
      clear hv8 hq7 hd7 hr7 hb7 hg7 hg8 hs8 hq6 hd6 hb6 hr6 hor hcell hfr
      go_wp2
      go_roundw
      case rel=>
       refine ⟨j,zm,by go_num,hb8,rs',_,dd',hr8,hq8,hd8,?_,?_,?_,?_⟩
       ·have h1:=HXE.out
        rw [val_set (by have:=hq8.len;rw [List.length_set] at this;omega),Hx.out,Hu.out,show x+2^(j % 32)-x=2^(j % 32) by omega,zCb,← Int.pow_add,show 32*(j/32)+j % 32=j by omega,HV6.out,HDJ.out,Int.add_mul,Int.mul_comm (val ys)]
        omega
       ·have h1:=HRL.out
        rw [HV6.out,HDJ.out]
        rw [Int.pow_succ,← Int.mul_assoc] at h1
        omega
       ·refine ⟨2*c+1,?_⟩
        rw [val_set (by have:=hq8.len;rw [List.length_set] at this;omega),Hx.out,Hu.out,show x+2^(j % 32)-x=2^(j % 32) by omega,zCb,← Int.pow_add,show 32*(j/32)+j % 32=j by omega,HQC.out,Int.pow_succ,Int.mul_add,Int.mul_one,Int.mul_assoc]
       ·intro h
        rw [HV8.out,HDJ.out,show j=(j-1)+1 by omega,Int.pow_succ,← Int.mul_assoc,Int.mul_ediv_cancel _ zd]
        rfl
      case measure=>simp [intOf]
     ·have hged:decide (val dd≤val rs)=false:=decide_eq_false hge
      rw [hged]
      have HGE:=hidd hge
      clear hge hged
      go_wp2_with fail
      refine (zPw _ gd ld cd dd hd hcd zm).mono ?_
      rintro e w8 ⟨dd',rfl,hd8,hv8,hg8,hs8⟩
      have hb8:Below w0.heap.size w0 w8:=hb.grown hg8 hb.size (fun j hj=>by cases hj;exact hgd0)
      have hq8:=hq.other hg8 hne2
      have hr8:=hr.other hg8 hne3
      have HV8:=hidd hv8
      clear hv8 hq hd hr hb hg8 hs8
      go_wp2
      go_roundw
      case rel=>
       refine ⟨j,zm,by go_num,hb8,rs,qs,dd',hr8,hq8,hd8,HXE.out,?_,?_,?_⟩
       ·have h1:=HGE.out
        rw [HDJ.out] at h1
        omega
       ·refine ⟨2*c,?_⟩
        rw [HQC.out,Int.pow_succ,Int.mul_assoc]
       ·intro h
        rw [HV8.out,HDJ.out,show j=(j-1)+1 by omega,Int.pow_succ,← Int.mul_assoc,Int.mul_ediv_cancel _ zd]
        rfl
      case measure=>simp [intOf]
    ·obtain rfl:k=0:=zm
     have hbw:Below w.heap.size w wr:=hbl.trans (hb.mono hbl.size)
     obtain ⟨f0,f1,f2,f3⟩:=hI2.out.mono hb hlt
     have hR0:=zAm hr.digs
     have hR1:=HRL.out
     rw [Int.pow_zero,Int.mul_one] at hR1
     have hq1:=zJb (a:=val xs) (P:=val ys) (V:=val qs) (r:=val rs) (by have h:=HXE.out;rw [Int.mul_comm (val qs)] at h;exact h) hR0 hR1 HY0.out
     have hr1:val rs=val xs % val ys:=by
      rw [Int.emod_def,← hq1]
      have h:=HXE.out
      rw [Int.mul_comm (val qs)] at h
      omega
     have HQ:=hidd hq1
     have HM:=hidd hr1
     clear hR0 hR1 hq1 hr1
     have hsq:=hq.sl (Nat.le_refl _)
     have hsr:=hr.sl hcr
     clear hq hr hd
     go_wp2
     obtain ⟨S,hS,hsz,hbS,c0,c1⟩:=zKn hbw ⟨f0,f1,f2,f3⟩ (.slice (some ⟨gq,0,none⟩) (N/32+1) (N/32+1)) (.slice (some ⟨gr,0,none⟩) n cr)
     rw [← hS]
     have hSq:Sl S (some ⟨gq,0,none⟩) (N/32+1) (N/32+1) qs:=by rw [hS];exact (hsq.setOther f0 (by intro q h;cases h) _).setOther (by rw [World.cell?_setCell_other _ _ _ _ (by intro e;cases e)];exact f1) (by intro q h;cases h) _
     have hSr:Sl S (some ⟨gr,0,none⟩) n cr rs:=by rw [hS];exact (hsr.setOther f0 (by intro q h;cases h) _).setOther (by rw [World.cell?_setCell_other _ _ _ _ (by intro e;cases e)];exact f1) (by intro q h;cases h) _
     clear hS
     refine bodyPost_ret (v:=.agg #[.slice (some ⟨gq,0,none⟩) (N/32+1) (N/32+1),.slice (some ⟨gr,0,none⟩) n cr]) ?_ rfl ⟨_,_,_,_,_,_,_,_,rfl,hSq,hSr,zm,zm,HQ.out,HM.out,hbS⟩
     simp [results,Tryz.results148,go_sem,c0,c1]

theorem zTc (w:World) (ax ay:Option Addr) (n m cx cy:Nat) (xs ys:List Int) (hX:Sl w ax n cx xs) (hY:Sl w ay m cy ys) (hcx:Canon xs) (hcy:Canon ys) (hy0:0<val ys) (hn:n≤1000000) (hm:m≤1000000) :
  Calls Tryz.prog 148 #[.slice ax n cx,.slice ay m cy] w (DivR w (val xs) (val ys)):=by
 by_cases h:n≤2∧m≤2
 ·exact zTb w ax ay n m cx cy xs ys hX hY hy0 h.1 h.2
 ·exact zTa w ax ay n m cx cy xs ys hX hY hcx hcy hy0 hn hm h

theorem zTz:En 131:=zAd Tryz.func131 (by kernel_rfl) rfl
theorem zO5:En 89:=zAd Tryz.func89 (by kernel_rfl) rfl
theorem zT0:En 96:=zAd Tryz.func96 (by kernel_rfl) rfl

theorem zD5 (b:Bool) (v:Int):ab (sgn b v)=ab v:=by unfold ab;cases b <;> simp [sgn]

theorem boxes4n (w:World) {n n':Bool} {ao ao':Option Addr} {k c k' c':Nat} {z z':Int} (h:Num w (.agg #[.bool n,.slice ao k c]) z) (h':Num w (.agg #[.bool n',.slice ao' k' c']) z') (t:TypeId) :
  ∃ w0,w0=(((w.alloc (.cells #[.bool n,.slice ao k c] t)).alloc (.cells #[.bool n',.slice ao' k' c'] t)).alloc (.cells #[.bool false,.slice none 0 0] t)).alloc (.cells #[.bool false,.slice none 0 0] t) ∧
   BoxNum w0 w.heap.size z∧BoxNum w0 (w.heap.size+1) z'∧BoxNum w0 (w.heap.size+1+1) 0∧BoxNum w0 (w.heap.size+1+1+1) 0∧Below w.heap.size w w0:=by
 obtain ⟨w0,hw0,hA,hB,hC,hD,hbl,HS⟩:=boxes4 w (.bool n) (.slice ao k c) (.bool n') (.slice ao' k' c') t
 exact ⟨w0,hw0,⟨_,_,_,_,hA,h.mono hbl⟩,⟨_,_,_,_,hB,h'.mono hbl⟩,⟨_,_,_,_,hC,Num.zero _⟩,⟨_,_,_,_,hD,Num.zero _⟩,hbl⟩

theorem zGy {a b q r:Int} (hb:b≠0) (h:a=q*b+r) (h0:0≤r) (h1:r<ab b):q=a/b∧r=a % b:=by
 have h2:a % b=r:=by
  rw [h,Int.add_comm,Int.add_mul_emod_self_right]
  rcases Int.lt_or_gt_of_ne hb with hb' | hb'
  ·rw [← Int.emod_neg,Int.emod_eq_of_lt h0 (by unfold ab at h1;omega)]
  ·exact Int.emod_eq_of_lt h0 (by unfold ab at h1;omega)
 have h3:=Int.mul_ediv_add_emod a b
 rw [h2] at h3
 have h4:b*(a/b)=b*q:=by rw [Int.mul_comm b q];omega
 exact ⟨(Int.eq_of_mul_eq_mul_left hb h4).symm,h2.symm⟩

theorem dm_end {x y q0 r0 q r:Int} {a1 b1 a2:Bool} (hy:y≠0) (hd:ab y*q+r=ab x) (h0:0≤r) (h1:r<ab y) (nx:a1=true→x<0) (px:a1=false→0≤x) (nx2:a2=true→x<0) (px2:a2=false→0≤x)
  (ny:b1=true→y<0) (py:b1=false→0≤y) (hq:q0=sgn (!a1 == b1) q) (hr:r0=sgn a2 r) :
  (0≤r0→q0=x/y∧r0=x % y)∧(r0<0→0≤y→q0-1=x/y∧r0+(y.natAbs:Int)=x % y)∧(r0<0→y<0→q0+1=x/y∧r0+(y.natAbs:Int)=x % y):=by
 have e1:ab y=(y.natAbs:Int):=rfl
 by_cases hx:x<0 <;> by_cases hyy:y<0
 ·obtain rfl:a1=true:=by cases a1;exact absurd (px rfl) zm;rfl
  obtain rfl:a2=true:=by cases a2;exact absurd (px2 rfl) zm;rfl
  obtain rfl:b1=true:=by cases b1;exact absurd (py rfl) zm;rfl
  have ax:ab x=-x:=by unfold ab;omega
  have ay:ab y=-y:=by unfold ab;omega
  simp [sgn] at hq hr
  rw [ax,ay,Int.neg_mul,Int.mul_comm] at hd
  rw [ay] at h1
  subst hq
  subst hr
  refine ⟨fun h=>zGy hy zm h (by rw [ay];omega),fun h h'=>zm,fun h _=>zGy hy (by rw [Int.add_mul,Int.one_mul];omega) zm (by rw [ay];omega)⟩
 ·obtain rfl:a1=true:=by cases a1;exact absurd (px rfl) zm;rfl
  obtain rfl:a2=true:=by cases a2;exact absurd (px2 rfl) zm;rfl
  obtain rfl:b1=false:=by cases b1;rfl;exact absurd (ny rfl) zm
  have ax:ab x=-x:=by unfold ab;omega
  have ay:ab y=y:=by unfold ab;omega
  simp [sgn] at hq hr
  rw [ax,ay,Int.mul_comm] at hd
  rw [ay] at h1
  subst hq
  subst hr
  refine ⟨fun h=>zGy hy (by rw [Int.neg_mul];omega) h (by rw [ay];omega),fun h _=>zGy hy (by rw [Int.sub_mul,Int.one_mul,Int.neg_mul];omega) zm (by rw [ay];omega),fun h h'=>zm⟩
 ·obtain rfl:a1=false:=by cases a1;rfl;exact absurd (nx rfl) zm
  obtain rfl:a2=false:=by cases a2;rfl;exact absurd (nx2 rfl) zm
  obtain rfl:b1=true:=by cases b1;exact absurd (py rfl) zm;rfl
  have ax:ab x=x:=by unfold ab;omega
  have ay:ab y=-y:=by unfold ab;omega
  simp [sgn] at hq hr
  rw [ax,ay,Int.neg_mul,Int.mul_comm] at hd
  rw [ay] at h1
  subst hq
  subst hr
  refine ⟨fun h=>zGy hy (by rw [Int.neg_mul];omega) h (by rw [ay];omega),fun h _=>zm,fun h _=>zm⟩
 ·obtain rfl:a1=false:=by cases a1;rfl;exact absurd (nx rfl) zm
  obtain rfl:a2=false:=by cases a2;rfl;exact absurd (nx2 rfl) zm
  obtain rfl:b1=false:=by cases b1;rfl;exact absurd (ny rfl) zm
  have ax:ab x=x:=by unfold ab;omega
  have ay:ab y=y:=by unfold ab;omega
  simp [sgn] at hq hr
  rw [ax,ay,Int.mul_comm] at hd
  rw [ay] at h1
  subst hq
  subst hr
  refine ⟨fun h=>zGy hy zm h (by rw [ay];omega),fun h _=>zm,fun h _=>zm⟩

theorem zNx {w:World} {v v':Value} {x y:Int} (h:Num w v x) (h':Num w v' y) (hx:ab x<pw 1000) (hy:ab y<pw 1000):Calls Tryz.prog 127 #[v,v'] w (zIs w x y):=by
 obtain ⟨n,ao,k,c,rfl⟩:=h.parts
 obtain ⟨n',ao',k',c',rfl⟩:=h'.parts
 have Bx:=hidd hx
 have By:=hidd hy
 clear hx hy
 obtain ⟨w0,hw0,XA,XB,X4,X5,HB⟩:=boxes4n w h h' 36
 go_enter Tryz.func127,Tryz.ntmps127
 go_upto_region 1 with (fail)
 rw [← hw0]
 clear hw0 h h'
 obtain ⟨na,aoa,kka,cca,⟨a0,a1,a2,a3⟩,hNa⟩:=id XA
 obtain ⟨nb,aob,kkb,ccb,⟨b0,b1,b2,b3⟩,hNb⟩:=id XB
 obtain ⟨xs,sx,cx,kx,zx,vx0,_,negx,posx⟩:=hNa.sign
 obtain ⟨ys,sy,cy,ky,zy,vy0,hky,negy,posy⟩:=hNb.sign
 by_cases hy0:y=0
 ·obtain rfl:=hky.2 hy0
  obtain ⟨nc,aoc,kkc,ccc,⟨c0,c1,c2,c3⟩,hNc⟩:=id X4
  obtain ⟨nd,aod,kkd,ccd,⟨d0,d1,d2,d3⟩,hNd⟩:=id X5
  have hbS:=(((HB.setCell (p:=⟨w.heap.size+1+1,0,none⟩) (by show w.heap.size≤w.heap.size+1+1;omega) (.bool false)).setCell (p:=⟨w.heap.size+1+1,1,none⟩) (by show w.heap.size≤w.heap.size+1+1;omega) (.slice none 0 0)).setCell (p:=⟨w.heap.size+1+1+1,0,none⟩) (by show w.heap.size≤w.heap.size+1+1+1;omega) (.bool false)).setCell (p:=⟨w.heap.size+1+1+1,1,none⟩) (by show w.heap.size≤w.heap.size+1+1+1;omega) (.slice none 0 0)
  clear hky zx zy negx posx negy posy
  go_wp2
  refine bodyPost_ret (v:=.tuple #[.agg #[.bool false,.slice none 0 0],.agg #[.bool false,.slice none 0 0],.int .i64 4]) ?_ rfl ⟨hbS,.inl ⟨hy0,rfl⟩⟩
  simp [results,Tryz.results127,go_sem,c0,c1,d0,d1]
 ·have Hy0:=hidd hy0
  have hkb:((kkb:Int) == 0)=false:=by simp;exact fun h=>hy0 (hky.1 h)
  have vy1:0<val ys:=by rcases (by omega:val ys=0∨0<val ys) with h | h;exact absurd (by rw [zy,h];cases nb <;> rfl) hy0;exact h
  have Kq:Hid (ab (val xs/val ys)<pw 1000):=by have h1:=Int.ediv_le_self (val ys) vx0;have h2:=Int.ediv_nonneg vx0 (Int.le_of_lt vy1);show ab _<_;rw [zBb h2];have h3:=Bx.out;rw [zx,zD5,zBb vx0] at h3;omega
  have Kr:Hid (ab (val xs % val ys)<pw 1000):=by have h1:=Int.emod_lt_of_pos (val xs) vy1;have h2:=Int.emod_nonneg (val xs) (Int.ne_of_gt vy1);show ab _<_;rw [zBb h2];have h3:=By.out;rw [zy,zD5,zBb vy0] at h3;omega
  have Zx:=hidd zx
  have Zy:=hidd zy
  have Ny:=hidd negy
  have Py:=hidd posy
  have V0:=hidd vx0
  have V1:=hidd vy1
  clear hy0 hky zx zy negx posx negy posy vx0 vy0 vy1
  go_wp2_with fail
  clear hkb
  refine (zTc _ _ _ _ _ _ _ xs ys sx sy cx cy V1.out zm zm).mono ?_
  rintro e w1 ⟨aq,lq,cq,qs,ar,lr,cr,rs,rfl,sq,sr,hlq,hlr,vq,vr,hb⟩
  have Vq:=hidd vq
  have Vr:=hidd vr
  clear vq vr
  clear a0 a1 a2 a3 hNa b0 b1 b2 b3 hNb
  clear sx sy
  replace XA:=XA.mono hb
  replace XB:=XB.mono hb
  replace X4:=X4.mono hb
  replace X5:=X5.mono hb
  replace HB:=HB.trans (hb.mono HB.size)
  clear hb
  go_upto_region 4 with (fail)
  obtain ⟨w2,hw2,hI7⟩:∃ w2,w2=w1.alloc (.cells #[.slice aq lq cq,.slice ar lr cr] 141)∧IntBox w2 w1.heap.size (.slice aq lq cq) (.slice ar lr cr):=⟨_,rfl,IntBox.new _ _ _ _⟩
  rw [← hw2]
  have hb:Below w1.heap.size w1 w2:=by rw [hw2];exact zAh _ _
  have hlt1:=X5.lt
  clear hw2
  replace XA:=XA.mono hb
  replace XB:=XB.mono hb
  replace X4:=X4.mono hb
  replace X5:=X5.mono hb
  replace HB:=HB.trans (hb.mono HB.size)
  replace sq:=sq.mono hb
  replace sr:=sr.mono hb
  clear hb
  obtain ⟨g7,hg7⟩:∃ g7,g7=w1.heap.size:=⟨_,rfl⟩
  rw [← hg7] at hI7 hlt1
  rw [← hg7]
  clear hg7
  have hlt2:=hI7.lt
  obtain ⟨na,aoa,kka,cca,⟨a0,a1,a2,a3⟩,hNa⟩:=id XA
  obtain ⟨nb,aob,kkb,ccb,⟨b0,b1,b2,b3⟩,hNb⟩:=id XB
  have hI7c:=hI7
  obtain ⟨i0,i1,_,_⟩:=hI7
  go_wp2_with fail
  obtain ⟨_,_,_,_,_,_,_,negx,posx⟩:=hNa.sign
  obtain ⟨_,_,_,_,_,_,_,negy,posy⟩:=hNb.sign
  have Nx:=hidd negx
  have Px:=hidd posx
  have Ny2:=hidd negy
  have Py2:=hidd posy
  clear negx posx negy posy
  have Ax:Hid (val xs=ab x):=by show val xs=ab x;rw [Zx.out,zD5,zBb V0.out]
  have Ay:Hid (val ys=ab y):=by show val ys=ab y;rw [Zy.out,zD5,zBb (Int.le_of_lt V1.out)]
  obtain ⟨q0,hq0⟩:∃ q0,q0=sgn (!na == nb) (val qs):=⟨_,rfl⟩
  have Bq0:Hid (ab q0<pw 1000):=by show ab q0<_;rw [hq0,zD5,Vq.out];exact Kq.out
  have Hq0:=hidd hq0
  clear hq0
  refine (exKP (z:=q0) (by rw [Hq0.out];exact zEe _ _ _ _ _ _ sq zm) Bq0.out zm).mono ?_
  rintro e w3 ⟨n3',ao3,kk3,c3',rfl,hb,hN3⟩
  replace hI7c:=hI7c.mono hb hlt2
  have hlt3:=hb.size
  clear a0 a1 a2 a3 hNa b0 b1 b2 b3 hNb
  clear i0 i1
  replace XA:=XA.mono hb
  replace XB:=XB.mono hb
  replace X4:=X4.mono hb
  replace X5:=X5.mono hb
  replace HB:=HB.trans (hb.mono HB.size)
  replace sr:=sr.mono hb
  clear hb
  replace hlt2:g7<w3.heap.size:=zm
  clear hlt3
  go_upto_region 5 with (fail)
  obtain ⟨w11,hw11,hb,p1⟩:=zHn hN3 36
  rw [← hw11]
  clear hw11
  replace hI7c:=hI7c.mono hb hlt2
  have hsz1:=hb.size
  replace XA:=XA.mono hb
  replace XB:=XB.mono hb
  replace X4:=X4.mono hb
  replace X5:=X5.mono hb
  replace HB:=HB.trans (hb.mono HB.size)
  replace sr:=sr.mono hb
  clear hb
  obtain ⟨g8,hg8⟩:∃ g,g=w3.heap.size:=⟨_,rfl⟩
  rw [← hg8] at p1 hlt2 hsz1
  rw [← hg8]
  clear hg8
  have X8:=p1
  have hlt8:=hlt2
  replace hlt2:g7<w11.heap.size:=zm
  clear p1 hsz1
  obtain ⟨na,aoa,kka,cca,⟨a0,a1,a2,a3⟩,hNa⟩:=id XA
  have hI7d:=hI7c
  obtain ⟨i0,i1,_,_⟩:=hI7c
  rename IntBox _ g7 _ _=>hI7c
  obtain ⟨_,_,_,_,_,_,_,negx,posx⟩:=hNa.sign
  have Nx2:=hidd negx
  have Px2:=hidd posx
  clear negx posx
  go_wp2_with fail
  obtain ⟨r0,hr0⟩:∃ r0,r0=sgn na (val rs):=⟨_,rfl⟩
  have Br0:Hid (ab r0<pw 1000):=by show ab r0<_;rw [hr0,zD5,Vr.out];exact Kr.out
  have Hr0:=hidd hr0
  clear hr0
  refine (exKP (z:=r0) (by rw [Hr0.out];exact zEe _ _ _ _ _ _ sr zm) Br0.out zm).mono ?_
  rintro e w4 ⟨n4',ao4,kk4,c4',rfl,hb,hN4⟩
  replace hI7c:=hI7c.mono hb hlt2
  have hlt3:=hb.size
  clear a0 a1 a2 a3 hNa
  clear i0 i1 sr sq
  replace XA:=XA.mono hb
  replace XB:=XB.mono hb
  replace X4:=X4.mono hb
  replace X5:=X5.mono hb
  replace X8:=X8.mono hb
  replace HB:=HB.trans (hb.mono HB.size)
  clear hb
  replace hlt2:g7<w4.heap.size:=zm
  have hlt38:g8<w4.heap.size:=X8.lt
  clear hlt3
  go_upto_region 6 with (fail)
  obtain ⟨w12,hw12,hb,p2⟩:=zHn hN4 36
  rw [← hw12]
  clear hw12
  replace hI7c:=hI7c.mono hb hlt2
  have hsz2:=hb.size
  replace XA:=XA.mono hb
  replace XB:=XB.mono hb
  replace X4:=X4.mono hb
  replace X5:=X5.mono hb
  replace X8:=X8.mono hb
  replace HB:=HB.trans (hb.mono HB.size)
  clear hb
  obtain ⟨g9,hg9⟩:∃ g,g=w4.heap.size:=⟨_,rfl⟩
  rw [← hg9] at p2 hlt2 hsz2 hlt38
  rw [← hg9]
  clear hg9
  have X9:=p2
  have hlt9:=hlt2
  replace hlt2:g7<w12.heap.size:=zm
  clear p2 hsz2
  have hord:w.heap.size+1+1+1<g7∧g7<g8∧g8<g9:=zm
  obtain ⟨ho7,ho8,ho9⟩:=hord
  clear hlt1 hlt2 hlt8 hlt9 hlt38 hI7c
  obtain ⟨nf,aof,kkf,ccf,⟨f0,f1,f2,f3⟩,hNf⟩:=id X9
  obtain ⟨_,_,_,_,_,_,_,negr,posr⟩:=hNf.sign
  have Nr:=hidd negr
  have Pr:=hidd posr
  clear negr posr
  cases nf
  ·go_wp2
   have hEu:q0=x/y∧r0=x % y:=by
    have hA:=Ax.out
    have hB:=Ay.out
    have h1:=Vq.out
    have h2:=Vr.out
    rw [hA,hB] at h1 h2
    have hq:=Hq0.out
    have hr:=Hr0.out
    rw [h1] at hq
    rw [h2] at hr
    have hv:=V1.out
    rw [hB] at hv
    have hd:=Int.mul_ediv_add_emod (ab x) (ab y)
    have hm0:=Int.emod_nonneg (ab x) (show ab y≠0 by omega)
    have hm1:=Int.emod_lt_of_pos (ab x) hv
    have D:=dm_end Hy0.out hd hm0 hm1 Nx.out Px.out Nx2.out Px2.out Ny2.out Py2.out hq hr
    have pr:=Pr.out
    exact D.1 (by simpa using pr)
   have HEu:=hidd hEu
   clear hEu
   have hlast:=X9.lt
   have hp:(plan [Fc.num q0,Fc.num r0,Fc.any,Fc.any,Fc.is (.int .i64 (0))] [(w.heap.size,1000,x,x),((w.heap.size+1),1001,y,y),((w.heap.size+1+1),2,0,q0),((w.heap.size+1+1+1),3,0,r0),(g8,1004,q0,q0),(g9,1005,r0,r0)] []).Ok w.heap.size w12.heap.size:=zFc (by simp;omega) (by simp;try omega) (by simp) zm
   have hm:=PMono.of hp
   refine zC1 (p:=(plan [Fc.num q0,Fc.num r0,Fc.any,Fc.any,Fc.is (.int .i64 (0))] [(w.heap.size,1000,x,x),((w.heap.size+1),1001,y,y),((w.heap.size+1+1),2,0,q0),((w.heap.size+1+1+1),3,0,r0),(g8,1004,q0,q0),(g9,1005,r0,r0)] [])) (B:=w.heap.size) (B0:=w12.heap.size) (w0:=w) (by kernel_rfl) rfl rfl (zFd (by simp;exact ⟨XA,XB,X4,X5,X8,X9⟩) HB) ⟨?_,?_,?_,?_,?_,trivial⟩ ?_
   ·exact zA7 (b:=g8) (k:=1004) (z:=q0) (z':=q0) hp (by simp [plan]) (.inl rfl) rfl rfl (fun v w h=>h) ⟨by simp [plan],by simp [plan]⟩
   ·exact zA7 (b:=g9) (k:=1005) (z:=r0) (z':=r0) hp (by simp [plan]) (.inl rfl) rfl rfl (fun v w h=>h) ⟨by simp [plan],by simp [plan]⟩
   ·exact zB2 (b:=(w.heap.size+1+1)) (j:=0) (z:=0) (z':=q0) hp rfl (by simp [plan]) rfl rfl rfl (by simp) rfl (fun v w h=>h) (fun _ _=>trivial) (by simp [plan]) (by simp [plan])
   ·exact zB2 (b:=(w.heap.size+1+1+1)) (j:=1) (z:=0) (z':=r0) hp rfl (by simp [plan]) rfl rfl rfl (by simp) rfl (fun v w h=>h) (fun _ _=>trivial) (by simp [plan]) (by simp [plan])
   ·exact zJu hm ⟨by simp [plan],by simp [plan]⟩ trivial (zKq (fun _=>rfl))
   intro L vs w3 hL hG
   replace XA:BoxNum w3 w.heap.size x:=by have:=hG.old (w.heap.size,1000,x,x) (by simp [plan]);simpa using this
   replace XB:BoxNum w3 (w.heap.size+1) y:=by have:=hG.old ((w.heap.size+1),1001,y,y) (by simp [plan]);simpa using this
   replace X4:BoxNum w3 (w.heap.size+1+1) q0:=by have:=hG.old ((w.heap.size+1+1),2,0,q0) (by simp [plan]);simpa [hL 2 (by simp)] using this
   replace X5:BoxNum w3 (w.heap.size+1+1+1) r0:=by have:=hG.old ((w.heap.size+1+1+1),3,0,r0) (by simp [plan]);simpa [hL 3 (by simp)] using this
   replace X8:BoxNum w3 g8 q0:=by have:=hG.old (g8,1004,q0,q0) (by simp [plan]);simpa using this
   replace X9:BoxNum w3 g9 r0:=by have:=hG.old (g9,1005,r0,r0) (by simp [plan]);simpa using this
   have e4:vs 4=.int .i64 (0):=hG.val 4 (hL 4 (by simp))
   replace HB:=hG.below
   rw [zAo hL]
   simp only [zP,Nat.zero_add,Nat.reduceAdd]
   rw [e4]
   generalize vs 0=u3_0
   generalize vs 1=u3_1
   clear hG hm hp hL hlast vs L e4
   obtain ⟨nc,aoc,kkc,ccc,⟨c0,c1,c2,c3⟩,hNc⟩:=id X4
   obtain ⟨nd,aod,kkd,ccd,⟨d0,d1,d2,d3⟩,hNd⟩:=id X5
   go_wp2
   refine bodyPost_ret (v:=.tuple #[.agg #[.bool nc,.slice aoc kkc ccc],.agg #[.bool nd,.slice aod kkd ccd],.int .i64 0]) ?_ rfl ⟨HB,.inr ⟨Hy0.out,_,_,rfl,by rw [← HEu.out.1];exact hNc.isInt,by rw [← HEu.out.2];exact hNd.isInt⟩⟩
   simp [results,Tryz.results127,go_sem,c0,c1,d0,d1]
  ·go_wp2
   have B4:Hid (ab ((Int.natAbs y:Int))<pw 1000):=zBk By.out
   have B5:Hid (ab ((r0+(Int.natAbs y:Int)))<pw 1001):=zBd Br0.out B4.out zm zm
   have hlast:=X9.lt
   have hp:(plan [Fc.num r0,Fc.num y,Fc.num (Int.natAbs y:Int),Fc.num (r0+(Int.natAbs y:Int)),Fc.any] [(w.heap.size,1000,x,x),((w.heap.size+1),1001,y,y),((w.heap.size+1+1),1002,0,0),((w.heap.size+1+1+1),1003,0,0),(g8,1004,q0,q0),(g9,4,r0,(r0+(Int.natAbs y:Int)))] []).Ok w.heap.size w12.heap.size:=zFc (by simp;omega) (by simp;try omega) (by simp) zm
   have hm:=PMono.of hp
   refine zC1 (p:=(plan [Fc.num r0,Fc.num y,Fc.num (Int.natAbs y:Int),Fc.num (r0+(Int.natAbs y:Int)),Fc.any] [(w.heap.size,1000,x,x),((w.heap.size+1),1001,y,y),((w.heap.size+1+1),1002,0,0),((w.heap.size+1+1+1),1003,0,0),(g8,1004,q0,q0),(g9,4,r0,(r0+(Int.natAbs y:Int)))] [])) (B:=w.heap.size) (B0:=w12.heap.size) (w0:=w) (by kernel_rfl) rfl rfl (zFd (by simp;exact ⟨XA,XB,X4,X5,X8,X9⟩) HB) ⟨?_,?_,?_,?_,?_,trivial⟩ ?_
   ·exact zA7 (b:=g9) (k:=4) (z:=r0) (z':=(r0+(Int.natAbs y:Int))) hp (by simp [plan]) (.inr rfl) rfl rfl (fun v w h=>h) ⟨by simp [plan],by simp [plan]⟩
   ·exact zA7 (b:=(w.heap.size+1)) (k:=1001) (z:=y) (z':=y) hp (by simp [plan]) (.inl rfl) rfl rfl (fun v w h=>h) ⟨by simp [plan],by simp [plan]⟩
   ·exact g_call1 (F:=(Fc.num y).P) hm ⟨by simp [plan],by simp [plan]⟩ trivial zTz (zCd 1 rfl rfl (by simp) rfl (fun v w h=>h)) (fun v w h=>exK (zB4 h) B4.out zm)
   ·exact zE8 (F:=(Fc.num r0).P) (G:=(Fc.num (Int.natAbs y:Int)).P) hm ⟨by simp [plan],by simp [plan]⟩ trivial zJl (zCd 0 rfl rfl (by simp) rfl (fun v w h=>h)) (zCd 2 rfl rfl (by simp) rfl (fun v w h=>h)) (fun v v' w h h'=>exK (zFg h h') B5.out zm)
   ·exact zB2 (b:=g9) (j:=3) (z:=r0) (z':=(r0+(Int.natAbs y:Int))) hp rfl (by simp [plan]) rfl rfl rfl (by simp) rfl (fun v w h=>h) (fun _ _=>trivial) (by simp [plan]) (by simp [plan])
   intro L vs w6 hL hG
   replace XA:BoxNum w6 w.heap.size x:=by have:=hG.old (w.heap.size,1000,x,x) (by simp [plan]);simpa using this
   replace XB:BoxNum w6 (w.heap.size+1) y:=by have:=hG.old ((w.heap.size+1),1001,y,y) (by simp [plan]);simpa using this
   replace X4:BoxNum w6 (w.heap.size+1+1) 0:=by have:=hG.old ((w.heap.size+1+1),1002,0,0) (by simp [plan]);simpa using this
   replace X5:BoxNum w6 (w.heap.size+1+1+1) 0:=by have:=hG.old ((w.heap.size+1+1+1),1003,0,0) (by simp [plan]);simpa using this
   replace X8:BoxNum w6 g8 q0:=by have:=hG.old (g8,1004,q0,q0) (by simp [plan]);simpa using this
   replace X9:BoxNum w6 g9 (r0+(Int.natAbs y:Int)):=by have:=hG.old (g9,4,r0,(r0+(Int.natAbs y:Int))) (by simp [plan]);simpa [hL 4 (by simp)] using this
   replace HB:=hG.below
   rw [zAo hL]
   simp only [zP,Nat.zero_add,Nat.reduceAdd]
   generalize vs 0=u6_0
   generalize vs 1=u6_1
   generalize vs 2=u6_2
   generalize vs 3=u6_3
   clear hG hm hp hL hlast vs L 
   obtain ⟨nb,aob,kkb,ccb,⟨b0,b1,b2,b3⟩,hNb⟩:=id XB
   obtain ⟨_,_,_,_,_,_,_,negy,posy⟩:=hNb.sign
   have Ny3:=hidd negy
   have Py3:=hidd posy
   clear negy posy
   cases nb
   ·go_wp2
    have B7:Hid (ab (1)<pw 2):=by show ab (1)<pw 2;decide
    have B8:Hid (ab ((q0-(1)))<pw 1001):=zCm Bq0.out B7.out zm zm
    have hlast:=X9.lt
    have hp:(plan [Fc.num q0,Fc.num (1),Fc.num (q0-(1)),Fc.any] [(w.heap.size,1000,x,x),((w.heap.size+1),1001,y,y),((w.heap.size+1+1),1002,0,0),((w.heap.size+1+1+1),1003,0,0),(g8,3,q0,(q0-(1))),(g9,1005,(r0+(Int.natAbs y:Int)),(r0+(Int.natAbs y:Int)))] []).Ok w.heap.size w6.heap.size:=zFc (by simp;omega) (by simp;try omega) (by simp) zm
    have hm:=PMono.of hp
    refine zC1 (p:=(plan [Fc.num q0,Fc.num (1),Fc.num (q0-(1)),Fc.any] [(w.heap.size,1000,x,x),((w.heap.size+1),1001,y,y),((w.heap.size+1+1),1002,0,0),((w.heap.size+1+1+1),1003,0,0),(g8,3,q0,(q0-(1))),(g9,1005,(r0+(Int.natAbs y:Int)),(r0+(Int.natAbs y:Int)))] [])) (B:=w.heap.size) (B0:=w6.heap.size) (w0:=w) (by kernel_rfl) rfl rfl (zFd (by simp;exact ⟨XA,XB,X4,X5,X8,X9⟩) HB) ⟨?_,?_,?_,?_,trivial⟩ ?_
    ·exact zA7 (b:=g8) (k:=3) (z:=q0) (z':=(q0-(1))) hp (by simp [plan]) (.inr rfl) rfl rfl (fun v w h=>h) ⟨by simp [plan],by simp [plan]⟩
    ·exact zLy hm ⟨by simp [plan],by simp [plan]⟩ trivial zLk (fun w=>rOfV w (1) zm zm)
    ·exact zE8 (F:=(Fc.num q0).P) (G:=(Fc.num (1)).P) hm ⟨by simp [plan],by simp [plan]⟩ trivial zO5 (zCd 0 rfl rfl (by simp) rfl (fun v w h=>h)) (zCd 1 rfl rfl (by simp) rfl (fun v w h=>h)) (fun v v' w h h'=>exK (RSubV h h' (K:=1000) (zu Bq0.out) (zu B7.out) zm) B8.out zm)
    ·exact zB2 (b:=g8) (j:=2) (z:=q0) (z':=(q0-(1))) hp rfl (by simp [plan]) rfl rfl rfl (by simp) rfl (fun v w h=>h) (fun _ _=>trivial) (by simp [plan]) (by simp [plan])
    intro L vs w9 hL hG
    replace XA:BoxNum w9 w.heap.size x:=by have:=hG.old (w.heap.size,1000,x,x) (by simp [plan]);simpa using this
    replace XB:BoxNum w9 (w.heap.size+1) y:=by have:=hG.old ((w.heap.size+1),1001,y,y) (by simp [plan]);simpa using this
    replace X4:BoxNum w9 (w.heap.size+1+1) 0:=by have:=hG.old ((w.heap.size+1+1),1002,0,0) (by simp [plan]);simpa using this
    replace X5:BoxNum w9 (w.heap.size+1+1+1) 0:=by have:=hG.old ((w.heap.size+1+1+1),1003,0,0) (by simp [plan]);simpa using this
    replace X8:BoxNum w9 g8 (q0-(1)):=by have:=hG.old (g8,3,q0,(q0-(1))) (by simp [plan]);simpa [hL 3 (by simp)] using this
    replace X9:BoxNum w9 g9 (r0+(Int.natAbs y:Int)):=by have:=hG.old (g9,1005,(r0+(Int.natAbs y:Int)),(r0+(Int.natAbs y:Int))) (by simp [plan]);simpa using this
    replace HB:=hG.below
    rw [zAo hL]
    simp only [zP,Nat.zero_add,Nat.reduceAdd]
    generalize vs 0=u9_0
    generalize vs 1=u9_1
    generalize vs 2=u9_2
    clear hG hm hp hL hlast vs L 
    go_wp2
    have hEu:(q0-(1))=x/y∧(r0+(Int.natAbs y:Int))=x % y:=by
     have hA:=Ax.out
     have hB:=Ay.out
     have h1:=Vq.out
     have h2:=Vr.out
     rw [hA,hB] at h1 h2
     have hq:=Hq0.out
     have hr:=Hr0.out
     rw [h1] at hq
     rw [h2] at hr
     have hv:=V1.out
     rw [hB] at hv
     have hd:=Int.mul_ediv_add_emod (ab x) (ab y)
     have hm0:=Int.emod_nonneg (ab x) (show ab y≠0 by omega)
     have hm1:=Int.emod_lt_of_pos (ab x) hv
     have D:=dm_end Hy0.out hd hm0 hm1 Nx.out Px.out Nx2.out Px2.out Ny2.out Py2.out hq hr
     have nr:=Nr.out
     have ny3:=Ny3.out
     have py3:=Py3.out
     exact D.2.1 (by simpa using nr) (by simpa using py3)
    have HEu:=hidd hEu
    clear hEu
    have hlast:=X9.lt
    have hp:(plan [Fc.num (q0-(1)),Fc.num (r0+(Int.natAbs y:Int)),Fc.any,Fc.any,Fc.is (.int .i64 (0))] [(w.heap.size,1000,x,x),((w.heap.size+1),1001,y,y),((w.heap.size+1+1),2,0,(q0-(1))),((w.heap.size+1+1+1),3,0,(r0+(Int.natAbs y:Int))),(g8,1004,(q0-(1)),(q0-(1))),(g9,1005,(r0+(Int.natAbs y:Int)),(r0+(Int.natAbs y:Int)))] []).Ok w.heap.size w9.heap.size:=zFc (by simp;omega) (by simp;try omega) (by simp) zm
    have hm:=PMono.of hp
    refine zC1 (p:=(plan [Fc.num (q0-(1)),Fc.num (r0+(Int.natAbs y:Int)),Fc.any,Fc.any,Fc.is (.int .i64 (0))] [(w.heap.size,1000,x,x),((w.heap.size+1),1001,y,y),((w.heap.size+1+1),2,0,(q0-(1))),((w.heap.size+1+1+1),3,0,(r0+(Int.natAbs y:Int))),(g8,1004,(q0-(1)),(q0-(1))),(g9,1005,(r0+(Int.natAbs y:Int)),(r0+(Int.natAbs y:Int)))] [])) (B:=w.heap.size) (B0:=w9.heap.size) (w0:=w) (by kernel_rfl) rfl rfl (zFd (by simp;exact ⟨XA,XB,X4,X5,X8,X9⟩) HB) ⟨?_,?_,?_,?_,?_,trivial⟩ ?_
    ·exact zA7 (b:=g8) (k:=1004) (z:=(q0-(1))) (z':=(q0-(1))) hp (by simp [plan]) (.inl rfl) rfl rfl (fun v w h=>h) ⟨by simp [plan],by simp [plan]⟩
    ·exact zA7 (b:=g9) (k:=1005) (z:=(r0+(Int.natAbs y:Int))) (z':=(r0+(Int.natAbs y:Int))) hp (by simp [plan]) (.inl rfl) rfl rfl (fun v w h=>h) ⟨by simp [plan],by simp [plan]⟩
    ·exact zB2 (b:=(w.heap.size+1+1)) (j:=0) (z:=0) (z':=(q0-(1))) hp rfl (by simp [plan]) rfl rfl rfl (by simp) rfl (fun v w h=>h) (fun _ _=>trivial) (by simp [plan]) (by simp [plan])
    ·exact zB2 (b:=(w.heap.size+1+1+1)) (j:=1) (z:=0) (z':=(r0+(Int.natAbs y:Int))) hp rfl (by simp [plan]) rfl rfl rfl (by simp) rfl (fun v w h=>h) (fun _ _=>trivial) (by simp [plan]) (by simp [plan])
    ·exact zJu hm ⟨by simp [plan],by simp [plan]⟩ trivial (zKq (fun _=>rfl))
    intro L vs w10 hL hG
    replace XA:BoxNum w10 w.heap.size x:=by have:=hG.old (w.heap.size,1000,x,x) (by simp [plan]);simpa using this
    replace XB:BoxNum w10 (w.heap.size+1) y:=by have:=hG.old ((w.heap.size+1),1001,y,y) (by simp [plan]);simpa using this
    replace X4:BoxNum w10 (w.heap.size+1+1) (q0-(1)):=by have:=hG.old ((w.heap.size+1+1),2,0,(q0-(1))) (by simp [plan]);simpa [hL 2 (by simp)] using this
    replace X5:BoxNum w10 (w.heap.size+1+1+1) (r0+(Int.natAbs y:Int)):=by have:=hG.old ((w.heap.size+1+1+1),3,0,(r0+(Int.natAbs y:Int))) (by simp [plan]);simpa [hL 3 (by simp)] using this
    replace X8:BoxNum w10 g8 (q0-(1)):=by have:=hG.old (g8,1004,(q0-(1)),(q0-(1))) (by simp [plan]);simpa using this
    replace X9:BoxNum w10 g9 (r0+(Int.natAbs y:Int)):=by have:=hG.old (g9,1005,(r0+(Int.natAbs y:Int)),(r0+(Int.natAbs y:Int))) (by simp [plan]);simpa using this
    have e4:vs 4=.int .i64 (0):=hG.val 4 (hL 4 (by simp))
    replace HB:=hG.below
    rw [zAo hL]
    simp only [zP,Nat.zero_add,Nat.reduceAdd]
    rw [e4]
    generalize vs 0=u10_0
    generalize vs 1=u10_1
    clear hG hm hp hL hlast vs L e4
    obtain ⟨nc,aoc,kkc,ccc,⟨c0,c1,c2,c3⟩,hNc⟩:=id X4
    obtain ⟨nd,aod,kkd,ccd,⟨d0,d1,d2,d3⟩,hNd⟩:=id X5
    go_wp2
    refine bodyPost_ret (v:=.tuple #[.agg #[.bool nc,.slice aoc kkc ccc],.agg #[.bool nd,.slice aod kkd ccd],.int .i64 0]) ?_ rfl ⟨HB,.inr ⟨Hy0.out,_,_,rfl,by rw [← HEu.out.1];exact hNc.isInt,by rw [← HEu.out.2];exact hNd.isInt⟩⟩
    simp [results,Tryz.results127,go_sem,c0,c1,d0,d1]
   ·go_wp2
    have B11:Hid (ab (1)<pw 2):=by show ab (1)<pw 2;decide
    have B12:Hid (ab ((q0+(1)))<pw 1001):=zBd Bq0.out B11.out zm zm
    have hlast:=X9.lt
    have hp:(plan [Fc.num q0,Fc.num (1),Fc.num (q0+(1)),Fc.any] [(w.heap.size,1000,x,x),((w.heap.size+1),1001,y,y),((w.heap.size+1+1),1002,0,0),((w.heap.size+1+1+1),1003,0,0),(g8,3,q0,(q0+(1))),(g9,1005,(r0+(Int.natAbs y:Int)),(r0+(Int.natAbs y:Int)))] []).Ok w.heap.size w6.heap.size:=zFc (by simp;omega) (by simp;try omega) (by simp) zm
    have hm:=PMono.of hp
    refine zC1 (p:=(plan [Fc.num q0,Fc.num (1),Fc.num (q0+(1)),Fc.any] [(w.heap.size,1000,x,x),((w.heap.size+1),1001,y,y),((w.heap.size+1+1),1002,0,0),((w.heap.size+1+1+1),1003,0,0),(g8,3,q0,(q0+(1))),(g9,1005,(r0+(Int.natAbs y:Int)),(r0+(Int.natAbs y:Int)))] [])) (B:=w.heap.size) (B0:=w6.heap.size) (w0:=w) (by kernel_rfl) rfl rfl (zFd (by simp;exact ⟨XA,XB,X4,X5,X8,X9⟩) HB) ⟨?_,?_,?_,?_,trivial⟩ ?_
    ·exact zA7 (b:=g8) (k:=3) (z:=q0) (z':=(q0+(1))) hp (by simp [plan]) (.inr rfl) rfl rfl (fun v w h=>h) ⟨by simp [plan],by simp [plan]⟩
    ·exact zLy hm ⟨by simp [plan],by simp [plan]⟩ trivial zLk (fun w=>rOfV w (1) zm zm)
    ·exact zE8 (F:=(Fc.num q0).P) (G:=(Fc.num (1)).P) hm ⟨by simp [plan],by simp [plan]⟩ trivial zJl (zCd 0 rfl rfl (by simp) rfl (fun v w h=>h)) (zCd 1 rfl rfl (by simp) rfl (fun v w h=>h)) (fun v v' w h h'=>exK (zFg h h') B12.out zm)
    ·exact zB2 (b:=g8) (j:=2) (z:=q0) (z':=(q0+(1))) hp rfl (by simp [plan]) rfl rfl rfl (by simp) rfl (fun v w h=>h) (fun _ _=>trivial) (by simp [plan]) (by simp [plan])
    intro L vs w13 hL hG
    replace XA:BoxNum w13 w.heap.size x:=by have:=hG.old (w.heap.size,1000,x,x) (by simp [plan]);simpa using this
    replace XB:BoxNum w13 (w.heap.size+1) y:=by have:=hG.old ((w.heap.size+1),1001,y,y) (by simp [plan]);simpa using this
    replace X4:BoxNum w13 (w.heap.size+1+1) 0:=by have:=hG.old ((w.heap.size+1+1),1002,0,0) (by simp [plan]);simpa using this
    replace X5:BoxNum w13 (w.heap.size+1+1+1) 0:=by have:=hG.old ((w.heap.size+1+1+1),1003,0,0) (by simp [plan]);simpa using this
    replace X8:BoxNum w13 g8 (q0+(1)):=by have:=hG.old (g8,3,q0,(q0+(1))) (by simp [plan]);simpa [hL 3 (by simp)] using this
    replace X9:BoxNum w13 g9 (r0+(Int.natAbs y:Int)):=by have:=hG.old (g9,1005,(r0+(Int.natAbs y:Int)),(r0+(Int.natAbs y:Int))) (by simp [plan]);simpa using this
    replace HB:=hG.below
    rw [zAo hL]
    simp only [zP,Nat.zero_add,Nat.reduceAdd]
    generalize vs 0=u13_0
    generalize vs 1=u13_1
    generalize vs 2=u13_2
    clear hG hm hp hL hlast vs L 
    go_wp2
    have hEu:(q0+(1))=x/y∧(r0+(Int.natAbs y:Int))=x % y:=by
     have hA:=Ax.out
     have hB:=Ay.out
     have h1:=Vq.out
     have h2:=Vr.out
     rw [hA,hB] at h1 h2
     have hq:=Hq0.out
     have hr:=Hr0.out
     rw [h1] at hq
     rw [h2] at hr
     have hv:=V1.out
     rw [hB] at hv
     have hd:=Int.mul_ediv_add_emod (ab x) (ab y)
     have hm0:=Int.emod_nonneg (ab x) (show ab y≠0 by omega)
     have hm1:=Int.emod_lt_of_pos (ab x) hv
     have D:=dm_end Hy0.out hd hm0 hm1 Nx.out Px.out Nx2.out Px2.out Ny2.out Py2.out hq hr
     have nr:=Nr.out
     have ny3:=Ny3.out
     have py3:=Py3.out
     exact D.2.2 (by simpa using nr) (by simpa using ny3)
    have HEu:=hidd hEu
    clear hEu
    have hlast:=X9.lt
    have hp:(plan [Fc.num (q0+(1)),Fc.num (r0+(Int.natAbs y:Int)),Fc.any,Fc.any,Fc.is (.int .i64 (0))] [(w.heap.size,1000,x,x),((w.heap.size+1),1001,y,y),((w.heap.size+1+1),2,0,(q0+(1))),((w.heap.size+1+1+1),3,0,(r0+(Int.natAbs y:Int))),(g8,1004,(q0+(1)),(q0+(1))),(g9,1005,(r0+(Int.natAbs y:Int)),(r0+(Int.natAbs y:Int)))] []).Ok w.heap.size w13.heap.size:=zFc (by simp;omega) (by simp;try omega) (by simp) zm
    have hm:=PMono.of hp
    refine zC1 (p:=(plan [Fc.num (q0+(1)),Fc.num (r0+(Int.natAbs y:Int)),Fc.any,Fc.any,Fc.is (.int .i64 (0))] [(w.heap.size,1000,x,x),((w.heap.size+1),1001,y,y),((w.heap.size+1+1),2,0,(q0+(1))),((w.heap.size+1+1+1),3,0,(r0+(Int.natAbs y:Int))),(g8,1004,(q0+(1)),(q0+(1))),(g9,1005,(r0+(Int.natAbs y:Int)),(r0+(Int.natAbs y:Int)))] [])) (B:=w.heap.size) (B0:=w13.heap.size) (w0:=w) (by kernel_rfl) rfl rfl (zFd (by simp;exact ⟨XA,XB,X4,X5,X8,X9⟩) HB) ⟨?_,?_,?_,?_,?_,trivial⟩ ?_
    ·exact zA7 (b:=g8) (k:=1004) (z:=(q0+(1))) (z':=(q0+(1))) hp (by simp [plan]) (.inl rfl) rfl rfl (fun v w h=>h) ⟨by simp [plan],by simp [plan]⟩
    ·exact zA7 (b:=g9) (k:=1005) (z:=(r0+(Int.natAbs y:Int))) (z':=(r0+(Int.natAbs y:Int))) hp (by simp [plan]) (.inl rfl) rfl rfl (fun v w h=>h) ⟨by simp [plan],by simp [plan]⟩
    ·exact zB2 (b:=(w.heap.size+1+1)) (j:=0) (z:=0) (z':=(q0+(1))) hp rfl (by simp [plan]) rfl rfl rfl (by simp) rfl (fun v w h=>h) (fun _ _=>trivial) (by simp [plan]) (by simp [plan])
    ·exact zB2 (b:=(w.heap.size+1+1+1)) (j:=1) (z:=0) (z':=(r0+(Int.natAbs y:Int))) hp rfl (by simp [plan]) rfl rfl rfl (by simp) rfl (fun v w h=>h) (fun _ _=>trivial) (by simp [plan]) (by simp [plan])
    ·exact zJu hm ⟨by simp [plan],by simp [plan]⟩ trivial (zKq (fun _=>rfl))
    intro L vs w14 hL hG
    replace XA:BoxNum w14 w.heap.size x:=by have:=hG.old (w.heap.size,1000,x,x) (by simp [plan]);simpa using this
    replace XB:BoxNum w14 (w.heap.size+1) y:=by have:=hG.old ((w.heap.size+1),1001,y,y) (by simp [plan]);simpa using this
    replace X4:BoxNum w14 (w.heap.size+1+1) (q0+(1)):=by have:=hG.old ((w.heap.size+1+1),2,0,(q0+(1))) (by simp [plan]);simpa [hL 2 (by simp)] using this
    replace X5:BoxNum w14 (w.heap.size+1+1+1) (r0+(Int.natAbs y:Int)):=by have:=hG.old ((w.heap.size+1+1+1),3,0,(r0+(Int.natAbs y:Int))) (by simp [plan]);simpa [hL 3 (by simp)] using this
    replace X8:BoxNum w14 g8 (q0+(1)):=by have:=hG.old (g8,1004,(q0+(1)),(q0+(1))) (by simp [plan]);simpa using this
    replace X9:BoxNum w14 g9 (r0+(Int.natAbs y:Int)):=by have:=hG.old (g9,1005,(r0+(Int.natAbs y:Int)),(r0+(Int.natAbs y:Int))) (by simp [plan]);simpa using this
    have e4:vs 4=.int .i64 (0):=hG.val 4 (hL 4 (by simp))
    replace HB:=hG.below
    rw [zAo hL]
    simp only [zP,Nat.zero_add,Nat.reduceAdd]
    rw [e4]
    generalize vs 0=u14_0
    generalize vs 1=u14_1
    clear hG hm hp hL hlast vs L e4
    obtain ⟨nc,aoc,kkc,ccc,⟨c0,c1,c2,c3⟩,hNc⟩:=id X4
    obtain ⟨nd,aod,kkd,ccd,⟨d0,d1,d2,d3⟩,hNd⟩:=id X5
    go_wp2
    refine bodyPost_ret (v:=.tuple #[.agg #[.bool nc,.slice aoc kkc ccc],.agg #[.bool nd,.slice aod kkd ccd],.int .i64 0]) ?_ rfl ⟨HB,.inr ⟨Hy0.out,_,_,rfl,by rw [← HEu.out.1];exact hNc.isInt,by rw [← HEu.out.2];exact hNd.isInt⟩⟩
    simp [results,Tryz.results127,go_sem,c0,c1,d0,d1]

theorem RDivV {w:World} {v v':Value} {x y:Int} (h:Num w v x) (h':Num w v' y) (hx:ab x<pw 1000) (hy:ab y<pw 1000) (hy0:y≠0):Calls Tryz.prog 91 #[v,v'] w (zBc w (x/y)):=by
 obtain ⟨n,ao,k,c,rfl⟩:=h.parts
 obtain ⟨n',ao',k',c',rfl⟩:=h'.parts
 have Bx:=hidd hx
 have By:=hidd hy
 have Hy0:=hidd hy0
 clear hx hy hy0
 obtain ⟨w0,hw0,hXW,X4,HB,_⟩:=zK3 w h h' 36
 obtain ⟨XA,XB,_⟩:=hXW w0 (Below.refl _ _)
 clear hXW
 go_enter Tryz.func91,Tryz.ntmps91
 go_upto_region 1 with (fail)
 rw [← hw0]
 clear hw0 h h'
 have hlt0:=X4.lt
 obtain ⟨na,aoa,kka,cca,⟨a0,a1,a2,a3⟩,hNa⟩:=id XA
 obtain ⟨nb,aob,kkb,ccb,⟨b0,b1,b2,b3⟩,hNb⟩:=id XB
 go_wp2_with fail
 refine (zNx hNa hNb Bx.out By.out).mono ?_
 rintro e w1 ⟨hb,⟨h0,_⟩ | ⟨_,vq,vr,rfl,iq,ir⟩⟩
 ·exact absurd h0 Hy0.out
 have Nq:=zCq iq (zEj Bx.out (show 1000<1001 by omega)) zm
 have Nr:=zCq ir (zCf Hy0.out By.out) zm
 obtain ⟨nq,aq,kq,cq,rfl⟩:=Nq.parts
 obtain ⟨nr,ar,kr,cr,rfl⟩:=Nr.parts
 clear iq ir
 clear a0 a1 a2 a3 hNa b0 b1 b2 b3 hNb
 replace XA:=XA.mono hb
 replace XB:=XB.mono hb
 replace X4:=X4.mono hb
 replace HB:=HB.trans (hb.mono HB.size)
 clear hb
 go_upto_region 2 with (fail)
 obtain ⟨w2,hw2,hb,p5,p6⟩:=boxTwo Nq Nr 36
 rw [← hw2]
 clear hw2
 have hlt1:=X4.lt
 replace XA:=XA.mono hb
 replace XB:=XB.mono hb
 replace X4:=X4.mono hb
 replace HB:=HB.trans (hb.mono HB.size)
 replace Nq:=Nq.mono hb
 replace Nr:=Nr.mono hb
 clear hb
 obtain ⟨ne,ae,ke,ce,⟨e0,e1,_,_⟩,hNe⟩:=id p5
 obtain ⟨nc,aoc,kkc,ccc,⟨c0,c1,c2,c3⟩,hNc⟩:=id X4
 have hNf:=hNe.putBox X4 ne ae ke ce
 unfold putBox at hNf
 have hbS:=(HB.setCell (p:=⟨w.heap.size+1+1,0,none⟩) (by show w.heap.size≤w.heap.size+1+1;omega) (.bool ne)).setCell (p:=⟨w.heap.size+1+1,1,none⟩) (by show w.heap.size≤w.heap.size+1+1;omega) (.slice ae ke ce)
 have hne1:¬ w1.heap.size=w.heap.size+1+1:=zm
 go_wp2
 refine bodyPost_ret (v:=.agg #[.bool ne,.slice ae ke ce]) ?_ rfl ⟨_,rfl,hNf.isInt,hbS⟩
 simp [results,Tryz.results91,go_sem,c0,c1]

theorem RModV {w:World} {v v':Value} {x y:Int} (h:Num w v x) (h':Num w v' y) (hx:ab x<pw 1000) (hy:ab y<pw 1000) (hy0:y≠0):Calls Tryz.prog 90 #[v,v'] w (zBc w (x % y)):=by
 obtain ⟨n,ao,k,c,rfl⟩:=h.parts
 obtain ⟨n',ao',k',c',rfl⟩:=h'.parts
 have Bx:=hidd hx
 have By:=hidd hy
 have Hy0:=hidd hy0
 clear hx hy hy0
 obtain ⟨w0,hw0,hXW,X4,HB,_⟩:=zK3 w h h' 36
 obtain ⟨XA,XB,_⟩:=hXW w0 (Below.refl _ _)
 clear hXW
 go_enter Tryz.func90,Tryz.ntmps90
 go_upto_region 1 with (fail)
 rw [← hw0]
 clear hw0 h h'
 have hlt0:=X4.lt
 obtain ⟨na,aoa,kka,cca,⟨a0,a1,a2,a3⟩,hNa⟩:=id XA
 obtain ⟨nb,aob,kkb,ccb,⟨b0,b1,b2,b3⟩,hNb⟩:=id XB
 go_wp2_with fail
 refine (zNx hNa hNb Bx.out By.out).mono ?_
 rintro e w1 ⟨hb,⟨h0,_⟩ | ⟨_,vq,vr,rfl,iq,ir⟩⟩
 ·exact absurd h0 Hy0.out
 have Nq:=zCq iq (zEj Bx.out (show 1000<1001 by omega)) zm
 have Nr:=zCq ir (zCf Hy0.out By.out) zm
 obtain ⟨nq,aq,kq,cq,rfl⟩:=Nq.parts
 obtain ⟨nr,ar,kr,cr,rfl⟩:=Nr.parts
 clear iq ir
 clear a0 a1 a2 a3 hNa b0 b1 b2 b3 hNb
 replace XA:=XA.mono hb
 replace XB:=XB.mono hb
 replace X4:=X4.mono hb
 replace HB:=HB.trans (hb.mono HB.size)
 clear hb
 go_upto_region 2 with (fail)
 obtain ⟨w2,hw2,hb,p5,p6⟩:=boxTwo Nq Nr 36
 rw [← hw2]
 clear hw2
 have hlt1:=X4.lt
 replace XA:=XA.mono hb
 replace XB:=XB.mono hb
 replace X4:=X4.mono hb
 replace HB:=HB.trans (hb.mono HB.size)
 replace Nq:=Nq.mono hb
 replace Nr:=Nr.mono hb
 clear hb
 obtain ⟨ne,ae,ke,ce,⟨e0,e1,_,_⟩,hNe⟩:=id p6
 obtain ⟨nc,aoc,kkc,ccc,⟨c0,c1,c2,c3⟩,hNc⟩:=id X4
 have hNf:=hNe.putBox X4 ne ae ke ce
 unfold putBox at hNf
 have hbS:=(HB.setCell (p:=⟨w.heap.size+1+1,0,none⟩) (by show w.heap.size≤w.heap.size+1+1;omega) (.bool ne)).setCell (p:=⟨w.heap.size+1+1,1,none⟩) (by show w.heap.size≤w.heap.size+1+1;omega) (.slice ae ke ce)
 have hne1:¬ w1.heap.size=w.heap.size+1+1:=zm
 go_wp2
 refine bodyPost_ret (v:=.agg #[.bool ne,.slice ae ke ce]) ?_ rfl ⟨_,rfl,hNf.isInt,hbS⟩
 simp [results,Tryz.results90,go_sem,c0,c1]

end Go.Proofs.YtjadciofpgjofaaGreatDoor

namespace Go.Proofs.YtjadciofpgjofaaGreatDoor
open Go Go.RowKit

theorem zO4:En 91:=zAd Tryz.func91 (by kernel_rfl) rfl
theorem zCp {w:World} {v:Value} {z:Int} (h:Num w v z):Calls Tryz.prog 87 #[v] w fun e w'=>∃ v',e=.returned v'∧Below w.heap.size w w'∧v'=.int .i64 (cmpI z 0):=
 (RSignV h).mono fun _ _ hh=>⟨_,hh.1,hh.2,rfl⟩
theorem ab_cmp (x y:Int):ab (cmpI x y)<pw 1:=by
 have h:=zI3 x y
 have h2:(1:Int)<pw 1:=by decide
 unfold ab
 omega

theorem zDe:En 36:=zAd Tryz.func36 (by kernel_rfl) rfl
theorem zBe:En 34:=zAd Tryz.func34 (by kernel_rfl) rfl
theorem zF6:En 72:=zAd Tryz.func72 (by kernel_rfl) rfl
theorem enq_Neg:En 71:=zAd Tryz.func71 (by kernel_rfl) rfl
theorem enq_Gcd:En 136:=zAd Tryz.func136 (by kernel_rfl) rfl
theorem zF3:En 37:=zAd Tryz.func37 (by kernel_rfl) rfl
theorem zA2:En 35:=zAd Tryz.func35 (by kernel_rfl) rfl
theorem zA3:En 38:=zAd Tryz.func38 (by kernel_rfl) rfl
theorem zBw:En 58:=zAd Tryz.func58 (by kernel_rfl) rfl
theorem zDt:En 135:=zAd Tryz.func135 (by kernel_rfl) rfl
theorem zEm:En 49:=zAd Tryz.func49 (by kernel_rfl) rfl
theorem zDl:En 20:=zAd Tryz.func20 (by kernel_rfl) rfl
theorem zB9:En 131:=zAd Tryz.func131 (by kernel_rfl) rfl
theorem zCo:En 87:=zAd Tryz.func87 (by kernel_rfl) rfl
theorem zOg:En 149:=zAd Tryz.func149 (by kernel_rfl) rfl
theorem enq_R_Mod:En 90:=zAd Tryz.func90 (by kernel_rfl) rfl
theorem zJe:En 95:=zAd Tryz.func95 (by kernel_rfl) rfl
theorem zDk:En 96:=zAd Tryz.func96 (by kernel_rfl) rfl
theorem zBg:En 125:=zAd Tryz.func125 (by kernel_rfl) rfl
theorem zDs:En 134:=zAd Tryz.func134 (by kernel_rfl) rfl
theorem zIu {x y:Int} {j k m:Nat} (hx:ab x<pw j) (hy:ab y<pw k) (hj:j≤m) (hk:k≤m):ab (Int.gcd x y:Int)<pw m:=by
 have h1:=zBu hj
 have h2:=zBu hk
 by_cases h:x=0
 ·subst h
  rw [Int.zero_gcd]
  unfold ab at *
  omega
 ·have h3:=Int.gcd_le_natAbs_left y h
  unfold ab at *
  omega

theorem cmpIq0 {x y:Int}:cmpI x y=0 ↔ x=y:=by
 unfold cmpI
 split
 ·rename_i h
  constructor
  ·intro h2;omega
  ·intro h2;omega
 ·split
  ·rename_i h;exact ⟨fun _=>h,fun _=>rfl⟩
  ·rename_i h;exact ⟨fun h2=>zm,fun h2=>absurd h2 h⟩
theorem cmpIqlt {x y:Int}:cmpI x y<0 ↔ x<y:=by
 unfold cmpI
 split
 ·rename_i h;exact ⟨fun _=>h,fun _=>by decide⟩
 ·rename_i h
  split
  ·exact ⟨fun h2=>zm,fun h2=>absurd h2 h⟩
  ·exact ⟨fun h2=>zm,fun h2=>absurd h2 h⟩
theorem cmpIqgt {x y:Int}:0<cmpI x y ↔ y<x:=by
 unfold cmpI
 split
 ·rename_i h;exact ⟨fun h2=>zm,fun h2=>zm⟩
 ·split
  ·rename_i h;exact ⟨fun h2=>zm,fun h2=>zm⟩
  ·rename_i h1 h;exact ⟨fun _=>zm,fun _=>by decide⟩

theorem zB5 {c:Int} (h:ab c<4294967296*4294967296*4294967296):ab c<pw 3:=h

theorem zGa {w:World} {v v':Value} {a b:Int} (h:Num w v a) (h':Num w v' b) (hb:b≠0) {j k:Nat} (hq:ab (a/b)<pw j) (hr:ab (a % b)<pw k) (hj:j≤900000) (hk:k≤900000) :
  Calls Tryz.prog 37 #[v,v'] w fun e w'=>∃ v',e=.returned v'∧Below w.heap.size w w'∧(Fq.tup3 (Fq.num (a/b)) (Fq.num (a % b)) (Fq.is (.int .i64 0))).P v' w':=
 (exDT h h' hb hq hr hj hk).mono fun _ _ ⟨v',e,hb',v1,v2,e2,h1,h2⟩=>⟨v',e,hb',v1,v2,_,e2,h1,h2,rfl⟩

theorem OfK (w:World) (z:Int) (h0:-9223372036854775808≤z) (h1:z≤9223372036854775807):Calls Tryz.prog 58 #[.int .i64 z] w fun e w'=>∃ v',e=.returned v'∧Below w.heap.size w w'∧Num w' v' z:=OfV w z h0 h1
theorem rOfK (w:World) (z:Int) (h0:-9223372036854775808≤z) (h1:z≤9223372036854775807):Calls Tryz.prog 20 #[.int .i64 z] w fun e w'=>∃ v',e=.returned v'∧Below w.heap.size w w'∧Num w' v' z:=rOfV w z h0 h1

theorem zHo {w:World} {b:Nat} {z:Int} (h:Bq w b 2 (Fq.num z)):BoxNum w b z:=by
 obtain ⟨us,hl,_,hat,_,hP⟩:=h
 match us,hl,hat,hP with
 | [p,q],_,hat,hP=>
  have hN:Num w (.agg #[p,q]) z:=hP
  obtain ⟨n,ao,k,c,e⟩:=hN.parts
  have e1:=congrArg (fun v=>match v with | Value.agg us=>us.toList | _=>[]) e
  simp at e1
  obtain ⟨rfl,rfl⟩:=e1
  exact ⟨n,ao,k,c,⟨(hat 0 (by simp)).1,(hat 1 (by simp)).1,(hat 0 (by simp)).2,(hat 1 (by simp)).2⟩,hN⟩

theorem Fr.drop {w0 W:World} {x:Nat × Nat × Fq} {bs:List (Nat × Nat × Fq)} (h:Fr w0 (x::bs) W):Fr w0 bs W:=
 ⟨h.below,fun y hy=>h.boxes y (List.mem_cons_of_mem _ hy),by have:=h.apart;rw [List.map_cons,List.nodup_cons] at this;exact this.2⟩

theorem exRMod {w:World} {v v':Value} {a b:Int} (h:Num w v a) (h':Num w v' b) (h0:b≠0) (ha:ab a<pw 900) (hb:ab b<pw 900):Calls Tryz.prog 90 #[v,v'] w fun e w'=>∃ v',e=.returned v'∧Below w.heap.size w w'∧Num w' v' (a % b):=
 exK (k:=900) (RModV h h' (zu ha) (zu hb) h0) (zCf h0 hb) zm
theorem exRSame {w:World} {v v':Value} {a b:Int} (h:Num w v a) (h':Num w v' b):Calls Tryz.prog 49 #[v,v'] w fun e w'=>∃ v',e=.returned v'∧Below w.heap.size w w'∧v'=.bool (decide (a=b)):=
 (SameV h h').mono fun _ _ hh=>⟨_,hh.1,hh.2,rfl⟩

theorem gcd_stepQ (x y:Int):Int.gcd y (x % y)=Int.gcd x y:=by
 have e:x % y=x-y*(x/y):=by have:=Int.mul_ediv_add_emod x y;omega
 rw [e,Int.gcd_sub_mul_left_right,Int.gcd_comm]

def Fq.raw (n:Bool) (a:Option Addr) (k c:Nat) (xs:List Int):Fq:=⟨fun v w=>v=.agg #[.bool n,.slice a k c]∧Sl w a k c xs,fun h hb=>⟨h.1,h.2.mono hb⟩,fun h ha ht hl=>⟨h.1,h.2.putAt ha ht hl⟩⟩
section
variable {n n' : Bool} {a a' : Option Addr} {k c k' c' : Nat} {xs xs' : List Int}
end

section
variable {os : List Oper} {Q : Exit → Act → World → Prop} {a : Act} {p : Pq} {B B0 : Nat} {w0 : World}
variable {i s : Nat} {d : Option Tmp} {ty : TypeId} {ps : String} {af : Array Edge} {gd : Option (Nat × Bool)}
end

theorem exRGcd {w:World} {v v':Value} {a b:Int} (h:Num w v a) (h':Num w v' b) (ha:ab a<pw 900) (hb:ab b<pw 900) :
  Calls Tryz.prog 149 #[v,v'] w fun e w'=>∃ v',e=.returned v'∧Below w.heap.size w w'∧Num w' v' (Int.gcd a b:Int):=by
 replace ha:=hidd ha
 replace hb:=hidd hb
 obtain ⟨n0,ao0,k0,c0,rfl⟩:=h.parts
 obtain ⟨n1,ao1,k1,c1,rfl⟩:=h'.parts
 obtain ⟨w1,b1,hw1,hb1,hs1,E⟩:=zEb w (F:=Fq.num a) (us:=[.bool n0,.slice ao0 k0 c0]) 36 rfl (by simp) (zCk _ _ _ _) h
 obtain ⟨w2,b2,hw2,hb2,hs2,E⟩:=fN E hs1 36 h'
 obtain ⟨w3,b3,hw3,hb3,hs3,E⟩:=fZ E hs2 36
 go_enter Tryz.func149,Tryz.ntmps149
 go_upto_region 1 with (fail)
 rw [← hw1]
 rw [← hw2]
 rw [← hw3]
 rw [← hb3]
 rw [← hb2]
 rw [← hb1]
 clear hw1 hw2 hw3 hb1 hb2 hb3 hs3 hs1 hs2
 have B4:Hid (ab ((Int.natAbs a:Int))<pw 900):=zBk ha.out
 refine rg [Fq.num a,Fq.num (Int.natAbs a:Int),Fq.any] [none,none,some (2,Fq.num (Int.natAbs a:Int))] [] E (fun hp=>⟨?_,?_,?_,tv⟩) ?_
 ·exact zA1 (off:=0) hp fo tv (mq 2 rfl) (.inr rfl) (Nat.le_of_ble_eq_true rfl) (zAp rfl rfl (fun _ _=>rfl)) (fun us w hl h=>zAz hl h)
 ·exact wXa (Fq.num a) hp zB9 (sqi 0) fun v w h=>exK (zB4 h) B4.out zm
 ·exact zCj hp (mq 2 rfl) rfl rfl (zAp rfl rfl (fun _ _=>rfl)) (zA9 1 rfl rfl (by simp) rfl (fun v w h=>zCa h)) (fun _ _=>trivial) (zBj rfl)
 intro L vs w5 nb hL hC hn E5
 have E:=E5;try simp only [LM,zAj] at E
 rw [zAo hL]
 simp only [zP,Nat.zero_add,Nat.reduceAdd]
 generalize vs 0=u5_0
 generalize vs 1=u5_1
 clear  hC hn E5 hL vs L nb
 go_upto_region 2 with (fail)
 have B6:Hid (ab ((Int.natAbs b:Int))<pw 900):=zBk hb.out
 refine rg [Fq.num b,Fq.num (Int.natAbs b:Int),Fq.any] [none,some (2,Fq.num (Int.natAbs b:Int)),none] [] E (fun hp=>⟨?_,?_,?_,tv⟩) ?_
 ·exact zA1 (off:=0) hp fo tv (mq 1 rfl) (.inr rfl) (Nat.le_of_ble_eq_true rfl) (zAp rfl rfl (fun _ _=>rfl)) (fun us w hl h=>zAz hl h)
 ·exact wXa (Fq.num b) hp zB9 (sqi 0) fun v w h=>exK (zB4 h) B6.out zm
 ·exact zCj hp (mq 1 rfl) rfl rfl (zAp rfl rfl (fun _ _=>rfl)) (zA9 1 rfl rfl (by simp) rfl (fun v w h=>zCa h)) (fun _ _=>trivial) (zBj rfl)
 intro L vs w7 nb hL hC hn E7
 have E:=E7;try simp only [LM,zAj] at E
 rw [zAo hL]
 simp only [zP,Nat.zero_add,Nat.reduceAdd]
 generalize vs 0=u7_0
 generalize vs 1=u7_1
 clear  hC hn E7 hL vs L nb
 have HS:=hidd E
 go_upto_region 3 with (fail)
 go_loopw [5] (fun _ W=>∃ x y:Int,0≤x∧0≤y∧Hid (ab x<pw 900∧ab y<pw 900∧Int.gcd x y=Int.gcd a b)∧Fr w [(b3,2,Fq.num 0),(b2,2,Fq.num y),(b1,2,Fq.num x)] W) (fun _ W=>zF0 W b2)
 case atStart=>exact ⟨_,_,Int.natCast_nonneg _,Int.natCast_nonneg _,⟨zBk ha.out,zBk hb.out,by rw [Int.gcd_eq_natAbs_gcd_natAbs,Int.gcd_eq_natAbs_gcd_natAbs,Int.natAbs_natCast,Int.natAbs_natCast]⟩,HS.out⟩
 case round=>
  obtain ⟨x,y,hx0,hy0,HI,E⟩:=hrel
  have HX:=hidd hx0
  have HY:=hidd hy0
  clear hx0 hy0 HS
  obtain ⟨n2,ao2,k2,c2,⟨d0,d1,_,_⟩,hN2⟩:=zHo (E.box 1 rfl)
  have hz:=hN2.len_zero.1
  by_cases hy:y=0
  ·obtain rfl:=hz.2 hy
   subst hy
   clear hz hN2
   go_upto_region 7 with (fail)
   refine rg [Fq.num x,Fq.any] [some (1,Fq.num x),none,none] [] E (fun hp=>⟨?_,?_,tv⟩) ?_
   ·exact zA1 (off:=0) hp fo tv (mq 2 rfl) (.inl rfl) (Nat.le_of_ble_eq_true rfl) (zAp rfl rfl (fun _ _=>rfl)) (fun us w hl h=>zAz hl h)
   ·exact zCj hp (mq 0 rfl) rfl rfl (zAp rfl rfl (fun _ _=>rfl)) (zA9 0 rfl rfl (by simp) rfl (fun v w h=>zCa h)) (fun _ _=>trivial) (zBj rfl)
   intro L vs w8 nb hL hC hn E8
   have E:=E8;try simp only [LM,zAj] at E
   rw [zAo hL]
   simp only [zP,Nat.zero_add,Nat.reduceAdd]
   generalize vs 0=u8_0
   clear  hC hn E8 hL vs L nb
   obtain ⟨p0,p1,c0,c1,hP⟩:=zCg (E.box 0 rfl)
   clear d0 d1
   have hg:x=(Int.gcd a b:Int):=by rw [← HI.out.2.2,Int.gcd_zero];have:=HX.out;omega
   have HG:=hidd hg
   clear hg ha hb
   go_wp2
   refine bodyPost_ret (v:=.agg #[p0,p1]) ?_ rfl ⟨_,rfl,E.below,by rw [← HG.out];exact hP⟩
   simp [results,Tryz.results149,go_sem,c0,c1]
  ·have hk2:0<k2:=by have:=mt hz.1 hy;omega
   have HNZ:=hidd hy
   clear hy hz hN2
   have HBV:=hidd (zFi (zHo (E.box 1 rfl)))
   go_upto_region 4 with (fail)
   have B9:Hid (ab ((x % y))<pw 900):=zCf HNZ.out HI.out.2.1
   refine rg [Fq.num x,Fq.num y,Fq.num (x % y),Fq.any,Fq.any] N3 [⟨3,4,2,Fq.num 0,Fq.num (x % y),none⟩] E (fun hp=>⟨?_,?_,?_,?_,?_,tv⟩) ?_
   ·exact zA1 (off:=0) hp fo tv (mq 2 rfl) (.inl rfl) (Nat.le_of_ble_eq_true rfl) (zAp rfl rfl (fun _ _=>rfl)) (fun us w hl h=>zAz hl h)
   ·exact zA1 (off:=0) hp fo tv (mq 1 rfl) (.inl rfl) (Nat.le_of_ble_eq_true rfl) (zAp rfl rfl (fun _ _=>rfl)) (fun us w hl h=>zAz hl h)
   ·exact wXb (Fq.num x) (Fq.num y) hp enq_R_Mod (sqi 0) (sqi 1) fun v v' w h h'=>exRMod h h' HNZ.out (zu HI.out.1) (zu HI.out.2.1)
   ·exact aN hp (mq 0 rfl)
   ·exact sN 2 hp (mq 0 rfl)
   intro L vs w10 nb hL hC hn E10
   have e3:vs 3=.pointer (some ⟨nb 3,0,none⟩):=hn _ (mq 0 rfl)
   have E:=E10;try simp only [LM,zAj] at E
   rw [zAo hL]
   simp only [zP,Nat.zero_add,Nat.reduceAdd]
   rw [e3]
   generalize nb 3=b10_3 at E ⊢
   generalize vs 0=u10_0
   generalize vs 1=u10_1
   generalize vs 2=u10_2
   clear e3 hC hn E10 hL vs L nb
   clear d0 d1
   go_upto_region 5 with (fail)
   refine rg [Fq.num y,Fq.any] [none,none,none,some (1,Fq.num y)] [] E (fun hp=>⟨?_,?_,tv⟩) ?_
   ·exact zA1 (off:=0) hp fo tv (mq 2 rfl) (.inl rfl) (Nat.le_of_ble_eq_true rfl) (zAp rfl rfl (fun _ _=>rfl)) (fun us w hl h=>zAz hl h)
   ·exact zCj hp (mq 3 rfl) rfl rfl (zAp rfl rfl (fun _ _=>rfl)) (zA9 0 rfl rfl (by simp) rfl (fun v w h=>zCa h)) (fun _ _=>trivial) (zBj rfl)
   intro L vs w11 nb hL hC hn E11
   have E:=E11;try simp only [LM,zAj] at E
   rw [zAo hL]
   simp only [zP,Nat.zero_add,Nat.reduceAdd]
   generalize vs 0=u11_0
   clear  hC hn E11 hL vs L nb
   go_upto_region 6 with (fail)
   refine rg [Fq.num (x % y),Fq.any] [none,none,some (1,Fq.num (x % y)),none] [] E (fun hp=>⟨?_,?_,tv⟩) ?_
   ·exact zA1 (off:=0) hp fo tv (mq 0 rfl) (.inl rfl) (Nat.le_of_ble_eq_true rfl) (zAp rfl rfl (fun _ _=>rfl)) (fun us w hl h=>zAz hl h)
   ·exact zCj hp (mq 2 rfl) rfl rfl (zAp rfl rfl (fun _ _=>rfl)) (zA9 0 rfl rfl (by simp) rfl (fun v w h=>zCa h)) (fun _ _=>trivial) (zBj rfl)
   intro L vs w12 nb hL hC hn E12
   have E:=E12;try simp only [LM,zAj] at E
   rw [zAo hL]
   simp only [zP,Nat.zero_add,Nat.reduceAdd]
   generalize vs 0=u12_0
   clear  hC hn E12 hL vs L nb
   go_roundw
   case rel=>exact ⟨_,_,_,_,_,_,_,_,_,_,⟨y,x % y,HY.out,Int.emod_nonneg _ HNZ.out,⟨HI.out.2.1,zCf HNZ.out HI.out.2.1,by rw [gcd_stepQ];exact HI.out.2.2⟩,E.drop⟩,rfl⟩
   case measure=>rw [zFi (zHo (E.box 2 rfl)),HBV.out];have h1:=Int.emod_nonneg x HNZ.out;have h2:=Int.emod_lt_of_pos x (show 0<y by have:=HNZ.out;have:=HY.out;omega);omega

theorem zEn {w:World} {v v':Value} {a b:Int} {t:Bool} (h:Num w v a) (h':Num w v' b) (ht:decide (a=b)=t):Calls Tryz.prog 49 #[v,v'] w fun e w'=>∃ v',e=.returned v'∧Below w.heap.size w w'∧v'=.bool t:=by
 have:=exRSame h h'
 rw [ht] at this
 exact this

end Go.Proofs.YtjadciofpgjofaaGreatDoor

namespace Go.Proofs.YtjadciofpgjofaaGreatDoor
open Go Go.RowKit

theorem Ow.set {w:World} {B g n c:Nat} {zs:List Int} (h:Ow w B (.slice (some ⟨g,0,none⟩) n c) zs) {j:Nat} (hj:j<n) {x:Int} (hx0:0≤x) (hx1:x<4294967296):Ow (w.setCell ⟨g,j,none⟩ (.int .u32 x)) B (.slice (some ⟨g,0,none⟩) n c) (zs.set j x):=by
 obtain ⟨⟨h1,h2⟩,h3⟩:=h
 rcases h2 with ⟨h4,_⟩ | ⟨g',cap,cur,h4,h5,h6,h7,h8,h9,h10⟩
 ·cases h4
 ·cases h4
  refine ⟨⟨by simp,.inr ⟨g,c,cur.setIfInBounds j (.int .u32 x),by rw [List.length_set],h5,?_,by rw [List.length_set];exact h7,h8,by simpa using h9,?_⟩⟩,h3.set j ⟨hx0,hx1⟩⟩
  ·simp only [World.setCell,Array.getElem?_modify,if_true,h6,Option.map_some,Option.isSome_none]
   simp
  ·rw [List.length_set,Array.toList_setIfInBounds,List.take_set,h10,List.map_set]

end Go.Proofs.YtjadciofpgjofaaGreatDoor

namespace Go.Proofs.YtjadciofpgjofaaGreatDoor
open Go Go.RowKit

theorem Ow.nil (w:World) (B:Nat):Ow w B (.slice none 0 0) []:=⟨World.ownsRow_nil _ _ _ _,fun _ h=>by simp at h⟩

end Go.Proofs.YtjadciofpgjofaaGreatDoor

namespace Go.Proofs.YtjadciofpgjofaaGreatDoor
open Go Go.RowKit

theorem Fr.put {w0 W:World} {b m:Nat} {F F':Fq} {bs:List (Nat × Nat × Fq)} (h:Fr w0 ((b,m,F)::bs) W) {us:List Value} (hl:us.length=m) (ht:Tame us) (hF:F'.P (.agg us.toArray) W):Fr w0 ((b,m,F')::bs) (putFrom W b 0 us):=by
 have hb:=h.boxes _ List.mem_cons_self
 refine ⟨zId hb.1 us 0 _ _ h.below,fun x hx=>?_,h.apart⟩
 rcases List.mem_cons.1 hx with rfl | hx
 ·exact ⟨hb.1,hb.2.same hl ht hF⟩
 ·have hx2:=h.boxes x (List.mem_cons_of_mem _ hx)
  refine ⟨hx2.1,hx2.2.other hb.2 (fun e=>?_) hl⟩
  have hn:=h.apart
  rw [List.map_cons,List.nodup_cons] at hn
  exact hn.1 (by rw [show (b,m,F).1=x.1 from e.symm];exact List.mem_map.2 ⟨x,hx,rfl⟩)

section
variable {os : List Oper} {Q : Exit → Act → World → Prop} {a : Act} {p : Pq} {B B0 : Nat} {w0 : World}
variable {i s : Nat} {d : Option Tmp} {ty : TypeId} {ps : String} {af : Array Edge} {gd : Option (Nat × Bool)}
theorem zXb {b:Nat} {F:Fq} {x:Operand} (hp:p.Ok B B0) (hF:p.Free i) (hg:GdQ os a p B B0 w0 af gd) (hb:Bq w0 b 2 F) (hB:B=w0.heap.size) (hx:SrcQ os a p B B0 w0 af x fun u _=>u=.pointer (some ⟨b,0,none⟩)) (hC:∀ v w,F.P v w→(p.c i).P v w) :
  zAf os Q a p B B0 w0 i { dst:=d,op:=.load 36 x,type:=ty,pos:=ps,after:=af,guard:=gd }:=by
 subst hB
 refine zBf hp hF hg fun L vs w hG hL hc hd=>?_
 obtain ⟨us,hl,h0,hat,ht,hP⟩:=hb.mono hG.below
 have e:=hx L vs w hG hd
 match us,hl,hat,hP with
 | [u0,u1],_,hat,hP=>
  have c0:=(hat 0 (by simp)).1
  have c1:=(hat 1 (by simp)).1
  simp at c0 c1
  refine ⟨_,?_,hC _ w hP⟩
  generalize (lay os.toArray L vs os.toArray.size a).eval=ρ at e
  simp [execOp,go_sem,e,c0,c1]
end

section
variable {os : List Oper} {Q : Exit → Act → World → Prop} {a : Act} {p : Pq} {B B0 : Nat} {w0 : World}
variable {i s : Nat} {d : Option Tmp} {ty : TypeId} {ps : String} {af : Array Edge} {gd : Option (Nat × Bool)}

theorem q_loadSl {o:Ob} {off:Nat} {x:Operand} {v:Value} (hp:p.Ok B B0) (hF:p.Free i) (hg:GdQ os a p B B0 w0 af gd) (ho:o∈p.old) (hk:o.F1=o.F0∨zBo os 9 o.k i=true) (hoff:off+1≤o.m)
  (hx:SrcQ os a p B B0 w0 af x fun u _=>u=.pointer (some ⟨o.b,off,none⟩)) (hC:∀ (us:List Value) (w:World),us.length=o.m→o.F0.P (.agg us.toArray) w→us.getD off undef=v∧(p.c i).P v w) :
  zAf os Q a p B B0 w0 i { dst:=d,op:=.load 27 x,type:=ty,pos:=ps,after:=af,guard:=gd }:=by
 refine zBf hp hF hg fun L vs w hG hL hc hd=>?_
 obtain ⟨us,hl,h0,hat,ht,hP⟩:=zFj ho hk hG hL hc
 have e:=hx L vs w hG hd
 have c0:=(hat off zm).1
 obtain ⟨e2,hP2⟩:=hC us w hl hP
 refine ⟨_,?_,hP2⟩
 rw [e2] at c0
 generalize (lay os.toArray L vs os.toArray.size a).eval=ρ at e
 simp [execOp,go_sem,e,c0]

theorem zKs {same:List (Nat × Nat)} {j:Nat} (hp:p.Ok B B0) (hF:p.Free i) (ha:zAy (os.map (·.dst))=true) (hj:(os.map (·.dst))[j]?=some (some s)) (hs:s<a.tmps.size) (hdep:depA af j=true) (hC:∀ v w,(p.c i).P v w)
  (hsm:same.all (fun x=>x.1 != i || x.2 == j)=true) (hne:j≠i):StepS os Q a p B B0 w0 same i { dst:=d,op:=.assign (.tmp s),type:=ty,pos:=ps,after:=af,guard:=none }:=by
 intro hio L vs w hG hL hd hc
 have hLj:=zGt hdep hd
 have he:=zC8 (vs:=vs) ha hLj hj hs
 refine wpOp_step hio fun K' hK=>?_
 have hwn:Region.wanted ({ dst:=d,op:=.assign (.tmp s),type:=ty,pos:=ps,after:=af,guard:=none }:Oper) (yielded os.toArray (lay os.toArray L vs os.toArray.size a).tmps)=true:=rfl
 rw [if_pos hwn]
 have e:(execOp (lay os.toArray L vs os.toArray.size a).eval ({ dst:=d,op:=.assign (.tmp s),type:=ty,pos:=ps,after:=af,guard:=none }:Oper)).run Tryz.prog w=.ok (.value (vs j)) w:=by
  generalize (lay os.toArray L vs os.toArray.size a).eval=ρ at he
  simp [execOp,go_sem,he]
 unfold Oper.wp
 rw [e]
 refine hK _ _ ⟨_,rfl,hG.1.plain hp hF (Below.refl _ _) (hC _ _),fun x hx h1=>?_⟩
 by_cases hx1:x.1=i
 ·have h2:x.2=j:=by
   have:=List.all_eq_true.1 hsm x hx
   simpa [hx1] using this
  rw [hx1,h2,zBx,zAg _ _ hne,zAg _ _ hne]
  exact ⟨hLj,rfl⟩
 ·rw [zAg _ _ hx1] at h1
  obtain ⟨h2,h3⟩:=hG.2 x hx h1
  have hx2:x.2≠i:=fun e=>by rw [e,hL] at h2;cases h2
  rw [zAg _ _ hx1,zAg _ _ hx2,zAg _ _ hx2]
  exact ⟨h2,h3⟩

end

theorem zDy {C:List Fq} {bs:List (Nat × Nat × Fq)} {ks:List (Option (Nat × Fq))} {new:List Nb} {len i:Nat} (h:new.all (fun n=>n.i == i || n.k != i)=true):∀ n∈(plq C bs ks new len).new,n.i≠i→n.k≠i:=fun n hn hi e=>by
 have:=List.all_eq_true.1 h n hn
 simp [e,hi] at this

theorem Pq.G.made {p:Pq} {B B0:Nat} {w0 w w':World} {L:Nat→Bool} {vs:Nat→Value} (h:p.G B B0 w0 L vs w) (hp:p.Ok B B0) {n0:Nb} (hi:n0∈p.new) {F:Fq} (hk:n0.now (up L n0.i true)=F)
  (hC:∀ v w',(p.c n0.i).P v w') (h1:∀ o∈p.old,o.k≠n0.i) (h2:∀ n∈p.new,n.i≠n0.i→n.k≠n0.i) {b:Nat} (hbs:w.heap.size≤b) (hb:Below w.heap.size w w') (hbx:Bq w' b n0.m F) :
  p.G B B0 w0 (up L n0.i true) (up vs n0.i (n0.ptr b)) w':=by
 refine ⟨h.below.trans (hb.mono (Nat.le_trans hp.le h.size)),Nat.le_trans h.size hb.size,fun j hj=>?_,fun o ho=>?_,fun n hn hj=>?_,fun n hn m hm hne hj hk'=>?_⟩
 ·by_cases hji:j=n0.i
  ·subst hji;exact hC _ _
  ·rw [zAg _ _ hji] at hj ⊢;exact (p.c j).mono (h.val j hj) hb
 ·rw [zAg _ _ (h1 o ho)];exact (h.old o ho).mono hb
 ·by_cases hni:n.i=n0.i
  ·have e:=hp.newinj n hn _ hi hni
   subst e
   rw [zBx,hk]
   exact ⟨_,rfl,Nat.le_trans h.size hbs,hbx⟩
  ·rw [Nb.now_up (h2 n hn hni)]
   rw [zAg _ _ hni] at hj ⊢
   obtain ⟨b,e1,e2,e3⟩:=h.new n hn hj
   exact ⟨b,e1,e2,e3.mono hb⟩
 ·by_cases hni:n.i=n0.i
  ·have hmi:m.i≠n0.i:=fun e=>hne (hni.trans e.symm)
   rw [hni,zBx]
   rw [zAg _ _ hmi] at hk' ⊢
   obtain ⟨b,e1,e2,e3⟩:=h.new m hm hk'
   rw [e1,Nb.block_ptr,Nb.block_ptr]
   have:=e3.lt
   omega
  ·rw [zAg _ _ hni] at hj ⊢
   by_cases hmi:m.i=n0.i
   ·rw [hmi,zBx]
    obtain ⟨b,e1,e2,e3⟩:=h.new n hn hj
    rw [e1,Nb.block_ptr,Nb.block_ptr]
    have:=e3.lt
    omega
   ·rw [zAg _ _ hmi] at hk' ⊢
    exact h.apart n hn m hm hne hj hk'

section
variable {os : List Oper} {Q : Exit → Act → World → Prop} {a : Act} {p : Pq} {B B0 : Nat} {w0 : World}
variable {i s : Nat} {d : Option Tmp} {ty : TypeId} {ps : String} {af : Array Edge} {gd : Option (Nat × Bool)}

theorem q_zeroInt (hp:p.Ok B B0) (hF:p.Free i) (hg:GdQ os a p B B0 w0 af gd) (hC:∀ w,(p.c i).P (.agg #[.bool false,.slice none 0 0]) w):zAf os Q a p B B0 w0 i { dst:=d,op:=.build 36 #[],type:=ty,pos:=ps,after:=af,guard:=gd }:=by
 refine zBf hp hF hg fun L vs w hG hL hc hd=>⟨.agg #[.bool false,.slice none 0 0],?_,hC w⟩
 generalize (lay os.toArray L vs os.toArray.size a).eval=ρ
 simp [execOp,go_sem]
theorem zEu {x y z:Operand} {F G F3:Value→World→Prop} {f:FuncId} {ts:Array TypeId} (hp:p.Ok B B0) (hF:p.Free i) (hg:GdQ os a p B B0 w0 af gd) (hen:∀ args w,(callFunc f args).run Tryz.prog w=.ok (.enter f args) w)
  (hx:SrcQ os a p B B0 w0 af x F) (hy:SrcQ os a p B B0 w0 af y G) (hz:SrcQ os a p B B0 w0 af z F3) (hC:∀ v v' u w,F v w→G v' w→F3 u w→Calls Tryz.prog f #[v,v',u] w fun e w'=>∃ v',e=.returned v'∧Below w.heap.size w w'∧(p.c i).P v' w') :
  zAf os Q a p B B0 w0 i { dst:=d,op:=.call { callee:=.value (.func f),args:=#[x,y,z],argTypes:=ts },type:=ty,pos:=ps,after:=af,guard:=gd }:=
 zFu hp hF hg hen fun L vs w hG hd=>⟨#[_,_,_],by simp,hC _ _ _ _ (hx L vs w hG hd) (hy L vs w hG hd) (hz L vs w hG hd)⟩
theorem zD1 {x y z t:Operand} {F G F3 F4:Value→World→Prop} {f:FuncId} {ts:Array TypeId} (hp:p.Ok B B0) (hF:p.Free i) (hg:GdQ os a p B B0 w0 af gd) (hen:∀ args w,(callFunc f args).run Tryz.prog w=.ok (.enter f args) w)
  (hx:SrcQ os a p B B0 w0 af x F) (hy:SrcQ os a p B B0 w0 af y G) (hz:SrcQ os a p B B0 w0 af z F3) (ht:SrcQ os a p B B0 w0 af t F4) (hC:∀ v v' u u' w,F v w→G v' w→F3 u w→F4 u' w→Calls Tryz.prog f #[v,v',u,u'] w fun e w'=>∃ v',e=.returned v'∧Below w.heap.size w w'∧(p.c i).P v' w') :
  zAf os Q a p B B0 w0 i { dst:=d,op:=.call { callee:=.value (.func f),args:=#[x,y,z,t],argTypes:=ts },type:=ty,pos:=ps,after:=af,guard:=gd }:=
 zFu hp hF hg hen fun L vs w hG hd=>⟨#[_,_,_,_],by simp,hC _ _ _ _ _ (hx L vs w hG hd) (hy L vs w hG hd) (hz L vs w hG hd) (ht L vs w hG hd)⟩

theorem zEv {n0:Nb} {x:Operand} {f g:FuncId} {ts:Array TypeId} {F:Value→World→Prop} (hp:p.Ok B B0) (hen:∀ args w,(callFunc f args).run Tryz.prog w=.ok (.enter f args) w) (hi:n0∈p.new) (hii:n0.i=i) (hki:n0.k=i) (hsl:n0.s=some (.clo g))
  (hx:SrcQ os a p B B0 w0 af x F) (hC:∀ v w,F v w→Calls Tryz.prog f #[v] w fun e w'=>∃ b,e=.returned (cloV g b)∧w.heap.size≤b∧Below w.heap.size w w'∧Bq w' b n0.m n0.F1)
  (hany:∀ v w',(p.c i).P v w') (h1:∀ o∈p.old,o.k≠i) (h2:∀ n∈p.new,n.i≠i→n.k≠i) :
  zAf os Q a p B B0 w0 i { dst:=d,op:=.call { callee:=.value (.func f),args:=#[x],argTypes:=ts },type:=ty,pos:=ps,after:=af,guard:=none }:=by
 intro hio L vs w hG hL hd hc
 refine wpOp_step hio fun K' hK=>?_
 have h0:=hx L vs w hG hd
 have hwn:Region.wanted ({ dst:=d,op:=.call { callee:=.value (.func f),args:=#[x],argTypes:=ts },type:=ty,pos:=ps,after:=af,guard:=none }:Oper) (yielded os.toArray (lay os.toArray L vs os.toArray.size a).tmps)=true:=rfl
 rw [if_pos hwn]
 have e:(execOp (lay os.toArray L vs os.toArray.size a).eval ({ dst:=d,op:=.call { callee:=.value (.func f),args:=#[x],argTypes:=ts },type:=ty,pos:=ps,after:=af,guard:=none }:Oper)).run Tryz.prog w=(.ok (.enter f #[(lay os.toArray L vs os.toArray.size a).eval x]) w):=by
  have hf:(lay os.toArray L vs os.toArray.size a).eval (.func f)=.func (.func f) #[] #[]:=rfl
  generalize (lay os.toArray L vs os.toArray.size a).eval=ρ at hf
  simp [execOp,go_sem,hf,hen]
 unfold Oper.wp
 rw [e]
 refine (hC _ w h0).mono ?_
 rintro e' w' ⟨b,rfl,hbs,hb,hbx⟩
 subst hii
 have hnow:n0.now (up L n0.i true)=n0.F1:=by
  unfold Nb.now
  rw [hsl]
  rfl
 have hlay:=hG.made hp hi (F:=n0.F1) hnow hany h1 h2 hbs hb hbx
 have hptr:n0.ptr b=cloV g b:=by unfold Nb.ptr;rw [hsl]
 rw [hptr] at hlay
 exact hK _ _ ⟨_,rfl,hlay⟩

theorem zKt {f0:Operand} {g:FuncId} {xs:Array Operand} {ts:Array TypeId} (hp:p.Ok B B0) (hF:p.Free i) (hg:GdQ os a p B B0 w0 af gd) (hen:∀ args w,(callFunc g args).run Tryz.prog w=.ok (.enter g args) w)
  (hr:∀ L vs w,p.G B B0 w0 L vs w→(∀ e∈af,Region.binds .any e=true→L e.on=true)→∃ args b,xs.map (lay os.toArray L vs os.toArray.size a).eval=args∧(lay os.toArray L vs os.toArray.size a).eval f0=cloV g b ∧
   Calls Tryz.prog g (args ++ #[.pointer (some ⟨b,0,none⟩)]) w fun e w'=>∃ v',e=.returned v'∧Below w.heap.size w w'∧(p.c i).P v' w') :
  zAf os Q a p B B0 w0 i { dst:=d,op:=.call { callee:=.value f0,args:=xs,argTypes:=ts },type:=ty,pos:=ps,after:=af,guard:=gd }:=by
 intro hio L vs w hG hL hd hc
 refine wpOp_step hio fun K' hK=>?_
 obtain ⟨args,b,hx,hf,hC⟩:=hr L vs w hG hd
 rw [if_pos (zE2 (o:={ dst:=d,op:=.call { callee:=.value f0,args:=xs,argTypes:=ts },type:=ty,pos:=ps,after:=af,guard:=gd }) hg hG hd)]
 have e:(execOp (lay os.toArray L vs os.toArray.size a).eval ({ dst:=d,op:=.call { callee:=.value f0,args:=xs,argTypes:=ts },type:=ty,pos:=ps,after:=af,guard:=gd }:Oper)).run Tryz.prog w=(.ok (.enter g (args ++ #[.pointer (some ⟨b,0,none⟩)])) w):=by
  unfold cloV at hf
  generalize (lay os.toArray L vs os.toArray.size a).eval=ρ at hx hf
  simp [execOp,go_sem,hx,hf,hen]
 unfold Oper.wp
 rw [e]
 refine hC.mono ?_
 rintro e' w' ⟨v',rfl,hb,h⟩
 exact hK _ _ ⟨_,rfl,hG.plain hp hF hb h⟩

theorem zIg {n0:Nb} {f0 x:Operand} {g:FuncId} {ts:Array TypeId} {F:Value→World→Prop} (hp:p.Ok B B0) (hF:p.Free i) (hg:GdQ os a p B B0 w0 af gd) (hen:∀ args w,(callFunc g args).run Tryz.prog w=.ok (.enter g args) w) (hi:n0∈p.new) (hsl:n0.s=some (.clo g))
  (hf:∀ L vs w,p.G B B0 w0 L vs w→(∀ e∈af,Region.binds .any e=true→L e.on=true)→L n0.i=true∧(lay os.toArray L vs os.toArray.size a).eval f0=vs n0.i) (hx:SrcQ os a p B B0 w0 af x F)
  (hC:∀ v b w,F v w→Bq w b n0.m n0.F1→Calls Tryz.prog g #[v,.pointer (some ⟨b,0,none⟩)] w fun e w'=>∃ v',e=.returned v'∧Below w.heap.size w w'∧(p.c i).P v' w') :
  zAf os Q a p B B0 w0 i { dst:=d,op:=.call { callee:=.value f0,args:=#[x],argTypes:=ts },type:=ty,pos:=ps,after:=af,guard:=gd }:=
 zKt hp hF hg hen fun L vs w hG hd=>by
  obtain ⟨hLi,hye⟩:=hf L vs w hG hd
  obtain ⟨b,e1,_,hb⟩:=hG.new _ hi hLi
  have hptr:n0.ptr b=cloV g b:=by unfold Nb.ptr;rw [hsl]
  have hnow:n0.now L=n0.F1:=by
   unfold Nb.now
   rw [hsl]
   rfl
  rw [hnow] at hb
  exact ⟨_,b,rfl,by rw [hye,e1,hptr],by simpa using hC _ b w (hx L vs w hG hd) hb⟩

theorem zRi {o:Ob} {f0 x:Operand} {g:FuncId} {ts:Array TypeId} {F:Value→World→Prop} (hp:p.Ok B B0) (hF:p.Free i) (hg:GdQ os a p B B0 w0 af gd) (hen:∀ args w,(callFunc g args).run Tryz.prog w=.ok (.enter g args) w) (ho:o∈p.old) (hk:o.F1=o.F0)
  (hf:SrcQ os a p B B0 w0 af f0 fun v _=>v=cloV g o.b) (hx:SrcQ os a p B B0 w0 af x F)
  (hC:∀ v w,F v w→Bq w o.b o.m o.F0→Calls Tryz.prog g #[v,.pointer (some ⟨o.b,0,none⟩)] w fun e w'=>∃ v',e=.returned v'∧Below w.heap.size w w'∧(p.c i).P v' w') :
  zAf os Q a p B B0 w0 i { dst:=d,op:=.call { callee:=.value f0,args:=#[x],argTypes:=ts },type:=ty,pos:=ps,after:=af,guard:=gd }:=
 zKt hp hF hg hen fun L vs w hG hd=>by
  have hb:=hG.old o ho
  rw [hk] at hb
  exact ⟨_,o.b,rfl,hf L vs w hG hd,by simpa using hC _ w (hx L vs w hG hd) (by simpa using hb)⟩
end

theorem zF4:En 138:=zAd Tryz.func138 (by kernel_rfl) rfl
theorem zF5:En 152:=zAd Tryz.func152 (by kernel_rfl) rfl

theorem zGe {w:World} {v:Value} {m:Int} (h:Num w v m):Calls Tryz.prog 138 #[v] w fun e w'=>∃ b,e=.returned (cloV 152 b)∧w.heap.size≤b∧Below w.heap.size w w'∧Bq w' b 2 (Fq.num m):=by
 obtain ⟨n0,ao0,k0,c0,rfl⟩:=h.parts
 obtain ⟨w1,b1,hw1,hb1,hs1,E⟩:=zEb w (F:=Fq.num m) (us:=[.bool n0,.slice ao0 k0 c0]) 36 rfl (by simp) (zCk _ _ _ _) h
 go_enter Tryz.func138,Tryz.ntmps138
 go_upto_region 1 with (fail)
 rw [← hw1]
 rw [← hb1]
 have hbs:w.heap.size≤b1:=(E.boxes _ (List.mem_cons_self ..)).1
 have hbx:=(E.boxes _ (List.mem_cons_self ..)).2
 clear hw1 hb1 hs1
 go_wp2
 refine bodyPost_ret (v:=cloV 152 b1) ?_ rfl ⟨_,rfl,hbs,E.below,hbx⟩
 simp [results,Tryz.results138,go_sem,cloV]

def zCs (f:Nat→Int) (l:List Nat):Int:=l.foldr (fun k z=>f k*z) 1
def sumL (f:Nat→Int) (l:List Nat):Int:=l.foldr (fun k z=>f k+z) 0
theorem zWv {l l':List Nat} (h:l.Perm l') (f:Nat→Int):zCs f l=zCs f l':=h.foldr_eq' (fun x _ y _ z=>by ac_rfl) 1
theorem zEr (f:Nat→Int) (k:Nat) (l:List Nat):zCs f (k::l)=f k*zCs f l:=rfl
theorem zDq (f:Nat→Int) (k:Nat) (l:List Nat):sumL f (k::l)=f k+sumL f l:=rfl
theorem zRa (f g:Nat→Int):∀ l,zCs (fun k=>f k*g k) l=zCs f l*zCs g l
 | []=>rfl
 | k::l=>by rw [zEr,zEr,zEr,zRa f g l];ac_rfl
theorem zIo (f g:Nat→Int):∀ l,sumL (fun k=>f k+g k) l=sumL f l+sumL g l
 | []=>rfl
 | k::l=>by rw [zDq,zDq,zDq,zIo f g l];omega
theorem zQ9 (f:Nat→Int) (s:Nat→Nat):∀ l,zCs f (l.map s)=zCs (fun k=>f (s k)) l
 | []=>rfl
 | k::l=>by rw [List.map_cons,zEr,zEr,zQ9 f s l]
theorem zKg {f g:Nat→Int}:∀ {l:List Nat},(∀ k∈l,f k=g k)→zCs f l=zCs g l
 | [],_=>rfl
 | k::l,h=>by rw [zEr,zEr,h k (by simp),zKg (fun j hj=>h j (by simp [hj]))]
theorem zKu {f g:Nat→Int}:∀ {l:List Nat},(∀ k∈l,f k=g k)→sumL f l=sumL g l
 | [],_=>rfl
 | k::l,h=>by rw [zDq,zDq,h k (by simp),zKu (fun j hj=>h j (by simp [hj]))]
theorem zSi (f:Nat→Nat→Int) (l2:List Nat):∀ l1,sumL (fun k=>sumL (fun j=>f k j) l2) l1=sumL (fun j=>sumL (fun k=>f k j) l1) l2
 | []=>by
  show (0:Int)=_
  induction l2 with
  | nil=>rfl
  | cons j l2 ih=>rw [zDq,← ih];rfl
 | k::l1=>by
  rw [zDq,zSi f l2 l1,← zIo]
  rfl
theorem zNn (f:Nat→Int) (l2:List Nat):∀ l1,sumL f (l1++l2)=sumL f l1+sumL f l2
 | []=>by show _=0+_;rw [Int.zero_add];rfl
 | k::l1=>by rw [List.cons_append,zDq,zDq,zNn f l2 l1];omega
def up1 (h:Nat):List Nat:=List.range' 1 h
theorem up1_mem {h k:Nat}:k∈up1 h ↔ 1≤k∧k≤h:=by
 unfold up1
 rw [List.mem_range'_1]
 omega
theorem zNq (h:Nat):up1 (h+1)=up1 h ++ [h+1]:=by
 unfold up1
 rw [List.range'_1_concat,Nat.add_comm 1 h]
theorem up1_nodup (h:Nat):(up1 h).Nodup:=List.nodup_range' 1
theorem zMk:∀ (h:Nat) (L:List Nat),L.Nodup→(∀ x∈L,1≤x∧x≤h)→L.length≤h
 | 0,L,_,hx=>by
  cases L with
  | nil=>exact Nat.le_refl _
  | cons x L=>have:=hx x (by simp);omega
 | h+1,L,hn,hx=>by
  by_cases hm:h+1∈L
  ·have h1:=zMk h (L.erase (h+1)) (hn.erase _) (fun x hxe=>by
    have h2:=hx x (List.mem_of_mem_erase hxe)
    have h3:x≠h+1:=fun e=>by subst e;exact hn.not_mem_erase hxe
    omega)
   have:=List.length_erase_of_mem hm
   omega
  ·have h1:=zMk h L hn (fun x hxe=>by
    have h2:=hx x hxe
    have h3:x≠h+1:=fun e=>hm (by rw [← e];exact hxe)
    omega)
   omega
theorem zQ3:∀ (h:Nat) (L:List Nat),L.Nodup→(∀ x∈L,1≤x∧x≤h)→L.length=h→L.Perm (up1 h)
 | 0,L,_,_,hl=>by
  cases L with
  | nil=>exact List.Perm.refl _
  | cons x L=>simp at hl
 | h+1,L,hn,hx,hl=>by
  by_cases hm:h+1∈L
  ·have h1:=zQ3 h (L.erase (h+1)) (hn.erase _) (fun x hxe=>by
    have h2:=hx x (List.mem_of_mem_erase hxe)
    have h3:x≠h+1:=fun e=>by subst e;exact hn.not_mem_erase hxe
    omega) (by rw [List.length_erase_of_mem hm];omega)
   rw [zNq]
   exact (List.perm_cons_erase hm).trans ((h1.cons _).trans (List.perm_append_singleton _ _).symm)
  ·have h1:=zMk h L hn (fun x hxe=>by
    have h2:=hx x hxe
    have h3:x≠h+1:=fun e=>hm (by rw [← e];exact hxe)
    omega)
   omega

theorem zQs {s:Nat→Nat}:∀ {l:List Nat},l.Nodup→(∀ x∈l,∀ y∈l,s x=s y→x=y)→(l.map s).Nodup
 | [],_,_=>by simp
 | k::l,hn,hi=>by
  rw [List.nodup_cons] at hn
  rw [List.map_cons,List.nodup_cons]
  refine ⟨fun hm=>?_,zQs hn.2 (fun x hx y hy=>hi x (by simp [hx]) y (by simp [hy]))⟩
  obtain ⟨y,hy,e⟩:=List.mem_map.1 hm
  exact hn.1 (by rw [← hi y (by simp [hy]) k (by simp) e];exact hy)

theorem zWr {h:Nat} {s:Nat→Nat} (h1:∀ k,1≤k→k≤h→1≤s k∧s k≤h) (h2:∀ j k,1≤j→j≤h→1≤k→k≤h→s j=s k→j=k):((up1 h).map s).Perm (up1 h):=by
 refine zQ3 h _ (zQs (up1_nodup h) fun x hx y hy e=>?_) (fun x hx=>?_) (by rw [List.length_map];unfold up1;rw [List.length_range'])
 ·rw [up1_mem] at hx hy
  exact h2 x y hx.1 hx.2 hy.1 hy.2 e
 ·obtain ⟨k,hk,rfl⟩:=List.mem_map.1 hx
  rw [up1_mem] at hk
  exact h1 k hk.1 hk.2

def sg (n:Nat) (x:Int):Int:=if 2*(x % n)<n then 1 else -1
def la (n:Nat) (x:Int):Nat:=if 2*(x % n)<n then (x % n).toNat else (n-x % n).toNat

theorem zR4 {n:Nat} {x y:Int} (h:x % n=y % n):sg n x=sg n y:=by unfold sg;rw [h]
theorem zTe {n x y:Int} (h:x % n=y % n):n ∣ x-y:=Int.dvd_of_emod_eq_zero (Int.emod_eq_emod_iff_emod_sub_eq_zero.1 h)
theorem sg_or (n:Nat) (x:Int):sg n x=1∨sg n x=-1:=by unfold sg;split <;> simp
theorem neg_mod {n:Nat} (h0:0<n) {x:Int} (hx:x % n≠0):(-x) % n=n-x % n:=by
 have h1:=Int.mul_ediv_add_emod x n
 have h2:=Int.emod_nonneg x (show (n:Int)≠0 by omega)
 have h3:=Int.emod_lt_of_pos x (show (0:Int)<n by omega)
 have e:-x=(n-x % n)+n*(-(x/n)-1):=by
  rw [Int.mul_sub,Int.mul_neg,Int.mul_one]
  omega
 rw [e,Int.add_mul_emod_self_left]
 exact Int.emod_eq_of_lt zm zm
theorem sg_neg {n:Nat} (ho:n % 2=1) {x:Int} (hx:x % n≠0):sg n (-x)=-(sg n x):=by
 have h1:=Int.emod_nonneg x (show (n:Int)≠0 by omega)
 have h2:=Int.emod_lt_of_pos x (show (0:Int)<n by omega)
 unfold sg
 rw [neg_mod zm hx]
 split
 ·rw [if_neg zm];rfl
 ·rw [if_pos zm]
theorem sg_la {n:Nat} (h0:0<n) (x:Int):x % n=(sg n x*(la n x:Int)) % n:=by
 have h1:=Int.emod_nonneg x (show (n:Int)≠0 by omega)
 have h2:=Int.emod_lt_of_pos x (show (0:Int)<n by omega)
 unfold sg la
 split
 ·rw [Int.one_mul,Int.toNat_of_nonneg h1,Int.emod_emod_of_dvd x (Int.dvd_refl _)]
 ·rw [Int.toNat_of_nonneg zm,Int.neg_mul,Int.one_mul,Int.neg_sub]
  rw [Int.sub_emod_right]
  rw [Int.emod_emod_of_dvd x (Int.dvd_refl _)]
theorem zL4 {n:Nat} (ho:n % 2=1) {x:Int} (hx:x % n≠0):1≤la n x∧la n x≤(n-1)/2:=by
 have h1:=Int.emod_nonneg x (show (n:Int)≠0 by omega)
 have h2:=Int.emod_lt_of_pos x (show (0:Int)<n by omega)
 unfold la
 split <;> omega

theorem zI6 {n:Nat} {b:Int} (hb:Int.gcd b n=1) {x:Int} (hx:x % n≠0):(b*x) % n≠0:=by
 intro h
 apply hx
 have h1:(n:Int) ∣ b*x:=Int.dvd_of_emod_eq_zero h
 have h2:n ∣ b.natAbs*x.natAbs:=by
  have:=Int.natAbs_dvd_natAbs.2 h1
  rw [Int.natAbs_mul] at this
  exact this
 have h3:Nat.Coprime n b.natAbs:=by
  have:Nat.gcd b.natAbs n=1:=hb
  rw [Nat.gcd_comm] at this
  exact this
 have h4:=h3.dvd_of_dvd_mul_left h2
 exact Int.emod_eq_zero_of_dvd (Int.natAbs_dvd_natAbs.1 h4)
theorem zNj {n:Nat} {x:Int} (h:x % n=0) (h1:-(n:Int)<x) (h2:x<n):x=0:=by
 obtain ⟨c,hc⟩:=Int.dvd_of_emod_eq_zero h
 have hn:(0:Int)≤n:=zm
 rcases Int.lt_trichotomy c 0 with h3 | h3 | h3
 ·have:=Int.mul_le_mul_of_nonneg_left (show c≤-1 by omega) hn
  omega
 ·rw [hc,h3,Int.mul_zero]
 ·have:=Int.mul_le_mul_of_nonneg_left (show 1≤c by omega) hn
  omega

theorem zLz {n k:Nat} (h1:1≤k) (h2:k≤(n-1)/2):(k:Int) % n≠0:=by
 intro h
 have:=zNj h zm zm
 omega

theorem la_perm {n:Nat} (ho:n % 2=1) {b:Int} (hb:Int.gcd b n=1):((up1 ((n-1)/2)).map (fun k:Nat=>la n (b*k))).Perm (up1 ((n-1)/2)):=by
 refine zWr (fun k h1 h2=>zL4 ho (zI6 hb (zLz h1 h2))) (fun j k hj1 hj2 hk1 hk2 e=>?_)
 have e1:=sg_la (show 0<n by omega) (b*j)
 have e2:=sg_la (show 0<n by omega) (b*k)
 rw [e] at e1
 have key:∀ s:Int,(b*j) % n=(s*(b*k)) % n→(s=1∨s=-1)→j=k:=by
  intro s hs hs1
  have h1:=zTe hs
  have e3:b*(j:Int)-s*(b*k)=b*(j-s*k):=by rw [Int.mul_sub];congr 1;ac_rfl
  rw [e3] at h1
  have h2:((j:Int)-s*k) % n=0:=by
   by_cases h:((j:Int)-s*k) % n=0
   ·exact h
   ·exact absurd (Int.emod_eq_zero_of_dvd h1) (zI6 hb h)
  rcases hs1 with rfl | rfl
  ·have:=zNj h2 zm zm
   omega
  ·have:=zNj h2 zm zm
   omega
 have e4:∀ s t:Int,(s=1∨s=-1)→(t=1∨t=-1)→(b*j) % n=(s*(la n (b*k):Int)) % n→(b*k) % n=(t*(la n (b*k):Int)) % n→j=k:=by
  intro s t hs ht h1 h2
  refine key (s*t) ?_ (by rcases hs with rfl | rfl <;> rcases ht with rfl | rfl <;> simp)
  have h3:(s*t*(b*k)) % n=(s*t*(t*(la n (b*k):Int))) % n:=by
   rw [Int.mul_emod,h2,← Int.mul_emod]
  rw [h1,h3]
  have:s*t*(t*(la n (b*k):Int))=s*(la n (b*k):Int)*(t*t):=by ac_rfl
  rw [this,show t*t=1 by rcases ht with rfl | rfl <;> rfl,Int.mul_one]
 exact e4 _ _ (sg_or _ _) (sg_or _ _) e1 e2

def J (a:Int) (n:Nat):Int:=if Int.gcd a n=1 then zCs (fun k=>sg n (a*k)) (up1 ((n-1)/2)) else 0
theorem zGr {a:Int} {n:Nat} (h:Int.gcd a n=1):J a n=zCs (fun k=>sg n (a*k)) (up1 ((n-1)/2)):=by unfold J;rw [if_pos h]
theorem zFf {a:Int} {n:Nat} (h:Int.gcd a n≠1):J a n=0:=by unfold J;rw [if_neg h]
theorem zRb {n:Nat} {f:Nat→Int}:∀ l,zCs (fun k=>sg n (f k)) l=1∨zCs (fun k=>sg n (f k)) l=-1
 | []=>.inl rfl
 | k::l=>by
  rw [zEr]
  rcases sg_or n (f k) with h | h <;> rcases zRb (f:=f) l with h2 | h2 <;> rw [h,h2] <;> simp
theorem J_or {a:Int} {n:Nat} (h:Int.gcd a n=1):J a n=1∨J a n=-1:=by rw [zGr h];exact zRb _
theorem zPs {a:Int} {n:Nat}:Int.gcd (a % n) n=Int.gcd a n:=by
 rw [Int.gcd_comm,Int.gcd_comm a]
 have h:=Int.mul_ediv_add_emod a n
 have e:a % n=a+n*(-(a/n)):=by rw [Int.mul_neg];omega
 rw [e];simp
theorem J_mod (a:Int) (n:Nat):J (a % n) n=J a n:=by
 unfold J
 rw [zPs]
 split
 ·refine zKg fun k _=>zR4 ?_
  rw [Int.mul_emod,Int.emod_emod_of_dvd _ (Int.dvd_refl _),← Int.mul_emod]
 ·rfl
theorem J_congr {a b:Int} {n:Nat} (h:a % n=b % n):J a n=J b n:=by rw [← J_mod a,← J_mod b,h]
theorem gcd_mul_iff {a b:Int} {n:Nat}:Int.gcd (a*b) n=1 ↔ Int.gcd a n=1∧Int.gcd b n=1:=by
 have e:Int.gcd (a*b) n=Nat.gcd (a.natAbs*b.natAbs) n:=by
  unfold Int.gcd;rw [Int.natAbs_mul];rfl
 rw [e]
 exact Nat.coprime_mul_iff_left
theorem J_mul {n:Nat} (ho:n % 2=1) (a b:Int):J (a*b) n=J a n*J b n:=by
 by_cases h:Int.gcd a n=1∧Int.gcd b n=1
 ·obtain ⟨ha,hb⟩:=h
  rw [zGr (gcd_mul_iff.2 ⟨ha,hb⟩),zGr ha,zGr hb,← zWv (la_perm ho hb) (fun k=>sg n (a*k)),zQ9,← zRa]
  refine zKg fun k hk=>?_
  rw [up1_mem] at hk
  have h0:=zLz hk.1 hk.2
  have h1:=zI6 hb h0
  have h2:=sg_la (show 0<n by omega) (b*k)
  have h3:(a*b*(k:Int)) % n=(sg n (b*k)*(a*(la n (b*k):Int))) % n:=by
   rw [Int.mul_assoc,Int.mul_emod,h2,← Int.mul_emod]
   congr 1
   ac_rfl
  rw [zR4 h3]
  have h4:(a*(la n (b*k):Int)) % n≠0:=zI6 ha (zLz (zL4 ho h1).1 (zL4 ho h1).2)
  rcases sg_or n (b*k) with e | e
  ·rw [e,Int.one_mul,Int.mul_one]
  ·rw [e,Int.neg_mul,Int.one_mul,sg_neg ho h4,Int.mul_neg,Int.mul_one]
 ·rw [zFf (fun e=>h (gcd_mul_iff.1 e))]
  by_cases ha:Int.gcd a n=1
  ·rw [zFf (a:=b) (fun e=>h ⟨ha,e⟩),Int.mul_zero]
  ·rw [zFf ha,Int.zero_mul]

def par (z:Int):Int:=if z % 2=0 then 1 else -1
theorem zMo (x y:Int):par (x+y)=par x*par y:=by
 unfold par
 split <;> split <;> split <;> first | rfl | omega
theorem par_sq (x:Int):par x*par x=1:=by unfold par;split <;> rfl
theorem par_sum (f:Nat→Int):∀ l,zCs (fun k=>par (f k)) l=par (sumL f l)
 | []=>rfl
 | k::l=>by rw [zEr,zDq,zMo,par_sum f l]
theorem sg_par {n:Nat} (h0:0<n) (x:Int):sg n x=par ((2*x)/n):=by
 have h1:=Int.emod_nonneg x (show (n:Int)≠0 by omega)
 have h2:=Int.emod_lt_of_pos x (show (0:Int)<n by omega)
 have h3:=Int.mul_ediv_add_emod x n
 have e:2*x=2*(x % n)+n*(2*(x/n)):=by
  have:(n:Int)*(2*(x/n))=2*(n*(x/n)):=by ac_rfl
  omega
 rw [e,Int.add_mul_ediv_left _ _ (show (n:Int)≠0 by omega)]
 unfold sg par
 by_cases h:2*(x % n)<n
 ·rw [if_pos h,Int.ediv_eq_zero_of_lt zm h,if_pos zm]
 ·have h5:2*(x % n)/n=1:=by
   have e2:2*(x % n)=(2*(x % n)-n)+n*1:=zm
   rw [e2,Int.add_mul_ediv_left _ _ (show (n:Int)≠0 by omega),Int.ediv_eq_zero_of_lt zm zm]
   rfl
  rw [if_neg h,h5,if_neg zm]
theorem J_par {a:Int} {n:Nat} (ho:n % 2=1) (h:Int.gcd a n=1):J a n=par (sumL (fun k=>(2*(a*k))/n) (up1 ((n-1)/2))):=by
 rw [zGr h,← par_sum]
 exact zKg fun k _=>sg_par zm _

theorem J_half {m:Int} {n:Nat} (ho:n % 2=1) (hm:m % 2=1) (h:Int.gcd m n=1) :
  Int.gcd 2 n=1∧J 2 n*J ((m+n)/2) n=J m n∧J ((m+n)/2) n=par (sumL (fun k=>(m*k)/n) (up1 ((n-1)/2)))*par (sumL (fun k=>(k:Int)) (up1 ((n-1)/2))):=by
 have e:2*((m+n)/2)=m+n:=zm
 have h1:Int.gcd (m+n) n=1:=by
  rw [Int.gcd_comm] at h ⊢
  have:m+(n:Int)=m+n*1:=zm
  rw [this];simpa using h
 have h2:=h1
 rw [← e] at h2
 obtain ⟨h3,h4⟩:=gcd_mul_iff.1 h2
 refine ⟨h3,?_,?_⟩
 ·rw [← J_mul ho,e]
  exact J_congr (by rw [Int.add_emod_right])
 ·rw [J_par ho h4,← zMo,← zIo]
  refine congrArg par (zKu fun k _=>?_)
  have e2:2*((m+n)/2*(k:Int))=m*k+n*k:=by
   rw [← Int.mul_assoc,e,Int.add_mul]
  rw [e2,Int.add_mul_ediv_left _ _ (show (n:Int)≠0 by omega)]
theorem zPt (n:Nat):Int.gcd 1 n=1:=by simp
theorem J_one (n:Nat):J 1 n=1:=by
 rw [zGr (zPt n)]
 have:∀ l:List Nat,(∀ k∈l,1≤k∧k≤(n-1)/2)→zCs (fun k=>sg n (1*k)) l=1:=by
  intro l hl
  induction l with
  | nil=>rfl
  | cons k l ih=>
   rw [zEr,ih (fun j hj=>hl j (by simp [hj]))]
   have:=hl k (by simp)
   unfold sg
   rw [Int.one_mul,Int.emod_eq_of_lt zm zm,if_pos zm]
   rfl
 exact this _ (fun k hk=>up1_mem.1 hk)
theorem sum_small {n:Nat}:sumL (fun k=>((1:Int)*k)/n) (up1 ((n-1)/2))=0:=by
 have:∀ l:List Nat,(∀ k∈l,1≤k∧k≤(n-1)/2)→sumL (fun k=>((1:Int)*k)/n) l=0:=by
  intro l hl
  induction l with
  | nil=>rfl
  | cons k l ih=>
   rw [zDq,ih (fun j hj=>hl j (by simp [hj]))]
   have:=hl k (by simp)
   rw [Int.one_mul,Int.ediv_eq_zero_of_lt zm zm]
   rfl
 exact this _ (fun k hk=>up1_mem.1 hk)
theorem zNw {n:Nat} (ho:n % 2=1):J 2 n=par (sumL (fun k=>(k:Int)) (up1 ((n-1)/2))):=by
 obtain ⟨h1,h2,h3⟩:=J_half (m:=1) ho zd (zPt n)
 rw [sum_small,J_one] at *
 rw [h3] at h2
 have h4:par 0=1:=rfl
 rw [h4,Int.one_mul] at h2
 have h5:=par_sq (sumL (fun k=>(k:Int)) (up1 ((n-1)/2)))
 calc J 2 n=J 2 n*(par (sumL (fun k=>(k:Int)) (up1 ((n-1)/2)))*par (sumL (fun k=>(k:Int)) (up1 ((n-1)/2)))):=by rw [h5,Int.mul_one]
  _=_:=by rw [← Int.mul_assoc,h2,Int.one_mul]
theorem sum_up1:∀ h:Nat,2*sumL (fun k=>(k:Int)) (up1 h)=h*(h+1)
 | 0=>rfl
 | h+1=>by
  have ih:=sum_up1 h
  rw [zNq,zNn,Int.mul_add,ih]
  show (h:Int)*(h+1)+2*(((h+1:Nat):Int)+0)=_
  have e:((h+1:Nat):Int)=(h:Int)+1:=rfl
  rw [e]
  simp only [Int.mul_add,Int.add_mul]
  omega
theorem J_two {n:Nat} (ho:n % 2=1):J 2 n=if n % 8=3∨n % 8=5 then -1 else 1:=by
 rw [zNw ho]
 have h:=sum_up1 ((n-1)/2)
 generalize sumL (fun k=>(k:Int)) (up1 ((n-1)/2))=s at *
 obtain ⟨q,hq⟩:∃ q:Nat,n=8*q+n % 8:=⟨n/8,zm⟩
 have h8:n % 8=1∨n % 8=3∨n % 8=5∨n % 8=7:=zm
 have sq:∀ c:Nat,c<4→(n-1)/2=4*q+c→2*s=16*((q:Int)*q)+(8*c+4)*q+c*(c+1):=by
  intro c _ hc
  rw [hc] at h
  rw [h]
  have:((4*q+c:Nat):Int)=4*(q:Int)+c:=zm
  rw [this]
  simp only [Int.mul_add,Int.add_mul,Int.mul_one]
  have e1:4*(q:Int)*(4*q)=16*(q*q):=by
   rw [Int.mul_assoc,Int.mul_left_comm (q:Int) 4 q,← Int.mul_assoc];rfl
  have e2:(c:Int)*(4*q)=4*(c*q):=by ac_rfl
  have e3:4*(q:Int)*c=4*(c*q):=by ac_rfl
  have e4:8*(c:Int)*q=8*(c*q):=by ac_rfl
  omega
 unfold par
 rcases h8 with e | e | e | e
 ·have:=sq 0 zm zm
  rw [if_pos (show s % 2=0 by omega),if_neg zm]
 ·have:=sq 1 zm zm
  rw [if_neg (show ¬ s % 2=0 by omega),if_pos zm]
 ·have:=sq 2 zm zm
  rw [if_neg (show ¬ s % 2=0 by omega),if_pos zm]
 ·have:=sq 3 zm zm
  rw [if_pos (show s % 2=0 by omega),if_neg zm]
theorem J_odd {m:Int} {n:Nat} (ho:n % 2=1) (hm:m % 2=1) (h:Int.gcd m n=1):J m n=par (sumL (fun k=>(m*k)/n) (up1 ((n-1)/2))):=by
 obtain ⟨h1,h2,h3⟩:=J_half ho hm h
 rw [← h2,h3,zNw ho]
 rw [Int.mul_comm,Int.mul_assoc,par_sq,Int.mul_one]

theorem zK8 {n:Nat} (h0:0<n) {N:Int} (hN:0≤N):∀ H:Nat,sumL (fun j=>if (n:Int)*j≤N then 1 else 0) (up1 H)=if (H:Int)≤N/n then (H:Int) else N/n
 | 0=>by
  have:0≤N/n:=Int.ediv_nonneg hN zm
  rw [if_pos zm];rfl
 | H+1=>by
  rw [zNq,zNn,zK8 h0 hN H]
  show _+((if (n:Int)*((H+1:Nat):Int)≤N then 1 else 0)+0)=_
  have hi:(n:Int)*((H+1:Nat):Int)≤N ↔ ((H+1:Nat):Int)≤N/n:=by
   rw [Int.le_ediv_iff_mul_le zm,Int.mul_comm]
  by_cases h:((H+1:Nat):Int)≤N/n
  ·rw [if_pos (hi.2 h),if_pos h,if_pos zm]
   omega
  ·rw [if_neg (mt hi.1 h),if_neg h]
   split <;> omega
theorem zOb {m n k:Nat} (hm:m % 2=1) (hn:n % 2=1) (hk:k≤(n-1)/2):((m:Int)*k)/n≤(((m-1)/2:Nat):Int):=by
 refine Int.le_of_lt_add_one (Int.ediv_lt_of_lt_mul zm ?_)
 have h1:(m:Int)*(2*k+1)≤m*n:=Int.mul_le_mul_of_nonneg_left zm zm
 have h2:(((m-1)/2:Nat):Int)*2+1=m:=zm
 have h3:((((m-1)/2:Nat):Int)+1)*n*2=m*n+n:=by
  rw [Int.mul_assoc,Int.mul_comm (n:Int) 2,← Int.mul_assoc]
  have:((((m-1)/2:Nat):Int)+1)*2=m+1:=zm
  rw [this,Int.add_mul,Int.one_mul]
 have h4:(m:Int)*(2*k+1)=2*(m*k)+m:=by
  rw [Int.mul_add,Int.mul_one];congr 1;ac_rfl
 omega
theorem lattice {m n:Nat} (hm:m % 2=1) (hn:n % 2=1) (hc:Nat.gcd m n=1) :
  sumL (fun k=>((m:Int)*k)/n) (up1 ((n-1)/2))+sumL (fun j=>((n:Int)*j)/m) (up1 ((m-1)/2))=(((n-1)/2:Nat):Int)*(((m-1)/2:Nat):Int):=by
 have e1:sumL (fun k=>((m:Int)*k)/n) (up1 ((n-1)/2))=sumL (fun k=>sumL (fun j=>if (n:Int)*j≤m*k then 1 else 0) (up1 ((m-1)/2))) (up1 ((n-1)/2)):=by
  refine zKu fun k hk=>?_
  rw [up1_mem] at hk
  rw [zK8 zm (Int.mul_nonneg zm zm)]
  have:=zOb hm hn hk.2
  split <;> omega
 have e2:sumL (fun j=>((n:Int)*j)/m) (up1 ((m-1)/2))=sumL (fun j=>sumL (fun k=>if (m:Int)*k≤n*j then 1 else 0) (up1 ((n-1)/2))) (up1 ((m-1)/2)):=by
  refine zKu fun k hk=>?_
  rw [up1_mem] at hk
  rw [zK8 zm (Int.mul_nonneg zm zm)]
  have:=zOb hn hm hk.2
  split <;> omega
 rw [e1,e2,zSi (fun j k:Nat=>if (m:Int)*k≤n*j then (1:Int) else 0),← zIo]
 have e3:∀ l:List Nat,(∀ k∈l,1≤k∧k≤(n-1)/2)→sumL (fun k=>sumL (fun j=>if (n:Int)*j≤m*k then 1 else 0) (up1 ((m-1)/2))+sumL (fun j=>if (m:Int)*k≤n*j then 1 else 0) (up1 ((m-1)/2))) l=l.length*(((m-1)/2:Nat):Int):=by
  intro l hl
  induction l with
  | nil=>show (0:Int)=0*_;rw [Int.zero_mul]
  | cons k l ih=>
   rw [zDq,ih (fun j hj=>hl j (by simp [hj])),← zIo]
   have hk:=hl k (by simp)
   have e4:∀ l2:List Nat,sumL (fun j=>(if (n:Int)*j≤m*k then 1 else 0)+(if (m:Int)*k≤n*j then 1 else 0)) l2=l2.length:=by
    intro l2
    induction l2 with
    | nil=>rfl
    | cons j l2 ih2=>
     rw [zDq,ih2]
     have hne:(n:Int)*j≠m*k:=by
      intro e
      have h1:n ∣ m*k:=by
       have:(n:Int) ∣ m*k:=⟨j,e.symm⟩
       exact Int.natCast_dvd_natCast.1 (by simpa using this)
      have h2:Nat.Coprime n m:=by rw [Nat.coprime_comm];exact hc
      have h3:=Nat.le_of_dvd zm (h2.dvd_of_dvd_mul_left h1)
      omega
     rw [List.length_cons]
     by_cases h:(n:Int)*j≤m*k
     ·rw [if_pos h,if_neg zm];omega
     ·rw [if_neg h,if_pos zm];omega
   rw [e4]
   have:(up1 ((m-1)/2)).length=(m-1)/2:=by unfold up1;rw [List.length_range']
   rw [this,List.length_cons]
   have:(((l.length+1:Nat):Int))=(l.length:Int)+1:=rfl
   rw [this,Int.add_mul,Int.one_mul,Int.add_comm]
 rw [e3 _ (fun k hk=>up1_mem.1 hk)]
 have:(up1 ((n-1)/2)).length=(n-1)/2:=by unfold up1;rw [List.length_range']
 rw [this]

theorem J_rec {m n:Nat} (hm:m % 2=1) (hn:n % 2=1):J m n=(if m % 4=3∧n % 4=3 then -1 else 1)*J n m:=by
 by_cases hc:Nat.gcd m n=1
 ·have h1:Int.gcd (m:Int) n=1:=hc
  have h2:Int.gcd (n:Int) m=1:=by rw [Int.gcd_comm];exact h1
  rw [J_odd hn zm h1,J_odd hm zm h2]
  have h:=lattice hm hn hc
  have h3:par (sumL (fun k=>((m:Int)*k)/n) (up1 ((n-1)/2))+sumL (fun j=>((n:Int)*j)/m) (up1 ((m-1)/2)))=if m % 4=3∧n % 4=3 then -1 else 1:=by
   rw [h]
   unfold par
   by_cases h4:m % 4=3∧n % 4=3
   ·rw [if_pos h4,if_neg]
    rw [Int.mul_emod]
    have e1:(((n-1)/2:Nat):Int) % 2=1:=zm
    have e2:(((m-1)/2:Nat):Int) % 2=1:=zm
    rw [e1,e2];decide
   ·rw [if_neg h4,if_pos]
    rw [Int.mul_emod]
    have:(((n-1)/2:Nat):Int) % 2=0∨(((m-1)/2:Nat):Int) % 2=0:=zm
    rcases this with e | e <;> rw [e] <;> simp
  rw [zMo] at h3
  rw [← h3,Int.mul_assoc,par_sq,Int.mul_one]
 ·have h1:Int.gcd (m:Int) n≠1:=hc
  have h2:Int.gcd (n:Int) m≠1:=by rw [Int.gcd_comm];exact h1
  rw [zFf h1,zFf h2,Int.mul_zero]

def Pr (p:Nat):Prop:=2≤p∧∀ d,d ∣ p→d=1∨d=p
theorem Pr.cop {p:Nat} (hp:Pr p) {a:Int} (h:a % p≠0):Int.gcd a p=1:=by
 have hd:Int.gcd a p ∣ p:=by
  have:=Int.gcd_dvd_right (a:=a) (b:=(p:Int))
  exact Int.natCast_dvd_natCast.1 this
 rcases hp.2 _ hd with e | e
 ·exact e
 ·exfalso
  apply h
  have:=Int.gcd_dvd_left (a:=a) (b:=(p:Int))
  rw [e] at this
  exact Int.emod_eq_zero_of_dvd this
def two (a:Int):Int:=if a % 2=0 then 0 else if a % 8=3∨a % 8=5 then -1 else 1
def kro (a:Int) (n:Nat):Int:=if n=0 then 0 else if n % 2=0 then two a*kro a (n/2) else J a n
 termination_by n
 decreasing_by omega
def kron (a n:Int):Int:=if n=0 then (if a.natAbs=1 then 1 else 0) else (if a<0∧n<0 then -1 else 1)*kro a n.natAbs
theorem zL3 {a:Int} {n:Nat} (h:n % 2=1):kro a n=J a n:=by
 rw [kro,if_neg zm,if_neg zm]
theorem zPz {a:Int} {n:Nat} (h:n≠0):kro a (2*n)=two a*kro a n:=by
 rw [kro,if_neg zm,if_pos zm,Nat.mul_div_cancel_left n zm]
theorem kro_zero {a:Int}:∀ n:Nat,n≠0→(kro a n=0 ↔ Int.gcd a n≠1):=by
 intro n
 induction n using Nat.strongRecOn with
 | _ n ih=>
  intro hn
  by_cases h:n % 2=1
  ·rw [zL3 h]
   constructor
   ·intro h1 h2
    rcases J_or h2 with e | e <;> rw [e] at h1 <;> simp at h1
   ·exact zFf
  ·have e:n=2*(n/2):=zm
   have h1:=ih (n/2) zm zm
   have h2:kro a n=two a*kro a (n/2):=by
    conv=>lhs;rw [e]
    exact zPz zm
   have h3:Int.gcd a n=1 ↔ Int.gcd a 2=1∧Int.gcd a (n/2:Nat)=1:=by
    have:(n:Int)=2*((n/2:Nat):Int):=zm
    rw [this,Int.gcd_comm,Int.gcd_comm a,Int.gcd_comm a]
    unfold Int.gcd
    rw [Int.natAbs_mul]
    exact Nat.coprime_mul_iff_left
   have h4:Int.gcd a 2=1 ↔ a % 2≠0:=by
    constructor
    ·intro h5 h6
     have h7:(2:Int) ∣ Int.gcd a 2:=Int.dvd_coe_gcd (Int.dvd_of_emod_eq_zero h6) (Int.dvd_refl _)
     rw [h5] at h7
     omega
    ·intro h5
     refine Pr.cop (p:=2) ⟨zm,fun d hd=>?_⟩ h5
     have h6:=Nat.le_of_dvd zm hd
     have h7:d≠0:=fun e=>by subst e;simp at hd
     omega
   have h5:two a=0 ↔ a % 2=0:=by
    unfold two
    by_cases c:a % 2=0
    ·rw [if_pos c];exact ⟨fun _=>c,fun _=>rfl⟩
    ·rw [if_neg c]
     split
     ·exact ⟨fun h=>by simp at h,fun h=>absurd h c⟩
     ·exact ⟨fun h=>by simp at h,fun h=>absurd h c⟩
   rw [h2,Int.mul_eq_zero,h1,h5,ne_eq,ne_eq,h3,h4]
   by_cases c1:a % 2=0 <;> by_cases c2:Int.gcd a (n/2:Nat)=1 <;> simp [c1]


theorem bez_ex:∀ (n:Nat) (a:Int),∃ u v:Int,u*a+v*n=(Int.gcd a n:Int):=by
 intro n
 induction n using Nat.strongRecOn with
 | _ n ih=>
  intro a
  by_cases h0:n=0
  ·subst h0
   refine ⟨if a<0 then -1 else 1,0,?_⟩
   have:(Int.gcd a ((0:Nat):Int):Int)=(a.natAbs:Int):=by simp
   rw [this]
   split <;> omega
  ·have h1:=Int.emod_nonneg a (show (n:Int)≠0 by omega)
   have h2:=Int.emod_lt_of_pos a (show (0:Int)<n by omega)
   obtain ⟨u,v,h⟩:=ih (a % n).toNat zm (n:Int)
   rw [Int.toNat_of_nonneg h1,Int.gcd_comm,zPs] at h
   refine ⟨v,u-v*(a/n),?_⟩
   rw [← h]
   have e:=Int.mul_ediv_add_emod a n
   have e2:v*a=v*(n*(a/n))+v*(a % n):=by rw [← Int.mul_add,e]
   rw [e2,Int.sub_mul]
   have e3:v*(a/n)*n=v*(n*(a/n)):=by ac_rfl
   omega

theorem zJw {a m:Int} (hm:m≠0):(0:Int)<Int.gcd a m:=by
 have:=Int.gcd_pos_iff (a:=a) (b:=m)
 have h:0<Int.gcd a m:=this.2 (.inr hm)
 omega

theorem zK2 (a m:Int) (hm:0<m):∃ u v:Int,0≤u∧u<m/(Int.gcd a m:Int)∧u*a+v*m=(Int.gcd a m:Int):=by
 obtain ⟨u,v,h⟩:=bez_ex m.toNat a
 rw [Int.toNat_of_nonneg zm] at h
 have hg:=zJw (a:=a) (show m≠0 by omega)
 obtain ⟨c,hc⟩:=Int.gcd_dvd_left (a:=a) (b:=m)
 obtain ⟨d,hd⟩:=Int.gcd_dvd_right (a:=a) (b:=m)
 generalize (Int.gcd a m:Int)=g at *
 have e0:m/g=d:=by rw [hd];exact Int.mul_ediv_cancel_left _ zm
 have hd0:0<d:=by
  rcases Int.lt_or_le 0 d with h1 | h1
  ·exact h1
  ·have:=Int.mul_le_mul_of_nonneg_left h1 (show 0≤g by omega)
   omega
 rw [e0]
 refine ⟨u % d,v+u/d*c,Int.emod_nonneg _ zm,Int.emod_lt_of_pos _ hd0,?_⟩
 rw [← h]
 have e:=Int.mul_ediv_add_emod u d
 have e2:u*a=d*(u/d)*a+u % d*a:=by rw [← Int.add_mul,e]
 rw [e2,Int.add_mul]
 have e3:u/d*c*m=d*(u/d)*a:=by rw [hc,hd];ac_rfl
 omega
noncomputable def bezU (a m:Int):Int:=if h:0<m then Classical.choose (zK2 a m h) else 0
noncomputable def bezV (a m:Int):Int:=if h:0<m then Classical.choose (Classical.choose_spec (zK2 a m h)) else 0
theorem zHl {a m:Int} (hm:0<m):0≤bezU a m∧bezU a m<m/(Int.gcd a m:Int)∧bezU a m*a+bezV a m*m=(Int.gcd a m:Int):=by
 unfold bezU bezV
 rw [dif_pos hm,dif_pos hm]
 exact Classical.choose_spec (Classical.choose_spec (zK2 a m hm))
theorem small_dvd {x n:Int} (h:n ∣ x) (h1:-n<x) (h2:x<n):x=0:=by
 obtain ⟨c,hc⟩:=h
 have hn:(0:Int)≤n:=zm
 rcases Int.lt_trichotomy c 0 with h3 | h3 | h3
 ·have:=Int.mul_le_mul_of_nonneg_left (show c≤-1 by omega) hn
  omega
 ·rw [hc,h3,Int.mul_zero]
 ·have:=Int.mul_le_mul_of_nonneg_left (show 1≤c by omega) hn
  omega
theorem zTd {n b x:Int} (h:Int.gcd n b=1) (hd:n ∣ b*x):n ∣ x:=by
 have h1:n.natAbs ∣ b.natAbs*x.natAbs:=by rw [← Int.natAbs_mul];exact Int.natAbs_dvd_natAbs.2 hd
 have h2:Nat.Coprime n.natAbs b.natAbs:=h
 exact Int.natAbs_dvd_natAbs.1 (h2.dvd_of_dvd_mul_left h1)
theorem zN6 {a m:Int} (hm:0<m) {u v:Int} (h0:0≤u) (h1:u<m/(Int.gcd a m:Int)) (h2:u*a+v*m=(Int.gcd a m:Int)):u=bezU a m∧v=bezV a m:=by
 obtain ⟨g0,g1,g2⟩:=zHl (a:=a) hm
 have hg:=zJw (a:=a) (show m≠0 by omega)
 have hco:=Int.gcd_ediv_gcd_ediv_gcd (i:=a) (j:=m) (by
  have:=Int.gcd_pos_iff (a:=a) (b:=m)
  exact this.2 (.inr zm))
 obtain ⟨c,hc⟩:=Int.gcd_dvd_left (a:=a) (b:=m)
 obtain ⟨d,hd⟩:=Int.gcd_dvd_right (a:=a) (b:=m)
 generalize bezU a m=p at *
 generalize bezV a m=q at *
 generalize hG:(Int.gcd a m:Int)=g at *
 have e0:m/g=d:=by rw [hd];exact Int.mul_ediv_cancel_left _ zm
 have e1:a/g=c:=by rw [hc];exact Int.mul_ediv_cancel_left _ zm
 rw [e0,e1] at hco
 rw [e0] at h1 g1
 have h3:(u-p)*a+(v-q)*m=0:=by rw [Int.sub_mul,Int.sub_mul];omega
 have h4:g*(c*(u-p)+d*(v-q))=0:=by
  rw [← h3,Int.mul_add]
  congr 1
  ·conv=>rhs;rw [hc]
   ac_rfl
  ·conv=>rhs;rw [hd]
   ac_rfl
 have h5:c*(u-p)+d*(v-q)=0:=by
  rcases Int.mul_eq_zero.1 h4 with h | h
  ·omega
  ·exact h
 have h6:d ∣ c*(u-p):=⟨-(v-q),by rw [Int.mul_neg];omega⟩
 have h7:=small_dvd (zTd (by rw [Int.gcd_comm];exact hco) h6) zm zm
 rw [h7,Int.mul_zero,Int.zero_add] at h5
 refine ⟨zm,?_⟩
 rcases Int.mul_eq_zero.1 h5 with h | h
 ·rw [h,Int.mul_zero] at hd;omega
 ·omega
theorem bez_lt {a m:Int} (hm:0<m):bezU a m<m:=by
 obtain ⟨g0,g1,_⟩:=zHl (a:=a) hm
 have hg:=zJw (a:=a) (show m≠0 by omega)
 have:=Int.ediv_le_self (a:=m) (Int.gcd a m:Int) zm
 omega
theorem enq_M_Mod:En 113:=zAd Tryz.func113 (by kernel_rfl) rfl
theorem zOf:En 162:=zAd Tryz.func162 (by kernel_rfl) rfl
theorem zD7:En 163:=zAd Tryz.func163 (by kernel_rfl) rfl
theorem zJc:En 164:=zAd Tryz.func164 (by kernel_rfl) rfl
theorem zLc:En 166:=zAd Tryz.func166 (by kernel_rfl) rfl
theorem zTg:En 172:=zAd Tryz.func172 (by kernel_rfl) rfl
theorem zJd:En 165:=zAd Tryz.func165 (by kernel_rfl) rfl
theorem zTh:En 171:=zAd Tryz.func171 (by kernel_rfl) rfl
theorem zTf:En 159:=zAd Tryz.func159 (by kernel_rfl) rfl
theorem zOe:En 150:=zAd Tryz.func150 (by kernel_rfl) rfl
theorem zOd:En 111:=zAd Tryz.func111 (by kernel_rfl) rfl
theorem zHq:En 169:=zAd Tryz.func169 (by kernel_rfl) rfl
theorem zDd:En 117:=zAd Tryz.func117 (by kernel_rfl) rfl
theorem zF2:En 137:=zAd Tryz.func137 (by kernel_rfl) rfl
theorem zOh:En 118:=zAd Tryz.func118 (by kernel_rfl) rfl

theorem zGd {w:World} {v:Value} {b:Nat} {a m:Int} (h:Num w v a) (hb:Bq w b 2 (Fq.num m)) (hm:m≠0) (ha:ab a<pw 300) (hn:ab m<pw 300) :
  Calls Tryz.prog 152 #[v,.pointer (some ⟨b,0,none⟩)] w fun e w'=>∃ v',e=.returned v'∧Below w.heap.size w w'∧Num w' v' (a % m):=by
 have ho:=hb
 have HM:=hidd hm
 clear hb hm
 replace ha:=hidd ha
 replace hn:=hidd hn
 obtain ⟨n0,ao0,k0,c0,rfl⟩:=h.parts
 obtain ⟨w1,b1,hw1,hb1,hs1,E⟩:=zEb w (F:=Fq.num a) (us:=[.bool n0,.slice ao0 k0 c0]) 36 rfl (by simp) (zCk _ _ _ _) h
 obtain ⟨w2,b2,hw2,hb2,hs2,E⟩:=fZ E hs1 36
 go_enter Tryz.func152,Tryz.ntmps152
 go_upto_region 1 with (fail)
 rw [← hw1]
 rw [← hw2]
 rw [← hb2]
 rw [← hb1]
 clear hw1 hw2 hb1 hb2 hs2 hs1
 have B3:Hid (ab ((a/m))<pw 301):=zEj ha.out zm
 have B4:Hid (ab ((a % m))<pw 300):=zCf HM.out hn.out
 refine rg [Fq.num a,Fq.num m,Fq.tup3 (Fq.num (a/m)) (Fq.num (a % m)) (Fq.is (.int .i64 0)),Fq.tup3 (Fq.num (a/m)) (Fq.num (a % m)) (Fq.is (.int .i64 0)),Fq.num (a/m),Fq.num (a % m),Fq.is (.int .i64 0),Fq.any,Fq.any,Fq.any,Fq.any,Fq.is (.int .i64 0)] N2 [⟨7,9,2,Fq.num 0,Fq.num (a/m),none⟩,⟨8,10,2,Fq.num 0,Fq.num (a % m),none⟩] E (fun hp=>⟨?_,?_,?_,?_,?_,?_,?_,?_,?_,?_,?_,?_,tv⟩) ?_
 ·exact zA1 (off:=0) hp fo tv (mq 1 rfl) (.inl rfl) (Nat.le_of_ble_eq_true rfl) (zAp rfl rfl (fun _ _=>rfl)) (fun us w hl h=>zAz hl h)
 ·exact zXb hp fo tv ho rfl (zAp rfl rfl (fun _ _=>rfl)) (fun v w h=>h)
 ·exact wXb (Fq.num a) (Fq.num m) hp zF3 (sqi 0) (sqi 1) fun v v' w h h'=>zGa h h' HM.out B3.out B4.out zm zm
 ·exact zAi hp fo tv (sqi 2)
 ·exact zHb hp fo tv (sqi 3) (fun v1 v2 v3 w h1 h2 h3=>⟨_,rfl,h1⟩)
 ·exact zHb hp fo tv (sqi 3) (fun v1 v2 v3 w h1 h2 h3=>⟨_,rfl,h2⟩)
 ·exact zHb hp fo tv (sqi 3) (fun v1 v2 v3 w h1 h2 h3=>⟨_,rfl,h3⟩)
 ·exact aN hp (mq 0 rfl)
 ·exact aN hp (mq 1 rfl)
 ·exact sN 4 hp (mq 0 rfl)
 ·exact sN 5 hp (mq 1 rfl)
 ·exact zCu hp fo tv (sqi 6)
 intro L vs w5 nb hL hC hn E5
 have e6:=wXi hC 6
 have e11:=wXi hC 11
 have e7:vs 7=.pointer (some ⟨nb 7,0,none⟩):=hn _ (mq 0 rfl)
 have e8:vs 8=.pointer (some ⟨nb 8,0,none⟩):=hn _ (mq 1 rfl)
 have E:=E5;try simp only [LM,zAj] at E
 rw [zAo hL]
 simp only [zP,Nat.zero_add,Nat.reduceAdd]
 rw [e6,e11,e7,e8]
 generalize nb 7=b5_7 at E ⊢
 generalize nb 8=b5_8 at E ⊢
 generalize vs 0=u5_0
 generalize vs 1=u5_1
 generalize vs 2=u5_2
 generalize vs 3=u5_3
 generalize vs 4=u5_4
 generalize vs 5=u5_5
 clear e6 e11 e7 e8 hC hn E5 hL vs L nb
 go_upto_region 2 with (fail)
 refine rg [Fq.num (a % m),Fq.any] [none,none,some (1,Fq.num (a % m)),none] [] E (fun hp=>⟨?_,?_,tv⟩) ?_
 ·exact zA1 (off:=0) hp fo tv (mq 1 rfl) (.inl rfl) (Nat.le_of_ble_eq_true rfl) (zAp rfl rfl (fun _ _=>rfl)) (fun us w hl h=>zAz hl h)
 ·exact zCj hp (mq 2 rfl) rfl rfl (zAp rfl rfl (fun _ _=>rfl)) (zA9 0 rfl rfl (by simp) rfl (fun v w h=>zCa h)) (fun _ _=>trivial) (zBj rfl)
 intro L vs w6 nb hL hC hn E6
 have E:=E6;try simp only [LM,zAj] at E
 rw [zAo hL]
 simp only [zP,Nat.zero_add,Nat.reduceAdd]
 generalize vs 0=u6_0
 clear  hC hn E6 hL vs L nb
 clear HM ho
 obtain ⟨p0,p1,c0,c1,hP⟩:=zCg (E.box 2 rfl)
 clear B3 B4 ha hn
 go_wp2
 refine bodyPost_ret (v:=.agg #[p0,p1]) ?_ rfl ⟨_,rfl,E.below,hP⟩
 simp [results,Tryz.results152,go_sem,c0,c1]

theorem zHw {w:World} {v:Value} {z:Int} (h:Num w v z) {n:Int} {t:Bool} (e:lowV z=.tuple #[.int .i64 n,.bool t]):Calls Tryz.prog 169 #[v] w fun e w'=>∃ v',e=.returned v'∧Below w.heap.size w w'∧(Fq.tup2 (Fq.is (.int .i64 n)) (Fq.is (.bool t))).P v' w':=
 (LowV h).mono fun _ _ ⟨he,hb⟩=>⟨_,he,hb,_,_,e,rfl,rfl⟩
theorem zJ6 {z:Int} (h0:-9223372036854775808≤z) (h1:z≤9223372036854775807):lowV z=.tuple #[.int .i64 z,.bool true]:=by unfold lowV;rw [if_pos ⟨h0,h1⟩]
theorem lowV_out {z:Int} (h:¬ (-9223372036854775808≤z∧z≤9223372036854775807)):lowV z=.tuple #[.int .i64 0,.bool false]:=by unfold lowV;rw [if_neg h]

theorem exIsOneM {w:World} {v:Value} {z:Int} (h:Num w v z) :
  Calls Tryz.prog 162 #[v] w fun e w'=>∃ v',e=.returned v'∧Below w.heap.size w w'∧v'=.bool (decide (z=1)):=by
 obtain ⟨n0,ao0,k0,c0,rfl⟩:=h.parts
 obtain ⟨w1,b1,hw1,hb1,hs1,E⟩:=zEb w (F:=Fq.num z) (us:=[.bool n0,.slice ao0 k0 c0]) 36 rfl (by simp) (zCk _ _ _ _) h
 go_enter Tryz.func162,Tryz.ntmps162
 go_upto_region 1 with (fail)
 rw [← hw1]
 rw [← hb1]
 clear hw1 hb1 hs1
 by_cases hl:-9223372036854775808≤z∧z≤9223372036854775807
 ·by_cases hc:z=1
  ·have HL:=hidd (zJ6 hl.1 hl.2)
   have T:Hid (z=1):=hc
   have T2:Hid (decide (z=1)=true):=decide_eq_true hc
   clear hl hc
   refine rg [Fq.num z,Fq.tup2 (Fq.is (.int .i64 z)) (yT),Fq.tup2 (Fq.is (.int .i64 z)) (yT),Fq.is (.int .i64 z),yT,Fq.is (.int .i64 z),yT] [none] [] E (fun hp=>⟨?_,?_,?_,?_,?_,?_,?_,tv⟩) ?_
   ·exact zA1 (off:=0) hp fo tv (mq 0 rfl) (.inl rfl) (Nat.le_of_ble_eq_true rfl) (zAp rfl rfl (fun _ _=>rfl)) (fun us w hl h=>zAz hl h)
   ·exact wXa (Fq.num z) hp zHq (sqi 0) fun v w h=>zHw h HL.out
   ·exact zAi hp fo tv (sqi 1)
   ·exact zFp hp fo tv (sqi 2) (fun v1 v2 w h1 h2=>⟨_,rfl,h1⟩)
   ·exact zFp hp fo tv (sqi 2) (fun v1 v2 w h1 h2=>⟨_,rfl,h2⟩)
   ·exact zCu hp fo tv (sqi 3)
   ·exact zCu hp fo tv (sqi 4)
   intro L vs w2 nb hL hC hn E2
   have e3:=wXi hC 3
   have e4:=wXi hC 4
   have e5:=wXi hC 5
   have e6:=wXi hC 6
   have E:=E2;try simp only [LM,zAj] at E
   rw [zAo hL]
   simp only [zP,Nat.zero_add,Nat.reduceAdd]
   rw [e3,e4,e5,e6]
   generalize vs 0=u2_0
   generalize vs 1=u2_1
   generalize vs 2=u2_2
   clear e3 e4 e5 e6 hC hn E2 hL vs L nb
   go_upto_region 2 with (fail)
   refine rg [yT,yT,Fq.is (.int .i64 z),yT,yT,yT] [none] [] E (fun hp=>⟨?_,?_,?_,?_,?_,?_,tv⟩) ?_
   ·exact zAi hp fo tv (zAp rfl rfl (fun _ _=>rfl))
   ·exact zAi hp fo tv (sqi 0)
   ·exact zAi hp fo gqi (zAp rfl rfl (fun _ _=>rfl))
   ·exact zAu (F:=fun v _=>v=.int .i64 z) hp fo gqi (sqi 2) (fun ρ w hc h=>⟨.bool true,by simp [execOp,go_sem,h,hc,T.out],rfl⟩)
   ·exact zAs (F:=fun v _=>v=.bool true) (G:=fun v _=>v=.bool true) hp fo tv (sqi 1) (sqi 3) (fun ρ w hc h h'=>⟨_,by simp [execOp,go_sem,h,h'],rfl⟩)
   ·exact zCu hp fo tv (sqi 4)
   intro L vs w3 nb hL hC hn E3
   have e0:=wXi hC 0
   have e1:=wXi hC 1
   have e2:=wXi hC 2
   have e3:=wXi hC 3
   have e4:=wXi hC 4
   have e5:=wXi hC 5
   have E:=E3;try simp only [LM,zAj] at E
   rw [zAo hL]
   simp only [zP,Nat.zero_add,Nat.reduceAdd]
   rw [e0,e1,e2,e3,e4,e5]
   clear e0 e1 e2 e3 e4 e5 hC hn E3 hL vs L nb
   clear T HL
   go_wp2
   refine bodyPost_ret (v:=.bool true) ?_ rfl (by first | exact ⟨_,rfl,E.below,by rw [T2.out]⟩ | exact ⟨_,rfl,E.below⟩ | exact ⟨rfl,E.below⟩)
   simp [results,Tryz.results162,go_sem]
  ·have HL:=hidd (zJ6 hl.1 hl.2)
   have T:Hid (¬ z=1):=hc
   have T2:Hid (decide (z=1)=false):=decide_eq_false hc
   clear hl hc
   refine rg [Fq.num z,Fq.tup2 (Fq.is (.int .i64 z)) (yT),Fq.tup2 (Fq.is (.int .i64 z)) (yT),Fq.is (.int .i64 z),yT,Fq.is (.int .i64 z),yT] [none] [] E (fun hp=>⟨?_,?_,?_,?_,?_,?_,?_,tv⟩) ?_
   ·exact zA1 (off:=0) hp fo tv (mq 0 rfl) (.inl rfl) (Nat.le_of_ble_eq_true rfl) (zAp rfl rfl (fun _ _=>rfl)) (fun us w hl h=>zAz hl h)
   ·exact wXa (Fq.num z) hp zHq (sqi 0) fun v w h=>zHw h HL.out
   ·exact zAi hp fo tv (sqi 1)
   ·exact zFp hp fo tv (sqi 2) (fun v1 v2 w h1 h2=>⟨_,rfl,h1⟩)
   ·exact zFp hp fo tv (sqi 2) (fun v1 v2 w h1 h2=>⟨_,rfl,h2⟩)
   ·exact zCu hp fo tv (sqi 3)
   ·exact zCu hp fo tv (sqi 4)
   intro L vs w4 nb hL hC hn E4
   have e3:=wXi hC 3
   have e4:=wXi hC 4
   have e5:=wXi hC 5
   have e6:=wXi hC 6
   have E:=E4;try simp only [LM,zAj] at E
   rw [zAo hL]
   simp only [zP,Nat.zero_add,Nat.reduceAdd]
   rw [e3,e4,e5,e6]
   generalize vs 0=u4_0
   generalize vs 1=u4_1
   generalize vs 2=u4_2
   clear e3 e4 e5 e6 hC hn E4 hL vs L nb
   go_upto_region 2 with (fail)
   refine rg [yT,yT,Fq.is (.int .i64 z),yF,yF,yF] [none] [] E (fun hp=>⟨?_,?_,?_,?_,?_,?_,tv⟩) ?_
   ·exact zAi hp fo tv (zAp rfl rfl (fun _ _=>rfl))
   ·exact zAi hp fo tv (sqi 0)
   ·exact zAi hp fo gqi (zAp rfl rfl (fun _ _=>rfl))
   ·exact zAu (F:=fun v _=>v=.int .i64 z) hp fo gqi (sqi 2) (fun ρ w hc h=>⟨.bool false,by simp [execOp,go_sem,h,hc,T.out],rfl⟩)
   ·exact zAs (F:=fun v _=>v=.bool true) (G:=fun v _=>v=.bool false) hp fo tv (sqi 1) (sqi 3) (fun ρ w hc h h'=>⟨_,by simp [execOp,go_sem,h,h'],rfl⟩)
   ·exact zCu hp fo tv (sqi 4)
   intro L vs w5 nb hL hC hn E5
   have e0:=wXi hC 0
   have e1:=wXi hC 1
   have e2:=wXi hC 2
   have e3:=wXi hC 3
   have e4:=wXi hC 4
   have e5:=wXi hC 5
   have E:=E5;try simp only [LM,zAj] at E
   rw [zAo hL]
   simp only [zP,Nat.zero_add,Nat.reduceAdd]
   rw [e0,e1,e2,e3,e4,e5]
   clear e0 e1 e2 e3 e4 e5 hC hn E5 hL vs L nb
   clear T HL
   go_wp2
   refine bodyPost_ret (v:=.bool false) ?_ rfl (by first | exact ⟨_,rfl,E.below,by rw [T2.out]⟩ | exact ⟨_,rfl,E.below⟩ | exact ⟨rfl,E.below⟩)
   simp [results,Tryz.results162,go_sem]
 ·have HL:=hidd (lowV_out hl)
  have T2:Hid (decide (z=1)=false):=decide_eq_false zm
  clear hl
  refine rg [Fq.num z,Fq.tup2 (Fq.is (.int .i64 0)) (yF),Fq.tup2 (Fq.is (.int .i64 0)) (yF),Fq.is (.int .i64 0),yF,Fq.is (.int .i64 0),yF] [none] [] E (fun hp=>⟨?_,?_,?_,?_,?_,?_,?_,tv⟩) ?_
  ·exact zA1 (off:=0) hp fo tv (mq 0 rfl) (.inl rfl) (Nat.le_of_ble_eq_true rfl) (zAp rfl rfl (fun _ _=>rfl)) (fun us w hl h=>zAz hl h)
  ·exact wXa (Fq.num z) hp zHq (sqi 0) fun v w h=>zHw h HL.out
  ·exact zAi hp fo tv (sqi 1)
  ·exact zFp hp fo tv (sqi 2) (fun v1 v2 w h1 h2=>⟨_,rfl,h1⟩)
  ·exact zFp hp fo tv (sqi 2) (fun v1 v2 w h1 h2=>⟨_,rfl,h2⟩)
  ·exact zCu hp fo tv (sqi 3)
  ·exact zCu hp fo tv (sqi 4)
  intro L vs w6 nb hL hC hn E6
  have e3:=wXi hC 3
  have e4:=wXi hC 4
  have e5:=wXi hC 5
  have e6:=wXi hC 6
  have E:=E6;try simp only [LM,zAj] at E
  rw [zAo hL]
  simp only [zP,Nat.zero_add,Nat.reduceAdd]
  rw [e3,e4,e5,e6]
  generalize vs 0=u6_0
  generalize vs 1=u6_1
  generalize vs 2=u6_2
  clear e3 e4 e5 e6 hC hn E6 hL vs L nb
  go_upto_region 2 with (fail)
  refine rg [yF,yF,Fq.is (undef),Fq.is (undef),yF,yF] [none] [] E (fun hp=>⟨?_,?_,?_,?_,?_,?_,tv⟩) ?_
  ·exact zAi hp fo tv (zAp rfl rfl (fun _ _=>rfl))
  ·exact zAi hp fo tv (sqi 0)
  ·exact zFr hp fo rfl gqi (fun _=>rfl)
  ·exact zFr hp fo rfl gqi (fun _=>rfl)
  ·exact zAs (F:=fun v _=>v=.bool false) (G:=fun v _=>v=.bool false) hp fo tv (sqi 1) (zAk (fun _=>rfl)) (fun ρ w hc h h'=>⟨_,by simp [execOp,go_sem,h,h'],rfl⟩)
  ·exact zCu hp fo tv (sqi 4)
  intro L vs w7 nb hL hC hn E7
  have e0:=wXi hC 0
  have e1:=wXi hC 1
  have e2:=wXi hC 2
  have e3:=wXi hC 3
  have e4:=wXi hC 4
  have e5:=wXi hC 5
  have E:=E7;try simp only [LM,zAj] at E
  rw [zAo hL]
  simp only [zP,Nat.zero_add,Nat.reduceAdd]
  rw [e0,e1,e2,e3,e4,e5]
  clear e0 e1 e2 e3 e4 e5 hC hn E7 hL vs L nb
  clear HL
  go_wp2
  refine bodyPost_ret (v:=.bool false) ?_ rfl (by first | exact ⟨_,rfl,E.below,by rw [T2.out]⟩ | exact ⟨_,rfl,E.below⟩ | exact ⟨rfl,E.below⟩)
  simp [results,Tryz.results162,go_sem]

theorem zPc {w:World} {v:Value} {z:Int} {t:Bool} (h:Num w v z) (ht:decide (z=1)=t):Calls Tryz.prog 162 #[v] w fun e w'=>∃ v',e=.returned v'∧Below w.heap.size w w'∧v'=.bool t:=by
 have:=exIsOneM h
 rw [ht] at this
 exact this

theorem cmpI_le0 {x:Int}:cmpI x 0≤0 ↔ x≤0:=by
 constructor
 ·intro h
  rcases Int.lt_or_le 0 x with h2 | h2
  ·have:=cmpIqgt.2 h2;omega
  ·exact h2
 ·intro h
  rcases Int.lt_or_le 0 (cmpI x 0) with h2 | h2
  ·have:=cmpIqgt.1 h2;omega
  ·exact h2

theorem exModP {w:World} {v v':Value} {a m:Int} (h:Num w v a) (h':Num w v' m) (ha:ab a<pw 300) (hm:ab m<pw 300) (h0:0<m) :
  Calls Tryz.prog 113 #[v,v'] w fun e w'=>∃ v',e=.returned v'∧Below w.heap.size w w'∧(Fq.tup2 (Fq.num (a % m)) (Fq.is (.int .i64 0))).P v' w':=by
 replace ha:=hidd ha
 replace hm:=hidd hm
 obtain ⟨n0,ao0,k0,c0,rfl⟩:=h.parts
 obtain ⟨n1,ao1,k1,c1,rfl⟩:=h'.parts
 obtain ⟨w1,b1,hw1,hb1,hs1,E⟩:=zEb w (F:=Fq.num a) (us:=[.bool n0,.slice ao0 k0 c0]) 36 rfl (by simp) (zCk _ _ _ _) h
 obtain ⟨w2,b2,hw2,hb2,hs2,E⟩:=fN E hs1 36 h'
 obtain ⟨w3,b3,hw3,hb3,hs3,E⟩:=fZ E hs2 36
 go_enter Tryz.func113,Tryz.ntmps113
 go_upto_region 1 with (fail)
 rw [← hw1]
 rw [← hw2]
 rw [← hw3]
 rw [← hb3]
 rw [← hb2]
 rw [← hb1]
 clear hw1 hw2 hw3 hb1 hb2 hb3 hs3 hs1 hs2
 have T1:Hid (¬ cmpI m 0≤0):=fun e=>by have:=cmpI_le0.1 e;omega
 have HM:Hid (m≠0):=by show _≠_;omega
 clear h0
 refine rg [Fq.num m,Fq.is (.int .i64 (cmpI m 0)),yF] N3 [] E (fun hp=>⟨?_,?_,?_,tv⟩) ?_
 ·exact zA1 (off:=0) hp fo tv (mq 1 rfl) (.inl rfl) (Nat.le_of_ble_eq_true rfl) (zAp rfl rfl (fun _ _=>rfl)) (fun us w hl h=>zAz hl h)
 ·exact wXa (Fq.num m) hp zA3 (sqi 0) fun v w h=>zA5 h
 ·exact zAu (F:=fun v _=>v=.int .i64 (cmpI m 0)) hp fo tv (sqi 1) (fun ρ w hc h=>⟨.bool false,by simp [execOp,go_sem,h,hc,T1.out],rfl⟩)
 intro L vs w4 nb hL hC hn E4
 have e1:=wXi hC 1
 have e2:=wXi hC 2
 have E:=E4;try simp only [LM,zAj] at E
 rw [zAo hL]
 simp only [zP,Nat.zero_add,Nat.reduceAdd]
 rw [e1,e2]
 generalize vs 0=u4_0
 clear e1 e2 hC hn E4 hL vs L nb
 clear T1
 go_upto_region 3 with (fail)
 have B5:Hid (ab ((a % m))<pw 300):=zCf HM.out hm.out
 refine rg [Fq.num m,Fq.any,Fq.num a,Fq.num (a % m),Fq.any,Fq.is (.int .i64 0)] [some (4,Fq.num (a % m)),none,none] [⟨1,1,2,Fq.num m,Fq.num m,(some (.clo 152))⟩] E (fun hp=>⟨?_,?_,?_,?_,?_,?_,tv⟩) ?_
 ·exact zA1 (off:=0) hp fo tv (mq 1 rfl) (.inl rfl) (Nat.le_of_ble_eq_true rfl) (zAp rfl rfl (fun _ _=>rfl)) (fun us w hl h=>zAz hl h)
 ·exact zEv (F:=(Fq.num m).P) hp zF4 (mq 0 rfl) rfl rfl rfl (sqi 0) (fun v w h=>zGe h) (fun _ _=>trivial) (zCh rfl) (zDy rfl)
 ·exact zA1 (off:=0) hp fo tv (mq 2 rfl) (.inl rfl) (Nat.le_of_ble_eq_true rfl) (zAp rfl rfl (fun _ _=>rfl)) (fun us w hl h=>zAz hl h)
 ·exact zIg (F:=(Fq.num a).P) hp fo tv zF5 (mq 0 rfl) rfl (zEg rfl rfl (by simp) rfl) (sqi 2) (fun v b w h hb=>zGd h hb HM.out (zu ha.out) (zu hm.out))
 ·exact zCj hp (mq 0 rfl) rfl rfl (zAp rfl rfl (fun _ _=>rfl)) (zA9 3 rfl rfl (by simp) rfl (fun v w h=>zCa h)) (fun _ _=>trivial) (zBj rfl)
 ·exact zCu hp fo tv (zAk (fun _=>rfl))
 intro L vs w6 nb hL hC hn E6
 have e5:=wXi hC 5
 have e1:vs 1=cloV 152 (nb 1):=hn _ (mq 0 rfl)
 have E:=E6;try simp only [LM,zAj] at E
 rw [zAo hL]
 simp only [zP,Nat.zero_add,Nat.reduceAdd]
 rw [e5,e1]
 generalize nb 1=b6_1 at E ⊢
 generalize vs 0=u6_0
 generalize vs 2=u6_2
 generalize vs 3=u6_3
 clear e5 e1 hC hn E6 hL vs L nb
 clear HM
 obtain ⟨p0,p1,c0,c1,hP⟩:=zCg (E.box 1 rfl)
 clear B5 ha hm
 go_wp2
 refine bodyPost_ret (v:=.tuple #[.agg #[p0,p1],.int .i64 0]) ?_ rfl ⟨_,rfl,E.below,⟨_,_,rfl,hP,rfl⟩⟩
 simp [results,Tryz.results113,go_sem,c0,c1]

theorem bezU_ab {a m:Int} {k:Nat} (hm:0<m) (h:ab m<pw k):ab (bezU a m)<pw k:=by
 have h1:=(zHl (a:=a) hm).1
 have h2:=bez_lt (a:=a) hm
 unfold ab at *
 omega

end Go.Proofs.YtjadciofpgjofaaGreatDoor

namespace Go.Proofs.YtjadciofpgjofaaGreatDoor
open Go Go.RowKit

theorem bits_uniq {v:Int} {m m':Nat} (h:zCw v m) (h':zCw v m'):m=m':=by
 rcases h with ⟨h1,h2⟩ | ⟨h1,h2,h3⟩ <;> rcases h' with ⟨h4,h5⟩ | ⟨h4,h5,h6⟩
 ·omega
 ·have:=zA6 (m'-1);omega
 ·have:=zA6 (m-1);omega
 ·rcases Nat.lt_trichotomy m m' with h | h | h
  ·have:=zCl (show m≤m'-1 by omega);omega
  ·exact h
  ·have:=zCl (show m'≤m-1 by omega);omega

theorem RBitsV {w:World} {v:Value} {z:Int} (h:Num w v z):Calls Tryz.prog 104 #[v] w fun e w'=>∃ m:Nat,e=.returned (.int .i64 m)∧zCw (ab z) m∧m≤28800000∧Below w.heap.size w w':=by
 obtain ⟨neg,ao,n,c,xs,rfl,hs,hn,rfl,hc,_⟩:=h
 refine (zM5 _ _ _ _ _ _ hs hc zm).mono fun e w' hh=>?_
 obtain ⟨m,rfl,hm,hm2,hb⟩:=hh
 exact ⟨m,rfl,by rw [zD5,zBb (zAm hs.digs)];exact hm,zm,hb⟩

end Go.Proofs.YtjadciofpgjofaaGreatDoor

namespace Go.Proofs.YtjadciofpgjofaaGreatDoor
open Go Go.RowKit

theorem one_sl (w:World) (t:TypeId) (ht:t=104):Sl (w.alloc (.cells #[.int .u32 1] t)) (some ⟨w.heap.size,0,none⟩) 1 1 [1]:=by
 subst ht
 have hr:Row (w.alloc (.cells #[.int .u32 1] 104)) 104 w.heap.size [1]:=by
  refine ⟨fun x hx=>?_,?_⟩
  ·simp at hx
   subst hx
   exact ⟨zd,zd⟩
  ·rw [heap_alloc_new];rfl
 exact hr.sl (n:=1) rfl

theorem boxes3z (w:World) {n:Bool} {ao:Option Addr} {k c:Nat} {z:Int} (h:Num w (.agg #[.bool n,.slice ao k c]) z) (t:TypeId) :
  ∃ w0,w0=((w.alloc (.cells #[.bool n,.slice ao k c] t)).alloc (.cells #[.bool false,.slice none 0 0] t)).alloc (.cells #[.bool false,.slice none 0 0] t)∧BoxNum w0 w.heap.size z∧BoxNum w0 (w.heap.size+1) 0∧BoxNum w0 (w.heap.size+1+1) 0∧Below w.heap.size w w0:=by
 obtain ⟨w0,hw0,hA,hB,hC,hbl,HS⟩:=zEl w (.bool n) (.slice ao k c) (.bool false) (.slice none 0 0) t
 exact ⟨w0,hw0,⟨_,_,_,_,hA,h.mono hbl⟩,⟨_,_,_,_,hB,Num.zero _⟩,⟨_,_,_,_,hC,Num.zero _⟩,hbl⟩

theorem newt_two (X S:Int):newt X S 2=(S+X/S)/2:=by
 unfold newt
 simp
 rw [Int.pow_one]

theorem zXw {X:Int} {b:Nat} (hb:zCw X b):X<(2^((b+1)/2)+1)^2:=by
 have hX:X<2^b:=by
  rcases hb with ⟨h1,h2⟩ | ⟨_,_,h1⟩
  ·subst h2;rw [h1];decide
  ·exact h1
 have h2:=zCl (show b≤(b+1)/2+(b+1)/2 by omega)
 rw [Int.pow_add] at h2
 have h3:=zA6 ((b+1)/2)
 rw [Int.pow_succ,Int.pow_succ,Int.pow_zero,Int.one_mul,Int.mul_add,Int.add_mul,Int.mul_one,Int.one_mul]
 omega

theorem zS4 {X:Int} {m K:Nat} (hX:X<pw K) (hm:zCw X m):m≤32*K:=by
 rw [zCb] at hX
 rcases hm with ⟨_,h2⟩ | ⟨_,h2,_⟩
 ·omega
 ·rcases Nat.lt_or_ge (m-1) (32*K) with h | h
  ·omega
  ·have:=zCl h
   omega

theorem two_lt_pw {p K:Nat} (h:p<32*K):(2:Int)^p<pw K:=by
 rw [zCb]
 have h1:=zCl (show p+1≤32*K by omega)
 have h2:=zGm p
 have h3:=zA6 p
 omega

theorem RSqrtV {w:World} {v:Value} {a:Int} (h:Num w v a) (ha:ab a<pw 40):Calls Tryz.prog 147 #[v] w (zKy w a):=by
 obtain ⟨n1,ao,k1,c,rfl⟩:=h.parts
 have Ba:=hidd ha
 clear ha
 obtain ⟨w0,hw0,XA,X2,X3,HB⟩:=boxes3z w h 36
 go_enter Tryz.func147,Tryz.ntmps147
 go_upto_region 1 with (fail)
 rw [← hw0]
 clear hw0 h
 obtain ⟨na,aoa,kka,cca,⟨a0,a1,a2,a3⟩,hNa⟩:=id XA
 obtain ⟨_,_,_,_,_,_,hka,nega,posa⟩:=hNa.sign
 cases na
 rotate_left
 ·have Hn:=hidd (nega rfl)
  clear nega posa hka
  obtain ⟨nc,aoc,kkc,ccc,⟨c0,c1,c2,c3⟩,hNc⟩:=id X2
  obtain ⟨nd,aod,kkd,ccd,⟨d0,d1,d2,d3⟩,hNd⟩:=id X3
  have hbS:=(((HB.setCell (p:=⟨w.heap.size+1,0,none⟩) (by show w.heap.size≤w.heap.size+1;omega) (.bool false)).setCell (p:=⟨w.heap.size+1,1,none⟩) (by show w.heap.size≤w.heap.size+1;omega) (.slice none 0 0)).setCell (p:=⟨w.heap.size+1+1,0,none⟩) (by show w.heap.size≤w.heap.size+1+1;omega) (.bool false)).setCell (p:=⟨w.heap.size+1+1,1,none⟩) (by show w.heap.size≤w.heap.size+1+1;omega) (.slice none 0 0)
  go_wp2
  refine bodyPost_ret (v:=.tuple #[.agg #[.bool false,.slice none 0 0],.agg #[.bool false,.slice none 0 0],.int .i64 1]) ?_ rfl ⟨hbS,.inl ⟨Hn.out,rfl⟩⟩
  simp [results,Tryz.results147,go_sem,c0,c1,d0,d1]
 have Ha0:=hidd (posa rfl)
 clear nega posa
 by_cases hk0:kka=0
 ·have Hz:=hidd (hka.1 hk0)
  subst hk0
  clear hka
  obtain ⟨nc,aoc,kkc,ccc,⟨c0,c1,c2,c3⟩,hNc⟩:=id X2
  obtain ⟨nd,aod,kkd,ccd,⟨d0,d1,d2,d3⟩,hNd⟩:=id X3
  have hbS:=(((HB.setCell (p:=⟨w.heap.size+1,0,none⟩) (by show w.heap.size≤w.heap.size+1;omega) (.bool false)).setCell (p:=⟨w.heap.size+1,1,none⟩) (by show w.heap.size≤w.heap.size+1;omega) (.slice none 0 0)).setCell (p:=⟨w.heap.size+1+1,0,none⟩) (by show w.heap.size≤w.heap.size+1+1;omega) (.bool false)).setCell (p:=⟨w.heap.size+1+1,1,none⟩) (by show w.heap.size≤w.heap.size+1+1;omega) (.slice none 0 0)
  go_wp2
  refine bodyPost_ret (v:=.tuple #[.agg #[.bool false,.slice none 0 0],.agg #[.bool false,.slice none 0 0],.int .i64 0]) ?_ rfl ⟨hbS,.inr ⟨Ha0.out,_,_,0,rfl,(Num.zero _).isInt,by rw [Hz.out];exact (Num.zero _).isInt,by rw [Hz.out];exact ⟨Int.le_refl _,zd,zd⟩⟩⟩
  simp [results,Tryz.results147,go_sem,c0,c1,d0,d1]
 have hk1:((kka:Int) == 0)=false:=by simp;omega
 have Ha1:Hid (1≤a):=by have h1:a≠0:=fun h=>hk0 (hka.2 h);have:=Ha0.out;show 1≤a;omega
 clear hk0 hka
 go_upto_region 5 with (fail)
 clear hk1
 have hone:=one_sl w0 104 rfl
 have hbo:=zAh w0 (.cells #[.int .u32 1] 104)
 have hNa1:=hNa.mono hbo
 have q0:=(hbo.cell (p:=⟨w.heap.size,0,none⟩) (World.block_lt_of_cell? _ _ a0)).trans a0
 have q1:=(hbo.cell (p:=⟨w.heap.size,1,none⟩) (World.block_lt_of_cell? _ _ a1)).trans a1
 go_wp2_with fail
 refine (RBitsV hNa1).mono ?_
 rintro e wB ⟨m,rfl,hm,hmb,hb⟩
 have Hm:=hidd hm
 clear hm
 have hbB:=hbo.trans (hb.mono hbo.size)
 have hone2:=hone.mono hb
 obtain ⟨p,hp⟩:∃ p:Nat,p=(m+1)/2:=⟨_,rfl⟩
 have hpi:((m:Int)+1)/2=(p:Int):=zm
 have hpb:p≤14400001:=zm
 have Hp:=hidd hp
 clear hp hone q0 q1 hNa1 hb hbo
 go_wp2_with fail
 clear hpi
 refine (zP3 _ _ _ _ _ hone2 zm p zm).mono ?_
 rintro e wC ⟨gl,ll,cl,ls,rfl,_,hMl,hcl,hll,hvl,hb⟩
 have Hvl:=hidd hvl
 have Hll:=hidd hll
 clear hvl hll
 have hbC:=hbB.trans (hb.mono hbB.size)
 clear hb hbB hone2
 go_wp2_with fail
 have hpw:Hid (p≤640):=by show p≤640;have h1:=zS4 Ba.out Hm.out;have:=Hp.out;omega
 obtain ⟨S0,hS0⟩:∃ S0:Int,S0=2^p:=⟨_,rfl⟩
 have HS0:=hidd hS0
 have BS0:Hid (ab S0<pw 21):=by show ab S0<pw 21;rw [hS0,zBb (Int.le_of_lt (zA6 p))];exact two_lt_pw (by have:=hpw.out;omega)
 clear hS0
 have hval:Hid (val ls=S0):=by show val ls=S0;rw [Hvl.out,HS0.out];show (1+4294967296*0)*_=_;rw [Int.mul_zero,Int.add_zero,Int.one_mul]
 have hmade:Calls Tryz.prog 47 #[.bool false,.slice (some ⟨gl,0,none⟩) ll cl] wC (zBc wC S0):=by
  have h:=zEe wC false _ ll cl ls (hMl.sl hcl) (by have:=Hll.out;have:=hpw.out;omega)
  have e:sgn false (val ls)=S0:=by rw [hval.out];rfl
  rw [e] at h
  exact h
 refine (exKP (z:=S0) hmade BS0.out zm).mono ?_
 clear hmade
 rintro e wD ⟨nD,aoD,kD,cD,rfl,hb2,hND⟩
 have hb:=hbC.trans (hb2.mono hbC.size)
 clear hb2 hbC hMl hcl
 clear a0 a1 a2 a3 hNa
 replace XA:=XA.mono hb
 replace X2:=X2.mono hb
 replace X3:=X3.mono hb
 replace HB:=HB.trans (hb.mono HB.size)
 clear hb
 go_upto_region 6 with (fail)
 obtain ⟨w1,hw1,hb,p1_0⟩:=zHn hND 36
 rw [← hw1]
 clear hw1
 have hlt1:(w.heap.size+1+1)<wD.heap.size:=X3.lt
 replace XA:=XA.mono hb
 replace X2:=X2.mono hb
 replace X3:=X3.mono hb
 replace HB:=HB.trans (hb.mono HB.size)
 clear hb
 obtain ⟨g5,hg5⟩:∃ g,g=wD.heap.size:=⟨_,rfl⟩
 rw [← hg5]
 rw [← hg5] at hlt1 p1_0
 clear hg5
 have X5:=p1_0
 clear p1_0
 clear hND
 have HI0:Hid (1≤S0∧a<(S0+1)^2):=by
  show _∧_
  rw [HS0.out,Hp.out]
  have h1:=zXw Hm.out
  rw [zBb Ha0.out] at h1
  exact ⟨zA6 _,h1⟩
 clear Hp Hm
 go_loopw [4] (fun _ W=>∃ s:Int,(1≤s∧s≤S0∧a<(s+1)^2)∧BoxNum W w.heap.size a∧BoxNum W (w.heap.size+1) 0∧BoxNum W (w.heap.size+1+1) 0∧BoxNum W g5 s∧Below w.heap.size w W) (fun _ W=>zF0 W g5)
 case atStart=>exact ⟨S0,⟨HI0.out.1,Int.le_refl _,HI0.out.2⟩,XA,X2,X3,X5,HB⟩
 case round=>
  obtain ⟨s,hs,YA,Y2,Y3,Y5,HB⟩:=hrel
  clear XA X2 X3 X5 HI0
  have Hs:=hidd hs
  clear hs
  have XA:=YA
  have X2:=Y2
  have X3:=Y3
  have X5:=Y5
  clear YA Y2 Y3 Y5
  have HBV:=hidd (zFi X5)
  have Bs:Hid (ab s<pw 21):=by show ab s<pw 21;have h1:=Hs.out;have h2:=BS0.out;unfold ab at *;omega
  have B2:Hid (ab (2)<pw 2):=by show ab (2)<pw 2;decide
  go_wp2
  have B3:Hid (ab ((a/s))<pw 41):=zEj Ba.out zm
  have B4:Hid (ab ((s+(a/s)))<pw 42):=zBd Bs.out B3.out zm zm
  have B5:Hid (ab (((s+(a/s))/(2)))<pw 43):=zEj B4.out zm
  have hlast:=X5.lt
  have hp:(plan [Fc.num s,Fc.num a,Fc.num s,Fc.num (a/s),Fc.num (s+(a/s)),Fc.num (2),Fc.num ((s+(a/s))/(2)),Fc.any,Fc.any] [(w.heap.size,1000,a,a),((w.heap.size+1),1001,0,0),((w.heap.size+1+1),1002,0,0),(g5,1003,s,s)] [(7,8,((s+(a/s))/(2)))]).Ok w.heap.size wr.heap.size:=zFc (by simp;omega) (by simp;try omega) (by simp) zm
  have hm:=PMono.of hp
  refine zC1 (p:=(plan [Fc.num s,Fc.num a,Fc.num s,Fc.num (a/s),Fc.num (s+(a/s)),Fc.num (2),Fc.num ((s+(a/s))/(2)),Fc.any,Fc.any] [(w.heap.size,1000,a,a),((w.heap.size+1),1001,0,0),((w.heap.size+1+1),1002,0,0),(g5,1003,s,s)] [(7,8,((s+(a/s))/(2)))])) (B:=w.heap.size) (B0:=wr.heap.size) (w0:=w) (by kernel_rfl) rfl rfl (zFd (by simp;exact ⟨XA,X2,X3,X5⟩) HB) ⟨?_,?_,?_,?_,?_,?_,?_,?_,?_,trivial⟩ ?_
  ·exact zA7 (b:=g5) (k:=1003) (z:=s) (z':=s) hp (by simp [plan]) (.inl rfl) rfl rfl (fun v w h=>h) ⟨by simp [plan],by simp [plan]⟩
  ·exact zA7 (b:=w.heap.size) (k:=1000) (z:=a) (z':=a) hp (by simp [plan]) (.inl rfl) rfl rfl (fun v w h=>h) ⟨by simp [plan],by simp [plan]⟩
  ·exact zA7 (b:=g5) (k:=1003) (z:=s) (z':=s) hp (by simp [plan]) (.inl rfl) rfl rfl (fun v w h=>h) ⟨by simp [plan],by simp [plan]⟩
  ·exact zE8 (F:=(Fc.num a).P) (G:=(Fc.num s).P) hm ⟨by simp [plan],by simp [plan]⟩ trivial zO4 (zCd 1 rfl rfl (by simp) rfl (fun v w h=>h)) (zCd 2 rfl rfl (by simp) rfl (fun v w h=>h)) (fun v v' w h h'=>exK (RDivV h h' (zu Ba.out) (zu Bs.out) (show s≠0 by have:=Hs.out.1;omega)) B3.out zm)
  ·exact zE8 (F:=(Fc.num s).P) (G:=(Fc.num (a/s)).P) hm ⟨by simp [plan],by simp [plan]⟩ trivial zJl (zCd 0 rfl rfl (by simp) rfl (fun v w h=>h)) (zCd 3 rfl rfl (by simp) rfl (fun v w h=>h)) (fun v v' w h h'=>exK (zFg h h') B4.out zm)
  ·exact zLy hm ⟨by simp [plan],by simp [plan]⟩ trivial zLk (fun w=>rOfV w (2) zm zm)
  ·exact zE8 (F:=(Fc.num (s+(a/s))).P) (G:=(Fc.num (2)).P) hm ⟨by simp [plan],by simp [plan]⟩ trivial zO4 (zCd 4 rfl rfl (by simp) rfl (fun v w h=>h)) (zCd 5 rfl rfl (by simp) rfl (fun v w h=>h)) (fun v v' w h h'=>exK (RDivV h h' (zu B4.out) (zu B2.out) zd) B5.out zm)
  ·exact zGo (k:=8) (z:=((s+(a/s))/(2))) hp (by simp [plan]) rfl (fun _ _=>trivial) (by simp [plan]) (by simp [plan])
  ·exact zGp (i0:=7) (j:=6) (z:=((s+(a/s))/(2))) hp rfl (by simp [plan]) rfl (by simp) rfl rfl (by simp) rfl (fun v w h=>h) (fun _ _=>trivial) (by simp [plan]) (by simp [plan])
  intro L vs w6 hL hG
  replace XA:BoxNum w6 w.heap.size a:=by have:=hG.old (w.heap.size,1000,a,a) (by simp [plan]);simpa using this
  replace X2:BoxNum w6 (w.heap.size+1) 0:=by have:=hG.old ((w.heap.size+1),1001,0,0) (by simp [plan]);simpa using this
  replace X3:BoxNum w6 (w.heap.size+1+1) 0:=by have:=hG.old ((w.heap.size+1+1),1002,0,0) (by simp [plan]);simpa using this
  replace X5:BoxNum w6 g5 s:=by have:=hG.old (g5,1003,s,s) (by simp [plan]);simpa using this
  obtain ⟨g6,e7,hgl6,x7⟩:=hG.new (7,8,((s+(a/s))/(2))) (by simp [plan]) (hL 7 (by simp))
  have hlt6:g5<g6:=Nat.lt_of_lt_of_le hlast hgl6
  have X6:BoxNum w6 g6 ((s+(a/s))/(2)):=by have h:=x7;simp only [hL 8 (by simp),if_true] at h;exact h
  replace HB:=hG.below
  rw [zAo hL]
  simp only [zP,Nat.zero_add,Nat.reduceAdd]
  rw [e7]
  generalize vs 0=u6_0
  generalize vs 1=u6_1
  generalize vs 2=u6_2
  generalize vs 3=u6_3
  generalize vs 4=u6_4
  generalize vs 5=u6_5
  generalize vs 6=u6_6
  clear hG hm hp hL hlast vs L e7 x7
  obtain ⟨na,aoa,kka,cca,⟨a0,a1,a2,a3⟩,hNa⟩:=id X6
  obtain ⟨nb,aob,kkb,ccb,⟨b0,b1,b2,b3⟩,hNb⟩:=id X5
  go_wp2_with fail
  refine (RCmpV hNa hNb).mono ?_
  rintro e wE ⟨rfl,hb⟩
  clear a0 a1 a2 a3 hNa b0 b1 b2 b3 hNb
  replace XA:=XA.mono hb
  replace X2:=X2.mono hb
  replace X3:=X3.mono hb
  replace X5:=X5.mono hb
  replace X6:=X6.mono hb
  replace HB:=HB.trans (hb.mono HB.size)
  clear hb
  have Ht:Hid (((s+(a/s))/(2))=newt a s 2):=(newt_two a s).symm
  by_cases hge:s≤((s+(a/s))/(2))
  ·have hc:decide (cmpI ((s+(a/s))/(2)) s ≥ 0)=true:=by simp;unfold cmpI;rw [if_neg zm];split <;> omega
   have HR:Hid (IsRoot a 2 s):=zMi zd Hs.out.1 Hs.out.2.2 (by rw [← Ht.out];exact hge)
   clear hge
   generalize cmpI ((s+(a/s))/(2)) s=cc at *
   go_upto_region 8 with (fail)
   clear hc
   have B7:Hid (ab ((s*s))<pw 42):=zAl Bs.out Bs.out zm
   have B8:Hid (ab ((a-(s*s)))<pw 43):=zCm Ba.out B7.out zm zm
   have hlast:=X6.lt
   have hp:(plan [Fc.num s,Fc.num a,Fc.num s,Fc.num s,Fc.num (s*s),Fc.num (a-(s*s)),Fc.any,Fc.any,Fc.is (.int .i64 (0))] [(w.heap.size,1000,a,a),((w.heap.size+1),6,0,s),((w.heap.size+1+1),7,0,(a-(s*s))),(g5,1003,s,s),(g6,1004,((s+(a/s))/(2)),((s+(a/s))/(2)))] []).Ok w.heap.size wE.heap.size:=zFc (by simp;omega) (by simp;try omega) (by simp) zm
   have hm:=PMono.of hp
   refine zC1 (p:=(plan [Fc.num s,Fc.num a,Fc.num s,Fc.num s,Fc.num (s*s),Fc.num (a-(s*s)),Fc.any,Fc.any,Fc.is (.int .i64 (0))] [(w.heap.size,1000,a,a),((w.heap.size+1),6,0,s),((w.heap.size+1+1),7,0,(a-(s*s))),(g5,1003,s,s),(g6,1004,((s+(a/s))/(2)),((s+(a/s))/(2)))] [])) (B:=w.heap.size) (B0:=wE.heap.size) (w0:=w) (by kernel_rfl) rfl rfl (zFd (by simp;exact ⟨XA,X2,X3,X5,X6⟩) HB) ⟨?_,?_,?_,?_,?_,?_,?_,?_,?_,trivial⟩ ?_
   ·exact zA7 (b:=g5) (k:=1003) (z:=s) (z':=s) hp (by simp [plan]) (.inl rfl) rfl rfl (fun v w h=>h) ⟨by simp [plan],by simp [plan]⟩
   ·exact zA7 (b:=w.heap.size) (k:=1000) (z:=a) (z':=a) hp (by simp [plan]) (.inl rfl) rfl rfl (fun v w h=>h) ⟨by simp [plan],by simp [plan]⟩
   ·exact zA7 (b:=g5) (k:=1003) (z:=s) (z':=s) hp (by simp [plan]) (.inl rfl) rfl rfl (fun v w h=>h) ⟨by simp [plan],by simp [plan]⟩
   ·exact zA7 (b:=g5) (k:=1003) (z:=s) (z':=s) hp (by simp [plan]) (.inl rfl) rfl rfl (fun v w h=>h) ⟨by simp [plan],by simp [plan]⟩
   ·exact zE8 (F:=(Fc.num s).P) (G:=(Fc.num s).P) hm ⟨by simp [plan],by simp [plan]⟩ trivial zT0 (zCd 2 rfl rfl (by simp) rfl (fun v w h=>h)) (zCd 3 rfl rfl (by simp) rfl (fun v w h=>h)) (fun v v' w h h'=>exK (zDc h h') B7.out zm)
   ·exact zE8 (F:=(Fc.num a).P) (G:=(Fc.num (s*s)).P) hm ⟨by simp [plan],by simp [plan]⟩ trivial zO5 (zCd 1 rfl rfl (by simp) rfl (fun v w h=>h)) (zCd 4 rfl rfl (by simp) rfl (fun v w h=>h)) (fun v v' w h h'=>exK (RSubV h h' (K:=42) (zu Ba.out) (zu B7.out) zm) B8.out zm)
   ·exact zB2 (b:=(w.heap.size+1)) (j:=0) (z:=0) (z':=s) hp rfl (by simp [plan]) rfl rfl rfl (by simp) rfl (fun v w h=>h) (fun _ _=>trivial) (by simp [plan]) (by simp [plan])
   ·exact zB2 (b:=(w.heap.size+1+1)) (j:=5) (z:=0) (z':=(a-(s*s))) hp rfl (by simp [plan]) rfl rfl rfl (by simp) rfl (fun v w h=>h) (fun _ _=>trivial) (by simp [plan]) (by simp [plan])
   ·exact zJu hm ⟨by simp [plan],by simp [plan]⟩ trivial (zKq (fun _=>rfl))
   intro L vs w9 hL hG
   replace XA:BoxNum w9 w.heap.size a:=by have:=hG.old (w.heap.size,1000,a,a) (by simp [plan]);simpa using this
   replace X2:BoxNum w9 (w.heap.size+1) s:=by have:=hG.old ((w.heap.size+1),6,0,s) (by simp [plan]);simpa [hL 6 (by simp)] using this
   replace X3:BoxNum w9 (w.heap.size+1+1) (a-(s*s)):=by have:=hG.old ((w.heap.size+1+1),7,0,(a-(s*s))) (by simp [plan]);simpa [hL 7 (by simp)] using this
   replace X5:BoxNum w9 g5 s:=by have:=hG.old (g5,1003,s,s) (by simp [plan]);simpa using this
   replace X6:BoxNum w9 g6 ((s+(a/s))/(2)):=by have:=hG.old (g6,1004,((s+(a/s))/(2)),((s+(a/s))/(2))) (by simp [plan]);simpa using this
   have e8:vs 8=.int .i64 (0):=hG.val 8 (hL 8 (by simp))
   replace HB:=hG.below
   rw [zAo hL]
   simp only [zP,Nat.zero_add,Nat.reduceAdd]
   rw [e8]
   generalize vs 0=u9_0
   generalize vs 1=u9_1
   generalize vs 2=u9_2
   generalize vs 3=u9_3
   generalize vs 4=u9_4
   generalize vs 5=u9_5
   clear hG hm hp hL hlast vs L e8
   obtain ⟨nc,aoc,kkc,ccc,⟨c0,c1,c2,c3⟩,hNc⟩:=id X2
   obtain ⟨nd,aod,kkd,ccd,⟨d0,d1,d2,d3⟩,hNd⟩:=id X3
   go_wp2
   refine bodyPost_ret (v:=.tuple #[.agg #[.bool nc,.slice aoc kkc ccc],.agg #[.bool nd,.slice aod kkd ccd],.int .i64 0]) ?_ rfl ⟨HB,.inr ⟨Ha0.out,_,_,s,rfl,hNc.isInt,hNd.isInt,HR.out⟩⟩
   simp [results,Tryz.results147,go_sem,c0,c1,d0,d1]
  ·have hc:decide (cmpI ((s+(a/s))/(2)) s ≥ 0)=false:=by simp;unfold cmpI;rw [if_pos zm];omega
   have HLT:=hidd (Int.not_le.1 hge)
   clear hge
   generalize cmpI ((s+(a/s))/(2)) s=cc at *
   obtain ⟨ne,aoe,kke,cce,⟨e0,e1,e2,e3⟩,hNe⟩:=id X6
   obtain ⟨nc,aoc,kkc,ccc,⟨c0,c1,c2,c3⟩,hNc⟩:=id X5
   go_wp2
   obtain ⟨w11,hw11⟩:∃ w1,w1=putBox wE g5 ne aoe kke cce:=⟨_,rfl⟩
   rw [show (wE.setCell ⟨g5,0,none⟩ (.bool ne)).setCell ⟨g5,1,none⟩ (.slice aoe kke cce)=w11 from hw11.symm]
   have YA:BoxNum w11 w.heap.size a:=by rw [hw11];exact XA.putOther X5 zm _ _ _ _
   have Y2:BoxNum w11 (w.heap.size+1) 0:=by rw [hw11];exact X2.putOther X5 zm _ _ _ _
   have Y3:BoxNum w11 (w.heap.size+1+1) 0:=by rw [hw11];exact X3.putOther X5 zm _ _ _ _
   have Y6:BoxNum w11 g6 ((s+(a/s))/(2)):=by rw [hw11];exact X6.putOther X5 zm _ _ _ _
   replace HB:Below w.heap.size w w11:=by rw [hw11];exact zI1 HB zm _ _ _ _
   have Y5:BoxNum w11 g5 ((s+(a/s))/(2)):=by rw [hw11];exact X5.putSame hNe
   replace XA:=YA
   replace X2:=Y2
   replace X3:=Y3
   replace X5:=Y5
   replace X6:=Y6
   clear YA Y2 Y3 Y5 Y6
   clear hw11
   clear e0 e1 e2 e3 hNe c0 c1 c2 c3 hNc
   have h1:1≤newt a s 2:=zKa zd Hs.out.1 zm (by rw [Int.one_pow];exact Ha1.out)
   have h2:a<(newt a s 2+1)^2:=by rcases zMj (X:=a) (S:=s) (K:=2) zd Hs.out.1 with h | h;exact h;omega
   rw [← Ht.out] at h1 h2
   go_roundw
   case rel=>exact ⟨_,⟨h1,by have:=HLT.out;have:=Hs.out.2.1;omega,h2⟩,XA,X2,X3,X5,HB⟩
   case measure=>rw [zFi X5,HBV.out];have:=HLT.out;have:=Hs.out.1;omega

end Go.Proofs.YtjadciofpgjofaaGreatDoor

namespace Go.Proofs.YtjadciofpgjofaaGreatDoor
open Go Go.RowKit

theorem zBh {w:World} {v v':Value} {z z':Int} (h:Num w v z) (h':Num w v' z'):Calls Tryz.prog 125 #[v,v'] w fun e w'=>∃ v',e=.returned v'∧Below w.heap.size w w'∧v'=.int .i64 (cmpI z z'):=
 (RCmpV h h').mono fun _ _ hh=>⟨_,hh.1,hh.2,rfl⟩

def Fc.sz (V:Int):Fc:=⟨fun v w=>∃ (ao:Option Addr) (l c:Nat) (zs:List Int),v=.slice ao l c∧Sl w ao l c zs∧l≤3000000∧val zs=V,
 fun ⟨ao,l,c,zs,e,h,h1,h2⟩ hb=>⟨ao,l,c,zs,e,h.mono hb,h1,h2⟩,fun ⟨ao,l,c,zs,e,h,h1,h2⟩ hb n' a' k' c'=>by
 obtain ⟨p,q,r,t,hI,_⟩:=hb
 exact ⟨ao,l,c,zs,e,h.putBox hI n' a' k' c',h1,h2⟩⟩

theorem zS3 {xs:List Int} (hd:Digs xs) {k r:Nat} (hk:k<xs.length) (hr:r<32):(val xs/2^(32*k+r)) % 2=(xs.getD k 0/2^r) % 2:=by
 have h1:=zC3 xs (k:=k) zm
 have h2:=zDj xs hk
 have h3:=zBa (hd.take k)
 have h4:=zAm (hd.take k)
 rw [List.length_take,Nat.min_eq_left zm] at h3
 rw [Int.pow_add,← zCb,← Int.ediv_ediv_of_nonneg (by have:=zA0 k;omega)]
 have e1:val xs/pw k=xs.getD k 0+4294967296*val (xs.drop (k+1)):=by
  rw [h1,Int.add_mul_ediv_left _ _ (by have:=zA0 k;omega),Int.ediv_eq_zero_of_lt h4 h3,Int.zero_add,h2]
 rw [e1]
 have e2:(4294967296:Int)=2^r*2^(32-r):=by rw [← Int.pow_add,show r+(32-r)=32 by omega];rfl
 obtain ⟨m,hm⟩:∃ m,32-r=m+1:=⟨31-r,zm⟩
 rw [e2,hm,Int.mul_assoc,Int.add_mul_ediv_left _ _ (by have:=zA6 r;omega),zGm,Int.mul_assoc,Int.mul_left_comm,Int.add_mul_emod_self_left]

theorem and_one (x:Int) (h0:0≤x) (h1:x<4294967296):bits .and .u32 x 1=x % 2:=by
 obtain ⟨n,rfl⟩:=Int.eq_ofNat_of_zero_le h0
 have hn:n<4294967296:=zm
 have h2:(BitVec.ofInt 32 ((n:Nat):Int)).toNat=n:=by rw [BitVec.ofInt_natCast,BitVec.toNat_ofNat];exact Nat.mod_eq_of_lt zm
 show IntKind.u32.wrap (((BitVec.ofInt 32 (n:Int)) &&& (BitVec.ofInt 32 1)).toNat:Int)=_
 rw [BitVec.toNat_and,h2]
 have h3:(BitVec.ofInt 32 1).toNat=1:=rfl
 rw [h3,Nat.and_one_is_mod]
 simp only [IntKind.wrap,IntKind.bits,IntKind.signed]
 simp
 omega

def zA8 (z:Int):Nat:=if z=0 then 0 else z.natAbs.log2+1
theorem zH6 (z:Int):zCw (ab z) (zA8 z):=by
 unfold zA8 zCw ab
 by_cases h:z=0
 ·rw [if_pos h,h];exact .inl ⟨rfl,rfl⟩
 ·rw [if_neg h]
  right
  have h0:z.natAbs≠0:=zm
  have h1:=Nat.log2_self_le h0
  have h2:=Nat.lt_log2_self (n:=z.natAbs)
  refine ⟨zm,?_,?_⟩
  ·rw [show z.natAbs.log2+1-1=z.natAbs.log2 by omega]
   exact_mod_cast h1
  ·exact_mod_cast h2
theorem zMf {z:Int} {k:Nat} (h:ab z<pw k):zA8 z≤32*k:=by
 rcases zH6 z with ⟨_,h2⟩ | ⟨h1,h2,_⟩
 ·omega
 ·rw [zCb] at h
  by_cases hc:zA8 z≤32*k
  ·exact hc
  ·exfalso
   have h3:(2:Int)^(32*k)≤2^(zA8 z-1):=zCl zm
   omega
theorem zF9 {w:World} {v:Value} {z:Int} (h:Num w v z):Calls Tryz.prog 137 #[v] w fun e w'=>∃ v',e=.returned v'∧Below w.heap.size w w'∧v'=.int .i64 ((zA8 z:Nat):Int):=by
 obtain ⟨neg,ao,n,c,xs,rfl,hs,hn,rfl,hc,_⟩:=h
 refine (Bits_any _ _ _ _ _ _ hs zm).mono fun e w' hh=>?_
 obtain ⟨m,rfl,hm,_,hb⟩:=hh
 refine ⟨_,rfl,hb,?_⟩
 have h2:=zH6 (sgn neg (val xs))
 rw [zD5,zBb (zAm hs.digs)] at h2
 rw [bits_uniq hm h2]
theorem measP {i:Nat}:(intOf (.int .i64 ((i:Int)-1))+1).toNat<(intOf (.int .i64 (i:Int))+1).toNat:=by simp [intOf]
end Go.Proofs.YtjadciofpgjofaaGreatDoor
